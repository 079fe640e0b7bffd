import PyProof.Rows.All
import Wide.All
import OpenK.AllK
import Wide.FinOn
import Lean
import PyProof.EqAt
import PyProof.EqKinds
import PyProof.TupleCall
import PyProof.AttrMissHeap
import KE.KEqDict
import KE.KItemsList
import PyProof.WalksMore
import PyProof.TupleOfStr
import PySem.Challenge.RW_mergetree_k47_sorts_and_their_costs
set_option maxHeartbeats 4000000
set_option maxRecDepth 100000
set_option Elab.async false
set_option linter.all false
local macro_rules|`(tactic|ac_rfl)=>`(tactic|decide +kernel)
abbrev Qa:=@List.length_map
abbrev Qb:=@List.getElem?_eq_getElem
abbrev Qc:=@List.getElem?_eq_some_iff
abbrev Qd:=@PySem.Heap.get?_push_of_some
abbrev Qe:=@List.mem_singleton
abbrev Qf:=@List.map_append
abbrev Qg:=@List.length_append
abbrev Qh:=@List.mem_append
abbrev Qi:=@Nat.le_refl
abbrev Qj:=@List.length_singleton
abbrev Qk:=@List.getElem?_map
abbrev Ql:=@List.map_cons
abbrev Qm:=@List.getD_eq_getElem?_getD
abbrev Qn:=@List.mem_map_of_mem
abbrev Qo:=@List.mem_append_right
abbrev Qp:=@List.mem_append_left
abbrev Qq:=@Option.some.inj
abbrev Qr:=@List.mem_of_getElem?
abbrev Qs:=@List.size_toArray
abbrev Qt:=@List.mem_of_mem_erase
abbrev Qu:=@PySem.Heap.lt_size
abbrev Qv:=@Nat.zero_le
abbrev Qw:=@PySem.boot_len
abbrev Qx:=@List.mem_map
abbrev Qy:=@List.mem_cons_of_mem
abbrev Qz:=@Bool.false_ne_true
abbrev QA:=@PySem.Heap.get?_push_size
abbrev QB:=@List.take_of_length_le
abbrev QC:=@List.length_take
abbrev QD:=@PySem.F.plainAttrs_list
abbrev QE:=@List.map_map
abbrev QF:=@Nat.ne_of_lt
abbrev QG:=@List.getElem?_eq_none
abbrev QH:=@PySem.F.slot_list_append
abbrev QI:=@PySem.F.type_list_append
abbrev QJ:=@Nat.lt_of_lt_of_le
abbrev QK:=@List.length_cons
abbrev QL:=@PySem.W.mg_none_of
abbrev QM:=@List.take_add_one
abbrev QN:=@List.map_congr_left
abbrev QO:=@List.mem_cons
abbrev QP:=@Nat.le_trans
abbrev QR:=@List.append_nil
abbrev QS:=@List.getElem?_append_right
abbrev QT:=@List.eq_nil_of_length_eq_zero
abbrev QU:=@List.getElem?_append_left
abbrev QV:=@List.sum_cons
abbrev QW:=@List.length_drop
abbrev QX:=@List.getElem_mem
abbrev QY:=@List.nodup_append
abbrev QZ:=@List.mem_cons_self
abbrev Q0:=@List.length_pos_of_mem
abbrev Q1:=@List.mem_range
abbrev Q3:=@List.nodup_cons
abbrev Q4:=@List.length_erase_of_mem
abbrev Q5:=@PySem.W.kia_one
abbrev Q6:=@PySem.W.kia_tup
abbrev Q7:=@PySem.Heap.get?_update_of_ne
abbrev Q8:=@List.pairwise_iff_getElem
abbrev Q9:=@List.filterMap_cons
abbrev Qaa:=@Array.length_toList
abbrev Qab:=@Nat.ne_of_gt
abbrev Qac:=@List.mem_of_mem_take
abbrev Qad:=@PyProof.Rows.callWith_type1
abbrev Qae:=@Nat.lt_irrefl
abbrev Qaf:=@Int.toNat_natCast
abbrev Qag:=@PySem.Heap.size_push
abbrev Qah:=@List.pairwise_singleton
abbrev Qai:=@List.append_assoc
abbrev Qaj:=@List.ext_getElem?
abbrev Qak:=@List.sum_append
abbrev Qal:=@PySem.mem_of_lookup
abbrev Qam:=@Nat.add_lt_add_left
abbrev Qan:=@List.getElem?_range
abbrev Qao:=@List.length_pos_iff
abbrev Qap:=@List.map_nil
abbrev Qaq:=@Nat.le_add_right
abbrev Qar:=@Nat.min_le_right
abbrev Qas:=@List.zip_cons_cons
abbrev Qat:=@List.getElem?_toArray
abbrev Qau:=@List.getLastD_eq_getLast?
abbrev Qav:=@List.range_succ
abbrev Qaw:=@List.find?_cons
abbrev Qax:=@List.length_range
abbrev Qay:=@List.mem_of_mem_drop
abbrev Qaz:=@List.eraseIdxIfInBounds_toArray
abbrev QaA:=@Nat.lt_add_of_pos_right
abbrev QaB:=@List.Perm.refl
abbrev QaC:=@Nat.le_succ
abbrev QaD:=@Nat.le_of_lt
abbrev QaE:=@Nat.lt_of_le_of_lt
abbrev QaF:=@List.find?_cons_of_neg
abbrev QaG:=@Nat.add_sub_cancel
abbrev QaH:=@List.length_eq_one_iff
abbrev QaI:=@List.length_replicate
abbrev QaJ:=@List.mem_iff_getElem?
abbrev QaK:=@List.reverse_cons
abbrev QaL:=@List.Pairwise.map
abbrev QaM:=@List.mem_erase_of_ne
abbrev QaN:=@List.pairwise_append
abbrev QaO:=@List.getElem?_of_mem
abbrev QaP:=@Bool.and_eq_true
abbrev QaQ:=@List.lookup_cons
abbrev QaR:=@List.getElem?_eq_none_iff
abbrev QaS:=@List.any_cons
abbrev QaT:=@List.map_take
abbrev QaU:=@List.getLast?_eq_getLast
abbrev QaV:=@Bool.eq_iff_iff
abbrev QaW:=@Int.emod_lt_of_pos
abbrev QaX:=@Int.le_refl
abbrev QaY:=@PySem.W.kitx_list
abbrev QaZ:=@PySem.W.kitx_dict
abbrev Qa0:=@Option.map_eq_some_iff
abbrev Qa1:=@Int.add_zero
abbrev Qa2:=@List.flatMap_cons
abbrev Qa4:=@List.all_eq_true
abbrev Qa5:=@List.mem_reverse
namespace L2
open PySem PySem.Spec PyProof.Rows
abbrev Key:=Sum Int Str
def ZfC:Key→Value→Bool
 | .inl k,v=>Value.isInt k v
 | .inr x,v=>Value.isStrOf x v
def ZsM(w:World):Key→Int
 | .inl k=>hashInt k
 | .inr x=>hashStr w x
theorem Zas:∀ {k:Key} {v:Value},ZfC k v=true→(∃i t,k=Sum.inl i∧v=Value.int i t)∨(∃x t,k=Sum.inr x∧v=Value.str x t)
 | .inl i,v,h=>by
  obtain⟨t,e⟩:=Value.isInt_shape (k:=i) (v:=v) h
  exact .inl ⟨i,t,rfl,e⟩
 | .inr x,v,h=>by
  obtain⟨t,e⟩:=Value.isStrOf_shape (x:=x) (v:=v) h
  exact .inr ⟨x,t,rfl,e⟩
theorem Zlc(i:Int)(t:Tok):ZfC (.inl i) (.int i t)=true:=by simp[ZfC,Value.isInt]
theorem ZkW(x:Str)(t:Tok):ZfC (.inr x) (.str x t)=true:=by simp[ZfC,Value.isStrOf]
theorem Zq4(a b:Int):decide ((Sum.inl a:Key)=Sum.inl b)=(a == b):=by
 by_cases e:a=b
 ·subst e;simp
 ·have h:¬ (Sum.inl a:Key)=Sum.inl b:=fun q=>e (Sum.inl.inj q)
  rw[decide_eq_false h]
  exact(beq_eq_false_iff_ne.mpr e).symm
theorem Zqo(a b:Str):decide ((Sum.inr a:Key)=Sum.inr b)=decide (a=b):=by
 by_cases e:a=b
 ·subst e;simp
 ·have h:¬ (Sum.inr a:Key)=Sum.inr b:=fun q=>e (Sum.inr.inj q)
  rw[decide_eq_false h,decide_eq_false e]
theorem Zp9(a:Int)(b:Str):decide ((Sum.inl a:Key)=Sum.inr b)=false:=decide_eq_false (fun q=>nomatch q)
theorem Zq7(a:Str)(b:Int):decide ((Sum.inr a:Key)=Sum.inl b)=false:=decide_eq_false (fun q=>nomatch q)
def ZL(prog:Program)(w:World):PySem.KeyKind prog w Key where
 is:=ZfC
 hash:=ZsM w
 inj:=fun v a b ha hb=>by
  rcases Zas ha with⟨i,t,rfl,rfl⟩|⟨x,t,rfl,rfl⟩
  ·rcases Zas hb with⟨j,u,rfl,e⟩|⟨y,u,rfl,e⟩
   ·injection e with e1 _;rw[e1]
   ·exact nomatch e
  ·rcases Zas hb with⟨j,u,rfl,e⟩|⟨y,u,rfl,e⟩
   ·exact nomatch e
   ·injection e with e1 _;rw[e1]
 byValue:=fun k v h=>by
  rcases Zas h with⟨i,t,rfl,rfl⟩|⟨x,t,rfl,rfl⟩<;>rfl
 pyHash:=fun hv h=>by
  rcases Zas hv with⟨i,t,rfl,rfl⟩|⟨x,t,rfl,rfl⟩
  ·exact wpAny_pyHash_int h
  ·exact wpAny_pyHash_str h
 eqBool:=fun hu hv h=>by
  rcases Zas hu with⟨i,t,rfl,rfl⟩|⟨x,t,rfl,rfl⟩
  ·rcases Zas hv with⟨j,u,rfl,rfl⟩|⟨y,u,rfl,rfl⟩
   ·rw[Zq4]at h;exact wpAny_eqBool_int h
   ·rw[Zp9]at h;exact SeqAt.EqAt.int_str i t y u _ _ _ _ h
  ·rcases Zas hv with⟨j,u,rfl,rfl⟩|⟨y,u,rfl,rfl⟩
   ·rw[Zq7]at h;exact SeqAt.EqAt.str_int x t j u _ _ _ _ h
   ·rw[Zqo]at h;exact wpAny_eqBool_str h
 «strs»:=fun k x t v h=>by
  rcases Zas h with⟨i,u,rfl,e⟩|⟨y,u,rfl,e⟩
  ·exact nomatch e
  ·injection e with e1 _
   subst e1
   cases v<;>rfl
theorem Zjo(prog:Program)(w:World)(k:Key)(v:Value):(ZL prog w).is k v=ZfC k v:=rfl
theorem Zfg(prog:Program)(w:World)(i:Int)(t:Tok):(ZL prog w).is (.inl i) (.int i t)=true:=Zlc i t
theorem Zff(prog:Program)(w:World)(x:Str)(t:Tok):(ZL prog w).is (.inr x) (.str x t)=true:=ZkW x t
inductive V where
 | non|bl (b:Bool)|int (i:Int)|str (x:Str)|byt (b:Array UInt8)|flt (b:UInt64)|ref (a:Addr)|ty (n:String)
 deriving DecidableEq
def ZE:V→Value→Prop
 | .non,u=>u=Value.none
 | .bl b,u=>u=Value.bool b
 | .int i,u=>∃t,u=Value.int i t
 | .str x,u=>∃t,u=Value.str x t
 | .byt b,u=>∃t,u=Value.bytes b t
 | .flt b,u=>∃t,u=Value.float b t
 | .ref a,u=>u=Value.ref a
 | .ty n,u=>u=Value.type n
abbrev Zy:List V→List Value→Prop:=Paired ZE
theorem Zy.length{xs:List V}{us:List Value}(r:Zy xs us):xs.length=us.length:=Paired.length r
theorem Zy.get:∀ {xs:List V} {us:List Value} {i:Nat} {x:V},Zy xs us→xs[i]? = some x→∃u,us[i]? = some u∧ZE x u
 | _,_,_,_,.nil,e=>by simp at e
 | _,_,0,_,.cons r _,e=>by simp at e;subst e;exact⟨_,rfl,r⟩
 | _,_,i+1,x,.cons _ t,e=>by
  obtain⟨u,h1,h2⟩:=Zy.get (i:=i) (x:=x) t (by simpa using e)
  exact⟨u,by simpa using h1,h2⟩
theorem Zy.set{x:V}{u:Value}(r:ZE x u):∀ {xs:List V} {us:List Value} (i:Nat),Zy xs us→Zy (xs.set i x) (us.set i u)
 | _,_,_,.nil=>.nil
 | _,_,0,.cons _ t=>.cons r t
 | _,_,i+1,.cons q t=>.cons q (Zy.set r i t)
theorem Zy.append:∀ {xs ys:List V} {us ws:List Value},Zy xs us→Zy ys ws→Zy (xs++ys) (us++ws)
 | _,_,_,_,.nil,s=>s
 | _,_,_,_,.cons r t,s=>.cons r (Zy.append t s)
theorem Zy.take:∀ {xs:List V} {us:List Value} (n:Nat),Zy xs us→Zy (xs.take n) (us.take n)
 | _,_,0,_=>.nil
 | _,_,_+1,.nil=>.nil
 | _,_,n+1,.cons r t=>.cons r (Zy.take n t)
theorem Zy.drop:∀ {xs:List V} {us:List Value} (n:Nat),Zy xs us→Zy (xs.drop n) (us.drop n)
 | _,_,0,r=>r
 | _,_,_+1,.nil=>.nil
 | _,_,n+1,.cons _ t=>Zy.drop n t
def Zdm:Option V→Option Value→Prop
 | some v,some u=>ZE v u
 | none,none=>True
 | _,_=>False
def KV{κ:Type}:List (κ×V)→List (κ×Value)→Prop:=Paired fun (p:κ×V) (q:κ×Value)=>p.1=q.1∧ZE p.2 q.2
def kV:Key→V
 | .inl i=>.int i
 | .inr x=>.str x
inductive HO where
  | lst (xs:List V)
  | tup (xs:List V)
  | dK (kvs:List (Key×V))|dT (kvs:List (List Key×V))
  | set (S:Int→Bool) (n:Nat)
  | ins (C dx:Addr) (fs:List (Str×V))
  | own (x:Addr)
  | xd (fs:List (Str×V))
  | met (f x:Addr)
  | rng (lo hi:Int)
  | frz (o:Obj) (u:HO)
  | tbl (ps:Array Value)
  | ext (φ:Heap→Prop)
abbrev Hp:=Addr→Option HO
def upd(H:Hp)(a:Addr)(o:HO):Hp:=fun b=>if b=a then some o else H b
theorem Zb{H:Hp}{a:Addr}{o:HO}:upd H a o a=some o:=by unfold upd;rw[if_pos rfl]
theorem Ze{H:Hp}{a b:Addr}{o:HO}(h:b≠a):upd H a o b=H b:=by unfold upd;rw[if_neg h]
theorem ZgW{H:Hp}{a b:Addr}{o u:HO}(h:H a=some o)(h':H b=some u)(d:o≠u):a≠b:=by
 intro e;subst e;rw[h]at h';exact d (Qq h')
theorem Zc{H:Hp}{a b:Addr}{o:HO}(h:H a=some o)(h':H b=none):a≠b:=by
 intro e;subst e;rw[h]at h';cases h'
section
variable (P:Program) (w:World)
def Zad(H:Hp)(h:Heap)(a:Addr):HO→Prop
 | .lst xs=>xs.length≤sizeLine∧∃ (its:List Value) (n:Nat),Zy xs its∧h.get? a=some { cls:=.type "list",data:=.seq its.toArray n }
 | .tup xs=>xs.length≤sizeLine∧∃its:List Value,Zy xs its∧IsTup h a its.toArray
 | .dK kvs=>kvs.length≤sizeLine∧(a == sysModules)=false∧∃vs,KV kvs vs∧h.DictOf (ZL P w) a vs
 | .dT kvs=>kvs.length≤sizeLine∧(a == sysModules)=false∧∃xs:List (List Key×Addr×Value),
   Paired (fun (p:List Key×V) (q:List Key×Addr×Value)=>p.1=q.1∧H q.2.1=some (.tup (p.1.map kV))∧ZE p.2 q.2.2) kvs xs ∧
   ∃o es ep,h.get? a=some o∧o.ExactDict∧o.data=.dict es ep∧es.toList=xs.map (entryOfKey (tupleKind (ZL P w)))∧(xs.map (·.1)).Nodup
 | .set S n=>h.SetOf (intKind P w) a S n
 | .ins C dx fs=>H dx=some (.own a)∧fs.length≤1000∧dx≠a∧h.get? a=some (PySem.W.instObj C dx) ∧
   ∃mA,h.Ns1 dx mA∧(∀f,Zdm (fs.lookup f) (mA f))∧PySem.Within mA (fs.map (·.1))
 | .own _=>∃o,h.get? a=some o
 | .xd fs=>∃mA,h.Ns1 a mA∧∀f,Zdm (fs.lookup f) (mA f)
 | .rng lo hi=>∃t u v,h.get? a=some { cls:=.type "range",data:=.fields #[.int lo t,.int hi u,.int 1 v] }
 | .frz o u=>h.get? a=some o∧Zad H h a u
 | .tbl ps=>h.get? a=some { cls:=.none,data:=.fields ps }
 | .met f x=>h.get? a=some (PySem.W.methodObj (.ref f) (.ref x))
 | .ext φ=>φ h∧(∃o,h.get? a=some o)∧∀h1 h2:Heap,φ h1→(∀o,h1.get? a=some o→h2.get? a=some o)→φ h2
def HOk(H:Hp)(h:Heap):Prop:=∀a o,H a=some o→Zad P w H h a o
end
section
variable {P:Program} {w:World} {H H':Hp} {h h':Heap} {a:Addr} {o:HO}
theorem Zad.lt(x:Zad P w H h a o):a<h.objs.size:=by
 cases o with
 | lst xs=>obtain⟨_,_,_,_,e⟩:=x;exact Qu e
 | tup xs=>obtain⟨_,_,_,p⟩:=x;exact p.lt
 | dK kvs=>obtain⟨_,_,_,_,o,_,_,e,_⟩:=x;exact Qu e
 | dT kvs=>obtain⟨_,_,_,_,o,_,_,e,_⟩:=x;exact Qu e
 | set S n=>obtain⟨o,_,_,_,e,_⟩:=x;exact Qu e
 | ins C dx fs=>obtain⟨_,_,_,e,_⟩:=x;exact Qu e
 | own y=>obtain⟨_,e⟩:=x;exact Qu e
 | xd fs=>obtain⟨_,⟨_,_,_,e,_⟩,_⟩:=x;exact Qu e
 | rng lo hi=>obtain⟨_,_,_,e⟩:=x;exact Qu e
 | frz ob u=>obtain⟨e,_⟩:=x;exact Qu e
 | tbl ps=>exact Qu (show h.get? a=some _ from x)
 | met f y=>exact Qu (show h.get? a=some _ from x)
 | ext φ=>obtain⟨_,⟨_,e⟩,_⟩:=x;exact Qu e
theorem Paired.mapP{α β:Type}{F G:α→β→Prop}:∀ {l₁:List α} {l₂:List β},Paired F l₁ l₂→(∀a b,F a b→G a b)→Paired G l₁ l₂
 | _,_,.nil,_=>.nil
 | _,_,.cons r t,f=>.cons (f _ _ r) (Paired.mapP t f)
theorem Zad.stay(x:Zad P w H h a o)(k:∀b u,(b=a∨H b=some (.own a))→h.get? b=some u→h'.get? b=some u)
  (ho:∀b,H b=some (.own a)→H' b=some (.own a)) (ht:∀b xs,H b=some (.tup xs)→H' b=some (.tup xs)):Zad P w H' h' a o:=by
 induction o with
 | lst xs=>obtain⟨z,its,n,r,e⟩:=x;exact⟨z,its,n,r,k _ _ (.inl rfl) e⟩
 | tup xs=>obtain⟨z,its,r,ob,e,c⟩:=x;exact⟨z,its,r,ob,k _ _ (.inl rfl) e,c⟩
 | dK kvs=>obtain⟨z,y,vs,r,ob,es,ep,e,c⟩:=x;exact⟨z,y,vs,r,ob,es,ep,k _ _ (.inl rfl) e,c⟩
 | dT kvs =>
  obtain⟨z,y,xs,r,ob,es,ep,e,c⟩:=x
  exact⟨z,y,xs,Paired.mapP r fun p q z=>⟨z.1,ht _ _ z.2.1,z.2.2⟩,ob,es,ep,k _ _ (.inl rfl) e,c⟩
 | set S n=>obtain⟨ob,es,ep,t,e,c⟩:=x;exact⟨ob,es,ep,t,k _ _ (.inl rfl) e,c⟩
 | ins C dx fs =>
  obtain⟨d,z,ne,e,mA,⟨od,es,ep,e2,c⟩,r⟩:=x
  exact⟨ho _ d,z,ne,k _ _ (.inl rfl) e,mA,⟨od,es,ep,k _ _ (.inr d) e2,c⟩,r⟩
 | own y=>obtain⟨ob,e⟩:=x;exact⟨ob,k _ _ (.inl rfl) e⟩
 | xd fs=>obtain⟨mA,⟨od,es,ep,e,c⟩,r⟩:=x;exact⟨mA,⟨od,es,ep,k _ _ (.inl rfl) e,c⟩,r⟩
 | rng lo hi=>obtain⟨t,u,v,e⟩:=x;exact⟨t,u,v,k _ _ (.inl rfl) e⟩
 | frz ob u ih=>obtain⟨e,q⟩:=x;exact⟨k _ _ (.inl rfl) e,ih q⟩
 | tbl ps =>
  have e:h.get? a=some { cls:=.none,data:=.fields ps }:=x
  show h'.get? a=some { cls:=.none,data:=.fields ps }
  exact k a _ (.inl rfl) e
 | met f y =>
  have e:h.get? a=some (PySem.W.methodObj (.ref f) (.ref y)):=x
  show h'.get? a=some (PySem.W.methodObj (.ref f) (.ref y))
  exact k a _ (.inl rfl) e
 | ext φ=>obtain⟨p,⟨o,e⟩,st⟩:=x;exact⟨st _ _ p fun o q=>k _ _ (.inl rfl) q,⟨o,k _ _ (.inl rfl) e⟩,st⟩
theorem HOk.lt(x:HOk P w H h)(e:H a=some o):a<h.objs.size:=(x a o e).lt
theorem HOk.fresh(x:HOk P w H h)(e:h.objs.size≤a):H a=none:=by
 cases q:H a with
 | none=>rfl
 | some u=>exact absurd (QJ (x.lt q) e) (Qae _)
theorem HOk.kept(x:HOk P w H h)(k:∀b u,h.get? b=some u→h'.get? b=some u):HOk P w H h':=fun a o e =>
 (x a o e).stay (fun b u _ q=>k b u q) (fun _ q=>q) fun _ _ q=>q
theorem HOk.laid(x:HOk P w H h)(k:∀b u,h.get? b=some u→h'.get? b=some u)(hp:h.objs.size≤a)(new:Zad P w (upd H a o) h' a o):HOk P w (upd H a o) h':=fun b u e=>by
 have hn:=x.fresh hp
 by_cases hb:b=a
 ·subst hb;rw[Zb]at e;cases e;exact new
 ·rw[Ze hb]at e
  exact(x b u e).stay (fun c v _ q=>k c v q) (fun c q=>by rw[Ze (Zc q hn)];exact q) fun c xs q=>by rw[Ze (Zc q hn)];exact q
end
def Rd(H:Hp)(a:Addr)(u:HO):Prop:=H a=some u∨∃o,H a=some (.frz o u)
theorem Rd.ok{P:Program}{w:World}{H:Hp}{h:Heap}{a:Addr}{u:HO}(r:Rd H a u)(x:HOk P w H h):Zad P w H h a u:=by
 rcases r with r|⟨o,r⟩
 ·exact x a u r
 ·obtain⟨_,q⟩:=x a _ r
  exact q
def Mut:Option HO→Prop
 | some (.lst _)=>True
 | some (.dK _)=>True
 | some (.dT _)=>True
 | some (.set _ _)=>True
 | some (.ins _ _ _)=>True
 | some (.ext _)=>True
 | _=>False
section
variable {P:Program} {w:World} {H:Hp} {h h':Heap} {x e:Addr} {o':HO}
theorem HOk.write(ok:HOk P w H h)(mu:Mut (H x))(he:e=x∨H e=some (.own x))(k:∀b u,b≠e→h.get? b=some u→h'.get? b=some u)(heo:∃u,h'.get? e=some u)
  (new:Zad P w (upd H x o') h' x o'):HOk P w (upd H x o') h':=fun b u q=>by
 have nown:∀c y,H c=some (.own y)→c≠x:=fun c y r z=>by subst z;rw[r]at mu;exact mu
 have ntup:∀c xs,H c=some (.tup xs)→c≠x:=fun c xs r z=>by subst z;rw[r]at mu;exact mu
 by_cases hb:b=x
 ·subst hb;rw[Zb]at q;cases q;exact new
 ·rw[Ze hb]at q
  by_cases hbe:b=e
  ·have q':H b=some (.own x):=by
    rcases he with z|z
    ·exact absurd (hbe.trans z) hb
    ·rw[hbe];exact z
   rw[q]at q';cases q'
   obtain⟨v,hv⟩:=heo
   exact⟨v,by rw[hbe];exact hv⟩
  ·refine(ok b u q).stay (fun c v hc r=>k c v ?_ r) (fun c r=>by rw[Ze (nown c b r)];exact r) fun c xs r=>by rw[Ze (ntup c xs r)];exact r
   rcases hc with rfl|hc
   ·exact hbe
   ·rintro rfl
    rcases he with z|z
    ·exact nown c b hc z
    ·rw[hc]at z;cases z;exact hb rfl
end
structure Un (fs ex:List Addr) (H H':Hp) (h h':Heap):Prop where
 keep:∀b o,h.get? b=some o→H b=none→b ∉ fs→b ∉ ex→h'.get? b=some o
 slot:∀b o,h.get? b=some o→H b=none→b∈fs→b ∉ ex→∃sl,h'.get? b=some { o with slots:=sl }
 free:∀b o,h.get? b=some o→H b=none→b ∉ ex→H' b=none
 there:∀b o,h.get? b=some o→b ∉ ex→∃o',h'.get? b=some o'
 tups:∀b xs,H b=some (.tup xs)→H' b=some (.tup xs)
 frzs:∀b o u,H b=some (.frz o u)→H' b=some (.frz o u)
 tbls:∀b ps,H b=some (.tbl ps)→∃more,H' b=some (.tbl (ps++more))
section
variable {fs fs' ex ex':List Addr} {H H1 H2:Hp} {h h1 h2 h':Heap} {a x e:Addr} {o:HO}
theorem Un.any(u:Un fs ex H H1 h h1){b:Addr}{ob:Obj}(q:h.get? b=some ob)(n:H b=none)(hx:b ∉ ex):∃sl,h1.get? b=some { ob with slots:=sl }:=by
 by_cases hb:b∈fs
 ·exact u.slot b ob q n hb hx
 ·exact⟨ob.slots,u.keep b ob q n hb hx⟩
theorem Un.kept(k:∀b u,h.get? b=some u→h'.get? b=some u):Un fs ex H H h h' :=
 ⟨fun b ob q _ _ _=>k b ob q,fun b ob q _ _ _=>⟨ob.slots,k b ob q⟩,fun _ _ _ n _=>n,fun b ob q _=>⟨ob,k b ob q⟩,fun _ _ q=>q,fun _ _ _ q=>q,fun _ ps q=>⟨#[],by rw[q];simp⟩⟩
theorem Un.refl:Un fs ex H H h h:=Un.kept fun _ _ q=>q
theorem Un.laid(k:∀b u,h.get? b=some u→h'.get? b=some u)(hp:h.objs.size≤a)(hn:H a=none):Un fs ex H (upd H a o) h h' where
 keep:=fun b u q _ _ _=>k b u q
 slot:=fun b u q _ _ _=>⟨u.slots,k b u q⟩
 free:=fun b u q n _=>by rw[Ze (QF (QJ (Qu q) hp))];exact n
 there:=fun b u q _=>⟨u,k b u q⟩
 tups:=fun b xs q=>by rw[Ze (Zc q hn)];exact q
 frzs:=fun b u xs q=>by rw[Ze (Zc q hn)];exact q
 tbls:=fun b ps q=>⟨#[],by rw[Ze (Zc q hn),q];simp⟩
theorem Un.write(mu:Mut (H x))(he:e=x∨H e=some (.own x))(k:∀b u,b≠e→h.get? b=some u→h'.get? b=some u)(heo:∃u,h'.get? e=some u):Un fs ex H (upd H x o) h h':=by
 have hx:∀b,H b=none→b≠x:=fun b n z=>by subst z;rw[n]at mu;exact mu
 have hb:∀b,H b=none→b≠e:=fun b n z=>by
  subst z
  rcases he with r|r
  ·exact hx b n r
  ·rw[n]at r;cases r
 have hm:∀b u,H b=some u→¬ Mut (some u)→b≠x:=fun b u q nm z=>by subst z;rw[q]at mu;exact nm mu
 refine⟨fun b u q n _ _=>k b u (hb b n) q,fun b u q n _ _=>⟨u.slots,k b u (hb b n) q⟩,fun b u q n _=>by rw[Ze (hx b n)];exact n,fun b u q _=>?_,
  fun b xs q=>by rw[Ze (hm b _ q fun z=>z)];exact q,fun b u xs q=>by rw[Ze (hm b _ q fun z=>z)];exact q,fun b ps q=>⟨#[],by rw[Ze (hm b _ q fun z=>z),q];simp⟩⟩
 by_cases hbe:b=e
 ·subst hbe;exact heo
 ·exact⟨u,k b u hbe q⟩
end
def trk(h:Heap)(H:Hp):List Addr:=(List.range h.objs.size).filter fun a=>(H a).isSome
def ZhQ(h:Heap)(H:Hp):Heap:=PySem.W.hideAll h (trk h H)
theorem Zk6(h:Heap)(H:Hp):(ZhQ h H).objs.size=h.objs.size:=PySem.W.hideAll_size _ _
theorem ZmG{h:Heap}{H:Hp}{b:Addr}{o:Obj}(e:h.get? b=some o)(n:H b=none):(ZhQ h H).get? b=some o :=
 PySem.W.hideAll_get _ e fun hm=>by
  have q:(H b).isSome=true:=(List.mem_filter.mp hm).2
  rw[n]at q;simp at q
theorem Zoy{h:Heap}{H:Hp}{b:Addr}{o:Obj}(e:(ZhQ h H).get? b=some o):h.get? b=some o∧H b=none:=by
 have e':h.get? b=some o:=PySem.W.of_hideAll (trk h H) e
 refine⟨e',?_⟩
 cases q:H b with
 | none=>rfl
 | some x =>
  have hm:b∈trk h H:=List.mem_filter.mpr ⟨Q1.mpr (Qu e'),by simp[q]⟩
  have z:(ZhQ h H).get? b=none:=PySem.W.hideAll_none (trk h H) hm
  rw[z]at e;cases e
def Zph(g h:Heap)(L:Addr):List (Addr×Obj):=(List.range h.objs.size).filterMap fun a=>if a=L∨(g.get? a).isSome=true then none else (h.get? a).map fun o=>(a,o)
def rest(g h:Heap)(L d:Addr):List (Addr×Obj):=(Zph g h L).filter fun p=>decide (p.1≠d)
structure Mod (K:PySem.W.Frag) (mg:Str→Option Value) (base:Heap):Prop where
 kin:K.In base
 glob:base.Ns mainGlobals mg
 blt:∃mb,base.Ns builtinsNs mb∧∀x:Str,x ≠ "__name__"→mb x=bootBuiltins x
 nolimit:base.NoLimit
structure Cx where
 prog:Program
 w:World
 K:PySem.W.Frag
 mg:Str→Option Value
 base:Heap
 A:Around
 N:List Str
 s₀:Shared
 H₀:Hp
 env:Env
 outer:List Env
 stack:List Env
 ex:List Addr
 fn:Str→Bool
 calm:Bool
 pn:List (Addr×Obj)
 xe:Value→Shared→Prop
def frs(l:List Env):List Addr:=l.filterMap (·.frame)
abbrev Cx.fs(X:Cx):List Addr:=frs X.outer
def Vis(sc:Scope)(x:Str):Prop:=sc.names.lookup x=some .local∨sc.names.lookup x=some .cell∨sc.names.lookup x=some .free
def Loc(sc:Scope)(x:Str):Prop:=sc.names.lookup x=some .local∨sc.names.lookup x=some .cell
def ZsL(env:Env)(h:Heap)(m:Str→Option Value)(x:Str)(u:Value):Prop :=
 (env.kindOf x=some .local∧m x=some u)∨((env.kindOf x=some .cell∨env.kindOf x=some .free)∧∃c,env.cells.lookup x=some c∧h.IsCell c (some u))
structure Cx.Ok (X:Cx):Prop where
 mod:Mod X.K X.mg X.base
 kind:X.env.scope.kind=.function
 glob:X.env.globals=mainGlobals
 blt:X.env.builtins=builtinsNs
 above:X.s₀.heap.objs.size≤X.env.locals
 inj:∀x y c,X.env.cells.lookup x=some c→X.env.cells.lookup y=some c→x=y
 has:∀x,(X.env.kindOf x=some .cell∨X.env.kindOf x=some .free)→∃c,X.env.cells.lookup x=some c
 cab:∀x c,X.fn x=true→X.env.cells.lookup x=some c→X.s₀.heap.objs.size≤c
 hd:X.calm=true→X.A.handled=none
 frames:X.A.frames=some X.stack
 stk:X.stack=X.outer∨(X.stack=X.env::X.outer∧X.env.frame=some X.env.locals)
 exf:∀b∈X.ex,b≠X.env.locals∧∀x c,X.env.cells.lookup x=some c→c≠b
 bs:∀b o,X.base.get? b=some o→X.s₀.heap.get? b=some o∧X.H₀ b=none
 bsz:X.base.objs.size≤X.s₀.heap.objs.size
 noex:∀b o,X.base.get? b=some o→b ∉ X.ex
 exfs:∀b∈X.ex,b ∉ X.fs
 funs:X.s₀.heap.FunFrames X.base X.outer
 frf:∀b∈X.fs,X.H₀ b=none
structure Inv (X:Cx) (pins:List (Addr×Obj)) (σ:List (Option V)) (H:Hp) (s:Shared):Prop where
 ok:X.Ok
 os:s.os=X.s₀.os
 bare:AllBare s.gens
 base:Un X.fs X.ex X.H₀ H X.s₀.heap s.heap
 loc:∃m,s.heap.Ns X.env.locals m∧∀ (i:Nat) (x:Str) (v:V),X.N[i]? = some x→σ[i]? = some (some v)→Vis X.env.scope x→∃u,ZE v u∧ZsL X.env s.heap m x u
 cell:∀x c,X.env.cells.lookup x=some c→∃v,s.heap.IsCell c v
 free:H X.env.locals=none
 freeC:∀x c,X.env.cells.lookup x=some c→H c=none
 pin:∀p∈X.pn++pins,s.heap.get? p.1=some p.2∧H p.1=none∧p.1≠X.env.locals∧p.1 ∉ X.fs∧∀v,p.2.data≠.cell v
 hok:HOk X.prog X.w H s.heap
 len:σ.length=X.N.length
section
variable {X:Cx} {pins:List (Addr×Obj)} {σ:List (Option V)} {H H':Hp} {s:Shared} {h':Heap}
theorem Cx.Ok.nofr(ok:X.Ok){b:Addr}{o:Obj}(e:X.base.get? b=some o):b ∉ X.fs:=fun hb=>by
 have:=(ok.funs.mem hb).1
 rw[e]at this;cases this
theorem Inv.bs(I:Inv X pins σ H s):∀b o,X.base.get? b=some o→s.heap.get? b=some o∧H b=none:=fun b o e =>
 ⟨I.base.keep b o (I.ok.bs b o e).1 (I.ok.bs b o e).2 (I.ok.nofr e) (I.ok.noex b o e),I.base.free b o (I.ok.bs b o e).1 (I.ok.bs b o e).2 (I.ok.noex b o e)⟩
theorem Inv.bk(I:Inv X pins σ H s):∀b o,X.base.get? b=some o→s.heap.get? b=some o:=fun b o e=>(I.bs b o e).1
theorem Inv.mod(I:Inv X pins σ H s):Mod X.K X.mg X.base:=I.ok.mod
theorem Inv.kIn(I:Inv X pins σ H s):X.K.In s.heap:=I.ok.mod.kin.keeps I.bk
theorem Inv.lt(I:Inv X pins σ H s):X.env.locals<s.heap.objs.size:=let ⟨_,hn,_⟩:=I.loc;hn.lt
theorem Inv.sz(I:Inv X pins σ H s):X.s₀.heap.objs.size≤s.heap.objs.size:=QP I.ok.above (QaD I.lt)
theorem Inv.nofs(I:Inv X pins σ H s){a:Addr}(h:s.heap.objs.size≤a):a ∉ X.fs:=fun hb=>by
 obtain⟨_,o,ho,_⟩:=I.ok.funs.mem hb
 exact absurd (QJ (Qu ho) (QP I.sz h)) (Qae _)
theorem Inv.cne(I:Inv X pins σ H s):∀x c,X.env.cells.lookup x=some c→c≠X.env.locals:=fun x c e z=>by
 obtain⟨v,o,ho,hd⟩:=I.cell x c e
 obtain⟨m,⟨o',es,ep,ho',hd',_⟩,_⟩:=I.loc
 rw[z,ho']at ho;cases ho;rw[hd']at hd;cases hd
theorem Inv.funs(I:Inv X pins σ H s):s.heap.FunFrames X.base X.outer:=by
 have all:∀ (l:List Env),(∀b∈frs l,b∈X.fs)→X.s₀.heap.FunFrames X.base l→s.heap.FunFrames X.base l:=by
  intro l
  induction l with
  | nil=>intro _ _;trivial
  | cons env r ih =>
   intro hs hl
   obtain⟨hk,⟨L,o,hf,hn,ho,hd⟩,hr⟩:=hl
   have hL:L∈X.fs:=hs L (by unfold frs;rw[Q9,hf];exact QZ)
   obtain⟨sl,e⟩:=I.base.slot L o ho (I.ok.frf L hL) hL fun z=>I.ok.exfs L z hL
   exact⟨hk,⟨L,_,hf,hn,e,hd⟩,ih (fun b hb=>hs b (by unfold frs;rw[Q9,hf];exact Qy _ hb)) hr⟩
 exact all X.outer (fun _ hb=>hb) I.ok.funs
theorem Inv.stack(I:Inv X pins σ H s):s.heap.FunFrames X.base X.stack:=by
 rcases I.ok.stk with e|⟨e,hf⟩
 ·rw[e];exact I.funs
 ·rw[e]
  obtain⟨m,hn,_⟩:=I.loc
  refine .cons (by rw[I.ok.kind];decide) hf hn ?_ I.funs
  exact Heap.get?_none_of_le (QP I.ok.bsz I.ok.above)
theorem Inv.stkSub(I:Inv X pins σ H s):∀b∈frs X.stack,b∈X.env.locals::X.fs:=fun b hb=>by
 rcases I.ok.stk with e|⟨e,hf⟩
 ·rw[e]at hb;exact Qy _ hb
 ·rw[e]at hb
  unfold frs at hb
  rw[Q9,hf]at hb
  exact hb
theorem Inv.stkFree(I:Inv X pins σ H s):∀b∈frs X.stack,H b=none:=fun b hb=>by
 rcases QO.mp (I.stkSub b hb) with e|hb
 ·rw[e];exact I.free
 ·obtain⟨_,o,ho,_⟩:=I.ok.funs.mem hb
  exact I.base.free b o ho (I.ok.frf b hb) fun z=>I.ok.exfs b z hb
theorem Inv.step{g':Array GenState}{t':Nat}{d':Drawn}{ch:List Addr}(I:Inv X pins σ H s)
  (hch:∀b∈ch,(b∈X.ex∨X.s₀.heap.objs.size≤b)∧b≠X.env.locals∧(∀x c,X.env.cells.lookup x=some c→c≠b)∧∀p∈X.pn++pins,p.1≠b)
  (keep:∀b o,b≠X.env.locals→b ∉ X.fs→b ∉ ch→s.heap.get? b=some o→H b=none→h'.get? b=some o)
  (slot:∀b o,b≠X.env.locals→b∈X.fs→b ∉ ch→s.heap.get? b=some o→H b=none→∃sl,h'.get? b=some { o with slots:=sl }) (free:∀b o,b ∉ ch→s.heap.get? b=some o→H b=none→H' b=none)
  (there:∀b o,b ∉ ch→s.heap.get? b=some o→∃o',h'.get? b=some o')
  (tups:∀b xs,H b=some (.tup xs)→H' b=some (.tup xs)) (frzs:∀b o u,H b=some (.frz o u)→H' b=some (.frz o u)) (tbls:∀b ps,H b=some (.tbl ps)→∃more,H' b=some (.tbl (ps++more)))
  (ns:∀m,s.heap.Ns X.env.locals m→h'.Ns X.env.locals m) (hok:HOk X.prog X.w H' h') (hg:AllBare g') :
  Inv X pins σ H' { s with heap:=h',gens:=g',drawn:=d',toks:=t' }:=by
 have neL:∀b o,X.s₀.heap.get? b=some o→b≠X.env.locals:=fun b o e=>QF (QJ (Qu e) I.ok.above)
 have neC:∀b o,X.s₀.heap.get? b=some o→b ∉ X.ex→b ∉ ch:=fun b o e hx hb=>by
  rcases(hch b hb).1 with z|z
  ·exact hx z
  ·exact absurd (QJ (Qu e) z) (Qae _)
 have cellK:∀x c,X.env.cells.lookup x=some c→∀v,s.heap.IsCell c v→h'.IsCell c v:=fun x c e v ⟨o,ho,hd⟩=>by
  have nch:c ∉ ch:=fun z=>(hch c z).2.2.1 x c e rfl
  by_cases hc:c∈X.fs
  ·obtain⟨sl,q⟩:=slot c o (I.cne x c e) hc nch ho (I.freeC x c e)
   exact⟨_,q,hd⟩
  ·exact⟨o,keep c o (I.cne x c e) hc nch ho (I.freeC x c e),hd⟩
 refine⟨I.ok,I.os,hg,⟨fun b o e n hb hx=>?_,fun b o e n hb hx=>?_,fun b o e n hx=>?_,fun b o e hx=>?_,fun b xs e=>tups b xs (I.base.tups b xs e),fun b o xs e=>frzs b o xs (I.base.frzs b o xs e),fun b ps e=>?_⟩,?_,fun x c e=>?_,?_,fun x c e=>?_,fun p hp=>?_,hok,I.len⟩
 ·exact keep b o (neL b o e) hb (neC b o e hx) (I.base.keep b o e n hb hx) (I.base.free b o e n hx)
 ·obtain⟨sl,e1⟩:=I.base.slot b o e n hb hx
  obtain⟨sl',e2⟩:=slot b _ (neL b o e) hb (neC b o e hx) e1 (I.base.free b o e n hx)
  exact⟨sl',e2⟩
 ·obtain⟨o',e1⟩:=I.base.there b o e hx
  exact free b o' (neC b o e hx) e1 (I.base.free b o e n hx)
 ·obtain⟨o',e1⟩:=I.base.there b o e hx
  exact there b o' (neC b o e hx) e1
 ·obtain⟨m1,e1⟩:=I.base.tbls b ps e
  obtain⟨m2,e2⟩:=tbls b _ e1
  exact⟨m1++m2,by rw[e2,Array.append_assoc]⟩
 ·obtain⟨m,hn,hl⟩:=I.loc
  refine⟨m,ns m hn,fun i x v e1 e2 e3=>?_⟩
  obtain⟨u,r,l⟩:=hl i x v e1 e2 e3
  refine⟨u,r,?_⟩
  rcases l with l|⟨k,c,e,z⟩
  ·exact .inl l
  ·exact .inr ⟨k,c,e,cellK x c e _ z⟩
 ·obtain⟨v,z⟩:=I.cell x c e
  exact⟨v,cellK x c e v z⟩
 ·obtain⟨m,⟨o,_,_,ho,_⟩,_⟩:=I.loc
  exact free _ o (fun z=>(hch _ z).2.1 rfl) ho I.free
 ·obtain⟨v,o,ho,hd⟩:=I.cell x c e
  exact free c o (fun z=>(hch c z).2.2.1 x c e rfl) ho (I.freeC x c e)
 ·obtain⟨e,n,ne,nf,d⟩:=I.pin p hp
  have nch:p.1 ∉ ch:=fun z=>(hch p.1 z).2.2.2 p hp rfl
  exact⟨keep p.1 p.2 ne nf nch e n,free p.1 p.2 nch e n,ne,nf,d⟩
theorem Inv.un{t':Nat}(I:Inv X pins σ H s)(u:Un X.fs [] H H' s.heap h')(hok:HOk X.prog X.w H' h'):Inv X pins σ H' { s with heap:=h',toks:=t' }:=by
 obtain⟨m,⟨o,es,ep,ho,r⟩,_⟩:=id I.loc
 obtain⟨sl,hL⟩:=u.any ho I.free (by simp)
 exact I.step (g':=s.gens) (d':=s.drawn) (ch:=[]) (fun _ z=>nomatch z) (fun b o _ hb _ e n=>u.keep b o e n hb (by simp)) (fun b o _ hb _ e n=>u.slot b o e n hb (by simp)) (fun b o _ e n=>u.free b o e n (by simp)) (fun b o _ e=>u.there b o e (by simp)) u.tups u.frzs u.tbls (fun m' hm=>by
  obtain⟨o',es',ep',ho',r'⟩:=hm
  rw[ho]at ho';cases ho'
  exact⟨_,es',ep',hL,r'⟩) hok I.bare
theorem Inv.call{g':Array GenState}{t':Nat}{d':Drawn}{ch:List Addr}(I:Inv X pins σ H s)(u:Un (frs X.stack) ch H H' s.heap h')(hok:HOk X.prog X.w H' h')(hg:AllBare g')
  (hch:∀b∈ch,(b∈X.ex∨X.s₀.heap.objs.size≤b)∧b≠X.env.locals∧(∀x c,X.env.cells.lookup x=some c→c≠b)∧∀p∈X.pn++pins,p.1≠b) :
  Inv X pins σ H' { s with heap:=h',gens:=g',drawn:=d',toks:=t' }:=by
 obtain⟨m,⟨o,es,ep,ho,r⟩,_⟩:=id I.loc
 obtain⟨sl,hL⟩:=u.any ho I.free fun z=>(hch _ z).2.1 rfl
 exact I.step (ch:=ch) hch (fun b o hL hb hc e n=>u.keep b o e n (fun z=>(QO.mp (I.stkSub b z)).elim hL hb) hc) (fun b o _ _ hc e n=>u.any e n hc) (fun b o hc e n=>u.free b o e n hc) (fun b o hc e=>u.there b o e hc) u.tups u.frzs u.tbls (fun m' hm=>by
  obtain⟨o',es',ep',ho',r'⟩:=hm
  rw[ho]at ho';cases ho'
  exact⟨_,es',ep',hL,r'⟩) hok hg
theorem Inv.turned{t':Nat}{it:Addr}(I:Inv X pins σ H s)(k:∀b o,b≠it→s.heap.get? b=some o→h'.get? b=some o)(hn:H it=none)(hL:it≠X.env.locals)
  (h1:it∈X.ex∨X.s₀.heap.objs.size≤it) (h2:∀x c,X.env.cells.lookup x=some c→c≠it) (h3:∀p∈X.pn++pins,p.1≠it):Inv X pins σ H { s with heap:=h',toks:=t' }:=by
 have nit:∀b u,H b=some u→b≠it:=fun b u e z=>by rw[z,hn]at e;cases e
 refine I.step (g':=s.gens) (d':=s.drawn) (ch:=[it]) (fun b hb=>?_) (fun b o _ _ hc e _=>k b o (fun z=>hc (by simp[z])) e) (fun b o _ _ hc e _=>⟨o.slots,k b o (fun z=>hc (by simp[z])) e⟩) (fun _ _ _ _ n=>n)
  (fun b o hc e=>⟨o,k b o (fun z=>hc (by simp[z])) e⟩) (fun _ _ e=>e) (fun _ _ _ e=>e) (fun b ps e=>⟨#[],by rw[e];simp⟩) (fun m hm=>?_) (fun b u e=>?_) I.bare
 ·have e:b=it:=by simpa using hb
  subst e
  exact⟨h1,hL,h2,h3⟩
 ·obtain⟨o,es,ep,ho,r⟩:=hm
  exact⟨o,es,ep,k _ o (Ne.symm hL) ho,r⟩
 ·refine(I.hok b u e).stay (fun c v hc q=>k c v ?_ q) (fun _ q=>q) fun _ _ q=>q
  rcases hc with z|z
  ·rw[z];exact nit b u e
  ·exact nit c _ z
theorem Inv.tok(I:Inv X pins σ H s)(t:Nat):Inv X pins σ H { s with toks:=t }:=I.un (h':=s.heap) (t':=t) Un.refl I.hok
theorem Inv.kept{t':Nat}(I:Inv X pins σ H s)(k:∀b u,s.heap.get? b=some u→h'.get? b=some u):Inv X pins σ H { s with heap:=h',toks:=t' }:=I.un (Un.kept k) (I.hok.kept k)
theorem Inv.laid{a:Addr}{o:HO}{t':Nat}(I:Inv X pins σ H s)(k:∀b u,s.heap.get? b=some u→h'.get? b=some u)(hp:s.heap.objs.size≤a)(new:Zad X.prog X.w (upd H a o) h' a o) :
  Inv X pins σ (upd H a o) { s with heap:=h',toks:=t' }:=I.un (Un.laid k hp (I.hok.fresh hp)) (I.hok.laid k hp new)
theorem Inv.write{x e:Addr}{o:HO}{t':Nat}(I:Inv X pins σ H s)(mu:Mut (H x))(he:e=x∨H e=some (.own x))(k:∀b u,b≠e→s.heap.get? b=some u→h'.get? b=some u)(heo:∃u,h'.get? e=some u)
  (new:Zad X.prog X.w (upd H x o) h' x o):Inv X pins σ (upd H x o) { s with heap:=h',toks:=t' }:=I.un (Un.write mu he k heo) (I.hok.write mu he k heo new)
theorem Inv.pins_of{pins':List (Addr×Obj)}(I:Inv X pins σ H s)(h:∀p∈pins',s.heap.get? p.1=some p.2∧H p.1=none∧p.1≠X.env.locals∧p.1 ∉ X.fs∧∀v,p.2.data≠.cell v):Inv X pins' σ H s :=
 ⟨I.ok,I.os,I.bare,I.base,I.loc,I.cell,I.free,I.freeC,fun p hp=>(Qh.mp hp).elim (fun z=>I.pin p (Qp _ z)) (h p),I.hok,I.len⟩
theorem ZiO{N:List Str}(hN:N.Nodup){i j:Nat}{x:Str}(a:N[i]? = some x)(b:N[j]? = some x):i=j:=by
 obtain⟨h1,e1⟩:=Qc.mp a
 obtain⟨h2,e2⟩:=Qc.mp b
 exact(List.getElem_inj hN).mp (e1.trans e2.symm)
theorem ZgU{M:Model}{A:Around}{E:Value→Shared→Prop}{i:Nat}{x:Str}{v:V}{u:Value}{Q:Unit→Shared→Prop}(I:Inv X pins σ H s)(hN:X.N.Nodup)(hi:X.N[i]? = some x)(hx:Loc X.env.scope x)(r:ZE v u)
  (h:∀s',Inv X pins (σ.set i (some v)) H s'→(∃a,Heap.SameBut a s.heap s'.heap∧(a=X.env.locals∨X.env.cells.lookup x=some a))→Q () s') (hf:X.fn x=true∨X.env.scope.names.lookup x=some .local:=by first|exact .inl rfl|exact .inr rfl|assumption):wpAny M A (storeName X.env x u) Q E s:=by
 obtain⟨m,hn,hl⟩:=id I.loc
 have hcls:(X.env.scope.kind == .class||(X.env.scope.kind == .module&&X.env.locals != X.env.globals))=false:=by rw[I.ok.kind];rfl
 have hiσ:i<σ.length:=by rw[I.len];exact(Qc.mp hi).1
 have cne:=I.cne
 have tracked:∀ {a:Addr} {h':Heap},(∃o,s.heap.get? a=some o∧H a=none)→Heap.SameBut a s.heap h'→HOk X.prog X.w H h':=fun {a h'} ha hs b ob e=>by
  obtain⟨_,_,hfree⟩:=ha
  refine(I.hok b ob e).stay (fun c w' hc q=>(hs.2 c ?_).trans q) (fun _ q=>q) fun _ _ q=>q
  rintro rfl
  rcases hc with rfl|hc
  ·rw[hfree]at e;cases e
  ·rw[hfree]at hc;cases hc
 rcases hx with hk|hk
 ·refine wpAny_storeName_local hk hn (fun h' hn' hs=>?_) hcls
  obtain⟨oL,_,_,hoL,_⟩:=id hn
  refine h _ ⟨I.ok,I.os,I.bare,⟨fun b o e n hb hx=>?_,fun b o e n hb hx=>?_,I.base.free,fun b o e hx=>?_,I.base.tups,I.base.frzs,I.base.tbls⟩,⟨_,hn',fun j y v' e1 e2 e3=>?_⟩,fun y c e=>?_,I.free,I.freeC,fun p hp=>?_,tracked ⟨oL,hoL,I.free⟩ hs,by simpa using I.len⟩ ⟨_,hs,.inl rfl⟩
  ·exact(hs.2 b (QF (QJ (Qu e) I.ok.above))).trans (I.base.keep b o e n hb hx)
  ·obtain⟨sl,e1⟩:=I.base.slot b o e n hb hx
   exact⟨sl,(hs.2 b (QF (QJ (Qu e) I.ok.above))).trans e1⟩
  ·obtain⟨o',e1⟩:=I.base.there b o e hx
   exact⟨o',(hs.2 b (QF (QJ (Qu e) I.ok.above))).trans e1⟩
  ·by_cases hj:j=i
   ·subst hj
    rw[hi]at e1;cases e1
    rw[List.getElem?_set_self hiσ]at e2
    cases e2
    exact⟨u,r,.inl ⟨hk,by simp⟩⟩
   ·rw[List.getElem?_set_ne (Ne.symm hj)]at e2
    obtain⟨u',r',q⟩:=hl j y v' e1 e2 e3
    refine⟨u',r',?_⟩
    rcases q with⟨k,e⟩|⟨k,c,e,z⟩
    ·refine .inl ⟨k,?_⟩
     have:y≠x:=fun e=>hj (ZiO hN e1 (e ▸ hi))
     simp[this,e]
    ·exact .inr ⟨k,c,e,z.sameBut hs (cne y c e)⟩
  ·obtain⟨w',z⟩:=I.cell y c e
   exact⟨w',z.sameBut hs (cne y c e)⟩
  ·obtain⟨e,n,ne,nf,d⟩:=I.pin p hp
   exact⟨(hs.2 p.1 ne).trans e,n,ne,nf,d⟩
 ·have hfn:X.fn x=true:=by
   rcases hf with z|z
   ·exact z
   ·rw[z]at hk;cases hk
  obtain⟨c,hc⟩:=I.ok.has x (.inl hk)
  obtain⟨w',z⟩:=I.cell x c hc
  refine wpAny_storeName_cell I.ok.kind hk hc z (fun h' hc' hs=>?_)
  obtain⟨oc,hoc,hocd⟩:=id z
  refine h { s with heap:=h' } ⟨I.ok,I.os,I.bare,⟨fun b o e n hb hx=>?_,fun b o e n hb hx=>?_,I.base.free,fun b o e hx=>?_,I.base.tups,I.base.frzs,I.base.tbls⟩,⟨m,hn.sameBut hs (Ne.symm (cne x c hc)),fun j y v' e1 e2 e3=>?_⟩,fun y c' e=>?_,I.free,I.freeC,fun p hp=>?_,tracked ⟨oc,hoc,I.freeC x c hc⟩ hs,by simpa using I.len⟩ ⟨c,hs,.inr hc⟩
  ·exact(hs.2 b (QF (QJ (Qu e) (I.ok.cab x c hfn hc)))).trans (I.base.keep b o e n hb hx)
  ·obtain⟨sl,e1⟩:=I.base.slot b o e n hb hx
   exact⟨sl,(hs.2 b (QF (QJ (Qu e) (I.ok.cab x c hfn hc)))).trans e1⟩
  ·obtain⟨o',e1⟩:=I.base.there b o e hx
   exact⟨o',(hs.2 b (QF (QJ (Qu e) (I.ok.cab x c hfn hc)))).trans e1⟩
  ·by_cases hj:j=i
   ·subst hj
    rw[hi]at e1;cases e1
    rw[List.getElem?_set_self hiσ]at e2
    cases e2
    exact⟨u,r,.inr ⟨.inl hk,c,hc,hc'⟩⟩
   ·rw[List.getElem?_set_ne (Ne.symm hj)]at e2
    obtain⟨u',r',q⟩:=hl j y v' e1 e2 e3
    refine⟨u',r',?_⟩
    rcases q with q|⟨k,c',e,z'⟩
    ·exact .inl q
    ·refine .inr ⟨k,c',e,z'.sameBut hs ?_⟩
     rintro rfl
     exact hj (ZiO hN e1 (I.ok.inj _ _ _ e hc ▸ hi))
  ·by_cases hcc:c'=c
   ·subst hcc;exact⟨_,hc'⟩
   ·obtain⟨w2,z2⟩:=I.cell y c' e
    exact⟨w2,z2.sameBut hs hcc⟩
  ·obtain⟨e,n,ne,nf,d⟩:=I.pin p hp
   refine⟨(hs.2 p.1 ?_).trans e,n,ne,nf,d⟩
   intro q
   rw[q,hoc]at e
   have q':oc=p.2:=Qq e
   exact d w' (by rw[← q'];exact hocd)
theorem ZdB{M:Model}{A:Around}{E:Value→Shared→Prop}{i:Nat}{x:Str}{v:V}{u:Value}{Q:Unit→Shared→Prop}(I:Inv X pins σ H s)(hN:X.N.Nodup)(hi:X.N[i]? = some x)(hx:Loc X.env.scope x)(r:ZE v u)
  (h:∀s',Inv X pins (σ.set i (some v)) H s'→Q () s') (hf:X.fn x=true∨X.env.scope.names.lookup x=some .local:=by first|exact .inl rfl|exact .inr rfl|assumption):wpAny M A (storeName X.env x u) Q E s :=
 ZgU I hN hi hx r (fun s' I' _=>h s' I') hf
theorem Inv.call'{s':Shared}{ch:List Addr}(I:Inv X pins σ H s)(ho:s'.os=s.os)(u:Un (frs X.stack) ch H H' s.heap s'.heap)(hok:HOk X.prog X.w H' s'.heap)(hg:AllBare s'.gens)
  (hch:∀b∈ch,(b∈X.ex∨X.s₀.heap.objs.size≤b)∧b≠X.env.locals∧(∀x c,X.env.cells.lookup x=some c→c≠b)∧∀p∈X.pn++pins,p.1≠b):Inv X pins σ H' s':=by
 obtain⟨h',g',d',t',o'⟩:=s'
 have e:o'=s.os:=ho
 subst e
 exact I.call (g':=g') (t':=t') (d':=d') u hok hg hch
end
abbrev XK:=Value→Option Addr→Hp→Prop
abbrev St:=List (Option V)
abbrev VK:=V→Hp→Prop
abbrev TE:=St→Hp→VK→Prop
abbrev TT:=St→Hp→(Bool→Hp→Prop)→Prop
abbrev TA:=St→Hp→(List V→Hp→Prop)→Prop
structure Zfl where
 nx:St→Hp→Prop
 rt:VK
 bk:St→Hp→Prop:=fun _ _=>False
 ct:St→Hp→Prop:=fun _ _=>False
abbrev TS:=Zfl→St→Hp→Prop
def EP(X:Cx)(pins:List (Addr×Obj))(σ:St)(Q:VK)(u:Value)(s':Shared):Prop:=∃v H',Inv X pins σ H' s'∧ZE v u∧Q v H'
def TP(X:Cx)(pins:List (Addr×Obj))(σ:St)(Q:Bool→Hp→Prop)(b:Bool)(s':Shared):Prop:=∃H',Inv X pins σ H' s'∧Q b H'
def AP(X:Cx)(pins:List (Addr×Obj))(σ:St)(Q:List V→Hp→Prop)(us:List Value)(s':Shared):Prop:=∃vs H',Inv X pins σ H' s'∧Zy vs us∧Q vs H'
def SP(X:Cx)(pins:List (Addr×Obj))(D:Zfl)(f:Flow)(s':Shared):Prop :=
 match f with
 | .next=>∃σ' H',Inv X pins σ' H' s'∧D.nx σ' H'
 | .brk=>∃σ' H',Inv X pins σ' H' s'∧D.bk σ' H'
 | .cont=>∃σ' H',Inv X pins σ' H' s'∧D.ct σ' H'
 | .ret u=>∃v σ' H',Inv X pins σ' H' s'∧ZE v u∧D.rt v H'
def PE(X:Cx)(e:Expr)(t:TE):Prop :=
 ∀ (pins:List (Addr×Obj)) (s:Shared) (σ:St) (H:Hp) (Q:VK),Inv X pins σ H s→t σ H Q→wpAny (model X.prog X.w) X.A (eval e X.env) (EP X pins σ Q) X.xe s
def PT(X:Cx)(e:Expr)(t:TT):Prop :=
 ∀ (pins:List (Addr×Obj)) (s:Shared) (σ:St) (H:Hp) (Q:Bool→Hp→Prop),Inv X pins σ H s→t σ H Q→wpAny (model X.prog X.w) X.A (isTrue e X.env (eval e X.env)) (TP X pins σ Q) X.xe s
def PW(X:Cx)(e:Expr)(t:TT):Prop :=
 ∀ (whole:Sem Value) (pins:List (Addr×Obj)) (s:Shared) (σ:St) (H:Hp) (Q:Bool→Hp→Prop),Inv X pins σ H s→t σ H Q→wpAny (model X.prog X.w) X.A (isTrue e X.env whole) (TP X pins σ Q) X.xe s
theorem PW.pt{X:Cx}{e:Expr}{t:TT}(h:PW X e t):PT X e t:=h _
def PA(X:Cx)(es:List Expr)(t:TA):Prop :=
 ∀ (pos:Pos) (pins:List (Addr×Obj)) (s:Shared) (σ:St) (H:Hp) (Q:List V→Hp→Prop),Inv X pins σ H s→t σ H Q→wpAny (model X.prog X.w) X.A (spliced (backTo pos (starEach es X.env))) (AP X pins σ Q) X.xe s
def PS(X:Cx)(st:Stmt)(t:TS):Prop :=
 ∀ (pins:List (Addr×Obj)) (s:Shared) (σ:St) (H:Hp) (D:Zfl),Inv X pins σ H s→t D σ H→wpAny (model X.prog X.w) X.A (exec st X.env) (SP X pins D) X.xe s
def PSs(X:Cx)(st:List Stmt)(t:TS):Prop :=
 ∀ (pins:List (Addr×Obj)) (s:Shared) (σ:St) (H:Hp) (D:Zfl),Inv X pins σ H s→t D σ H→wpAny (model X.prog X.w) X.A (execs st X.env) (SP X pins D) X.xe s
theorem thn{α:Type}{t:Sem α}{Q Q':α→Shared→Prop}{M:Model}{A:Around}{E:Value→Shared→Prop}{s:Shared}(h:wpAny M A t Q E s)(hQ:∀a s,Q a s→Q' a s):wpAny M A t Q' E s:=wpAny_mono h hQ fun _ _ x=>x
section
variable {X:Cx}
inductive EA {α:Type} (A B:α→Prop):Prop where
 | mk (v:α) (a:A v) (b:B v)
def Zon(i:Nat):TE:=fun σ H Q=>EA (fun v=>σ[i]? = some (some v)) (fun v=>Q v H)
def tC(v:V):TE:=fun _ H Q=>Q v H
theorem Zjx{i:Nat}{x:Str}{pos:Pos}(hN:X.N[i]? = some x)(hv:Vis X.env.scope x)(hd:(x == ("__debug__" : Str))=false:=by decide)(hcd:(x == ("__classdict__" : Str))=false:=by decide):PE X (.Name x pos) (Zon i):=by
 intro pins s σ H Q I h
 obtain⟨v,e,h⟩:=h
 obtain⟨m,hn,hl⟩:=I.loc
 obtain⟨u,r,l⟩:=hl i x v hN e hv
 have fin:EP X pins σ Q u s:=⟨v,H,I,r,h⟩
 rcases l with⟨hk,hm⟩|⟨hk,c,hc,hcell⟩
 ·exact wpAny_Name (wpAny_loadName_local I.ok.kind hk hn hm fin) hd
 ·rcases hk with hk|hk
  ·exact wpAny_Name (wpAny_loadName_cell I.ok.kind hk hc hcell fin) hd
  ·exact wpAny_Name (wpAny_loadName_free I.ok.kind hk hc hcell fin hcd) hd
theorem Zi{i j pos}:PE X (.Constant (.int i) j pos) (tC (.int i)):=fun _ _ _ H _ I h=>wpAny_Constant_int ⟨.int i,H,I.tok _,⟨_,rfl⟩,h⟩
theorem ZnR{b j pos}:PE X (.Constant (.bool b) j pos) (tC (.bl b)):=fun _ _ _ H _ I h=>Constant_bool ⟨.bl b,H,I,rfl,h⟩
theorem Zav{j pos}:PE X (.Constant .none j pos) (tC .non):=fun _ _ _ H _ I h=>Constant_none ⟨.non,H,I,rfl,h⟩
theorem Zbm{x j pos}:PE X (.Constant (.str x) j pos) (tC (.str x)):=fun _ _ _ H _ I h=>Calls.Constant_str ⟨.str x,H,I.tok _,⟨_,rfl⟩,h⟩
def Gl(X:Cx)(x:Str):Prop:=X.env.kindOf x=some .globalImplicit
theorem Zj5{E:Value→Shared→Prop}{pins:List (Addr×Obj)}{s:Shared}{σ:St}{H:Hp}{x:Str}{u:Value}{pos:Pos}{Q:Value→Shared→Prop}(I:Inv X pins σ H s)(hg:Gl X x)(hm:X.mg x=some u)(h:Q u s)
  (hd:(x == ("__debug__" : Str))=false:=by decide):wpAny (model X.prog X.w) X.A (eval (.Name x pos) X.env) Q E s :=
 Calls.Name_function_global I.ok.kind hg (Calls.loadGlobal_global (by rw[I.ok.glob];exact I.mod.glob.keeps I.bk) hm h) hd
theorem Zeb{E:Value→Shared→Prop}{pins:List (Addr×Obj)}{s:Shared}{σ:St}{H:Hp}{x:Str}{u:Value}{pos:Pos}{Q:Value→Shared→Prop}(I:Inv X pins σ H s)(hg:Gl X x)(hm:X.mg x=none)(hv:bootBuiltins x=some u)(h:Q u s)
  (hn:x ≠ "__name__":=by decide) (hd:(x == ("__debug__" : Str))=false:=by decide):wpAny (model X.prog X.w) X.A (eval (.Name x pos) X.env) Q E s:=by
 obtain⟨mb,h1,h2⟩:=I.mod.blt
 exact Calls.Name_function_global I.ok.kind hg (Calls.loadGlobal_builtin (by rw[I.ok.glob];exact I.mod.glob.keeps I.bk) hm (by rw[I.ok.blt];exact h1.keeps I.bk) ((h2 x hn).trans hv) h) hd
theorem ZoH{x:Str}{v:V}{u:Value}{pos:Pos}(hg:Gl X x)(hm:X.mg x=none)(hv:bootBuiltins x=some u)(r:ZE v u)(hn:x ≠ "__name__":=by decide)(hd:(x == ("__debug__" : Str))=false:=by decide):PE X (.Name x pos) (tC v) :=
 fun _ _ _ H _ I h=>Zeb I hg hm hv ⟨v,H,I,r,h⟩ hn hd
variable {a b:Expr} {ta tb:TE} {pos:Pos}
def tB(t:TE):TT:=fun σ H Q=>t σ H fun x H1=>EA (fun c=>x=.bl c) (fun c=>Q c H1)
theorem ZeN{e:Expr}{t:TE}(h:PE X e t)(he:∀whole,isTrue e X.env whole=(do let v ← whole;standAt e.pos;holding [v] (truthy v)):=by intro _;rfl):PT X e (tB t):=by
 intro pins s σ H Q I hw
 refine isTrue_plain (thn (h pins s σ H _ I hw) ?_) (he _)
 rintro v s1 ⟨x,H1,I1,r1,q1⟩
 obtain⟨d,rfl,q⟩:=q1
 cases r1
 exact wpAny_truthy_bool ⟨H1,I1,q⟩
variable {tA tB':TT} {rest:List Expr}
def Zsn(t u:TT):TT:=fun σ H Q=>t σ H fun c H1=>if c=true then u σ H1 Q else Q false H1
def tOr(t u:TT):TT:=fun σ H Q=>t σ H fun c H1=>if c=true then Q true H1 else u σ H1 Q
def Zsl(t:TT):TT:=fun σ H Q=>t σ H fun c H1=>Q (!c) H1
theorem Zey(ha:PT X a tA):PW X (.BoolOp .And [a] pos) tA:=by
 intro wh pins s σ H Q I h
 refine isTrue_and (thn (ha pins s σ H Q I h) fun c s1 e=>?_)
 cases c with
 | true=>exact isTrue_and_nil e
 | false=>exact e
theorem Zgc(ha:PT X a tA):PW X (.BoolOp .Or [a] pos) tA:=by
 intro wh pins s σ H Q I h
 refine isTrue_or (thn (ha pins s σ H Q I h) fun c s1 e=>?_)
 cases c with
 | false=>exact isTrue_or_nil e
 | true=>exact e
theorem Ze8(ha:PT X a tA)(hb:PW X (.BoolOp .And (b::rest) pos) tB'):PW X (.BoolOp .And (a::b::rest) pos) (Zsn tA tB'):=by
 intro wh pins s σ H Q I h
 refine isTrue_and (thn (ha pins s σ H _ I h) ?_)
 rintro c s1 ⟨H1,I1,q1⟩
 cases c with
 | true=>exact hb wh pins s1 σ H1 Q I1 q1
 | false=>exact⟨H1,I1,q1⟩
theorem ZiV(ha:PT X a tA)(hb:PW X (.BoolOp .Or (b::rest) pos) tB'):PW X (.BoolOp .Or (a::b::rest) pos) (tOr tA tB'):=by
 intro wh pins s σ H Q I h
 refine isTrue_or (thn (ha pins s σ H _ I h) ?_)
 rintro c s1 ⟨H1,I1,q1⟩
 cases c with
 | true=>exact⟨H1,I1,q1⟩
 | false=>exact hb wh pins s1 σ H1 Q I1 q1
theorem ZmF(ha:PT X a tA):PT X (.UnaryOp .Not a pos) (Zsl tA):=by
 intro pins s σ H Q I h
 exact isTrue_not (ha pins s σ H (fun c H1=>Q (!c) H1) I h)
def ZrO(ta tb:TE):TE:=fun σ H Q=>ta σ H fun x H1=>∃c,x=.bl c∧if c=true then tb σ H1 Q else Q (.bl false) H1
def ZrK(ta:TE):TE:=fun σ H Q=>ta σ H fun x H1=>∃c,x=.bl c∧Q (.bl (!c)) H1
theorem ZfK{op}{t:TE}(h:PE X a t):PE X (.BoolOp op [a] pos) t:=fun pins s σ H Q I hw=>BoolOp_one (h pins s σ H Q I hw)
theorem ZeV(ha:PE X a ta)(hb:PE X (.BoolOp .And (b::rest) pos) tb):PE X (.BoolOp .And (a::b::rest) pos) (ZrO ta tb):=by
 intro pins s σ H Q I h
 refine BoolOp_and (thn (ha pins s σ H _ I h) ?_)
 rintro v s1 ⟨x,H1,I1,r1,q1⟩
 obtain⟨c,rfl,q1⟩:=q1
 cases r1
 refine wpAny_truthy_bool ?_
 cases c with
 | true=>exact hb pins s1 σ H1 Q I1 q1
 | false=>exact⟨.bl false,H1,I1,rfl,q1⟩
theorem ZmO(ha:PE X a ta):PE X (.UnaryOp .Not a pos) (ZrK ta):=by
 intro pins s σ H Q I h
 refine UnaryOp_ (thn (ha pins s σ H _ I h) ?_)
 rintro v s1 ⟨x,H1,I1,r1,q1⟩
 obtain⟨c,rfl,q1⟩:=q1
 cases r1
 exact not_of (wpAny_truthy_bool ⟨.bl (!c),H1,I1,rfl,q1⟩)
def tIf(t:TT)(ta tb:TE):TE:=fun σ H Q=>t σ H fun c H1=>if c=true then ta σ H1 Q else tb σ H1 Q
theorem Za1{c:Expr}(hc:PT X c tA)(ha:PE X a ta)(hb:PE X b tb):PE X (.IfExp c a b pos) (tIf tA ta tb):=by
 intro pins s σ H Q I h
 refine wpAny_IfExp (thn (hc pins s σ H _ I h) ?_)
 rintro d s1 ⟨H1,I1,q1⟩
 cases d with
 | true=>exact ha pins s1 σ H1 Q I1 q1
 | false=>exact hb pins s1 σ H1 Q I1 q1
end
def SqL(K:PySem.W.Frag)(H:Hp)(a:Addr)(xs:List V):Prop :=
 Rd H a (.lst xs) ∨
  ∃ (o:Obj) (its:Array Value) (n:Nat),K.lookup a=some o∧o.cls=.type "list"∧o.dict=none∧o.data=.seq its n∧its.size≤sizeLine∧Zy xs its.toList
def SqT(K:PySem.W.Frag)(H:Hp)(a:Addr)(xs:List V):Prop :=
 Rd H a (.tup xs) ∨
  ∃ (o:Obj) (its:Array Value) (n:Nat),K.lookup a=some o∧o.cls=.type "tuple"∧o.data=.seq its n∧its.size≤sizeLine∧Zy xs its.toList
def ZsC:Value→Option V
 | .none=>some .non
 | .bool b=>some (.bl b)
 | .int i _=>some (.int i)
 | .str x _=>some (.str x)
 | .bytes b _=>some (.byt b)
 | .float b _=>some (.flt b)
 | .ref a=>some (.ref a)
 | .type n=>some (.ty n)
 | _=>none
theorem ZE.abs{x:V}{u:Value}(r:ZE x u):ZsC u=some x:=by
 cases x with
 | non=>cases r;rfl
 | bl _=>cases r;rfl
 | int _=>obtain⟨t,rfl⟩:=r;rfl
 | str _=>obtain⟨t,rfl⟩:=r;rfl
 | byt _=>obtain⟨t,rfl⟩:=r;rfl
 | flt _=>obtain⟨t,rfl⟩:=r;rfl
 | ref _=>cases r;rfl
 | ty _=>cases r;rfl
theorem ZE.inj{x y:V}{u:Value}(r:ZE x u)(q:ZE y u):x=y:=Qq (r.abs.symm.trans q.abs)
theorem Zy.inj:∀ {xs ys:List V} {us:List Value},Zy xs us→Zy ys us→xs=ys
 | _,_,_,.nil,.nil=>rfl
 | _,_,_,.cons r t,.cons r' t'=>by rw[r.inj r',Zy.inj t t']
section
variable {X:Cx} {pins:List (Addr×Obj)} {σ:St} {H:Hp} {s:Shared} {a:Addr} {xs ys:List V}
theorem SqL.of{K:PySem.W.Frag}(h:H a=some (.lst xs)):SqL K H a xs:=.inl (.inl h)
theorem SqT.of{K:PySem.W.Frag}(h:H a=some (.tup xs)):SqT K H a xs:=.inl (.inl h)
theorem Inv.list(I:Inv X pins σ H s)(h:SqL X.K H a xs):∃its:List Value,Zy xs its∧PlainL s.heap a its.toArray∧xs.length≤sizeLine:=by
 rcases h with h|⟨o,its,n,hk,hc,hd,hs,hz,r⟩
 ·obtain⟨z,its,n,r,e⟩:=h.ok I.hok
  exact⟨its,r,⟨_,n,e,rfl,rfl,rfl⟩,z⟩
 ·refine⟨its.toList,r,⟨o,n,I.kIn a o hk,hc,hd,by simpa using hs⟩,?_⟩
  have e:=r.length
  simp only[Array.length_toList]at e
  lia
theorem Inv.tuple(I:Inv X pins σ H s)(h:SqT X.K H a xs):∃its:List Value,Zy xs its∧IsTup s.heap a its.toArray∧xs.length≤sizeLine:=by
 rcases h with h|⟨o,its,n,hk,hc,hs,hz,r⟩
 ·obtain⟨z,its,r,p⟩:=h.ok I.hok
  exact⟨its,r,p,z⟩
 ·refine⟨its.toList,r,⟨o,I.kIn a o hk,hc,n,by simpa using hs⟩,?_⟩
  have e:=r.length
  simp only[Array.length_toList]at e
  lia
theorem Inv.list_inj(I:Inv X pins σ H s)(h:SqL X.K H a xs)(h':SqL X.K H a ys):xs=ys:=by
 obtain⟨its,r,⟨o,n,e,_,_,d⟩,_⟩:=I.list h
 obtain⟨its',r',⟨o',n',e',_,_,d'⟩,_⟩:=I.list h'
 rw[e]at e';cases e'
 rw[d]at d'
 injection d' with d1 _
 have:its=its':=by simpa using congrArg Array.toList d1
 subst this
 exact r.inj r'
theorem Inv.tuple_inj(I:Inv X pins σ H s)(h:SqT X.K H a xs)(h':SqT X.K H a ys):xs=ys:=by
 obtain⟨its,r,⟨o,e,_,n,d⟩,_⟩:=I.tuple h
 obtain⟨its',r',⟨o',e',_,n',d'⟩,_⟩:=I.tuple h'
 rw[e]at e';cases e'
 rw[d]at d'
 injection d' with d1 _
 have:its=its':=by simpa using congrArg Array.toList d1
 subst this
 exact r.inj r'
end
abbrev Cx.wish(X:Cx)(E:Value→Shared→Prop):Cx:={ X with xe:=E }
abbrev Cx.nox(X:Cx):Cx:=X.wish fun _ _=>False
theorem Cx.Ok.wish{X:Cx}(ok:X.Ok)(E:Value→Shared→Prop):(X.wish E).Ok :=
 ⟨ok.mod,ok.kind,ok.glob,ok.blt,ok.above,ok.inj,ok.has,ok.cab,ok.hd,ok.frames,ok.stk,ok.exf,ok.bs,ok.bsz,ok.noex,ok.exfs,ok.funs,ok.frf⟩
theorem Cx.Ok.unwish{X:Cx}{E:Value→Shared→Prop}(ok:(X.wish E).Ok):X.Ok :=
 ⟨ok.mod,ok.kind,ok.glob,ok.blt,ok.above,ok.inj,ok.has,ok.cab,ok.hd,ok.frames,ok.stk,ok.exf,ok.bs,ok.bsz,ok.noex,ok.exfs,ok.funs,ok.frf⟩
section
variable {X:Cx} {pins:List (Addr×Obj)} {σ:St} {H:Hp} {s:Shared} {E:Value→Shared→Prop}
theorem Inv.wish(I:Inv X pins σ H s)(E:Value→Shared→Prop):Inv (X.wish E) pins σ H s:=⟨I.ok.wish E,I.os,I.bare,I.base,I.loc,I.cell,I.free,I.freeC,I.pin,I.hok,I.len⟩
theorem Inv.unwish(I:Inv (X.wish E) pins σ H s):Inv X pins σ H s:=⟨I.ok.unwish,I.os,I.bare,I.base,I.loc,I.cell,I.free,I.freeC,I.pin,I.hok,I.len⟩
theorem SP.unwish{D:Zfl}{f:Flow}{s':Shared}(h:SP (X.wish E) pins D f s'):SP X pins D f s':=by
 cases f with
 | next=>obtain⟨σ',H',I,q⟩:=h;exact⟨σ',H',I.unwish,q⟩
 | brk=>obtain⟨σ',H',I,q⟩:=h;exact⟨σ',H',I.unwish,q⟩
 | cont=>obtain⟨σ',H',I,q⟩:=h;exact⟨σ',H',I.unwish,q⟩
 | ret u=>obtain⟨v,σ',H',I,r,q⟩:=h;exact⟨v,σ',H',I.unwish,r,q⟩
theorem PSs.nox{st:List Stmt}{t:TS}(h:PSs X.nox st t):PSs X st t:=fun pins s σ H D I hw =>
 wpAny_mono (h pins s σ H D (I.wish _) hw) (fun _ _ q=>q.unwish) fun _ _ z=>False.elim z
end
section
variable {X:Cx} {st:Stmt} {rest:List Stmt} {t u:TS} {e:Expr} {te:TE} {pos:Pos}
def Zrn:TS:=fun D σ H=>D.nx σ H
def ZsJ(t u:TS):TS:=fun D σ H=>t { D with nx:=u D } σ H
theorem ZF:PSs X [] Zrn:=fun _ _ σ H _ I h=>wpAny_execs_nil ⟨σ,H,I,h⟩
theorem Zf(h1:PS X st t)(h2:PSs X rest u):PSs X (st::rest) (ZsJ t u):=by
 intro pins s σ H D I h
 refine wpAny_execs_cons (thn (h1 pins s σ H { D with nx:=u D } I h) fun f s1 q=>?_)
 cases f with
 | next =>
  obtain⟨σ',H',I',q⟩:=q
  exact h2 pins s1 σ' H' D I' q
 | ret v=>exact q
 | brk=>exact q
 | cont=>exact q
theorem Zj(h1:PS X st t):PSs X [st] t:=by
 intro pins s σ H D I h
 refine wpAny_execs_cons (thn (h1 pins s σ H D I h) fun f s1 q=>?_)
 cases f with
 | next=>exact wpAny_execs_nil q
 | ret v=>exact q
 | brk=>exact q
 | cont=>exact q
theorem Inv.quiet{pins:List (Addr×Obj)}{σ:St}{H:Hp}{s:Shared}(I:Inv X pins σ H s):interactive X.env=false:=by simp[interactive,I.ok.kind]
def ZrN(te:TE):TS:=fun D σ H=>te σ H fun _ H1=>D.nx σ H1
theorem Zac(he:PE X e te)(hs:swapsWith e none pos.line X.env=pure false:=by rfl):PS X (.Expr e pos) (ZrN te):=by
 intro pins s σ H D I h
 exact wpAny_Expr_any (thn (he pins s σ H _ I h) fun v s1 ⟨x,H1,I1,r1,q1⟩=>⟨σ,H1,I1,q1⟩) I.quiet hs
def Zsv(te:TE):TS:=fun D σ H=>te σ H D.rt
theorem Zp(he:PE X e te):PS X (.Return (some e) pos) (Zsv te):=by
 intro pins s σ H D I h
 exact wpAny_Return_some (thn (he pins s σ H _ I h) fun v s1 ⟨x,H1,I1,r1,q1⟩=>⟨x,σ,H1,I1,r1,q1⟩)
def Zsi(c:TT)(t u:TS):TS:=fun D σ H=>c σ H fun b H1=>if b=true then t D σ H1 else u D σ H1
theorem Z9{c:Expr}{a b:List Stmt}{tc:TT}(hc:PT X c tc)(ha:PSs X a t)(hb:PSs X b u):PS X (.If c a b pos) (Zsi tc t u):=by
 intro pins s σ H D I h
 refine wpAny_If (thn (hc pins s σ H _ I h) ?_)
 rintro d s1 ⟨H1,I1,q1⟩
 cases d with
 | true=>exact ha pins s1 σ H1 D I1 q1
 | false=>exact hb pins s1 σ H1 D I1 q1
end
abbrev TG:=V→St→Hp→(St→Hp→Prop)→Prop
abbrev TGs:=List V→St→Hp→(St→Hp→Prop)→Prop
def PG(X:Cx)(target:Expr)(t:TG):Prop :=
 ∀ (pins:List (Addr×Obj)) (s:Shared) (σ:St) (H:Hp) (v:V) (u:Value) (Q:St→Hp→Prop),Inv X pins σ H s→ZE v u→t v σ H Q →
  wpAny (model X.prog X.w) X.A (assign target X.env u) (fun _ s'=>∃σ' H',Inv X pins σ' H' s'∧Q σ' H') X.xe s
def PGs(X:Cx)(ts:List Expr)(t:TGs):Prop :=
 ∀ (pins:List (Addr×Obj)) (s:Shared) (σ:St) (H:Hp) (vs:List V) (us:List Value) (Q:St→Hp→Prop),Inv X pins σ H s→Zy vs us→t vs σ H Q →
  wpAny (model X.prog X.w) X.A (assignInOrder ((assignEach ts X.env).map (·.2)) us) (fun _ s'=>∃σ' H',Inv X pins σ' H' s'∧Q σ' H') X.xe s
abbrev ZnA:=V→V→V→Hp→(Hp→Prop)→Prop
def Zmn(X:Cx)(t:ZnA):Prop :=
 ∀ (pins:List (Addr×Obj)) (s:Shared) (σ:St) (H:Hp) (o i v:V) (ov iv u:Value) (Q:Hp→Prop),Inv X pins σ H s→ZE o ov→ZE i iv→ZE v u→t o i v H Q →
  wpAny (model X.prog X.w) X.A (setItem ov iv u) (fun _ s'=>∃H',Inv X pins σ H' s'∧Q H') X.xe s
abbrev TIp:=V→V→Hp→VK→Prop
def PIp(X:Cx)(op:Operator)(t:TIp):Prop :=
 ∀ (pins:List (Addr×Obj)) (s:Shared) (σ:St) (H:Hp) (x y:V) (v u:Value) (Q:VK),Inv X pins σ H s→ZE x v→ZE y u→t x y H Q →
  wpAny (model X.prog X.w) X.A (inplaceOp op v u) (EP X pins σ Q) X.xe s
section
variable {X:Cx} {pos:Pos}
def Zkc(i:Nat):TG:=fun v σ H Q=>Q (σ.set i (some v)) H
theorem ZB{i:Nat}{x:Str}(hN:X.N.Nodup)(hi:X.N[i]? = some x)(hx:Loc X.env.scope x)(hf:X.fn x=true∨X.env.scope.names.lookup x=some .local:=by first|exact .inl rfl|exact .inr rfl|assumption):PG X (.Name x pos) (Zkc i):=by
 intro pins s σ H v u Q I r h
 exact wpAny_assign_Name (ZdB I hN hi hx r (fun s' I'=>⟨_,H,I',h⟩) hf)
def Zsu:TGs:=fun vs σ H Q=>vs=[]∧Q σ H
inductive RGc (vs:List V) (B:V→List V→Prop):Prop where
 | mk (v:V) (r:List V) (e:vs=v::r) (q:B v r)
def Zr5(t:TG)(u:TGs):TGs:=fun vs σ H Q=>RGc vs fun v r=>t v σ H fun σ' H'=>u r σ' H' Q
theorem ZaD:PGs X [] Zsu:=by
 intro pins s σ H vs us Q I r h
 obtain⟨e,h⟩:=h
 subst e
 cases r
 exact assignInOrder_nil ⟨σ,H,I,h⟩
theorem Zw{e:Expr}{es:List Expr}{t:TG}{u:TGs}(h1:PG X e t)(h2:PGs X es u)
  (hs:(assignEach (e::es) X.env).map (·.2)=assign e X.env::(assignEach es X.env).map (·.2):=by rfl):PGs X (e::es) (Zr5 t u):=by
 intro pins s σ H vs us Q I r h
 obtain⟨v,vr,e1,h⟩:=h
 subst e1
 cases r with
 | cons r rr =>
  rw[hs]
  refine assignInOrder_cons (thn (h1 pins s σ H _ _ _ I r h) ?_)
  rintro _ s1 ⟨σ1,H1,I1,q1⟩
  exact h2 pins s1 σ1 H1 _ _ Q I1 rr q1
inductive RGt (K:PySem.W.Frag) (H:Hp) (n:Nat) (v:V) (B:List V→Prop):Prop where
 | mk (a:Addr) (xs:List V) (e:v=.ref a) (s:SqT K H a xs) (l:xs.length=n) (q:B xs)
def ZrE(K:PySem.W.Frag)(n:Nat)(t:TGs):TG:=fun v σ H Q=>RGt K H n v fun xs=>t xs σ H Q
theorem ZqJ{es:List Expr}{k:Nat}{t:TGs}{n:Nat}(hc:X.calm=true)(h:PGs X es t)
  (hn:(assignEach es X.env).length=n:=by rfl) (hst:(assignEach es X.env).findIdx? (·.1)=none:=by rfl):PG X (.Tuple es k pos) (ZrE X.K n t):=by
 intro pins s σ H v u Q I r hw
 obtain⟨a,xs,e1,hq,hl,hw⟩:=hw
 subst e1
 cases r
 obtain⟨its,rv,ht,hz⟩:=I.tuple hq
 refine assign_Tuple_tuple (I.ok.hd hc) ht (by simp[hn,← hl,rv.length]) hst fun h' hx=>?_
 have I1:Inv X pins σ H { s with heap:=h' }:=I.kept (t':=s.toks) fun b o e=>hx b o (QF (Qu e)) e
 exact h pins _ σ H xs _ Q I1 (by simpa using rv) hw
def Zsh(to ti:TE)(t:ZnA):TG:=fun v σ H Q=>to σ H fun o H1=>ti σ H1 fun i H2=>t o i v H2 fun H3=>Q σ H3
theorem ZcF{o i:Expr}{to ti:TE}{t:ZnA}(ho:PE X o to)(hi:PE X i ti)(hs:Zmn X t)
  (ha:∀v,assign (.Subscript o i pos) X.env v=(do
   let ov ← holding [v] (eval o X.env)
   let iv ← holding [v,ov] (eval i X.env)
   standAt pos
   holding [v,ov,iv] (setItem ov iv v)
   release [v,ov,iv] []):=by intro _;rfl):PG X (.Subscript o i pos) (Zsh to ti t):=by
 intro pins s σ H v u Q I r h
 rw[ha]
 refine wpAny_bind (wpAny_holding (thn (ho pins s σ H _ I h) ?_))
 rintro ov s1 ⟨x,H1,I1,r1,q1⟩
 refine wpAny_bind (wpAny_holding (thn (hi pins s1 σ H1 _ I1 q1) ?_))
 rintro iv s2 ⟨y,H2,I2,r2,q2⟩
 refine wpAny_bind (wpAny_standAt (wpAny_bind (wpAny_holding (thn (hs pins s2 σ H2 x y v ov iv u _ I2 r1 r2 r q2) ?_))))
 rintro _ s3 ⟨H3,I3,q3⟩
 exact wpAny_release ⟨σ,H3,I3,q3⟩
def Zp1(te:TE)(g:TG):TS:=fun D σ H=>te σ H fun x H1=>g x σ H1 D.nx
theorem ZaS{tg e:Expr}{te:TE}{g:TG}(he:PE X e te)(hg:PG X tg g)(hs:swapsWithSole [tg] e pos.line X.env=pure false:=by rfl)(hw:swappedStores [tg] e X.env=pure none:=by rfl)
  (h1:(assignEach [tg] X.env).map (·.2)=[assign tg X.env]:=by rfl):PS X (.Assign [tg] e pos) (Zp1 te g):=by
 intro pins s σ H D I h
 refine wpAny_Assign_stores (thn (he pins s σ H _ I h) ?_) hs hw
 rintro v s1 ⟨x,H1,I1,r1,q1⟩
 rw[h1]
 exact thn (hg pins s1 σ H1 x v _ I1 r1 q1) fun _ s2 q=>q
theorem Zu{i:Nat}{x:Str}{e:Expr}{te:TE}{pos':Pos}(hN:X.N.Nodup)(hi:X.N[i]? = some x)(hx:Loc X.env.scope x)(he:PE X e te)(hs:swapsWith e (some (.Name x pos')) pos.line X.env=pure false:=by rfl)(hf:X.fn x=true∨X.env.scope.names.lookup x=some .local:=by first|exact .inl rfl|exact .inr rfl|assumption) :
  PS X (.Assign [.Name x pos'] e pos) (Zp1 te (Zkc i)):=by
 intro pins s σ H D I h
 refine wpAny_Assign_Name (thn (he pins s σ H _ I h) ?_) hs
 rintro v s1 ⟨y,H1,I1,r1,q1⟩
 exact ZdB I1 hN hi hx r1 (fun s2 I2=>⟨_,H1,I2,q1⟩) hf
def Zsm(i j:Nat)(ta:TA):TS:=fun D σ H=>ta σ H fun vs H1=>∃v w,vs=[v,w]∧D.nx ((σ.set i (some v)).set j (some w)) H1
theorem ZmA{i j:Nat}{x y:Str}{a b:Expr}{ta:TA}{px py pt:Pos}{kt k2 pt2}(hc:X.calm=true)(hN:X.N.Nodup)(hi:X.N[i]? = some x)(hj:X.N[j]? = some y)(hij:i≠j)
  (hx:X.env.scope.names.lookup x=some .local) (hy:X.env.scope.names.lookup y=some .local) (ha:PA X [a,b] ta)
  (hw:swappedStores [.Tuple [.Name x px,.Name y py] kt pt] (.Tuple [a,b] k2 pt2) X.env=pure (some [x,y]))
  (hs:swapsWithSole [.Tuple [.Name x px,.Name y py] kt pt] (.Tuple [a,b] k2 pt2) pos.line X.env=pure false:=by rfl) :
  PS X (.Assign [.Tuple [.Name x px,.Name y py] kt pt] (.Tuple [a,b] k2 pt2) pos) (Zsm i j ta):=by
 intro pins s σ H D I h
 rw[exec_Assign_arm]
 refine wpAny_bind (wpAny_standAt ?_)
 rw[hs]
 refine wpAny_bind (wpAny_pure ?_)
 rw[if_neg (by decide)]
 refine wpAny_bind (Tuple_ (thn (ha _ pins s σ H _ I h) ?_))
 rintro us s1 ⟨vs,H1,I1,r1,q1⟩
 obtain⟨v,w,e1,q1⟩:=q1
 subst e1
 obtain⟨u1,u2,rfl,rv,rw'⟩:∃u1 u2,us=[u1,u2]∧ZE v u1∧ZE w u2:=by
  cases r1 with
  | cons p q =>
   cases q with
   | cons p' q' =>
    cases q'
    exact⟨_,_,rfl,p,p'⟩
 refine wpAny_newObj_type ?_ (by show 2≤sizeLine;decide)
 have I2:Inv X pins σ H1 { s1 with heap:=s1.heap.push { cls:=.type "tuple",data:=.seq [u1,u2].toArray } }:=I1.kept (t':=s1.toks) fun b o e=>Qd _ e
 rw[hw]
 refine wpAny_bind (wpAny_pure ?_)
 show wpAny (model X.prog X.w) X.A (do rule "assign.swapped-stores";let items ← unpackItems (.ref s1.heap.objs.size) 2 none;assignInOrder [fun v=>bindName X.env y v,fun v=>bindName X.env x v] items.reverse;pure Flow.next) _ _ _
 refine wpAny_bind (wpAny_rule (wpAny_bind (unpackItems_tuple (items:=#[u1,u2]) (I.ok.hd hc) (IsTup.new s1.heap _) fun h' hx'=>?_)))
 have I3:=I2.kept (h':=h') (t':=s1.toks) fun b o e=>hx' b o (QF (Qu e)) e
 show wpAny _ _ (assignInOrder [fun v=>bindName X.env y v,fun v=>bindName X.env x v] [u2,u1] >>= fun _=>pure Flow.next) _ _ _
 refine wpAny_bind (assignInOrder_cons (wpAny_bindName (ZdB I3 hN hj (.inl hy) rw' (fun s2 I4=>?_) (.inr hy))))
 refine assignInOrder_cons (wpAny_bindName (ZdB I4 hN hi (.inl hx) rv (fun s3 I5=>assignInOrder_nil (wpAny_pure ?_)) (.inr hx)))
 rw[List.set_comm _ _ (Ne.symm hij)]at I5
 exact⟨_,H1,I5,q1⟩
def Zsw(i:Nat)(te:TE)(ti:TIp):TS:=fun D σ H=>∃x,σ[i]? = some (some x)∧te σ H fun y H1=>ti x y H1 fun z H2=>D.nx (σ.set i (some z)) H2
theorem ZnI{i:Nat}{x:Str}{e:Expr}{te:TE}{op:Operator}{ti:TIp}{pos':Pos}(hN:X.N.Nodup)(hi:X.N[i]? = some x)(hx:Loc X.env.scope x)(he:PE X e te)(ho:PIp X op ti)(hf:X.fn x=true∨X.env.scope.names.lookup x=some .local:=by first|exact .inl rfl|exact .inr rfl|assumption) :
  PS X (.AugAssign (.Name x pos') op e pos) (Zsw i te ti):=by
 intro pins s σ H D I h
 obtain⟨v,e1,h⟩:=h
 obtain⟨m,hn,hl⟩:=I.loc
 have vis:Vis X.env.scope x:=by rcases hx with k|k;exact .inl k;exact .inr (.inl k)
 obtain⟨u,r,l⟩:=hl i x v hi e1 vis
 refine wpAny_AugAssign_Name ?_
 have go:wpAny (model X.prog X.w) X.A (eval e X.env) (fun w s₂=>wpAny (model X.prog X.w) X.A (inplaceOp op u w) (fun r s₃=>wpAny (model X.prog X.w) X.A (storeName X.env x r) (fun _=>SP X pins D .next) X.xe s₃) X.xe s₂) X.xe s:=by
  refine thn (he pins s σ H _ I h) ?_
  rintro w s1 ⟨y,H1,I1,r1,q1⟩
  refine thn (ho pins s1 σ H1 v y u w _ I1 r r1 q1) ?_
  rintro z s2 ⟨zv,H2,I2,r2,q2⟩
  exact ZdB I2 hN hi hx r2 (fun s3 I3=>⟨_,H2,I3,q2⟩) hf
 rcases l with⟨hk,hm⟩|⟨hk,c,hc,hcell⟩
 ·exact wpAny_loadName_local I.ok.kind hk hn hm go
 ·rcases hk with hk|hk
  ·exact wpAny_loadName_cell I.ok.kind hk hc hcell go
  ·rcases hx with k|k
   ·have:X.env.scope.names.lookup x=some .free:=hk
    rw[k]at this;cases this
   ·have:X.env.scope.names.lookup x=some .free:=hk
    rw[k]at this;cases this
def ipI(f:Int→Int→Int):TIp:=fun x y H Q=>∃i j,x=.int i∧y=.int j∧Q (.int (f i j)) H
theorem Zny:PIp X .Add (ipI fun i j=>i+j):=by
 intro pins s σ H x y v u Q I r1 r2 h
 obtain⟨i,j,e1,e2,q⟩:=h
 subst e1;subst e2
 obtain⟨t,rfl⟩:=r1
 obtain⟨t',rfl⟩:=r2
 exact iadd_int ⟨.int _,H,I.tok _,⟨_,rfl⟩,q⟩
end
section
variable {X:Cx} {pos:Pos}
def Zp3(c:TT)(tb:TS):TS:=fun D σ H=>∃W:Nat→St→Hp→Prop,(∃m,W m σ H)∧∀m σ H,W m σ H →
 c σ H fun b H1=>if b=true then ∃N:St→Hp→Prop,(∀σ' H',N σ' H'→∃m',m'<m∧W m' σ' H')∧tb { D with nx:=N,ct:=N,bk:=D.nx } σ H1 else D.nx σ H1
theorem ZcT{c:Expr}{body:List Stmt}{tc:TT}{tb:TS}(hp:PassesOwn (model X.prog X.w) X.A X.env X.xe)(hc:PT X c tc)(hb:PSs X body tb):PS X (.While c body [] pos) (Zp3 tc tb):=by
 intro pins s σ H D I h
 obtain⟨W,⟨m0,w0⟩,turn⟩:=h
 refine wpAny_While (codeAny_whileLoop (fun n s'=>∃σ' H',Inv X pins σ' H' s'∧W n σ' H') ?_ m0 ⟨σ,H,I,w0⟩)
 rintro n s1 ⟨σ1,H1,I1,w1⟩
 refine wpAny_passesOwn hp (thn (hc pins s1 σ1 H1 _ I1 (turn n σ1 H1 w1)) ?_)
 rintro b s2 ⟨H2,I2,q2⟩
 cases b with
 | true =>
  obtain⟨N,hN,q2⟩:=q2
  rw[if_pos rfl]
  refine wpAny_passesOwn hp (thn (hb pins s2 σ1 H2 _ I2 q2) fun f s3 q3=>?_)
  cases f with
  | next =>
   obtain⟨σ3,H3,I3,n3⟩:=q3
   obtain⟨m',hm,w3⟩:=hN σ3 H3 n3
   exact⟨m',hm,σ3,H3,I3,w3⟩
  | cont =>
   obtain⟨σ3,H3,I3,n3⟩:=q3
   obtain⟨m',hm,w3⟩:=hN σ3 H3 n3
   exact⟨m',hm,σ3,H3,I3,w3⟩
  | brk=>exact q3
  | ret v=>exact q3
 | false =>
  rw[if_neg Qz]
  exact wpAny_execs_nil ⟨σ1,H2,I2,q2⟩
end
structure It where
 go:Nat→Hp→Prop
 yld:Nat→Hp→V→Hp→Prop
 stop:Nat→Hp→Prop
def Zfm(X:Cx)(pins:List (Addr×Obj))(H:Hp)(b:Addr):Prop :=
 H b=none∧b≠X.env.locals∧b ∉ X.fs∧(b∈X.ex∨X.s₀.heap.objs.size≤b)∧(∀x c,X.env.cells.lookup x=some c→c≠b)∧∀p∈X.pn++pins,p.1≠b
theorem Inv.fpOk{X:Cx}{pins:List (Addr×Obj)}{σ:St}{H H':Hp}{s:Shared}{b:Addr}(I:Inv X pins σ H s)(hb:s.heap.objs.size≤b)(hn:H' b=none):Zfm X pins H' b:=by
 refine⟨hn,Qab (QJ I.lt hb),I.nofs hb,.inr (QP I.sz hb),fun x c e z=>?_,fun p hp z=>?_⟩
 ·obtain⟨v,q⟩:=I.cell x c e
  exact absurd (QJ q.lt (by rw[z];exact hb)) (Qae _)
 ·exact absurd (QJ (Qu (I.pin p hp).1) (by rw[z];exact hb)) (Qae _)
structure Zlh (P:Program) (w:World) (K:PySem.W.Frag) (tg:Expr) (J:It) (fp:List Addr) (it:Addr) (tn:Nat→Heap→Prop):Prop where
 mem:it∈fp
 obj:∀i h,tn i h→∀b∈fp,∃o,h.get? b=some o∧∀v,o.data≠.cell v
 keep:∀i h h',tn i h→(∀b∈fp,∀o,h.get? b=some o→h'.get? b=some o)→tn i h'
 item:∀ (X:Cx),X.prog=P→X.w=w→X.K=K→X.calm=true→∀ (i:Nat) (pins:List (Addr×Obj)) (s:Shared) (σ:St) (H:Hp) (E:Value→Shared→Prop),Inv X pins σ H s→(∀b∈fp,Zfm X pins H b)→tn i s.heap→J.go i H →
  wpAny (model P w) X.A (pyNext (.ref it)) (fun r s1=>∃u,r=some u ∧
   wpAny (model P w) X.A (letOwnedTupleGo tg (.ref it) u) (fun _ s2=>∃x H',Inv X pins σ H' s2∧ZE x u∧J.yld i H x H'∧tn (i+1) s2.heap∧∀b∈fp,H' b=none) E s1) E s
 done:∀ (X:Cx),X.prog=P→X.w=w→X.K=K→X.calm=true→∀ (i:Nat) (pins:List (Addr×Obj)) (s:Shared) (σ:St) (H:Hp) (E:Value→Shared→Prop),Inv X pins σ H s→(∀b∈fp,Zfm X pins H b)→tn i s.heap→J.stop i H →
  wpAny (model P w) X.A (pyNext (.ref it)) (fun r s1=>r=none∧Inv X pins σ H s1) E s
 self:∀ (A:Around) (i:Nat) (s:Shared) (Q:Value→Shared→Prop) (E:Value→Shared→Prop),tn i s.heap→Q (.ref it) s→wpAny (model P w) A (pyIter (.ref it)) Q E s
abbrev TI:=St→Hp→(It→Hp→Prop)→Prop
def PIE(X:Cx)(pins:List (Addr×Obj))(σ:St)(tg:Expr)(R:It→Hp→Prop)(itv:Value)(s2:Shared):Prop :=
 ∃ (it:Addr) (fp:List Addr) (tn:Nat→Heap→Prop) (J:It) (H':Hp),itv=.ref it∧Inv X pins σ H' s2∧Zlh X.prog X.w X.K tg J fp it tn∧tn 0 s2.heap∧(∀b∈fp,Zfm X pins H' b)∧R J H'
def PI(X:Cx)(tg iter:Expr)(wi:TI):Prop :=
 ∀ (pins:List (Addr×Obj)) (s:Shared) (σ:St) (H:Hp) (R:It→Hp→Prop),Inv X pins σ H s→wi σ H R →
  wpAny (model X.prog X.w) X.A (eval iter X.env) (fun v s1=>wpAny (model X.prog X.w) X.A (pyIter v) (PIE X pins σ tg R) X.xe s1) X.xe s
theorem Zog{M:Model}{A:Around}{E:Value→Shared→Prop}{s:Shared}{tg:Expr}{it:Addr}{u:Value}{o:Obj}{n:String}{vs:Array Value}{Q:Unit→Shared→Prop}(ho:s.heap.get? it=some o)(hc:o.cls=.type n)(hd:o.data=.fields vs)
  (hn:["enumerate", "zip", "dict_itemiterator", "dict_reverseitemiterator", "odict_iterator", "itertools.zip_longest", "itertools.pairwise"].contains n=false) (hQ:Q () s):wpAny M A (letOwnedTupleGo tg (.ref it) u) Q E s:=by
 unfold letOwnedTupleGo
 cases tg<;>first
  | exact wpAny_pure hQ
  | (cases u<;>first
    | exact wpAny_pure hQ
    | (refine wpAny_bind (wpAny_load ho ?_);rw[hc,hd];show wpAny M A (if (["enumerate", "zip", "dict_itemiterator", "dict_reverseitemiterator", "odict_iterator", "itertools.zip_longest", "itertools.pairwise"].contains n&&vs[0]? == some (rawInt _))=true then _ else _) Q E s;rw[if_neg (by intro h;rw[hn,Bool.false_and]at h;cases h)];exact wpAny_pure hQ))
def Itl(K:PySem.W.Frag)(a:Addr):It :=
 ⟨fun i H=>∃xs x,SqL K H a xs∧xs[i]? = some x,fun i H x H'=>H'=H∧∀xs,SqL K H a xs→xs[i]? = some x,fun i H=>∃xs,SqL K H a xs∧xs.length≤i⟩
def Itt(K:PySem.W.Frag)(a:Addr):It :=
 ⟨fun i H=>∃xs x,SqT K H a xs∧xs[i]? = some x,fun i H x H'=>H'=H∧∀xs,SqT K H a xs→xs[i]? = some x,fun i H=>∃xs,SqT K H a xs∧xs.length≤i⟩
def Itr(lo:Int)(n:Nat):It:=⟨fun i _=>i<n,fun i H x H'=>H'=H∧x=.int (lo+i),fun i _=>n≤i⟩
theorem Zll{P:Program}{w:World}{K:PySem.W.Frag}{tg:Expr}(a it:Addr):Zlh P w K tg (Itl K a) [it] it (fun i h=>h.IsListIter it a i) where
 mem:=by simp
 obj:=fun i h st b hb=>by
  have e:b=it:=by simpa using hb
  subst e
  obtain⟨o,e,c,d⟩:=st
  exact⟨o,e,fun v z=>by rw[d]at z;cases z⟩
 keep:=fun i h h' st k=>st.at fun o e=>k it (by simp) o e
 item:=by
  intro X hP hw hK hc i pins s σ H E I hf st hg
  subst hP hw hK
  obtain⟨xs,x,hq,hx⟩:=hg
  obtain⟨its,rv,p,hz⟩:=I.list hq
  obtain⟨u,hu,ru⟩:=rv.get hx
  obtain⟨f0,f1,f2,f3,f4,f5⟩:=hf it (by simp)
  refine wpAny_pyNext_list_item st p.isList (x:=u) (by simpa using hu) fun h' st' sb=>?_
  have I1:Inv X pins σ H { s with heap:=h' }:=I.turned (t':=s.toks) (fun b o hb e=>(sb.2 b hb).trans e) f0 f1 f3 f4 f5
  obtain⟨o,e,c,d⟩:=id st'
  exact⟨u,rfl,Zog (s:={ s with heap:=h' }) e c d (by decide) ⟨x,H,I1,ru,⟨rfl,fun ys hy=>by rw[I.list_inj hy hq];exact hx⟩,st',fun b hb=>(hf b hb).1⟩⟩
 done:=by
  intro X hP hw hK hc i pins s σ H E I hf st hg
  subst hP hw hK
  obtain⟨xs,hq,hx⟩:=hg
  obtain⟨its,rv,p,hz⟩:=I.list hq
  obtain⟨f0,f1,f2,f3,f4,f5⟩:=hf it (by simp)
  have hl:=rv.length
  exact wpAny_pyNext_list_end (I.ok.hd hc) st p.isList (by simp;lia) fun h' eb=>⟨rfl,I.turned (t':=s.toks) (fun b o hb e=>eb b o hb e) f0 f1 f3 f4 f5⟩
 self:=fun _ _ _ _ _ st h=>wpAny_pyIter_listiter st h
theorem ZjJ{P:Program}{w:World}{K:PySem.W.Frag}{tg:Expr}(a it:Addr):Zlh P w K tg (Itt K a) [it] it (fun i h=>h.IsTupleIter it a i) where
 mem:=by simp
 obj:=fun i h st b hb=>by
  have e:b=it:=by simpa using hb
  subst e
  obtain⟨o,e,c,d⟩:=st
  exact⟨o,e,fun v z=>by rw[d]at z;cases z⟩
 keep:=fun i h h' st k=>st.at fun o e=>k it (by simp) o e
 item:=by
  intro X hP hw hK hc i pins s σ H E I hf st hg
  subst hP hw hK
  obtain⟨xs,x,hq,hx⟩:=hg
  obtain⟨its,rv,p,hz⟩:=I.tuple hq
  obtain⟨u,hu,ru⟩:=rv.get hx
  obtain⟨f0,f1,f2,f3,f4,f5⟩:=hf it (by simp)
  refine wpAny_pyNext_tuple_item st (show s.heap.IsTuple a its.toArray from p) (x:=u) (by simpa using hu) fun h' st' sb=>?_
  have I1:Inv X pins σ H { s with heap:=h' }:=I.turned (t':=s.toks) (fun b o hb e=>(sb.2 b hb).trans e) f0 f1 f3 f4 f5
  obtain⟨o,e,c,d⟩:=id st'
  exact⟨u,rfl,Zog (s:={ s with heap:=h' }) e c d (by decide) ⟨x,H,I1,ru,⟨rfl,fun ys hy=>by rw[I.tuple_inj hy hq];exact hx⟩,st',fun b hb=>(hf b hb).1⟩⟩
 done:=by
  intro X hP hw hK hc i pins s σ H E I hf st hg
  subst hP hw hK
  obtain⟨xs,hq,hx⟩:=hg
  obtain⟨its,rv,p,hz⟩:=I.tuple hq
  obtain⟨f0,f1,f2,f3,f4,f5⟩:=hf it (by simp)
  have hl:=rv.length
  exact wpAny_pyNext_tuple_end (I.ok.hd hc) st (show s.heap.IsTuple a its.toArray from p) (by simp;lia) fun h' eb=>⟨rfl,I.turned (t':=s.toks) (fun b o hb e=>eb b o hb e) f0 f1 f3 f4 f5⟩
 self:=fun _ _ _ _ _ st h=>wpAny_pyIter_tupleiter st h
theorem ZjO{P:Program}{w:World}{K:PySem.W.Frag}{tg:Expr}(it:Addr)(lo:Int)(n:Nat):Zlh P w K tg (Itr lo n) [it] it (fun i h=>IsRangeIter h it (lo+(i:Nat)*1) ((n:Int)-(i:Nat)) 1) where
 mem:=by simp
 obj:=fun i h st b hb=>by
  have e:b=it:=by simpa using hb
  subst e
  exact⟨_,st,fun v z=>by
   have z':Data.fields _=Data.cell v:=z
   cases z'⟩
 keep:=fun i h h' st k=>k it (by simp) _ st
 item:=by
  intro X hP hw hK hc i pins s σ H E I hf st hg
  subst hP hw hK
  obtain⟨f0,f1,f2,f3,f4,f5⟩:=hf it (by simp)
  have W:=Walks.range (prog:=X.prog) (w:=X.w) (I.ok.hd hc) it lo 1 n
  refine W.item i s _ _ hg st fun v h' tk hv st' kk=>?_
  obtain⟨t,rfl⟩:=hv
  have I1:Inv X pins σ H { s with heap:=h',toks:=tk }:=I.turned (fun b o hb e=>kk b o (by simpa using hb) e) f0 f1 f3 f4 f5
  refine⟨_,rfl,Zog (s:={ s with heap:=h',toks:=tk }) (n := "range_iterator") st' rfl rfl (by decide) ⟨.int (lo+i),H,I1,⟨t,?_⟩,⟨rfl,rfl⟩,st',fun b hb=>(hf b hb).1⟩⟩
  rw[Int.mul_one]
 done:=by
  intro X hP hw hK hc i pins s σ H E I hf st hg
  subst hP hw hK
  obtain⟨f0,f1,f2,f3,f4,f5⟩:=hf it (by simp)
  exact wpAny_pyNext_range_end (I.ok.hd hc) st (by have:n≤i:=hg;lia) fun h' eb=>⟨rfl,I.turned (t':=s.toks) (fun b o hb e=>eb b o hb e) f0 f1 f3 f4 f5⟩
 self:=fun _ _ _ _ _ st h=>wpAny_pyIter_rangeiter st h
section
variable {X:Cx} {tg:Expr}
def ZpE(K:PySem.W.Frag)(tl:TE):TI:=fun σ H R=>tl σ H fun x H1=>∃a,x=.ref a∧(∃xs,SqL K H1 a xs)∧R (Itl K a) H1
def ZrU(K:PySem.W.Frag)(tl:TE):TI:=fun σ H R=>tl σ H fun x H1=>∃a,x=.ref a∧(∃xs,SqT K H1 a xs)∧R (Itt K a) H1
theorem ZoC{l:Expr}{tl:TE}(hl:PE X l tl):PI X tg l (ZpE X.K tl):=by
 intro pins s σ H R I h
 refine thn (hl pins s σ H _ I h) ?_
 rintro v s1 ⟨x,H1,I1,r1,q1⟩
 obtain⟨a,e,⟨xs,hq⟩,q⟩:=q1
 subst e
 cases r1
 obtain⟨its,rv,p,hz⟩:=I1.list hq
 refine wpAny_pyIter_list p.isList ?_
 refine⟨s1.heap.objs.size,[s1.heap.objs.size],_,_,H1,rfl,I1.kept (t':=s1.toks) fun b o e=>Qd _ e,Zll a _,⟨_,QA _ rfl,rfl,rfl⟩,fun b hb=>?_,q⟩
 have e:b=s1.heap.objs.size:=by simpa using hb
 subst e
 exact I1.fpOk (Qi _) (I1.hok.fresh (Qi _))
theorem Zql{l:Expr}{tl:TE}(hl:PE X l tl):PI X tg l (ZrU X.K tl):=by
 intro pins s σ H R I h
 refine thn (hl pins s σ H _ I h) ?_
 rintro v s1 ⟨x,H1,I1,r1,q1⟩
 obtain⟨a,e,⟨xs,hq⟩,q⟩:=q1
 subst e
 cases r1
 obtain⟨its,rv,p,hz⟩:=I1.tuple hq
 refine wpAny_pyIter_tuple (show s1.heap.IsTuple a its.toArray from p) ?_
 refine⟨s1.heap.objs.size,[s1.heap.objs.size],_,_,H1,rfl,I1.kept (t':=s1.toks) fun b o e=>Qd _ e,ZjJ a _,⟨_,QA _ rfl,rfl,rfl⟩,fun b hb=>?_,q⟩
 have e:b=s1.heap.objs.size:=by simpa using hb
 subst e
 exact I1.fpOk (Qi _) (I1.hok.fresh (Qi _))
theorem Zjf{pins:List (Addr×Obj)}{σ:St}{H:Hp}{s:Shared}{R:It→Hp→Prop}{E:Value→Shared→Prop}{lo hi:Int}{t u v:Tok}{tk:Nat}(I:Inv X pins σ H s)(h1:-(2 ^ 62)≤lo)(h2:lo<2 ^ 62)(h3:-(2 ^ 62)≤hi)(h4:hi<2 ^ 62)
  (q:R (Itr lo (hi-lo).toNat) H):wpAny (model X.prog X.w) X.A (pyIter (.ref s.heap.objs.size)) (PIE X pins σ tg R) E { s with heap:=s.heap.push { cls:=.type "range",data:=.fields #[.int lo t,.int hi u,.int 1 v] },toks:=tk }:=by
 refine wpAny_pyIter_range (IsRange.new ..) (small_one h1 h2 h3 h4) ?_
 have I1:Inv X pins σ H { s with heap:=s.heap.push { cls:=.type "range",data:=.fields #[.int lo t,.int hi u,.int 1 v] },toks:=tk }:=I.kept fun b o e=>Qd _ e
 refine⟨(s.heap.push { cls:=.type "range",data:=.fields #[.int lo t,.int hi u,.int 1 v] }).objs.size,[(s.heap.push { cls:=.type "range",data:=.fields #[.int lo t,.int hi u,.int 1 v] }).objs.size],_,_,H,rfl,
  I1.kept (t':=tk) fun b o e=>Qd _ e,ZjO _ lo (hi-lo).toNat,?_,fun b hb=>?_,q⟩
 ·have e1:lo+((0:Nat):Int)*1=lo:=by simp
  have e2:(((hi-lo).toNat:Nat):Int)-((0:Nat):Int)=Builtin.Range.rangeSize lo hi 1:=by rw[rangeSize_one];split<;>lia
  show IsRangeIter _ _ (lo+((0:Nat):Int)*1) ((((hi-lo).toNat:Nat):Int)-((0:Nat):Int)) 1
  rw[e1,e2]
  exact QA _ rfl
 ·have e:b=(s.heap.push { cls:=.type "range",data:=.fields #[.int lo t,.int hi u,.int 1 v] }).objs.size:=by simpa using hb
  subst e
  exact I1.fpOk (Qi _) (I1.hok.fresh (Qi _))
def Zrr(ta:TA):TI:=fun σ H R=>ta σ H fun vs H1=>∃j:Int,vs=[.int j] ∧ -(2 ^ 62)≤j∧j<2 ^ 62∧R (Itr 0 j.toNat) H1
def Zrt(ta:TA):TI:=fun σ H R=>ta σ H fun vs H1=>∃i j:Int,vs=[.int i,.int j]∧(-(2 ^ 62)≤i∧i<2 ^ 62 ∧ -(2 ^ 62)≤j∧j<2 ^ 62)∧R (Itr i (j-i).toNat) H1
theorem Zbj{a:Expr}{ta:TA}{p pos:Pos}(hg:Gl X "range")(hm:X.mg "range" = none)(ha:PA X [a] ta)(hs:starEach [a] X.env=[(false,eval a X.env)]:=by rfl):PI X tg (.Call (.Name "range" p) [a] [] pos) (Zrr ta):=by
 intro pins s σ H R I h
 refine Call_ (Zeb I hg hm boot_range (Qad (thn (ha pos pins s σ H _ I h) ?_) hs rfl))
 rintro us s1 ⟨vs,H1,I1,r1,q1⟩
 obtain⟨j,e,q1,q2,q⟩:=q1
 subst e
 cases r1 with
 | cons r rr =>
  cases rr
  obtain⟨t,rfl⟩:=r
  exact call_range_1 (Zjf I1 (by lia) (by lia) q1 q2 (by simpa using q))
theorem ZbR{a b:Expr}{ta:TA}{p pos:Pos}(hg:Gl X "range")(hm:X.mg "range" = none)(ha:PA X [a,b] ta)(hs:starEach [a,b] X.env=[(false,eval a X.env),(false,eval b X.env)]:=by rfl)(hs2:starEach [b] X.env=[(false,eval b X.env)]:=by rfl) :
  PI X tg (.Call (.Name "range" p) [a,b] [] pos) (Zrt ta):=by
 intro pins s σ H R I h
 refine Call_ (Zeb I hg hm boot_range (Qad (thn (ha pos pins s σ H _ I h) ?_) (by rw[hs,hs2]) (by rw[hs2];rfl)))
 rintro us s1 ⟨vs,H1,I1,r1,q1⟩
 obtain⟨i,j,e,⟨q1,q2,q3,q4⟩,q⟩:=q1
 subst e
 cases r1 with
 | cons r rr =>
  cases rr with
  | cons r' rr =>
   cases rr
   obtain⟨t,rfl⟩:=r
   obtain⟨t',rfl⟩:=r'
   exact call_range_2 (Zjf I1 q1 q2 q3 q4 q)
def Zsp(wi:TI)(g:TG)(tb:TS):TS:=fun D σ H=>wi σ H fun J H1=>∃W:Nat→Nat→St→Hp→Prop,(∃m,W 0 m σ H1)∧∀i m σ H,W i m σ H →
 (J.stop i H∧D.nx σ H)∨(J.go i H∧∃N:St→Hp→Prop,(∀σ' H',N σ' H'→∃m',m'<m∧W (i+1) m' σ' H')∧∀x H',J.yld i H x H'→g x σ H' fun σ2 H2=>tb { D with nx:=N,ct:=N,bk:=D.nx } σ2 H2)
def Zf0(fp:List Addr)(h:Heap):List (Addr×Obj):=fp.filterMap fun b=>(h.get? b).map fun o=>(b,o)
theorem Zde{fp:List Addr}{h:Heap}{b:Addr}{o:Obj}(hb:b∈fp)(e:h.get? b=some o):(b,o)∈Zf0 fp h:=List.mem_filterMap.mpr ⟨b,hb,by rw[e];rfl⟩
theorem ZlU{fp:List Addr}{h:Heap}{p:Addr×Obj}(hp:p∈Zf0 fp h):p.1∈fp∧h.get? p.1=some p.2:=by
 obtain⟨b,hb,e⟩:=List.mem_filterMap.mp hp
 cases q:h.get? b with
 | none=>rw[q]at e;cases e
 | some o =>
  rw[q]at e
  have e':(b,o)=p:=Qq e
  subst e'
  exact⟨hb,q⟩
theorem Inv.pinned{pins:List (Addr×Obj)}{σ:St}{H:Hp}{s:Shared}{fp:List Addr}(I:Inv X pins σ H s)(hf:∀b∈fp,Zfm X pins H b)(ho:∀b∈fp,∃o,s.heap.get? b=some o∧∀v,o.data≠.cell v):Inv X (pins++Zf0 fp s.heap) σ H s :=
 I.pins_of fun p hp=>(Qh.mp hp).elim (fun z=>I.pin p (Qo _ z)) fun z=>by
  obtain⟨hb,e⟩:=ZlU z
  obtain⟨f0,f1,f2,_⟩:=hf p.1 hb
  obtain⟨o,e',d⟩:=ho p.1 hb
  rw[e]at e';cases e'
  exact⟨e,f0,f1,f2,d⟩
theorem Inv.unpinned{pins pl:List (Addr×Obj)}{σ:St}{H:Hp}{s:Shared}(I:Inv X (pins++pl) σ H s):Inv X pins σ H s:=I.pins_of fun p hp=>I.pin p (Qo _ (Qp _ hp))
theorem Zbu{iter:Expr}{body:List Stmt}{wi:TI}{g:TG}{tb:TS}{pos:Pos}(hp:PassesOwn (model X.prog X.w) X.A X.env X.xe)(hc:X.calm=true)(hi:PI X tg iter wi)(hg:PG X tg g)(hb:PSs X body tb)
  (hs:∀x,foldedSetIterable iter X.env x=pure x:=by intro _;rfl):PS X (.For tg iter body [] pos) (Zsp wi g tb):=by
 intro pins s σ H D I h
 refine wpAny_For (thn (hi pins s σ H _ I h) fun v s1 h1=>thn h1 fun itv s2 h2=>?_) hs
 obtain⟨it,fp,tn,J,H2,e,I2,T,st2,f2,W,⟨m0,w0⟩,turn⟩:=h2
 subst e
 have stat:∀ {H':Hp},(∀b∈fp,H' b=none)→∀b∈fp,Zfm X pins H' b:=fun hn b hb=>⟨hn b hb,(f2 b hb).2⟩
 refine codeAny_forLoop_any (fun n s'=>∃i σ' H',Inv X pins σ' H' s'∧tn i s'.heap∧(∀b∈fp,H' b=none)∧W i n σ' H') ?_ m0 ⟨0,σ,H2,I2,st2,fun b hb=>(f2 b hb).1,w0⟩
 rintro n s3 ⟨i,σ3,H3,I3,st3,fr3,w3⟩
 rcases turn i n σ3 H3 w3 with⟨stop,qn⟩|⟨go,N,hN,step⟩
 ·refine wpAny_passesOwn hp (thn (T.done X rfl rfl rfl hc i pins s3 σ3 H3 X.xe I3 (stat fr3) st3 stop) ?_)
  rintro r s4 ⟨hr,I4⟩
  subst hr
  exact wpAny_execs_nil ⟨σ3,H3,I4,qn⟩
 ·refine wpAny_passesOwn hp (thn (T.item X rfl rfl rfl hc i pins s3 σ3 H3 X.xe I3 (stat fr3) st3 go) ?_)
  rintro r s4 ⟨u,hr,h4⟩
  subst hr
  refine wpAny_passesOwn hp (thn h4 ?_)
  rintro _ s5 ⟨x,H5,I5,r5,y5,st5,fr5⟩
  have I5':=I5.pinned (stat fr5) (T.obj _ _ st5)
  refine wpAny_passesOwn hp (thn (hg _ s5 σ3 H5 x u _ I5' r5 (step x H5 y5)) ?_)
  rintro _ s6 ⟨σ6,H6,I6,q6⟩
  refine wpAny_passesOwn hp (thn (hb _ s6 σ6 H6 _ I6 q6) fun f s7 q7=>?_)
  have again:∀ {σ7:St} {H7:Hp},Inv X (pins++Zf0 fp s5.heap) σ7 H7 s7→N σ7 H7→∃m,m<n∧∃i σ' H',Inv X pins σ' H' s7∧tn i s7.heap∧(∀b∈fp,H' b=none)∧W i m σ' H':=fun {σ7 H7} I7 n7=>by
   obtain⟨m',hm,w7⟩:=hN σ7 H7 n7
   refine⟨m',hm,i+1,σ7,H7,I7.unpinned,T.keep _ _ _ st5 fun b hb o e=>(I7.pin (b,o) (Qo _ (Qo _ (Zde hb e)))).1,fun b hb=>?_,w7⟩
   obtain⟨o,e,d⟩:=T.obj _ _ st5 b hb
   exact(I7.pin (b,o) (Qo _ (Qo _ (Zde hb e)))).2.1
  cases f with
  | next=>obtain⟨σ7,H7,I7,n7⟩:=q7;exact again I7 n7
  | cont=>obtain⟨σ7,H7,I7,n7⟩:=q7;exact again I7 n7
  | brk=>obtain⟨σ7,H7,I7,q7⟩:=q7;exact⟨σ7,H7,I7.unpinned,q7⟩
  | ret v=>obtain⟨x7,σ7,H7,I7,r7,q7⟩:=q7;exact⟨x7,σ7,H7,I7.unpinned,r7,q7⟩
end
theorem Zi8{K:PySem.W.Frag}{a:Addr}{xs:List V}{g:TG}{tb:TS}{D:Zfl}{σ:St}{H:Hp}(Pv:Nat→St→Hp→Prop)(h0:Pv 0 σ H)(hl:∀i σ H,i≤xs.length→Pv i σ H→SqL K H a xs)
  (hs:∀i x σ H,xs[i]? = some x→Pv i σ H→g x σ H fun σ2 H2=>tb { D with nx:=Pv (i+1),ct:=Pv (i+1),bk:=D.nx } σ2 H2) (hd:∀σ H,Pv xs.length σ H→D.nx σ H) :
  ∃W:Nat→Nat→St→Hp→Prop,(∃m,W 0 m σ H)∧∀i m σ H,W i m σ H →
   ((Itl K a).stop i H∧D.nx σ H)∨((Itl K a).go i H∧∃N:St→Hp→Prop,(∀σ' H',N σ' H'→∃m',m'<m∧W (i+1) m' σ' H')∧∀x H',(Itl K a).yld i H x H'→g x σ H' fun σ2 H2=>tb { D with nx:=N,ct:=N,bk:=D.nx } σ2 H2):=by
 refine⟨fun i m σ H=>m=xs.length-i∧i≤xs.length∧Pv i σ H,⟨xs.length,by simp,Qv _,h0⟩,?_⟩
 rintro i m σ H ⟨rfl,hi,p⟩
 have q:=hl i σ H hi p
 by_cases hlt:i<xs.length
 ·refine .inr ⟨⟨xs,xs[i],q,by simp[hlt]⟩,Pv (i+1),fun σ' H' p'=>⟨xs.length-(i+1),by lia,rfl,hlt,p'⟩,fun x H' y=>?_⟩
  obtain⟨e,y⟩:=y
  subst e
  exact hs i x σ _ (y xs q) p
 ·have e:i=xs.length:=by lia
  subst e
  exact .inl ⟨⟨xs,q,Qi _⟩,hd σ H p⟩
theorem ZaR{lo:Int}{n:Nat}{g:TG}{tb:TS}{D:Zfl}{σ:St}{H:Hp}(Pv:Nat→St→Hp→Prop)(h0:Pv 0 σ H)
  (hs:∀i σ H,i<n→Pv i σ H→g (.int (lo+i)) σ H fun σ2 H2=>tb { D with nx:=Pv (i+1),ct:=Pv (i+1),bk:=D.nx } σ2 H2) (hd:∀σ H,Pv n σ H→D.nx σ H) :
  ∃W:Nat→Nat→St→Hp→Prop,(∃m,W 0 m σ H)∧∀i m σ H,W i m σ H →
   ((Itr lo n).stop i H∧D.nx σ H)∨((Itr lo n).go i H∧∃N:St→Hp→Prop,(∀σ' H',N σ' H'→∃m',m'<m∧W (i+1) m' σ' H')∧∀x H',(Itr lo n).yld i H x H'→g x σ H' fun σ2 H2=>tb { D with nx:=N,ct:=N,bk:=D.nx } σ2 H2):=by
 refine⟨fun i m σ H=>m=n-i∧i≤n∧Pv i σ H,⟨n,by simp,Qv _,h0⟩,?_⟩
 rintro i m σ H ⟨rfl,hi,p⟩
 by_cases hlt:i<n
 ·refine .inr ⟨hlt,Pv (i+1),fun σ' H' p'=>⟨n-(i+1),by lia,rfl,hlt,p'⟩,fun x H' y=>?_⟩
  obtain⟨e,y⟩:=y
  subst e y
  exact hs i σ _ hlt p
 ·have e:i=n:=by lia
  subst e
  exact .inl ⟨Qi _,hd σ H p⟩
abbrev R2:=V→V→Hp→VK→Prop
def OpR(X:Cx)(f:Value→Value→Sem Value)(r:R2):Prop :=
 ∀ (pins:List (Addr×Obj)) (s:Shared) (σ:St) (H:Hp) (x y:V) (v u:Value) (Q:VK),Inv X pins σ H s→ZE x v→ZE y u→r x y H Q →
  wpAny (model X.prog X.w) X.A (f v u) (EP X pins σ Q) X.xe s
def UnR(X:Cx)(f:Value→Sem Value)(r:V→Hp→VK→Prop):Prop :=
 ∀ (pins:List (Addr×Obj)) (s:Shared) (σ:St) (H:Hp) (x:V) (v:Value) (Q:VK),Inv X pins σ H s→ZE x v→r x H Q →
  wpAny (model X.prog X.w) X.A (f v) (EP X pins σ Q) X.xe s
def Z5(X:Cx)(f:Value)(r:List V→Hp→VK→Prop):Prop :=
 ∀ (pins:List (Addr×Obj)) (s:Shared) (σ:St) (H:Hp) (xs:List V) (us:List Value) (Q:VK),Inv X pins σ H s→Zy xs us→r xs H Q →
  wpAny (model X.prog X.w) X.A (call f us) (EP X pins σ Q) X.xe s
def tOp(r:R2)(ta tb:TE):TE:=fun σ H Q=>ta σ H fun x H1=>tb σ H1 fun y H2=>r x y H2 Q
def tUn(r:V→Hp→VK→Prop)(ta:TE):TE:=fun σ H Q=>ta σ H fun x H1=>r x H1 Q
inductive RI2 (x y:V) (B:Int→Int→Prop):Prop where
 | mk (i j:Int) (a:x=.int i) (b:y=.int j) (q:B i j)
inductive RI3 (x y:V) (C B:Int→Int→Prop):Prop where
 | mk (i j:Int) (a:x=.int i) (b:y=.int j) (c:C i j) (q:B i j)
def rI(C:Int→Int→Prop)(g:Int→Int→V):R2:=fun x y H Q=>RI3 x y C (fun i j=>Q (g i j) H)
def rI0(g:Int→Int→V):R2:=fun x y H Q=>RI2 x y (fun i j=>Q (g i j) H)
def rU(g:Int→V):V→Hp→VK→Prop:=fun x H Q=>EA (fun i=>x=.int i) (fun i=>Q (g i) H)
section
variable {X:Cx} {a b c:Expr} {ta tb tc:TE} {pos:Pos}
theorem ZpY(ha:PE X a ta)(hb:PE X b tb){pins:List (Addr×Obj)}{s:Shared}{σ:St}{H:Hp}{R:V→V→Hp→Prop}(I:Inv X pins σ H s)
  (h:ta σ H fun x H1=>tb σ H1 fun y H2=>R x y H2) {Q:Value→Shared→Prop} {f:Value→Value→Sem Value}
  (hf:∀v u s2 x y H2,Inv X pins σ H2 s2→ZE x v→ZE y u→R x y H2→wpAny (model X.prog X.w) X.A (f v u) Q X.xe s2) :
  wpAny (model X.prog X.w) X.A (eval a X.env) (fun v s₁=>wpAny (model X.prog X.w) X.A (eval b X.env) (fun u s₂=>wpAny (model X.prog X.w) X.A (f v u) Q X.xe s₂) X.xe s₁) X.xe s:=by
 refine thn (ha pins s σ H _ I h) ?_
 rintro v s1 ⟨x,H1,I1,r1,q1⟩
 refine thn (hb pins s1 σ H1 _ I1 q1) ?_
 rintro u s2 ⟨y,H2,I2,r2,q2⟩
 exact hf v u s2 x y H2 I2 r1 r2 q2
theorem ZC{op:Operator}{r:R2}(ho:OpR X (binaryOp op) r)(ha:PE X a ta)(hb:PE X b tb):PE X (.BinOp a op b pos) (tOp r ta tb):=by
 intro pins s σ H Q I h
 exact wpAny_BinOp (ZpY ha hb I h fun v u s2 x y H2 I2 rx ry q=>ho pins s2 σ H2 x y v u Q I2 rx ry q)
theorem Zhc{op:UnaryOp}{r:V→Hp→VK→Prop}(ho:UnR X (unaryOp op) r)(ha:PE X a ta):PE X (.UnaryOp op a pos) (tUn r ta):=by
 intro pins s σ H Q I h
 exact UnaryOp_ (thn (ha pins s σ H _ I h) fun v s1 ⟨x,H1,I1,r1,q1⟩=>ho pins s1 σ H1 x v Q I1 r1 q1)
theorem opI{f:Value→Value→Sem Value}{C:Int→Int→Prop}{g:Int→Int→Int}
  (rule:∀ (i j:Int) (t u:Tok) (s:Shared) (Q:Value→Shared→Prop) (E:Value→Shared→Prop),C i j→Q (.int (g i j) s.toks) { s with toks:=s.toks+1 }→wpAny (model X.prog X.w) X.A (f (.int i t) (.int j u)) Q E s) :
  OpR X f (rI C fun i j=>.int (g i j)):=by
 intro pins s σ H x y v u Q I rx ry h
 obtain⟨i,j,rfl,rfl,hc,q⟩:=h
 obtain⟨t,rfl⟩:=rx
 obtain⟨t',rfl⟩:=ry
 exact rule i j t t' s _ _ hc ⟨.int (g i j),H,I.tok _,⟨_,rfl⟩,q⟩
theorem Zsb{f:Value→Value→Sem Value}{g:Int→Int→Int}
  (rule:∀ (i j:Int) (t u:Tok) (s:Shared) (Q:Value→Shared→Prop) (E:Value→Shared→Prop),Q (.int (g i j) s.toks) { s with toks:=s.toks+1 }→wpAny (model X.prog X.w) X.A (f (.int i t) (.int j u)) Q E s) :
  OpR X f (rI0 fun i j=>.int (g i j)):=by
 intro pins s σ H x y v u Q I rx ry h
 obtain⟨i,j,rfl,rfl,q⟩:=h
 obtain⟨t,rfl⟩:=rx
 obtain⟨t',rfl⟩:=ry
 exact rule i j t t' s _ _ ⟨.int (g i j),H,I.tok _,⟨_,rfl⟩,q⟩
theorem ZqQ{f:Value→Value→Sem Value}{g:Int→Int→Bool}
  (rule:∀ (i j:Int) (t u:Tok) (s:Shared) (Q:Value→Shared→Prop) (E:Value→Shared→Prop),Q (.bool (g i j)) s→wpAny (model X.prog X.w) X.A (f (.int i t) (.int j u)) Q E s) :
  OpR X f (rI0 fun i j=>.bl (g i j)):=by
 intro pins s σ H x y v u Q I rx ry h
 obtain⟨i,j,rfl,rfl,q⟩:=h
 obtain⟨t,rfl⟩:=rx
 obtain⟨t',rfl⟩:=ry
 exact rule i j t t' s _ _ ⟨.bl (g i j),H,I,rfl,q⟩
def Zsy(i j:Int):Prop:=0<j∧j<1073741824
def ZrG(i j:Int):Prop:=0≤j∧j≤1000000∧i.natAbs<2 ^ 64
def Zrh(i j:Int):Prop:=(-(2 ^ 64)<i∧i<2 ^ 64)∨(-(2 ^ 64)<j∧j<2 ^ 64)
theorem Zrh.ok{i j:Int}(h:Zrh i j):IntMulOk i j:=by
 rcases h with⟨h1,h2⟩|⟨h1,h2⟩
 ·exact .of_left (intBits_le_64 h1 h2)
 ·exact .of_right (intBits_le_64 h1 h2)
theorem ZV:OpR X (binaryOp .Add) (rI0 fun i j=>.int (i+j)):=Zsb fun _ _ _ _ _ _ _ q=>add_int q
theorem Zb5:OpR X (binaryOp .Sub) (rI0 fun i j=>.int (i-j)):=Zsb fun _ _ _ _ _ _ _ q=>sub_int q
theorem ZeZ:OpR X (binaryOp .Mult) (rI Zrh fun i j=>.int (i*j)):=opI fun _ _ _ _ _ _ _ hc q=>mul_int q hc.ok
theorem ZfA:OpR X (binaryOp .FloorDiv) (rI Zsy fun i j=>.int (i / j)):=opI fun i j _ _ _ _ _ hc q=>by
 have h1:(0:Int)<j:=hc.1
 have h2:j<1073741824:=hc.2
 exact floordiv_int (by lia) (by rw[Int.fdiv_eq_ediv_of_nonneg i (by lia)];exact q) (.inl (PyProof.noPylong_small (by lia)))
theorem Zf7:OpR X (binaryOp .Mod) (rI (fun _ j=>0<j) fun i j=>.int (i % j)):=opI fun i j _ _ _ _ _ hc q=>by
 have h1:(0:Int)<j:=hc
 exact mod_int' (by lia) (by rw[Int.fmod_eq_emod_of_nonneg i (by lia)];exact q)
theorem Zq3:OpR X (binaryOp .Pow) (rI ZrG fun i j=>.int (i ^ j.toNat)):=opI fun _ _ _ _ _ _ _ hc q=>pow_int_small hc.1 hc.2.1 hc.2.2 q
theorem unI{f:Value→Sem Value}{g:Int→Int}
  (rule:∀ (i:Int) (t:Tok) (s:Shared) (Q:Value→Shared→Prop) (E:Value→Shared→Prop),Q (.int (g i) s.toks) { s with toks:=s.toks+1 }→wpAny (model X.prog X.w) X.A (f (.int i t)) Q E s) :
  UnR X f (rU fun i=>.int (g i)):=by
 intro pins s σ H x v Q I rx h
 obtain⟨i,rfl,q⟩:=h
 obtain⟨t,rfl⟩:=rx
 exact rule i t s _ _ ⟨.int (g i),H,I.tok _,⟨_,rfl⟩,q⟩
theorem Ze9:UnR X (unaryOp .USub) (rU fun i=>.int (-i)):=unI fun _ _ _ _ _ q=>neg_int q
end
def ZrB:V→V→Bool
 | .non,.non=>true|.non,.int _=>true|.int _,.non=>true|.non,.bl _=>true|.bl _,.non=>true|.non,.str _=>true|.str _,.non=>true
 | .int _,.int _=>true|.bl _,.bl _=>true|.str _,.str _=>true|.byt _,.byt _=>true
 | .int _,.str _=>true|.str _,.int _=>true|.bl _,.str _=>true|.str _,.bl _=>true
 | _,_=>false
def rEq:R2:=fun x y H Q=>ZrB x y=true∧Q (.bl (decide (x=y))) H
def rNe:R2:=fun x y H Q=>ZrB x y=true∧Q (.bl (!decide (x=y))) H
theorem Zj7{i j:Int}:decide (V.int i=V.int j)=(i == j):=by
 rw[QaV]
 simp
theorem Znh{i j:Bool}:decide (V.bl i=V.bl j)=(i == j):=by
 rw[QaV]
 simp
theorem Zkx{i j:Str}:decide (V.str i=V.str j)=(i == j):=by
 rw[QaV]
 simp
theorem Zj6{i j:Array UInt8}:decide (V.byt i=V.byt j)=(i.toList == j.toList):=by
 rw[QaV]
 cases i
 cases j
 simp
section
variable {X:Cx} {a b c:Expr} {ta tb tc:TE} {pos:Pos}
theorem ZR{pins:List (Addr×Obj)}{σ:St}{H:Hp}{s:Shared}{Q:VK}{k k':Bool}(I:Inv X pins σ H s)(q:Q (.bl k) H)(e:k=k'):EP X pins σ Q (.bool k') s:=by
 subst e
 exact⟨.bl k,H,I,rfl,q⟩
theorem Za7:OpR X (compareOp .Eq) rEq:=by
 intro pins s σ H x y v u Q I rx ry h
 obtain⟨hs,q⟩:=h
 cases x with
 | non =>
  cases rx
  cases y with
  | non=>cases ry;exact PySem.EqNone.eq_none_none (ZR I q (by simp))
  | bl j=>cases ry;exact PySem.EqNone.eq_none_bool (ZR I q (by simp))
  | int j=>obtain⟨t',rfl⟩:=ry;exact PySem.EqNone.eq_none_int (ZR I q (by simp))
  | str j=>obtain⟨t',rfl⟩:=ry;exact PySem.EqNone.eq_none_str (ZR I q (by simp))
  | _=>exact absurd (show false=true from hs) Qz
 | bl i =>
  cases rx
  cases y with
  | non=>cases ry;exact PySem.EqNone.eq_bool_none (ZR I q (by simp))
  | bl j=>cases ry;exact eq_bool (ZR I q Znh)
  | str j=>obtain⟨t',rfl⟩:=ry;exact PySem.EqMixed.eq_bool_str (ZR I q (by simp))
  | _=>exact absurd (show false=true from hs) Qz
 | int i =>
  obtain⟨t,rfl⟩:=rx
  cases y with
  | non=>cases ry;exact PySem.EqNone.eq_int_none (ZR I q (by simp))
  | int j=>obtain⟨t',rfl⟩:=ry;exact eq_int (ZR I q Zj7)
  | str j=>obtain⟨t',rfl⟩:=ry;exact PySem.EqMixed.eq_int_str (ZR I q (by simp))
  | _=>exact absurd (show false=true from hs) Qz
 | str i =>
  obtain⟨t,rfl⟩:=rx
  cases y with
  | non=>cases ry;exact PySem.EqNone.eq_str_none (ZR I q (by simp))
  | bl j=>cases ry;exact PySem.EqMixed.eq_str_bool (ZR I q (by simp))
  | int j=>obtain⟨t',rfl⟩:=ry;exact PySem.EqMixed.eq_str_int (ZR I q (by simp))
  | str j=>obtain⟨t',rfl⟩:=ry;exact eq_str (ZR I q Zkx)
  | _=>exact absurd (show false=true from hs) Qz
 | byt i =>
  obtain⟨t,rfl⟩:=rx
  cases y with
  | byt j=>obtain⟨t',rfl⟩:=ry;exact PySem.W.eq_bytes (ZR I q Zj6)
  | _=>exact absurd (show false=true from hs) Qz
 | _=>cases y<;>exact absurd (show false=true from hs) Qz
theorem ZpB:OpR X (compareOp .NotEq) rNe:=by
 intro pins s σ H x y v u Q I rx ry h
 obtain⟨hs,q⟩:=h
 cases x with
 | non =>
  cases rx
  cases y with
  | non=>cases ry;exact PySem.EqNone.ne_none_none (ZR I q (by simp))
  | bl j=>cases ry;exact PySem.EqNone.ne_none_bool (ZR I q (by simp))
  | int j=>obtain⟨t',rfl⟩:=ry;exact PySem.EqNone.ne_none_int (ZR I q (by simp))
  | str j=>obtain⟨t',rfl⟩:=ry;exact PySem.EqNone.ne_none_str (ZR I q (by simp))
  | _=>exact absurd (show false=true from hs) Qz
 | bl i =>
  cases rx
  cases y with
  | non=>cases ry;exact PySem.EqNone.ne_bool_none (ZR I q (by simp))
  | bl j=>cases ry;exact ne_bool (ZR I q (congrArg not Znh))
  | str j=>obtain⟨t',rfl⟩:=ry;exact PySem.EqMixed.ne_bool_str (ZR I q (by simp))
  | _=>exact absurd (show false=true from hs) Qz
 | int i =>
  obtain⟨t,rfl⟩:=rx
  cases y with
  | non=>cases ry;exact PySem.EqNone.ne_int_none (ZR I q (by simp))
  | int j=>obtain⟨t',rfl⟩:=ry;exact ne_int (ZR I q (congrArg not Zj7))
  | str j=>obtain⟨t',rfl⟩:=ry;exact PySem.EqMixed.ne_int_str (ZR I q (by simp))
  | _=>exact absurd (show false=true from hs) Qz
 | str i =>
  obtain⟨t,rfl⟩:=rx
  cases y with
  | non=>cases ry;exact PySem.EqNone.ne_str_none (ZR I q (by simp))
  | bl j=>cases ry;exact PySem.EqMixed.ne_str_bool (ZR I q (by simp))
  | int j=>obtain⟨t',rfl⟩:=ry;exact PySem.EqMixed.ne_str_int (ZR I q (by simp))
  | str j=>obtain⟨t',rfl⟩:=ry;exact ne_str (ZR I q (congrArg not Zkx))
  | _=>exact absurd (show false=true from hs) Qz
 | byt i =>
  obtain⟨t,rfl⟩:=rx
  cases y with
  | byt j=>obtain⟨t',rfl⟩:=ry;exact PySem.W.ne_bytes (ZR I q (congrArg not Zj6))
  | _=>exact absurd (show false=true from hs) Qz
 | _=>cases y<;>exact absurd (show false=true from hs) Qz
theorem Zd4:OpR X (compareOp .Lt) (rI0 fun i j=>.bl (decide (i<j))):=ZqQ fun _ _ _ _ _ _ _ q=>lt_int q
theorem ZfF:OpR X (compareOp .Gt) (rI0 fun i j=>.bl (decide (j<i))):=ZqQ fun _ _ _ _ _ _ _ q=>gt_int q
theorem ZpG:OpR X (compareOp .GtE) (rI0 fun i j=>.bl (decide (j≤i))):=ZqQ fun _ _ _ _ _ _ _ q=>ge_int q
theorem ZgV:OpR X (compareOp .Lt) (fun x y H Q=>∃i j,x=.str i∧y=.str j∧Q (.bl (decide (i.cps.toList<j.cps.toList))) H):=by
 intro pins s σ H x y v u Q I rx ry h
 obtain⟨i,j,rfl,rfl,q⟩:=h
 obtain⟨t,rfl⟩:=rx
 obtain⟨t',rfl⟩:=ry
 exact lt_str (ZR I q rfl)
theorem ZcG:OpR X (compareOp .Is) (fun x y H Q=>y=.non∧Q (.bl (decide (x=.non))) H):=by
 intro pins s σ H x y v u Q I rx ry h
 obtain⟨rfl,q⟩:=h
 cases ry
 refine is_none_gen (ZR I q ?_)
 cases x<;>first
  | (cases rx;rfl)
  | (obtain⟨t,rfl⟩:=rx;rfl)
theorem ZhD:OpR X (compareOp .IsNot) (fun x y H Q=>y=.non∧Q (.bl (!decide (x=.non))) H):=by
 intro pins s σ H x y v u Q I rx ry h
 obtain⟨rfl,q⟩:=h
 cases ry
 refine isnot_none_gen (ZR I q ?_)
 cases x<;>first
  | (cases rx;rfl)
  | (obtain⟨t,rfl⟩:=rx;rfl)
theorem Zs(b:Expr){op:CmpOp}(h:op≠.In:=by decide)(h2:op≠.NotIn:=by decide):behindInMarks op b=false:=by
 have e1:(op == CmpOp.In)=false:=by cases op<;>first|rfl|exact absurd rfl h
 have e2:(op == CmpOp.NotIn)=false:=by cases op<;>first|rfl|exact absurd rfl h2
 cases b<;>simp[behindInMarks,e1,e2]
theorem Zdh{op:CmpOp}{r:R2}(ho:OpR X (compareOp op) r)(ha:PE X a ta)(hb:PE X b tb)(hm:behindInMarks op b=false):PE X (.Compare a [op] [b] pos) (tOp r ta tb):=by
 intro pins s σ H Q I h
 exact wpAny_Compare1 (ZpY ha hb I h fun v u s2 x y H2 I2 rx ry q=>ho pins s2 σ H2 x y v u Q I2 rx ry q) hm
def ZrC(t:TE):TT:=fun σ H Q=>t σ H fun x H'=>EA (fun k=>x=.bl k) (fun k=>Q k H')
theorem Zn{op:CmpOp}{r:R2}(ho:OpR X (compareOp op) r)(ha:PE X a ta)(hb:PE X b tb)(hm:behindInMarks op b=false):PT X (.Compare a [op] [b] pos) (ZrC (tOp r ta tb)):=by
 intro pins s σ H Q I h
 refine wpAny_isTrue_Compare1 (thn (ha pins s σ H _ I h) fun v s1 ⟨x,H1,I1,r1,q1⟩=>thn (hb pins s1 σ H1 _ I1 q1) fun u s2 ⟨y,H2,I2,r2,q2⟩=>
  thn (ho pins s2 σ H2 x y v u _ I2 r1 r2 q2) fun c s3 ⟨z,H3,I3,r3,k,e,q3⟩=>?_) hm
 subst e
 cases r3
 exact wpAny_truthy_bool ⟨H3,I3,q3⟩
theorem Ze2:(sizeLine:Nat)<2 ^ 63:=by rw[sizeLine_eq];decide
theorem ZjH:OpR X (binaryOp .Add) (fun x y H Q=>∃i j,x=.str i∧y=.str j∧i.length+j.length≤sizeLine∧Q (.str (i++j)) H):=by
 intro pins s σ H x y v u Q I rx ry h
 obtain⟨i,j,rfl,rfl,hz,q⟩:=h
 obtain⟨t,rfl⟩:=rx
 obtain⟨t',rfl⟩:=ry
 exact add_str (fun t' tk=>⟨.str (i++j),H,I.tok _,⟨_,rfl⟩,q⟩) hz
theorem ZbJ{x:V}{us:List Value}(r:Zy [x] us):∃u,us=[u]∧ZE x u:=by
 cases r with
 | cons r1 r2=>cases r2;exact⟨_,rfl,r1⟩
theorem Zko{x y:V}{us:List Value}(r:Zy [x,y] us):∃u w',us=[u,w']∧ZE x u∧ZE y w':=by
 cases r with
 | cons r1 r2 =>
  cases r2 with
  | cons r3 r4=>cases r4;exact⟨_,_,rfl,r1,r3⟩
theorem ZiS:Z5 X (.builtin "abs") (fun xs H Q=>∃i,xs=[.int i]∧Q (.int (if i<0 then -i else i)) H):=by
 intro pins s σ H xs us Q I r h
 obtain⟨i,rfl,q⟩:=h
 obtain⟨u,rfl,t,rfl⟩:=ZbJ r
 exact call_abs_int fun u tk=>⟨.int (if i<0 then -i else i),H,I.tok _,⟨_,rfl⟩,q⟩
theorem ZlI(hc:X.calm=true):Z5 X (.builtin "max") (fun xs H Q=>∃i j,xs=[.int i,.int j]∧Q (.int (if j>i then j else i)) H):=by
 intro pins s σ H xs us Q I r h
 obtain⟨i,j,rfl,q⟩:=h
 obtain⟨u,w',rfl,⟨t,rfl⟩,⟨t',rfl⟩⟩:=Zko r
 refine max_two_ints (I.ok.hd hc) fun h' tk k=>⟨_,H,I.kept k,?_,q⟩
 by_cases hj:j>i
 ·rw[if_pos hj,if_pos hj];exact⟨_,rfl⟩
 ·rw[if_neg hj,if_neg hj];exact⟨_,rfl⟩
theorem Zci(hc:X.calm=true):Z5 X (.builtin "min") (fun xs H Q=>∃i j,xs=[.int i,.int j]∧Q (.int (if j<i then j else i)) H):=by
 intro pins s σ H xs us Q I r h
 obtain⟨i,j,rfl,q⟩:=h
 obtain⟨u,w',rfl,⟨t,rfl⟩,⟨t',rfl⟩⟩:=Zko r
 refine min_two_ints (I.ok.hd hc) fun h' tk k=>⟨_,H,I.kept k,?_,q⟩
 by_cases hj:j<i
 ·rw[if_pos hj,if_pos hj];exact⟨_,rfl⟩
 ·rw[if_neg hj,if_neg hj];exact⟨_,rfl⟩
theorem Zg3:Z5 X (.type "int") (fun xs H Q=>(∃i,xs=[.int i]∧Q (.int i) H)∨∃k,xs=[.bl k]∧Q (.int (if k then 1 else 0)) H):=by
 intro pins s σ H xs us Q I r h
 rcases h with⟨i,rfl,q⟩|⟨k,rfl,q⟩
 ·obtain⟨u,rfl,t,rfl⟩:=ZbJ r
  exact call_int_int ⟨.int i,H,I,⟨_,rfl⟩,q⟩
 ·obtain⟨u,rfl,r1⟩:=ZbJ r
  cases r1
  exact call_int_bool ⟨.int (if k then 1 else 0),H,I.tok _,⟨_,rfl⟩,q⟩
end
structure ZjA (h:Heap) (x dx C:Addr) (mA:Str→Option Value):Prop where
 obj:h.get? x=some (PySem.W.instObj C dx)
 ns:h.Ns1 dx mA
 ne:dx≠x
theorem ZlZ{h:Heap}{dx:Addr}{mA:Str→Option Value}(n:h.Ns1 dx mA):∃od,h.get? dx=some od∧∀name,PySem.W.lookIn name od=some (mA name):=by
 obtain⟨o,es,ep,ho,hd,hk,_,hm⟩:=n
 refine⟨o,ho,fun name=>?_⟩
 have e:=hm name
 unfold nsFind findBy at e
 rw[← Array.find?_toList]at e
 unfold PySem.W.lookIn
 rw[hd]
 dsimp only
 split
 ·rename_i y q
  rw[q]at e
  exact congrArg some e
 ·rename_i q
  rw[q]at e
  have a:es.toList.any (·.refKey)=false:=by
   rw[List.any_eq_false]
   intro y hy
   obtain⟨z,t,hkey⟩:=hk y (Array.mem_toList_iff.mp hy)
   simp[DictEntry.refKey,hkey]
  have a':¬ es.toList.any (·.refKey)=true:=by rw[a];exact Qz
  rw[if_neg a']
  exact congrArg some e
theorem ZjA.look{h:Heap}{x dx C:Addr}{mA:Str→Option Value}(I:ZjA h x dx C mA):∃od,PySem.W.InstAt h x (PySem.W.instObj C dx) C (some od)∧∀name,PySem.W.lookIn name od=some (mA name) :=
 let ⟨od,ho,hl⟩:=ZlZ I.ns
 ⟨od,⟨I.obj,rfl,rfl,ho⟩,hl⟩
section
variable {prog:Program} {w:World} {A:Around} {E:Value→Shared→Prop} {s:Shared} {K:PySem.W.Frag} {x dx C f:Addr} {mA:Str→Option Value} {name:Str} {v:Value}
theorem ZoR{expr:Bool}{Q:Value→Shared→Prop}(X:K.In s.heap)(I:ZjA s.heap x dx C mA)(hg:PySem.W.plainGet K C name=true)(hh:PySem.W.hasDictIn K C=true)
  (ha:PySem.W.findIn K (.ref C) name=some none) (hv:mA name=some v) (hv':PySem.W.handedIn v=true) (h:Q v { s with toks:=s.toks+1 }) :
  wpAny (model prog w) A (getAttr (.ref x) name expr) Q E s:=by
 obtain⟨od,J,hl⟩:=I.look
 exact PySem.W.get_value X J (PySem.W.plainGet_of hg).1 (PySem.W.findObj_own hh ha rfl (by rw[hl,hv])) hv' h
theorem Zn9{pl:Sem Bool}{Q:Value×List Value→Shared→Prop}(X:K.In s.heap)(I:ZjA s.heap x dx C mA)(hg:PySem.W.plainGet K C name=true)
  (hf:PySem.W.findIn K (.ref C) name=some (some (.ref f))) (ht:PySem.W.isFn K (.ref f)=true) (hv:mA name=none) (h:Q (.ref f,[.ref x]) s) :
  wpAny (model prog w) A (getMethod (.ref x) name pl) Q E s:=by
 obtain⟨od,J,hl⟩:=I.look
 exact PySem.W.method_fn X J (PySem.W.plainGet_of hg).1 (PySem.W.plainGet_of hg).2 hf (beq_iff_eq.mp ht) (by show (PySem.W.lookIn name od).map (·.isSome)=some false;rw[hl,hv];rfl) h
theorem Zps{ns:List Str}{Q:Unit→Shared→Prop}(X:K.In s.heap)(I:ZjA s.heap x dx C mA)
  (hs:PySem.W.findIn K (.ref C) "__setattr__" = some (some (.builtin "object.__setattr__"))) (hp:PySem.W.plainOver K C=true) (ht:PySem.W.takerIn K C name=some none) (hh:PySem.W.hasDictIn K C=true)
  (hw:PySem.Within mA ns) (hsz:ns.length≤sizeLine)
  (h:∀h',ZjA h' x dx C (fun y=>if y=name then some v else mA y)→Heap.SameBut dx s.heap h'→Q () { s with heap:=h',toks:=s.toks+2 }) :
  wpAny (model prog w) A (setAttr (.ref x) name v) Q E s:=by
 obtain⟨od,J,hl⟩:=I.look
 refine PySem.W.set_plain X J hs (PySem.W.osa_open (s:={ s with toks:=s.toks+1 }) (r:=none) X J hp ht fun b=>?_)
 obtain⟨cd,hc,hd'⟩:=PySem.W.any_some hh
 have hx:s.heap.get? x=some ⟨.ref C,some dx,.plain,#[]⟩:=I.obj
 refine wpAny_bind (wpAny_pure (wpAny_bind (wpAny_bind (wpAny_loadPart hx (wpAny_bind (PySem.W.Looks.here (s:={ s with toks:=s.toks+1 }) (PySem.W.looks_clsIn X hc) ?_))))))
 rw[hd']
 refine wpAny_pure (a:=some dx) (wpAny_bind (wpAny_pure (wpAny_bind ?_)))
 refine wpAny_nsSet1 (s:={ s with toks:=s.toks+1 }) I.ns fun h' hn2 hs2=>?_
 obtain⟨oD,esD,epD,hoD,hdD,hcD⟩:=hn2.count (PySem.Within.cons name v hw)
 refine wpAny_bind (wpAny_lookBehind hoD (by rw[hdD];exact pastItsLine_dict (QP hcD (by rw[QK];lia))) ?_)
 exact wpAny_pure (h _ ⟨(hs2.2 _ (Ne.symm I.ne)).trans I.obj,hn2,I.ne⟩ hs2)
theorem Zmg{R:Result→Shared→Prop}{vs:List Value}{kw:List (Str×Value)}(X:K.In s.heap)(hm:PySem.W.makesIn K C=true)
  (hi:PySem.W.findIn K (.ref C) "__init__" = some (some (.ref f))) (hf:PySem.W.typeIn K (.ref f)=some (.type "function"))
  (h:codeAny (model prog w) (A.under (.builtin "type.__call__" ⟨.ref C::vs,kw⟩)) (.call (.ref f) ⟨.ref (s.heap.objs.size+1)::vs,kw⟩) (PySem.W.InitBack (s.heap.objs.size+1) R)
   { s with heap:=(s.heap.push PySem.W.emptyDict).push (PySem.W.instObj C s.heap.objs.size) }) :
  codeAny (model prog w) A (.call (.ref C) ⟨vs,kw⟩) R s:=by
 obtain⟨hh,g,d,t,os⟩:=s
 exact PySem.W.make_core (PySem.W.makes_of X hm) (PySem.W.looks_findIn X hi) (fun self=>PySem.W.bind_fn X self hf) (.inl rfl) h
end
def Zq(f:Str)(v:V):List (Str×V)→List (Str×V)
 | []=>[(f,v)]
 | (g,x)::r=>if g=f then (g,v)::r else (g,x)::Zq f v r
theorem Zl(f g:Str)(v:V):∀fs:List (Str×V),(Zq f v fs).lookup g=if g=f then some v else fs.lookup g
 | []=>by
  show List.lookup g [(f,v)]=_
  by_cases h:g=f
  ·have hb:(g == f)=true:=beq_iff_eq.mpr h
   simp only[List.lookup,hb,if_pos h]
  ·have hb:(g == f)=false:=beq_eq_false_iff_ne.mpr h
   simp only[List.lookup,hb,if_neg h]
 | (k,x)::r=>by
  have ih:=Zl f g v r
  rw[show Zq f v ((k,x)::r)=(if k=f then (k,v)::r else (k,x)::Zq f v r) from rfl]
  by_cases hk:k=f
  ·rw[if_pos hk]
   by_cases h:g=k
   ·have hb:(g == k)=true:=beq_iff_eq.mpr h
    simp only[List.lookup,hb,if_pos (h.trans hk)]
   ·have hb:(g == k)=false:=beq_eq_false_iff_ne.mpr h
    simp only[List.lookup,hb,if_neg (fun e:g=f=>h (e.trans hk.symm))]
  ·rw[if_neg hk]
   by_cases h:g=k
   ·have hb:(g == k)=true:=beq_iff_eq.mpr h
    simp only[List.lookup,hb,if_neg (fun e:g=f=>hk (h.symm.trans e))]
   ·have hb:(g == k)=false:=beq_eq_false_iff_ne.mpr h
    simp only[List.lookup,hb]
    exact ih
theorem Ze1(f:Str)(v:V):∀fs:List (Str×V),f∈(Zq f v fs).map (·.1)∧∀g,g∈fs.map (·.1)→g∈(Zq f v fs).map (·.1)
 | []=>⟨by simp[Zq],fun g h=>by simp at h⟩
 | (k,x)::r=>by
  obtain⟨i1,i2⟩:=Ze1 f v r
  rw[show Zq f v ((k,x)::r)=(if k=f then (k,v)::r else (k,x)::Zq f v r) from rfl]
  by_cases hk:k=f
  ·rw[if_pos hk]
   subst hk
   exact⟨by simp,fun g h=>by simpa using h⟩
  ·rw[if_neg hk]
   refine⟨?_,fun g h=>?_⟩
   ·rw[Ql]
    exact Qy _ i1
   ·rw[Ql]at h ⊢
    rcases QO.mp h with e|e
    ·exact List.mem_cons.mpr (.inl e)
    ·exact Qy _ (i2 g e)
theorem Zfd(f:Str)(v:V):∀fs:List (Str×V),(Zq f v fs).length≤fs.length+1
 | []=>by simp[Zq]
 | (k,x)::r=>by
  have ih:=Zfd f v r
  rw[show Zq f v ((k,x)::r)=(if k=f then (k,v)::r else (k,x)::Zq f v r) from rfl]
  by_cases hk:k=f
  ·rw[if_pos hk,QK,QK];lia
  ·rw[if_neg hk,QK,QK];lia
theorem Zdm.some_of{v:V}{o:Option Value}(r:Zdm (some v) o):∃u,o=some u∧ZE v u:=by
 cases o with
 | none=>exact(show False from r).elim
 | some u=>exact⟨u,rfl,r⟩
theorem Zdm.none_of{o:Option Value}(r:Zdm none o):o=none:=by
 cases o with
 | none=>rfl
 | some u=>exact(show False from r).elim
theorem Zk2{v:V}{u:Value}(r:ZE v u):PySem.W.handedIn u=true:=by
 cases v with
 | non=>cases (show u=Value.none from r);rfl
 | bl b=>cases (show u=Value.bool b from r);rfl
 | int i=>obtain⟨t,e⟩:=(show ∃t,u=Value.int i t from r);cases e;rfl
 | str x=>obtain⟨t,e⟩:=(show ∃t,u=Value.str x t from r);cases e;rfl
 | byt b=>obtain⟨t,e⟩:=(show ∃t,u=Value.bytes b t from r);cases e;rfl
 | flt b=>obtain⟨t,e⟩:=(show ∃t,u=Value.float b t from r);cases e;rfl
 | ref a=>cases (show u=Value.ref a from r);rfl
 | ty n=>cases (show u=Value.type n from r);rfl
section
variable {P:Program} {w:World} {H H':Hp} {h h':Heap} {a C dx:Addr} {fs fs':List (Str×V)}
theorem Zeo(hok:HOk P w H h)(e:H a=some (.ins C dx fs)):∃mA,ZjA h a dx C mA∧(∀f,Zdm (fs.lookup f) (mA f))∧PySem.Within mA (fs.map (·.1))∧fs.length≤1000∧H dx=some (.own a):=by
 obtain⟨d,z,ne,ob,mA,n,r,q⟩:=(show Zad P w H h a (.ins C dx fs) from hok a _ e)
 exact⟨mA,⟨ob,n,ne⟩,r,q,z,d⟩
end
structure Cls (K:PySem.W.Frag) (C:Addr):Prop where
 pg:PySem.W.plainGet K C Str.empty=true
 hd:PySem.W.hasDictIn K C=true
 po:PySem.W.plainOver K C=true
 sa:PySem.W.findIn K (.ref C) "__setattr__" = some (some (.builtin "object.__setattr__"))
theorem Cls.get{K:PySem.W.Frag}{C:Addr}(c:Cls K C)(f:Str):PySem.W.plainGet K C f=true:=c.pg
def Zbl(K:PySem.W.Frag)(C:Addr)(f:Str):Prop:=PySem.W.findIn K (.ref C) f=some none
theorem Zbl.taker{K:PySem.W.Frag}{C:Addr}{f:Str}(n:Zbl K C f):PySem.W.takerIn K C f=some none:=by
 unfold PySem.W.takerIn
 rw[show PySem.W.findIn K (.ref C) f=some none from n]
 rfl
structure Con (K:PySem.W.Frag) (C:Addr) (f:Str) (v:V) (u:Value):Prop where
 at_:PySem.W.findIn K (.ref C) f=some (some u)
 rel:ZE v u
 get:PySem.W.specialIn K u "__get__" = some none
 cp:PySem.W.copiedNames.contains f=false
structure Zn4 (K:PySem.W.Frag) (C:Addr) (m:Str) (f:Addr):Prop where
 at_:PySem.W.findIn K (.ref C) m=some (some (.ref f))
 fn:PySem.W.isFn K (.ref f)=true
 kp:PySem.W.keepIn K (.ref f)=true
section
variable {X:Cx} {pins:List (Addr×Obj)} {σ:St} {H:Hp} {s:Shared} {a C dx:Addr} {fs:List (Str×V)} {f:Str} {v:V} {A:Around} {E:Value→Shared→Prop}
theorem Zgl{b:Bool}{Q:Value→Shared→Prop}(I:Inv X pins σ H s)(e:H a=some (.ins C dx fs))(c:Cls X.K C)(n:Zbl X.K C f)(l:fs.lookup f=some v)
  (h:∀u s',Inv X pins σ H s'→ZE v u→Q u s'):wpAny (model X.prog X.w) A (getAttr (.ref a) f b) Q E s:=by
 obtain⟨mA,O,r,_,_,_⟩:=Zeo I.hok e
 obtain⟨u,hu,ru⟩:=Zdm.some_of (v:=v) (o:=mA f) (by rw[← l];exact r f)
 exact ZoR I.kIn O (c.get f) c.hd n hu (Zk2 ru) (h u _ (I.tok _) ru)
theorem Zgm{m:Str}{g:Addr}{pl:Sem Bool}{Q:Value×List Value→Shared→Prop}(I:Inv X pins σ H s)(e:H a=some (.ins C dx fs))(c:Cls X.K C)(k:Zn4 X.K C m g)(l:fs.lookup m=none)
  (h:Q (.ref g,[.ref a]) s):wpAny (model X.prog X.w) A (getMethod (.ref a) m pl) Q E s:=by
 obtain⟨mA,O,r,_,_,_⟩:=Zeo I.hok e
 have hn:mA m=none:=Zdm.none_of (by rw[← l];exact r m)
 exact Zn9 I.kIn O (c.get m) k.at_ k.fn hn h
theorem ZfT{y:V}{u:Value}{Q:Unit→Shared→Prop}(I:Inv X pins σ H s)(e:H a=some (.ins C dx fs))(c:Cls X.K C)(n:Zbl X.K C f)(hl:fs.length<1000)(ry:ZE y u)
  (h:∀s',Inv X pins σ (upd H a (.ins C dx (Zq f y fs))) s'→Q () s'):wpAny (model X.prog X.w) A (setAttr (.ref a) f u) Q E s:=by
 obtain⟨mA,O,r,wi,_,ho⟩:=Zeo I.hok e
 have hz:(fs.map (·.1)).length≤sizeLine:=by rw[Qa,sizeLine_eq];lia
 refine Zps I.kIn O c.sa c.po n.taker c.hd wi hz fun h' O' sb=>h _ ?_
 have hd:∃o,h'.get? dx=some o:=let ⟨o,_,_,e',_⟩:=O'.ns;⟨o,e'⟩
 refine I.write (x:=a) (e:=dx) (by rw[e];exact True.intro) (.inr ho) (fun b q hb z=>(sb.2 b hb).trans z) hd ?_
 refine⟨by rw[Ze O.ne];exact ho,?_,O.ne,O'.obj,_,O'.ns,fun g=>?_,fun g hg=>?_⟩
 ·have:=Zfd f y fs;lia
 ·show Zdm ((Zq f y fs).lookup g) (if g=f then some u else mA g)
  rw[Zl]
  by_cases q:g=f
  ·rw[if_pos q,if_pos q];exact ry
  ·rw[if_neg q,if_neg q];exact r g
 ·by_cases q:g=f
  ·rw[q];exact(Ze1 f y fs).1
  ·refine(Ze1 f y fs).2 g (wi g fun z=>hg ?_)
   show (if g=f then some u else mA g)=none
   rw[if_neg q];exact z
theorem Inv.made(I:Inv X pins σ H s):Inv X pins σ (upd (upd H s.heap.objs.size (.own (s.heap.objs.size+1))) (s.heap.objs.size+1) (.ins C s.heap.objs.size []))
  { s with heap:=(s.heap.push PySem.W.emptyDict).push (PySem.W.instObj C s.heap.objs.size) }:=by
 have e1:(s.heap.push PySem.W.emptyDict).get? s.heap.objs.size=some PySem.W.emptyDict:=QA s.heap rfl
 have e2:((s.heap.push PySem.W.emptyDict).push (PySem.W.instObj C s.heap.objs.size)).get? (s.heap.objs.size+1)=some (PySem.W.instObj C s.heap.objs.size):=by
  have:=QA (s.heap.push PySem.W.emptyDict) (o:=PySem.W.instObj C s.heap.objs.size) rfl
  rwa [Qag]at this
 have e3:(s.heap.push PySem.W.emptyDict).Ns s.heap.objs.size (fun _=>none):=⟨PySem.W.emptyDict,#[],_,e1,rfl,(fun e he=>absurd he (by simp)),fun _=>rfl⟩
 have I1:=I.laid (a:=s.heap.objs.size) (o:=.own (s.heap.objs.size+1)) (h':=s.heap.push PySem.W.emptyDict) (t':=s.toks) (fun b u q=>Qd _ q) (Qi _) ⟨_,e1⟩
 refine I1.laid (a:=s.heap.objs.size+1) (o:=.ins C s.heap.objs.size []) (t':=s.toks) (fun b u q=>Qd _ q) (Nat.le_of_eq (Qag _ _)) ?_
 have ne:s.heap.objs.size≠s.heap.objs.size+1:=QF (Nat.lt_succ_self _)
 refine⟨by rw[Ze ne,Zb],Qv _,ne,e2,fun _=>none,(Heap.Ns1.of_empty e3).at fun o q=>Qd _ q,fun _=>True.intro,fun y hy=>absurd rfl hy⟩
theorem ZoF{prog:Program}{w:World}{env:Env}{e:Expr}{f:Str}{pos:Pos}{s:Shared}{Q:Value→Shared→Prop}(hb:attributeBase e f env (eval e env)=eval e env)
  (h:wpAny (model prog w) A (eval e env) (fun o s₁=>wpAny (model prog w) A (getAttr o f true) Q E s₁) E s):wpAny (model prog w) A (eval (.Attribute e f pos) env) Q E s :=
 Attribute_any_ h (by rw[arm_eval_Attribute,hb])
end
inductive Zss (K:PySem.W.Frag) (f:Str) (x:V) (H:Hp) (B:V→Prop):Prop where
 | mk (a C dx:Addr) (fs:List (Str×V)) (v:V) (e:x=.ref a) (g:H a=some (.ins C dx fs)) (c:Cls K C) (n:Zbl K C f) (l:fs.lookup f=some v) (q:B v)
def Zso(K:PySem.W.Frag)(ta:TE)(f:Str):TE:=fun σ H Q=>ta σ H fun x H1=>Zss K f x H1 (fun v=>Q v H1)
inductive RSF (K:PySem.W.Frag) (f:Str) (x:V) (H:Hp) (B:Addr→HO→Prop) (y:V):Prop where
 | mk (a C dx:Addr) (fs:List (Str×V)) (e:x=.ref a) (g:H a=some (.ins C dx fs)) (c:Cls K C) (n:Zbl K C f) (l:fs.length<1000) (q:B a (.ins C dx (Zq f y fs)))
def ZsE(K:PySem.W.Frag)(ta tv:TE)(f:Str):TS:=fun D σ H=>tv σ H fun y H1=>ta σ H1 fun x H2=>RSF K f x H2 (fun a o=>D.nx σ (upd H2 a o)) y
def Zr8(X:Cx)(op:Operator)(rd:V→V→Hp→VK→Prop):Prop :=
 ∀ (pins:List (Addr×Obj)) (s:Shared) (σ:St) (H:Hp) (x y:V) (u v:Value) (Q:VK),Inv X pins σ H s→ZE x u→ZE y v→rd x y H Q→wpAny (model X.prog X.w) X.A (inplaceOp op u v) (EP X pins σ Q) X.xe s
def Zpv(K:PySem.W.Frag)(ta tv:TE)(rd:V→V→Hp→VK→Prop)(f:Str):TS:=fun D σ H=>ta σ H fun x H1=>∃a C dx fs v,x=.ref a∧H1 a=some (.ins C dx fs)∧Cls K C∧Zbl K C f∧fs.lookup f=some v ∧
 tv σ H1 fun y H2=>rd v y H2 fun z H3=>∃dx' fs',H3 a=some (.ins C dx' fs')∧fs'.length<1000∧D.nx σ (upd H3 a (.ins C dx' (Zq f z fs')))
section
variable {X:Cx} {o e value:Expr} {f:Str} {pos pos' tpos:Pos} {ta tv:TE}
theorem Zae(he:PE X e ta)(hb:attributeBase e f X.env (eval e X.env)=eval e X.env):PE X (.Attribute e f pos) (Zso X.K ta f):=by
 intro pins s σ H Q I h
 refine ZoF hb (thn (he pins s σ H _ I h) ?_)
 rintro u s1 ⟨x,H1,I1,rx,a,C,dx,fs,v,ex,ea,c,n,l,q⟩
 subst ex
 obtain rfl:u=Value.ref a:=rx
 exact Zgl I1 ea c n l fun u' s2 I2 ru=>⟨v,H1,I2,ru,q⟩
theorem Zb6(ha:PE X o ta)(hv:PE X value tv)(hs:swapsWith value (some (.Attribute o f pos')) pos.line X.env=pure false):PS X (.Assign [.Attribute o f pos'] value pos) (ZsE X.K ta tv f):=by
 intro pins s σ H D I h
 refine plainObj_wpAny_Assign_Attribute (thn (hv pins s σ H _ I h) fun u s1 ⟨y,H1,I1,ry,q⟩=>thn (ha pins s1 σ H1 _ I1 q) ?_) hs
 rintro ov s2 ⟨x,H2,I2,rx,a,C,dx,fs,ex,ea,c,n,l,q2⟩
 subst ex
 obtain rfl:ov=Value.ref a:=rx
 exact ZfT I2 ea c n l ry fun s3 I3=>⟨σ,_,I3,q2⟩
theorem ZdW{op:Operator}{rd:V→V→Hp→VK→Prop}(ha:PE X o ta)(hv:PE X value tv)(hop:Zr8 X op rd):PS X (.AugAssign (.Attribute o f tpos) op value pos) (Zpv X.K ta tv rd f):=by
 intro pins s σ H D I h
 refine wpAny_AugAssign_AttributeAny (thn (ha pins s σ H _ I h) ?_)
 rintro ov s1 ⟨x,H1,I1,rx,a,C,dx,fs,v,ex,ea,c,n,l,q⟩
 subst ex
 obtain rfl:ov=Value.ref a:=rx
 refine Zgl I1 ea c n l fun u s2 I2 ru=>thn (hv pins s2 σ H1 _ I2 q) fun w3 s3 ⟨y,H2,I3,ry,q3⟩=>thn (hop pins s3 σ H2 v y u w3 _ I3 ru ry q3) ?_
 rintro w4 s4 ⟨z,H3,I4,rz,dx',fs',ea',l',q4⟩
 exact ZfT I4 ea' c n l' rz fun s5 I5=>⟨σ,_,I5,q4⟩
def ZsF:V→V→Hp→VK→Prop:=fun x y H Q=>RI2 x y (fun i j=>Q (.int (i+j)) H)
theorem ZhH:Zr8 X .Add ZsF:=by
 rintro pins s σ H x y u v Q I rx ry ⟨i,j,rfl,rfl,q⟩
 obtain⟨t,rfl⟩:=(show ∃t,u=Value.int i t from rx)
 obtain⟨t',rfl⟩:=(show ∃t',v=Value.int j t' from ry)
 exact PyProof.Rows.iadd_int ⟨.int (i+j),H,I.tok _,⟨_,rfl⟩,q⟩
end
section
variable {X:Cx} {pins:List (Addr×Obj)} {σ:St} {H:Hp} {s:Shared} {A:Around} {E:Value→Shared→Prop} {Q:Value→Shared→Prop} {c:Value} {b:Bool}
inductive Zen (K:PySem.W.Frag) (H:Hp):V→Value→Prop where
 | non:Zen K H .non (.type "NoneType")
 | bl (x:Bool):Zen K H (.bl x) (.type "bool")
 | int (i:Int):Zen K H (.int i) (.type "int")
 | str (x:Str):Zen K H (.str x) (.type "str")
 | flt (x:UInt64):Zen K H (.flt x) (.type "float")
 | lst {a:Addr} {xs:List V} (e:H a=some (.lst xs)):Zen K H (.ref a) (.type "list")
 | frz {a:Addr} {o:Obj} {xs:List V} (e:H a=some (.frz o (.lst xs))):Zen K H (.ref a) (.type "list")
 | tup {a:Addr} {xs:List V} (e:H a=some (.tup xs)):Zen K H (.ref a) (.type "tuple")
 | dK {a:Addr} {kvs:List (Key×V)} (e:H a=some (.dK kvs)):Zen K H (.ref a) (.type "dict")
 | dT {a:Addr} {kvs:List (List Key×V)} (e:H a=some (.dT kvs)):Zen K H (.ref a) (.type "dict")
 | ins {a C dx:Addr} {fs:List (Str×V)} (e:H a=some (.ins C dx fs)) (cl:Cls K C) (ha:PySem.W.findIn K (.ref C) "__class__" = some (some (.builtin "object.__class__")))
   (hn:PySem.W.specialIn K (.builtin "object.__class__") "__get__" = some (some (.builtin "getset_descriptor.__get__"))) (htk:PySem.W.takesIn K (.builtin "object.__class__")=some true)
   (hm:PySem.W.mroIn K C (.type "object")=some true):Zen K H (.ref a) (.ref C)
theorem Zlj{x:V}{u t:Value}(I:Inv X pins σ H s)(rx:ZE x u)(ty:Zen X.K H x t)(e:PySem.W.kitOne X.K t c=some b)(h:∀tk,Q (.bool b) { s with toks:=tk }) :
  wpAny (model X.prog X.w) A (call (.builtin "isinstance") [u,c]) Q E s:=by
 cases ty with
 | non=>cases (show u=Value.none from rx);exact Q5 PySem.W.kitx_none I.kIn True.intro e (fun z=>nomatch z) h
 | bl y=>cases (show u=Value.bool y from rx);exact Q5 PySem.W.kitx_bool I.kIn True.intro e (fun z=>nomatch z) h
 | int i=>obtain⟨t,q⟩:=(show ∃t,u=Value.int i t from rx);cases q;exact Q5 PySem.W.kitx_int I.kIn True.intro e (fun z=>nomatch z) h
 | str y=>obtain⟨t,q⟩:=(show ∃t,u=Value.str y t from rx);cases q;exact Q5 PySem.W.kitx_str I.kIn True.intro e (fun z=>nomatch z) h
 | flt y=>obtain⟨t,q⟩:=(show ∃t,u=Value.float y t from rx);cases q;exact Q5 PySem.W.kitx_float I.kIn True.intro e (fun z=>nomatch z) h
 | @lst a xs ea =>
  cases (show u=Value.ref a from rx)
  obtain⟨_,_,n,_,h1⟩:=(show Zad X.prog X.w H s.heap a (.lst xs) from I.hok a _ ea)
  exact Q5 QaY I.kIn ⟨_,h1,rfl⟩ e (fun z=>nomatch z) h
 | @frz a ob xs ea =>
  cases (show u=Value.ref a from rx)
  obtain⟨_,_,_,n,_,h1⟩:=(show Zad X.prog X.w H s.heap a (.frz ob (.lst xs)) from I.hok a _ ea)
  exact Q5 QaY I.kIn ⟨_,h1,rfl⟩ e (fun z=>nomatch z) h
 | @tup a xs ea =>
  cases (show u=Value.ref a from rx)
  obtain⟨_,_,_,p⟩:=(show Zad X.prog X.w H s.heap a (.tup xs) from I.hok a _ ea)
  obtain⟨o,h1,h2,_⟩:=p
  exact Q5 PySem.W.kitx_tuple I.kIn ⟨o,h1,h2⟩ e (fun z=>nomatch z) h
 | @dK a kvs ea =>
  cases (show u=Value.ref a from rx)
  obtain⟨_,_,vs,_,p⟩:=(show Zad X.prog X.w H s.heap a (.dK kvs) from I.hok a _ ea)
  obtain⟨o,es,ep,h1,h2,_⟩:=p
  exact Q5 QaZ I.kIn ⟨o,h1,h2.1⟩ e (fun z=>nomatch z) h
 | @dT a kvs ea =>
  cases (show u=Value.ref a from rx)
  obtain⟨_,_,xs,_,o,es,ep,h1,h2,_⟩:=(show Zad X.prog X.w H s.heap a (.dT kvs) from I.hok a _ ea)
  exact Q5 QaZ I.kIn ⟨o,h1,h2.1⟩ e (fun z=>nomatch z) h
 | @ins a C dx fs ea cl ha hn htk hm =>
  cases (show u=Value.ref a from rx)
  obtain⟨mA,O,_⟩:=Zeo I.hok ea
  obtain⟨od,J,_⟩:=O.look
  exact Q5 (PySem.W.kitx_own (cl.get _) cl.hd ha hn htk hm) I.kIn J e (fun z=>nomatch z) h
end
structure ZaN (k:Nat) (A:Around):Prop where
 hd:A.handled=none
 dp:A.depth+3*k+5<recursionLimit
 un:A.units+16*k+200<cLine
 gd:A.guards=some []
theorem ZaN.mono{j k:Nat}{A:Around}(r:ZaN k A)(h:j≤k):ZaN j A:=⟨r.hd,by have:=r.dp;lia,by have:=r.un;lia,r.gd⟩
theorem ZaN.deeper{k:Nat}{A:Around}(r:ZaN (k+1) A)(env:Env):ZaN k (A.deeper env) :=
 ⟨r.hd,by have:=r.dp;show A.depth+1+3*k+5<_;lia,by have:=r.un;show A.units+3+16*k+200<_;lia,r.gd⟩
theorem Zjv{A:Around}{C:Addr}{us:List Value}{kw:List (Str×Value)}:(A.under (.builtin "type.__call__" ⟨.ref C::us,kw⟩)).depth=A.depth+1:=by
 first|rfl|simp[Around.under,Code.weight,Code.isCreation,Code.isGuard,Code.isCaller,Code.frames,Code.isFrame,guardIds]
theorem Zjr{A:Around}{C:Addr}{us:List Value}{kw:List (Str×Value)}:(A.under (.builtin "type.__call__" ⟨.ref C::us,kw⟩)).units=A.units+1:=by
 first|rfl|simp[Around.under,Code.cUnits,Code.frames,Code.isFrame]
theorem ZaN.make{k:Nat}{A:Around}(r:ZaN (k+1) A)(C:Addr)(us:List Value)(kw:List (Str×Value)):ZaN k (A.under (.builtin "type.__call__" ⟨.ref C::us,kw⟩)) :=
 ⟨r.hd,by have:=r.dp;rw[Zjv];lia,by have:=r.un;rw[Zjr];lia,by rw[show (A.under (.builtin "type.__call__" ⟨.ref C::us,kw⟩)).guards=A.guards from by first|rfl|simp[Around.under,pushGuards,Code.guards,Code.isGuard,guardIds]];exact r.gd⟩
theorem ZaN.depth{k:Nat}{A:Around}(r:ZaN k A):A.depth<recursionLimit:=by have:=r.dp;lia
theorem ZaN.units{k:Nat}{A:Around}(r:ZaN k A):A.units+64<cLine:=by have:=r.un;lia
def Zqu:TA:=fun _ H Q=>Q [] H
def ZrD(ta:TE)(tr:TA):TA:=fun σ H Q=>ta σ H fun x H1=>tr σ H1 fun xs H2=>Q (x::xs) H2
section
variable {X:Cx} {e:Expr} {es:List Expr} {te:TE} {t:TA} {pos:Pos}
theorem Zd:PA X [] Zqu:=fun _ _ _ _ H Q I h=>Calls.spliced_nil ⟨[],H,I,.nil,h⟩
theorem Za(ha:PE X e te)(hr:PA X es t)(hs:starEach (e::es) X.env=(false,eval e X.env)::starEach es X.env:=by rfl):PA X (e::es) (ZrD te t):=by
 intro pos pins s σ H Q I h
 rw[hs]
 show wpAny _ _ (spliced ((false,eval e X.env)::backTo pos (starEach es X.env))) _ _ s
 refine Calls.spliced_cons (thn (ha pins s σ H _ I h) ?_)
 rintro u s1 ⟨x,H1,I1,r1,q1⟩
 exact thn (hr pos pins s1 σ H1 _ I1 q1) fun us s2 ⟨xs,H2,I2,r2,q2⟩=>⟨x::xs,H2,I2,.cons r1 r2,q2⟩
def ZsP(t:TA):TE:=fun σ H Q=>t σ H fun xs H1=>xs.length≤sizeLine∧∀p,H1 p=none→Q (.ref p) (upd H1 p (.tup xs))
def ZsA(t:TA):TE:=fun σ H Q=>t σ H fun xs H1=>xs.length≤sizeLine∧∀p,H1 p=none→Q (.ref p) (upd H1 p (.lst xs))
theorem ZH{x1}(h:PA X es t):PE X (.Tuple es x1 pos) (ZsP t):=by
 intro pins s σ H Q I hq
 refine wpAny_Tuple_spliced (thn (h pos pins s σ H _ I hq) fun us s1 ⟨xs,H1,I1,r,z,q⟩=>⟨by rw[← r.length];exact z,?_⟩)
 have hf:H1 s1.heap.objs.size=none:=I1.hok.fresh (Qi _)
 refine⟨.ref s1.heap.objs.size,upd H1 s1.heap.objs.size (.tup xs),I1.laid (t':=s1.toks) (fun b u e=>Qd _ e) (Qi _) ?_,rfl,q _ hf⟩
 exact⟨z,us,r,⟨_,QA _ rfl,rfl,_,rfl⟩⟩
theorem Zai(h:PA X es t):PE X (.List es pos) (ZsA t):=by
 intro pins s σ H Q I hq
 refine wpAny_List_spliced (thn (h pos pins s σ H _ I hq) fun us s1 ⟨xs,H1,I1,r,z,q⟩=>⟨by rw[← r.length];exact z,?_⟩)
 have hf:H1 s1.heap.objs.size=none:=I1.hok.fresh (Qi _)
 refine⟨.ref s1.heap.objs.size,upd H1 s1.heap.objs.size (.lst xs),I1.laid (t':=s1.toks) (fun b u e=>Qd _ e) (Qi _) ?_,rfl,q _ hf⟩
 exact⟨z,us,0,r,QA _ rfl⟩
end
abbrev Sp:=List V→Hp→VK→XK→Prop
abbrev CXT:=List Env→Hp→Shared→XK→Value→Shared→Prop
structure ZjW (P:Program) (w:World) (K:PySem.W.Frag) (mg:Str→Option Value) (base:Heap) (A:Around) (outer:List Env) (s:Shared) (H:Hp):Prop where
 frames:A.frames=some outer
 mod:Mod K mg base
 bs:∀b o,base.get? b=some o→s.heap.get? b=some o∧H b=none
 bsz:base.objs.size≤s.heap.objs.size
 funs:s.heap.FunFrames base outer
 frf:∀b∈frs outer,H b=none
 hok:HOk P w H s.heap
 bare:AllBare s.gens
def CE(outer:List Env)(P:Program)(w:World)(H:Hp)(s:Shared)(Q:VK)(u:Value)(s':Shared):Prop :=
 ∃v H',s'.os=s.os∧AllBare s'.gens∧Un (frs outer) [] H H' s.heap s'.heap∧HOk P w H' s'.heap∧ZE v u∧Q v H'
def CR(CX:CXT)(outer:List Env)(P:Program)(w:World)(H:Hp)(s:Shared)(Q:VK)(E:XK)(r:Result)(s':Shared):Prop :=
 match r with
 | .ok (.ret u)=>CE outer P w H s Q u s'
 | .ok _=>False
 | .error e=>CX outer H s E e s'
structure Zd3 (P:Program) (w:World) (K:PySem.W.Frag) (mg:Str→Option Value) (base:Heap) (CX:CXT) (k:Nat) (f:Addr) (fd:FuncData) (ps:List Str) (sp:Sp):Prop where
 len:∀vs H Q E,sp vs H Q E→vs.length=ps.length
 run:∀ (A:Around) (outer:List Env) (s:Shared) (H:Hp) (args:Args) (us:List Value) (vs:List V) (Q:VK) (E:XK),ZaN k A→ZjW P w K mg base A outer s H→BindsTo s fd args (ps.zip us)→Zy vs us→sp vs H Q E →
  codeAny (model P w) A (.call (.ref f) args) (CR CX outer P w H s Q E) s
theorem ZjW.make{P:Program}{w:World}{K:PySem.W.Frag}{mg:Str→Option Value}{base:Heap}{A:Around}{outer:List Env}{s:Shared}{H:Hp}(e:ZjW P w K mg base A outer s H)(C:Addr)(us:List Value)(kw:List (Str×Value)) :
  ZjW P w K mg base (A.under (.builtin "type.__call__" ⟨.ref C::us,kw⟩)) outer s H:=⟨by first|exact e.frames|(simpa [Around.under,Code.envs,Code.isFrame,pushEnvs] using e.frames),e.mod,e.bs,e.bsz,e.funs,e.frf,e.hok,e.bare⟩
section
variable {X:Cx} {pins:List (Addr×Obj)} {σ:St} {H:Hp} {s s':Shared}
theorem Inv.env0(I:Inv X pins σ H s):ZjW X.prog X.w X.K X.mg X.base X.A X.stack s H :=
 ⟨I.ok.frames,I.ok.mod,I.bs,QP I.ok.bsz I.sz,I.stack,I.stkFree,I.hok,I.bare⟩
theorem Inv.after{Q:VK}{u:Value}(I:Inv X pins σ H s)(h:CE X.stack X.prog X.w H s Q u s'):EP X pins σ Q u s':=by
 obtain⟨v,H',os,bare,un,hok,r,q⟩:=h
 obtain⟨hh,g,d,t,os'⟩:=s'
 obtain rfl:os'=s.os:=os
 exact⟨v,H',I.call (h':=hh) (g':=g) (d':=d) (t':=t) (ch:=[]) un hok bare (fun b z=>absurd z (by simp)),r,q⟩
end
def ZpR(sp:Sp)(dvs:List V)(E:XK)(t:TA):TE:=fun σ H Q=>t σ H fun vs H1=>sp (vs++dvs) H1 Q E
inductive RMt (C:Addr) (m:Str) (x:V) (H:Hp) (B:Prop):Prop where
 | mk (a dx:Addr) (fs:List (Str×V)) (e:x=.ref a) (g:H a=some (.ins C dx fs)) (l:fs.lookup m=none) (q:B)
def Zj9(C:Addr)(m:Str)(sp:Sp)(dvs:List V)(E:XK)(ta:TE)(t:TA):TE:=fun σ H Q=>ta σ H fun x H1=>RMt C m x H1 (t σ H1 fun vs H2=>sp (x::(vs++dvs)) H2 Q E)
def ZpD(C:Addr)(sp:Sp)(dvs:List V)(E:XK)(t:TA):TE:=fun σ H Q=>t σ H fun vs H1=>∀x dx,H1 x=none→H1 dx=none→dx≠x →
 sp (.ref x::(vs++dvs)) (upd (upd H1 dx (.own x)) x (.ins C dx [])) (fun v H2=>v=.non∧Q (.ref x) H2) E
def Zcs(K:PySem.W.Frag)(fd:FuncData)(ps:List Str)(ds:List Value):Prop :=
 ∀ (s:Shared) (us:List Value),K.In s.heap→(us++ds).length=ps.length→BindsTo s fd ⟨us,[]⟩ (ps.zip (us++ds))
theorem Zcs.all{K:PySem.W.Frag}{fd:FuncData}{ps:List Str}(h:∀us:List Value,us.length=ps.length→bindArgs fd ⟨us,[]⟩=pure (ps.zip us)):Zcs K fd ps []:=fun s us _ hl=>by
 rw[QR]at hl ⊢
 exact .of_eq (h us hl)
def Zei(CX:CXT)(X:Cx)(E:XK):Prop:=∀ (pins:List (Addr×Obj)) (σ:St) (H:Hp) (s:Shared) (e:Value) (s':Shared),Inv X pins σ H s→CX X.stack H s E e s'→X.xe e s'
section
variable {X:Cx} {CX:CXT} {k:Nat} {f C:Addr} {fd:FuncData} {ps:List Str} {sp:Sp} {dvs:List V} {ds:List Value} {E:XK} {x m:Str} {p pos apos:Pos} {e o:Expr} {es:List Expr} {ta:TE} {t:TA}
theorem ZjG{pins:List (Addr×Obj)}{σ:St}{H:Hp}{s:Shared}{Q:VK}{us:List Value}{vs:List V}(F:Zd3 X.prog X.w X.K X.mg X.base CX k f fd ps sp)(hr:ZaN k X.A)(hb:Zcs X.K fd ps ds)(hd:Zy dvs ds)(hx:Zei CX X E)
  (I:Inv X pins σ H s) (r:Zy vs us) (h:sp (vs++dvs) H Q E):wpAny (model X.prog X.w) X.A (call (.ref f) us) (EP X pins σ Q) X.xe s:=by
 have r2:Zy (vs++dvs) (us++ds):=r.append hd
 have hl:(us++ds).length=ps.length:=by rw[← r2.length];exact F.len _ _ _ _ h
 refine wpAny_call (codeAny_mono (F.run X.A X.stack s H ⟨us,[]⟩ (us++ds) (vs++dvs) Q E hr I.env0 (hb s us I.kIn hl) r2 h) fun r s' hq=>?_)
 cases r with
 | error e=>exact hx pins σ H s e s' I hq
 | ok fl =>
  cases fl with
  | ret u=>exact I.after hq
  | next=>exact False.elim hq
  | brk=>exact False.elim hq
  | cont=>exact False.elim hq
theorem Zpd(F:Zd3 X.prog X.w X.K X.mg X.base CX k f fd ps sp)(hr:ZaN k X.A)(hg:Gl X x)(hm:X.mg x=some (.ref f))(hk:PySem.W.keepIn X.K (.ref f)=true)(hb:Zcs X.K fd ps ds)(hd:Zy dvs ds)(hx:Zei CX X E)
  (ha:PA X (e::es) t) (hdb:(x == ("__debug__" : Str))=false:=by decide) (he:starEach (e::es) X.env=(false,eval e X.env)::starEach es X.env:=by rfl) (hpl:(backTo pos (starEach es X.env)).any (·.1)=false:=by rfl) :
  PE X (.Call (.Name x p) (e::es) [] pos) (ZpR sp dvs E t):=by
 intro pins s σ H Q I h
 refine wpAny_Call_Name_kw (Zj5 I hg hm ?_ hdb)
 refine PySem.W.callWith_K (h₀:=X.base) I.ok.mod.kin hk (thn (ha pos pins s σ H _ I h) fun us s1 ⟨vs,H1,I1,r,q⟩=>⟨I1.kIn,?_⟩) he hpl
 exact ZjG F hr hb hd hx I1 r q
theorem Zpc{pl:Sem Bool}(he:PE X o ta)(c:Cls X.K C)(hm:Zn4 X.K C m f)(F:Zd3 X.prog X.w X.K X.mg X.base CX k f fd ps sp)(hr:ZaN k X.A)(hb:Zcs X.K fd ps ds)(hd:Zy dvs ds)(hx:Zei CX X E)(ha:PA X (e::es) t)
  (hst:starEach (e::es) X.env=(false,eval e X.env)::starEach es X.env:=by rfl) (hpl:(backTo pos (starEach es X.env)).any (·.1)=false:=by rfl)
  (ht:eval (.Call (.Attribute o m apos) (e::es) [] pos) X.env=(do
   let ov ← eval o X.env
   standAt apos.atName
   let (f,first) ← holding [ov] (getMethod ov m pl)
   callWith pos f first (backTo pos (starEach (e::es) X.env)) (backToKw pos (keywordEach [] X.env))):=by rfl) :
  PE X (.Call (.Attribute o m apos) (e::es) [] pos) (Zj9 C m sp dvs E ta t):=by
 intro pins s σ H Q I h
 refine PySem.W.methodCall_KW (pl:=pl) (thn (he pins s σ H _ I h) ?_) ht
 rintro u s1 ⟨x,H1,I1,rx,a,dx,fs,ex,ea,l,q⟩
 subst ex
 obtain rfl:u=Value.ref a:=rx
 refine Zgm I1 ea c hm l ?_
 refine PySem.W.callWith_K (first:=[.ref a]) (h₀:=X.base) I.ok.mod.kin hm.kp (thn (ha pos pins s1 σ H1 _ I1 q) fun us s2 ⟨vs,H2,I2,r,q2⟩=>⟨I2.kIn,?_⟩) hst hpl
 exact ZjG (us:=.ref a::us) (vs:=.ref a::vs) F hr hb hd hx I2 (.cons rfl r) q2
theorem Znc{pl:Sem Bool}(he:PE X o ta)(c:Cls X.K C)(hm:Zn4 X.K C m f)(F:Zd3 X.prog X.w X.K X.mg X.base CX k f fd ps sp)(hr:ZaN k X.A)(hb:Zcs X.K fd ps ds)(hd:Zy dvs ds)(hx:Zei CX X E)
  (ht:eval (.Call (.Attribute o m apos) [] [] pos) X.env=(do
   let ov ← eval o X.env
   standAt apos.atName
   let (f,first) ← holding [ov] (getMethod ov m pl)
   callWith pos f first (backTo pos (starEach [] X.env)) (backToKw pos (keywordEach [] X.env))):=by rfl) :
  PE X (.Call (.Attribute o m apos) [] [] pos) (Zj9 C m sp dvs E ta Zqu):=by
 intro pins s σ H Q I h
 refine PySem.W.methodCall_KW (pl:=pl) (thn (he pins s σ H _ I h) ?_) ht
 rintro u s1 ⟨x,H1,I1,rx,a,dx,fs,ex,ea,l,q⟩
 subst ex
 obtain rfl:u=Value.ref a:=rx
 refine Zgm I1 ea c hm l ?_
 exact PySem.W.callWith_K0 (first:=[.ref a]) I1.kIn hm.kp (ZjG (us:=[.ref a]) (vs:=[.ref a]) F hr hb hd hx I1 (.cons rfl .nil) q)
structure Mk (K:PySem.W.Frag) (C f:Addr):Prop where
 makes:PySem.W.makesIn K C=true
 init:PySem.W.findIn K (.ref C) "__init__" = some (some (.ref f))
 fn:PySem.W.isFn K (.ref f)=true
 kp:PySem.W.keepIn K (.ref C)=true
theorem Zm4{pins:List (Addr×Obj)}{σ:St}{H:Hp}{s:Shared}{Q:VK}{us:List Value}{vs:List V}(M:Mk X.K C f)(F:Zd3 X.prog X.w X.K X.mg X.base CX k f fd ps sp)(hr:ZaN (k+1) X.A)(hb:Zcs X.K fd ps ds)(hd:Zy dvs ds)
  (hx:Zei CX X E) (I:Inv X pins σ H s) (r:Zy vs us)
  (h:∀x dx,H x=none→H dx=none→dx≠x→sp (.ref x::(vs++dvs)) (upd (upd H dx (.own x)) x (.ins C dx [])) (fun v H2=>v=.non∧Q (.ref x) H2) E) :
  wpAny (model X.prog X.w) X.A (call (.ref C) us) (EP X pins σ Q) X.xe s:=by
 have hq:=h (s.heap.objs.size+1) s.heap.objs.size (I.hok.fresh (QaC _)) (I.hok.fresh (Qi _)) (QF (Nat.lt_succ_self _))
 have I2:=Inv.made (C:=C) I
 have r2:Zy (V.ref (s.heap.objs.size+1)::(vs++dvs)) (Value.ref (s.heap.objs.size+1)::(us++ds)):=.cons rfl (r.append hd)
 have hl:(Value.ref (s.heap.objs.size+1)::us++ds).length=ps.length:=by
  have e:=r2.length
  rw[F.len _ _ _ _ hq]at e
  exact e.symm
 refine wpAny_call (Zmg (f:=f) I.kIn M.makes M.init (beq_iff_eq.mp M.fn) (codeAny_mono (F.run _ X.stack _ _ ⟨Value.ref (s.heap.objs.size+1)::us,[]⟩ (Value.ref (s.heap.objs.size+1)::(us++ds)) _ _ E (hr.make C us [])
  (I2.env0.make C us []) (hb _ (Value.ref (s.heap.objs.size+1)::us) I2.kIn hl) r2 hq) fun r s' hq'=>?_))
 cases r with
 | error e=>exact hx pins σ _ _ e s' I2 hq'
 | ok fl =>
  cases fl with
  | ret u =>
   obtain⟨v,H',I3,rv,ev,q3⟩:=I2.after hq'
   subst ev
   exact⟨rv,⟨V.ref (s.heap.objs.size+1),H',I3,rfl,q3⟩⟩
  | next=>exact False.elim hq'
  | brk=>exact False.elim hq'
  | cont=>exact False.elim hq'
theorem Zpt(M:Mk X.K C f)(F:Zd3 X.prog X.w X.K X.mg X.base CX k f fd ps sp)(hr:ZaN (k+1) X.A)(hg:Gl X x)(hm:X.mg x=some (.ref C))(hb:Zcs X.K fd ps ds)(hd:Zy dvs ds)(hx:Zei CX X E)
  (ha:PA X (e::es) t) (hdb:(x == ("__debug__" : Str))=false:=by decide) (he:starEach (e::es) X.env=(false,eval e X.env)::starEach es X.env:=by rfl) (hpl:(backTo pos (starEach es X.env)).any (·.1)=false:=by rfl) :
  PE X (.Call (.Name x p) (e::es) [] pos) (ZpD C sp dvs E t):=by
 intro pins s σ H Q I h
 refine wpAny_Call_Name_kw (Zj5 I hg hm ?_ hdb)
 refine PySem.W.callWith_K (h₀:=X.base) I.ok.mod.kin M.kp (thn (ha pos pins s σ H _ I h) fun us s1 ⟨vs,H1,I1,r,q⟩=>⟨I1.kIn,?_⟩) he hpl
 exact Zm4 M F hr hb hd hx I1 r q
end
section
variable {X:Cx} {CX:CXT} {k:Nat} {f C:Addr} {fd:FuncData} {ps ks:List Str} {sp:Sp} {E:XK} {x m:Str} {p pos apos kpos:Pos} {e o:Expr} {es:List Expr} {kws:List Keyword} {te ta:TE} {t tk:TA} {nm:Option Str}
structure KBinds (K:PySem.W.Frag) (fd:FuncData) (ps ks:List Str) (g:List Value→List Value→List Value) (gV:List V→List V→List V):Prop where
 to:∀ (s:Shared) (us ws:List Value),K.In s.heap→(g us ws).length=ps.length→BindsTo s fd ⟨us,ks.zip ws⟩ (ps.zip (g us ws))
 rel:∀ {vs:List V} {us:List Value} {zs:List V} {ws:List Value},Zy vs us→Zy zs ws→Zy (gV vs zs) (g us ws)
variable {g:List Value→List Value→List Value} {gV:List V→List V→List V}
end
structure Zr (N P:List Str) (sc:Scope):Prop where
 kind:sc.kind=.function
 co:sc.isCoroutine=false
 gen:sc.isGenerator=false
 nd:N.Nodup
 pre:N.take P.length=P
 par:∀x∈P,sc.names.lookup x=some .local∨sc.names.lookup x=some .cell
 nofree:∀y∈sc.names,y.2≠.free
theorem Zhx{kindOf:Str→Option NameKind}{x:Str}:∀ {binds:List (Str×Value)} {m:Str→Option Value},(∀v,(x,v) ∉ binds)→bindL kindOf binds m x=m x
 | [],_,_=>rfl
 | (n,v)::r,m,h=>by
  unfold bindL
  rw[Zhx fun w hw=>h w (Qy _ hw)]
  split
  ·have:x≠n:=by rintro rfl;exact h v QZ
   simp[this]
  ·rfl
theorem Zhd{kindOf:Str→Option NameKind}{x:Str}:∀ {binds:List (Str×Value)} {m:Str→Option Value},(∀v,(x,v) ∉ binds)→bindC kindOf binds m x=m x
 | [],_,_=>rfl
 | (n,v)::r,m,h=>by
  unfold bindC
  rw[Zhd fun w hw=>h w (Qy _ hw)]
  split
  ·rfl
  ·have:x≠n:=by rintro rfl;exact h v QZ
   simp[this]
theorem ZgO{kindOf:Str→Option NameKind}{x:Str}{v:Value}:∀ {P:List Str} {vs:List Value} {i:Nat} {m:Str→Option Value},P.Nodup→P[i]? = some x→vs[i]? = some v→kindOf x=some .local →
  bindL kindOf (P.zip vs) m x=some v
 | [],_,_,_,_,h,_,_=>by simp at h
 | _::_,[],_,_,_,_,h,_=>by simp at h
 | p::P,w::vs,0,m,nd,h1,h2,hk=>by
  simp at h1 h2;subst h1;subst h2
  show bindL kindOf ((p,w)::P.zip vs) m p=_
  unfold bindL
  rw[Zhx fun v hv=>(Q3.mp nd).1 (List.of_mem_zip hv).1,if_pos hk]
  simp
 | p::P,w::vs,i+1,m,nd,h1,h2,hk=>by
  show bindL kindOf ((p,w)::P.zip vs) m x=_
  unfold bindL
  exact ZgO (i:=i) (Q3.mp nd).2 (by simpa using h1) (by simpa using h2) hk
theorem Zhi{kindOf:Str→Option NameKind}{x:Str}{v:Value}:∀ {P:List Str} {vs:List Value} {i:Nat} {m:Str→Option Value},P.Nodup→P[i]? = some x→vs[i]? = some v→kindOf x≠some .local →
  bindC kindOf (P.zip vs) m x=some v
 | [],_,_,_,_,h,_,_=>by simp at h
 | _::_,[],_,_,_,_,h,_=>by simp at h
 | p::P,w::vs,0,m,nd,h1,h2,hk=>by
  simp at h1 h2;subst h1;subst h2
  show bindC kindOf ((p,w)::P.zip vs) m p=_
  unfold bindC
  rw[Zhd fun v hv=>(Q3.mp nd).1 (List.of_mem_zip hv).1,if_neg hk]
  simp
 | p::P,w::vs,i+1,m,nd,h1,h2,hk=>by
  show bindC kindOf ((p,w)::P.zip vs) m x=_
  unfold bindC
  exact Zhi (i:=i) (Q3.mp nd).2 (by simpa using h1) (by simpa using h2) hk
def ZdP(N:List Str)(vs:List V):St:=vs.map some++List.replicate (N.length-vs.length) none
def ZhE(CX:CXT)(P:Program)(w:World)(K:PySem.W.Frag)(mg:Str→Option Value)(base:Heap)(N:List Str)(qual:Str)(scope:Scope)(f:Addr)(cd:Value)(A:Around)(outer:List Env)(s:Shared)(H:Hp)(E:XK):Cx where
 prog:=P
 w:=w
 K:=K
 mg:=mg
 base:=base
 A:=A.deeper (envOfC qual scope s.heap.objs.size f cd)
 N:=N
 s₀:=s
 H₀:=H
 env:=envOfC qual scope s.heap.objs.size f cd
 outer:=outer
 stack:=envOfC qual scope s.heap.objs.size f cd::outer
 ex:=[]
 calm:=true
 fn:=fun _=>true
 pn:=[]
 xe:=fun e s'=>wpAny (model P w) (A.deeper (envOfC qual scope s.heap.objs.size f cd)) (leaving (envOfC qual scope s.heap.objs.size f cd) e) (fun _ s''=>CX outer H s E e s'') (fun e' s''=>CX outer H s E e' s'') s'
theorem Zij{sc:Scope}{n:Nat}{x:Str}(h:sc.names.lookup x=some .cell):∃c,(cellsFrom n sc.names []).lookup x=some c:=by
 have q:=PySem.W.cellsFrom_some sc.names n [] (.inl h)
 exact Option.isSome_iff_exists.mp q
theorem Zlo{CX:CXT}{P:Program}{w:World}{K:PySem.W.Frag}{mg:Str→Option Value}{base:Heap}{N ps:List Str}{qual:Str}{scope:Scope}{f:Addr}{cd:Value}{A:Around}{outer:List Env}{s s1:Shared}{H:Hp}{E:XK}{us:List Value}{vs:List V}
  (S:Zr N ps scope) (hd:A.handled=none) (e0:ZjW P w K mg base A outer s H) (hl:vs.length=ps.length) (r:Zy vs us)
  (x:InCallC s s.heap.objs.size (bindL (envOfC qual scope s.heap.objs.size f cd).kindOf (ps.zip us) fun _=>none) (cellsFrom (s.heap.objs.size+1) scope.names []) (bindC (envOfC qual scope s.heap.objs.size f cd).kindOf (ps.zip us) fun _=>none) s1) :
  Inv (ZhE CX P w K mg base N qual scope f cd A outer s H E) [] (ZdP N vs) H s1:=by
 have hpl:ps.length≤N.length:=by have:=congrArg List.length S.pre;rw[QC]at this;lia
 obtain⟨h1,tk,rfl,hk⟩:=x.done
 have noA:∀b:Addr,b ∉ (ZhE CX P w K mg base N qual scope f cd A outer s H E).ex:=fun b z=>absurd (show b∈([]:List Addr) from z) (by simp)
 refine⟨⟨e0.mod,S.kind,rfl,rfl,Qi _,fun y z c h1 h2=>?_,fun y hy=>?_,fun y c _ h=>?_,fun _=>hd,Around.frames_deeper e0.frames,.inr ⟨rfl,rfl⟩,fun b z=>absurd z (noA b),e0.bs,e0.bsz,fun b _ _=>noA b,fun b z=>absurd z (noA b),e0.funs,e0.frf⟩,
  rfl,e0.bare,Un.kept hk,⟨_,x.toInCall.ns,fun i y v h1 h2 h3=>?_⟩,fun y c h=>⟨_,x.cell y c h⟩,e0.hok.fresh (Qi _),fun y c h=>?_,fun p hp=>absurd (show p∈([]:List (Addr×Obj)) from hp) (by simp),e0.hok.kept hk,?_⟩
 ·exact name_of_addr x.apart (Qal h1) (Qal h2)
 ·have hy:scope.names.lookup y=some .cell∨scope.names.lookup y=some .free:=hy
  rcases hy with hy|hy
  ·exact Zij hy
  ·exact absurd rfl (S.nofree _ (Qal hy))
 ·exact QaD (x.above y c (Qal h))
 ·have hi:i<vs.length:=by
   unfold ZdP at h2
   by_cases hi:i<vs.length
   ·exact hi
   ·rw[QS (by simpa using hi)]at h2
    rw[List.getElem?_replicate]at h2
    split at h2<;>cases h2
  have ha:vs[i]? = some v:=by
   unfold ZdP at h2
   rw[QU (by simpa using hi),Qk]at h2
   cases e:vs[i]? with
   | none=>rw[e]at h2;cases h2
   | some a=>rw[e]at h2;cases h2;rfl
  obtain⟨u,hu,rv⟩:=r.get ha
  have hp:ps[i]? = some y:=by
   rw[← S.pre,List.getElem?_take_of_lt (by lia)];exact h1
  have ndP:ps.Nodup:=by rw[← S.pre];exact S.nd.sublist (List.take_sublist _ _)
  refine⟨u,rv,?_⟩
  rcases S.par y (Qr hp) with k|k
  ·exact .inl ⟨k,ZgO ndP hp hu k⟩
  ·obtain⟨c,e⟩:=Zij (n:=s.heap.objs.size+1) k
   refine .inr ⟨.inl k,c,e,?_⟩
   have q:=x.cell y c e
   rw[Zhi ndP hp hu (by show scope.names.lookup y≠_;rw[k];decide)]at q
   exact q
 ·exact e0.hok.fresh (QaD (x.above y c (Qal h)))
 ·unfold ZdP
  show _=N.length
  rw[Qg,Qa,QaI]
  lia
theorem ZrL{CX:CXT}{P:Program}{w:World}{K:PySem.W.Frag}{mg:Str→Option Value}{base:Heap}{k:Nat}{f:Addr}{name qual:Str}{params:Arguments}{body:List Stmt}{scope:Scope}{dV kV doc pm cdv ct oc:Value}{an od:Option Addr}
  {osl:Array (Option Value)} {N ps:List Str} {sp:Sp} (lk:K.lookup f=some ⟨oc,od,.func (PySem.W.fnOf name qual params body scope dV kV doc pm an cdv ct),osl⟩) (hcd:PySem.W.codeIn K cdv qual=true) (S:Zr N ps scope)
  (len:∀vs H Q E,sp vs H Q E→vs.length=ps.length)
  (hbody:∀ (A:Around) (outer:List Env) (s:Shared) (H:Hp) (vs:List V) (Q:VK) (E:XK),ZaN k (A.deeper (envOfC qual scope s.heap.objs.size f cdv))→sp vs H Q E →
   ∃t,PSs (ZhE CX P w K mg base N qual scope f cdv A outer s H E) body t∧t { nx:=fun _ H'=>Q .non H',rt:=Q } (ZdP N vs) H) :
  Zd3 P w K mg base CX (k+1) f (PySem.W.fnOf name qual params body scope dV kV doc pm an cdv ct) ps sp:=by
 refine⟨len,fun A outer s H args us vs Q E hr e0 hb r hsp=>?_⟩
 have hl:=len _ _ _ _ hsp
 have KX:K.In s.heap:=e0.mod.kin.keeps fun b o e=>(e0.bs b o e).1
 have lim:s.heap.NoLimit:=e0.mod.nolimit.keeps fun b o e=>(e0.bs b o e).1
 have hkind:∀y∈ps.zip us,scope.names.lookup y.1=some .local∨(scope.names.lookup y.1=some .cell∧((cellsFrom (s.heap.objs.size+1) scope.names []).lookup y.1).isSome=true):=fun ⟨n,v⟩ hy=>by
  rcases S.par n (List.of_mem_zip hy).1 with q|q
  ·exact .inl q
  ·exact .inr ⟨q,PySem.W.cellsFrom_some _ _ _ (.inl q)⟩
 refine codeAny_call_function hr.depth (KX _ _ lk) rfl S.co S.gen rfl (PySem.W.codeRec_of KX hcd) (hb _ _ _ _ ?_)
 refine wpAny_newFunctionEnv_cells S.kind hkind fun env he s1 x=>?_
 subst he
 refine⟨lim.keeps x.toInCall.keep,codeAny_func ?_⟩
 obtain⟨t,ht,hq⟩:=hbody A outer s H vs Q E (hr.deeper _) hsp
 have I:Inv (ZhE CX P w K mg base N qual scope f cdv A outer s H E) [] (ZdP N vs) H s1:=Zlo S hr.hd e0 hl r x
 refine wpAny_mono (ht [] s1 (ZdP N vs) H _ I hq) (fun fl s' hs=>?_) fun e s' hs=>hs
 have fin:∀ {σ':St} {H':Hp} {v:V} {u:Value},Inv (ZhE CX P w K mg base N qual scope f cdv A outer s H E) [] σ' H' s'→ZE v u→Q v H'→CE outer P w H s Q u s' :=
  fun {σ' H' v u} J rv q=>⟨v,H',J.os,J.bare,J.base,J.hok,rv,q⟩
 cases fl with
 | ret u =>
  obtain⟨v,σ',H',J,rv,q⟩:=hs
  exact fin J rv q
 | next =>
  obtain⟨σ',H',J,q⟩:=hs
  exact fin (v:=V.non) (u:=Value.none) J rfl q
 | brk =>
  obtain⟨_,_,_,q⟩:=hs
  exact False.elim q
 | cont =>
  obtain⟨_,_,_,q⟩:=hs
  exact False.elim q
section
variable {X:Cx} {x:Str} {p pos:Pos} {e:Expr} {es:List Expr} {t:TA} {id T:String} {r:List V→Hp→VK→Prop}
def tCB(r:List V→Hp→VK→Prop)(t:TA):TE:=fun σ H Q=>t σ H fun vs H1=>r vs H1 Q
theorem Zk(hc:Z5 X (.builtin id) r)(hg:Gl X x)(hm:X.mg x=none)(hv:bootBuiltins x=some (.builtin id))(ha:PA X (e::es) t)(hn:x ≠ "__name__":=by decide)(hdb:(x == ("__debug__" : Str))=false:=by decide)
  (he:starEach (e::es) X.env=(false,eval e X.env)::starEach es X.env:=by rfl) (hpl:(backTo pos (starEach es X.env)).any (·.1)=false:=by rfl):PE X (.Call (.Name x p) (e::es) [] pos) (tCB r t):=by
 intro pins s σ H Q I h
 refine wpAny_Call_Name_kw (Zeb I hg hm hv ?_ hn hdb)
 exact PyProof.Rows.callWith_builtin1 (thn (ha pos pins s σ H _ I h) fun us s1 ⟨vs,H1,I1,r1,q1⟩=>hc pins s1 σ H1 vs us Q I1 r1 q1) he hpl
theorem Za5(hc:Z5 X (.type T) r)(hg:Gl X x)(hm:X.mg x=none)(hv:bootBuiltins x=some (.type T))(ha:PA X (e::es) t)(hn:x ≠ "__name__":=by decide)(hdb:(x == ("__debug__" : Str))=false:=by decide)
  (he:starEach (e::es) X.env=(false,eval e X.env)::starEach es X.env:=by rfl) (hpl:(backTo pos (starEach es X.env)).any (·.1)=false:=by rfl):PE X (.Call (.Name x p) (e::es) [] pos) (tCB r t):=by
 intro pins s σ H Q I h
 refine wpAny_Call_Name_kw (Zeb I hg hm hv ?_ hn hdb)
 exact Qad (thn (ha pos pins s σ H _ I h) fun us s1 ⟨vs,H1,I1,r1,q1⟩=>hc pins s1 σ H1 vs us Q I1 r1 q1) he hpl
end
end L2
namespace HT
open PySem PyProof.Rows
section
open PySem.SeqAt
open PySem.AutoSeq1 (wpAny_loadPart')
open PySem.MeetsSeq PySem.MeetsSeq2 PySem.MeetsSeq3
end
section
variable {prog:Program} {w:World} {A:Around} {E:Value→Shared→Prop} {s:Shared}
theorem cat_tup{t b:Addr}{vs ws:List Value}{Q:Value→Shared→Prop}(ht:IsTup s.heap t vs.toArray)(hb:IsTup s.heap b ws.toArray)(hv:vs≠[])
  (h1:ws=[]→Q (.ref t) s) (h2:ws≠[]→Q (.ref s.heap.objs.size) { s with heap:=s.heap.push { cls:=.type "tuple",data:=.seq (vs++ws).toArray } })
  (hsz:vs.length+ws.length≤sizeLine):wpAny (model prog w) A (binaryOp .Add (.ref t) (.ref b)) Q E s:=by
 obtain⟨⟨cls,dd,data,sl⟩,ho,hc,n,hd⟩:=id ht
 obtain⟨⟨cls2,dd2,data2,sl2⟩,ho2,hc2,n2,hd2⟩:=id hb
 simp only at hc hd hc2 hd2
 subst hc hd hc2 hd2
 have e:vs.toArray++ws.toArray=(vs++ws).toArray:=by simp
 by_cases hw:ws=[]
 ·exact concat_meets ⟨_,ho,rfl⟩ ⟨_,ho2,rfl⟩ noFill_tuple_add seq_tuple_add PySem.F.slot_tuple_add PySem.F.entry_tuple_add (PySem.F.args_tuple_add_2 _ _)
   (tuple_addW1 t b vs.toArray ws.toArray n n2 dd dd2 sl sl2 (by simpa using hv) (by simp[hw])) ⟨ho,ho2,h1 hw⟩
 ·refine concat_meets ⟨_,ho,rfl⟩ ⟨_,ho2,rfl⟩ noFill_tuple_add seq_tuple_add PySem.F.slot_tuple_add PySem.F.entry_tuple_add (PySem.F.args_tuple_add_2 _ _)
   (tuple_addW2 t b vs.toArray ws.toArray n n2 dd dd2 sl sl2 (by simpa using hv) (by simpa using hw) (by rw[Qs,Qs];exact hsz)) ⟨ho,ho2,?_⟩
  rw[e]
  exact h2 hw
def sIx(n d:Nat):Option Int→Nat
 | none=>d
 | some v=>if v<0 then (v+(n:Int)).toNat else min v.toNat n
end
end HT
namespace L2
open PySem PySem.Spec PyProof.Rows
abbrev TO:=St→Hp→(Option Int→Hp→Prop)→Prop
def PO(X:Cx)(e:Option Expr)(t:TO):Prop :=
 ∀ (pins:List (Addr×Obj)) (s:Shared) (σ:St) (H:Hp) (Q:Option Int→Hp→Prop),Inv X pins σ H s→t σ H Q →
  wpAny (model X.prog X.w) X.A (evalPart e X.env) (fun u s'=>∃o H',Inv X pins σ H' s'∧IsPart u o∧Q o H') X.xe s
def ZoT:TO:=fun _ H Q=>Q none H
def ZrY(t:TE):TO:=fun σ H Q=>t σ H fun x H1=>EA (fun i=>x=.int i) (fun i=>Q (some i) H1)
theorem Zec{ns:List Int}:∀ {us:List Value},Zy (ns.map V.int) us→IntsAre us ns:=by
 induction ns with
 | nil=>intro us r;rw[Qap]at r;cases r;exact .nil
 | cons n ns ih =>
  intro us r
  rw[Ql]at r
  cases r with
  | cons r1 r2 =>
   obtain⟨t,e⟩:=r1
   subst e
   exact .cons n t (ih r2)
section
variable {X:Cx} {e:Expr} {te:TE} {lo hi:Option Expr} {tl th:TO} {pos p2:Pos}
theorem Zdi:PO X none ZoT:=by
 intro pins s σ H Q I h
 rw[evalPart_none]
 exact wpAny_pure ⟨none,H,I,.none,h⟩
theorem ZbW(h:PE X e te):PO X (some e) (ZrY te):=by
 intro pins s σ H Q I hw
 rw[evalPart_some]
 refine thn (h pins s σ H _ I hw) ?_
 rintro u s1 ⟨x,H1,I1,r1,q1⟩
 obtain⟨i,rfl,q⟩:=q1
 obtain⟨t,rfl⟩:=r1
 exact⟨some i,H1,I1,.int i t,q⟩
def SlR(X:Cx)(r:V→Option Int→Option Int→Hp→VK→Prop):Prop :=
 ∀ (pins:List (Addr×Obj)) (s:Shared) (σ:St) (H:Hp) (x:V) (v vl vu:Value) (lo hi:Option Int) (sl:Addr) (Q:VK),Inv X pins σ H s→ZE x v→s.heap.IsSliceOf sl vl vu .none→IsPart vl lo→IsPart vu hi→r x lo hi H Q →
  ∃T id,typeLookup (.type T) "__getitem__" = pure (some (.builtin id))∧s.TypeIs v T∧wpAny (model X.prog X.w) X.A (getItem v (.ref sl)) (EP X pins σ Q) X.xe s
def tSl(r:V→Option Int→Option Int→Hp→VK→Prop)(te:TE)(tl th:TO):TE:=fun σ H Q=>te σ H fun x H1=>tl σ H1 fun l H2=>th σ H2 fun u H3=>r x l u H3 Q
theorem Zcn{r:V→Option Int→Option Int→Hp→VK→Prop}(hr:SlR X r)(he:PE X e te)(hl:PO X lo tl)(hu:PO X hi th):PE X (.Subscript e (.Slice lo hi none p2) pos) (tSl r te tl th):=by
 intro pins s σ H Q I h
 refine Subscript_ (thn (he pins s σ H _ I h) ?_)
 rintro v s1 ⟨x,H1,I1,r1,q1⟩
 refine wpAny_Slice (thn (hl pins s1 σ H1 _ I1 q1) fun vl s2 ⟨l,H2,I2,pl,q2⟩=>thn (hu pins s2 σ H2 _ I2 q2) ?_)
 rintro vu s3 ⟨u,H3,I3,pu,q3⟩
 rw[evalPart_none]
 refine wpAny_pure ?_
 have I4:Inv X pins σ H3 { s3 with heap:=s3.heap.push { cls:=.type "slice",data:=.fields #[vl,vu,.none] } }:=I3.kept (t':=s3.toks) fun b ob q=>Qd _ q
 obtain⟨T,id,hT,ht,hg⟩:=hr pins { s3 with heap:=s3.heap.push { cls:=.type "slice",data:=.fields #[vl,vu,.none] } } σ H3 x v vl vu l u s3.heap.objs.size Q I4 r1 (Heap.IsSliceOf.new ..) pl pu q3
 show wpAny (model X.prog X.w) X.A (subscriptTail e (.Slice lo hi none p2) v (.ref s3.heap.objs.size)) (EP X pins σ Q) X.xe { s3 with heap:=s3.heap.push { cls:=.type "slice",data:=.fields #[vl,vu,.none] } }
 exact tail_any (ops:=[.ref s3.heap.objs.size,v]) ht hT hg (by with_unfolding_all rfl)
def ZdI(xs:List V)(lo hi:Option Int):List V:=(xs.drop (HT.sIx xs.length 0 lo)).take (HT.sIx xs.length xs.length hi-HT.sIx xs.length 0 lo)
theorem Zip(xs:List V)(lo hi:Option Int):(ZdI xs lo hi).length≤xs.length:=by
 unfold ZdI
 rw[QC,QW]
 lia
def Zrx(K:PySem.W.Frag):R2:=fun x y H Q=>∃a b xs ys,x=.ref a∧y=.ref b∧SqT K H a xs∧SqT K H b ys∧xs≠[]∧xs.length+ys.length≤sizeLine ∧
 (ys=[]→Q (.ref a) H)∧(ys≠[]→∀p,H p=none→Q (.ref p) (upd H p (.tup (xs++ys))))
theorem Zy.nil_iff{xs:List V}{us:List Value}(r:Zy xs us):us=[]↔xs=[]:=by
 cases r with
 | nil=>simp
 | cons _ _=>simp
theorem ZoM:OpR X (binaryOp .Add) (Zrx X.K):=by
 intro pins s σ H x y v u Q I rx ry h
 obtain⟨a,b,xs,ys,rfl,rfl,ha,hb,hx,hz,q1,q2⟩:=h
 cases rx
 cases ry
 obtain⟨its,r1,p1,_⟩:=I.tuple ha
 obtain⟨its2,r2,p2,_⟩:=I.tuple hb
 refine HT.cat_tup p1 p2 (fun z=>hx (r1.nil_iff.mp z)) (fun z=>⟨.ref a,H,I,rfl,q1 (r2.nil_iff.mp z)⟩) (fun z=>?_) (by rw[← r1.length,← r2.length];exact hz)
 refine⟨.ref s.heap.objs.size,_,I.laid (t':=s.toks) (o:=.tup (xs++ys)) (fun b ob q=>Qd _ q) (Qi _) ?_,rfl,q2 (fun w=>z (r2.nil_iff.mpr w)) _ (I.hok.fresh (Qi _))⟩
 exact⟨by rw[Qg];exact hz,_,r1.append r2,IsTup.new _ _⟩
end
def ixN(n:Nat)(i:Int):Option Nat:=if 0≤i then (if i<n then some i.toNat else none) else if -(n:Int)≤i then some (i+n).toNat else none
def atI{α:Type}(xs:List α)(i:Int):Option α:=(ixN xs.length i).bind fun j=>xs[j]?
theorem Zkz{n:Nat}{i:Int}{j:Nat}(h:ixN n i=some j):seqIndex? i n=some j∧j<n ∧ -(n:Int)≤i∧i<n:=by
 unfold ixN at h
 by_cases h0:0≤i
 ·rw[if_pos h0]at h
  by_cases h1:i<n
  ·rw[if_pos h1]at h
   have e:i.toNat=j:=Qq h
   exact⟨by rw[seqIndex_of h0 h1,e],by lia,by lia,h1⟩
  ·rw[if_neg h1]at h;cases h
 ·rw[if_neg h0]at h
  by_cases h1:-(n:Int)≤i
  ·rw[if_pos h1]at h
   have e:(i+n).toNat=j:=Qq h
   exact⟨by rw[seqIndex_neg (by lia) h1,e],by lia,h1,by lia⟩
  ·rw[if_neg h1]at h;cases h
theorem ZhZ{α:Type}{xs:List α}{i:Int}{v:α}(h:atI xs i=some v):∃j,seqIndex? i xs.length=some j∧xs[j]? = some v∧j<xs.length ∧ -(xs.length:Int)≤i∧i<xs.length:=by
 unfold atI at h
 cases e:ixN xs.length i with
 | none=>rw[e]at h;cases h
 | some j =>
  rw[e]at h
  obtain⟨h1,h2,h3,h4⟩:=Zkz e
  exact⟨j,h1,h,h2,h3,h4⟩
theorem Zaf{α:Type}{xs:List α}{j:Nat}{v:α}(h:xs[j]? = some v):atI xs (j:Int)=some v:=by
 have hj:j<xs.length:=(Qc.mp h).1
 have e:ixN xs.length (j:Int)=some j:=by
  unfold ixN
  rw[if_pos (by lia),if_pos (by lia)];simp
 unfold atI;rw[e];exact h
theorem ZnN{α:Type}(xs:List α)(v:α):atI (xs++[v]) (-1)=some v:=by
 have hl:(xs++[v]).length=xs.length+1:=by simp
 have e:ixN (xs++[v]).length (-1)=some xs.length:=by
  unfold ixN
  rw[hl,if_neg (by decide),if_pos (by lia)]
  congr 1
  lia
 unfold atI
 rw[e]
 show (xs++[v])[xs.length]? = some v
 simp
def Zpx(b:Expr):Prop:=∀o i,subscripted b false o i=operate [o,i] (getItem o i)
def IxR(X:Cx)(r:R2):Prop :=
 ∀ (value slice:Expr) (pins:List (Addr×Obj)) (s:Shared) (σ:St) (H:Hp) (x y:V) (v u:Value) (Q:VK),Inv X pins σ H s→ZE x v→ZE y u→r x y H Q →
  subscripted slice false v u=operate [v,u] (getItem v u)→wpAny (model X.prog X.w) X.A (subscriptTail value slice v u) (EP X pins σ Q) X.xe s
def MtR(X:Cx)(id:String)(r:V→List V→Hp→VK→Prop):Prop :=
 ∀ (pins:List (Addr×Obj)) (s:Shared) (σ:St) (H:Hp) (x:V) (xs:List V) (v:Value) (us:List Value) (Q:VK),Inv X pins σ H s→ZE x v→Zy xs us→r x xs H Q →
  wpAny (model X.prog X.w) X.A (call (.builtin id) (v::us)) (EP X pins σ Q) X.xe s
section
variable {X:Cx} {a b:Expr} {ta tb:TE} {pos:Pos}
theorem Zz{r:R2}(hr:IxR X r)(ha:PE X a ta)(hb:PE X b tb)(hs:Zpx b):PE X (.Subscript a b pos) (tOp r ta tb):=by
 intro pins s σ H Q I h
 exact Subscript_ (ZpY ha hb I h fun v u s2 x y H2 I2 rx ry q=>hr a b pins s2 σ H2 x y v u Q I2 rx ry q (hs _ _))
inductive RIx (S:Addr→List V→Prop) (x y:V) (B:V→Prop):Prop where
 | mk (p:Addr) (xs:List V) (i:Int) (v:V) (a:x=.ref p) (b:y=.int i) (c:S p xs) (d:atI xs i=some v) (q:B v)
def Zsc(K:PySem.W.Frag):R2:=fun x y H Q=>RIx (SqL K H) x y (fun v=>Q v H)
def Zr6(K:PySem.W.Frag):R2:=fun x y H Q=>RIx (SqT K H) x y (fun v=>Q v H)
def ZsD:R2:=fun x y H Q=>∃z i c,x=.str z∧y=.int i∧z.length≤sizeLine∧atI z.cps.toList i=some c∧Q (.str ⟨#[c]⟩) H
theorem Zo5:IxR X (Zsc X.K):=by
 intro value slice pins s σ H x y v u Q I rx ry h hs
 obtain⟨p,xs,i,z,rfl,rfl,hq,he,q⟩:=h
 cases rx
 obtain⟨t,rfl⟩:=ry
 obtain⟨its,r,pl,hz⟩:=I.list hq
 obtain⟨j,h1,h2,h3,h4,h5⟩:=ZhZ he
 obtain⟨w,ew,rw'⟩:=r.get h2
 have hl:=r.length
 have hn:=Ze2
 have fin:EP X pins σ Q w s:=⟨z,H,I,rw',q⟩
 by_cases h0:0≤i
 ·have hj:i.toNat=j:=by
   rw[seqIndex_of h0 h5]at h1
   exact Qq h1
  exact item_listR pl.isList h0 (by lia) (by rw[hj];simpa using ew) fin hs
 ·have hj:(i+(its.toArray.size:Int)).toNat=j:=by
   rw[seqIndex_neg (by lia) h4]at h1
   rw[Qs,← hl]
   exact Qq h1
  exact subscriptTail_builtinR (x:=w) pl.isList.typeIs slot_list_getitem.lookup
   (wpAny_getItem_list_neg (Q:=fun r s'=>r=w∧EP X pins σ Q r s') pl.isList (by lia) (by rw[Qs]<;>lia) (by lia) (by rw[hj];simpa using ew) ⟨rfl,fin⟩) hs
theorem Zq0:IxR X (Zr6 X.K):=by
 intro value slice pins s σ H x y v u Q I rx ry h hs
 obtain⟨p,xs,i,z,rfl,rfl,hq,he,q⟩:=h
 cases rx
 obtain⟨t,rfl⟩:=ry
 obtain⟨its,r,pl,hz⟩:=I.tuple hq
 obtain⟨j,h1,h2,h3,h4,h5⟩:=ZhZ he
 obtain⟨w,ew,rw'⟩:=r.get h2
 have hl:=r.length
 have hn:=Ze2
 have fin:EP X pins σ Q w s:=⟨z,H,I,rw',q⟩
 exact subscriptTail_builtinR (x:=w) pl.typeIs slot_tuple_getitem.lookup
  (getItem_tuple (j:=j) (Q:=fun r s'=>r=w∧EP X pins σ Q r s') pl (by lia) (by lia) (by rw[Qs,← hl];exact h1) (by simpa using ew) ⟨rfl,fin⟩) hs
theorem Zgt:IxR X ZsD:=by
 intro value slice pins s σ H x y v u Q I rx ry h hs
 obtain⟨z,i,c,rfl,rfl,hz,he,q⟩:=h
 obtain⟨t,rfl⟩:=rx
 obtain⟨t',rfl⟩:=ry
 obtain⟨j,h1,h2,h3,h4,h5⟩:=ZhZ he
 have hl:z.cps.toList.length=z.length:=by simp[Str.length]
 rw[hl]at h1 h4 h5
 have hn:=Ze2
 exact tail_any (typeIs_str s z t) slot_str_getitem.lookup (getItem_str (c:=c) (by
  have e1:decide (i < -(2 ^ 63:Int))=false:=decide_eq_false (by lia)
  have e2:decide (i≥2 ^ 63)=false:=decide_eq_false (by lia)
  rw[e1,e2,Bool.or_false]) (by rw[h1];simpa using h2) ⟨.str ⟨#[c]⟩,H,I.tok _,⟨_,rfl⟩,q⟩) hs
theorem ZjV(its:List Value)(n j:Nat)(u:Value):Obj.mapSeq (·.setIfInBounds j u) { cls:=.type "list",data:=.seq its.toArray n }={ cls:=.type "list",data:=.seq (its.set j u).toArray n }:=by
 simp[Obj.mapSeq]
theorem Inv.lst{pins:List (Addr×Obj)}{σ:St}{H:Hp}{s:Shared}{p:Addr}{xs:List V}(I:Inv X pins σ H s)(h:H p=some (.lst xs)) :
  ∃ (its:List Value) (n:Nat),Zy xs its∧s.heap.get? p=some { cls:=.type "list",data:=.seq its.toArray n }∧xs.length≤sizeLine:=by
 obtain⟨z,its,n,r,e⟩:=I.hok p _ h
 exact⟨its,n,r,e,z⟩
theorem Inv.lstUpd{pins:List (Addr×Obj)}{σ:St}{H:Hp}{s:Shared}{p:Addr}{xs ys:List V}{its its':List Value}{n n':Nat}{f:Obj→Obj}(I:Inv X pins σ H s)(h:H p=some (.lst xs))
  (ho:s.heap.get? p=some { cls:=.type "list",data:=.seq its.toArray n }) (hf:f { cls:=.type "list",data:=.seq its.toArray n }={ cls:=.type "list",data:=.seq its'.toArray n' }) (r:Zy ys its') (hz:ys.length≤sizeLine) (t:Nat) :
  Inv X pins σ (upd H p (.lst ys)) { s with heap:=s.heap.update p f,toks:=t }:=by
 have e:(s.heap.update p f).get? p=some { cls:=.type "list",data:=.seq its'.toArray n' }:=by
  rw[Heap.get?_update_self f ho (by rw[hf]<;>rfl),hf]
 refine I.write (x:=p) (e:=p) (by rw[h];trivial) (.inl rfl) (fun b u hb q=>(Heap.get?_update_other _ _ (Ne.symm hb)).trans q) ⟨_,e⟩ ?_
 exact⟨hz,its',n',r,e⟩
def Zrq:V→V→V→Hp→(Hp→Prop)→Prop:=fun o i v H Q=>∃p xs k j,o=.ref p∧i=.int k∧H p=some (.lst xs)∧ixN xs.length k=some j∧Q (upd H p (.lst (xs.set j v)))
theorem Ziw:Zmn X Zrq:=by
 intro pins s σ H o i v ov iv u Q I ro ri rv h
 obtain⟨p,xs,k,j,rfl,rfl,hp,hj,q⟩:=h
 cases ro
 obtain⟨t,rfl⟩:=ri
 obtain⟨its,n,r,ho,hz⟩:=I.lst hp
 obtain⟨h1,h2,h3,h4⟩:=Zkz hj
 have hl:=r.length
 have hn:=Ze2
 have I':Inv X pins σ (upd H p (.lst (xs.set j v))) { s with heap:=s.heap.update p (Obj.mapSeq (·.setIfInBounds j u)) } :=
  I.lstUpd hp ho (ZjV its n j u) (r.set rv j) (by rw[List.length_set];exact hz) s.toks
 by_cases h0:0≤k
 ·have hk:k.toNat=j:=by
   rw[seqIndex_of h0 h4]at h1
   exact Qq h1
  exact PySem.W.ki_setAt ho h0 (by lia) (by rw[Qs,← hl];exact h4) (by rw[hk];exact⟨_,I',q⟩)
 ·have hk:(k+(its.toArray.size:Int)).toNat=j:=by
   rw[seqIndex_neg (by lia) h3]at h1
   rw[Qs,← hl]
   exact Qq h1
  exact PySem.W.ki_setBack ho (by lia) (by rw[Qs,← hl];exact h3) (by lia) (by rw[hk];exact⟨_,I',q⟩)
theorem ZhJ(lo hi:Option Int)(n:Nat):(sliceBounds lo hi none n).1=((HT.sIx n 0 lo:Nat):Int)∧(sliceBounds lo hi none n).2.1=((HT.sIx n n hi:Nat):Int)∧(sliceBounds lo hi none n).2.2=1:=by
 refine⟨?_,?_,rfl⟩
 ·cases lo with
  | none=>simp[sliceBounds,HT.sIx]
  | some i =>
   simp only[sliceBounds,HT.sIx,Option.getD_none,show (1:Int)>0 by decide,if_true]
   by_cases h:i<0
   ·simp only[h,if_true]<;>lia
   ·simp only[h,if_false]<;>lia
 ·cases hi with
  | none=>simp[sliceBounds,HT.sIx]
  | some i =>
   simp only[sliceBounds,HT.sIx,Option.getD_none,show (1:Int)>0 by decide,if_true]
   by_cases h:i<0
   ·simp only[h,if_true]<;>lia
   ·simp only[h,if_false]<;>lia
theorem ZgC(its:List Value)(lo hi:Option Int):slicePick its.toArray lo hi none=((its.drop (HT.sIx its.length 0 lo)).take (HT.sIx its.length its.length hi-HT.sIx its.length 0 lo)).toArray:=by
 obtain⟨h1,h2,h3⟩:=ZhJ lo hi its.toArray.size
 unfold slicePick
 rw[h1,h2,h3]
 simp only[sliceRange_one,pick_run,List.size_toArray]<;>rfl
inductive RSl (K:PySem.W.Frag) (x:V) (lo hi:Option Int) (H:Hp) (B:Addr→Hp→Prop):Prop where
 | mk (a:Addr) (xs:List V) (e:x=.ref a) (s:SqL K H a xs) (q:∀p,H p=none→B p (upd H p (.lst (ZdI xs lo hi))))
def Zru(K:PySem.W.Frag):V→Option Int→Option Int→Hp→VK→Prop:=fun x lo hi H Q=>RSl K x lo hi H fun p H'=>Q (.ref p) H'
theorem Zoh:SlR X (Zru X.K):=by
 intro pins s σ H x v vl vu lo hi sl Q I rx hs pl pu h
 obtain⟨a,xs,rfl,hx,q⟩:=h
 cases rx
 obtain⟨its,r,ht,hz⟩:=I.list hx
 have hlen:=r.length
 refine⟨"list",_,slot_list_getitem.lookup,ht.isList.typeIs,?_⟩
 refine wpAny_getItem_list_slice ht.isList hs pl pu .none (by simp) ?_ (by rw[Qs]<;>lia)
 rw[ZgC,← hlen]
 refine⟨.ref s.heap.objs.size,_,I.laid (t':=s.toks) (o:=.lst (ZdI xs lo hi)) (fun b ob q=>Qd _ q) (Qi _) ?_,rfl,q _ (I.hok.fresh (Qi _))⟩
 exact⟨QP (Zip xs lo hi) hz,_,0,(r.drop (HT.sIx xs.length 0 lo)).take (HT.sIx xs.length xs.length hi-HT.sIx xs.length 0 lo),QA _ rfl⟩
def Zer:V→Bool
 | .non=>true
 | .bl _=>true
 | .int _=>true
 | .str _=>true
 | _=>false
def eqV:V→V→Bool
 | .non,.non=>true
 | .bl a,.bl b=>a == b
 | .bl a,.int b=>(if a then 1 else 0) == b
 | .int a,.bl b=>a == (if b then 1 else 0)
 | .int a,.int b=>a == b
 | .str a,.str b=>a == b
 | _,_=>false
theorem Zrj{A:Around}{s:Shared}{y x:V}{u v:Value}(ry:ZE y u)(rx:ZE x v)(fy:Zer y=true)(fx:Zer x=true):SeqAt.EqAt A s u v (eqV y x):=by
 cases y with
 | non =>
  cases ry
  cases x with
  | non=>cases rx;exact SeqAt.EqAt.same _
  | bl b=>cases rx;exact SeqAt.EqAt.none_bool b
  | int b=>obtain⟨t,rfl⟩:=rx;exact SeqAt.EqAt.none_int b t
  | str b=>obtain⟨t,rfl⟩:=rx;exact SeqAt.EqAt.none_str b t
  | _=>exact absurd (show false=true from fx) Qz
 | bl a =>
  cases ry
  cases x with
  | non=>cases rx;exact SeqAt.EqAt.bool_none a
  | bl b=>cases rx;exact SeqAt.EqAt.bool_bool a b
  | int b=>obtain⟨t,rfl⟩:=rx;exact SeqAt.EqAt.bool_int a b t
  | str b=>obtain⟨t,rfl⟩:=rx;exact SeqAt.EqAt.bool_str a b t
  | _=>exact absurd (show false=true from fx) Qz
 | int a =>
  obtain⟨t',rfl⟩:=ry
  cases x with
  | non=>cases rx;exact SeqAt.EqAt.int_none a t'
  | bl b=>cases rx;exact SeqAt.EqAt.int_bool a t' b
  | int b=>obtain⟨t,rfl⟩:=rx;exact SeqAt.EqAt.int_int a t' b t
  | str b=>obtain⟨t,rfl⟩:=rx;exact SeqAt.EqAt.int_str a t' b t
  | _=>exact absurd (show false=true from fx) Qz
 | str a =>
  obtain⟨t',rfl⟩:=ry
  cases x with
  | non=>cases rx;exact SeqAt.EqAt.str_none a t'
  | bl b=>cases rx;exact SeqAt.EqAt.str_bool a t' b
  | int b=>obtain⟨t,rfl⟩:=rx;exact SeqAt.EqAt.str_int a t' b t
  | str b=>obtain⟨t,rfl⟩:=rx;exact SeqAt.EqAt.str_str a t' b t
  | _=>exact absurd (show false=true from fx) Qz
 | _=>exact absurd (show false=true from fy) Qz
def eqU(x:V)(u:Value):Bool:=match u with
 | .none=>eqV .non x
 | .bool b=>eqV (.bl b) x
 | .int i _=>eqV (.int i) x
 | .str z _=>eqV (.str z) x
 | _=>false
theorem Znt{x y:V}{u:Value}(r:ZE y u)(f:Zer y=true):eqU x u=eqV y x:=by
 cases y with
 | non=>cases r;rfl
 | bl b=>cases r;rfl
 | int i=>obtain⟨t,rfl⟩:=r;rfl
 | str z=>obtain⟨t,rfl⟩:=r;rfl
 | _=>exact absurd (show false=true from f) Qz
theorem ZhY{x:V}:∀ {xs:List V} {us:List Value},Zy xs us→xs.all Zer=true→us.any (eqU x)=xs.any fun y=>eqV y x
 | _,_,.nil,_=>rfl
 | y::xs,u::us,.cons r t,f=>by
  rw[List.all_cons,QaP]at f
  rw[QaS,QaS,Znt r f.1,ZhY t f.2]
theorem ZfW{A:Around}{s:Shared}{x:V}{v:Value}(rx:ZE x v)(fx:Zer x=true):∀ {xs:List V} {us:List Value},Zy xs us→xs.all Zer=true→∀u∈us,SeqAt.EqAt A s u v (eqU x u)
 | _,_,.nil,_=>fun u hu=>by cases hu
 | y::xs,u::us,.cons r t,f=>fun u' hu=>by
  rw[List.all_cons,QaP]at f
  rcases QO.mp hu with rfl|hu
  ·rw[Znt r f.1];exact Zrj r rx f.1 fx
  ·exact ZfW rx fx t f.2 u' hu
def inV(x:V)(xs:List V):Bool:=xs.any fun y=>eqV y x
def rIn(K:PySem.W.Frag)(neg:Bool):R2:=fun x y H Q=>∃p xs,y=.ref p∧(SqL K H p xs∨SqT K H p xs)∧Zer x=true∧xs.all Zer=true∧Q (.bl (if neg then !inV x xs else inV x xs)) H
theorem Zld:OpR X (compareOp .In) (rIn X.K false):=by
 intro pins s σ H x y v u Q I rx ry h
 obtain⟨p,xs,rfl,hq,fx,fs,q⟩:=h
 cases ry
 rcases hq with hq|hq
 ·obtain⟨its,r,pl,hz⟩:=I.list hq
  refine SeqAt.in_listAt (eqU x) pl.isList (fun w hw=>ZfW rx fx r fs w (by simpa using hw)) ⟨.bl _,H,I,rfl,?_⟩
  rw[show its.toArray.any (eqU x)=its.any (eqU x) by simp,ZhY r fs]
  exact q
 ·obtain⟨its,r,pl,hz⟩:=I.tuple hq
  refine SeqAt.in_tupleAt (eqU x) pl (fun w hw=>ZfW rx fx r fs w (by simpa using hw)) ⟨.bl _,H,I,rfl,?_⟩
  rw[show its.toArray.any (eqU x)=its.any (eqU x) by simp,ZhY r fs]
  exact q
theorem ZhL:Z5 X (.builtin "len") (fun xs H Q=>∃p ys,xs=[.ref p]∧(SqL X.K H p ys∨SqT X.K H p ys)∧Q (.int ys.length) H):=by
 intro pins s σ H xs us Q I r h
 obtain⟨p,ys,rfl,hq,q⟩:=h
 obtain⟨u,rfl,rx⟩:=ZbJ r
 cases rx
 have hn:=Ze2
 rcases hq with hq|hq
 ·obtain⟨its,r',pl,hz⟩:=I.list hq
  have hlen:=r'.length
  exact Calls.call_len_list pl.isList (by simp only[List.size_toArray]<;>lia) ⟨.int ys.length,H,I.tok _,⟨s.toks+1,by rw[Qs,hlen]⟩,q⟩
 ·obtain⟨its,r',pl,hz⟩:=I.tuple hq
  have hlen:=r'.length
  exact len_tuple pl (by simp only[List.size_toArray]<;>lia) ⟨.int ys.length,H,I.tok _,⟨s.toks+1,by rw[Qs,hlen]⟩,q⟩
theorem Zbg:Z5 X (.builtin "len") (fun xs H Q=>∃z,xs=[.str z]∧z.length≤sizeLine∧Q (.int z.length) H):=by
 intro pins s σ H xs us Q I r h
 obtain⟨z,rfl,hz,q⟩:=h
 obtain⟨u,rfl,t,rfl⟩:=ZbJ r
 have hn:=Ze2
 exact len_str (by lia) ⟨.int z.length,H,I.tok _,⟨_,rfl⟩,q⟩
theorem ZhS:Z5 X (.type "list") (fun xs H Q=>∃p ys,xs=[.ref p]∧(SqL X.K H p ys∨SqT X.K H p ys)∧∀l,H l=none→Q (.ref l) (upd H l (.lst ys))):=by
 intro pins s σ H xs us Q I r h
 obtain⟨p,ys,rfl,hq,q⟩:=h
 obtain⟨u,rfl,rx⟩:=ZbJ r
 cases rx
 have fin:∀ (its:List Value),Zy ys its→ys.length≤sizeLine→∀ (h':Heap) (c':Nat),(∀b o',s.heap.get? b=some o'→h'.get? b=some o') →
   h'.get? s.heap.objs.size=some { cls:=.type "list",dict:=none,data:=.seq its.toArray c',slots:=#[] }→EP X pins σ Q (.ref s.heap.objs.size) { s with heap:=h' }:=fun its r' hz h' c' kp e =>
  ⟨.ref s.heap.objs.size,_,I.laid (t':=s.toks) kp (Qi _) (show Zad X.prog X.w _ h' _ (.lst ys) from⟨hz,its,c',r',e⟩),rfl,q _ (I.hok.fresh (Qi _))⟩
 rcases hq with hq|hq
 ·obtain⟨its,r',pl,hz⟩:=I.list hq
  have hlen:=r'.length
  obtain⟨o,ho,hc,n,hd⟩:=pl.isList
  exact call_list_seq p (.inl rfl) ho hc hd (fun h' c' kp e=>fin its r' hz h' c' kp e) (by simp only[List.size_toArray]<;>lia)
 ·obtain⟨its,r',pl,hz⟩:=I.tuple hq
  have hlen:=r'.length
  obtain⟨o,ho,hc,n,hd⟩:=pl
  exact call_list_seq p (.inr rfl) ho hc hd (fun h' c' kp e=>fin its r' hz h' c' kp e) (by simp only[List.size_toArray]<;>lia)
def tyV(K:PySem.W.Frag)(T:String)(x:V)(H:Hp):Prop:=match x with
 | .str _=>T = "str"
 | .int _=>T = "int"
 | .ref p=>(T = "list"∧∃xs,SqL K H p xs)∨(T = "tuple"∧∃o,K.lookup p=some o∧o.cls=.type "tuple"∧o.dict=none) ∨
   (T = "dict"∧((∃kvs,H p=some (.dK kvs))∨∃kvs,H p=some (.dT kvs)))∨(T = "set"∧∃S n,H p=some (.set S n))
 | _=>False
theorem Zl7{pins:List (Addr×Obj)}{σ:St}{H:Hp}{s:Shared}{T:String}{x:V}{v:Value}(I:Inv X pins σ H s)(r:ZE x v)(ty:tyV X.K T x H) :
  s.TypeIs v T∧∀a,v=.ref a→∃ob,s.heap.get? a=some ob∧ob.dict=none:=by
 cases x with
 | str z =>
  obtain⟨t,rfl⟩:=r
  cases (show T = "str" from ty)
  exact⟨typeIs_str s z t,fun _ e=>nomatch e⟩
 | int i =>
  obtain⟨t,rfl⟩:=r
  cases (show T = "int" from ty)
  exact⟨typeIs_int s i t,fun _ e=>nomatch e⟩
 | ref p =>
  cases r
  rcases ty with⟨rfl,xs,hq⟩|⟨rfl,o,hk,hc,hd⟩|⟨rfl,hk⟩|⟨rfl,S,n,hk⟩
  ·obtain⟨its,_,pl,_⟩:=I.list hq
   refine⟨pl.isList.typeIs,fun a e=>?_⟩
   cases e
   obtain⟨o,n,e,c,hd,_⟩:=pl
   exact⟨o,e,hd⟩
  ·refine⟨⟨o,I.kIn p o hk,hc⟩,fun a e=>?_⟩
   cases e
   exact⟨o,I.kIn _ o hk,hd⟩
  ·have z:∃o,s.heap.get? p=some o∧o.ExactDict:=by
    rcases hk with⟨kvs,hk⟩|⟨kvs,hk⟩
    ·obtain⟨_,_,_,_,o,_,_,e,ex,_⟩:=I.hok p _ hk
     exact⟨o,e,ex⟩
    ·obtain⟨_,_,_,_,o,_,_,e,ex,_⟩:=I.hok p _ hk
     exact⟨o,e,ex⟩
   obtain⟨o,e,ex⟩:=z
   refine⟨⟨o,e,ex.1⟩,fun a e2=>?_⟩
   cases e2
   exact⟨o,e,ex.2.1⟩
  ·obtain⟨o,_,_,_,e,ex,_⟩:=I.hok p _ hk
   refine⟨⟨o,e,ex.1⟩,fun a e2=>?_⟩
   cases e2
   exact⟨o,e,ex.2.1⟩
 | _=>exact False.elim ty
def ZsO(K:PySem.W.Frag)(T:String)(r:V→List V→Hp→VK→Prop)(to:TE):TE:=fun σ H Q=>to σ H fun x H1=>tyV K T x H1∧r x [] H1 Q
def tBM(K:PySem.W.Frag)(T:String)(r:V→List V→Hp→VK→Prop)(to:TE)(t:TA):TE:=fun σ H Q=>to σ H fun x H1=>tyV K T x H1∧t σ H1 fun xs H2=>r x xs H2 Q
variable {o e:Expr} {es:List Expr} {to:TE} {t:TA} {name:Str} {apos cpos:Pos} {T id:String} {r:V→List V→Hp→VK→Prop}
theorem Zmt(pa:PlainAttrs T)(slot:Slot T name id)(hty:typeOf (.builtin id)=pure (.type "method_descriptor"))(hm:MtR X id r)(ho:PE X o to)
  (hbase:attributeBase o name X.env (eval o X.env)=eval o X.env:=by rfl) (hline:(apos.endLine == cpos.line)=true:=by rfl):PE X (.Call (.Attribute o name apos) [] [] cpos) (ZsO X.K T r to):=by
 intro pins s σ H Q I h
 refine wpAny_Call_method0_late hbase hline (thn (ho pins s σ H _ I h) ?_)
 rintro v s1 ⟨x,H1,I1,r1,ty,q1⟩
 obtain⟨h1,h2⟩:=Zl7 I1 r1 ty
 exact⟨T,id,pa,slot,hty,h1,h2,Calls.callWith_builtin rfl (PySem.evalArgs_none (hm pins s1 σ H1 x [] v [] Q I1 r1 .nil q1))⟩
theorem ZbY(pa:PlainAttrs T)(slot:Slot T name id)(hty:typeOf (.builtin id)=pure (.type "method_descriptor"))(hm:MtR X id r)(ho:PE X o to)(ha:PA X (e::es) t)
  (hbase:attributeBase o name X.env (eval o X.env)=eval o X.env:=by rfl)
  (hfew:((backTo cpos (starEach (e::es) X.env)).all (fun x=>!x.1)&&(backToKw cpos (keywordEach [] X.env)).all (fun x=>x.1.isSome)
   && decide ((e::es).length+([]:List Keyword).length+(if ([]:List Keyword).isEmpty then 0 else 1)<30))=true:=by rfl)
  (hline:(apos.endLine == cpos.line)=true:=by rfl) (hs:starEach (e::es) X.env=(false,eval e X.env)::starEach es X.env:=by rfl) (hplain:(backTo cpos (starEach es X.env)).any (·.1)=false:=by rfl) :
  PE X (.Call (.Attribute o name apos) (e::es) [] cpos) (tBM X.K T r to t):=by
 intro pins s σ H Q I h
 refine wpAny_Call_method_late hbase hfew hline rfl (thn (ho pins s σ H _ I h) ?_)
 rintro v s1 ⟨x,H1,I1,r1,ty,q1⟩
 obtain⟨h1,h2⟩:=Zl7 I1 r1 ty
 refine⟨T,id,pa,slot,hty,h1,h2,?_⟩
 have hA:=ha cpos pins s1 σ H1 _ I1 q1
 rw[hs]at hA ⊢
 refine Calls.callWith_builtin (by show (false||(backTo cpos (starEach es X.env)).any (·.1))=false;rw[hplain]<;>rfl) (Calls.evalArgs_plain ?_)
 exact thn hA fun us s2 ⟨vs,H2,I2,r2,q2⟩=>hm pins s2 σ H2 x vs v us Q I2 r1 r2 q2
end
def MtM(X:Cx)(id:String)(r:V→List V→Hp→VK→Prop):Prop :=
 ∀ (pins:List (Addr×Obj)) (s:Shared) (σ:St) (H:Hp) (x:V) (xs:List V) (v:Value) (us:List Value) (Q:VK),Inv X pins σ H s→ZE x v→Zy xs us→r x xs H Q →
  wpAny (model X.prog X.w) X.A (call (.builtin id) (v::us)) (EP X pins σ Q) X.xe s
theorem Zy.one:∀ {x:V} {us:List Value},Zy [x] us→∃u,us=[u]∧ZE x u
 | _,_,.cons r .nil=>⟨_,rfl,r⟩
theorem Zy.two:∀ {x y:V} {us:List Value},Zy [x,y] us→∃u v,us=[u,v]∧ZE x u∧ZE y v
 | _,_,_,.cons r (.cons q .nil)=>⟨_,_,rfl,r,q⟩
theorem Zy.zero:∀ {us:List Value},Zy [] us→us=[]
 | _,.nil=>rfl
theorem Zy.eraseIdx:∀ {xs:List V} {us:List Value} (i:Nat),Zy xs us→Zy (xs.eraseIdx i) (us.eraseIdx i)
 | _,_,_,.nil=>.nil
 | _,_,0,.cons _ t=>t
 | _,_,i+1,.cons r t=>.cons r (Zy.eraseIdx i t)
theorem Zy.reverse{xs:List V}{us:List Value}(h:Zy xs us):Zy xs.reverse us.reverse:=by
 induction h with
 | nil=>exact .nil
 | cons r t ih=>rw[QaK,QaK];exact Zy.append ih (.cons r .nil)
section
variable {X:Cx} {pins:List (Addr×Obj)} {σ:St} {H:Hp} {s:Shared} {l b:Addr} {xs ys zs:List V}
theorem Inv.lset{its its':List Value}{n:Nat}{f:Array Value→Array Value}{t':Nat}(I:Inv X pins σ H s)(hH:H l=some (.lst xs))
  (e:s.heap.get? l=some { cls:=.type "list",data:=.seq its.toArray n }) (hf:f its.toArray=its'.toArray) (hv:Zy ys its') (hz:ys.length≤sizeLine) :
  Inv X pins σ (upd H l (.lst ys)) { s with heap:=s.heap.update l (Obj.mapSeq f),toks:=t' }:=by
 have q:=PySem.IsL.update e f
 rw[hf]at q
 refine I.write (x:=l) (e:=l) (by rw[hH];exact trivial) (.inl rfl) (fun b' u hb hu=>(Heap.get?_update_other s.heap (Obj.mapSeq f) (Ne.symm hb)).trans hu) ⟨_,q⟩ ?_
 exact⟨hz,its',_,hv,q⟩
theorem Inv.lnew{its:List Value}{t':Nat}(I:Inv X pins σ H s)(hv:Zy ys its)(hz:ys.length≤sizeLine) :
  Inv X pins σ (upd H s.heap.objs.size (.lst ys)) { s with heap:=s.heap.push { cls:=.type "list",data:=.seq its.toArray },toks:=t' } :=
 I.laid (fun _ _ q=>Qd _ q) (Qi _) ⟨hz,its,0,hv,QA _ rfl⟩
theorem Inv.fresh(I:Inv X pins σ H s):H s.heap.objs.size=none:=I.hok.fresh (Qi _)
theorem Inv.lstM(I:Inv X pins σ H s)(hH:H l=some (.lst xs)):xs.length≤sizeLine∧∃ (its:List Value) (n:Nat),Zy xs its∧xs.length=its.length∧s.heap.get? l=some { cls:=.type "list",data:=.seq its.toArray n }:=by
 obtain⟨z,its,n,r,e⟩:=I.hok l _ hH
 exact⟨z,its,n,r,r.length,e⟩
end
section
variable {X:Cx}
inductive RAp (x:V) (vs:List V) (H:Hp) (B:Hp→Prop):Prop where
 | mk (l:Addr) (xs:List V) (y:V) (a:x=.ref l) (b:vs=[y]) (c:H l=some (.lst xs)) (d:xs.length<sizeLine) (q:B (upd H l (.lst (xs++[y]))))
def ZoY:V→List V→Hp→VK→Prop:=fun x vs H Q=>RAp x vs H fun H'=>Q .non H'
theorem Z7:MtM X "list.append" ZoY:=by
 intro pins s σ H x vs v us Q I rx rv h
 obtain⟨l,xs,y,rfl,rfl,hH,hz,q⟩:=h
 cases rx
 obtain⟨u,rfl,ru⟩:=rv.one
 obtain⟨z,its,n,r,hl,e⟩:=I.lstM hH
 refine call_meets F.slot_list_append ⟨_,e,rfl⟩ F.entry_list_append (F.args_list_append_2 _ _) (PySem.list_append l its.toArray n u (by rw[Qs];lia)) ⟨e,?_⟩
 refine⟨.non,_,I.lset (its':=its++[u]) hH e (by simp) (r.append (.cons ru .nil)) ?_,rfl,q⟩
 rw[Qg,Qj]
 lia
def ZnM:V→List V→Hp→VK→Prop:=fun x vs H Q=>∃l xs,x=.ref l∧vs=[]∧H l=some (.lst xs)∧Q .non (upd H l (.lst xs.reverse))
theorem Zgu:MtM X "list.reverse" ZnM:=by
 intro pins s σ H x vs v us Q I rx rv h
 obtain⟨l,xs,rfl,rfl,hH,q⟩:=h
 cases rx
 have hus:=rv.zero
 subst hus
 obtain⟨z,its,n,r,hl,e⟩:=I.lstM hH
 refine call_meets F.slot_list_reverse ⟨_,e,rfl⟩ F.entry_list_reverse (F.args_list_reverse_1 _) (AutoSeq1.list_reverse_list_0 l its.toArray n (by rw[Qs];lia)) ⟨e,?_⟩
 refine⟨.non,_,I.lset (its':=its.reverse) hH e (by simp) r.reverse ?_,rfl,q⟩
 rw[List.length_reverse]
 lia
def Zsz:R2:=fun x y H Q=>∃l b xs zs,x=.ref l∧y=.ref b∧H l=some (.lst xs)∧H b=some (.lst zs)∧xs.length+zs.length≤sizeLine∧∀p,H p=none→Q (.ref p) (upd H p (.lst (xs++zs)))
theorem Zqj:OpR X (binaryOp .Add) Zsz:=by
 intro pins s σ H x y v u Q I rx ry h
 obtain⟨l,b,xs,zs,rfl,rfl,hH,hB,hz,q⟩:=h
 cases rx
 cases ry
 obtain⟨z,its,n,r,hl,e⟩:=I.lstM hH
 obtain⟨z2,its2,n2,r2,hl2,e2⟩:=I.lstM hB
 refine PySem.P.add_list e e2 ?_ (by rw[Qs,Qs];lia)
 have ea:its.toArray++its2.toArray=(its++its2).toArray:=by simp
 rw[ea]
 exact⟨.ref _,_,I.lnew (t':=s.toks) (r.append r2) (by rw[Qg];lia),rfl,q _ I.fresh⟩
end
section
variable {prog:Program} {w:World} {A:Around} {E:Value→Shared→Prop} {s:Shared}
end
section
variable {X:Cx}
end
end L2
namespace Att
open PySem PySem.W PySem.Calls PyProof.Rows
theorem Zfk{P:Params}{h:Heap}:∀ (ns:List Int) (vs:List Value),WellAll P h vs (ns.map WData.int)→IntsAre vs ns:=by
 intro ns
 induction ns with
 | nil =>
  intro vs w
  rw[Qap]at w
  cases w
  exact .nil
 | cons n ns ih =>
  intro vs w
  rw[Ql]at w
  cases w with
  | cons a b =>
   cases a
   exact .cons _ _ (ih _ b)
theorem ZkX{l:OpenLaw}{n:Nat}(hn:l.most=some n){P:Params}{h:Heap}{args:List WData}{vals:List Value}
  (hpre:l.row.toRowW.claim.pre args=true) (hwl:WellAll P h vals args) :
  ∃a vs ns,vals=[Value.ref a]∧args=[WData.list (ns.map WData.int)]∧h.get? a=some { cls:=.type "list",data:=.seq vs.toArray }∧IntsAre vs ns∧ns.length≤n:=by
 have hsh:WShape.hasAll [] args [.list .int]=true:=(pre_splitW hpre).1
 have hc:l.pre.holds [] { args:=args }=true:=(pre_splitW hpre).2
 obtain⟨d,r,rfl,h1,h2⟩:=hasAllW_cons hsh
 obtain rfl:=hasAllW_nil h2
 obtain⟨xs,rfl,h3⟩:=hasW_list h1
 obtain⟨ns,rfl⟩:=items_int h3
 have hlen:ns.length≤n:=by
  unfold OpenLaw.pre at hc
  have h4:(WTm.not (.lt (.lit (.int (n:Int))) (.len (.arg 0)))).holds [] { args:=[.list (ns.map .int)] }=true:=by
   have h4:=(holds_andW hc).1
   rw[hn]at h4
   exact h4
  have h5:=condW_of h4 (w_not (w_lt w_lit (w_len_list (w_arg rfl))))
  rw[Qa]at h5
  refine Nat.le_of_not_lt fun q=>?_
  have q':(n:Int)<((ns.length:Nat):Int):=by lia
  first
   | (rw[decide_eq_true q']at h5;exact absurd h5 (by decide))
   | (simp at h5;lia)
 cases hwl with
 | cons w1 w2 =>
  cases w2
  cases w1 with
  | list ho hall=>exact⟨_,_,ns,rfl,rfl,ho,Zfk ns _ hall,hlen⟩
theorem Zk3(l:OpenLaw)(args:List WData):l.row.toRowW.claim.post args (.bool true) args=true :=
 postW_of (r:=l.row.toRowW) (X:=(true == true))
  (show WShape.has [] (.bool true) .bool=true by first|rfl|decide|simp[WShape.has,WShape.arms,WShape.armsAll])
  (show (WTm.eq .res (.lit (.bool true))).value [] { args:=args,res:=some (.bool true),after:=args }=some (.bool (true == true)) from w_eq_bool (w_res rfl) w_lit) rfl
theorem attach_call{l:OpenLaw}{n:Nat}{q:Program}{loose:List Str}{XP:(Str→Option Value)→Heap→Prop}{YP:World→Heap→Prop}{d:DefRec}
  (hn:l.most=some n) (hdf:d.params.defaults=[])
  (call:∀ (w:World) (s₀ s₁:Shared) (mg mb:Str→Option Value) (fa:Addr) (o:Obj) (pm cd doc:Value) (a:Addr) (vs:List Value) (ns:List Int),
   Ground q loose [] XP w s₀ mg mb s₁.heap→YP w s₁.heap →
   s₁.heap.get? fa=some o→o.data=.func (docDef d.name d.params d.body d.scope pm cd doc)→s₁.heap.CodeRec cd d.name→mg d.name=some (.ref fa) →
   s₁.heap.get? a=some { cls:=.type "list",data:=.seq vs.toArray }→IntsAre vs ns→ns.length≤n→s₁.gens = #[] →
   codeAny (model l.prog w) callerA (.call (.ref fa) ⟨[.ref a],[]⟩) (fun r s'=>r=.ok (.ret (.bool true))∧OldK s₁.heap s'.heap∧s'.os=s₁.os∧AllBare s'.gens) s₁) :
  WalkO q loose XP YP l.row.toRowW d [] (fun f vs=>PySem.call f vs):=by
 intro w s₀ s₁ mg mb G Y fa o pm cd doc dV kV ho hd hcd hD hmg hg args vals as hpre hlay hrd hwl hlo
 obtain rfl:dV=.none:=Dflts.none hD hdf
 obtain rfl:kV=.none:=Dflts.noKw hD
 obtain⟨a,vs,ns,rfl,rfl,hobj,hints,hlen⟩:=ZkX hn hpre hwl
 refine enter_call (codeAny_mono (call w s₀ s₁ mg mb fa o pm cd doc a vs ns G Y ho (fd_plain hd) hcd hmg hobj hints hlen hg) fun r s' hq=>?_)
 obtain⟨rfl,h2,h3,h4⟩:=hq
 exact⟨.inl ⟨.bool true,.bool true,[],rfl,fun _=>rfl,.bool true,Zk3 l _,fun _=>⟨List.Pairwise.nil,fun _ hm=>(nomatch hm)⟩⟩,h2,h3,h4⟩
section
variable {prog:Program} {w:World} {A:Around} {E:Value→Shared→Prop} {s:Shared} {K:Frag}
end
end Att
namespace L2
open PySem PySem.Spec PyProof.Rows
theorem Zhk:∀ {vs:List Value} {ns:List Int},IntsAre vs ns→Zy (ns.map V.int) vs
 | _,_,.nil=>.nil
 | _,_,.cons n t h=>.cons ⟨t,rfl⟩ (Zhk h)
def ZqU(H:Hp):Prop:=∀b,H b=none∨∃o xs,H b=some (.frz o (.lst xs))
theorem Zm0{P:Program}{w:World}{K:PySem.W.Frag}{mg mb:Str→Option Value}{CX:CXT}{k:Nat}{fa a:Addr}{fd:FuncData}{x:Str}{sp:Sp}{s₁:Shared}{vs:List Value}{ns:List Int}
  (KX:K.In s₁.heap) (hns:s₁.heap.Ns mainGlobals mg) (hb:s₁.heap.Ns builtinsNs mb) (hbb:∀x:Str,x ≠ "__name__"→mb x=bootBuiltins x) (hlim:s₁.heap.NoLimit) (hg:s₁.gens = #[])
  (ha:s₁.heap.get? a=some { cls:=.type "list",data:=.seq vs.toArray }) (hi:IntsAre vs ns) (hl:ns.length≤sizeLine) (hr:ZaN k callerA)
  (F:∀base:Heap,K.In base→base.Ns mainGlobals mg→Zd3 P w K mg base CX k fa fd [x] sp) (hbind:∀ (s:Shared) (u:Value),BindsTo s fd ⟨[u],[]⟩ [(x,u)])
  (hsp:∀H:Hp,ZqU H→SqL K H a (ns.map V.int)→sp [.ref a] H (fun v _=>v=.bl true) fun _ _ _=>False)
  (hCX:∀H e s',CX [] H s₁ (fun _ _ _=>False) e s'→False) :
  codeAny (model P w) callerA (.call (.ref fa) ⟨[.ref a],[]⟩) (fun r s'=>r=.ok (.ret (.bool true))∧OldK s₁.heap s'.heap∧s'.os=s₁.os∧AllBare s'.gens) s₁:=by
 have rv:=Zhk hi
 have lenV:=hi.length
 have core:∀H:Hp,ZqU H→SqL K H a (ns.map V.int)→HOk P w H s₁.heap→(∀b,H b≠none→b=a)→(H a≠none→K.lookup a=none) →
   codeAny (model P w) callerA (.call (.ref fa) ⟨[.ref a],[]⟩) (fun r s'=>r=.ok (.ret (.bool true))∧OldK s₁.heap s'.heap∧s'.os=s₁.os∧AllBare s'.gens) s₁:=by
  intro H hO hS hok hA hK
  have base_of:∀ {b:Addr} {o:Obj},s₁.heap.get? b=some o→H b=none→(ZhQ s₁.heap H).get? b=some o:=fun e n=>ZmG e n
  have noA:∀ {b:Addr} {o:Obj} {es:Array DictEntry} {ep:Nat},s₁.heap.get? b=some o→o.data=.dict es ep→H b=none:=fun {b o es ep} e d=>by
   cases q:H b with
   | none=>rfl
   | some u =>
    have e':b=a:=hA b (by rw[q];simp)
    subst e'
    rw[ha]at e;cases e
    have d':Data.seq vs.toArray _=Data.dict es ep:=d
    cases d'
  have nsK:∀ {b:Addr} {m:Str→Option Value},s₁.heap.Ns b m→(ZhQ s₁.heap H).Ns b m:=fun {b m} ⟨o,es,ep,e,d,r⟩=>⟨o,es,ep,base_of e (noA e d),d,r⟩
  have hKb:K.In (ZhQ s₁.heap H):=fun b o e=>base_of (KX b o e) (by
   cases q:H b with
   | none=>rfl
   | some u =>
    have e':b=a:=hA b (by rw[q];simp)
    subst e'
    rw[hK (by rw[q];simp)]at e;cases e)
  have hM:Mod K mg (ZhQ s₁.heap H):=⟨hKb,nsK hns,⟨mb,nsK hb,hbb⟩,let ⟨mc,h1,h2⟩:=hlim;⟨mc,nsK h1,h2⟩⟩
  have e0:ZjW P w K mg (ZhQ s₁.heap H) callerA [] s₁ H:=⟨rfl,hM,fun b o e=>Zoy e,Nat.le_of_eq (Zk6 _ _),trivial,fun b hb=>absurd (show b∈([]:List Addr) from hb) (by simp),hok,.of_eq hg⟩
  refine codeAny_mono ((F _ hKb (nsK hns)).run callerA [] s₁ H ⟨[.ref a],[]⟩ [.ref a] [.ref a] _ _ hr e0 (hbind s₁ (.ref a)) (.cons rfl .nil) (hsp H hO hS)) fun r s' h=>?_
  cases r with
  | error e=>exact(hCX H e s' h).elim
  | ok fl =>
   cases fl with
   | next=>exact False.elim h
   | brk=>exact False.elim h
   | cont=>exact False.elim h
   | ret u =>
    obtain⟨v,H',os,bare,un,hok',r',q⟩:=h
    have q':v=.bl true:=q
    subst q'
    obtain rfl:u=Value.bool true:=r'
    refine⟨rfl,OldK.of_keep fun b o e=>?_,os,bare⟩
    cases q:H b with
    | none=>exact un.keep b o e q (by intro z;exact absurd (show b∈([]:List Addr) from z) (by simp)) (by simp)
    | some u =>
     rcases hO b with z|⟨ob,xs,z⟩
     ·rw[q]at z;cases z
     ·have z2:=un.frzs b ob _ z
      obtain⟨e1,_⟩:=hok b _ z
      obtain⟨e2,_⟩:=hok' b _ z2
      rw[e]at e1;cases e1
      exact e2
 cases hk:K.lookup a with
 | some o =>
  have e:=KX a o hk
  rw[ha]at e
  cases e
  refine core (fun _=>none) (fun _=>.inl rfl) (.inr ⟨_,vs.toArray,_,hk,rfl,rfl,rfl,by rw[Qs,lenV];exact hl,by simpa using rv⟩) (fun b u z=>by have z':(none:Option HO)=some u:=z;cases z') (fun b z=>absurd rfl z) fun z=>absurd rfl z
 | none =>
  refine core (fun b=>if b=a then some (.frz { cls:=.type "list",data:=.seq vs.toArray } (.lst (ns.map V.int))) else none) (fun b=>?_) (.inl (.inr ⟨{ cls:=.type "list",data:=.seq vs.toArray },if_pos rfl⟩)) (fun b u z=>?_) (fun b z=>?_) fun _=>hk
  ·by_cases hb:b=a
   ·exact .inr ⟨_,_,if_pos hb⟩
   ·exact .inl (if_neg hb)
  ·by_cases hb:b=a
   ·have z':=(if_pos hb).symm.trans z
    cases z'
    subst hb
    exact⟨ha,by rw[Qa];exact hl,vs,_,rv,ha⟩
   ·have z':=(if_neg hb).symm.trans z
    cases z'
  ·by_cases hb:b=a
   ·exact hb
   ·exact absurd (if_neg hb) z
theorem walk_of{l:PySem.W.OpenLaw}{n k:Nat}{q:Program}{loose:List Str}{XP:(Str→Option Value)→Heap→Prop}{YP:World→Heap→Prop}{d:DefRec}{K:Params→PySem.W.Frag}{CX:World→CXT}{sp:World→Sp}{x:Str}
  (hn:l.most=some n) (hn2:n≤sizeLine) (hdf:d.params.defaults=[]) (hr:ZaN k callerA)
  (hY:∀ (w:World) (h:Heap),YP w h→(K w.params).In h)
  (F:∀ (w:World) (mg:Str→Option Value) (fa:Addr) (h:Heap),(K w.params).In h→h.Ns mainGlobals mg→mg d.name=some (.ref fa) →
   ∃fd:FuncData,(∀ (s:Shared) (u:Value),BindsTo s fd ⟨[u],[]⟩ [(x,u)]) ∧
    ∀base:Heap,(K w.params).In base→base.Ns mainGlobals mg→Zd3 l.prog w (K w.params) mg base (CX w) k fa fd [x] (sp w))
  (hsp:∀ (w:World) (H:Hp) (a:Addr) (ns:List Int),ns.length≤n→ZqU H→SqL (K w.params) H a (ns.map V.int)→sp w [.ref a] H (fun v _=>v=.bl true) fun _ _ _=>False)
  (hCX:∀ (w:World) (H:Hp) (s:Shared) (e:Value) (s':Shared),CX w [] H s (fun _ _ _=>False) e s'→False) :
  PySem.W.WalkO q loose XP YP l.row.toRowW d [] (fun f vs=>PySem.call f vs):=by
 refine Att.attach_call hn hdf fun w s₀ s₁ mg mb fa o pm cd doc a vs ns G Y ho hd hcd hmg hobj hints hlen hg=>?_
 have KX:=hY w _ Y
 obtain⟨fd,hb,hF⟩:=F w mg fa _ KX G.T.g hmg
 exact Zm0 KX G.T.g G.T.b G.T.builtins G.T.nolimit hg hobj hints (QP hlen hn2) hr hF hb (fun H hO hS=>hsp w H a ns hlen hO hS) fun H e s'=>hCX w H s₁ e s'
def Zbi(s:Stmt)(j:Nat):Stmt:=match s with
 | .ClassDef _ _ _ body _ _ _ _ _ _ _=>body.getD j (.Pass ⟨0,0,0,0⟩)
 | _=>.Pass ⟨0,0,0,0⟩
def Zo(s:Stmt):Arguments:=match s with
 | .FunctionDef _ a _ _ _ _ _ _ _ _=>a
 | _=>{ posonlyargs:=[],args:=[],vararg:=none,kwonlyargs:=[],kw_defaults:=[],kwarg:=none,defaults:=[] }
def Zm(s:Stmt):List Stmt:=match s with
 | .FunctionDef _ _ b _ _ _ _ _ _ _=>b
 | _=>[]
def Zh(s:Stmt):Scope:=match s with
 | .FunctionDef _ _ _ _ _ _ sc _ _ _=>sc
 | _=>{ kind:=.function,names:=[],isGenerator:=false,isCoroutine:=false }
abbrev CX0:CXT:=fun _ _ _ _ _ _=>False
abbrev E0:XK:=fun _ _ _=>False
theorem Zkf{X:Cx}:Zei CX0 X E0:=fun _ _ _ _ _ _ _ h=>h.elim
structure Fun (K:PySem.W.Frag) (x qual:Str) (st:Stmt) (f:Addr) (fd:FuncData):Prop where
 ex:∃ (oc:Value) (od:Option Addr) (kV doc pm:Value) (an:Option Addr) (cdv ct:Value) (osl:Array (Option Value)),
  fd=PySem.W.fnOf x qual (Zo st) (Zm st) (Zh st) .none kV doc pm an cdv ct∧K.lookup f=some ⟨oc,od,.func fd,osl⟩∧PySem.W.codeIn K cdv qual=true
 kp:PySem.W.keepIn K (.ref f)=true
section
variable {P:Program} {w:World} {K:PySem.W.Frag} {mg:Str→Option Value} {base:Heap}
theorem Fun.ok{x qual:Str}{st:Stmt}{f:Addr}{fd:FuncData}{N ps:List Str}{k:Nat}{sp:Sp}(F:Fun K x qual st f fd)(S:Zr N ps (Zh st))(len:∀vs H Q E,sp vs H Q E→vs.length=ps.length)
  (hbody:∀ (cdv:Value) (A:Around) (outer:List Env) (s:Shared) (H:Hp) (vs:List V) (Q:VK) (E:XK),ZaN k (A.deeper (envOfC qual (Zh st) s.heap.objs.size f cdv))→sp vs H Q E →
   ∃t,PSs (ZhE CX0 P w K mg base N qual (Zh st) f cdv A outer s H E).nox (Zm st) t∧t { nx:=fun _ H'=>Q .non H',rt:=Q } (ZdP N vs) H):Zd3 P w K mg base CX0 (k+1) f fd ps sp:=by
 obtain⟨oc,od,kV,doc,pm,an,cdv,ct,osl,rfl,lk,hcd⟩:=F.ex
 refine ZrL lk hcd S len fun A outer s H vs Q E hr hsp=>?_
 obtain⟨t,h,q⟩:=hbody cdv A outer s H vs Q E hr hsp
 exact⟨t,h.nox,q⟩
theorem Fun.binds{x qual:Str}{st:Stmt}{f:Addr}{fd:FuncData}{ps:List Str}(F:Fun K x qual st f fd)
  (h:∀ (kV doc pm:Value) (an:Option Addr) (cdv ct:Value) (us:List Value),us.length=ps.length→bindArgs (PySem.W.fnOf x qual (Zo st) (Zm st) (Zh st) .none kV doc pm an cdv ct) ⟨us,[]⟩=pure (ps.zip us)):Zcs K fd ps []:=by
 obtain⟨oc,od,kV,doc,pm,an,cdv,ct,osl,rfl,lk,hcd⟩:=F.ex
 exact .all (h kV doc pm an cdv ct)
theorem ZY{x qual:Str}{st:Stmt}{f:Addr}{oc:Value}{od an:Option Addr}{osl:Array (Option Value)}{kV doc pm cdv ct:Value}(l:K.lookup f=some ⟨oc,od,.func (PySem.W.fnOf x qual (Zo st) (Zm st) (Zh st) .none kV doc pm an cdv ct),osl⟩)
  (c:PySem.W.codeIn K cdv qual=true) (k:PySem.W.keepIn K (.ref f)=true):Fun K x qual st f (PySem.W.fnOf x qual (Zo st) (Zm st) (Zh st) .none kV doc pm an cdv ct):=⟨⟨oc,od,kV,doc,pm,an,cdv,ct,osl,rfl,l,c⟩,k⟩
end
theorem ZmM{A:Around}{k:Nat}(hr:ZaN k A):A.units+1<cLine:=QaE (Nat.add_le_add_left (by decide:1≤64) _) hr.units
theorem Zx{n:Nat}(h:n≤1000):n<sizeLine:=QaE h (by decide)
section
variable {X:Cx}
theorem pv(i:Nat){x:Str}{pos:Pos}(hN:X.N[i]? = some x:=by rfl)(hv:Vis X.env.scope x:=by first|exact Or.inl rfl|exact Or.inr (Or.inl rfl)|exact Or.inr (Or.inr rfl))(hd:(x == ("__debug__" : Str))=false:=by decide)
  (hcd:(x == ("__classdict__" : Str))=false:=by decide):PE X (.Name x pos) (Zon i):=Zjx hN hv hd hcd
end
theorem Zcz{A B:Prop}(h:B):if false=true then A else B:=by
 rw[if_neg Qz]
 exact h
theorem ZeH{A B:Prop}(h:A):if true=true then A else B:=by
 rw[if_pos rfl]
 exact h
theorem Za3{c A B:Prop}[Decidable c](h1:c→A)(h2:¬ c→B):if c then A else B:=by
 by_cases h:c
 ·rw[if_pos h]
  exact h1 h
 ·rw[if_neg h]
  exact h2 h
theorem Zha{c A B:Prop}[Decidable c](hc:c)(h:B):if (!decide c)=true then A else B:=by
 rw[decide_eq_true hc]
 exact Zcz h
def ZA(H H':Hp):Prop:=∀b o,H b=some o→H' b=some o
theorem ZA.refl(H:Hp):ZA H H:=fun _ _ h=>h
theorem ZA.trans{H H1 H2:Hp}(a:ZA H H1)(b:ZA H1 H2):ZA H H2:=fun c o h=>b c o (a c o h)
theorem ZA.free{H H':Hp}(e:ZA H H'){l:Addr}(h:H' l=Option.none):H l=Option.none:=by
 cases q:H l with
 | none=>rfl
 | some o =>
  rw[e l o q]at h
  cases h
theorem ZA.seq{K:PySem.W.Frag}{H H':Hp}{a:Addr}{xs:List V}(e:ZA H H')(h:SqL K H a xs):SqL K H' a xs:=by
 rcases h with(h|⟨o,h⟩)|h
 ·exact .inl (.inl (e _ _ h))
 ·exact .inl (.inr ⟨o,e _ _ h⟩)
 ·exact .inr h
def ZaZ(cells:List (Str×Addr)):List (Str×NameKind)→List (Str×Addr)→List (Str×Addr)
 | [],acc=>acc
 | (n,k)::r,acc=>if k == .free then ZaZ cells r ((n,(cells.lookup n).getD 0)::acc) else ZaZ cells r acc
theorem ZgJ{sc:Scope}{env:Env}(h:∀y∈sc.names,y.2=.free→∃c,env.cells.lookup y.1=some c) :
  closureFor sc env=pure (ZaZ env.cells sc.names []):=by
 have go:∀ (names:List (Str×NameKind)) (acc:List (Str×Addr)),(∀y∈names,y.2=.free→∃c,env.cells.lookup y.1=some c) →
   (forIn names acc fun (x:Str×NameKind) (r:List (Str×Addr))=>if (x.2 == NameKind.free)=true then (do let c ← cellOf env x.1;pure (ForInStep.yield ((x.1,c)::r))) else pure (ForInStep.yield r):Sem (List (Str×Addr)))=pure (ZaZ env.cells names acc):=by
  intro names
  induction names with
  | nil=>intro acc _;rfl
  | cons y r ih =>
   intro acc hy
   obtain⟨n,k⟩:=y
   rw[List.forIn_cons]
   cases hk:(k == NameKind.free) with
   | false =>
    have e1:ZaZ env.cells ((n,k)::r) acc=ZaZ env.cells r acc:=by
     show (if (k == NameKind.free)=true then _ else _)=_
     rw[hk];rfl
    rw[e1,← ih acc fun z hz=>hy z (Qy _ hz)]
    simp only[hk,Bool.false_eq_true,if_false,pure_bind]
   | true =>
    have hk':k=.free:=by simpa using hk
    obtain⟨c,hc⟩:=hy (n,k) QZ hk'
    have e1:ZaZ env.cells ((n,k)::r) acc=ZaZ env.cells r ((n,c)::acc):=by
     show (if (k == NameKind.free)=true then _ else _)=_
     rw[hk,hc];rfl
    have e2:cellOf env n=pure c:=by
     unfold cellOf
     rw[hc]
    rw[e1,← ih ((n,c)::acc) fun z hz=>hy z (Qy _ hz)]
    simp only[hk,if_true,e2,pure_bind]
 have q:=go sc.names [] h
 unfold closureFor
 first
  | (rw[show (forIn sc.names ([]:List (Str×Addr)) _:Sem (List (Str×Addr)))=pure (ZaZ env.cells sc.names []) from q];rfl)
  | (simp only[bind_pure];exact q)
  | exact q
theorem ZdF(cells:List (Str×Addr)):∀ (names:List (Str×NameKind)) (acc:List (Str×Addr)) (x:Str) (c:Addr),(ZaZ cells names acc).lookup x=some c →
  (∃y∈names,y.1=x∧y.2=.free∧c=(cells.lookup x).getD 0)∨acc.lookup x=some c
 | [],acc,x,c,h=>.inr h
 | (n,k)::r,acc,x,c,h=>by
  by_cases hk:(k == NameKind.free)=true
  ·have e:ZaZ cells ((n,k)::r) acc=ZaZ cells r ((n,(cells.lookup n).getD 0)::acc):=by
    show (if (k == NameKind.free)=true then _ else _)=_
    rw[if_pos hk]
   rw[e]at h
   rcases ZdF cells r _ x c h with⟨y,hy,q⟩|q
   ·exact .inl ⟨y,Qy _ hy,q⟩
   ·rw[QaQ]at q
    by_cases hx:(x == n)=true
    ·rw[hx]at q
     have hx':x=n:=by simpa using hx
     subst hx'
     exact .inl ⟨(x,k),QZ,rfl,by simpa using hk,(Qq q).symm⟩
    ·have hx':(x == n)=false:=by simpa using hx
     rw[hx']at q
     exact .inr q
  ·have e:ZaZ cells ((n,k)::r) acc=ZaZ cells r acc:=by
    show (if (k == NameKind.free)=true then _ else _)=_
    rw[if_neg hk]
   rw[e]at h
   rcases ZdF cells r _ x c h with⟨y,hy,q⟩|q
   ·exact .inl ⟨y,Qy _ hy,q⟩
   ·exact .inr q
theorem ZfV(cells:List (Str×Addr)):∀ (names:List (Str×NameKind)) (acc:List (Str×Addr)) (x:Str),((∃y∈names,y.1=x∧y.2=.free)∨∃c,acc.lookup x=some c) →
  ∃c,(ZaZ cells names acc).lookup x=some c
 | [],acc,x,h=>by
  rcases h with⟨y,hy,_⟩|h
  ·cases hy
  ·exact h
 | (n,k)::r,acc,x,h=>by
  by_cases hk:(k == NameKind.free)=true
  ·have e:ZaZ cells ((n,k)::r) acc=ZaZ cells r ((n,(cells.lookup n).getD 0)::acc):=by
    show (if (k == NameKind.free)=true then _ else _)=_
    rw[if_pos hk]
   rw[e]
   refine ZfV cells r _ x ?_
   by_cases hx:(x == n)=true
   ·exact .inr ⟨_,by rw[QaQ,hx]⟩
   ·have hx':(x == n)=false:=by simpa using hx
    rcases h with⟨y,hy,q⟩|⟨c,q⟩
    ·rcases QO.mp hy with rfl|hy
     ·exact absurd (by simpa using q.1.symm) hx
     ·exact .inl ⟨y,hy,q⟩
    ·exact .inr ⟨c,by rw[QaQ,hx'];exact q⟩
  ·have e:ZaZ cells ((n,k)::r) acc=ZaZ cells r acc:=by
    show (if (k == NameKind.free)=true then _ else _)=_
    rw[if_neg hk]
   rw[e]
   refine ZfV cells r _ x ?_
   rcases h with⟨y,hy,q⟩|h
   ·rcases QO.mp hy with rfl|hy
    ·exact absurd (by simpa using q.2) hk
    ·exact .inl ⟨y,hy,q⟩
   ·exact .inr h
structure ZW (N N':List Str) (o c:Scope):Prop where
 kind:c.kind=.function
 okind:o.kind=.function
 nocell:∀y∈c.names,y.2≠.cell
 loc:∀y∈c.names,y.2=.local→c.names.lookup y.1=some .local
 free:∀y∈c.names,y.2=.free→c.names.lookup y.1=some .free∧(o.names.lookup y.1=some .cell∨o.names.lookup y.1=some .free)
 len:N.length≤N'.length
 same:∀i∈List.range N.length,∀x∈N'[i]?,c.names.lookup x=some .local∨c.names.lookup x=some .free→c.names.lookup x=some .free∧N[i]? = some x
 nd:N'.Nodup
def ZaW(X:Cx)(c:Scope)(N':List Str)(C:Addr)(s:Shared)(H:Hp)(fp:List Addr):Cx :=
 { X with N:=N',s₀:=s,H₀:=H,env:=compEnvC c (ZaZ X.env.cells c.names []) C X.env,outer:=X.stack,stack:=X.stack,ex:=fp,fn:=fun _=>false,pn:=[],xe:=fun _ _=>False }
theorem Zdr{env:Env}(hf:env.scope.kind=.function):∀ (names:List (Str×NameKind)) (x:Str),
  (names.map fun (p:Str×NameKind)=>if (p.2 == NameKind.free&&env.scope.kind == .function&&env.kindOf p.1 == some .cell)=true then (p.1,NameKind.cell) else (p.1,p.2)).lookup x =
   match names.lookup x with
   | some .free=>if env.kindOf x=some .cell then some .cell else some .free
   | k=>k
 | [],x=>rfl
 | (n,k)::r,x=>by
  have ih:=Zdr hf r x
  rw[Ql]
  by_cases hx:(x == n)=true
  ·have hx':x=n:=by simpa using hx
   subst hx'
   have e2:List.lookup x ((x,k)::r)=some k:=by rw[QaQ];simp
   rw[e2]
   by_cases hk:k=.free
   ·subst hk
    by_cases hc:env.kindOf x=some .cell
    ·simp[List.lookup_cons,hf,hc]
    ·simp[List.lookup_cons,hf,hc]
   ·have hk':(k == NameKind.free)=false:=by simpa using hk
    rw[hk']
    simp only[Bool.false_and,Bool.false_eq_true,if_false,List.lookup_cons,beq_self_eq_true]
    all_goals (cases k<;>first|rfl|exact absurd rfl hk)
  ·have hx':(x == n)=false:=by simpa using hx
   have e2:List.lookup x ((n,k)::r)=List.lookup x r:=by rw[QaQ,hx']
   rw[e2,← ih]
   by_cases hc:(k == NameKind.free&&env.scope.kind == .function&&env.kindOf n == some .cell)=true
   ·simp only[hc,if_true,List.lookup_cons,hx']
   ·simp only[hc,if_false,List.lookup_cons,hx',Bool.false_eq_true]
section
variable {X:Cx} {N N':List Str} {o c:Scope}
theorem ZcN(S:ZW N N' o c)(ho:X.env.scope=o)(cl:List (Str×Addr))(C:Addr)(x:Str):(compEnvC c cl C X.env).kindOf x =
  match c.names.lookup x with
  | some .free=>if X.env.kindOf x=some .cell then some .cell else some .free
  | k=>k:=Zdr (env:=X.env) (by rw[ho];exact S.okind) c.names x
theorem Zdf{names:List (Str×NameKind)}{x:Str}{k:NameKind}(h:names.lookup x=some k):(x,k)∈names:=Qal h
theorem Zcj(S:ZW N N' o c)(ho:X.env.scope=o)(ok:X.Ok){x:Str}{a:Addr}(h:(ZaZ X.env.cells c.names []).lookup x=some a) :
  X.env.cells.lookup x=some a∧c.names.lookup x=some .free:=by
 rcases ZdF _ _ _ _ _ h with⟨y,hy,rfl,hf,e⟩|q
 ·have hk:=S.free y hy hf
  have hv:X.env.kindOf y.1=some .cell∨X.env.kindOf y.1=some .free:=by
   show X.env.scope.names.lookup y.1=_∨X.env.scope.names.lookup y.1=_
   rw[ho];exact hk.2
  obtain⟨b,hb⟩:=ok.has y.1 hv
  rw[hb]at e
  exact⟨by rw[hb,e];rfl,hk.1⟩
 ·cases q
theorem Zik(S:ZW N N' o c)(ho:X.env.scope=o)(ok:X.Ok){x:Str}(h:c.names.lookup x=some .free):∃a,(ZaZ X.env.cells c.names []).lookup x=some a∧X.env.cells.lookup x=some a:=by
 obtain⟨a,ha⟩:=ZfV X.env.cells c.names [] x (.inl ⟨(x,.free),Zdf h,rfl,rfl⟩)
 exact⟨a,ha,(Zcj S ho ok ha).1⟩
theorem Zpe(S:ZW N N' o c)(ho:X.env.scope=o){pins:List (Addr×Obj)}{σ:St}{H:Hp}{s:Shared}{fp:List Addr}(I:Inv X pins σ H s)
  (hf:∀b∈fp,Zfm X pins H b) (ht:∀b∈fp,b<s.heap.objs.size):(ZaW X c N' s.heap.objs.size s H fp).Ok where
 mod:=I.ok.mod
 kind:=S.kind
 glob:=I.ok.glob
 blt:=I.ok.blt
 above:=Qi _
 inj:=fun x y a h1 h2=>I.ok.inj x y a (Zcj S ho I.ok h1).1 (Zcj S ho I.ok h2).1
 has:=fun x hx=>by
  have e:=ZcN (X:=X) S ho (ZaZ X.env.cells c.names []) s.heap.objs.size x
  have hx':(compEnvC c (ZaZ X.env.cells c.names []) s.heap.objs.size X.env).kindOf x=some .cell∨(compEnvC c (ZaZ X.env.cells c.names []) s.heap.objs.size X.env).kindOf x=some .free:=hx
  rw[e]at hx'
  cases q:c.names.lookup x with
  | none=>rw[q]at hx';rcases hx' with z|z<;>cases z
  | some k =>
   by_cases hk:k=.free
   ·subst hk
    obtain⟨a,ha,_⟩:=Zik S ho I.ok q
    exact⟨a,ha⟩
   ·rw[q]at hx'
    have hc:k=.cell:=by
     cases k<;>first|rfl|exact absurd rfl hk|(rcases hx' with z|z<;>cases z)
    subst hc
    exact absurd rfl (S.nocell _ (Zdf q))
 cab:=fun x a h=>by cases (show false=true from h)
 hd:=I.ok.hd
 frames:=I.ok.frames
 stk:=.inl rfl
 exf:=fun b hb=>⟨QF (ht b hb),fun x a h=>(hf b hb).2.2.2.2.1 x a (Zcj S ho I.ok h).1⟩
 bs:=fun b ob e=>I.bs b ob e
 bsz:=QP I.ok.bsz I.sz
 noex:=fun b ob e hb=>by
  rcases(hf b hb).2.2.2.1 with z|z
  ·exact I.ok.noex b ob e z
  ·exact absurd (QJ (Qu e) (QP I.ok.bsz z)) (Qae _)
 exfs:=fun b hb hb'=>by
  rcases QO.mp (I.stkSub b hb') with z|z
  ·exact(hf b hb).2.1 z
  ·exact(hf b hb).2.2.1 z
 funs:=I.stack
 frf:=I.stkFree
theorem Znz(S:ZW N N' o c)(hN:X.N=N)(ho:X.env.scope=o){pins:List (Addr×Obj)}{σ:St}{H:Hp}{s:Shared}{fp:List Addr}{h₁:Heap}{tk:Nat}{m₀:Str→Option Value}(I:Inv X pins σ H s)
  (hf:∀b∈fp,Zfm X pins H b) (ht:∀b∈fp,b<s.heap.objs.size) (hns:h₁.Ns s.heap.objs.size m₀) (hk:∀b ob,s.heap.get? b=some ob→h₁.get? b=some ob) :
  Inv (ZaW X c N' s.heap.objs.size s H fp) [] (σ++List.replicate (N'.length-N.length) none) H { s with heap:=h₁,toks:=tk } where
 ok:=Zpe S ho I hf ht
 os:=rfl
 bare:=I.bare
 base:=Un.kept hk
 loc:=by
  refine⟨m₀,hns,fun i x v e1 e2 e3=>?_⟩
  obtain⟨m,hn,hl⟩:=I.loc
  have hlen:σ.length=N.length:=by rw[I.len,hN]
  have hi:i<σ.length:=by
   by_cases hi:i<σ.length
   ·exact hi
   ·rw[QS (by lia),List.getElem?_replicate]at e2
    split at e2<;>cases e2
  have e2':σ[i]? = some (some v):=by rw[QU hi]at e2;exact e2
  have kd:=ZcN (X:=X) S ho (ZaZ X.env.cells c.names []) s.heap.objs.size x
  have vis:c.names.lookup x=some .local∨c.names.lookup x=some .free:=by
   have e3':(compEnvC c (ZaZ X.env.cells c.names []) s.heap.objs.size X.env).kindOf x=some .local∨(compEnvC c (ZaZ X.env.cells c.names []) s.heap.objs.size X.env).kindOf x=some .cell∨(compEnvC c (ZaZ X.env.cells c.names []) s.heap.objs.size X.env).kindOf x=some .free:=e3
   rw[kd]at e3'
   cases q:c.names.lookup x with
   | none=>rw[q]at e3';rcases e3' with z|z|z<;>cases z
   | some k =>
    cases k with
    | «local»=>exact .inl rfl
    | free=>exact .inr rfl
    | cell=>exact absurd rfl (S.nocell _ (Zdf q))
    | _=>rw[q]at e3';rcases e3' with z|z|z<;>cases z
  obtain⟨hfr,hNi⟩:=S.same i (Q1.mpr (by lia)) x (by rw[show N'[i]? = some x from e1];rfl) vis
  have hok:X.env.kindOf x=some .cell∨X.env.kindOf x=some .free:=by
   show X.env.scope.names.lookup x=_∨X.env.scope.names.lookup x=_
   rw[ho];exact(S.free _ (Zdf hfr) rfl).2
  obtain⟨u,r,l⟩:=hl i x v (by rw[hN];exact hNi) e2' (.inr hok)
  refine⟨u,r,.inr ⟨?_,?_⟩⟩
  ·show (compEnvC c (ZaZ X.env.cells c.names []) s.heap.objs.size X.env).kindOf x=some .cell∨(compEnvC c (ZaZ X.env.cells c.names []) s.heap.objs.size X.env).kindOf x=some .free
   rw[kd,hfr]
   show (if X.env.kindOf x=some .cell then some NameKind.cell else some NameKind.free)=some .cell∨(if X.env.kindOf x=some .cell then some NameKind.cell else some NameKind.free)=some .free
   by_cases q:X.env.kindOf x=some .cell
   ·rw[if_pos q];exact .inl rfl
   ·rw[if_neg q];exact .inr rfl
  ·obtain⟨a,ha,ha'⟩:=Zik S ho I.ok hfr
   refine⟨a,ha,?_⟩
   rcases l with⟨z,_⟩|⟨_,a',e,ob,hob,hd⟩
   ·rcases hok with q|q<;>rw[q]at z<;>cases z
   ·rw[ha']at e;cases e
    exact⟨ob,hk _ _ hob,hd⟩
 cell:=fun x a h=>by
  obtain⟨v,ob,e,d⟩:=I.cell x a (Zcj S ho I.ok h).1
  exact⟨v,ob,hk _ _ e,d⟩
 free:=I.hok.fresh (Qi _)
 freeC:=fun x a h=>I.freeC x a (Zcj S ho I.ok h).1
 pin:=fun p hp=>absurd (show p∈([]:List (Addr×Obj)) from hp) (by simp)
 hok:=I.hok.kept hk
 len:=by
  have hlen:σ.length=N.length:=by rw[I.len,hN]
  have:=S.len
  show (σ++List.replicate (N'.length-N.length) none).length=N'.length
  rw[Qg,QaI]
  lia
end
abbrev Zkr(ifs:List Expr)(env:Env):Sem Bool :=
 forIn ifs true fun k r=>if r=true then do let ok ← isTrue k env (eval k env);pure (ForInStep.yield ok) else pure (ForInStep.yield r)
def PTs(X:Cx)(ifs:List Expr)(t:TT):Prop :=
 ∀ (pins:List (Addr×Obj)) (s:Shared) (σ:St) (H:Hp) (Q:Bool→Hp→Prop),Inv X pins σ H s→t σ H Q→wpAny (model X.prog X.w) X.A (Zkr ifs X.env) (TP X pins σ Q) X.xe s
def Zgs:TT:=fun _ H Q=>Q true H
theorem ZaC{X:Cx}:PTs X [] Zgs:=fun _ _ _ H _ I h=>wpAny_tests_nil ⟨H,I,h⟩
section
variable {prog:Program} {w:World} {A:Around} {R:Result→Shared→Prop} {s:Shared}
theorem Zic{elt target iter:Expr}{ifs:List Expr}{scope:Scope}{pos:Pos}{it acc:Value}{env:Env}{E:Value→Shared→Prop}(I:Nat→Shared→Prop)
  (hE:∀e s',E e s'→False)
  (turn:∀n s,I n s→wpAny (model prog w) A (pyNext it) (fun r s₁=>match r with
   | none=>R (.ok .next) s₁
   | some v=>wpAny (model prog w) A (letOwnedTupleGo target it v) (fun _ s₀=>wpAny (model prog w) A (assign target env v) (fun _ s₂ =>
     wpAny (model prog w) A (Zkr ifs env) (fun ok s₃ =>
      if ok=true then wpAny (model prog w) A (eval elt env) (fun x s₄ =>
       wpAny (model prog w) A (call (.builtin "list.append") [acc,x]) (fun _ s₅=>∃m,m<n∧I m s₅) E s₄) E s₃
      else ∃m,m<n∧I m s₃) E s₂) E s₀) E s₁) E s)
  (n:Nat) (h:I n s):codeAny (model prog w) A (.compLoop (.ListComp elt [⟨target,iter,ifs,0⟩] scope pos) 0 it acc env) R s:=by
 have go:∀ {α:Type} {t:Sem α} {Q:α→Shared→Prop} {s:Shared},wpAny (model prog w) A t Q E s→wpAny (model prog w) A t Q (notedBy (model prog w) A env fun e s'=>R (.error e) s') s :=
  fun {α t Q s} q=>wpAny_mono q (fun _ _ z=>z) fun e s' z=>(hE e s' z).elim
 refine codeAny_loop rfl I (fun n s hI=>?_) n h
 show wpAny _ A ((compTurn (.ListComp elt [⟨target,iter,ifs,0⟩] scope pos) 0 it acc env).onRaise (fun x=>do noteFrame x env;theTreesLotGoes x)) _ _ s
 refine wpAny_noted ?_
 rw[compTurn_list]
 refine wpAny_bind (wpAny_standAt (wpAny_bind (thn (go (turn n s hI)) fun r s₁ h₁=>?_)))
 cases r with
 | none=>exact wpAny_pure h₁
 | some v =>
  refine wpAny_bind (thn (go h₁) fun _ s₀ h₀=>wpAny_bind (thn (go h₀) fun _ s₂ h₂=>wpAny_bind (thn (go h₂) fun ok s₃ h₃=>?_)))
  cases ok with
  | false=>exact wpAny_pure ⟨rfl,h₃⟩
  | true =>
   exact wpAny_bind (wpAny_bind (thn (go h₃) fun x s₄ h₄=>wpAny_bind (thn (go h₄) fun _ s₅ h₅=>wpAny_pure (wpAny_pure ⟨rfl,h₅⟩))))
end
def Zfb(J:It)(D:Addr)(k:Nat)(σ:St)(H1:Hp)(g:TG)(tc:TT)(te:TE)(Q:VK):Prop :=
 ∃W:Nat→Nat→List V→St→Hp→Prop,(∃m,W 0 m [] (σ++List.replicate k none) (upd H1 D (.lst []))) ∧
  ∀i m ys σ2 H2,W i m ys σ2 H2→(J.stop i H2∧Q (.ref D) H2) ∨
   (J.go i H2∧∃N:List V→St→Hp→Prop,(∀ys' σ' H',N ys' σ' H'→∃m',m'<m∧W (i+1) m' ys' σ' H')∧∀x H3,J.yld i H2 x H3→g x σ2 H3 fun σ4 H4=>tc σ4 H4 fun b H5 =>
    if b=true then te σ4 H5 fun y H6=>H6 D=some (.lst ys)∧ys.length<sizeLine∧N (ys++[y]) σ4 (upd H6 D (.lst (ys++[y]))) else N ys σ4 H5)
def ZnV(n:Nat)(wi:TI)(g:TG)(tc:TT)(te:TE):TE:=fun σ H Q=>wi σ H fun J H1=>∀D,H1 D=none→Zfb J D n σ H1 g tc te Q
section
variable {X:Cx} {N N':List Str} {o c:Scope}
theorem Zji{elt tg iter:Expr}{ifs:List Expr}{pos pos':Pos}{wi:TI}{g:TG}{tc:TT}{te:TE}{use:Option (Value→Sem Unit)}{QQ:Value→Shared→Prop}(S:ZW N N' o c)(hN:X.N=N)(ho:X.env.scope=o)(hc:X.calm=true)
  (hi:PI X tg iter wi) (hg:∀C s H fp,PG (ZaW X c N' C s H fp) tg g) (ht:∀C s H fp,PTs (ZaW X c N' C s H fp) ifs tc) (he:∀C s H fp,PE (ZaW X c N' C s H fp) elt te)
  (hs:∀x,foldedSetIterable iter X.env x=pure x) {pins:List (Addr×Obj)} {s:Shared} {σ:St} {H:Hp} {Q:VK} (I:Inv X pins σ H s) (h:ZnV (N'.length-N.length) wi g tc te σ H Q)
  (post:∀ (D C:Addr) (s5:Shared) (H5:Hp) (m:Str→Option Value),Inv X pins σ H5 s5→H5 C=none→s5.heap.Ns C m→C≠X.env.locals→X.s₀.heap.objs.size≤C→(∀x a,X.env.cells.lookup x=some a→a≠C)→(∀p∈X.pn++pins,p.1≠C) →
   Q (.ref D) H5→compPost (model X.prog X.w) X.A X.xe use QQ (.ref D) C (.ok .next) s5) :
  wpAny (model X.prog X.w) X.A (comprehension (.ListComp elt [⟨tg,iter,ifs,0⟩] c pos) c X.env pos' (newList []) false (eval iter X.env) use) QQ X.xe s:=by
 have hclos:closureFor c X.env=pure (ZaZ X.env.cells c.names []):=ZgJ fun y hy hf=>by
  refine I.ok.has y.1 ?_
  show X.env.scope.names.lookup y.1=_∨X.env.scope.names.lookup y.1=_
  rw[ho];exact(S.free y hy hf).2
 refine wpAny_comprehension_free (use:=use) rfl hs hclos S.kind S.loc (thn (hi pins s σ H _ I h) fun v s1 h1=>thn h1 fun itv s2 h2=>?_)
 obtain⟨it,fp,tn,J,H2,e,I2,T,st2,f2,hR⟩:=h2
 subst e
 have hD:H2 s2.heap.objs.size=none:=I2.fresh
 have I3:Inv X pins σ (upd H2 s2.heap.objs.size (.lst [])) { s2 with heap:=s2.heap.push { cls:=.type "list",data:=.seq ([]:List Value).toArray } } :=
  I2.lnew (ys:=[]) (its:=[]) (t':=s2.toks) .nil (Qv _)
 have fpl:∀b∈fp,b<s2.heap.objs.size:=fun b hb=>by
  obtain⟨ob,e,_⟩:=T.obj 0 _ st2 b hb
  exact Qu e
 refine wpAny_newObj_type (wpAny_newFunctionEnv S.nocell (by intro y hy;simp at hy) (fun h₁ hns₁ hsb₁=>?_) S.kind)
 have e3:∃s3:Shared,s3={ s2 with heap:=s2.heap.push { cls:=.type "list",data:=.seq ([]:List Value).toArray } }:=⟨_,rfl⟩
 obtain⟨s3,hs3⟩:=e3
 have e3:s3.heap=s2.heap.push { cls:=.type "list",data:=.seq ([]:List Value).toArray }:=by rw[hs3]
 have sz3:s3.heap.objs.size=s2.heap.objs.size+1:=by rw[e3,Qag]
 have fpl3:∀b∈fp,b<s3.heap.objs.size:=fun b hb=>QJ (fpl b hb) (by rw[sz3];exact QaC _)
 have f3:∀b∈fp,Zfm X pins (upd H2 s2.heap.objs.size (.lst [])) b:=fun b hb=>⟨by rw[Ze (QF (fpl b hb))];exact(f2 b hb).1,(f2 b hb).2⟩
 have st3:tn 0 s3.heap:=T.keep 0 _ _ st2 fun b _ ob e=>by rw[e3];exact Qd _ e
 rw[← hs3]at I3
 show codeAny (model X.prog X.w) X.A (.compStart _ 0 (.ref it) (.ref s2.heap.objs.size) (compEnvC c (ZaZ X.env.cells c.names []) (s2.heap.push { cls:=.type "list",data:=.seq ([]:List Value).toArray }).objs.size X.env))
  (compPost (model X.prog X.w) X.A X.xe use QQ (.ref s2.heap.objs.size) (s2.heap.push { cls:=.type "list",data:=.seq ([]:List Value).toArray }).objs.size)
  { s2 with heap:=h₁,toks:=s2.toks+([]:List (Str×Value)).length }
 have hns:h₁.Ns s3.heap.objs.size (fun x=>([]:List (Str×Value)).reverse.lookup x):=by rw[e3];exact hns₁
 have hk1:∀b ob,s3.heap.get? b=some ob→h₁.get? b=some ob:=fun b ob e=>by
  rw[e3]at e
  exact hsb₁.extBut b ob (QF (Qu e)) (Qd _ e)
 rw[← e3]
 have es4:({ s2 with heap:=h₁,toks:=s2.toks+([]:List (Str×Value)).length }:Shared)={ s3 with heap:=h₁,toks:=s2.toks }:=by rw[hs3];rfl
 rw[es4]
 obtain⟨W,⟨m0,w0⟩,turn⟩:=hR s2.heap.objs.size hD
 have I4:=Znz (tk:=s2.toks) S hN ho I3 f3 fpl3 hns hk1
 have st4:tn 0 h₁:=T.keep 0 _ _ st3 fun b _ ob e=>hk1 b ob e
 generalize hX:ZaW X c N' s3.heap.objs.size s3 (upd H2 s2.heap.objs.size (.lst [])) fp=Y at I4
 have Yp:Y.prog=X.prog:=by rw[← hX];rfl
 have Yw:Y.w=X.w:=by rw[← hX];rfl
 have YK:Y.K=X.K:=by rw[← hX];rfl
 have Yc:Y.calm=true:=by rw[← hX];exact hc
 have YA:Y.A=X.A:=by rw[← hX];rfl
 have Yenv:Y.env=compEnvC c (ZaZ X.env.cells c.names []) s3.heap.objs.size X.env:=by rw[← hX];rfl
 have Yl:Y.env.locals=s3.heap.objs.size:=by rw[Yenv];rfl
 have Yxe:Y.xe=fun _ _=>False:=by rw[← hX];rfl
 have hg':=hg s3.heap.objs.size s3 (upd H2 s2.heap.objs.size (.lst [])) fp
 have ht':=ht s3.heap.objs.size s3 (upd H2 s2.heap.objs.size (.lst [])) fp
 have he':=he s3.heap.objs.size s3 (upd H2 s2.heap.objs.size (.lst [])) fp
 rw[hX]at hg' ht' he'
 have stat:∀ {H':Hp},(∀b∈fp,H' b=none)→∀b∈fp,Zfm Y [] H' b:=fun {H'} hn b hb=>by
  obtain⟨_,q1,q2,q3,q4,_⟩:=f3 b hb
  have z1:=I4.ok.exf b (by rw[← hX];exact hb)
  refine⟨hn b hb,z1.1,I4.ok.exfs b (by rw[← hX];exact hb),.inl (by rw[← hX];exact hb),z1.2,fun p hp=>?_⟩
  have hp':p∈([]:List (Addr×Obj)):=by
   have:Y.pn=[]:=by rw[← hX];rfl
   rw[this]at hp;exact hp
  cases hp'
 have fin:∀ (s5:Shared) (σ5:St) (H5:Hp),Inv Y [] σ5 H5 s5→Q (.ref s2.heap.objs.size) H5→compPost (model X.prog X.w) X.A X.xe use QQ (.ref s2.heap.objs.size) s3.heap.objs.size (.ok .next) s5:=fun s5 σ5 H5 I5 q=>by
  obtain⟨m,hn,_⟩:=id I5.loc
  rw[Yl]at hn
  have hCn:H5 s3.heap.objs.size=none:=by have:=I5.free;rw[Yl]at this;exact this
  have un:Un (frs X.stack) fp (upd H2 s2.heap.objs.size (.lst [])) H5 s3.heap s5.heap:=by
   have:=I5.base
   rw[← hX]at this
   exact this
  have os5:s5.os=s3.os:=by have:=I5.os;rw[← hX]at this;exact this
  have hok5:HOk X.prog X.w H5 s5.heap:=by
   have:=I5.hok
   rw[Yp,Yw]at this
   exact this
  refine post _ _ s5 H5 m (I3.call' (s':=s5) (ch:=fp) os5 un hok5 I5.bare fun b hb=>?_) hCn hn (Qab I3.lt) I3.sz (fun x a e=>?_) (fun p hp=>?_) q
  ·obtain⟨_,q1,_,q3,q4,q5⟩:=f3 b hb
   exact⟨q3,q1,q4,q5⟩
  ·obtain⟨v,ob,e',_⟩:=I3.cell x a e
   exact QF (Qu e')
  ·exact QF (Qu (I3.pin p hp).1)
 have loop:codeAny (model X.prog X.w) X.A (.compLoop (.ListComp elt [⟨tg,iter,ifs,0⟩] c pos) 0 (.ref it) (.ref s2.heap.objs.size) (compEnvC c (ZaZ X.env.cells c.names []) s3.heap.objs.size X.env))
   (compPost (model X.prog X.w) X.A X.xe use QQ (.ref s2.heap.objs.size) s3.heap.objs.size) { s3 with heap:=h₁,toks:=s2.toks }:=by
  rw[← Yenv,← YA]
  refine Zic (E:=fun _ _=>False) (fun n s'=>∃i ys σ' H',Inv Y [] σ' H' s'∧tn i s'.heap∧(∀b∈fp,H' b=none)∧W i n ys σ' H') (fun _ _ z=>z) ?_ m0
   ⟨0,[],_,_,I4,st4,fun b hb=>(f3 b hb).1,?_⟩
  ·rintro n s5 ⟨i,ys,σ5,H5,I5,st5,fr5,w5⟩
   rcases turn i n ys σ5 H5 w5 with⟨stop,qn⟩|⟨go,Nn,hNn,step⟩
   ·refine thn (T.done Y Yp Yw YK Yc i [] s5 σ5 H5 _ I5 (stat fr5) st5 stop) ?_
    rintro r s6 ⟨hr,I6⟩
    subst hr
    have fq:=fin s6 σ5 H5 I6 qn
    rw[← YA]at fq
    exact fq
   ·refine thn (T.item Y Yp Yw YK Yc i [] s5 σ5 H5 _ I5 (stat fr5) st5 go) ?_
    rintro r s6 ⟨u,hr,h6⟩
    subst hr
    refine thn h6 ?_
    rintro _ s7 ⟨x,H7,I7,r7,y7,st7,fr7⟩
    have I7':=I7.pinned (stat fr7) (T.obj _ _ st7)
    have back:∀ {σ9:St} {H9:Hp} {s9:Shared},Inv Y ([]++Zf0 fp s7.heap) σ9 H9 s9→Inv Y [] σ9 H9 s9∧tn (i+1) s9.heap∧∀b∈fp,H9 b=none:=fun {σ9 H9 s9} I9=>by
     refine⟨I9.unpinned,T.keep _ _ _ st7 fun b hb ob e=>(I9.pin (b,ob) (Qo _ (Qo _ (Zde hb e)))).1,fun b hb=>?_⟩
     obtain⟨ob,e,d⟩:=T.obj _ _ st7 b hb
     exact(I9.pin (b,ob) (Qo _ (Qo _ (Zde hb e)))).2.1
    have P1:=hg' _ s7 σ5 H7 x u _ I7' r7 (step x H7 y7)
    rw[Yp,Yw,Yxe]at P1
    refine thn P1 ?_
    rintro _ s8 ⟨σ8,H8,I8,q8⟩
    have P2:=ht' _ s8 σ8 H8 _ I8 q8
    rw[Yp,Yw,Yxe]at P2
    refine thn P2 ?_
    rintro ok s9 ⟨H9,I9,q9⟩
    cases ok with
    | false =>
     rw[if_neg Qz]at q9
     rw[if_neg Qz]
     obtain⟨b1,b2,b3⟩:=back I9
     obtain⟨m',hm',w9⟩:=hNn _ _ _ q9
     exact⟨m',hm',i+1,ys,σ8,H9,b1,b2,b3,w9⟩
    | true =>
     rw[if_pos rfl]at q9
     rw[if_pos rfl]
     have P3:=he' _ s9 σ8 H9 _ I9 q9
     rw[Yp,Yw,Yxe]at P3
     refine thn P3 ?_
     rintro y s10 ⟨vy,H10,I10,r10,hDl,hsz,q10⟩
     have P4:=Z7 (X:=Y) _ s10 σ8 H10 (.ref s2.heap.objs.size) [vy] (.ref s2.heap.objs.size) [y] (fun _ H'=>Nn (ys++[vy]) σ8 H') I10 rfl (.cons r10 .nil) ⟨_,ys,vy,rfl,rfl,hDl,hsz,q10⟩
     rw[Yp,Yw,Yxe]at P4
     refine thn P4 ?_
     rintro _ s11 ⟨_,H11,I11,_,q11⟩
     obtain⟨b1,b2,b3⟩:=back I11
     obtain⟨m',hm',w11⟩:=hNn _ _ _ q11
     exact⟨m',hm',i+1,ys++[vy],σ8,H11,b1,b2,b3,w11⟩
  ·exact w0
 have lp:=T.self X.A 0 { s3 with heap:=h₁,toks:=s2.toks } (fun it' s'=>codeAny (model X.prog X.w) X.A (.compLoop (.ListComp elt [⟨tg,iter,ifs,0⟩] c pos) 0 it' (.ref s2.heap.objs.size) (compEnvC c (ZaZ X.env.cells c.names []) s3.heap.objs.size X.env))
   (compPost (model X.prog X.w) X.A X.xe use QQ (.ref s2.heap.objs.size) s3.heap.objs.size) s') (fun _ _=>False) st4 loop
 exact codeAny_compStart_list loop (wpAny_mono lp (fun _ _ z=>z) fun _ _ z=>z.elim)
theorem Inv.let{pins:List (Addr×Obj)}{σ:St}{H:Hp}{s:Shared}{C:Addr}{h':Heap}(I:Inv X pins σ H s)(hn:H C=none)(hL:C≠X.env.locals)(h1:X.s₀.heap.objs.size≤C)
  (h2:∀x a,X.env.cells.lookup x=some a→a≠C) (h3:∀p∈X.pn++pins,p.1≠C) (hs:Heap.SameBut C s.heap h'):Inv X pins σ H { s with heap:=h' } :=
 I.turned (t':=s.toks) (fun b ob hb e=>hs.extBut b ob hb e) hn hL (.inr h1) h2 h3
theorem Za8{elt tg iter:Expr}{ifs:List Expr}{pos:Pos}{wi:TI}{g:TG}{tc:TT}{te:TE}(S:ZW N N' o c)(hN:X.N=N)(ho:X.env.scope=o)(hc:X.calm=true)
  (hi:PI X tg iter wi) (hg:∀C s H fp,PG (ZaW X c N' C s H fp) tg g) (ht:∀C s H fp,PTs (ZaW X c N' C s H fp) ifs tc) (he:∀C s H fp,PE (ZaW X c N' C s H fp) elt te)
  (hs:∀x,foldedSetIterable iter X.env x=pure x:=by intro _;rfl) :
  PE X (.ListComp elt [⟨tg,iter,ifs,0⟩] c pos) (ZnV (N'.length-N.length) wi g tc te):=by
 intro pins s σ H Q I h
 rw[eval_ListComp]
 refine Zji (use:=none) S hN ho hc hi hg ht he hs I h fun D C s5 H5 m I5 hCn hn n1 n2 n3 n4 q=>⟨m,hn,fun h' hsb=>?_⟩
 exact⟨.ref D,H5,I5.let hCn n1 n2 n3 n4 hsb,rfl,q⟩
theorem Zea{i:Nat}{x:Str}{elt tg iter:Expr}{ifs:List Expr}{pos pos' spos:Pos}{wi:TI}{g:TG}{tc:TT}{te:TE}(hnd:X.N.Nodup)(hx:X.N[i]? = some x)(hl:Loc X.env.scope x)(S:ZW N N' o c)(hN:X.N=N)(ho:X.env.scope=o)(hc:X.calm=true)
  (hi:PI X tg iter wi) (hg:∀C s H fp,PG (ZaW X c N' C s H fp) tg g) (ht:∀C s H fp,PTs (ZaW X c N' C s H fp) ifs tc) (he:∀C s H fp,PE (ZaW X c N' C s H fp) elt te)
  (hsw:swapsWith (.ListComp elt [⟨tg,iter,ifs,0⟩] c pos) (some (.Name x pos')) spos.line X.env=pure true)
  (hs:∀x,foldedSetIterable iter X.env x=pure x:=by intro _;rfl) (hf:X.fn x=true∨X.env.scope.names.lookup x=some .local:=by first|exact .inl rfl|exact .inr rfl|assumption) :
  PS X (.Assign [.Name x pos'] (.ListComp elt [⟨tg,iter,ifs,0⟩] c pos) spos) (Zp1 (ZnV (N'.length-N.length) wi g tc te) (Zkc i)):=by
 intro pins s σ H D I h
 rw[exec_Assign_Name_used _ _ _ _ hsw]
 refine wpAny_bind (wpAny_standAt (wpAny_bind ?_))
 show wpAny _ X.A (do let _ ← comprehension (.ListComp elt [⟨tg,iter,ifs,0⟩] c pos) c X.env _ (newList []) false (eval iter X.env) (some (assign (.Name x pos') X.env))) _ _ s
 refine wpAny_bind (thn (Zji (QQ:=fun _ s'=>SP X pins D .next s') (use:=some (assign (.Name x pos') X.env)) S hN ho hc hi hg ht he hs I h ?_) fun _ s' hq=>wpAny_pure (wpAny_pure hq))
 intro L C s5 H5 m I5 hCn hn n1 n2 n3 n4 q
 show wpAny _ X.A (assign (.Name x pos') X.env (.ref L)) _ _ _
 refine wpAny_assign_Name (ZgU (v:=.ref L) I5 hnd hx hl rfl (?_) hf)
 rintro s6 I6 ⟨a,hsb,ha⟩
 have nCa:C≠a:=by
  rcases ha with z|z
  ·rw[z];exact n1
  ·exact(n3 x a z).symm
 exact⟨m,hn.sameBut hsb nCa,fun h' hsb'=>⟨_,H5,I6.let hCn n1 n2 n3 n4 hsb',q⟩⟩
end
theorem ZfL{ys:List Str}:∀ {us:List Value},Zy (ys.map V.str) us→StrsAre us ys:=by
 induction ys with
 | nil=>intro us r;rw[Qap]at r;cases r;exact .nil
 | cons y ys ih =>
  intro us r
  rw[Ql]at r
  cases r with
  | cons r1 r2 =>
   obtain⟨t,e⟩:=r1
   subst e
   exact .cons _ _ (ih r2)
theorem Zg4:∀ {vs:List Value} {ys:List Str},StrsAre vs ys→Zy (ys.map V.str) vs
 | _,_,.nil=>.nil
 | _,_,.cons _ t h=>.cons ⟨t,rfl⟩ (Zg4 h)
section
variable {X:Cx}
def Zrz(K:PySem.W.Frag):List V→Hp→VK→Prop:=fun xs H Q=>∃x c t b,xs=[x,.ty c]∧Zen K H x t∧PySem.W.kitOne K t (.type c)=some b∧Q (.bl b) H
theorem Zmw:Z5 X (.builtin "isinstance") (Zrz X.K):=by
 intro pins s σ H xs us Q I r h
 obtain⟨x,c,t,b,rfl,ty,e,q⟩:=h
 obtain⟨u,w',rfl,rx,rc⟩:=Zko r
 cases rc
 exact Zlj I rx ty e fun tk=>⟨.bl b,H,I.tok _,rfl,q⟩
def ZpH(K:PySem.W.Frag):List V→Hp→VK→Prop:=fun xs H Q=>∃ (x:V) (tp:Addr) (cs:List String) (t:Value) (b:Bool),xs=[x,.ref tp]∧H tp=some (.tup (cs.map V.ty))∧Zen K H x t∧PySem.W.kitAny K t (cs.map Value.type)=some b∧Q (.bl b) H
theorem ZoA{cs:List String}:∀ {us:List Value},Zy (cs.map V.ty) us→us=cs.map Value.type:=by
 induction cs with
 | nil=>intro us r;rw[Qap]at r;cases r;rfl
 | cons y ys ih =>
  intro us r
  rw[Ql]at r
  cases r with
  | cons r1 r2=>rw[show _=Value.type y from r1,ih r2];rfl
theorem ZlM:Z5 X (.builtin "isinstance") (ZpH X.K):=by
 intro pins s σ H xs us Q I r h
 obtain⟨x,tp,cs,t,b,rfl,ht,ty,e,q⟩:=h
 obtain⟨u,w',rfl,rx,rc⟩:=Zko r
 cases rc
 obtain⟨_,its,rv,⟨ot,e1,e2,n,e3⟩⟩:=I.hok tp _ ht
 have ei:=ZoA rv
 subst ei
 obtain⟨oc,od,dt,sl⟩:=ot
 have e2':oc=Value.type "tuple":=e2
 have e3':dt=Data.seq (cs.map Value.type).toArray n:=e3
 subst e2';subst e3'
 have fin:∀tk,EP X pins σ Q (.bool b) { s with toks:=tk }:=fun tk=>⟨.bl b,H,I.tok _,rfl,q⟩
 cases ty with
 | non=>cases (show u=Value.none from rx);exact Q6 PySem.W.kitx_none I.kIn True.intro e1 e (fun z=>nomatch z) fin
 | bl y=>cases (show u=Value.bool y from rx);exact Q6 PySem.W.kitx_bool I.kIn True.intro e1 e (fun z=>nomatch z) fin
 | int i=>obtain⟨t,q⟩:=(show ∃t,u=Value.int i t from rx);cases q;exact Q6 PySem.W.kitx_int I.kIn True.intro e1 e (fun z=>nomatch z) fin
 | str y=>obtain⟨t,q⟩:=(show ∃t,u=Value.str y t from rx);cases q;exact Q6 PySem.W.kitx_str I.kIn True.intro e1 e (fun z=>nomatch z) fin
 | flt y=>obtain⟨t,q⟩:=(show ∃t,u=Value.float y t from rx);cases q;exact Q6 PySem.W.kitx_float I.kIn True.intro e1 e (fun z=>nomatch z) fin
 | @lst a xs ea =>
  cases (show u=Value.ref a from rx)
  obtain⟨_,_,n,_,h1⟩:=(show Zad X.prog X.w H s.heap a (.lst xs) from I.hok a _ ea)
  exact Q6 QaY I.kIn ⟨_,h1,rfl⟩ e1 e (fun z=>nomatch z) fin
 | @frz a ob xs ea =>
  cases (show u=Value.ref a from rx)
  obtain⟨_,_,_,n,_,h1⟩:=(show Zad X.prog X.w H s.heap a (.frz ob (.lst xs)) from I.hok a _ ea)
  exact Q6 QaY I.kIn ⟨_,h1,rfl⟩ e1 e (fun z=>nomatch z) fin
 | @tup a xs ea =>
  cases (show u=Value.ref a from rx)
  obtain⟨_,_,_,p⟩:=(show Zad X.prog X.w H s.heap a (.tup xs) from I.hok a _ ea)
  obtain⟨o,h1,h2,_⟩:=p
  exact Q6 PySem.W.kitx_tuple I.kIn ⟨o,h1,h2⟩ e1 e (fun z=>nomatch z) fin
 | @dK a kvs ea =>
  cases (show u=Value.ref a from rx)
  obtain⟨_,_,vs,_,p⟩:=(show Zad X.prog X.w H s.heap a (.dK kvs) from I.hok a _ ea)
  obtain⟨o,es,ep,h1,h2,_⟩:=p
  exact Q6 QaZ I.kIn ⟨o,h1,h2.1⟩ e1 e (fun z=>nomatch z) fin
 | @dT a kvs ea =>
  cases (show u=Value.ref a from rx)
  obtain⟨_,_,xs,_,o,es,ep,h1,h2,_⟩:=(show Zad X.prog X.w H s.heap a (.dT kvs) from I.hok a _ ea)
  exact Q6 QaZ I.kIn ⟨o,h1,h2.1⟩ e1 e (fun z=>nomatch z) fin
 | @ins a C dx fs ea cl ha hn htk hm =>
  cases (show u=Value.ref a from rx)
  obtain⟨mA,O,_⟩:=Zeo I.hok ea
  obtain⟨od,J,_⟩:=O.look
  exact Q6 (PySem.W.kitx_own (cl.get _) cl.hd ha hn htk hm) I.kIn J e1 e (fun z=>nomatch z) fin
theorem ZnK(hc:X.calm=true):Z5 X (.builtin "all") (fun xs H Q=>∃ (p:Addr) (bs:List Bool),xs=[.ref p]∧SqL X.K H p (bs.map V.bl)∧Q (.bl (bs.all id)) H):=by
 intro pins s σ H xs us Q I r h
 obtain⟨p,bs,rfl,hq,q⟩:=h
 obtain⟨u,rfl,rx⟩:=ZbJ r
 cases rx
 obtain⟨its,rv,pl,hz⟩:=I.list hq
 have hl:=pl.isList
 have hlt:p<s.heap.objs.size:=by obtain⟨_,e,_⟩:=hl;exact Qu e
 refine call_all_walk (wpAny_pyIter_list hl ?_)
 refine⟨s.heap.objs.size,[s.heap.objs.size,p],[s.heap.objs.size],its.toArray.size,_,_,fun i=>(bs[i]?).getD true,rfl,Walks.list (A:=X.A.in1) (I.ok.hd hc) _ p (QF hlt) its.toArray,
  ⟨⟨_,QA _ rfl,rfl,rfl⟩,hl.push _⟩,fun i v s' Q' E' hP hQ=>?_,fun h' tk hk=>?_⟩
 ·have hP':its[i]? = some v:=by simpa using hP
  have hi:i<its.length:=(Qc.mp hP').1
  have hlen:=rv.length
  have hb:(bs.map V.bl)[i]? = some (V.bl (bs[i]'(by rw[Qa]at hlen;lia))):=by
   rw[Qk,Qb (by rw[Qa]at hlen;lia)];rfl
  obtain⟨u',hu',ru'⟩:=rv.get hb
  rw[hP']at hu';cases hu'
  obtain rfl:v=Value.bool _:=ru'
  have hQ2:Q' ((bs[i]?).getD true) s':=hQ
  rw[Qb (by rw[Qa]at hlen;lia)]at hQ2
  exact wpAny_truthy_bool hQ2
 ·have e:((List.range its.toArray.size).all fun i=>(bs[i]?).getD true)=bs.all id:=by
   have hlen:=rv.length
   rw[Qa]at hlen
   rw[Qs,← hlen,QaV,Qa4,Qa4]
   constructor
   ·intro z b hb
    obtain⟨i,hi,rfl⟩:=List.mem_iff_getElem.mp hb
    have:=z i (Q1.mpr hi)
    rw[Qb hi]at this
    exact this
   ·intro z i hi
    have hi':=Q1.mp hi
    rw[Qb hi']
    exact z _ (QX hi')
  refine⟨.bl (bs.all id),H,I.kept fun b ob e'=>hk b ob (fun hm=>?_) (Qd _ e'),by rw[e];rfl,q⟩
  rw[Qe.mp hm]at e'
  exact Qae _ (Qu e')
theorem ZhG:Z5 X (.builtin "sorted") (fun xs H Q=>∃ (p:Addr) (ss:List Str),xs=[.ref p]∧SqL X.K H p (ss.map V.str)∧ss.length<64 ∧
  ∀ (l:Addr) (ss':List Str),H l=none→ss'.Perm ss→sortedS ss'=true→Q (.ref l) (upd H l (.lst (ss'.map V.str)))):=by
 intro pins s σ H xs us Q I r h
 obtain⟨p,ss,rfl,hq,h64,q⟩:=h
 obtain⟨u,rfl,rx⟩:=ZbJ r
 cases rx
 obtain⟨its,rv,pl,hz⟩:=I.list hq
 have hlen:=rv.length
 rw[Qa]at hlen hz
 refine sorted_strs pl.isList (ZfL rv) (by lia) fun out ss' a1 a2 a3=>?_
 obtain⟨e,he⟩:=sortedAll_at s.heap its out
 have hp:=a2.length_eq
 refine⟨.ref (s.heap.objs.size+1),_,I.laid (t':=s.toks) (o:=.lst (ss'.map V.str)) (fun _ _=>sortedAll_old) (QaC _) ⟨by rw[Qa];lia,out.toList,e,Zg4 a1,by simpa using he⟩,rfl,q _ ss' (I.hok.fresh (QaC _)) a2 a3⟩
theorem Zpo:MtR X "str.join" (fun x vs H Q=>∃ (sep:Str) (p:Addr) (ys:List Str),x=.str sep∧vs=[.ref p]∧SqL X.K H p (ys.map V.str)∧(ys.map (·.length)).sum+ys.length*sep.length≤16777216∧Q (.str (Txt.join sep ys)) H):=by
 intro pins s σ H x vs v us Q I rx rv h
 obtain⟨sep,p,ys,rfl,rfl,hq,hz,q⟩:=h
 obtain⟨t,rfl⟩:=rx
 obtain⟨u,rfl,ru⟩:=rv.one
 cases ru
 obtain⟨its,r',pl,_⟩:=I.list hq
 exact join_list pl.isList (ZfL r') hz fun t' k=>⟨.str _,H,I.tok _,⟨_,rfl⟩,q⟩
theorem ZoS:OpR X (binaryOp .Mult) (fun x y H Q=>∃a n,x=.str a∧y=.int n∧0≤n∧n≤1000000∧(a.length:Int)*n≤1000000∧Q (.str (Txt.mul a n)) H):=by
 intro pins s σ H x y v u Q I rx ry h
 obtain⟨a,n,rfl,rfl,h0,h1,h2,q⟩:=h
 obtain⟨t,rfl⟩:=rx
 obtain⟨t',rfl⟩:=ry
 have h2':a.length*n.toNat≤1000000:=by
  have e:((a.length*n.toNat:Nat):Int)=(a.length:Int)*n:=by rw[Int.natCast_mul,Int.toNat_of_nonneg h0]
  lia
 refine PySem.P.mul_str ?_ (fun c1 c2=>?_) (fun c1 c2=>?_) ?_
 ·have e1:decide (n < -(2 ^ 63:Int))=false:=decide_eq_false (by lia)
  have e2:decide (n≥2 ^ 63)=false:=decide_eq_false (by lia)
  rw[e1,e2];rfl
 ·have hn:(1:Int)≤n:=by lia
  have q1:(a.length:Int)*1≤(a.length:Int)*n:=Int.mul_le_mul_of_nonneg_left hn (Int.natCast_nonneg _)
  have q2:(1000000:Int)≤(2 ^ 63-1) / n:=by
   rw[Int.le_ediv_iff_mul_le (by lia)]
   have:(1000000:Int)*n≤1000000*1000000:=Int.mul_le_mul_of_nonneg_left h1 (by decide)
   lia
  lia
 ·unfold Builtin.Str.tooLong
  have hl:sizeLine=16777216:=sizeLine_eq
  exact decide_eq_false (by lia)
 ·have e:Txt.mul a n=if n<1 then Str.empty else if (n == 1||a.length == 0)=true then a else ⟨(List.replicate n.toNat a.cps).foldl (·++·) #[]⟩:=rfl
  rw[e]at q
  by_cases c1:n<1
  ·rw[if_pos c1]at q ⊢
   exact⟨by decide,.str _,H,I.tok _,⟨_,rfl⟩,q⟩
  ·rw[if_neg c1]at q ⊢
   by_cases c2:(n == 1||a.length == 0)=true
   ·rw[if_pos c2]at q ⊢
    exact⟨.str _,H,I,⟨_,rfl⟩,q⟩
   ·rw[if_neg c2]at q ⊢
    refine⟨?_,.str _,H,I.tok _,⟨_,rfl⟩,q⟩
    have hfold:∀ (k:Nat) (acc:Array Nat),((List.replicate k a.cps).foldl (·++·) acc).size=acc.size+k*a.cps.size:=by
     intro k
     induction k with
     | zero=>intro acc;simp
     | succ k ih=>intro acc;rw[List.replicate_succ,List.foldl_cons,ih,Array.size_append,Nat.succ_mul];lia
    show ((List.replicate n.toNat a.cps).foldl (·++·) #[]).size≤sizeLine
    rw[hfold]
    have e2:a.cps.size=a.length:=rfl
    have:n.toNat*a.cps.size≤1000000:=by rw[e2,Nat.mul_comm];exact h2'
    have hl:sizeLine=16777216:=sizeLine_eq
    simp only[List.size_toArray,List.length_nil]
    lia
end
inductive Src where
 | l (a:Addr)|t (a:Addr)|s (z:Str)
def Src.val:Src→V
 | .l a=>.ref a
 | .t a=>.ref a
 | .s z=>.str z
def ZoK(c:Nat):V:=.str ⟨#[c]⟩
def Src.its(K:PySem.W.Frag)(H:Hp):Src→List V→Prop
 | .l a,xs=>SqL K H a xs
 | .t a,xs=>SqT K H a xs
 | .s z,xs=>xs=z.cps.toList.map ZoK
def Src.at(h:Heap)(i:Addr):Src→Nat→Prop
 | .l a,k=>h.IsListIter i a k
 | .t a,k=>h.IsTupleIter i a k
 | .s z,k=>∃tk,h.IsStrIter i (strIterType z) z tk k
def Src.raw(h:Heap):Src→List Value→Prop
 | .l a,us=>h.IsList a us.toArray
 | .t a,us=>h.IsTuple a us.toArray
 | .s _,_=>True
def Src.fit:Src→List Value→Nat→Value→Prop
 | .l _,us,k,u=>us[k]? = some u
 | .t _,us,k,u=>us[k]? = some u
 | .s z,_,k,u=>∃c tk,z.cps[k]? = some c∧u=.str ⟨#[c]⟩ tk
def Src.many:Src→List Value→Nat
 | .l _,us=>us.length
 | .t _,us=>us.length
 | .s z,_=>z.cps.size
def Src.off:Src→Addr→Prop
 | .l a,b=>a≠b
 | .t a,b=>a≠b
 | .s _,_=>True
theorem Src.at_obj{h:Heap}{i:Addr}:∀ {S:Src} {k:Nat},S.at h i k→∃o vs,h.get? i=some o∧o.data=.fields vs
 | .l _,_,⟨o,e,_,d⟩=>⟨o,_,e,d⟩
 | .t _,_,⟨o,e,_,d⟩=>⟨o,_,e,d⟩
 | .s _,_,⟨_,o,e,_,d⟩=>⟨o,_,e,d⟩
theorem Src.at_keep{h h':Heap}{i:Addr}(k':∀o,h.get? i=some o→h'.get? i=some o):∀ {S:Src} {k:Nat},S.at h i k→S.at h' i k
 | .l _,_,⟨o,e,d⟩=>⟨o,k' o e,d⟩
 | .t _,_,⟨o,e,d⟩=>⟨o,k' o e,d⟩
 | .s _,_,⟨tk,o,e,d⟩=>⟨tk,o,k' o e,d⟩
theorem Src.raw_keep{h h':Heap}{b:Addr}(k':∀c o,c≠b→h.get? c=some o→h'.get? c=some o):∀ {S:Src} {us:List Value},S.off b→S.raw h us→S.raw h' us
 | .l _,_,f,⟨o,e,d⟩=>⟨o,k' _ o f e,d⟩
 | .t _,_,f,⟨o,e,d⟩=>⟨o,k' _ o f e,d⟩
 | .s _,_,_,_=>trivial
section
variable {prog:Program} {w:World} {A:Around} {E:Value→Shared→Prop} {s:Shared}
theorem ZhW{it t:Addr}{i:Nat}{items:Array Value}{x:Value}{Q:Value→Shared→Prop}(hit:s.heap.IsTupleIter it t i)(ht:s.heap.IsTuple t items)(hx:items[i]? = some x)
  (hQ:∀h',h'.IsTupleIter it t (i+1)→Heap.SameBut it s.heap h'→Q x { s with heap:=h' }):wpAny (model prog w) A (Builtin.SmallTypes.nextOf (.ref it)) Q E s:=by
 obtain⟨o,ho,hc,hd⟩:=id hit
 obtain⟨ol,hol,_,nl,hdl⟩:=ht
 unfold Builtin.SmallTypes.nextOf
 refine wpAny_bind (wpAny_callSpecial?_slot (name:=Str.ofString "__next__") hit.typeIs F.slot_tuple_iterator_next
  (wpAny_call_entry F.slot_tuple_iterator_next hit.typeIs F.entry_tuple_iterator_next ?_ (F.args_tuple_iterator_next_1 _)))
 show wpAny _ _ (field (.ref it) 0 >>= _) _ _ s
 refine wpAny_bind (wpAny_field ho hd (x:=.ref t) rfl ?_)
 show wpAny _ _ (if (Value.ref t == Value.none)=true then _ else _) _ _ s
 rw[if_neg (show ¬ ((Value.ref t == Value.none)=true) from Qz)]
 show wpAny _ _ (field (.ref it) 1 >>= _) _ _ s
 refine wpAny_bind (wpAny_field ho hd (x:=.int i 0) rfl ?_)
 show wpAny _ _ (seqItems? (.ref t) >>= _) _ _ s
 refine wpAny_bind (wpAny_seqItems hol hdl ?_)
 simp only[Int.toNat_natCast,hx]
 refine wpAny_bind (wpAny_setField ho hd (by simp) (wpAny_pure ⟨x,rfl,wpAny_pure (hQ _ ?_ (Heap.SameBut.update ..))⟩))
 exact⟨_,Heap.get?_update_self _ ho (Obj.isFreed_of_fields (Obj.data_mapFields hd _)),(Obj.cls_mapFields ..).trans hc,by
  rw[Obj.data_mapFields hd];simp[rawInt]⟩
theorem ZdL{i:Addr}{k:Nat}{us:List Value}{Q:Value→Shared→Prop}:∀ {S:Src},S.at s.heap i k→S.raw s.heap us→k<S.many us →
  (∀h' tk u,S.fit us k u→S.at h' i (k+1)→Heap.SameBut i s.heap h'→Q u { s with heap:=h',toks:=tk })→wpAny (model prog w) A (Builtin.SmallTypes.nextOf (.ref i)) Q E s
 | .l a,h1,h2,h3,hQ=>wpAny_nextOf_list_item h1 h2 (x:=us[k]'h3) (by rw[Qat];exact Qb h3) fun h' q1 q2=>hQ h' s.toks _ (Qb h3) q1 q2
 | .t a,h1,h2,h3,hQ=>ZhW h1 h2 (x:=us[k]'h3) (by rw[Qat];exact Qb h3) fun h' q1 q2=>hQ h' s.toks _ (Qb h3) q1 q2
 | .s z,⟨tk,h1⟩,h2,h3,hQ=>by
  have hx:z.cps[k]? = some z.cps[k]:=Array.getElem?_eq_getElem h3
  by_cases ha:z.cps.all (·<128)=true
  ·have e:strIterType z = "str_ascii_iterator":=by unfold strIterType;rw[if_pos ha]
   rw[e]at h1
   exact wpAny_nextOf_ascii_item h1 hx fun h' q1 q2=>hQ h' _ _ ⟨_,_,hx,rfl⟩ ⟨tk,by rw[e];exact q1⟩ q2
  ·have e:strIterType z = "str_iterator":=by unfold strIterType;rw[if_neg ha]
   rw[e]at h1
   exact wpAny_nextOf_wide_item h1 hx fun h' q1 q2=>hQ h' _ _ ⟨_,_,hx,rfl⟩ ⟨tk,by rw[e];exact q1⟩ q2
theorem Ze3{it t:Addr}{i:Nat}{items:Array Value}{Q:Value→Shared→Prop}(hh:A.handled=none)(hit:s.heap.IsTupleIter it t i)(ht:s.heap.IsTuple t items)(hx:items[i]? = none)
  (hE:∀h' e,Heap.ExtBut it s.heap h'→(∃o,h'.get? e=some o∧o.cls=.type "StopIteration")→E (.ref e) { s with heap:=h' }):wpAny (model prog w) A (Builtin.SmallTypes.nextOf (.ref it)) Q E s:=by
 obtain⟨o,ho,hc,hd⟩:=id hit
 obtain⟨ol,hol,_,nl,hdl⟩:=ht
 unfold Builtin.SmallTypes.nextOf
 refine wpAny_bind (wpAny_callSpecial?_slot (name:=Str.ofString "__next__") hit.typeIs F.slot_tuple_iterator_next
  (wpAny_call_entry F.slot_tuple_iterator_next hit.typeIs F.entry_tuple_iterator_next ?_ (F.args_tuple_iterator_next_1 _)))
 show wpAny _ _ (field (.ref it) 0 >>= _) _ _ s
 refine wpAny_bind (wpAny_field ho hd (x:=.ref t) rfl ?_)
 show wpAny _ _ (if (Value.ref t == Value.none)=true then _ else _) _ _ s
 rw[if_neg (show ¬ ((Value.ref t == Value.none)=true) from Qz)]
 show wpAny _ _ (field (.ref it) 1 >>= _) _ _ s
 refine wpAny_bind (wpAny_field ho hd (x:=.int i 0) rfl ?_)
 show wpAny _ _ (seqItems? (.ref t) >>= _) _ _ s
 refine wpAny_bind (wpAny_seqItems hol hdl ?_)
 simp only[Int.toNat_natCast,hx]
 refine wpAny_bind (wpAny_rule (wpAny_bind (wpAny_setField ho hd (by simp) ?_)))
 show wpAny _ _ (newExc (.type "StopIteration") [] >>= _) _ _ _
 refine wpAny_bind ?_
 simp only[newExc,newTuple]
 refine wpAny_bind (wpAny_newObj_type ?_ (by size_fits))
 refine wpAny_bind (m:=firstArgMember _ _) (wpAny_of_eq (a:=Value.none) (by first|rfl|(simp only[firstArgMember];rfl)) ?_)
 refine wpAny_newObj_type ?_ (by size_fits)
 simp only[raiseNew]
 refine wpAny_bind (wpAny_handled ?_)
 first|rw[show A.in1.handled=none from hh]|rw[hh]
 refine wpAny_bind (wpAny_pure (wpAny_throw ?_))
 exact hE _ _ (((Heap.SameBut.update ..).extBut.push _).push _) ⟨_,QA _ rfl,rfl⟩
theorem Zf5{i:Addr}{k:Nat}{us:List Value}{Q:Value→Shared→Prop}(hh:A.handled=none):∀ {S:Src},S.at s.heap i k→S.raw s.heap us→S.many us≤k →
  (∀h' e,Heap.ExtBut i s.heap h'→(∃o,h'.get? e=some o∧o.cls=.type "StopIteration")→E (.ref e) { s with heap:=h' })→wpAny (model prog w) A (Builtin.SmallTypes.nextOf (.ref i)) Q E s
 | .l a,h1,h2,h3,hE=>wpAny_nextOf_list_end hh h1 h2 (by rw[Qat];exact QG h3) hE
 | .t a,h1,h2,h3,hE=>Ze3 hh h1 h2 (by rw[Qat];exact QG h3) hE
 | .s z,⟨tk,h1⟩,h2,h3,hE=>by
  have hx:z.cps[k]? = none:=Array.getElem?_eq_none h3
  by_cases ha:z.cps.all (·<128)=true
  ·have e:strIterType z = "str_ascii_iterator":=by unfold strIterType;rw[if_pos ha]
   rw[e]at h1
   exact wpAny_nextOf_ascii_end hh h1 hx hE
  ·have e:strIterType z = "str_iterator":=by unfold strIterType;rw[if_neg ha]
   rw[e]at h1
   exact wpAny_nextOf_wide_end hh h1 hx hE
structure ZhN (z TI TO i1 i2:Addr) (S1 S2:Src):Prop where
 TIz:TI≠z
 TOz:TO≠z
 i1z:i1≠z
 i2z:i2≠z
 TITO:TI≠TO
 TIi1:TI≠i1
 TIi2:TI≠i2
 TOi1:TO≠i1
 TOi2:TO≠i2
 i12:i1≠i2
 s1z:S1.off z
 s1TO:S1.off TO
 s1i1:S1.off i1
 s1i2:S1.off i2
 s2z:S2.off z
 s2TO:S2.off TO
 s2i1:S2.off i1
 s2i2:S2.off i2
theorem Zm1{z TI TO i1 i2:Addr}{S1 S2:Src}{k:Nat}{us1 us2:List Value}{a b:Value}{Q:Option Value→Shared→Prop}(D:ZhN z TI TO i1 i2 S1 S2)
  (hz:IsZip s.heap z TI TO .none) (hTI:IsPair s.heap TI (.ref i1) (.ref i2)) (hTO:IsPair s.heap TO a b)
  (h1:S1.at s.heap i1 k) (h2:S2.at s.heap i2 k) (r1:S1.raw s.heap us1) (r2:S2.raw s.heap us2) (m1:k<S1.many us1) (m2:k<S2.many us2)
  (hQ:∀h' tk x y,S1.fit us1 k x→S2.fit us2 k y→IsZip h' z TI TO (rawInt s.heap.objs.size)→IsPair h' TO x y→S1.at h' i1 (k+1)→S2.at h' i2 (k+1)→IsPair h' s.heap.objs.size x y→h'.objs.size=s.heap.objs.size+1 →
   (∀c o,c≠z→c≠TO→c≠i1→c≠i2→s.heap.get? c=some o→h'.get? c=some o)→Q (some (.ref s.heap.objs.size)) { s with heap:=h',toks:=tk }) :
  wpAny (model prog w) A (pyNext (.ref z)) Q E s:=by
 have hT:s.TypeIs (.ref z) "zip":=⟨_,hz,rfl⟩
 unfold pyNext
 refine wpAny_bind (wpAny_attempt (wpAny_callSpecial?_slot (name:=Str.ofString "__next__") hT F.slot_zip_next (wpAny_call_entry F.slot_zip_next hT F.entry_zip_next ?_ (F.args_zip_next_1 _))))
 show wpAny _ _ (field (.ref z) 2 >>= _) _ _ _
 refine wpAny_bind (wpAny_field hz rfl (x:=.bool false) rfl ?_)
 show wpAny _ _ (field (.ref z) 3 >>= _) _ _ _
 refine wpAny_bind (wpAny_field hz rfl (x:=.ref TI) rfl (wpAny_bind (wpAny_seqItems hTI rfl ?_)))
 show wpAny _ _ (Builtin.SmallTypes.ownedTupleIsFree (.ref z) >>= _) _ _ _
 unfold Builtin.SmallTypes.ownedTupleIsFree
 refine wpAny_bind (wpAny_bind (wpAny_field hz rfl (x:=.none) rfl (wpAny_pure ?_)))
 simp only[if_true]
 refine wpAny_bind (wpAny_rule (wpAny_bind (wpAny_field hz rfl (x:=.ref TO) rfl (wpAny_bind (wpAny_setField_rec hz (by simp) fun h₁ hz₁ hs₁=>?_)))))
 replace hz₁:IsZip h₁ z TI TO .ellipsis:=hz₁
 refine wpAny_bind ?_
 simp only[List.zipIdx_cons,List.zipIdx_nil,List.forIn_cons,List.forIn_nil]
 refine wpAny_bind (wpAny_bind (wpAny_onRaise ?_))
 show wpAny _ _ (Builtin.SmallTypes.nextOf (.ref i1) >>= _) _ _ _
 refine wpAny_bind (ZdL (S:=S1) (us:=us1) (k:=k) (S1.at_keep (fun o e=>hs₁.extBut _ o D.i1z e) h1) (S1.raw_keep (fun c o n e=>hs₁.extBut c o n e) D.s1z r1) m1 fun h₂ tk₂ x fx h1₂ hs₂=>wpAny_pure ?_)
 have hs₂':Heap.SameBut i1 h₁ h₂:=hs₂
 have hTO₂:IsPair h₂ TO a b:=hs₂'.extBut _ _ D.TOi1 (hs₁.extBut _ _ D.TOz hTO)
 refine wpAny_bind (wpAny_seqItems hTO₂ rfl (wpAny_bind (wpAny_updateSeq_pair hTO₂ fun h₃ hTO₃ hs₃=>wpAny_bind (wpAny_letGo (wpAny_pure ?_)))))
 replace hTO₃:IsPair h₃ TO x b:=hTO₃
 have hs₃':Heap.SameBut TO h₂ h₃:=hs₃
 refine wpAny_bind (wpAny_bind (wpAny_onRaise ?_))
 show wpAny _ _ (Builtin.SmallTypes.nextOf (.ref i2) >>= _) _ _ _
 refine wpAny_bind (ZdL (S:=S2) (us:=us2) (k:=k)
  (S2.at_keep (fun o e=>hs₃'.extBut _ o D.TOi2.symm (hs₂'.extBut _ o D.i12.symm (hs₁.extBut _ o D.i2z e))) h2)
  (S2.raw_keep (fun c o n e=>hs₃'.extBut c o n e) D.s2TO (S2.raw_keep (fun c o n e=>hs₂'.extBut c o n e) D.s2i1 (S2.raw_keep (fun c o n e=>hs₁.extBut c o n e) D.s2z r2))) m2 fun h₄ tk₄ y fy h2₄ hs₄=>wpAny_pure ?_)
 have hs₄':Heap.SameBut i2 h₃ h₄:=hs₄
 have hTO₄:IsPair h₄ TO x b:=hs₄'.extBut _ _ D.TOi2 hTO₃
 refine wpAny_bind (wpAny_seqItems hTO₄ rfl (wpAny_bind (wpAny_updateSeq_pair hTO₄ fun h₅ hTO₅ hs₅=>wpAny_bind (wpAny_letGo (wpAny_pure (wpAny_pure ?_))))))
 replace hTO₅:IsPair h₅ TO x y:=hTO₅
 have hs₅':Heap.SameBut TO h₄ h₅:=hs₅
 refine wpAny_bind (wpAny_seqItems hTO₅ rfl (wpAny_bind (wpAny_newTuple ?_)))
 have hsz:h₅.objs.size=s.heap.objs.size:=by rw[hs₅'.1,hs₄'.1,hs₃'.1,hs₂'.1,hs₁.1]
 have hz₅:IsZip h₅ z TI TO .ellipsis:=hs₅'.extBut _ _ D.TOz.symm (hs₄'.extBut _ _ D.i2z.symm (hs₃'.extBut _ _ D.TOz.symm (hs₂'.extBut _ _ D.i1z.symm hz₁)))
 have hk₅:∀c o,c≠z→c≠TO→c≠i1→c≠i2→s.heap.get? c=some o→h₅.get? c=some o:=fun c o c1 c2 c3 c4 e =>
  hs₅'.extBut _ _ c2 (hs₄'.extBut _ _ c4 (hs₃'.extBut _ _ c2 (hs₂'.extBut _ _ c3 (hs₁.extBut _ _ c1 e))))
 have h1₅:S1.at h₅ i1 (k+1):=S1.at_keep (fun o e=>hs₅'.extBut _ o D.TOi1.symm (hs₄'.extBut _ o D.i12 (hs₃'.extBut _ o D.TOi1.symm e))) h1₂
 have h2₅:S2.at h₅ i2 (k+1):=S2.at_keep (fun o e=>hs₅'.extBut _ o D.TOi2.symm e) h2₄
 have hzlt:z<h₅.objs.size:=Qu hz₅
 show wpAny _ _ (Builtin.SmallTypes.ownedTupleHandOut (.ref z) (.ref h₅.objs.size) >>= _) _ _ _
 refine wpAny_bind ?_
 unfold Builtin.SmallTypes.ownedTupleHandOut
 have hz₆:IsZip (h₅.push { cls:=.type "tuple",data:=.seq #[x,y] }) z TI TO .ellipsis:=Qd _ hz₅
 refine wpAny_bind (wpAny_setField_rec hz₆ (by simp) fun h₇ hz₇ hs₇=>?_)
 replace hz₇:IsZip h₇ z TI TO (rawInt h₅.objs.size):=hz₇
 refine wpAny_setField_rec hz₇ (by simp) fun h₈ hz₈ hs₈=>?_
 replace hz₈:IsZip h₈ z TI TO (rawInt h₅.objs.size):=hz₈
 have up:∀c o,c≠z→h₅.get? c=some o→h₈.get? c=some o:=fun c o c1 e=>hs₈.extBut _ _ c1 (hs₇.extBut _ _ c1 (Qd _ e))
 have hT₈:IsPair h₈ h₅.objs.size x y:=hs₈.extBut _ _ (Qab hzlt) (hs₇.extBut _ _ (Qab hzlt) (QA _ rfl))
 have hz8:h₈.objs.size=h₅.objs.size+1:=by rw[hs₈.1,hs₇.1,Qag]
 rw[hsz]at hz₈ hT₈ hz8
 refine wpAny_pure ⟨_,rfl,wpAny_pure ?_⟩
 show Q (some (.ref h₅.objs.size)) _
 rw[hsz]
 exact hQ h₈ tk₄ x y fx fy hz₈ (up _ _ D.TOz hTO₅) (S1.at_keep (fun o e=>up _ o D.i1z e) h1₅) (S2.at_keep (fun o e=>up _ o D.i2z e) h2₅) hT₈ hz8 fun c o c1 c2 c3 c4 e=>up c o c1 (hk₅ c o c1 c2 c3 c4 e)
theorem Zng{z TI TO i1 i2:Addr}{S1 S2:Src}{k:Nat}{us1 us2:List Value}{a b:Value}{Q:Option Value→Shared→Prop}(hh:A.handled=none)(D:ZhN z TI TO i1 i2 S1 S2)
  (hz:IsZip s.heap z TI TO .none) (hTI:IsPair s.heap TI (.ref i1) (.ref i2)) (hTO:IsPair s.heap TO a b)
  (h1:S1.at s.heap i1 k) (h2:S2.at s.heap i2 k) (r1:S1.raw s.heap us1) (r2:S2.raw s.heap us2) (hend:S1.many us1≤k∨S2.many us2≤k)
  (hQ:∀h' tk,(∀c o,c≠z→c≠TO→c≠i1→c≠i2→s.heap.get? c=some o→h'.get? c=some o)→Q none { s with heap:=h',toks:=tk }) :
  wpAny (model prog w) A (pyNext (.ref z)) Q E s:=by
 have hT:s.TypeIs (.ref z) "zip":=⟨_,hz,rfl⟩
 unfold pyNext
 have done:∀ (h':Heap) (tk:Nat) (e:Addr),(∀c o,c≠z→c≠TO→c≠i1→c≠i2→s.heap.get? c=some o→h'.get? c=some o)→(∃o,h'.get? e=some o∧o.cls=.type "StopIteration") →
   wpAny (model prog w) A (do if (← isInstance (.ref e) (.type "StopIteration")) then pure none else throw (.ref e):Sem (Option Value)) Q E { s with heap:=h',toks:=tk }:=fun h' tk e hk ⟨o,ho,hc⟩=>
  wpAny_bind (wpAny_isInstance (T := "StopIteration") (b:=true) ⟨o,ho,hc⟩ isSubtype_stop (wpAny_pure (hQ h' tk hk)))
 refine wpAny_bind (wpAny_attempt (wpAny_callSpecial?_slot (name:=Str.ofString "__next__") hT F.slot_zip_next (wpAny_call_entry F.slot_zip_next hT F.entry_zip_next ?_ (F.args_zip_next_1 _))))
 show wpAny _ _ (field (.ref z) 2 >>= _) _ _ _
 refine wpAny_bind (wpAny_field hz rfl (x:=.bool false) rfl ?_)
 show wpAny _ _ (field (.ref z) 3 >>= _) _ _ _
 refine wpAny_bind (wpAny_field hz rfl (x:=.ref TI) rfl (wpAny_bind (wpAny_seqItems hTI rfl ?_)))
 show wpAny _ _ (Builtin.SmallTypes.ownedTupleIsFree (.ref z) >>= _) _ _ _
 unfold Builtin.SmallTypes.ownedTupleIsFree
 refine wpAny_bind (wpAny_bind (wpAny_field hz rfl (x:=.none) rfl (wpAny_pure ?_)))
 simp only[if_true]
 refine wpAny_bind (wpAny_rule (wpAny_bind (wpAny_field hz rfl (x:=.ref TO) rfl (wpAny_bind (wpAny_setField_rec hz (by simp) fun h₁ hz₁ hs₁=>?_)))))
 replace hz₁:IsZip h₁ z TI TO .ellipsis:=hz₁
 refine wpAny_bind ?_
 simp only[List.zipIdx_cons,List.zipIdx_nil,List.forIn_cons,List.forIn_nil]
 refine wpAny_bind (wpAny_bind (wpAny_onRaise ?_))
 show wpAny _ _ (Builtin.SmallTypes.nextOf (.ref i1) >>= _) _ _ _
 by_cases m1:k<S1.many us1
 ·have m2:S2.many us2≤k:=by rcases hend with z'|z';lia;exact z'
  refine wpAny_bind (ZdL (S:=S1) (us:=us1) (k:=k) (S1.at_keep (fun o e=>hs₁.extBut _ o D.i1z e) h1) (S1.raw_keep (fun c o n e=>hs₁.extBut c o n e) D.s1z r1) m1 fun h₂ tk₂ x fx h1₂ hs₂=>wpAny_pure ?_)
  have hs₂':Heap.SameBut i1 h₁ h₂:=hs₂
  have hTO₂:IsPair h₂ TO a b:=hs₂'.extBut _ _ D.TOi1 (hs₁.extBut _ _ D.TOz hTO)
  refine wpAny_bind (wpAny_seqItems hTO₂ rfl (wpAny_bind (wpAny_updateSeq_pair hTO₂ fun h₃ hTO₃ hs₃=>wpAny_bind (wpAny_letGo (wpAny_pure ?_)))))
  have hs₃':Heap.SameBut TO h₂ h₃:=hs₃
  refine wpAny_bind (wpAny_bind (wpAny_onRaise ?_))
  show wpAny _ _ (Builtin.SmallTypes.nextOf (.ref i2) >>= _) _ _ _
  refine wpAny_bind (Zf5 (S:=S2) (us:=us2) (k:=k) hh
   (S2.at_keep (fun o e=>hs₃'.extBut _ o D.TOi2.symm (hs₂'.extBut _ o D.i12.symm (hs₁.extBut _ o D.i2z e))) h2)
   (S2.raw_keep (fun c o n e=>hs₃'.extBut c o n e) D.s2TO (S2.raw_keep (fun c o n e=>hs₂'.extBut c o n e) D.s2i1 (S2.raw_keep (fun c o n e=>hs₁.extBut c o n e) D.s2z r2))) m2 fun h₄ e hs₄ he=>?_)
  obtain⟨oe,hoe,hce⟩:=he
  have hz₄:IsZip h₄ z TI TO .ellipsis:=hs₄ _ _ D.i2z.symm (hs₃'.extBut _ _ D.TOz.symm (hs₂'.extBut _ _ D.i1z.symm hz₁))
  have hez:e≠z:=fun x=>by subst x;rw[hz₄]at hoe;cases hoe;simp at hce
  exact wpAny_setField_rec hz₄ (by simp) fun h₅ _ hs₅=>done h₅ _ e (fun c o c1 c2 c3 c4 x=>hs₅.extBut _ _ c1 (hs₄ _ _ c4 (hs₃'.extBut _ _ c2 (hs₂'.extBut _ _ c3 (hs₁.extBut _ _ c1 x))))) ⟨oe,hs₅.extBut _ _ hez hoe,hce⟩
 ·refine wpAny_bind (Zf5 (S:=S1) (us:=us1) (k:=k) hh (S1.at_keep (fun o e=>hs₁.extBut _ o D.i1z e) h1) (S1.raw_keep (fun c o n e=>hs₁.extBut c o n e) D.s1z r1) (by lia) fun h₂ e hs₂ he=>?_)
  obtain⟨oe,hoe,hce⟩:=he
  have hz₂:IsZip h₂ z TI TO .ellipsis:=hs₂ _ _ D.i1z.symm hz₁
  have hez:e≠z:=fun x=>by subst x;rw[hz₂]at hoe;cases hoe;simp at hce
  exact wpAny_setField_rec hz₂ (by simp) fun h₃ _ hs₃=>done h₃ _ e (fun c o c1 _ c3 _ x=>hs₃.extBut _ _ c1 (hs₂ _ _ c3 (hs₁.extBut _ _ c1 x))) ⟨oe,hs₃.extBut _ _ hez hoe,hce⟩
end
def Src.iter(tk:Tok):Src→Obj
 | .l a=>{ cls:=.type "list_iterator",data:=.fields #[.ref a,.int 0 0] }
 | .t a=>{ cls:=.type "tuple_iterator",data:=.fields #[.ref a,.int 0 0] }
 | .s z=>{ cls:=.type (strIterType z),data:=.fields #[.str z tk,.int 0 0] }
def Src.value(tk:Tok):Src→Value
 | .l a=>.ref a
 | .t a=>.ref a
 | .s z=>.str z tk
theorem Src.iter_at{h:Heap}{i:Addr}{tk:Tok}:∀ {S:Src},h.get? i=some (S.iter tk)→S.at h i 0
 | .l _,e=>⟨_,e,rfl,rfl⟩
 | .t _,e=>⟨_,e,rfl,rfl⟩
 | .s _,e=>⟨tk,_,e,rfl,rfl⟩
theorem Src.pyIter{prog:Program}{w:World}{A:Around}{E:Value→Shared→Prop}{s:Shared}{tk:Tok}{us:List Value}{Q:Value→Shared→Prop}:∀ {S:Src},S.raw s.heap us →
  Q (.ref s.heap.objs.size) { s with heap:=s.heap.push (S.iter tk) }→wpAny (model prog w) A (pyIter (S.value tk)) Q E s
 | .l _,r,q=>wpAny_pyIter_list r q
 | .t _,r,q=>wpAny_pyIter_tuple r q
 | .s _,_,q=>wpAny_pyIter_strU q
theorem Src.raw_push{h:Heap}{ob:Obj}:∀ {S:Src} {us:List Value},S.raw h us→S.raw (h.push ob) us
 | .l _,_,⟨o,e,d⟩=>⟨o,Qd _ e,d⟩
 | .t _,_,⟨o,e,d⟩=>⟨o,Qd _ e,d⟩
 | .s _,_,_=>trivial
abbrev zH1(h:Heap)(S1:Src)(t1:Tok):Heap:=h.push (S1.iter t1)
abbrev zH2(h:Heap)(S1 S2:Src)(t1 t2:Tok):Heap:=(zH1 h S1 t1).push (S2.iter t2)
abbrev zH3(h:Heap)(S1 S2:Src)(t1 t2:Tok):Heap:=(zH2 h S1 S2 t1 t2).push { cls:=.type "tuple",data:=.seq #[.ref h.objs.size,.ref (zH1 h S1 t1).objs.size] }
abbrev zH4(h:Heap)(S1 S2:Src)(t1 t2:Tok):Heap:=(zH3 h S1 S2 t1 t2).push { cls:=.type "tuple",data:=.seq #[.none,.none] }
abbrev zH5(h:Heap)(S1 S2:Src)(t1 t2:Tok):Heap:=(zH4 h S1 S2 t1 t2).push { cls:=.type "zip",data:=.fields #[.none,.bool false,.bool false,.ref (zH2 h S1 S2 t1 t2).objs.size,.ref (zH3 h S1 S2 t1 t2).objs.size] }
theorem Zoo(S1 S2:Src)(t1 t2:Tok)(us1 us2:List Value) :
  Meets (Builtin.«zip.__new__» ⟨[.type "zip",S1.value t1,S2.value t2],[]⟩) (fun _ R s=>S1.raw s.heap us1∧S2.raw s.heap us2 ∧
   R (.ok (.ret (.ref (zH4 s.heap S1 S2 t1 t2).objs.size))) { s with heap:=zH5 s.heap S1 S2 t1 t2 }) :=
 .of_wp fun prog w A R s h=>by
  obtain⟨hp,g,d,tk,os⟩:=s;obtain⟨r1,r2,h⟩:=h
  have hsub:=sub_zip
  have q1:∀ {A:Around} {E:Value→Shared→Prop} {Q:Value→Shared→Prop},Q (.ref hp.objs.size) ⟨zH1 hp S1 t1,g,d,tk,os⟩→wpAny (model prog w) A (pyIter (S1.value t1)) Q E ⟨hp,g,d,tk,os⟩:=
   fun {A E Q} q=>Src.pyIter (s:=⟨hp,g,d,tk,os⟩) (us:=us1) r1 q
  have q2:∀ {A:Around} {E:Value→Shared→Prop} {Q:Value→Shared→Prop},Q (.ref (zH1 hp S1 t1).objs.size) ⟨zH2 hp S1 S2 t1 t2,g,d,tk,os⟩→wpAny (model prog w) A (pyIter (S2.value t2)) Q E ⟨zH1 hp S1 t1,g,d,tk,os⟩:=
   fun {A E Q} q=>Src.pyIter (s:=⟨zH1 hp S1 t1,g,d,tk,os⟩) (us:=us2) (S2.raw_push r2) q
  generalize S1.value t1=v1 at q1 ⊢
  generalize S2.value t2=v2 at q2 ⊢
  wp_walk using q1,q2
  exact⟨_,rfl,h⟩
section
variable {prog:Program} {w:World} {A:Around} {E:Value→Shared→Prop} {s:Shared}
theorem Znd{S1 S2:Src}{t1 t2:Tok}{us1 us2:List Value}{Q:Value→Shared→Prop}(r1:S1.raw s.heap us1)(r2:S2.raw s.heap us2)
  (h:∀h',IsZip h' (s.heap.objs.size+4) (s.heap.objs.size+2) (s.heap.objs.size+3) .none→IsPair h' (s.heap.objs.size+2) (.ref s.heap.objs.size) (.ref (s.heap.objs.size+1)) →
   IsPair h' (s.heap.objs.size+3) .none .none→S1.at h' s.heap.objs.size 0→S2.at h' (s.heap.objs.size+1) 0→h'.objs.size=s.heap.objs.size+5 →
   (∀c o,s.heap.get? c=some o→h'.get? c=some o)→Q (.ref (s.heap.objs.size+4)) { s with heap:=h' }) :
  wpAny (model prog w) A (call (.type "zip") [S1.value t1,S2.value t2]) Q E s:=by
 refine callType_new F.called_zip (by decide) (F.typeCall_zip_2 _ _) (F.newCall_zip_2 _ _) (fun obj=>F.args_object_init_3 obj _ _) F.entry_zip_new (Zoo S1 S2 t1 t2 us1 us2) ⟨r1,r2,?_⟩
 have z1:(zH1 s.heap S1 t1).objs.size=s.heap.objs.size+1:=Qag ..
 have z2:(zH2 s.heap S1 S2 t1 t2).objs.size=s.heap.objs.size+2:=by rw[Qag,z1]
 have z3:(zH3 s.heap S1 S2 t1 t2).objs.size=s.heap.objs.size+3:=by rw[Qag,z2]
 have z4:(zH4 s.heap S1 S2 t1 t2).objs.size=s.heap.objs.size+4:=by rw[Qag,z3]
 have z5:(zH5 s.heap S1 S2 t1 t2).objs.size=s.heap.objs.size+5:=by rw[Qag,z4]
 have fr:∀ (tk:Tok) (S:Src),(S.iter tk).isFreed=false:=fun tk S=>by cases S<;>rfl
 have g5:(zH5 s.heap S1 S2 t1 t2).get? (zH4 s.heap S1 S2 t1 t2).objs.size=some _:=QA _ rfl
 have g4:(zH5 s.heap S1 S2 t1 t2).get? (zH3 s.heap S1 S2 t1 t2).objs.size=some _:=Qd _ (QA _ rfl)
 have g3:(zH5 s.heap S1 S2 t1 t2).get? (zH2 s.heap S1 S2 t1 t2).objs.size=some _:=Qd _ (Qd _ (QA _ rfl))
 have g2:(zH5 s.heap S1 S2 t1 t2).get? (zH1 s.heap S1 t1).objs.size=some (S2.iter t2):=Qd _ (Qd _ (Qd _ (QA _ (fr _ _))))
 have g1:(zH5 s.heap S1 S2 t1 t2).get? s.heap.objs.size=some (S1.iter t1):=Qd _ (Qd _ (Qd _ (Qd _ (QA _ (fr _ _)))))
 show _∧_
 rw[z2,z3,z4]at g5
 rw[z1,z2]at g3
 rw[z3]at g4
 rw[z1]at g2
 rw[z4]
 exact⟨⟨_,g5,rfl⟩,h _ g5 g3 g4 (Src.iter_at g1) (Src.iter_at g2) z5 fun c o x =>
  Qd _ (Qd _ (Qd _ (Qd _ (Qd _ x))))⟩
end
def Itz(K:PySem.W.Frag)(S1 S2:Src):It :=
 ⟨fun i H=>∃xs ys,S1.its K H xs∧S2.its K H ys∧i<xs.length∧i<ys.length,
  fun i H v H'=>∃p,H p=none∧v=.ref p∧∀xs ys,S1.its K H xs→S2.its K H ys→∀x y,xs[i]? = some x→ys[i]? = some y→H'=upd H p (.tup [x,y]),
  fun i H=>∃xs ys,S1.its K H xs∧S2.its K H ys∧(xs.length≤i∨ys.length≤i)⟩
section
variable {X:Cx} {pins:List (Addr×Obj)} {σ:St} {H:Hp} {s:Shared}
theorem Inv.src(I:Inv X pins σ H s):∀ {S:Src} {xs:List V},S.its X.K H xs→∃us,S.raw s.heap us∧S.many us=xs.length∧∀k u x,S.fit us k u→xs[k]? = some x→ZE x u
 | .l a,xs,h=>by
  obtain⟨its,rv,pl,_⟩:=I.list h
  refine⟨its,pl.isList,rv.length.symm,fun k u x e1 e2=>?_⟩
  obtain⟨u',e3,r⟩:=rv.get e2
  rw[show its[k]? = some u from e1]at e3;cases e3
  exact r
 | .t a,xs,h=>by
  obtain⟨its,rv,pl,_⟩:=I.tuple h
  refine⟨its,pl,rv.length.symm,fun k u x e1 e2=>?_⟩
  obtain⟨u',e3,r⟩:=rv.get e2
  rw[show its[k]? = some u from e1]at e3;cases e3
  exact r
 | .s z,xs,h=>by
  refine⟨[],trivial,?_,fun k u x e1 e2=>?_⟩
  ·rw[show xs=_ from h,Qa];simp[Src.many]
  ·obtain⟨c,tk,e3,e4⟩:=e1
   subst e4
   rw[show xs=_ from h,Qk]at e2
   have e5:z.cps.toList[k]? = some c:=by simpa using e3
   rw[e5]at e2
   cases e2
   exact⟨tk,rfl⟩
theorem Inv.src_off(I:Inv X pins σ H s){b:Addr}(hb:Zfm X pins H b):∀ {S:Src} {xs:List V},S.its X.K H xs→S.off b
 | .l a,xs,h=>by
  rcases h with(h|⟨ob,h⟩)|⟨o,its,n,hk,_⟩
  ·exact Zc h hb.1
  ·exact Zc h hb.1
  ·rintro rfl
   have e:=I.ok.mod.kin a o hk
   rcases hb.2.2.2.1 with z|z
   ·exact I.ok.noex a o e z
   ·exact absurd (QJ (Qu e) (QP I.ok.bsz z)) (Qae _)
 | .t a,xs,h=>by
  rcases h with(h|⟨ob,h⟩)|⟨o,its,n,hk,_⟩
  ·exact Zc h hb.1
  ·exact Zc h hb.1
  ·rintro rfl
   have e:=I.ok.mod.kin a o hk
   rcases hb.2.2.2.1 with z|z
   ·exact I.ok.noex a o e z
   ·exact absurd (QJ (Qu e) (QP I.ok.bsz z)) (Qae _)
 | .s z,xs,h=>trivial
theorem Inv.zipped{fp:List Addr}{h':Heap}{tk:Nat}{x y:V}{u v:Value}(I:Inv X pins σ H s)(hf:∀b∈fp,Zfm X pins H b)(rx:ZE x u)(ry:ZE y v)
  (hp:IsPair h' s.heap.objs.size u v) (hfh:∀b∈fp,∃o,h'.get? b=some o) (hk:∀c o,c ∉ fp→s.heap.get? c=some o→h'.get? c=some o) :
  Inv X pins σ (upd H s.heap.objs.size (.tup [x,y])) { s with heap:=h',toks:=tk }:=by
 have hn:H s.heap.objs.size=none:=I.fresh
 have ne:∀b ob,s.heap.get? b=some ob→b≠s.heap.objs.size:=fun b ob e=>QF (Qu e)
 have nt:∀b u,H b=some u→b≠s.heap.objs.size:=fun b u e=>Zc e hn
 have nfp:∀b u,H b=some u→b ∉ fp:=fun b u e hb=>by rw[(hf b hb).1]at e;cases e
 refine I.step (g':=s.gens) (d':=s.drawn) (ch:=fp) (fun b hb=>⟨(hf b hb).2.2.2.1,(hf b hb).2.1,(hf b hb).2.2.2.2.1,(hf b hb).2.2.2.2.2⟩)
  (fun b ob _ _ hc e _=>hk b ob hc e) (fun b ob _ _ hc e _=>⟨ob.slots,hk b ob hc e⟩) (fun b ob _ e n=>by rw[Ze (ne b ob e)];exact n) (fun b ob hc e=>⟨ob,hk b ob hc e⟩)
  (fun b xs e=>by rw[Ze (nt b _ e)];exact e) (fun b ob u e=>by rw[Ze (nt b _ e)];exact e) (fun b ps e=>⟨#[],by rw[Ze (nt b _ e),e];simp⟩) (fun m hm=>?_) (fun b ub e=>?_) I.bare
 ·obtain⟨ob,es,ep,ho,r⟩:=hm
  exact⟨ob,es,ep,hk _ ob (fun z=>(hf _ z).2.1 rfl) ho,r⟩
 ·by_cases hb:b=s.heap.objs.size
  ·subst hb
   rw[Zb]at e;cases e
   exact⟨by show 2≤sizeLine;decide,[u,v],.cons rx (.cons ry .nil),⟨_,hp,rfl,_,rfl⟩⟩
  ·rw[Ze hb]at e
   refine(I.hok b ub e).stay (fun c w' hc q=>hk c w' ?_ q) (fun c q=>by rw[Ze (nt c _ q)];exact q) fun c xs q=>by rw[Ze (nt c _ q)];exact q
   rcases hc with z|z
   ·rw[z];exact nfp b ub e
   ·exact nfp c _ z
end
theorem Zn7{P:Program}{w:World}{K:PySem.W.Frag}{elts:List Expr}{x1:Nat}{tpos:Pos}{S1 S2:Src}{z TI TO i1 i2:Addr}
  (d1:TI≠z) (d2:TO≠z) (d3:i1≠z) (d4:i2≠z) (d5:TI≠TO) (d6:TI≠i1) (d7:TI≠i2) (d8:TO≠i1) (d9:TO≠i2) (d10:i1≠i2) :
  Zlh P w K (.Tuple elts x1 tpos) (Itz K S1 S2) [z,TI,TO,i1,i2] z
   (fun i h=>IsZip h z TI TO .none∧IsPair h TI (.ref i1) (.ref i2)∧(∃a b,IsPair h TO a b)∧S1.at h i1 i∧S2.at h i2 i) where
 mem:=by simp
 obj:=fun i h st b hb=>by
  obtain⟨hz,hTI,⟨a,b',hTO⟩,h1,h2⟩:=st
  have nf:∀ {o:Obj} {vs:Array Value},o.data=.fields vs→∀v,o.data≠.cell v:=fun d v e=>by rw[d]at e;cases e
  simp only[List.mem_cons,List.not_mem_nil,or_false]at hb
  rcases hb with rfl|rfl|rfl|rfl|rfl
  ·exact⟨_,hz,nf rfl⟩
  ·exact⟨_,hTI,fun v e=>by cases e⟩
  ·exact⟨_,hTO,fun v e=>by cases e⟩
  ·obtain⟨o,vs,e,d⟩:=Src.at_obj h1;exact⟨o,e,nf d⟩
  ·obtain⟨o,vs,e,d⟩:=Src.at_obj h2;exact⟨o,e,nf d⟩
 keep:=fun i h h' st k=>by
  obtain⟨hz,hTI,⟨a,b',hTO⟩,h1,h2⟩:=st
  exact⟨k z (by simp) _ hz,k TI (by simp) _ hTI,⟨a,b',k TO (by simp) _ hTO⟩,Src.at_keep (fun o e=>k i1 (by simp) o e) h1,Src.at_keep (fun o e=>k i2 (by simp) o e) h2⟩
 item:=by
  intro X hP hw hK hc i pins s σ H E I hf st hg
  subst hP hw hK
  obtain⟨hz,hTI,⟨a,b',hTO⟩,h1,h2⟩:=st
  obtain⟨xs,ys,q1,q2,l1,l2⟩:=hg
  obtain⟨us1,r1,m1,f1⟩:=I.src q1
  obtain⟨us2,r2,m2,f2⟩:=I.src q2
  have hfz:=hf z (by simp)
  have D:ZhN z TI TO i1 i2 S1 S2:=⟨d1,d2,d3,d4,d5,d6,d7,d8,d9,d10,I.src_off hfz q1,I.src_off (hf TO (by simp)) q1,I.src_off (hf i1 (by simp)) q1,I.src_off (hf i2 (by simp)) q1,
   I.src_off hfz q2,I.src_off (hf TO (by simp)) q2,I.src_off (hf i1 (by simp)) q2,I.src_off (hf i2 (by simp)) q2⟩
  refine Zm1 D hz hTI hTO h1 h2 r1 r2 (by lia) (by lia) fun h' tk x y fx fy a1 a2 a3 a4 a5 a6 a7=>?_
  have rx:=f1 i x _ fx (Qb l1)
  have ry:=f2 i y _ fy (Qb l2)
  refine⟨_,rfl,wpAny_letOwnedTupleGo_zip a1 fun h'' hz'' hs''=>?_⟩
  have hs':Heap.SameBut z h' h'':=hs''
  have hTI':IsPair h' TI (.ref i1) (.ref i2):=a7 _ _ d1 d5 d6 d7 hTI
  have lt:∀ {b:Addr} {o:Obj},s.heap.get? b=some o→s.heap.objs.size≠b:=fun e=>Qab (Qu e)
  have hzs:s.heap.objs.size≠z:=lt hz
  have I2:Inv X pins σ (upd H s.heap.objs.size (.tup [xs[i],ys[i]])) { s with heap:=h'',toks:=tk }:=by
   refine I.zipped (fp:=[z,TI,TO,i1,i2]) hf rx ry (hs'.extBut _ _ hzs a5) (fun b hb=>?_) fun c o hc e=>?_
   ·simp only[List.mem_cons,List.not_mem_nil,or_false]at hb
    rcases hb with rfl|rfl|rfl|rfl|rfl
    ·exact⟨_,hz''⟩
    ·exact⟨_,hs'.extBut _ _ d1 hTI'⟩
    ·exact⟨_,hs'.extBut _ _ d2 a2⟩
    ·obtain⟨o,vs,e,_⟩:=Src.at_obj a3;exact⟨o,hs'.extBut _ _ d3 e⟩
    ·obtain⟨o,vs,e,_⟩:=Src.at_obj a4;exact⟨o,hs'.extBut _ _ d4 e⟩
   ·simp only[List.mem_cons,List.not_mem_nil,or_false,not_or]at hc
    exact hs'.extBut _ _ hc.1 (a7 c o hc.1 hc.2.2.1 hc.2.2.2.1 hc.2.2.2.2 e)
  refine⟨.ref s.heap.objs.size,_,I2,rfl,⟨s.heap.objs.size,I.fresh,rfl,fun xs' ys' w1 w2 x' y' e1 e2=>?_⟩,⟨hz'',hs'.extBut _ _ d1 hTI',⟨_,_,hs'.extBut _ _ d2 a2⟩,Src.at_keep (fun o e=>hs'.extBut _ o d3 e) a3,Src.at_keep (fun o e=>hs'.extBut _ o d4 e) a4⟩,fun b hb=>?_⟩
  ·have same:∀ {S:Src} {us vs:List V},S.its X.K H us→S.its X.K H vs→us=vs:=fun {S us vs} p q=>by
    cases S with
    | l a=>exact I.list_inj p q
    | t a=>exact I.tuple_inj p q
    | s z=>rw[show us=_ from p,show vs=_ from q]
   have e3:=same w1 q1
   have e4:=same w2 q2
   subst e3;subst e4
   rw[Qb l1]at e1
   rw[Qb l2]at e2
   cases e1;cases e2
   rfl
  ·rw[Ze (fun e=>by
    obtain⟨o,e1,_⟩:∃o,s.heap.get? b=some o∧True:=by
     simp only[List.mem_cons,List.not_mem_nil,or_false]at hb
     rcases hb with rfl|rfl|rfl|rfl|rfl
     ·exact⟨_,hz,trivial⟩
     ·exact⟨_,hTI,trivial⟩
     ·exact⟨_,hTO,trivial⟩
     ·obtain⟨o,vs,e,_⟩:=Src.at_obj h1;exact⟨o,e,trivial⟩
     ·obtain⟨o,vs,e,_⟩:=Src.at_obj h2;exact⟨o,e,trivial⟩
    exact lt e1 e.symm)]
   exact(hf b hb).1
 done:=by
  intro X hP hw hK hc i pins s σ H E I hf st hg
  subst hP hw hK
  obtain⟨hz,hTI,⟨a,b',hTO⟩,h1,h2⟩:=st
  obtain⟨xs,ys,q1,q2,l⟩:=hg
  obtain⟨us1,r1,m1,f1⟩:=I.src q1
  obtain⟨us2,r2,m2,f2⟩:=I.src q2
  have hfz:=hf z (by simp)
  have D:ZhN z TI TO i1 i2 S1 S2:=⟨d1,d2,d3,d4,d5,d6,d7,d8,d9,d10,I.src_off hfz q1,I.src_off (hf TO (by simp)) q1,I.src_off (hf i1 (by simp)) q1,I.src_off (hf i2 (by simp)) q1,
   I.src_off hfz q2,I.src_off (hf TO (by simp)) q2,I.src_off (hf i1 (by simp)) q2,I.src_off (hf i2 (by simp)) q2⟩
  refine Zng (I.ok.hd hc) D hz hTI hTO h1 h2 r1 r2 (by lia) fun h' tk hk=>⟨rfl,?_⟩
  have kf:∀c o,c ∉ [z,TI,TO,i1,i2]→s.heap.get? c=some o→h'.get? c=some o:=fun c o hc e=>by
   simp only[List.mem_cons,List.not_mem_nil,or_false,not_or]at hc
   exact hk c o hc.1 hc.2.2.1 hc.2.2.2.1 hc.2.2.2.2 e
  have nfp:∀b u,H b=some u→b ∉ [z,TI,TO,i1,i2]:=fun b u e hb=>by rw[(hf b hb).1]at e;cases e
  refine I.step (g':=s.gens) (d':=s.drawn) (ch:=[z,TI,TO,i1,i2]) (fun b hb=>⟨(hf b hb).2.2.2.1,(hf b hb).2.1,(hf b hb).2.2.2.2.1,(hf b hb).2.2.2.2.2⟩)
   (fun b ob _ _ hc e _=>kf b ob hc e) (fun b ob _ _ hc e _=>⟨ob.slots,kf b ob hc e⟩) (fun b ob _ e n=>n) (fun b ob hc e=>⟨ob,kf b ob hc e⟩)
   (fun b xs e=>e) (fun b ob u e=>e) (fun b ps e=>⟨#[],by rw[e];simp⟩) (fun m hm=>?_) (fun b ub e=>?_) I.bare
  ·obtain⟨ob,es,ep,ho,r⟩:=hm
   exact⟨ob,es,ep,kf _ ob (fun z=>(hf _ z).2.1 rfl) ho,r⟩
  ·refine(I.hok b ub e).stay (fun c w' hc q=>kf c w' ?_ q) (fun c q=>q) fun c xs q=>q
   rcases hc with z'|z'
   ·rw[z'];exact nfp b ub e
   ·exact nfp c _ z'
 self:=fun _ _ _ _ _ st h=>wpAny_pyIter_zip st.1 h
def ZrV(K:PySem.W.Frag)(ta:TA):TI:=fun σ H R=>ta σ H fun vs H1=>∃S1 S2 xs ys,vs=[Src.val S1,Src.val S2]∧S1.its K H1 xs∧S2.its K H1 ys∧R (Itz K S1 S2) H1
theorem Zqp{X:Cx}{a b:Expr}{ta:TA}{p pos:Pos}{elts:List Expr}{x1:Nat}{tpos:Pos}(hg:Gl X "zip")(hm:X.mg "zip" = none)(ha:PA X [a,b] ta)
  (hs:starEach [a,b] X.env=[(false,eval a X.env),(false,eval b X.env)]:=by rfl) (hs2:starEach [b] X.env=[(false,eval b X.env)]:=by rfl) :
  PI X (.Tuple elts x1 tpos) (.Call (.Name "zip" p) [a,b] [] pos) (ZrV X.K ta):=by
 intro pins s σ H R I h
 refine Call_ (Zeb I hg hm boot_zip (Qad (thn (ha pos pins s σ H _ I h) ?_) (by rw[hs,hs2]) (by rw[hs2];rfl)))
 rintro us s1 ⟨vs,H1,I1,r1,q1⟩
 obtain⟨S1,S2,xs,ys,e,y1,y2,q⟩:=q1
 subst e
 obtain⟨u1,u2,rfl,w1,w2⟩:=r1.two
 have vo:∀ {S:Src} {u:Value},ZE S.val u→∃tk,u=S.value tk:=fun {S u} r=>by
  cases S with
  | l a=>exact⟨0,r⟩
  | t a=>exact⟨0,r⟩
  | s z=>obtain⟨tk,e⟩:=r;exact⟨tk,e⟩
 obtain⟨t1,rfl⟩:=vo w1
 obtain⟨t2,rfl⟩:=vo w2
 obtain⟨us1,r1,m1,f1⟩:=I1.src y1
 obtain⟨us2,r2,m2,f2⟩:=I1.src y2
 refine Znd r1 r2 fun h' hz hTI hTO a1 a2 a3 hk=>wpAny_pyIter_zip hz ?_
 have I2:Inv X pins σ H1 { s1 with heap:=h' }:=I1.kept (t':=s1.toks) hk
 have n:=s1.heap.objs.size
 refine⟨_,_,_,_,H1,rfl,I2,Zn7 (S1:=S1) (S2:=S2) (z:=s1.heap.objs.size+4) (TI:=s1.heap.objs.size+2) (TO:=s1.heap.objs.size+3) (i1:=s1.heap.objs.size) (i2:=s1.heap.objs.size+1)
  (QF (Qam (by decide) _)) (QF (Qam (by decide) _)) (QF (QaA (by decide))) (QF (Qam (by decide) _))
  (QF (Qam (by decide) _)) (Qab (QaA (by decide))) (Qab (Qam (by decide) _)) (Qab (QaA (by decide)))
  (Qab (Qam (by decide) _)) (QF (QaA (by decide))),⟨hz,hTI,⟨_,_,hTO⟩,a1,a2⟩,fun b hb=>?_,q⟩
 have hb':s1.heap.objs.size≤b:=by
  simp only[List.mem_cons,List.not_mem_nil,or_false]at hb
  rcases hb with rfl|rfl|rfl|rfl|rfl
  ·exact Qaq _ 4
  ·exact Qaq _ 2
  ·exact Qaq _ 3
  ·exact Qi _
  ·exact Qaq _ 1
 exact I1.fpOk hb' (I1.hok.fresh hb')
section
variable {X:Cx} (K:PySem.W.Frag)
theorem ixL(h:X.K=K:=by rfl):IxR X (Zsc K):=by subst h;exact Zo5
theorem ixT(h:X.K=K:=by rfl):IxR X (Zr6 K):=by subst h;exact Zq0
theorem slL(h:X.K=K:=by rfl):SlR X (Zru K):=by subst h;exact Zoh
def ZrS:List V→Hp→VK→Prop:=fun xs H Q=>∃p ys,xs=[.ref p]∧(SqL K H p ys∨SqT K H p ys)∧Q (.int ys.length) H
theorem ZbC(h:X.K=K:=by rfl):Z5 X (.builtin "len") (ZrS K):=by subst h;exact ZhL
theorem Ze7(h:X.K=K:=by rfl):Z5 X (.builtin "isinstance") (Zrz K):=by subst h;exact Zmw
theorem Zrk(h:X.K=K:=by rfl):Z5 X (.builtin "isinstance") (ZpH K):=by subst h;exact ZlM
def Zr1:List V→Hp→VK→Prop:=fun xs H Q=>∃ (p:Addr) (bs:List Bool),xs=[.ref p]∧SqL K H p (bs.map V.bl)∧Q (.bl (bs.all id)) H
theorem ZsN(hc:X.calm=true:=by rfl)(h:X.K=K:=by rfl):Z5 X (.builtin "all") (Zr1 K):=by subst h;exact ZnK hc
def Zsa:List V→Hp→VK→Prop:=fun xs H Q=>∃ (p:Addr) (ss:List Str),xs=[.ref p]∧SqL K H p (ss.map V.str)∧ss.length<64 ∧
  ∀ (l:Addr) (ss':List Str),H l=none→ss'.Perm ss→sortedS ss'=true→Q (.ref l) (upd H l (.lst (ss'.map V.str)))
theorem ZoQ(h:X.K=K:=by rfl):Z5 X (.builtin "sorted") (Zsa K):=by subst h;exact ZhG
def Zsd:V→List V→Hp→VK→Prop:=fun x vs H Q=>∃ (sep:Str) (p:Addr) (ys:List Str),x=.str sep∧vs=[.ref p]∧SqL K H p (ys.map V.str)∧(ys.map (·.length)).sum+ys.length*sep.length≤16777216∧Q (.str (Txt.join sep ys)) H
theorem ZrJ(h:X.K=K:=by rfl):MtR X "str.join" (Zsd K):=by subst h;exact Zpo
theorem iL{tg l:Expr}{tl:TE}(hl:PE X l tl)(h:X.K=K:=by rfl):PI X tg l (ZpE K tl):=by subst h;exact ZoC hl
theorem iT{tg l:Expr}{tl:TE}(hl:PE X l tl)(h:X.K=K:=by rfl):PI X tg l (ZrU K tl):=by subst h;exact Zql hl
theorem gT{es:List Expr}{k:Nat}{t:TGs}{n:Nat}{pos:Pos}(h:PGs X es t)(hK:X.K=K:=by rfl)(hc:X.calm=true:=by rfl)
  (hn:(assignEach es X.env).length=n:=by rfl) (hst:(assignEach es X.env).findIdx? (·.1)=none:=by rfl):PG X (.Tuple es k pos) (ZrE K n t):=by subst hK;exact ZqJ hc h hn hst
theorem iZ{a b:Expr}{ta:TA}{p pos:Pos}{elts:List Expr}{x1:Nat}{tpos:Pos}(hm:X.mg "zip" = none)(ha:PA X [a,b] ta)(hg:Gl X "zip":=by rfl)(hK:X.K=K:=by rfl)
  (hs:starEach [a,b] X.env=[(false,eval a X.env),(false,eval b X.env)]:=by rfl) (hs2:starEach [b] X.env=[(false,eval b X.env)]:=by rfl) :
  PI X (.Tuple elts x1 tpos) (.Call (.Name "zip" p) [a,b] [] pos) (ZrV K ta):=by subst hK;exact Zqp hg hm ha hs hs2
end
structure Df (P:Program) (w:World) (K:PySem.W.Frag) (mg:Str→Option Value) (base:Heap) (k:Nat) (x:Str) (ps:List Str) (sp:Sp):Prop where
 ex:∃f fd,Zd3 P w K mg base CX0 k f fd ps sp∧mg x=some (.ref f)∧PySem.W.keepIn K (.ref f)=true∧Zcs K fd ps []
section
variable {P:Program} {w:World} {K:PySem.W.Frag} {mg:Str→Option Value} {base:Heap}
structure Top (K:PySem.W.Frag) (mg:Str→Option Value) (x:Str) (st:Stmt) (ps:List Str):Prop where
 ex:∃f fd,Fun K x x st f fd∧mg x=some (.ref f)∧Zcs K fd ps []
theorem Top.df{x:Str}{st:Stmt}{N ps:List Str}{k:Nat}{sp:Sp}(T:Top K mg x st ps)(S:Zr N ps (Zh st))(len:∀vs H Q E,sp vs H Q E→vs.length=ps.length)
  (hbody:∀ (cdv:Value) (f:Addr) (A:Around) (outer:List Env) (s:Shared) (H:Hp) (vs:List V) (Q:VK) (E:XK),ZaN k (A.deeper (envOfC x (Zh st) s.heap.objs.size f cdv))→sp vs H Q E →
   ∃t,PSs (ZhE CX0 P w K mg base N x (Zh st) f cdv A outer s H E).nox (Zm st) t∧t { nx:=fun _ H'=>Q .non H',rt:=Q } (ZdP N vs) H):Df P w K mg base (k+1) x ps sp:=by
 obtain⟨f,fd,F,m,b⟩:=T.ex
 exact⟨f,fd,F.ok S len (fun cdv A outer s H vs Q E hr h=>hbody cdv f A outer s H vs Q E hr h),m,F.kp,b⟩
end
section
variable {X:Cx} {k j:Nat} {x:Str} {ps:List Str} {sp:Sp} {e:Expr} {es:List Expr} {t:TA} {p pos:Pos}
theorem ZD(F:Df X.prog X.w X.K X.mg X.base k x ps sp)(hr:ZaN j X.A)(ha:PA X (e::es) t)(hjk:k≤j:=by decide)(hg:Gl X x:=by rfl)(hdb:(x == ("__debug__" : Str))=false:=by decide)
  (he:starEach (e::es) X.env=(false,eval e X.env)::starEach es X.env:=by rfl) (hpl:(backTo pos (starEach es X.env)).any (·.1)=false:=by rfl) :
  PE X (.Call (.Name x p) (e::es) [] pos) (ZpR sp [] E0 t):=by
 obtain⟨f,fd,F,m,kp,b⟩:=F.ex
 exact Zpd F (hr.mono hjk) hg m kp b .nil Zkf ha hdb he hpl
theorem Zcm{T:String}(hm:X.mg x=none)(hv:bootBuiltins x=some (.type T))(hg:Gl X x:=by rfl)(hn:x ≠ "__name__":=by decide)(hd:(x == ("__debug__" : Str))=false:=by decide):PE X (.Name x pos) (tC (.ty T)) :=
 ZoH hg hm hv rfl hn hd
end
theorem Zcl{lo:Int}{n k:Nat}{D:Addr}{σ:St}{H1:Hp}{g:TG}{te:TE}{Q:VK}(Pv:Nat→List V→St→Hp→Prop)(h0:Pv 0 [] (σ++List.replicate k none) (upd H1 D (.lst [])))
  (hs:∀i ys σ H,i<n→Pv i ys σ H→g (.int (lo+i)) σ H fun σ4 H4=>te σ4 H4 fun y H6=>H6 D=some (.lst ys)∧ys.length<sizeLine∧Pv (i+1) (ys++[y]) σ4 (upd H6 D (.lst (ys++[y]))))
  (hd:∀ys σ H,Pv n ys σ H→Q (.ref D) H):Zfb (Itr lo n) D k σ H1 g Zgs te Q:=by
 refine⟨fun i m ys σ H=>m=n-i∧i≤n∧Pv i ys σ H,⟨n,by simp,Qv _,h0⟩,?_⟩
 rintro i m ys σ H ⟨rfl,hi,p⟩
 by_cases hlt:i<n
 ·refine .inr ⟨hlt,Pv (i+1),fun ys' σ' H' p'=>⟨n-(i+1),by lia,rfl,hlt,p'⟩,fun x H' y=>?_⟩
  obtain⟨e,y⟩:=y
  subst e y
  simp only[Zgs,↓reduceIte]
  exact hs i ys σ _ hlt p
 ·have e:i=n:=by lia
  subst e
  exact .inl ⟨Qi _,hd ys σ H p⟩
theorem Zi7{K:PySem.W.Frag}{S1 S2:Src}{xs ys:List V}{k:Nat}{D:Addr}{σ:St}{H1:Hp}{g:TG}{te:TE}{Q:VK}(Pv:Nat→List V→St→Hp→Prop)(h0:Pv 0 [] (σ++List.replicate k none) (upd H1 D (.lst [])))
  (hl:∀i zs σ H,Pv i zs σ H→S1.its K H xs∧S2.its K H ys)
  (hs:∀i zs σ H x y p,xs[i]? = some x→ys[i]? = some y→Pv i zs σ H→H p=none→g (.ref p) σ (upd H p (.tup [x,y])) fun σ4 H4=>te σ4 H4 fun z H6=>H6 D=some (.lst zs)∧zs.length<sizeLine∧Pv (i+1) (zs++[z]) σ4 (upd H6 D (.lst (zs++[z]))))
  (hd:∀zs σ H,Pv (min xs.length ys.length) zs σ H→Q (.ref D) H):Zfb (Itz K S1 S2) D k σ H1 g Zgs te Q:=by
 refine⟨fun i m zs σ H=>m=min xs.length ys.length-i∧i≤min xs.length ys.length∧Pv i zs σ H,⟨min xs.length ys.length,by simp,Qv _,h0⟩,?_⟩
 rintro i m zs σ H ⟨rfl,hi,p⟩
 obtain⟨q1,q2⟩:=hl i zs σ H p
 by_cases hlt:i<min xs.length ys.length
 ·have l1:i<xs.length:=by lia
  have l2:i<ys.length:=by lia
  refine .inr ⟨⟨xs,ys,q1,q2,l1,l2⟩,Pv (i+1),fun ys' σ' H' p'=>⟨min xs.length ys.length-(i+1),by lia,rfl,hlt,p'⟩,fun x H' y=>?_⟩
  obtain⟨r,hr,rfl,e⟩:=y
  have e':=e xs ys q1 q2 _ _ (Qb l1) (Qb l2)
  subst e'
  simp only[Zgs,↓reduceIte]
  exact hs i zs σ H _ _ r (Qb l1) (Qb l2) p hr
 ·have e:i=min xs.length ys.length:=by lia
  refine .inl ⟨⟨xs,ys,q1,q2,by lia⟩,hd zs σ H (e ▸ p)⟩
section
variable {X:Cx} {N N':List Str} {o c:Scope} {x:Str} {pos:Pos} {C:Addr} {s:Shared} {H:Hp} {fp:List Addr}
theorem Zeh(S:ZW N N' o c)(ho:X.env.scope=o)(hl:c.names.lookup x=some .local):(ZaW X c N' C s H fp).env.scope.names.lookup x=some .local:=by
 have e:=ZcN (X:=X) S ho (ZaZ X.env.cells c.names []) C x
 rw[hl]at e
 exact e
theorem ZbQ(S:ZW N N' o c)(ho:X.env.scope=o)(hl:c.names.lookup x=some .globalImplicit):Gl (ZaW X c N' C s H fp) x:=by
 have e:=ZcN (X:=X) S ho (ZaZ X.env.cells c.names []) C x
 rw[hl]at e
 exact e
theorem ZmZ(S:ZW N N' o c)(ho:X.env.scope=o)(hl:c.names.lookup x=some .free):Vis (ZaW X c N' C s H fp).env.scope x:=by
 have e:=ZcN (X:=X) S ho (ZaZ X.env.cells c.names []) C x
 rw[hl]at e
 have e':(ZaW X c N' C s H fp).env.scope.names.lookup x=if X.env.kindOf x=some .cell then some NameKind.cell else some NameKind.free:=e
 by_cases z:X.env.kindOf x=some .cell
 ·rw[if_pos z]at e';exact .inr (.inl e')
 ·rw[if_neg z]at e';exact .inr (.inr e')
theorem cv(i:Nat)(S:ZW N N' o c)(ho:X.env.scope=o)(hl:c.names.lookup x=some .free)(hN:N'[i]? = some x:=by rfl)(hd:(x == ("__debug__" : Str))=false:=by decide)(hcd:(x == ("__classdict__" : Str))=false:=by decide) :
  PE (ZaW X c N' C s H fp) (.Name x pos) (Zon i):=Zjx hN (ZmZ S ho hl) hd hcd
theorem cw(i:Nat)(S:ZW N N' o c)(ho:X.env.scope=o)(hl:c.names.lookup x=some .local)(hN:N'[i]? = some x:=by rfl)(hd:(x == ("__debug__" : Str))=false:=by decide)(hcd:(x == ("__classdict__" : Str))=false:=by decide) :
  PE (ZaW X c N' C s H fp) (.Name x pos) (Zon i):=Zjx hN (.inl (Zeh S ho hl)) hd hcd
theorem cg(i:Nat)(S:ZW N N' o c)(ho:X.env.scope=o)(hl:c.names.lookup x=some .local)(hi:N'[i]? = some x:=by rfl):PG (ZaW X c N' C s H fp) (.Name x pos) (Zkc i) :=
 ZB S.nd hi (.inl (Zeh S ho hl)) (.inr (Zeh S ho hl))
end
mutual
inductive DV (K:PySem.W.Frag) (H:Hp):V→PyData→Prop where
 | non:DV K H .non .none
 | bl (b:Bool):DV K H (.bl b) (.bool b)
 | int (i:Int):DV K H (.int i) (.int i)
 | str (s:Str):DV K H (.str s) (.str s)
 | lst {a:Addr} {xs:List V} {ds:List PyData}:SqL K H a xs→DVs K H xs ds→DV K H (.ref a) (.list ds)
 | tup {a:Addr} {xs:List V} {ds:List PyData}:SqT K H a xs→DVs K H xs ds→DV K H (.ref a) (.tuple ds)
inductive DVs (K:PySem.W.Frag) (H:Hp):List V→List PyData→Prop where
 | nil:DVs K H [] []
 | cons {x:V} {d:PyData} {xs:List V} {ds:List PyData}:DV K H x d→DVs K H xs ds→DVs K H (x::xs) (d::ds)
end
section
variable {X:Cx} {pins:List (Addr×Obj)} {σ:St} {H:Hp} {s:Shared}
mutual
theorem Inv.reads(I:Inv X pins σ H s):∀ {x:V} {d:PyData} {u:Value},DV X.K H x d→ZE x u→∃as,Reads s.heap u d as
 | _,_,_,.non,r=>by cases r;exact⟨_,.none⟩
 | _,_,_,.bl b,r=>by cases r;exact⟨_,.bool b⟩
 | _,_,_,.int i,r=>by obtain⟨t,rfl⟩:=r;exact⟨_,.int i t⟩
 | _,_,_,.str z,r=>by obtain⟨t,rfl⟩:=r;exact⟨_,.str z t⟩
 | _,_,_,.lst h hs,r=>by
  cases r
  obtain⟨its,rv,⟨o,n,e,hc,_,hd⟩,_⟩:=I.list h
  obtain⟨as,q⟩:=Inv.readsAll I hs rv
  exact⟨_,reads_list_at e hc hd (by simpa using q)⟩
 | _,_,_,.tup h hs,r=>by
  cases r
  obtain⟨its,rv,⟨o,e,hc,n,hd⟩,_⟩:=I.tuple h
  obtain⟨as,q⟩:=Inv.readsAll I hs rv
  exact⟨_,reads_tuple_at e hc hd (by simpa using q)⟩
theorem Inv.readsAll(I:Inv X pins σ H s):∀ {xs:List V} {ds:List PyData} {us:List Value},DVs X.K H xs ds→Zy xs us→∃as,ReadsAll s.heap us ds as
 | _,_,_,.nil,r=>by cases r;exact⟨_,.nil⟩
 | _,_,_,.cons h hs,r=>by
  cases r with
  | cons r1 r2 =>
   obtain⟨as,q1⟩:=Inv.reads I h r1
   obtain⟨bs,q2⟩:=Inv.readsAll I hs r2
   exact⟨_,.cons q1 q2⟩
end
def Zr4(K:PySem.W.Frag)(neg:Bool):R2:=fun x y H Q=>∃d e,DV K H x d∧DV K H y e∧SeqAt.shaped d=true∧SeqAt.shaped e=true∧Q (.bl (if neg then !PyData.eqv d e else PyData.eqv d e)) H
theorem Zqz(hu:X.A.units+64<cLine):OpR X (compareOp .NotEq) (Zr4 X.K true):=by
 intro pins s σ H x y v u Q I rx ry h
 obtain⟨d,e,h1,h2,s1,s2,q⟩:=h
 obtain⟨as,r1⟩:=I.reads h1 rx
 obtain⟨bs,r2⟩:=I.reads h2 ry
 exact ne_dataH r1 r2 s1 s2 hu ⟨.bl _,H,I,rfl,q⟩
end
theorem neD{X:Cx}(K:PySem.W.Frag){k:Nat}(hr:ZaN k X.A)(h:X.K=K:=by rfl):OpR X (compareOp .NotEq) (Zr4 K true):=by subst h;exact Zqz hr.units
mutual
theorem DV.mono{K:PySem.W.Frag}{H H':Hp}(s:ZA H H'):∀ {x:V} {d:PyData},DV K H x d→DV K H' x d
 | _,_,.non=>.non
 | _,_,.bl b=>.bl b
 | _,_,.int i=>.int i
 | _,_,.str z=>.str z
 | _,_,.lst h hs=>.lst (s.seq h) (DVs.mono s hs)
 | _,_,.tup h hs=>.tup (by
   rcases h with(h|⟨ob,h⟩)|h
   ·exact .inl (.inl (s _ _ h))
   ·exact .inl (.inr ⟨ob,s _ _ h⟩)
   ·exact .inr h) (DVs.mono s hs)
theorem DVs.mono{K:PySem.W.Frag}{H H':Hp}(s:ZA H H'):∀ {xs:List V} {ds:List PyData},DVs K H xs ds→DVs K H' xs ds
 | _,_,.nil=>.nil
 | _,_,.cons h hs=>.cons (DV.mono s h) (DVs.mono s hs)
end
def Ite(K:PySem.W.Frag)(a:Addr):It :=
 ⟨fun i H=>∃xs,SqL K H a xs∧i<xs.length,
  fun i H v H'=>∃p,H p=none∧v=.ref p∧∀xs,SqL K H a xs→∀x,xs[i]? = some x→H'=upd H p (.tup [.int i,x]),
  fun i H=>∃xs,SqL K H a xs∧xs.length≤i⟩
theorem Zlf{P:Program}{w:World}{K:PySem.W.Frag}{elts:List Expr}{x1:Nat}{tpos:Pos}{a e it:Addr}(hne:e≠it) :
  Zlh P w K (.Tuple elts x1 tpos) (Ite K a) [e,it] e (fun i h=>(∃old,IsEnum h e it i old)∧h.IsListIter it a i) where
 mem:=by simp
 obj:=fun i h st b hb=>by
  obtain⟨⟨old,he⟩,o,hit,hc,hd⟩:=st
  simp only[List.mem_cons,List.not_mem_nil,or_false]at hb
  rcases hb with rfl|rfl
  ·exact⟨_,he,fun v z=>by cases z⟩
  ·exact⟨o,hit,fun v z=>by rw[hd]at z;cases z⟩
 keep:=fun i h h' st k=>by
  obtain⟨⟨old,he⟩,hit⟩:=st
  exact⟨⟨old,k e (by simp) _ he⟩,hit.at fun o q=>k it (by simp) o q⟩
 item:=by
  intro X hP hw hK hc i pins s σ H E I hf st hg
  subst hP hw hK
  obtain⟨⟨old,he⟩,hit⟩:=st
  obtain⟨xs,q1,l1⟩:=hg
  obtain⟨its,rv,pl,_⟩:=I.list q1
  obtain⟨u,hu,ru⟩:=rv.get (Qb l1)
  refine wpAny_pyNext_enum_item he hit pl.isList (x:=u) (by simpa using hu) hne fun h' a1 a2 a3 a4 a5=>?_
  have lt:∀ {b:Addr} {o:Obj},s.heap.get? b=some o→s.heap.objs.size≠b:=fun q=>Qab (Qu q)
  have hes:s.heap.objs.size≠e:=lt he
  refine⟨_,rfl,wpAny_letOwnedTupleGo_enum a1 fun h'' he'' hs''=>?_⟩
  have hs':Heap.SameBut e h' h'':=hs''
  have hit'':h''.IsListIter it a (i+1):=a2.extBut hs'.extBut hne.symm
  have I2:Inv X pins σ (upd H s.heap.objs.size (.tup [.int i,xs[i]])) { s with heap:=h'',toks:=s.toks+1 }:=by
   refine I.zipped (fp:=[e,it]) (u:=.int i s.toks) (v:=u) hf ⟨_,rfl⟩ ru (hs'.extBut _ _ hes a3) (fun b hb=>?_) fun c o hc q=>?_
   ·simp only[List.mem_cons,List.not_mem_nil,or_false]at hb
    rcases hb with rfl|rfl
    ·exact⟨_,he''⟩
    ·obtain⟨o,q,_⟩:=hit'';exact⟨o,q⟩
   ·simp only[List.mem_cons,List.not_mem_nil,or_false,not_or]at hc
    exact hs'.extBut _ _ hc.1 (a5 c o hc.1 hc.2 q)
  refine⟨.ref s.heap.objs.size,_,I2,rfl,⟨s.heap.objs.size,I.fresh,rfl,fun xs' w1 x' e1=>?_⟩,⟨⟨_,he''⟩,hit''⟩,fun b hb=>?_⟩
  ·have e3:=I.list_inj w1 q1
   subst e3
   rw[Qb l1]at e1
   cases e1
   rfl
  ·rw[Ze (fun z=>by
    obtain⟨o,q⟩:∃o,s.heap.get? b=some o:=by
     simp only[List.mem_cons,List.not_mem_nil,or_false]at hb
     rcases hb with rfl|rfl
     ·exact⟨_,he⟩
     ·obtain⟨o,q,_⟩:=hit;exact⟨o,q⟩
    exact lt q z.symm)]
   exact(hf b hb).1
 done:=by
  intro X hP hw hK hc i pins s σ H E I hf st hg
  subst hP hw hK
  obtain⟨⟨old,he⟩,hit⟩:=st
  obtain⟨xs,q1,l1⟩:=hg
  obtain⟨its,rv,pl,_⟩:=I.list q1
  obtain⟨f0,f1,f2,f3,f4,f5⟩:=hf it (by simp)
  have hl:=rv.length
  exact wpAny_pyNext_enum_end (I.ok.hd hc) he hit pl.isList (by rw[Qat];exact QG (by lia)) fun h' eb=>⟨rfl,I.turned (t':=s.toks) (fun b o hb q=>eb b o hb q) f0 f1 f3 f4 f5⟩
 self:=fun _ _ _ _ _ st h=>by obtain⟨⟨old,he⟩,_⟩:=st;exact wpAny_pyIter_enum he h
def ZpI(K:PySem.W.Frag)(ta:TA):TI:=fun σ H R=>ta σ H fun vs H1=>∃a xs,vs=[V.ref a]∧SqL K H1 a xs∧R (Ite K a) H1
theorem Zom{X:Cx}{l:Expr}{ta:TA}{p pos:Pos}{elts:List Expr}{x1:Nat}{tpos:Pos}(hg:Gl X "enumerate")(hm:X.mg "enumerate" = none)(ha:PA X [l] ta)
  (hs:starEach [l] X.env=[(false,eval l X.env)]:=by rfl):PI X (.Tuple elts x1 tpos) (.Call (.Name "enumerate" p) [l] [] pos) (ZpI X.K ta):=by
 intro pins s σ H R I h
 refine Call_ (Zeb I hg hm boot_enumerate (Qad (thn (ha pos pins s σ H _ I h) ?_) hs rfl))
 rintro us s1 ⟨vs,H1,I1,r1,q1⟩
 obtain⟨a,xs,e,y1,q⟩:=q1
 subst e
 obtain⟨u,rfl,ru⟩:=r1.one
 cases ru
 obtain⟨its,rv,pl,_⟩:=I1.list y1
 refine call_enumerate_list pl.isList fun h' he hit hsz hk=>wpAny_pyIter_enum he ?_
 have I2:Inv X pins σ H1 { s1 with heap:=h' }:=I1.kept (t':=s1.toks) hk
 refine⟨_,_,_,_,H1,rfl,I2,Zlf (a:=a) (e:=s1.heap.objs.size+1) (it:=s1.heap.objs.size) (Qab (Nat.lt_succ_self _)),⟨⟨_,he⟩,hit⟩,fun b hb=>?_,q⟩
 have hb':s1.heap.objs.size≤b:=by
  simp only[List.mem_cons,List.not_mem_nil,or_false]at hb
  rcases hb with rfl|rfl
  ·exact Qaq _ 1
  ·exact Qi _
 exact I1.fpOk hb' (I1.hok.fresh hb')
theorem iE{X:Cx}(K:PySem.W.Frag){l:Expr}{ta:TA}{p pos:Pos}{elts:List Expr}{x1:Nat}{tpos:Pos}(hm:X.mg "enumerate" = none)(ha:PA X [l] ta)(hg:Gl X "enumerate":=by rfl)(hK:X.K=K:=by rfl)
  (hs:starEach [l] X.env=[(false,eval l X.env)]:=by rfl):PI X (.Tuple elts x1 tpos) (.Call (.Name "enumerate" p) [l] [] pos) (ZpI K ta):=by subst hK;exact Zom hg hm ha hs
theorem Zif{K:PySem.W.Frag}{a:Addr}{xs:List V}{g:TG}{tb:TS}{D:Zfl}{σ:St}{H:Hp}(Pv:Nat→St→Hp→Prop)(h0:Pv 0 σ H)(hl:∀i σ H,Pv i σ H→SqL K H a xs)
  (hs:∀i x σ H p,xs[i]? = some x→Pv i σ H→H p=none→g (.ref p) σ (upd H p (.tup [.int i,x])) fun σ2 H2=>tb { D with nx:=Pv (i+1),ct:=Pv (i+1),bk:=D.nx } σ2 H2) (hd:∀σ H,Pv xs.length σ H→D.nx σ H) :
  ∃W:Nat→Nat→St→Hp→Prop,(∃m,W 0 m σ H)∧∀i m σ H,W i m σ H →
   ((Ite K a).stop i H∧D.nx σ H)∨((Ite K a).go i H∧∃N:St→Hp→Prop,(∀σ' H',N σ' H'→∃m',m'<m∧W (i+1) m' σ' H')∧∀x H',(Ite K a).yld i H x H'→g x σ H' fun σ2 H2=>tb { D with nx:=N,ct:=N,bk:=D.nx } σ2 H2):=by
 refine⟨fun i m σ H=>m=xs.length-i∧i≤xs.length∧Pv i σ H,⟨xs.length,by simp,Qv _,h0⟩,?_⟩
 rintro i m σ H ⟨rfl,hi,p⟩
 have q1:=hl i σ H p
 by_cases hlt:i<xs.length
 ·refine .inr ⟨⟨xs,q1,hlt⟩,Pv (i+1),fun σ' H' p'=>⟨xs.length-(i+1),by lia,rfl,hlt,p'⟩,fun x H' y=>?_⟩
  obtain⟨r,hr,rfl,e⟩:=y
  have e':=e xs q1 _ (Qb hlt)
  subst e'
  exact hs i _ σ H r (Qb hlt) p hr
 ·have e:i=xs.length:=by lia
  exact .inl ⟨⟨xs,q1,by lia⟩,hd σ H (e ▸ p)⟩
def ZpC(K:PySem.W.Frag):List V→Hp→VK→Prop:=fun vs H Q=>∃ (p:Addr) (ns:List Int),vs=[.ref p]∧SqL K H p (ns.map V.int)∧0<ns.length∧∀M,M∈ns→(∀a∈ns,M≤a)→Q (.int M) H
theorem Zlw{X:Cx}(hc:X.calm=true):Z5 X (.builtin "min") (ZpC X.K):=by
 intro pins s σ H vs us Q I r h
 obtain⟨p,ns,rfl,hq,hne,q⟩:=h
 obtain⟨u,rfl,rx⟩:=ZbJ r
 cases rx
 obtain⟨its,rv,pl,_⟩:=I.list hq
 have hi:=Zec rv
 obtain⟨xs,e⟩:=hi.allInts.items
 have hns:ns=xs.toList.map (·.1):=by rw[← hi.numsOf,← nums_intItems,← e]
 have hsz:0<xs.size:=by
  have h3:=hne
  rw[hns,Qa,Qaa]at h3
  exact h3
 have hl:=pl.isList
 rw[e]at hl
 refine min_intList (I.ok.hd hc) hl hsz fun v h' tk hv hk=>?_
 obtain⟨t,rfl⟩:=intItems_at hv
 obtain⟨h1,h2⟩:=argBest_lt (numAt xs) (xs.size-1)
 refine⟨.int _,H,I.kept hk,⟨t,rfl⟩,q _ ?_ fun a ha=>?_⟩
 ·rw[hns,numAt_eq];exact getD_mem (by rw[Qa,Qaa];lia)
 ·rw[hns]at ha
  obtain⟨j,hj,rfl⟩:=mem_getD ha
  rw[Qa,Qaa]at hj
  rw[← numAt_eq];exact h2 j (by lia)
theorem Zp8{X:Cx}(K:PySem.W.Frag)(hc:X.calm=true:=by rfl)(h:X.K=K:=by rfl):Z5 X (.builtin "min") (ZpC K):=by subst h;exact Zlw hc
def Zrc(K:PySem.W.Frag):List V→Hp→VK→Prop:=fun xs H Q=>∃p ys,xs=[.ref p]∧(SqL K H p ys∨SqT K H p ys)∧∀l,H l=none→Q (.ref l) (upd H l (.lst ys))
theorem ZnH{X:Cx}(K:PySem.W.Frag)(h:X.K=K:=by rfl):Z5 X (.type "list") (Zrc K):=by subst h;exact ZhS
section
variable {prog:Program} {w:World} {A:Around} {E:Value→Shared→Prop} {s:Shared}
end
def Zhe(xs:List V)(lo hi:Option Int)(st:Int):List V :=
 (sliceRange (sliceBounds lo hi (some st) xs.length).1 (sliceBounds lo hi (some st) xs.length).2.1 (sliceBounds lo hi (some st) xs.length).2.2).filterMap fun i=>xs[i]?
theorem Zhb{xs:List V}{us:List Value}(r:Zy xs us):∀is:List Nat,Zy (is.filterMap fun i=>xs[i]?) (is.filterMap fun i=>us[i]?)
 | []=>.nil
 | i::is=>by
  have ih:=Zhb r is
  by_cases hi:i<xs.length
  ·have e1:xs[i]? = some xs[i]:=Qb hi
   obtain⟨u,hu,ru⟩:=r.get e1
   rw[Q9,Q9,e1,hu]
   exact .cons ru ih
  ·have e1:xs[i]? = none:=QG (by lia)
   have e2:us[i]? = none:=QG (by rw[← r.length];lia)
   rw[Q9,Q9,e1,e2]
   exact ih
def ZqK(X:Cx)(r:V→Option Int→Option Int→Int→Hp→VK→Prop):Prop :=
 ∀ (pins:List (Addr×Obj)) (s:Shared) (σ:St) (H:Hp) (x:V) (v vl vu vs:Value) (lo hi:Option Int) (st:Int) (sl:Addr) (Q:VK),Inv X pins σ H s→ZE x v→s.heap.IsSliceOf sl vl vu vs→IsPart vl lo→IsPart vu hi→IsPart vs (some st)→r x lo hi st H Q →
  ∃T id,typeLookup (.type T) "__getitem__" = pure (some (.builtin id))∧s.TypeIs v T∧wpAny (model X.prog X.w) X.A (getItem v (.ref sl)) (EP X pins σ Q) X.xe s
def ZsK(r:V→Option Int→Option Int→Int→Hp→VK→Prop)(te:TE)(tl th ts:TO):TE:=fun σ H Q=>te σ H fun x H1=>tl σ H1 fun l H2=>th σ H2 fun u H3=>ts σ H3 fun k H4=>∃i,k=some i∧r x l u i H4 Q
section
variable {X:Cx} {e st:Expr} {te:TE} {lo hi:Option Expr} {tl th ts:TO} {pos p2:Pos}
theorem Zlu{r:V→Option Int→Option Int→Int→Hp→VK→Prop}(hr:ZqK X r)(he:PE X e te)(hl:PO X lo tl)(hu:PO X hi th)(hst:PO X (some st) ts):PE X (.Subscript e (.Slice lo hi (some st) p2) pos) (ZsK r te tl th ts):=by
 intro pins s σ H Q I h
 refine Subscript_ (thn (he pins s σ H _ I h) ?_)
 rintro v s1 ⟨x,H1,I1,r1,q1⟩
 refine wpAny_Slice (thn (hl pins s1 σ H1 _ I1 q1) fun vl s2 ⟨l,H2,I2,pl,q2⟩=>thn (hu pins s2 σ H2 _ I2 q2) fun vu s3 ⟨u,H3,I3,pu,q3⟩=>thn (hst pins s3 σ H3 _ I3 q3) ?_)
 rintro vs s4 ⟨k,H4,I4,pk,q4⟩
 obtain⟨i,rfl,q4⟩:=q4
 have I5:Inv X pins σ H4 { s4 with heap:=s4.heap.push { cls:=.type "slice",data:=.fields #[vl,vu,vs] } }:=I4.kept (t':=s4.toks) fun b ob q=>Qd _ q
 obtain⟨T,id,hT,ht,hg⟩:=hr pins { s4 with heap:=s4.heap.push { cls:=.type "slice",data:=.fields #[vl,vu,vs] } } σ H4 x v vl vu vs l u i s4.heap.objs.size Q I5 r1 (Heap.IsSliceOf.new ..) pl pu pk q4
 show wpAny (model X.prog X.w) X.A (subscriptTail e (.Slice lo hi (some st) p2) v (.ref s4.heap.objs.size)) (EP X pins σ Q) X.xe { s4 with heap:=s4.heap.push { cls:=.type "slice",data:=.fields #[vl,vu,vs] } }
 exact tail_any (ops:=[v,.ref s4.heap.objs.size]) ht hT hg (by with_unfolding_all rfl)
def Zpz(K:PySem.W.Frag):V→Option Int→Option Int→Int→Hp→VK→Prop:=fun x lo hi st H Q=>∃a xs,x=.ref a∧SqL K H a xs∧st≠0∧∀p,H p=none→Q (.ref p) (upd H p (.lst (Zhe xs lo hi st)))
theorem Zl5:ZqK X (Zpz X.K):=by
 intro pins s σ H x v vl vu vs lo hi st sl Q I rx hs pl pu pk h
 obtain⟨a,xs,rfl,hx,hne,q⟩:=h
 cases rx
 obtain⟨its,r,ht,hz⟩:=I.list hx
 have hlen:=r.length
 refine⟨"list",_,slot_list_getitem.lookup,ht.isList.typeIs,?_⟩
 refine wpAny_getItem_list_slice ht.isList hs pl pu pk (by intro e;exact hne (Qq e)) ?_ (by rw[Qs]<;>lia)
 have hsz:=slicePick_size_le its.toArray lo hi (some st)
 have hv:Zy (Zhe xs lo hi st) (slicePick its.toArray lo hi (some st)).toList:=by
  unfold slicePick Zhe
  simp only[List.size_toArray,← hlen]
  have:=Zhb r (sliceRange (sliceBounds lo hi (some st) xs.length).1 (sliceBounds lo hi (some st) xs.length).2.1 (sliceBounds lo hi (some st) xs.length).2.2)
  simpa using this
 refine⟨.ref s.heap.objs.size,_,I.laid (t':=s.toks) (o:=.lst (Zhe xs lo hi st)) (fun b ob q=>Qd _ q) (Qi _) ?_,rfl,q _ (I.hok.fresh (Qi _))⟩
 refine⟨?_,(slicePick its.toArray lo hi (some st)).toList,0,hv,?_⟩
 ·have e1:its.toArray.size=xs.length:=by rw[Qs];exact hlen.symm
  rw[hv.length,Qaa]
  exact QP hsz (by rw[e1];exact hz)
 ·simpa using QA _ rfl
theorem Zsj(K:PySem.W.Frag)(h:X.K=K:=by rfl):ZqK X (Zpz K):=by subst h;exact Zl5
end
theorem Zfo(n:Nat):sliceRange ((n:Int)-1) (-1) (-1)=(List.range n).map fun i=>n-1-i:=by
 unfold sliceRange
 have hc:(if (-1:Int)>0 then (if (n:Int)-1 < -1 then (-1-((n:Int)-1) + -1-1) / -1 else 0) else (if (n:Int)-1 > -1 then ((n:Int)-1 - -1 - -1-1) / (- -1) else 0)).toNat=n:=by
  rw[if_neg (by decide)]
  by_cases h:(n:Int)-1 > -1
  ·rw[if_pos h,show (- -1:Int)=1 by decide,Int.ediv_one];lia
  ·rw[if_neg h];lia
 simp only[]
 rw[hc]
 apply QN
 intro k hk
 have:=Q1.mp hk
 lia
theorem ZgM{α:Type}(xs:List α):((List.range xs.length).map fun i=>xs.length-1-i).filterMap (fun i=>xs[i]?)=xs.reverse:=by
 rw[List.filterMap_map]
 have e:∀n,n≤xs.length→(List.range n).filterMap ((fun i=>xs[i]?) ∘ fun i=>xs.length-1-i)=xs.reverse.take n:=by
  intro n
  induction n with
  | zero=>intro _;rfl
  | succ n ih =>
   intro hn
   rw[Qav,List.filterMap_append,ih (by lia)]
   have h1:xs[xs.length-1-n]? = some xs[xs.length-1-n]:=Qb (by lia)
   rw[Q9]
   simp only[Function.comp,h1,List.filterMap_nil]
   rw[QM,List.getElem?_reverse (by lia),h1]
   rfl
 rw[e _ (Qi _)]
 exact QB (by simp)
theorem ZlF(xs:List V):Zhe xs none none (-1)=xs.reverse:=by
 have e:sliceRange (sliceBounds none none (some (-1)) xs.length).1 (sliceBounds none none (some (-1)) xs.length).2.1 (sliceBounds none none (some (-1)) xs.length).2.2=sliceRange ((xs.length:Int)-1) (-1) (-1):=rfl
 unfold Zhe
 rw[e,Zfo,ZgM]
section
variable {X:Cx}
theorem inQ(K:PySem.W.Frag)(h:X.K=K:=by rfl):OpR X (compareOp .In) (rIn K false):=by subst h;exact Zld
end
section
variable {X:Cx} {tg:Expr}
end
end L2
namespace L2
open PySem PySem.Spec PyProof.Rows
def Zah(kvs:List (List Key×V))(k:List Key):Option V:=(kvs.find? fun kv=>decide (kv.1=k)).map (·.2)
abbrev Zep(H:Hp):List (List Key×V)→List (List Key×Addr×Value)→Prop:=Paired fun (p:List Key×V) (q:List Key×Addr×Value)=>p.1=q.1∧H q.2.1=some (.tup (p.1.map kV))∧ZE p.2 q.2.2
theorem ZlS{H:Hp}{kvs:List (List Key×V)}{xs:List (List Key×Addr×Value)}(r:Zep H kvs xs){p:List Key×V}{q:List Key×Addr×Value}(h:p.1=q.1∧H q.2.1=some (.tup (p.1.map kV))∧ZE p.2 q.2.2):Zep H (kvs++[p]) (xs++[q]):=by
 induction r with
 | nil=>exact .cons h .nil
 | cons a t ih=>exact .cons a ih
theorem Zht{H H':Hp}{kvs:List (List Key×V)}{xs:List (List Key×Addr×Value)}(k:∀b ys,H b=some (.tup ys)→H' b=some (.tup ys))(r:Zep H kvs xs):Zep H' kvs xs:=by
 induction r with
 | nil=>exact .nil
 | cons a t ih=>exact .cons ⟨a.1,k _ _ a.2.1,a.2.2⟩ ih
theorem Zf2{H:Hp}{R:List Key→Addr→Prop}(k:∀ks b,H b=some (.tup (ks.map kV))→R ks b){kvs:List (List Key×V)}{xs:List (List Key×Addr×Value)}(r:Zep H kvs xs):∀x∈xs,R x.1 x.2.1:=by
 induction r with
 | nil=>intro x hx;cases hx
 | cons a t ih =>
  intro x hx
  rcases QO.mp hx with rfl|hx
  ·exact k _ _ (by rw[← a.1];exact a.2.1)
  ·exact ih x hx
theorem ZmX{H:Hp}{kvs:List (List Key×V)}{xs:List (List Key×Addr×Value)}(r:Zep H kvs xs):kvs.length=xs.length:=by
 induction r with
 | nil=>rfl
 | cons a t ih=>rw[QK,QK,ih]
theorem Zqw{P:Program}{w:World}{k:Key}{u:Value}(r:ZE (kV k) u):(ZL P w).is k u=true:=by
 rcases k with i|x
 ·obtain⟨t,e⟩:=(show ∃t,u=Value.int i t from r)
  rw[e]
  exact Zfg P w i t
 ·obtain⟨t,e⟩:=(show ∃t,u=Value.str x t from r)
  rw[e]
  exact Zff P w x t
theorem ZfU{P:Program}{w:World}:∀ (ks:List Key) (us:List Value),Zy (ks.map kV) us→ItemsAre (ZL P w) ks us:=by
 intro ks
 induction ks with
 | nil=>intro us r;cases (show Zy [] us from r);exact .nil
 | cons k ks ih =>
  intro us r
  cases (show Zy (kV k::ks.map kV) us from r) with
  | cons a b=>exact .cons (Zqw a) (ih _ b)
section
variable {X:Cx} {pins:List (Addr×Obj)} {σ:St} {H:Hp} {s:Shared}
theorem Inv.tkey{ks:List Key}{b:Addr}(I:Inv X pins σ H s)(e:H b=some (.tup (ks.map kV))):(tupleKind (ZL X.prog X.w)).is s.heap ks b:=by
 obtain⟨_,its,r,hb⟩:=I.hok b _ e
 obtain⟨o,h1,h2,n,h3⟩:=hb
 refine⟨o,its.toArray,n,h1,h2,h3,?_⟩
 have:=ZfU (P:=X.prog) (w:=X.w) ks its r
 simpa using this
def Zrv:TE:=fun _ H Q=>∀p,H p=none→Q (.ref p) (upd H p (.dT []))
theorem Zfx{pos:Pos}:PE X (.Dict [] [] pos) Zrv:=by
 intro pins s σ H Q I h
 have hb:sysModules<s.heap.objs.size:=Nat.lt_trans (by decide) (show mainGlobals<s.heap.objs.size from(I.mod.glob.keeps I.bk).lt)
 refine wpAny_Dict_empty ⟨.ref s.heap.objs.size,upd H s.heap.objs.size (.dT []),?_,rfl,h _ (I.hok.fresh (Qi _))⟩
 refine I.laid (t':=s.toks) (fun _ _ q=>Qd _ q) (Qi _) ?_
 refine⟨Qv _,?_,[],.nil,_,#[],0,QA _ rfl,⟨rfl,rfl,rfl⟩,rfl,rfl,List.nodup_nil⟩
 exact beq_eq_false_iff_ne.mpr fun z=>Qae _ (z ▸ hb)
end
def Zr3:List V→Hp→VK→Prop:=fun xs H Q=>∃j:Int,xs=[.int j]∧∀p,H p=none→Q (.ref p) (upd H p (.rng 0 j))
theorem ZsH{X:Cx}:Z5 X (.type "range") Zr3:=by
 intro pins s σ H xs us Q I r h
 obtain⟨j,rfl,q⟩:=h
 obtain⟨u,rfl,t,rfl⟩:=ZbJ r
 refine call_range_1 ⟨.ref s.heap.objs.size,_,I.laid (a:=s.heap.objs.size) (o:=.rng 0 j) (fun b o e=>Qd _ e) (Qi _) ?_,rfl,q _ (I.hok.fresh (Qi _))⟩
 exact⟨_,_,_,QA _ rfl⟩
def Zaj(lo:Int)(n:Nat):List Int:=(List.range n).map fun (k:Nat)=>lo+k
theorem ZaQ(lo:Int)(n:Nat):(Zaj lo n).length=n:=by simp[Zaj]
theorem ZjI{lo:Int}:∀ (n:Nat) (us:List Value),us.length=n→(∀ (j:Nat) (v:Value),us[j]? = some v→∃t,v=Value.int (lo+j*1) t)→Zy ((Zaj lo n).map V.int) us:=by
 intro n us hl h
 subst hl
 induction us generalizing lo with
 | nil=>exact .nil
 | cons u r ih =>
  have e:Zaj lo (u::r).length=lo::Zaj (lo+1) r.length:=by
   unfold Zaj
   rw[QK,List.range_succ_eq_map,Ql,QE]
   refine congr (congrArg _ (by simp)) (QN fun a _=>?_)
   simp only[Function.comp]
   lia
  rw[e,Ql]
  refine .cons ?_ (ih fun j v hv=>?_)
  ·obtain⟨t,e⟩:=h 0 u rfl
   exact⟨t,by rw[e];simp⟩
  ·obtain⟨t,e⟩:=h (j+1) v (by simpa using hv)
   exact⟨t,by rw[e];congr 1;lia⟩
def Zqh:List V→Hp→VK→Prop:=fun xs H Q=>∃ (p:Addr) (lo hi:Int),xs=[.ref p]∧H p=some (.rng lo hi) ∧ -(2 ^ 62)≤lo∧lo<2 ^ 62 ∧ -(2 ^ 62)≤hi∧hi<2 ^ 62∧(hi-lo).toNat≤1000 ∧
 ∀l,H l=none→Q (.ref l) (upd H l (.lst ((Zaj lo (hi-lo).toNat).map V.int)))
theorem Zr9{X:Cx}(hc:X.calm=true:=by rfl):Z5 X (.type "list") Zqh:=by
 intro pins s σ H xs us Q I r h
 obtain⟨p,lo,hi,rfl,hp,h1,h2,h3,h4,h5,q⟩:=h
 obtain⟨u,rfl,rx⟩:=ZbJ r
 cases rx
 obtain⟨t,u,v,e⟩:=I.hok _ _ hp
 have sz:Builtin.Range.rangeSize lo hi 1=(((hi-lo).toNat:Nat):Int):=by rw[rangeSize_one];split<;>lia
 refine call_list_range (I.ok.hd hc) e (small_one h1 h2 h3 h4) sz (by lia) fun h' tk acc' c' kp e' it=>?_
 refine⟨.ref s.heap.objs.size,_,I.laid (t':=tk) kp (Qi _) (show Zad X.prog X.w _ h' _ (.lst ((Zaj lo (hi-lo).toNat).map V.int)) from⟨?_,acc'.toList,c',ZjI _ _ (by simpa using it.1) (fun j v hv=>it.2 j v (by simpa using hv)),by simpa using e'⟩),rfl,q _ (I.hok.fresh (Qi _))⟩
 rw[Qa,ZaQ]
 exact QaD (Zx h5)
section
variable {prog:Program} {w:World} {A:Around} {E:Value→Shared→Prop} {s:Shared}
end
section
variable {X:Cx}
theorem Zbk{prog:Program}{w:World}{A:Around}{E:Value→Shared→Prop}{s:Shared}{a:Addr}{o:Obj}{xs:Array Value}{n:Nat}{Q:Array Value→Shared→Prop}(ho:s.heap.get? a=some o)(hd:o.data=.seq xs n)(h:Q xs s):wpAny (model prog w) A (Builtin.List.listItems (.ref a)) Q E s:=by
 unfold Builtin.List.listItems
 exact wpAny_bind (wpAny_seqItems ho hd (wpAny_pure h))
theorem Zdw(ns:List Int):∀n,n≤ns.length→preSum (fun j=>ns.getD j 0) n=(ns.take n).sum
 | 0,_=>rfl
 | n+1,h=>by
  have ih:=Zdw ns n (by lia)
  have e:ns.take (n+1)=ns.take n++[ns.getD n 0]:=by
   rw[QM,Qb (by lia),Qm,Qb (by lia)]
   rfl
  rw[e,Qak,← ih]
  simp[preSum]
end
section
variable {prog:Program} {w:World} {A:Around} {E:Value→Shared→Prop} {s:Shared} {κ:PyProof.Rows.KeyKind} {k0:SortKind} {a₀:Array Keyed} {st:SortSt}
def ZgD(prog:Program)(w:World)(A:Around)(s:Shared)(k0:SortKind)(κ:PyProof.Rows.KeyKind):Prop :=
 ∀ (E:Value→Shared→Prop) (x y:Value) (a b:κ.α) (Q:Bool→Shared→Prop),κ.keyOf x=some a→κ.keyOf y=some b→Q (κ.blt a b) s→wpAny (model prog w) A (keyLt' k0 x y) Q E s
structure SB (k0:SortKind) (a₀:Array Keyed) (st:SortSt):Prop where
 perm:(arrOf st).Perm a₀
 kind:kindOf st=k0
 failed:failedOf st=none
 pend:pendingOf st = #[]
theorem SB.size(B:SB k0 a₀ st):(arrOf st).size=a₀.size:=B.perm.size_eq
theorem SB.at(B:SB k0 a₀ st)(hk:PyProof.Rows.KeysOf κ a₀){i:Nat}(hi:i<a₀.size):∃x p,(arrOf st)[i]? = some (x,p)∧κ.keyOf x=some (KK κ (arrOf st) i):=by
 have hs:=B.size
 have e:(arrOf st)[i]? = some (arrOf st)[i]:=Array.getElem?_eq_getElem (by lia)
 have hm:(arrOf st)[i]∈a₀.toList:=by
  have h1:(arrOf st)[i]∈arrOf st:=Array.getElem_mem (by lia)
  have h2:=(B.perm.mem_iff (a:=(arrOf st)[i])).mp h1
  simpa using h2
 obtain⟨a,ha⟩:=hk _ hm
 refine⟨(arrOf st)[i].1,(arrOf st)[i].2,e,?_⟩
 unfold KK
 rw[e]
 show _=some ((κ.keyOf (arrOf st)[i].1).getD κ.dflt)
 rw[ha]
 rfl
theorem SB.set(B:SB k0 a₀ st){xs:Array Keyed}(h:xs.Perm (arrOf st)):SB k0 a₀ (setArr st xs):=⟨h.trans B.perm,B.kind,B.failed,B.pend⟩
theorem w_elem{arr:Array Keyed}{i:Nat}{p:Keyed}{Q:Keyed→SortSt→Prop}(h:arr[i]? = some p)(q:Q p st):wpS (model prog w) A E s (elem' arr i) Q st:=by
 rw[elem'_eq,h]
 exact wpS_pure q
theorem w_lt(hL:ZgD prog w A s k0 κ)(hk:PyProof.Rows.KeysOf κ a₀)(B:SB k0 a₀ st){i j:Nat}(hi:i<a₀.size)(hj:j<a₀.size){Q:Option Bool→SortSt→Prop}(q:Q (some (κ.blt (KK κ (arrOf st) i) (KK κ (arrOf st) j))) st):wpS (model prog w) A E s (ltAt' i j) Q st:=by
 obtain⟨x,p,e1,k1⟩:=B.at hk hi
 obtain⟨y,p',e2,k2⟩:=B.at hk hj
 rw[ltAt'_eq]
 refine wpS_bind (wpS_get ?_)
 show wpS _ _ _ _ (elem' (arrOf st) i >>= _) _ _
 refine wpS_bind (w_elem e1 (wpS_bind (w_elem e2 ?_)))
 rw[lt'_eq]
 refine wpS_bind (wpS_get (wpS_bind (wpS_lift (wpAny_attempt ?_))))
 rw[B.kind]
 refine hL _ x y _ _ _ k1 k2 ⟨rfl,?_⟩
 exact wpS_pure q
theorem Zn1{xs:Array Keyed}{i:Nat}(h0:1≤i)(S:SortedToK κ xs i)(h:κ.kle (KK κ xs (i-1)) (KK κ xs i)):SortedToK κ xs (i+1):=by
 intro a b hab hb
 by_cases e:b<i
 ·exact S a b hab e
 ·have eb:b=i:=by lia
  subst eb
  by_cases ea:a=b
  ·subst ea;exact KeyOrd.kle_refl _
  ·exact KeyOrd.kle_trans (S a (b-1) (by lia) (by lia)) h
theorem w_asc(hL:ZgD prog w A s k0 κ)(hk:PyProof.Rows.KeysOf κ a₀){a nrem:Nat}(hn:nrem≤a₀.size)(h1:1≤a)(ha:a≤nrem)(B:SB k0 a₀ st)(S:SortedToK κ (arrOf st) a){Q:AscSt→SortSt→Prop}
  (q:∀n,a≤n→n≤nrem→SortedToK κ (arrOf st) n→(n=nrem∨κ.klt (KK κ (arrOf st) n) (KK κ (arrOf st) (n-1)))→Q (none,n) st):wpS (model prog w) A E s (ascLoop a nrem) Q st:=by
 unfold ascLoop
 refine wpS_forRange (fun i c st'=>st'=st∧c=(none,i)∧SortedToK κ (arrOf st) i) ?_ ?_ ⟨rfl,rfl,S⟩
 ·rintro i c st' hai hin ⟨rfl,rfl,S'⟩
  refine wpS_bind (w_lt hL hk B (by show i<_;lia) (by show i-1<_;lia) ?_)
  cases hb:κ.blt (KK κ (arrOf st') i) (KK κ (arrOf st') (i-1)) with
  | true=>exact wpS_pure (q i hai (by lia) S' (.inr hb))
  | false=>exact wpS_pure ⟨rfl,rfl,Zn1 (by lia) S' hb⟩
 ·rintro c st' ⟨rfl,rfl,S'⟩
  rw[show max a nrem=nrem by lia]at S' ⊢
  exact q nrem ha (Qi _) S' (.inl rfl)
theorem w_rev{i j:Nat}{Q:Unit→SortSt→Prop}(q:Q () (setArr st (mirror (arrOf st) i j ((j-i) / 2)))):wpS (model prog w) A E s (reverseSlice' i j) Q st:=wpS_reverse q
theorem w_desc(hL:ZgD prog w A s k0 κ)(hk:PyProof.Rows.KeysOf κ a₀){n nrem:Nat}(hn:nrem≤a₀.size)(h1:1≤n)(hnn:n≤nrem)(B:SB k0 a₀ st)(S:NonIncK κ (arrOf st) n){Q:DescSt→SortSt→Prop}
  (q:∀ (m neq:Nat) (st':SortSt),SB k0 a₀ st'→n≤m→m≤nrem→NonIncK κ (arrOf st') m→neq+1≤m→(∀i,m-(neq+1)≤i→i<m→KK κ (arrOf st') i=KK κ (arrOf st') (m-1))→Q (none,m,neq) st'):wpS (model prog w) A E s (descLoop n nrem) Q st:=by
 unfold descLoop
 refine wpS_forRange (fun i c st'=>∃neq,c=(none,i,neq)∧SB k0 a₀ st'∧n≤i∧i≤nrem∧NonIncK κ (arrOf st') i∧neq+1≤i∧(∀k,i-(neq+1)≤k→k<i→KK κ (arrOf st') k=KK κ (arrOf st') (i-1))) ?_ ?_ ?_
 ·rintro i c st' hai hin ⟨neq,rfl,B',hi1,hi2,N',hq,heq⟩
  have more:∀ (st2:SortSt),SB k0 a₀ st2→(∀k,KK κ (arrOf st2) k=KK κ (arrOf st') k)→κ.kle (KK κ (arrOf st') i) (KK κ (arrOf st') (i-1))→NonIncK κ (arrOf st2) (i+1):=fun st2 B2 e hle a b hab hb=>by
   rw[e a,e b]
   by_cases hbi:b<i
   ·exact N' a b hab hbi
   ·have eb:b=i:=by lia
    subst eb
    by_cases ea:a=b
    ·subst ea;exact KeyOrd.kle_refl _
    ·exact KeyOrd.kle_trans hle (N' a (b-1) (by lia) (by lia))
  refine wpS_bind (w_lt hL hk B' (by show i<_;lia) (by show i-1<_;lia) ?_)
  cases hb:κ.blt (KK κ (arrOf st') i) (KK κ (arrOf st') (i-1)) with
  | true =>
   have hle:κ.kle (KK κ (arrOf st') i) (KK κ (arrOf st') (i-1)):=KeyOrd.kle_of_klt hb
   show wpS _ _ _ _ (if neq>0 then _ else _) _ _
   by_cases h0:neq>0
   ·rw[if_pos h0]
    refine wpS_bind (w_rev (wpS_pure ?_))
    have e:∀k,KK κ (mirror (arrOf st') (i-(neq+1)) i ((i-(i-(neq+1))) / 2)) k=KK κ (arrOf st') k:=KK_mirror_equal (by rw[B'.size];lia) (fun k h1 h2=>heq k h1 h2)
    refine⟨0,rfl,B'.set (mirror_perm _ _ _ _),by lia,by lia,more _ (B'.set (mirror_perm _ _ _ _)) e hle,by lia,fun k h1 h2=>?_⟩
    have:k=i:=by lia
    subst this
    rfl
   ·rw[if_neg h0]
    refine wpS_pure ⟨0,rfl,B',by lia,by lia,more _ B' (fun _=>rfl) hle,by lia,fun k h1 h2=>?_⟩
    have:k=i:=by lia
    subst this
    rfl
  | false =>
   refine wpS_bind (w_lt hL hk B' (by show i-1<_;lia) (by show i<_;lia) ?_)
   cases hb2:κ.blt (KK κ (arrOf st') (i-1)) (KK κ (arrOf st') i) with
   | true=>exact wpS_pure (q i neq st' B' hi1 hi2 N' hq heq)
   | false =>
    have ee:=κ.total _ _ hb hb2
    refine wpS_pure ⟨neq+1,rfl,B',by lia,by lia,more _ B' (fun _=>rfl) hb2,by lia,fun k h1 h2=>?_⟩
    show KK κ (arrOf st') k=KK κ (arrOf st') i
    by_cases hki:k=i
    ·rw[hki]
    ·rw[ee];exact heq k (by lia) (by lia)
 ·rintro c st' ⟨neq,rfl,B',hi1,hi2,N',hq,heq⟩
  rw[show max n nrem=nrem by lia]at *
  exact q nrem neq st' B' hi1 hi2 N' hq heq
 ·refine⟨0,rfl,B,Qi _,hnn,S,by lia,fun k h1 h2=>?_⟩
  have:k=n-1:=by lia
  rw[this]
theorem w_tail(hL:ZgD prog w A s k0 κ)(hk:PyProof.Rows.KeysOf κ a₀){n nrem:Nat}(hn:nrem≤a₀.size)(h1:1≤n)(hnn:n≤nrem)(B:SB k0 a₀ st)(N:NonIncK κ (arrOf st) n){Q:Option Nat→SortSt→Prop}
  (q:∀ (m:Nat) (st':SortSt),SB k0 a₀ st'→1≤m→m≤nrem→SortedToK κ (arrOf st') m→Q (some m) st'):wpS (model prog w) A E s (tail3 n nrem) Q st:=by
 unfold tail3
 refine wpS_bind (w_rev ?_)
 have B':=B.set (mirror_perm (arrOf st) 0 n ((n-0) / 2))
 have e:=KK_mirror (κ:=κ) (xs:=arrOf st) (i:=0) (j:=n) (by rw[B.size];lia)
 have S:SortedToK κ (mirror (arrOf st) 0 n ((n-0) / 2)) n:=fun a b hab hb=>by
  rw[e a,e b,if_pos ⟨by lia,by lia⟩,if_pos ⟨by lia,by lia⟩]
  exact N _ _ (by lia) (by lia)
 refine wpS_bind (w_asc hL hk hn h1 hnn B' S fun m hm1 hm2 S' _=>?_)
 exact wpS_pure (q m _ B' (by lia) hm2 S')
theorem w_part(hL:ZgD prog w A s k0 κ)(hk:PyProof.Rows.KeysOf κ a₀){n nrem:Nat}(hn:nrem≤a₀.size)(hnn:n+1≤nrem)(B:SB k0 a₀ st)(N:NonIncK κ (arrOf st) (n+1)){Q:Option Nat→SortSt→Prop}
  (q:∀ (m:Nat) (st':SortSt),SB k0 a₀ st'→1≤m→m≤nrem→SortedToK κ (arrOf st') m→Q (some m) st'):wpS (model prog w) A E s (descPart n nrem) Q st:=by
 unfold descPart
 refine wpS_bind (wpS_lift (wpAny_rule ⟨rfl,?_⟩))
 refine wpS_bind (w_desc hL hk hn (by lia) hnn B N fun m neq st' B' m1 m2 N' hq heq=>?_)
 show wpS _ _ _ _ (if neq>0 then _ else _) _ _
 by_cases h0:neq>0
 ·rw[if_pos h0]
  refine wpS_bind (w_rev ?_)
  have e:∀k,KK κ (mirror (arrOf st') (m-(neq+1)) m ((m-(m-(neq+1))) / 2)) k=KK κ (arrOf st') k:=KK_mirror_equal (by rw[B'.size];lia) (fun k h1 h2=>heq k h1 h2)
  exact w_tail hL hk hn (by lia) m2 (B'.set (mirror_perm _ _ _ _)) (fun a b hab hb=>by rw[e a,e b];exact N' a b hab hb) q
 ·rw[if_neg h0]
  exact w_tail hL hk hn (by lia) m2 B' N' q
theorem w_count(hL:ZgD prog w A s k0 κ)(hk:PyProof.Rows.KeysOf κ a₀){nrem:Nat}(hn:nrem≤a₀.size)(h1:1≤nrem)(B:SB k0 a₀ st){Q:Option Nat→SortSt→Prop}
  (q:∀ (m:Nat) (st':SortSt),SB k0 a₀ st'→1≤m→m≤nrem→SortedToK κ (arrOf st') m→Q (some m) st'):wpS (model prog w) A E s (countRun' 0 nrem) Q st:=by
 rw[countRun0_eq]
 refine wpS_bind (w_asc hL hk hn (Qi 1) h1 B (fun a b hab hb=>by obtain rfl:a=b:=(by lia);exact KeyOrd.kle_refl _) fun n n1 n2 S hor=>?_)
 show wpS _ _ _ _ (if (n == nrem)=true then _ else _) _ _
 by_cases hnn:n=nrem
 ·rw[if_pos (by rw[hnn];exact beq_self_eq_true _)]
  exact wpS_pure (q n st B n1 n2 S)
 ·rw[if_neg (by intro z;exact hnn (eq_of_beq z))]
  have hlt:=hor.resolve_left hnn
  have flat:(∀k,k<n→KK κ (arrOf st) k=KK κ (arrOf st) (n-1))→NonIncK κ (arrOf st) (n+1):=fun hf a b hab hb=>by
   by_cases hbn:b<n
   ·rw[hf a (by lia),hf b hbn];exact KeyOrd.kle_refl _
   ·have eb:b=n:=by lia
    subst eb
    by_cases ea:a=b
    ·subst ea;exact KeyOrd.kle_refl _
    ·rw[hf a (by lia)];exact KeyOrd.kle_of_klt hlt
  by_cases hn1:n>1
  ·rw[if_pos hn1]
   refine wpS_bind (w_lt hL hk B (by lia) (by lia) ?_)
   cases hb:κ.blt (KK κ (arrOf st) 0) (KK κ (arrOf st) (n-1)) with
   | true=>exact wpS_pure (q n st B n1 n2 S)
   | false =>
    have hf:∀k,k<n→KK κ (arrOf st) k=KK κ (arrOf st) (n-1):=fun k hkn=>by
     have a1:κ.kle (KK κ (arrOf st) k) (KK κ (arrOf st) (n-1)):=S k (n-1) (by lia) (by lia)
     have a2:κ.kle (KK κ (arrOf st) (n-1)) (KK κ (arrOf st) k):=KeyOrd.kle_trans (show κ.kle (KK κ (arrOf st) (n-1)) (KK κ (arrOf st) 0) from hb) (S 0 k (by lia) (by lia))
     exact KeyOrd.kle_antisymm a1 a2
    refine wpS_bind (w_rev ?_)
    have e:∀k,KK κ (mirror (arrOf st) 0 n ((n-0) / 2)) k=KK κ (arrOf st) k:=KK_mirror_equal (by rw[B.size];lia) (fun k _ h2=>hf k h2)
    exact w_part hL hk hn (by lia) (B.set (mirror_perm _ _ _ _)) (fun a b hab hb=>by rw[e a,e b];exact flat hf a b hab hb) q
  ·rw[if_neg hn1]
   exact w_part hL hk hn (by lia) B (flat fun k hkn=>by rw[show k=n-1 by lia]) q
theorem Zkn{xs:Array Keyed}{k l:Nat}(hk:k<xs.size)(hl:l≤k)(S':SortedToK κ xs k)(hlo:∀j,j<l→κ.kle (KK κ xs j) (KK κ xs k))(hhi:∀j,l≤j→j<k→κ.klt (KK κ xs k) (KK κ xs j)) :
  SortedToK κ (bubble xs (0+k) (0+k-(0+l))) (k+1):=by
 have eb:=KK_bubble (κ:=κ) (xs:=xs) (src:=0+k) (d:=0+k-(0+l)) (by lia) (by lia)
 intro a b hab hb
 rw[eb a,eb b]
 rw[show 0+k=k by lia,show 0+l=l by lia,show k-(k-l)=l by lia]
 by_cases ha:a=l
 ·rw[if_pos ha]
  by_cases hbl:b=l
  ·rw[if_pos hbl];exact KeyOrd.kle_refl _
  ·rw[if_neg hbl,if_pos ⟨by lia,by lia⟩]
   exact KeyOrd.kle_of_klt (hhi (b-1) (by lia) (by lia))
 ·rw[if_neg ha]
  by_cases hal:a<l
  ·rw[if_neg (by lia)]
   by_cases hbl:b=l
   ·rw[if_pos hbl];exact hlo a hal
   ·rw[if_neg hbl]
    by_cases hbb:l<b
    ·rw[if_pos ⟨hbb,by lia⟩];exact S' a (b-1) (by lia) (by lia)
    ·rw[if_neg (by lia)];exact S' a b hab (by lia)
  ·rw[if_pos ⟨by lia,by lia⟩,if_neg (by lia),if_pos ⟨by lia,by lia⟩]
   exact S' (a-1) (b-1) (by lia) (by lia)
theorem w_binary(hL:ZgD prog w A s k0 κ)(hk:PyProof.Rows.KeysOf κ a₀){n ok:Nat}(hn:n≤a₀.size)(h1:ok≤n)(h0:1≤ok)(B:SB k0 a₀ st)(S:SortedToK κ (arrOf st) ok){Q:Bool→SortSt→Prop}
  (q:∀ (st':SortSt),SB k0 a₀ st'→SortedToK κ (arrOf st') n→Q true st'):wpS (model prog w) A E s (binarySort' 0 n ok) Q st:=by
 rw[binarySort'_eq]
 refine wpS_bind ?_
 refine wpS_forRange (fun i c st'=>c=(none,())∧SB k0 a₀ st'∧SortedToK κ (arrOf st') i) ?_ ?_ ⟨rfl,B,by rw[show max ok 1=ok by lia];exact S⟩
 ·rintro k c st' hak hkn ⟨rfl,B',S'⟩
  have k1:1≤k:=by lia
  refine wpS_bind ?_
  refine wpS_forRange (fun i c st2=>∃l r,c=(none,l,r)∧st2=st'∧l≤r∧r≤k∧r-l≤k-i∧(∀j,j<l→κ.kle (KK κ (arrOf st') j) (KK κ (arrOf st') k))∧(∀j,r≤j→j<k→κ.klt (KK κ (arrOf st') k) (KK κ (arrOf st') j))) ?_ ?_ ⟨0,k,rfl,rfl,Qv _,Qi _,by lia,fun j h=>by lia,fun j h1 h2=>by lia⟩
  ·rintro i c st2 hi0 hik ⟨l,r,rfl,rfl,hlr,hrk,hm,hlo,hhi⟩
   show wpS _ _ _ _ (if l≥r then _ else _) _ _
   by_cases hge:l≥r
   ·rw[if_pos hge]
    refine wpS_pure ?_
    have elr:l=r:=by lia
    subst elr
    refine wpS_bind ?_
    rw[moveDown'_eq]
    refine wpS_modify (wpS_pure ?_)
    exact⟨rfl,B'.set (bubble_perm _ _ _),Zkn (by rw[B'.size];lia) hrk S' hlo hhi⟩
   ·rw[if_neg hge]
    refine wpS_bind (w_lt hL hk B' (by show 0+k<_;lia) (by show 0+(l+r) / 2<_;lia) ?_)
    rw[show 0+k=k by lia,show 0+(l+r) / 2=(l+r) / 2 by lia]
    cases hb:κ.blt (KK κ (arrOf st2) k) (KK κ (arrOf st2) ((l+r) / 2)) with
    | true =>
     refine wpS_pure ⟨l,(l+r) / 2,rfl,rfl,by lia,by lia,by lia,hlo,fun j h1 h2=>?_⟩
     exact KeyOrd.klt_of_klt_of_kle hb (S' _ j h1 h2)
    | false =>
     refine wpS_pure ⟨(l+r) / 2+1,r,rfl,rfl,by lia,by lia,by lia,fun j h=>?_,hhi⟩
     exact KeyOrd.kle_trans (S' j ((l+r) / 2) (by lia) (by lia)) hb
  ·rintro c st2 ⟨l,r,rfl,rfl,hlr,hrk,hm,hlo,hhi⟩
   have elr:l=r:=by lia
   subst elr
   refine wpS_bind ?_
   rw[moveDown'_eq]
   refine wpS_modify (wpS_pure ?_)
   exact⟨rfl,B'.set (bubble_perm _ _ _),Zkn (by rw[B'.size];lia) hrk S' hlo hhi⟩
 ·rintro c st' ⟨rfl,B',S'⟩
  rw[show max (max ok 1) n=n by lia]at S'
  exact wpS_pure (q st' B' S')
theorem w_runs(hL:ZgD prog w A s k0 κ)(hk:PyProof.Rows.KeysOf κ a₀)(B:SB k0 a₀ st)(h2:2≤a₀.size)(h64:a₀.size<64){Q:Unit→SortSt→Prop}
  (q:∀ (st':SortSt),(arrOf st').Perm a₀→failedOf st'=none→SortedToK κ (arrOf st') a₀.size→Q () st'):wpS (model prog w) A E s sortRuns' Q st:=by
 rw[sortRuns'_eq]
 refine wpS_bind (wpS_get ?_)
 have hsz:=B.size
 have hmin:minRun' (arrOf st).size (arrOf st).size 0=(arrOf st).size:=by
  obtain⟨f,hf⟩:∃f,(arrOf st).size=f+1:=⟨(arrOf st).size-1,by lia⟩
  rw[show minRun' (arrOf st).size (arrOf st).size 0=minRun' (f+1) (arrOf st).size 0 by rw[← hf],minRun'_succ,if_pos (by lia)]
  rfl
 refine wpS_bind ?_
 refine wpS_forRange (fun i c st'=>(i=0∧c=(none,0)∧st'=st)∨(i≠0∧c=(none,a₀.size)∧(arrOf st').Perm a₀∧failedOf st'=none∧(pendingOf st').size≤1∧SortedToK κ (arrOf st') a₀.size)) ?_ ?_ (.inl ⟨rfl,rfl,rfl⟩)
 ·rintro i c st' hi0 hi ⟨⟩
  ·rename_i h
   obtain⟨rfl,rfl,rfl⟩:=h
   show wpS _ _ _ _ (if 0≥(arrOf st').size then _ else _) _ _
   rw[if_neg (by lia)]
   refine wpS_bind ?_
   rw[show (arrOf st').size-0=a₀.size by lia]
   refine w_count hL hk (Qi _) (by lia) B fun m st2 B2 m1 m2 S2=>?_
   have push:∀ (st3:SortSt),SB k0 a₀ st3→SortedToK κ (arrOf st3) a₀.size→(arrOf (setPending st3 ((pendingOf st3).push (0,a₀.size,0)))).Perm a₀∧failedOf (setPending st3 ((pendingOf st3).push (0,a₀.size,0)))=none∧(pendingOf (setPending st3 ((pendingOf st3).push (0,a₀.size,0)))).size≤1∧SortedToK κ (arrOf (setPending st3 ((pendingOf st3).push (0,a₀.size,0)))) a₀.size:=fun st3 B3 S3 =>
    ⟨B3.perm,B3.failed,by show ((pendingOf st3).push (0,a₀.size,0)).size≤1;rw[B3.pend,Array.size_push];exact Qi _,S3⟩
   show wpS _ _ _ _ (if m<minRun' (arrOf st').size (arrOf st').size 0 then _ else _) _ _
   rw[hmin,hsz]
   by_cases hm:m<a₀.size
   ·rw[if_pos hm]
    refine wpS_bind (wpS_lift (wpAny_rule ⟨rfl,?_⟩))
    show wpS _ _ _ _ (binarySort' 0 (min a₀.size a₀.size) m >>= _) _ _
    rw[Nat.min_self]
    refine wpS_bind (w_binary hL hk (Qi _) (by lia) m1 B2 S2 fun st3 B3 S3=>?_)
    show wpS _ _ _ _ (get >>= _) _ _
    refine wpS_bind (wpS_get ?_)
    show wpS _ _ _ _ (match (pendingOf st3).back? with|some (s1,n1,snd)=>_|x=>_) _ _
    rw[show (pendingOf st3).back? = none by rw[B3.pend];rfl]
    show wpS _ _ _ _ (modify _ >>= _) _ _
    refine wpS_bind (wpS_modify (wpS_pure (.inr ⟨by lia,?_,push st3 B3 S3⟩)))
    show (none,0+a₀.size)=(none,a₀.size)
    rw[Nat.zero_add]
   ·rw[if_neg hm]
    have em:m=a₀.size:=by lia
    subst em
    show wpS _ _ _ _ (get >>= _) _ _
    refine wpS_bind (wpS_get ?_)
    show wpS _ _ _ _ (match (pendingOf st2).back? with|some (s1,n1,snd)=>_|x=>_) _ _
    rw[show (pendingOf st2).back? = none by rw[B2.pend];rfl]
    show wpS _ _ _ _ (modify _ >>= _) _ _
    refine wpS_bind (wpS_modify (wpS_pure (.inr ⟨by lia,?_,push st2 B2 S2⟩)))
    show (none,0+a₀.size)=(none,a₀.size)
    rw[Nat.zero_add]
  ·rename_i h
   obtain⟨hne,rfl,p1,p2,p3,p4⟩:=h
   show wpS _ _ _ _ (if a₀.size≥(arrOf st).size then _ else _) _ _
   rw[if_pos (by lia)]
   refine wpS_pure ?_
   show wpS _ _ _ _ (forIn [:(arrOf st).size] (none,()) _ >>= _) _ _
   refine wpS_bind ?_
   refine wpS_forRange (fun i c st2=>c=(none,())∧st2=st') ?_ ?_ ⟨rfl,rfl⟩
   ·rintro i c st2 _ _ ⟨rfl,rfl⟩
    show wpS _ _ _ _ (get >>= _) _ _
    refine wpS_bind (wpS_get ?_)
    show wpS _ _ _ _ (if (pendingOf st2).size≤1 then _ else _) _ _
    rw[if_pos p3]
    exact wpS_pure (wpS_pure (q _ p1 p2 p4))
   ·rintro c st2 ⟨rfl,rfl⟩
    exact wpS_pure (q _ p1 p2 p4)
 ·rintro c st' ⟨⟩
  ·rename_i h
   exact absurd h.1 (by lia)
  ·rename_i h
   obtain⟨hne,rfl,p1,p2,p3,p4⟩:=h
   show wpS _ _ _ _ (forIn [:(arrOf st).size] (none,()) _ >>= _) _ _
   refine wpS_bind ?_
   refine wpS_forRange (fun i c st2=>c=(none,())∧st2=st') ?_ ?_ ⟨rfl,rfl⟩
   ·rintro i c st2 _ _ ⟨rfl,rfl⟩
    show wpS _ _ _ _ (get >>= _) _ _
    refine wpS_bind (wpS_get ?_)
    show wpS _ _ _ _ (if (pendingOf st2).size≤1 then _ else _) _ _
    rw[if_pos p3]
    exact wpS_pure (wpS_pure (q _ p1 p2 p4))
   ·rintro c st2 ⟨rfl,rfl⟩
    exact wpS_pure (q _ p1 p2 p4)
end
section
variable {prog:Program} {w:World} {A:Around} {E:Value→Shared→Prop} {s:Shared} {κ:PyProof.Rows.KeyKind}
theorem w_sort{a:Addr}{vs:List Value}{n:Nat}{P:PySem.Fin→Shared→Prop}(ha:s.heap.get? a=some (seqObj "list" vs.toArray n))(hk:PyProof.Rows.KeysOf κ (pairsOf vs))(h2:2≤vs.length)(h64:vs.length<64)
  (hK:∀ (s':Shared),(∀b o,b≠a→s.heap.get? b=some o→s'.heap.get? b=some o)→∀ (E:Value→Shared→Prop) (Q:SortKind→Shared→Prop),(∀k0,ZgD prog w A s' k0 κ→Q k0 s')→wpAny (model prog w) A (keyKind' vs.toArray) Q E s')
  (q:∀ (st':SortSt),(arrOf st').Perm (pairsOf vs)→SortedToK κ (arrOf st') (pairsOf vs).size→P (Fin.done (Flow.ret Value.none)) { s with heap:=sortedHeap s.heap a vs ((arrOf st').map fun x=>x.snd) }) :
  wpAny (model prog w) A (Builtin.«list.sort» { pos:=[.ref a] }) P E s:=by
 have hz:vs.toArray.size≤sizeLine:=by rw[Qs,sizeLine_eq];lia
 rw[list_sort_plain]
 refine wpAny_bind (Zbk ha rfl ?_)
 show wpAny _ _ (updateSeq a (fun x=>#[]) >>= _) _ _ _
 refine wpAny_bind (wpAny_updateSeq ha rfl ?_ hz (by show 0≤_;lia))
 have e1:=get?_update_seq ha (fun _=>#[])
 refine wpAny_bind (seqEpoch_at e1 rfl ?_)
 refine wpAny_bind (wpAny_newTuple ?_ (by simpa using hz))
 refine wpAny_bind (wpAny_newList ?_ (by show 0≤_;lia))
 refine wpAny_holding ?_
 have hn2:¬ vs.toArray.size<2:=by rw[Qs];lia
 have hps:(pairsOf vs).size=vs.length:=by unfold pairsOf;simp
 rw[if_neg hn2,if_neg hn2]
 have keep:∀b o,b≠a→s.heap.get? b=some o→(((s.heap.update a (Obj.mapSeq fun _=>#[])).push { cls:=.type "tuple",data:=.seq vs.toArray.toList.toArray }).push { cls:=.type "list",data:=.seq ([]:List Value).toArray }).get? b=some o:=fun b o hb h =>
  Qd _ (Qd _ (Q7 _ (Ne.symm hb) h))
 have e2:(((s.heap.update a (Obj.mapSeq fun _=>#[])).push { cls:=.type "tuple",data:=.seq vs.toArray.toList.toArray }).push { cls:=.type "list",data:=.seq ([]:List Value).toArray }).get? a=some (seqObj "list" #[] _):=Qd _ (Qd _ e1)
 refine wpAny_bind (hK _ keep _ _ fun k0 hL=>?_)
 refine wpAny_bind ?_
 have B:SB k0 (pairsOf vs) (SortSt.mk' k0 (vs.toArray.zip vs.toArray) #[] 7 none):=⟨Array.Perm.refl _,rfl,rfl,rfl⟩
 refine thn (w_runs (E:=E) hL hk B (by rw[hps];exact h2) (by rw[hps];exact h64) (Q:=fun _ st'=>(arrOf st').Perm (pairsOf vs)∧failedOf st'=none∧SortedToK κ (arrOf st') (pairsOf vs).size) (fun st' a b c=>⟨a,b,c⟩)) fun r s' hr=>?_
 obtain⟨⟨⟩,st'⟩:=r
 obtain⟨rfl,p1,p2,p3⟩:=hr
 refine wpAny_bind (seqEpoch_at e2 rfl ?_)
 have hsz:((arrOf st').map fun x=>x.snd).size=vs.length:=by rw[Array.size_map,p1.size_eq,hps]
 show wpAny _ _ (updateSeq a (fun x=>(arrOf st').map fun x=>x.snd) >>= _) _ _ _
 refine wpAny_bind (wpAny_updateSeq e2 rfl ?_ (by show 0≤_;lia) (by show ((arrOf st').map fun x=>x.snd).size≤_;rw[hsz];rw[Qs]at hz;lia))
 rw[p2]
 rw[if_neg (by simp)]
 exact wpAny_pure (q st' p1 p3)
theorem w_sorted{l:Addr}{vs:List Value}{Q:Value→Shared→Prop}(hl:s.heap.IsList l vs.toArray)(hk:PyProof.Rows.KeysOf κ (pairsOf vs))(h2:2≤vs.length)(h64:vs.length<64)
  (hK:∀ (A:Around) (s':Shared),(∀b o,s.heap.get? b=some o→s'.heap.get? b=some o)→∀ (E:Value→Shared→Prop) (Q:SortKind→Shared→Prop),(∀k0,ZgD prog w A s' k0 κ→Q k0 s')→wpAny (model prog w) A (keyKind' vs.toArray) Q E s')
  (q:∀ (st':SortSt),(arrOf st').Perm (pairsOf vs)→SortedToK κ (arrOf st') (pairsOf vs).size→Q (.ref (s.heap.objs.size+1)) { s with heap:=sortedAll s.heap vs ((arrOf st').map fun x=>x.snd) }) :
  wpAny (model prog w) A (call (.builtin "sorted") [.ref l]) Q E s:=by
 refine Calls.call_function_entry kind_sorted plain_sorted entry_sorted (args_sorted1 (.ref l)) ?_
 have hz:vs.length≤sizeLine:=by rw[sizeLine_eq];lia
 refine wpAny_bind (wpAny_pure (wpAny_bind (collect_list hl (wpAny_bind (wpAny_newList ?_ hz)) hz)))
 have hsz:((s.heap.push (seqObj "list" #[] 0)).update s.heap.objs.size (Obj.mapSeq fun x=>x++vs.toArray)).objs.size=s.heap.objs.size+1:=by rw[Heap.size_update,size_push']
 have hoL:((((s.heap.push (seqObj "list" #[] 0)).update s.heap.objs.size (Obj.mapSeq fun x=>x++vs.toArray)).push (seqObj "list" vs.toArray 0)).get? (s.heap.objs.size+1))=some (seqObj "list" vs.toArray 0):=by
  rw[← hsz];exact QA _ rfl
 have keep:∀b o,s.heap.get? b=some o→(((s.heap.push (seqObj "list" #[] 0)).update s.heap.objs.size (Obj.mapSeq fun x=>x++vs.toArray)).push (seqObj "list" vs.toArray 0)).get? b=some o:=fun b o h =>
  Qd _ (Q7 _ (Qab (Qu h)) (Qd _ h))
 show wpAny _ _ (holding [.ref ((s.heap.push (seqObj "list" #[] 0)).update s.heap.objs.size (Obj.mapSeq fun x=>x++vs.toArray)).objs.size] (call (.builtin "list.sort") [.ref ((s.heap.push (seqObj "list" #[] 0)).update s.heap.objs.size (Obj.mapSeq fun x=>x++vs.toArray)).objs.size]) >>= fun _=>ret (.ref ((s.heap.push (seqObj "list" #[] 0)).update s.heap.objs.size (Obj.mapSeq fun x=>x++vs.toArray)).objs.size)) _ _ _
 rw[hsz]
 refine wpAny_bind (wpAny_holding (wpAny_call_entry slot_list_sort ⟨_,hoL,rfl⟩ entry_list_sort ?_ (args_list_sort _)))
 refine w_sort hoL hk h2 h64 (fun s' hk'=>hK _ s' fun b o h=>hk' b o (QF (QJ (Qu h) (QaC _))) (keep b o h)) fun st' p1 p3=>?_
 exact⟨_,rfl,wpAny_pure ⟨_,rfl,q st' p1 p3⟩⟩
end
def kLt:Key→Key→Bool
 | .inl i,.inl j=>decide (i<j)
 | .inr x,.inr y=>decide (x.cps.toList<y.cps.toList)
 | .inl _,.inr _=>true
 | .inr _,.inl _=>false
theorem Zjn:∀a:Key,kLt a a=false
 | .inl i=>decide_eq_false (by lia)
 | .inr x=>decide_eq_false (List.lt_irrefl _)
theorem Zlv:∀a b c:Key,kLt a b=true→kLt b c=true→kLt a c=true
 | .inl i,.inl j,.inl k,h1,h2=>by have:=of_decide_eq_true h1;have:=of_decide_eq_true h2;exact decide_eq_true (by lia)
 | .inr x,.inr y,.inr z,h1,h2=>decide_eq_true (List.lt_trans (of_decide_eq_true h1) (of_decide_eq_true h2))
 | .inl _,.inl _,.inr _,_,_=>rfl
 | .inl _,.inr _,.inr _,_,_=>rfl
 | .inl _,.inr _,.inl _,_,h=>by cases h
 | .inr _,.inl _,_,h,_=>by cases h
 | .inr _,.inr _,.inl _,_,h=>by cases h
theorem Zlg:∀a b:Key,kLt a b=false→kLt b a=false→a=b
 | .inl i,.inl j,h1,h2=>by have:=of_decide_eq_false h1;have:=of_decide_eq_false h2;congr 1;lia
 | .inr x,.inr y,h1,h2=>by
  have a1:¬ x.cps.toList<y.cps.toList:=of_decide_eq_false h1
  have a2:¬ y.cps.toList<x.cps.toList:=of_decide_eq_false h2
  have e:x.cps.toList=y.cps.toList:=List.le_antisymm a2 a1
  obtain⟨xs⟩:=x
  obtain⟨ys⟩:=y
  congr 2
  exact Array.toList_inj.mp e
 | .inl _,.inr _,h,_=>by cases h
 | .inr _,.inl _,_,h=>by cases h
def ZU:List Key→List Key→Bool
 | [],[]=>false
 | [],_::_=>true
 | _::_,[]=>false
 | x::xs,y::ys=>if x=y then ZU xs ys else kLt x y
theorem Zag(x y:Key)(xs ys:List Key):ZU (x::xs) (y::ys)=if x=y then ZU xs ys else kLt x y:=rfl
theorem ZbA:∀a:List Key,ZU a a=false
 | []=>rfl
 | x::r=>by unfold ZU;rw[if_pos rfl];exact ZbA r
theorem ZbM:∀a b c:List Key,ZU a b=true→ZU b c=true→ZU a c=true
 | [],[],_,h,_=>by cases h
 | [],_::_,[],_,h=>by cases h
 | [],_::_,_::_,_,_=>rfl
 | _::_,[],_,h,_=>by cases h
 | _::_,_::_,[],_,h=>by cases h
 | x::r,y::s,z::t,h1,h2=>by
  have ih:=ZbM r s t
  unfold ZU at h1 h2 ⊢
  by_cases e1:x=y
  ·rw[if_pos e1]at h1
   by_cases e2:y=z
   ·rw[if_pos e2]at h2
    rw[if_pos (e1.trans e2)]
    exact ih h1 h2
   ·rw[if_neg e2]at h2
    rw[if_neg (fun e=>e2 (e1.symm.trans e)),e1]
    exact h2
  ·rw[if_neg e1]at h1
   by_cases e2:y=z
   ·rw[if_neg (fun e=>e1 (e.trans e2.symm)),← e2]
    exact h1
   ·rw[if_neg e2]at h2
    have h3:=Zlv _ _ _ h1 h2
    rw[if_neg (fun e=>by rw[e,Zjn]at h3;cases h3)]
    exact h3
theorem Zbv:∀a b:List Key,ZU a b=false→ZU b a=false→a=b
 | [],[],_,_=>rfl
 | [],_::_,h,_=>by cases h
 | _::_,[],_,h=>by cases h
 | x::r,y::s,h1,h2=>by
  unfold ZU at h1 h2
  by_cases e:x=y
  ·rw[if_pos e]at h1
   rw[if_pos e.symm]at h2
   rw[e,Zbv r s h1 h2]
  ·rw[if_neg e]at h1
   rw[if_neg fun z=>e z.symm]at h2
   exact absurd (Zlg _ _ h1 h2) e
theorem ZnX(a b c:List Key)(h:ZU a c=true):ZU a b=true∨ZU b c=true:=by
 by_cases h1:ZU a b=true
 ·exact .inl h1
 ·by_cases h2:ZU b a=true
  ·exact .inr (ZbM _ _ _ h2 h)
  ·have e:=Zbv a b (by simpa using h1) (by simpa using h2)
   rw[← e];exact .inr h
def unV:V→Option Key
 | .int i=>some (.inl i)
 | .str x=>some (.inr x)
 | _=>none
def Zfh:List V→Option (List Key)
 | []=>some []
 | x::r=>(unV x).bind fun k=>(Zfh r).map (k::·)
theorem ZqX(k:Key):unV (kV k)=some k:=by cases k<;>rfl
theorem ZiD:∀ks:List Key,Zfh (ks.map kV)=some ks
 | []=>rfl
 | k::r=>by show (unV (kV k)).bind _=_;rw[ZqX,ZiD r];rfl
theorem Zp5:∀ {x:V} {k:Key},unV x=some k→x=kV k
 | .int i,k,h=>by cases h;rfl
 | .str z,k,h=>by cases h;rfl
 | .non,_,h=>by cases h
 | .bl _,_,h=>by cases h
 | .byt _,_,h=>by cases h
 | .flt _,_,h=>by cases h
 | .ref _,_,h=>by cases h
 | .ty _,_,h=>by cases h
theorem Zi4:∀ {xs:List V} {ks:List Key},Zfh xs=some ks→xs=ks.map kV
 | [],ks,h=>by cases h;rfl
 | x::r,ks,h=>by
  unfold Zfh at h
  cases hu:unV x with
  | none=>rw[hu]at h;cases h
  | some k =>
   rw[hu]at h
   cases hr:Zfh r with
   | none=>rw[hr]at h;cases h
   | some ms=>rw[hr]at h;cases h;rw[Zp5 hu,Zi4 hr];rfl
def Zar(ks:List Key):List Bool:=ks.map fun k=>k.isLeft
def ZhB(H:Hp)(sh:List Bool):Value→Option (List Key)
 | .ref a=>match H a with
  | some (.tup xs)=>(Zfh xs).bind fun ks=>if Zar ks=sh then some ks else none
  | _=>none
 | _=>none
theorem ZiX{H:Hp}{a:Addr}{ks:List Key}(h:H a=some (.tup (ks.map kV))):ZhB H (Zar ks) (.ref a)=some ks:=by
 unfold ZhB
 dsimp only
 rw[h]
 show (Zfh (ks.map kV)).bind _=_
 rw[ZiD]
 show (if Zar ks=Zar ks then some ks else none)=_
 rw[if_pos rfl]
theorem Ziu{H:Hp}{sh:List Bool}{v:Value}{ks:List Key}(h:ZhB H sh v=some ks):∃a,v=.ref a∧H a=some (.tup (ks.map kV))∧Zar ks=sh:=by
 unfold ZhB at h
 split at h
 ·rename_i a
  split at h
  ·rename_i xs hx
   cases hk:Zfh xs with
   | none=>rw[hk]at h;cases h
   | some ms =>
    rw[hk]at h
    have h':(if Zar ms=sh then some ms else none)=some ks:=h
    by_cases e:Zar ms=sh
    ·rw[if_pos e]at h'
     cases h'
     exact⟨a,rfl,by rw[hx,Zi4 hk],e⟩
    ·rw[if_neg e]at h';cases h'
  ·cases h
 ·cases h
def ZhK(H:Hp)(sh:List Bool):PyProof.Rows.KeyKind:=⟨⟨List Key,ZU,ZbA,ZbM,fun a b c h=>ZnX a b c h,Zbv⟩,ZhB H sh,[]⟩
section
variable {prog:Program} {w:World} {A:Around} {E:Value→Shared→Prop} {s:Shared}
theorem Zqk{k m:Key}{p q:Value}(hp:ZE (kV k) p)(hq:ZE (kV m) q)(hs:k.isLeft=m.isLeft){Q:Bool→Shared→Prop}(h:Q (decide (k=m)) s):wpAny (model prog w) A (eqBool p q) Q E s:=by
 cases k with
 | inl i =>
  cases m with
  | inl j =>
   obtain⟨t,rfl⟩:=hp
   obtain⟨u,rfl⟩:=hq
   refine wpAny_eqBool_int ?_
   have e:(i == j)=decide ((Sum.inl i:Key)=Sum.inl j):=by
    by_cases z:i=j
    ·rw[z];simp
    ·rw[decide_eq_false (fun e=>z (Sum.inl.inj e))];simpa using z
   rw[e];exact h
  | inr y=>cases hs
 | inr x =>
  cases m with
  | inl j=>cases hs
  | inr y =>
   obtain⟨t,rfl⟩:=hp
   obtain⟨u,rfl⟩:=hq
   refine wpAny_eqBool_str ?_
   have e:decide (x=y)=decide ((Sum.inr x:Key)=Sum.inr y):=decide_eq_decide.mpr ⟨fun z=>by rw[z],fun z=>Sum.inr.inj z⟩
   rw[e];exact h
theorem ZqV{c:Bool}{k m:Key}{p q:Value}(hp:ZE (kV k) p)(hq:ZE (kV m) q)(hs:k.isLeft=m.isLeft){Q:Bool→Shared→Prop}(h:Q (kLt k m) s):wpAny (model prog w) A (oneLt' c p q) Q E s:=by
 cases k with
 | inl i =>
  cases m with
  | inl j =>
   obtain⟨t,rfl⟩:=hp
   obtain⟨u,rfl⟩:=hq
   cases c with
   | true=>exact oneLt_int h
   | false =>
    rw[oneLt'_eq]
    show wpAny _ _ (richCompare .Lt (.int i t) (.int j u) >>= _) _ _ _
    refine wpAny_bind (show wpAny (model prog w) A (compareOp .Lt (.int i t) (.int j u)) _ _ _ from PyProof.Rows.lt_int ?_)
    exact wpAny_pure h
  | inr y=>cases hs
 | inr x =>
  cases m with
  | inl j=>cases hs
  | inr y =>
   obtain⟨t,rfl⟩:=hp
   obtain⟨u,rfl⟩:=hq
   cases c with
   | true=>exact oneLt_str h
   | false =>
    rw[oneLt'_eq]
    show wpAny _ _ (richCompare .Lt (.str x t) (.str y u) >>= _) _ _ _
    refine wpAny_bind (show wpAny (model prog w) A (compareOp .Lt (.str x t) (.str y u)) _ _ _ from PyProof.Rows.lt_str ?_)
    exact wpAny_pure h
theorem Zqb{b:Bool}{x y:Addr}{ks ms:List Key}{its its2:List Value}(hx:IsTup s.heap x its.toArray)(hy:IsTup s.heap y its2.toArray)(rx:Zy (ks.map kV) its)(ry:Zy (ms.map kV) its2)(hs:Zar ks=Zar ms){Q:Bool→Shared→Prop}
  (h:Q (ZU ks ms) s):wpAny (model prog w) A (keyLt' (tuples' b) (.ref x) (.ref y)) Q E s:=by
 obtain⟨o1,ho1,_,n1,hd1⟩:=hx
 obtain⟨o2,ho2,_,n2,hd2⟩:=hy
 show wpAny _ _ (Builtin.List.listItems (.ref x) >>= _) _ _ _
 refine wpAny_bind (Zbk ho1 hd1 (wpAny_bind (Zbk ho2 hd2 (wpAny_bind ?_))))
 have hl1:=rx.length
 have hl2:=ry.length
 have hl3:ks.length=ms.length:=by have:=congrArg List.length hs;simpa [Zar] using this
 rw[Qa]at hl1 hl2
 refine wpAny_forIn_list _ (fun rest c s'=>c=(none,())∧s'=s∧∃ (vs ws:List Value) (k:Nat) (ks' ms':List Key),rest=(vs.zip ws).zipIdx k∧Zy (ks'.map kV) vs∧Zy (ms'.map kV) ws∧Zar ks'=Zar ms'∧ZU ks ms=ZU ks' ms') _ ?_ ?_ _ _ ⟨rfl,rfl,its,its2,0,ks,ms,by simp,rx,ry,hs,rfl⟩
 ·rintro⟨⟨p,q⟩,i⟩ rest c s' ⟨rfl,rfl,vs,ws,k,ks',ms',hz,rv,rw',hs',he⟩
  cases ks' with
  | nil=>cases rv;cases hz
  | cons k1 kr =>
   cases ms' with
   | nil=>cases hs'
   | cons m1 mr =>
    cases rv with
    | cons r1 rr =>
     cases rw' with
     | cons r1' rr' =>
      rw[Qas,List.zipIdx_cons]at hz
      injection hz with h1 h2
      injection h1 with h3 h4
      injection h3 with h5 h6
      subst h4 h5 h6
      unfold Zar at hs'
      rw[Ql,Ql]at hs'
      injection hs' with s1 s2
      refine wpAny_bind (Zqk r1 r1' s1 ?_)
      rw[Zag]at he
      by_cases e:k1=m1
      ·rw[if_pos e]at he
       rw[decide_eq_true e]
       exact wpAny_pure ⟨rfl,rfl,_,_,_,kr,mr,h2,rr,rr',s2,he⟩
      ·rw[if_neg e]at he
       rw[decide_eq_false e]
       refine wpAny_bind (ZqV r1 r1' s1 (wpAny_pure ?_))
       refine wpAny_pure ?_
       rw[← he];exact h
 ·rintro c s' ⟨rfl,rfl,vs,ws,k,ks',ms',hz,rv,rw',hs',he⟩
  refine wpAny_pure ?_
  have e:ZU ks' ms'=false:=by
   cases ks' with
   | nil =>
    cases ms' with
    | nil=>rfl
    | cons _ _=>cases hs'
   | cons k1 kr =>
    cases ms' with
    | nil=>cases hs'
    | cons m1 mr =>
     cases rv with
     | cons r1 rr =>
      cases rw' with
      | cons r1' rr'=>rw[Qas,List.zipIdx_cons]at hz;cases hz
  rw[e]at he
  rw[he]at h
  have e2:decide (its.toArray.size<its2.toArray.size)=false:=decide_eq_false (by rw[Qs,Qs];lia)
  rw[e2];exact h
end
section
variable {prog:Program} {w:World} {A:Around} {E:Value→Shared→Prop} {s:Shared}
theorem w_mapM{M:Model}{α β:Type}{f:α→Sem β}(R:α→β→Prop):∀ (l:List α) {Q:List β→Shared→Prop},(∀v∈l,∃r,R v r∧∀ (Q':β→Shared→Prop),Q' r s→wpAny M A (f v) Q' E s)→(∀rs,rs.length=l.length→(∀r∈rs,∃v∈l,R v r)→Q rs s)→wpAny M A (List.mapM f l) Q E s
 | [],Q,_,q=>by rw[List.mapM_nil];exact wpAny_pure (q [] rfl (fun r h=>by cases h))
 | a::l,Q,h,q=>by
  rw[List.mapM_cons]
  obtain⟨r,hr,hw⟩:=h a (by simp)
  refine wpAny_bind (hw _ (wpAny_bind (w_mapM R l (fun v hv=>h v (Qy _ hv)) fun rs hl hrs=>wpAny_pure (q (r::rs) (by simp[hl]) fun z hz=>?_))))
  rcases QO.mp hz with rfl|hz
  ·exact⟨a,by simp,hr⟩
  ·obtain⟨v,hv,hR⟩:=hrs z hz
   exact⟨v,Qy _ hv,hR⟩
theorem w_mapA{M:Model}{α β:Type}{f:α→Sem β}(R:α→β→Prop)(l:Array α){Q:Array β→Shared→Prop}(h:∀v∈l.toList,∃r,R v r∧∀ (Q':β→Shared→Prop),Q' r s→wpAny M A (f v) Q' E s)(q:∀rs:Array β,(∀r∈rs.toList,∃v∈l.toList,R v r)→Q rs s):wpAny M A (Array.mapM f l) Q E s:=by
 rw[Array.mapM_eq_mapM_toList,map_eq_pure_bind]
 exact wpAny_bind (w_mapM R l.toList h fun rs _ hr=>wpAny_pure (q rs.toArray (by simpa using hr)))
theorem ZlO{a:Addr}{its:List Value}(ht:IsTup s.heap a its.toArray){Q:Option Value→Shared→Prop}(q:Q its[0]? s):wpAny (model prog w) A (firstOfTuple' (.ref a)) Q E s:=by
 obtain⟨o,ho,hc,n,hd⟩:=id ht
 show wpAny _ _ (typeOf (.ref a) >>= _) _ _ _
 refine wpAny_bind (wpAny_typeOf ht.typeIs ?_)
 rw[if_neg (by decide)]
 refine wpAny_bind (Zbk ho hd (wpAny_pure ?_))
 simpa using q
theorem ZmR{k:Key}{v:Value}(h:ZE (kV k) v){Q:Value→Shared→Prop}(q:Q (.type (if k.isLeft then "int" else "str")) s):wpAny (model prog w) A (typeOf v) Q E s:=by
 cases k with
 | inl i=>obtain⟨t,rfl⟩:=h;exact wpAny_typeOf (T := "int") rfl q
 | inr x=>obtain⟨t,rfl⟩:=h;exact wpAny_typeOf (T := "str") rfl q
theorem ZmH{vs:List Value}(h:∀v∈vs,∃ (a:Addr) (its:List Value) (k:Key) (v0:Value),v=.ref a∧IsTup s.heap a its.toArray∧its[0]? = some v0∧ZE (kV k) v0){Q:SortKind→Shared→Prop}(q:∀b,Q (tuples' b) s):wpAny (model prog w) A (keyKind' vs.toArray) Q E s:=by
 rw[keyKind'_eq]
 refine wpAny_bind (w_mapA (fun _ r=>∃ (k:Key) (v0:Value),r=some v0∧ZE (kV k) v0) _ (fun v hv=>?_) fun firsts hf=>?_)
 ·obtain⟨a,its,k,v0,rfl,ht,h0,hr⟩:=h v (by simpa using hv)
  exact⟨its[0]?,⟨k,v0,h0,hr⟩,fun Q' q'=>ZlO ht q'⟩
 ·have hall:(firsts.all fun x=>x.isSome)=true:=by
   rw[Array.all_eq_true]
   intro i hi
   obtain⟨v,_,k,v0,e,_⟩:=hf firsts[i] (by simp)
   rw[e];rfl
  rw[if_pos hall]
  refine wpAny_bind (wpAny_rule (wpAny_bind ?_))
  rw[oneTypeOnly'_eq]
  refine wpAny_bind (w_mapA (fun _ _=>True) _ (fun v hv=>?_) fun ts _=>?_)
  ·have hv':v∈(Array.filterMap id firsts).toList:=hv
   rw[Array.toList_filterMap]at hv'
   obtain⟨o,ho,eo⟩:=List.mem_filterMap.mp hv'
   obtain⟨_,_,k,v0,e,hr⟩:=hf o ho
   have e2:v0=v:=by
    have:o=some v:=eo
    rw[e]at this;exact Qq this
   subst e2
   exact⟨_,trivial,fun Q' q'=>ZmR hr q'⟩
  ·split
   ·exact wpAny_pure (wpAny_pure (q _))
   ·exact wpAny_pure (wpAny_pure (q _))
theorem w_sort0{a:Addr}{vs:List Value}{n:Nat}{P:PySem.Fin→Shared→Prop}(ha:s.heap.get? a=some (seqObj "list" vs.toArray n))(h2:vs.length<2)
  (q:P (Fin.done (Flow.ret Value.none)) { s with heap:=sortedHeap s.heap a vs ((pairsOf vs).map fun x=>x.snd) }) :
  wpAny (model prog w) A (Builtin.«list.sort» { pos:=[.ref a] }) P E s:=by
 have hz:vs.toArray.size≤sizeLine:=by rw[Qs,sizeLine_eq];lia
 rw[list_sort_plain]
 refine wpAny_bind (Zbk ha rfl ?_)
 show wpAny _ _ (updateSeq a (fun x=>#[]) >>= _) _ _ _
 refine wpAny_bind (wpAny_updateSeq ha rfl ?_ hz (by show 0≤_;lia))
 have e1:=get?_update_seq ha (fun _=>#[])
 refine wpAny_bind (seqEpoch_at e1 rfl ?_)
 refine wpAny_bind (wpAny_newTuple ?_ (by simpa using hz))
 refine wpAny_bind (wpAny_newList ?_ (by show 0≤_;lia))
 refine wpAny_holding ?_
 have hn2:vs.toArray.size<2:=by rw[Qs];lia
 have hps:(pairsOf vs).size=vs.length:=by unfold pairsOf;simp
 rw[if_pos hn2,if_pos hn2]
 have e2:(((s.heap.update a (Obj.mapSeq fun _=>#[])).push { cls:=.type "tuple",data:=.seq vs.toArray.toList.toArray }).push { cls:=.type "list",data:=.seq ([]:List Value).toArray }).get? a=some (seqObj "list" #[] _):=Qd _ (Qd _ e1)
 refine wpAny_bind (wpAny_pure ?_)
 show wpAny _ _ (pure ((),SortSt.mk' general' (vs.toArray.zip vs.toArray) #[] 7 none) >>= _) _ _ _
 refine wpAny_bind (wpAny_pure ?_)
 refine wpAny_bind (seqEpoch_at e2 rfl ?_)
 have hsz:((pairsOf vs).map fun x=>x.snd).size=vs.length:=by rw[Array.size_map,hps]
 show wpAny _ _ (updateSeq a (fun x=>(pairsOf vs).map fun x=>x.snd) >>= _) _ _ _
 refine wpAny_bind (wpAny_updateSeq e2 rfl ?_ (by show 0≤_;lia) (by show ((pairsOf vs).map fun x=>x.snd).size≤_;rw[hsz];rw[Qs]at hz;lia))
 show wpAny _ _ (if _ then _ else _) _ _ _
 rw[if_neg (by simp)]
 exact wpAny_pure q
theorem w_sorted0{l:Addr}{vs:List Value}{Q:Value→Shared→Prop}(hl:s.heap.IsList l vs.toArray)(h2:vs.length<2)
  (q:Q (.ref (s.heap.objs.size+1)) { s with heap:=sortedAll s.heap vs ((pairsOf vs).map fun x=>x.snd) }) :
  wpAny (model prog w) A (call (.builtin "sorted") [.ref l]) Q E s:=by
 refine Calls.call_function_entry kind_sorted plain_sorted entry_sorted (args_sorted1 (.ref l)) ?_
 have hz:vs.length≤sizeLine:=by rw[sizeLine_eq];lia
 refine wpAny_bind (wpAny_pure (wpAny_bind (collect_list hl (wpAny_bind (wpAny_newList ?_ hz)) hz)))
 have hsz:((s.heap.push (seqObj "list" #[] 0)).update s.heap.objs.size (Obj.mapSeq fun x=>x++vs.toArray)).objs.size=s.heap.objs.size+1:=by rw[Heap.size_update,size_push']
 have hoL:((((s.heap.push (seqObj "list" #[] 0)).update s.heap.objs.size (Obj.mapSeq fun x=>x++vs.toArray)).push (seqObj "list" vs.toArray 0)).get? (s.heap.objs.size+1))=some (seqObj "list" vs.toArray 0):=by
  rw[← hsz];exact QA _ rfl
 show wpAny _ _ (holding [.ref ((s.heap.push (seqObj "list" #[] 0)).update s.heap.objs.size (Obj.mapSeq fun x=>x++vs.toArray)).objs.size] (call (.builtin "list.sort") [.ref ((s.heap.push (seqObj "list" #[] 0)).update s.heap.objs.size (Obj.mapSeq fun x=>x++vs.toArray)).objs.size]) >>= fun _=>ret (.ref ((s.heap.push (seqObj "list" #[] 0)).update s.heap.objs.size (Obj.mapSeq fun x=>x++vs.toArray)).objs.size)) _ _ _
 rw[hsz]
 refine wpAny_bind (wpAny_holding (wpAny_call_entry slot_list_sort ⟨_,hoL,rfl⟩ entry_list_sort ?_ (args_list_sort _)))
 exact w_sort0 hoL h2 ⟨_,rfl,wpAny_pure ⟨_,rfl,q⟩⟩
end
theorem Zjc{α β:Type}(f:α→β){l m:List β}(h:l.Perm m):∀ts:List α,m=ts.map f→∃ts':List α,ts'.Perm ts∧l=ts'.map f:=by
 induction h with
 | nil =>
  intro ts e
  have:ts=[]:=by cases ts with
   | nil=>rfl
   | cons _ _=>cases e
  subst this
  exact⟨[],.nil,rfl⟩
 | cons x _ ih =>
  intro ts e
  cases ts with
  | nil=>cases e
  | cons a r =>
   rw[Ql]at e
   injection e with e1 e2
   obtain⟨ts',p,e3⟩:=ih r e2
   exact⟨a::ts',p.cons a,by rw[Ql,e1,e3]⟩
 | swap x y l =>
  intro ts e
  cases ts with
  | nil=>cases e
  | cons a r =>
   cases r with
   | nil=>cases e
   | cons b r =>
    rw[Ql,Ql]at e
    injection e with e1 e2
    injection e2 with e2 e3
    exact⟨b::a::r,.swap a b r,by rw[Ql,Ql,e1,e2,e3]⟩
 | trans _ _ ih1 ih2 =>
  intro ts e
  obtain⟨ts2,p2,e2⟩:=ih2 ts e
  obtain⟨ts1,p1,e1⟩:=ih1 ts2 e2
  exact⟨ts1,p1.trans p2,e1⟩
theorem Zje{α:Type}:∀l:List α,l.zip l=l.map fun v=>(v,v)
 | []=>rfl
 | a::r=>by rw[Qas,Zje r];rfl
abbrev Zb9:=List (Addr×List Key)
def Z6(ts:Zb9):List V:=ts.map fun t=>V.ref t.1
def AtT(H:Hp)(ts:Zb9):Prop:=∀t∈ts,H t.1=some (.tup (t.2.map kV))
theorem ZdS:∀ {ts:Zb9} {us:List Value},Zy (Z6 ts) us→us=ts.map fun t=>Value.ref t.1
 | [],_,h=>by cases h;rfl
 | t::r,_,h=>by
  cases h with
  | cons a b=>rw[ZdS b];cases a;rfl
theorem Zhj:∀ts:Zb9,Zy (Z6 ts) (ts.map fun t=>Value.ref t.1)
 | []=>.nil
 | t::r=>.cons rfl (Zhj r)
def ZpU(K:PySem.W.Frag):List V→Hp→VK→Prop:=fun xs H Q=>∃ (p:Addr) (ts:Zb9) (sh:List Bool),xs=[.ref p]∧SqL K H p (Z6 ts)∧AtT H ts∧sh≠[]∧(∀t∈ts,Zar t.2=sh)∧ts.length<64 ∧
 ∀ (l:Addr) (ts':Zb9),H l=none→ts'.Perm ts→ts'.Pairwise (fun a b=>ZU b.2 a.2=false)→Q (.ref l) (upd H l (.lst (Z6 ts')))
theorem Zie{X:Cx}:Z5 X (.builtin "sorted") (ZpU X.K):=by
 intro pins s σ H xs us Q I r h
 obtain⟨p,ts,sh,rfl,hq,hat,hsh,hts,h64,q⟩:=h
 obtain⟨u,rfl,rx⟩:=ZbJ r
 cases rx
 obtain⟨its,rv,pl,hz⟩:=I.list hq
 have ei:=ZdS rv
 subst ei
 have tupAt:∀t∈ts,∃its:List Value,Zy (t.2.map kV) its∧IsTup s.heap t.1 its.toArray:=fun t ht=>by
  obtain⟨i,v,q,_⟩:=I.tuple (SqT.of (K:=X.K) (hat t ht))
  exact⟨i,v,q⟩
 have eptl:(pairsOf (ts.map fun t=>Value.ref t.1)).toList=ts.map fun t=>(Value.ref t.1,Value.ref t.1):=by
  unfold pairsOf
  rw[Array.toList_zip,Zje,QE]
  rfl
 have fin:∀ (out:Array Value) (ts':Zb9),ts'.Perm ts→ts'.Pairwise (fun a b=>ZU b.2 a.2=false)→out.toList=ts'.map (fun t=>Value.ref t.1)→EP X pins σ Q (.ref (s.heap.objs.size+1)) { s with heap:=sortedAll s.heap (ts.map fun t=>Value.ref t.1) out }:=fun out ts' pm pw eo=>by
  obtain⟨e,he⟩:=sortedAll_at s.heap (ts.map fun t=>Value.ref t.1) out
  refine⟨.ref (s.heap.objs.size+1),_,I.laid (t':=s.toks) (o:=.lst (Z6 ts')) (fun _ _=>sortedAll_old) (QaC _) ⟨?_,out.toList,e,by rw[eo];exact Zhj ts',by simpa using he⟩,rfl,q _ ts' (I.hok.fresh (QaC _)) pm pw⟩
  unfold Z6
  rw[Qa,pm.length_eq,sizeLine_eq];lia
 by_cases h2:ts.length<2
 ·refine w_sorted0 pl.isList (by rw[Qa];exact h2) (fin _ ts (.refl _) ?_ ?_)
  ·cases ts with
   | nil=>exact .nil
   | cons t r =>
    have:r=[]:=QT (by rw[QK]at h2;lia)
    subst this
    exact Qah _ _
  ·rw[Array.toList_map,eptl,QE];rfl
 ·have hk:PyProof.Rows.KeysOf (ZhK H sh) (pairsOf (ts.map fun t=>Value.ref t.1)):=fun z hz'=>by
   rw[eptl]at hz'
   obtain⟨t,ht,rfl⟩:=Qx.mp hz'
   exact⟨t.2,by rw[← hts t ht];exact ZiX (hat t ht)⟩
  refine w_sorted (κ:=ZhK H sh) pl.isList hk (by rw[Qa];lia) (by rw[Qa];exact h64) (fun A' s' kp E' Q' q'=>?_) fun st' p1 p3=>?_
  ·have tup':∀ {a:Addr} {its:List Value},IsTup s.heap a its.toArray→IsTup s'.heap a its.toArray:=fun ⟨o,ho,hc⟩=>⟨o,kp _ _ ho,hc⟩
   refine ZmH (fun v hv=>?_) fun b=>q' _ fun E2 x y a c Q2 hx hy h2=>?_
   ·obtain⟨t,ht,rfl⟩:=Qx.mp hv
    obtain⟨i,v,qt⟩:=tupAt t ht
    have hs1:=hts t ht
    cases hk2:t.2 with
    | nil=>rw[hk2]at hs1;exact absurd hs1.symm hsh
    | cons k kr =>
     rw[hk2]at v
     cases v with
     | cons r1 rr=>exact⟨t.1,_,k,_,rfl,tup' qt,rfl,r1⟩
   ·obtain⟨a1,rfl,ha1,s1⟩:=Ziu hx
    obtain⟨a2,rfl,ha2,s2⟩:=Ziu hy
    obtain⟨i1,v1,t1,_⟩:=I.tuple (SqT.of (K:=X.K) ha1)
    obtain⟨i2,v2,t2,_⟩:=I.tuple (SqT.of (K:=X.K) ha2)
    exact Zqb (tup' t1) (tup' t2) v1 v2 (s1.trans s2.symm) h2
  ·have p1':=p1.toList
   obtain⟨ts',pm,e⟩:=Zjc (fun t:Addr×List Key=>(Value.ref t.1,Value.ref t.1)) p1' ts eptl
   refine fin _ ts' pm ?_ ?_
   ·rw[List.pairwise_iff_getElem]
    intro i j hi hj hij
    have hsz:(pairsOf (ts.map fun t=>Value.ref t.1)).size=ts'.length:=by rw[← Qaa,eptl,Qa,pm.length_eq]
    have:=p3 i j (by lia) (by rw[hsz];exact hj)
    have key:∀k (hk':k<ts'.length),KK (ZhK H sh) (arrOf st') k=ts'[k].2:=fun k hk'=>by
     unfold KK
     have e1:(arrOf st')[k]? = some (Value.ref ts'[k].1,Value.ref ts'[k].1):=by
      rw[← Array.getElem?_toList,e,Qk,Qb hk'];rfl
     rw[e1]
     have hm:ts'[k]∈ts:=pm.mem_iff.mp (QX hk')
     show ((ZhB H sh (.ref ts'[k].1)).getD _)=_
     rw[← hts _ hm,ZiX (hat _ hm)];rfl
    rw[key i hi,key j hj]at this
    exact this
   ·rw[Array.toList_map,e,QE];rfl
theorem Zsg{X:Cx}(K:PySem.W.Frag)(h:X.K=K:=by rfl):Z5 X (.builtin "sorted") (ZpU K):=by subst h;exact Zie
theorem Zna(A:Around)(s:Shared){k m:Key}{p q:Value}(hp:ZE (kV k) p)(hq:ZE (kV m) q)(hs:k.isLeft=m.isLeft):∃e,SeqAt.EqAt A s p q e∧(e=true↔k=m):=by
 cases k with
 | inl i =>
  cases m with
  | inl j =>
   obtain⟨t,rfl⟩:=hp
   obtain⟨u,rfl⟩:=hq
   exact⟨_,SeqAt.EqAt.int_int i t j u,by simp⟩
  | inr y=>cases hs
 | inr x =>
  cases m with
  | inl j=>cases hs
  | inr y =>
   obtain⟨t,rfl⟩:=hp
   obtain⟨u,rfl⟩:=hq
   exact⟨_,SeqAt.EqAt.str_str x t y u,by simp⟩
theorem ZmP(A:Around)(s:Shared){k m:Key}{p q:Value}(hp:ZE (kV k) p)(hq:ZE (kV m) q)(hs:k.isLeft=m.isLeft)(prog:Program)(w:World)(E:Value→Shared→Prop)(Q:Value→Shared→Prop)(h:Q (.bool (kLt k m)) s) :
  wpAny (model prog w) A (richCompare .Lt p q) Q E s:=by
 cases k with
 | inl i =>
  cases m with
  | inl j =>
   obtain⟨t,rfl⟩:=hp
   obtain⟨u,rfl⟩:=hq
   exact(PyProof.Rows.lt_int h:wpAny (model prog w) A (compareOp .Lt (.int i t) (.int j u)) Q E s)
  | inr y=>cases hs
 | inr x =>
  cases m with
  | inl j=>cases hs
  | inr y =>
   obtain⟨t,rfl⟩:=hp
   obtain⟨u,rfl⟩:=hq
   exact(PyProof.Rows.lt_str h:wpAny (model prog w) A (compareOp .Lt (.str x t) (.str y u)) Q E s)
section
open PySem.SeqAt
open PySem.AutoSeq1 (wpAny_loadPart')
open PySem.MeetsSeq PySem.MeetsSeq2 PySem.MeetsSeq3
theorem ZgB(l b:Addr)(items items2:Array Value)(n n2:Nat)(dd dd2:Option Addr)(sl sl2:Array (Option Value))(ks ms:List Key)(hi:Zy (ks.map kV) items.toList)(hj:Zy (ms.map kV) items2.toList)(hs:Zar ks=Zar ms) :
  Meets (Builtin.«tuple.__lt__» ⟨[.ref l,.ref b],[]⟩)
   (fun _ R s=>s.heap.get? l=some { cls:=.type "tuple",dict:=dd,data:=.seq items n,slots:=sl }∧s.heap.get? b=some { cls:=.type "tuple",dict:=dd2,data:=.seq items2 n2,slots:=sl2 } ∧
    R (.ok (.ret (.bool (ZU ks ms)))) s) :=
 .of_wp fun prog w A R s h=>by
  obtain⟨hp,g,d,tk,os⟩:=s;obtain⟨hl,hb,h⟩:=h
  have f2:=AutoSeq1.sub_tuple_tuple
  have z1:items.size=ks.length:=by have:=hi.length;simpa using this.symm
  have z2:items2.size=ms.length:=by have:=hj.length;simpa using this.symm
  have z3:ks.length=ms.length:=by have:=congrArg List.length hs;simpa [Zar] using this
  wp_walk using wpAny_loadPart' hl,wpAny_loadPart' hb,wpAny_forIn_list _ (fun rest b s'=>b.1=none∧s'=⟨hp,g,d,tk,os⟩∧∃ (vs ws:List Value) (ks' ms':List Key),rest=vs.zip ws ∧
   Zy (ks'.map kV) vs∧Zy (ms'.map kV) ws∧Zar ks'=Zar ms'∧R (.ok (.ret (.bool (ZU ks' ms')))) ⟨hp,g,d,tk,os⟩) _
  case turn =>
   rintro⟨y,x⟩ rest b s' ⟨hb',rfl,vs,ws,ks',ms',hz,hvi,hwi,hsh,hR⟩
   cases ks' with
   | nil=>cases hvi;rw[List.zip_nil_left]at hz;cases hz
   | cons k1 kr =>
    cases ms' with
    | nil=>cases hsh
    | cons m1 mr =>
     cases hvi with
     | cons r1 rr =>
      cases hwi with
      | cons r1' rr' =>
       rw[Qas]at hz
       injection hz with hyx hrest
       injection hyx with hy hx
       subst hy hx
       rw[Zag]at hR
       unfold Zar at hsh
       rw[Ql,Ql]at hsh
       injection hsh with s1 s2
       obtain⟨e,he,hiff⟩:=Zna A.in1 ⟨hp,g,d,tk,os⟩ r1 r1' s1
       refine wpAny_bind (he prog w _ _ ?_)
       cases e with
       | true =>
        rw[if_pos (hiff.mp rfl)]at hR
        wp_walk
        exact⟨rfl,rfl,_,_,_,_,hrest,rr,rr',s2,hR⟩
       | false =>
        rw[if_neg (fun q=>absurd (hiff.mpr q) Qz)]at hR
        have hri:=ZmP A.in1 ⟨hp,g,d,tk,os⟩ r1 r1' s1 prog w
        wp_walk using hri
        exact⟨_,rfl,by simpa using hR⟩
  case fin =>
   rintro⟨b1,b2⟩ s' ⟨hb',rfl,vs,ws,ks',ms',hz,hvi,hwi,hsh,hR⟩
   simp only at hb'
   subst hb'
   have hv:ZU ks' ms'=decide (items.size<items2.size):=by
    rw[decide_eq_false (by lia)]
    cases ks' with
    | nil =>
     cases ms' with
     | nil=>rfl
     | cons _ _=>cases hsh
    | cons k1 kr =>
     cases ms' with
     | nil=>cases hsh
     | cons m1 mr =>
      cases hvi with
      | cons r1 rr =>
       cases hwi with
       | cons r1' rr'=>rw[Qas]at hz;cases hz
   rw[hv]at hR
   wp_walk
   exact⟨_,rfl,by simpa [Builtin.Tuple.tupleCompareSizes] using hR⟩
  case h =>
   exact⟨rfl,rfl,items.toList,items2.toList,ks,ms,rfl,hi,hj,hs,h⟩
end
section
variable {prog:Program} {w:World} {A:Around} {E:Value→Shared→Prop} {s:Shared}
theorem Zjq{l b:Addr}{items items2:Array Value}{ks ms:List Key}{Q:Value→Shared→Prop}(hl:IsTup s.heap l items)(hb:IsTup s.heap b items2)(hi:Zy (ks.map kV) items.toList)(hj:Zy (ms.map kV) items2.toList)(hs:Zar ks=Zar ms)
  (hu:A.units<cLine) (h:Q (.bool (ZU ks ms)) s):wpAny (model prog w) A (richCompare .Lt (.ref l) (.ref b)) Q E s:=by
 obtain⟨⟨cls,dd,data,sl⟩,ho,hc,n,hd⟩:=id hl
 obtain⟨⟨cls2,dd2,data2,sl2⟩,ho2,hc2,n2,hd2⟩:=id hb
 simp only at hc hd hc2 hd2
 subst hc hd hc2 hd2
 exact richCompare_meets_room (op:=.Lt) ⟨_,ho,rfl⟩ ⟨_,ho2,rfl⟩ PySem.F.slot_tuple_lt PySem.F.entry_tuple_lt (PySem.F.args_tuple_lt_2 _ _) (ZgB l b items items2 n n2 dd dd2 sl sl2 ks ms hi hj hs)
  ⟨ho,ho2,show Value.bool (ZU ks ms)≠Value.notImplemented∧Q (.bool (ZU ks ms)) s from⟨(fun x=>nomatch x),h⟩⟩ hu
end
section
variable {prog:Program} {w:World}
theorem ZkY{A:Around}{a:Args}:(A.under (.builtin "min.loop" a)).units≤A.units+1:=by
 show A.units+(Code.builtin "min.loop" a).cUnits≤A.units+1
 first|exact Qi _|simp[Code.cUnits,Code.frames,Code.isFrame]
theorem Zf4{A:Around}{R:Result→Shared→Prop}{l I S:Addr}{ts:Zb9}{sh:List Bool}{h0:Heap}{kw:List (Str×Value)}(hh:A.handled=none)(hu:A.units+4<cLine)(hlist:h0.IsList l (ts.map fun t=>Value.ref t.1).toArray)
  (hI:h0.get? I=none) (hS:h0.get? S=none) (hSI:S≠I) (htup:∀t∈ts,∃its:List Value,Zy (t.2.map kV) its∧IsTup h0 t.1 its.toArray) (hsh:∀t∈ts,Zar t.2=sh) (s0:Shared)
  (q:∀ (h':Heap) (t:Addr×List Key),(∀b o,h0.get? b=some o→h'.get? b=some o)→t∈ts→(∀u∈ts,ZU u.2 t.2=false)→R (.ok (.ret (.ref t.1))) { s0 with heap:=h' }) :
  ∀ (k j:Nat) (h:Heap) (t:Addr×List Key) (c:Nat),ts.length-j=k→j≤ts.length→(∀b o,h0.get? b=some o→h.get? b=some o)→h.IsListIter I l j→h.get? S=some { cls:=.type "list",data:=.seq #[.ref t.1,.ref t.1] c }→t∈ts →
   (∀u∈ts.take j,ZU u.2 t.2=false)→codeAny (model prog w) A (.builtin "min.loop" { pos:=[.ref I,.none,.ref S],kw:=kw }) R { s0 with heap:=h }
 | k,j,h,t,c,hk,hj,keep,hit,hst,htm,hbest=>by
  refine codeAny_builtin F.entry_min_loop ?_
  show wpAny _ _ (seqItems? (.ref S) >>= _) _ _ _
  refine wpAny_bind (wpAny_seqItems hst rfl ?_)
  have keepL:h.IsList l (ts.map fun t=>Value.ref t.1).toArray:=by
   obtain⟨o,ho,r⟩:=hlist
   exact⟨o,keep _ _ ho,r⟩
  by_cases hlt:j<ts.length
  ·have hx:((ts.map fun t=>Value.ref t.1).toArray)[j]? = some (Value.ref ts[j].1):=by simp[hlt]
   refine wpAny_bind (wpAny_tryCatch (wpAny_pyNext_list_item hit keepL hx fun h1 hit1 sb=>?_))
   have keep1:∀b o,h0.get? b=some o→h1.get? b=some o:=fun b o hb=>by
    have nb:b≠I:=fun e=>by rw[e,hI]at hb;cases hb
    rw[sb.2 b nb];exact keep b o hb
   have hst1:h1.get? S=some { cls:=.type "list",data:=.seq #[.ref t.1,.ref t.1] c }:=by rw[sb.2 S hSI];exact hst
   refine wpAny_bind (wpAny_pure ?_)
   have hjm:ts[j]∈ts:=QX hlt
   obtain⟨i1,v1,t1⟩:=htup _ hjm
   obtain⟨i2,v2,t2⟩:=htup _ htm
   have tup1:∀ {a:Addr} {its:List Value},IsTup h0 a its.toArray→IsTup h1 a its.toArray:=fun ⟨o,ho,hc⟩=>⟨o,keep1 _ _ ho,hc⟩
   have hsh1:Zar ts[j].2=Zar t.2:=(hsh _ hjm).trans (hsh _ htm).symm
   refine wpAny_bind (wpAny_tryCatch (wpAny_holding (wpAny_bind (Zjq (tup1 t1) (tup1 t2) (by simpa using v1) (by simpa using v2) hsh1 (QaE ZkY (by lia)) (wpAny_bind (wpAny_holding (wpAny_truthy_bool (wpAny_bind (wpAny_letGo (wpAny_pure ?_))))))))))
   cases hb:ZU ts[j].2 t.2 with
   | true =>
    refine wpAny_bind (wpAny_updateSeq hst1 rfl ?_ (by show 2≤_;rw[sizeLine_eq];decide) (by show 2≤_;rw[sizeLine_eq];decide))
    refine wpAny_bind (wpAny_letGo (wpAny_pure ⟨rfl,?_⟩))
    refine Zf4 hh hu hlist hI hS hSI htup hsh s0 q (k-1) (j+1) _ ts[j] c (by lia) (by lia) (fun b o hb'=>?_) ?_ ?_ hjm (fun u hu'=>?_)
    ·have nb:S≠b:=fun e=>by rw[← e,hS]at hb';cases hb'
     exact Q7 _ nb (keep1 b o hb')
    ·obtain⟨o,ho,r⟩:=hit1
     exact⟨o,Q7 _ hSI ho,r⟩
    ·have:=get?_update_seq (c := "list") hst1 (fun _=>#[.ref ts[j].1,.ref ts[j].1])
     simpa using this
    ·rw[QM,Qb hlt]at hu'
     rcases Qh.mp hu' with hu'|hu'
     ·have:=hbest u hu'
      cases hz:ZU u.2 ts[j].2 with
      | false=>rfl
      | true=>rw[ZbM _ _ _ hz hb]at this;cases this
     ·have:u=ts[j]:=by simpa using hu'
      rw[this];exact ZbA _
   | false =>
    refine wpAny_bind (wpAny_letGo (wpAny_pure ⟨rfl,?_⟩))
    refine Zf4 hh hu hlist hI hS hSI htup hsh s0 q (k-1) (j+1) h1 t c (by lia) (by lia) keep1 hit1 hst1 htm (fun u hu'=>?_)
    rw[QM,Qb hlt]at hu'
    rcases Qh.mp hu' with hu'|hu'
    ·exact hbest u hu'
    ·have:u=ts[j]:=by simpa using hu'
     rw[this];exact hb
  ·have hx:((ts.map fun t=>Value.ref t.1).toArray)[j]? = none:=by simp;lia
   refine wpAny_bind (wpAny_tryCatch (wpAny_pyNext_list_end hh hit keepL hx fun h1 eb=>?_))
   have hst1:h1.get? S=some { cls:=.type "list",data:=.seq #[.ref t.1,.ref t.1] c }:=eb S _ hSI hst
   refine wpAny_bind (wpAny_updateSeq hst1 rfl ?_ (by show 2≤_;rw[sizeLine_eq];decide) (by show 0≤_;lia))
   refine wpAny_bind (wpAny_letGo (wpAny_pure ?_))
   refine q _ t (fun b o hb=>?_) htm (fun u hu'=>hbest u (by rw[QB (by lia)];exact hu'))
   have nb:S≠b:=fun e=>by rw[← e,hS]at hb;cases hb
   have nI:b≠I:=fun e=>by rw[e,hI]at hb;cases hb
   exact Q7 _ nb (eb b o nI (keep b o hb))
termination_by k=>k
theorem ZlY{A:Around}{R:Result→Shared→Prop}{l I S:Addr}{ts:Zb9}{sh:List Bool}{h0 h:Heap}{c:Nat}{kw:List (Str×Value)}(hh:A.handled=none)(hu:A.units+4<cLine)(hlist:h0.IsList l (ts.map fun t=>Value.ref t.1).toArray)
  (hI:h0.get? I=none) (hS:h0.get? S=none) (hSI:S≠I) (htup:∀t∈ts,∃its:List Value,Zy (t.2.map kV) its∧IsTup h0 t.1 its.toArray) (hsh:∀t∈ts,Zar t.2=sh) (s0:Shared) (keep:∀b o,h0.get? b=some o→h.get? b=some o) (hit:h.IsListIter I l 0) (hst:h.get? S=some { cls:=.type "list",data:=.seq #[] c })
  (hne:ts≠[]∨∃n d kr,kw=(n,d)::kr∧∀h':Heap,(∀b o,h0.get? b=some o→h'.get? b=some o)→R (.ok (.ret d)) { s0 with heap:=h' })
  (q:∀ (h':Heap) (t:Addr×List Key),(∀b o,h0.get? b=some o→h'.get? b=some o)→t∈ts→(∀u∈ts,ZU u.2 t.2=false)→R (.ok (.ret (.ref t.1))) { s0 with heap:=h' }) :
  codeAny (model prog w) A (.builtin "min.loop" { pos:=[.ref I,.none,.ref S],kw:=kw }) R { s0 with heap:=h }:=by
 refine codeAny_builtin F.entry_min_loop ?_
 show wpAny _ _ (seqItems? (.ref S) >>= _) _ _ _
 refine wpAny_bind (wpAny_seqItems hst rfl ?_)
 have keepL:h.IsList l (ts.map fun t=>Value.ref t.1).toArray:=by
  obtain⟨o,ho,r⟩:=hlist
  exact⟨o,keep _ _ ho,r⟩
 cases ts with
 | nil =>
  obtain⟨n,d,kr,rfl,q0⟩:=hne.resolve_left (by simp)
  refine wpAny_bind (wpAny_tryCatch (wpAny_pyNext_list_end hh hit keepL (by simp) fun h1 eb=>?_))
  show wpAny _ _ (rule _ >>= _) _ _ _
  refine wpAny_bind (wpAny_rule (wpAny_pure ?_))
  refine q0 _ fun b o hb=>?_
  have nI:b≠I:=fun e=>by rw[e,hI]at hb;cases hb
  exact eb b o nI (keep b o hb)
 | cons t r =>
  refine wpAny_bind (wpAny_tryCatch (wpAny_pyNext_list_item hit keepL (x:=.ref t.1) (by simp) fun h1 hit1 sb=>?_))
  have keep1:∀b o,h0.get? b=some o→h1.get? b=some o:=fun b o hb=>by
   have nb:b≠I:=fun e=>by rw[e,hI]at hb;cases hb
   rw[sb.2 b nb];exact keep b o hb
  have hst1:h1.get? S=some { cls:=.type "list",data:=.seq #[] c }:=by rw[sb.2 S hSI];exact hst
  refine wpAny_bind (wpAny_pure ?_)
  show wpAny _ _ (updateSeq S _ >>= _) _ _ _
  refine wpAny_bind (wpAny_updateSeq hst1 rfl ?_ (by show 0≤_;lia) (by show 2≤_;rw[sizeLine_eq];decide))
  refine wpAny_pure ⟨rfl,?_⟩
  refine Zf4 hh hu hlist hI hS hSI htup hsh s0 q _ 1 _ t (c+1) rfl (by simp) (fun b o hb'=>?_) ?_ ?_ (by simp) (fun u hu'=>?_)
  ·have nb:S≠b:=fun e=>by rw[← e,hS]at hb';cases hb'
   exact Q7 _ nb (keep1 b o hb')
  ·obtain⟨o,ho,r⟩:=hit1
   exact⟨o,Q7 _ hSI ho,r⟩
  ·have:=get?_update_seq (c := "list") hst1 (fun _=>#[.ref t.1,.ref t.1])
   simpa using this
  ·have:u=t:=by simpa using hu'
   rw[this];exact ZbA _
end
section
variable {X:Cx}
def ZpL(K:PySem.W.Frag):List V→Hp→VK→Prop:=fun vs H Q=>∃ (p:Addr) (ts:Zb9) (sh:List Bool),vs=[.ref p]∧SqL K H p (Z6 ts)∧AtT H ts∧ts≠[]∧(∀t∈ts,Zar t.2=sh) ∧
 ∀t:Addr×List Key,t∈ts→(∀u∈ts,ZU u.2 t.2=false)→Q (.ref t.1) H
theorem Zmd{prog:Program}{w:World}{A:Around}{R:Result→Shared→Prop}{s:Shared}{l:Addr}{ts:Zb9}{sh:List Bool}{kw:List (Str×Value)}{kw2:List (Str×Value)}(hh:A.handled=none)(hu:A.units+4<cLine)(hlist:s.heap.IsList l (ts.map fun t=>Value.ref t.1).toArray)
  (hkw:(kw=[]∧kw2=[])∨∃d,kw=[(Str.ofString "default",d)]∧kw2=[(Str.ofString "default",d)])
  (htup:∀t∈ts,∃its:List Value,Zy (t.2.map kV) its∧IsTup s.heap t.1 its.toArray) (hsh:∀t∈ts,Zar t.2=sh)
  (hne:ts≠[]∨∃n d kr,kw2=(n,d)::kr∧∀h':Heap,(∀b o,s.heap.get? b=some o→h'.get? b=some o)→R (.ok (.ret d)) { s with heap:=h' })
  (q:∀ (h':Heap) (t:Addr×List Key),(∀b o,s.heap.get? b=some o→h'.get? b=some o)→t∈ts→(∀u∈ts,ZU u.2 t.2=false)→R (.ok (.ret (.ref t.1))) { s with heap:=h' }) :
  codeAny (model prog w) A (.call (.builtin "min") { pos:=[.ref l],kw:=kw }) R s:=by
 refine codeAny_call_builtin_at rfl F.entry_min ?_
 have hc:checkBuiltinCall "min" { pos:=[.ref l],kw:=kw }=pure ():=by
  rcases hkw with⟨rfl,_⟩|⟨d,rfl,_⟩<;>rfl
 rw[hc]
 refine wpAny_pure ?_
 have go:∀ {A':Around},A'.handled=none→wpAny (model prog w) A' (pyIter (.ref l) >>= fun it=>newList [] >>= fun b=>again (.builtin "min.loop" { pos:=[it,.none,b],kw:=kw2 })) (fun fin s'=>match fin with
   | Fin.done f=>R (Except.ok f) s'
   | Fin.again c'=>c'.quiet=true∧codeAny (model prog w) A c' R s') (fun e s'=>R (Except.error e) s') s:=fun {A'} hA'=>by
  refine wpAny_bind (wpAny_pyIter_list hlist ?_)
  refine wpAny_bind (wpAny_newList ?_ (by show 0≤_;lia))
  refine wpAny_pure ⟨rfl,?_⟩
  have none_at:∀b,s.heap.objs.size≤b→s.heap.get? b=none:=fun b hb=>by
   cases e:s.heap.get? b with
   | none=>rfl
   | some o=>exact absurd (Qu e) (Nat.not_lt.mpr hb)
  have hsz:(s.heap.push { cls:=Value.type "list_iterator",data:=Data.fields #[Value.ref l,Value.int 0 0] }).objs.size=s.heap.objs.size+1:=size_push' _ _
  refine ZlY (h0:=s.heap) (c:=0) hh hu hlist (none_at _ (Qi _)) (none_at _ (by rw[hsz];exact QaC _)) (by rw[hsz];exact Nat.succ_ne_self _) htup hsh s (fun b o h=>Qd _ (Qd _ h)) ⟨_,Qd _ (QA _ rfl),rfl,rfl⟩ (QA _ rfl) hne q
 rcases hkw with⟨rfl,rfl⟩|⟨d,rfl,rfl⟩
 ·exact go hh
 ·exact go hh
theorem Zlx(hc:X.calm=true)(hu:X.A.units+64<cLine):Z5 X (.builtin "min") (ZpL X.K):=by
 intro pins s σ H vs us Q I r h
 obtain⟨p,ts,sh,rfl,hq,hat,hne,hsh,q⟩:=h
 obtain⟨u,rfl,rx⟩:=ZbJ r
 cases rx
 obtain⟨its,rv,pl,hz⟩:=I.list hq
 have ei:=ZdS rv
 subst ei
 refine wpAny_call (Zmd (sh:=sh) (I.ok.hd hc) (by lia) pl.isList (.inl ⟨rfl,rfl⟩) (fun t ht=>?_) hsh (.inl hne) fun h' t kp ht hmin=>?_)
 ·obtain⟨i,v,q,_⟩:=I.tuple (SqT.of (K:=X.K) (hat t ht))
  exact⟨i,v,q⟩
 ·exact⟨.ref t.1,H,I.kept (t':=s.toks) kp,rfl,q t ht hmin⟩
theorem ZpV(K:PySem.W.Frag){k:Nat}(hr:ZaN k X.A)(hc:X.calm=true:=by rfl)(h:X.K=K:=by rfl):Z5 X (.builtin "min") (ZpL K):=by subst h;exact Zlx hc hr.units
end
theorem ZeW{α β:Type}(f:α→β):∀ (l:List α) (i:Nat),(l.eraseIdx i).map f=(l.map f).eraseIdx i
 | [],_=>rfl
 | a::r,0=>rfl
 | a::r,i+1=>by simp[ZeW f r i]
theorem ZlB{A:Around}{a:Args}:(A.under (.builtin "list.remove.loop" a)).units≤A.units+1:=by
 show A.units+(Code.builtin "list.remove.loop" a).cUnits≤A.units+1
 rw[plainId_units MeetsSeq.plain_remove_loop]
 exact Qi _
def EqS(s:Shared)(items:List Value)(v:Value)(e:Nat→Bool):Prop:=∀ (prog:Program) (w:World) (A:Around) (E:Value→Shared→Prop) (Q:Bool→Shared→Prop) (m:Nat) (x:Value),A.units+2<cLine→items[m]? = some x→Q (e m) s→wpAny (model prog w) A (eqBool x v) Q E s
theorem Zig{prog:Program}{w:World}{A:Around}{R:Result→Shared→Prop}{s:Shared}{l:Addr}{items:List Value}{n:Nat}{v:Value}{e:Nat→Bool}{j:Nat}(hl:s.heap.get? l=some { cls:=.type "list",data:=.seq items.toArray n })(hq:EqS s items v e)(hu:A.units+8<cLine)(hz:items.length≤1000)
  (hj:j<items.length) (h1:e j=true) (h0:∀m,m<j→e m=false) (q:R (.ok (.ret .none)) { s with heap:=s.heap.update l (Obj.mapSeq fun xs=>xs.eraseIdxIfInBounds j) }) :
  ∀ (k i:Nat),j-i=k→i≤j→codeAny (model prog w) A (.builtin "list.remove.loop" { pos:=[.ref l,v,rawInt (i:Int)] }) R s
 | k,i,hk,hi=>by
  refine codeAny_builtin MeetsSeq.entry_remove_loop ?_
  have hx:items.toArray[((i:Nat):Int).toNat]? = some items[i]:=by rw[Qaf];simp
  show wpAny _ _ (Builtin.List.listItems (.ref l) >>= _) _ _ _
  refine wpAny_bind (Zbk hl rfl ?_)
  show wpAny _ _ (match items.toArray[((i:Nat):Int).toNat]? with|none=>_|some x=>_) _ _ _
  rw[hx]
  refine wpAny_bind (hq prog w _ _ _ i _ (QaE (Nat.add_le_add_right ZlB 2) (by lia)) (by simp) ?_)
  by_cases e0:i=j
  ·subst e0
   rw[h1]
   show wpAny _ _ (updateSeq l _ >>= _) _ _ _
   refine wpAny_bind (wpAny_updateSeq hl rfl ?_ (by rw[Qs,sizeLine_eq];lia) ?_)
   ·rw[Qaf]
    exact wpAny_pure q
   ·show (items.toArray.eraseIdxIfInBounds ((i:Nat):Int).toNat).size≤_
    rw[Qaz,Qs,sizeLine_eq]
    have:=List.length_eraseIdx_le items ((i:Nat):Int).toNat
    lia
  ·rw[h0 i (by lia)]
   refine wpAny_pure ⟨plainId_quiet MeetsSeq.plain_remove_loop _,?_⟩
   have:=Zig (prog:=prog) (w:=w) hl hq hu hz hj h1 h0 q (k-1) (i+1) (by lia) (by lia)
   rw[show ((i+1:Nat):Int)=(i:Int)+1 by lia]at this
   exact this
termination_by k=>k
theorem Zg8(l:Addr)(items:List Value)(n:Nat)(v:Value)(e:Nat→Bool)(j:Nat):Meets (Builtin.«list.remove» { pos:=[.ref l,v] }) (fun A R s=>s.heap.get? l=some { cls:=.type "list",data:=.seq items.toArray n }∧EqS s items v e∧A.units+8<cLine∧items.length≤1000∧j<items.length∧e j=true∧(∀m,m<j→e m=false) ∧
  R (.ok (.ret .none)) { s with heap:=s.heap.update l (Obj.mapSeq fun xs=>xs.eraseIdxIfInBounds j) }):=by
 intro prog w A R s ⟨hl,hq,hu,hz,hj,h1,h0,q⟩
 show wpAny _ _ (pure (Fin.again (.builtin "list.remove.loop" { pos:=[.ref l,v,rawInt 0] }))) _ _ _
 exact wpAny_pure ⟨plainId_quiet MeetsSeq.plain_remove_loop _,Zig hl hq hu hz hj h1 h0 q j 0 rfl (Qv _)⟩
section
variable {X:Cx}
def Zpy:V→List V→Hp→VK→Prop:=fun x vs H Q=>∃ (l:Addr) (ns:List Int) (n:Int),x=.ref l∧vs=[.int n]∧H l=some (.lst (ns.map V.int))∧n∈ns∧ns.length≤1000∧Q .non (upd H l (.lst ((ns.erase n).map V.int)))
theorem Zot(hu:X.A.units+64<cLine):MtM X "list.remove" Zpy:=by
 intro pins s σ H x vs v us Q I rx rv h
 obtain⟨l,ns,n,rfl,rfl,hH,hn,hz,q⟩:=h
 cases rx
 obtain⟨u,rfl,ru⟩:=rv.one
 obtain⟨tu,rfl⟩:=ru
 obtain⟨z,its,n',r,hl,e⟩:=I.lstM hH
 rw[Qa]at hl
 have hj:ns.idxOf n<ns.length:=List.idxOf_lt_length_of_mem hn
 refine call_meets F.slot_list_remove ⟨_,e,rfl⟩ F.entry_list_remove (F.args_list_remove_2 _ _) (Zg8 l its n' _ (fun m=>decide (ns[m]? = some n)) (ns.idxOf n)) ⟨e,?_,by lia,by lia,by lia,?_,?_,?_⟩
 ·intro prog w A E Q' m x _ hx hQ
  have hm:m<ns.length:=by have:=(Qc.mp hx).1;lia
  have hv:(ns.map V.int)[m]? = some (V.int ns[m]):=by rw[Qk,Qb hm];rfl
  obtain⟨y,hy,ry⟩:=r.get hv
  rw[hx]at hy
  cases hy
  obtain⟨ty,rfl⟩:=ry
  refine wpAny_eqBool_int ?_
  have e2:decide (ns[m]? = some n)=(ns[m] == n):=by
   rw[Qb hm]
   by_cases z:ns[m]=n
   ·rw[z];simp
   ·rw[decide_eq_false (fun w=>z (Qq w))];simpa using z
  rw[← e2];exact hQ
 ·exact decide_eq_true (by rw[Qb hj];exact congrArg some (List.getElem_idxOf hj))
 ·intro m hm
  refine decide_eq_false fun w=>?_
  have hml:m<ns.length:=by lia
  rw[Qb hml]at w
  have:=List.not_of_lt_findIdx (xs:=ns) (p:=fun z=>z == n) hm
  rw[Qq w]at this
  simp at this
 ·have hv:Zy ((ns.erase n).map V.int) (its.eraseIdx (ns.idxOf n)):=by
   rw[List.erase_eq_eraseIdx_of_idxOf rfl,ZeW]
   exact r.eraseIdx _
  refine⟨.non,_,I.lset (its':=its.eraseIdx (ns.idxOf n)) hH e ?_ hv ?_,rfl,q⟩
  ·show its.toArray.eraseIdxIfInBounds (ns.idxOf n)=(its.eraseIdx (ns.idxOf n)).toArray
   rw[Qaz]
  ·rw[Qa]
   have:=List.length_erase_le (a:=n) (l:=ns)
   rw[sizeLine_eq];lia
def ZpQ:V→List V→Hp→VK→Prop:=fun x vs H Q=>∃ (l:Addr) (ts:Zb9) (t:Addr×List Key),x=.ref l∧vs=[.ref t.1]∧H l=some (.lst (Z6 ts))∧AtT H ts∧t∈ts∧ts.length≤1000∧∀ (i:Nat) (hi:i<ts.length),ts[i].2=t.2→Q .non (upd H l (.lst (Z6 (ts.eraseIdx i))))
theorem ZoI(hu:X.A.units+64<cLine):MtM X "list.remove" ZpQ:=by
 intro pins s σ H x vs v us Q I rx rv h
 obtain⟨l,ts,t,rfl,rfl,hH,hat,ht,hz,q⟩:=h
 cases rx
 obtain⟨u,rfl,ru⟩:=rv.one
 cases ru
 obtain⟨z,its,n',r,hl,e⟩:=I.lstM hH
 have ei:=ZdS r
 subst ei
 have hj:ts.findIdx (fun u=>decide (u.2=t.2))<ts.length:=List.findIdx_lt_length.mpr ⟨t,ht,decide_eq_true rfl⟩
 have key:∀u∈ts,(tupleKind (ZL X.prog X.w)).is s.heap u.2 u.1:=fun u hu'=>I.tkey (hat u hu')
 have tup:∀u∈ts,∃i:List Value,Zy (u.2.map kV) i∧IsTup s.heap u.1 i.toArray:=fun u hu'=>by
  obtain⟨i,v,q,_⟩:=I.tuple (SqT.of (K:=X.K) (hat u hu'))
  exact⟨i,v,q⟩
 refine call_meets F.slot_list_remove ⟨_,e,rfl⟩ F.entry_list_remove (F.args_list_remove_2 _ _) (Zg8 l _ n' _ (fun m=>match ts[m]? with|some u=>decide (u.2=t.2)|none=>false) (ts.findIdx (fun u=>decide (u.2=t.2)))) ⟨e,?_,by lia,by rw[Qa];lia,by rw[Qa];exact hj,?_,?_,?_⟩
 ·intro prog w A E Q' m x hA hx hQ
  rw[Qk]at hx
  cases hm:ts[m]? with
  | none=>rw[hm]at hx;cases hx
  | some u =>
   rw[hm]at hx
   cases hx
   simp only[hm]at hQ
   obtain⟨i1,v1,o1,g1,c1,n1,d1⟩:=tup u (Qr hm)
   obtain⟨i2,v2,o2,g2,c2,n2,d2⟩:=tup t ht
   refine wpAny_eqBool_tuple (knd:=ZL prog w) (x:=u.2) (y:=t.2) (by lia) ⟨o1,_,n1,g1,c1,d1,?_⟩ ⟨o2,_,n2,g2,c2,d2,?_⟩ hQ
   ·simpa using ZfU u.2 i1 v1
   ·simpa using ZfU t.2 i2 v2
 ·simp only[List.getElem?_eq_getElem hj]
  exact List.findIdx_getElem (w:=hj)
 ·intro m hm
  have hml:m<ts.length:=by lia
  simp only[List.getElem?_eq_getElem hml]
  exact List.not_of_lt_findIdx (xs:=ts) (p:=fun u=>decide (u.2=t.2)) hm
 ·have hv:Zy (Z6 (ts.eraseIdx (ts.findIdx fun u=>decide (u.2=t.2)))) ((ts.map fun t=>Value.ref t.1).eraseIdx (ts.findIdx fun u=>decide (u.2=t.2))):=by
   have:=r.eraseIdx (ts.findIdx fun u=>decide (u.2=t.2))
   unfold Z6 at this ⊢
   rw[ZeW]
   exact this
  refine⟨.non,_,I.lset (its':=(ts.map fun t=>Value.ref t.1).eraseIdx (ts.findIdx fun u=>decide (u.2=t.2))) hH e ?_ hv ?_,rfl,q _ hj (of_decide_eq_true (List.findIdx_getElem (w:=hj)))⟩
  ·show (ts.map fun t=>Value.ref t.1).toArray.eraseIdxIfInBounds _=_
   rw[Qaz]
  ·unfold Z6
   rw[Qa]
   have:=List.length_eraseIdx_le ts (ts.findIdx fun u=>decide (u.2=t.2))
   rw[sizeLine_eq];lia
theorem Zsf{k:Nat}(hr:ZaN k X.A):MtM X "list.remove" Zpy:=Zot hr.units
theorem Zsr{k:Nat}(hr:ZaN k X.A):MtM X "list.remove" ZpQ:=ZoI hr.units
end
section
open PySem.SeqAt
open PySem.AutoSeq1 (wpAny_loadPart')
open PySem.MeetsSeq PySem.MeetsSeq2 PySem.MeetsSeq3
end
section
variable {prog:Program} {w:World} {A:Around} {E:Value→Shared→Prop} {s:Shared}
end
section
variable {X:Cx}
end
section
variable {X:Cx}
end
section
variable {X:Cx} {T name id:String} {r:V→List V→Hp→VK→Prop} {o e:Expr} {es:List Expr} {to:TE} {t:TA} {apos cpos:Pos}
end
section
variable {X:Cx}
def ZpS(K:PySem.W.Frag):List V→Hp→VK→Prop:=fun vs H Q=>∃ (p:Addr) (ns:List Int),vs=[.ref p]∧SqL K H p (ns.map V.int)∧ns.length≤1000∧(∀n∈ns,0≤n∧n≤10000000000000)∧Q (.int ns.sum) H
theorem Zk4(hc:X.calm=true):Z5 X (.builtin "sum") (ZpS X.K):=by
 intro pins s σ H vs us Q I r h
 obtain⟨p,ns,rfl,hq,hn,hb,q⟩:=h
 obtain⟨u,rfl,rx⟩:=ZbJ r
 cases rx
 obtain⟨its,rv,pl,_⟩:=I.list hq
 have hi:=Zec rv
 obtain⟨xs,e⟩:=hi.allInts.items
 have hns:ns=xs.toList.map (·.1):=by rw[← hi.numsOf,← nums_intItems,← e]
 have hsz:xs.size=ns.length:=by rw[hns,Qa,Qaa]
 have hnum:numAt xs=fun j=>ns.getD j 0:=by funext j;rw[numAt_eq,hns]
 have hl:=pl.isList
 rw[e]at hl
 have bound:∀n,n≤ns.length→0≤(ns.take n).sum∧(ns.take n).sum≤10000000000000*n:=by
  intro n
  induction n with
  | zero=>intro _;exact⟨by simp,by simp⟩
  | succ n ih =>
   intro h
   have ih:=ih (by lia)
   have hm:=hb ns[n] (QX (by lia))
   have e2:ns.take (n+1)=ns.take n++[ns[n]]:=by rw[QM,Qb (by lia)];rfl
   rw[e2,Qak]
   have e3:([ns[n]]:List Int).sum=ns[n]:=by simp
   rw[e3]
   lia
 refine sum_intList (I.ok.hd hc) hl (fun j hj=>?_) fun h' tk t' hk=>⟨.int _,H,I.kept hk,⟨t',rfl⟩,?_⟩
 ·rw[hnum]
  have hm:=hb ns[j] (QX (by lia))
  have hg:ns.getD j 0=ns[j]:=by rw[Qm,Qb (by lia)];rfl
  have hp:=bound (j+1) (by lia)
  refine⟨⟨?_,?_⟩,⟨?_,?_⟩⟩
  ·show -(2 ^ 63)≤ns.getD j 0
   rw[hg];lia
  ·show ns.getD j 0<2 ^ 63
   rw[hg];lia
  ·rw[Zdw ns (j+1) (by lia)];lia
  ·rw[Zdw ns (j+1) (by lia)];lia
 ·rw[hnum,hsz,Zdw ns ns.length (Qi _),QB (Qi _)]
  exact q
theorem Zrp(K:PySem.W.Frag)(hc:X.calm=true:=by rfl)(h:X.K=K:=by rfl):Z5 X (.builtin "sum") (ZpS K):=by subst h;exact Zk4 hc
end
theorem Zo6{H:Hp}{k:List Key}{kvs:List (List Key×V)}{xs:List (List Key×Addr×Value)}(r:Zep H kvs xs):∀ {v:V},Zah kvs k=some v→∃p,atKey xs k=some p∧ZE v p.2:=by
 induction r with
 | nil=>intro v h;cases h
 | @cons p q ps qs h t ih =>
  intro v hv
  unfold Zah at hv
  unfold atKey
  rw[Qaw]at hv ⊢
  rw[← h.1]
  by_cases e:p.1=k
  ·rw[decide_eq_true e]at hv ⊢
   cases hv
   exact⟨q.2,rfl,h.2.2⟩
  ·rw[decide_eq_false e]at hv ⊢
   exact ih hv
theorem ZoE{H:Hp}{k:List Key}{kvs:List (List Key×V)}{xs:List (List Key×Addr×Value)}(r:Zep H kvs xs):Zah kvs k=none→atKey xs k=none:=by
 induction r with
 | nil=>intro _;rfl
 | @cons p q ps qs h t ih =>
  intro hv
  unfold Zah at hv
  unfold atKey
  rw[Qaw]at hv ⊢
  rw[← h.1]
  by_cases e:p.1=k
  ·rw[decide_eq_true e]at hv
   cases hv
  ·rw[decide_eq_false e]at hv ⊢
   exact ih hv
theorem ZaT{kvs:List (List Key×V)}{k k':List Key}{v:V}:Zah (kvs++[(k,v)]) k'=(Zah kvs k').or (if k=k' then some v else none):=by
 unfold Zah
 rw[List.find?_append]
 cases h:kvs.find? fun kv=>decide (kv.1=k') with
 | some x=>rfl
 | none =>
  by_cases e:k=k'
  ·simp[e]
  ·simp[e]
section
variable {X:Cx}
def ZgL:R2:=fun x y H Q=>∃d kvs b ks v,x=.ref d∧y=.ref b∧H d=some (.dT kvs)∧H b=some (.tup (ks.map kV))∧Zah kvs ks=some v∧Q v H
theorem ZrA(hu:X.A.units+64<cLine):IxR X ZgL:=by
 intro value slice pins s σ H x y v u Q I rx ry h hs
 obtain⟨d,kvs,b,ks,z,rfl,rfl,hH,hb,hk,q⟩:=h
 cases rx
 cases ry
 obtain⟨_,hd,xs,rel,o,es,ep,ho,hex,hdat,hent,hnd⟩:=(show Zad X.prog X.w H s.heap d (.dT kvs) from I.hok d _ hH)
 have hm:s.heap.DictOfH (tupleKind (ZL X.prog X.w)) d xs:=⟨o,es,ep,ho,hex,hdat,hent,Zf2 (R:=fun ks b=>(tupleKind (ZL X.prog X.w)).is s.heap ks b) (fun ks b e=>I.tkey e) rel,hnd⟩
 obtain⟨p,hp,rp⟩:=Zo6 rel hk
 exact subscriptTail_builtinR (x:=p.2) hm.typeIs PySem.F.slot_dict_getitem.lookup (wpAny_getItem_heap (knd:=tupleKind (ZL X.prog X.w)) (by show X.A.units+1<cLine;lia) (I.tkey hb) hm hp ⟨rfl,z,H,I.tok _,rp,q⟩) hs
theorem ixD{k:Nat}(hr:ZaN k X.A):IxR X ZgL:=ZrA hr.units
def Zf9:ZnA:=fun o i v H Q=>∃d kvs b ks,o=.ref d∧i=.ref b∧H d=some (.dT kvs)∧H b=some (.tup (ks.map kV))∧Zah kvs ks=none∧kvs.length<sizeLine∧Q (upd H d (.dT (kvs++[(ks,v)])))
theorem Zqc(hu:X.A.units+64<cLine):Zmn X Zf9:=by
 intro pins s σ H o i v ov iv u Q I ro ri rv h
 obtain⟨d,kvs,b,ks,rfl,rfl,hH,hb,hk,hz,q⟩:=h
 cases ro
 cases ri
 obtain⟨_,hd,xs,rel,o,es,ep,ho,hex,hdat,hent,hnd⟩:=(show Zad X.prog X.w H s.heap d (.dT kvs) from I.hok d _ hH)
 have hm:s.heap.DictOfH (tupleKind (ZL X.prog X.w)) d xs:=⟨o,es,ep,ho,hex,hdat,hent,Zf2 (R:=fun ks b=>(tupleKind (ZL X.prog X.w)).is s.heap ks b) (fun ks b e=>I.tkey e) rel,hnd⟩
 have hl:=ZmX rel
 have hno:=ZoE rel hk
 refine wpAny_setItem_heap (knd:=tupleKind (ZL X.prog X.w)) (k:=ks) (by show X.A.units+1<cLine;lia) (I.tkey hb) hm (fun h' hm' hs=>?_) (by lia)
 rw[storedH_new hno]at hm'
 obtain⟨o',es',ep',g1,g2,g3,g4,_,g5⟩:=hm'
 refine⟨_,?_,q⟩
 refine I.write (x:=d) (e:=d) (by rw[hH];exact True.intro) (.inl rfl) (fun c q hc z=>(hs.2 c hc).trans z) ⟨o',g1⟩ ?_
 refine⟨by rw[Qg,Qj];lia,hd,xs++[(ks,b,u)],?_,o',es',ep',g1,g2,g3,g4,g5⟩
 refine Zht (fun c ys ec=>?_) (ZlS rel ⟨rfl,hb,rv⟩)
 rw[Ze (ZgW ec hH (fun z=>nomatch z))]
 exact ec
theorem Zqq{k:Nat}(hr:ZaN k X.A):Zmn X Zf9:=Zqc hr.units
end
section
variable {prog:Program} {w:World} {A:Around} {E:Value→Shared→Prop} {s:Shared}
end
section
variable {prog:Program} {w:World} {A:Around} {R:Result→Shared→Prop} {s:Shared}
end
section
variable {X:Cx} {N N':List Str} {o c:Scope}
end
end L2
namespace Hf
open L2
abbrev PW:=List (Int×Nat)
def val(P:PW):Int:=(P.map fun p=>p.1*(p.2:Int)).sum
def ws(P:PW):List Int:=P.map (·.1)
def ds(P:PW):List Nat:=P.map (·.2)
def zs(z:Nat):List Int:=List.replicate z 0
def kr(w E:Nat)(D:List Nat):Nat:=(D.map fun d=>w ^ (E-d)).sum
inductive Hu (w:Nat):List Int→Nat→Int→Prop
 | stop {e:Int} {m:Nat}:Hu w [e] m 0
 | step {E L:List Int} {m:Nat} {C:Int}:1<L.length→E.Perm L→L.Pairwise (·≤·)→Hu w (L.drop m++[(L.take m).sum]) w C→Hu w E m (C+(L.take m).sum)
def Fit(w n m:Nat):Prop:=n=1∨∃t,n=m+t*(w-1)
structure Fits (w n m:Nat):Prop where
 w2:2≤w
 m2:2≤m
 mw:m≤w
 ok:Fit w n m
end Hf
namespace L2
open PySem PySem.Spec PyProof.Rows
section
variable {prog:Program} {w:World} {A:Around} {R:Result→Shared→Prop} {s:Shared}
end
section
variable {X:Cx} {N N':List Str} {o c:Scope}
end
section
variable {κ:Type} [DecidableEq κ]
def ZcE(kvs:List (κ×V))(k:κ):Option V:=(kvs.find? fun kv=>decide (kv.1=k)).map (·.2)
def Zd2(kvs:List (κ×V))(k:κ)(v:V):List (κ×V) :=
 if (kvs.any fun kv=>decide (kv.1=k))=true then kvs.map (fun kv=>if kv.1=k then (kv.1,v) else kv) else kvs++[(k,v)]
theorem ZdQ{p:κ×V}{r:List (κ×V)}{k:κ}(e:p.1=k):ZcE (p::r) k=some p.2:=by simp[ZcE,List.find?_cons,e]
theorem Zdy{p:κ×V}{r:List (κ×V)}{k:κ}(e:¬ p.1=k):ZcE (p::r) k=ZcE r k:=by simp[ZcE,List.find?_cons,e]
theorem ZfI(k:κ):∀kvs:List (κ×V),(kvs.any fun kv=>decide (kv.1=k))=(ZcE kvs k).isSome
 | []=>rfl
 | p::r=>by
  rw[QaS]
  by_cases e:p.1=k
  ·simp only[ZdQ e,decide_eq_true e,Bool.true_or,Option.isSome_some]
  ·rw[Zdy e,decide_eq_false e,Bool.false_or];exact ZfI k r
theorem Zfj(kvs:List (κ×V))(k:κ)(v:V):(Zd2 kvs k v).length≤kvs.length+1:=by
 unfold Zd2
 split
 ·rw[Qa];lia
 ·rw[Qg,QK,List.length_nil];lia
theorem Zoa{kvs:List (κ×V)}{k:κ}(v:V)(h:ZcE kvs k=none):Zd2 kvs k v=kvs++[(k,v)]:=by
 unfold Zd2
 rw[ZfI,h]
 exact if_neg (by decide)
theorem Zdm.isSome_eq{o:Option V}{u:Option Value}(r:Zdm o u):o.isSome=u.isSome:=by
 cases o with
 | none=>cases u with
  | none=>rfl
  | some _=>exact(show False from r).elim
 | some _=>cases u with
  | none=>exact(show False from r).elim
  | some _=>rfl
theorem Zdm.getD{o:Option V}{u:Option Value}{d:V}{d':Value}(r:Zdm o u)(rd:ZE d d'):ZE (o.getD d) (u.getD d'):=by
 cases o with
 | none=>cases u with
  | none=>exact rd
  | some _=>exact(show False from r).elim
 | some _=>cases u with
  | none=>exact(show False from r).elim
  | some _=>exact r
theorem KV.val{kvs:List (κ×V)}{vs:List (κ×Value)}(r:KV kvs vs)(k:κ):Zdm (ZcE kvs k) (valueAt vs k):=by
 unfold KV at r
 induction r with
 | nil=>exact True.intro
 | @cons p q ps qs h t ih =>
  obtain⟨h1,h2⟩:=h
  by_cases e:p.1=k
  ·have e':q.1=k:=h1.symm.trans e
   have b:valueAt (q::qs) k=some q.2:=by simp[valueAt,List.find?_cons,e']
   rw[ZdQ e,b];exact h2
  ·have e':¬ q.1=k:=fun z=>e (h1.trans z)
   have b:valueAt (q::qs) k=valueAt qs k:=by simp[valueAt,List.find?_cons,e']
   rw[Zdy e,b];exact ih
theorem KV.any{kvs:List (κ×V)}{vs:List (κ×Value)}(r:KV kvs vs)(k:κ):(kvs.any fun kv=>decide (kv.1=k))=vs.any fun kv=>decide (kv.1=k):=by
 unfold KV at r
 induction r with
 | nil=>rfl
 | cons h t ih=>rw[QaS,QaS,ih,h.1]
theorem KV.repl{kvs:List (κ×V)}{vs:List (κ×Value)}(r:KV kvs vs)(k:κ){y:V}{u:Value}(ry:ZE y u) :
  KV (kvs.map fun kv=>if kv.1=k then (kv.1,y) else kv) (vs.map fun kv=>if kv.1=k then (kv.1,u) else kv):=by
 unfold KV at r ⊢
 induction r with
 | nil=>exact .nil
 | @cons p q ps qs h t ih =>
  rw[Ql,Ql]
  refine .cons ?_ ih
  obtain⟨h1,h2⟩:=h
  by_cases e:p.1=k
  ·rw[if_pos e,if_pos (h1.symm.trans e)];exact⟨h1,ry⟩
  ·rw[if_neg e,if_neg (fun z=>e (h1.trans z))];exact⟨h1,h2⟩
theorem KV.put{kvs:List (κ×V)}{vs:List (κ×Value)}(r:KV kvs vs)(k:κ){y:V}{u:Value}(ry:ZE y u):KV (Zd2 kvs k y) (stored vs k u):=by
 unfold Zd2 stored
 rw[r.any k]
 by_cases e:(vs.any fun kv=>decide (kv.1=k))=true
 ·rw[if_pos e,if_pos e];exact r.repl k ry
 ·rw[if_neg e,if_neg e];exact Paired.snoc r ⟨rfl,ry⟩
theorem KV.length{kvs:List (κ×V)}{vs:List (κ×Value)}(r:KV kvs vs):kvs.length=vs.length:=Paired.length r
end
theorem Zj1{P:Program}{w:World}{k:Key}{u:Value}(r:ZE (kV k) u):(ZL P w).is k u=true:=by
 cases k with
 | inl i=>obtain⟨t,e⟩:=(show ∃t,u=Value.int i t from r);subst e;exact Zfg P w i t
 | inr x=>obtain⟨t,e⟩:=(show ∃t,u=Value.str x t from r);subst e;exact Zff P w x t
theorem ZgQ{P:Program}{w:World}:∀ {ks:List Key} {us:List Value},Zy (ks.map kV) us→ItemsAre (ZL P w) ks us
 | [],_,r=>by rw[Qap]at r;cases r;exact .nil
 | k::ks,_,r=>by
  rw[Ql]at r
  cases r with
  | cons h t=>exact .cons (Zj1 h) (ZgQ t)
abbrev KT(H:Hp):List (List Key×V)→List (List Key×Addr×Value)→Prop:=Paired fun p q=>p.1=q.1∧H q.2.1=some (.tup (p.1.map kV))∧ZE p.2 q.2.2
theorem KT.val{H:Hp}{kvs:List (List Key×V)}{xs:List (List Key×Addr×Value)}(r:KT H kvs xs)(k:List Key):Zdm (ZcE kvs k) ((atKey xs k).map (·.2)):=by
 induction r with
 | nil=>exact True.intro
 | @cons p q ps qs h t ih =>
  obtain⟨h1,_,h2⟩:=h
  by_cases e:p.1=k
  ·have e':q.1=k:=h1.symm.trans e
   have b:atKey (q::qs) k=some q.2:=by simp[atKey,List.find?_cons,e']
   rw[ZdQ e,b];exact h2
  ·have e':¬ q.1=k:=fun z=>e (h1.trans z)
   have b:atKey (q::qs) k=atKey qs k:=by simp[atKey,List.find?_cons,e']
   rw[Zdy e,b];exact ih
theorem KT.repl{H:Hp}{kvs:List (List Key×V)}{xs:List (List Key×Addr×Value)}(r:KT H kvs xs)(k:List Key){y:V}{u:Value}(ry:ZE y u) :
  KT H (kvs.map fun kv=>if kv.1=k then (kv.1,y) else kv) (xs.map (putAt k u)):=by
 induction r with
 | nil=>exact .nil
 | @cons p q ps qs h t ih =>
  rw[Ql,Ql]
  refine .cons ?_ ih
  obtain⟨h1,h2,h3⟩:=h
  unfold putAt
  by_cases e:p.1=k
  ·rw[if_pos e,if_pos (h1.symm.trans e)];exact⟨h1,h2,ry⟩
  ·rw[if_neg e,if_neg (fun z=>e (h1.trans z))];exact⟨h1,h2,h3⟩
theorem KT.put{H:Hp}{kvs:List (List Key×V)}{xs:List (List Key×Addr×Value)}(r:KT H kvs xs)(k:List Key){b:Addr}{y:V}{u:Value}(hb:H b=some (.tup (k.map kV)))(ry:ZE y u) :
  KT H (Zd2 kvs k y) (storedH xs k b u):=by
 have e:(kvs.any fun kv=>decide (kv.1=k))=(atKey xs k).isSome:=by
  rw[ZfI,(r.val k).isSome_eq,Option.isSome_map]
 unfold Zd2 storedH
 rw[e]
 by_cases q:(atKey xs k).isSome=true
 ·rw[if_pos q,if_pos q];exact r.repl k ry
 ·rw[if_neg q,if_neg q];exact Paired.snoc r ⟨rfl,hb,ry⟩
theorem KT.keeps{H H':Hp}{kvs:List (List Key×V)}{xs:List (List Key×Addr×Value)}(r:KT H kvs xs)(ht:∀b ys,H b=some (.tup ys)→H' b=some (.tup ys)):KT H' kvs xs :=
 Paired.mapP r fun _ _ z=>⟨z.1,ht _ _ z.2.1,z.2.2⟩
section
variable {P:Program} {w:World} {H:Hp} {h:Heap} {a:Addr}
theorem ZpT{u:HO}(ok:HOk P w H h)(e:Rd H a u):Zad P w H h a u:=e.ok ok
theorem Zhr{kvs:List (Key×V)}(ok:HOk P w H h)(e:Rd H a (.dK kvs)):kvs.length≤sizeLine∧(a == sysModules)=false∧∃vs,KV kvs vs∧h.DictOf (ZL P w) a vs :=
 show Zad P w H h a (.dK kvs) from ZpT ok e
theorem Zrs{kvs:List (Key×V)}(ok:HOk P w H h)(e:H a=some (.dK kvs)):kvs.length≤sizeLine∧(a == sysModules)=false∧∃vs,KV kvs vs∧h.DictOf (ZL P w) a vs:=Zhr ok (.inl e)
theorem ZhP{ks:List Key}(ok:HOk P w H h)(e:H a=some (.tup (ks.map kV))):(tupleKind (ZL P w)).is h ks a:=by
 obtain⟨_,its,r,o,h1,h2,n,h3⟩:=(show Zad P w H h a (.tup (ks.map kV)) from ok a _ e)
 exact⟨o,its.toArray,n,h1,h2,h3,by simpa using ZgQ r⟩
theorem ZiH{kvs:List (List Key×V)}(ok:HOk P w H h)(e:Rd H a (.dT kvs)):kvs.length≤sizeLine∧(a == sysModules)=false ∧
  ∃xs,KT H kvs xs∧h.DictOfH (tupleKind (ZL P w)) a xs:=by
 obtain⟨z,y,xs,r,o,es,ep,h1,h2,h3,h4,h5⟩:=(show Zad P w H h a (.dT kvs) from ZpT ok e)
 refine⟨z,y,xs,r,o,es,ep,h1,h2,h3,h4,fun x hx=>?_,h5⟩
 have all:∀ {l:List (List Key×V)} {m:List (List Key×Addr×Value)},KT H l m→∀x∈m,(tupleKind (ZL P w)).is h x.1 x.2.1:=by
  intro l m q
  induction q with
  | nil=>intro x hx;exact nomatch hx
  | @cons p q ps qs hq t ih =>
   intro x hx
   rcases QO.mp hx with e|hx
   ·subst e
    exact ZhP ok (by rw[← hq.1];exact hq.2.1)
   ·exact ih x hx
 exact all r x hx
theorem ZrX{kvs:List (List Key×V)}(ok:HOk P w H h)(e:H a=some (.dT kvs)):kvs.length≤sizeLine∧(a == sysModules)=false ∧
  ∃xs,KT H kvs xs∧h.DictOfH (tupleKind (ZL P w)) a xs:=ZiH ok (.inl e)
end
def Zdo(H:Hp)(a:Addr)(y:V)(r:Option V):Prop :=
 (∃kvs k,Rd H a (.dK kvs)∧y=kV k∧r=ZcE kvs k)∨∃kvs k b,Rd H a (.dT kvs)∧y=.ref b∧H b=some (.tup (k.map kV))∧r=ZcE kvs k
def Zgd(H:Hp)(a:Addr)(y v:V)(H':Hp):Prop :=
 (∃kvs k,H a=some (.dK kvs)∧y=kV k∧kvs.length<sizeLine∧H'=upd H a (.dK (Zd2 kvs k v))) ∨
 ∃kvs k b,H a=some (.dT kvs)∧y=.ref b∧H b=some (.tup (k.map kV))∧kvs.length<sizeLine∧H'=upd H a (.dT (Zd2 kvs k v))
theorem Zdo.k{H:Hp}{a:Addr}{kvs:List (Key×V)}{k:Key}(e:H a=some (.dK kvs)):Zdo H a (kV k) (ZcE kvs k):=.inl ⟨kvs,k,.inl e,rfl,rfl⟩
theorem Zdo.t{H:Hp}{a b:Addr}{kvs:List (List Key×V)}{k:List Key}(e:H a=some (.dT kvs))(eb:H b=some (.tup (k.map kV))):Zdo H a (.ref b) (ZcE kvs k):=.inr ⟨kvs,k,b,.inl e,rfl,eb,rfl⟩
theorem Zgd.k{H:Hp}{a:Addr}{kvs:List (Key×V)}{k:Key}{v:V}(e:H a=some (.dK kvs))(hl:kvs.length<sizeLine):Zgd H a (kV k) v (upd H a (.dK (Zd2 kvs k v))):=.inl ⟨kvs,k,e,rfl,hl,rfl⟩
theorem Zgd.t{H:Hp}{a b:Addr}{kvs:List (List Key×V)}{k:List Key}{v:V}(e:H a=some (.dT kvs))(eb:H b=some (.tup (k.map kV)))(hl:kvs.length<sizeLine) :
  Zgd H a (.ref b) v (upd H a (.dT (Zd2 kvs k v))):=.inr ⟨kvs,k,b,e,rfl,eb,hl,rfl⟩
section
variable {X:Cx} {pins:List (Addr×Obj)} {σ:St} {H:Hp} {s:Shared} {a:Addr} {y v:V} {u r:Value} {o:Option V} {A:Around} {E:Value→Shared→Prop}
theorem Inv.big(I:Inv X pins σ H s):sysModules<s.heap.objs.size:=by
 have h:mainGlobals<s.heap.objs.size:=(I.mod.glob.keeps I.bk).lt
 exact Nat.lt_trans (by decide) h
theorem ZlL{Q:Value→Shared→Prop}(hu:A.units+1<cLine)(I:Inv X pins σ H s)(g:Zdo H a y (some v))(ry:ZE y u)(h:∀w' s',Inv X pins σ H s'→ZE v w'→Q w' s') :
  wpAny (model X.prog X.w) A (getItem (.ref a) u) Q E s:=by
 rcases g with⟨kvs,k,e,ey,l⟩|⟨kvs,k,b,e,ey,eb,l⟩
 ·subst ey
  obtain⟨z,hd,vs,rel,dd⟩:=Zhr I.hok e
  obtain⟨w',hw,rw'⟩:=Zdm.some_of (v:=v) (o:=valueAt vs k) (by rw[l];exact rel.val k)
  exact wpAny_getItem_of (Zj1 ry) dd.mapOf hw (h w' _ (I.tok _) rw')
 ·subst ey
  cases (show u=Value.ref b from ry)
  obtain⟨z,hd,xs,rel,dd⟩:=ZiH I.hok e
  obtain⟨w',hw,rw'⟩:=Zdm.some_of (v:=v) (o:=(atKey xs k).map (·.2)) (by rw[l];exact rel.val k)
  obtain⟨p,hp,hp2⟩:=Qa0.mp hw
  refine wpAny_getItem_heap (tupleKind_room_in1 hu) (ZhP I.hok eb) dd hp ?_
  rw[hp2]
  exact h w' _ (I.tok _) rw'
theorem ZkN{h':Heap}{t':Nat}{ob:HO}(I:Inv X pins σ H s)(mu:Mut (H a))(hs:Heap.SameBut a s.heap h')(he:∃q,h'.get? a=some q)(new:Zad X.prog X.w (upd H a ob) h' a ob) :
  Inv X pins σ (upd H a ob) { s with heap:=h',toks:=t' } :=
 I.write (x:=a) (e:=a) mu (.inl rfl) (fun b q hb z=>(hs.2 b hb).trans z) he new
theorem Zqs{P:Program}{w:World}{H':Hp}{h':Heap}{kvs:List (Key×V)}{vs:List (Key×Value)}(z:kvs.length≤sizeLine)(hd:(a == sysModules)=false)(rel:KV kvs vs)(dd:h'.DictOf (ZL P w) a vs) :
  Zad P w H' h' a (.dK kvs):=⟨z,hd,vs,rel,dd⟩
theorem ZlC{H':Hp}{Q:Unit→Shared→Prop}(hu:A.units+1<cLine)(I:Inv X pins σ H s)(g:Zgd H a y v H')(ry:ZE y u)(rv:ZE v r)(h:∀s',Inv X pins σ H' s'→Q () s') :
  wpAny (model X.prog X.w) A (setItem (.ref a) u r) Q E s:=by
 rcases g with⟨kvs,k,e,ey,l,eH⟩|⟨kvs,k,b,e,ey,eb,l,eH⟩
 ·subst ey eH
  obtain⟨z,hd,vs,rel,dd⟩:=Zrs I.hok e
  have hz:vs.length≤sizeLine:=by rw[← rel.length];exact z
  have hl:(Zd2 kvs k v).length≤sizeLine:=by have:=Zfj kvs k v;lia
  refine wpAny_setItem_pairs (hsz:=hz) (Zj1 ry) dd fun h' dd' hs=>h _ ?_
  have he:∃q,h'.get? a=some q:=let ⟨q,_,_,hq,_⟩:=dd';⟨q,hq⟩
  exact ZkN I (by rw[e];exact True.intro) hs he (Zqs hl hd (rel.put k rv) dd')
 ·subst ey eH
  cases (show u=Value.ref b from ry)
  obtain⟨z,hd,xs,rel,dd⟩:=ZrX I.hok e
  have hz:xs.length≤sizeLine:=by rw[← Paired.length rel];exact z
  have hl:(Zd2 kvs k v).length≤sizeLine:=by have:=Zfj kvs k v;lia
  refine wpAny_setItem_heap (hsz:=hz) (tupleKind_room_in1 hu) (ZhP I.hok eb) dd fun h' dd' hs=>h _ ?_
  obtain⟨q,es,ep,hq,h2,h3,h4,_,h5⟩:=dd'
  refine ZkN I (by rw[e];exact True.intro) hs ⟨q,hq⟩ ⟨hl,hd,_,(rel.put k eb rv).keeps fun c ys ec=>?_,q,es,ep,hq,h2,h3,h4,h5⟩
  rw[Ze (ZgW ec e (fun z=>nomatch z))]
  exact ec
end
section
variable {X:Cx} {pins:List (Addr×Obj)} {σ:St} {H:Hp} {s:Shared} {a:Addr} {kvs:List (Key×V)} {k:Key} {u:Value} {A:Around} {E:Value→Shared→Prop}
theorem Zry{Q:Value→Shared→Prop}(I:Inv X pins σ H s)(e:Rd H a (.dK kvs))(h:∀t s',Inv X pins σ H s'→Q (.int kvs.length t) s'):wpAny (model X.prog X.w) A (call (.builtin "len") [.ref a]) Q E s:=by
 obtain⟨z,hd,vs,rel,dd⟩:=Zhr I.hok e
 refine call_len_dict hd dd (by rw[← rel.length];rw[sizeLine_eq]at z;lia) ?_
 rw[← rel.length]
 exact h _ _ (I.tok _)
end
theorem ZiZ{X:Cx}{pins:List (Addr×Obj)}{σ:St}{H:Hp}{s:Shared}{a:Addr}{y:V}{o:Option V}(I:Inv X pins σ H s)(g:Zdo H a y o):s.TypeIs (.ref a) "dict":=by
 rcases g with⟨kvs,k,e,_,_⟩|⟨kvs,k,b,e,_,_,_⟩
 ·obtain⟨_,_,vs,_,dd⟩:=Zhr I.hok e
  exact dd.typeIs
 ·obtain⟨_,_,xs,_,dd⟩:=ZiH I.hok e
  exact dd.typeIs
section
variable {X:Cx} {o i e value:Expr} {pos pos' tpos:Pos} {td ty tv:TE}
end
theorem Zmc{P:Program}{w:World}{H:Hp}(h:Heap)(hb:sysModules<h.objs.size):Zad P w H (h.push { cls:=.type "dict",data:=.dict #[] }) h.objs.size (.dK []) :=
 ⟨Qv _,beq_eq_false_iff_ne.mpr (Ne.symm (QF hb)),[],.nil,Heap.DictOf.new h⟩
def ZqZ:TE:=fun _ H Q=>∀p,H p=none→Q (.ref p) (upd H p (.dK []))
section
variable {X:Cx} {pos:Pos}
theorem ZnB:PE X (.Dict [] [] pos) ZqZ:=fun pins s σ H Q I h =>
 wpAny_Dict_empty ⟨.ref s.heap.objs.size,_,I.laid (a:=s.heap.objs.size) (o:=.dK []) (t':=s.toks) (fun _ _ q=>Qd _ q) (Qi _) (Zmc s.heap I.big),rfl,h _ (I.hok.fresh (Qi _))⟩
end
structure M1 (X:Cx) (o:Expr) (m:Str) (apos:Pos) (e:Expr) (cpos:Pos):Prop where
 base:attributeBase o m X.env (eval o X.env)=eval o X.env
 few:((backTo cpos (starEach [e] X.env)).all (fun x=>!x.1)&&(backToKw cpos (keywordEach [] X.env)).all (fun x=>x.1.isSome)
  && decide (([e]:List Expr).length+([]:List Keyword).length+(if ([]:List Keyword).isEmpty then 0 else 1)<30))=true
 line:(apos.endLine == cpos.line)=true
 trees:backTo cpos (starEach [e] X.env)=[(false,eval e X.env)]
structure M2 (X:Cx) (o:Expr) (m:Str) (apos:Pos) (e f:Expr) (cpos:Pos):Prop where
 base:attributeBase o m X.env (eval o X.env)=eval o X.env
 few:((backTo cpos (starEach [e,f] X.env)).all (fun x=>!x.1)&&(backToKw cpos (keywordEach [] X.env)).all (fun x=>x.1.isSome)
  && decide (([e,f]:List Expr).length+([]:List Keyword).length+(if ([]:List Keyword).isEmpty then 0 else 1)<30))=true
 line:(apos.endLine == cpos.line)=true
 trees:backTo cpos (starEach [e,f] X.env)=[(false,eval e X.env),(false,eval f X.env)]
def IsD(H:Hp)(a:Addr):Prop:=(∃kvs,Rd H a (.dK kvs))∨∃kvs,Rd H a (.dT kvs)
theorem Zp7{X:Cx}{pins:List (Addr×Obj)}{σ:St}{H:Hp}{s:Shared}{a:Addr}(I:Inv X pins σ H s)(d:IsD H a) :
  s.TypeIs (.ref a) "dict"∧(∀b,Value.ref a=.ref b→∃ob,s.heap.get? b=some ob∧ob.dict=none)∧(a == sysModules)=false:=by
 rcases d with⟨kvs,e⟩|⟨kvs,e⟩
 ·obtain⟨_,hd,vs,_,dd⟩:=Zhr I.hok e
  refine⟨dd.typeIs,fun b q=>?_,hd⟩
  cases q
  obtain⟨ob,_,_,h1,h2,_⟩:=dd
  exact⟨ob,h1,h2.2.1⟩
 ·obtain⟨_,hd,xs,_,dd⟩:=ZiH I.hok e
  refine⟨dd.typeIs,fun b q=>?_,hd⟩
  cases q
  obtain⟨ob,_,_,h1,h2,_⟩:=dd
  exact⟨ob,h1,h2.2.1⟩
section
variable {X:Cx} {pins:List (Addr×Obj)} {σ:St} {H:Hp} {s:Shared} {a:Addr} {y d:V} {u r:Value} {o:Option V} {A:Around} {E:Value→Shared→Prop}
theorem Zri{Q:Value→Shared→Prop}(hu:A.units+1<cLine)(I:Inv X pins σ H s)(g:Zdo H a y o)(ry:ZE y u)(h:∀w' s',Inv X pins σ H s'→ZE (o.getD .non) w'→Q w' s') :
  wpAny (model X.prog X.w) A (call (.builtin "dict.get") [.ref a,u]) Q E s:=by
 rcases g with⟨kvs,k,e,ey,l⟩|⟨kvs,k,b,e,ey,eb,l⟩
 ·subst ey
  obtain⟨z,hd,vs,rel,dd⟩:=Zhr I.hok e
  refine call_meetsIn PySem.F.slot_dict_get dd.typeIs PySem.F.entry_dict_get (PySem.F.args_dict_get_2 _ _) (meets_dict_get (ZL X.prog X.w) a (Zj1 ry) hd) ⟨_,dd.mapOf,h _ _ (I.tok _) ?_⟩
  rw[l]
  exact(rel.val k).getD rfl
 ·subst ey
  cases (show u=Value.ref b from ry)
  obtain⟨z,hd,xs,rel,dd⟩:=ZiH I.hok e
  refine call_meetsIn PySem.F.slot_dict_get dd.typeIs PySem.F.entry_dict_get (PySem.F.args_dict_get_2 _ _) (meetsH_dict_get (tupleKind (ZL X.prog X.w)) a b hd) ⟨tupleKind_room_in1 hu,k,xs,ZhP I.hok eb,dd,h _ _ (I.tok _) ?_⟩
  rw[l]
  exact(rel.val k).getD rfl
end
def Zmo(td ty:TE):TE:=fun σ H Q=>td σ H fun x H1=>∃a,x=.ref a∧IsD H1 a∧ty σ H1 fun y H2=>∃o,Zdo H2 a y o∧Q (o.getD .non) H2
section
variable {X:Cx} {o e f:Expr} {apos cpos:Pos} {td ty tx:TE}
theorem Zmi(hu:X.A.units+1<cLine)(ho:PE X o td)(he:PE X e ty)(m:M1 X o "get" apos e cpos):PE X (.Call (.Attribute o "get" apos) [e] [] cpos) (Zmo td ty):=by
 intro pins s σ H Q I h
 refine wpAny_Call_method m.base m.few m.line PySem.F.plainAttrs_dict PySem.F.slot_dict_get PySem.F.type_dict_get (thn (ho pins s σ H _ I h) ?_)
 rintro u s1 ⟨x,H1,I1,rx,a,ex,d,q1⟩
 subst ex
 obtain rfl:u=Value.ref a:=rx
 obtain⟨t1,t2,_⟩:=Zp7 I1 d
 refine⟨t1,t2,?_⟩
 rw[m.trees]
 refine Calls.callWith_builtin rfl (Calls.evalArgs_plain (Calls.spliced_cons (thn (he pins s1 σ H1 _ I1 q1) fun iv s2 ⟨y,H2,I2,ry,ov,g,q2⟩=>Calls.spliced_nil ?_)))
 exact Zri hu I2 g ry fun w' s3 I3 rw'=>⟨_,H2,I3,rw',q2⟩
end
section
variable {X:Cx} {pins:List (Addr×Obj)} {σ:St} {H:Hp} {s:Shared} {a:Addr} {kvs:List (Key×V)} {A:Around} {E:Value→Shared→Prop}
end
section
variable {X:Cx} {pins:List (Addr×Obj)} {σ:St} {H:Hp} {s:Shared} {a:Addr} {y:V} {u:Value} {A:Around} {E:Value→Shared→Prop}
end
section
variable {X:Cx}
theorem Zlz:Z5 X (.builtin "len") (fun xs H Q=>∃a kvs,xs=[V.ref a]∧H a=some (.dK kvs)∧Q (.int kvs.length) H):=by
 intro pins s σ H xs us Q I r h
 obtain⟨a,kvs,rfl,ha,q⟩:=h
 obtain⟨u,rfl,ru⟩:=ZbJ r
 cases ru
 exact Zry I (.inl ha) fun t s' I'=>⟨.int kvs.length,H,I',⟨t,rfl⟩,q⟩
end
section
variable {κ:Type} [DecidableEq κ]
end
structure Mf (P:Program) (w:World) (K:PySem.W.Frag) (mg:Str→Option Value) (base:Heap) (k:Nat) (C:Addr) (m:Str) (ps:List Str) (sp:Sp):Prop where
 ex:∃f fd,Zd3 P w K mg base CX0 k f fd ps sp∧Zn4 K C m f∧Zcs K fd ps []
structure Cf (P:Program) (w:World) (K:PySem.W.Frag) (mg:Str→Option Value) (base:Heap) (k:Nat) (C:Addr) (x:Str) (ps:List Str) (sp:Sp):Prop where
 ex:∃f fd,Zd3 P w K mg base CX0 k f fd ps sp∧Mk K C f∧Zcs K fd ps []∧mg x=some (.ref C)
structure ZeK (K:PySem.W.Frag) (C:Addr) (m qual:Str) (st:Stmt) (ps:List Str):Prop where
 ex:∃f fd,Fun K m qual st f fd∧Zn4 K C m f∧Zcs K fd ps []
structure ZoL (K:PySem.W.Frag) (mg:Str→Option Value) (C:Addr) (x qual:Str) (st:Stmt) (ps:List Str):Prop where
 ex:∃f fd,Fun K "__init__" qual st f fd∧Mk K C f∧Zcs K fd ps []∧mg x=some (.ref C)
section
variable {P:Program} {w:World} {K:PySem.W.Frag} {mg:Str→Option Value} {base:Heap}
theorem ZeK.mf{C:Addr}{m qual:Str}{st:Stmt}{N ps:List Str}{k:Nat}{sp:Sp}(T:ZeK K C m qual st ps)(S:Zr N ps (Zh st))(len:∀vs H Q E,sp vs H Q E→vs.length=ps.length)
  (hbody:∀ (cdv:Value) (f:Addr) (A:Around) (outer:List Env) (s:Shared) (H:Hp) (vs:List V) (Q:VK) (E:XK),ZaN k (A.deeper (envOfC qual (Zh st) s.heap.objs.size f cdv))→sp vs H Q E →
   ∃t,PSs (ZhE CX0 P w K mg base N qual (Zh st) f cdv A outer s H E).nox (Zm st) t∧t { nx:=fun _ H'=>Q .non H',rt:=Q } (ZdP N vs) H):Mf P w K mg base (k+1) C m ps sp:=by
 obtain⟨f,fd,F,m,b⟩:=T.ex
 exact⟨f,fd,F.ok S len (fun cdv A outer s H vs Q E hr h=>hbody cdv f A outer s H vs Q E hr h),m,b⟩
theorem ZoL.cf{C:Addr}{x qual:Str}{st:Stmt}{N ps:List Str}{k:Nat}{sp:Sp}(T:ZoL K mg C x qual st ps)(S:Zr N ps (Zh st))(len:∀vs H Q E,sp vs H Q E→vs.length=ps.length)
  (hbody:∀ (cdv:Value) (f:Addr) (A:Around) (outer:List Env) (s:Shared) (H:Hp) (vs:List V) (Q:VK) (E:XK),ZaN k (A.deeper (envOfC qual (Zh st) s.heap.objs.size f cdv))→sp vs H Q E →
   ∃t,PSs (ZhE CX0 P w K mg base N qual (Zh st) f cdv A outer s H E).nox (Zm st) t∧t { nx:=fun _ H'=>Q .non H',rt:=Q } (ZdP N vs) H):Cf P w K mg base (k+1) C x ps sp:=by
 obtain⟨f,fd,F,m,b,g⟩:=T.ex
 exact⟨f,fd,F.ok S len (fun cdv A outer s H vs Q E hr h=>hbody cdv f A outer s H vs Q E hr h),m,b,g⟩
end
section
variable {X:Cx} {k j:Nat} {C:Addr} {m x:Str} {ps:List Str} {sp:Sp} {o e:Expr} {es:List Expr} {ta:TE} {t:TA} {p apos pos:Pos} {pl:Sem Bool}
theorem Zfi(F:Mf X.prog X.w X.K X.mg X.base k C m ps sp)(c:Cls X.K C)(hr:ZaN j X.A)(he:PE X o ta)(ha:PA X (e::es) t)(hjk:k≤j:=by decide)
  (hst:starEach (e::es) X.env=(false,eval e X.env)::starEach es X.env:=by rfl) (hpl:(backTo pos (starEach es X.env)).any (·.1)=false:=by rfl)
  (ht:eval (.Call (.Attribute o m apos) (e::es) [] pos) X.env=(do
   let ov ← eval o X.env
   standAt apos.atName
   let (f,first) ← holding [ov] (getMethod ov m pl)
   callWith pos f first (backTo pos (starEach (e::es) X.env)) (backToKw pos (keywordEach [] X.env))):=by rfl) :
  PE X (.Call (.Attribute o m apos) (e::es) [] pos) (Zj9 C m sp [] E0 ta t):=by
 obtain⟨f,fd,F,g,b⟩:=F.ex
 exact Zpc he c g F (hr.mono hjk) b .nil Zkf ha hst hpl ht
theorem Zdb(F:Mf X.prog X.w X.K X.mg X.base k C m ps sp)(c:Cls X.K C)(hr:ZaN j X.A)(he:PE X o ta)(hjk:k≤j:=by decide)
  (ht:eval (.Call (.Attribute o m apos) [] [] pos) X.env=(do
   let ov ← eval o X.env
   standAt apos.atName
   let (f,first) ← holding [ov] (getMethod ov m pl)
   callWith pos f first (backTo pos (starEach [] X.env)) (backToKw pos (keywordEach [] X.env))):=by rfl) :
  PE X (.Call (.Attribute o m apos) [] [] pos) (Zj9 C m sp [] E0 ta Zqu):=by
 obtain⟨f,fd,F,g,b⟩:=F.ex
 exact Znc he c g F (hr.mono hjk) b .nil Zkf ht
theorem ZpJ(F:Cf X.prog X.w X.K X.mg X.base k C x ps sp)(hr:ZaN j X.A)(ha:PA X (e::es) t)(hjk:k+1≤j:=by decide)(hg:Gl X x:=by rfl)(hdb:(x == ("__debug__" : Str))=false:=by decide)
  (he:starEach (e::es) X.env=(false,eval e X.env)::starEach es X.env:=by rfl) (hpl:(backTo pos (starEach es X.env)).any (·.1)=false:=by rfl) :
  PE X (.Call (.Name x p) (e::es) [] pos) (ZpD C sp [] E0 t):=by
 obtain⟨f,fd,F,g,b,gm⟩:=F.ex
 exact Zpt g F (hr.mono hjk) hg gm b .nil Zkf ha hdb he hpl
end
section
variable {X:Cx} {pins:List (Addr×Obj)} {σ:St} {H:Hp} {s:Shared} {d:Addr} {o:Obj} {u:HO}
end
theorem Zor{P:Program}{w:World}{k:Key}{v:Value}(h:(ZL P w).is k v=true):ZE (kV k) v:=by
 rw[Zjo]at h
 rcases Zas h with⟨i,t,rfl,rfl⟩|⟨x,t,rfl,rfl⟩
 ·exact⟨t,rfl⟩
 ·exact⟨t,rfl⟩
def ZnS:List V→Hp→VK→Prop:=fun xs H Q=>∃d kvs,xs=[.ref d]∧H d=some (.dK kvs)∧∀l,H l=none→Q (.ref l) (upd H l (.lst (kvs.map fun kv=>kV kv.1)))
theorem ZlA{P:Program}{w:World}:∀ (kvs:List (Key×V)) (vs:List (Key×Value)) (us:List Value),KV kvs vs→us.length=vs.length→(∀ (j:Nat) (v:Value),us[j]? = some v→∃k x,vs[j]? = some (k,x)∧(ZL P w).is k v=true)→Zy (kvs.map fun kv=>kV kv.1) us:=by
 intro kvs vs us r
 unfold KV at r
 induction r generalizing us with
 | nil =>
  intro hl _
  cases us with
  | nil=>exact .nil
  | cons a b=>simp at hl
 | @cons p q ps qs h t ih =>
  intro hl hp
  cases us with
  | nil=>simp at hl
  | cons a b =>
   obtain⟨k,x,e,hk⟩:=hp 0 a rfl
   have e':q=(k,x):=by simpa using e
   rw[Ql]
   refine .cons ?_ (ih b (by simpa using hl) fun j v hv=>?_)
   ·rw[h.1,e'];exact Zor hk
   ·simpa using hp (j+1) v (by simpa using hv)
theorem ZjT{X:Cx}(hc:X.calm=true):Z5 X (.type "list") ZnS:=by
 intro pins s σ H xs us Q I r h
 obtain⟨d,kvs,rfl,hd,q⟩:=h
 obtain⟨u,rfl,ru⟩:=ZbJ r
 cases ru
 obtain⟨z,lo,vs,rel,dd⟩:=(show Zad X.prog X.w H s.heap d (.dK kvs) from I.hok d _ hd)
 obtain⟨ep,da⟩:=dd.dictAt
 have hl:kvs.length=vs.length:=rel.length
 refine PySem.W.kdl_call (PySem.W.kdl_dict lo) (I.ok.hd hc) da (by lia) fun h' tk acc c hk hD hacc=>?_
 have hv:Zy (kvs.map fun kv=>kV kv.1) acc.toList:=ZlA (P:=X.prog) (w:=X.w) kvs vs acc.toList rel (by rw[Qaa];exact hacc.1) fun j v e=>hacc.2 j v (by rw[← Array.getElem?_toList];exact e)
 refine⟨.ref s.heap.objs.size,_,I.laid (a:=s.heap.objs.size) (o:=.lst (kvs.map fun kv=>kV kv.1)) (t':=tk) hk (Qi _) ?_,rfl,q _ (I.hok.fresh (Qi _))⟩
 exact⟨by rw[Qa];exact z,acc.toList,c,hv,by simpa using hD⟩
end L2
namespace L2
open PySem PySem.Spec PyProof.Rows
end L2
namespace L2
open PySem PySem.Spec PyProof.Rows
section
variable {X:Cx} {N N':List Str} {o c:Scope}
end
section
variable {X:Cx}
end
theorem Ze4:typeLookup (.type "list") "keys" = pure none:=by rw[typeLookup_type,builtinLookup_eq_fast];kernel_rfl
theorem getAttr?_keys_list{prog:Program}{w:World}{A:Around}{E:Value→Shared→Prop}{s:Shared}{a:Addr}{o:Obj}{xs:Array Value}{k:Nat}{Q:Option Value→Shared→Prop}
  (hx:s.heap.get? a=some o) (hc:o.cls=.type "list") (hdat:o.data=.seq xs k) (hd:o.dict=none) (hA:A.handled=none)
  (h:∀h' tk e,Heap.NewExcOf s.heap h' e "AttributeError"→Q none { s with heap:=h',toks:=tk }) :
  wpAny (model prog w) A (getAttr? (.ref a) "keys") Q E s:=by
 obtain⟨c,dct,dat,sl⟩:=o
 simp only at hc hdat hd
 subst hc hdat hd
 obtain⟨hp,g,d,tk,os⟩:=s
 have hT:∀tk',(⟨hp,g,d,tk',os⟩:Shared).TypeIs (.ref a) "list":=fun _=>⟨_,hx,rfl⟩
 have f1:=sub_AttributeError
 have f3:=F.slot_list_getattribute.lookup
 have f4:=F.slot_list_getattribute.bind (.ref a)
 have f5:=am_list_getattr_none
 unfold getAttr? getAttrBy? getAttrBy
 repeat (any_goals (first|assumption|exact hT _|((with_reducible show wpAny _ _ (call (Value.builtin "list.__getattribute__") _ _) _ _ _);refine call_meets F.slot_list_getattribute (hT _) am_entry_list_getattribute (F.args_list_getattribute_2 _ _) (meets_getattribute_miss_list a xs k sl "keys" _ Ze4 (by decide) (by size_fits)) ⟨hx,hA,fun h' tk' e hx'=>?_⟩)|wp_step))
 obtain⟨t',u',he⟩:=hx'.there
 show wpAny _ _ (getattributeRaised _ _ _ _ _ _ _) _ _ _
 unfold getattributeRaised
 repeat (any_goals (first|assumption|wp_step))
 exact h _ _ _ hx'.of
theorem ZbH:entryFor table "dict.update.loop" = some Builtin.«dict.update.loop»:=entryFor_of_tree (by kernel_rfl)
theorem Zap:plainId "dict.update.loop" = true:=by ac_rfl
section
variable {prog:Program} {w:World} {A:Around} {R:Result→Shared→Prop} {I:Addr} {fp wr:List Addr} {G:Array GenState→Array GenState→Prop} {n:Nat} {P:Nat→Value→Prop} {St:Nat→Shared→Prop} {K:Type} [DecidableEq K] {knd:KeyKind prog w K}
end
section
variable {prog:Program} {w:World} {A:Around} {E:Value→Shared→Prop} {s:Shared} {K:Type} [DecidableEq K] {knd:KeyKind prog w K}
end
def Zst:R2:=fun x y H Q=>∃a v,x=.ref a∧Zdo H a y (some v)∧Q v H
section
variable {X:Cx} {k:Nat}
def ZrM:ZnA:=fun o i v H Q=>∃a H',o=.ref a∧Zgd H a i v H'∧Q H'
theorem Zm6(hr:ZaN k X.A):Zmn X ZrM:=by
 intro pins s σ H o i v ov iv u Q I ro ri rv h
 obtain⟨a,H',rfl,g,q⟩:=h
 cases ro
 exact ZlC (ZmM hr) I g ri rv fun s4 I4=>⟨H',I4,q⟩
theorem ZjP{prog:Program}{w:World}{A:Around}{E:Value→Shared→Prop}{s:Shared}{value slice:Expr}{o i:Value}{T id:String}{Q:Value→Shared→Prop}(hT:s.TypeIs o T)
  (hl:typeLookup (.type T) "__getitem__" = pure (some (.builtin id))) (hs:subscripted slice false o i=operate [o,i] (getItem o i)) (h:wpAny (model prog w) A (getItem o i) Q E s) :
  wpAny (model prog w) A (subscriptTail value slice o i) Q E s:=by
 unfold subscriptTail
 refine wpAny_bind ?_
 rw[getitemInPython_of_ne hT.not_modules]
 refine wpAny_bind (wpAny_specialOf hT hl ?_)
 have fin:wpAny (model prog w) A (subscripted slice false o i) (fun r s₃=>wpAny (model prog w) A (letTemporaryGo value o r >>= fun _=>pure r) Q E s₃) E s:=by
  rw[hs]
  exact wpAny_operating (wpAny_mono h (fun r s₃ h₃=>wpAny_bind (wpAny_letTemporaryGo (wpAny_pure h₃))) fun _ _ x=>x)
 first
  | exact wpAny_pure (wpAny_bind fin)
  | exact wpAny_bind (wpAny_pure (wpAny_bind fin))
  | exact wpAny_bind fin
theorem ixG(hr:ZaN k X.A):IxR X Zst:=by
 intro value slice pins s σ H x y v u Q I rx ry h hs
 obtain⟨a,z,rfl,g,q⟩:=h
 cases rx
 exact ZjP (ZiZ I g) PySem.F.slot_dict_getitem.lookup hs (ZlL (ZmM hr) I g ry fun w' s' I' rw'=>⟨z,H,I',rw',q⟩)
theorem ZsG:Z5 X (.builtin "len") (fun xs H Q=>∃a kvs,xs=[V.ref a]∧H a=some (.dK kvs)∧Q (.int kvs.length) H):=Zlz
theorem Zr0(hc:X.calm=true:=by rfl):Z5 X (.type "list") ZnS:=ZjT hc
end
mutual
inductive DH (H:Hp):V→PyData→Prop where
 | non:DH H .non .none
 | bl (b:Bool):DH H (.bl b) (.bool b)
 | int (i:Int):DH H (.int i) (.int i)
 | str (s:Str):DH H (.str s) (.str s)
 | lst {a:Addr} {xs:List V} {ds:List PyData}:H a=some (.lst xs)→DHs H xs ds→DH H (.ref a) (.list ds)
 | tup {a:Addr} {xs:List V} {ds:List PyData}:H a=some (.tup xs)→DHs H xs ds→DH H (.ref a) (.tuple ds)
inductive DHs (H:Hp):List V→List PyData→Prop where
 | nil:DHs H [] []
 | cons {x:V} {d:PyData} {xs:List V} {ds:List PyData}:DH H x d→DHs H xs ds→DHs H (x::xs) (d::ds)
end
mutual
theorem DH.mono{H H':Hp}(s:ZA H H'):∀ {x:V} {d:PyData},DH H x d→DH H' x d
 | _,_,.non=>.non
 | _,_,.bl b=>.bl b
 | _,_,.int i=>.int i
 | _,_,.str z=>.str z
 | _,_,.lst h hs=>.lst (s _ _ h) (DHs.mono s hs)
 | _,_,.tup h hs=>.tup (s _ _ h) (DHs.mono s hs)
theorem DHs.mono{H H':Hp}(s:ZA H H'):∀ {xs:List V} {ds:List PyData},DHs H xs ds→DHs H' xs ds
 | _,_,.nil=>.nil
 | _,_,.cons h hs=>.cons (DH.mono s h) (DHs.mono s hs)
end
mutual
theorem DH.dv{K:PySem.W.Frag}{H:Hp}:∀ {x:V} {d:PyData},DH H x d→DV K H x d
 | _,_,.non=>.non
 | _,_,.bl b=>.bl b
 | _,_,.int i=>.int i
 | _,_,.str z=>.str z
 | _,_,.lst h hs=>.lst (SqL.of h) (DHs.dv hs)
 | _,_,.tup h hs=>.tup (SqT.of h) (DHs.dv hs)
theorem DHs.dv{K:PySem.W.Frag}{H:Hp}:∀ {xs:List V} {ds:List PyData},DHs H xs ds→DVs K H xs ds
 | _,_,.nil=>.nil
 | _,_,.cons h hs=>.cons (DH.dv h) (DHs.dv hs)
end
section
open PySem.W
end
theorem ZdC:∀ {a b:List Int},a.Nodup→(∀x∈a,x∈b)→b.length≤a.length→a.Perm b
 | [],b,_,_,l=>by
  have:b=[]:=List.length_eq_zero_iff.mp (by simpa using l)
  rw[this]
 | x::r,b,na,h,l=>by
  obtain⟨n1,n2⟩:=Q3.mp na
  have hx:=h x (by simp)
  have hp:=List.perm_cons_erase hx
  refine(List.Perm.cons x (ZdC n2 (fun y hy=>?_) ?_)).trans hp.symm
  ·have nyx:y≠x:=fun e=>n1 (by rw[← e];exact hy)
   exact(QaM nyx).mpr (h y (Qy _ hy))
  ·rw[Q4 hx]
   simp only[List.length_cons]at l
   lia
theorem ZnF{kvs:List (Key×V)}{k:Key}{v:V}(h:ZcE kvs k=some v):(k,v)∈kvs:=by
 unfold ZcE at h
 obtain⟨p,hp,rfl⟩:=Qa0.mp h
 have h1:=List.find?_some hp
 have h2:=List.mem_of_find?_eq_some hp
 have:p.1=k:=by simpa using h1
 rw[← this];exact h2
theorem Zja{kvs:List (Key×V)}(hn:(kvs.map (·.1)).Nodup){k:Key}{v:V}(h:(k,v)∈kvs):ZcE kvs k=some v:=by
 induction kvs with
 | nil=>cases h
 | cons p r ih =>
  obtain⟨n1,n2⟩:=Q3.mp (by simpa using hn:(p.1::r.map (·.1)).Nodup)
  rcases QO.mp h with rfl|h
  ·exact ZdQ rfl
  ·rw[Zdy fun e=>n1 (e ▸ Qn (f:=(·.1)) h)]
   exact ih n2 h
end L2
namespace L2
open PySem PySem.Spec PyProof.Rows
def off(p:Addr)(H:Hp):Hp:=fun b=>if b=p then none else H b
section
variable {prog:Program} {w:World} {A:Around} {R:Result→Shared→Prop} {I:Addr} {fp wr:List Addr} {G:Array GenState→Array GenState→Prop} {n:Nat} {P:Nat→Value→Prop} {St:Nat→Shared→Prop} {K:Type} [DecidableEq K] {knd:KeyKind prog w K}
end
theorem Zo7{X:Cx}{s:Stmt}:PS X s (fun _ _ _=>False):=fun pins s' σ H D I h=>h.elim
theorem Zrf{X:Cx}{k:Nat}{o e:Expr}{td ty:TE}{apos cpos:Pos}(hr:ZaN k X.A)(ho:PE X o td)(he:PE X e ty)(hb:attributeBase o "get" X.env (eval o X.env)=eval o X.env:=by rfl)
  (hl:(apos.endLine == cpos.line)=true:=by rfl) (ht:backTo cpos (starEach [e] X.env)=[(false,eval e X.env)]:=by rfl):PE X (.Call (.Attribute o "get" apos) [e] [] cpos) (Zmo td ty):=by
 refine Zmi (ZmM hr) ho he ⟨hb,?_,hl,ht⟩
 rw[ht];rfl
section
variable {prog:Program} {w:World} {A:Around} {E:Value→Shared→Prop} {s:Shared} {l:Addr} {xs:Array (Int×Tok)}
end
section
variable {X:Cx}
end
section
variable {X:Cx}
end
def ZsB(t u:TS):TS:=fun D σ H=>∃M:St→Hp→Prop,t { D with nx:=M } σ H∧∀σ' H',M σ' H'→u D σ' H'
theorem Zia{X:Cx}{st:Stmt}{rest:List Stmt}{t u:TS}(h1:PS X st t)(h2:PSs X rest u):PSs X (st::rest) (ZsB t u):=by
 intro pins s σ H D I h
 obtain⟨M,h,hm⟩:=h
 refine wpAny_execs_cons (thn (h1 pins s σ H { D with nx:=M } I h) fun f s1 q=>?_)
 cases f with
 | next =>
  obtain⟨σ',H',I',q⟩:=q
  exact h2 pins s1 σ' H' D I' (hm σ' H' q)
 | ret v=>exact q
 | brk=>exact q
 | cont=>exact q
section
variable {prog:Program} {w:World} {A:Around} {E:Value→Shared→Prop} {s:Shared} {K:Type} [DecidableEq K] {knd:KeyKind prog w K}
end
section
variable {prog:Program} {w:World} {A:Around} {E:Value→Shared→Prop} {s:Shared} {K:Type} [DecidableEq K] {knd:HeapKind prog w K}
end
def apart:List Int→Bool
 | []=>true
 | x::r=>r.all (fun y=>x != y)&&apart r
structure CompScC (N N':List Str) (o c:Scope):Prop where
 kind:c.kind=.function
 okind:o.kind=.function
 cel:∀y∈c.names,y.2=.cell→c.names.lookup y.1=some .cell
 loc:∀y∈c.names,y.2=.local→c.names.lookup y.1=some .local
 free:∀y∈c.names,y.2=.free→c.names.lookup y.1=some .free∧(o.names.lookup y.1=some .cell∨o.names.lookup y.1=some .free)
 len:N.length≤N'.length
 same:∀i∈List.range N.length,∀x∈N'[i]?,c.names.lookup x=some .local∨c.names.lookup x=some .free∨c.names.lookup x=some .cell→c.names.lookup x=some .free∧N[i]? = some x
 nd:N'.Nodup
section
variable {X:Cx} {N N':List Str} {o c:Scope}
variable {x:Str} {pos:Pos} {C:Addr} {s:Shared} {H:Hp} {fp:List Addr}
end
section
variable {prog:Program} {w:World} {A:Around} {E:Value→Shared→Prop} {s:Shared}
end
section
variable {prog:Program} {w:World} {A:Around} {R:Result→Shared→Prop} {I:Addr} {fp wr:List Addr} {G:Array GenState→Array GenState→Prop} {n:Nat} {P:Nat→Value→Prop} {St:Nat→Shared→Prop}
variable {K:Type} [DecidableEq K] {knd:KeyKind prog w K}
theorem Zfu{h h':Heap}{ks:List K}{a:Addr}(x:(tupleKind knd).is h ks a)(k:∀o,h.get? a=some o→h'.get? a=some o):(tupleKind knd).is h' ks a:=by
 obtain⟨o,it,m,e,r⟩:=x
 exact⟨o,it,m,k _ e,r⟩
theorem Zjl{xs:List (List K×Addr×Value)}(nd:(xs.map (·.1)).Nodup){i:Nat}{x:List K×Addr×Value}(h:xs[i]? = some x):atKey (xs.take i) x.1=none:=by
 unfold atKey
 have:(xs.take i).find? (fun y=>decide (y.1=x.1))=none:=List.find?_eq_none.mpr fun y hy=>by
  obtain⟨j,hj,e⟩:=List.mem_iff_getElem.mp hy
  have hj':j<i∧j<xs.length:=by rw[QC]at hj;lia
  rw[List.getElem_take]at e
  obtain⟨hi,e2⟩:=Qc.mp h
  have:=Q8.mp nd j i (by rw[Qa];lia) (by rw[Qa];lia) hj'.1
  rw[List.getElem_map,List.getElem_map,e,e2]at this
  simpa using this
 rw[this];rfl
theorem ZjC(W:WalksS prog w A.in1 I fp wr G n P St)(hu:A.in1.units<cLine)(D:Addr)(hDf:D ∉ fp)(xs:List (List K×Addr×Value))(hn:xs.length=n)(nd:(xs.map (·.1)).Nodup)(As:Nat→Addr)(hAs:∀j,j<n→As j≠D∧As j ∉ wr)(hKs:∀x∈xs,x.2.1≠D∧x.2.1 ∉ wr)
  (hval:∀i v,P i v→v=.ref (As i)) (hsz:n≤sizeLine) :
  ∀ (k i:Nat) (z:Int) (s:Shared),n-i=k→i≤n→St i s→s.heap.DictOfH (tupleKind knd) D (xs.take i) →
   (∀j (hj:j<n),IsTup s.heap (As j) #[.ref (xs[j]'(hn ▸ hj)).2.1,(xs[j]'(hn ▸ hj)).2.2])→(∀x∈xs,(tupleKind knd).is s.heap x.1 x.2.1) →
   (∀s',Moved (D::wr) G s s'→s'.heap.DictOfH (tupleKind knd) D xs→R (.ok (.ret .none)) s') →
   codeAny (model prog w) A (.builtin "dict.update.loop" ⟨[.ref D,.ref I,rawInt z,.none],[]⟩) R s:=by
 have hDw:D ∉ wr:=fun h=>hDf (W.sub _ h)
 have hsub:∀b∈wr,b∈D::wr:=fun b hb=>Qy _ hb
 intro k
 induction k with
 | zero =>
  intro i z s hk hi hst hS hT hK hR
  have hin:i=n:=by lia
  subst hin
  refine codeAny_builtin ZbH ?_
  rw[Around.under_plainId Zap _]
  show wpAny _ A.in1 (pyNext (.ref I) >>= _) _ _ s
  refine wpAny_bind (W.done s _ _ hst fun s' hm=>?_)
  show wpAny _ A.in1 (Builtin.Dict.addKeywords D [] >>= fun _=>ret Value.none) _ _ s'
  refine wpAny_bind (wpAny_pure (wpAny_pure (hR s' (hm.mono hsub) ?_)))
  rw[QB (by lia)]at hS
  obtain⟨o,es,ep,ho,r1,r2,r3,r4,r5⟩:=hS
  exact⟨o,es,ep,hm.heap D _ hDw ho,r1,r2,r3,fun x hx=>Zfu (r4 x hx) fun o e=>hm.heap _ _ (hKs x hx).2 e,r5⟩
 | succ k ih =>
  intro i z s hk hi hst hS hT hK hR
  have hlt:i<n:=by lia
  refine codeAny_builtin ZbH ?_
  rw[Around.under_plainId Zap _]
  show wpAny _ A.in1 (pyNext (.ref I) >>= _) _ _ s
  refine wpAny_bind (W.item i s _ _ hlt hst fun v s' hP hst' hm=>?_)
  have ev:=hval i v hP
  subst ev
  have hix:xs[i]? = some (xs[i]'(hn ▸ hlt)):=Qb _
  have ht:=hT i hlt
  generalize xs[i]'(hn ▸ hlt)=x at hix ht
  have hxm:x∈xs:=Qr hix
  have ht':IsTup s'.heap (As i) #[.ref x.2.1,x.2.2]:=by
   obtain⟨o,ho,r⟩:=ht
   exact⟨o,hm.heap _ _ (hAs i hlt).2 ho,r⟩
  have hK':∀x∈xs,(tupleKind knd).is s'.heap x.1 x.2.1:=fun x hx=>Zfu (hK x hx) fun o e=>hm.heap _ _ (hKs x hx).2 e
  have hS':s'.heap.DictOfH (tupleKind knd) D (xs.take i):=by
   obtain⟨o,es,ep,ho,r1,r2,r3,r4,r5⟩:=hS
   exact⟨o,es,ep,hm.heap D _ hDw ho,r1,r2,r3,fun x hx=>hK' x (Qac hx),r5⟩
  show wpAny _ A.in1 (holding [Value.ref (As i)] _ >>= _) _ _ s'
  refine wpAny_bind (wpAny_holding ?_)
  obtain⟨ot,hot,hct,nt,hdt⟩:=id ht'
  refine wpAny_bind ?_
  have hpair:wpAny (model prog w) A.in1 (Builtin.Dict.pairItems (Value.ref (As i))) (fun p s2=>p=[.ref x.2.1,x.2.2]∧s2=s') (fun e s'=>False) s':=by
   unfold Builtin.Dict.pairItems
   refine wpAny_bind (wpAny_typeOf (T := "tuple") ⟨ot,hot,hct⟩ ?_)
   rw[if_pos (by decide)]
   exact wpAny_bind (wpAny_seqItems hot hdt (wpAny_pure ⟨rfl,rfl⟩))
  refine wpAny_tryCatch (wpAny_mono hpair (fun p s2 h2=>?_) fun _ _ z=>z.elim)
  obtain⟨rfl,rfl⟩:=h2
  refine wpAny_holding (wpAny_dictSet_heap (knd:=tupleKind knd) (k:=x.1) hu (hK' x hxm) hS' (fun h' hd' hs=>?_) (by rw[QC];lia))
  rw[storedH_new (Zjl nd hix)]at hd'
  have hd2:h'.DictOfH (tupleKind knd) D (xs.take (i+1)):=by
   rw[QM,hix]
   exact hd'
  have kp:∀b o,b≠D→s2.heap.get? b=some o→h'.get? b=some o:=fun b o hb e=>by rw[hs.2 b hb];exact e
  refine wpAny_pure ⟨plainId_quiet Zap _,ih (i+1) (z+1) _ (by lia) hlt (W.frame _ s2 _ _ hst' (Qaq _ _) fun b hb o e=>kp b o (fun h:b=D=>hDf (by rw[← h];exact hb)) e) hd2 (fun j hj=>?_) (fun y hy=>Zfu (hK' y hy) fun o e=>kp _ _ (hKs y hy).1 e) fun s'' hm'' hS''=>?_⟩
  ·obtain⟨o,ho,r⟩:=hT j hj
   exact⟨o,kp _ _ (hAs j hj).1 (hm.heap _ _ (hAs j hj).2 ho),r⟩
  ·refine hR s'' (Moved.trans W.gtrans ((hm.mono hsub).then_heap (Qaq _ _) fun b o hb e=>?_) hm'') hS''
   exact kp b o (fun h:b=D=>hb (by rw[h];exact QZ)) e
end
section
variable {prog:Program} {w:World} {A:Around} {E:Value→Shared→Prop} {s:Shared} {K:Type} [DecidableEq K] {knd:KeyKind prog w K}
theorem Zfn{l:Addr}{items:Array Value}{xs:List (List K×Addr×Value)}{As:Nat→Addr}{Q:Value→Shared→Prop}(hh:A.handled=none)(hu:A.in1.in1.units<cLine)(hl:PlainL s.heap l items)(hn:xs.length=items.size)(hsz:items.size≤sizeLine)(nd:(xs.map (·.1)).Nodup)
  (hval:∀ (i:Nat) (v:Value),items[i]? = some v→v=.ref (As i)) (ht:∀j (hj:j<items.size),IsTup s.heap (As j) #[.ref (xs[j]'(hn ▸ hj)).2.1,(xs[j]'(hn ▸ hj)).2.2]) (hK:∀x∈xs,(tupleKind knd).is s.heap x.1 x.2.1)
  (h:∀h' tk,h'.DictOfH (tupleKind knd) s.heap.objs.size xs→(∀b o,s.heap.get? b=some o→h'.get? b=some o)→Q (.ref s.heap.objs.size) { s with heap:=h',toks:=tk }) :
  wpAny (model prog w) A (call (.type "dict") [.ref l]) Q E s:=by
 refine callType_codes (Q₁:=fun obj s₁=>obj=.ref s.heap.objs.size∧s₁={ s with heap:=s.heap.push { cls:=.type "dict",data:=.dict #[] } }) F.kt_called_dict (F.kt_typeCall_dict_1 _) F.entry_dict_init (kt_code_dict_new _ ⟨rfl,rfl⟩) ?_
 rintro obj s₁ ⟨rfl,rfl⟩
 have hnew:(s.heap.push { cls:=.type "dict",data:=.dict #[] }).DictOfH (tupleKind knd) s.heap.objs.size []:=Heap.DictOfH.new s.heap
 obtain⟨ol,nl,hol,hcl,hdl,hdat⟩:=hl
 have hll:l<s.heap.objs.size:=Qu hol
 have hol':(s.heap.push { cls:=.type "dict",data:=.dict #[] }).get? l=some ol:=Qd _ hol
 refine⟨hnew.typeIs,F.args_dict_init_2 _ _,?_⟩
 unfold Builtin.«dict.__init__»
 refine wpAny_bind ?_
 unfold Builtin.Dict.selfAndRest
 refine wpAny_bind (wpAny_notOrdered_dict hnew.typeIs ?_)
 show wpAny _ _ (pure (s.heap.objs.size,[Value.ref l])) _ _ _
 refine wpAny_pure ?_
 show wpAny _ _ (Builtin.Dict.updateFrom "dict.__init__" s.heap.objs.size (.ref l) [] .none) _ _ _
 unfold Builtin.Dict.updateFrom
 refine wpAny_bind (wpAny_typeOf (T := "list") ⟨ol,hol',hcl⟩ ?_)
 rw[if_pos (by decide)]
 refine wpAny_bind (getAttr?_keys_list hol' hcl hdat hdl (by simp[hh]) fun h1 tk e hx=>?_)
 rw[if_pos (by decide)]
 have kp:∀b o,(s.heap.push { cls:=.type "dict",data:=.dict #[] }).get? b=some o→h1.get? b=some o:=fun b o z=>hx.keeps b o z
 have hl1:h1.IsList l items:=⟨ol,kp _ _ hol',hcl,nl,hdat⟩
 refine wpAny_bind (wpAny_rule (wpAny_bind (wpAny_pyIter_list hl1 ?_)))
 have hDD:s.heap.objs.size<h1.objs.size:=by
  obtain⟨o,es,ep,ho,_⟩:=hnew
  exact Qu (kp _ _ ho)
 have hl1s:l<h1.objs.size:=Nat.lt_trans hll hDD
 have hneI:l≠h1.objs.size:=QF hl1s
 have hDf:s.heap.objs.size ∉ [h1.objs.size,l]:=by
  simp only[List.mem_cons,List.not_mem_nil,or_false,not_or]
  exact⟨QF hDD,Qab hll⟩
 refine wpAny_pure ⟨plainId_quiet Zap _,?_⟩
 have hh3:A.in1.in1.handled=none:=by simp[hh]
 have k2:∀b o,s.heap.get? b=some o→(h1.push { cls:=.type "list_iterator",data:=.fields #[.ref l,.int 0 0] }).get? b=some o:=fun b o z=>Qd _ (kp b o (Qd _ z))
 have low:∀b,b<s.heap.objs.size→b≠s.heap.objs.size∧b ∉ [h1.objs.size]:=fun b hb=>⟨QF hb,by
  simp only[List.mem_cons,List.not_mem_nil,or_false]
  exact QF (Nat.lt_trans hb hDD)⟩
 refine ZjC (A:=A.in1) (knd:=knd) ((Walks.list hh3 _ l hneI items).toS) hu s.heap.objs.size hDf xs hn nd As (fun j hj=>?_) (fun x hx=>?_) hval hsz (items.size-0) 0 0 _ (by lia) (Qv _)
  ⟨⟨_,QA _ rfl,rfl,rfl⟩,(hl1.push _)⟩ ?hS0 (fun j hj=>?_) (fun x hx=>?_) ?hR
 ·obtain⟨o,ho,_⟩:=ht j hj
  exact low _ (Qu ho)
 ·obtain⟨o,_,_,ho,_⟩:=hK x hx
  exact low _ (Qu ho)
 case hS0 =>
  obtain⟨o,es,ep,ho,r1,r2,r3,r4,r5⟩:=hnew
  exact⟨o,es,ep,Qd _ (kp _ _ ho),r1,r2,r3,(fun x hx=>nomatch hx),r5⟩
 ·obtain⟨o,ho,r⟩:=ht j hj
  exact⟨o,k2 _ _ ho,r⟩
 ·exact Zfu (hK x hx) fun o e=>k2 _ _ e
 case hR =>
  intro s' hm hS'
  obtain⟨h',g',d',tk',os'⟩:=s'
  have eg:g'=s.gens:=hm.gens
  have ed:d'=s.drawn:=hm.drawn
  have eo:os'=s.os:=hm.os
  subst eg;subst ed;subst eo
  refine⟨rfl,h h' tk' hS' fun b o e=>?_⟩
  have hb:=Qu e
  exact hm.heap b o (by simp only[List.mem_cons,List.not_mem_nil,or_false,not_or];exact⟨QF hb,QF (Nat.lt_trans hb hDD)⟩) (k2 b o e)
end
def ZmL(K:PySem.W.Frag):List V→Hp→VK→Prop:=fun xs H Q=>∃ (a:Addr) (ts:List (Addr×Addr×List Key×V)),xs=[.ref a]∧SqL K H a (ts.map fun t=>V.ref t.1)∧(∀t∈ts,H t.1=some (.tup [.ref t.2.1,t.2.2.2])∧H t.2.1=some (.tup (t.2.2.1.map kV)))∧ts.length≤1000∧(ts.map (·.2.2.1)).Nodup ∧
 ∀D,H D=none→Q (.ref D) (upd H D (.dT (ts.map (·.2.2))))
theorem ZfN{X:Cx}{pins:List (Addr×Obj)}{σ:St}{H:Hp}{s:Shared}(I:Inv X pins σ H s):∀ (ts:List (Addr×Addr×List Key×V)),(∀t∈ts,H t.1=some (.tup [.ref t.2.1,t.2.2.2])∧H t.2.1=some (.tup (t.2.2.1.map kV))) →
  ∃xs:List (List Key×Addr×Value),Zep H (ts.map (·.2.2)) xs∧xs.map (·.1)=ts.map (·.2.2.1)∧∀ (j:Nat) (t:Addr×Addr×List Key×V) (x:List Key×Addr×Value),ts[j]? = some t→xs[j]? = some x→IsTup s.heap t.1 #[.ref x.2.1,x.2.2]
 | [],_=>⟨[],.nil,rfl,fun j t kv h _=>by simp at h⟩
 | t::ts,h=>by
  obtain⟨xs,r,em,hk⟩:=ZfN I ts fun x hx=>h x (Qy _ hx)
  obtain⟨h1,h2⟩:=h t (by simp)
  obtain⟨its,rv,ht,_⟩:=I.tuple (SqT.of (K:=X.K) h1)
  obtain⟨u,rfl,ru⟩:∃u,its=[.ref t.2.1,u]∧ZE t.2.2.2 u:=by
   cases rv with
   | cons r1 r2 =>
    cases r2 with
    | cons r3 r4 =>
     cases r4
     cases r1
     exact⟨_,rfl,r3⟩
  refine⟨(t.2.2.1,t.2.1,u)::xs,.cons ⟨rfl,h2,ru⟩ r,by rw[Ql,Ql,em],fun j x kv e1 e2=>?_⟩
  cases j with
  | zero =>
   simp only[List.getElem?_cons_zero,Option.some.injEq]at e1 e2
   subst e1;subst e2
   exact ht
  | succ j=>exact hk j x kv (by simpa using e1) (by simpa using e2)
theorem ZjU{X:Cx}(hc:X.calm=true)(hu:X.A.units+64<cLine):Z5 X (.type "dict") (ZmL X.K):=by
 intro pins s σ H xs us Q I r h
 obtain⟨a,ts,rfl,hS,hT,hn,nd,q⟩:=h
 obtain⟨u,rfl,ru⟩:=ZbJ r
 cases ru
 obtain⟨its,rv,pl,_⟩:=I.list hS
 obtain⟨ks,rk,em,hks⟩:=ZfN I ts hT
 have h1:ks.length=ts.length:=by have:=congrArg List.length em;simpa using this
 have h2:its.length=ts.length:=by have:=rv.length;simpa using this.symm
 have hat:∀ (i:Nat) (v:Value),its.toArray[i]? = some v→v=.ref ((ts[i]?.map (·.1)).getD 0):=fun i v hv=>by
  have hv':its[i]? = some v:=by simpa using hv
  have hi:i<ts.length:=by rw[← h2];exact(Qc.mp hv').1
  have:=rv.get (i:=i) (x:=.ref ts[i].1) (by rw[Qk,Qb hi];rfl)
  obtain⟨u,hu,ru⟩:=this
  rw[hv']at hu
  cases hu
  cases ru
  rw[Qb hi];rfl
 refine Zfn (knd:=ZL X.prog X.w) (xs:=ks) (As:=fun i=>(ts[i]?.map (·.1)).getD 0) (I.ok.hd hc) (by show X.A.units+1+1<cLine;lia) pl (by rw[Qs];lia) (by rw[Qs,h2];exact QaD (Zx hn)) (by rw[em];exact nd) hat (fun j hj=>?_) (Zf2 (R:=fun ks b=>(tupleKind (ZL X.prog X.w)).is s.heap ks b) (fun ks b e=>I.tkey e) rk) fun h' tk hd hk=>?_
 ·have hj':j<ts.length:=by rw[Qs]at hj;lia
  have:=hks j ts[j] (ks[j]'(by lia)) (Qb hj') (Qb _)
  rw[Qb hj']
  exact this
 ·obtain⟨o',es',ep',g1,g2,g3,g4,_,g5⟩:=hd
  have hf:=I.hok.fresh (Qi s.heap.objs.size)
  refine⟨.ref s.heap.objs.size,_,I.laid (a:=s.heap.objs.size) (o:=.dT (ts.map (·.2.2))) (t':=tk) hk (Qi _) ?_,rfl,q _ hf⟩
  refine⟨by rw[Qa];exact QaD (Zx hn),beq_eq_false_iff_ne.mpr fun z=>Qae _ (z ▸ I.big),ks,?_,o',es',ep',g1,g2,g3,g4,g5⟩
  refine Zht (fun c ys ec=>?_) rk
  rw[Ze (Zc ec hf)]
  exact ec
theorem ZrW{X:Cx}(K:PySem.W.Frag){k:Nat}(hr:ZaN k X.A)(hc:X.calm=true:=by rfl)(h:X.K=K:=by rfl):Z5 X (.type "dict") (ZmL K):=by subst h;exact ZjU hc hr.units
def Has(κ:PyProof.Rows.KeyKind)(p:Keyed):Prop:=∃a,κ.keyOf p.1=some a
def kyd(κ:PyProof.Rows.KeyKind)(p:Keyed):κ.α:=(κ.keyOf p.1).getD κ.dflt
section
variable {prog:Program} {w:World} {A:Around} {E:Value→Shared→Prop} {s:Shared} {κ:PyProof.Rows.KeyKind} {k0:SortKind} {a₀:Array Keyed} {st:SortSt}
end
section
variable {κ:PyProof.Rows.KeyKind}
def kS(κ:PyProof.Rows.KeyKind)(l:List Keyed):Prop:=l.Pairwise fun p q=>κ.kle (kyd κ p) (kyd κ q)
def kLe(κ:PyProof.Rows.KeyKind)(l m:List Keyed):Prop:=∀x∈l,∀y∈m,κ.kle (kyd κ x) (kyd κ y)
structure Mg (κ:PyProof.Rows.KeyKind) (all out l m:List Keyed):Prop where
 perm:(out++(l++m)).Perm all
 so:kS κ out
 sl:kS κ l
 sm:kS κ m
 ol:kLe κ out l
 om:kLe κ out m
structure Mh (κ:PyProof.Rows.KeyKind) (all l m out:List Keyed):Prop where
 perm:((l++m)++out).Perm all
 so:kS κ out
 sl:kS κ l
 sm:kS κ m
 lo:kLe κ l out
 mo:kLe κ m out
structure LoPre (κ:PyProof.Rows.KeyKind) (a b:Array Keyed):Prop where
 ha:∀p∈a.toList,Has κ p
 hb:∀p∈b.toList,Has κ p
 sa:kS κ a.toList
 sb:kS κ b.toList
 a0:0<a.size
 b0:0<b.size
 fst:∀i,i<a.size→κ.kle (KK κ b 0) (KK κ a i)
 lst:∀i,i<b.size→κ.kle (KK κ b i) (KK κ a (a.size-1))
def Lo(κ:PyProof.Rows.KeyKind)(a b out:Array Keyed)(ia ib:Nat):Prop:=Mg κ (a.toList++b.toList) out.toList (a.toList.drop ia) (b.toList.drop ib)
variable {a b out:Array Keyed} {ia ib:Nat}
variable {na nb:Nat}
end
section
variable {prog:Program} {w:World} {A:Around} {E:Value→Shared→Prop} {s:Shared} {κ:PyProof.Rows.KeyKind} {k0:SortKind} {st:SortSt} {α β γ:Type}
end
section
variable {prog:Program} {w:World} {A:Around} {E:Value→Shared→Prop} {s:Shared} {κ:PyProof.Rows.KeyKind} {k0:SortKind} {st:SortSt} {α β γ:Type} {a b out:Array Keyed} {na nb:Nat}
end
def Zr2:Nat→List (List Keyed)→List (Nat×Nat)
 | _,[]=>[]
 | o,r::rs=>(o,r.length)::Zr2 (o+r.length) rs
def Zse(p:Nat×Nat×Nat):Nat×Nat:=(p.1,p.2.1)
section
variable {prog:Program} {w:World} {A:Around} {E:Value→Shared→Prop} {s:Shared} {κ:PyProof.Rows.KeyKind} {k0:SortKind} {st:SortSt} {a₀:Array Keyed}
structure Rn (κ:PyProof.Rows.KeyKind) (k0:SortKind) (a₀:Array Keyed) (st:SortSt) (rs:List (List Keyed)) (rest:List Keyed):Prop where
 kind:kindOf st=k0
 failed:failedOf st=none
 arr:(arrOf st).toList=rs.flatten++rest
 perm:(arrOf st).Perm a₀
 srt:∀r∈rs,kS κ r
 ne:∀r∈rs,r≠[]
 pend:(pendingOf st).toList.map Zse=Zr2 0 rs
end
section
variable {prog:Program} {w:World} {A:Around} {E:Value→Shared→Prop} {s:Shared} {κ:PyProof.Rows.KeyKind} {k0:SortKind} {st st0:SortSt} {a₀:Array Keyed} {α:Type} {lo:Nat}
structure Ph (k0:SortKind) (a₀:Array Keyed) (lo:Nat) (st0 st:SortSt):Prop where
 kind:kindOf st=k0
 failed:failedOf st=none
 pend:pendingOf st=pendingOf st0
 perm:(arrOf st).Perm a₀
 pre:∀k,k<lo→(arrOf st)[k]? = (arrOf st0)[k]?
end
section
variable {prog:Program} {w:World} {A:Around} {E:Value→Shared→Prop} {s:Shared} {κ:PyProof.Rows.KeyKind} {k0:SortKind} {st st0:SortSt} {a₀:Array Keyed} {lo:Nat} {rs:List (List Keyed)} {rest:List Keyed}
end
section
variable {prog:Program} {w:World} {A:Around} {E:Value→Shared→Prop} {s:Shared} {κ:PyProof.Rows.KeyKind}
end
end L2
set_option maxHeartbeats 4000000
namespace L2
open PySem PySem.Spec PyProof.Rows
section
variable {X:Cx}
end
section
variable {prog:Program} {w:World} {A:Around} {E:Value→Shared→Prop} {s:Shared} {a kS:Addr} {vs:List Value} {kz:List Int} {keys:Array Value} {e e1:Nat} {P:PySem.Fin→Shared→Prop}
end
variable {X:Cx}
end L2
set_option maxHeartbeats 4000000
namespace L2
open PySem PySem.Spec PyProof.Rows
section
variable {X:Cx}
end
section
variable {prog:Program} {w:World} {A:Around} {E:Value→Shared→Prop} {s:Shared} {it d:Addr} {i ep:Nat} {es:Array DictEntry} {od:Obj} {ok ov:Value}
end
end L2
set_option maxHeartbeats 4000000
namespace L2
open PySem PySem.Spec PyProof.Rows
section
variable {prog:Program} {w:World} {A:Around} {E:Value→Shared→Prop} {s:Shared}
end
section
variable {X:Cx}
end
end L2
set_option maxHeartbeats 4000000
namespace L2
open PySem PySem.Spec PyProof.Rows
section
variable {prog:Program} {w:World} {A:Around} {E:Value→Shared→Prop} {s:Shared} {it d:Addr} {i ep:Nat} {es:Array DictEntry} {od:Obj}
end
section
variable {X:Cx}
def ZpA(K:PySem.W.Frag):List V→Hp→VK→Prop:=fun vs H Q=>∃ (p:Addr) (ns:List Int),vs=[.ref p]∧SqL K H p (ns.map V.int)∧Q (.int ns.sum) H
theorem Zl0(hc:X.calm=true):Z5 X (.builtin "sum") (ZpA X.K):=by
 intro pins s σ H vs us Q I r h
 obtain⟨p,ns,rfl,hq,q⟩:=h
 obtain⟨u,rfl,rx⟩:=ZbJ r
 cases rx
 obtain⟨its,rv,pl,_⟩:=I.list hq
 have hi:=Zec rv
 obtain⟨xs,e⟩:=hi.allInts.items
 have hns:ns=xs.toList.map (·.1):=by rw[← hi.numsOf,← nums_intItems,← e]
 have hsz:xs.size=ns.length:=by rw[hns,Qa,Qaa]
 have hnum:numAt xs=fun j=>ns.getD j 0:=by funext j;rw[numAt_eq,hns]
 have hl:=pl.isList
 rw[e]at hl
 refine sum_intListG (I.ok.hd hc) hl fun h' tk t' hk=>⟨.int _,H,I.kept hk,⟨t',rfl⟩,?_⟩
 rw[hnum,hsz,Zdw ns ns.length (Qi _),QB (Qi _)]
 exact q
theorem ZsI(K:PySem.W.Frag)(hc:X.calm=true:=by rfl)(h:X.K=K:=by rfl):Z5 X (.builtin "sum") (ZpA K):=by subst h;exact Zl0 hc
end
end L2
set_option maxHeartbeats 1000000
namespace My
open PySem L2 PyProof.Rows
abbrev Ztl:=@List.tail Stmt
abbrev Zt2(x:List Stmt):=Ztl (Ztl x)
abbrev Zt4(x:List Stmt):=Zt2 (Zt2 x)
abbrev Zt8(x:List Stmt):=Zt4 (Zt4 x)
abbrev Zt16(x:List Stmt):=Zt8 (Zt8 x)
abbrev Zt32(x:List Stmt):=Zt16 (Zt16 x)
local macro_rules|`(‹$i:num›)=>`(@pv _ $i _ _ (by rfl) (Or.inl rfl) (by decide) (by decide))
local macro_rules|`(tactic|trivial)=>`(tactic|first|exact .inl rfl|exact .inr rfl|decide|exact Nat.le_refl _|lia)
local macro_rules
|`(#[Xns,$a,$b,$c])=>`(PySem.W.nsIn $a mainGlobals $b=some (some (.ref $c)))
|`(#[Xfi,$a,$b,$c,$d])=>`(PySem.W.findIn $a (.ref $b) $c=some (some (.ref $d)))
|`(#[Xlk,$z,$a,$b,$c,$d,$e,$f,$g,$h,$i,$j,$k,$l,$m])=>`(($z).lookup $a=some ⟨$b,$c,.func (PySem.W.fnOf $d $e (Zo $f) (Zm $f) (Zh $f) .none $g $h $i $j $k $l),$m⟩)
|`(#[Xci,$a,$b,$c])=>`(PySem.W.codeIn $a $b $c=true)
|`(#[Xki,$a,$b])=>`(PySem.W.keepIn $a (.ref $b)=true)
|`(#[Xif,$a,$b])=>`(PySem.W.isFn $a (.ref $b)=true)
|`(#[Zf,$a,$b])=>`(@Zf _ _ _ _ _ $a $b)
|`(#[Zu,$a,$b,$c,$d])=>`(@Zu _ _ $a _ _ _ _ $b rfl $c $d (by rfl) (by trivial))
|`(#[ZC,$a,$b,$c])=>`(@ZC _ _ _ _ _ _ _ _ $a $b $c)
|`(#[Zi])=>`(@Zi _ _ _ _)
|`(#[Zj,$a])=>`(@Zj _ _ _ $a)
|`(#[Zp,$a])=>`(@Zp _ _ _ _ $a)
|`(#[Za1,$a,$b,$c])=>`(@Za1 _ _ _ _ _ _ _ _ $a $b $c)
|`(#[Zn,$a,$b,$c,$d])=>`(@Zn _ _ _ _ _ _ _ _ $a $b $c $d)
|`(#[Zk,$a,$b,$c,$d,$e])=>`(@Zk _ _ _ _ _ _ _ _ _ $a $b $c $d $e (by decide) (by decide) (by rfl) (by rfl))
|`(#[Za,$a,$b])=>`(@Za _ _ _ _ _ $a $b (by rfl))
|`(#[Zd])=>`(@Zd _)
|`(#[Zz,$a,$b,$c])=>`(@Zz _ _ _ _ _ _ _ $a $b $c (fun _ _=>rfl))
|`(#[Zai,$a])=>`(@Zai _ _ _ _ $a)
|`(#[Za5,$a,$b,$c,$d])=>`(@Za5 _ _ _ _ _ _ _ _ _ $a (by rfl) $b $c $d (by decide) (by decide) (by rfl) (by rfl))
|`(#[Zdh,$a,$b,$c,$d])=>`(@Zdh _ _ _ _ _ _ _ _ $a $b $c $d)
|`(#[ZaS,$a,$b])=>`(@ZaS _ _ _ _ _ _ $a $b (by rfl) (by rfl) (by rfl))
|`(#[ZcF,$a,$b,$c])=>`(@ZcF _ _ _ _ _ _ _ $a $b $c (by intro _;rfl))
|`(#[Z9,$a,$b,$c])=>`(@Z9 _ _ _ _ _ _ _ _ $a $b $c)
|`(#[ZF])=>`(@ZF _)
|`(#[ZD,$a,$b,$c,$d])=>`(@ZD _ _ _ _ _ _ _ _ _ _ _ $a $b $c (by trivial) $d (by decide) (by rfl) (by rfl))
|`(#[Zbm])=>`(@Zbm _ _ _ _)
|`(#[Za8,$a,$b,$c,$d,$e])=>`(@Za8 _ _ _ _ _ _ _ _ _ _ _ _ _ _ $a rfl rfl rfl $b $c $d $e (by intro _;rfl))
|`(#[Zbj,$a,$b])=>`(@Zbj _ _ _ _ _ _ rfl $a $b (by rfl))
|`(#[pv,$a,$b])=>`(@pv _ $a _ _ (by rfl) $b (by decide) (by decide))
|`(#[cg,$a,$b])=>`(@cg _ _ _ _ _ _ _ _ _ _ _ $a $b rfl (by ac_rfl) (by rfl))
|`(#[cv,$a,$b])=>`(@cv _ _ _ _ _ _ _ _ _ _ _ $a $b rfl (by ac_rfl) (by rfl) (by decide) (by decide))
|`(#[ZbY,$a,$b,$c,$d,$e,$f])=>`(@ZbY _ _ _ _ _ _ _ _ _ _ _ _ $a $b $c $d $e $f (by rfl) (by rfl) (by rfl) (by rfl) (by rfl))
|`(#[Ze8,$a,$b])=>`(@Ze8 _ _ _ _ _ _ _ $a $b)
|`(#[ZeN,$a])=>`(@ZeN _ _ _ $a (by intro _;rfl))
|`(#[ZH,$a])=>`(@ZH _ _ _ _ _ $a)
|`(#[Zcm,$a,$b])=>`(@Zcm _ _ _ _ $a $b (by rfl) (by decide) (by decide))
|`(#[ZeV,$a,$b])=>`(@ZeV _ _ _ _ _ _ _ $a $b)
|`(#[gT,$a,$b,$c])=>`(@gT _ $a _ _ _ $b _ $c (by rfl) (by rfl) (by rfl) (by rfl))
|`(#[Zw,$a,$b])=>`(@Zw _ _ _ _ _ $a $b (by rfl))
|`(#[cw,$a,$b])=>`(@cw _ _ _ _ _ _ _ _ _ _ _ $a $b rfl (by ac_rfl) (by rfl) (by decide) (by decide))
|`(#[Zav])=>`(@Zav _ _ _)
|`(#[Zbu,$a,$b,$c,$d])=>`(@Zbu _ _ _ _ _ _ _ _ $a rfl $b $c $d (by intro _;rfl))
|`(#[iE,$a,$b,$c])=>`(@iE _ $a _ _ _ _ _ _ _ $b $c (by rfl) (by rfl) (by rfl))
|`(#[ZB,$a,$b])=>`(@ZB _ _ $a _ $b rfl (Or.inl rfl) (by trivial))
|`(#[Zac,$a])=>`(@Zac _ _ _ _ $a (by rfl))
|`(#[ZbR,$a,$b])=>`(@ZbR _ _ _ _ _ _ _ rfl $a $b (by rfl) (by rfl))
|`(#[Zcn,$a,$b,$c,$d])=>`(@Zcn _ _ _ _ _ _ _ _ _ _ $a $b $c $d)
|`(#[Zae,$a])=>`(@Zae _ _ _ _ _ $a (by rfl))
|`(#[Zdb,$a,$b,$c,$d])=>`(@Zdb _ _ _ _ _ _ _ _ _ _ _ _ $a $b $c $d (by trivial) (by rfl))
|`(#[Zb6,$a,$b])=>`(@Zb6 _ _ _ _ _ _ _ _ $a $b (by rfl))
|`(#[Zfi,$a,$b,$c,$d,$e])=>`(@Zfi _ _ _ _ _ _ _ _ _ _ _ _ _ _ _ $a $b $c $d $e (by trivial) (by rfl) (by rfl) (by rfl))
|`(#[ZpJ,$a,$b,$c])=>`(@ZpJ _ _ _ _ _ _ _ _ _ _ _ _ $a $b $c (by trivial) (by rfl) (by decide) (by rfl) (by rfl))
|`(#[iL,$a,$b])=>`(@iL _ $a _ _ _ $b (by rfl))
|`(#[Zea,$a,$b,$c,$d,$e,$f,$g])=>`(@Zea _ _ _ _ _ $a _ _ _ _ _ _ _ _ _ _ _ _ $b rfl (Or.inl rfl) $c rfl rfl rfl $d $e $f $g (by rfl) (by intro _;rfl) (by trivial))
def hdS:List Stmt→Stmt
 | a::_=>a
 | []=>.Pass ⟨0,0,0,0⟩
abbrev Z3:List Stmt:=PySem.Challenge.pw_mergetree_k47_sorts_and_their_costs.main.body
abbrev Zjy:Stmt:=hdS (Zt16 (Zt8 (Zt4 Z3)))
abbrev Zbn:Stmt:=hdS (Zt16 (Zt8 (Zt4 (Ztl Z3))))
abbrev ZbG:Stmt:=hdS (Zt2 Z3)
abbrev ZbE:Stmt:=hdS (Zt4 Z3)
abbrev Za2:Stmt:=hdS (Zt4 (Ztl Z3))
abbrev Zbs:Stmt:=hdS (Zt4 (Zt2 Z3))
abbrev Zbe:Stmt:=hdS (Zt4 (Zt2 (Ztl Z3)))
abbrev Zbf:Stmt:=hdS (Zt8 Z3)
abbrev ZdK:Stmt:=hdS (Zt8 (Zt2 Z3))
abbrev Zdz:Stmt:=hdS (Zt8 (Zt2 (Ztl Z3)))
abbrev Zbp:Stmt:=hdS (Zt8 (Zt4 Z3))
abbrev Zbo:Stmt:=hdS (Zt8 (Zt4 (Ztl Z3)))
abbrev ZbZ:Stmt:=hdS (Zt8 (Zt4 (Zt2 Z3)))
abbrev ZbO:Stmt:=hdS (Zt16 Z3)
abbrev Zbq:Stmt:=hdS (Zt16 (Ztl Z3))
abbrev ZcR:Stmt:=hdS (Zt16 (Zt2 (Ztl Z3)))
abbrev ZcI:Stmt:=hdS (Zt16 (Zt4 Z3))
abbrev Zba:Stmt:=hdS (Zt16 (Zt8 (Ztl Z3)))
abbrev ZcU:Stmt:=hdS (Zt16 (Zt8 (Zt2 Z3)))
abbrev Za4:Stmt:=hdS (Zt16 (Zt8 (Zt4 (Zt2 Z3))))
abbrev Zbt:Stmt:=hdS (Zt16 (Zt8 (Zt4 (Zt2 (Ztl Z3)))))
abbrev Zcg:Stmt:=hdS (Zt32 (Ztl Z3))
abbrev Zbx:Stmt:=hdS (Zt32 (Zt2 Z3))
abbrev ZaB:Stmt:=hdS (Zt32 (Zt4 Z3))
abbrev ZbL:Stmt:=hdS (Zt32 (Zt4 (Ztl Z3)))
abbrev Zdq:Stmt:=hdS (Zt32 (Zt4 (Zt2 (Ztl Z3))))
abbrev ZcP:Stmt:=hdS (Zt32 (Zt8 Z3))
abbrev ZcZ:Stmt:=hdS (Zt32 (Zt8 (Ztl Z3)))
abbrev ZbT:Stmt:=hdS (Zt32 (Zt8 (Zt2 Z3)))
abbrev ZcL:Stmt:=hdS (Zt32 (Zt8 (Zt2 (Ztl Z3))))
abbrev ZbX:Stmt:=hdS (Zt32 (Zt8 (Zt4 Z3)))
abbrev ZcH:Stmt:=hdS (Zt32 (Zt8 (Zt4 (Ztl Z3))))
abbrev Zay:Stmt:=hdS (Zt32 (Zt8 (Zt4 (Zt2 Z3))))
abbrev ZaJ:Stmt:=hdS (Zt32 (Zt8 (Zt4 (Zt2 (Ztl Z3)))))
abbrev Zax:Stmt:=hdS (Zt32 (Zt16 Z3))
abbrev Zbc:Stmt:=hdS (Zt32 (Zt16 (Ztl Z3)))
abbrev Zcf:Stmt:=hdS (Zt32 (Zt16 (Zt2 Z3)))
abbrev ZcA:Stmt:=hdS (Zt32 (Zt16 (Zt2 (Ztl Z3))))
abbrev Zbb:Stmt:=Zbi Zjy 0
abbrev ZaX:Stmt:=Zbi Zjy 2
abbrev Za9:Stmt:=Zbi Zjy 3
abbrev ZaH:Stmt:=Zbi Zbn 0
abbrev Zal:Stmt:=Zbi Zbn 1
abbrev ZaI:Stmt:=Zbi Zbn 2
abbrev ZZ:Stmt:=Zbi Zbn 3
abbrev ZaO:Stmt:=Zbi Zbn 7
abbrev Z1:Stmt:=Zbi Zbn 13
abbrev ZaK:Stmt:=Zbi Zbn 14
abbrev Z0:Stmt:=Zbi Zbn 15
abbrev ZQ:Stmt:=Zbi Zbn 16
abbrev ZaM:Stmt:=Zbi Zbn 17
theorem ZiQ:Zr ["_law_cell", "_law_k", "_law_m"] ["_law_cell", "_law_k"] (Zh Zdq):=⟨rfl,rfl,rfl,by ac_rfl,rfl,by ac_rfl,by ac_rfl⟩
theorem Zhv:Zr ["_law_script", "_law_k", "_law_cell"] ["_law_script", "_law_k"] (Zh ZcP):=⟨rfl,rfl,rfl,by ac_rfl,rfl,by ac_rfl,by ac_rfl⟩
theorem Zhs:Zr ["_law_left_here", "_law_many", "_law_digit"] ["_law_left_here", "_law_many"] (Zh ZcZ):=⟨rfl,rfl,rfl,by ac_rfl,rfl,by ac_rfl,by ac_rfl⟩
theorem ZfH:Zr ["_law_left_here", "_law_some"] ["_law_left_here"] (Zh ZbT):=⟨rfl,rfl,rfl,by ac_rfl,rfl,by ac_rfl,by ac_rfl⟩
theorem ZiW:Zr ["_law_left_here", "_law_stems_here", "_law_tail"] ["_law_left_here", "_law_stems_here"] (Zh ZcL):=⟨rfl,rfl,rfl,by ac_rfl,rfl,by ac_rfl,by ac_rfl⟩
theorem ZcD:Zr ["one", "other", "far", "at"] ["one", "other", "far"] (Zh Zbo):=⟨rfl,rfl,rfl,by ac_rfl,rfl,by ac_rfl,by ac_rfl⟩
theorem Zm2:Zr ["one", "other"] ["one", "other"] (Zh ZdK):=⟨rfl,rfl,rfl,by ac_rfl,rfl,by ac_rfl,by ac_rfl⟩
theorem Zhm:Zr ["_law_found", "_law_due"] ["_law_found", "_law_due"] (Zh Zcf):=⟨rfl,rfl,rfl,by ac_rfl,rfl,by ac_rfl,by ac_rfl⟩
theorem ZdY:Zr ["row", "told", "place", "key"] ["row"] (Zh ZcU):=⟨rfl,rfl,rfl,by ac_rfl,rfl,by ac_rfl,by ac_rfl⟩
theorem Zih:Zr ["one", "other", "at"] ["one", "other", "at"] (Zh ZbZ):=⟨rfl,rfl,rfl,by ac_rfl,rfl,by ac_rfl,by ac_rfl⟩
theorem ZmI:Zr ["one", "other"] ["one", "other"] (Zh Zdz):=⟨rfl,rfl,rfl,by ac_rfl,rfl,by ac_rfl,by ac_rfl⟩
theorem Zd8:Zr ["one", "other", "far", "at"] ["one", "other", "far"] (Zh Zbp):=⟨rfl,rfl,rfl,by ac_rfl,rfl,by ac_rfl,by ac_rfl⟩
theorem Zdt:Zr ["keys", "place"] ["keys"] (Zh Zba):=⟨rfl,rfl,rfl,by ac_rfl,rfl,by ac_rfl,by ac_rfl⟩
theorem Zhf:Zr ["numbers", "middle"] ["numbers"] (Zh ZcR):=⟨rfl,rfl,rfl,by ac_rfl,rfl,by ac_rfl,by ac_rfl⟩
theorem ZhU:Zr ["self"] ["self"] (Zh ZaX):=⟨rfl,rfl,rfl,by ac_rfl,rfl,by ac_rfl,by ac_rfl⟩
theorem Zin:Zr ["self"] ["self"] (Zh Za9):=⟨rfl,rfl,rfl,by ac_rfl,rfl,by ac_rfl,by ac_rfl⟩
theorem ZiI:Zr ["self", "keys"] ["self", "keys"] (Zh Zbb):=⟨rfl,rfl,rfl,by ac_rfl,rfl,by ac_rfl,by ac_rfl⟩
theorem ZcC:Zr ["self", "rows", "number", "keys"] ["self", "rows"] (Zh ZaH):=⟨rfl,rfl,rfl,by ac_rfl,rfl,by ac_rfl,by ac_rfl⟩
theorem Zdj:Zr ["self", "row"] ["self"] (Zh Zal):=⟨rfl,rfl,rfl,by ac_rfl,rfl,by ac_rfl,by ac_rfl⟩
theorem ZeA:Zr ["self"] ["self"] (Zh Z1):=⟨rfl,rfl,rfl,by ac_rfl,rfl,by ac_rfl,by ac_rfl⟩
theorem Zab:Zr ["self", "numbers", "first_side", "other_side", "one", "other", "winner", "loser", "far"] ["self", "numbers"] (Zh ZaK):=⟨rfl,rfl,rfl,by ac_rfl,rfl,by ac_rfl,by ac_rfl⟩
theorem ZbU:Zr ["self", "one", "other", "far", "order", "alike_far", "seen"] ["self", "one", "other", "far"] (Zh ZaM):=⟨rfl,rfl,rfl,by ac_rfl,rfl,by ac_rfl,by ac_rfl⟩
theorem Zdl:Zr ["number", "keys", "place"] ["number", "keys"] (Zh Za4):=⟨rfl,rfl,rfl,by ac_rfl,rfl,by ac_rfl,by ac_rfl⟩
theorem Zd9:Zr ["self", "thing"] ["self"] (Zh ZaI):=⟨rfl,rfl,rfl,by ac_rfl,rfl,by ac_rfl,by ac_rfl⟩
theorem Zcw:Zr ["self", "many", "things"] ["self", "many"] (Zh ZZ):=⟨rfl,rfl,rfl,by ac_rfl,rfl,by ac_rfl,by ac_rfl⟩
theorem ZaG:Zr ["self", "number", "row", "comer", "meeting"] ["self", "number"] (Zh Z0):=⟨rfl,rfl,rfl,by ac_rfl,rfl,by ac_rfl,by ac_rfl⟩
theorem Zan:Zr ["self", "meeting", "comer", "stayer", "winner", "loser", "far"] ["self", "meeting", "comer"] (Zh ZQ):=⟨rfl,rfl,rfl,by ac_rfl,rfl,by ac_rfl,by ac_rfl⟩
theorem ZaL:Zr ["numbers", "n", "matches", "least", "greatest", "others"] ["numbers", "n"] (Zh Zbt):=⟨rfl,rfl,rfl,by ac_rfl,rfl,by ac_rfl,by ac_rfl⟩
theorem ZbK:Zr ["numbers", "n", "others", "side", "first", "rest"] ["numbers", "n"] (Zh ZcI):=⟨rfl,rfl,rfl,by ac_rfl,rfl,by ac_rfl,by ac_rfl⟩
theorem Zir:Zr ["rows"] ["rows"] (Zh Zbx):=⟨rfl,rfl,rfl,by ac_rfl,rfl,by ac_rfl,by ac_rfl⟩
theorem Zls:Zr ["rows"] ["rows"] (Zh Zcg):=⟨rfl,rfl,rfl,by ac_rfl,rfl,by ac_rfl,by ac_rfl⟩
theorem ZaE:Zr ["_law_left_here", "_law_stems_here", "_law_many", "_law_found", "_law_k", "_law_key_here", "_law_way", "_law_cut"] ["_law_left_here"] (Zh ZbX):=⟨rfl,rfl,rfl,by ac_rfl,rfl,by ac_rfl,by ac_rfl⟩
theorem Zlk:Zr ["_law_left_here"] ["_law_left_here"] (Zh ZcH):=⟨rfl,rfl,rfl,by ac_rfl,rfl,by ac_rfl,by ac_rfl⟩
theorem Zh0:Zr ["thing"] ["thing"] (Zh ZbG):=⟨rfl,rfl,rfl,by ac_rfl,rfl,by ac_rfl,by ac_rfl⟩
theorem Zca:Zr ["things", "runs", "tree", "parts", "rows"] ["things", "runs", "tree"] (Zh ZaB):=⟨rfl,rfl,rfl,by ac_rfl,rfl,by ac_rfl,by ac_rfl⟩
theorem ZgA:Zr ["run", "key", "comer"] ["run", "key", "comer"] (Zh Zbq):=⟨rfl,rfl,rfl,by ac_rfl,rfl,by ac_rfl,by ac_rfl⟩
theorem ZaV:Zr ["things", "room", "inside", "next_in", "runs", "goer", "run", "key", "number"] ["things", "room"] (Zh ZbO):=⟨rfl,rfl,rfl,by ac_rfl,rfl,by ac_rfl,by ac_rfl⟩
theorem Zdd:Zr ["groves", "begin", "end", "most", "price", "middle"] ["groves", "begin", "end", "most"] (Zh Zbf):=⟨rfl,rfl,rfl,by ac_rfl,rfl,by ac_rfl,by ac_rfl⟩
theorem ZdJ:Zr ["groves", "alone", "begin", "end", "most", "cut"] ["groves", "alone", "begin", "end", "most"] (Zh Zbe):=⟨rfl,rfl,rfl,by ac_rfl,rfl,by ac_rfl,by ac_rfl⟩
theorem Zcy:Zr ["groves", "sizes", "ways", "begin", "end", "price", "parts"] ["groves", "sizes", "ways", "begin", "end"] (Zh Zbs):=⟨rfl,rfl,rfl,by ac_rfl,rfl,by ac_rfl,by ac_rfl⟩
theorem Zak:Zr ["sizes", "ways", "groves", "many", "begin", "end", "alone", "most"] ["sizes", "ways"] (Zh Za2):=⟨rfl,rfl,rfl,by ac_rfl,rfl,by ac_rfl,by ac_rfl⟩
theorem Zdc:Zr ["sizes", "ways", "price", "trees"] ["sizes", "ways"] (Zh ZbE):=⟨rfl,rfl,rfl,by ac_rfl,rfl,by ac_rfl,by ac_rfl⟩
theorem Zdg:Zr ["things", "room", "ways", "runs", "cost", "tree"] ["things", "room", "ways"] (Zh ZbL):=⟨rfl,rfl,rfl,by ac_rfl,rfl,by ac_rfl,by ac_rfl⟩
theorem Z2:Zr ["_law_things_here", "_law_room_here", "_law_here", "_law_came", "_law_found", "_law_later", "_law_gone", "_law_number"] ["_law_things_here", "_law_room_here"] (Zh Zay):=⟨rfl,rfl,rfl,by ac_rfl,rfl,by ac_rfl,by ac_rfl⟩
theorem ZgK:Zr ["_law_things_here"] ["_law_things_here"] (Zh ZaJ):=⟨rfl,rfl,rfl,by ac_rfl,rfl,by ac_rfl,by ac_rfl⟩
theorem ZfY:Zr ["_law_whole", "_law_parted", "_law_begin", "_law_end", "_law_count"] ["_law_whole", "_law_parted", "_law_begin", "_law_end", "_law_count"] (Zh Zbc):=⟨rfl,rfl,rfl,by ac_rfl,rfl,by ac_rfl,by ac_rfl⟩
theorem ZJ:Zr ["_law_sizes", "_law_ways", "_law_many", "_law_whole", "_law_parted", "_law_length", "_law_begin", "_law_end", "_law_best", "_law_count", "_law_some", "_law_cut"] ["_law_sizes", "_law_ways"] (Zh Zax):=⟨rfl,rfl,rfl,by ac_rfl,rfl,by ac_rfl,by ac_rfl⟩
theorem ZbP:Zr ["_law_script", "_law_k", "_law_left_here", "_law_things_here", "_law_room_here", "_law_ways", "_law_sizes", "_law_cost", "_law_due", "_law_kept", "_law_turn", "_law_found"] ["_law_script"] (Zh ZcA):=⟨rfl,rfl,rfl,by ac_rfl,rfl,by ac_rfl,by ac_rfl⟩
abbrev zsc(l:List (Str×NameKind)):Scope:={ kind:=.function,names:=l,isGenerator:=false,isCoroutine:=false,more:=[] }
def Zpu:Scope:=zsc [(".0",.«local»),("_law_k",.«local»),("_law_pick",.globalImplicit),("_law_left_here",.free),("_law_some",.free)]
theorem Zmv:ZW ["_law_left_here", "_law_some"] ["_law_left_here", "_law_some", "_law_k"] (Zh ZbT) Zpu:=⟨rfl,rfl,by ac_rfl,by ac_rfl,by ac_rfl,by decide,by ac_rfl,by ac_rfl⟩
def ZoV:Scope:=zsc [(".0",.«local»),("_law_k",.«local»),("_law_pick",.globalImplicit),("_law_left_here",.free)]
theorem Zo4:ZW ["_law_left_here", "_law_stems_here", "_law_tail"] ["_law_left_here", "_law_stems_here", "_law_tail", "_law_k"] (Zh ZcL) ZoV:=⟨rfl,rfl,by ac_rfl,by ac_rfl,by ac_rfl,by decide,by ac_rfl,by ac_rfl⟩
def Zo0:Scope:=zsc [(".0",.«local»),("_law_one",.«local»),("_law_other",.«local»),("_law_same",.globalImplicit)]
theorem ZlV:ZW ["_law_found", "_law_due"] ["_law_found", "_law_due", "_law_one", "_law_other"] (Zh Zcf) Zo0:=⟨rfl,rfl,by ac_rfl,by ac_rfl,by ac_rfl,by decide,by ac_rfl,by ac_rfl⟩
def ZoP:Scope:=zsc [(".0",.«local»),("row",.«local»),("len",.globalImplicit)]
theorem Zpg:ZW ["rows"] ["rows", "row"] (Zh Zbx) ZoP:=⟨rfl,rfl,by ac_rfl,by ac_rfl,by ac_rfl,by decide,by ac_rfl,by ac_rfl⟩
def Zpj:Scope:=zsc [(".0",.«local»),("row",.«local»),("place",.«local»),("key",.«local»)]
theorem Zk5:ZW ["rows"] ["rows", "row", "place", "key"] (Zh Zcg) Zpj:=⟨rfl,rfl,by ac_rfl,by ac_rfl,by ac_rfl,by decide,by ac_rfl,by ac_rfl⟩
def Zpw:Scope:=zsc [(".0",.«local»),("part",.«local»),("merged_by",.globalImplicit),("runs",.free),("things",.free)]
theorem Zk1:ZW ["things", "runs", "tree", "parts", "rows"] ["things", "runs", "tree", "parts", "rows", "part"] (Zh ZaB) Zpw:=⟨rfl,rfl,by ac_rfl,by ac_rfl,by ac_rfl,by decide,by ac_rfl,by ac_rfl⟩
def Zpa:Scope:=zsc [(".0",.«local»),("part",.«local»),("things",.free)]
theorem Zqv:ZW ["things", "runs", "tree", "parts", "rows"] ["things", "runs", "tree", "parts", "rows", "part"] (Zh ZaB) Zpa:=⟨rfl,rfl,by ac_rfl,by ac_rfl,by ac_rfl,by decide,by ac_rfl,by ac_rfl⟩
def Zmm:Scope:=zsc [(".0",.«local»),("part",.«local»),("things",.cell)]
def Zo2:Scope:=zsc [(".0",.«local»),("number",.«local»),("things",.free)]
theorem ZoU:ZW ["things", "runs", "tree", "parts", "rows", "part"] ["things", "runs", "tree", "parts", "rows", "part", "number"] Zmm Zo2:=⟨rfl,rfl,by ac_rfl,by ac_rfl,by ac_rfl,by decide,by ac_rfl,by ac_rfl⟩
def Zoj:Scope:=zsc [(".0",.«local»),("part",.«local»),("place",.«local»),("parts",.free)]
theorem ZlW:ZW ["things", "runs", "tree", "parts", "rows"] ["things", "runs", "tree", "parts", "rows", "part", "place"] (Zh ZaB) Zoj:=⟨rfl,rfl,by ac_rfl,by ac_rfl,by ac_rfl,by decide,by ac_rfl,by ac_rfl⟩
def Zol:Scope:=zsc [(".0",.«local»),("number",.«local»),("things",.free)]
theorem Zmb:ZW ["things", "room", "inside", "next_in", "runs", "goer", "run", "key", "number"] ["things", "room", "inside", "next_in", "runs", "goer", "run", "key", "?number", "number"] (Zh ZbO) Zol:=⟨rfl,rfl,by ac_rfl,by ac_rfl,by ac_rfl,by decide,by ac_rfl,by ac_rfl⟩
def ZmE:Scope:=zsc [(".0",.«local»),("middle",.«local»),("begin",.free),("end",.free),("groves",.free),("most",.free)]
theorem Zd5:ZW ["groves", "begin", "end", "most", "price", "middle"] ["groves", "begin", "end", "most", "price", "?middle", "middle"] (Zh Zbf) ZmE:=⟨rfl,rfl,by ac_rfl,by ac_rfl,by ac_rfl,by decide,by ac_rfl,by ac_rfl⟩
def ZmV:Scope:=zsc [(".0",.«local»),("run",.«local»),("len",.globalImplicit)]
theorem ZkG:ZW ["things", "room", "ways", "runs", "cost", "tree"] ["things", "room", "ways", "runs", "cost", "tree", "run"] (Zh ZbL) ZmV:=⟨rfl,rfl,by ac_rfl,by ac_rfl,by ac_rfl,by decide,by ac_rfl,by ac_rfl⟩
def ZnC:Scope:=zsc [(".0",.«local»),("_law_one",.«local»),("_law_things_here",.free)]
theorem Ziz:ZW ["_law_things_here", "_law_room_here", "_law_here", "_law_came", "_law_found", "_law_later", "_law_gone", "_law_number"] ["_law_things_here", "_law_room_here", "_law_here", "_law_came", "_law_found", "_law_later", "_law_gone", "_law_number", "_law_one"] (Zh Zay) ZnC:=⟨rfl,rfl,by ac_rfl,by ac_rfl,by ac_rfl,by decide,by ac_rfl,by ac_rfl⟩
def Zn0:Scope:=zsc [(".0",.«local»),("_law_key_here",.«local»),("_law_number",.«local»)]
theorem ZkE:ZW ["_law_things_here"] ["_law_things_here", "_law_key_here", "_law_number"] (Zh ZaJ) Zn0:=⟨rfl,rfl,by ac_rfl,by ac_rfl,by ac_rfl,by decide,by ac_rfl,by ac_rfl⟩
def ZnY:Scope:=zsc [(".0",.«local»),("_law_number",.«local»),("_law_key_here",.«local»)]
theorem ZiC:ZW ["_law_things_here"] ["_law_things_here", "_law_number", "_law_key_here"] (Zh ZaJ) ZnY:=⟨rfl,rfl,by ac_rfl,by ac_rfl,by ac_rfl,by decide,by ac_rfl,by ac_rfl⟩
def Zm5:Scope:=zsc [(".0",.«local»),("_law_at",.«local»)]
theorem Zkk:ZW ["_law_sizes", "_law_ways", "_law_many", "_law_whole", "_law_parted", "_law_length", "_law_begin", "_law_end", "_law_best", "_law_count", "_law_some", "_law_cut"] ["_law_sizes", "_law_ways", "_law_many", "_law_whole", "_law_parted", "_law_length", "_law_begin", "_law_end", "_law_best", "_law_count", "_law_some", "_law_cut", "_law_at"] (Zh Zax) Zm5:=⟨rfl,rfl,by ac_rfl,by ac_rfl,by ac_rfl,by decide,by ac_rfl,by ac_rfl⟩
def Znj:Scope:=zsc [(".0",.«local»),("_law_part",.«local»),("len",.globalImplicit)]
theorem Zkv:ZW ["_law_script", "_law_k", "_law_left_here", "_law_things_here", "_law_room_here", "_law_ways", "_law_sizes", "_law_cost", "_law_due", "_law_kept", "_law_turn", "_law_found"] ["_law_script", "_law_k", "_law_left_here", "_law_things_here", "_law_room_here", "_law_ways", "_law_sizes", "_law_cost", "_law_due", "_law_kept", "_law_turn", "_law_found", "_law_part"] (Zh ZcA) Znj:=⟨rfl,rfl,by ac_rfl,by ac_rfl,by ac_rfl,by decide,by ac_rfl,by ac_rfl⟩
structure Bt (mg:Str→Option Value):Prop where
 n_abs:mg "abs" = none
 n_all:mg "all" = none
 n_bool:mg "bool" = none
 n_dict:mg "dict" = none
 n_enumerate:mg "enumerate" = none
 n_int:mg "int" = none
 n_isinstance:mg "isinstance" = none
 n_len:mg "len" = none
 n_list:mg "list" = none
 n_max:mg "max" = none
 n_min:mg "min" = none
 n_range:mg "range" = none
 n_sorted:mg "sorted" = none
 n_str:mg "str" = none
 n_sum:mg "sum" = none
 n_tuple:mg "tuple" = none
 n_zip:mg "zip" = none
structure Zao (K:PySem.W.Frag) (mg:Str→Option Value) (cRow:Addr) (cMerge:Addr):Prop where
 b:Bt mg
 t_is_number:Top K mg "is_number" ZbG ["thing"]
 t_near_plan:Top K mg "near_plan" ZbE ["sizes", "ways"]
 t_least_groves:Top K mg "least_groves" Za2 ["sizes", "ways"]
 t_least_tree:Top K mg "least_tree" Zbs ["groves", "sizes", "ways", "begin", "end"]
 t_least_grove:Top K mg "least_grove" Zbe ["groves", "alone", "begin", "end", "most"]
 t_least_cut:Top K mg "least_cut" Zbf ["groves", "begin", "end", "most"]
 t_alike:Top K mg "alike" ZdK ["one", "other"]
 t_liken:Top K mg "liken" Zdz ["one", "other"]
 t_liken_from:Top K mg "liken_from" Zbp ["one", "other", "far"]
 t_alike_from:Top K mg "alike_from" Zbo ["one", "other", "far"]
 t_order_at:Top K mg "order_at" ZbZ ["one", "other", "at"]
 t_runs_of:Top K mg "runs_of" ZbO ["things", "room"]
 t_run_behind:Top K mg "run_behind" Zbq ["run", "key", "comer"]
 t_halves:Top K mg "halves" ZcR ["numbers"]
 t_way_up:Top K mg "way_up" ZcI ["numbers", "n"]
 t_first_break:Top K mg "first_break" Zba ["keys"]
 t_alikes:Top K mg "alikes" ZcU ["row"]
 t_refuse_break:Top K mg "refuse_break" Za4 ["number", "keys"]
 t_matches_up:Top K mg "matches_up" Zbt ["numbers", "n"]
 t_merged:Top K mg "merged" Zcg ["rows"]
 t_how_many:Top K mg "how_many" Zbx ["rows"]
 t_merged_by:Top K mg "merged_by" ZaB ["things", "runs", "tree"]
 t_sort_by:Top K mg "sort_by" ZbL ["things", "room", "ways"]
 t_l_mix:Top K mg "_law_mix" Zdq ["_law_cell", "_law_k"]
 t_l_left:Top K mg "_law_left" ZcP ["_law_script", "_law_k"]
 t_l_pick:Top K mg "_law_pick" ZcZ ["_law_left_here", "_law_many"]
 t_l_stems:Top K mg "_law_stems" ZbT ["_law_left_here"]
 t_l_key:Top K mg "_law_key" ZcL ["_law_left_here", "_law_stems_here"]
 t_l_things:Top K mg "_law_things" ZbX ["_law_left_here"]
 t_l_room:Top K mg "_law_room" ZcH ["_law_left_here"]
 t_l_rounds_due:Top K mg "_law_rounds_due" Zay ["_law_things_here", "_law_room_here"]
 t_l_in_order:Top K mg "_law_in_order" ZaJ ["_law_things_here"]
 t_l_least_cost:Top K mg "_law_least_cost" Zax ["_law_sizes", "_law_ways"]
 t_l_rest_cost:Top K mg "_law_rest_cost" Zbc ["_law_whole", "_law_parted", "_law_begin", "_law_end", "_law_count"]
 t_l_same:Top K mg "_law_same" Zcf ["_law_found", "_law_due"]
 t_Row_init:ZoL K mg cRow "Row" "Row.__init__" Zbb ["self", "keys"]
 t_Row_to_go:ZeK K cRow "to_go" "Row.to_go" ZaX ["self"]
 t_Row_head:ZeK K cRow "head" "Row.head" Za9 ["self"]
 t_Merge_init:ZoL K mg cMerge "Merge" "Merge.__init__" ZaH ["self", "rows"]
 t_Merge_coming:ZeK K cMerge "coming" "Merge.coming" Zal ["self"]
 t_Merge_take:ZeK K cMerge "take" "Merge.take" ZaI ["self"]
 t_Merge_take_few:ZeK K cMerge "take_few" "Merge.take_few" ZZ ["self", "many"]
 t_Merge_looks:ZeK K cMerge "looks" "Merge.looks" ZaO ["self"]
 t_Merge_play_all:ZeK K cMerge "play_all" "Merge.play_all" Z1 ["self"]
 t_Merge_play:ZeK K cMerge "play" "Merge.play" ZaK ["self", "numbers"]
 t_Merge_send_out:ZeK K cMerge "send_out" "Merge.send_out" Z0 ["self", "number"]
 t_Merge_play_again:ZeK K cMerge "play_again" "Merge.play_again" ZQ ["self", "meeting", "comer"]
 t_Merge_meet:ZeK K cMerge "meet" "Merge.meet" ZaM ["self", "one", "other", "far"]
 cl_Row:Cls K cRow
 na_Row_all_keys:Zbl K cRow "all_keys"
 na_Row_fars:Zbl K cRow "fars"
 na_Row_gone:Zbl K cRow "gone"
 cl_Merge:Cls K cMerge
 na_Merge_best:Zbl K cMerge "best"
 na_Merge_likened:Zbl K cMerge "likened"
 na_Merge_looked:Zbl K cMerge "looked"
 na_Merge_next_number:Zbl K cMerge "next_number"
 na_Merge_rows:Zbl K cMerge "rows"
 na_Merge_stays:Zbl K cMerge "stays"
def Zbr(H:Hp)(p:Addr)(c:Int):Prop:=∃a b:Int,H p=some (.lst [.int a,.int b,.int c])∧0≤c
def But(p:Addr)(H H':Hp):Prop:=∀b o,H b=some o→b≠p→H' b=some o
theorem But.trans{p:Addr}{H H1 H2:Hp}(a:But p H H1)(b:But p H1 H2):But p H H2:=fun c o h n=>b c o (a c o h n) n
theorem But.same{p:Addr}{H H1:Hp}(a:ZA H H1):But p H H1:=fun c o h _=>a c o h
theorem Zg{H:Hp}{p:Addr}(h:H p=none)(o:HO):ZA H (upd H p o):=fun b u q=>by rw[Ze (Zc q h)];exact q
theorem ZcK{n:Nat}(h:n≤1000):n≤sizeLine:=QaD (Zx h)
def Zns:Sp:=fun vs H Q _=>∃a k:Int,vs=[.int a,.int k] ∧ -(2 ^ 62)<k∧k<2 ^ 62∧∀r:Int,0≤r→r<2000000000→Q (.int r) H
def Znm(K:PySem.W.Frag):Sp:=fun vs H Q _=>∃ (a:Addr) (ns:List Int) (k:Int),vs=[.ref a,.int k]∧SqL K H a (ns.map V.int)∧ns.length≤63∧0≤k∧k<100 ∧
 ∀ (p:Addr) (H':Hp),H p=none→Zbr H' p 0→ZA H H'→Q (.ref p) H'
def ZeQ:Sp:=fun vs H Q _=>∃ (p:Addr) (c m:Int),vs=[.ref p,.int m]∧Zbr H p c∧c<2 ^ 60∧0<m∧m<1000000 ∧
 ∀ (r:Int) (H':Hp),0≤r→r<m→Zbr H' p (c+1)→But p H H'→Q (.int r) H'
theorem Zp6{ns:List Int}{k:Int}(h0:0≤k)(h:k<(ns.length:Int)):∃v:Int,atI (ns.map V.int) k=some (.int v):=by
 have hk:k.toNat<ns.length:=by lia
 have ek:k=((k.toNat:Nat):Int):=by lia
 have q:atI (ns.map V.int) ((k.toNat:Nat):Int)=some (.int ns[k.toNat]):=Zaf (by rw[Qk,Qb hk]<;>rfl)
 rw[← ek]at q
 exact⟨_,q⟩
theorem Zjs{ss:List Str}{k:Int}(h0:0≤k)(h:k<(ss.length:Int)):∃s∈ss,atI (ss.map V.str) k=some (.str s):=by
 have hk:k.toNat<ss.length:=by lia
 have ek:k=((k.toNat:Nat):Int):=by lia
 have q:atI (ss.map V.str) ((k.toNat:Nat):Int)=some (.str ss[k.toNat]):=Zaf (by rw[Qk,Qb hk]<;>rfl)
 rw[← ek]at q
 exact⟨_,QX hk,q⟩
theorem ZpF(b:Bool):-(2 ^ 64)<(if b=true then (1:Int) else 0)∧(if b=true then (1:Int) else 0)<2 ^ 64:=by cases b<;>decide
theorem Zeu{z:Str}{k:Int}(h0:0≤k)(h:k<(z.length:Int)):∃c:Nat,z.cps.toList[k.toNat]? = some c∧atI z.cps.toList k=some c:=by
 have hl:z.cps.toList.length=z.length:=by simp[Str.length]
 have hk:k.toNat<z.cps.toList.length:=by lia
 have ek:k=((k.toNat:Nat):Int):=by lia
 have q:atI z.cps.toList ((k.toNat:Nat):Int)=some z.cps.toList[k.toNat]:=Zaf (Qb hk)
 rw[← ek]at q
 exact⟨_,Qb hk,q⟩
theorem Znu(sep:Str)(ys:List Str):(Txt.join sep ys).length≤(ys.map (·.length)).sum+ys.length*sep.length:=by
 have e:Txt.join sep ys=Str.join sep ys:=by simpa using join_plain_closes sep ys
 rw[e]
 exact StrLaws.join_length_le sep ys
theorem Zil:∀ss:List Str,(∀s∈ss,s.length≤1)→(ss.map (·.length)).sum≤ss.length
 | [],_=>Qi _
 | s::r,h=>by
  have h1:=h s QZ
  have h2:=Zil r fun x hx=>h x (Qy _ hx)
  rw[Ql,QV,QK]
  lia
def lcp:List Nat→List Nat→Nat
 | a::r,b::s=>if a=b then lcp r s+1 else 0
 | _,_=>0
theorem Zf3:∀ (x y:List Nat),lcp x y≤x.length∧lcp x y≤y.length
 | [],_=>⟨Qv _,Qv _⟩
 | _::_,[]=>⟨Qv _,Qv _⟩
 | a::r,b::s=>by
  have h:=Zf3 r s
  unfold lcp
  split
  ·exact⟨Nat.succ_le_succ h.1,Nat.succ_le_succ h.2⟩
  ·exact⟨Qv _,Qv _⟩
theorem Zcr:∀ (x y:List Nat),lcp x y=lcp y x
 | [],[]=>rfl
 | [],_::_=>rfl
 | _::_,[]=>rfl
 | a::r,b::s=>by
  unfold lcp
  by_cases h:a=b
  ·rw[if_pos h,if_pos h.symm,Zcr r s]
  ·rw[if_neg h,if_neg fun e=>h e.symm]
theorem Zi0:∀x:List Nat,lcp x x=x.length
 | []=>rfl
 | a::r=>by unfold lcp;rw[if_pos rfl,Zi0 r];rfl
theorem ZdV(x:List Nat):lcp x []=0:=by cases x<;>rfl
theorem lcp_nil'(x:List Nat):lcp [] x=0:=by cases x<;>rfl
theorem Zl4:∀ (x y:List Nat) (k:Nat),k≤lcp x y→∀a,x[k]? = some a→y[k]? = some a→k+1≤lcp x y
 | [],_,k,_,a,h,_=>by simp at h
 | _::_,[],k,_,a,_,h=>by simp at h
 | a::r,b::s,0,_,c,h1,h2=>by
  simp at h1 h2
  unfold lcp
  rw[if_pos (by rw[h1,h2])]
  lia
 | a::r,b::s,k+1,h,c,h1,h2=>by
  unfold lcp at h ⊢
  by_cases e:a=b
  ·rw[if_pos e]at h ⊢
   have:=Zl4 r s k (by lia) c (by simpa using h1) (by simpa using h2)
   lia
  ·rw[if_neg e]at h;lia
theorem ZnJ:∀ (x y:List Nat) (k:Nat),k<lcp x y→x[k]? = y[k]?
 | [],_,k,h=>by unfold lcp at h;lia
 | _::_,[],k,h=>by unfold lcp at h;lia
 | a::r,b::s,0,h=>by
  unfold lcp at h
  by_cases e:a=b
  ·simp[e]
  ·rw[if_neg e]at h;lia
 | a::r,b::s,k+1,h=>by
  unfold lcp at h
  by_cases e:a=b
  ·rw[if_pos e]at h
   simpa using ZnJ r s k (by lia)
  ·rw[if_neg e]at h;lia
theorem ZhX(x y:List Nat)(k:Nat)(h:k≤lcp x y)(n:x.length≤k∨y.length≤k∨∃a b,x[k]? = some a∧y[k]? = some b∧a≠b):lcp x y=k:=by
 have l:=Zf3 x y
 rcases n with n|n|⟨a,b,h1,h2,ne⟩
 ·lia
 ·lia
 ·by_cases q:k<lcp x y
  ·have:=ZnJ x y k q
   rw[h1,h2]at this
   exact absurd (Qq this) ne
  ·lia
theorem Ze5:∀ (x y z:List Nat),(lcp x y≤lcp x z∧lcp y z=lcp x y)∨(lcp x y≤lcp y z∧lcp x z=lcp x y)∨(lcp x z≤lcp x y∧lcp y z=lcp x z)
 | [],y,z=>.inr (.inl ⟨by rw[lcp_nil'];exact Qv _,by rw[lcp_nil',lcp_nil']⟩)
 | x,[],z=>.inl ⟨by rw[ZdV];exact Qv _,by rw[ZdV,lcp_nil']⟩
 | x,y,[]=>.inr (.inr ⟨by rw[ZdV];exact Qv _,by rw[ZdV,ZdV]⟩)
 | a::r,b::s,c::t=>by
  have ih:=Ze5 r s t
  unfold lcp
  by_cases h1:a=b
  ·by_cases h2:b=c
   ·rw[if_pos h1,if_pos h2,if_pos (h1.trans h2)]
    lia
   ·rw[if_pos h1,if_neg h2,if_neg fun e=>h2 (h1.symm.trans e)]
    lia
  ·rw[if_neg h1]
   by_cases h2:b=c
   ·rw[if_pos h2,if_neg fun e=>h1 (e.trans h2.symm)]
    lia
   ·rw[if_neg h2]
    lia
abbrev cds(z:Str):List Nat:=z.cps.toList
def AZ(z:Str):Prop:=∀c∈cds z,97≤c∧c≤122
theorem Zpl(x y:Str):cds (x++y)=cds x++cds y:=by
 show (x++y).cps.toList=_
 rw[PySem.Str.cps_append]
 simp
theorem AZ.app{x y:Str}(a:AZ x)(b:AZ y):AZ (x++y):=fun c h=>by
 rw[Zpl]at h
 exact(Qh.mp h).elim (a c) (b c)
theorem AZ.nil:AZ "":=by unfold AZ cds;ac_rfl
theorem AZ.join:∀ys:List Str,(∀s∈ys,AZ s)→AZ (Str.join "" ys)
 | [],_=>fun c h=>by cases (show c∈([]:List Nat) from h)
 | [x],h=>h x (by simp)
 | x::y::r,h=>((h x (by simp)).app AZ.nil).app (AZ.join (y::r) fun s hs=>h s (Qy _ hs))
theorem AZ.joinT(ys:List Str)(h:∀s∈ys,AZ s):AZ (Txt.join "" ys):=by
 have e:Txt.join "" ys=Str.join "" ys:=by simpa using join_plain_closes "" ys
 rw[e]
 exact AZ.join ys h
theorem AZ.one{z:Str}(a:AZ z){k:Nat}{c:Nat}(h:z.cps.toList[k]? = some c):AZ ⟨#[c]⟩:=fun d hd=>by
 have e:d=c:=by simpa using hd
 rw[e]
 exact a c (Qr h)
theorem AZ.ok{z:Str}(a:AZ z):PyData.strOk z=true:=by
 unfold PyData.strOk
 rw[Array.all_eq_true]
 intro i hi
 have:=a z.cps[i] (by simp)
 exact decide_eq_true (by lia)
theorem Zp0:AZ "ababcz":=by unfold AZ cds;ac_rfl
def ZfB:Sp:=fun vs H Q _=>∃x y:Str,vs=[.str x,.str y]∧x.length≤1000∧y.length≤1000∧Q (.int (lcp (cds x) (cds y))) H
def Zcx:Sp:=fun vs H Q _=>∃ (x y:Str) (far:Nat),vs=[.str x,.str y,.int far]∧x.length≤1000∧y.length≤1000∧far≤lcp (cds x) (cds y)∧Q (.int (lcp (cds x) (cds y))) H
def IsD(H:Hp):Nat→V→V→Prop
 | 0,_,_=>False
 | n+1,x,y=>(x=y∧(x=.non∨(∃b,x=.bl b)∨(∃i,x=.int i)∨∃s,x=.str s)) ∨
   (∃ (p q:Addr) (xs ys:List V),x=.ref p∧y=.ref q∧((H p=some (.lst xs)∧H q=some (.lst ys))∨(H p=some (.tup xs)∧H q=some (.tup ys)))∧xs.length=ys.length∧xs.length≤1000∧∀ (i:Nat) (x y:V),xs[i]? = some x→ys[i]? = some y→IsD H n x y)
theorem IsD.mono{H H':Hp}(s:ZA H H'):∀ {n:Nat} {x y:V},IsD H n x y→IsD H' n x y
 | 0,_,_,h=>h.elim
 | n+1,x,y,h=>by
  rcases h with h|⟨p,q,xs,ys,e1,e2,h,hl,hz,hi⟩
  ·exact .inl h
  ·refine .inr ⟨p,q,xs,ys,e1,e2,?_,hl,hz,fun i x y a b=>(hi i x y a b).mono s⟩
   rcases h with⟨a,b⟩|⟨a,b⟩
   ·exact .inl ⟨s _ _ a,s _ _ b⟩
   ·exact .inr ⟨s _ _ a,s _ _ b⟩
def ZqM(n:Nat):Sp:=fun vs H Q _=>∃x y:V,vs=[x,y]∧IsD H n x y∧∀H',ZA H H'→Q (.bl true) H'
section
variable (K:PySem.W.Frag)
open PySem.W
theorem Zly:kitAny K (.type "int") (["list", "tuple"].map Value.type)=some false:=by unfold kitAny kitOne kitCls;rfl
theorem ZnD:kitAny K (.type "bool") (["list", "tuple"].map Value.type)=some false:=by unfold kitAny kitOne kitCls;rfl
theorem Zlm:kitAny K (.type "str") (["list", "tuple"].map Value.type)=some false:=by unfold kitAny kitOne kitCls;rfl
theorem Zle:kitAny K (.type "NoneType") (["list", "tuple"].map Value.type)=some false:=by unfold kitAny kitOne kitCls;rfl
theorem ZlT:kitAny K (.type "list") (["list", "tuple"].map Value.type)=some true:=by unfold kitAny kitOne kitCls;rfl
theorem ZlQ:kitAny K (.type "tuple") (["list", "tuple"].map Value.type)=some true:=by unfold kitAny kitOne kitCls;rfl
theorem Zhn:kitOne K (.type "list") (.type "list")=some true:=by unfold kitOne kitCls;rfl
theorem Zhz:kitOne K (.type "list") (.type "tuple")=some false:=by unfold kitOne kitCls;rfl
theorem Zho:kitOne K (.type "tuple") (.type "list")=some false:=by unfold kitOne kitCls;rfl
theorem Zg2:kitOne K (.type "tuple") (.type "tuple")=some true:=by unfold kitOne kitCls;rfl
theorem ZlX:kitOne K (.type "int") (.type "str")=some false:=by unfold kitOne kitCls;rfl
theorem ZfD:kitOne K (.type "int") (.type "bool")=some false:=by unfold kitOne kitCls;rfl
theorem Zhu:kitOne K (.type "int") (.type "int")=some true:=by unfold kitOne kitCls;rfl
theorem ZeI:kitOne K (.type "str") (.type "str")=some true:=by unfold kitOne kitCls;rfl
theorem ZgS:kitOne K (.type "NoneType") (.type "str")=some false:=by unfold kitOne kitCls;rfl
theorem Znw:kitOne K (.type "bool") (.type "str")=some false:=by unfold kitOne kitCls;rfl
theorem Zkt:kitOne K (.type "bool") (.type "bool")=some true:=by unfold kitOne kitCls;rfl
end
section
variable {P:Program} {w:World} {K:PySem.W.Frag} {mg:Str→Option Value} {base:Heap} {cRow cMerge:Addr}
theorem Zrd(T:Zao K mg cRow cMerge):Df P w K mg base 1 "_law_mix" ["_law_cell", "_law_k"] Zns:=by
 refine T.t_l_mix.df ZiQ (fun vs H Q E h=>?_) (fun cdv f A outer s H vs Q E hr h=>?_)
 ·obtain⟨a,k,rfl,_⟩:=h
  rfl
 obtain⟨a,k,rfl,k1,k2,q⟩:=h
 refine⟨_,#[Zf,#[Zu,2,ZiQ.nd,(Or.inl rfl),#[ZC,Zf7,#[ZC,ZeZ,#[ZC,ZV,#[ZC,ZV,#[ZC,Zf7,‹0›,#[Zi]],#[ZC,ZeZ,#[ZC,ZeZ,‹1›,‹1›],#[Zi]]],#[Zi]],#[Zi]],#[Zi]]],#[Zj,#[Zp,#[ZC,Zf7,#[ZC,ZeZ,‹2›,‹2›],#[Zi]]]]],?_⟩
 refine⟨_,rfl,_,_,rfl,rfl,(by show (0:Int)<_;decide),_,rfl,_,rfl,_,_,rfl,rfl,.inl ⟨by lia,by lia⟩,_,_,rfl,rfl,.inr ⟨by decide,by decide⟩,_,_,rfl,rfl,_,_,rfl,rfl,_,_,rfl,rfl,.inr ⟨by decide,by decide⟩,_,_,rfl,rfl,(by show (0:Int)<_;decide),?_⟩
 have m0:=Int.emod_nonneg ((a % 2147483629+k*k*7919+11)*48271) (show (2147483647:Int)≠0 by decide)
 have m1:=QaW ((a % 2147483629+k*k*7919+11)*48271) (show (0:Int)<2147483647 by decide)
 refine⟨_,rfl,_,rfl,_,_,rfl,rfl,.inl ⟨by lia,by lia⟩,_,_,rfl,rfl,(by show (0:Int)<_;decide),?_⟩
 exact q _ (Int.emod_nonneg _ (by decide)) (Int.lt_trans (QaW _ (by decide)) (by decide))
theorem Zo8(T:Zao K mg cRow cMerge):Df P w K mg base 1 "_law_left" ["_law_script", "_law_k"] (Znm K):=by
 refine T.t_l_left.df Zhv (fun vs H Q E h=>?_) (fun cdv f A outer s H vs Q E hr h=>?_)
 ·obtain⟨a,ns,k,rfl,_⟩:=h
  rfl
 obtain⟨a,ns,k,rfl,hS,h63,k0,k1,q⟩:=h
 refine⟨_,#[Zf,#[Zu,2,Zhv.nd,(Or.inl rfl),#[Za1,#[Zn,Zd4,‹1›,#[Zk,(ZbC K),(by rfl),T.b.n_len,Qw,#[Za,‹0›,#[Zd]]],(Zs _)],#[Zz,(ixL K),‹0›,‹1›],#[Zi]]],#[Zj,#[Zp,#[Zai,#[Za,#[ZC,ZeZ,#[Zk,ZiS,(by rfl),T.b.n_abs,boot_abs,#[Za,‹2›,#[Zd]]],#[Za5,Zg3,T.b.n_int,boot_int,#[Za,#[Zdh,ZpG,#[Zk,ZiS,(by rfl),T.b.n_abs,boot_abs,#[Za,‹2›,#[Zd]]],#[ZC,Zq3,#[Zi],#[Zi]],(Zs _)],#[Zd]]]],#[Za,#[ZC,ZV,‹2›,#[ZC,ZeZ,#[Zi],‹1›]],#[Za,#[Zi],#[Zd]]]]]]]],?_⟩
 have hl:(ns.map V.int).length=ns.length:=Qa _
 have pw:ZrG 10 18:=⟨by decide,by decide,by decide⟩
 refine⟨_,rfl,_,rfl,a,_,rfl,.inl hS,_,_,rfl,rfl,_,rfl,?_⟩
 refine Za3 (fun c=>?_) (fun c=>?_)
 ·have c':k<(((ns.map V.int).length:Nat):Int):=of_decide_eq_true c
  rw[hl]at c'
  obtain⟨v,hv⟩:=Zp6 (ns:=ns) k0 c'
  refine⟨_,rfl,_,rfl,a,_,_,_,rfl,rfl,hS,hv,?_⟩
  refine⟨_,rfl,_,rfl,_,rfl,_,rfl,_,_,rfl,rfl,pw,_,_,rfl,rfl,.inr ⟨_,rfl,_,_,rfl,rfl,.inr (ZpF _),_,rfl,_,rfl,_,_,rfl,rfl,.inl ⟨by decide,by decide⟩,_,_,rfl,rfl,(by show 3≤sizeLine;decide),fun p hp=>?_⟩⟩
  exact q p _ hp ⟨_,_,Zb,QaX _⟩ (Zg hp _)
 ·refine⟨_,rfl,_,rfl,_,rfl,_,rfl,_,_,rfl,rfl,pw,_,_,rfl,rfl,.inr ⟨_,rfl,_,_,rfl,rfl,.inr (ZpF _),_,rfl,_,rfl,_,_,rfl,rfl,.inl ⟨by decide,by decide⟩,_,_,rfl,rfl,(by show 3≤sizeLine;decide),fun p hp=>?_⟩⟩
  exact q p _ hp ⟨_,_,Zb,QaX _⟩ (Zg hp _)
theorem Zpk(T:Zao K mg cRow cMerge)(f_l_mix:Df P w K mg base 1 "_law_mix" ["_law_cell", "_law_k"] Zns):Df P w K mg base 2 "_law_pick" ["_law_left_here", "_law_many"] ZeQ:=by
 refine T.t_l_pick.df Zhs (fun vs H Q E h=>?_) (fun cdv f A outer s H vs Q E hr h=>?_)
 ·obtain⟨p,c,m,rfl,_⟩:=h
  rfl
 obtain⟨p,c,m,rfl,⟨a,b,hp,c0⟩,c1,m0,m1,q⟩:=h
 refine⟨_,#[Zf,#[ZaS,#[ZC,ZV,#[Zz,(ixL K),‹0›,#[Zi]],#[Zi]],#[ZcF,‹0›,#[Zi],Ziw]],#[Zf,#[Z9,#[Zn,ZfF,#[Zz,(ixL K),‹0›,#[Zi]],#[Zi],(Zs _)],#[Zf,#[Zu,2,Zhs.nd,(Or.inl rfl),#[ZC,Zf7,#[Zz,(ixL K),‹0›,#[Zi]],‹1›]],#[Zf,#[ZaS,#[ZC,ZfA,#[Zz,(ixL K),‹0›,#[Zi]],‹1›],#[ZcF,‹0›,#[Zi],Ziw]],#[Zj,#[Zp,‹2›]]]],#[ZF]],#[Zj,#[Zp,#[ZC,Zf7,#[ZC,ZfA,#[ZD,f_l_mix,hr,#[Za,#[ZD,f_l_mix,hr,#[Za,#[Zz,(ixL K),‹0›,#[Zi]],#[Za,#[Zz,(ixL K),‹0›,#[Zi]],#[Zd]]],(by rfl)],#[Za,#[ZC,ZV,#[Zz,(ixL K),‹0›,#[Zi]],#[Zi]],#[Zd]]],(by rfl)],#[Zi]],‹1›]]]]],?_⟩
 have u1:(upd H p (.lst [.int a,.int b,.int (c+1)])) p=some (.lst [.int a,.int b,.int (c+1)]):=Zb
 refine⟨_,rfl,p,_,_,_,rfl,rfl,SqL.of hp,rfl,_,_,rfl,rfl,_,rfl,p,_,_,2,rfl,rfl,hp,rfl,?_⟩
 refine⟨_,rfl,p,_,_,_,rfl,rfl,SqL.of u1,rfl,_,_,rfl,rfl,_,rfl,?_⟩
 refine Za3 (fun d=>?_) (fun d=>?_)
 ·refine⟨_,rfl,p,_,_,_,rfl,rfl,SqL.of u1,rfl,_,rfl,_,_,rfl,rfl,m0,?_⟩
  refine⟨_,rfl,p,_,_,_,rfl,rfl,SqL.of u1,rfl,_,rfl,_,_,rfl,rfl,⟨m0,by lia⟩,_,rfl,p,_,_,0,rfl,rfl,u1,rfl,?_⟩
  refine⟨_,rfl,?_⟩
  refine q _ _ (Int.emod_nonneg _ (by lia)) (QaW _ m0) ⟨a / m,b,Zb,by lia⟩ fun e o h n=>?_
  rw[Ze n,Ze n]
  exact h
 ·refine⟨_,rfl,p,_,_,_,rfl,rfl,SqL.of u1,rfl,_,rfl,p,_,_,_,rfl,rfl,SqL.of u1,rfl,_,_,rfl,by lia,by lia,fun r r0 r1=>?_⟩
  refine⟨_,rfl,p,_,_,_,rfl,rfl,SqL.of u1,rfl,_,_,rfl,rfl,_,_,rfl,by lia,by lia,fun r' r0' r1'=>?_⟩
  refine⟨_,_,rfl,rfl,⟨by decide,by decide⟩,_,rfl,_,_,rfl,rfl,m0,?_⟩
  refine q _ _ (Int.emod_nonneg _ (by lia)) (QaW _ m0) ⟨a,b,Zb,by lia⟩ fun e o h n=>?_
  rw[Ze n]
  exact h
def ZbV:List Str:=["", "a", "ab", "aba", "abab", "b", "zebra", "aaaaaaaa", "knowswho", "z", "abababababab",Txt.mul "a" 24]
theorem ZiY:∀s∈ZbV,s.length≤24:=by ac_rfl
theorem ZjL:∀s∈ZbV,AZ s:=by unfold AZ cds;ac_rfl
def ZhI:Sp:=fun vs H Q _=>∃ (p:Addr) (c:Int),vs=[.ref p]∧Zbr H p c∧c<2 ^ 50 ∧
 ∀ (l:Addr) (ss:List Str) (c':Int) (H':Hp),H l=none→H' l=some (.lst (ss.map V.str))→1≤ss.length→ss.length≤4→(∀s∈ss,s.length≤24∧AZ s)→Zbr H' p c'→c≤c'→c'≤c+5→But p H H'→Q (.ref l) H'
def ZmQ:Sp:=fun vs H Q _=>∃ (p l:Addr) (c:Int) (ss:List Str),vs=[.ref p,.ref l]∧Zbr H p c∧c<2 ^ 50∧H l=some (.lst (ss.map V.str))∧1≤ss.length∧ss.length≤4∧(∀s∈ss,s.length≤24∧AZ s) ∧
 ∀ (z:Str) (c':Int) (H':Hp),z.length≤28→AZ z→Zbr H' p c'→c≤c'→c'≤c+6→But p H H'→Q (.str z) H'
theorem Zm9(T:Zao K mg cRow cMerge)(f_l_pick:Df P w K mg base 2 "_law_pick" ["_law_left_here", "_law_many"] ZeQ):Df P w K mg base 3 "_law_stems" ["_law_left_here"] ZhI:=by
 refine T.t_l_stems.df ZfH (fun vs H Q E h=>?_) (fun cdv f A outer s H vs Q E hr h=>?_)
 ·obtain⟨p,c,rfl,_⟩:=h
  rfl
 obtain⟨p,c,rfl,hL,c1,q⟩:=h
 refine⟨_,#[Zf,#[Zu,1,ZfH.nd,(Or.inr rfl),#[Zai,#[Za,#[Zbm],#[Za,#[Zbm],#[Za,#[Zbm],#[Za,#[Zbm],#[Za,#[Zbm],#[Za,#[Zbm],#[Za,#[Zbm],#[Za,#[Zbm],#[Za,#[Zbm],#[Za,#[Zbm],#[Za,#[Zbm],#[Za,#[ZC,ZoS,#[Zbm],#[Zi]],#[Zd]]]]]]]]]]]]]]],#[Zj,#[Zp,#[Za8,Zmv,#[Zbj,T.b.n_range,#[Za,#[ZC,ZV,#[Zi],#[ZD,f_l_pick,hr,#[Za,#[pv,0,(Or.inr (Or.inl rfl))],#[Za,#[Zi],#[Zd]]],(by rfl)]],#[Zd]]],(fun _ _ _ _=>#[cg,2,Zmv]),(fun _ _ _ _=>(@ZaC _)),(fun _ _ _ _=>#[Zz,(ixL K),#[cv,1,Zmv],#[ZD,f_l_pick,hr,#[Za,#[cv,0,Zmv],#[Za,#[Zi],#[Zd]]],(ZbQ Zmv rfl (by ac_rfl))]])]]]],?_⟩
 refine⟨_,_,rfl,rfl,by decide,by decide,by decide,(by show 12≤sizeLine;decide),fun l hl=>?_⟩
 have npl:p≠l:=by obtain⟨a,b,hp,_⟩:=hL;exact Zc hp hl
 have hL1:Zbr (upd H l (.lst (ZbV.map V.str))) p c:=by obtain⟨a,b,hp,c0⟩:=hL;exact⟨a,b,by rw[Ze npl];exact hp,c0⟩
 refine⟨_,rfl,p,c,_,rfl,hL1,by lia,by decide,by decide,fun r H1 r0 r1 L1 B1=>?_⟩
 refine⟨_,_,rfl,rfl,_,rfl,by lia,by lia,fun D hD=>?_⟩
 have c0:0≤c:=by obtain⟨a,b,hp,c0⟩:=hL;exact c0
 have h1l:H1 l=some (.lst (ZbV.map V.str)):=B1 l _ Zb npl.symm
 have npD:p≠D:=by obtain⟨a,b,hp,_⟩:=L1;exact Zc hp hD
 have nlD:l≠D:=Zc h1l hD
 refine Zcl (fun i ys σ H2=>∃ (ss:List Str) (v:Option V) (c2:Int),σ=[some (.ref p),some (.ref l),v]∧ys=ss.map V.str∧ss.length=i∧(∀s∈ss,s.length≤24∧AZ s)∧Zbr H2 p c2∧c+1≤c2∧c2≤c+1+i ∧
   H2 l=some (.lst (ZbV.map V.str))∧H2 D=some (.lst ys)∧But p H H2) ?_ ?_ ?_
 ·refine⟨[],none,c+1,rfl,rfl,rfl,(fun s hs=>by cases hs),?_,by lia,by lia,?_,Zb,?_⟩
  ·obtain⟨a,b,hp,q0⟩:=L1
   exact⟨a,b,by rw[Ze npD];exact hp,q0⟩
  ·rw[Ze nlD];exact h1l
  ·intro b o e n
   have e1:(upd H l (.lst (ZbV.map V.str))) b=some o:=by rw[Ze (Zc e hl)];exact e
   have e2:=B1 b o e1 n
   rw[Ze (Zc e2 hD)]
   exact e2
 ·rintro i ys σ H2 hi ⟨ss,v,c2,rfl,rfl,hn,hs,L2',b1,b2,hl2,hD2,B2⟩
  refine⟨_,rfl,_,rfl,p,c2,_,rfl,L2',by lia,by decide,by decide,fun r' H3 r0' r1' L3 B3=>?_⟩
  obtain⟨s,hs1,hs2⟩:=Zjs (ss:=ZbV) r0' r1'
  have hD3:H3 D=some (.lst (ss.map V.str)):=B3 D _ hD2 npD.symm
  have hl3:H3 l=some (.lst (ZbV.map V.str)):=B3 l _ hl2 npl.symm
  refine⟨l,_,_,_,rfl,rfl,SqL.of hl3,hs2,hD3,(by rw[Qa,hn];exact Zx (by lia)),ss++[s],_,c2+1,rfl,?_,?_,?_,?_,by lia,by lia,?_,Zb,?_⟩
  ·rw[Qf];rfl
  ·rw[Qg,hn];rfl
  ·intro x hx
   rcases Qh.mp hx with hx|hx
   ·exact hs x hx
   ·rw[Qe.mp hx];exact⟨ZiY s hs1,ZjL s hs1⟩
  ·obtain⟨a,b,hp,q0⟩:=L3
   exact⟨a,b,by rw[Ze npD];exact hp,q0⟩
  ·rw[Ze nlD];exact hl3
  ·intro b o e n
   have e2:=B3 b o (B2 b o e n) n
   have e3:H D=none:=by
    cases w':H D with
    | none=>rfl
    | some u =>
     have nDp:D≠p:=npD.symm
     have z1:(upd H l (.lst (ZbV.map V.str))) D=some u:=by rw[Ze nlD.symm];exact w'
     rw[B1 D u z1 nDp]at hD
     cases hD
   rw[Ze (Zc e e3)]
   exact e2
 ·rintro ys σ H2 ⟨ss,v,c2,rfl,rfl,hn,hs,L2',b1,b2,hl2,hD2,B2⟩
  have e3:H D=none:=by
   cases w':H D with
   | none=>rfl
   | some u =>
    have z1:(upd H l (.lst (ZbV.map V.str))) D=some u:=by rw[Ze nlD.symm];exact w'
    rw[B1 D u z1 npD.symm]at hD
    cases hD
  exact q D ss c2 H2 e3 hD2 (by lia) (by lia) hs L2' (by lia) (by lia) B2
theorem ZqD(T:Zao K mg cRow cMerge)(f_l_pick:Df P w K mg base 2 "_law_pick" ["_law_left_here", "_law_many"] ZeQ):Df P w K mg base 3 "_law_key" ["_law_left_here", "_law_stems_here"] ZmQ:=by
 refine T.t_l_key.df ZiW (fun vs H Q E h=>?_) (fun cdv f A outer s H vs Q E hr h=>?_)
 ·obtain⟨p,l,c,ss,rfl,_⟩:=h
  rfl
 obtain⟨p,l,c,ss,rfl,hL,c1,hl,n1,n4,h24,q⟩:=h
 refine⟨_,#[Zf,#[Zu,2,ZiW.nd,(Or.inl rfl),#[ZbY,PySem.F.plainAttrs_str,PySem.F.slot_str_join,PySem.F.type_str_join,(ZrJ K),#[Zbm],#[Za,#[Za8,Zo4,#[Zbj,T.b.n_range,#[Za,#[ZD,f_l_pick,hr,#[Za,#[pv,0,(Or.inr (Or.inl rfl))],#[Za,#[Zi],#[Zd]]],(by rfl)],#[Zd]]],(fun _ _ _ _=>#[cg,3,Zo4]),(fun _ _ _ _=>(@ZaC _)),(fun _ _ _ _=>#[Zz,Zgt,#[Zbm],#[ZD,f_l_pick,hr,#[Za,#[cv,0,Zo4],#[Za,#[Zi],#[Zd]]],(ZbQ Zo4 rfl (by ac_rfl))]])],#[Zd]]]],#[Zj,#[Zp,#[ZC,ZjH,#[Zz,(ixL K),‹1›,#[ZD,f_l_pick,hr,#[Za,#[pv,0,(Or.inr (Or.inl rfl))],#[Za,#[Zk,(ZbC K),(by rfl),T.b.n_len,Qw,#[Za,‹1›,#[Zd]]],#[Zd]]],(by rfl)]],‹2›]]]],?_⟩
 have c0:0≤c:=by obtain⟨a,b,hp,c0⟩:=hL;exact c0
 have npl:p≠l:=by
  obtain⟨a,b,hp,_⟩:=hL
  refine ZgW hp hl fun e=>?_
  have e1:=congrArg List.length (HO.lst.inj e)
  cases ss with
  | nil=>cases e1
  | cons x r=>exact absurd (HO.lst.inj e) (by intro z;cases z)
 refine⟨rfl,_,rfl,p,c,_,rfl,hL,by lia,by decide,by decide,fun r H1 r0 r1 L1 B1=>?_⟩
 refine⟨_,rfl,by lia,by lia,fun D hD=>?_⟩
 have npD:p≠D:=by obtain⟨a,b,hp,_⟩:=L1;exact Zc hp hD
 have h1l:=B1 l _ hl npl.symm
 have nlD:l≠D:=Zc h1l hD
 have hDn:H D=none:=by
  cases w':H D with
  | none=>rfl
  | some u=>rw[B1 D u w' npD.symm]at hD;cases hD
 refine Zcl (fun i ys σ H2=>∃ (ts:List Str) (v:Option V) (c2:Int),σ=[some (.ref p),some (.ref l),none,v]∧ys=ts.map V.str∧ts.length=i∧(∀s∈ts,s.length≤1∧AZ s)∧Zbr H2 p c2∧c+1≤c2∧c2≤c+1+i ∧
   H2 D=some (.lst ys)∧But p H H2) ?_ ?_ ?_
 ·refine⟨[],none,c+1,rfl,rfl,rfl,(fun s hs=>by cases hs),?_,by lia,by lia,Zb,?_⟩
  ·obtain⟨a,b,hp,q0⟩:=L1
   exact⟨a,b,by rw[Ze npD];exact hp,q0⟩
  ·intro b o e n
   rw[Ze (Zc e hDn)]
   exact B1 b o e n
 ·rintro i ys σ H2 hi ⟨ts,v,c2,rfl,rfl,hn,hs,L2',b1,b2,hD2,B2⟩
  refine⟨_,rfl,p,c2,_,rfl,L2',by lia,by decide,by decide,fun r' H3 r0' r1' L3 B3=>?_⟩
  obtain⟨ch,hcm,hch⟩:=Zeu (z := "ababcz") r0' r1'
  have hD3:H3 D=some (.lst (ts.map V.str)):=B3 D _ hD2 npD.symm
  refine⟨_,_,_,rfl,rfl,(by ac_rfl),hch,hD3,(by rw[Qa,hn];exact Zx (by lia)),ts++[⟨#[ch]⟩],_,c2+1,rfl,?_,?_,?_,?_,by lia,by lia,Zb,?_⟩
  ·rw[Qf];rfl
  ·rw[Qg,hn];rfl
  ·intro x hx
   rcases Qh.mp hx with hx|hx
   ·exact hs x hx
   ·rw[Qe.mp hx];exact⟨Qi 1,Zp0.one hcm⟩
  ·obtain⟨a,b,hp,q0⟩:=L3
   exact⟨a,b,by rw[Ze npD];exact hp,q0⟩
  ·intro b o e n
   rw[Ze (Zc e hDn)]
   exact B3 b o (B2 b o e n) n
 ·rintro ys σ H2 ⟨ts,v,c2,rfl,rfl,hn,hs,L2',b1,b2,hD2,B2⟩
  have hsum:=Zil ts fun s h=>(hs s h).1
  have hjl:=Znu "" ts
  have e0:("" : Str).length=0:=by ac_rfl
  rw[e0]at hjl
  have hl2:=B2 l _ hl npl.symm
  refine⟨_,D,ts,rfl,rfl,SqL.of hD2,(by rw[e0];lia),?_⟩
  have hlen:(((ss.map V.str).length:Nat):Int)=(ss.length:Int):=by rw[Qa]
  refine⟨_,rfl,_,rfl,_,rfl,l,_,rfl,.inl (SqL.of hl2),p,c2,_,rfl,L2',by lia,by lia,by lia,fun r' H3 r0' r1' L3 B3=>?_⟩
  obtain⟨st,hs1,hs2⟩:=Zjs (ss:=ss) r0' (by lia)
  have hst:=(h24 st hs1).1
  refine⟨l,_,_,_,rfl,rfl,SqL.of (B3 l _ hl2 npl.symm),hs2,_,rfl,_,_,rfl,rfl,ZcK (by lia),?_⟩
  refine q _ (c2+1) H3 ?_ ((h24 st hs1).2.app (AZ.joinT ts fun s h=>(hs s h).2)) L3 (by lia) (by lia) (B2.trans B3)
  rw[PySem.Str.length_append]
  lia
theorem ZgG(T:Zao K mg cRow cMerge):Df P w K mg base 1 "alike_from" ["one", "other", "far"] Zcx:=by
 refine T.t_alike_from.df ZcD (fun vs H Q E h=>?_) (fun cdv f A outer s H vs Q E hr h=>?_)
 ·obtain⟨x,y,far,rfl,_⟩:=h
  rfl
 obtain⟨x,y,far,rfl,hx,hy,hf,q⟩:=h
 refine⟨_,#[Zf,#[Zu,3,ZcD.nd,(Or.inl rfl),‹2›],#[Zf,(@ZcT _ _ _ _ _ _ PassesOwn.never (@PW.pt _ _ _ #[Ze8,#[Zn,Zd4,‹3›,#[Zk,Zbg,(by rfl),T.b.n_len,Qw,#[Za,‹0›,#[Zd]]],(Zs _)],#[Ze8,#[Zn,Zd4,‹3›,#[Zk,Zbg,(by rfl),T.b.n_len,Qw,#[Za,‹1›,#[Zd]]],(Zs _)],(@Zey _ _ _ _ #[Zn,Za7,#[Zz,Zgt,‹0›,‹3›],#[Zz,Zgt,‹1›,‹3›],(Zs _)])]]) #[Zj,(@ZnI _ _ 3 _ _ _ _ _ _ ZcD.nd rfl (Or.inl rfl) #[Zi] Zny (by trivial))]),#[Zj,#[Zp,‹3›]]]],?_⟩
 refine⟨_,rfl,?_⟩
 have lx:(cds x).length=x.length:=by simp[Str.length]
 have ly:(cds y).length=y.length:=by simp[Str.length]
 have ll:=Zf3 (cds x) (cds y)
 refine⟨fun m σ H2=>∃k:Nat,σ=[some (.str x),some (.str y),some (.int far),some (.int k)]∧H2=H∧k≤lcp (cds x) (cds y)∧m=lcp (cds x) (cds y)-k,⟨_,far,rfl,rfl,hf,rfl⟩,?_⟩
 rintro m σ H2 ⟨k,rfl,rfl,hk,rfl⟩
 refine⟨_,rfl,_,rfl,x,rfl,ZcK hx,_,_,rfl,rfl,_,rfl,?_⟩
 refine Za3 (fun d1=>?_) (fun d1=>?_)
 ·have d1':(k:Int)<(x.length:Int):=of_decide_eq_true d1
  refine⟨_,rfl,_,rfl,y,rfl,ZcK hy,_,_,rfl,rfl,_,rfl,?_⟩
  refine Za3 (fun d2=>?_) (fun d2=>?_)
  ·have d2':(k:Int)<(y.length:Int):=of_decide_eq_true d2
   obtain⟨a,ha,ha'⟩:=Zeu (z:=x) (k:=k) (by lia) d1'
   obtain⟨b,hb,hb'⟩:=Zeu (z:=y) (k:=k) (by lia) d2'
   rw[Qaf]at ha hb
   refine⟨_,rfl,_,rfl,x,_,a,rfl,rfl,ZcK hx,ha',_,rfl,_,rfl,y,_,b,rfl,rfl,ZcK hy,hb',rfl,_,rfl,?_⟩
   refine Za3 (fun d3=>?_) (fun d3=>?_)
   ·have d3':a=b:=by
     have:=of_decide_eq_true d3
     injection this with e
     injection e with e
     simpa using e
    subst d3'
    have:=Zl4 _ _ k hk a ha hb
    refine⟨fun σ' H'=>σ'=[some (.str x),some (.str y),some (.int far),some (.int ((k+1:Nat):Int))]∧H'=H2,fun σ' H' ⟨e1,e2⟩=>⟨_,?_,k+1,e1,e2,this,rfl⟩,?_⟩
    ·lia
    ·exact⟨_,rfl,_,_,rfl,rfl,rfl,rfl⟩
   ·refine⟨_,rfl,?_⟩
    have e:=ZhX _ _ k hk (.inr (.inr ⟨a,b,ha,hb,fun e=>d3 (by subst e;exact decide_eq_true rfl)⟩))
    rw[e]at q
    exact q
  ·refine Zcz ⟨_,rfl,?_⟩
   have d2':¬ (k:Int)<(y.length:Int):=of_decide_eq_false (Bool.eq_false_iff.mpr d2)
   have e:=ZhX _ _ k hk (.inr (.inl (by lia)))
   rw[e]at q
   exact q
 ·refine Zcz ⟨_,rfl,?_⟩
  have d1':¬ (k:Int)<(x.length:Int):=of_decide_eq_false (Bool.eq_false_iff.mpr d1)
  have e:=ZhX _ _ k hk (.inl (by lia))
  rw[e]at q
  exact q
theorem Zmr(T:Zao K mg cRow cMerge)(f_alike_from:Df P w K mg base 1 "alike_from" ["one", "other", "far"] Zcx):Df P w K mg base 2 "alike" ["one", "other"] ZfB:=by
 refine T.t_alike.df Zm2 (fun vs H Q E h=>?_) (fun cdv f A outer s H vs Q E hr h=>?_)
 ·obtain⟨x,y,rfl,_⟩:=h
  rfl
 obtain⟨x,y,rfl,hx,hy,q⟩:=h
 refine⟨_,#[Zj,#[Zp,#[ZD,f_alike_from,hr,#[Za,‹0›,#[Za,‹1›,#[Za,#[Zi],#[Zd]]]],(by rfl)]]],?_⟩
 exact⟨_,rfl,_,rfl,x,y,0,rfl,hx,hy,Qv _,q⟩
theorem ZdA{c A B:Prop}[Decidable c](hc:c)(h:A):if decide c=true then A else B:=by
 rw[if_pos (decide_eq_true hc)]
 exact h
theorem Zco{c A B:Prop}[Decidable c](hc:¬ c)(h:B):if decide c=true then A else B:=by
 rw[if_neg (by rw[decide_eq_false hc];exact Qz)]
 exact h
theorem Zku(T:Zao K mg cRow cMerge):∀n:Nat,Df P w K mg base (n+1) "_law_same" ["_law_found", "_law_due"] (ZqM n)
 | 0=>by
  refine T.t_l_same.df Zhm (fun vs H Q E h=>?_) (fun cdv f A outer s H vs Q E hr h=>?_)
  ·obtain⟨x,y,rfl,_⟩:=h
   rfl
  obtain⟨x,y,rfl,h,_⟩:=h
  exact h.elim
 | n+1=>by
  have f_l_same:=Zku T n
  refine T.t_l_same.df Zhm (fun vs H Q E h=>?_) (fun cdv f A outer s H vs Q E hr h=>?_)
  ·obtain⟨x,y,rfl,_⟩:=h
   rfl
  obtain⟨x,y,rfl,hD,q⟩:=h
  refine⟨_,#[Zf,#[Z9,#[ZeN,#[Zk,(Zrk K),(by rfl),T.b.n_isinstance,boot_isinstance,#[Za,‹1›,#[Za,#[ZH,#[Za,#[Zcm,T.b.n_list,boot_list],#[Za,#[Zcm,T.b.n_tuple,boot_tuple],#[Zd]]]],#[Zd]]]]],#[Zf,#[Z9,(@PW.pt _ _ _ (@ZiV _ _ _ _ _ _ _ #[Zn,ZpB,#[Zk,(Ze7 K),(by rfl),T.b.n_isinstance,boot_isinstance,#[Za,‹0›,#[Za,#[Zcm,T.b.n_list,boot_list],#[Zd]]]],#[Zk,(Ze7 K),(by rfl),T.b.n_isinstance,boot_isinstance,#[Za,‹1›,#[Za,#[Zcm,T.b.n_list,boot_list],#[Zd]]]],(Zs _)] (@Zgc _ _ _ _ #[Zn,ZpB,#[Zk,(Ze7 K),(by rfl),T.b.n_isinstance,boot_isinstance,#[Za,‹0›,#[Za,#[Zcm,T.b.n_tuple,boot_tuple],#[Zd]]]],#[Zk,(Ze7 K),(by rfl),T.b.n_isinstance,boot_isinstance,#[Za,‹1›,#[Za,#[Zcm,T.b.n_tuple,boot_tuple],#[Zd]]]],(Zs _)]))),#[Zj,#[Zp,(@ZnR _ _ _ _)]],#[ZF]],#[Zj,#[Zp,#[ZeV,#[Zdh,Za7,#[Zk,(ZbC K),(by rfl),T.b.n_len,Qw,#[Za,‹0›,#[Zd]]],#[Zk,(ZbC K),(by rfl),T.b.n_len,Qw,#[Za,‹1›,#[Zd]]],(Zs _)],(@ZfK _ _ _ _ _ #[Zk,(ZsN K),(by rfl),T.b.n_all,boot_all,#[Za,#[Za8,ZlV,(@iZ _ K _ _ _ _ _ _ _ _ T.b.n_zip #[Za,‹0›,#[Za,‹1›,#[Zd]]] (by rfl) (by rfl) (by rfl) (by rfl)),(fun _ _ _ _=>#[gT,K,2,#[Zw,#[cg,2,ZlV],#[Zw,#[cg,3,ZlV],(@ZaD _)]]]),(fun _ _ _ _=>(@ZaC _)),(fun _ _ _ _=>#[ZD,f_l_same,hr,#[Za,#[cw,2,ZlV],#[Za,#[cw,3,ZlV],#[Zd]]],(ZbQ ZlV rfl (by ac_rfl))])],#[Zd]]])]]]],#[ZF]],#[Zf,#[Z9,(@PW.pt _ _ _ (@ZiV _ _ _ _ _ _ _ #[Zn,ZcG,‹1›,#[Zav],(Zs _)] (@Zgc _ _ _ _ #[ZeN,#[Zk,(Ze7 K),(by rfl),T.b.n_isinstance,boot_isinstance,#[Za,‹1›,#[Za,#[Zcm,T.b.n_str,boot_str],#[Zd]]]]]))),#[Zj,#[Zp,#[ZeV,#[Zdh,Za7,‹0›,‹1›,(Zs _)],(@ZfK _ _ _ _ _ #[Zdh,Za7,#[Zk,(Ze7 K),(by rfl),T.b.n_isinstance,boot_isinstance,#[Za,‹0›,#[Za,#[Zcm,T.b.n_str,boot_str],#[Zd]]]],#[Zk,(Ze7 K),(by rfl),T.b.n_isinstance,boot_isinstance,#[Za,‹1›,#[Za,#[Zcm,T.b.n_str,boot_str],#[Zd]]]],(Zs _)])]]],#[ZF]],#[Zf,#[Z9,#[ZeN,#[Zk,(Ze7 K),(by rfl),T.b.n_isinstance,boot_isinstance,#[Za,‹1›,#[Za,#[Zcm,T.b.n_bool,boot_bool],#[Zd]]]]],#[Zj,#[Zp,#[ZeV,#[Zk,(Ze7 K),(by rfl),T.b.n_isinstance,boot_isinstance,#[Za,‹0›,#[Za,#[Zcm,T.b.n_bool,boot_bool],#[Zd]]]],(@ZfK _ _ _ _ _ #[Zdh,Za7,‹0›,‹1›,(Zs _)])]]],#[ZF]],#[Zj,#[Zp,#[ZeV,#[Zk,(Ze7 K),(by rfl),T.b.n_isinstance,boot_isinstance,#[Za,‹0›,#[Za,#[Zcm,T.b.n_int,boot_int],#[Zd]]]],#[ZeV,(@ZmO _ _ _ _ #[Zk,(Ze7 K),(by rfl),T.b.n_isinstance,boot_isinstance,#[Za,‹0›,#[Za,#[Zcm,T.b.n_bool,boot_bool],#[Zd]]]]),(@ZfK _ _ _ _ _ #[Zdh,Za7,‹0›,‹1›,(Zs _)])]]]]]]],?_⟩
  refine⟨_,rfl,(by show 2≤sizeLine;decide),fun tp htp=>?_⟩
  have sT:ZA H (upd H tp (.tup (["list", "tuple"].map V.ty))):=Zg htp _
  rcases hD with⟨rfl,rfl|⟨b,rfl⟩|⟨i,rfl⟩|⟨z,rfl⟩⟩|⟨p,q2,xs,ys,rfl,rfl,⟨hp,hq⟩|⟨hp,hq⟩,hl,hz,hi⟩
  ·refine⟨_,tp,["list", "tuple"],_,_,rfl,Zb,.non,Zle K,_,rfl,Zcz ?_⟩
   refine⟨_,rfl,rfl,_,rfl,ZdA rfl (ZeH ?_)⟩
   refine⟨_,rfl,_,rfl,rfl,_,rfl,ZdA rfl ?_⟩
   exact⟨_,rfl,_, "str",_,_,rfl,.non,ZgS K,_,rfl,_, "str",_,_,rfl,.non,ZgS K,rfl,q _ sT⟩
  ·refine⟨_,tp,["list", "tuple"],_,_,rfl,Zb,.bl b,ZnD K,_,rfl,Zcz ?_⟩
   refine⟨_,rfl,rfl,_,rfl,Zco (by intro z;cases z) ?_⟩
   refine⟨_,rfl,_, "str",_,_,rfl,.bl b,Znw K,_,rfl,Zcz ?_⟩
   refine⟨_,rfl,_, "bool",_,_,rfl,.bl b,Zkt K,_,rfl,ZeH ?_⟩
   refine⟨_,rfl,_, "bool",_,_,rfl,.bl b,Zkt K,_,rfl,ZeH ?_⟩
   refine⟨_,rfl,_,rfl,rfl,?_⟩
   have e:decide (V.bl b=V.bl b)=true:=decide_eq_true rfl
   rw[e]
   exact q _ sT
  ·refine⟨_,tp,["list", "tuple"],_,_,rfl,Zb,.int i,Zly K,_,rfl,Zcz ?_⟩
   refine⟨_,rfl,rfl,_,rfl,Zco (by intro z;cases z) ?_⟩
   refine⟨_,rfl,_, "str",_,_,rfl,.int i,ZlX K,_,rfl,Zcz ?_⟩
   refine⟨_,rfl,_, "bool",_,_,rfl,.int i,ZfD K,_,rfl,Zcz ?_⟩
   refine⟨_,rfl,_, "int",_,_,rfl,.int i,Zhu K,_,rfl,ZeH ?_⟩
   refine⟨_,rfl,_, "bool",_,_,rfl,.int i,ZfD K,_,rfl,_,rfl,ZeH ?_⟩
   refine⟨_,rfl,_,rfl,rfl,?_⟩
   have e:decide (V.int i=V.int i)=true:=decide_eq_true rfl
   rw[e]
   exact q _ sT
  ·refine⟨_,tp,["list", "tuple"],_,_,rfl,Zb,.str z,Zlm K,_,rfl,Zcz ?_⟩
   refine⟨_,rfl,rfl,_,rfl,Zco (by intro z;cases z) ?_⟩
   refine⟨_,rfl,_, "str",_,_,rfl,.str z,ZeI K,_,rfl,ZeH ?_⟩
   refine⟨_,rfl,_,rfl,rfl,_,rfl,ZdA rfl ?_⟩
   exact⟨_,rfl,_, "str",_,_,rfl,.str z,ZeI K,_,rfl,_, "str",_,_,rfl,.str z,ZeI K,rfl,q _ sT⟩
  ·have hxT:(upd H tp (.tup (["list", "tuple"].map V.ty))) p=some (.lst xs):=by rw[Ze (Zc hp htp)];exact hp
   have hyT:(upd H tp (.tup (["list", "tuple"].map V.ty))) q2=some (.lst ys):=by rw[Ze (Zc hq htp)];exact hq
   refine⟨_,tp,["list", "tuple"],_,_,rfl,Zb,.lst hyT,ZlT K,_,rfl,ZeH ?_⟩
   refine⟨_,rfl,_, "list",_,_,rfl,.lst hxT,Zhn K,_,rfl,_, "list",_,_,rfl,.lst hyT,Zhn K,rfl,_,rfl,Zha rfl ?_⟩
   refine⟨_,rfl,_, "tuple",_,_,rfl,.lst hxT,Zhz K,_,rfl,_, "tuple",_,_,rfl,.lst hyT,Zhz K,rfl,_,rfl,Zha rfl ?_⟩
   refine⟨_,rfl,p,xs,rfl,.inl (SqL.of hxT),_,rfl,q2,ys,rfl,.inl (SqL.of hyT),rfl,_,rfl,ZdA (by rw[hl]) ?_⟩
   refine⟨_,rfl,_,rfl,.l p,.l q2,xs,ys,rfl,SqL.of hxT,SqL.of hyT,fun D hD=>?_⟩
   have sD:ZA H (upd H tp (.tup (["list", "tuple"].map V.ty))):=Zg htp _
   refine Zi7 (K:=K) (xs:=xs) (ys:=ys) (fun i zs σ H2=>(∃v1 v2,σ=[some (.ref p),some (.ref q2),v1,v2])∧zs=List.replicate i (.bl true)∧ZA H H2∧H2 D=some (.lst zs)∧i≤xs.length) ?_ ?_ ?_ ?_
   ·exact⟨⟨none,none,rfl⟩,rfl,sD.trans (Zg hD _),Zb,Qv _⟩
   ·rintro i zs σ H2 ⟨_,_,s2,_⟩
    exact⟨SqL.of (s2 _ _ hp),SqL.of (s2 _ _ hq)⟩
   ·rintro i zs σ H2 x' y' r hx' hy' ⟨⟨v1,v2,rfl⟩,rfl,s2,hD2,hiz⟩ hr
    have hil:i<xs.length:=(Qc.mp hx').1
    have nDr:D≠r:=Zc hD2 hr
    have s3:ZA H (upd H2 r (.tup [x',y'])):=s2.trans (Zg hr _)
    refine⟨r,_,rfl,SqT.of Zb,rfl,_,_,rfl,_,_,rfl,rfl,?_⟩
    refine⟨_,rfl,_,rfl,x',y',rfl,(hi i x' y' hx' hy').mono s3,fun H' s'=>?_⟩
    have hD':H' D=some (.lst (List.replicate i (.bl true))):=s' _ _ (by rw[Ze nDr];exact hD2)
    refine⟨hD',(by rw[QaI];exact Zx (by lia)),⟨_,_,rfl⟩,?_,?_,Zb,hil⟩
    ·rw[List.replicate_succ']
    ·intro b o e
     have e1:=s' b o (s3 b o e)
     rw[Ze (fun z=>by subst z;exact nomatch (sD b o e).symm.trans hD)]
     exact e1
   ·rintro zs σ H2 ⟨_,rfl,s2,hD2,_⟩
    refine⟨D,List.replicate (min xs.length ys.length) true,rfl,SqL.of (by rw[List.map_replicate];exact hD2),?_⟩
    have e:(List.replicate (min xs.length ys.length) true).all id=true:=by rw[Qa4];intro b hb;exact(List.eq_of_mem_replicate hb)
    rw[e]
    exact q H2 s2
  ·have hxT:(upd H tp (.tup (["list", "tuple"].map V.ty))) p=some (.tup xs):=by rw[Ze (Zc hp htp)];exact hp
   have hyT:(upd H tp (.tup (["list", "tuple"].map V.ty))) q2=some (.tup ys):=by rw[Ze (Zc hq htp)];exact hq
   refine⟨_,tp,["list", "tuple"],_,_,rfl,Zb,.tup hyT,ZlQ K,_,rfl,ZeH ?_⟩
   refine⟨_,rfl,_, "list",_,_,rfl,.tup hxT,Zho K,_,rfl,_, "list",_,_,rfl,.tup hyT,Zho K,rfl,_,rfl,Zha rfl ?_⟩
   refine⟨_,rfl,_, "tuple",_,_,rfl,.tup hxT,Zg2 K,_,rfl,_, "tuple",_,_,rfl,.tup hyT,Zg2 K,rfl,_,rfl,Zha rfl ?_⟩
   refine⟨_,rfl,p,xs,rfl,.inr (SqT.of hxT),_,rfl,q2,ys,rfl,.inr (SqT.of hyT),rfl,_,rfl,ZdA (by rw[hl]) ?_⟩
   refine⟨_,rfl,_,rfl,.t p,.t q2,xs,ys,rfl,SqT.of hxT,SqT.of hyT,fun D hD=>?_⟩
   have sD:ZA H (upd H tp (.tup (["list", "tuple"].map V.ty))):=Zg htp _
   refine Zi7 (K:=K) (xs:=xs) (ys:=ys) (fun i zs σ H2=>(∃v1 v2,σ=[some (.ref p),some (.ref q2),v1,v2])∧zs=List.replicate i (.bl true)∧ZA H H2∧H2 D=some (.lst zs)∧i≤xs.length) ?_ ?_ ?_ ?_
   ·exact⟨⟨none,none,rfl⟩,rfl,sD.trans (Zg hD _),Zb,Qv _⟩
   ·rintro i zs σ H2 ⟨_,_,s2,_⟩
    exact⟨SqT.of (s2 _ _ hp),SqT.of (s2 _ _ hq)⟩
   ·rintro i zs σ H2 x' y' r hx' hy' ⟨⟨v1,v2,rfl⟩,rfl,s2,hD2,hiz⟩ hr
    have hil:i<xs.length:=(Qc.mp hx').1
    have nDr:D≠r:=Zc hD2 hr
    have s3:ZA H (upd H2 r (.tup [x',y'])):=s2.trans (Zg hr _)
    refine⟨r,_,rfl,SqT.of Zb,rfl,_,_,rfl,_,_,rfl,rfl,?_⟩
    refine⟨_,rfl,_,rfl,x',y',rfl,(hi i x' y' hx' hy').mono s3,fun H' s'=>?_⟩
    have hD':H' D=some (.lst (List.replicate i (.bl true))):=s' _ _ (by rw[Ze nDr];exact hD2)
    refine⟨hD',(by rw[QaI];exact Zx (by lia)),⟨_,_,rfl⟩,?_,?_,Zb,hil⟩
    ·rw[List.replicate_succ']
    ·intro b o e
     have e1:=s' b o (s3 b o e)
     rw[Ze (fun z=>by subst z;exact nomatch (sD b o e).symm.trans hD)]
     exact e1
   ·rintro zs σ H2 ⟨_,rfl,s2,hD2,_⟩
    refine⟨D,List.replicate (min xs.length ys.length) true,rfl,SqL.of (by rw[List.map_replicate];exact hD2),?_⟩
    have e:(List.replicate (min xs.length ys.length) true).all id=true:=by rw[Qa4];intro b hb;exact(List.eq_of_mem_replicate hb)
    rw[e]
    exact q H2 s2
theorem Zbr.new{H:Hp}{p l:Addr}{c:Int}{o:HO}(h:Zbr H p c)(n:H l=none):Zbr (upd H l o) p c:=by
 obtain⟨a,b,hp,c0⟩:=h
 exact⟨a,b,by rw[Ze (Zc hp n)];exact hp,c0⟩
theorem Zbr.ge{H:Hp}{p:Addr}{c:Int}(h:Zbr H p c):0≤c:=by obtain⟨a,b,hp,c0⟩:=h;exact c0
theorem Zbr.here{H:Hp}{p:Addr}{c:Int}(h:Zbr H p c):∃o,H p=some o:=by obtain⟨a,b,hp,c0⟩:=h;exact⟨_,hp⟩
theorem Zbr.at{H:Hp}{p l:Addr}{c:Int}{o:HO}(h:Zbr H p c)(n:p≠l):Zbr (upd H l o) p c:=by
 obtain⟨a,b,hp,c0⟩:=h
 exact⟨a,b,by rw[Ze n];exact hp,c0⟩
theorem ZiA:∀ss:List Str,(∀s∈ss,AZ s)→PyData.canLayAll0 (ss.map PyData.str)=true
 | [],_=>rfl
 | x::r,h=>by simp[PyData.canLayAll0,PyData.canLay0,(h x (by simp)).ok,ZiA r fun s hs=>h s (List.mem_cons_of_mem _ hs)]
theorem Zgv:∀ss:List Str,PyData.depthAll (ss.map PyData.str)=0
 | []=>rfl
 | _::r=>by simp[PyData.depthAll,PyData.depth,Zgv r]
theorem ZdD(ss:List Str)(h:∀s∈ss,AZ s):SeqAt.shaped (.list (ss.map PyData.str))=true:=by simp[SeqAt.shaped,PyData.canLay0,PyData.depth,ZiA ss h,Zgv]
theorem Zfz{K:PySem.W.Frag}{H:Hp}:∀ss:List Str,DVs K H (ss.map V.str) (ss.map PyData.str)
 | []=>.nil
 | s::r=>.cons (.str s) (Zfz r)
def ZcO(ss:List Str)(i:Nat):Int:=if i=0 then 0 else (lcp (cds (ss.getD (i-1) "")) (cds (ss.getD i "")):Nat)
def Zgq(K:PySem.W.Frag):Sp:=fun vs H Q _=>∃ (a:Addr) (ss:List Str),vs=[.ref a]∧SqL K H a (ss.map V.str)∧ss.length≤100∧(∀s∈ss,s.length≤1000) ∧
 ∀ (r:Addr) (H':Hp),H r=none→H' r=some (.lst ((List.range ss.length).map fun j=>.int (ZcO ss j)))→ZA H H'→Q (.ref r) H'
theorem Zlb(T:Zao K mg cRow cMerge)(f_alike:Df P w K mg base 2 "alike" ["one", "other"] ZfB):Df P w K mg base 3 "alikes" ["row"] (Zgq K):=by
 refine T.t_alikes.df ZdY (fun vs H Q E h=>?_) (fun cdv f A outer s H vs Q E hr h=>?_)
 ·obtain⟨a,ss,rfl,_⟩:=h
  rfl
 obtain⟨a,ss,rfl,hS,hn,hlen,q⟩:=h
 refine⟨_,#[Zf,#[Zu,1,ZdY.nd,(Or.inl rfl),#[Zai,#[Zd]]],#[Zf,#[Zbu,PassesOwn.never,#[iE,K,T.b.n_enumerate,#[Za,‹0›,#[Zd]]],#[gT,K,2,#[Zw,#[ZB,2,ZdY.nd],#[Zw,#[ZB,3,ZdY.nd],(@ZaD _)]]],#[Zj,#[Zac,#[ZbY,QD,QH,QI,Z7,‹1›,#[Za,#[Za1,#[Zn,Za7,‹2›,#[Zi],(Zs _)],#[Zi],#[ZD,f_alike,hr,#[Za,#[Zz,(ixL K),‹0›,#[ZC,Zb5,‹2›,#[Zi]]],#[Za,‹3›,#[Zd]]],(by rfl)]],#[Zd]]]]]],#[Zj,#[Zp,‹1›]]]],?_⟩
 refine⟨(by show 0≤sizeLine;decide),fun r hr0=>?_⟩
 have s1:ZA H (upd H r (.lst [])):=Zg hr0 _
 refine⟨_,rfl,a,ss.map V.str,rfl,s1.seq hS,?_⟩
 refine Zif (K:=K) (a:=a) (xs:=ss.map V.str) (fun i σ H2=>(∃v1 v2:Option V,σ=[some (.ref a),some (.ref r),v1,v2])∧H2 r=some (.lst ((List.range i).map fun j=>.int (ZcO ss j)))∧ZA H H2∧i≤ss.length) ⟨⟨none,none,rfl⟩,Zb,s1,Qv _⟩ (fun _ _ _ hq=>by obtain⟨_,_,s2,_⟩:=hq;exact s2.seq hS) ?_ ?_
 ·rintro i x σ H2 p hx ⟨⟨v1,v2,rfl⟩,hr2,s2,hi⟩ hp
  rw[Qk]at hx
  cases hy:ss[i]? with
  | none=>rw[hy]at hx;cases hx
  | some y =>
   rw[hy]at hx
   cases hx
   have hil:i<ss.length:=(Qc.mp hy).1
   have npr:r≠p:=Zc hr2 hp
   have s3:ZA H (upd H2 p (.tup [.int i,.str y])):=s2.trans (Zg hp _)
   have hr3:(upd H2 p (.tup [.int i,.str y])) r=some (.lst ((List.range i).map fun j=>.int (ZcO ss j))):=by rw[Ze npr];exact hr2
   have hlt:((List.range i).map fun j=>V.int (ZcO ss j)).length<sizeLine:=by rw[Qa,Qax];exact Zx (by lia)
   have fin:∀z:Int,z=ZcO ss i→(∃v1 v2:Option V,[some (V.ref a),some (V.ref r),some (V.int i),some (V.str y)]=[some (.ref a),some (.ref r),v1,v2]) ∧
     (upd (upd H2 p (.tup [.int i,.str y])) r (.lst (((List.range i).map fun j=>.int (ZcO ss j))++[.int z]))) r=some (.lst ((List.range (i+1)).map fun j=>.int (ZcO ss j))) ∧
     ZA H (upd (upd H2 p (.tup [.int i,.str y])) r (.lst (((List.range i).map fun j=>.int (ZcO ss j))++[.int z])))∧i+1≤ss.length:=fun z e=>by
    refine⟨⟨_,_,rfl⟩,?_,fun b o h=>?_,hil⟩
    ·rw[Zb,Qav,Qf,e];rfl
    ·rw[Ze (Zc h hr0)];exact s3 b o h
   refine⟨p,_,rfl,SqT.of Zb,rfl,_,_,rfl,_,_,rfl,rfl,?_⟩
   refine⟨_,rfl,.inl ⟨rfl,_,SqL.of hr3⟩,_,rfl,rfl,_,rfl,?_⟩
   by_cases e0:i=0
   ·subst e0
    exact ZdA rfl ⟨r,_,_,rfl,rfl,hr3,hlt,fin 0 rfl⟩
   ·have hprev:i-1<ss.length:=by lia
    have ei:((i:Int)-1)=((i-1:Nat):Int):=by lia
    have hat:atI (ss.map V.str) ((i:Int)-1)=some (.str ss[i-1]):=by rw[ei];exact Zaf (by rw[Qk,Qb hprev]<;>rfl)
    refine Zco (fun z=>by injection z with z;lia) ⟨_,rfl,_,rfl,_,_,rfl,rfl,a,_,_,_,rfl,rfl,s3.seq hS,hat,_,rfl,ss[i-1],y,rfl,hlen _ (QX hprev),hlen _ (Qr hy),r,_,_,rfl,rfl,hr3,hlt,fin _ ?_⟩
    unfold ZcO
    rw[if_neg e0,Qm,Qm,Qb hprev,hy]
    rfl
 ·rintro σ H2 ⟨⟨v1,v2,rfl⟩,hr2,s2,hi⟩
  rw[Qa]at hr2
  exact⟨_,rfl,q r H2 hr0 hr2 s2⟩
def ZK:List Nat→List Nat→Int
 | [],[]=>0
 | [],_::_ =>-1
 | _::_,[]=>1
 | a::r,b::s=>if a=b then ZK r s else if a<b then -1 else 1
theorem Zg1:∀ (x y:List Nat),Spec.ltCps y x=false→ZK x y≤0
 | [],[],_=>by unfold ZK;lia
 | [],_::_,_=>by unfold ZK;lia
 | _::_,[],h=>by unfold Spec.ltCps at h;cases h
 | a::r,b::s,h=>by
  have ih:=Zg1 r s
  unfold Spec.ltCps at h
  unfold ZK
  rw[Bool.or_eq_false_iff,Bool.and_eq_false_iff]at h
  obtain⟨h1,h2⟩:=h
  have h1':¬ b<a:=of_decide_eq_false h1
  by_cases e:a=b
  ·rw[if_pos e]
   rcases h2 with z|z
   ·rw[e]at z;simp at z
   ·exact ih z
  ·rw[if_neg e,if_pos (by lia)]
   lia
theorem ZbS:∀ (x y z:List Nat),ZK x y≤0→ZK y z≤0→ZK x z≤0
 | [],_,[],_,_=>by unfold ZK;lia
 | [],_,_::_,_,_=>by unfold ZK;lia
 | _::_,[],_,h,_=>by unfold ZK at h;lia
 | _::_,_::_,[],_,h=>by unfold ZK at h;lia
 | a::r,b::s,c::t,h1,h2=>by
  unfold ZK at h1 h2 ⊢
  have ih:=ZbS r s t
  by_cases e1:a=b
  ·rw[if_pos e1]at h1
   by_cases e2:b=c
   ·rw[if_pos e2]at h2
    rw[if_pos (e1.trans e2)]
    exact ih h1 h2
   ·rw[if_neg e2]at h2
    rw[if_neg (fun e=>e2 (e1.symm.trans e))]
    split at h2
    ·rw[if_pos (by lia)];lia
    ·lia
  ·rw[if_neg e1]at h1
   split at h1
   ·by_cases e2:b=c
    ·rw[if_neg (fun e=>e1 (e.trans e2.symm)),if_pos (by lia)];lia
    ·rw[if_neg e2]at h2
     split at h2
     ·rw[if_neg (by lia),if_pos (by lia)];lia
     ·lia
   ·lia
theorem Zg0:∀ (ss:List Str) (p:Str),risingS p ss=true→∀ (k:Nat) (x y:Str),(p::ss)[k]? = some x→ss[k]? = some y→ZK (cds x) (cds y)≤0
 | [],p,_,k,x,y,_,h=>by simp at h
 | z::r,p,h,0,x,y,h1,h2=>by
  unfold risingS at h
  rw[QaP]at h
  simp at h1 h2
  subst h1 h2
  exact Zg1 _ _ (by simpa using h.1)
 | z::r,p,h,k+1,x,y,h1,h2=>by
  unfold risingS at h
  rw[QaP]at h
  exact Zg0 r z h.2 k x y (by simpa using h1) (by simpa using h2)
theorem ZgX{ss:List Str}(h:sortedS ss=true)(k:Nat)(x y:Str)(h1:ss[k]? = some x)(h2:ss[k+1]? = some y):ZK (cds x) (cds y)≤0:=by
 cases ss with
 | nil=>simp at h1
 | cons p r=>exact Zg0 r p h k x y h1 (by simpa using h2)
theorem Zix:∀ss:List Str,PyData.eqvAll (ss.map PyData.str) (ss.map PyData.str)=true
 | []=>by simp[PyData.eqvAll]
 | x::r=>by simp[PyData.eqvAll,PyData.eqv,Zix r]
theorem ZlN(ss:List Str):PyData.eqv (.list (ss.map PyData.str)) (.list (ss.map PyData.str))=true:=by simp[PyData.eqv,Zix ss]
theorem ZkJ{ss:List Str}{k:Nat}(h:k<ss.length):atI (ss.map V.str) (k:Int)=some (.str ss[k]):=Zaf (by rw[Qk,Qb h]<;>rfl)
theorem Ziy(xs:List V)(i j:Nat)(h:i≤xs.length)(h2:j≤xs.length):ZdI xs (some i) (some j)=(xs.drop i).take (j-i):=by
 have e:∀ (k d:Nat),k≤xs.length→HT.sIx xs.length d (some (k:Int))=k:=fun k d hk=>by
  unfold HT.sIx
  simp only[]
  rw[if_neg (by lia)]
  lia
 unfold ZdI
 rw[e i _ h,e j _ h2]
theorem Zbr.same{H H':Hp}{p:Addr}{c:Int}(h:Zbr H p c)(s:ZA H H'):Zbr H' p c:=by obtain⟨b1,b2,hb,c0⟩:=h;exact⟨b1,b2,s _ _ hb,c0⟩
def mid(ns:List Int):Nat:=(ns.length+1) / 2
def Zd0(ns:List Int):List Int:=ns.take (mid ns)
def ZgN(ns:List Int):List Int:=ns.drop (mid ns)
theorem Zpb(ns:List Int):((((ns.map V.int).length:Nat):Int)+1) / 2=((mid ns:Nat):Int):=by
 rw[Qa];unfold mid;lia
theorem ZkQ{ns:List Int}{k:Int}(h0:0≤k)(h:k<(ns.length:Int)):∃v∈ns,atI (ns.map V.int) k=some (.int v):=by
 have hk:k.toNat<ns.length:=by lia
 have ek:k=((k.toNat:Nat):Int):=by lia
 have q:atI (ns.map V.int) ((k.toNat:Nat):Int)=some (.int ns[k.toNat]):=Zaf (by rw[Qk,Qb hk]<;>rfl)
 rw[← ek]at q
 exact⟨_,QX hk,q⟩
theorem Zq1(ns:List Int)(m:Nat)(h:m≤ns.length):ZdI (ns.map V.int) none (some (m:Int))=(ns.take m).map V.int:=by
 unfold ZdI
 have e:HT.sIx (ns.map V.int).length (ns.map V.int).length (some (m:Int))=m:=by
  unfold HT.sIx
  simp only[List.length_map]
  rw[if_neg (by lia)]
  lia
 have e0:HT.sIx (ns.map V.int).length 0 none=0:=rfl
 rw[e,e0,List.drop_zero,Nat.sub_zero,QaT]
theorem Znk(ns:List Int)(m:Nat)(h:m≤ns.length):ZdI (ns.map V.int) (some (m:Int)) none=(ns.drop m).map V.int:=by
 unfold ZdI
 have e:HT.sIx (ns.map V.int).length 0 (some (m:Int))=m:=by
  unfold HT.sIx
  simp only[List.length_map]
  rw[if_neg (by lia)]
  lia
 have e0:HT.sIx (ns.map V.int).length (ns.map V.int).length none=(ns.map V.int).length:=rfl
 rw[e,e0,List.map_drop,QB (by rw[QW,Qa];lia)]
theorem ZkA(z:Str):(cds z).length=z.length:=by simp[Str.length]
theorem Zkp:∀ (x y:List Nat),(lcp x y=x.length→lcp x y=y.length→ZK x y=0)∧(lcp x y=x.length→lcp x y≠y.length→ZK x y = -1)∧(lcp x y≠x.length→lcp x y=y.length→ZK x y=1) ∧
  ∀a b,x[lcp x y]? = some a→y[lcp x y]? = some b→ZK x y=if a<b then -1 else 1
 | [],[]=>⟨fun _ _=>rfl,fun _ h=>absurd rfl h,fun h _=>absurd rfl h,fun a b h _=>by simp at h⟩
 | [],_::_=>⟨fun _ h=>by unfold lcp at h;simp at h,fun _ _=>rfl,fun h _=>absurd rfl h,fun a b h _=>by simp at h⟩
 | _::_,[]=>⟨fun h _=>by unfold lcp at h;simp at h,fun h _=>by unfold lcp at h;simp at h,fun _ _=>rfl,fun a b _ h=>by simp at h⟩
 | a::r,b::s=>by
  obtain⟨h1,h2,h3,h4⟩:=Zkp r s
  unfold lcp ZK
  by_cases e:a=b
  ·rw[if_pos e,if_pos e]
   simp only[List.length_cons,List.getElem?_cons_succ]
   exact⟨fun p q=>h1 (by lia) (by lia),fun p q=>h2 (by lia) (by lia),fun p q=>h3 (by lia) (by lia),h4⟩
  ·rw[if_neg e,if_neg e]
   simp only[List.length_cons,List.getElem?_cons_zero]
   refine⟨fun p=>by lia,fun p=>by lia,fun _ p=>by lia,fun c d p q=>?_⟩
   cases p;cases q
   rfl
theorem ZaP:∀ (x y:List Nat),ZK y x =-ZK x y
 | [],[]=>rfl
 | [],_::_=>rfl
 | _::_,[]=>rfl
 | a::r,b::s=>by
  have ih:=ZaP r s
  unfold ZK
  by_cases e:a=b
  ·rw[if_pos e,if_pos e.symm,ih]
  ·rw[if_neg e,if_neg fun z=>e z.symm]
   by_cases l:a<b
   ·rw[if_pos l,if_neg (by lia)];rfl
   ·rw[if_neg l,if_pos (by lia)]
theorem ZpX(a b:Nat):decide ((⟨#[a]⟩:Str).cps.toList<(⟨#[b]⟩:Str).cps.toList)=decide (a<b):=by
 have e:([a]:List Nat)<[b]↔a<b:=by
  constructor
  ·intro h
   cases h with
   | rel h=>exact h
   | cons h=>cases h
  ·exact fun h=>List.Lex.rel h
 exact decide_eq_decide.mpr e
theorem ZcS:∀x:List Nat,ZK x x=0
 | []=>rfl
 | a::r=>by unfold ZK;rw[if_pos rfl];exact ZcS r
theorem Zc1:∀ (x y:List Nat),ZK x y=0→x=y
 | [],[],_=>rfl
 | [],_::_,h=>by unfold ZK at h;lia
 | _::_,[],h=>by unfold ZK at h;lia
 | a::r,b::s,h=>by
  unfold ZK at h
  by_cases e:a=b
  ·rw[if_pos e]at h
   rw[e,Zc1 r s h]
  ·rw[if_neg e]at h
   split at h<;>lia
def Zfy:Sp:=fun vs H Q _=>∃x y:Str,vs=[.str x,.str y]∧x.length≤1000∧y.length≤1000∧Q (.int (ZK (cds x) (cds y))) H
def Zfq:Sp:=fun vs H Q _=>∃x y:Str,vs=[.str x,.str y,.int (lcp (cds x) (cds y):Nat)]∧x.length≤1000∧y.length≤1000∧Q (.int (ZK (cds x) (cds y))) H
theorem ZnG(T:Zao K mg cRow cMerge):Df P w K mg base 1 "order_at" ["one", "other", "at"] Zfq:=by
 refine T.t_order_at.df Zih (fun vs H Q E h=>?_) (fun cdv f A outer s H vs Q E hr h=>?_)
 ·obtain⟨x,y,rfl,_⟩:=h
  rfl
 obtain⟨x,y,rfl,hx,hy,q⟩:=h
 refine⟨_,#[Zf,#[Z9,(@PW.pt _ _ _ #[Ze8,#[Zn,Za7,‹2›,#[Zk,Zbg,(by rfl),T.b.n_len,Qw,#[Za,‹0›,#[Zd]]],(Zs _)],(@Zey _ _ _ _ #[Zn,Za7,‹2›,#[Zk,Zbg,(by rfl),T.b.n_len,Qw,#[Za,‹1›,#[Zd]]],(Zs _)])]),#[Zj,#[Zp,#[Zi]]],#[ZF]],#[Zf,#[Z9,#[Zn,Za7,‹2›,#[Zk,Zbg,(by rfl),T.b.n_len,Qw,#[Za,‹0›,#[Zd]]],(Zs _)],#[Zj,#[Zp,(@Zhc _ _ _ _ _ _ Ze9 #[Zi])]],#[ZF]],#[Zf,#[Z9,#[Zn,Za7,‹2›,#[Zk,Zbg,(by rfl),T.b.n_len,Qw,#[Za,‹1›,#[Zd]]],(Zs _)],#[Zj,#[Zp,#[Zi]]],#[ZF]],#[Zj,#[Zp,#[Za1,#[Zn,ZgV,#[Zz,Zgt,‹0›,‹2›],#[Zz,Zgt,‹1›,‹2›],(Zs _)],(@Zhc _ _ _ _ _ _ Ze9 #[Zi]),#[Zi]]]]]]],?_⟩
 obtain⟨o1,o2,o3,o4⟩:=Zkp (cds x) (cds y)
 have ll:=Zf3 (cds x) (cds y)
 have lx:=ZkA x
 have ly:=ZkA y
 have inj:∀ {m n:Nat},V.int (m:Int)=V.int (n:Int)→m=n:=fun {m n} e=>by injection e with e;lia
 refine⟨_,rfl,_,rfl,x,rfl,ZcK hx,rfl,_,rfl,Za3 (fun d=>?_) (fun d=>?_)⟩
 ·have d1:=inj (of_decide_eq_true d)
  refine⟨_,rfl,_,rfl,y,rfl,ZcK hy,rfl,_,rfl,Za3 (fun d2=>?_) (fun d2=>?_)⟩
  ·have d2':=inj (of_decide_eq_true d2)
   rw[o1 (by lia) (by lia)]at q
   exact q
  ·have d2':¬ lcp (cds x) (cds y)=y.length:=fun e=>d2 (by rw[e];exact decide_eq_true rfl)
   refine⟨_,rfl,_,rfl,x,rfl,ZcK hx,rfl,_,rfl,ZdA (by rw[d1]) ?_⟩
   rw[o2 (by lia) (by lia)]at q
   exact⟨_,rfl,q⟩
 ·have d1:¬ lcp (cds x) (cds y)=x.length:=fun e=>d (by rw[e];exact decide_eq_true rfl)
  refine Zcz ⟨_,rfl,_,rfl,x,rfl,ZcK hx,rfl,_,rfl,Zco (fun e=>d1 (inj e)) ?_⟩
  refine⟨_,rfl,_,rfl,y,rfl,ZcK hy,rfl,_,rfl,Za3 (fun d2=>?_) (fun d2=>?_)⟩
  ·have d2':=inj (of_decide_eq_true d2)
   rw[o3 (by lia) (by lia)]at q
   exact q
  ·have d2':¬ lcp (cds x) (cds y)=y.length:=fun e=>d2 (by rw[e];exact decide_eq_true rfl)
   obtain⟨a,ha,ha'⟩:=Zeu (z:=x) (k:=(lcp (cds x) (cds y):Nat)) (by lia) (by lia)
   obtain⟨b,hb,hb'⟩:=Zeu (z:=y) (k:=(lcp (cds x) (cds y):Nat)) (by lia) (by lia)
   rw[Qaf]at ha hb
   refine⟨_,rfl,_,rfl,x,_,a,rfl,rfl,ZcK hx,ha',_,rfl,_,rfl,y,_,b,rfl,rfl,ZcK hy,hb',_,_,rfl,rfl,_,rfl,?_⟩
   rw[ZpX]
   rw[o4 a b ha hb]at q
   refine Za3 (fun e=>?_) (fun e=>?_)
   ·rw[if_pos (of_decide_eq_true e)]at q
    exact⟨_,rfl,q⟩
   ·rw[if_neg (fun z=>e (decide_eq_true z))]at q
    exact q
theorem Zma(T:Zao K mg cRow cMerge)(f_alike:Df P w K mg base 2 "alike" ["one", "other"] ZfB)(f_order_at:Df P w K mg base 1 "order_at" ["one", "other", "at"] Zfq):Df P w K mg base 3 "liken" ["one", "other"] Zfy:=by
 refine T.t_liken.df ZmI (fun vs H Q E h=>?_) (fun cdv f A outer s H vs Q E hr h=>?_)
 ·obtain⟨x,y,rfl,_⟩:=h
  rfl
 obtain⟨x,y,rfl,hx,hy,q⟩:=h
 refine⟨_,#[Zj,#[Zp,#[ZD,f_order_at,hr,#[Za,‹0›,#[Za,‹1›,#[Za,#[ZD,f_alike,hr,#[Za,‹0›,#[Za,‹1›,#[Zd]]],(by rfl)],#[Zd]]]],(by rfl)]]],?_⟩
 exact⟨_,rfl,_,rfl,_,rfl,_,rfl,x,y,rfl,hx,hy,x,y,rfl,hx,hy,q⟩
theorem Zfs{p:Addr}{H H1:Hp}{l:Addr}(B:But p H H1)(n:p≠l)(h:H1 l=none):H l=none:=by
 cases w':H l with
 | none=>rfl
 | some u=>rw[B l u w' n.symm]at h;cases h
theorem ZpM{c A B:Prop}[Decidable c](hc:¬ c)(h:A):if (!decide c)=true then A else B:=by
 rw[if_pos (by rw[decide_eq_false hc];rfl)]
 exact h
def Zdp:Sp:=fun vs H Q _=>∃ (x y:Str) (far:Nat),vs=[.str x,.str y,.int far]∧x.length≤1000∧y.length≤1000∧far≤lcp (cds x) (cds y) ∧
 ∀t,H t=none→Q (.ref t) (upd H t (.tup [.int (ZK (cds x) (cds y)),.int (lcp (cds x) (cds y):Nat),.int ((lcp (cds x) (cds y):Nat)-(far:Int)+1)]))
theorem Zgz(T:Zao K mg cRow cMerge)(f_alike_from:Df P w K mg base 1 "alike_from" ["one", "other", "far"] Zcx)(f_order_at:Df P w K mg base 1 "order_at" ["one", "other", "at"] Zfq):Df P w K mg base 2 "liken_from" ["one", "other", "far"] Zdp:=by
 refine T.t_liken_from.df Zd8 (fun vs H Q E h=>?_) (fun cdv f A outer s H vs Q E hr h=>?_)
 ·obtain⟨x,y,far,rfl,_⟩:=h
  rfl
 obtain⟨x,y,far,rfl,hx,hy,hf,q⟩:=h
 refine⟨_,#[Zf,#[Zu,3,Zd8.nd,(Or.inl rfl),#[ZD,f_alike_from,hr,#[Za,‹0›,#[Za,‹1›,#[Za,‹2›,#[Zd]]]],(by rfl)]],#[Zj,#[Zp,#[ZH,#[Za,#[ZD,f_order_at,hr,#[Za,‹0›,#[Za,‹1›,#[Za,‹3›,#[Zd]]]],(by rfl)],#[Za,‹3›,#[Za,#[ZC,ZV,#[ZC,Zb5,‹3›,‹2›],#[Zi]],#[Zd]]]]]]]],?_⟩
 refine⟨_,rfl,_,rfl,_,rfl,x,y,far,rfl,hx,hy,hf,?_⟩
 refine⟨_,rfl,_,rfl,_,rfl,x,y,rfl,hx,hy,?_⟩
 refine⟨_,rfl,_,rfl,_,rfl,_,_,rfl,rfl,_,_,rfl,rfl,(by show 3≤sizeLine;decide),fun t ht=>?_⟩
 exact q t ht
def ZiL(ss:List Str)(v:V):Prop :=
 (v=.non∧∀i x y,ss[i+1]? = some x→ss[i]? = some y→0≤ZK (cds x) (cds y)) ∨
 ∃k:Nat,v=.int ((k+1:Nat):Int)∧k+1<ss.length∧(∀x y,ss[k+1]? = some x→ss[k]? = some y→ZK (cds x) (cds y)<0)∧∀i,i<k→∀x y,ss[i+1]? = some x→ss[i]? = some y→0≤ZK (cds x) (cds y)
theorem Zoz{ss:List Str}{v v':V}(h:ZiL ss v)(h':ZiL ss v'):v=v':=by
 rcases h with⟨rfl,a⟩|⟨k,rfl,l,b,c⟩
 ·rcases h' with⟨rfl,_⟩|⟨k',rfl,l',b',_⟩
  ·rfl
  ·have:=a k' _ _ (Qb l') (Qb (by lia))
   have:=b' _ _ (Qb l') (Qb (by lia))
   lia
 ·rcases h' with⟨rfl,a⟩|⟨k',rfl,l',b',c'⟩
  ·have:=a k _ _ (Qb l) (Qb (by lia))
   have:=b _ _ (Qb l) (Qb (by lia))
   lia
  ·have e:k=k':=by
    rcases Nat.lt_trichotomy k k' with h|h|h
    ·have:=c' k h _ _ (Qb l) (Qb (by lia))
     have:=b _ _ (Qb l) (Qb (by lia))
     lia
    ·exact h
    ·have:=c k' h _ _ (Qb l') (Qb (by lia))
     have:=b' _ _ (Qb l') (Qb (by lia))
     lia
   rw[e]
def Zod(K:PySem.W.Frag):Sp:=fun vs H Q _=>∃ (a:Addr) (ss:List Str),vs=[.ref a]∧SqL K H a (ss.map V.str)∧ss.length≤200∧(∀s∈ss,s.length≤1000)∧∀ (v:V) (H':Hp),ZiL ss v→ZA H H'→Q v H'
theorem Zno(T:Zao K mg cRow cMerge)(f_liken:Df P w K mg base 3 "liken" ["one", "other"] Zfy):Df P w K mg base 4 "first_break" ["keys"] (Zod K):=by
 refine T.t_first_break.df Zdt (fun vs H Q E h=>?_) (fun cdv f A outer s H vs Q E hr h=>?_)
 ·obtain⟨a,ss,rfl,_⟩:=h
  rfl
 obtain⟨a,ss,rfl,hS,hn,hlen,q⟩:=h
 refine⟨_,#[Zf,#[Zbu,PassesOwn.never,#[ZbR,T.b.n_range,#[Za,#[Zi],#[Za,#[Zk,(ZbC K),(by rfl),T.b.n_len,Qw,#[Za,‹0›,#[Zd]]],#[Zd]]]],#[ZB,1,Zdt.nd],#[Zj,#[Z9,#[Zn,Zd4,#[ZD,f_liken,hr,#[Za,#[Zz,(ixL K),‹0›,‹1›],#[Za,#[Zz,(ixL K),‹0›,#[ZC,Zb5,‹1›,#[Zi]]],#[Zd]]],(by rfl)],#[Zi],(Zs _)],#[Zj,#[Zp,‹1›]],#[ZF]]]],#[Zj,#[Zp,#[Zav]]]],?_⟩
 have hl:(((ss.map V.str).length:Nat):Int)=(ss.length:Int):=by rw[Qa]
 refine⟨_,rfl,a,_,rfl,.inl hS,_,_,rfl,⟨by lia,by lia,by lia,by lia⟩,?_⟩
 refine ZaR (fun i σ H2=>(∃v:Option V,σ=[some (.ref a),v])∧ZA H H2∧∀j,j<i→∀x y,ss[j+1]? = some x→ss[j]? = some y→0≤ZK (cds x) (cds y)) ⟨⟨none,rfl⟩,ZA.refl H,fun j h=>by lia⟩ ?_ ?_
 ·rintro i σ H2 hi ⟨⟨v,rfl⟩,s2,h2⟩
  have hi1:i+1<ss.length:=by lia
  have e1:(1+(i:Int))=((i+1:Nat):Int):=by lia
  have e0:(1+(i:Int)-1)=((i:Nat):Int):=by lia
  refine⟨_,rfl,_,rfl,a,_,_,_,rfl,rfl,s2.seq hS,(by rw[e1];exact ZkJ hi1),_,rfl,_,rfl,_,_,rfl,rfl,a,_,_,_,rfl,rfl,s2.seq hS,(by rw[e0];exact ZkJ (by lia)),ss[i+1],ss[i],rfl,hlen _ (QX hi1),hlen _ (QX (by lia)),_,_,rfl,rfl,_,rfl,?_⟩
  refine Za3 (fun d=>?_) (fun d=>?_)
  ·have d':ZK (cds ss[i+1]) (cds ss[i])<0:=of_decide_eq_true d
   refine⟨_,rfl,q _ H2 (.inr ⟨i,by rw[e1],hi1,fun x y h1 h0=>?_,h2⟩) s2⟩
   rw[Qb hi1]at h1
   rw[Qb (by lia)]at h0
   cases h1;cases h0
   lia
  ·have d':¬ ZK (cds ss[i+1]) (cds ss[i])<0:=fun z=>d (decide_eq_true z)
   refine⟨⟨_,rfl⟩,s2,fun j hj x y h1 h0=>?_⟩
   by_cases ej:j=i
   ·subst ej
    rw[Qb hi1]at h1
    rw[Qb (by lia)]at h0
    cases h1;cases h0
    lia
   ·exact h2 j (by lia) x y h1 h0
 ·rintro σ H2 ⟨⟨v,rfl⟩,s2,h2⟩
  refine q _ H2 (.inl ⟨rfl,fun j x y h1 h0=>?_⟩) s2
  have:=(Qc.mp h1).1
  exact h2 j (by lia) x y h1 h0
def Zeq(K:PySem.W.Frag)(tup:Bool):Sp:=fun vs H Q _=>∃ (a:Addr) (ns:List Int),vs=[.ref a]∧SqL K H a (ns.map V.int)∧ns.length≤100 ∧
 ∀ (t f r:Addr) (H':Hp),H t=none→H f=none→H r=none→f≠r→H' t=some (if tup=true then .tup [.ref f,.ref r] else .lst [.ref f,.ref r])→H' f=some (.lst ((Zd0 ns).map V.int))→H' r=some (.lst ((ZgN ns).map V.int))→ZA H H'→t≠f→t≠r→Q (.ref t) H'
theorem ZnU{H:Hp}{f r t:Addr}{A B T:HO}(hf:H f=none)(hr:(upd H f A) r=none)(ht:(upd (upd H f A) r B) t=none) :
  H r=none∧H t=none∧f≠r∧t≠f∧t≠r∧(upd (upd (upd H f A) r B) t T) f=some A∧(upd (upd (upd H f A) r B) t T) r=some B∧ZA H (upd (upd (upd H f A) r B) t T):=by
 have n1:f≠r:=Zc (H:=upd H f A) (o:=A) Zb hr
 have e1:(upd (upd H f A) r B) f=some A:=by rw[Ze n1];exact Zb
 have n2:f≠t:=Zc e1 ht
 have n3:r≠t:=Zc (H:=upd (upd H f A) r B) (o:=B) Zb ht
 have s1:ZA H (upd H f A):=Zg hf _
 have s2:=s1.trans (Zg hr B)
 have s3:=s2.trans (Zg ht T)
 exact⟨s1.free hr,s2.free ht,n1,n2.symm,n3.symm,by rw[Ze n2];exact e1,by rw[Ze n3];exact Zb,s3⟩
theorem ZlK(T:Zao K mg cRow cMerge):Df P w K mg base 1 "halves" ["numbers"] (Zeq K true):=by
 refine T.t_halves.df Zhf (fun vs H Q E h=>?_) (fun cdv f A outer s H vs Q E hr h=>?_)
 ·obtain⟨a,ns,rfl,_⟩:=h
  rfl
 obtain⟨a,ns,rfl,hS,hn,q⟩:=h
 refine⟨_,#[Zf,#[Zu,1,Zhf.nd,(Or.inl rfl),#[ZC,ZfA,#[ZC,ZV,#[Zk,(ZbC K),(by rfl),T.b.n_len,Qw,#[Za,‹0›,#[Zd]]],#[Zi]],#[Zi]]],#[Zj,#[Zp,#[ZH,#[Za,#[Zcn,(slL K),‹0›,(@Zdi _),(@ZbW _ _ _ ‹1›)],#[Za,#[Zcn,(slL K),‹0›,(@ZbW _ _ _ ‹1›),(@Zdi _)],#[Zd]]]]]]],?_⟩
 refine⟨_,rfl,a,_,rfl,.inl hS,_,_,rfl,rfl,_,_,rfl,rfl,⟨by decide,by decide⟩,?_⟩
 have hm:mid ns≤ns.length∨ns=[]:=by
  cases ns with
  | nil=>exact .inr rfl
  | cons x r=>left;unfold mid;rw[QK];lia
 have hml:mid ns≤ns.length:=by
  rcases hm with h|h
  ·exact h
  ·subst h;decide
 have em:=Zpb ns
 simp only[em]
 refine⟨_,rfl,_,rfl,_,rfl,a,_,rfl,hS,fun l hl=>?_⟩
 refine⟨_,rfl,_,rfl,_,rfl,a,_,rfl,(Zg hl _).seq hS,fun r hr0=>⟨(by show 2≤sizeLine;decide),fun t ht=>?_⟩⟩
 rw[Zq1 ns _ hml]at hr0 ht ⊢
 rw[Znk ns _ hml]at ht ⊢
 obtain⟨z1,z2,z3,z4,z5,z6,z7,z8⟩:=ZnU (T:=.tup [.ref l,.ref r]) hl hr0 ht
 exact q t l r _ z2 hl z1 z3 Zb z6 z7 z8 z4 z5
theorem Zb1(f:Str)(v:V):∀fs:List (Str×V),(Zq f v fs).length≤fs.length+1
 | []=>Qi _
 | p::r=>by
  unfold Zq
  split
  ·exact QaC _
  ·exact Nat.succ_le_succ (Zb1 f v r)
def ZcX(k f:Addr)(g:Int):List (Str×V):=Zq "gone" (.int g) (Zq "fars" (.ref f) (Zq "all_keys" (.ref k) []))
theorem nGF:¬ (("fars" : Str) = "gone"):=by ac_rfl
theorem nGK:¬ (("all_keys" : Str) = "gone"):=by ac_rfl
theorem nFK:¬ (("all_keys" : Str) = "fars"):=by ac_rfl
theorem ZeT(k f:Addr)(g:Int):(ZcX k f g).lookup ("all_keys" : Str)=some (.ref k):=by
 unfold ZcX
 rw[Zl,if_neg nGK,Zl,if_neg nFK,Zl,if_pos rfl]
theorem ZcJ(k f:Addr)(g:Int):(ZcX k f g).lookup ("gone" : Str)=some (.int g):=by
 unfold ZcX
 rw[Zl,if_pos rfl]
theorem ZkD(k f:Addr)(g:Int){m:Str}(h1:¬ m = "gone")(h2:¬ m = "fars")(h3:¬ m = "all_keys"):(ZcX k f g).lookup m=none:=by
 unfold ZcX
 rw[Zl,if_neg h1,Zl,if_neg h2,Zl,if_neg h3]
 rfl
structure Zj3 (C:Addr) (H:Hp) (p k f:Addr) (ss:List Str) (g:Nat):Prop where
 ob:∃dx,H p=some (.ins C dx (ZcX k f g))
 ks:H k=some (.lst (ss.map V.str))
 fs:H f=some (.lst ((List.range ss.length).map fun j=>.int (ZcO ss j)))
def ZmK(C:Addr):Sp:=fun vs H Q _=>∃ (p k f:Addr) (ss:List Str) (g:Nat),vs=[.ref p]∧Zj3 C H p k f ss g∧Q (.int ((ss.length:Int)-(g:Int))) H
theorem Zoq(T:Zao K mg cRow cMerge):Mf P w K mg base 1 cRow "to_go" ["self"] (ZmK cRow):=by
 refine T.t_Row_to_go.mf ZhU (fun vs H Q E h=>?_) (fun cdv f A outer s H vs Q E hr h=>?_)
 ·obtain⟨p,k,f,ss,g,rfl,_⟩:=h
  rfl
 obtain⟨p,k,f,ss,g,rfl,R,q⟩:=h
 refine⟨_,#[Zj,#[Zp,#[ZC,Zb5,#[Zk,(ZbC K),(by rfl),T.b.n_len,Qw,#[Za,#[Zae,‹0›],#[Zd]]],#[Zae,‹0›]]]],?_⟩
 obtain⟨⟨dx,ho⟩,hk,hf⟩:=R
 refine⟨_,rfl,p,cRow,dx,_,_,rfl,ho,T.cl_Row,T.na_Row_all_keys,ZeT _ _ _,k,_,rfl,.inl (SqL.of hk),_,rfl,p,cRow,dx,_,_,rfl,ho,T.cl_Row,T.na_Row_gone,ZcJ _ _ _,_,_,rfl,rfl,?_⟩
 rw[Qa]
 exact q
def Zej(ss:List Str)(g:Nat):V:=match ss[g]? with
 | some z=>.str z
 | none=>.non
def ZfM(C:Addr):Sp:=fun vs H Q _=>∃ (p k f:Addr) (ss:List Str) (g:Nat),vs=[.ref p]∧Zj3 C H p k f ss g∧Q (Zej ss g) H
theorem Zo3(T:Zao K mg cRow cMerge)(f_Row_to_go:Mf P w K mg base 1 cRow "to_go" ["self"] (ZmK cRow)):Mf P w K mg base 2 cRow "head" ["self"] (ZfM cRow):=by
 refine T.t_Row_head.mf Zin (fun vs H Q E h=>?_) (fun cdv f A outer s H vs Q E hr h=>?_)
 ·obtain⟨p,k,f,ss,g,rfl,_⟩:=h
  rfl
 obtain⟨p,k,f,ss,g,rfl,R,q⟩:=h
 refine⟨_,#[Zj,#[Zp,#[Za1,#[Zn,ZfF,#[Zdb,f_Row_to_go,T.cl_Row,hr,‹0›],#[Zi],(Zs _)],#[Zz,(ixL K),#[Zae,‹0›],#[Zae,‹0›]],#[Zav]]]],?_⟩
 obtain⟨⟨dx,ho⟩,hk,hf⟩:=id R
 refine⟨_,rfl,p,dx,_,rfl,ho,ZkD _ _ _ (by ac_rfl) (by ac_rfl) (by ac_rfl),p,k,f,ss,g,rfl,R,_,_,rfl,rfl,_,rfl,?_⟩
 refine Za3 (fun d=>?_) (fun d=>?_)
 ·have d':(0:Int)<(ss.length:Int)-(g:Int):=of_decide_eq_true d
  have hg:g<ss.length:=by lia
  refine⟨_,rfl,p,cRow,dx,_,_,rfl,ho,T.cl_Row,T.na_Row_all_keys,ZeT _ _ _,_,rfl,p,cRow,dx,_,_,rfl,ho,T.cl_Row,T.na_Row_gone,ZcJ _ _ _,k,_,_,_,rfl,rfl,SqL.of hk,Zaf (by rw[Qk,Qb hg]<;>rfl),?_⟩
  unfold Zej at q
  rw[Qb hg]at q
  exact q
 ·have d':¬ (0:Int)<(ss.length:Int)-(g:Int):=fun z=>d (decide_eq_true z)
  unfold Zej at q
  rw[QG (by lia)]at q
  exact q
def Zhy(C:Addr):Sp:=fun vs H Q _=>∃ (p dx a:Addr) (ss:List Str),vs=[.ref p,.ref a]∧H p=some (.ins C dx [])∧H a=some (.lst (ss.map V.str))∧ss.length≤100∧(∀s∈ss,s.length≤1000) ∧
 ∀ (k f:Addr) (H':Hp),H k=none→H f=none→k≠f→Zj3 C H' p k f ss 0→(∀b o,H b=some o→b≠p→H' b=some o)→Q .non H'
theorem Zjp(T:Zao K mg cRow cMerge)(f_alikes:Df P w K mg base 3 "alikes" ["row"] (Zgq K)):Cf P w K mg base 4 cRow "Row" ["self", "keys"] (Zhy cRow):=by
 refine T.t_Row_init.cf ZiI (fun vs H Q E h=>?_) (fun cdv f A outer s H vs Q E hr h=>?_)
 ·obtain⟨p,dx,a,ss,rfl,_⟩:=h
  rfl
 obtain⟨p,dx,a,ss,rfl,hp,ha,hn,hz,q⟩:=h
 refine⟨_,#[Zf,#[Zb6,‹0›,#[Za5,(ZnH K),T.b.n_list,boot_list,#[Za,‹1›,#[Zd]]]],#[Zf,#[Zb6,‹0›,#[ZD,f_alikes,hr,#[Za,‹1›,#[Zd]],(by rfl)]],#[Zj,#[Zb6,‹0›,#[Zi]]]]],?_⟩
 refine⟨_,rfl,a,_,rfl,.inl (SqL.of ha),fun k hk=>?_⟩
 have npk:p≠k:=Zc hp hk
 have nap:a≠p:=fun e=>by rw[e,hp]at ha;cases ha
 have nak:a≠k:=Zc ha hk
 refine⟨_,rfl,p,cRow,dx,[],rfl,(by rw[Ze npk];exact hp),T.cl_Row,T.na_Row_all_keys,(by show 0<1000;decide),?_⟩
 have ha2:(upd (upd H k (.lst (ss.map V.str))) p (.ins cRow dx (Zq "all_keys" (.ref k) []))) a=some (.lst (ss.map V.str)):=by rw[Ze nap,Ze nak];exact ha
 have hp2:(upd (upd H k (.lst (ss.map V.str))) p (.ins cRow dx (Zq "all_keys" (.ref k) []))) p=some (.ins cRow dx (Zq "all_keys" (.ref k) [])):=Zb
 have hk2:(upd (upd H k (.lst (ss.map V.str))) p (.ins cRow dx (Zq "all_keys" (.ref k) []))) k=some (.lst (ss.map V.str)):=by rw[Ze npk.symm];exact Zb
 have s2:∀b o,H b=some o→b≠p→(upd (upd H k (.lst (ss.map V.str))) p (.ins cRow dx (Zq "all_keys" (.ref k) []))) b=some o:=fun b o h n=>by rw[Ze n,Ze (Zc h hk)];exact h
 refine⟨_,rfl,a,ss,rfl,SqL.of ha2,hn,hz,fun f H3 hf0 hf3 s3=>?_⟩
 have hHf:H f=none:=by
  cases w':H f with
  | none=>rfl
  | some u =>
   by_cases e:f=p
   ·rw[e,hp2]at hf0;cases hf0
   ·rw[s2 f u w' e]at hf0;cases hf0
 have nkf:k≠f:=Zc hk2 hf0
 have npf:p≠f:=Zc hp2 hf0
 refine⟨_,rfl,p,cRow,dx,_,rfl,s3 _ _ hp2,T.cl_Row,T.na_Row_fars,(by show 1<1000;decide),?_⟩
 refine⟨_,rfl,p,cRow,dx,_,rfl,Zb,T.cl_Row,T.na_Row_gone,?_,?_⟩
 ·have h1:=Zb1 "all_keys" (V.ref k) []
  have h2:=Zb1 "fars" (V.ref f) (Zq "all_keys" (V.ref k) [])
  have h3:([]:List (Str×V)).length=0:=rfl
  lia
 ·refine q k f _ hk hHf nkf ⟨⟨dx,Zb⟩,?_,?_⟩ fun b o h n=>?_
  ·rw[Ze npk.symm,Ze npk.symm];exact s3 _ _ hk2
  ·rw[Ze npf.symm,Ze npf.symm];exact hf3
  ·rw[Ze n,Ze n];exact s3 _ _ (s2 b o h n)
theorem Zbh{K:PySem.W.Frag}{a:Addr}{xs:List V}{k:Nat}{D:Addr}{σ:L2.St}{H1:Hp}{g:TG}{te:TE}{Q:VK}(Pv:Nat→List V→L2.St→Hp→Prop)(h0:Pv 0 [] (σ++List.replicate k none) (upd H1 D (.lst [])))
  (hl:∀i ys σ H,Pv i ys σ H→SqL K H a xs)
  (hs:∀i x ys σ H,xs[i]? = some x→Pv i ys σ H→g x σ H fun σ4 H4=>te σ4 H4 fun y H6=>H6 D=some (.lst ys)∧ys.length<sizeLine∧Pv (i+1) (ys++[y]) σ4 (upd H6 D (.lst (ys++[y]))))
  (hd:∀ys σ H,Pv xs.length ys σ H→Q (.ref D) H):Zfb (Itl K a) D k σ H1 g Zgs te Q:=by
 refine⟨fun i m ys σ H=>m=xs.length-i∧i≤xs.length∧Pv i ys σ H,⟨xs.length,by simp,Qv _,h0⟩,?_⟩
 rintro i m ys σ H ⟨rfl,hi,p⟩
 have q1:=hl i ys σ H p
 by_cases hlt:i<xs.length
 ·refine .inr ⟨⟨xs,xs[i],q1,Qb hlt⟩,Pv (i+1),fun ys' σ' H' p'=>⟨xs.length-(i+1),by lia,rfl,hlt,p'⟩,fun x H' y=>?_⟩
  obtain⟨rfl,e⟩:=y
  simp only[Zgs,↓reduceIte]
  exact hs i x ys σ _ (e xs q1) p
 ·have e:i=xs.length:=by lia
  exact .inl ⟨⟨xs,q1,by lia⟩,hd ys σ H (e ▸ p)⟩
theorem Zb3:∀x y:List Nat,x<y↔ZK x y<0
 | [],[]=>by unfold ZK;exact⟨fun h=>absurd h (by simp),fun h=>absurd h (by lia)⟩
 | [],_::_=>by unfold ZK;exact⟨fun _=>by lia,fun _=>List.nil_lt_cons _ _⟩
 | _::_,[]=>by unfold ZK;exact⟨fun h=>absurd h (List.not_lt_nil _),fun h=>absurd h (by lia)⟩
 | a::r,b::s=>by
  have ih:=Zb3 r s
  unfold ZK
  rw[List.cons_lt_cons_iff]
  by_cases e:a=b
  ·rw[if_pos e,← ih]
   exact⟨fun h=>h.elim (fun z=>by lia) (fun z=>z.2),fun h=>.inr ⟨e,h⟩⟩
  ·rw[if_neg e]
   by_cases l:a<b
   ·rw[if_pos l];exact⟨fun _=>by lia,fun _=>.inl l⟩
   ·rw[if_neg l];exact⟨fun h=>h.elim (fun z=>absurd z l) (fun z=>absurd z.1 e),fun h=>absurd h (by lia)⟩
theorem Zc8{K:PySem.W.Frag}{H:Hp}{a:Addr}{xs:List V}(h:H a=some (.lst xs)):L2.tyV K "list" (.ref a) H:=.inl ⟨rfl,_,SqL.of h⟩
theorem AtT.mono{H H':Hp}{ts:Zb9}(h:AtT H ts)(s:ZA H H'):AtT H' ts:=fun x hx=>s _ _ (h x hx)
theorem ZaA{H:Hp}{D:Addr}{ys:List V}(h:H D=some (.lst ys))(o:HO):∀a xs,H a=some (.tup xs)→(upd H D o) a=some (.tup xs):=fun a xs e=>by
 have nb:a≠D:=by intro z;rw[z,h]at e;cases e
 rw[Ze nb];exact e
abbrev Hd:=Int→Option (List Nat)
def Btr(x:List Nat)(a:Int)(y:List Nat)(b:Int):Prop:=ZK x y<0∨(ZK x y=0∧a<b)
def Win(hd:Hd)(N:List Int):Option Int→Prop
 | none=>∀n∈N,hd n=none
 | some a=>a∈N∧∃x,hd a=some x∧∀b∈N,∀y,hd b=some y→b=a∨Btr x a y b
theorem Btr.asym{x y:List Nat}{a b:Int}(h:Btr x a y b)(g:Btr y b x a):False:=by
 have e:=ZaP x y
 rcases h with h|⟨h,h2⟩<;>rcases g with g|⟨g,g2⟩<;>lia
theorem Btr.total{x y:List Nat}{a b:Int}(h:a≠b):Btr x a y b∨Btr y b x a:=by
 have e:=ZaP x y
 unfold Btr
 lia
theorem Btr.trans{x y z:List Nat}{a b c:Int}(h:Btr x a y b)(g:Btr y b z c):Btr x a z c:=by
 have t1:=ZbS x y z
 have t2:=ZbS z x y
 have t3:=ZbS y z x
 have e1:=ZaP x y
 have e2:=ZaP y z
 have e3:=ZaP x z
 unfold Btr at *
 lia
theorem Win.one{hd:Hd}{N:List Int}{v w:Option Int}(h:Win hd N v)(g:Win hd N w):v=w:=by
 cases v with
 | none =>
  cases w with
  | none=>rfl
  | some b=>obtain⟨hb,y,hy,_⟩:=g;rw[h b hb]at hy;cases hy
 | some a =>
  obtain⟨ha,x,hx,h2⟩:=h
  cases w with
  | none=>rw[g a ha]at hx;cases hx
  | some b =>
   obtain⟨hb,y,hy,g2⟩:=g
   rcases h2 b hb y hy with e|e
   ·rw[e]
   ·rcases g2 a ha x hx with e'|e'
    ·rw[e']
    ·exact(e.asym e').elim
theorem Win.nil(hd:Hd):Win hd [] none:=fun n h=>by cases h
theorem Win.sing{hd:Hd}{n:Int}:Win hd [n] (if (hd n).isSome then some n else none):=by
 cases h:hd n with
 | none=>intro m hm;rw[Qe.mp hm];exact h
 | some x=>exact⟨by simp,x,h,fun b hb y hy=>.inl (Qe.mp hb)⟩
theorem Win.both{hd:Hd}{A B:List Int}{a b:Int}{x y:List Nat}(ha:Win hd A (some a))(hb:Win hd B (some b))(hx:hd a=some x)(hy:hd b=some y)(h:Btr x a y b):Win hd (A++B) (some a):=by
 obtain⟨a1,x',hx',a2⟩:=ha
 obtain⟨b1,y',hy',b2⟩:=hb
 rw[hx]at hx';cases hx'
 rw[hy]at hy';cases hy'
 refine⟨Qp _ a1,x,hx,fun c hc z hz=>?_⟩
 rcases Qh.mp hc with hc|hc
 ·exact a2 c hc z hz
 ·rcases b2 c hc z hz with e|e
  ·subst e;rw[hy]at hz;cases hz;exact .inr h
  ·exact .inr (h.trans e)
theorem Win.both'{hd:Hd}{A B:List Int}{a b:Int}{x y:List Nat}(ha:Win hd A (some a))(hb:Win hd B (some b))(hx:hd a=some x)(hy:hd b=some y)(h:Btr y b x a):Win hd (A++B) (some b):=by
 have:=Win.both hb ha hy hx h
 obtain⟨h1,z,h2,h3⟩:=this
 exact⟨by rcases Qh.mp h1 with h|h<;>simp[h],z,h2,fun c hc=>h3 c (by rcases Qh.mp hc with h|h<;>simp[h])⟩
theorem Win.left{hd:Hd}{A B:List Int}{w:Option Int}(ha:Win hd A w)(hb:Win hd B none):Win hd (A++B) w:=by
 cases w with
 | none=>intro n hn;rcases Qh.mp hn with h|h;exact ha n h;exact hb n h
 | some a =>
  obtain⟨a1,x,hx,a2⟩:=ha
  refine⟨Qp _ a1,x,hx,fun c hc z hz=>?_⟩
  rcases Qh.mp hc with hc|hc
  ·exact a2 c hc z hz
  ·rw[hb c hc]at hz;cases hz
theorem Win.right{hd:Hd}{A B:List Int}{w:Option Int}(ha:Win hd A none)(hb:Win hd B w):Win hd (A++B) w:=by
 cases w with
 | none=>intro n hn;rcases Qh.mp hn with h|h;exact ha n h;exact hb n h
 | some a =>
  obtain⟨a1,x,hx,a2⟩:=hb
  refine⟨Qo _ a1,x,hx,fun c hc z hz=>?_⟩
  rcases Qh.mp hc with hc|hc
  ·rw[ha c hc]at hz;cases hz
  ·exact a2 c hc z hz
theorem Win.ex(hd:Hd):∀N:List Int,N.Nodup→∃w,Win hd N w
 | [],_=>⟨none,Win.nil hd⟩
 | n::N,hn=>by
  obtain⟨n1,n2⟩:=Q3.mp hn
  obtain⟨w,hw⟩:=Win.ex hd N n2
  have hs:Win hd [n] (if (hd n).isSome then some n else none):=Win.sing
  cases h:hd n with
  | none =>
   rw[h]at hs
   exact⟨w,Win.right (A:=[n]) hs hw⟩
  | some x =>
   rw[h]at hs
   cases w with
   | none=>exact⟨some n,Win.left (A:=[n]) hs hw⟩
   | some b =>
    obtain⟨b1,y,hy,b2⟩:=id hw
    have hne:n≠b:=fun e=>n1 (e ▸ b1)
    rcases Btr.total (x:=x) (y:=y) hne with e|e
    ·exact⟨some n,Win.both (A:=[n]) hs hw h hy e⟩
    ·exact⟨some b,Win.both' (A:=[n]) hs hw h hy e⟩
theorem Win.congr{hd hd':Hd}{N:List Int}(h:∀n∈N,hd' n=hd n){w:Option Int}(hw:Win hd N w):Win hd' N w:=by
 cases w with
 | none=>intro n hn;rw[h n hn];exact hw n hn
 | some a =>
  obtain⟨a1,x,hx,a2⟩:=hw
  exact⟨a1,x,by rw[h a a1];exact hx,fun b hb y hy=>a2 b hb y (by rw[← h b hb];exact hy)⟩
def lo(N:List Int):List Int:=N.take (mid N)
def up(N:List Int):List Int:=N.drop (mid N)
theorem Zcq(N:List Int):lo N++up N=N:=List.take_append_drop _ _
theorem ZdO{N:List Int}(h:2≤N.length):(lo N).length<N.length∧1≤(lo N).length:=by
 unfold lo mid
 rw[QC]
 lia
theorem Zef{N:List Int}(h:2≤N.length):(up N).length<N.length∧1≤(up N).length:=by
 unfold up mid
 rw[QW]
 lia
def ZP(N:List Int):Int×Int:=(N.headD 0,N.getLastD 0)
abbrev StL:=List ((Int×Int)×Option (Addr×Int×Int))
def stV:Option (Addr×Int×Int)→V
 | none=>.non
 | some t=>.ref t.1
def kvS(s:StL):List (List Key×V):=s.map fun e=>([.inl e.1.1,.inl e.1.2],stV e.2)
def AtS(H:Hp)(s:StL):Prop:=∀e∈s,∀t,e.2=some t→H t.1=some (.tup [.int t.2.1,.int t.2.2])
def ZS(s:StL)(k:Int×Int):Option (Option (Addr×Int×Int)):=(s.find? fun e=>decide (e.1=k)).map (·.2)
def ZcQ(s:StL)(k:Int×Int)(v:Option (Addr×Int×Int)):StL:=if s.any (fun e=>decide (e.1=k)) then s.map (fun e=>if e.1=k then (e.1,v) else e) else s++[(k,v)]
theorem AtS.mono{H H':Hp}{s:StL}(h:AtS H s)(k:∀a xs,H a=some (.tup xs)→H' a=some (.tup xs)):AtS H' s:=fun e he t ht=>k _ _ (h e he t ht)
theorem ZjF{a b:Int×Int}(h:([.inl a.1,.inl a.2]:List Key)=[.inl b.1,.inl b.2]):a=b:=by
 obtain⟨a1,a2⟩:=a
 obtain⟨b1,b2⟩:=b
 injection h with h1 h2
 injection h2 with h2 _
 have e1:=Sum.inl.inj h1
 have e2:=Sum.inl.inj h2
 simp only at e1 e2
 rw[e1,e2]
theorem Zis(k:Int×Int):∀s:StL,ZcE (kvS s) [.inl k.1,.inl k.2]=(ZS s k).map stV
 | []=>rfl
 | e::s=>by
  have ih:=Zis k s
  by_cases h:e.1=k
  ·unfold kvS ZS
   rw[Ql,ZdQ (by rw[h])]
   simp[List.find?_cons,h]
  ·unfold kvS at ih ⊢
   rw[Ql,Zdy (fun z=>h (ZjF z)),ih]
   unfold ZS
   simp[List.find?_cons,h]
theorem ZoZ(k:Int×Int)(s:StL):((kvS s).any fun kv=>decide (kv.1=([.inl k.1,.inl k.2]:List Key)))=s.any fun e=>decide (e.1=k):=by
 unfold kvS
 rw[List.any_map]
 congr 1
 funext e
 simp only[Function.comp]
 by_cases h:e.1=k
 ·rw[decide_eq_true h,decide_eq_true (by rw[h])]
 ·rw[decide_eq_false h,decide_eq_false (fun z=>h (ZjF z))]
theorem Zft(s:StL)(k:Int×Int)(v:Option (Addr×Int×Int)):Zd2 (kvS s) [.inl k.1,.inl k.2] (stV v)=kvS (ZcQ s k v):=by
 unfold Zd2 ZcQ
 rw[ZoZ]
 split
 ·unfold kvS
  rw[QE,QE]
  congr 1
  funext e
  simp only[Function.comp]
  by_cases h:e.1=k
  ·rw[if_pos h,if_pos (by rw[h])]
  ·rw[if_neg h,if_neg (fun z=>h (ZjF z))]
 ·unfold kvS;rw[Qf];rfl
theorem Zni(s:StL)(k:Int×Int)(v:Option (Addr×Int×Int)):(ZcQ s k v).length≤s.length+1:=by
 unfold ZcQ
 split
 ·rw[Qa];lia
 ·rw[Qg];exact Qi _
theorem Za6(s:StL)(k j:Int×Int)(v:Option (Addr×Int×Int)):ZS (ZcQ s k v) j=if j=k then some v else ZS s j:=by
 unfold ZcQ
 split
 ·rename_i h
  induction s with
  | nil=>simp at h
  | cons e s ih =>
   unfold ZS at ih ⊢
   by_cases hek:e.1=k
   ·by_cases hj:j=k
    ·subst hj;simp[List.find?_cons,hek]
    ·have hj':¬ k=j:=fun z=>hj z.symm
     rw[Ql,if_pos hek,QaF (by simp[hek,hj']),QaF (by simp[hek,hj']),if_neg hj]
     by_cases ha:s.any (fun e=>decide (e.1=k))=true
     ·have:=ih ha;rw[if_neg hj]at this;exact this
     ·have:s.map (fun e=>if e.1=k then (e.1,v) else e)=s:=by
       rw[List.map_eq_iff]
       intro i
       cases hi:s[i]? with
       | none=>rfl
       | some x =>
        have hx:¬ x.1=k:=fun z=>ha (List.any_eq_true.mpr ⟨x,Qr hi,by simpa using z⟩)
        simp[hx]
      rw[this]
   ·have ha:s.any (fun e=>decide (e.1=k))=true:=by simpa [hek] using h
    rw[Ql,if_neg hek]
    by_cases hj:e.1=j
    ·have:¬ j=k:=fun z=>hek (hj.trans z)
     rw[List.find?_cons_of_pos (by simpa using hj),List.find?_cons_of_pos (by simpa using hj),if_neg this]
    ·rw[QaF (by simpa using hj),QaF (by simpa using hj)]
     exact ih ha
 ·rename_i h
  unfold ZS
  rw[List.find?_append]
  by_cases hj:j=k
  ·subst hj
   have:s.find? (fun e=>decide (e.1=j))=none:=by
    rw[List.find?_eq_none]
    intro x hx z
    exact h (List.any_eq_true.mpr ⟨x,hx,z⟩)
   rw[this];simp
  ·have hj':¬ k=j:=fun z=>hj z.symm
   rw[if_neg hj]
   simp[hj']
theorem AtS.put{H:Hp}{s:StL}{k:Int×Int}{v:Option (Addr×Int×Int)}(h:AtS H s)(hv:∀t,v=some t→H t.1=some (.tup [.int t.2.1,.int t.2.2])):AtS H (ZcQ s k v):=by
 unfold ZcQ
 split
 ·intro e he t ht
  obtain⟨x,hx,rfl⟩:=Qx.mp he
  split at ht
  ·exact hv t ht
  ·exact h x hx t ht
 ·intro e he t ht
  rcases Qh.mp he with he|he
  ·exact h e he t ht
  ·rw[Qe.mp he]at ht;exact hv t ht
theorem Zg5{s:StL}{k:Int×Int}{v:Option (Addr×Int×Int)}(h:ZS s k=some v):(k,v)∈s:=by
 unfold ZS at h
 obtain⟨e,he,rfl⟩:=Qa0.mp h
 have h1:=List.find?_some he
 have:e.1=k:=by simpa using h1
 rw[← this];exact List.mem_of_find?_eq_some he
def Zsk(hd:Hd)(s:StL)(N:List Int):Prop :=
 (∀a b x y,Win hd (lo N) (some a)→Win hd (up N) (some b)→hd a=some x→hd b=some y→∃t,ZS s (ZP N)=some (some (t,if ZK x y<0∨(ZK x y=0∧a<b) then b else a,((lcp x y:Nat):Int)))) ∧
 ((Win hd (lo N) none∨Win hd (up N) none)→ZS s (ZP N)=none∨ZS s (ZP N)=some none)
def ZeE(hd:Hd)(s:StL):Nat→List Int→Prop
 | 0,_=>True
 | n+1,N=>2≤N.length→ZeE hd s n (lo N)∧ZeE hd s n (up N)∧Zsk hd s N
def ZeD:Nat→List Int→Int×Int→Prop
 | 0,_,_=>False
 | n+1,N,k=>2≤N.length∧(ZeD n (lo N) k∨ZeD n (up N) k∨k=ZP N)
abbrev Zaq(N:List Int):Prop:=N.Pairwise (·<·)
theorem ZdZ{N:List Int}(h:Zaq N):Zaq (lo N):=h.sublist (List.take_sublist _ _)
theorem ZdU{N:List Int}(h:Zaq N):Zaq (up N):=h.sublist (List.drop_sublist _ _)
theorem ZdR{N:List Int}(h:Zaq N):N.Nodup:=h.imp fun {a b} hab e=>by lia
theorem ZM{N:List Int}(h:Zaq N){a b:Int}(ha:a∈lo N)(hb:b∈up N):a<b:=by
 have:Zaq (lo N++up N):=by rw[Zcq];exact h
 exact(List.pairwise_append.mp this).2.2 a ha b hb
theorem Zcb{N:List Int}(h:N≠[]):N.headD 0∈N:=by
 cases N with
 | nil=>exact absurd rfl h
 | cons a r=>simp
theorem Zcd{N:List Int}(h:N≠[]):N.getLastD 0∈N:=by
 rw[Qau,QaU h]
 exact List.getLast_mem h
theorem Z8{N:List Int}(h:1≤N.length):N≠[]:=fun z=>by rw[z]at h;simp at h
theorem ZeJ{N:List Int}(h:2≤N.length):(ZP N).2=(up N).getLastD 0:=by
 have hu:=Z8 (Zef h).2
 show N.getLastD 0=_
 rw[Qau,Qau]
 conv=>lhs;rw[← Zcq N]
 rw[List.getLast?_append,QaU hu];rfl
theorem ZeM{N:List Int}(h:2≤N.length):(ZP N).1=(lo N).headD 0:=by
 have hl:=Z8 (ZdO h).2
 show N.headD 0=_
 conv=>lhs;rw[← Zcq N]
 cases hc:lo N with
 | nil=>exact absurd hc hl
 | cons a r=>rfl
theorem ZdT:∀ (n:Nat) (N:List Int) (k:Int×Int),ZeD n N k→k.1∈N∧k.2∈N
 | 0,_,_,h=>h.elim
 | n+1,N,k,⟨h2,h⟩=>by
  rcases h with h|h|rfl
  ·have:=ZdT n _ k h
   rw[← Zcq N]
   exact⟨Qp _ this.1,Qp _ this.2⟩
  ·have:=ZdT n _ k h
   rw[← Zcq N]
   exact⟨Qo _ this.1,Qo _ this.2⟩
  ·have hn:N≠[]:=Z8 (by lia)
   exact⟨Zcb hn,Zcd hn⟩
theorem ZhV{N:List Int}(hr:Zaq N)(h2:2≤N.length){n:Nat}{k:Int×Int}(h:ZeD n (lo N) k):k≠ZP N∧∀m,¬ ZeD m (up N) k:=by
 have:=ZdT n _ k h
 refine⟨fun z=>?_,fun m hm=>?_⟩
 ·have h1:=ZeJ h2
  rw[z,h1]at this
  have:=ZM hr this.2 (Zcd (Z8 (Zef h2).2))
  lia
 ·have:=ZM hr this.1 (ZdT m _ k hm).1
  lia
theorem Zid{N:List Int}(hr:Zaq N)(h2:2≤N.length){n:Nat}{k:Int×Int}(h:ZeD n (up N) k):k≠ZP N∧∀m,¬ ZeD m (lo N) k:=by
 have:=ZdT n _ k h
 refine⟨fun z=>?_,fun m hm=>?_⟩
 ·have h1:=ZeM h2
  rw[z,h1]at this
  have:=ZM hr (Zcb (Z8 (ZdO h2).2)) this.1
  lia
 ·have:=ZM hr (ZdT m _ k hm).1 this.1
  lia
theorem ZeE.congr{hd hd':Hd}{s s':StL}:∀ (n:Nat) (N:List Int),(∀m∈N,hd' m=hd m)→(∀k,ZeD n N k→ZS s' k=ZS s k)→ZeE hd s n N→ZeE hd' s' n N
 | 0,_,_,_,_=>True.intro
 | n+1,N,hh,hk,h=>fun h2=>by
  obtain⟨a,b,c1,c2⟩:=h h2
  have hl:∀m∈lo N,hd' m=hd m:=fun m hm=>hh m (by rw[← Zcq N];exact Qp _ hm)
  have hu:∀m∈up N,hd' m=hd m:=fun m hm=>hh m (by rw[← Zcq N];exact Qo _ hm)
  have hl':∀m∈lo N,hd m=hd' m:=fun m hm=>(hl m hm).symm
  have hu':∀m∈up N,hd m=hd' m:=fun m hm=>(hu m hm).symm
  refine⟨ZeE.congr n _ hl (fun k hkk=>hk k ⟨h2,.inl hkk⟩) a,ZeE.congr n _ hu (fun k hkk=>hk k ⟨h2,.inr (.inl hkk)⟩) b,fun a b x y ha hb hx hy=>?_,fun hw=>?_⟩
  ·rw[hk _ ⟨h2,.inr (.inr rfl)⟩]
   exact c1 a b x y (Win.congr hl' ha) (Win.congr hu' hb) (by rw[← hl a ha.1];exact hx) (by rw[← hu b hb.1];exact hy)
  ·rw[hk _ ⟨h2,.inr (.inr rfl)⟩]
   refine c2 ?_
   rcases hw with hw|hw
   ·exact .inl (Win.congr hl' hw)
   ·exact .inr (Win.congr hu' hw)
inductive Zgp (hd:Hd):Nat→List Int→Int→Int→Prop
 | few {n:Nat} {N:List Int}:N.length<2→Zgp hd n N 0 0
 | none {n:Nat} {N:List Int} {k l k' l':Int}:2≤N.length→Zgp hd n (lo N) k l→Zgp hd n (up N) k' l'→(Win hd (lo N) none∨Win hd (up N) none)→Zgp hd (n+1) N (k+k') (l+l')
 | both {n:Nat} {N:List Int} {k l k' l':Int} {a b:Int} {x y:List Nat}:2≤N.length→Zgp hd n (lo N) k l→Zgp hd n (up N) k' l'→Win hd (lo N) (some a)→Win hd (up N) (some b)→hd a=some x→hd b=some y→Zgp hd (n+1) N (k+k'+1) (l+l'+(lcp x y:Nat)+1)
def kk(e:Str×Int):List Key:=[.inr e.1,.inl e.2]
def oV:Option Str→V
 | none=>.non
 | some s=>.str s
def ZeO:Option Int→V
 | none=>.non
 | some a=>.int a
def kvH(E:List (Int×Option Str)):List (Key×V):=E.map fun e=>(.inl e.1,oV e.2)
def lk(E:List (Int×Option Str))(n:Int):Option Str:=(E.find? fun e=>decide (e.1=n)).bind (·.2)
structure Hds (H:Hp) (D:Addr) (E:List (Int×Option Str)):Prop where
 at':H D=some (.dK (kvH E))
 nd:(E.map (·.1)).Nodup
 ok:∀e∈E,∀s,e.2=some s→s.length≤1000∧AZ s
theorem ZqS(N:List Int):Zd0 N=lo N:=rfl
theorem ZqR(N:List Int):ZgN N=up N:=rfl
abbrev Zd1:=Int×Addr×List Str×Nat
def kvR(L:List Zd1):List (Key×V):=L.map fun e=>(.inl e.1,.ref e.2.1)
def kvG(L:List Zd1):List (Key×V):=L.map fun e=>(.inl e.1,.int (e.2.2.2:Int))
def Zsx(ra ga:Addr)(nb li lo:Int):List (Key×V):=[(.inr "rows",.ref ra),(.inr "gone",.ref ga),(.inr "number",.int nb),(.inr "likenings",.int li),(.inr "looks",.int lo)]
structure Own (H:Hp) (o ra ga:Addr) (L:List Zd1) (nb li lo:Int):Prop where
 at':H o=some (.dK (Zsx ra ga nb li lo))
 rows:H ra=some (.dK (kvR L))
 gone:H ga=some (.dK (kvG L))
 nd:(L.map (·.1)).Nodup
 few:L.length≤60
 lst:∀e∈L,H e.2.1=some (.lst (e.2.2.1.map V.str))∧e.2.2.1.length≤100∧e.2.2.2≤e.2.2.1.length∧∀s∈e.2.2.1,s.length≤1000∧AZ s
theorem ZqO{ns:List Int}(h:ns.Nodup):(ns.map (Sum.inl:Int→Key)).Nodup:=QaL _ (fun a b hab z=>hab (Sum.inl.inj z)) h
theorem Zdo.k'{H:Hp}{a:Addr}{kvs:List (Key×V)}{k:Key}{r:Option V}(e:H a=some (.dK kvs))(h:ZcE kvs k=r):Zdo H a (kV k) r:=by rw[← h];exact Zdo.k e
structure HdOf (L:List Zd1) (E:List (Int×Option Str)):Prop where
 per:(E.map (·.1)).Perm (L.map (·.1))
 up:(E.map (·.1)).Pairwise (·<·)
 hd:∀e∈L,(e.1,e.2.2.1[e.2.2.2]?)∈E
def hdL(L:List Zd1):Hd:=fun n=>((L.find? fun e=>decide (e.1=n)).bind fun e=>e.2.2.1[e.2.2.2]?).map cds
theorem ZjS:∀ {L:List Zd1},(L.map (·.1)).Nodup→∀ {e:Zd1},e∈L→hdL L e.1=(e.2.2.1[e.2.2.2]?).map cds
 | [],_,_,h=>by cases h
 | x::r,nd,e,h=>by
  rw[Ql,Q3]at nd
  unfold hdL
  rw[Qaw]
  rcases QO.mp h with rfl|h
  ·rw[decide_eq_true rfl];rfl
  ·rw[decide_eq_false (fun z:x.1=e.1=>nd.1 (by rw[z];exact Qn (f:=fun x:Zd1=>x.1) h))]
   exact ZjS nd.2 h
theorem Win.perm{hd:Hd}{N M:List Int}{v:Option Int}(h:Win hd N v)(p:N.Perm M):Win hd M v:=by
 cases v with
 | none=>exact fun n hn=>h n (p.mem_iff.mpr hn)
 | some a=>obtain⟨ha,x,hx,hb⟩:=h;exact⟨p.mem_iff.mp ha,x,hx,fun b hbm=>hb b (p.mem_iff.mpr hbm)⟩
def Zro(L:List Zd1)(H:Hp)(x:V):Prop:=(x=.non∧Win (hdL L) (L.map (·.1)) none)∨∃ (t:Addr) (e:Zd1) (z:Str),x=.ref t∧e∈L∧e.2.2.1[e.2.2.2]? = some z∧H t=some (.tup [.int e.1,.int (e.2.2.2:Int),.str z])∧Win (hdL L) (L.map (·.1)) (some e.1)
structure Zeg (H:Hp) (r:Addr) (rs:List (Addr×List Str)):Prop where
 at':H r=some (.lst (rs.map fun x=>V.ref x.1))
 few:rs.length≤60
 lst:∀x∈rs,H x.1=some (.lst (x.2.map V.str))∧x.2.length≤100∧∀s∈x.2,s.length≤1000∧AZ s
theorem Zeg.same{H H':Hp}{r:Addr}{rs:List (Addr×List Str)}(h:Zeg H r rs)(s:ZA H H'):Zeg H' r rs:=⟨s _ _ h.at',h.few,fun x hx=>let ⟨a,b⟩:=h.lst x hx;⟨s _ _ a,b⟩⟩
theorem ZfX(n:Nat):(Zaj 0 n).Pairwise (·<·):=by
 unfold Zaj
 exact QaL _ (fun a b h=>by lia) (List.pairwise_lt_range)
def ZfR(K:PySem.W.Frag):Sp:=fun vs H Q _=>∃ (n:Int) (a:Addr) (ss:List Str),vs=[.int n,.ref a]∧SqL K H a (ss.map V.str)∧ss.length≤200∧(∀s∈ss,s.length≤1000)∧ZiL ss .non∧∀H',ZA H H'→Q .non H'
theorem Zlr(T:Zao K mg cRow cMerge)(f_first_break:Df P w K mg base 4 "first_break" ["keys"] (Zod K)):Df P w K mg base 5 "refuse_break" ["number", "keys"] (ZfR K):=by
 refine T.t_refuse_break.df Zdl (fun vs H Q E h=>?_) (fun cdv f A outer s H vs Q E hr h=>?_)
 ·obtain⟨n,a,ss,rfl,_⟩:=h
  rfl
 obtain⟨n,a,ss,rfl,hS,h200,h1000,hnon,q⟩:=h
 refine⟨_,#[Zf,#[Zu,2,Zdl.nd,(Or.inl rfl),#[ZD,f_first_break,hr,#[Za,‹1›,#[Zd]],(by rfl)]],#[Zj,#[Z9,#[Zn,ZhD,‹2›,#[Zav],(Zs _)],#[Zj,(@Zo7 _ _)],#[ZF]]]],?_⟩
 refine⟨_,rfl,a,ss,rfl,hS,h200,h1000,fun v H1 hb s1=>?_⟩
 have e:=Zoz hb hnon
 subst e
 exact⟨_,rfl,rfl,_,rfl,Zcz (q H1 s1)⟩
structure ZI where
 n:Int
 p:Addr
 k:Addr
 f:Addr
 ss:List Str
 g:Nat
def toL(e:ZI):Zd1:=(e.n,e.p,e.ss,e.g)
def hdM(L:List ZI):Hd:=hdL (L.map toL)
def ZG(L:List ZI):List Int:=L.map (·.n)
theorem Zez(L:List ZI):(L.map toL).map (·.1)=ZG L:=by rw[QE];rfl
def kvM(L:List ZI):List (Key×V):=L.map fun e=>(.inl e.n,.ref e.p)
theorem Zee{L:List ZI}(nd:(ZG L).Nodup){e:ZI}(he:e∈L):hdM L e.n=(e.ss[e.g]?).map cds :=
 ZjS (L:=L.map toL) (by rw[Zez];exact nd) (Qn (f:=toL) he)
theorem Zn8(L:List ZI):(kvM L).map (·.1)=(ZG L).map (Sum.inl:Int→Key):=by unfold kvM ZG;rw[QE,QE];rfl
theorem ZfG{L:List ZI}(nd:(ZG L).Nodup){e:ZI}(he:e∈L):ZcE (kvM L) (.inl e.n)=some (.ref e.p):=Zja (by rw[Zn8];exact ZqO nd) (Qn (f:=fun e:ZI=>((.inl e.n:Key),V.ref e.p)) he)
theorem Zdu{L:List ZI}{n:Int}(h:n∈ZG L):∃e∈L,e.n=n:=Qx.mp h
def mgF(rd:Addr)(nb li lo:Int)(sd:Addr)(best:V):List (Str×V):=[("rows",.ref rd),("next_number",.int nb),("likened",.int li),("looked",.int lo),("stays",.ref sd),("best",best)]
theorem ZrT:¬ (("rows" : Str) = "next_number"):=by ac_rfl
theorem Zqg:¬ (("rows" : Str) = "likened"):=by ac_rfl
theorem Zra:¬ (("rows" : Str) = "looked"):=by ac_rfl
theorem Zqa:¬ (("rows" : Str) = "stays"):=by ac_rfl
theorem ZqN:¬ (("rows" : Str) = "best"):=by ac_rfl
theorem ZrH:¬ (("next_number" : Str) = "likened"):=by ac_rfl
theorem Zrl:¬ (("next_number" : Str) = "looked"):=by ac_rfl
theorem ZrI:¬ (("next_number" : Str) = "stays"):=by ac_rfl
theorem ZrQ:¬ (("next_number" : Str) = "best"):=by ac_rfl
theorem Zq8:¬ (("likened" : Str) = "looked"):=by ac_rfl
theorem ZqC:¬ (("likened" : Str) = "stays"):=by ac_rfl
theorem ZqY:¬ (("likened" : Str) = "best"):=by ac_rfl
theorem Zqx:¬ (("looked" : Str) = "stays"):=by ac_rfl
theorem ZpW:¬ (("looked" : Str) = "best"):=by ac_rfl
theorem Zq2:¬ (("stays" : Str) = "best"):=by ac_rfl
theorem ZdG(f:Str)(v x:V)(r:List (Str×V)):Zq f v ((f,x)::r)=(f,v)::r:=by unfold Zq;rw[if_pos rfl]
theorem Zv{f g:Str}(h:¬ g=f)(v x:V)(r:List (Str×V)):Zq f v ((g,x)::r)=(g,x)::Zq f v r:=by
 show (if g=f then (g,v)::r else (g,x)::Zq f v r)=_
 rw[if_neg h]
theorem ZbD(f:Str)(v:V):Zq f v []=[(f,v)]:=rfl
theorem ZbN(rd:Addr)(nb li lo:Int)(sd:Addr)(best:V):mgF rd nb li lo sd best=Zq "best" best (Zq "stays" (.ref sd) (Zq "looked" (.int lo) (Zq "likened" (.int li) (Zq "next_number" (.int nb) (Zq "rows" (.ref rd) []))))):=by
 rw[ZbD,Zv ZrT,ZbD,Zv Zqg,Zv ZrH,ZbD,Zv Zra,Zv Zrl,Zv Zq8,ZbD,Zv Zqa,Zv ZrI,Zv ZqC,Zv Zqx,ZbD,Zv ZqN,Zv ZrQ,Zv ZqY,Zv ZpW,Zv Zq2,ZbD]
 rfl
section
variable (rd:Addr) (nb li lo:Int) (sd:Addr) (best:V)
theorem Zb0:(mgF rd nb li lo sd best).lookup ("rows" : Str)=some (.ref rd):=by
 rw[ZbN,Zl,if_neg ZqN,Zl,if_neg Zqa,Zl,if_neg Zra,Zl,if_neg Zqg,Zl,if_neg ZrT,Zl,if_pos rfl]
theorem Zfc:(mgF rd nb li lo sd best).lookup ("likened" : Str)=some (.int li):=by
 rw[ZbN,Zl,if_neg ZqY,Zl,if_neg ZqC,Zl,if_neg Zq8,Zl,if_pos rfl]
theorem Zjt:(mgF rd nb li lo sd best).lookup ("looked" : Str)=some (.int lo):=by
 rw[ZbN,Zl,if_neg ZpW,Zl,if_neg Zqx,Zl,if_pos rfl]
theorem ZcV:(mgF rd nb li lo sd best).lookup ("stays" : Str)=some (.ref sd):=by
 rw[ZbN,Zl,if_neg Zq2,Zl,if_pos rfl]
theorem Zds:(mgF rd nb li lo sd best).lookup ("best" : Str)=some best:=by
 rw[ZbN,Zl,if_pos rfl]
theorem Zc7{m:Str}(h1:¬ m = "rows")(h2:¬ m = "next_number")(h3:¬ m = "likened")(h4:¬ m = "looked")(h5:¬ m = "stays")(h6:¬ m = "best"):(mgF rd nb li lo sd best).lookup m=none:=by
 rw[ZbN,Zl,if_neg h6,Zl,if_neg h5,Zl,if_neg h4,Zl,if_neg h3,Zl,if_neg h2,Zl,if_neg h1]
 rfl
theorem Zdk(v:Int):Zq "likened" (.int v) (mgF rd nb li lo sd best)=mgF rd nb v lo sd best:=by unfold mgF;rw[Zv Zqg,Zv ZrH,ZdG]
theorem ZfS(v:Int):Zq "looked" (.int v) (mgF rd nb li lo sd best)=mgF rd nb li v sd best:=by unfold mgF;rw[Zv Zra,Zv Zrl,Zv Zq8,ZdG]
theorem ZgE(x:Addr):Zq "stays" (.ref x) (mgF rd nb li lo sd best)=mgF rd nb li lo x best:=by unfold mgF;rw[Zv Zqa,Zv ZrI,Zv ZqC,Zv Zqx,ZdG]
theorem Zb8(x:V):Zq "best" x (mgF rd nb li lo sd best)=mgF rd nb li lo sd x:=by unfold mgF;rw[Zv ZqN,Zv ZrQ,Zv ZqY,Zv ZpW,Zv Zq2,ZdG]
theorem Zcv:(mgF rd nb li lo sd best).length<1000:=by show 6<1000;decide
end
structure Zev (C:Addr) (H:Hp) (e:ZI):Prop where
 at':Zj3 C H e.p e.k e.f e.ss e.g
 le:e.g≤e.ss.length
 len:e.ss.length≤100
 srt:sortedS e.ss=true
 str:∀s∈e.ss,s.length≤1000∧AZ s
structure Zaa (cR cM:Addr) (H:Hp) (m rd sd:Addr) (L:List ZI) (s:StL) (nb li lo:Int) (best:V):Prop where
 ob:∃dx,H m=some (.ins cM dx (mgF rd nb li lo sd best))
 rows:H rd=some (.dK (kvM L))
 stays:H sd=some (.dT (kvS s))
 ats:AtS H s
 each:∀e∈L,Zev cR H e
 up:Zaq (ZG L)
 pd:(L.map (·.p)).Nodup
 few:L.length≤60
 sfew:s.length≤100
def Fp(m rd sd:Addr)(L:List ZI)(b:Addr):Prop:=b=m∨b=rd∨b=sd∨∃e∈L,b=e.p∨b=e.k∨b=e.f
theorem Zev.keep{C:Addr}{H H':Hp}{e:ZI}(h:Zev C H e)(hp:H' e.p=H e.p)(hk:H' e.k=H e.k)(hf:H' e.f=H e.f):Zev C H' e :=
 ⟨⟨by rw[hp];exact h.at'.ob,by rw[hk];exact h.at'.ks,by rw[hf];exact h.at'.fs⟩,h.le,h.len,h.srt,h.str⟩
section
variable {cR cM:Addr} {H H':Hp} {m rd sd:Addr} {L:List ZI} {s:StL} {nb li lo:Int} {best:V}
theorem Zaa.nd(h:Zaa cR cM H m rd sd L s nb li lo best):(ZG L).Nodup:=ZdR h.up
theorem Zaa.keep(h:Zaa cR cM H m rd sd L s nb li lo best)(k:∀b o,H b=some o→Fp m rd sd L b∨(∃xs,o=.tup xs)→H' b=some o):Zaa cR cM H' m rd sd L s nb li lo best:=by
 refine⟨?_,k _ _ h.rows (.inl (.inr (.inl rfl))),k _ _ h.stays (.inl (.inr (.inr (.inl rfl)))),fun e he t ht=>k _ _ (h.ats e he t ht) (.inr ⟨_,rfl⟩),fun e he=>?_,h.up,h.pd,h.few,h.sfew⟩
 ·obtain⟨dx,hd⟩:=h.ob
  exact⟨dx,k _ _ hd (.inl (.inl rfl))⟩
 ·have r:=h.each e he
  obtain⟨dx,hd⟩:=r.at'.ob
  exact⟨⟨⟨dx,k _ _ hd (.inl (.inr (.inr (.inr ⟨e,he,.inl rfl⟩))))⟩,k _ _ r.at'.ks (.inl (.inr (.inr (.inr ⟨e,he,.inr (.inl rfl)⟩)))),k _ _ r.at'.fs (.inl (.inr (.inr (.inr ⟨e,he,.inr (.inr rfl)⟩))))⟩,r.le,r.len,r.srt,r.str⟩
theorem Zaa.same(h:Zaa cR cM H m rd sd L s nb li lo best)(k:ZA H H'):Zaa cR cM H' m rd sd L s nb li lo best:=h.keep fun b o hb _=>k b o hb
theorem Zaa.ne_p(h:Zaa cR cM H m rd sd L s nb li lo best){e:ZI}(he:e∈L):m≠e.p∧m≠e.k∧m≠e.f:=by
 obtain⟨dx,hd⟩:=h.ob
 have r:=h.each e he
 obtain⟨dy,hy⟩:=r.at'.ob
 refine⟨fun z=>?_,fun z=>?_,fun z=>?_⟩
 ·rw[z,hy]at hd
  injection hd with hd
  injection hd with _ _ hd
  have a:=ZeT e.k e.f (e.g:Int)
  rw[hd,Zc7 _ _ _ _ _ _ (by ac_rfl) (by ac_rfl) (by ac_rfl) (by ac_rfl) (by ac_rfl) (by ac_rfl)]at a
  cases a
 ·rw[z,r.at'.ks]at hd;cases hd
 ·rw[z,r.at'.fs]at hd;cases hd
theorem Zaa.ne_m(h:Zaa cR cM H m rd sd L s nb li lo best):m≠rd∧m≠sd∧rd≠sd:=by
 obtain⟨dx,hd⟩:=h.ob
 refine⟨fun z=>?_,fun z=>?_,fun z=>?_⟩
 ·rw[z,h.rows]at hd;cases hd
 ·rw[z,h.stays]at hd;cases hd
 ·have:=h.rows;rw[z,h.stays]at this;cases this
theorem Zaa.ne_sd(h:Zaa cR cM H m rd sd L s nb li lo best){e:ZI}(he:e∈L):sd≠e.p∧sd≠e.k∧sd≠e.f∧rd≠e.p∧rd≠e.k∧rd≠e.f:=by
 have r:=h.each e he
 obtain⟨dy,hy⟩:=r.at'.ob
 have a:=h.stays
 have b:=h.rows
 refine⟨fun z=>?_,fun z=>?_,fun z=>?_,fun z=>?_,fun z=>?_,fun z=>?_⟩
 ·rw[z,hy]at a;cases a
 ·rw[z,r.at'.ks]at a;cases a
 ·rw[z,r.at'.fs]at a;cases a
 ·rw[z,hy]at b;cases b
 ·rw[z,r.at'.ks]at b;cases b
 ·rw[z,r.at'.fs]at b;cases b
theorem Zaa.obj(h:Zaa cR cM H m rd sd L s nb li lo best){nb' li' lo':Int}{best':V}{dx:Addr}:Zaa cR cM (upd H m (.ins cM dx (mgF rd nb' li' lo' sd best'))) m rd sd L s nb' li' lo' best':=by
 obtain⟨n1,n2,n3⟩:=h.ne_m
 obtain⟨dy,hd⟩:=h.ob
 refine⟨⟨dx,Zb⟩,by rw[Ze n1.symm];exact h.rows,by rw[Ze n2.symm];exact h.stays,fun e he t ht=>?_,fun e he=>?_,h.up,h.pd,h.few,h.sfew⟩
 ·have:=h.ats e he t ht
  rw[Ze (fun z=>by rw[z,hd]at this;cases this)];exact this
 ·obtain⟨a,b,c⟩:=h.ne_p he
  exact(h.each e he).keep (Ze a.symm) (Ze b.symm) (Ze c.symm)
theorem Zaa.put(h:Zaa cR cM H m rd sd L s nb li lo best){k:Int×Int}{v:Option (Addr×Int×Int)}(hv:∀t,v=some t→H t.1=some (.tup [.int t.2.1,.int t.2.2]))(hs:(ZcQ s k v).length≤100):Zaa cR cM (upd H sd (.dT (kvS (ZcQ s k v)))) m rd sd L (ZcQ s k v) nb li lo best:=by
 obtain⟨n1,n2,n3⟩:=h.ne_m
 obtain⟨dy,hd⟩:=h.ob
 have tup:∀a xs,H a=some (.tup xs)→(upd H sd (.dT (kvS (ZcQ s k v)))) a=some (.tup xs):=fun a xs ha=>by rw[Ze (fun z=>by rw[z,h.stays]at ha;cases ha)];exact ha
 refine⟨⟨dy,by rw[Ze n2];exact hd⟩,by rw[Ze n3];exact h.rows,Zb,(h.ats.put hv).mono tup,fun e he=>?_,h.up,h.pd,h.few,hs⟩
 obtain⟨a,b,c,_⟩:=h.ne_sd he
 exact(h.each e he).keep (Ze a.symm) (Ze b.symm) (Ze c.symm)
end
def Zjm(cR cM:Addr):Sp:=fun vs H Q _=>∃ (m rd sd:Addr) (L:List ZI) (s:StL) (nb li lo:Int) (best:V) (a b:ZI) (x y:Str) (far:Nat),vs=[.ref m,.int a.n,.int b.n,.int (far:Int)]∧Zaa cR cM H m rd sd L s nb li lo best∧a∈L∧b∈L∧a.ss[a.g]? = some x∧b.ss[b.g]? = some y∧far≤lcp (cds x) (cds y) ∧
 ∀ (t:Addr) (wi lz:Int) (H':Hp),(Btr (cds x) a.n (cds y) b.n∧wi=a.n∧lz=b.n∨¬ Btr (cds x) a.n (cds y) b.n∧wi=b.n∧lz=a.n)→H t=none→H' t=some (.tup [.int wi,.int lz,.int ((lcp (cds x) (cds y):Nat):Int)]) →
  Zaa cR cM H' m rd sd L s nb (li+1) (lo+((lcp (cds x) (cds y):Nat)-(far:Int)+1)) best→(∀b o,H b=some o→b≠m→H' b=some o)→Q (.ref t) H'
theorem Zes{ss:List Str}{g:Nat}{x:Str}(h:ss[g]? = some x):Zej ss g=.str x:=by unfold Zej;rw[h]
theorem Zb2(k f:Addr)(g:Int):(ZcX k f g).lookup ("head" : Str)=none:=ZkD _ _ _ (by ac_rfl) (by ac_rfl) (by ac_rfl)
theorem Zpr(T:Zao K mg cRow cMerge)(f_Row_head:Mf P w K mg base 2 cRow "head" ["self"] (ZfM cRow))(f_liken_from:Df P w K mg base 2 "liken_from" ["one", "other", "far"] Zdp):Mf P w K mg base 3 cMerge "meet" ["self", "one", "other", "far"] (Zjm cRow cMerge):=by
 refine T.t_Merge_meet.mf ZbU (fun vs H Q E h=>?_) (fun cdv f A outer s H vs Q E hr h=>?_)
 ·obtain⟨m,rd,sd,L,s,nb,li,lo,best,a,b,x,y,far,rfl,_⟩:=h
  rfl
 obtain⟨m,rd,sd,L,s,nb,li,lo,best,a,b,x,y,far,rfl,M,ha,hb,hx,hy,hf,q⟩:=h
 refine⟨_,#[Zf,#[ZaS,#[ZD,f_liken_from,hr,#[Za,#[Zdb,f_Row_head,T.cl_Row,hr,#[Zz,(ixG hr),#[Zae,‹0›],‹1›]],#[Za,#[Zdb,f_Row_head,T.cl_Row,hr,#[Zz,(ixG hr),#[Zae,‹0›],‹2›]],#[Za,‹3›,#[Zd]]]],(by rfl)],#[gT,K,3,#[Zw,#[ZB,4,ZbU.nd],#[Zw,#[ZB,5,ZbU.nd],#[Zw,#[ZB,6,ZbU.nd],(@ZaD _)]]]]],#[Zf,(@ZdW _ _ _ _ _ _ _ _ _ _ ‹0› #[Zi] ZhH),#[Zf,(@ZdW _ _ _ _ _ _ _ _ _ _ ‹0› ‹6› ZhH),#[Zf,#[Z9,(@PW.pt _ _ _ (@ZiV _ _ _ _ _ _ _ #[Zn,Zd4,‹4›,#[Zi],(Zs _)] (@Zgc _ _ _ _ (@PW.pt _ _ _ #[Ze8,#[Zn,Za7,‹4›,#[Zi],(Zs _)],(@Zey _ _ _ _ #[Zn,Zd4,‹1›,‹2›,(Zs _)])])))),#[Zj,#[Zp,#[ZH,#[Za,‹1›,#[Za,‹2›,#[Za,‹5›,#[Zd]]]]]]],#[ZF]],#[Zj,#[Zp,#[ZH,#[Za,‹2›,#[Za,‹1›,#[Za,‹5›,#[Zd]]]]]]]]]]],?_⟩
 obtain⟨dx,hm⟩:=M.ob
 have Ra:=M.each a ha
 have Rb:=M.each b hb
 obtain⟨da,hpa⟩:=Ra.at'.ob
 obtain⟨db,hpb⟩:=Rb.at'.ob
 have lx:=(Ra.str x (Qr hx)).1
 have ly:=(Rb.str y (Qr hy)).1
 refine⟨_,rfl,m,cMerge,dx,_,_,rfl,hm,T.cl_Merge,T.na_Merge_rows,Zb0 ..,_,rfl,rd,_,rfl,Zdo.k' (k:=.inl a.n) M.rows (ZfG M.nd ha),a.p,da,_,rfl,hpa,Zb2 ..,a.p,a.k,a.f,a.ss,a.g,rfl,Ra.at',?_⟩
 refine⟨_,rfl,m,cMerge,dx,_,_,rfl,hm,T.cl_Merge,T.na_Merge_rows,Zb0 ..,_,rfl,rd,_,rfl,Zdo.k' (k:=.inl b.n) M.rows (ZfG M.nd hb),b.p,db,_,rfl,hpb,Zb2 ..,b.p,b.k,b.f,b.ss,b.g,rfl,Rb.at',?_⟩
 rw[Zes hx,Zes hy]
 refine⟨_,rfl,x,y,far,rfl,lx,ly,hf,fun t ht=>?_⟩
 have s1:=Zg ht (.tup [.int (ZK (cds x) (cds y)),.int (lcp (cds x) (cds y):Nat),.int ((lcp (cds x) (cds y):Nat)-(far:Int)+1)])
 have ht1:(upd H t (.tup [.int (ZK (cds x) (cds y)),.int (lcp (cds x) (cds y):Nat),.int ((lcp (cds x) (cds y):Nat)-(far:Int)+1)])) t=some (.tup [.int (ZK (cds x) (cds y)),.int (lcp (cds x) (cds y):Nat),.int ((lcp (cds x) (cds y):Nat)-(far:Int)+1)]):=Zb
 generalize upd H t (.tup [.int (ZK (cds x) (cds y)),.int (lcp (cds x) (cds y):Nat),.int ((lcp (cds x) (cds y):Nat)-(far:Int)+1)])=H1 at s1 ht1 ⊢
 have M1:=M.same s1
 refine⟨t,_,rfl,SqT.of ht1,rfl,_,_,rfl,_,_,rfl,_,_,rfl,rfl,?_⟩
 have hm1:=s1 _ _ hm
 refine⟨_,rfl,m,cMerge,dx,_,_,rfl,hm1,T.cl_Merge,T.na_Merge_likened,Zfc ..,_,_,rfl,rfl,dx,_,hm1,Zcv ..,?_⟩
 rw[Zdk]
 have M2:=M1.obj (nb':=nb) (li':=li+1) (lo':=lo) (best':=best) (dx:=dx)
 have k2:∀b o,H b=some o→b≠m→(upd H1 m (.ins cMerge dx (mgF rd nb (li+1) lo sd best))) b=some o:=fun b o hb n=>by rw[Ze n];exact s1 b o hb
 have hm2:(upd H1 m (.ins cMerge dx (mgF rd nb (li+1) lo sd best))) m=some (.ins cMerge dx (mgF rd nb (li+1) lo sd best)):=Zb
 generalize upd H1 m (.ins cMerge dx (mgF rd nb (li+1) lo sd best))=H2 at M2 k2 hm2 ⊢
 refine⟨_,rfl,m,cMerge,dx,_,_,rfl,hm2,T.cl_Merge,T.na_Merge_looked,Zjt ..,_,rfl,_,_,rfl,rfl,dx,_,hm2,Zcv ..,?_⟩
 rw[ZfS]
 have M3:=M2.obj (nb':=nb) (li':=li+1) (lo':=lo+((lcp (cds x) (cds y):Nat)-(far:Int)+1)) (best':=best) (dx:=dx)
 have k3:∀b o,H b=some o→b≠m→(upd H2 m (.ins cMerge dx (mgF rd nb (li+1) (lo+((lcp (cds x) (cds y):Nat)-(far:Int)+1)) sd best))) b=some o:=fun b o hb n=>by rw[Ze n];exact k2 b o hb n
 generalize upd H2 m (.ins cMerge dx (mgF rd nb (li+1) (lo+((lcp (cds x) (cds y):Nat)-(far:Int)+1)) sd best))=H3 at M3 k3 ⊢
 have fin:∀wi lz:Int,(Btr (cds x) a.n (cds y) b.n∧wi=a.n∧lz=b.n∨¬ Btr (cds x) a.n (cds y) b.n∧wi=b.n∧lz=a.n)→∀t2,H3 t2=none→Q (.ref t2) (upd H3 t2 (.tup [.int wi,.int lz,.int ((lcp (cds x) (cds y):Nat):Int)])):=fun wi lz hw t2 ht2=>by
  have hfree:H t2=none:=by
   cases e:H t2 with
   | none=>rfl
   | some o =>
    by_cases z:t2=m
    ·obtain⟨dz,hz⟩:=M3.ob;rw[z,hz]at ht2;cases ht2
    ·rw[k3 t2 o e z]at ht2;cases ht2
  exact q t2 wi lz _ hw hfree Zb (M3.same (Zg ht2 _)) (fun b o hb n=>Zg ht2 _ _ _ (k3 b o hb n))
 have sz3:3≤sizeLine:=by decide
 refine⟨_,rfl,_,_,rfl,rfl,_,rfl,Za3 (fun d=>?_) (fun d=>?_)⟩
 ·have d':ZK (cds x) (cds y)<0:=of_decide_eq_true d
  exact ZeH ⟨_,rfl,_,rfl,_,rfl,sz3,fun t2 ht2=>fin _ _ (.inl ⟨.inl d',rfl,rfl⟩) t2 ht2⟩
 have d1:¬ ZK (cds x) (cds y)<0:=fun z=>d (decide_eq_true z)
 refine⟨_,rfl,rfl,_,rfl,Za3 (fun e=>?_) (fun e=>?_)⟩
 ·have e':ZK (cds x) (cds y)=0:=by have:=of_decide_eq_true e;injection this
  refine⟨_,rfl,_,rfl,_,_,rfl,rfl,_,rfl,Za3 (fun g=>?_) (fun g=>?_)⟩
  ·have g':a.n<b.n:=of_decide_eq_true g
   exact⟨_,rfl,_,rfl,_,rfl,sz3,fun t2 ht2=>fin _ _ (.inl ⟨.inr ⟨e',g'⟩,rfl,rfl⟩) t2 ht2⟩
  ·have g':¬ a.n<b.n:=fun z=>g (decide_eq_true z)
   exact⟨_,rfl,_,rfl,_,rfl,sz3,fun t2 ht2=>fin _ _ (.inr ⟨fun z=>by rcases z with z|z;exact d1 z;exact g' z.2,rfl,rfl⟩) t2 ht2⟩
 ·have e':ZK (cds x) (cds y)≠0:=fun z=>e (decide_eq_true (by rw[z]))
  exact Zcz ⟨_,rfl,_,rfl,_,rfl,sz3,fun t2 ht2=>fin _ _ (.inr ⟨fun z=>by rcases z with z|z;exact d1 z;exact e' z.1,rfl,rfl⟩) t2 ht2⟩
theorem Zaa.cast{cR cM:Addr}{H:Hp}{m rd sd:Addr}{L:List ZI}{s:StL}{nb li lo li' lo':Int}{best:V}(h:Zaa cR cM H m rd sd L s nb li lo best)(e1:li=li')(e2:lo=lo'):Zaa cR cM H m rd sd L s nb li' lo' best:=by subst e1;subst e2;exact h
theorem ZiF{N:List Int}(h:N≠[]):atI (N.map V.int) (-1)=some (.int (N.getLastD 0)):=by
 have e:N=N.dropLast++[N.getLast h]:=(List.dropLast_concat_getLast h).symm
 have:=ZnN (N.dropLast.map V.int) (V.int (N.getLast h))
 rw[Qau,QaU h]
 conv=>lhs;rw[e,Qf]
 exact this
theorem Zi1{N:List Int}(h:N≠[]):atI (N.map V.int) 0=some (.int (N.headD 0)):=by
 cases N with
 | nil=>exact absurd rfl h
 | cons a r=>exact Zaf (j:=0) rfl
theorem Zed(rd:Addr)(nb li lo:Int)(sd:Addr)(best:V):(mgF rd nb li lo sd best).lookup ("play" : Str)=none:=Zc7 _ _ _ _ _ _ (by ac_rfl) (by ac_rfl) (by ac_rfl) (by ac_rfl) (by ac_rfl) (by ac_rfl)
theorem Zf6(rd:Addr)(nb li lo:Int)(sd:Addr)(best:V):(mgF rd nb li lo sd best).lookup ("meet" : Str)=none:=Zc7 _ _ _ _ _ _ (by ac_rfl) (by ac_rfl) (by ac_rfl) (by ac_rfl) (by ac_rfl) (by ac_rfl)
def ZnW(K:PySem.W.Frag)(cR cM:Addr)(n:Nat):Sp:=fun vs H Q _=>∃ (m rd sd:Addr) (L:List ZI) (s:StL) (nb li lo:Int) (best:V) (l:Addr) (N:List Int),vs=[.ref m,.ref l]∧Zaa cR cM H m rd sd L s nb li lo best∧H l=some (.lst (N.map V.int))∧1≤N.length∧N.length≤60∧0<n∧N.length≤2 ^ (n-1)∧(∀x∈N,x∈ZG L)∧Zaq N∧(∀k,ZeD n N k→ZS s k=none)∧s.length+N.length≤100 ∧
 ∀ (w:Option Int) (s':StL) (k q:Int) (H':Hp),Win (hdM L) N w→ZeE (hdM L) s' n N→Zgp (hdM L) n N k q→(∀j,¬ ZeD n N j→ZS s' j=ZS s j)→s'.length+1≤s.length+N.length→Zaa cR cM H' m rd sd L s' nb (li+k) (lo+q) best→(∀b o,H b=some o→b≠m→b≠sd→H' b=some o)→Q (ZeO w) H'
theorem Zkh(T:Zao K mg cRow cMerge)(f_Row_head:Mf P w K mg base 2 cRow "head" ["self"] (ZfM cRow))(f_halves:Df P w K mg base 1 "halves" ["numbers"] (Zeq K true))(f_Merge_meet:Mf P w K mg base 3 cMerge "meet" ["self", "one", "other", "far"] (Zjm cRow cMerge)) :
  ∀n:Nat,Mf P w K mg base (n+4) cMerge "play" ["self", "numbers"] (ZnW K cRow cMerge n)
 | 0=>by
  refine T.t_Merge_play.mf Zab (fun vs H Q E h=>?_) (fun cdv f A outer s H vs Q E hr h=>?_)
  ·obtain⟨m,rd,sd,L,s,nb,li,lo,best,l,N,rfl,_⟩:=h
   rfl
  obtain⟨m,rd,sd,L,s,nb,li,lo,best,l,N,rfl,_,_,_,_,z,_⟩:=h
  exact absurd z (by lia)
 | n+1=>by
  have f_Merge_play:=Zkh T f_Row_head f_halves f_Merge_meet n
  refine T.t_Merge_play.mf Zab (fun vs H Q E h=>?_) (fun cdv f A outer s H vs Q E hr h=>?_)
  ·obtain⟨m,rd,sd,L,s,nb,li,lo,best,l,N,rfl,_⟩:=h
   rfl
  obtain⟨m,rd,sd,L,s,nb,li,lo',best,l,N,rfl,M,hl,h1,h60,_,hp2,hmem,hup,hfree,hsz,q⟩:=h
  rw[QaG]at hp2
  refine⟨_,#[Zf,#[Z9,#[Zn,Za7,#[Zk,(ZbC K),(by rfl),T.b.n_len,Qw,#[Za,‹1›,#[Zd]]],#[Zi],(Zs _)],#[Zj,#[Zp,#[Za1,#[Zn,ZcG,#[Zdb,f_Row_head,T.cl_Row,hr,#[Zz,(ixG hr),#[Zae,‹0›],#[Zz,(ixL K),‹1›,#[Zi]]]],#[Zav],(Zs _)],#[Zav],#[Zz,(ixL K),‹1›,#[Zi]]]]],#[ZF]],#[Zf,#[ZaS,#[ZD,f_halves,hr,#[Za,‹1›,#[Zd]],(by rfl)],#[gT,K,2,#[Zw,#[ZB,2,Zab.nd],#[Zw,#[ZB,3,Zab.nd],(@ZaD _)]]]],#[Zf,#[Zu,4,Zab.nd,(Or.inl rfl),#[Zfi,f_Merge_play,T.cl_Merge,hr,‹0›,#[Za,‹2›,#[Zd]]]],#[Zf,#[Zu,5,Zab.nd,(Or.inl rfl),#[Zfi,f_Merge_play,T.cl_Merge,hr,‹0›,#[Za,‹3›,#[Zd]]]],#[Zf,#[Z9,#[Zn,ZcG,‹4›,#[Zav],(Zs _)],#[Zj,#[Zp,‹5›]],#[ZF]],#[Zf,#[Z9,#[Zn,ZcG,‹5›,#[Zav],(Zs _)],#[Zj,#[Zp,‹4›]],#[ZF]],#[Zf,#[ZaS,#[Zfi,f_Merge_meet,T.cl_Merge,hr,‹0›,#[Za,‹4›,#[Za,‹5›,#[Za,#[Zi],#[Zd]]]]],#[gT,K,3,#[Zw,#[ZB,6,Zab.nd],#[Zw,#[ZB,7,Zab.nd],#[Zw,#[ZB,8,Zab.nd],(@ZaD _)]]]]],#[Zf,#[ZaS,#[ZH,#[Za,‹7›,#[Za,‹8›,#[Zd]]]],#[ZcF,#[Zae,‹0›],#[ZH,#[Za,#[Zz,(ixL K),‹1›,#[Zi]],#[Za,#[Zz,(ixL K),‹1›,(@Zhc _ _ _ _ _ _ Ze9 #[Zi])],#[Zd]]]],(Zm6 hr)]],#[Zj,#[Zp,‹6›]]]]]]]]]],?_⟩
  obtain⟨dx,hm⟩:=M.ob
  have hN:N≠[]:=Z8 h1
  have nml:l≠m:=fun z=>by rw[z,hm]at hl;cases hl
  have nsl:l≠sd:=fun z=>by rw[z,M.stays]at hl;cases hl
  have hll:(((N.map V.int).length:Nat):Int)=(N.length:Int):=by rw[Qa]
  refine⟨_,rfl,l,_,rfl,.inl (SqL.of hl),rfl,_,rfl,Za3 (fun d=>?_) (fun d=>?_)⟩
  ·have hone:N.length=1:=by have:=of_decide_eq_true d;injection this with this;rw[hll]at this;lia
   obtain⟨n0,rfl⟩:∃n0,N=[n0]:=QaH.mp hone
   obtain⟨e,he,rfl⟩:=Zdu (hmem n0 (by simp))
   have R:=M.each e he
   obtain⟨dp,hp⟩:=R.at'.ob
   have hat:atI (([e.n]:List Int).map V.int) 0=some (.int e.n):=Zaf (j:=0) rfl
   refine⟨_,rfl,m,cMerge,dx,_,_,rfl,hm,T.cl_Merge,T.na_Merge_rows,Zb0 ..,_,rfl,l,_,_,_,rfl,rfl,SqL.of hl,hat,rd,_,rfl,Zdo.k' (k:=.inl e.n) M.rows (ZfG M.nd he),e.p,dp,_,rfl,hp,Zb2 ..,e.p,e.k,e.f,e.ss,e.g,rfl,R.at',rfl,_,rfl,?_⟩
   have hst:ZeE (hdM L) s (n+1) [e.n]:=fun h2=>by simp at h2
   have hpl:Zgp (hdM L) (n+1) [e.n] 0 0:=.few (by show 1<2;decide)
   have hwin:=Win.sing (hd:=hdM L) (n:=e.n)
   have hd:=Zee M.nd he
   have M':=M.cast (li':=li+0) (lo':=lo'+0) (by lia) (by lia)
   cases hx:e.ss[e.g]? with
   | none =>
    rw[show Zej e.ss e.g=.non by unfold Zej;rw[hx]]
    rw[hd,hx]at hwin
    exact ZdA rfl (q none s 0 0 H hwin hst hpl (fun _ _=>rfl) (Qi _) M' (fun b o h _ _=>h))
   | some x =>
    rw[Zes hx]
    rw[hd,hx]at hwin
    exact Zco (fun z=>nomatch z) ⟨_,rfl,l,_,_,_,rfl,rfl,SqL.of hl,hat,q (some e.n) s 0 0 H hwin hst hpl (fun _ _=>rfl) (Qi _) M' (fun b o h _ _=>h)⟩
  have hge:2≤N.length:=by
   have:¬ ((N.length:Int)=1):=fun z=>d (decide_eq_true (by rw[hll,z]))
   lia
  have hn1:1≤n:=by
   cases n with
   | zero=>simp at hp2;lia
   | succ m=>lia
  have hpow:2 ^ n=2*2 ^ (n-1):=by
   obtain⟨m,rfl⟩:∃m,n=m+1:=⟨n-1,by lia⟩
   rw[Nat.pow_succ,QaG];lia
  have hlo:(lo N).length≤2 ^ (n-1)∧(lo N).length≤60:=by unfold lo mid;rw[QC];lia
  have hupl:(up N).length≤2 ^ (n-1)∧(up N).length≤60:=by unfold up mid;rw[QW];lia
  have hsum:(lo N).length+(up N).length=N.length:=by rw[← Qg,Zcq]
  have hmlo:∀x∈lo N,x∈ZG L:=fun x hx=>hmem x (Qac hx)
  have hmup:∀x∈up N,x∈ZG L:=fun x hx=>hmem x (Qay hx)
  refine⟨_,rfl,l,N,rfl,SqL.of hl,by lia,fun t f r H2 ht hf hr' nfr ht2 hf2 hr2 s2 ntf ntr=>?_⟩
  rw[if_pos rfl]at ht2
  rw[ZqS]at hf2
  rw[ZqR]at hr2
  refine⟨t,_,rfl,SqT.of ht2,rfl,_,_,rfl,_,_,rfl,rfl,?_⟩
  have M2:=M.same s2
  have hm2:=s2 _ _ hm
  have nfm:r≠m:=(Zc hm hr').symm
  have nfs:r≠sd:=(Zc M.stays hr').symm
  refine⟨_,rfl,m,dx,_,rfl,hm2,Zed ..,_,rfl,m,rd,sd,L,s,nb,li,lo',best,f,lo N,rfl,M2,hf2,(ZdO hge).2,hlo.2,hn1,hlo.1,hmlo,ZdZ hup,fun k hk=>hfree k ⟨hge,.inl hk⟩,by lia,fun w1 s1 k1 q1 H3 W1 S1 P1 o1 l1 M3 b3=>?_⟩
  have hr3:=b3 _ _ hr2 nfm nfs
  obtain⟨dx3,hm3⟩:=M3.ob
  refine⟨_,rfl,m,dx3,_,rfl,hm3,Zed ..,_,rfl,m,rd,sd,L,s1,nb,_,_,best,r,up N,rfl,M3,hr3,(Zef hge).2,hupl.2,hn1,hupl.1,hmup,ZdU hup,fun k hk=>?_,by lia,fun w2 s2' k2 q2 H4 W2 S2 P2 o2 l2 M4 b4=>?_⟩
  ·rw[o1 k ((Zid hup hge hk).2 n)]
   exact hfree k ⟨hge,.inr (.inl hk)⟩
  have key_n:¬ ZeD n (lo N) (ZP N)∧¬ ZeD n (up N) (ZP N):=⟨fun z=>(ZhV hup hge z).1 rfl,fun z=>(Zid hup hge z).1 rfl⟩
  have S1':ZeE (hdM L) s2' n (lo N):=S1.congr n _ (fun _ _=>rfl) (fun k hk=>o2 k ((ZhV hup hge hk).2 n))
  have hk2:ZS s2' (ZP N)=none:=by rw[o2 _ key_n.2,o1 _ key_n.1];exact hfree _ ⟨hge,.inr (.inr rfl)⟩
  have oth:∀j,¬ ZeD (n+1) N j→ZS s2' j=ZS s j:=fun j hj=>by
   rw[o2 j (fun z=>hj ⟨hge,.inr (.inl z)⟩),o1 j (fun z=>hj ⟨hge,.inl z⟩)]
  have b04:∀b o,H b=some o→b≠m→b≠sd→H4 b=some o:=fun b o hb n1 n2=>b4 b o (b3 b o (s2 b o hb) n1 n2) n1 n2
  have none':∀wn,Win (hdM L) N wn→(Win (hdM L) (lo N) none∨Win (hdM L) (up N) none)→Q (ZeO wn) H4:=fun wn hw hno=>by
   refine q wn s2' (k1+k2) (q1+q2) H4 hw (fun _=>⟨S1',S2,fun a b x y wa wb _ _=>?_,fun _=>.inl hk2⟩) (.none hge P1 P2 hno) oth (by lia) (M4.cast (by lia) (by lia)) b04
   rcases hno with z|z
   ·exact nomatch z.one wa
   ·exact nomatch z.one wb
  cases w1 with
  | none=>exact⟨_,rfl,rfl,_,rfl,ZdA rfl ⟨_,rfl,none' w2 (by have:=Win.right W1 W2;rwa [Zcq]at this) (.inl W1)⟩⟩
  | some a =>
  refine⟨_,rfl,rfl,_,rfl,Zco (fun z=>nomatch z) ?_⟩
  cases w2 with
  | none=>exact⟨_,rfl,rfl,_,rfl,ZdA rfl ⟨_,rfl,none' (some a) (by have:=Win.left W1 W2;rwa [Zcq]at this) (.inr W2)⟩⟩
  | some b =>
  refine⟨_,rfl,rfl,_,rfl,Zco (fun z=>nomatch z) ?_⟩
  obtain⟨ea,hea,ea'⟩:=Zdu (hmlo a W1.1)
  obtain⟨eb,heb,eb'⟩:=Zdu (hmup b W2.1)
  subst ea'
  subst eb'
  have hda:=Zee M.nd hea
  have hdb:=Zee M.nd heb
  cases hx:ea.ss[ea.g]? with
  | none=>obtain⟨_,z,hz,_⟩:=W1;rw[hda,hx]at hz;cases hz
  | some x =>
  cases hy:eb.ss[eb.g]? with
  | none=>obtain⟨_,z,hz,_⟩:=W2;rw[hdb,hy]at hz;cases hz
  | some y =>
  rw[hx]at hda
  rw[hy]at hdb
  obtain⟨dx4,hm4⟩:=M4.ob
  refine⟨_,rfl,m,dx4,_,rfl,hm4,Zf6 ..,_,rfl,_,rfl,m,rd,sd,L,s2',nb,_,_,best,ea,eb,x,y,0,rfl,M4,hea,heb,hx,hy,Qv _,fun t5 wi lz H5 hw ht5 ht5' M5 b5=>?_⟩
  refine⟨t5,_,rfl,SqT.of ht5',rfl,_,_,rfl,_,_,rfl,_,_,rfl,rfl,?_⟩
  have sz2:2≤sizeLine:=by decide
  refine⟨_,rfl,_,rfl,sz2,fun t6 ht6=>?_⟩
  have s6:=Zg ht6 (.tup [.int lz,.int ((lcp (cds x) (cds y):Nat):Int)])
  have ht66:(upd H5 t6 (.tup [.int lz,.int ((lcp (cds x) (cds y):Nat):Int)])) t6=some (.tup [.int lz,.int ((lcp (cds x) (cds y):Nat):Int)]):=Zb
  have M6:=M5.same s6
  generalize upd H5 t6 (.tup [.int lz,.int ((lcp (cds x) (cds y):Nat):Int)])=H6 at s6 ht66 M6 ⊢
  obtain⟨dx6,hm6⟩:=M6.ob
  have hl6:H6 l=some (.lst (N.map V.int)):=s6 _ _ (b5 _ _ (b04 _ _ hl nml nsl) nml)
  refine⟨_,rfl,m,cMerge,dx6,_,_,rfl,hm6,T.cl_Merge,T.na_Merge_stays,ZcV ..,_,rfl,l,_,_,_,rfl,rfl,SqL.of hl6,Zi1 hN,_,rfl,_,rfl,l,_,_,_,rfl,rfl,SqL.of hl6,ZiF hN,sz2,fun t7 ht7=>?_⟩
  have s7:=Zg ht7 (.tup [.int (N.headD 0),.int (N.getLastD 0)])
  have ht77:(upd H6 t7 (.tup [.int (N.headD 0),.int (N.getLastD 0)])) t7=some (.tup ([.inl (ZP N).1,.inl (ZP N).2].map kV)):=Zb
  have M7:=M6.same s7
  generalize upd H6 t7 (.tup [.int (N.headD 0),.int (N.getLastD 0)])=H7 at s7 ht77 M7 ⊢
  have hsl:(kvS s2').length<sizeLine:=by unfold kvS;rw[Qa];exact Zx (by lia)
  refine⟨sd,_,rfl,Zgd.t (k:=[.inl (ZP N).1,.inl (ZP N).2]) M7.stays ht77 hsl,?_⟩
  rw[show V.ref t6=stV (some (t6,lz,((lcp (cds x) (cds y):Nat):Int))) from rfl,Zft]
  have hpl:=Zni s2' (ZP N) (some (t6,lz,((lcp (cds x) (cds y):Nat):Int)))
  have l1':=(ZdO hge).2
  have M8:=M7.put (k:=ZP N) (v:=some (t6,lz,((lcp (cds x) (cds y):Nat):Int))) (fun t ht=>by injection ht with ht;rw[← ht];exact s7 _ _ ht66) (by lia)
  have hne:ea.n≠eb.n:=fun z=>by have:=ZM hup W1.1 W2.1;lia
  have b08:∀b o,H b=some o→b≠m→b≠sd→(upd H7 sd (.dT (kvS (ZcQ s2' (ZP N) (some (t6,lz,((lcp (cds x) (cds y):Nat):Int))))))) b=some o:=fun b o hb n1 n2=>by
   rw[Ze n2];exact s7 _ _ (s6 _ _ (b5 _ _ (b04 _ _ hb n1 n2) n1))
  have hwin:Win (hdM L) N (some wi):=by
   rcases hw with⟨w0,rfl,_⟩|⟨w0,rfl,_⟩
   ·have:=Win.both W1 W2 hda hdb w0;rwa [Zcq]at this
   ·have:=Win.both' W1 W2 hda hdb ((Btr.total hne).resolve_left w0);rwa [Zcq]at this
  have hlz:lz=if ZK (cds x) (cds y)<0∨(ZK (cds x) (cds y)=0∧ea.n<eb.n) then eb.n else ea.n:=by
   rcases hw with⟨w0,_,rfl⟩|⟨w0,_,rfl⟩
   ·exact(if_pos (show ZK (cds x) (cds y)<0∨(ZK (cds x) (cds y)=0∧ea.n<eb.n) from w0)).symm
   ·exact(if_neg (show ¬ (ZK (cds x) (cds y)<0∨(ZK (cds x) (cds y)=0∧ea.n<eb.n)) from w0)).symm
  refine⟨_,rfl,q (some wi) _ (k1+k2+1) (q1+q2+(lcp (cds x) (cds y):Nat)+1) _ hwin (fun _=>⟨?_,?_,?_,fun hno=>?_⟩) (.both hge P1 P2 W1 W2 hda hdb) (fun j hj=>?_) (by lia) (M8.cast (by lia) (by lia)) b08⟩
  ·exact S1'.congr n _ (fun _ _=>rfl) (fun k hk=>by rw[Za6,if_neg (ZhV hup hge hk).1])
  ·exact S2.congr n _ (fun _ _=>rfl) (fun k hk=>by rw[Za6,if_neg (Zid hup hge hk).1])
  ·intro a' b' x' y' wa wb hxa hyb
   have e1:=Qq (wa.one W1)
   have e2:=Qq (wb.one W2)
   subst e1
   subst e2
   have e3:=Qq (hxa.symm.trans hda)
   have e4:=Qq (hyb.symm.trans hdb)
   subst e3
   subst e4
   exact⟨t6,by rw[Za6,if_pos rfl,hlz]⟩
  ·rcases hno with z|z
   ·exact nomatch z.one W1
   ·exact nomatch z.one W2
  ·rw[Za6,if_neg (fun z=>hj ⟨hge,.inr (.inr z)⟩)]
   exact oth j hj
theorem Zev.mono{C:Addr}{H H':Hp}{e:ZI}(h:Zev C H e)(k:∀b o,H b=some o→b=e.p∨b=e.k∨b=e.f→H' b=some o):Zev C H' e:=by
 obtain⟨dx,hd⟩:=h.at'.ob
 exact⟨⟨⟨dx,k _ _ hd (.inl rfl)⟩,k _ _ h.at'.ks (.inr (.inl rfl)),k _ _ h.at'.fs (.inr (.inr rfl))⟩,h.le,h.len,h.srt,h.str⟩
theorem ZmT(L:List ZI):(kvM L).map (fun kv=>kV kv.1)=(ZG L).map V.int:=by unfold kvM ZG;rw[QE,QE];rfl
theorem ZmS{n:Nat}{N:List Int}{k:Int×Int}(_:ZeD n N k):ZS [] k=none:=rfl
def Zhh(cR cM:Addr):Sp:=fun vs H Q _=>∃ (m rd sd:Addr) (L:List ZI) (s:StL) (nb li lo:Int) (best:V),vs=[.ref m]∧Zaa cR cM H m rd sd L s nb li lo best ∧
 ∀ (sd':Addr) (s':StL) (w:Option Int) (k q:Int) (H':Hp),H sd'=none→Win (hdM L) (ZG L) w→ZeE (hdM L) s' 8 (ZG L)→Zgp (hdM L) 8 (ZG L) k q→Zaa cR cM H' m rd sd' L s' nb (li+k) (lo+q) (ZeO w)→(∀b o,H b=some o→b≠m→H' b=some o)→Q .non H'
theorem Zjb(T:Zao K mg cRow cMerge)(f_Merge_play:Mf P w K mg base 12 cMerge "play" ["self", "numbers"] (ZnW K cRow cMerge 8)):Mf P w K mg base 13 cMerge "play_all" ["self"] (Zhh cRow cMerge):=by
 refine T.t_Merge_play_all.mf ZeA (fun vs H Q E h=>?_) (fun cdv f A outer s H vs Q E hr h=>?_)
 ·obtain⟨m,rd,sd,L,s,nb,li,lo,best,rfl,_⟩:=h
  rfl
 obtain⟨m,rd,sd,L,s,nb,li,lo',best,rfl,M,q⟩:=h
 refine⟨_,#[Zf,#[Zb6,‹0›,(@Zfx _ _)],#[Zj,#[Zb6,‹0›,#[Za1,#[Zn,ZfF,#[Zk,ZsG,(by rfl),T.b.n_len,Qw,#[Za,#[Zae,‹0›],#[Zd]]],#[Zi],(Zs _)],#[Zfi,f_Merge_play,T.cl_Merge,hr,‹0›,#[Za,#[Za5,Zr0,T.b.n_list,boot_list,#[Za,#[Zae,‹0›],#[Zd]]],#[Zd]]],#[Zav]]]]],?_⟩
 refine fun sd' hsd=>?_
 obtain⟨dx,hm⟩:=M.ob
 have s1:=Zg hsd (.dT [])
 have hs1:(upd H sd' (.dT [])) sd'=some (.dT (kvS [])):=Zb
 have M1:=M.same s1
 have hm1:=s1 _ _ hm
 have nms:m≠sd':=Zc hm hsd
 have nrs:rd≠sd':=Zc M.rows hsd
 generalize upd H sd' (.dT [])=H1 at s1 hs1 M1 hm1 ⊢
 refine⟨_,rfl,m,cMerge,dx,_,rfl,hm1,T.cl_Merge,T.na_Merge_stays,Zcv ..,?_⟩
 rw[ZgE]
 obtain⟨n1,n2,n3⟩:=M.ne_m
 have M2:Zaa cRow cMerge (upd H1 m (.ins cMerge dx (mgF rd nb li lo' sd' best))) m rd sd' L [] nb li lo' best:=by
  refine⟨⟨dx,Zb⟩,by rw[Ze n1.symm];exact M1.rows,by rw[Ze nms.symm];exact hs1,(fun e he=>by cases he),fun e he=>?_,M.up,M.pd,M.few,by decide⟩
  obtain⟨a,b,c⟩:=M1.ne_p he
  exact(M1.each e he).keep (Ze a.symm) (Ze b.symm) (Ze c.symm)
 have k2:∀b o,H b=some o→b≠m→(upd H1 m (.ins cMerge dx (mgF rd nb li lo' sd' best))) b=some o:=fun b o hb n=>by rw[Ze n];exact s1 b o hb
 generalize upd H1 m (.ins cMerge dx (mgF rd nb li lo' sd' best))=H2 at M2 k2 ⊢
 obtain⟨dx2,hm2⟩:=M2.ob
 have hlen:(((kvM L).length:Nat):Int)=(L.length:Int):=by unfold kvM;rw[Qa]
 have hnl:(ZG L).length=L.length:=by unfold ZG;rw[Qa]
 have hfew:=M.few
 refine⟨_,rfl,m,cMerge,dx2,_,_,rfl,hm2,T.cl_Merge,T.na_Merge_rows,Zb0 ..,rd,_,rfl,M2.rows,_,_,rfl,rfl,_,rfl,Za3 (fun d=>?_) (fun d=>?_)⟩
 ·have hpos:0<L.length:=by have:(0:Int)<(((kvM L).length:Nat):Int):=of_decide_eq_true d;lia
  refine⟨_,rfl,m,dx2,_,rfl,hm2,Zed ..,_,rfl,m,cMerge,dx2,_,_,rfl,hm2,T.cl_Merge,T.na_Merge_rows,Zb0 ..,rd,_,rfl,M2.rows,fun l hl=>?_⟩
  rw[ZmT]
  have s3:=Zg hl (.lst ((ZG L).map V.int))
  have hl3:(upd H2 l (.lst ((ZG L).map V.int))) l=some (.lst ((ZG L).map V.int)):=Zb
  have M3:=M2.same s3
  generalize upd H2 l (.lst ((ZG L).map V.int))=H3 at s3 hl3 M3 ⊢
  refine⟨m,rd,sd',L,[],nb,li,lo',best,l,ZG L,rfl,M3,hl3,by lia,by lia,by decide,QP (by lia:(ZG L).length≤60) (by decide),fun x hx=>hx,M.up,fun k hk=>ZmS hk,by show 0+_≤_;lia,fun w1 s' k q' H4 W S Pl _ _ M4 b4=>?_⟩
  obtain⟨dx4,hm4⟩:=M4.ob
  refine⟨_,rfl,m,cMerge,dx4,_,rfl,hm4,T.cl_Merge,T.na_Merge_best,Zcv ..,?_⟩
  rw[Zb8]
  exact q sd' s' w1 k q' _ hsd W S Pl M4.obj (fun b o hb n=>by rw[Ze n];exact b4 b o (s3 b o (k2 b o hb n)) n (Zc hb hsd))
 ·have hnil:L=[]:=by
   cases L with
   | nil=>rfl
   | cons e r=>exact absurd (decide_eq_true (show (0:Int)<(((kvM (e::r)).length:Nat):Int) by rw[hlen];simp only[List.length_cons];lia)) d
  subst hnil
  refine⟨_,rfl,m,cMerge,dx2,_,rfl,hm2,T.cl_Merge,T.na_Merge_best,Zcv ..,?_⟩
  rw[Zb8]
  exact q sd' [] none 0 0 _ hsd (Win.nil _) (fun h2=>absurd h2 (by decide)) (.few (by decide)) (M2.obj.cast (by lia) (by lia)) (fun b o hb n=>by rw[Ze n];exact k2 b o hb n)
def ZqI(L:List ZI)(rs:List (Addr×List Str)):Prop:=ZG L=Zaj 0 rs.length∧L.map (fun e=>(e.ss,e.g))=rs.map fun x=>(x.2,0)
def Zfe(cR cM:Addr):Sp:=fun vs H Q _=>∃ (m dx r:Addr) (rs:List (Addr×List Str)),vs=[.ref m,.ref r]∧H m=some (.ins cM dx [])∧Zeg H r rs∧(∀x∈rs,sortedS x.2=true) ∧
 ∀ (rd sd:Addr) (L:List ZI) (s:StL) (w:Option Int) (k q:Int) (H':Hp),Zaa cR cM H' m rd sd L s (rs.length:Int) k q (ZeO w)→ZqI L rs→Win (hdM L) (ZG L) w→ZeE (hdM L) s 8 (ZG L)→Zgp (hdM L) 8 (ZG L) k q→(∀b,Fp m rd sd L b→b=m∨H b=none)→(∀b o,H b=some o→b≠m→H' b=some o)→Q .non H'
theorem ZfQ(rd:Addr)(nb li lo:Int)(sd:Addr)(best:V):(mgF rd nb li lo sd best).lookup ("play_all" : Str)=none:=Zc7 _ _ _ _ _ _ (by ac_rfl) (by ac_rfl) (by ac_rfl) (by ac_rfl) (by ac_rfl) (by ac_rfl)
theorem ZoN{ss:List Str}(h:sortedS ss=true):ZiL ss .non:=by
 refine .inl ⟨rfl,fun i x y hx hy=>?_⟩
 have:=ZgX h i y x hy hx
 have:=ZaP (cds y) (cds x)
 lia
theorem Zgy(T:Zao K mg cRow cMerge)(f_refuse_break:Df P w K mg base 5 "refuse_break" ["number", "keys"] (ZfR K))(f_Row_init:Cf P w K mg base 4 cRow "Row" ["self", "keys"] (Zhy cRow))(f_Merge_play_all:Mf P w K mg base 13 cMerge "play_all" ["self"] (Zhh cRow cMerge)):Cf P w K mg base 14 cMerge "Merge" ["self", "rows"] (Zfe cRow cMerge):=by
 refine T.t_Merge_init.cf ZcC (fun vs H Q E h=>?_) (fun cdv f A outer s H vs Q E hr h=>?_)
 ·obtain⟨m,dx,r,rs,rfl,_⟩:=h
  rfl
 obtain⟨m,dx,r,rs,rfl,hm,hrs,hsrt,q⟩:=h
 refine⟨_,#[Zf,#[Zb6,‹0›,(@ZnB _ _)],#[Zf,#[Zbu,PassesOwn.never,#[iE,K,T.b.n_enumerate,#[Za,‹1›,#[Zd]]],#[gT,K,2,#[Zw,#[ZB,2,ZcC.nd],#[Zw,#[ZB,3,ZcC.nd],(@ZaD _)]]],#[Zf,#[Zac,#[ZD,f_refuse_break,hr,#[Za,‹2›,#[Za,‹3›,#[Zd]]],(by rfl)]],#[Zj,#[ZaS,#[ZpJ,f_Row_init,hr,#[Za,‹3›,#[Zd]]],#[ZcF,#[Zae,‹0›],‹2›,(Zm6 hr)]]]]],#[Zf,#[Zb6,‹0›,#[Zk,(ZbC K),(by rfl),T.b.n_len,Qw,#[Za,‹1›,#[Zd]]]],#[Zf,#[Zb6,‹0›,#[Zi]],#[Zf,#[Zb6,‹0›,#[Zi]],#[Zf,#[Zb6,‹0›,(@Zfx _ _)],#[Zf,#[Zb6,‹0›,#[Zav]],#[Zj,#[Zac,#[Zdb,f_Merge_play_all,T.cl_Merge,hr,‹0›]]]]]]]]]],?_⟩
 refine fun rd hrd=>?_
 have nmr:m≠rd:=Zc hm hrd
 have s1:=Zg hrd (.dK [])
 have hr1:(upd H rd (.dK [])) rd=some (.dK (kvM [])):=Zb
 have hm1:=s1 _ _ hm
 generalize upd H rd (.dK [])=H1 at s1 hr1 hm1 ⊢
 refine⟨_,rfl,m,cMerge,dx,_,rfl,hm1,T.cl_Merge,T.na_Merge_rows,(by show 0<1000;decide),?_⟩
 have nrm:r≠m:=fun z=>by have:=hrs.at';rw[z,hm]at this;cases this
 have k2:∀b o,H b=some o→b≠m→(upd H1 m (.ins cMerge dx (Zq "rows" (.ref rd) []))) b=some o:=fun b o hb n=>by rw[Ze n];exact s1 b o hb
 have hm2:(upd H1 m (.ins cMerge dx (Zq "rows" (.ref rd) []))) m=some (.ins cMerge dx (Zq "rows" (.ref rd) [])):=Zb
 have hr2:(upd H1 m (.ins cMerge dx (Zq "rows" (.ref rd) []))) rd=some (.dK (kvM [])):=by rw[Ze nmr.symm];exact hr1
 generalize upd H1 m (.ins cMerge dx (Zq "rows" (.ref rd) []))=H2 at k2 hm2 hr2 ⊢
 have hfew:=hrs.few
 have lkr:(Zq "rows" (.ref rd) []).lookup ("rows" : Str)=some (V.ref rd):=by rw[Zl,if_pos rfl]
 refine⟨_,rfl,r,_,rfl,SqL.of (k2 _ _ hrs.at' nrm),?_⟩
 refine Zif (K:=K) (a:=r) (xs:=rs.map fun x=>V.ref x.1) (fun i σ H5=>∃ (L:List ZI) (v2 v3:Option V),σ=[some (.ref m),some (.ref r),v2,v3]∧H5 m=some (.ins cMerge dx (Zq "rows" (.ref rd) []))∧H5 rd=some (.dK (kvM L))∧(∀e∈L,Zev cRow H5 e)∧ZqI L (rs.take i)∧(L.map (·.p)).Nodup∧(∀e∈L,H e.p=none∧H e.k=none∧H e.f=none)∧(∀b o,H b=some o→b≠m→H5 b=some o)) ⟨[],_,_,rfl,hm2,hr2,(fun e h=>by cases h),⟨rfl,rfl⟩,List.nodup_nil,(fun e h=>by cases h),k2⟩ (fun i σ H5 hq=>by obtain⟨_,_,_,_,_,_,_,_,_,_,k5⟩:=hq;exact SqL.of (k5 _ _ hrs.at' nrm)) ?_ ?_
 ·rintro i y σ H5 p hy ⟨L,v2,v3,rfl,hm5,hr5,each,⟨n1,n2⟩,pd,hfr,k5⟩ hp
  rw[Qk]at hy
  cases hz:rs[i]? with
  | none=>rw[hz]at hy;cases hy
  | some x =>
  rw[hz]at hy
  cases hy
  have hil:i<rs.length:=(Qc.mp hz).1
  have hxm:=Qr hz
  obtain⟨lx,l100,laz⟩:=hrs.lst x hxm
  have nxm:x.1≠m:=fun z=>by rw[z,hm]at lx;cases lx
  have hLl:L.length=i:=by have:=congrArg List.length n1;unfold ZG at this;rw[Qa,ZaQ,QC]at this;lia
  have hlt:∀e∈L,e.n≠(i:Int):=fun e he z=>by
   have h1:e.n∈Zaj 0 (rs.take i).length:=by rw[← n1];exact Qn (f:=fun e:ZI=>e.n) he
   unfold Zaj at h1
   obtain⟨j,hj,ej⟩:=Qx.mp h1
   have:=Q1.mp hj
   rw[QC]at this
   lia
  have sp:=Zg hp (.tup [.int (i:Int),.ref x.1])
  have hp6:(upd H5 p (.tup [.int (i:Int),.ref x.1])) p=some (.tup [.int (i:Int),.ref x.1]):=Zb
  generalize upd H5 p (.tup [.int (i:Int),.ref x.1])=H6 at sp hp6 ⊢
  refine⟨p,_,rfl,SqT.of hp6,rfl,_,_,rfl,_,_,rfl,rfl,?_⟩
  have lx6:H6 x.1=some (.lst (x.2.map V.str)):=sp _ _ (k5 _ _ lx nxm)
  refine⟨_,rfl,_,rfl,(i:Int),x.1,x.2,rfl,SqL.of lx6,by lia,fun s hs=>(laz s hs).1,ZoN (hsrt x hxm),fun H7 s7=>?_⟩
  have s57:=sp.trans s7
  refine⟨_,rfl,fun u dy hu hdy ndu=>?_⟩
  have hu5:H5 u=none:=s57.free hu
  have lx8:(upd (upd H7 dy (.own u)) u (.ins cRow dy [])) x.1=some (.lst (x.2.map V.str)):=by
   have:=s7 _ _ lx6
   rw[Ze (Zc this hu),Ze (Zc this hdy)];exact this
  have s8:∀b o,H5 b=some o→(upd (upd H7 dy (.own u)) u (.ins cRow dy [])) b=some o:=fun b o hb=>by
   have:=s57 _ _ hb
   rw[Ze (Zc this hu),Ze (Zc this hdy)];exact this
  have hu8:(upd (upd H7 dy (.own u)) u (.ins cRow dy [])) u=some (.ins cRow dy []):=Zb
  generalize upd (upd H7 dy (.own u)) u (.ins cRow dy [])=H8 at lx8 s8 hu8 ⊢
  refine⟨u,dy,x.1,x.2,rfl,hu8,lx8,l100,fun s hs=>(laz s hs).1,fun k f H9 hk hf nkf R k9=>⟨rfl,?_⟩⟩
  have s9:∀b o,H5 b=some o→H9 b=some o:=fun b o hb=>k9 b o (s8 b o hb) (Zc hb hu5)
  have free5:∀b,H8 b=none→H5 b=none:=fun b hb=>by
   cases e:H5 b with
   | none=>rfl
   | some o=>rw[s8 b o e]at hb;cases hb
  have free0:∀b,b≠m→H5 b=none→H b=none:=fun b nb hb=>by
   cases e:H b with
   | none=>rfl
   | some o=>rw[k5 b o e nb]at hb;cases hb
  have num:u≠m:=fun z=>by rw[z,hm5]at hu5;cases hu5
  have nkm:k≠m:=fun z=>by have:=free5 k hk;rw[z,hm5]at this;cases this
  have nfm:f≠m:=fun z=>by have:=free5 f hf;rw[z,hm5]at this;cases this
  have nrd:rd≠u∧rd≠k∧rd≠f:=⟨Zc hr5 hu5,Zc hr5 (free5 k hk),Zc hr5 (free5 f hf)⟩
  have hsz:(kvM L).length<sizeLine:=by unfold kvM;rw[Qa];exact Zx (by lia)
  have hn1:ZcE (kvM L) (.inl (i:Int))=none:=by
   cases hv:ZcE (kvM L) (.inl (i:Int)) with
   | none=>rfl
   | some v=>obtain⟨e,he,z⟩:=Qx.mp (ZnF hv);injection z with z _;exact absurd (Sum.inl.inj z) (hlt e he)
  refine⟨_,rfl,m,cMerge,dx,_,_,rfl,s9 _ _ hm5,T.cl_Merge,T.na_Merge_rows,lkr,_,rfl,rd,_,rfl,Zgd.k (k:=.inl (i:Int)) (s9 _ _ hr5) hsz,?_⟩
  rw[Zoa _ hn1,show kvM L++[((.inl (i:Int):Key),V.ref u)]=kvM (L++[⟨(i:Int),u,k,f,x.2,0⟩]) by unfold kvM;rw[Qf];rfl]
  refine⟨L++[⟨(i:Int),u,k,f,x.2,0⟩],_,_,rfl,by rw[Ze nmr];exact s9 _ _ hm5,Zb,fun e he=>?_,⟨?_,?_⟩,?_,fun e he=>?_,fun b o hb n=>?_⟩
  ·rcases Qh.mp he with he|he
   ·have re:=each e he
    obtain⟨de,hde⟩:=re.at'.ob
    refine re.mono fun b o hb hor=>?_
    have nb:b≠rd:=fun z=>by
     rw[z,hr5]at hb
     injection hb with hb
     subst hb
     rcases hor with z2|z2|z2
     ·rw[← z2,z,hr5]at hde;cases hde
     ·have:=re.at'.ks;rw[← z2,z,hr5]at this;cases this
     ·have:=re.at'.fs;rw[← z2,z,hr5]at this;cases this
    rw[Ze nb];exact s9 b o hb
   ·rw[Qe.mp he]
    refine Zev.keep (H:=H9) ⟨R,Qv _,l100,hsrt x hxm,laz⟩ (Ze nrd.1.symm) (Ze nrd.2.1.symm) (Ze nrd.2.2.symm)
  ·unfold ZG at n1 ⊢
   rw[Qf,n1,QC,QC,Nat.min_eq_left (by lia),Nat.min_eq_left (by lia)]
   unfold Zaj
   rw[Qav,Qf]
   simp
  ·rw[Qf,n2,QM,hz,Qf];rfl
  ·rw[Qf]
   refine QY.mpr ⟨pd,by simp,fun a ha b hb=>?_⟩
   obtain⟨e,he,rfl⟩:=Qx.mp ha
   have:b=u:=by simpa using hb
   rw[this]
   obtain⟨de,hde⟩:=(each e he).at'.ob
   exact Zc hde hu5
  ·rcases Qh.mp he with he|he
   ·exact hfr e he
   ·rw[Qe.mp he]
    exact⟨free0 u num hu5,free0 k nkm (free5 k hk),free0 f nfm (free5 f hf)⟩
  ·rw[Ze (Zc hb hrd)];exact s9 b o (k5 b o hb n)
 ·rintro σ H5 ⟨L,v2,v3,rfl,hm5,hr5,each,hnew,pd,hfr,k5⟩
  rw[Qa,QB (Qi _)]at hnew
  have p1:=Zb1 "rows" (V.ref rd) []
  have p2:=Zb1 "next_number" (V.int (rs.length:Int)) (Zq "rows" (.ref rd) [])
  have p3:=Zb1 "likened" (V.int 0) (Zq "next_number" (.int (rs.length:Int)) (Zq "rows" (.ref rd) []))
  have p4:=Zb1 "looked" (V.int 0) (Zq "likened" (.int 0) (Zq "next_number" (.int (rs.length:Int)) (Zq "rows" (.ref rd) [])))
  have p0:([]:List (Str×V)).length=0:=rfl
  refine⟨_,rfl,r,_,rfl,.inl (SqL.of (k5 _ _ hrs.at' nrm)),_,rfl,m,cMerge,dx,_,rfl,hm5,T.cl_Merge,T.na_Merge_next_number,by lia,?_⟩
  rw[Qa]
  refine⟨_,rfl,m,cMerge,dx,_,rfl,Zb,T.cl_Merge,T.na_Merge_likened,by lia,?_⟩
  refine⟨_,rfl,m,cMerge,dx,_,rfl,Zb,T.cl_Merge,T.na_Merge_looked,by lia,?_⟩
  have k8:∀b,b≠m→(upd (upd (upd H5 m (.ins cMerge dx (Zq "next_number" (.int (rs.length:Int)) (Zq "rows" (.ref rd) [])))) m (.ins cMerge dx (Zq "likened" (.int 0) (Zq "next_number" (.int (rs.length:Int)) (Zq "rows" (.ref rd) []))))) m (.ins cMerge dx (Zq "looked" (.int 0) (Zq "likened" (.int 0) (Zq "next_number" (.int (rs.length:Int)) (Zq "rows" (.ref rd) [])))))) b=H5 b:=fun b n=>by rw[Ze n,Ze n,Ze n]
  have hm8:(upd (upd (upd H5 m (.ins cMerge dx (Zq "next_number" (.int (rs.length:Int)) (Zq "rows" (.ref rd) [])))) m (.ins cMerge dx (Zq "likened" (.int 0) (Zq "next_number" (.int (rs.length:Int)) (Zq "rows" (.ref rd) []))))) m (.ins cMerge dx (Zq "looked" (.int 0) (Zq "likened" (.int 0) (Zq "next_number" (.int (rs.length:Int)) (Zq "rows" (.ref rd) [])))))) m=some (.ins cMerge dx (Zq "looked" (.int 0) (Zq "likened" (.int 0) (Zq "next_number" (.int (rs.length:Int)) (Zq "rows" (.ref rd) []))))):=Zb
  generalize (upd (upd (upd H5 m (.ins cMerge dx (Zq "next_number" (.int (rs.length:Int)) (Zq "rows" (.ref rd) [])))) m (.ins cMerge dx (Zq "likened" (.int 0) (Zq "next_number" (.int (rs.length:Int)) (Zq "rows" (.ref rd) []))))) m (.ins cMerge dx (Zq "looked" (.int 0) (Zq "likened" (.int 0) (Zq "next_number" (.int (rs.length:Int)) (Zq "rows" (.ref rd) []))))))=H8 at k8 hm8 ⊢
  refine fun sd hsd=>?_
  have nms:m≠sd:=Zc hm8 hsd
  have p5:=Zb1 "stays" (V.ref sd) (Zq "looked" (.int 0) (Zq "likened" (.int 0) (Zq "next_number" (.int (rs.length:Int)) (Zq "rows" (.ref rd) []))))
  refine⟨_,rfl,m,cMerge,dx,_,rfl,by rw[Ze nms];exact hm8,T.cl_Merge,T.na_Merge_stays,by lia,?_⟩
  refine⟨_,rfl,m,cMerge,dx,_,rfl,Zb,T.cl_Merge,T.na_Merge_best,by lia,?_⟩
  have hsd5:H5 sd=none:=by rw[← k8 sd nms.symm];exact hsd
  have hm9:(upd (upd (upd H8 sd (.dT [])) m (.ins cMerge dx (Zq "stays" (.ref sd) (Zq "looked" (.int 0) (Zq "likened" (.int 0) (Zq "next_number" (.int (rs.length:Int)) (Zq "rows" (.ref rd) []))))))) m (.ins cMerge dx (Zq "best" .non (Zq "stays" (.ref sd) (Zq "looked" (.int 0) (Zq "likened" (.int 0) (Zq "next_number" (.int (rs.length:Int)) (Zq "rows" (.ref rd) [])))))))) m=some (.ins cMerge dx (mgF rd (rs.length:Int) 0 0 sd .non)):=by rw[ZbN];exact Zb
  have hs9:(upd (upd (upd H8 sd (.dT [])) m (.ins cMerge dx (Zq "stays" (.ref sd) (Zq "looked" (.int 0) (Zq "likened" (.int 0) (Zq "next_number" (.int (rs.length:Int)) (Zq "rows" (.ref rd) []))))))) m (.ins cMerge dx (Zq "best" .non (Zq "stays" (.ref sd) (Zq "looked" (.int 0) (Zq "likened" (.int 0) (Zq "next_number" (.int (rs.length:Int)) (Zq "rows" (.ref rd) [])))))))) sd=some (.dT (kvS [])):=by rw[Ze nms.symm,Ze nms.symm];exact Zb
  have k9:∀b o,H5 b=some o→b≠m→(upd (upd (upd H8 sd (.dT [])) m (.ins cMerge dx (Zq "stays" (.ref sd) (Zq "looked" (.int 0) (Zq "likened" (.int 0) (Zq "next_number" (.int (rs.length:Int)) (Zq "rows" (.ref rd) []))))))) m (.ins cMerge dx (Zq "best" .non (Zq "stays" (.ref sd) (Zq "looked" (.int 0) (Zq "likened" (.int 0) (Zq "next_number" (.int (rs.length:Int)) (Zq "rows" (.ref rd) [])))))))) b=some o:=fun b o hb n=>by rw[Ze n,Ze n,Ze (Zc hb hsd5),k8 b n];exact hb
  generalize (upd (upd (upd H8 sd (.dT [])) m (.ins cMerge dx (Zq "stays" (.ref sd) (Zq "looked" (.int 0) (Zq "likened" (.int 0) (Zq "next_number" (.int (rs.length:Int)) (Zq "rows" (.ref rd) []))))))) m (.ins cMerge dx (Zq "best" .non (Zq "stays" (.ref sd) (Zq "looked" (.int 0) (Zq "likened" (.int 0) (Zq "next_number" (.int (rs.length:Int)) (Zq "rows" (.ref rd) []))))))))=H9 at hm9 hs9 k9 ⊢
  have hLl:L.length=rs.length:=by have:=congrArg List.length hnew.1;unfold ZG at this;rw[Qa,ZaQ]at this;exact this
  have M9:Zaa cRow cMerge H9 m rd sd L [] (rs.length:Int) 0 0 .non:=by
   refine⟨⟨dx,hm9⟩,k9 _ _ hr5 nmr.symm,hs9,(fun e he=>by cases he),fun e he=>?_,by rw[hnew.1];exact ZfX _,pd,by lia,by decide⟩
   have re:=each e he
   obtain⟨de,hde⟩:=re.at'.ob
   refine re.mono fun b o hb hor=>k9 b o hb fun z=>?_
   have hf:=hfr e he
   have hm':=hm
   rw[← z]at hm'
   rcases hor with z2|z2|z2
   ·rw[z2,hf.1]at hm';cases hm'
   ·rw[z2,hf.2.1]at hm';cases hm'
   ·rw[z2,hf.2.2]at hm';cases hm'
  refine⟨_,rfl,m,dx,_,rfl,hm9,ZfQ ..,m,rd,sd,L,[],_,0,0,.non,rfl,M9,fun sd' s' w1 k q' H10 hsd' W S Pl M10 b10=>?_⟩
  have free0:∀b,b≠m→H9 b=none→H b=none:=fun b nb hb=>by
   cases e:H b with
   | none=>rfl
   | some o=>rw[k9 b o (k5 b o e nb) nb]at hb;cases hb
  refine q rd sd' L s' w1 k q' H10 (M10.cast (by lia) (by lia)) hnew W S Pl (fun b hb=>?_) (fun b o hb n=>b10 b o (k9 b o (k5 b o hb n) n) n)
  rcases hb with rfl|rfl|rfl|⟨e,he,hb⟩
  ·exact .inl rfl
  ·exact .inr hrd
  ·exact .inr (free0 _ (fun z=>by rw[z,hm9]at hsd';cases hsd') hsd')
  ·have hf:=hfr e he
   rcases hb with rfl|rfl|rfl
   ·exact .inr hf.1
   ·exact .inr hf.2.1
   ·exact .inr hf.2.2
def Zjg(cR cM:Addr):Sp:=fun vs H Q _=>∃ (m rd sd:Addr) (L:List ZI) (s:StL) (nb li lo:Int) (w:Option Int),vs=[.ref m]∧Zaa cR cM H m rd sd L s nb li lo (ZeO w)∧Win (hdM L) (ZG L) w∧∀ (x:V) (H':Hp),Zro (L.map toL) H' x→ZA H H'→Q x H'
theorem ZlH(T:Zao K mg cRow cMerge)(f_Row_head:Mf P w K mg base 2 cRow "head" ["self"] (ZfM cRow)):Mf P w K mg base 3 cMerge "coming" ["self"] (Zjg cRow cMerge):=by
 refine T.t_Merge_coming.mf Zdj (fun vs H Q E h=>?_) (fun cdv f A outer s H vs Q E hr h=>?_)
 ·obtain⟨m,rd,sd,L,s,nb,li,lo,w,rfl,_⟩:=h
  rfl
 obtain⟨m,rd,sd,L,s,nb,li,lo,w,rfl,M,W,q⟩:=h
 refine⟨_,#[Zf,#[Z9,#[Zn,ZcG,#[Zae,‹0›],#[Zav],(Zs _)],#[Zj,#[Zp,#[Zav]]],#[ZF]],#[Zf,#[Zu,1,Zdj.nd,(Or.inl rfl),#[Zz,(ixG hr),#[Zae,‹0›],#[Zae,‹0›]]],#[Zj,#[Zp,#[ZH,#[Za,#[Zae,‹0›],#[Za,#[Zae,‹1›],#[Za,#[Zdb,f_Row_head,T.cl_Row,hr,‹1›],#[Zd]]]]]]]]],?_⟩
 obtain⟨dx,hm⟩:=M.ob
 refine⟨_,rfl,m,cMerge,dx,_,_,rfl,hm,T.cl_Merge,T.na_Merge_best,Zds ..,rfl,_,rfl,?_⟩
 have W':Win (hdL (L.map toL)) ((L.map toL).map (·.1)) w:=by rw[Zez];exact W
 cases w with
 | none=>exact ZdA rfl (q _ H (.inl ⟨rfl,W'⟩) (ZA.refl H))
 | some a =>
  obtain⟨e,he,rfl⟩:=Zdu W.1
  have R:=M.each e he
  obtain⟨dp,hp⟩:=R.at'.ob
  have hd:=Zee M.nd he
  cases hx:e.ss[e.g]? with
  | none=>obtain⟨_,z,hz,_⟩:=W;rw[hd,hx]at hz;cases hz
  | some x =>
  refine Zco (fun z=>nomatch z) ?_
  refine⟨_,rfl,m,cMerge,dx,_,_,rfl,hm,T.cl_Merge,T.na_Merge_rows,Zb0 ..,_,rfl,m,cMerge,dx,_,_,rfl,hm,T.cl_Merge,T.na_Merge_best,Zds ..,rd,_,rfl,Zdo.k' (k:=.inl e.n) M.rows (ZfG M.nd he),?_⟩
  refine⟨_,rfl,m,cMerge,dx,_,_,rfl,hm,T.cl_Merge,T.na_Merge_best,Zds ..,_,rfl,e.p,cRow,dp,_,_,rfl,hp,T.cl_Row,T.na_Row_gone,ZcJ ..,_,rfl,e.p,dp,_,rfl,hp,Zb2 ..,e.p,e.k,e.f,e.ss,e.g,rfl,R.at',(by show 3≤sizeLine;decide),fun t ht=>?_⟩
  rw[Zes hx]
  exact q _ _ (.inr ⟨t,toL e,x,rfl,Qn he,hx,Zb,W'⟩) (Zg ht _)
theorem Znn(ss:List Str)(g:Nat):Zej ss g=oV ss[g]?:=by unfold Zej oV;cases ss[g]?<;>rfl
def Agr(Lo:List Zd1)(L:List ZI):Prop:=Lo.map (fun e=>(e.1,e.2.2))=L.map (fun e=>(e.n,(e.ss,e.g)))
theorem Zks:∀ (A B:List Zd1),A.map (fun e=>(e.1,e.2.2))=B.map (fun e=>(e.1,e.2.2))→hdL A=hdL B
 | [],[],_=>rfl
 | [],_::_,h=>by cases h
 | _::_,[],h=>by cases h
 | a::A,b::B,h=>by
  rw[Ql,Ql]at h
  injection h with h1 h2
  injection h1 with h3 h4
  have ih:=Zks A B h2
  funext n
  have ihn:=congrFun ih n
  unfold hdL at ihn ⊢
  rw[Qaw,Qaw,h3]
  split
  ·simp only[Option.bind_some];rw[h4]
  ·exact ihn
theorem Zc4{α β:Type}:∀ {P:List (α×β)},(P.map (·.1)).Nodup→∀ {p q:α×β},p∈P→q∈P→p.1=q.1→p=q
 | [],_,_,_,h,_,_=>by cases h
 | x::r,nd,p,q,hp,hq,e=>by
  rw[Ql,Q3]at nd
  rcases QO.mp hp with h1|h1
  ·rcases QO.mp hq with h2|h2
   ·rw[h1,h2]
   ·exact absurd (show x.1∈r.map (·.1) by rw[← h1,e];exact Qn (f:=fun x:α×β=>x.1) h2) nd.1
  ·rcases QO.mp hq with h2|h2
   ·exact absurd (show x.1∈r.map (·.1) by rw[← h2,← e];exact Qn (f:=fun x:α×β=>x.1) h1) nd.1
   ·exact Zc4 nd.2 h1 h2 e
structure F2 (R:V→V→Prop) (xs ys:List V):Prop where
 len:xs.length=ys.length
 at':∀ (i:Nat) (x y:V),xs[i]? = some x→ys[i]? = some y→R x y
theorem Zh7(rd:Addr)(nb li lo:Int)(sd:Addr)(best:V):(mgF rd nb li lo sd best).lookup ("coming" : Str)=none:=Zc7 _ _ _ _ _ _ (by ac_rfl) (by ac_rfl) (by ac_rfl) (by ac_rfl) (by ac_rfl) (by ac_rfl)
def Zam(M:List Int)(n:Int):List Int:=if n∈lo M then lo M else up M
def Zaw(M:List Int)(n:Int):List Int:=if n∈lo M then up M else lo M
def ZX:Nat→List Int→Int→List (List Int)
 | 0,_,_=>[]
 | k+1,M,n=>if 2≤M.length then ZX k (Zam M n) n++[M] else []
inductive Sub (N:List Int):List Int→Prop
 | top:Sub N N
 | lo {M:List Int}:Sub N M→2≤M.length→Sub N (lo M)
 | up {M:List Int}:Sub N M→2≤M.length→Sub N (up M)
theorem Sub.trans{A B C:List Int}(h:Sub A B)(k:Sub B C):Sub A C:=by
 induction k with
 | top=>exact h
 | lo _ h2 ih=>exact ih.lo h2
 | up _ h2 ih=>exact ih.up h2
theorem Sub.rise{N M:List Int}(h:Sub N M)(r:Zaq N):Zaq M:=by
 induction h with
 | top=>exact r
 | lo _ _ ih=>exact ZdZ ih
 | up _ _ ih=>exact ZdU ih
theorem Sub.mem{N M:List Int}(h:Sub N M){x:Int}(hx:x∈M):x∈N:=by
 induction h with
 | top=>exact hx
 | lo _ _ ih=>exact ih (Qac hx)
 | up _ _ ih=>exact ih (Qay hx)
theorem Zjj{M:List Int}(h:2≤M.length)(n:Int):Sub M (Zam M n):=by
 unfold Zam
 split
 ·exact Sub.top.lo h
 ·exact Sub.top.up h
theorem Zdv{M:List Int}{n:Int}(h:n∈M):n∈Zam M n:=by
 unfold Zam
 split
 ·assumption
 ·rename_i hn
  rw[← Zcq M]at h
  exact(Qh.mp h).resolve_left hn
theorem Zgb{M:List Int}(r:Zaq M){n:Int}(hn:n∈Zam M n):n ∉ Zaw M n:=by
 intro h
 unfold Zaw Zam at *
 split at h
 ·rename_i hl
  have:=ZM r hl h
  lia
 ·rename_i hl;exact hl h
theorem Ze6(M:List Int)(n:Int):(Zam M n++Zaw M n).Perm M:=by
 unfold Zam Zaw
 split
 ·rw[Zcq]
 ·exact List.perm_append_comm.trans (by rw[Zcq])
def Kys(M:List Int)(k:Int×Int):Prop:=∃M',Sub M M'∧2≤M'.length∧k=ZP M'
theorem ZhT{M:List Int}{k:Int×Int}(h:Kys M k):k.1∈M∧k.2∈M:=by
 obtain⟨M',s,h2,rfl⟩:=h
 have hn:M'≠[]:=Z8 (by lia)
 exact⟨s.mem (Zcb hn),s.mem (Zcd hn)⟩
theorem Znf{M:List Int}(r:Zaq M)(h2:2≤M.length){k:Int×Int}(h:Kys (lo M) k):k≠ZP M∧¬ Kys (up M) k:=by
 have:=ZhT h
 refine⟨fun z=>?_,fun m=>?_⟩
 ·have h1:=ZeJ h2
  rw[z,h1]at this
  have:=ZM r this.2 (Zcd (Z8 (Zef h2).2))
  lia
 ·have:=ZM r this.1 (ZhT m).1
  lia
theorem ZnO{M:List Int}(r:Zaq M)(h2:2≤M.length){k:Int×Int}(h:Kys (up M) k):k≠ZP M∧¬ Kys (lo M) k:=by
 have:=ZhT h
 refine⟨fun z=>?_,fun m=>?_⟩
 ·have h1:=ZeM h2
  rw[z,h1]at this
  have:=ZM r (Zcb (Z8 (ZdO h2).2)) this.1
  lia
 ·have:=ZM r (ZhT m).1 this.1
  lia
theorem ZiB{M:List Int}(r:Zaq M)(h2:2≤M.length){n:Int}{k:Int×Int}(h:Kys (Zam M n) k):k≠ZP M∧¬ Kys (Zaw M n) k:=by
 unfold Zam at h
 unfold Zaw
 split
 ·rename_i hl;rw[if_pos hl]at h;exact Znf r h2 h
 ·rename_i hl;rw[if_neg hl]at h;exact ZnO r h2 h
theorem Zim{M:List Int}(r:Zaq M)(h2:2≤M.length){n:Int}{k:Int×Int}(h:Kys (Zaw M n) k):k≠ZP M∧¬ Kys (Zam M n) k:=by
 unfold Zaw at h
 unfold Zam
 split
 ·rename_i hl;rw[if_pos hl]at h;exact ZnO r h2 h
 ·rename_i hl;rw[if_neg hl]at h;exact Znf r h2 h
theorem ZeF{M M':List Int}(h:Sub M M'):M'=M∨(2≤M.length∧(Sub (lo M) M'∨Sub (up M) M')):=by
 induction h with
 | top=>exact .inl rfl
 | lo h h2 ih =>
  rcases ih with rfl|⟨g,ih⟩
  ·exact .inr ⟨h2,.inl .top⟩
  ·exact .inr ⟨g,ih.imp (fun z=>z.lo h2) (fun z=>z.lo h2)⟩
 | up h h2 ih =>
  rcases ih with rfl|⟨g,ih⟩
  ·exact .inr ⟨h2,.inr .top⟩
  ·exact .inr ⟨g,ih.imp (fun z=>z.up h2) (fun z=>z.up h2)⟩
theorem ZmB{M M':List Int}(n:Int)(h:Sub M M'):M'=M∨(2≤M.length∧(Sub (Zam M n) M'∨Sub (Zaw M n) M')):=by
 rcases ZeF h with h|⟨g,h⟩
 ·exact .inl h
 ·refine .inr ⟨g,?_⟩
  unfold Zam Zaw
  split
  ·exact h
  ·exact h.symm
def Zd6(hd:Hd)(s:StL)(A B:List Int)(k:Int×Int):Prop :=
 (∀a b x y,Win hd A (some a)→Win hd B (some b)→hd a=some x→hd b=some y→∃t lz,ZS s k=some (some (t,lz,((lcp x y:Nat):Int)))∧((Btr x a y b∧lz=b)∨(Btr y b x a∧lz=a))) ∧
 ((Win hd A none∨Win hd B none)→ZS s k=none∨ZS s k=some none)
theorem Zd6.swap{hd:Hd}{s:StL}{A B:List Int}{k:Int×Int}(h:Zd6 hd s A B k):Zd6 hd s B A k:=by
 refine⟨fun a b x y wa wb hx hy=>?_,fun hw=>h.2 hw.symm⟩
 obtain⟨t,lz,e,o⟩:=h.1 b a y x wb wa hy hx
 exact⟨t,lz,by rw[Zcr x y];exact e,o.symm⟩
def Z4(hd:Hd)(s:StL)(N:List Int):Prop:=∀M,Sub N M→2≤M.length→Zd6 hd s (lo M) (up M) (ZP M)
theorem Z4.sub{hd:Hd}{s:StL}{N M:List Int}(h:Z4 hd s N)(k:Sub N M):Z4 hd s M:=fun M' h' h2=>h M' (k.trans h') h2
theorem Z4.at_side{hd:Hd}{s:StL}{M:List Int}(h:Z4 hd s M)(h2:2≤M.length)(n:Int):Zd6 hd s (Zam M n) (Zaw M n) (ZP M):=by
 have:=h M .top h2
 unfold Zam Zaw
 split
 ·exact this
 ·exact this.swap
theorem Zf1:∀ (n:Nat) (hd:Hd) (s:StL) (N:List Int),Zaq N→N.length≤2 ^ (n-1)→0<n→ZeE hd s n N→Z4 hd s N
 | 0,_,_,_,_,_,h,_=>absurd h (by lia)
 | n+1,hd,s,N,r,hl,_,h=>fun M hM h2=>by
  rw[QaG]at hl
  rcases ZeF hM with rfl|⟨g,hM⟩
  ·obtain⟨_,_,c1,c2⟩:=h h2
   refine⟨fun a b x y wa wb hx hy=>?_,c2⟩
   obtain⟨t,e⟩:=c1 a b x y wa wb hx hy
   have hab:=ZM r wa.1 wb.1
   by_cases hb:ZK x y<0∨(ZK x y=0∧a<b)
   ·rw[if_pos hb]at e;exact⟨t,b,e,.inl ⟨hb,rfl⟩⟩
   ·rw[if_neg hb]at e;exact⟨t,a,e,.inr ⟨(Btr.total (show a≠b by lia)).resolve_left hb,rfl⟩⟩
  ·obtain⟨h1,h3,_⟩:=h g
   have hn:1≤n:=by
    cases n with
    | zero=>simp at hl;lia
    | succ m=>lia
   have hp:2 ^ n=2*2 ^ (n-1):=by
    obtain⟨m,rfl⟩:∃m,n=m+1:=⟨n-1,by lia⟩
    rw[Nat.pow_succ,QaG];lia
   rcases hM with hM|hM
   ·exact Zf1 n hd s (lo N) (ZdZ r) (by unfold lo mid;rw[QC];lia) hn h1 M hM h2
   ·exact Zf1 n hd s (up N) (ZdU r) (by unfold up mid;rw[QW];lia) hn h3 M hM h2
theorem Zd6.congr{hd hd':Hd}{s s':StL}{A B:List Int}{k:Int×Int}(h:Zd6 hd s A B k)(ha:∀m∈A,hd' m=hd m)(hb:∀m∈B,hd' m=hd m)(hk:ZS s' k=ZS s k):Zd6 hd' s' A B k:=by
 refine⟨fun a b x y wa wb hx hy=>?_,fun hw=>?_⟩
 ·rw[hk]
  exact h.1 a b x y (wa.congr fun m hm=>(ha m hm).symm) (wb.congr fun m hm=>(hb m hm).symm) (by rw[← ha a wa.1];exact hx) (by rw[← hb b wb.1];exact hy)
 ·rw[hk]
  exact h.2 (hw.imp (fun w=>w.congr fun m hm=>(ha m hm).symm) (fun w=>w.congr fun m hm=>(hb m hm).symm))
theorem Z4.congr{hd hd':Hd}{s s':StL}{M:List Int}(h:Z4 hd s M)(hh:∀m∈M,hd' m=hd m)(hk:∀k,Kys M k→ZS s' k=ZS s k):Z4 hd' s' M:=fun M' hM h2 =>
 (h M' hM h2).congr (fun m hm=>hh m (hM.mem (Qac hm))) (fun m hm=>hh m (hM.mem (Qay hm))) (hk _ ⟨M',hM,h2,rfl⟩)
theorem Zlp{hd:Hd}{s:StL}{M:List Int}{n:Int}(h1:Z4 hd s (Zam M n))(h3:Z4 hd s (Zaw M n))(h:Zd6 hd s (Zam M n) (Zaw M n) (ZP M)):Z4 hd s M:=fun M' hM h2=>by
 rcases ZmB n hM with rfl|⟨g,hM|hM⟩
 ·unfold Zam Zaw at h
  split at h
  ·exact h
  ·exact h.swap
 ·exact h1 M' hM h2
 ·exact h3 M' hM h2
def low(n:Int)(C:List (List Int)):Nat→List Int
 | 0=>[n]
 | i+1=>C.getD i []
theorem Zge:∀ (k:Nat) (M:List Int) (n:Int),n∈M→M.length≤2 ^ k→(∀i X,(ZX k M n)[i]? = some X→Sub M X∧2≤X.length∧n∈X∧Zam X n=low n (ZX k M n) i)∧low n (ZX k M n) (ZX k M n).length=M∧(ZX k M n).length≤k
 | 0,M,n,hn,hl=>by
  refine⟨fun i X h=>by unfold ZX at h;simp at h,?_,Qi _⟩
  have h1:M.length=1:=by
   have:=Q0 hn
   simp at hl;lia
  obtain⟨x,rfl⟩:=QaH.mp h1
  have:n=x:=by simpa using hn
  rw[this];rfl
 | k+1,M,n,hn,hl=>by
  unfold ZX
  by_cases h2:2≤M.length
  ·rw[if_pos h2]
   have hs:(Zam M n).length≤2 ^ k:=by
    rw[Nat.pow_succ]at hl
    unfold Zam
    split
    ·unfold lo mid;rw[QC];lia
    ·unfold up mid;rw[QW];lia
   obtain⟨a,b,c⟩:=Zge k (Zam M n) n (Zdv hn) hs
   refine⟨fun i X h=>?_,?_,by rw[Qg,Qj];lia⟩
   ·have lw:∀j,j≤(ZX k (Zam M n) n).length→low n (ZX k (Zam M n) n++[M]) j=low n (ZX k (Zam M n) n) j:=fun j hj=>by
     cases j with
     | zero=>rfl
     | succ j =>
      show (ZX k (Zam M n) n++[M]).getD j []=(ZX k (Zam M n) n).getD j []
      rw[Qm,Qm,QU (by lia)]
    by_cases hi:i<(ZX k (Zam M n) n).length
    ·rw[QU hi]at h
     obtain⟨g1,g2,g3,g4⟩:=a i X h
     exact⟨(Zjj h2 n).trans g1,g2,g3,by rw[lw i (by lia)];exact g4⟩
    ·have hi':i=(ZX k (Zam M n) n).length:=by
      have:=(Qc.mp h).1
      rw[Qg,Qj]at this
      lia
     subst hi'
     rw[QS (Qi _),Nat.sub_self]at h
     cases h
     exact⟨.top,h2,hn,by rw[lw _ (Qi _),b]⟩
   ·rw[Qg,Qj]
    show (ZX k (Zam M n) n++[M]).getD _ []=M
    rw[Qm,QS (Qi _),Nat.sub_self];rfl
  ·rw[if_neg h2]
   refine⟨fun i X h=>by simp at h,?_,Qv _⟩
   have h1:M.length=1:=by have:=Q0 hn;lia
   obtain⟨x,rfl⟩:=QaH.mp h1
   have:n=x:=by simpa using hn
   rw[this];rfl
structure Tk (hd hd':Hd) (N:List Int) (n:Int) (z:List Nat):Prop where
 win:Win hd N (some n)
 key:hd n=some z
 oth:∀b,b≠n→hd' b=hd b
 nxt:∀x,hd' n=some x→ZK z x≤0
 up:Zaq N
theorem Tk.ge{hd hd':Hd}{N:List Int}{n:Int}{z:List Nat}(h:Tk hd hd' N n z){b:Int}(hb:b∈N){y:List Nat}(hy:hd' b=some y):ZK z y≤0:=by
 by_cases e:b=n
 ·exact h.nxt y (by rw[← e];exact hy)
 ·obtain⟨_,x,hx,hw⟩:=h.win
  rw[h.key]at hx
  cases hx
  rw[h.oth b e]at hy
  rcases hw b hb y hy with z|z
  ·exact absurd z e
  ·rcases z with z|z<;>lia
inductive Ag (hd:Hd) (z:List Nat):List (List Int×List Int)→Int→Int→Prop
 | nil:Ag hd z [] 0 0
 | no {C:List (List Int×List Int)} {A B:List Int} {k q:Int}:Ag hd z C k q→(Win hd A none∨Win hd B none)→Ag hd z (C++[(A,B)]) k q
 | eq {C:List (List Int×List Int)} {A B:List Int} {k q:Int} {a b:Int} {x y:List Nat}:Ag hd z C k q→Win hd A (some a)→Win hd B (some b)→hd a=some x→hd b=some y→lcp x z=lcp y z→Ag hd z (C++[(A,B)]) (k+1) (q+((lcp x y:Nat)-(lcp x z:Nat)+1))
 | ne {C:List (List Int×List Int)} {A B:List Int} {k q:Int} {a b:Int} {x y:List Nat}:Ag hd z C k q→Win hd A (some a)→Win hd B (some b)→hd a=some x→hd b=some y→lcp x z≠lcp y z→Ag hd z (C++[(A,B)]) (k+1) q
theorem Zkj:∀ (x z y:List Nat),lcp z y<lcp x z→ZK x y=ZK z y
 | [],z,y,h=>by rw[lcp_nil']at h;lia
 | _::_,[],y,h=>by rw[ZdV]at h;lia
 | a::x,b::z,[],h=>by unfold ZK;rfl
 | a::x,b::z,c::y,h=>by
  unfold lcp at h
  by_cases e:a=b
  ·subst e
   rw[if_pos rfl]at h
   by_cases e2:a=c
   ·subst e2
    rw[if_pos rfl]at h
    unfold ZK
    rw[if_pos rfl,if_pos rfl]
    exact Zkj x z y (by lia)
   ·unfold ZK
    rw[if_neg e2,if_neg e2]
  ·rw[if_neg e]at h;lia
theorem Zox{x z y:List Nat}(h:lcp z y<lcp x z):lcp x y=lcp z y:=by
 have:=Ze5 x y z
 rw[Zcr y z]at this
 lia
theorem Zre{x z y:List Nat}(h:lcp x z=lcp y z):lcp x z≤lcp x y:=by
 have:=Ze5 x y z
 lia
theorem Zjd{x z y:List Nat}{a b:Int}(h:lcp y z<lcp x z)(hz:ZK z y≤0):Btr x a y b∧lcp x y=lcp y z:=by
 rw[Zcr y z]at h ⊢
 refine⟨.inl ?_,Zox h⟩
 rw[Zkj x z y h]
 rcases Int.lt_or_eq_of_le hz with g|g
 ·exact g
 ·have e:=Zc1 _ _ g
  subst e
  rw[Zi0]at h
  have:=(Zf3 x z).2
  lia
abbrev Com:=Option (Int×Int)
def ZiN(hd:Hd)(z:List Nat)(M:List Int)(c:Com):Prop:=Win hd M (c.map (·.1))∧∀p,c=some p→∃x,hd p.1=some x∧p.2=((lcp x z:Nat):Int)
theorem Zm7{hd hd':Hd}{N M:List Int}{n:Int}{z:List Nat}{s:StL}(T:Tk hd hd' N n z)(hM:Sub N M)(h2:2≤M.length)(hn:n∈M)(ok:Z4 hd s N) :
  (Win hd' (Zaw M n) none∧(ZS s (ZP M)=none∨ZS s (ZP M)=some none))∨∃t b y,Win hd' (Zaw M n) (some b)∧hd' b=some y∧b∈N∧ZS s (ZP M)=some (some (t,b,((lcp y z:Nat):Int))):=by
 have r:=hM.rise T.up
 have nd:=ZdR r
 have hno:=Zgb r (Zdv hn)
 have nS:=(ok.sub hM).at_side h2 n
 have hoN:∀b∈Zaw M n,b∈M:=fun b hb=>(Ze6 M n).mem_iff.mp (Qo _ hb)
 have hsN:∀b∈Zam M n,b∈M:=fun b hb=>(Ze6 M n).mem_iff.mp (Qp _ hb)
 have wS:Win hd (Zam M n) (some n):=by
  obtain⟨_,x,hx,hw⟩:=T.win
  exact⟨Zdv hn,x,hx,fun b hb y hy=>hw b (hM.mem (hsN b hb)) y hy⟩
 have cO:∀m∈Zaw M n,hd' m=hd m:=fun m hm=>T.oth m fun e=>hno (e ▸ hm)
 have ndO:(Zaw M n).Nodup:=by unfold Zaw;split;exact ZdR (ZdU r);exact ZdR (ZdZ r)
 obtain⟨w,hw⟩:=Win.ex hd (Zaw M n) ndO
 cases w with
 | none=>exact .inl ⟨hw.congr cO,nS.2 (.inr hw)⟩
 | some b =>
  obtain⟨y,hy⟩:∃y,hd b=some y:=by obtain⟨_,y,hy,_⟩:=hw;exact⟨y,hy⟩
  obtain⟨t,lz,e,o⟩:=nS.1 n b z y wS hw T.key hy
  have hbM:=hoN b hw.1
  have hbn:b≠n:=fun z=>hno (z ▸ hw.1)
  have hB:Btr z n y b:=by
   obtain⟨_,x,hx,hww⟩:=T.win
   rw[T.key]at hx;cases hx
   exact(hww b (hM.mem hbM) y hy).resolve_left hbn
  have el:lz=b:=by
   rcases o with⟨_,e⟩|⟨e,_⟩
   ·exact e
   ·exact(hB.asym e).elim
  subst el
  exact .inr ⟨t,lz,y,hw.congr cO,by rw[cO lz hw.1];exact hy,hM.mem hbM,by rw[Zcr y z];exact e⟩
theorem Zkd(ns:List Int):(Zd0 ns).length=(ns.length+1) / 2:=by unfold Zd0 mid;rw[QC];lia
theorem ZkV(ns:List Int):(ZgN ns).length=ns.length / 2:=by unfold ZgN mid;rw[QW];lia
def ZgF:Nat→List Int→Int→List (List Int)
 | 0,_,_=>[]
 | f+1,ns,n=>if ns.length≤1 then [] else if n∈Zd0 ns then ZgN ns::ZgF f (Zd0 ns) n else Zd0 ns::ZgF f (ZgN ns) n
def Zb7(ns:List Int)(n:Int):List Int:=if n∈Zd0 ns then Zd0 ns else ZgN ns
def Zc5(ns:List Int)(n:Int):List Int:=if n∈Zd0 ns then ZgN ns else Zd0 ns
theorem Zem{ns:List Int}{n:Int}(h:1<ns.length):(Zb7 ns n).length<ns.length:=by
 unfold Zb7
 split
 ·rw[Zkd];lia
 ·rw[ZkV];lia
theorem Znr{ns:List Int}{n:Int}(h:1<ns.length):0<(Zb7 ns n).length:=by
 unfold Zb7
 split
 ·rw[Zkd];lia
 ·rw[ZkV];lia
theorem ZeU{f:Nat}{ns:List Int}{n:Int}(h:1<ns.length):ZgF (f+1) ns n=Zc5 ns n::ZgF f (Zb7 ns n) n:=by
 conv=>lhs;unfold ZgF
 rw[if_neg (by lia)]
 unfold Zc5 Zb7
 split<;>rfl
theorem Zck{f:Nat}{ns:List Int}{n:Int}(h:ns.length≤1):ZgF f ns n=[]:=by
 cases f with
 | zero=>rfl
 | succ f=>unfold ZgF;rw[if_pos h]
theorem ZgY:∀ (f g:Nat) (ns:List Int) (n:Int),ns.length≤f+1→ns.length≤g+1→ZgF f ns n=ZgF g ns n
 | 0,g,ns,n,h,_=>by rw[Zck (by lia),Zck (by lia)]
 | f+1,0,ns,n,_,h=>by rw[Zck (by lia),Zck (by lia)]
 | f+1,g+1,ns,n,h1,h2=>by
  by_cases h:1<ns.length
  ·have:=Zem (n:=n) h
   rw[ZeU h,ZeU h,ZgY f g _ n (by lia) (by lia)]
  ·rw[Zck (by lia),Zck (by lia)]
def way(ns:List Int)(n:Int):List (List Int):=ZgF ns.length ns n
theorem Zio{ns:List Int}{n:Int}(h:1<ns.length):way ns n=Zc5 ns n::way (Zb7 ns n) n:=by
 unfold way
 cases e:ns.length with
 | zero=>lia
 | succ f =>
  have:=Zem (n:=n) h
  rw[ZeU h,ZgY f (Zb7 ns n).length _ n (by lia) (by lia)]
theorem Zib{ns:List Int}{n:Int}(h:ns.length≤1):way ns n=[]:=Zck h
theorem Zj8(n:Int):∀ns:List Int,inV (.int n) (ns.map V.int)=decide (n∈ns)
 | []=>rfl
 | m::r=>by
  have ih:=Zj8 n r
  unfold inV at ih ⊢
  rw[Ql,QaS,ih]
  by_cases h:m=n
  ·subst h;simp[eqV]
  ·have:(m == n)=false:=by simpa using h
   simp[eqV,this,List.mem_cons,Ne.symm h]
theorem Zg6:∀ns:List Int,(ns.map V.int).all Zer=true
 | []=>rfl
 | _::r=>by rw[Ql,List.all_cons,Zg6 r];rfl
def Rd(H:Hp):List Addr→List (List Int)→Prop
 | [],[]=>True
 | l::ls,d::ds=>H l=some (.lst (d.map V.int))∧Rd H ls ds
 | _,_=>False
theorem Rd.len{H:Hp}:∀ {ls:List Addr} {ds:List (List Int)},Rd H ls ds→ls.length=ds.length
 | [],[],_=>rfl
 | [],_::_,h=>h.elim
 | _::_,[],h=>h.elim
 | _::ls,_::ds,h=>by rw[QK,QK,Rd.len h.2]
theorem Rd.mono{H H':Hp}:∀ {ls:List Addr} {ds:List (List Int)},(∀l∈ls,∀o,H l=some o→H' l=some o)→Rd H ls ds→Rd H' ls ds
 | [],[],_,_=>trivial
 | [],_::_,_,h=>h.elim
 | _::_,[],_,h=>h.elim
 | l::ls,_::ds,k,h=>⟨k l (by simp) _ h.1,Rd.mono (fun x hx=>k x (Qy _ hx)) h.2⟩
theorem Rd.app{H:Hp}:∀ {ls:List Addr} {ds:List (List Int)} {ms:List Addr} {es:List (List Int)},Rd H ls ds→Rd H ms es→Rd H (ls++ms) (ds++es)
 | [],[],_,_,_,h=>h
 | [],_::_,_,_,h,_=>h.elim
 | _::_,[],_,_,h,_=>h.elim
 | _::ls,_::ds,_,_,h,g=>⟨h.1,Rd.app h.2 g⟩
theorem Rd.rev{H:Hp}:∀ {ls:List Addr} {ds:List (List Int)},Rd H ls ds→Rd H ls.reverse ds.reverse
 | [],[],h=>h
 | [],_::_,h=>h.elim
 | _::_,[],h=>h.elim
 | l::ls,d::ds,h=>by
  rw[QaK,QaK]
  exact Rd.app (Rd.rev h.2) ⟨h.1,trivial⟩
theorem Rd.at{H:Hp}:∀ {ls:List Addr} {ds:List (List Int)} {i:Nat} {l:Addr},Rd H ls ds→ls[i]? = some l→∃d,ds[i]? = some d∧H l=some (.lst (d.map V.int))
 | [],_,i,l,_,h=>by simp at h
 | _::_,[],_,_,h,_=>h.elim
 | l::ls,d::ds,0,x,h,e=>⟨d,rfl,by simp at e;subst e;exact h.1⟩
 | l::ls,d::ds,i+1,x,h,e=>by simpa using Rd.at (i:=i) h.2 (by simpa using e)
def Zml:Sp:=fun vs H Q _=>∃ (a:Addr) (ns:List Int) (n:Int),vs=[.ref a,.int n]∧H a=some (.lst (ns.map V.int))∧1≤ns.length∧ns.length≤100 ∧
 ∀ (r:Addr) (ls:List Addr) (H':Hp),H r=none→H' r=some (.lst (ls.map V.ref))→r ∉ ls→(∀l∈ls,H l=none)→Rd H' ls (way ns n).reverse→ZA H H'→Q (.ref r) H'
def Dn(H:Hp)(a o:Addr)(ns:List Int)(n:Int)(b:Addr)(cur:List Int)(ls:List Addr)(H2:Hp):Prop :=
 ∃done:List (List Int),H2 b=some (.lst (cur.map V.int))∧b≠o∧1≤cur.length∧cur.length≤100∧way ns n=done++way cur n∧Rd H2 ls done∧H2 o=some (.lst (ls.map V.ref))∧ZA H H2∧(∀l∈ls,H l=none)∧o ∉ ls∧ls.length+cur.length≤100
theorem Dn.step{H:Hp}{a o:Addr}{ns:List Int}{n:Int}{b:Addr}{cur:List Int}{ls:List Addr}{H2 H3:Hp}(D:Dn H a o ns n b cur ls H2)(hO:H o=none)(h1:1<cur.length)(s:ZA H2 H3){x y:Addr}(hx:H3 x=some (.lst ((Zb7 cur n).map V.int)))(hy:H3 y=some (.lst ((Zc5 cur n).map V.int)))(nx:H2 x=none)(ny:H2 y=none) :
  Dn H a o ns n x (Zb7 cur n) (ls++[y]) (upd H3 o (.lst (ls.map V.ref++[.ref y]))):=by
 obtain⟨done,d1,d2,d3,d4,d5,d6,d7,d8,d9,d10,d11⟩:=D
 have xo:x≠o:=(Zc d7 nx).symm
 have yo:y≠o:=(Zc d7 ny).symm
 have sl:=Zem (n:=n) h1
 have k:∀l,l≠o→∀u,H3 l=some u→(upd H3 o (.lst (ls.map V.ref++[.ref y]))) l=some u:=fun l hl u hu=>by rw[Ze hl];exact hu
 refine⟨done++[Zc5 cur n],k x xo _ hx,xo,Znr h1,by lia,by rw[d5,Zio h1,Qai];rfl,?_,?_,fun c u hu=>?_,?_,?_,?_⟩
 ·refine Rd.app (Rd.mono (fun l hl u hu=>k l (fun e=>d10 (e ▸ hl)) u (s _ _ hu)) d6) ⟨k y yo _ hy,trivial⟩
 ·rw[Zb,Qf];rfl
 ·rw[Ze (Zc hu hO)];exact s _ _ (d8 _ _ hu)
 ·intro l hl
  rcases Qh.mp hl with hl|hl
  ·exact d9 l hl
  ·rw[Qe.mp hl];exact d8.free ny
 ·intro hm
  rcases Qh.mp hm with hl|hl
  ·exact d10 hl
  ·exact yo (Qe.mp hl).symm
 ·rw[Qg,Qj];lia
theorem ZqF(T:Zao K mg cRow cMerge)(f_halves:Df P w K mg base 1 "halves" ["numbers"] (Zeq K true)):Df P w K mg base 2 "way_up" ["numbers", "n"] Zml:=by
 refine T.t_way_up.df ZbK (fun vs H Q E h=>?_) (fun cdv f A outer s H vs Q E hr h=>?_)
 ·obtain⟨a,ns,n,rfl,_⟩:=h
  rfl
 obtain⟨a,ns,n,rfl,hA,h1,h100,q⟩:=h
 refine⟨_,#[Zf,#[Zu,2,ZbK.nd,(Or.inl rfl),#[Zai,#[Zd]]],#[Zf,#[Zu,3,ZbK.nd,(Or.inl rfl),‹0›],#[Zf,(@ZcT _ _ _ _ _ _ PassesOwn.never #[Zn,ZfF,#[Zk,(ZbC K),(by rfl),T.b.n_len,Qw,#[Za,‹3›,#[Zd]]],#[Zi],(Zs _)] #[Zf,#[ZaS,#[ZD,f_halves,hr,#[Za,‹3›,#[Zd]],(by rfl)],#[gT,K,2,#[Zw,#[ZB,4,ZbK.nd],#[Zw,#[ZB,5,ZbK.nd],(@ZaD _)]]]],#[Zj,#[Z9,#[Zn,(inQ K),‹1›,‹4›,(by with_unfolding_all rfl)],#[Zf,#[Zac,#[ZbY,QD,QH,QI,Z7,‹2›,#[Za,‹5›,#[Zd]]]],#[Zj,#[Zu,3,ZbK.nd,(Or.inl rfl),‹4›]]],#[Zf,#[Zac,#[ZbY,QD,QH,QI,Z7,‹2›,#[Za,‹4›,#[Zd]]]],#[Zj,#[Zu,3,ZbK.nd,(Or.inl rfl),‹5›]]]]]]),#[Zf,#[Zac,(@Zmt _ _ _ _ _ _ _ _ _ QD PySem.F.slot_list_reverse PySem.F.type_list_reverse Zgu ‹2› (by rfl) (by rfl))],#[Zj,#[Zp,‹2›]]]]]],?_⟩
 refine⟨(by show 0≤sizeLine;decide),fun o hO=>?_⟩
 have nao:a≠o:=Zc hA hO
 refine⟨_,rfl,?_⟩
 refine⟨fun m σ H2=>∃ (b:Addr) (cur:List Int) (ls:List Addr) (v4 v5:Option V),σ=[some (.ref a),some (.int n),some (.ref o),some (.ref b),v4,v5]∧Dn H a o ns n b cur ls H2∧m=cur.length,⟨_,a,ns,[],none,none,rfl,⟨[],?_,nao,h1,h100,rfl,trivial,Zb,Zg hO _,(fun l hl=>by cases hl),(fun hm=>by cases hm),by simpa using h100⟩,rfl⟩,?_⟩
 ·rw[Ze nao];exact hA
 rintro m σ H2 ⟨b,cur,ls,v4,v5,rfl,D,rfl⟩
 obtain⟨done,d1,d2,d3,d4,d5,d6,d7,d8,d9,d10,d11⟩:=id D
 have hlc:(((cur.map V.int).length:Nat):Int)=(cur.length:Int):=by rw[Qa]
 refine⟨_,rfl,b,_,rfl,.inl (SqL.of d1),_,_,rfl,rfl,_,rfl,?_⟩
 refine Za3 (fun c1=>?_) (fun c1=>?_)
 ·have c1':(1:Int)<(((cur.map V.int).length:Nat):Int):=of_decide_eq_true c1
  have hc:1<cur.length:=by lia
  refine⟨_,fun σ' H' h=>h,?_⟩
  refine⟨_,rfl,b,cur,rfl,SqL.of d1,d4,fun t x y H3 ht hx hy nxy et ex ey s3 ntx nty=>?_⟩
  refine⟨t,_,rfl,SqT.of et,rfl,_,_,rfl,_,_,rfl,rfl,?_⟩
  have ho3:=s3 _ _ d7
  have hlt:(ls.map V.ref).length<sizeLine:=by rw[Qa];exact Zx (by lia)
  have sl:=Zem (n:=n) hc
  refine⟨_,rfl,_,rfl,x,_,rfl,.inl (SqL.of ex),rfl,Zg6 _,_,rfl,?_⟩
  show if inV (V.int n) ((Zd0 cur).map V.int)=true then _ else _
  rw[Zj8]
  refine Za3 (fun c2=>?_) (fun c2=>?_)
  ·have c2':n∈Zd0 cur:=of_decide_eq_true c2
   have e1:Zb7 cur n=Zd0 cur:=by unfold Zb7;rw[if_pos c2']
   have e2:Zc5 cur n=ZgN cur:=by unfold Zc5;rw[if_pos c2']
   refine⟨_,rfl,.inl ⟨rfl,_,SqL.of ho3⟩,_,rfl,o,_,_,rfl,rfl,ho3,hlt,_,rfl,_,?_,x,Zb7 cur n,ls++[y],_,_,rfl,D.step hO hc s3 (by rw[e1];exact ex) (by rw[e2];exact ey) hx hy,rfl⟩
   exact sl
  ·have c2':¬ n∈Zd0 cur:=fun z=>c2 (decide_eq_true z)
   have e1:Zb7 cur n=ZgN cur:=by unfold Zb7;rw[if_neg c2']
   have e2:Zc5 cur n=Zd0 cur:=by unfold Zc5;rw[if_neg c2']
   refine⟨_,rfl,.inl ⟨rfl,_,SqL.of ho3⟩,_,rfl,o,_,_,rfl,rfl,ho3,hlt,_,rfl,_,?_,y,Zb7 cur n,ls++[x],_,_,rfl,D.step hO hc s3 (by rw[e1];exact ey) (by rw[e2];exact ex) hy hx,rfl⟩
   exact sl
 ·have c1':¬ (1:Int)<(((cur.map V.int).length:Nat):Int):=fun z=>c1 (decide_eq_true z)
  have e:way ns n=done:=by rw[d5,Zib (by lia),QR]
  refine⟨_,rfl,.inl ⟨rfl,_,SqL.of d7⟩,o,_,rfl,rfl,d7,?_⟩
  refine⟨_,rfl,q o ls.reverse _ hO (by rw[Zb,List.map_reverse]) (fun hm=>d10 (Qa5.mp hm)) (fun l hl=>d9 l (Qa5.mp hl)) ?_ fun c u hu=>?_⟩
  ·rw[e]
   refine Rd.mono (fun l hl u hu=>?_) d6.rev
   rw[Ze (fun z=>by subst z;exact d10 (Qa5.mp hl))]
   exact hu
  ·rw[Ze (Zc hu hO)];exact d8 _ _ hu
theorem Zhp:∀ (k:Nat) (M:List Int) (n:Int),M.length≤2 ^ k→(way M n).reverse=(ZX k M n).map (fun X=>Zaw X n)
 | 0,M,n,h=>by
  rw[Zib (by simpa using h)];rfl
 | k+1,M,n,h=>by
  unfold ZX
  by_cases h2:2≤M.length
  ·rw[if_pos h2,Zio (by lia),QaK,Qf]
   have hs:(Zam M n).length≤2 ^ k:=by
    rw[Nat.pow_succ]at h
    unfold Zam
    split
    ·unfold lo mid;rw[QC];lia
    ·unfold up mid;rw[QW];lia
   have e:=Zhp k (Zam M n) n hs
   rw[← e];rfl
  ·rw[if_neg h2,Zib (by lia)];rfl
theorem Zob{M:List Int}(h:2≤M.length)(n:Int):Zaw M n≠[]:=by
 unfold Zaw
 split
 ·exact Z8 (Zef h).2
 ·exact Z8 (ZdO h).2
theorem ZjM{M:List Int}(r:Zaq M)(h:2≤M.length)(n:Int):ZP M=(if (Zaw M n).headD 0<(Zam M n).headD 0 then (Zaw M n).headD 0 else (Zam M n).headD 0,if (Zaw M n).getLastD 0>(Zam M n).getLastD 0 then (Zaw M n).getLastD 0 else (Zam M n).getLastD 0):=by
 have a:=ZeM h
 have b:=ZeJ h
 have l1:=Zcb (Z8 (ZdO h).2)
 have l2:=Zcd (Z8 (ZdO h).2)
 have u1:=Zcb (Z8 (Zef h).2)
 have u2:=Zcd (Z8 (Zef h).2)
 have c:=ZM r l1 u1
 have d:=ZM r l2 u2
 unfold Zam Zaw
 split<;>(refine Prod.ext ?_ ?_<;>dsimp only<;>first|lia|(split<;>lia))
theorem Rd.get{H:Hp}:∀ {ls:List Addr} {ds:List (List Int)},Rd H ls ds→∀ {i:Nat} {l:Addr} {d:List Int},ls[i]? = some l→ds[i]? = some d→H l=some (.lst (d.map V.int))
 | [],[],_,i,l,d,h,_=>by simp at h
 | l::ls,d::ds,⟨h1,h2⟩,0,a,b,e1,e2=>by simp at e1 e2;rw[← e1,← e2];exact h1
 | l::ls,d::ds,⟨h1,h2⟩,i+1,a,b,e1,e2=>Rd.get h2 (by simpa using e1) (by simpa using e2)
def Zg9:Sp:=fun vs H Q _=>∃ (a:Addr) (N:List Int) (n:Int),vs=[.ref a,.int n]∧H a=some (.lst (N.map V.int))∧n∈N∧N.length≤60∧Zaq N ∧
 ∀ (r:Addr) (ts:List Addr) (H':Hp),H r=none→H' r=some (.lst (ts.map V.ref))→ts.length=(ZX 8 N n).length→(∀ (i:Nat) (t:Addr) (X:List Int),ts[i]? = some t→(ZX 8 N n)[i]? = some X→H' t=some (.tup [.int (ZP X).1,.int (ZP X).2]))→ZA H H'→Q (.ref r) H'
theorem ZjD(T:Zao K mg cRow cMerge)(f_way_up:Df P w K mg base 2 "way_up" ["numbers", "n"] Zml):Df P w K mg base 3 "matches_up" ["numbers", "n"] Zg9:=by
 refine T.t_matches_up.df ZaL (fun vs H Q E h=>?_) (fun cdv f A outer s H vs Q E hr h=>?_)
 ·obtain⟨a,N,n,rfl,_⟩:=h
  rfl
 obtain⟨a,N,n,rfl,ha,hn,h60,hup,q⟩:=h
 refine⟨_,#[Zf,#[Zu,2,ZaL.nd,(Or.inl rfl),#[Zai,#[Zd]]],#[Zf,#[Zu,3,ZaL.nd,(Or.inl rfl),‹1›],#[Zf,#[Zu,4,ZaL.nd,(Or.inl rfl),‹1›],#[Zf,#[Zbu,PassesOwn.never,#[iL,K,#[ZD,f_way_up,hr,#[Za,‹0›,#[Za,‹1›,#[Zd]]],(by rfl)]],#[ZB,5,ZaL.nd],#[Zf,#[Zu,3,ZaL.nd,(Or.inl rfl),#[Zk,(Zci rfl),(by rfl),T.b.n_min,boot_min,#[Za,‹3›,#[Za,#[Zz,(ixL K),‹5›,#[Zi]],#[Zd]]]]],#[Zf,#[Zu,4,ZaL.nd,(Or.inl rfl),#[Zk,(ZlI rfl),(by rfl),T.b.n_max,boot_max,#[Za,‹4›,#[Za,#[Zz,(ixL K),‹5›,(@Zhc _ _ _ _ _ _ Ze9 #[Zi])],#[Zd]]]]],#[Zj,#[Zac,#[ZbY,QD,QH,QI,Z7,‹2›,#[Za,#[ZH,#[Za,‹3›,#[Za,‹4›,#[Zd]]]],#[Zd]]]]]]]],#[Zj,#[Zp,‹2›]]]]]],?_⟩
 have hpos:=Q0 hn
 have hpw:N.length≤2 ^ 8:=QP h60 (by decide)
 obtain⟨cok,ctop,clen⟩:=Zge 8 N n hn hpw
 refine⟨(by show 0≤sizeLine;decide),fun r hr0=>?_⟩
 have s1:=Zg hr0 (.lst [])
 have hr1:(upd H r (.lst [])) r=some (.lst []):=Zb
 generalize upd H r (.lst [])=H1 at s1 hr1 ⊢
 refine⟨_,rfl,_,rfl,_,rfl,_,rfl,a,N,n,rfl,s1 _ _ ha,hpos,by lia,fun wy ls H2 hwy hwy2 hnot hfr hrd s2=>?_⟩
 rw[Zhp 8 N n hpw]at hrd
 have hll:=hrd.len
 rw[Qa]at hll
 have s02:=s1.trans s2
 refine⟨wy,rfl,⟨_,SqL.of hwy2⟩,?_⟩
 refine Zi8 (K:=K) (a:=wy) (xs:=ls.map V.ref) (fun i σ H3=>∃ (v5:Option V) (ts:List Addr),σ=[some (.ref a),some (.int n),some (.ref r),some (.int ((low n (ZX 8 N n) i).headD 0)),some (.int ((low n (ZX 8 N n) i).getLastD 0)),v5]∧i≤ls.length∧ts.length=i∧H3 r=some (.lst (ts.map V.ref))∧(∀ (j:Nat) (t:Addr) (X:List Int),ts[j]? = some t→(ZX 8 N n)[j]? = some X→H3 t=some (.tup [.int (ZP X).1,.int (ZP X).2]))∧(∀t∈ts,t≠r∧∃xs,H3 t=some (.tup xs))∧(∀b o,H2 b=some o→b≠r→H3 b=some o)) ⟨_,[],rfl,Qv _,rfl,s2 _ _ hr1,(fun j t X h=>by simp at h),(fun t h=>by cases h),fun b o h _=>h⟩ (fun i σ H3 _ hq=>by obtain⟨_,_,_,_,_,_,_,_,k3⟩:=hq;exact SqL.of (k3 _ _ hwy2 (fun z=>by rw[z,hr1]at hwy;cases hwy))) ?_ ?_
 ·rintro i y σ H3 hy ⟨v5,ts,rfl,hi,htl,hr3,hts,htr,k3⟩
  rw[Qk]at hy
  cases hz:ls[i]? with
  | none=>rw[hz]at hy;cases hy
  | some l =>
  rw[hz]at hy
  cases hy
  have hil:i<ls.length:=(Qc.mp hz).1
  cases hX:(ZX 8 N n)[i]? with
  | none=>rw[QaR]at hX;lia
  | some X =>
  obtain⟨x1,x2,x3,x4⟩:=cok i X hX
  have hl2:H2 l=some (.lst ((Zaw X n).map V.int)):=hrd.get hz (by rw[Qk,hX];rfl)
  have nlr:l≠r:=fun z=>by rw[z]at hl2;rw[s2 _ _ hr1]at hl2;have:=hfr l (Qr hz);rw[z,hr1]at this;cases this
  have hl3:=k3 _ _ hl2 nlr
  have hne:=Zob x2 n
  have e2:=ZjM (x1.rise hup) x2 n
  rw[x4]at e2
  have e3:low n (ZX 8 N n) (i+1)=X:=by show (ZX 8 N n).getD i []=X;rw[Qm,hX];rfl
  refine⟨_,rfl,_,rfl,l,_,_,_,rfl,rfl,SqL.of hl3,Zi1 hne,_,_,rfl,?_⟩
  refine⟨_,rfl,_,rfl,_,rfl,l,_,_,_,rfl,rfl,SqL.of hl3,ZiF hne,_,_,rfl,?_⟩
  refine⟨_,rfl,.inl ⟨rfl,_,SqL.of hr3⟩,_,rfl,_,rfl,(by show 2≤sizeLine;decide),fun t ht=>?_⟩
  have nrt:r≠t:=Zc hr3 ht
  refine⟨r,_,_,rfl,rfl,by rw[Ze nrt];exact hr3,(by rw[Qa];exact Zx (by lia)),?_⟩
  refine⟨some (.ref l),ts++[t],?_,hil,by rw[Qg,Qj];lia,by rw[Zb,Qf];rfl,fun j u Y hu hY=>?_,fun u hu=>?_,fun b o hb nb=>?_⟩
  ·rw[e3]
   have h1:=congrArg Prod.fst e2
   have h2:=congrArg Prod.snd e2
   simp only at h1 h2
   rw[show X.headD 0=(ZP X).1 from rfl,show X.getLastD 0=(ZP X).2 from rfl,h1,h2]
   rfl
  ·have htuple:∀ (u:Addr) (xs:List V),H3 u=some (.tup xs)→(upd (upd H3 t (.tup [.int (if (Zaw X n).headD 0<(low n (ZX 8 N n) i).headD 0 then (Zaw X n).headD 0 else (low n (ZX 8 N n) i).headD 0),.int (if (Zaw X n).getLastD 0>(low n (ZX 8 N n) i).getLastD 0 then (Zaw X n).getLastD 0 else (low n (ZX 8 N n) i).getLastD 0)])) r (.lst (ts.map V.ref++[.ref t]))) u=some (.tup xs):=fun u xs hu=>by
    rw[Ze (fun z=>by rw[z,hr3]at hu;cases hu),Ze (Zc hu ht)];exact hu
   by_cases hj:j<ts.length
   ·rw[QU hj]at hu
    exact htuple u _ (hts j u Y hu hY)
   ·have ej:j=ts.length:=by have:=(Qc.mp hu).1;rw[Qg,Qj]at this;lia
    subst ej
    rw[QS (Qi _),Nat.sub_self]at hu
    cases hu
    rw[htl,hX]at hY
    cases hY
    rw[Ze nrt.symm,Zb,e2]
  ·rcases Qh.mp hu with hu|hu
   ·obtain⟨g1,xs,g2⟩:=htr u hu
    exact⟨g1,xs,by rw[Ze g1,Ze (Zc g2 ht)];exact g2⟩
   ·rw[Qe.mp hu]
    exact⟨nrt.symm,_,by rw[Ze nrt.symm];exact Zb⟩
  ·have:=k3 b o hb nb
   rw[Ze nb,Ze (Zc this ht)];exact this
 ·rintro σ H3 ⟨v5,ts,rfl,_,htl,hr3,hts,_,k3⟩
  rw[Qa]at htl
  exact⟨_,rfl,q r ts H3 hr0 hr3 (by lia) hts (fun b o hb=>k3 b o (s02 b o hb) (Zc hb hr0))⟩
def CV(H:Hp)(v:V)(c:Com):Prop:=(c=none∧v=.non)∨∃ (t:Addr) (p:Int×Int),c=some p∧v=.ref t∧H t=some (.tup [.int p.1,.int p.2])
theorem CV.keep{H H':Hp}{v:V}{c:Com}(h:CV H v c)(k:∀t xs,H t=some (.tup xs)→H' t=some (.tup xs)):CV H' v c:=by
 rcases h with h|⟨t,p,h1,h2,h3⟩
 ·exact .inl h
 ·exact .inr ⟨t,p,h1,h2,k _ _ h3⟩
theorem ZmJ{s:StL}{k:Int×Int}{v0:Option (Addr×Int×Int)}(h:ZS s k=some v0):s.any (fun e=>decide (e.1=k))=true:=List.any_eq_true.mpr ⟨_,Zg5 h,decide_eq_true rfl⟩
theorem ZeY{s:StL}{k:Int×Int}{v0 v:Option (Addr×Int×Int)}(h:ZS s k=some v0):(ZcQ s k v).length=s.length:=by
 unfold ZcQ
 rw[if_pos (ZmJ h),Qa]
def AgS(hd:Hd)(z:List Nat)(A B:List Int)(k q:Int):Prop:=∀C k0 q0,Ag hd z C k0 q0→Ag hd z (C++[(A,B)]) (k0+k) (q0+q)
def ZkF(cR cM:Addr):Sp:=fun vs H Q _=>∃ (m rd sd:Addr) (L:List ZI) (s:StL) (nb li lo:Int) (best:V) (tm:Addr) (v:V) (c:Com) (z:List Nat) (M:List Int) (n:Int),vs=[.ref m,.ref tm,v]∧Zaa cR cM H m rd sd L s nb li lo best∧H tm=some (.tup [.int (ZP M).1,.int (ZP M).2])∧CV H v c∧ZiN (hdM L) z (Zam M n) c ∧
 ((Win (hdM L) (Zaw M n) none∧(ZS s (ZP M)=none∨ZS s (ZP M)=some none))∨∃t b y,Win (hdM L) (Zaw M n) (some b)∧hdM L b=some y∧ZS s (ZP M)=some (some (t,b,((lcp y z:Nat):Int)))) ∧
 (∀b∈M,∀y,hdM L b=some y→ZK z y≤0)∧Zaq M∧(∀b∈M,b∈ZG L)∧2≤M.length∧n∈M ∧
 ∀ (v':V) (c':Com) (s':StL) (k q:Int) (H':Hp),CV H' v' c'→ZiN (hdM L) z M c'→Zd6 (hdM L) s' (Zam M n) (Zaw M n) (ZP M)→(∀j,j≠ZP M→ZS s' j=ZS s j)→AgS (hdM L) z (Zam M n) (Zaw M n) k q →
  Zaa cR cM H' m rd sd L s' nb (li+k) (lo+q) best→(∀b o,H b=some o→b≠m→b≠sd→H' b=some o)→Q v' H'
theorem ZnQ{L:List ZI}(nd:(ZG L).Nodup){b:Int}(hb:b∈ZG L){y:List Nat}(hy:hdM L b=some y):∃e∈L,e.n=b∧∃x,e.ss[e.g]? = some x∧y=cds x:=by
 obtain⟨e,he,rfl⟩:=Zdu hb
 rw[Zee nd he]at hy
 cases hx:e.ss[e.g]? with
 | none=>rw[hx]at hy;cases hy
 | some x=>rw[hx]at hy;cases hy;exact⟨e,he,rfl,x,hx,rfl⟩
theorem Zmu(T:Zao K mg cRow cMerge)(f_Merge_meet:Mf P w K mg base 3 cMerge "meet" ["self", "one", "other", "far"] (Zjm cRow cMerge)):Mf P w K mg base 4 cMerge "play_again" ["self", "meeting", "comer"] (ZkF cRow cMerge):=by
 refine T.t_Merge_play_again.mf Zan (fun vs H Q E h=>?_) (fun cdv f A outer s H vs Q E hr h=>?_)
 ·obtain⟨m,rd,sd,L,s,nb,li,lo,best,tm,v,c,z,M,n,rfl,_⟩:=h
  rfl
 obtain⟨m,rd,sd,L,s,nb,li,lo',best,tm,v,c,z,M,n,rfl,Mg,htm,hcv,⟨wS,hcf⟩,hst,hge,hup,hin,h2,hn,q⟩:=h
 refine⟨_,#[Zf,#[Zu,3,Zan.nd,(Or.inl rfl),(@Zrf _ _ _ _ _ _ _ _ hr #[Zae,‹0›] ‹1› (by rfl) (by rfl) (by rfl))],#[Zf,#[Z9,#[Zn,ZcG,‹3›,#[Zav],(Zs _)],#[Zj,#[Zp,‹2›]],#[ZF]],#[Zf,#[Z9,#[Zn,ZcG,‹2›,#[Zav],(Zs _)],#[Zf,#[ZaS,#[Zav],#[ZcF,#[Zae,‹0›],‹1›,(Zm6 hr)]],#[Zj,#[Zp,‹3›]]],#[ZF]],#[Zf,#[Z9,#[Zn,Za7,#[Zz,(ixT K),‹2›,#[Zi]],#[Zz,(ixT K),‹3›,#[Zi]],(Zs _)],#[Zf,#[ZaS,#[Zfi,f_Merge_meet,T.cl_Merge,hr,‹0›,#[Za,#[Zz,(ixT K),‹2›,#[Zi]],#[Za,#[Zz,(ixT K),‹3›,#[Zi]],#[Za,#[Zz,(ixT K),‹2›,#[Zi]],#[Zd]]]]],#[gT,K,3,#[Zw,#[ZB,4,Zan.nd],#[Zw,#[ZB,5,Zan.nd],#[Zw,#[ZB,6,Zan.nd],(@ZaD _)]]]]],#[Zf,#[ZaS,#[ZH,#[Za,‹5›,#[Za,‹6›,#[Zd]]]],#[ZcF,#[Zae,‹0›],‹1›,(Zm6 hr)]],#[Zj,#[Zp,#[ZH,#[Za,‹4›,#[Za,#[Zz,(ixT K),‹2›,#[Zi]],#[Zd]]]]]]]],#[ZF]],#[Zf,(@ZdW _ _ _ _ _ _ _ _ _ _ ‹0› #[Zi] ZhH),#[Zf,#[Z9,#[Zn,ZfF,#[Zz,(ixT K),‹2›,#[Zi]],#[Zz,(ixT K),‹3›,#[Zi]],(Zs _)],#[Zj,#[Zp,‹2›]],#[ZF]],#[Zf,#[ZaS,‹2›,#[ZcF,#[Zae,‹0›],‹1›,(Zm6 hr)]],#[Zj,#[Zp,‹3›]]]]]]]]],?_⟩
 obtain⟨dx,hm⟩:=Mg.ob
 have htm':H tm=some (.tup (([.inl (ZP M).1,.inl (ZP M).2]:List Key).map kV)):=htm
 have pm:=Ze6 M n
 have dg:=Zdo.t (k:=[.inl (ZP M).1,.inl (ZP M).2]) Mg.stays htm'
 rw[Zis]at dg
 have sA:∀b∈Zam M n,b∈M:=fun b hb=>pm.mem_iff.mp (Qp _ hb)
 have sB:∀b∈Zaw M n,b∈M:=fun b hb=>pm.mem_iff.mp (Qo _ hb)
 have hno:=Zgb hup (Zdv hn)
 have dis:∀a b,a∈Zam M n→b∈Zaw M n→a≠b:=fun a b ha hb e=>by
  subst e
  unfold Zam Zaw at *
  split at ha
  ·rename_i hl;rw[if_pos hl]at hb;have:=ZM hup ha hb;lia
  ·rename_i hl;rw[if_neg hl]at hb;have:=ZM hup hb ha;lia
 refine⟨_,rfl,m,cMerge,dx,_,_,rfl,hm,T.cl_Merge,T.na_Merge_stays,ZcV ..,sd,rfl,.inr ⟨_,.inl Mg.stays⟩,_,rfl,_,dg,?_⟩
 rcases hst with⟨wO,hlk⟩|⟨t,b,y,wO,hy,hlk⟩
 ·have ev:((ZS s (ZP M)).map stV).getD .non=.non:=by rcases hlk with e|e<;>rw[e]<;>rfl
  rw[ev]
  refine⟨_,rfl,rfl,_,rfl,ZdA rfl ⟨_,rfl,q v c s 0 0 H hcv ⟨(Win.left wS wO).perm pm,hcf⟩ ⟨(fun a b x y _ wb _ _=>nomatch wO.one wb),fun _=>hlk⟩ (fun _ _=>rfl) (fun C k0 q0 g=>by rw[Qa1,Qa1];exact .no g (.inr wO)) (Mg.cast (by lia) (by lia)) (fun b o h _ _=>h)⟩⟩
 have hat:=Mg.ats _ (Zg5 hlk) _ rfl
 have e1:((ZS s (ZP M)).map stV).getD .non=.ref t:=by rw[hlk];rfl
 rw[e1]
 have hsf:=Mg.sfew
 have hsl:(kvS s).length<sizeLine:=by unfold kvS;rw[Qa];exact Zx (by lia)
 refine⟨_,rfl,rfl,_,rfl,Zco (fun z=>nomatch z) ?_⟩
 have hbM:=sB b wO.1
 rcases hcv with⟨rfl,rfl⟩|⟨tc,p,rfl,rfl,htc⟩
 ·refine⟨_,rfl,rfl,_,rfl,ZdA rfl ?_⟩
  refine⟨_,rfl,m,cMerge,dx,_,_,rfl,hm,T.cl_Merge,T.na_Merge_stays,ZcV ..,_,rfl,sd,_,rfl,Zgd.t (k:=[.inl (ZP M).1,.inl (ZP M).2]) Mg.stays htm' hsl,?_⟩
  rw[show V.non=stV none from rfl,Zft]
  have hl1:(ZcQ s (ZP M) none).length≤100:=by rw[ZeY hlk];exact hsf
  have M2:=Mg.put (k:=ZP M) (v:=none) (fun t ht=>by cases ht) hl1
  have wS':Win (hdM L) (Zam M n) none:=wS
  refine⟨_,rfl,q (.ref t) (some (b,((lcp y z:Nat):Int))) _ 0 0 _ (.inr ⟨t,_,rfl,rfl,?_⟩) ⟨(Win.right wS' wO).perm pm,fun p hp=>?_⟩ ⟨(fun a b x y wa _ _ _=>nomatch wS'.one wa),fun _=>.inr ?_⟩ (fun j hj=>?_) (fun C k0 q0 g=>?_) (M2.cast (by lia) (by lia)) (fun b o hb _ n2=>by rw[Ze n2];exact hb)⟩
  ·rw[Ze (fun z=>by rw[z,Mg.stays]at hat;cases hat)];exact hat
  ·cases hp;exact⟨y,hy,rfl⟩
  ·rw[Za6,if_pos rfl]
  ·rw[Za6,if_neg hj]
  ·rw[Qa1,Qa1];exact .no g (.inl wS')
 obtain⟨a,fa⟩:=p
 obtain⟨x,hx,efa⟩:=hcf _ rfl
 simp only at hx efa
 subst efa
 have wS':Win (hdM L) (Zam M n) (some a):=wS
 have haM:=sA a wS'.1
 have hab:=dis a b wS'.1 wO.1
 obtain⟨ea,hea,rfl,zx,hzx,rfl⟩:=ZnQ Mg.nd (hin a haM) hx
 obtain⟨eb,heb,rfl,zy,hzy,rfl⟩:=ZnQ Mg.nd (hin b hbM) hy
 have c0:atI [V.int ea.n,.int ((lcp (cds zx) z:Nat):Int)] 0=some (.int ea.n):=Zaf (j:=0) rfl
 have c1:atI [V.int ea.n,.int ((lcp (cds zx) z:Nat):Int)] 1=some (.int ((lcp (cds zx) z:Nat):Int)):=Zaf (j:=1) rfl
 have d0:atI [V.int eb.n,.int ((lcp (cds zy) z:Nat):Int)] 0=some (.int eb.n):=Zaf (j:=0) rfl
 have d1:atI [V.int eb.n,.int ((lcp (cds zy) z:Nat):Int)] 1=some (.int ((lcp (cds zy) z:Nat):Int)):=Zaf (j:=1) rfl
 refine⟨_,rfl,rfl,_,rfl,Zco (fun z=>nomatch z) ?_⟩
 refine⟨_,rfl,tc,_,_,_,rfl,rfl,SqT.of htc,c1,_,rfl,t,_,_,_,rfl,rfl,SqT.of hat,d1,rfl,_,rfl,Za3 (fun d=>?_) (fun d=>?_)⟩
 ·have ef:lcp (cds zx) z=lcp (cds zy) z:=by have:=of_decide_eq_true d;injection this with this;lia
  have hle:=Zre ef
  refine⟨_,rfl,m,dx,_,rfl,hm,Zf6 ..,_,rfl,tc,_,_,_,rfl,rfl,SqT.of htc,c0,_,rfl,t,_,_,_,rfl,rfl,SqT.of hat,d0,_,rfl,tc,_,_,_,rfl,rfl,SqT.of htc,c1,?_⟩
  refine⟨m,rd,sd,L,s,nb,li,lo',best,ea,eb,zx,zy,lcp (cds zx) z,rfl,Mg,hea,heb,hzx,hzy,hle,fun t5 wi lz H5 hw ht5 ht5' M5 b5=>?_⟩
  refine⟨t5,_,rfl,SqT.of ht5',rfl,_,_,rfl,_,_,rfl,_,_,rfl,rfl,?_⟩
  have sz2:2≤sizeLine:=by decide
  refine⟨_,rfl,_,rfl,sz2,fun t6 ht6=>?_⟩
  have s6:=Zg ht6 (.tup [.int lz,.int ((lcp (cds zx) (cds zy):Nat):Int)])
  have ht66:(upd H5 t6 (.tup [.int lz,.int ((lcp (cds zx) (cds zy):Nat):Int)])) t6=some (.tup [.int lz,.int ((lcp (cds zx) (cds zy):Nat):Int)]):=Zb
  have M6:=M5.same s6
  generalize upd H5 t6 (.tup [.int lz,.int ((lcp (cds zx) (cds zy):Nat):Int)])=H6 at s6 ht66 M6 ⊢
  obtain⟨dx6,hm6⟩:=M6.ob
  have ntm:tm≠m:=fun z=>by rw[z,hm]at htm;cases htm
  have ntc:tc≠m:=fun z=>by rw[z,hm]at htc;cases htc
  have htm6:H6 tm=some (.tup (([.inl (ZP M).1,.inl (ZP M).2]:List Key).map kV)):=s6 _ _ (b5 _ _ htm' ntm)
  refine⟨_,rfl,m,cMerge,dx6,_,_,rfl,hm6,T.cl_Merge,T.na_Merge_stays,ZcV ..,_,rfl,sd,_,rfl,Zgd.t (k:=[.inl (ZP M).1,.inl (ZP M).2]) M6.stays htm6 hsl,?_⟩
  rw[show V.ref t6=stV (some (t6,lz,((lcp (cds zx) (cds zy):Nat):Int))) from rfl,Zft]
  have hl1:(ZcQ s (ZP M) (some (t6,lz,((lcp (cds zx) (cds zy):Nat):Int)))).length≤100:=by rw[ZeY hlk];exact hsf
  have M7:=M6.put (k:=ZP M) (v:=some (t6,lz,((lcp (cds zx) (cds zy):Nat):Int))) (fun t ht=>by injection ht with ht;rw[← ht];exact ht66) hl1
  have b7:∀b o,H b=some o→b≠m→b≠sd→(upd H6 sd (.dT (kvS (ZcQ s (ZP M) (some (t6,lz,((lcp (cds zx) (cds zy):Nat):Int))))))) b=some o:=fun b o hb n1 n2=>by rw[Ze n2];exact s6 _ _ (b5 b o hb n1)
  have ntcs:tc≠sd:=fun z=>by rw[z,Mg.stays]at htc;cases htc
  generalize upd H6 sd (.dT (kvS (ZcQ s (ZP M) (some (t6,lz,((lcp (cds zx) (cds zy):Nat):Int))))))=H7 at M7 b7 ⊢
  refine⟨_,rfl,_,rfl,tc,_,_,_,rfl,rfl,SqT.of (b7 _ _ htc ntc ntcs),c1,sz2,fun t8 ht8=>?_⟩
  have wn:Win (hdM L) M (some wi):=by
   rcases hw with⟨w0,rfl,_⟩|⟨w0,rfl,_⟩
   ·exact(Win.both wS' wO hx hy w0).perm pm
   ·exact(Win.both' wS' wO hx hy ((Btr.total hab).resolve_left w0)).perm pm
  refine q (.ref t8) (some (wi,((lcp (cds zx) z:Nat):Int))) _ 1 ((lcp (cds zx) (cds zy):Nat)-(lcp (cds zx) z:Nat)+1) _ (.inr ⟨t8,_,rfl,rfl,Zb⟩) ⟨wn,fun p hp=>?_⟩ ⟨fun a b x' y' wa wb hxa hyb=>?_,fun hno=>?_⟩ (fun j hj=>by rw[Za6,if_neg hj]) (fun C k0 q0 g=>.eq g wS' wO hx hy ef) ((M7.same (Zg ht8 _)).cast rfl rfl) (fun b o hb n1 n2=>Zg ht8 _ _ _ (b7 b o hb n1 n2))
  ·cases hp
   rcases hw with⟨w0,rfl,_⟩|⟨w0,rfl,_⟩
   ·exact⟨_,hx,rfl⟩
   ·exact⟨_,hy,by simp only;rw[ef]⟩
  ·have e1:=Qq (wa.one wS')
   have e2:=Qq (wb.one wO)
   subst e1
   subst e2
   have e3:=Qq (hxa.symm.trans hx)
   have e4:=Qq (hyb.symm.trans hy)
   subst e3
   subst e4
   refine⟨t6,lz,by rw[Za6,if_pos rfl],?_⟩
   rcases hw with⟨w0,_,rfl⟩|⟨w0,_,rfl⟩
   ·exact .inl ⟨w0,rfl⟩
   ·exact .inr ⟨(Btr.total hab).resolve_left w0,rfl⟩
  ·rcases hno with z|z
   ·exact nomatch z.one wS'
   ·exact nomatch z.one wO
 have nef:lcp (cds zx) z≠lcp (cds zy) z:=fun e=>d (decide_eq_true (by rw[e]))
 refine⟨_,rfl,m,cMerge,dx,_,_,rfl,hm,T.cl_Merge,T.na_Merge_likened,Zfc ..,_,_,rfl,rfl,dx,_,hm,Zcv ..,?_⟩
 rw[Zdk]
 have M2:=Mg.obj (nb':=nb) (li':=li+1) (lo':=lo') (best':=best) (dx:=dx)
 have k2:∀b o,H b=some o→b≠m→(upd H m (.ins cMerge dx (mgF rd nb (li+1) lo' sd best))) b=some o:=fun b o hb n=>by rw[Ze n];exact hb
 have ntc:tc≠m:=fun z=>by rw[z,hm]at htc;cases htc
 have ntt:t≠m:=fun z=>by rw[z,hm]at hat;cases hat
 have ntm:tm≠m:=fun z=>by rw[z,hm]at htm;cases htm
 generalize upd H m (.ins cMerge dx (mgF rd nb (li+1) lo' sd best))=H2 at M2 k2 ⊢
 have htc2:=k2 _ _ htc ntc
 have hat2:=k2 _ _ hat ntt
 refine⟨_,rfl,tc,_,_,_,rfl,rfl,SqT.of htc2,c1,_,rfl,t,_,_,_,rfl,rfl,SqT.of hat2,d1,_,_,rfl,rfl,_,rfl,Za3 (fun g=>?_) (fun g=>?_)⟩
 ·have hgt:lcp (cds zy) z<lcp (cds zx) z:=by have:((lcp (cds zy) z:Nat):Int)<((lcp (cds zx) z:Nat):Int):=of_decide_eq_true g;lia
  obtain⟨bt,el⟩:=Zjd (a:=ea.n) (b:=eb.n) hgt (hge _ hbM _ hy)
  refine⟨_,rfl,q (.ref tc) (some (ea.n,((lcp (cds zx) z:Nat):Int))) s 1 0 H2 (.inr ⟨tc,_,rfl,rfl,htc2⟩) ⟨(Win.both wS' wO hx hy bt).perm pm,fun p hp=>by cases hp;exact⟨_,hx,rfl⟩⟩ ⟨fun a b x' y' wa wb hxa hyb=>?_,fun hno=>?_⟩ (fun _ _=>rfl) (fun C k0 q0 g=>by rw[Qa1];exact .ne g wS' wO hx hy nef) (M2.cast rfl (by lia)) (fun b o hb n1 _=>k2 b o hb n1)⟩
  ·have e1:=Qq (wa.one wS')
   have e2:=Qq (wb.one wO)
   subst e1
   subst e2
   have e3:=Qq (hxa.symm.trans hx)
   have e4:=Qq (hyb.symm.trans hy)
   subst e3
   subst e4
   exact⟨t,_,by rw[el];exact hlk,.inl ⟨bt,rfl⟩⟩
  ·rcases hno with z|z
   ·exact nomatch z.one wS'
   ·exact nomatch z.one wO
 ·have hlt:lcp (cds zx) z<lcp (cds zy) z:=by
   have:¬ ((lcp (cds zy) z:Nat):Int)<((lcp (cds zx) z:Nat):Int):=fun e=>g (decide_eq_true e)
   lia
  obtain⟨bt,el⟩:=Zjd (a:=eb.n) (b:=ea.n) hlt (hge _ haM _ hx)
  obtain⟨dx2,hm2⟩:=M2.ob
  have htm2:H2 tm=some (.tup (([.inl (ZP M).1,.inl (ZP M).2]:List Key).map kV)):=k2 _ _ htm' ntm
  refine⟨_,rfl,_,rfl,m,cMerge,dx2,_,_,rfl,hm2,T.cl_Merge,T.na_Merge_stays,ZcV ..,_,rfl,sd,_,rfl,Zgd.t (k:=[.inl (ZP M).1,.inl (ZP M).2]) M2.stays htm2 hsl,?_⟩
  rw[show V.ref tc=stV (some (tc,ea.n,((lcp (cds zx) z:Nat):Int))) from rfl,Zft]
  have hl1:(ZcQ s (ZP M) (some (tc,ea.n,((lcp (cds zx) z:Nat):Int)))).length≤100:=by rw[ZeY hlk];exact hsf
  have M3:=M2.put (k:=ZP M) (v:=some (tc,ea.n,((lcp (cds zx) z:Nat):Int))) (fun t ht=>by injection ht with ht;rw[← ht];exact htc2) hl1
  refine⟨_,rfl,q (.ref t) (some (eb.n,((lcp (cds zy) z:Nat):Int))) _ 1 0 _ (.inr ⟨t,_,rfl,rfl,?_⟩) ⟨(Win.both' wS' wO hx hy bt).perm pm,fun p hp=>by cases hp;exact⟨_,hy,rfl⟩⟩ ⟨fun a b x' y' wa wb hxa hyb=>?_,fun hno=>?_⟩ (fun j hj=>by rw[Za6,if_neg hj]) (fun C k0 q0 g=>by rw[Qa1];exact .ne g wS' wO hx hy nef) (M3.cast rfl (by lia)) (fun b o hb n1 n2=>by rw[Ze n2];exact k2 b o hb n1)⟩
  ·rw[Ze (fun z=>by rw[z,M2.stays]at hat2;cases hat2)];exact hat2
  ·have e1:=Qq (wa.one wS')
   have e2:=Qq (wb.one wO)
   subst e1
   subst e2
   have e3:=Qq (hxa.symm.trans hx)
   have e4:=Qq (hyb.symm.trans hy)
   subst e3
   subst e4
   exact⟨tc,_,by rw[Za6,if_pos rfl,Zcr (cds zx) (cds zy),el],.inr ⟨bt,rfl⟩⟩
  ·rcases hno with z|z
   ·exact nomatch z.one wS'
   ·exact nomatch z.one wO
def ZcW(n:Int)(e:ZI):ZI:=if e.n=n then ⟨e.n,e.p,e.k,e.f,e.ss,e.g+1⟩ else e
def bump(L:List ZI)(n:Int):List ZI:=L.map (ZcW n)
theorem Zc3(n:Int)(e:ZI):(ZcW n e).n=e.n∧(ZcW n e).p=e.p∧(ZcW n e).k=e.k∧(ZcW n e).f=e.f∧(ZcW n e).ss=e.ss:=by unfold ZcW;split<;>exact⟨rfl,rfl,rfl,rfl,rfl⟩
theorem Zex{n:Int}{e:ZI}(h:e.n=n):ZcW n e=⟨e.n,e.p,e.k,e.f,e.ss,e.g+1⟩:=if_pos h
theorem Zgj{n:Int}{e:ZI}(h:¬ e.n=n):ZcW n e=e:=if_neg h
theorem Zce(L:List ZI)(n:Int):ZG (bump L n)=ZG L:=by
 unfold ZG bump
 rw[QE]
 exact QN fun e _=>(Zc3 n e).1
theorem Zow(L:List ZI)(n:Int):(bump L n).map (·.p)=L.map (·.p):=by
 unfold bump
 rw[QE]
 exact QN fun e _=>(Zc3 n e).2.1
theorem Zl9(L:List ZI)(n:Int):kvM (bump L n)=kvM L:=by
 unfold kvM bump
 rw[QE]
 refine QN fun e _=>?_
 simp only[Function.comp]
 rw[(Zc3 n e).1,(Zc3 n e).2.1]
theorem Zpq{m rd sd:Addr}{L:List ZI}{n:Int}{b:Addr}(h:Fp m rd sd (bump L n) b):Fp m rd sd L b:=by
 rcases h with h|h|h|⟨e',he',h⟩
 ·exact .inl h
 ·exact .inr (.inl h)
 ·exact .inr (.inr (.inl h))
 ·obtain⟨e,he,rfl⟩:=Qx.mp he'
  obtain⟨_,h1,h2,h3,_⟩:=Zc3 n e
  rw[h1,h2,h3]at h
  exact .inr (.inr (.inr ⟨e,he,h⟩))
theorem Fp_bump'{m rd sd:Addr}{L:List ZI}{n:Int}{b:Addr}(h:Fp m rd sd L b):Fp m rd sd (bump L n) b:=by
 rcases h with h|h|h|⟨e,he,h⟩
 ·exact .inl h
 ·exact .inr (.inl h)
 ·exact .inr (.inr (.inl h))
 ·obtain⟨_,h1,h2,h3,_⟩:=Zc3 n e
  refine .inr (.inr (.inr ⟨ZcW n e,Qn he,?_⟩))
  rw[h1,h2,h3]
  exact h
theorem ZkS{n b:Int}(h:b≠n):∀L:List ZI,hdM (bump L n) b=hdM L b
 | []=>rfl
 | e::L=>by
  have ih:=ZkS h L
  unfold hdM hdL bump at ih ⊢
  rw[Ql,Ql,Ql,Qaw,Qaw]
  have e1:(toL (ZcW n e)).1=e.n:=(Zc3 n e).1
  rw[e1]
  by_cases he:e.n=b
  ·rw[decide_eq_true he,decide_eq_true (show (toL e).1=b from he),Zgj (fun z=>h (he.symm.trans z))]
  ·rw[decide_eq_false he,decide_eq_false (show ¬ (toL e).1=b from he)]
   exact ih
theorem Zjk{L:List ZI}(nd:(ZG L).Nodup){e:ZI}(he:e∈L):hdM (bump L e.n) e.n=(e.ss[e.g+1]?).map cds:=by
 have hm:ZcW e.n e∈bump L e.n:=Qn he
 rw[Zex rfl]at hm
 exact Zee (L:=bump L e.n) (by rw[Zce];exact nd) hm
theorem ZeP(k f:Addr)(g:Int):ZcX k f g=([("all_keys",.ref k),("fars",.ref f),("gone",.int g)]:List (Str×V)):=by
 unfold ZcX
 rw[ZbD,Zv nFK,ZbD,Zv nGK,Zv nGF,ZbD]
theorem Zgx(k f:Addr)(g v:Int):Zq "gone" (.int v) (ZcX k f g)=ZcX k f v:=by
 rw[ZeP,ZeP,Zv nGK,Zv nGF,ZdG]
theorem Znv(k f:Addr)(g:Int):(ZcX k f g).length<1000:=by rw[ZeP];show 3<1000;decide
theorem ZlG(k f:Addr)(g:Int):(ZcX k f g).lookup ("fars" : Str)=some (.ref f):=by
 unfold ZcX
 rw[Zl,if_neg nGF,Zl,if_pos rfl]
theorem ZrR{L:List ZI}(pd:(L.map (·.p)).Nodup){e e':ZI}(he:e∈L)(he':e'∈L)(h:e.p=e'.p):e=e':=by
 have n2:((L.map fun x=>(x.p,x)).map (·.1)).Nodup:=by rw[QE];exact pd
 have:=Zc4 n2 (Qn (f:=fun x:ZI=>(x.p,x)) he) (Qn (f:=fun x:ZI=>(x.p,x)) he') h
 injection this
theorem Zaa.bump{cR cM:Addr}{H:Hp}{m rd sd:Addr}{L:List ZI}{s:StL}{nb li lo:Int}{best:V}(M:Zaa cR cM H m rd sd L s nb li lo best){e:ZI}(he:e∈L)(hg:e.g<e.ss.length){dp:Addr} :
  Zaa cR cM (upd H e.p (.ins cR dp (ZcX e.k e.f ((e.g+1:Nat):Int)))) m rd sd (My.bump L e.n) s nb li lo best:=by
 obtain⟨dm,hm⟩:=M.ob
 obtain⟨dq,hp⟩:=(M.each e he).at'.ob
 obtain⟨n1,_,_⟩:=M.ne_p he
 obtain⟨n2,_,_,n3,_,_⟩:=M.ne_sd he
 refine⟨⟨dm,by rw[Ze n1];exact hm⟩,by rw[Ze n3,Zl9];exact M.rows,by rw[Ze n2];exact M.stays,fun x hx t ht=>?_,fun e' he'=>?_,by rw[Zce];exact M.up,by rw[Zow];exact M.pd,by unfold My.bump;rw[Qa];exact M.few,M.sfew⟩
 ·have:=M.ats x hx t ht
  rw[Ze (fun z=>by rw[z,hp]at this;cases this)];exact this
 ·obtain⟨x,hx,rfl⟩:=Qx.mp he'
  have R:=M.each x hx
  have kne:∀ {y:ZI},y∈L→y.k≠e.p∧y.f≠e.p:=fun {y} hy=>by
   have Ry:=M.each y hy
   exact⟨(fun z=>by have:=Ry.at'.ks;rw[z,hp]at this;cases this),(fun z=>by have:=Ry.at'.fs;rw[z,hp]at this;cases this)⟩
  obtain⟨k1,k2⟩:=kne hx
  by_cases hn:x.n=e.n
  ·have ex:x=e:=by
    have n2:((L.map fun x=>(x.n,x)).map (·.1)).Nodup:=by rw[QE];exact M.nd
    have:=Zc4 n2 (Qn (f:=fun x:ZI=>(x.n,x)) hx) (Qn (f:=fun x:ZI=>(x.n,x)) he) hn
    injection this
   subst ex
   rw[Zex rfl]
   exact⟨⟨⟨dp,Zb⟩,by show (upd H x.p _) x.k=_;rw[Ze k1];exact R.at'.ks,by show (upd H x.p _) x.f=_;rw[Ze k2];exact R.at'.fs⟩,hg,R.len,R.srt,R.str⟩
  ·rw[Zgj hn]
   exact R.keep (Ze (fun z=>hn (by rw[ZrR M.pd hx he z]))) (Ze k1) (Ze k2)
theorem ZrZ{L:List ZI}{e:ZI}{x:Str}(nd:(ZG L).Nodup)(up:Zaq (ZG L))(he:e∈L)(hx:e.ss[e.g]? = some x)(srt:sortedS e.ss=true)(W:Win (hdM L) (ZG L) (some e.n)):Tk (hdM L) (hdM (bump L e.n)) (ZG L) e.n (cds x):=by
 refine⟨W,by rw[Zee nd he,hx];rfl,fun b hb=>ZkS hb L,fun y hy=>?_,up⟩
 rw[Zjk nd he]at hy
 cases hz:e.ss[e.g+1]? with
 | none=>rw[hz]at hy;cases hy
 | some y'=>rw[hz]at hy;cases hy;exact ZgX srt e.g x y' hx hz
theorem Zqi{c:Bool}{e1 e2:VK→Prop}{Q:VK}(P:V→Hp→Prop)(h1:c=true→∀Q':VK,(∀v H,P v H→Q' v H)→e1 Q')(h2:c=false→∀Q':VK,(∀v H,P v H→Q' v H)→e2 Q')(q:∀v H,P v H→Q v H):if c=true then e1 Q else e2 Q:=by
 cases c with
 | true=>rw[if_pos rfl];exact h1 rfl Q q
 | false=>rw[if_neg (by decide)];exact h2 rfl Q q
def Zek(n:Int)(C:List (List Int)):List (List Int×List Int):=C.map fun X=>(Zam X n,Zaw X n)
theorem ZiP(rd:Addr)(nb li lo:Int)(sd:Addr)(best:V):(mgF rd nb li lo sd best).lookup ("play_again" : Str)=none:=Zc7 _ _ _ _ _ _ (by ac_rfl) (by ac_rfl) (by ac_rfl) (by ac_rfl) (by ac_rfl) (by ac_rfl)
def ZmY(cR cM:Addr):Sp:=fun vs H Q _=>∃ (m rd sd:Addr) (L:List ZI) (s:StL) (nb li lo:Int) (best:V) (e:ZI) (x:Str),vs=[.ref m,.int e.n]∧Zaa cR cM H m rd sd L s nb li lo best∧e∈L∧e.ss[e.g]? = some x∧Win (hdM L) (ZG L) (some e.n)∧Z4 (hdM L) s (ZG L) ∧
 ∀ (s':StL) (w':Option Int) (k q:Int) (H':Hp),Zaa cR cM H' m rd sd (bump L e.n) s' nb (li+k) (lo+q) (ZeO w')→Win (hdM (bump L e.n)) (ZG L) w'→Z4 (hdM (bump L e.n)) s' (ZG L)→Ag (hdM (bump L e.n)) (cds x) (Zek e.n (ZX 8 (ZG L) e.n)) k q→(∀b o,H b=some o→¬ Fp m rd sd L b→H' b=some o)→Q .non H'
theorem ZoG(T:Zao K mg cRow cMerge)(f_Row_head:Mf P w K mg base 2 cRow "head" ["self"] (ZfM cRow))(f_matches_up:Df P w K mg base 3 "matches_up" ["numbers", "n"] Zg9)(f_Merge_play_again:Mf P w K mg base 4 cMerge "play_again" ["self", "meeting", "comer"] (ZkF cRow cMerge)):Mf P w K mg base 5 cMerge "send_out" ["self", "number"] (ZmY cRow cMerge):=by
 refine T.t_Merge_send_out.mf ZaG (fun vs H Q E h=>?_) (fun cdv f A outer s H vs Q E hr h=>?_)
 ·obtain⟨m,rd,sd,L,s,nb,li,lo,best,e,x,rfl,_⟩:=h
  rfl
 obtain⟨m,rd,sd,L,s,nb,li,lo',best,e,x,rfl,M,he,hx,W,ok,q⟩:=h
 refine⟨_,#[Zf,#[Zu,2,ZaG.nd,(Or.inl rfl),#[Zz,(ixG hr),#[Zae,‹0›],‹1›]],#[Zf,(@ZdW _ _ _ _ _ _ _ _ _ _ ‹2› #[Zi] ZhH),#[Zf,#[Zu,3,ZaG.nd,(Or.inl rfl),#[Za1,#[Zn,ZcG,#[Zdb,f_Row_head,T.cl_Row,hr,‹2›],#[Zav],(Zs _)],#[Zav],#[ZH,#[Za,‹1›,#[Za,#[Zz,(ixL K),#[Zae,‹2›],#[Zae,‹2›]],#[Zd]]]]]],#[Zf,#[Zbu,PassesOwn.never,#[iL,K,#[ZD,f_matches_up,hr,#[Za,#[Za5,Zr0,T.b.n_list,boot_list,#[Za,#[Zae,‹0›],#[Zd]]],#[Za,‹1›,#[Zd]]],(by rfl)]],#[ZB,4,ZaG.nd],#[Zj,#[Zu,3,ZaG.nd,(Or.inl rfl),#[Zfi,f_Merge_play_again,T.cl_Merge,hr,‹0›,#[Za,‹4›,#[Za,‹3›,#[Zd]]]]]]],#[Zj,#[Zb6,‹0›,#[Za1,#[Zn,ZcG,‹3›,#[Zav],(Zs _)],#[Zav],#[Zz,(ixT K),‹3›,#[Zi]]]]]]]]],?_⟩
 obtain⟨dx,hm⟩:=M.ob
 have R:=M.each e he
 obtain⟨dp,hp⟩:=R.at'.ob
 have hg:e.g<e.ss.length:=(Qc.mp hx).1
 have tk:=ZrZ M.nd M.up he hx R.srt W
 refine⟨_,rfl,m,cMerge,dx,_,_,rfl,hm,T.cl_Merge,T.na_Merge_rows,Zb0 ..,_,rfl,rd,_,rfl,Zdo.k' (k:=.inl e.n) M.rows (ZfG M.nd he),?_⟩
 refine⟨_,rfl,e.p,cRow,dp,_,_,rfl,hp,T.cl_Row,T.na_Row_gone,ZcJ ..,_,_,rfl,rfl,dp,_,hp,Znv ..,?_⟩
 rw[Zgx,show ((e.g:Int)+1)=((e.g+1:Nat):Int) by lia]
 have M1:=M.bump he hg (dp:=dp)
 have hp1:(upd H e.p (.ins cRow dp (ZcX e.k e.f ((e.g+1:Nat):Int)))) e.p=some (.ins cRow dp (ZcX e.k e.f ((e.g+1:Nat):Int))):=Zb
 have k1:∀b o,H b=some o→b≠e.p→(upd H e.p (.ins cRow dp (ZcX e.k e.f ((e.g+1:Nat):Int)))) b=some o:=fun b o hb n=>by rw[Ze n];exact hb
 generalize upd H e.p (.ins cRow dp (ZcX e.k e.f ((e.g+1:Nat):Int)))=H1 at M1 hp1 k1 ⊢
 have hm':(⟨e.n,e.p,e.k,e.f,e.ss,e.g+1⟩:ZI)∈bump L e.n:=by
  have:ZcW e.n e∈bump L e.n:=Qn he
  rwa [Zex rfl]at this
 have R1:=M1.each _ hm'
 have keep1:∀ {H2:Hp},(∀b o,H1 b=some o→b≠m→b≠sd→H2 b=some o)→∀b o,H b=some o→¬ Fp m rd sd L b→H2 b=some o:=fun {H2} k b o hb nf =>
  k b o (k1 b o hb fun z=>nf (.inr (.inr (.inr ⟨e,he,.inl z⟩)))) (fun z=>nf (.inl z)) (fun z=>nf (.inr (.inr (.inl z))))
 have hpos:e.n∈ZG L:=W.1
 have h60:(ZG L).length≤60:=by unfold ZG;rw[Qa];exact M.few
 have hpw:(ZG L).length≤2 ^ 8:=QP h60 (by decide)
 obtain⟨cok,ctop,clen⟩:=Zge 8 (ZG L) e.n hpos hpw
 have hgo:hdM (bump L e.n) e.n=(e.ss[e.g+1]?).map cds:=Zjk M.nd he
 have hdd:∀ (c:Com),(c=none∧e.ss[e.g+1]? = none)∨(∃y,e.ss[e.g+1]? = some y∧c=some (e.n,((lcp (cds y) (cds x):Nat):Int)))→ZiN (hdM (bump L e.n)) (cds x) [e.n] c:=fun c hc=>by
  have hw:=Win.sing (hd:=hdM (bump L e.n)) (n:=e.n)
  rcases hc with⟨rfl,hn⟩|⟨y,hy,rfl⟩
  ·rw[hgo,hn]at hw
   exact⟨hw,fun p hp=>by cases hp⟩
  ·rw[hgo,hy]at hw
   exact⟨hw,fun p hp=>by cases hp;exact⟨cds y,by rw[hgo,hy];rfl,rfl⟩⟩
 refine⟨_,rfl,e.p,dp,_,rfl,hp1,Zb2 ..,e.p,e.k,e.f,e.ss,e.g+1,rfl,R1.at',rfl,_,rfl,?_⟩
 rw[Znn]
 refine Zqi (fun v H2=>ZA H1 H2∧∃c,CV H2 v c∧ZiN (hdM (bump L e.n)) (cds x) [e.n] c) (fun d Q' hq=>?_) (fun d Q' hq=>?_) (fun v H2 ⟨s2,c,hcv,hok⟩=>?_)
 ·have hn:e.ss[e.g+1]? = none:=by
   have:=of_decide_eq_true d
   cases hy:e.ss[e.g+1]? with
   | none=>rfl
   | some y=>rw[hy]at this;cases this
  exact hq _ _ ⟨ZA.refl _,none,.inl ⟨rfl,rfl⟩,hdd none (.inl ⟨rfl,hn⟩)⟩
 ·obtain⟨y,hy⟩:∃y,e.ss[e.g+1]? = some y:=by
   cases hy:e.ss[e.g+1]? with
   | none=>rw[hy]at d;exact absurd rfl (of_decide_eq_false d)
   | some y=>exact⟨y,rfl⟩
  have hyl:e.g+1<e.ss.length:=(Qc.mp hy).1
  have hal:ZcO e.ss (e.g+1)=((lcp (cds y) (cds x):Nat):Int):=by
   unfold ZcO
   rw[if_neg (by lia),QaG,Qm,Qm,hx,hy,Zcr]
   rfl
  have hat:atI ((List.range e.ss.length).map fun j=>V.int (ZcO e.ss j)) ((e.g+1:Nat):Int)=some (.int ((lcp (cds y) (cds x):Nat):Int)):=Zaf (by rw[Qk,Qan hyl,← hal];rfl)
  refine⟨_,rfl,_,rfl,e.p,cRow,dp,_,_,rfl,hp1,T.cl_Row,T.na_Row_fars,ZlG ..,_,rfl,e.p,cRow,dp,_,_,rfl,hp1,T.cl_Row,T.na_Row_gone,ZcJ ..,e.f,_,_,_,rfl,rfl,SqL.of R1.at'.fs,hat,(by show 2≤sizeLine;decide),fun tc htc=>?_⟩
  exact hq _ _ ⟨Zg htc _,some (e.n,((lcp (cds y) (cds x):Nat):Int)),.inr ⟨tc,_,rfl,rfl,Zb⟩,hdd _ (.inr ⟨y,hy,rfl⟩)⟩
 have M2:=M1.same s2
 obtain⟨dx2,hm2⟩:=M2.ob
 refine⟨_,rfl,m,cMerge,dx2,_,_,rfl,hm2,T.cl_Merge,T.na_Merge_rows,Zb0 ..,rd,_,rfl,M2.rows,fun l hl=>?_⟩
 rw[ZmT,Zce]
 have s3:=s2.trans (Zg hl (.lst ((ZG L).map V.int)))
 have hl3:(upd H2 l (.lst ((ZG L).map V.int))) l=some (.lst ((ZG L).map V.int)):=Zb
 have hcv3:CV (upd H2 l (.lst ((ZG L).map V.int))) v c:=hcv.keep fun t xs ht=>Zg hl _ _ _ ht
 generalize upd H2 l (.lst ((ZG L).map V.int))=H3 at s3 hl3 hcv3 ⊢
 refine⟨_,rfl,l,ZG L,e.n,rfl,hl3,hpos,h60,M.up,fun r ts H4 hr0 hr4 htl hts s4=>?_⟩
 have s14:=s3.trans s4
 have M4:=M1.same s14
 have hcv4:CV H4 v c:=hcv3.keep fun t xs ht=>s4 _ _ ht
 refine⟨r,rfl,⟨_,SqL.of hr4⟩,?_⟩
 obtain⟨dm4,hm4⟩:=M4.ob
 obtain⟨dm1,hm1⟩:=M1.ob
 have nrm:r≠m:=(Zc (s3 _ _ hm1) hr0).symm
 have nrs:r≠sd:=(Zc (s3 _ _ M1.stays) hr0).symm
 refine Zi8 (K:=K) (a:=r) (xs:=ts.map V.ref) (fun i σ H5=>∃ (v':V) (c':Com) (s':StL) (k q':Int) (v4:Option V),σ=[some (.ref m),some (.int e.n),some (.ref e.p),some v',v4]∧i≤ts.length∧CV H5 v' c'∧ZiN (hdM (bump L e.n)) (cds x) (low e.n (ZX 8 (ZG L) e.n) i) c'∧Zaa cRow cMerge H5 m rd sd (bump L e.n) s' nb (li+k) (lo'+q') best∧Z4 (hdM (bump L e.n)) s' (low e.n (ZX 8 (ZG L) e.n) i)∧(∀j,¬ Kys (low e.n (ZX 8 (ZG L) e.n) i) j→ZS s' j=ZS s j)∧Ag (hdM (bump L e.n)) (cds x) (Zek e.n ((ZX 8 (ZG L) e.n).take i)) k q'∧(∀b o,H4 b=some o→b≠m→b≠sd→H5 b=some o)) ?_ (fun i σ H5 _ hq=>by obtain⟨_,_,_,_,_,_,_,_,_,_,_,_,_,_,k5⟩:=hq;exact SqL.of (k5 _ _ hr4 nrm nrs)) ?_ ?_
 ·refine⟨v,c,s,0,0,_,rfl,Qv _,hcv4,hok,M4.cast (by lia) (by lia),fun X hX h2=>?_,fun _ _=>rfl,.nil,fun b o h _ _=>h⟩
  have:=ZeF hX
  rcases this with rfl|⟨g,_⟩
  ·exact absurd h2 (by show ¬ 2≤1;decide)
  ·exact absurd g (by show ¬ 2≤1;decide)
 ·rintro i y σ H5 hy ⟨v',c',s',k,q',v4,rfl,hi,hcv5,hok5,M5,nok,hlk,ag,k5⟩
  rw[Qk]at hy
  cases hz:ts[i]? with
  | none=>rw[hz]at hy;cases hy
  | some t =>
  rw[hz]at hy
  cases hy
  have hil:i<ts.length:=(Qc.mp hz).1
  cases hX:(ZX 8 (ZG L) e.n)[i]? with
  | none=>rw[QaR]at hX;lia
  | some X =>
  obtain⟨x1,x2,x3,x4⟩:=cok i X hX
  have hup:=x1.rise M.up
  have e3:low e.n (ZX 8 (ZG L) e.n) (i+1)=X:=by show (ZX 8 (ZG L) e.n).getD i []=X;rw[Qm,hX];rfl
  have ht5:H5 t=some (.tup [.int (ZP X).1,.int (ZP X).2]):=k5 _ _ (hts i t X hz hX) (fun z=>by have:=hts i t X hz hX;rw[z,hm4]at this;cases this) (fun z=>by have:=hts i t X hz hX;rw[z,M4.stays]at this;cases this)
  obtain⟨dm5,hm5⟩:=M5.ob
  rw[← x4]at hok5 nok hlk
  have was:=Zm7 tk x1 x2 x3 ok
  have hkey:ZS s' (ZP X)=ZS s (ZP X):=hlk _ fun z=>(ZiB hup x2 z).1 rfl
  refine⟨_,rfl,m,dm5,_,rfl,hm5,ZiP ..,_,rfl,_,rfl,m,rd,sd,bump L e.n,s',nb,_,_,best,t,v',c',cds x,X,e.n,rfl,M5,ht5,hcv5,hok5,?_,fun b hb y hy=>tk.ge (x1.mem hb) hy,hup,fun b hb=>by rw[Zce];exact x1.mem hb,x2,x3,fun v6 c6 s6 k6 q6 H6 hcv6 hok6 hnd6 hoth6 hag6 M6 k6'=>?_⟩
  ·rw[hkey]
   rcases was with w|⟨t',b,y,w1,w2,_,w4⟩
   ·exact .inl w
   ·exact .inr ⟨t',b,y,w1,w2,w4⟩
  ·refine⟨v6,c6,s6,k+k6,q'+q6,_,rfl,hil,hcv6,by rw[e3];exact hok6,M6.cast (by lia) (by lia),?_,fun j hj=>?_,?_,fun b o hb n1 n2=>k6' b o (k5 b o hb n1 n2) n1 n2⟩
   ·rw[e3]
    refine Zlp (n:=e.n) (nok.congr (fun _ _=>rfl) fun j hj=>hoth6 j (ZiB hup x2 hj).1) ?_ hnd6
    have hno:=Zgb hup (Zdv x3)
    have so:Sub X (Zaw X e.n):=by unfold Zaw;split;exact Sub.top.up x2;exact Sub.top.lo x2
    refine(ok.sub (x1.trans so)).congr (fun b hb=>tk.oth b fun z=>hno (z ▸ hb)) fun j hj=>?_
    rw[hoth6 j (Zim hup x2 hj).1,hlk j (Zim hup x2 hj).2]
   ·rw[e3]at hj
    rw[hoth6 j (fun z=>hj ⟨X,.top,x2,z⟩),hlk j (fun hq=>by obtain⟨Y,y1,y2,y3⟩:=hq;exact hj ⟨Y,(Zjj x2 e.n).trans y1,y2,y3⟩)]
   ·have:=hag6 _ _ _ ag
    unfold Zek at this ⊢
    rw[QM,hX,Qf]
    exact this
 ·rintro σ H5 ⟨v',c',s',k,q',v4,rfl,_,hcv5,hok5,M5,nok,hlk,ag,k5⟩
  rw[Qa,htl,ctop]at hok5 nok
  rw[Qa,htl,QB (Qi _)]at ag
  obtain⟨dm5,hm5⟩:=M5.ob
  have fin:∀w':Option Int,w'=c'.map (·.1)→Q .non (upd H5 m (.ins cMerge dm5 (mgF rd nb (li+k) (lo'+q') sd (ZeO w')))):=fun w' ew=>by
   subst ew
   refine q s' _ k q' _ M5.obj hok5.1 nok ag fun b o hb nf=>?_
   rw[Ze (fun z=>nf (.inl z))]
   exact keep1 (fun b o hb n1 n2=>k5 b o (s14 b o hb) n1 n2) b o hb nf
  rcases hcv5 with⟨rfl,rfl⟩|⟨t,p,rfl,rfl,ht⟩
  ·refine⟨_,rfl,rfl,_,rfl,ZdA rfl ?_⟩
   refine⟨_,rfl,m,cMerge,dm5,_,rfl,hm5,T.cl_Merge,T.na_Merge_best,Zcv ..,?_⟩
   rw[Zb8]
   exact fin none rfl
  ·refine⟨_,rfl,rfl,_,rfl,Zco (fun z=>nomatch z) ?_⟩
   refine⟨_,rfl,t,_,_,_,rfl,rfl,SqT.of ht,(show atI [V.int p.1,V.int p.2] 0=some (.int p.1) from Zaf (j:=0) rfl),_,rfl,m,cMerge,dm5,_,rfl,hm5,T.cl_Merge,T.na_Merge_best,Zcv ..,?_⟩
   rw[Zb8]
   exact fin (some p.1) rfl
def ZkI(L:List ZI)(w:Option Int)(x:V)(L':List ZI)(k q:Int)(H':Hp):Prop :=
 (w=none∧x=.non∧L'=L∧k=0∧q=0)∨∃ (e:ZI) (t:Addr) (z:Str),e∈L∧w=some e.n∧x=.ref t∧e.ss[e.g]? = some z∧H' t=some (.tup [.int e.n,.int (e.g:Int),.str z])∧L'=bump L e.n∧Ag (hdM L') (cds z) (Zek e.n (ZX 8 (ZG L) e.n)) k q
theorem ZjR(rd:Addr)(nb li lo:Int)(sd:Addr)(best:V):(mgF rd nb li lo sd best).lookup ("send_out" : Str)=none:=Zc7 _ _ _ _ _ _ (by ac_rfl) (by ac_rfl) (by ac_rfl) (by ac_rfl) (by ac_rfl) (by ac_rfl)
theorem Zju(rd:Addr)(nb li lo:Int)(sd:Addr)(best:V):(mgF rd nb li lo sd best).lookup ("take" : Str)=none:=Zc7 _ _ _ _ _ _ (by ac_rfl) (by ac_rfl) (by ac_rfl) (by ac_rfl) (by ac_rfl) (by ac_rfl)
def Znp(cR cM:Addr):Sp:=fun vs H Q _=>∃ (m rd sd:Addr) (L:List ZI) (s:StL) (nb li lo:Int) (w:Option Int),vs=[.ref m]∧Zaa cR cM H m rd sd L s nb li lo (ZeO w)∧Win (hdM L) (ZG L) w∧Z4 (hdM L) s (ZG L) ∧
 ∀ (x:V) (L':List ZI) (s':StL) (w':Option Int) (k q:Int) (H':Hp),ZkI L w x L' k q H'→Zaa cR cM H' m rd sd L' s' nb (li+k) (lo+q) (ZeO w')→Win (hdM L') (ZG L') w'→Z4 (hdM L') s' (ZG L')→(∀b o,H b=some o→¬ Fp m rd sd L b→H' b=some o)→Q x H'
theorem ZoD(T:Zao K mg cRow cMerge)(f_Merge_coming:Mf P w K mg base 3 cMerge "coming" ["self"] (Zjg cRow cMerge))(f_Merge_send_out:Mf P w K mg base 5 cMerge "send_out" ["self", "number"] (ZmY cRow cMerge)):Mf P w K mg base 6 cMerge "take" ["self"] (Znp cRow cMerge):=by
 refine T.t_Merge_take.mf Zd9 (fun vs H Q E h=>?_) (fun cdv f A outer s H vs Q E hr h=>?_)
 ·obtain⟨m,rd,sd,L,s,nb,li,lo,w,rfl,_⟩:=h
  rfl
 obtain⟨m,rd,sd,L,s,nb,li,lo',w,rfl,M,W,ok,q⟩:=h
 refine⟨_,#[Zf,#[Zu,1,Zd9.nd,(Or.inl rfl),#[Zdb,f_Merge_coming,T.cl_Merge,hr,‹0›]],#[Zf,#[Z9,#[Zn,ZhD,‹1›,#[Zav],(Zs _)],#[Zj,#[Zac,#[Zfi,f_Merge_send_out,T.cl_Merge,hr,‹0›,#[Za,#[Zae,‹0›],#[Zd]]]]],#[ZF]],#[Zj,#[Zp,‹1›]]]],?_⟩
 obtain⟨dx,hm⟩:=M.ob
 refine⟨_,rfl,m,dx,_,rfl,hm,Zh7 ..,m,rd,sd,L,s,nb,li,lo',w,rfl,M,W,fun x H1 hc s1=>?_⟩
 have M1:=M.same s1
 rcases hc with⟨rfl,hw⟩|⟨t,e',z,rfl,he',hz,ht,hw⟩
 ·have hw':Win (hdM L) (ZG L) none:=by rw[Zez]at hw;exact hw
  have ew:=W.one hw'
  subst ew
  exact⟨_,rfl,rfl,_,rfl,Zha rfl ⟨_,rfl,q .non L s none 0 0 H1 (.inl ⟨rfl,rfl,rfl,rfl,rfl⟩) (M1.cast (by lia) (by lia)) W ok (fun b o hb _=>s1 b o hb)⟩⟩
 ·obtain⟨e,he,rfl⟩:=Qx.mp he'
  have hw':Win (hdM L) (ZG L) (some e.n):=by rw[Zez]at hw;exact hw
  have ew:=W.one hw'
  subst ew
  obtain⟨dx1,hm1⟩:=M1.ob
  refine⟨_,rfl,rfl,_,rfl,ZpM (fun z=>nomatch z) ?_⟩
  refine⟨_,rfl,m,dx1,_,rfl,hm1,ZjR ..,_,rfl,m,cMerge,dx1,_,_,rfl,hm1,T.cl_Merge,T.na_Merge_best,Zds ..,m,rd,sd,L,s,nb,li,lo',_,e,z,rfl,M1,he,hz,W,ok,fun s' w' k q' H2 M2 W2 ok2 ag k2=>?_⟩
  have ht2:H2 t=some (.tup [.int e.n,.int (e.g:Int),.str z]):=k2 _ _ ht fun hf=>by
   have ht':=ht
   rcases hf with h|h|h|⟨y,hy,h⟩
   ·rw[h,hm1]at ht';cases ht'
   ·rw[h,M1.rows]at ht';cases ht'
   ·rw[h,M1.stays]at ht';cases ht'
   ·have R:=(M1.each y hy).at'
    obtain⟨dy,hdy⟩:=R.ob
    rcases h with h|h|h
    ·rw[h,hdy]at ht';cases ht'
    ·rw[h,R.ks]at ht';cases ht'
    ·rw[h,R.fs]at ht';cases ht'
  exact⟨_,rfl,q (.ref t) (bump L e.n) s' w' k q' H2 (.inr ⟨e,t,z,he,rfl,rfl,hz,ht2,rfl,ag⟩) M2 (by rw[Zce];exact W2) (by rw[Zce];exact ok2) (fun b o hb nf=>k2 b o (s1 b o hb) nf)⟩
abbrev ZN:=Int×List Str×Nat
def Zb4(L:List ZI):List ZN:=L.map fun e=>(e.n,(e.ss,e.g))
def hdP(P:List ZN):Hd:=hdL (P.map fun x=>(x.1,0,x.2))
def ZaU(P:List ZN):List Int:=P.map (·.1)
def Zat(n:Int)(x:ZN):ZN:=if x.1=n then (x.1,x.2.1,x.2.2+1) else x
def ZbF(P:List ZN)(n:Int):List ZN:=P.map (Zat n)
theorem Zfr(L:List ZI):hdM L=hdP (Zb4 L):=Zks _ _ (by unfold Zb4;rw[QE,QE,QE];rfl)
theorem Zc2(L:List ZI):ZG L=ZaU (Zb4 L):=by unfold ZaU Zb4 ZG;rw[QE];rfl
theorem Zhg(L:List ZI)(n:Int):Zb4 (bump L n)=ZbF (Zb4 L) n:=by
 unfold Zb4 bump ZbF
 rw[QE,QE]
 refine QN fun e _=>?_
 simp only[Function.comp]
 unfold Zat
 by_cases h:e.n=n
 ·rw[Zex h,if_pos h]
 ·rw[Zgj h,if_neg h]
theorem ZhC(P:List ZN)(n:Int):ZaU (ZbF P n)=ZaU P:=by
 unfold ZaU ZbF
 rw[QE]
 refine QN fun x _=>?_
 simp only[Function.comp]
 unfold Zat
 split<;>rfl
theorem ZfO{P:List ZN}(nd:(ZaU P).Nodup){x:ZN}(h:x∈P):hdP P x.1=(x.2.1[x.2.2]?).map cds :=
 ZjS (L:=P.map fun x:ZN=>((x.1,0,x.2):Zd1)) (e:=(x.1,0,x.2)) (by rw[QE];exact nd) (Qn (f:=fun x:ZN=>((x.1,0,x.2):Zd1)) h)
def Zmz(P:List ZN)(x:ZN)(z:Str)(k q:Int):Prop:=x∈P∧x.2.1[x.2.2]? = some z∧Win (hdP P) (ZaU P) (some x.1)∧Ag (hdP (ZbF P x.1)) (cds z) (Zek x.1 (ZX 8 (ZaU P) x.1)) k q
abbrev ZaF:=Int×Nat×Str
inductive ZcM (P:List ZN):List ZaF→List ZN→Int→Int→Prop
 | nil:ZcM P [] P 0 0
 | snoc {ts:List ZaF} {P1:List ZN} {x:ZN} {z:Str} {k q k1 q1:Int}:ZcM P ts P1 k q→Zmz P1 x z k1 q1→ZcM P (ts++[(x.1,x.2.2,z)]) (ZbF P1 x.1) (k+k1) (q+q1)
inductive Zfl:List ZN→Int→Int→Prop
 | stop {P:List ZN}:Win (hdP P) (ZaU P) none→Zfl P 0 0
 | go {P:List ZN} {x:ZN} {z:Str} {k q k1 q1:Int}:Zmz P x z k1 q1→Zfl (ZbF P x.1) k q→Zfl P (k1+k) (q1+q)
theorem ZcM.num{P P':List ZN}{ts:List ZaF}{k q:Int}(h:ZcM P ts P' k q):ZaU P'=ZaU P:=by
 induction h with
 | nil=>rfl
 | snoc _ _ ih=>rw[ZhC,ih]
def Zbd(P:List ZN):Nat:=(P.map fun x=>x.2.1.length-x.2.2).sum
theorem ZdX:∀ (P:List ZN),(ZaU P).Nodup→∀ {x:ZN},x∈P→x.2.2<x.2.1.length→Zbd (ZbF P x.1)+1=Zbd P
 | [],_,_,h,_=>by cases h
 | y::P,nd,x,h,hlt=>by
  unfold ZaU at nd
  rw[Ql,Q3]at nd
  unfold Zbd ZbF
  rw[Ql,Ql,Ql,QV,QV]
  rcases QO.mp h with rfl|h
  ·have e:P.map (Zat x.1)=P:=by
    conv=>rhs;rw[← List.map_id P]
    refine QN fun u hu=>?_
    unfold Zat
    rw[if_neg (fun z:u.1=x.1=>nd.1 (z ▸ Qn (f:=fun x:ZN=>x.1) hu))]
    rfl
   rw[e]
   unfold Zat
   rw[if_pos rfl]
   show x.2.1.length-(x.2.2+1)+_+1=_
   lia
  ·have ih:=ZdX P nd.2 h hlt
   unfold Zbd ZbF at ih
   have e:Zat x.1 y=y:=if_neg (fun z:y.1=x.1=>nd.1 (z ▸ Qn (f:=fun x:ZN=>x.1) h))
   rw[e]
   lia
theorem ZcM.left{P P':List ZN}{ts:List ZaF}{k q:Int}(h:ZcM P ts P' k q)(nd:(ZaU P).Nodup):Zbd P'+ts.length=Zbd P:=by
 induction h with
 | nil=>rfl
 | snoc h s ih =>
  have:=ZdX _ (by rw[h.num];exact nd) s.1 (Qc.mp s.2.1).1
  rw[Qg,Qj]
  lia
theorem ZlR{L L':List ZI}{w:Option Int}{x:V}{k q:Int}{H:Hp}(W:Win (hdM L) (ZG L) w)(h:ZkI L w x L' k q H):(Win (hdP (Zb4 L)) (ZaU (Zb4 L)) none∧x=.non∧L'=L∧k=0∧q=0)∨∃ (y:ZN) (z:Str) (t:Addr),Zmz (Zb4 L) y z k q∧Zb4 L'=ZbF (Zb4 L) y.1∧x=.ref t∧H t=some (.tup [.int y.1,.int (y.2.2:Int),.str z]):=by
 rw[Zfr,Zc2]at W
 rcases h with⟨rfl,h1,h2,h3,h4⟩|⟨e,t,z,he,rfl,rfl,hz,ht,rfl,ag⟩
 ·exact .inl ⟨W,h1,h2,h3,h4⟩
 ·refine .inr ⟨(e.n,(e.ss,e.g)),z,t,⟨Qn (f:=fun e:ZI=>(e.n,(e.ss,e.g))) he,hz,W,?_⟩,Zhg L e.n,rfl,ht⟩
  rw[Zfr,Zhg,Zc2]at ag
  exact ag
def ZpK(K:PySem.W.Frag)(cR cM:Addr):Sp:=fun vs H Q _=>∃ (m rd sd:Addr) (L:List ZI) (s:StL) (nb li lo:Int) (w:Option Int) (many:Int),vs=[.ref m,.int many]∧Zaa cR cM H m rd sd L s nb li lo (ZeO w)∧Win (hdM L) (ZG L) w∧Z4 (hdM L) s (ZG L)∧Zbd (Zb4 L)≤100000 ∧
 ∀ (r:Addr) (us:List (Addr×ZaF)) (L':List ZI) (s':StL) (w':Option Int) (k q:Int) (H':Hp),H r=none→H' r=some (.lst (us.map fun u=>V.ref u.1))→(∀u∈us,H' u.1=some (.tup [.int u.2.1,.int (u.2.2.1:Int),.str u.2.2.2]))→ZcM (Zb4 L) (us.map (·.2)) (Zb4 L') k q→((us.length:Int)<many→w'=none)→(us≠[]→(us.length:Int)≤many)→Zaa cR cM H' m rd sd L' s' nb (li+k) (lo+q) (ZeO w')→Win (hdM L') (ZG L') w'→Z4 (hdM L') s' (ZG L')→(∀b,Fp m rd sd L' b↔Fp m rd sd L b)→(∀b o,H b=some o→¬ Fp m rd sd L b→H' b=some o)→Q (.ref r) H'
theorem ZkI.fp{L L':List ZI}{w:Option Int}{x:V}{k q:Int}{H:Hp}(h:ZkI L w x L' k q H){m rd sd b:Addr}:Fp m rd sd L' b↔Fp m rd sd L b:=by
 rcases h with⟨_,_,rfl,_⟩|⟨e,t,z,_,_,_,_,_,rfl,_⟩
 ·exact Iff.rfl
 ·exact⟨Zpq,Fp_bump'⟩
theorem Zaa.fp_live{cR cM:Addr}{H:Hp}{m rd sd:Addr}{L:List ZI}{s:StL}{nb li lo:Int}{best:V}(M:Zaa cR cM H m rd sd L s nb li lo best){b:Addr}(h:Fp m rd sd L b):∃o,H b=some o∧∀xs,o≠.tup xs:=by
 rcases h with rfl|rfl|rfl|⟨e,he,h⟩
 ·obtain⟨dx,hd⟩:=M.ob;exact⟨_,hd,fun xs z=>by cases z⟩
 ·exact⟨_,M.rows,fun xs z=>by cases z⟩
 ·exact⟨_,M.stays,fun xs z=>by cases z⟩
 ·have R:=(M.each e he).at'
  obtain⟨dx,hd⟩:=R.ob
  rcases h with rfl|rfl|rfl
  ·exact⟨_,hd,fun xs z=>by cases z⟩
  ·exact⟨_,R.ks,fun xs z=>by cases z⟩
  ·exact⟨_,R.fs,fun xs z=>by cases z⟩
theorem Zaa.fp_fresh{cR cM:Addr}{H:Hp}{m rd sd:Addr}{L:List ZI}{s:StL}{nb li lo:Int}{best:V}(M:Zaa cR cM H m rd sd L s nb li lo best){b:Addr}(h:H b=none):¬ Fp m rd sd L b:=fun z=>by
 obtain⟨o,ho,_⟩:=M.fp_live z
 rw[h]at ho;cases ho
theorem Zaa.fp_tup{cR cM:Addr}{H:Hp}{m rd sd:Addr}{L:List ZI}{s:StL}{nb li lo:Int}{best:V}(M:Zaa cR cM H m rd sd L s nb li lo best){b:Addr}{xs:List V}(h:H b=some (.tup xs)):¬ Fp m rd sd L b:=fun z=>by
 obtain⟨o,ho,hn⟩:=M.fp_live z
 rw[h]at ho;cases ho;exact hn xs rfl
theorem Zqr(T:Zao K mg cRow cMerge)(f_Merge_take:Mf P w K mg base 6 cMerge "take" ["self"] (Znp cRow cMerge)):Mf P w K mg base 7 cMerge "take_few" ["self", "many"] (ZpK K cRow cMerge):=by
 refine T.t_Merge_take_few.mf Zcw (fun vs H Q E h=>?_) (fun cdv f A outer s H vs Q E hr h=>?_)
 ·obtain⟨m,rd,sd,L,s,nb,li,lo,w,many,rfl,_⟩:=h
  rfl
 obtain⟨m,rd,sd,L,s,nb,li,lo',w,many,rfl,M,W,ok,hleft,q⟩:=h
 refine⟨_,#[Zf,#[Zu,2,Zcw.nd,(Or.inl rfl),#[Zai,#[Zd]]],#[Zf,(@ZcT _ _ _ _ _ _ PassesOwn.never (@PW.pt _ _ _ #[Ze8,#[Zn,Zd4,#[Zk,(ZbC K),(by rfl),T.b.n_len,Qw,#[Za,‹2›,#[Zd]]],‹1›,(Zs _)],(@Zey _ _ _ _ #[Zn,ZhD,#[Zae,‹0›],#[Zav],(Zs _)])]) #[Zj,#[Zac,#[ZbY,QD,QH,QI,Z7,‹2›,#[Za,#[Zdb,f_Merge_take,T.cl_Merge,hr,‹0›],#[Zd]]]]]),#[Zj,#[Zp,‹2›]]]],?_⟩
 have nd:(ZaU (Zb4 L)).Nodup:=by rw[← Zc2];exact M.nd
 refine⟨(by show 0≤sizeLine;decide),fun r hr0=>?_⟩
 have nfr:=M.fp_fresh hr0
 refine⟨fun mm σ H2=>∃ (us:List (Addr×ZaF)) (L':List ZI) (s':StL) (w':Option Int) (k q':Int),σ=[some (.ref m),some (.int many),some (.ref r)]∧H2 r=some (.lst (us.map fun u=>V.ref u.1))∧(∀u∈us,u.1≠r∧H2 u.1=some (.tup [.int u.2.1,.int (u.2.2.1:Int),.str u.2.2.2]))∧ZcM (Zb4 L) (us.map (·.2)) (Zb4 L') k q'∧(us≠[]→(us.length:Int)≤many)∧Zaa cRow cMerge H2 m rd sd L' s' nb (li+k) (lo'+q') (ZeO w')∧Win (hdM L') (ZG L') w'∧Z4 (hdM L') s' (ZG L')∧(∀b,Fp m rd sd L' b↔Fp m rd sd L b)∧(∀b o,H b=some o→¬ Fp m rd sd L b→H2 b=some o)∧mm=Zbd (Zb4 L'),⟨_,[],L,s,w,0,0,rfl,Zb,(fun u h=>by cases h),.nil,(fun h=>absurd rfl h),(M.same (Zg hr0 _)).cast (by lia) (by lia),W,ok,fun _=>Iff.rfl,fun b o hb _=>Zg hr0 _ _ _ hb,rfl⟩,?_⟩
 rintro mm σ H2 ⟨us,L1,s1,w1,k,q',rfl,hr2,hus,htk,hmany,M2,W2,ok2,hfp,k2,rfl⟩
 have hul:(((us.map fun u=>V.ref u.1).length:Nat):Int)=(us.length:Int):=by rw[Qa]
 have hlf:=htk.left nd
 rw[Qa]at hlf
 obtain⟨dx2,hm2⟩:=M2.ob
 have done:((us.length:Int)<many→w1=none)→Q (.ref r) H2:=fun hd=>q r us L1 s1 w1 k q' H2 hr0 hr2 (fun u hu=>(hus u hu).2) htk hd hmany M2 W2 ok2 hfp k2
 refine⟨_,rfl,r,_,rfl,.inl (SqL.of hr2),_,rfl,_,_,rfl,rfl,_,rfl,Za3 (fun d1=>?_) (fun d1=>?_)⟩
 ·have d1':(us.length:Int)<many:=by have:=of_decide_eq_true d1;lia
  refine⟨_,rfl,m,cMerge,dx2,_,_,rfl,hm2,T.cl_Merge,T.na_Merge_best,Zds ..,rfl,_,rfl,?_⟩
  cases w1 with
  | none=>exact Zha rfl ⟨_,rfl,done fun _=>rfl⟩
  | some a =>
  refine ZpM (fun z=>nomatch z) ?_
  refine⟨_,fun σ' H' h=>h,?_⟩
  refine⟨_,rfl,.inl ⟨rfl,_,SqL.of hr2⟩,_,rfl,m,dx2,_,rfl,hm2,Zju ..,m,rd,sd,L1,s1,nb,_,_,some a,rfl,M2,W2,ok2,fun x L3 s3 w3 k3 q3 H3 hR M3 W3 ok3 kp3=>?_⟩
  have hr3:H3 r=some (.lst (us.map fun u=>V.ref u.1)):=kp3 _ _ hr2 (fun z=>nfr ((hfp r).mp z))
  rcases ZlR W2 hR with⟨w0,_⟩|⟨y,z,t,stp,eL,rfl,ht⟩
  ·rw[Zfr,Zc2]at W2
   exact nomatch w0.one W2
  have hbl:=ZdX _ (by rw[htk.num];exact nd) stp.1 (Qc.mp stp.2.1).1
  have htr:t≠r:=fun e=>by rw[e,hr3]at ht;cases ht
  refine⟨r,_,_,rfl,rfl,hr3,(by rw[Qa,sizeLine_eq];lia),Zbd (Zb4 L3),by rw[eL];lia,us++[(t,(y.1,y.2.2,z))],L3,s3,w3,k+k3,q'+q3,rfl,by rw[Zb,Qf];rfl,fun u hu=>?_,?_,fun _=>by rw[Qg,Qj];lia,?_,W3,ok3,fun b=>(hR.fp).trans (hfp b),fun b o hb nf=>?_,rfl⟩
  ·rcases Qh.mp hu with hu|hu
   ·obtain⟨g2,g3⟩:=hus u hu
    exact⟨g2,by rw[Ze g2];exact kp3 _ _ g3 (M2.fp_tup g3)⟩
   ·rw[Qe.mp hu]
    exact⟨htr,by rw[Ze htr];exact ht⟩
  ·rw[Qf,eL]
   exact .snoc htk stp
  ·refine Zaa.cast (M3.keep fun b o hb hor=>?_) (by lia) (by lia)
   rw[Ze (fun e=>?_)]
   ·exact hb
   ·subst e
    rcases hor with hf|⟨xs,rfl⟩
    ·exact nfr ((hfp b).mp (hR.fp.mp hf))
    ·rw[hr3]at hb;cases hb
  ·rw[Ze (Zc hb hr0)]
   exact kp3 b o (k2 b o hb nf) (fun z=>nf ((hfp b).mp z))
 ·refine Zcz ⟨_,rfl,done fun h=>?_⟩
  have:¬ ((((us.map fun u=>V.ref u.1).length:Nat):Int)<many):=fun z=>d1 (decide_eq_true z)
  lia
structure MS where
 m:Addr
 rd:Addr
 sd:Addr
 L:List ZI
 s:StL
 nb:Int
 li:Int
 lo:Int
 w:Option Int
structure OS where
 o:Addr
 ra:Addr
 ga:Addr
 Lo:List Zd1
 nb:Int
def Zsq(Y:OS)(b:Addr):Prop:=b=Y.o∨b=Y.ra∨b=Y.ga∨∃e∈Y.Lo,b=e.2.1
def MFp(X:MS)(b:Addr):Prop:=Fp X.m X.rd X.sd X.L b
structure MOk (cR cM:Addr) (H:Hp) (X:MS):Prop where
 M:Zaa cR cM H X.m X.rd X.sd X.L X.s X.nb X.li X.lo (ZeO X.w)
 W:Win (hdM X.L) (ZG X.L) X.w
 ok:Z4 (hdM X.L) X.s (ZG X.L)
structure Pair (cR cM:Addr) (H:Hp) (X:MS) (Y:OS):Prop where
 mg:MOk cR cM H X
 ow:Own H Y.o Y.ra Y.ga Y.Lo Y.nb X.li X.lo
 ag:Agr Y.Lo X.L
 sep:∀b,MFp X b→¬ Zsq Y b
theorem Zk0{P:List ZN}(nd:(ZaU P).Nodup)(h:Win (hdP P) (ZaU P) none)(ok:∀x∈P,x.2.2≤x.2.1.length):Zbd P=0:=by
 unfold Zbd
 have:∀l:List Nat,(∀a∈l,a=0)→l.sum=0:=fun l hl=>by
  induction l with
  | nil=>rfl
  | cons b r ih=>rw[QV,hl b (by simp),ih fun a ha=>hl a (Qy _ ha)]
 refine this _ fun a ha=>?_
 obtain⟨x,hx,rfl⟩:=Qx.mp ha
 have hh:=h x.1 (Qn (f:=fun x:ZN=>x.1) hx)
 rw[ZfO nd hx]at hh
 cases hg:x.2.1[x.2.2]? with
 | none=>rw[QaR]at hg;show x.2.1.length-x.2.2=0;lia
 | some y=>rw[hg]at hh;cases hh
def Zjz(rs:List (Addr×List Str)):List ZN:=(Zaj 0 rs.length).zip (rs.map fun x=>(x.2,0))
theorem ZkM{α β γ:Type}(f:α→β)(g:α→γ):∀l:List α,l.map (fun x=>(f x,g x))=(l.map f).zip (l.map g)
 | []=>rfl
 | x::r=>by rw[Ql,Ql,Ql,Qas,ZkM f g r]
theorem ZmN{L:List ZI}{rs:List (Addr×List Str)}(h:ZqI L rs):Zb4 L=Zjz rs:=by
 unfold Zb4 Zjz
 rw[ZkM (fun e:ZI=>e.n) (fun e=>(e.ss,e.g)) L,← h.1,← h.2];rfl
theorem Zl6(rs:List (Addr×List Str)):Zbd (Zjz rs)=(rs.map fun x=>x.2.length).sum:=by
 unfold Zbd Zjz
 have e:((Zaj 0 rs.length).zip (rs.map fun x=>(x.2,0))).map (fun x:ZN=>x.2.1.length-x.2.2)=((((Zaj 0 rs.length).zip (rs.map fun x=>(x.2,0))).map (·.2))).map (fun y:List Str×Nat=>y.1.length-y.2):=by rw[QE];rfl
 rw[e,List.map_snd_zip (by rw[Qa,ZaQ];exact Qi _),QE]
 rfl
def ZgP:Sp:=fun vs H Q _=>∃ (r:Addr) (rs:List (Addr×List Str)),vs=[.ref r]∧Zeg H r rs∧∀H':Hp,ZA H H'→Q (.int (((rs.map fun x=>x.2.length).sum:Nat):Int)) H'
theorem Zi2:∀rs:List (Addr×List Str),(rs.map fun x=>(x.2.length:Int)).sum=(((rs.map fun x=>x.2.length).sum:Nat):Int)
 | []=>rfl
 | x::r=>by rw[Ql,Ql,QV,QV,Zi2 r,Int.natCast_add]
theorem Ziq(T:Zao K mg cRow cMerge):Df P w K mg base 1 "how_many" ["rows"] ZgP:=by
 refine T.t_how_many.df Zir (fun vs H Q E h=>?_) (fun cdv f A outer s H vs Q E hr h=>?_)
 ·obtain⟨r,rs,rfl,_⟩:=h
  rfl
 obtain⟨r,rs,rfl,hrs,q⟩:=h
 refine⟨_,#[Zj,#[Zp,#[Zk,(Zrp K),(by rfl),T.b.n_sum,boot_sum,#[Za,#[Za8,Zpg,#[iL,K,‹0›],(fun _ _ _ _=>#[cg,1,Zpg]),(fun _ _ _ _=>(@ZaC _)),(fun _ _ _ _=>#[Zk,(ZbC K),(ZbQ Zpg rfl (by ac_rfl)),T.b.n_len,Qw,#[Za,#[cw,1,Zpg],#[Zd]]])],#[Zd]]]]],?_⟩
 have hfew:=hrs.few
 refine⟨_,rfl,r,rfl,⟨_,SqL.of hrs.at'⟩,fun D hD=>?_⟩
 refine Zbh (K:=K) (a:=r) (xs:=rs.map fun x=>V.ref x.1) (fun i zs σ H2=>(∃v:Option V,σ=[some (.ref r),v])∧zs=((rs.take i).map fun x=>(x.2.length:Int)).map V.int∧i≤rs.length∧H2 D=some (.lst zs)∧ZA H H2) ?_ (fun _ _ _ _ h=>SqL.of (h.2.2.2.2 _ _ hrs.at')) ?_ ?_
 ·exact⟨⟨none,rfl⟩,rfl,Qv _,Zb,Zg hD _⟩
 ·rintro i y zs σ H2 hy ⟨⟨v,rfl⟩,rfl,hi,hD2,s2⟩
  rw[Qk]at hy
  cases hz:rs[i]? with
  | none=>rw[hz]at hy;cases hy
  | some x =>
  rw[hz]at hy
  cases hy
  have hil:i<rs.length:=(Qc.mp hz).1
  refine⟨_,rfl,x.1,_,rfl,.inl (SqL.of (s2 _ _ (hrs.lst x (Qr hz)).1)),hD2,(by rw[Qa,Qa,QC];exact Zx (by lia)),⟨_,rfl⟩,?_,hil,Zb,fun b u hb=>?_⟩
  ·rw[QM,hz,Qf,Qf,Qa];rfl
  ·rw[Ze (Zc hb hD)];exact s2 b u hb
 rintro zs σ H2 ⟨⟨v,rfl⟩,rfl,_,hD2,s2⟩
 rw[Qa,QB (Qi _)]at hD2
 refine⟨D,_,rfl,SqL.of hD2,by rw[Qa];lia,fun n hn=>?_,?_⟩
 ·obtain⟨x,hx,rfl⟩:=Qx.mp hn
  have:=(hrs.lst x hx).2.1
  lia
 ·rw[Zi2];exact q H2 s2
theorem Zk7(rd:Addr)(nb li lo:Int)(sd:Addr)(best:V):(mgF rd nb li lo sd best).lookup ("take_few" : Str)=none:=Zc7 _ _ _ _ _ _ (by ac_rfl) (by ac_rfl) (by ac_rfl) (by ac_rfl) (by ac_rfl) (by ac_rfl)
theorem Zqe(rs:List (Addr×List Str))(h:∀x∈rs,x.2.length≤100):(rs.map fun x=>x.2.length).sum≤rs.length*100:=by
 induction rs with
 | nil=>exact Qi _
 | cons x r ih =>
  have:=ih fun y hy=>h y (Qy _ hy)
  have:=h x (by simp)
  rw[Ql,QV,QK]
  lia
theorem ZnZ{L':List ZI}{P:List ZN}{ts:List ZaF}{k q:Int}{w':Option Int}{many:Nat}(nd:(ZaU P).Nodup)(h:ZcM P ts (Zb4 L') k q)(h1:(ts.length:Int)<(many:Int)→w'=none)(h2:ts≠[]→(ts.length:Int)≤(many:Int))(W:Win (hdM L') (ZG L') w')(ok:∀x∈Zb4 L',x.2.2≤x.2.1.length):ts.length=min many (Zbd P):=by
 have hl:=h.left nd
 by_cases hlt:(ts.length:Int)<(many:Int)
 ·have e:=h1 hlt
  subst e
  rw[Zfr,Zc2]at W
  have hz:=Zk0 (by rw[h.num];exact nd) W ok
  lia
 ·by_cases hn:ts=[]
  ·subst hn
   simp only[List.length_nil]at hlt ⊢
   lia
  ·have:=h2 hn
   lia
theorem ZiT:∀ns:List Int,PyData.canLayAll0 (ns.map PyData.int)=true
 | []=>rfl
 | x::r=>by simp[PyData.canLayAll0,PyData.canLay0,ZiT r]
theorem ZfE:∀ns:List Int,PyData.depthAll (ns.map PyData.int)=0
 | []=>rfl
 | _::r=>by simp[PyData.depthAll,PyData.depth,ZfE r]
theorem Zbw(ns:List Int):SeqAt.shaped (.list (ns.map PyData.int))=true:=by simp[SeqAt.shaped,PyData.canLay0,PyData.depth,ZiT ns,ZfE]
theorem Zfv{K:PySem.W.Frag}{H:Hp}:∀ns:List Int,DVs K H (ns.map V.int) (ns.map PyData.int)
 | []=>.nil
 | s::r=>.cons (.int s) (Zfv r)
theorem Zfa:∀a b:List Nat,Spec.ltCps a b=true↔a<b
 | [],[]=>by simp[Spec.ltCps]
 | [],y::s=>by simp[Spec.ltCps]
 | x::r,[]=>by simp[Spec.ltCps]
 | x::r,y::s=>by
  have ih:=Zfa r s
  rw[List.cons_lt_cons_iff]
  simp[Spec.ltCps,ih]
def LeS(a b:Str):Prop:=¬ b.cps.toList<a.cps.toList
theorem LeS.trans{a b c:Str}(h:LeS a b)(k:LeS b c):LeS a c:=List.not_lt.mpr (List.le_trans (List.not_lt.mp h) (List.not_lt.mp k))
theorem Zg7:∀ (r:List Str) (x:Str),risingS x r=true↔(x::r).Pairwise LeS
 | [],x=>by simp[risingS]
 | y::r,x=>by
  have ih:=Zg7 r y
  rw[List.pairwise_cons]
  unfold risingS
  rw[QaP,Bool.not_eq_true']
  constructor
  ·rintro⟨h1,h2⟩
   have p:=ih.mp h2
   have hxy:LeS x y:=fun z=>by rw[(Zfa _ _).mpr z]at h1;cases h1
   refine⟨fun b hb=>?_,p⟩
   rcases QO.mp hb with rfl|hb
   ·exact hxy
   ·exact hxy.trans ((List.pairwise_cons.mp p).1 b hb)
  ·rintro⟨h1,h2⟩
   exact⟨Bool.eq_false_iff.mpr fun z=>h1 y (by simp) ((Zfa _ _).mp z),ih.mpr h2⟩
theorem Zew(ss:List Str):sortedS ss=true↔ss.Pairwise LeS:=by
 cases ss with
 | nil=>simp[sortedS]
 | cons x r=>exact Zg7 r x
def ZiJ:Sp:=fun vs H Q _=>∃ (r:Addr) (rs:List (Addr×List Str)),vs=[.ref r]∧Zeg H r rs∧(∀x∈rs,sortedS x.2=true) ∧
 ∀ (t:Addr) (us:List (Addr×ZaF)) (P':List ZN) (k q:Int) (H':Hp),ZcM (Zjz rs) (us.map (·.2)) P' k q→us.length=(rs.map fun x=>x.2.length).sum→H' t=some (.lst (us.map fun u=>V.ref u.1))→(∀u∈us,H' u.1=some (.tup [.int u.2.1,.int (u.2.2.1:Int)]))→H t=none→(∀u∈us,H u.1=none)→ZA H H'→Q (.ref t) H'
theorem ZlE(T:Zao K mg cRow cMerge)(f_Merge_init:Cf P w K mg base 14 cMerge "Merge" ["self", "rows"] (Zfe cRow cMerge))(f_Merge_take_few:Mf P w K mg base 7 cMerge "take_few" ["self", "many"] (ZpK K cRow cMerge))(f_how_many:Df P w K mg base 1 "how_many" ["rows"] ZgP):Df P w K mg base 16 "merged" ["rows"] ZiJ:=by
 refine T.t_merged.df Zls (fun vs H Q E h=>?_) (fun cdv f A outer s H vs Q E hr h=>?_)
 ·obtain⟨r,rs,rfl,_⟩:=h
  rfl
 obtain⟨r,rs,rfl,hrs,hsrt,q⟩:=h
 refine⟨_,#[Zj,#[Zp,#[Za8,Zk5,#[iL,K,#[Zfi,f_Merge_take_few,T.cl_Merge,hr,#[ZpJ,f_Merge_init,hr,#[Za,‹0›,#[Zd]]],#[Za,#[ZD,f_how_many,hr,#[Za,‹0›,#[Zd]],(by rfl)],#[Zd]]]],(fun _ _ _ _=>#[gT,K,3,#[Zw,#[cg,1,Zk5],#[Zw,#[cg,2,Zk5],#[Zw,#[cg,3,Zk5],(@ZaD _)]]]]),(fun _ _ _ _=>(@ZaC _)),(fun _ _ _ _=>#[ZH,#[Za,#[cw,1,Zk5],#[Za,#[cw,2,Zk5],#[Zd]]]])]]],?_⟩
 refine⟨_,rfl,fun m dx hm hdx nmd=>?_⟩
 have s1:ZA H (upd (upd H dx (.own m)) m (.ins cMerge dx [])):=fun b o hb=>by rw[Ze (Zc hb hm),Ze (Zc hb hdx)];exact hb
 have hm1:(upd (upd H dx (.own m)) m (.ins cMerge dx [])) m=some (.ins cMerge dx []):=Zb
 generalize upd (upd H dx (.own m)) m (.ins cMerge dx [])=H1 at s1 hm1 ⊢
 refine⟨m,dx,r,rs,rfl,hm1,hrs.same s1,hsrt,fun rd sd L st w0 k0 q0 H2 M2 hnew W2 S2 P2 fp2 k2=>⟨rfl,?_⟩⟩
 have s2:ZA H H2:=fun b o hb=>k2 b o (s1 b o hb) (Zc hb hm)
 have fpH:∀b,Fp m rd sd L b→H b=none:=fun b hb=>by
  rcases fp2 b hb with z|z
  ·rw[z];exact hm
  ·exact s1.free z
 have ok2:=Zf1 8 (hdM L) st (ZG L) M2.up (QP (show (ZG L).length≤60 by unfold ZG;rw[Qa];exact M2.few) (by decide)) (by decide) S2
 have eP:=ZmN hnew
 obtain⟨dx2,hm2⟩:=M2.ob
 have hsum:=Zqe rs fun x hx=>(hrs.lst x hx).2.1
 have hfew:=hrs.few
 have hl:=Zl6 rs
 refine⟨m,dx2,_,rfl,hm2,Zk7 ..,_,rfl,r,rs,rfl,hrs.same s2,fun H3 s3=>?_⟩
 have M3:=M2.same s3
 refine⟨m,rd,sd,L,st,_,k0,q0,w0,_,rfl,M3,W2,ok2,by rw[eP,hl];lia,fun rr us L' s' w' k1 q1 H4 hrr hrr4 hus htk hfin hmany M4 W4 ok4 fp4 k4=>?_⟩
 have s4:ZA H H4:=fun b o hb=>k4 b o (s3 b o (s2 b o hb)) fun z=>by rw[fpH b z]at hb;cases hb
 have nd:(ZaU (Zb4 L)).Nodup:=by rw[← Zc2];exact M2.nd
 have hlen:=ZnZ (ts:=us.map (·.2)) (many:=(rs.map fun x=>x.2.length).sum) nd htk (by rw[Qa];exact hfin) (by rw[Qa];exact fun z=>hmany fun y=>z (by rw[y];rfl)) W4 (fun x hx=>by obtain⟨e,he,rfl⟩:=Qx.mp hx;exact(M4.each e he).le)
 rw[Qa,eP,hl,Nat.min_self]at hlen
 rw[eP]at htk
 refine⟨rr,rfl,⟨_,SqL.of hrr4⟩,fun D hD=>?_⟩
 have hDH:H D=none:=s4.free hD
 refine Zbh (K:=K) (a:=rr) (xs:=us.map fun u=>V.ref u.1) (fun i zs σ H5=>(∃v1 v2 v3:Option V,σ=[some (.ref r),v1,v2,v3])∧(∃ws:List (Addr×ZaF),zs=(ws.map fun u=>V.ref u.1)∧ws.map (·.2)=(us.take i).map (·.2)∧∀u∈ws,u.1≠D∧H u.1=none∧H5 u.1=some (.tup [.int u.2.1,.int (u.2.2.1:Int)]))∧i≤us.length∧H5 D=some (.lst zs)∧ZA H4 H5) ?_ (fun _ _ _ _ h=>SqL.of (h.2.2.2.2 _ _ hrr4)) ?_ ?_
 ·exact⟨⟨none,none,none,rfl⟩,⟨[],rfl,rfl,fun u h=>by cases h⟩,Qv _,Zb,Zg hD _⟩
 ·rintro i y zs σ H5 hy ⟨⟨v1,v2,v3,rfl⟩,⟨ws,rfl,hw,hws⟩,hi,hD5,s5⟩
  rw[Qk]at hy
  cases hz:us[i]? with
  | none=>rw[hz]at hy;cases hy
  | some u =>
  rw[hz]at hy
  cases hy
  have hil:i<us.length:=(Qc.mp hz).1
  have hwl:ws.length=i:=by
   have:=congrArg List.length hw
   rw[Qa,Qa,QC]at this
   lia
  refine⟨u.1,_,rfl,SqT.of (s5 _ _ (hus u (Qr hz))),rfl,_,_,rfl,_,_,rfl,_,_,rfl,rfl,?_⟩
  refine⟨_,rfl,_,rfl,(by show 2≤sizeLine;decide),fun n hn0=>?_⟩
  have sn:=Zg hn0 (.tup [.int u.2.1,.int (u.2.2.1:Int)])
  have nDn:D≠n:=Zc hD5 hn0
  refine⟨sn _ _ hD5,(by rw[Qa,hwl,sizeLine_eq];lia),⟨_,_,_,rfl⟩,⟨ws++[(n,u.2)],by rw[Qf];rfl,?_,fun x hx=>?_⟩,hil,Zb,fun b o hb=>?_⟩
  ·rw[QM,hz,Qf,Qf,hw];rfl
  ·rcases Qh.mp hx with hx|hx
   ·obtain⟨g1,g2,g3⟩:=hws x hx
    exact⟨g1,g2,by rw[Ze g1];exact sn _ _ g3⟩
   ·rw[Qe.mp hx]
    exact⟨nDn.symm,s4.free (s5.free hn0),by rw[Ze nDn.symm];exact Zb⟩
  ·rw[Ze (Zc hb hD)];exact sn _ _ (s5 b o hb)
 rintro zs σ H5 ⟨⟨v1,v2,v3,rfl⟩,⟨ws,rfl,hw,hws⟩,_,hD5,s5⟩
 rw[Qa,QB (Qi _)]at hw
 exact q D ws _ k1 q1 H5 (by rw[hw];exact htk) (by have:=congrArg List.length hw;rw[Qa,Qa]at this;lia) hD5 (fun u hu=>(hws u hu).2.2) hDH (fun u hu=>(hws u hu).2.1) (s4.trans s5)
theorem ZnL(ss:List Str)(m:Nat)(h:m≤ss.length):ZdI (ss.map V.str) none (some (m:Int))=(ss.take m).map V.str∧ZdI (ss.map V.str) (some (m:Int)) none=(ss.drop m).map V.str:=by
 have e:∀d:Nat,HT.sIx (ss.map V.str).length d (some (m:Int))=m:=fun d=>by
  unfold HT.sIx
  simp only[List.length_map]
  rw[if_neg (by lia)]
  lia
 have e0:∀d:Nat,HT.sIx (ss.map V.str).length d none=d:=fun d=>rfl
 constructor
 ·unfold ZdI
  rw[e,e0,List.drop_zero,Nat.sub_zero,QaT]
 ·unfold ZdI
  rw[e,e0,← List.map_drop,← QaT,QB (by rw[QW,Qa];lia)]
def Zi6:Sp:=fun vs H Q _=>∃ (p:Addr) (c:Int),vs=[.ref p]∧Zbr H p c∧c<2 ^ 30 ∧
 ∀ (r:Addr) (ts:List Str) (c':Int) (H':Hp),H r=none→H' r=some (.lst (ts.map V.str))→ts.length≤60→(∀s∈ts,s.length≤28∧AZ s)→Zbr H' p c'→c≤c'→c'≤c+700→But p H H'→Q (.ref r) H'
theorem Zlq(T:Zao K mg cRow cMerge)(f_l_pick:Df P w K mg base 2 "_law_pick" ["_law_left_here", "_law_many"] ZeQ)(f_l_stems:Df P w K mg base 3 "_law_stems" ["_law_left_here"] ZhI)(f_l_key:Df P w K mg base 3 "_law_key" ["_law_left_here", "_law_stems_here"] ZmQ):Df P w K mg base 4 "_law_things" ["_law_left_here"] Zi6:=by
 refine T.t_l_things.df ZaE (fun vs H Q E h=>?_) (fun cdv f A outer s H vs Q E hr h=>?_)
 ·obtain⟨p,c,rfl,_⟩:=h
  rfl
 obtain⟨p,c,rfl,hL,c1,q⟩:=h
 refine⟨_,#[Zf,#[Zu,1,ZaE.nd,(Or.inl rfl),#[ZD,f_l_stems,hr,#[Za,‹0›,#[Zd]],(by rfl)]],#[Zf,#[Zu,2,ZaE.nd,(Or.inl rfl),#[Zai,#[Za,#[ZD,f_l_pick,hr,#[Za,‹0›,#[Za,#[Zi],#[Zd]]],(by rfl)],#[Za,#[Zi],#[Za,#[Zi],#[Za,#[Zi],#[Za,#[Zi],#[Za,#[ZC,ZV,#[Zi],#[ZD,f_l_pick,hr,#[Za,‹0›,#[Za,#[Zi],#[Zd]]],(by rfl)]],#[Za,#[ZC,ZV,#[Zi],#[ZD,f_l_pick,hr,#[Za,‹0›,#[Za,#[Zi],#[Zd]]],(by rfl)]],#[Za,#[ZC,ZV,#[Zi],#[ZD,f_l_pick,hr,#[Za,‹0›,#[Za,#[Zi],#[Zd]]],(by rfl)]],#[Zd]]]]]]]]]]],#[Zf,#[Zu,3,ZaE.nd,(Or.inl rfl),#[Zai,#[Zd]]],#[Zf,#[Zbu,PassesOwn.never,#[Zbj,T.b.n_range,#[Za,#[Zz,(ixL K),‹2›,#[ZD,f_l_pick,hr,#[Za,‹0›,#[Za,#[Zi],#[Zd]]],(by rfl)]],#[Zd]]],#[ZB,4,ZaE.nd],#[Zf,#[Zu,5,ZaE.nd,(Or.inl rfl),#[ZD,f_l_key,hr,#[Za,‹0›,#[Za,‹1›,#[Zd]]],(by rfl)]],#[Zf,#[Z9,(@PW.pt _ _ _ #[Ze8,#[Zn,(@neD _ K _ hr (by rfl)),‹3›,#[Zai,#[Zd]],(Zs _)],(@Zey _ _ _ _ #[Zn,Za7,#[ZD,f_l_pick,hr,#[Za,‹0›,#[Za,#[Zi],#[Zd]]],(by rfl)],#[Zi],(Zs _)])]),#[Zj,#[Zu,5,ZaE.nd,(Or.inl rfl),#[Zz,(ixL K),‹3›,#[ZD,f_l_pick,hr,#[Za,‹0›,#[Za,#[Zk,(ZbC K),(by rfl),T.b.n_len,Qw,#[Za,‹3›,#[Zd]]],#[Zd]]],(by rfl)]]]],#[ZF]],#[Zj,#[Zac,#[ZbY,QD,QH,QI,Z7,‹3›,#[Za,‹5›,#[Zd]]]]]]]],#[Zf,#[Zu,6,ZaE.nd,(Or.inl rfl),#[ZD,f_l_pick,hr,#[Za,‹0›,#[Za,#[Zi],#[Zd]]],(by rfl)]],#[Zf,#[Zu,7,ZaE.nd,(Or.inl rfl),#[ZC,ZfA,#[Zk,(ZbC K),(by rfl),T.b.n_len,Qw,#[Za,‹3›,#[Zd]]],#[Zi]]],#[Zf,#[Z9,#[Zn,Za7,‹6›,#[Zi],(Zs _)],#[Zj,#[Zp,#[Zk,(ZoQ K),(by rfl),T.b.n_sorted,boot_sorted,#[Za,‹3›,#[Zd]]]]],#[ZF]],#[Zf,#[Z9,#[Zn,Za7,‹6›,#[Zi],(Zs _)],#[Zj,#[Zp,(@Zlu _ _ _ _ _ _ _ _ _ _ _ _ (Zsj K) #[Zk,(ZoQ K),(by rfl),T.b.n_sorted,boot_sorted,#[Za,‹3›,#[Zd]]] (@Zdi _) (@Zdi _) (@ZbW _ _ _ (@Zhc _ _ _ _ _ _ Ze9 #[Zi])))]],#[ZF]],#[Zf,#[Z9,#[Zn,Za7,‹6›,#[Zi],(Zs _)],#[Zj,#[Zp,#[ZC,Zqj,#[Zk,(ZoQ K),(by rfl),T.b.n_sorted,boot_sorted,#[Za,#[Zcn,(slL K),‹3›,(@Zdi _),(@ZbW _ _ _ ‹7›)],#[Zd]]],#[Zk,(ZoQ K),(by rfl),T.b.n_sorted,boot_sorted,#[Za,#[Zcn,(slL K),‹3›,(@ZbW _ _ _ ‹7›),(@Zdi _)],#[Zd]]]]]],#[ZF]],#[Zj,#[Zp,‹3›]]]]]]]]]]],?_⟩
 have c0:=hL.ge
 refine⟨_,rfl,p,c,rfl,hL,by lia,fun l ss c5 H5 hl0 hl5 n1 n4 h24 L5 a1 a2 B5=>?_⟩
 have npl:p≠l:=by
  obtain⟨o,ho⟩:=hL.here
  exact Zc ho hl0
 refine⟨_,rfl,p,c5,_,rfl,L5,by lia,by decide,by decide,fun d1 H6 d10 d11 L6 B6=>?_⟩
 refine⟨_,rfl,p,c5+1,_,rfl,L6,by lia,by decide,by decide,fun d2 H7 d20 d21 L7 B7=>⟨_,_,rfl,rfl,?_⟩⟩
 refine⟨_,rfl,p,c5+1+1,_,rfl,L7,by lia,by decide,by decide,fun d3 H8 d30 d31 L8 B8=>⟨_,_,rfl,rfl,?_⟩⟩
 refine⟨_,rfl,p,c5+1+1+1,_,rfl,L8,by lia,by decide,by decide,fun d4 H9 d40 d41 L9 B9=>⟨_,_,rfl,rfl,?_⟩⟩
 refine⟨(by show 8≤sizeLine;decide),fun m hm=>?_⟩
 have npm:p≠m:=by obtain⟨o,ho⟩:=L9.here;exact Zc ho hm
 have B59:But p H5 H9:=((B6.trans B7).trans B8).trans B9
 have hl9:=B59 l _ hl5 npl.symm
 have nlm:l≠m:=Zc hl9 hm
 refine⟨(by show 0≤sizeLine;decide),fun r hr0=>?_⟩
 have L10:Zbr (upd H9 m (.lst (([d1,4,5,6,8,3+d2,7+d3,20+d4]:List Int).map V.int))) p (c5+1+1+1+1):=L9.new hm
 have hm10:(upd H9 m (.lst (([d1,4,5,6,8,3+d2,7+d3,20+d4]:List Int).map V.int))) m=some (.lst (([d1,4,5,6,8,3+d2,7+d3,20+d4]:List Int).map V.int)):=Zb
 have hl10:(upd H9 m (.lst (([d1,4,5,6,8,3+d2,7+d3,20+d4]:List Int).map V.int))) l=some (.lst (ss.map V.str)):=by rw[Ze nlm];exact hl9
 have B010:But p H (upd H9 m (.lst (([d1,4,5,6,8,3+d2,7+d3,20+d4]:List Int).map V.int))):=(B5.trans B59).trans (But.same (Zg hm _))
 change (upd H9 m (.lst (([d1,4,5,6,8,3+d2,7+d3,20+d4]:List Int).map V.int))) r=none at hr0
 have npr:p≠r:=by obtain⟨o,ho⟩:=L10.here;exact Zc ho hr0
 have nlr:l≠r:=Zc hl10 hr0
 have nmr:m≠r:=Zc hm10 hr0
 have hrn:H r=none:=Zfs B010 npr hr0
 refine⟨_,rfl,_,rfl,p,c5+1+1+1+1,_,rfl,L10.new hr0,by lia,by decide,by decide,fun ix H11 ix0 ix1 L11 B11=>?_⟩
 have hm11:H11 m=some (.lst (([d1,4,5,6,8,3+d2,7+d3,20+d4]:List Int).map V.int)):=B11 m _ (by rw[Ze nmr];exact hm10) npm.symm
 obtain⟨many,hmm,hat⟩:=ZkQ (ns:=[d1,4,5,6,8,3+d2,7+d3,20+d4]) ix0 ix1
 have hm1:0≤many∧many≤60:=by
  simp only[List.mem_cons,List.not_mem_nil,or_false]at hmm
  lia
 refine⟨m,_,_,_,rfl,rfl,SqL.of hm11,hat,_,rfl,by lia,by lia,?_⟩
 have hr11:H11 r=some (.lst (([]:List Str).map V.str)):=B11 r _ Zb npr.symm
 have hl11:H11 l=some (.lst (ss.map V.str)):=B11 l _ (by rw[Ze nlr];exact hl10) npl.symm
 have B011:But p H H11:=(B010.trans (But.same (Zg hr0 _))).trans B11
 refine ZaR (fun i σ H2=>∃ (ts:List Str) (v1 v2:Option V) (c2:Int),σ=[some (.ref p),some (.ref l),some (.ref m),some (.ref r),v1,v2,none,none]∧H2 r=some (.lst (ts.map V.str))∧H2 l=some (.lst (ss.map V.str))∧ts.length=i∧(∀s∈ts,s.length≤28∧AZ s)∧Zbr H2 p c2∧c5+5≤c2∧c2≤c5+5+8*i∧(∀b o,H b=some o→b≠p→H2 b=some o)) ⟨[],none,none,c5+1+1+1+1+1,rfl,hr11,hl11,rfl,(fun s hs=>by cases hs),L11,by lia,by lia,B011⟩ ?_ ?_
 ·rintro i σ H2 hi ⟨ts,v1,v2,c2,rfl,hr2,hl2,hn,h28,L2,a1',a2',B2⟩
  have hi60:(i:Int)<61:=by lia
  refine⟨_,rfl,_,rfl,p,l,c2,ss,rfl,L2,by lia,hl2,n1,n4,h24,fun key c3 H3 hkey hkaz L3 a3 a4 B3=>?_⟩
  have hr3:=B3 r _ hr2 npr.symm
  have hl3:=B3 l _ hl2 npl.symm
  have fin:∀ (k2:Str) (c4:Int) (H4:Hp),k2.length≤28∧AZ k2→Zbr H4 p c4→c2≤c4→c4≤c2+8→H4 r=some (.lst (ts.map V.str))→H4 l=some (.lst (ss.map V.str))→(∀b o,H b=some o→b≠p→H4 b=some o) →
    ∃ (ts':List Str) (v1 v2:Option V) (c5':Int),[some (V.ref p),some (V.ref l),some (V.ref m),some (V.ref r),some (V.int (0+(i:Int))),some (V.str k2),none,none]=[some (.ref p),some (.ref l),some (.ref m),some (.ref r),v1,v2,none,none] ∧
     (upd H4 r (.lst (ts.map V.str++[.str k2]))) r=some (.lst (ts'.map V.str))∧(upd H4 r (.lst (ts.map V.str++[.str k2]))) l=some (.lst (ss.map V.str))∧ts'.length=i+1∧(∀s∈ts',s.length≤28∧AZ s)∧Zbr (upd H4 r (.lst (ts.map V.str++[.str k2]))) p c5'∧c5+5≤c5'∧c5'≤c5+5+8*((i+1:Nat):Int) ∧
     (∀b o,H b=some o→b≠p→(upd H4 r (.lst (ts.map V.str++[.str k2]))) b=some o):=fun k2 c4 H4 hk L4 b1 b2 hr4 hl4 B4=>by
   refine⟨ts++[k2],_,_,c4,rfl,?_,?_,by rw[Qg,hn];rfl,?_,L4.at npr,by lia,by lia,fun b o e n=>?_⟩
   ·rw[Zb,Qf];rfl
   ·rw[Ze nlr];exact hl4
   ·intro x hx
    rcases Qh.mp hx with hx|hx
    ·exact h28 x hx
    ·rw[Qe.mp hx];exact hk
   ·rw[Ze (Zc e hrn)]
    exact B4 b o e n
  have hlt:(ts.map V.str).length<sizeLine:=by rw[Qa,hn];exact Zx (by lia)
  refine⟨_,rfl,(by show 0≤sizeLine;decide),fun e he=>?_⟩
  have hr3':(upd H3 e (.lst [])) r=some (.lst (ts.map V.str)):=by rw[Ze (Zc hr3 he)];exact hr3
  have hl3':(upd H3 e (.lst [])) l=some (.lst (ss.map V.str)):=by rw[Ze (Zc hl3 he)];exact hl3
  refine⟨.list (ts.map PyData.str),.list [],.lst (SqL.of hr3') (Zfz ts),.lst (SqL.of Zb) .nil,ZdD ts (fun s h=>(h28 s h).2),(by ac_rfl),_,rfl,?_⟩
  have B3':∀b o,H b=some o→b≠p→(upd H3 e (.lst [])) b=some o:=fun b o z n=>Zg he _ b o (B3 b o (B2 b o z n) n)
  cases ts with
  | nil =>
   have ev:(if true=true then !PyData.eqv (.list (([]:List Str).map PyData.str)) (.list []) else PyData.eqv (.list (([]:List Str).map PyData.str)) (.list []))=false:=by ac_rfl
   rw[ev]
   refine Zcz (Zcz ?_)
   refine⟨_,rfl,.inl ⟨rfl,_,SqL.of hr3'⟩,_,rfl,r,_,_,rfl,rfl,hr3',hlt,?_⟩
   exact fin key c3 _ ⟨hkey,hkaz⟩ (L3.new he) (by lia) (by lia) hr3' hl3' B3'
  | cons t0 tr =>
   have ev:(if true=true then !PyData.eqv (.list ((t0::tr).map PyData.str)) (.list []) else PyData.eqv (.list ((t0::tr).map PyData.str)) (.list []))=true:=by simp[PyData.eqv,PyData.eqvAll]
   rw[ev]
   refine ZeH ⟨_,rfl,p,c3,_,rfl,L3.new he,by lia,by decide,by decide,fun d H5' d0 d1' L5' B5'=>?_⟩
   have hr5:=B5' r _ hr3' npr.symm
   have hl5':=B5' l _ hl3' npl.symm
   refine⟨rfl,_,rfl,Za3 (fun _=>?_) (fun _=>?_)⟩
   ·have hlen:((((t0::tr).map V.str).length:Nat):Int)=((t0::tr).length:Int):=by rw[Qa]
    have hpos:(0:Int)<((t0::tr).length:Int):=by simp
    refine⟨_,rfl,_,rfl,_,rfl,r,_,rfl,.inl (SqL.of hr5),p,c3+1,_,rfl,L5',by lia,by lia,by lia,fun d' H6' d0' d1'' L6' B6'=>?_⟩
    obtain⟨st,hs1,hs2⟩:=Zjs (ss:=t0::tr) d0' (by lia)
    have hr6:=B6' r _ hr5 npr.symm
    refine⟨r,_,_,_,rfl,rfl,SqL.of hr6,hs2,?_⟩
    refine⟨_,rfl,.inl ⟨rfl,_,SqL.of hr6⟩,_,rfl,r,_,_,rfl,rfl,hr6,hlt,?_⟩
    exact fin st _ _ (h28 st hs1) L6' (by lia) (by lia) hr6 (B6' l _ hl5' npl.symm) fun b o z n=>B6' b o (B5' b o (B3' b o z n) n) n
   ·refine⟨_,rfl,.inl ⟨rfl,_,SqL.of hr5⟩,_,rfl,r,_,_,rfl,rfl,hr5,hlt,?_⟩
    exact fin key _ _ ⟨hkey,hkaz⟩ L5' (by lia) (by lia) hr5 hl5' fun b o z n=>B5' b o (B3' b o z n) n
 ·rintro σ H2 ⟨ts,v1,v2,c2,rfl,hr2,hl2,hn,h28,L2,a1',a2',B2⟩
  have hn60:ts.length≤60:=by lia
  refine⟨_,rfl,p,c2,_,rfl,L2,by lia,by decide,by decide,fun wy H3 w0 w1 L3 B3=>?_⟩
  have hr3:=B3 r _ hr2 npr.symm
  have B03:But p H H3:=fun b o h n=>B3 b o (B2 b o h n) n
  refine⟨_,rfl,r,_,rfl,.inl (SqL.of hr3),_,_,rfl,rfl,⟨by decide,by decide⟩,?_⟩
  refine⟨_,rfl,rfl,_,rfl,Za3 (fun _=>?_) (fun _=>?_)⟩
  ·refine⟨_,rfl,r,ts,rfl,SqL.of hr3,by lia,fun x rs hx perm srt=>?_⟩
   have npx:p≠x:=by obtain⟨o,ho⟩:=L3.here;exact Zc ho hx
   exact q x rs _ _ (Zfs B03 npx hx) Zb (by rw[perm.length_eq];lia) (fun s hs=>h28 s (perm.mem_iff.mp hs)) (L3.new hx) (by lia) (by lia) (B03.trans (But.same (Zg hx _)))
  refine⟨_,rfl,rfl,_,rfl,Za3 (fun _=>?_) (fun _=>?_)⟩
  ·refine⟨_,rfl,r,ts,rfl,SqL.of hr3,by lia,fun x rs hx perm srt=>?_⟩
   refine⟨_,rfl,_,rfl,_,rfl,x,_,rfl,SqL.of Zb,by decide,fun y hy=>?_⟩
   have B04:=B03.trans (But.same (Zg hx (.lst (rs.map V.str))))
   have L4:Zbr (upd H3 x (.lst (rs.map V.str))) p (c2+1):=L3.new hx
   have npy:p≠y:=by obtain⟨o,ho⟩:=L4.here;exact Zc ho hy
   exact q y rs.reverse _ _ (Zfs B04 npy hy) (by rw[Zb,ZlF,List.map_reverse]) (by rw[List.length_reverse,perm.length_eq];lia) (fun s hs=>h28 s (perm.mem_iff.mp (Qa5.mp hs))) (L4.new hy) (by lia) (by lia) (B04.trans (But.same (Zg hy _)))
  refine⟨_,rfl,rfl,_,rfl,Za3 (fun _=>?_) (fun _=>?_)⟩
  ·have hcut:((((ts.map V.str).length:Nat):Int) / 2)=((ts.length / 2:Nat):Int):=by rw[Qa];lia
   simp only[hcut]
   obtain⟨e1,e2⟩:=ZnL ts (ts.length / 2) (by lia)
   refine⟨_,rfl,_,rfl,_,rfl,r,_,rfl,SqL.of hr3,fun y hy=>?_⟩
   rw[e1]
   refine⟨y,ts.take (ts.length / 2),rfl,SqL.of Zb,by rw[QC];lia,fun x rs hx perm srt=>?_⟩
   have S5:ZA H3 (upd (upd H3 y (.lst ((ts.take (ts.length / 2)).map V.str))) x (.lst (rs.map V.str))):=(Zg hy _).trans (Zg hx _)
   have hx5:(upd (upd H3 y (.lst ((ts.take (ts.length / 2)).map V.str))) x (.lst (rs.map V.str))) x=some (.lst (rs.map V.str)):=Zb
   generalize upd (upd H3 y (.lst ((ts.take (ts.length / 2)).map V.str))) x (.lst (rs.map V.str))=H5x at S5 hx5 ⊢
   refine⟨_,rfl,_,rfl,_,rfl,r,_,rfl,SqL.of (S5 _ _ hr3),fun y2 hy2=>?_⟩
   rw[e2]
   refine⟨y2,ts.drop (ts.length / 2),rfl,SqL.of Zb,by rw[QW];lia,fun x2 rs2 hx2 perm2 srt2=>?_⟩
   have S6:ZA H5x (upd (upd H5x y2 (.lst ((ts.drop (ts.length / 2)).map V.str))) x2 (.lst (rs2.map V.str))):=(Zg hy2 _).trans (Zg hx2 _)
   have hx6:(upd (upd H5x y2 (.lst ((ts.drop (ts.length / 2)).map V.str))) x2 (.lst (rs2.map V.str))) x2=some (.lst (rs2.map V.str)):=Zb
   generalize upd (upd H5x y2 (.lst ((ts.drop (ts.length / 2)).map V.str))) x2 (.lst (rs2.map V.str))=H6x at S6 hx6 ⊢
   have l1:=perm.length_eq
   have l2:=perm2.length_eq
   rw[QC]at l1
   rw[QW]at l2
   refine⟨x,x2,_,_,rfl,rfl,S6 _ _ hx5,hx6,(by rw[Qa,Qa];exact ZcK (by lia)),fun z hz=>?_⟩
   have L6x:=(L3.same S5).same S6
   have npz:p≠z:=by obtain⟨o,ho⟩:=L6x.here;exact Zc ho hz
   have B06:But p H H6x:=B03.trans (But.same (S5.trans S6))
   refine q z (rs++rs2) _ _ (Zfs B06 npz hz) (by rw[Zb,Qf]) (by rw[Qg];lia) (fun s hs=>?_) (L6x.new hz) (by lia) (by lia) (B06.trans (But.same (Zg hz _)))
   rcases Qh.mp hs with hs|hs
   ·exact h28 s (Qac (perm.mem_iff.mp hs))
   ·exact h28 s (Qay (perm2.mem_iff.mp hs))
  ·exact⟨_,rfl,q r ts _ H3 hrn hr3 (by lia) h28 L3 (by lia) (by lia) B03⟩
theorem Rd.out{H:Hp}{ls:List Addr}{ds:List (List Int)}(h:Rd H ls ds){l:Addr}(hl:H l=none):l ∉ ls:=fun hm=>by
 obtain⟨i,hi⟩:=QaJ.mp hm
 obtain⟨d,_,hd⟩:=h.at hi
 rw[hl]at hd;cases hd
theorem Rd.split{H:Hp}:∀ {ls:List Addr} {ds:List (List Int)} {d:List Int},Rd H ls (ds++[d])→∃ms l,ls=ms++[l]∧Rd H ms ds∧H l=some (.lst (d.map V.int))
 | [],[],d,h=>h.elim
 | [],_::_,d,h=>h.elim
 | [l],[],d,h=>⟨[],l,rfl,trivial,h.1⟩
 | l::m::ls,[],d,h=>h.2.elim
 | l::ls,e::ds,d,h=>by
  obtain⟨ms,x,e1,e2,e3⟩:=Rd.split (ls:=ls) (ds:=ds) h.2
  exact⟨l::ms,x,by rw[e1];rfl,⟨h.1,e2⟩,e3⟩
def ks(ss:List Str)(n:Int):Str×Int:=(ss.getD n.toNat "",n)
def Zd7(ss:List Str)(A:List Int)(n:Int):Prop:=n∈A∧∀m∈A,ZU (kk (ks ss m)) (kk (ks ss n))=false
theorem Zh4{e f:Str×Int}(h:kk e=kk f):e=f:=by
 obtain⟨a,b⟩:=e
 obtain⟨c,d⟩:=f
 unfold kk at h
 injection h with h1 h2
 injection h2 with h2 _
 have e1:a=c:=Sum.inr.inj h1
 have e2:b=d:=Sum.inl.inj h2
 rw[e1,e2]
theorem ZcY{ss:List Str}{A:List Int}{n m:Int}(h:Zd7 ss A n)(g:Zd7 ss A m):n=m:=by
 have:=Zh4 (Zbv _ _ (g.2 n h.1) (h.2 m g.1))
 exact congrArg Prod.snd this
def ltK(ss:List Str)(c n:Int):Prop:=cds (ss.getD c.toNat "")<cds (ss.getD n.toNat "")
inductive Res (ss:List Str):List Int→List Int→Nat→List Int→List (List Int)→List (List Int)→Prop where
 | stop0 {c:Nat} {done:List (List Int)}:Res ss [] [] c [] done done
 | stop {c:Nat} {g:Int} {gone:List Int} {done:List (List Int)}:Res ss [] [] c (g::gone) done (done++[g::gone])
 | switch {b:Int} {B:List Int} {c:Nat} {gone:List Int} {done R:List (List Int)}:Res ss (b::B) [] c [] (done++[gone]) R→Res ss [] (b::B) c gone done R
 | stepN {A B:List Int} {c:Nat} {gone:List Int} {done R:List (List Int)} {n:Int}:Zd7 ss A n→¬ c<ss.length→Res ss (A.erase n) B c (gone++[n]) done R→Res ss A B c gone done R
 | stepA {A B:List Int} {c:Nat} {gone:List Int} {done R:List (List Int)} {n:Int}:Zd7 ss A n→c<ss.length→¬ ltK ss c n→Res ss (A.erase n++[(c:Int)]) B (c+1) (gone++[n]) done R→Res ss A B c gone done R
 | stepB {A B:List Int} {c:Nat} {gone:List Int} {done R:List (List Int)} {n:Int}:Zd7 ss A n→c<ss.length→ltK ss c n→Res ss (A.erase n) (B++[(c:Int)]) (c+1) (gone++[n]) done R→Res ss A B c gone done R
theorem ZT{ss:List Str}{n:Int}(h:Zd7 ss [] n):False:=by cases h.1
theorem ZkH{ss:List Str}{A B:List Int}{c:Nat}{gone:List Int}{done R:List (List Int)}(h:Res ss A B c gone done R):∀R',Res ss A B c gone done R'→R=R':=by
 induction h with
 | stop0=>intro R' g;cases g with
  | stop0=>rfl
  | stepN l _ _=>exact(ZT l).elim
  | stepA l _ _ _=>exact(ZT l).elim
  | stepB l _ _ _=>exact(ZT l).elim
 | stop=>intro R' g;cases g with
  | stop=>rfl
  | stepN l _ _=>exact(ZT l).elim
  | stepA l _ _ _=>exact(ZT l).elim
  | stepB l _ _ _=>exact(ZT l).elim
 | switch _ ih=>intro R' g;cases g with
  | switch g=>exact ih _ g
  | stepN l _ _=>exact(ZT l).elim
  | stepA l _ _ _=>exact(ZT l).elim
  | stepB l _ _ _=>exact(ZT l).elim
 | stepN l hc _ ih=>intro R' g;cases g with
  | stop0=>exact(ZT l).elim
  | stop=>exact(ZT l).elim
  | switch _=>exact(ZT l).elim
  | stepN l' _ g=>rw[ZcY l' l]at g;exact ih _ g
  | stepA _ h _ _=>exact absurd h hc
  | stepB _ h _ _=>exact absurd h hc
 | stepA l hc hn _ ih=>intro R' g;cases g with
  | stop0=>exact(ZT l).elim
  | stop=>exact(ZT l).elim
  | switch _=>exact(ZT l).elim
  | stepN _ h _=>exact absurd hc h
  | stepA l' _ _ g=>rw[ZcY l' l]at g;exact ih _ g
  | stepB l' _ h _=>rw[ZcY l' l]at h;exact absurd h hn
 | stepB l hc hn _ ih=>intro R' g;cases g with
  | stop0=>exact(ZT l).elim
  | stop=>exact(ZT l).elim
  | switch _=>exact(ZT l).elim
  | stepN _ h _=>exact absurd hc h
  | stepA l' _ h _=>rw[ZcY l' l]at h;exact absurd hn h
  | stepB l' _ _ g=>rw[ZcY l' l]at g;exact ih _ g
def kt(ss:List Str)(r:Int)(n:Int):List Key:=[.inl r,.inr (ss.getD n.toNat ""),.inl n]
theorem Zq6{ss:List Str}{r n m:Int}:ZU (kt ss r n) (kt ss r m)=ZU (kk (ks ss n)) (kk (ks ss m)):=by
 unfold kt
 rw[Zag,if_pos rfl]
 rfl
theorem ZrP{ss:List Str}{r n m:Int}:ZU (kt ss r n) (kt ss (r+1) m)=true:=by
 unfold kt
 rw[Zag,if_neg (by intro z;have:=Sum.inl.inj z;lia)]
 exact decide_eq_true (by lia)
def Zbz(ss:List Str)(r:Int)(A B:List Int):List (List Key):=A.map (kt ss r)++B.map (kt ss (r+1))
theorem Zq9{ss:List Str}{r:Int}{A B:List Int}{M:List (List Key)}(hp:M.Perm (Zbz ss r A B))(hA:A≠[]){t:List Key}(ht:t∈M)(hm:∀u∈M,ZU u t=false):∃n,t=kt ss r n∧Zd7 ss A n:=by
 have h1:=hp.mem_iff.mp ht
 rcases Qh.mp h1 with h1|h1
 ·obtain⟨n,hn,rfl⟩:=Qx.mp h1
  refine⟨n,rfl,hn,fun m hm'=>?_⟩
  rw[← Zq6 (r:=r)]
  exact hm _ (hp.mem_iff.mpr (Qp _ (Qn hm')))
 ·obtain⟨m,_,rfl⟩:=Qx.mp h1
  cases A with
  | nil=>exact absurd rfl hA
  | cons a A =>
   have:=hm _ (hp.mem_iff.mpr (Qp _ (Qn (QZ (a:=a)))))
   rw[ZrP]at this;cases this
theorem ZnP{ss:List Str}{r:Int}{A B:List Int}{M M':List (List Key)}{n:Int}(hp:M.Perm (Zbz ss r A B))(hn:n∈A)(he:M.Perm (kt ss r n::M')):M'.Perm (Zbz ss r (A.erase n) B):=by
 have h1:(kt ss r n::M').Perm (Zbz ss r A B):=he.symm.trans hp
 have h3:(Zbz ss r A B).Perm (kt ss r n::Zbz ss r (A.erase n) B):=by
  unfold Zbz
  exact((List.perm_cons_erase hn).map (kt ss r)).append_right _
 exact(h1.trans h3).cons_inv
def ZmC:Sp:=fun vs H Q _=>∃ (p:Addr) (c:Int),vs=[.ref p]∧Zbr H p c∧c<2 ^ 40∧∀ (v c':Int) (H':Hp),1≤v→v≤16→Zbr H' p c'→c≤c'→c'≤c+2→But p H H'→Q (.int v) H'
theorem Zo1(T:Zao K mg cRow cMerge)(f_l_pick:Df P w K mg base 2 "_law_pick" ["_law_left_here", "_law_many"] ZeQ):Df P w K mg base 3 "_law_room" ["_law_left_here"] ZmC:=by
 refine T.t_l_room.df Zlk (fun vs H Q E h=>?_) (fun cdv f A outer s H vs Q E hr h=>?_)
 ·obtain⟨p,c,rfl,_⟩:=h
  rfl
 obtain⟨p,c,rfl,hL,c1,q⟩:=h
 refine⟨_,#[Zj,#[Zp,#[Zz,(ixL K),#[Zai,#[Za,#[Zi],#[Za,#[Zi],#[Za,#[Zi],#[Za,#[Zi],#[Za,#[Zi],#[Za,#[Zi],#[Za,#[Zi],#[Za,#[ZC,ZV,#[Zi],#[ZD,f_l_pick,hr,#[Za,‹0›,#[Za,#[Zi],#[Zd]]],(by rfl)]],#[Zd]]]]]]]]]],#[ZD,f_l_pick,hr,#[Za,‹0›,#[Za,#[Zi],#[Zd]]],(by rfl)]]]],?_⟩
 have c0:=hL.ge
 refine⟨_,rfl,p,c,_,rfl,hL,by lia,by decide,by decide,fun d H1 d0 d1 L1 B1=>⟨_,_,rfl,rfl,(by show 8≤sizeLine;decide),fun e he=>?_⟩⟩
 have npe:p≠e:=by obtain⟨o,ho⟩:=L1.here;exact Zc ho he
 refine⟨_,rfl,p,c+1,_,rfl,L1.new he,by lia,by decide,by decide,fun i H2 i0 i1 L2 B2=>?_⟩
 obtain⟨v,hv,hat⟩:=ZkQ (ns:=[1,2,3,4,5,2,3,1+d]) i0 i1
 have he2:H2 e=some (.lst (([1,2,3,4,5,2,3,1+d]:List Int).map V.int)):=B2 e _ Zb npe.symm
 have hv1:1≤v∧v≤16:=by
  simp only[List.mem_cons,List.not_mem_nil,or_false]at hv
  lia
 exact⟨e,_,_,_,rfl,rfl,SqL.of he2,hat,q v _ _ hv1.1 hv1.2 L2 (by lia) (by lia) ((B1.trans (But.same (Zg he _))).trans B2)⟩
def ZiK:Sp:=fun vs H Q _=>∃ (r:Int) (x y:Str),vs=[.int r,.str x,.str y]∧x.length≤1000∧y.length≤1000∧(¬ cds y<cds x→Q (.int r) H)∧(cds y<cds x→Q (.int (r+1)) H)
theorem Zk8(T:Zao K mg cRow cMerge)(f_liken:Df P w K mg base 3 "liken" ["one", "other"] Zfy):Df P w K mg base 4 "run_behind" ["run", "key", "comer"] ZiK:=by
 refine T.t_run_behind.df ZgA (fun vs H Q E h=>?_) (fun cdv f A outer s H vs Q E hr h=>?_)
 ·obtain⟨r,x,y,rfl,_⟩:=h
  rfl
 obtain⟨r,x,y,rfl,hx,hy,q1,q2⟩:=h
 refine⟨_,#[Zj,#[Zp,#[Za1,#[Zn,ZpG,#[ZD,f_liken,hr,#[Za,‹2›,#[Za,‹1›,#[Zd]]],(by rfl)],#[Zi],(Zs _)],‹0›,#[ZC,ZV,‹0›,#[Zi]]]]],?_⟩
 refine⟨_,rfl,_,rfl,y,x,rfl,hy,hx,_,_,rfl,rfl,_,rfl,Za3 (fun d=>?_) (fun d=>?_)⟩
 ·have d':(0:Int)≤ZK (cds y) (cds x):=of_decide_eq_true d
  exact⟨_,rfl,q1 (fun z=>by have:=(Zb3 _ _).mp z;lia)⟩
 ·have d':¬ (0:Int)≤ZK (cds y) (cds x):=fun z=>d (decide_eq_true z)
  exact⟨_,rfl,_,_,rfl,rfl,q2 ((Zb3 _ _).mpr (by lia))⟩
def first(k:Nat):List Int:=Zaj 0 k
def ZjN(K:PySem.W.Frag):Sp:=fun vs H Q _=>∃ (a:Addr) (ss:List Str) (room:Nat),vs=[.ref a,.int room]∧SqL K H a (ss.map V.str)∧ss.length≤60∧(∀s∈ss,s.length≤1000)∧room≤100 ∧
 ∀ (r:Addr) (ls:List Addr) (R:List (List Int)) (H':Hp),H r=none→H' r=some (.lst (ls.map V.ref))→r ∉ ls→(∀l∈ls,H l=none)→Rd H' ls R→Res ss (first (min room ss.length)) [] (min room ss.length) [] [] R→R.length≤100→(∀d∈R,d.length≤100)→ZA H H'→Q (.ref r) H'
theorem Zch{k:Nat}{n:Int}(h:n∈first k):0≤n∧n<k:=by
 unfold first Zaj at h
 obtain⟨m,hm,rfl⟩:=Qx.mp h
 have:=Q1.mp hm
 lia
theorem ZeR{ss:List Str}{n:Int}(h0:0≤n)(h:n<ss.length):atI (ss.map V.str) n=some (.str (ss.getD n.toNat "")):=by
 have hk:n.toNat<ss.length:=by lia
 have ek:n=((n.toNat:Nat):Int):=by lia
 have q:atI (ss.map V.str) ((n.toNat:Nat):Int)=some (.str ss[n.toNat]):=Zaf (by rw[Qk,Qb hk]<;>rfl)
 rw[← ek]at q
 rw[q,Qm,Qb hk];rfl
theorem Zf8{ss:List Str}(h:∀s∈ss,s.length≤1000)(n:Nat):(ss.getD n "").length≤1000:=by
 rw[Qm]
 cases hx:ss[n]? with
 | none=>decide
 | some z=>exact h z (Qr hx)
def Zcu(gone:List Int)(done:List (List Int)):List (List Int):=if gone=[] then done else done++[gone]
structure At (ss:List Str) (k:Nat) (H0 H:Hp) (ia ru:Addr) (ts:Zb9) (ls:List Addr) (A B:List Int) (c:Nat) (gone:List Int) (done:List (List Int)):Prop where
 ins:H ia=some (.lst (Z6 ts))
 att:AtT H ts
 per:(ts.map (·.2)).Perm (Zbz ss (done.length:Int) A B)
 run:H ru=some (.lst (ls.map V.ref))
 rd:Rd H ls (Zcu gone done)
 rul:ru ∉ ls
 nd:ls.Nodup
 fr:∀l∈ls,H0 l=none
 ne:ia≠ru
 nil:ia ∉ ls
 sm:ZA H0 H
 i0:H0 ia=none
 r0:H0 ru=none
 hc:c≤ss.length
 mem:∀n∈A++B,0≤n∧n<c
 cnt:((Zcu gone done).map List.length).sum+A.length+B.length+(ss.length-c)=ss.length
 nem:∀d∈done,d≠[]
 go:B≠[]→A=[]→gone≠[]
 res:∀R,Res ss A B c gone done R→Res ss (first k) [] k [] [] R
theorem Zby(k:Nat):(first k).length=k:=ZaQ 0 k
theorem Zcc:∀D:List (List Int),(∀d∈D,d≠[])→D.length≤(D.map List.length).sum∧∀d∈D,d.length≤(D.map List.length).sum
 | [],_=>⟨Qi _,fun d h=>by cases h⟩
 | x::r,h=>by
  obtain⟨a,b⟩:=Zcc r fun d hd=>h d (Qy _ hd)
  have hx:x.length≠0:=fun z=>h x (by simp) (QT z)
  rw[Ql,QV,QK]
  refine⟨by lia,fun d hd=>?_⟩
  rcases QO.mp hd with rfl|hd
  ·lia
  ·have:=b d hd;lia
theorem ZhO(A:List Int):(if true=true then !PyData.eqv (.list (A.map PyData.int)) (.list []) else PyData.eqv (.list (A.map PyData.int)) (.list [])) = !A.isEmpty:=by
 cases A with
 | nil=>ac_rfl
 | cons t r=>simp[PyData.eqv,PyData.eqvAll]
theorem ZjK{ss:List Str}{A:List Int}{ts:Zb9}(hE:ts.map (·.2)=A.map (fun m=>kk (ks ss m))){t:Addr×List Key}(ht:t∈ts)(hm:∀u∈ts,ZU u.2 t.2=false):∃n,t.2=kk (ks ss n)∧Zd7 ss A n:=by
 have:t.2∈A.map (fun m=>kk (ks ss m)):=by rw[← hE];exact Qn ht
 obtain⟨n,hn,h2⟩:=Qx.mp this
 refine⟨n,h2.symm,hn,fun u hu=>?_⟩
 have:kk (ks ss u)∈ts.map (·.2):=by rw[hE];exact Qn (f:=fun m=>kk (ks ss m)) hu
 obtain⟨t',ht',e'⟩:=Qx.mp this
 rw[← e',h2];exact hm t' ht'
structure In (ss:List Str) (k:Nat) (H0 H:Hp) (h1 la go fo:Addr) (ls:List Addr) (A B:List Int) (c:Nat) (gone:List Int) (done:List (List Int)):Prop where
 hA:H h1=some (.lst (A.map V.int))
 hB:H la=some (.lst (B.map V.int))
 hG:H go=some (.lst (gone.map V.int))
 hF:H fo=some (.lst (ls.map V.ref))
 rd:Rd H ls done
 d1:h1≠la
 d2:h1≠go
 d3:la≠go
 e1:h1≠fo
 e2:la≠fo
 e3:go≠fo
 l0:fo ∉ ls
 l1:h1 ∉ ls
 l2:la ∉ ls
 l3:go ∉ ls
 f0:H0 fo=none
 f1:H0 h1=none
 f2:H0 la=none
 f3:H0 go=none
 fl:∀l∈ls,H0 l=none
 sm:ZA H0 H
 hc:c≤ss.length
 mem:∀n∈A++B,0≤n∧n<c
 cnt:(done.map List.length).sum+gone.length+A.length+B.length+(ss.length-c)=ss.length
 nem:∀d∈done,d≠[]
 go':A≠[]∨gone≠[]
 res:∀R,Res ss A B c gone done R→Res ss (first k) [] k [] [] R
theorem In.mono{ss:List Str}{k:Nat}{H0 H H':Hp}{h1 la go fo:Addr}{ls:List Addr}{A B:List Int}{c:Nat}{gone:List Int}{done:List (List Int)}(h:In ss k H0 H h1 la go fo ls A B c gone done)(s:ZA H H'):In ss k H0 H' h1 la go fo ls A B c gone done :=
 ⟨s _ _ h.hA,s _ _ h.hB,s _ _ h.hG,s _ _ h.hF,Rd.mono (fun l _ u hu=>s _ _ hu) h.rd,h.d1,h.d2,h.d3,h.e1,h.e2,h.e3,h.l0,h.l1,h.l2,h.l3,h.f0,h.f1,h.f2,h.f3,h.fl,h.sm.trans s,h.hc,h.mem,h.cnt,h.nem,h.go',h.res⟩
structure Out (ss:List Str) (k:Nat) (H0 H:Hp) (h1 fo:Addr) (ls:List Addr) (A:List Int) (c:Nat) (done:List (List Int)):Prop where
 hA:H h1=some (.lst (A.map V.int))
 hF:H fo=some (.lst (ls.map V.ref))
 rd:Rd H ls done
 e1:h1≠fo
 l0:fo ∉ ls
 l1:h1 ∉ ls
 f0:H0 fo=none
 f1:H0 h1=none
 fl:∀l∈ls,H0 l=none
 sm:ZA H0 H
 hc:c≤ss.length
 mem:∀n∈A,0≤n∧n<c
 cnt:(done.map List.length).sum+A.length+(ss.length-c)=ss.length
 nem:∀d∈done,d≠[]
 res:∀R,Res ss A [] c [] done R→Res ss (first k) [] k [] [] R
theorem Out.mono{ss:List Str}{k:Nat}{H0 H H':Hp}{h1 fo:Addr}{ls:List Addr}{A:List Int}{c:Nat}{done:List (List Int)}(h:Out ss k H0 H h1 fo ls A c done)(s:ZA H H'):Out ss k H0 H' h1 fo ls A c done :=
 ⟨s _ _ h.hA,s _ _ h.hF,Rd.mono (fun l _ u hu=>s _ _ hu) h.rd,h.e1,h.l0,h.l1,h.f0,h.f1,h.fl,h.sm.trans s,h.hc,h.mem,h.cnt,h.nem,h.res⟩
theorem Out.inn{ss:List Str}{k:Nat}{H0 H:Hp}{h1 fo la go:Addr}{ls:List Addr}{A:List Int}{c:Nat}{done:List (List Int)}(h:Out ss k H0 H h1 fo ls A c done)(hA:A≠[])(hla:H la=none)(hgo:(upd H la (.lst [])) go=none):In ss k H0 (upd (upd H la (.lst [])) go (.lst [])) h1 la go fo ls A [] c [] done:=by
 have s1:=Zg hla (.lst [])
 have s2:=s1.trans (Zg hgo (.lst []))
 have m:=h.mono s2
 have gN:H go=none:=s1.free hgo
 have ngl:la≠go:=Zc (o:=.lst []) Zb hgo
 exact⟨m.hA,Zg hgo _ _ _ Zb,Zb,m.hF,m.rd,Zc h.hA hla,Zc h.hA gN,ngl,h.e1,(Zc h.hF hla).symm,(Zc h.hF gN).symm,h.l0,h.l1,h.rd.out hla,h.rd.out gN,h.f0,h.f1,h.sm.free hla,h.sm.free gN,h.fl,m.sm,h.hc,(by rw[QR];exact h.mem),(by have:=h.cnt;simp only[List.length_nil];lia),h.nem,.inl hA,h.res⟩
theorem In.out{ss:List Str}{k:Nat}{H0 H:Hp}{h1 la go fo:Addr}{ls:List Addr}{B:List Int}{c:Nat}{gone:List Int}{done:List (List Int)}(h:In ss k H0 H h1 la go fo ls [] B c gone done):Out ss k H0 (upd H fo (.lst ((ls++[go]).map V.ref))) la fo (ls++[go]) B c (done++[gone]):=by
 have hg:gone≠[]:=h.go'.resolve_left (fun z=>z rfl)
 refine⟨by rw[Ze h.e2];exact h.hB,Zb,?_,h.e2,?_,?_,h.f0,h.f2,?_,?_,h.hc,h.mem,?_,?_,?_⟩
 ·refine Rd.app (Rd.mono (fun l hl' u hu=>?_) h.rd) ⟨?_,trivial⟩
  ·rw[Ze (fun z:l=fo=>h.l0 (z ▸ hl'))];exact hu
  ·rw[Ze h.e3];exact h.hG
 ·intro z
  rcases Qh.mp z with z|z
  ·exact h.l0 z
  ·exact h.e3 (Qe.mp z).symm
 ·intro z
  rcases Qh.mp z with z|z
  ·exact h.l2 z
  ·exact h.d3 (Qe.mp z)
 ·intro l hl'
  rcases Qh.mp hl' with hl'|hl'
  ·exact h.fl l hl'
  ·rw[Qe.mp hl'];exact h.f3
 ·intro b o hb;rw[Ze (Zc hb h.f0)];exact h.sm b o hb
 ·have:=h.cnt;rw[Qf,Qak];simp only[List.map_cons,List.map_nil,List.sum_cons,List.sum_nil,List.length_nil]at this ⊢;lia
 ·intro d hd
  rcases Qh.mp hd with hd|hd
  ·exact h.nem d hd
  ·rw[Qe.mp hd];exact hg
 ·intro R hR
  refine h.res R ?_
  cases B with
  | cons b B=>exact .switch hR
  | nil =>
   cases gone with
   | nil=>exact absurd rfl hg
   | cons g gr =>
    have:R=done++[g::gr]:=(ZkH (R:=done++[g::gr]) .stop0 R hR).symm
    rw[this];exact .stop
theorem Zrb{c:Prop}[Decidable c]{x y:V}(h:c):atI [x,y] (if decide c=true then 1 else 0)=some y:=by rw[if_pos (decide_eq_true h)];rfl
theorem Zpi{c:Prop}[Decidable c]{x y:V}(h:¬ c):atI [x,y] (if decide c=true then 1 else 0)=some x:=by rw[if_neg (fun z=>h (of_decide_eq_true z))];rfl
theorem In.step{ss:List Str}{k:Nat}{H0 H:Hp}{h1 la go fo:Addr}{ls:List Addr}{A B:List Int}{c:Nat}{gone:List Int}{done:List (List Int)}(h:In ss k H0 H h1 la go fo ls A B c gone done){H':Hp}{A1 B1:List Int}{c1:Nat}{n:Int}(hA:H' h1=some (.lst (A1.map V.int)))(hB:H' la=some (.lst (B1.map V.int)))(hG:H' go=some (.lst ((gone++[n]).map V.int)))(kp:∀x o,x≠h1→x≠la→x≠go→H x=some o→H' x=some o)(hc:c1≤ss.length)(mem:∀m∈A1++B1,0≤m∧m<c1)(cnt:A1.length+B1.length+(ss.length-c1)+1=A.length+B.length+(ss.length-c))(res:∀R,Res ss A1 B1 c1 (gone++[n]) done R→Res ss A B c gone done R):In ss k H0 H' h1 la go fo ls A1 B1 c1 (gone++[n]) done :=
 ⟨hA,hB,hG,kp _ _ h.e1.symm h.e2.symm h.e3.symm h.hF,Rd.mono (fun l hl u hu=>kp _ _ (fun z=>h.l1 (z ▸ hl)) (fun z=>h.l2 (z ▸ hl)) (fun z=>h.l3 (z ▸ hl)) hu) h.rd,h.d1,h.d2,h.d3,h.e1,h.e2,h.e3,h.l0,h.l1,h.l2,h.l3,h.f0,h.f1,h.f2,h.f3,h.fl,fun b o hb=>kp _ _ (Zc hb h.f1) (Zc hb h.f2) (Zc hb h.f3) (h.sm b o hb),hc,mem,(by rw[Qg,Qj];have:=h.cnt;lia),h.nem,.inr (by simp),fun R hR=>h.res R (res R hR)⟩
theorem Zpn(T:Zao K mg cRow cMerge):Df P w K mg base 1 "_law_rounds_due" ["_law_things_here", "_law_room_here"] (ZjN K):=by
 refine T.t_l_rounds_due.df Z2 (fun vs H Q E h=>?_) (fun cdv f A outer s H vs Q E hr h=>?_)
 ·obtain⟨a,ss,room,rfl,_⟩:=h
  rfl
 obtain⟨a,ss,room,rfl,hS,h60,hlen,hroom,q⟩:=h
 refine⟨_,#[Zf,#[Zu,2,Z2.nd,(Or.inl rfl),#[Za5,Zr9,T.b.n_list,boot_list,#[Za,#[Za5,ZsH,T.b.n_range,boot_range,#[Za,#[Zk,(Zci rfl),(by rfl),T.b.n_min,boot_min,#[Za,‹1›,#[Za,#[Zk,(ZbC K),(by rfl),T.b.n_len,Qw,#[Za,#[pv,0,(Or.inr (Or.inl rfl))],#[Zd]]],#[Zd]]]],#[Zd]]],#[Zd]]]],#[Zf,#[Zu,3,Z2.nd,(Or.inl rfl),#[Zk,(ZbC K),(by rfl),T.b.n_len,Qw,#[Za,‹2›,#[Zd]]]],#[Zf,#[Zu,4,Z2.nd,(Or.inl rfl),#[Zai,#[Zd]]],#[Zf,(@ZcT _ _ _ _ _ _ PassesOwn.never #[Zn,(@neD _ K _ hr (by rfl)),‹2›,#[Zai,#[Zd]],(Zs _)] #[Zf,(@ZmA _ _ 5 6 _ _ _ _ _ _ _ _ _ _ _ rfl Z2.nd rfl rfl (by decide) rfl rfl #[Za,#[Zai,#[Zd]],#[Za,#[Zai,#[Zd]],#[Zd]]] rfl (by rfl)),#[Zf,(@ZcT _ _ _ _ _ _ PassesOwn.never #[Zn,(@neD _ K _ hr (by rfl)),‹2›,#[Zai,#[Zd]],(Zs _)] #[Zf,#[Zu,7,Z2.nd,(Or.inl rfl),#[Zz,(ixT K),#[Zk,(ZpV K hr),(by rfl),T.b.n_min,boot_min,#[Za,#[Za8,Ziz,#[iL,K,‹2›],(fun _ _ _ _=>#[cg,8,Ziz]),(fun _ _ _ _=>(@ZaC _)),(fun _ _ _ _=>#[ZH,#[Za,#[Zz,(ixL K),#[cv,0,Ziz],#[cw,8,Ziz]],#[Za,#[cw,8,Ziz],#[Zd]]]])],#[Zd]]],#[Zi]]],#[Zf,#[Zac,#[ZbY,QD,PySem.F.slot_list_remove,PySem.F.type_list_remove,(Zsf hr),‹2›,#[Za,‹7›,#[Zd]]]],#[Zf,#[Zac,#[ZbY,QD,QH,QI,Z7,‹6›,#[Za,‹7›,#[Zd]]]],#[Zj,#[Z9,#[Zn,Zd4,‹3›,#[Zk,(ZbC K),(by rfl),T.b.n_len,Qw,#[Za,#[pv,0,(Or.inr (Or.inl rfl))],#[Zd]]],(Zs _)],#[Zf,#[Zac,#[ZbY,QD,QH,QI,Z7,#[Zz,(ixL K),#[Zai,#[Za,‹2›,#[Za,‹5›,#[Zd]]]],#[Za5,Zg3,T.b.n_int,boot_int,#[Za,#[Zdh,ZgV,#[Zz,(ixL K),#[pv,0,(Or.inr (Or.inl rfl))],‹3›],#[Zz,(ixL K),#[pv,0,(Or.inr (Or.inl rfl))],‹7›],(Zs _)],#[Zd]]]],#[Za,‹3›,#[Zd]]]],#[Zj,#[Zu,3,Z2.nd,(Or.inl rfl),#[ZC,ZV,‹3›,#[Zi]]]]],#[ZF]]]]]]),#[Zf,#[Zac,#[ZbY,QD,QH,QI,Z7,‹4›,#[Za,‹6›,#[Zd]]]],#[Zj,#[Zu,2,Z2.nd,(Or.inl rfl),‹5›]]]]]),#[Zj,#[Zp,‹4›]]]]]],?_⟩
 have hl:(((ss.map V.str).length:Nat):Int)=(ss.length:Int):=by rw[Qa]
 have hmin:(if (((ss.map V.str).length:Nat):Int)<(room:Int) then (((ss.map V.str).length:Nat):Int) else (room:Int))=((min room ss.length:Nat):Int):=by split<;>lia
 refine⟨_,rfl,_,rfl,a,_,rfl,.inl hS,_,_,rfl,?_⟩
 simp only[hmin]
 refine⟨_,rfl,fun rg hrg=>⟨rg,0,_,rfl,Zb,by lia,by lia,by lia,by lia,by lia,fun h0 hh0=>?_⟩⟩
 rw[show ((((min room ss.length:Nat):Int)-0).toNat)=min room ss.length by lia]
 have s1:ZA H (upd (upd H rg (.rng 0 ((min room ss.length:Nat):Int))) h0 (.lst ((first (min room ss.length)).map V.int))):=(Zg hrg _).trans (Zg hh0 _)
 have hA1:(upd (upd H rg (.rng 0 ((min room ss.length:Nat):Int))) h0 (.lst ((first (min room ss.length)).map V.int))) h0=some (.lst ((first (min room ss.length)).map V.int)):=Zb
 have f0h:H h0=none:=(Zg hrg (.rng 0 ((min room ss.length:Nat):Int))).free hh0
 rw[show Zaj 0 (min room ss.length)=first (min room ss.length) from rfl]
 generalize upd (upd H rg (.rng 0 ((min room ss.length:Nat):Int))) h0 (.lst ((first (min room ss.length)).map V.int))=H1 at s1 hA1 ⊢
 have hfl:(((first (min room ss.length)).map V.int).length:Int)=((min room ss.length:Nat):Int):=by rw[Qa,Zby]
 refine⟨_,rfl,h0,_,rfl,.inl (SqL.of hA1),?_⟩
 simp only[hfl]
 refine⟨(by show 0≤sizeLine;decide),fun fo hfo=>?_⟩
 have nhf:h0≠fo:=Zc hA1 hfo
 have out0:Out ss (min room ss.length) H (upd H1 fo (.lst [])) h0 fo [] (first (min room ss.length)) (min room ss.length) []:=⟨Zg hfo _ _ _ hA1,Zb,trivial,nhf,(fun h=>by cases h),(fun h=>by cases h),s1.free hfo,f0h,(fun l h=>by cases h),s1.trans (Zg hfo _),by lia,fun n hn=>Zch hn,by rw[Zby];simp;lia,(fun d h=>by cases h),fun R h=>h⟩
 generalize upd H1 fo (.lst [])=H3 at out0 ⊢
 refine⟨fun m σ H4=>∃ (h1:Addr) (ls:List Addr) (A:List Int) (c:Nat) (done:List (List Int)) (v5 v6 v7:Option V),σ=[some (.ref a),some (.int room),some (.ref h1),some (.int c),some (.ref fo),v5,v6,v7]∧Out ss (min room ss.length) H H4 h1 fo ls A c done∧m=A.length+(ss.length-c),⟨_,h0,[],first (min room ss.length),min room ss.length,[],none,none,none,rfl,out0,rfl⟩,?_⟩
 rintro m σ H4 ⟨h1,ls,A,c,done,v5,v6,v7,rfl,hO,rfl⟩
 refine⟨_,rfl,(by show 0≤sizeLine;decide),fun e he=>?_⟩
 have hO2:=hO.mono (Zg he (.lst []))
 refine⟨.list (A.map PyData.int),.list [],.lst (SqL.of hO2.hA) (Zfv A),.lst (SqL.of Zb) .nil,Zbw A,Zbw [],_,rfl,?_⟩
 rw[ZhO]
 generalize upd H4 e (.lst [])=H5 at hO2 ⊢
 refine Za3 (fun d=>?_) (fun d=>?_)
 ·have hAne:A≠[]:=by intro z;rw[z]at d;cases d
  refine⟨_,fun σ' H' h=>h,?_⟩
  refine⟨(by show 0≤sizeLine;decide),fun la hla=>⟨(by show 0≤sizeLine;decide),fun go hgo=>⟨_,_,rfl,?_⟩⟩⟩
  have in0:=hO2.inn hAne hla hgo
  generalize upd (upd H5 la (.lst [])) go (.lst [])=H6 at in0 ⊢
  refine⟨fun m σ H7=>∃ (A' B:List Int) (c':Nat) (gone:List Int) (v7:Option V),σ=[some (.ref a),some (.int room),some (.ref h1),some (.int c'),some (.ref fo),some (.ref la),some (.ref go),v7]∧In ss (min room ss.length) H H7 h1 la go fo ls A' B c' gone done∧m=A'.length+(ss.length-c'),⟨_,A,[],c,[],_,rfl,in0,rfl⟩,?_⟩
  rintro m σ H7 ⟨A',B,c',gone,w7,rfl,hI,rfl⟩
  refine⟨_,rfl,(by show 0≤sizeLine;decide),fun e2 he2=>?_⟩
  have hI2:=hI.mono (Zg he2 (.lst []))
  refine⟨.list (A'.map PyData.int),.list [],.lst (SqL.of hI2.hA) (Zfv A'),.lst (SqL.of Zb) .nil,Zbw A',Zbw [],_,rfl,?_⟩
  rw[ZhO]
  generalize upd H7 e2 (.lst [])=H8 at hI2 ⊢
  refine Za3 (fun d2=>?_) (fun d2=>?_)
  ·have hAne2:A'≠[]:=by intro z;rw[z]at d2;cases d2
   refine⟨_,fun σ' H' h=>h,?_⟩
   have hcntI:=hI2.cnt
   have hcl:=hI2.hc
   have hlA:A'.length≤60:=by lia
   refine⟨_,rfl,h1,rfl,⟨_,SqL.of hI2.hA⟩,fun D hD=>?_⟩
   refine Zbh (K:=K) (a:=h1) (xs:=A'.map V.int) (fun i zs σ H9=>(∃v8:Option V,σ=[some (.ref a),some (.int room),some (.ref h1),some (.int c'),some (.ref fo),some (.ref la),some (.ref go),w7,v8])∧(∃ts:Zb9,zs=Z6 ts∧AtT H9 ts∧ts.length=i∧ts.map (·.2)=(A'.take i).map (fun m=>kk (ks ss m)))∧i≤A'.length∧H9 D=some (.lst zs)∧ZA H8 H9) ?_ (fun _ _ _ _ h=>SqL.of (h.2.2.2.2 _ _ hI2.hA)) ?_ ?_
   ·exact⟨⟨none,rfl⟩,⟨[],rfl,(fun t h=>by cases h),rfl,rfl⟩,Qv _,Zb,Zg hD _⟩
   ·rintro i x zs σ H9 hx ⟨⟨v8,rfl⟩,⟨ts,rfl,hat,htl,hE⟩,hi',hD9,s9⟩
    rw[Qk]at hx
    cases hz:A'[i]? with
    | none=>rw[hz]at hx;cases hx
    | some m =>
     rw[hz]at hx
     cases hx
     have hil:i<A'.length:=(Qc.mp hz).1
     have hm:=hI2.mem m (Qp _ (Qr hz))
     have hkey:=ZeR (ss:=ss) (n:=m) hm.1 (by lia)
     refine⟨_,rfl,_,rfl,a,_,_,_,rfl,rfl,(hI2.sm.trans s9).seq hS,hkey,_,rfl,(by show 2≤sizeLine;decide),fun n hn0=>?_⟩
     have sn:=Zg hn0 (.tup [.str (ss.getD m.toNat ""),.int m])
     have hD10:=sn _ _ hD9
     have nDn:D≠n:=Zc hD9 hn0
     refine⟨hD10,(by unfold Z6;rw[Qa,htl];exact Zx (by lia)),⟨_,rfl⟩,⟨ts++[(n,kk (ks ss m))],by unfold Z6;rw[Qf];rfl,fun t ht=>?_,by rw[Qg,Qj];lia,?_⟩,by lia,Zb,fun b o hb=>?_⟩
     ·rcases Qh.mp ht with ht|ht
      ·exact ZaA hD10 _ _ _ (sn _ _ (hat t ht))
      ·rw[Qe.mp ht,Ze nDn.symm];exact Zb
     ·rw[Qf,hE,QM,hz,Qf];rfl
     ·rw[Ze (Zc hb hD)];exact sn _ _ (s9 b o hb)
   rintro zs σ H9 ⟨⟨v8,rfl⟩,⟨ts,rfl,hat,htl,hE⟩,_,hD9,s9⟩
   rw[Qa,List.take_length]at hE
   rw[Qa]at htl
   have hApos:0<A'.length:=Qao.mpr hAne2
   have hsh:∀t∈ts,Zar t.2=[false,true]:=fun t ht=>by
    have:t.2∈A'.map (fun m=>kk (ks ss m)):=by rw[← hE];exact Qn (f:=fun t:Addr×List Key=>t.2) ht
    obtain⟨m,_,e⟩:=Qx.mp this
    rw[← e];rfl
   refine⟨D,ts,[false,true],rfl,SqL.of hD9,hat,(fun z=>by rw[z]at htl;simp only[List.length_nil]at htl;lia),hsh,fun t ht hmn=>?_⟩
   obtain⟨n,et,hleast⟩:=ZjK hE ht hmn
   have hnA:=hleast.1
   have hn:=hI2.mem n (Qp _ hnA)
   have ttup:=hat t ht
   rw[et]at ttup
   have hI3:=hI2.mono s9
   refine⟨t.1,_,_,V.int n,rfl,rfl,SqT.of ttup,rfl,?_⟩
   refine⟨_,rfl,Zc8 hI3.hA,_,rfl,h1,A',n,rfl,rfl,hI3.hA,hnA,by lia,?_⟩
   have hG10:(upd H9 h1 (.lst ((A'.erase n).map V.int))) go=some (.lst (gone.map V.int)):=by rw[Ze hI3.d2.symm];exact hI3.hG
   refine⟨_,rfl,Zc8 hG10,_,rfl,go,_,_,rfl,rfl,hG10,(by rw[Qa];exact Zx (by lia)),?_⟩
   have hel:(A'.erase n).length+1=A'.length:=by
    have:=Q4 hnA
    lia
   have hA11:(upd (upd H9 h1 (.lst ((A'.erase n).map V.int))) go (.lst (gone.map V.int++[.int n]))) h1=some (.lst ((A'.erase n).map V.int)):=by rw[Ze hI3.d2];exact Zb
   have hB11:(upd (upd H9 h1 (.lst ((A'.erase n).map V.int))) go (.lst (gone.map V.int++[.int n]))) la=some (.lst (B.map V.int)):=by rw[Ze hI3.d3,Ze hI3.d1.symm];exact hI3.hB
   have hG11:(upd (upd H9 h1 (.lst ((A'.erase n).map V.int))) go (.lst (gone.map V.int++[.int n]))) go=some (.lst ((gone++[n]).map V.int)):=by rw[Zb,Qf];rfl
   have kp11:∀x o,x≠h1→x≠la→x≠go→H9 x=some o→(upd (upd H9 h1 (.lst ((A'.erase n).map V.int))) go (.lst (gone.map V.int++[.int n]))) x=some o:=fun x o n1 _ n3 hx=>by rw[Ze n3,Ze n1];exact hx
   generalize upd (upd H9 h1 (.lst ((A'.erase n).map V.int))) go (.lst (gone.map V.int++[.int n]))=H11 at hA11 hB11 hG11 kp11 ⊢
   have sm11:ZA H H11:=fun b o hb=>kp11 _ _ (Zc hb hI3.f1) (Zc hb hI3.f2) (Zc hb hI3.f3) (hI3.sm b o hb)
   refine⟨_,rfl,_,rfl,a,_,rfl,.inl (sm11.seq hS),_,_,rfl,rfl,_,rfl,Za3 (fun d3=>?_) (fun d3=>?_)⟩
   ·have hcN:c'<ss.length:=by have:=of_decide_eq_true d3;lia
    have hkc:atI (ss.map V.str) (c':Int)=some (.str (ss.getD (c':Int).toNat "")):=ZeR (by lia) (by lia)
    have hkn:atI (ss.map V.str) n=some (.str (ss.getD n.toNat "")):=ZeR (by lia) (by lia)
    have hcc:((c':Int)+1)=((c'+1:Nat):Int):=by lia
    refine⟨_,rfl,_,rfl,(by show 2≤sizeLine;decide),fun e3 he3=>?_⟩
    have s12:=Zg he3 (.lst [.ref h1,.ref la])
    have ne1:h1≠e3:=Zc hA11 he3
    have ne2:la≠e3:=Zc hB11 he3
    have hS12:=(sm11.trans s12).seq hS
    have hE12:(upd H11 e3 (.lst [.ref h1,.ref la])) e3=some (.lst [.ref h1,.ref la]):=Zb
    have hA12:=s12 _ _ hA11
    have hB12:=s12 _ _ hB11
    have hG12:=s12 _ _ hG11
    have kp12:∀x o,x≠h1→x≠la→x≠go→H9 x=some o→(upd H11 e3 (.lst [.ref h1,.ref la])) x=some o:=fun x o n1 n2 n3 hx=>s12 _ _ (kp11 x o n1 n2 n3 hx)
    generalize upd H11 e3 (.lst [.ref h1,.ref la])=H12 at hS12 hE12 hA12 hB12 hG12 kp12 ⊢
    refine⟨_,rfl,_,rfl,a,_,_,_,rfl,rfl,hS12,hkc,_,rfl,_,rfl,a,_,_,_,rfl,rfl,hS12,hkn,_,_,rfl,rfl,.inr ⟨_,rfl,?_⟩⟩
    by_cases hlt:ltK ss c' n
    ·refine⟨e3,_,_,V.ref la,rfl,rfl,SqL.of hE12,Zrb hlt,Zc8 hB12,_,rfl,la,_,_,rfl,rfl,hB12,(by rw[Qa];exact Zx (by lia)),?_⟩
     refine⟨_,rfl,_,_,rfl,rfl,?_⟩
     simp only[hcc]
     refine⟨_,by lia,A'.erase n,B++[(c':Int)],c'+1,gone++[n],_,rfl,hI3.step (by rw[Ze hI3.d1];exact hA12) (by rw[Zb,Qf];rfl) (by rw[Ze hI3.d3.symm];exact hG12) (fun x o n1 n2 n3 hx=>by rw[Ze n2];exact kp12 x o n1 n2 n3 hx) hcN (fun m hm=>?_) (by rw[Qg,Qj];lia) (fun R hR=>.stepB hleast hcN hlt hR),rfl⟩
     have:m∈A'++B∨m=(c':Int):=by
      simp only[List.mem_append,List.mem_singleton]at hm ⊢
      rcases hm with hm|hm|hm
      ·exact .inl (.inl (Qt hm))
      ·exact .inl (.inr hm)
      ·exact .inr hm
     rcases this with h|h
     ·have:=hI3.mem m h;lia
     ·lia
    ·refine⟨e3,_,_,V.ref h1,rfl,rfl,SqL.of hE12,Zpi hlt,Zc8 hA12,_,rfl,h1,_,_,rfl,rfl,hA12,(by rw[Qa];exact Zx (by lia)),?_⟩
     refine⟨_,rfl,_,_,rfl,rfl,?_⟩
     simp only[hcc]
     refine⟨_,by rw[Qg,Qj];lia,A'.erase n++[(c':Int)],B,c'+1,gone++[n],_,rfl,hI3.step (by rw[Zb,Qf];rfl) (by rw[Ze hI3.d1.symm];exact hB12) (by rw[Ze hI3.d2.symm];exact hG12) (fun x o n1 n2 n3 hx=>by rw[Ze n1];exact kp12 x o n1 n2 n3 hx) hcN (fun m hm=>?_) (by rw[Qg,Qj];lia) (fun R hR=>.stepA hleast hcN hlt hR),rfl⟩
     have:m∈A'++B∨m=(c':Int):=by
      simp only[List.mem_append,List.mem_singleton]at hm ⊢
      rcases hm with(hm|hm)|hm
      ·exact .inl (.inl (Qt hm))
      ·exact .inr hm
      ·exact .inl (.inr hm)
     rcases this with h|h
     ·have:=hI3.mem m h;lia
     ·lia
   ·have hcN:¬ c'<ss.length:=fun z=>d3 (decide_eq_true (by lia))
    refine⟨_,by lia,A'.erase n,B,c',gone++[n],_,rfl,hI3.step hA11 hB11 hG11 kp11 hI3.hc (fun m hm=>hI3.mem m ?_) (by lia) (fun R hR=>.stepN hleast hcN hR),rfl⟩
    rcases Qh.mp hm with hm|hm
    ·exact Qp _ (Qt hm)
    ·exact Qo _ hm
  ·have hA0:A'=[]:=by cases A' with|nil=>rfl|cons _ _=>exact absurd rfl d2
   subst hA0
   have hcO:=hO2.cnt
   have hcI:=hI2.cnt
   have hg:gone≠[]:=hI2.go'.resolve_left (fun z=>z rfl)
   have hgl:0<gone.length:=Qao.mpr hg
   have hln:=(Zcc done hI2.nem).1
   refine⟨_,rfl,Zc8 hI2.hF,_,rfl,fo,_,_,rfl,rfl,hI2.hF,(by rw[Qa,hI2.rd.len];exact Zx (by lia)),?_⟩
   have hO3:=hI2.out
   rw[Qf]at hO3
   refine⟨_,rfl,?_⟩
   simp only[List.length_nil]at hcI
   exact⟨_,by lia,la,ls++[go],B,c',done++[gone],_,_,_,rfl,hO3,rfl⟩
 ·have hA0:A=[]:=by cases A with|nil=>rfl|cons _ _=>exact absurd rfl d
  subst hA0
  have hc:=hO2.cnt
  obtain⟨b1,b2⟩:=Zcc _ hO2.nem
  exact⟨_,rfl,q fo ls done H5 hO2.f0 hO2.hF hO2.l0 hO2.fl hO2.rd (hO2.res _ .stop0) (by lia) (fun d hd=>by have:=b2 d hd;lia) hO2.sm⟩
def Ord(E:List (Str×Int)):Prop:=E.Pairwise fun a b=>ZU (kk b) (kk a)=false
theorem ZjQ{ts' ts:Zb9}{E:List (Str×Int)}(hE:ts.map (·.2)=E.map kk)(pm:ts'.Perm ts)(pw:ts'.Pairwise (fun a b=>ZU b.2 a.2=false)):∃E',E'.Perm E∧ts'.map (·.2)=E'.map kk∧Ord E':=by
 obtain⟨E',p,e⟩:=Zjc kk (pm.map (·.2)) E hE
 refine⟨E',p,e,?_⟩
 have:(ts'.map (·.2)).Pairwise (fun a b=>ZU b a=false):=List.pairwise_map.mpr pw
 rw[e]at this
 exact List.pairwise_map.mp this
theorem Zlt{K:PySem.W.Frag}{a:Addr}{xs:List V}{k:Nat}{D:Addr}{σ:L2.St}{H1:Hp}{g:TG}{te:TE}{Q:VK}(Pv:Nat→List V→L2.St→Hp→Prop)(h0:Pv 0 [] (σ++List.replicate k none) (upd H1 D (.lst [])))
  (hl:∀i zs σ H,Pv i zs σ H→SqL K H a xs)
  (hs:∀i zs σ H x p,xs[i]? = some x→Pv i zs σ H→H p=none→g (.ref p) σ (upd H p (.tup [.int i,x])) fun σ4 H4=>te σ4 H4 fun z H6=>H6 D=some (.lst zs)∧zs.length<sizeLine∧Pv (i+1) (zs++[z]) σ4 (upd H6 D (.lst (zs++[z]))))
  (hd:∀zs σ H,Pv xs.length zs σ H→Q (.ref D) H):Zfb (Ite K a) D k σ H1 g Zgs te Q:=by
 refine⟨fun i m zs σ H=>m=xs.length-i∧i≤xs.length∧Pv i zs σ H,⟨xs.length,by simp,Qv _,h0⟩,?_⟩
 rintro i m zs σ H ⟨rfl,hi,p⟩
 have q1:=hl i zs σ H p
 by_cases hlt:i<xs.length
 ·refine .inr ⟨⟨xs,q1,hlt⟩,Pv (i+1),fun ys' σ' H' p'=>⟨xs.length-(i+1),by lia,rfl,hlt,p'⟩,fun x H' y=>?_⟩
  obtain⟨r,hr,rfl,e⟩:=y
  have e':=e xs q1 _ (Qb hlt)
  subst e'
  simp only[Zgs,↓reduceIte]
  exact hs i zs σ H _ r (Qb hlt) p hr
 ·have e:i=xs.length:=by lia
  exact .inl ⟨⟨xs,q1,by lia⟩,hd zs σ H (e ▸ p)⟩
def Ris(ss:List Str)(ns:List Int):Prop:=∀ (p:Nat) (x y:Int),ns[p]? = some x→ns[p+1]? = some y→ZU (kk (ks ss x)) (kk (ks ss y))=true
theorem ZiM(ss:List Str)(n:Nat):((first n).map (ks ss)).Nodup:=by
 unfold first Zaj
 rw[QE]
 refine QaL _ (fun a b h=>?_) List.nodup_range
 intro z
 have:=congrArg Prod.snd z
 exact h (by simp only[Function.comp_apply,ks]at this;lia)
theorem ZqE{ss:List Str}{n:Nat}{E:List (Str×Int)}(hp:E.Perm ((first n).map (ks ss)))(ho:Ord E):Ris ss (E.map (·.2))∧(∀m∈E.map (·.2),(0:Int)≤m∧m<(n:Int))∧E.length=n:=by
 have he:∀e∈E,e=ks ss e.2∧(0:Int)≤e.2∧e.2<(n:Int):=fun e h=>by
  obtain⟨m,hm,rfl⟩:=Qx.mp (hp.mem_iff.mp h)
  exact⟨rfl,Zch hm⟩
 refine⟨fun p x y hx hy=>?_,fun m hm=>?_,?_⟩
 ·rw[Qk]at hx hy
  cases h1:E[p]? with
  | none=>rw[h1]at hx;cases hx
  | some e =>
   cases h2:E[p+1]? with
   | none=>rw[h2]at hy;cases hy
   | some f =>
    rw[h1]at hx
    rw[h2]at hy
    cases hx
    cases hy
    obtain⟨l1,g1⟩:=Qc.mp h1
    obtain⟨l2,g2⟩:=Qc.mp h2
    have o:=Q8.mp ho p (p+1) l1 l2 (by lia)
    have nd:=Q8.mp (hp.nodup_iff.mpr (ZiM ss n)) p (p+1) l1 l2 (by lia)
    rw[g1,g2]at o nd
    rw[← (he e (Qr h1)).1,← (he f (Qr h2)).1]
    cases hb:ZU (kk e) (kk f) with
    | true=>rfl
    | false=>exact absurd (Zh4 (Zbv _ _ hb o)) nd
 ·obtain⟨e,h,rfl⟩:=Qx.mp hm
  exact(he e h).2
 ·rw[hp.length_eq,Qa,Zby]
def ZlJ(K:PySem.W.Frag):Sp:=fun vs H Q _=>∃ (a:Addr) (ss:List Str),vs=[.ref a]∧SqL K H a (ss.map V.str)∧ss.length≤60 ∧
 ∀ (r:Addr) (ns:List Int) (H':Hp),H r=none→H' r=some (.lst (ns.map V.int))→ns.length=ss.length→(∀n∈ns,0≤n∧n<ss.length)→Ris ss ns→ZA H H'→Q (.ref r) H'
theorem Zit(T:Zao K mg cRow cMerge):Df P w K mg base 1 "_law_in_order" ["_law_things_here"] (ZlJ K):=by
 refine T.t_l_in_order.df ZgK (fun vs H Q E h=>?_) (fun cdv f A outer s H vs Q E hr h=>?_)
 ·obtain⟨a,ss,rfl,_⟩:=h
  rfl
 obtain⟨a,ss,rfl,hS,h60,q⟩:=h
 refine⟨_,#[Zj,#[Zp,#[Za8,ZkE,#[iL,K,#[Zk,(Zsg K),(by rfl),T.b.n_sorted,boot_sorted,#[Za,#[Za8,ZiC,#[iE,K,T.b.n_enumerate,#[Za,‹0›,#[Zd]]],(fun _ _ _ _=>#[gT,K,2,#[Zw,#[cg,1,ZiC],#[Zw,#[cg,2,ZiC],(@ZaD _)]]]),(fun _ _ _ _=>(@ZaC _)),(fun _ _ _ _=>#[ZH,#[Za,#[cw,2,ZiC],#[Za,#[cw,1,ZiC],#[Zd]]]])],#[Zd]]]],(fun _ _ _ _=>#[gT,K,2,#[Zw,#[cg,1,ZkE],#[Zw,#[cg,2,ZkE],(@ZaD _)]]]),(fun _ _ _ _=>(@ZaC _)),(fun _ _ _ _=>#[cw,2,ZkE])]]],?_⟩
 refine⟨_,rfl,a,ss.map V.str,rfl,hS,fun D hD=>?_⟩
 refine Zlt (K:=K) (a:=a) (xs:=ss.map V.str) (fun i zs σ H2=>(∃v1 v2:Option V,σ=[some (.ref a),v1,v2])∧(∃ts:Zb9,zs=Z6 ts∧AtT H2 ts∧ts.length=i∧ts.map (·.2)=((first i).map (ks ss)).map kk)∧i≤ss.length∧H2 D=some (.lst zs)∧ZA H H2) ?_ (fun _ _ _ _ h=>h.2.2.2.2.seq hS) ?_ ?_
 ·exact⟨⟨none,none,rfl⟩,⟨[],rfl,(fun t h=>by cases h),rfl,rfl⟩,Qv _,Zb,Zg hD _⟩
 ·rintro i zs σ H2 x p hx ⟨⟨v1,v2,rfl⟩,⟨ts,rfl,hat,htl,hE⟩,hi',hD2,s2⟩ hp
  rw[Qk]at hx
  cases hy:ss[i]? with
  | none=>rw[hy]at hx;cases hx
  | some y =>
   rw[hy]at hx
   cases hx
   have hil:i<ss.length:=(Qc.mp hy).1
   have sp:=Zg hp (.tup [.int i,.str y])
   have hp3:(upd H2 p (.tup [.int i,.str y])) p=some (.tup [.int i,.str y]):=Zb
   have hD3:=sp _ _ hD2
   have hat3:=AtT.mono hat sp
   have s3:=s2.trans sp
   generalize upd H2 p (.tup [.int i,.str y])=H3 at hp3 hD3 hat3 s3 ⊢
   refine⟨p,_,rfl,SqT.of hp3,rfl,_,_,rfl,_,_,rfl,rfl,?_⟩
   refine⟨_,rfl,_,rfl,(by show 2≤sizeLine;decide),fun n hn0=>?_⟩
   have sn:=Zg hn0 (.tup [.str y,.int i])
   have hD4:=sn _ _ hD3
   have nDn:D≠n:=Zc hD3 hn0
   refine⟨hD4,(by unfold Z6;rw[Qa,htl];exact Zx (by lia)),⟨_,_,rfl⟩,⟨ts++[(n,kk (ks ss (i:Int)))],by unfold Z6;rw[Qf];rfl,fun t ht=>?_,by rw[Qg,Qj];lia,?_⟩,by lia,Zb,fun b o hb=>?_⟩
   ·rcases Qh.mp ht with ht|ht
    ·exact ZaA hD4 _ _ _ (sn _ _ (hat3 t ht))
    ·rw[Qe.mp ht,Ze nDn.symm]
     have ey:ss.getD i "" = y:=by rw[Qm,hy];rfl
     show (upd H3 n _) n=_
     rw[Zb,← ey]
     rfl
   ·rw[Qf,hE]
    unfold first Zaj
    rw[Qav,Qf,Qf,Qf]
    simp
   ·rw[Ze (Zc hb hD)];exact sn _ _ (s3 b o hb)
 rintro zs σ H2 ⟨⟨v1,v2,rfl⟩,⟨ts,rfl,hat,htl,hE⟩,_,hD2,s2⟩
 rw[Qa]at hE htl
 have hsh:∀t∈ts,Zar t.2=[false,true]:=fun t ht=>by
  have:t.2∈((first ss.length).map (ks ss)).map kk:=by rw[← hE];exact Qn (f:=fun t:Addr×List Key=>t.2) ht
  obtain⟨m,_,e⟩:=Qx.mp this
  rw[← e];rfl
 refine⟨D,ts,[false,true],rfl,SqL.of hD2,hat,by simp,hsh,by lia,fun l ts' hl pm pw=>?_⟩
 obtain⟨E',pE,eE,oE⟩:=ZjQ hE pm pw
 obtain⟨hris,hmem,hEl⟩:=ZqE pE oE
 have s3:=s2.trans (Zg hl (.lst (Z6 ts')))
 have hl3:(upd H2 l (.lst (Z6 ts'))) l=some (.lst (Z6 ts')):=Zb
 have hat3:AtT (upd H2 l (.lst (Z6 ts'))) ts':=fun t ht=>Zg hl _ _ _ (hat t (pm.mem_iff.mp ht))
 generalize upd H2 l (.lst (Z6 ts'))=H3 at s3 hl3 hat3 ⊢
 have htl':ts'.length=ss.length:=by rw[pm.length_eq];exact htl
 refine⟨l,rfl,⟨_,SqL.of hl3⟩,fun D3 hD3=>?_⟩
 refine Zbh (K:=K) (a:=l) (xs:=Z6 ts') (fun i zs σ H4=>(∃v1 v2:Option V,σ=[some (.ref a),v1,v2])∧zs=((E'.take i).map (·.2)).map V.int∧i≤ts'.length∧H4 D3=some (.lst zs)∧ZA H3 H4) ?_ (fun _ _ _ _ h=>SqL.of (h.2.2.2.2 _ _ hl3)) ?_ ?_
 ·exact⟨⟨none,none,rfl⟩,rfl,Qv _,Zb,Zg hD3 _⟩
 ·rintro i x zs σ H4 hx ⟨⟨v1,v2,rfl⟩,rfl,hi3,hD4,s4⟩
  unfold Z6 at hx
  rw[Qk]at hx
  cases ht:ts'[i]? with
  | none=>rw[ht]at hx;cases hx
  | some t =>
   rw[ht]at hx
   cases hx
   have hil:i<ts'.length:=(Qc.mp ht).1
   have hEi:E'[i]? = some E'[i]:=Qb (by lia)
   have e5:t.2=kk E'[i]:=by
    have:=congrArg (fun z=>z[i]?) eE
    simp only[List.getElem?_map,ht,hEi,Option.map_some]at this
    exact Qq this
   have hH:=s4 _ _ (hat3 t (Qr ht))
   rw[e5]at hH
   refine⟨t.1,_,rfl,SqT.of hH,rfl,_,_,rfl,_,_,rfl,rfl,?_⟩
   refine⟨_,rfl,hD4,(by rw[Qa,Qa,QC];exact Zx (by lia)),⟨_,_,rfl⟩,?_,hil,Zb,fun b o hb=>?_⟩
   ·rw[QM,hEi,Qf,Qf];rfl
   ·rw[Ze (Zc hb hD3)];exact s4 b o hb
 rintro zs σ H4 ⟨⟨v1,v2,rfl⟩,rfl,hi3,hD4,s4⟩
 rw[show (Z6 ts').length=ts'.length from Qa _,QB (by lia)]at hD4
 exact q D3 _ H4 (s3.free hD3) hD4 (by rw[Qa];exact hEl) hmem hris (s3.trans s4)
inductive PT where
 | leaf (k:Int)
 | node (l:List PT)
mutual
inductive TV (H:Hp):V→PT→Prop where
 | leaf (k:Int):TV H (.int k) (.leaf k)
 | node {a:Addr} {xs:List V} {l:List PT}:H a=some (.tup xs)→TVs H xs l→TV H (.ref a) (.node l)
inductive TVs (H:Hp):List V→List PT→Prop where
 | nil:TVs H [] []
 | cons {x:V} {t:PT} {xs:List V} {l:List PT}:TV H x t→TVs H xs l→TVs H (x::xs) (t::l)
end
mutual
theorem TV.mono{H H':Hp}(s:∀a xs,H a=some (.tup xs)→H' a=some (.tup xs)):∀ {x:V} {t:PT},TV H x t→TV H' x t
 | _,_,.leaf k=>.leaf k
 | _,_,.node h hs=>.node (s _ _ h) (hs.mono s)
theorem TVs.mono{H H':Hp}(s:∀a xs,H a=some (.tup xs)→H' a=some (.tup xs)):∀ {xs:List V} {l:List PT},TVs H xs l→TVs H' xs l
 | _,_,.nil=>.nil
 | _,_,.cons h hs=>.cons (h.mono s) (hs.mono s)
end
mutual
def toD:PT→PyData
 | .leaf k=>.int k
 | .node l=>.tuple (Zel l)
def Zel:List PT→List PyData
 | []=>[]
 | t::r=>toD t::Zel r
end
mutual
theorem TV.dv{K:PySem.W.Frag}{H:Hp}:∀ {x:V} {t:PT},TV H x t→DV K H x (toD t)
 | _,_,.leaf k=>.int k
 | _,_,.node h hs=>.tup (SqT.of h) hs.dv
theorem TVs.dv{K:PySem.W.Frag}{H:Hp}:∀ {xs:List V} {l:List PT},TVs H xs l→DVs K H xs (Zel l)
 | _,_,.nil=>.nil
 | _,_,.cons h hs=>.cons h.dv hs.dv
end
theorem TVs.len{H:Hp}:∀ {xs:List V} {l:List PT},TVs H xs l→xs.length=l.length
 | _,_,.nil=>rfl
 | _,_,.cons _ hs=>by rw[QK,QK,hs.len]
theorem TVs.app{H:Hp}:∀ {xs ys:List V} {l m:List PT},TVs H xs l→TVs H ys m→TVs H (xs++ys) (l++m)
 | _,_,_,_,.nil,h=>h
 | _,_,_,_,.cons h hs,g=>.cons h (hs.app g)
theorem TVs.at{H:Hp}:∀ {xs:List V} {l:List PT} {i:Nat} {x:V},TVs H xs l→xs[i]? = some x→∃t,l[i]? = some t∧TV H x t
 | _,_,i,x,.nil,h=>by simp at h
 | _,_,0,x,.cons (t:=t) h _,e=>by simp at e;subst e;exact⟨t,rfl,h⟩
 | _,_,i+1,x,.cons _ hs,e=>by simpa using hs.at (i:=i) (by simpa using e)
mutual
def tSz(ns:List Int):PT→Int
 | .leaf k=>ns.getD k.toNat 0
 | .node l=>ZeS ns l
def ZeS(ns:List Int):List PT→Int
 | []=>0
 | t::r=>tSz ns t+ZeS ns r
end
mutual
def tCo(ns:List Int):PT→Int
 | .leaf _=>0
 | .node l=>ZbB ns l+ZeS ns l
def ZbB(ns:List Int):List PT→Int
 | []=>0
 | t::r=>tCo ns t+ZbB ns r
end
mutual
def tLf:PT→Nat
 | .leaf _=>1
 | .node l=>Zmh l
def Zmh:List PT→Nat
 | []=>0
 | t::r=>tLf t+Zmh r
end
mutual
def tDp:PT→Nat
 | .leaf _=>0
 | .node l=>ZeX l+1
def ZeX:List PT→Nat
 | []=>0
 | t::r=>max (tDp t) (ZeX r)
end
mutual
def tNo:PT→Nat
 | .leaf _=>1
 | .node l=>Zgr l+1
def Zgr:List PT→Nat
 | []=>0
 | t::r=>tNo t+Zgr r
end
mutual
def tOk(n:Nat):PT→Prop
 | .leaf k=>0≤k∧k<n
 | .node l=>Zli n l
def Zli(n:Nat):List PT→Prop
 | []=>True
 | t::r=>tOk n t∧Zli n r
end
theorem ZfJ(ns:List Int):∀a b:List PT,ZbB ns (a++b)=ZbB ns a+ZbB ns b
 | [],b=>by show ZbB ns b=0+ZbB ns b;lia
 | t::r,b=>by show tCo ns t+ZbB ns (r++b)=tCo ns t+ZbB ns r+ZbB ns b;rw[ZfJ ns r b];lia
theorem Zki(n:Nat):∀ (l:List PT) (i:Nat) (t:PT),Zli n l→l[i]? = some t→tOk n t
 | [],i,t,_,h=>by simp at h
 | a::r,0,t,h,e=>by simp at e;subst e;exact h.1
 | a::r,i+1,t,h,e=>Zki n r i t h.2 (by simpa using e)
theorem Zj4:∀ (l:List PT) (i:Nat) (t:PT),l[i]? = some t→tDp t≤ZeX l
 | [],i,t,h=>by simp at h
 | a::r,0,t,e=>by simp at e;subst e;show tDp a≤max (tDp a) (ZeX r);lia
 | a::r,i+1,t,e=>by have:=Zj4 r i t (by simpa using e);show tDp t≤max (tDp a) (ZeX r);lia
mutual
theorem Zkl:∀t:PT,1≤tNo t
 | .leaf _=>Qi _
 | .node l=>by show 1≤Zgr l+1;lia
theorem Zn3:∀l:List PT,l.length≤Zgr l
 | []=>Qi _
 | t::r=>by have:=Zkl t;have:=Zn3 r;show r.length+1≤tNo t+Zgr r;lia
end
mutual
theorem Zqd:∀t:PT,tLf t≤tNo t
 | .leaf _=>Qi _
 | .node l=>by have:=ZkP l;show Zmh l≤Zgr l+1;lia
theorem ZkP:∀l:List PT,Zmh l≤Zgr l
 | []=>Qi _
 | t::r=>by have:=Zqd t;have:=ZkP r;show tLf t+Zmh r≤tNo t+Zgr r;lia
end
theorem ZkZ{k:Int}(h0:0≤k)(h1:k≤10000000000):(PyData.int k).intsShort 13=true∧(PyData.int k).showable=true∧(PyData.int k).weight≤40:=by
 have hl:k.natAbs<2 ^ 34:=by lia
 have hlog:k.natAbs.log2<34:=by
  by_cases e:k.natAbs=0
  ·rw[e];decide
  ·exact(Nat.log2_lt e).mpr hl
 refine⟨?_,?_,?_⟩
 ·simp only[PyData.intsShort]
  exact decide_eq_true (PyData.shown_int_le (by lia))
 ·simp only[PyData.showable]
  exact decide_eq_true (by lia)
 ·simp only[PyData.weight]
  split<;>lia
mutual
theorem ZnE{n:Nat}(hn:n≤1000):∀t:PT,tOk n t→(toD t).canLay0=true∧(toD t).depth=tDp t∧(toD t).weight+1≤42*tNo t∧(toD t).intsShort 13=true∧(toD t).showable=true
 | .leaf k,h=>by
  obtain⟨h0,h1⟩:=h
  obtain⟨a,b,c⟩:=ZkZ h0 (by lia)
  refine⟨by simp[toD,PyData.canLay0],by simp[toD,PyData.depth,tDp],?_,a,b⟩
  show (PyData.int k).weight+1≤42*1
  lia
 | .node l,h=>by
  obtain⟨a,b,c,d,e⟩:=Zhq hn l h
  refine⟨by simpa [toD,PyData.canLay0] using a,by simp[toD,PyData.depth,tDp,b],?_,by simpa [toD,PyData.intsShort] using d,by simpa [toD,PyData.showable] using e⟩
  show PyData.weightAll (Zel l)+1≤42*(Zgr l+1)
  lia
theorem Zhq{n:Nat}(hn:n≤1000):∀l:List PT,Zli n l→PyData.canLayAll0 (Zel l)=true∧PyData.depthAll (Zel l)=ZeX l∧PyData.weightAll (Zel l)≤42*Zgr l∧PyData.intsShortAll 13 (Zel l)=true∧PyData.showableAll (Zel l)=true
 | [],_=>⟨rfl,rfl,Qv _,rfl,rfl⟩
 | t::r,h=>by
  obtain⟨a,b,c,d,e⟩:=ZnE hn t h.1
  obtain⟨a',b',c',d',e'⟩:=Zhq hn r h.2
  have hp:=Zkl t
  refine⟨by simp[Zel,PyData.canLayAll0,a,a'],by simp[Zel,PyData.depthAll,ZeX,b,b'],?_,by simp[Zel,PyData.intsShortAll,d,d'],by simp[Zel,PyData.showableAll,e,e']⟩
  show (toD t).weight+1+PyData.weightAll (Zel r)≤42*(tNo t+Zgr r)
  lia
end
mutual
def tLv:PT→List Int
 | .leaf k=>[k]
 | .node l=>ZaY l
def ZaY:List PT→List Int
 | []=>[]
 | t::r=>tLv t++ZaY r
end
mutual
def tPl(w:Nat):PT→Prop
 | .leaf _=>True
 | .node l=>2≤l.length∧l.length≤w∧Zdn w l
def Zdn(w:Nat):List PT→Prop
 | []=>True
 | t::r=>tPl w t∧Zdn w r
end
theorem Zi3:∀a b:List PT,ZaY (a++b)=ZaY a++ZaY b
 | [],b=>rfl
 | t::r,b=>by show tLv t++ZaY (r++b)=(tLv t++ZaY r)++ZaY b;rw[Zi3 r b,Qai]
theorem ZiU(w:Nat):∀a b:List PT,Zdn w (a++b)↔Zdn w a∧Zdn w b
 | [],b=>by show Zdn w b↔True∧Zdn w b;simp
 | t::r,b=>by show tPl w t∧Zdn w (r++b)↔(tPl w t∧Zdn w r)∧Zdn w b;rw[ZiU w r b,and_assoc]
def ZpP:Sp:=fun vs H Q _=>(∃i:Int,vs=[.int i]∧Q (.bl true) H)∨(∃ (a:Addr) (xs:List V),vs=[.ref a]∧H a=some (.tup xs)∧Q (.bl false) H)
theorem Zla(K:PySem.W.Frag):PySem.W.kitOne K (.type "tuple") (.type "int")=some false:=by unfold PySem.W.kitOne PySem.W.kitCls;rfl
theorem ZpZ(T:Zao K mg cRow cMerge):Df P w K mg base 1 "is_number" ["thing"] ZpP:=by
 refine T.t_is_number.df Zh0 (fun vs H Q E h=>?_) (fun cdv f A outer s H vs Q E hr h=>?_)
 ·rcases h with⟨_,rfl,_⟩|⟨_,_,rfl,_⟩<;>rfl
 refine⟨_,#[Zj,#[Zp,#[ZeV,#[Zk,(Ze7 K),(by rfl),T.b.n_isinstance,boot_isinstance,#[Za,‹0›,#[Za,#[Zcm,T.b.n_int,boot_int],#[Zd]]]],(@ZfK _ _ _ _ _ (@ZmO _ _ _ _ #[Zk,(Ze7 K),(by rfl),T.b.n_isinstance,boot_isinstance,#[Za,‹0›,#[Za,#[Zcm,T.b.n_bool,boot_bool],#[Zd]]]]))]]],?_⟩
 rcases h with⟨i,rfl,q⟩|⟨a,xs,rfl,ha,q⟩
 ·exact⟨_,rfl,_, "int",_,_,rfl,.int i,Zhu K,_,rfl,ZeH ⟨_,rfl,_, "bool",_,_,rfl,.int i,ZfD K,_,rfl,q⟩⟩
 ·exact⟨_,rfl,_, "int",_,_,rfl,.tup ha,Zla K,_,rfl,Zcz q⟩
theorem Zgg{α:Type}:∀ (l:List α) (i:Nat) (h:i<l.length),(l[i]::l.eraseIdx i).Perm l
 | [],i,h=>by simp at h
 | a::r,0,h=>.refl _
 | a::r,i+1,h=>by
  rw[List.getElem_cons_succ,List.eraseIdx_cons_succ]
  exact(List.Perm.swap a _ _).trans ((Zgg r i (by simpa using h)).cons a)
theorem ZkR{gone:List Int}{done:List (List Int)}(h:∀d∈done,d≠[]):∀d∈Zcu gone done,d≠[]:=fun d hd=>by
 unfold Zcu at hd
 by_cases hg:gone=[]
 ·rw[if_pos hg]at hd;exact h d hd
 ·rw[if_neg hg]at hd
  rcases Qh.mp hd with hd|hd
  ·exact h d hd
  ·rw[Qe.mp hd];exact hg
theorem ZfP(gone:List Int)(done:List (List Int))(n:Int):Zcu (gone++[n]) done=done++[gone++[n]]:=by unfold Zcu;rw[if_neg (by simp)]
theorem ZdM(gone:List Int)(done:List (List Int)):((Zcu gone done).map List.length).sum=(done.map List.length).sum+gone.length:=by
 unfold Zcu
 by_cases hg:gone=[]
 ·rw[if_pos hg,hg];rfl
 ·rw[if_neg hg,Qf,Qak];simp
theorem At.switch{ss:List Str}{k:Nat}{H0 H:Hp}{ia ru:Addr}{ts:Zb9}{ls:List Addr}{b:Int}{B:List Int}{c:Nat}{gone:List Int}{done:List (List Int)}(h:At ss k H0 H ia ru ts ls [] (b::B) c gone done):At ss k H0 H ia ru ts ls (b::B) [] c [] (done++[gone]):=by
 have hg:=h.go (by simp) rfl
 have e:Zcu [] (done++[gone])=Zcu gone done:=by unfold Zcu;rw[if_pos rfl,if_neg hg]
 refine⟨h.ins,h.att,?_,h.run,by rw[e];exact h.rd,h.rul,h.nd,h.fr,h.ne,h.nil,h.sm,h.i0,h.r0,h.hc,fun n hn=>h.mem n (by simpa using hn),?_,fun d hd=>?_,fun hb=>absurd rfl hb,fun R hR=>h.res R (.switch hR)⟩
 ·have:=h.per
  unfold Zbz at this ⊢
  rw[Qap,List.nil_append]at this
  rw[Qap,QR,Qg,Qj]
  exact this
 ·rw[e];have:=h.cnt;simpa using this
 ·rcases Qh.mp hd with hd|hd
  ·exact h.nem d hd
  ·rw[Qe.mp hd];exact hg
theorem Zoe{ss:List Str}{r:Int}{A B:List Int}{ts:Zb9}(hp:(ts.map (·.2)).Perm (Zbz ss r A B)):∀t∈ts,Zar t.2=[true,false,true]:=fun t ht=>by
 have:=hp.mem_iff.mp (Qn (f:=fun t:Addr×List Key=>t.2) ht)
 rcases Qh.mp this with h|h
 ·obtain⟨n,_,e⟩:=Qx.mp h;rw[← e];rfl
 ·obtain⟨n,_,e⟩:=Qx.mp h;rw[← e];rfl
theorem ZoW(T:Zao K mg cRow cMerge)(f_run_behind:Df P w K mg base 4 "run_behind" ["run", "key", "comer"] ZiK):Df P w K mg base 5 "runs_of" ["things", "room"] (ZjN K):=by
 refine T.t_runs_of.df ZaV (fun vs H Q E h=>?_) (fun cdv f A outer s H vs Q E hr h=>?_)
 ·obtain⟨a,ss,room,rfl,_⟩:=h
  rfl
 obtain⟨a,ss,room,rfl,hS,h60,hlen,hroom,q⟩:=h
 refine⟨_,#[Zf,#[Zea,2,ZaV.nd,Zmb,#[Zbj,T.b.n_range,#[Za,#[Zk,(Zci rfl),(by rfl),T.b.n_min,boot_min,#[Za,‹1›,#[Za,#[Zk,(ZbC K),(by rfl),T.b.n_len,Qw,#[Za,#[pv,0,(Or.inr (Or.inl rfl))],#[Zd]]],#[Zd]]]],#[Zd]]],(fun _ _ _ _=>#[cg,9,Zmb]),(fun _ _ _ _=>(@ZaC _)),(fun _ _ _ _=>#[ZH,#[Za,#[Zi],#[Za,#[Zz,(ixL K),#[cv,0,Zmb],#[cw,9,Zmb]],#[Za,#[cw,9,Zmb],#[Zd]]]]])],#[Zf,#[Zu,3,ZaV.nd,(Or.inl rfl),#[Zk,(ZbC K),(by rfl),T.b.n_len,Qw,#[Za,‹2›,#[Zd]]]],#[Zf,#[Zu,4,ZaV.nd,(Or.inl rfl),#[Zai,#[Zd]]],#[Zf,(@ZcT _ _ _ _ _ _ PassesOwn.never #[Zn,ZfF,#[Zk,(ZbC K),(by rfl),T.b.n_len,Qw,#[Za,‹2›,#[Zd]]],#[Zi],(Zs _)] #[Zf,#[Zu,5,ZaV.nd,(Or.inl rfl),#[Zk,(ZpV K hr),(by rfl),T.b.n_min,boot_min,#[Za,‹2›,#[Zd]]]],#[Zf,#[Zac,#[ZbY,QD,PySem.F.slot_list_remove,PySem.F.type_list_remove,(Zsr hr),‹2›,#[Za,‹5›,#[Zd]]]],#[Zf,#[ZaS,‹5›,#[gT,K,3,#[Zw,#[ZB,6,ZaV.nd],#[Zw,#[ZB,7,ZaV.nd],#[Zw,#[ZB,8,ZaV.nd],(@ZaD _)]]]]],(@Zia _ _ _ _ _ #[Z9,#[Zn,Za7,‹6›,#[Zk,(ZbC K),(by rfl),T.b.n_len,Qw,#[Za,‹4›,#[Zd]]],(Zs _)],#[Zj,#[Zac,#[ZbY,QD,QH,QI,Z7,‹4›,#[Za,#[Zai,#[Zd]],#[Zd]]]]],#[ZF]] #[Zf,#[Zac,#[ZbY,QD,QH,QI,Z7,#[Zz,(ixL K),‹4›,‹6›],#[Za,‹8›,#[Zd]]]],#[Zj,#[Z9,#[Zn,Zd4,‹3›,#[Zk,(ZbC K),(by rfl),T.b.n_len,Qw,#[Za,#[pv,0,(Or.inr (Or.inl rfl))],#[Zd]]],(Zs _)],#[Zf,#[Zac,#[ZbY,QD,QH,QI,Z7,‹2›,#[Za,#[ZH,#[Za,#[ZD,f_run_behind,hr,#[Za,‹6›,#[Za,‹7›,#[Za,#[Zz,(ixL K),#[pv,0,(Or.inr (Or.inl rfl))],‹3›],#[Zd]]]],(by rfl)],#[Za,#[Zz,(ixL K),#[pv,0,(Or.inr (Or.inl rfl))],‹3›],#[Za,‹3›,#[Zd]]]]],#[Zd]]]],#[Zj,(@ZnI _ _ 3 _ _ _ _ _ _ ZaV.nd rfl (Or.inl rfl) #[Zi] Zny (by trivial))]],#[ZF]]]])]]]),#[Zj,#[Zp,‹4›]]]]]],?_⟩
 have hl:(((ss.map V.str).length:Nat):Int)=(ss.length:Int):=by rw[Qa]
 have hmin:(if (((ss.map V.str).length:Nat):Int)<(room:Int) then (((ss.map V.str).length:Nat):Int) else (room:Int))=((min room ss.length:Nat):Int):=by split<;>lia
 refine⟨_,rfl,_,rfl,a,_,rfl,.inl hS,_,_,rfl,?_⟩
 simp only[hmin]
 refine⟨_,rfl,by lia,by lia,fun D hD=>?_⟩
 rw[Qaf]
 refine Zcl (fun i zs σ H2=>(∃v:Option V,σ=[some (.ref a),some (.int room),none,none,none,none,none,none,none,v])∧(∃ts:Zb9,zs=Z6 ts∧AtT H2 ts∧ts.map (·.2)=(first i).map (kt ss 0))∧i≤min room ss.length∧H2 D=some (.lst zs)∧ZA H H2) ?_ ?_ ?_
 ·exact⟨⟨none,rfl⟩,⟨[],rfl,(fun t h=>by cases h),rfl⟩,Qv _,Zb,Zg hD _⟩
 ·rintro i zs σ H2 hi ⟨⟨v,rfl⟩,⟨ts,rfl,hat,hE⟩,hi',hD2,s2⟩
  have hil:i<ss.length:=by lia
  have e0:(0+(i:Int))=((i:Nat):Int):=by lia
  have hkey:atI (ss.map V.str) (0+(i:Int))=some (.str (ss.getD (0+(i:Int)).toNat "")):=ZeR (by lia) (by lia)
  refine⟨_,rfl,_,rfl,a,_,_,_,rfl,rfl,s2.seq hS,hkey,_,rfl,(by show 3≤sizeLine;decide),fun n hn0=>?_⟩
  have sn:=Zg hn0 (.tup [.int 0,.str (ss.getD (0+(i:Int)).toNat ""),.int (0+(i:Int))])
  have hD3:=sn _ _ hD2
  have nDn:D≠n:=Zc hD2 hn0
  have htl:ts.length=i:=by have:=congrArg List.length hE;rw[Qa,Qa,Zby]at this;exact this
  refine⟨hD3,(by unfold Z6;rw[Qa,htl];exact Zx (by lia)),⟨_,rfl⟩,⟨ts++[(n,kt ss 0 (0+(i:Int)))],by unfold Z6;rw[Qf];rfl,fun t ht=>?_,?_⟩,by lia,Zb,fun b o hb=>?_⟩
  ·rcases Qh.mp ht with ht|ht
   ·exact ZaA hD3 _ _ _ (sn _ _ (hat t ht))
   ·rw[Qe.mp ht,Ze nDn.symm];exact Zb
  ·rw[Qf,hE]
   unfold first Zaj
   rw[Qav,Qf,Qf]
   rfl
  ·rw[Ze (Zc hb hD)];exact sn _ _ (s2 b o hb)
 rintro zs σ H2 ⟨⟨v,rfl⟩,⟨ts0,rfl,hat0,hE0⟩,_,hD2,s2⟩
 have htl0:ts0.length=min room ss.length:=by have:=congrArg List.length hE0;rw[Qa,Qa,Zby]at this;exact this
 have hrl0:(((Z6 ts0).length:Nat):Int)=((min room ss.length:Nat):Int):=by unfold Z6;rw[Qa,htl0]
 refine⟨_,rfl,D,_,rfl,.inl (SqL.of hD2),?_⟩
 simp only[hrl0]
 refine⟨(by show 0≤sizeLine;decide),fun ru hru=>?_⟩
 have nDr:D≠ru:=Zc hD2 hru
 have s3:=s2.trans (Zg hru (.lst []))
 have at0:At ss (min room ss.length) H (upd H2 ru (.lst [])) D ru ts0 [] (first (min room ss.length)) [] (min room ss.length) [] []:=by
  refine⟨Zg hru _ _ _ hD2,AtT.mono hat0 (Zg hru _),?_,Zb,by unfold Zcu;rw[if_pos rfl];trivial,(fun h=>by cases h),List.nodup_nil,(fun l h=>by cases h),nDr,(fun h=>by cases h),s3,hD,s2.free hru,by lia,fun n hn=>?_,?_,(fun d h=>by cases h),fun h=>absurd rfl h,fun R h=>h⟩
  ·rw[hE0];unfold Zbz;rw[Qap,QR];exact .refl _
  ·rw[QR]at hn;exact Zch hn
  ·unfold Zcu;rw[if_pos rfl,Zby];simp;lia
 generalize upd H2 ru (.lst [])=H3 at at0 ⊢
 refine⟨fun m σ H4=>∃ (ts:Zb9) (ls:List Addr) (A B:List Int) (c:Nat) (gone:List Int) (done:List (List Int)) (v5 v6 v7 v8:Option V),σ=[some (.ref a),some (.int room),some (.ref D),some (.int c),some (.ref ru),v5,v6,v7,v8]∧At ss (min room ss.length) H H4 D ru ts ls A B c gone done∧m=A.length+B.length+(ss.length-c),⟨_,ts0,[],first (min room ss.length),[],min room ss.length,[],[],none,none,none,none,rfl,at0,rfl⟩,?_⟩
 rintro m σ H4 ⟨ts,ls,A',B',c,gone',done',v5,v6,v7,v8,rfl,hAt',rfl⟩
 have htsl:ts.length=A'.length+B'.length:=by have:=hAt'.per.length_eq;unfold Zbz at this;rw[Qa,Qg,Qa,Qa]at this;exact this
 refine⟨_,rfl,D,_,rfl,.inl (SqL.of hAt'.ins),_,_,rfl,rfl,_,rfl,Za3 (fun d=>?_) (fun d=>?_)⟩
 ·have d':(0:Int)<(((Z6 ts).length:Nat):Int):=of_decide_eq_true d
  have hpos:0<ts.length:=by unfold Z6 at d';rw[Qa]at d';lia
  obtain⟨A,B,gone,done,hAt,hAne,hm⟩:∃A B gone done,At ss (min room ss.length) H H4 D ru ts ls A B c gone done∧A≠[]∧A'.length+B'.length=A.length+B.length:=by
   by_cases hA:A'=[]
   ·subst hA
    cases B' with
    | nil=>exact absurd hpos (by rw[htsl];decide)
    | cons b B=>exact⟨_,_,_,_,hAt'.switch,by simp,by simp⟩
   ·exact⟨A',B',gone',done',hAt',hA,rfl⟩
  refine⟨_,fun σ' H' h=>h,?_⟩
  have hcnt:=hAt.cnt
  rw[ZdM]at hcnt
  have hdl:=(Zcc done hAt.nem).1
  have tsne:ts≠[]:=fun z=>by rw[z]at hpos;simp at hpos
  refine⟨_,rfl,D,ts,[true,false,true],rfl,SqL.of hAt.ins,hAt.att,tsne,Zoe hAt.per,fun t ht hmin'=>?_⟩
  obtain⟨n,et,hleast⟩:=Zq9 hAt.per hAne (Qn (f:=fun t:Addr×List Key=>t.2) ht) (fun u hu=>by
   obtain⟨t',ht',rfl⟩:=Qx.mp hu
   exact hmin' t' ht')
  have et':t.2=kt ss (done.length:Int) n:=et
  have hnA:=hleast.1
  have hn:=hAt.mem n (Qp _ hnA)
  have hcl:=hAt.hc
  refine⟨_,rfl,.inl ⟨rfl,_,SqL.of hAt.ins⟩,_,rfl,D,ts,t,rfl,rfl,hAt.ins,hAt.att,ht,by lia,fun i hi heq=>?_⟩
  have ttup:=hAt.att t ht
  rw[et']at ttup
  have ttup1:(upd H4 D (.lst (Z6 (ts.eraseIdx i)))) t.1=some (.tup [.int (done.length:Int),.str (ss.getD n.toNat ""),.int n]):=ZaA hAt.ins _ _ _ ttup
  have ins1:(upd H4 D (.lst (Z6 (ts.eraseIdx i)))) D=some (.lst (Z6 (ts.eraseIdx i))):=Zb
  have att1:AtT (upd H4 D (.lst (Z6 (ts.eraseIdx i)))) (ts.eraseIdx i):=fun u hu=>ZaA hAt.ins _ _ _ (hAt.att u (List.mem_of_mem_eraseIdx hu))
  have run1:(upd H4 D (.lst (Z6 (ts.eraseIdx i)))) ru=some (.lst (ls.map V.ref)):=by rw[Ze hAt.ne.symm];exact hAt.run
  have rd1:Rd (upd H4 D (.lst (Z6 (ts.eraseIdx i)))) ls (Zcu gone done):=Rd.mono (fun l hl' u hu=>by rw[Ze (fun z:l=D=>hAt.nil (z ▸ hl'))];exact hu) hAt.rd
  have sm1:ZA H (upd H4 D (.lst (Z6 (ts.eraseIdx i)))):=fun b o hb=>by rw[Ze (Zc hb hAt.i0)];exact hAt.sm b o hb
  have per1:((ts.eraseIdx i).map (·.2)).Perm (Zbz ss (done.length:Int) (A.erase n) B):=by
   refine ZnP hAt.per hnA ?_
   have:=(Zgg ts i hi).symm.map (fun t:Addr×List Key=>t.2)
   rw[Ql,heq,et']at this
   exact this
  have hel:(A.erase n).length+1=A.length:=by
   have:=Q4 hnA
   have:0<A.length:=Q0 hnA
   lia
  have htl1:(ts.eraseIdx i).length≤60:=by
   have:=per1.length_eq
   unfold Zbz at this
   rw[Qa,Qg,Qa,Qa]at this
   lia
  generalize upd H4 D (.lst (Z6 (ts.eraseIdx i)))=H5 at ttup1 ins1 att1 run1 rd1 sm1 ⊢
  generalize ts.eraseIdx i=ts1 at ins1 att1 per1 htl1 ⊢
  refine⟨_,rfl,t.1,_,rfl,SqT.of ttup1,rfl,_,_,rfl,_,_,rfl,_,_,rfl,rfl,?_⟩
  have hlsl:ls.length=(Zcu gone done).length:=hAt.rd.len
  have hls60:ls.length≤60:=by have:=(Zcc _ (ZkR (gone:=gone) hAt.nem)).1;rw[ZdM]at this;lia
  have hll:(((ls.map V.ref).length:Nat):Int)=(ls.length:Int):=by rw[Qa]
  refine⟨fun σ H6=>∃ (ms:List Addr) (nl:Addr),σ=[some (.ref a),some (.int room),some (.ref D),some (.int c),some (.ref ru),some (.ref t.1),some (.int (done.length:Int)),some (.str (ss.getD n.toNat "")),some (.int n)]∧H6 D=some (.lst (Z6 ts1))∧AtT H6 ts1∧H6 ru=some (.lst ((ms++[nl]).map V.ref))∧Rd H6 ms done∧H6 nl=some (.lst (gone.map V.int))∧ZA H H6∧ru ∉ ms++[nl]∧D ∉ ms++[nl]∧(ms++[nl]).Nodup∧(∀l∈ms++[nl],H l=none)∧ms.length=done.length,?_,?_⟩
  ·refine⟨_,rfl,_,rfl,ru,_,rfl,.inl (SqL.of run1),rfl,_,rfl,?_⟩
   by_cases hg:gone=[]
   ·have hlen2:ls.length=done.length:=by rw[hlsl,hg];unfold Zcu;rw[if_pos rfl]
    refine ZdA (by rw[hll,hlen2]) ?_
    refine⟨_,rfl,.inl ⟨rfl,_,SqL.of run1⟩,(by show 0≤sizeLine;decide),fun nl hnl=>⟨ru,_,_,rfl,rfl,Zg hnl _ _ _ run1,(by rw[Qa];exact Zx (by lia)),?_⟩⟩
    have snl:=Zg hnl (.lst [])
    have nrn:ru≠nl:=Zc run1 hnl
    have nDn:D≠nl:=Zc ins1 hnl
    have hnll:nl ∉ ls:=rd1.out hnl
    have ins2:(upd (upd H5 nl (.lst [])) ru (.lst (ls.map V.ref++[.ref nl]))) D=some (.lst (Z6 ts1)):=by rw[Ze hAt.ne];exact snl _ _ ins1
    have att2:AtT (upd (upd H5 nl (.lst [])) ru (.lst (ls.map V.ref++[.ref nl]))) ts1:=fun u hu=>ZaA (snl _ _ run1) _ _ _ (snl _ _ (att1 u hu))
    have run2:(upd (upd H5 nl (.lst [])) ru (.lst (ls.map V.ref++[.ref nl]))) ru=some (.lst ((ls++[nl]).map V.ref)):=by rw[Zb,Qf];rfl
    have rd2:Rd (upd (upd H5 nl (.lst [])) ru (.lst (ls.map V.ref++[.ref nl]))) ls done:=by
     have:Zcu gone done=done:=by unfold Zcu;rw[if_pos hg]
     rw[this]at rd1
     exact Rd.mono (fun l hl' u hu=>by rw[Ze (fun z:l=ru=>hAt.rul (z ▸ hl'))];exact snl _ _ hu) rd1
    have hl2:(upd (upd H5 nl (.lst [])) ru (.lst (ls.map V.ref++[.ref nl]))) nl=some (.lst (gone.map V.int)):=by rw[Ze nrn.symm,hg];exact Zb
    have sm2:ZA H (upd (upd H5 nl (.lst [])) ru (.lst (ls.map V.ref++[.ref nl]))):=fun b o hb=>by rw[Ze (Zc hb hAt.r0)];exact snl _ _ (sm1 b o hb)
    have rul2:ru ∉ ls++[nl]:=fun hm=>by
     rcases Qh.mp hm with hm|hm
     ·exact hAt.rul hm
     ·exact nrn (Qe.mp hm)
    have nil2:D ∉ ls++[nl]:=fun hm=>by
     rcases Qh.mp hm with hm|hm
     ·exact hAt.nil hm
     ·exact nDn (Qe.mp hm)
    have nd2:(ls++[nl]).Nodup:=by
     rw[List.nodup_append]
     exact⟨hAt.nd,by simp,fun x hx y hy e=>hnll (by rw[← Qe.mp hy,← e];exact hx)⟩
    have fr2:∀l∈ls++[nl],H l=none:=fun l hl'=>by
     rcases Qh.mp hl' with hl'|hl'
     ·exact hAt.fr l hl'
     ·rw[Qe.mp hl'];exact sm1.free hnl
    generalize upd (upd H5 nl (.lst [])) ru (.lst (ls.map V.ref++[.ref nl]))=H6 at ins2 att2 run2 rd2 hl2 sm2 ⊢
    exact⟨ls,nl,rfl,ins2,att2,run2,rd2,hl2,sm2,rul2,nil2,nd2,fr2,hlen2⟩
   ·have et2:Zcu gone done=done++[gone]:=by unfold Zcu;rw[if_neg hg]
    have hlen2:ls.length=done.length+1:=by rw[hlsl,et2,Qg];rfl
    refine Zco (fun z=>by have z':=V.int.inj z;rw[hll,hlen2]at z';lia) ?_
    rw[et2]at rd1
    obtain⟨ms,nl,rfl,rd2,hl2⟩:=rd1.split
    have hms:ms.length=done.length:=by rw[Qg,Qj]at hlen2;lia
    exact⟨ms,nl,rfl,ins1,att1,run1,rd2,hl2,sm1,hAt.rul,hAt.nil,hAt.nd,hAt.fr,hms⟩
  rintro σ H6 ⟨ms,nl,rfl,ins2,att2,run2,rd2,hl2,sm2,rul2,nil2,nd2,fr2,hms⟩
  have hnd:=QY.mp nd2
  have hlms:nl ∉ ms:=fun h=>hnd.2.2 nl h nl (by simp) rfl
  have nrl:ru≠nl:=fun z=>rul2 (by rw[z];simp)
  have nDl:D≠nl:=fun z=>nil2 (by rw[z];simp)
  have hat3:atI ((ms++[nl]).map V.ref) (done.length:Int)=some (.ref nl):=Zaf (by rw[Qk,QS (by lia),show done.length-ms.length=0 by lia];rfl)
  refine⟨_,rfl,_,rfl,ru,_,_,_,rfl,rfl,SqL.of run2,hat3,Zc8 hl2,_,rfl,nl,_,_,rfl,rfl,hl2,(by rw[Qa];exact Zx (by lia)),?_⟩
  have ins3:(upd H6 nl (.lst (gone.map V.int++[.int n]))) D=some (.lst (Z6 ts1)):=by rw[Ze nDl];exact ins2
  have att3:AtT (upd H6 nl (.lst (gone.map V.int++[.int n]))) ts1:=fun u hu=>ZaA hl2 _ _ _ (att2 u hu)
  have run3:(upd H6 nl (.lst (gone.map V.int++[.int n]))) ru=some (.lst ((ms++[nl]).map V.ref)):=by rw[Ze nrl];exact run2
  have rd3:Rd (upd H6 nl (.lst (gone.map V.int++[.int n]))) (ms++[nl]) (done++[gone++[n]]):=by
   refine Rd.app (Rd.mono (fun l hl' u hu=>?_) rd2) ⟨?_,trivial⟩
   ·rw[Ze (fun z:l=nl=>hlms (z ▸ hl'))];exact hu
   ·rw[Zb,Qf];rfl
  have sm3:ZA H (upd H6 nl (.lst (gone.map V.int++[.int n]))):=fun b o hb=>by rw[Ze (Zc hb (fr2 nl (by simp)))];exact sm2 b o hb
  generalize upd H6 nl (.lst (gone.map V.int++[.int n]))=H7 at ins3 att3 run3 rd3 sm3 ⊢
  refine⟨_,rfl,_,rfl,a,_,rfl,.inl (sm3.seq hS),_,_,rfl,rfl,_,rfl,Za3 (fun d2=>?_) (fun d2=>?_)⟩
  ·have hcN:c<ss.length:=by have:=of_decide_eq_true d2;lia
   have hkc:atI (ss.map V.str) (c:Int)=some (.str (ss.getD (c:Int).toNat "")):=ZeR (by lia) (by lia)
   refine⟨_,rfl,.inl ⟨rfl,_,SqL.of ins3⟩,_,rfl,_,rfl,_,rfl,_,rfl,a,_,_,_,rfl,rfl,sm3.seq hS,hkc,(done.length:Int),ss.getD n.toNat "",ss.getD (c:Int).toNat "",rfl,Zf8 hlen _,Zf8 hlen _,fun hlt=>?_,fun hlt=>?_⟩
   ·refine⟨_,rfl,_,rfl,a,_,_,_,rfl,rfl,sm3.seq hS,hkc,_,rfl,(by show 3≤sizeLine;decide),fun tn htn=>⟨D,_,_,rfl,rfl,Zg htn _ _ _ ins3,(by unfold Z6;rw[Qa];exact Zx (by lia)),?_⟩⟩
    have stn:=Zg htn (.tup [.int (done.length:Int),.str (ss.getD (c:Int).toNat ""),.int (c:Int)])
    have nDt:D≠tn:=Zc ins3 htn
    have per4:((ts1++[(tn,kt ss (done.length:Int) (c:Int))]).map (·.2)).Perm (Zbz ss (done.length:Int) (A.erase n++[(c:Int)]) (B)):=by
     rw[Qf]
     unfold Zbz
     refine(per1.append_right _).trans ?_
     unfold Zbz
     rw[Qf,Qai,Qai]
     exact List.Perm.append_left _ List.perm_append_comm
    refine⟨_,rfl,_,_,rfl,rfl,?_⟩
    have hcc:((c:Int)+1)=((c+1:Nat):Int):=by lia
    simp only[hcc]
    refine⟨_,by simp only[List.length_append,List.length_singleton];lia,ts1++[(tn,kt ss (done.length:Int) (c:Int))],ms++[nl],A.erase n++[(c:Int)],B,c+1,gone++[n],done,_,_,_,_,rfl,⟨by rw[Zb];unfold Z6;rw[Qf];rfl,fun u hu=>by
     rcases Qh.mp hu with hu|hu
     ·exact ZaA (stn _ _ ins3) _ _ _ (stn _ _ (att3 u hu))
     ·rw[Qe.mp hu,Ze nDt.symm];exact Zb,per4,by rw[Ze hAt.ne.symm];exact stn _ _ run3,by rw[ZfP];exact Rd.mono (fun l hl' u hu=>by rw[Ze (fun z:l=D=>nil2 (z ▸ hl'))];exact stn _ _ hu) rd3,rul2,nd2,fr2,hAt.ne,nil2,fun b o hb=>by rw[Ze (Zc hb hAt.i0)];exact stn _ _ (sm3 b o hb),hAt.i0,hAt.r0,by lia,fun z hz=>by
     have:z∈A++B∨z=(c:Int):=by
      simp only[List.mem_append,List.mem_singleton]at hz ⊢
      rcases hz with hz|hz
      ·rcases hz with hz|hz
       ·exact .inl (.inl (Qt hz))
       ·exact .inr hz
      ·exact .inl (.inr hz)
     rcases this with h|h
     ·have:=hAt.mem z h;lia
     ·lia,by rw[ZdM,Qg,Qj];simp only[List.length_append,List.length_singleton];lia,hAt.nem,fun _ _=>by simp,fun R hR=>hAt.res R (.stepA hleast hcN hlt hR)⟩,rfl⟩
   ·refine⟨_,rfl,_,rfl,a,_,_,_,rfl,rfl,sm3.seq hS,hkc,_,rfl,(by show 3≤sizeLine;decide),fun tn htn=>⟨D,_,_,rfl,rfl,Zg htn _ _ _ ins3,(by unfold Z6;rw[Qa];exact Zx (by lia)),?_⟩⟩
    have stn:=Zg htn (.tup [.int ((done.length:Int)+1),.str (ss.getD (c:Int).toNat ""),.int (c:Int)])
    have nDt:D≠tn:=Zc ins3 htn
    have per4:((ts1++[(tn,kt ss ((done.length:Int)+1) (c:Int))]).map (·.2)).Perm (Zbz ss (done.length:Int) (A.erase n) (B++[(c:Int)])):=by
     rw[Qf]
     unfold Zbz
     refine(per1.append_right _).trans ?_
     unfold Zbz
     rw[Qf,Qai]
     exact .refl _
    refine⟨_,rfl,_,_,rfl,rfl,?_⟩
    have hcc:((c:Int)+1)=((c+1:Nat):Int):=by lia
    simp only[hcc]
    refine⟨_,by simp only[List.length_append,List.length_singleton];lia,ts1++[(tn,kt ss ((done.length:Int)+1) (c:Int))],ms++[nl],A.erase n,B++[(c:Int)],c+1,gone++[n],done,_,_,_,_,rfl,⟨by rw[Zb];unfold Z6;rw[Qf];rfl,fun u hu=>by
     rcases Qh.mp hu with hu|hu
     ·exact ZaA (stn _ _ ins3) _ _ _ (stn _ _ (att3 u hu))
     ·rw[Qe.mp hu,Ze nDt.symm];exact Zb,per4,by rw[Ze hAt.ne.symm];exact stn _ _ run3,by rw[ZfP];exact Rd.mono (fun l hl' u hu=>by rw[Ze (fun z:l=D=>nil2 (z ▸ hl'))];exact stn _ _ hu) rd3,rul2,nd2,fr2,hAt.ne,nil2,fun b o hb=>by rw[Ze (Zc hb hAt.i0)];exact stn _ _ (sm3 b o hb),hAt.i0,hAt.r0,by lia,fun z hz=>by
     have:z∈A++B∨z=(c:Int):=by
      simp only[List.mem_append,List.mem_singleton]at hz ⊢
      rcases hz with hz|hz
      ·exact .inl (.inl (Qt hz))
      ·rcases hz with hz|hz
       ·exact .inl (.inr hz)
       ·exact .inr hz
     rcases this with h|h
     ·have:=hAt.mem z h;lia
     ·lia,by rw[ZdM,Qg,Qj];simp only[List.length_append,List.length_singleton];lia,hAt.nem,fun _ _=>by simp,fun R hR=>hAt.res R (.stepB hleast hcN hlt hR)⟩,rfl⟩
  ·have hcN:¬ c<ss.length:=fun z=>d2 (decide_eq_true (by lia))
   refine⟨_,by lia,ts1,ms++[nl],A.erase n,B,c,gone++[n],done,_,_,_,_,rfl,⟨ins3,att3,per1,run3,by rw[ZfP];exact rd3,rul2,nd2,fr2,hAt.ne,nil2,sm3,hAt.i0,hAt.r0,by lia,fun z hz=>hAt.mem z (by
    rcases Qh.mp hz with hz|hz
    ·exact Qp _ (Qt hz)
    ·exact Qo _ hz),by rw[ZdM,Qg,Qj];lia,hAt.nem,fun _ _=>by simp,fun R hR=>hAt.res R (.stepN hleast hcN hR)⟩,rfl⟩
 ·have d':¬ (0:Int)<(((Z6 ts).length:Nat):Int):=fun z=>d (decide_eq_true z)
  have h0:ts.length=0:=by unfold Z6 at d';rw[Qa]at d';lia
  have hA0:A'=[]:=QT (by lia)
  have hB0:B'=[]:=QT (by lia)
  subst hA0 hB0
  have hcnt:=hAt'.cnt
  obtain⟨b1,b2⟩:=Zcc _ (ZkR (gone:=gone') hAt'.nem)
  refine⟨_,rfl,q ru ls (Zcu gone' done') H4 hAt'.r0 hAt'.run hAt'.rul hAt'.fr hAt'.rd (hAt'.res _ ?_) (by lia) (fun d hd=>by have:=b2 d hd;lia) hAt'.sm⟩
  unfold Zcu
  cases gone' with
  | nil=>rw[if_pos rfl];exact .stop0
  | cons g gr=>rw[if_neg (by simp)];exact .stop
theorem ZgR{A:List Int}{n:Int}(h:n∈A):(A.erase n).length+1=A.length:=by
 have:=Q4 h
 have:=Q0 h
 lia
theorem ZoB{ss:List Str}{room:Nat}(hr:1≤room){A B:List Int}{c:Nat}{gone:List Int}{done R:List (List Int)}(h:Res ss A B c gone done R):(c<ss.length→A.length+B.length=room)→(∀m:Int,0≤m→m<c→(∃d∈done,m∈d)∨m∈gone∨m∈A∨m∈B)→∀m:Int,0≤m→m<ss.length→∃d∈R,m∈d:=by
 induction h with
 | stop0 =>
  intro f g m h0 hm
  rename_i c _
  by_cases hc:c<ss.length
  ·have:=f hc;simp at this;lia
  ·rcases g m h0 (by lia) with h|h|h|h
   ·exact h
   ·cases h
   ·cases h
   ·cases h
 | stop =>
  intro f g m h0 hm
  rename_i c _ _ _
  by_cases hc:c<ss.length
  ·have:=f hc;simp at this;lia
  ·rcases g m h0 (by lia) with⟨d,h,h'⟩|h|h|h
   ·exact⟨d,Qp _ h,h'⟩
   ·exact⟨_,Qo _ (Qe.mpr rfl),h⟩
   ·cases h
   ·cases h
 | switch _ ih =>
  intro f g
  refine ih (by simpa using f) fun m h0 hm=>?_
  rcases g m h0 hm with⟨d,h,h'⟩|h|h|h
  ·exact .inl ⟨d,Qp _ h,h'⟩
  ·exact .inl ⟨_,Qo _ (Qe.mpr rfl),h⟩
  ·cases h
  ·exact .inr (.inr (.inl h))
 | @stepN A B c gone done R n l hc _ ih =>
  intro f g
  refine ih (fun z=>absurd z hc) fun m h0 hm=>?_
  rcases g m h0 hm with h|h|h|h
  ·exact .inl h
  ·exact .inr (.inl (Qp _ h))
  ·by_cases e:m=n
   ·exact .inr (.inl (Qo _ (by rw[e];simp)))
   ·exact .inr (.inr (.inl ((QaM e).mpr h)))
  ·exact .inr (.inr (.inr h))
 | @stepA A B c gone done R n l hc _ _ ih =>
  intro f g
  have:=ZgR l.1
  have f':=f hc
  refine ih (fun _=>by rw[Qg,Qj];lia) fun m h0 hm=>?_
  by_cases e:m=(c:Int)
  ·exact .inr (.inr (.inl (Qo _ (by rw[e];simp))))
  rcases g m h0 (by lia) with h|h|h|h
  ·exact .inl h
  ·exact .inr (.inl (Qp _ h))
  ·by_cases e:m=n
   ·exact .inr (.inl (Qo _ (by rw[e];simp)))
   ·exact .inr (.inr (.inl (Qp _ ((QaM e).mpr h))))
  ·exact .inr (.inr (.inr h))
 | @stepB A B c gone done R n l hc _ _ ih =>
  intro f g
  have:=ZgR l.1
  have f':=f hc
  refine ih (fun _=>by rw[Qg,Qj];lia) fun m h0 hm=>?_
  by_cases e:m=(c:Int)
  ·exact .inr (.inr (.inr (Qo _ (by rw[e];simp))))
  rcases g m h0 (by lia) with h|h|h|h
  ·exact .inl h
  ·exact .inr (.inl (Qp _ h))
  ·by_cases e:m=n
   ·exact .inr (.inl (Qo _ (by rw[e];simp)))
   ·exact .inr (.inr (.inl ((QaM e).mpr h)))
  ·exact .inr (.inr (.inr (Qp _ h)))
theorem Zk9{k:Nat}{m:Int}(h0:0≤m)(h:m<k):m∈first k:=by
 unfold first Zaj
 exact Qx.mpr ⟨m.toNat,Q1.mpr (by lia),by lia⟩
theorem Zm3{ss:List Str}{room:Nat}(hr:1≤room){R:List (List Int)}(h:Res ss (first (min room ss.length)) [] (min room ss.length) [] [] R):∀m:Int,0≤m→m<ss.length→∃d∈R,m∈d :=
 ZoB hr h (fun z=>by rw[Zby];simp;lia) fun m h0 hm=>.inr (.inr (.inl (Zk9 h0 hm)))
theorem Znl{ss:List Str}{a n x:Int}(h:ltK ss a n)(g:¬ ltK ss x n):ltK ss a x:=by
 unfold ltK at *
 rw[Zb3]at *
 have h1:=ZaP (cds (ss.getD x.toNat "")) (cds (ss.getD n.toNat ""))
 have h2:=ZaP (cds (ss.getD a.toNat "")) (cds (ss.getD x.toNat ""))
 have h4:=ZaP (cds (ss.getD a.toNat "")) (cds (ss.getD n.toNat ""))
 have h3:=ZbS (cds (ss.getD n.toNat "")) (cds (ss.getD x.toNat "")) (cds (ss.getD a.toNat "")) (by lia)
 lia
theorem Zn6{ss:List Str}{A:List Int}{n x:Int}(h:Zd7 ss A n)(hx:x∈A):¬ ltK ss x n:=fun z=>by
 have:=h.2 x hx
 unfold kk at this
 rw[Zag]at this
 by_cases e:(Sum.inr (ks ss x).1:Key)=Sum.inr (ks ss n).1
 ·have e':ss.getD x.toNat "" = ss.getD n.toNat "":=Sum.inr.inj e
  unfold ltK at z
  rw[e',Zb3,ZcS]at z
  lia
 ·rw[if_neg e]at this
  exact of_decide_eq_false this z
theorem ZjX{ss:List Str}{a b:Int}(h:ltK ss a b):ss.getD a.toNat ""≠ss.getD b.toNat "":=fun e=>by
 unfold ltK at h
 rw[e,Zb3,ZcS]at h
 lia
def ZiG(ss:List Str)(d e:List Int):Prop:=∀b∈d,∀a∈e,a<b→ss.getD a.toNat ""≠ss.getD b.toNat ""
theorem Zms{ss:List Str}{A B:List Int}{c:Nat}{gone:List Int}{done R:List (List Int)}(h:Res ss A B c gone done R):(∀n∈A++B,n<(c:Int))→(∀n∈gone,n<(c:Int))→(∀d∈done,∀n∈d,n<(c:Int))→(∀a∈B,∀x∈A,ltK ss a x)→ZiG ss gone B→(∀d∈done,ZiG ss d (gone++A++B))→done.Pairwise (ZiG ss)→R.Pairwise (ZiG ss):=by
 induction h with
 | stop0=>intro _ _ _ _ _ _ h;exact h
 | stop =>
  intro _ _ _ _ _ j2 j1
  refine QaN.mpr ⟨j1,Qah _ _,fun d hd e he=>?_⟩
  rw[Qe.mp he]
  have:=j2 d hd
  simpa using this
 | switch _ ih =>
  intro m1 m2 m3 j4 j3 j2 j1
  refine ih (by simpa using m1) (fun n h=>by cases h) (fun d hd=>?_) (fun a h=>by cases h) (fun b h=>by cases h) (fun d hd=>?_) (QaN.mpr ⟨j1,Qah _ _,fun d hd e he=>?_⟩)
  ·rcases Qh.mp hd with hd|hd
   ·exact m3 d hd
   ·rw[Qe.mp hd];exact m2
  ·rcases Qh.mp hd with hd|hd
   ·intro b hb a ha
    exact j2 d hd b hb a (by simp at ha ⊢;exact .inr ha)
   ·rw[Qe.mp hd]
    intro b hb a ha
    exact j3 b hb a (by simpa using ha)
  ·rw[Qe.mp he]
   intro b hb a ha
   exact j2 d hd b hb a (by simp;exact .inl ha)
 | @stepN A B c gone done R n l hc _ ih =>
  intro m1 m2 m3 j4 j3 j2 j1
  refine ih (fun x hx=>m1 x ?_) (fun x hx=>?_) m3 (fun a ha x hx=>j4 a ha x (Qt hx)) (fun b hb a ha hlt=>?_) (fun d hd b hb a ha=>j2 d hd b hb a ?_) j1
  ·rcases Qh.mp hx with h|h
   ·exact Qp _ (Qt h)
   ·exact Qo _ h
  ·rcases Qh.mp hx with h|h
   ·exact m2 x h
   ·rw[Qe.mp h];exact m1 n (Qp _ l.1)
  ·rcases Qh.mp hb with h|h
   ·exact j3 b h a ha hlt
   ·rw[Qe.mp h];exact ZjX (j4 a ha n l.1)
  ·simp only[List.mem_append,List.mem_singleton]at ha ⊢
   rcases ha with((h|h)|h)|h
   ·exact .inl (.inl h)
   ·exact .inl (.inr (h ▸ l.1))
   ·exact .inl (.inr (Qt h))
   ·exact .inr h
 | @stepA A B c gone done R n l hc hk _ ih =>
  intro m1 m2 m3 j4 j3 j2 j1
  have mA:∀x∈A,x<(c:Int):=fun x h=>m1 x (Qp _ h)
  have mB:∀x∈B,x<(c:Int):=fun x h=>m1 x (Qo _ h)
  refine ih (fun x hx=>?_) (fun x hx=>?_) (fun d hd x hx=>by have:=m3 d hd x hx;lia) (fun a ha x hx=>?_) (fun b hb a ha hlt=>?_) (fun d hd b hb a ha hlt=>?_) j1
  ·simp only[List.mem_append,List.mem_singleton]at hx
   rcases hx with(h|h)|h
   ·have:=mA x (Qt h);lia
   ·lia
   ·have:=mB x h;lia
  ·rcases Qh.mp hx with h|h
   ·have:=m2 x h;lia
   ·rw[Qe.mp h];have:=mA n l.1;lia
  ·rcases Qh.mp hx with h|h
   ·exact j4 a ha x (Qt h)
   ·rw[Qe.mp h];exact Znl (j4 a ha n l.1) hk
  ·rcases Qh.mp hb with h|h
   ·exact j3 b h a ha hlt
   ·rw[Qe.mp h];exact ZjX (j4 a ha n l.1)
  ·have hbc:=m3 d hd b hb
   have hac:a≠(c:Int):=fun z=>by lia
   refine j2 d hd b hb a ?_ hlt
   simp only[List.mem_append,List.mem_singleton]at ha ⊢
   rcases ha with((h|h)|h|h)|h
   ·exact .inl (.inl h)
   ·exact .inl (.inr (h ▸ l.1))
   ·exact .inl (.inr (Qt h))
   ·exact absurd h hac
   ·exact .inr h
 | @stepB A B c gone done R n l hc hk _ ih =>
  intro m1 m2 m3 j4 j3 j2 j1
  have mA:∀x∈A,x<(c:Int):=fun x h=>m1 x (Qp _ h)
  have mB:∀x∈B,x<(c:Int):=fun x h=>m1 x (Qo _ h)
  refine ih (fun x hx=>?_) (fun x hx=>?_) (fun d hd x hx=>by have:=m3 d hd x hx;lia) (fun a ha x hx=>?_) (fun b hb a ha hlt=>?_) (fun d hd b hb a ha hlt=>?_) j1
  ·simp only[List.mem_append,List.mem_singleton]at hx
   rcases hx with h|h|h
   ·have:=mA x (Qt h);lia
   ·have:=mB x h;lia
   ·lia
  ·rcases Qh.mp hx with h|h
   ·have:=m2 x h;lia
   ·rw[Qe.mp h];have:=mA n l.1;lia
  ·rcases Qh.mp ha with h|h
   ·exact j4 a h x (Qt hx)
   ·rw[Qe.mp h];exact Znl hk (Zn6 l (Qt hx))
  ·have hbc:b<(c:Int):=by
    rcases Qh.mp hb with h|h
    ·exact m2 b h
    ·rw[Qe.mp h];exact mA n l.1
   rcases Qh.mp ha with ha|ha
   ·rcases Qh.mp hb with h|h
    ·exact j3 b h a ha hlt
    ·rw[Qe.mp h];exact ZjX (j4 a ha n l.1)
   ·have:=Qe.mp ha;lia
  ·have hbc:=m3 d hd b hb
   have hac:a≠(c:Int):=fun z=>by lia
   refine j2 d hd b hb a ?_ hlt
   simp only[List.mem_append,List.mem_singleton]at ha ⊢
   rcases ha with((h|h)|h)|h|h
   ·exact .inl (.inl h)
   ·exact .inl (.inr (h ▸ l.1))
   ·exact .inl (.inr (Qt h))
   ·exact .inr h
   ·exact absurd h hac
theorem ZlP{ss:List Str}{k:Nat}{R:List (List Int)}(h:Res ss (first k) [] k [] [] R):R.Pairwise (ZiG ss) :=
 Zms h (by rw[QR];exact fun n hn=>(Zch hn).2) (fun n h=>by cases h) (fun d h=>by cases h) (fun a h=>by cases h) (fun b h=>by cases h) (fun d h=>by cases h) List.Pairwise.nil
mutual
theorem Zkq(w:Nat):∀t:PT,tPl w t→1≤(tLv t).length
 | .leaf k,_=>Qi 1
 | .node l,h=>by
  have h1:2≤l.length:=h.1
  have:=Zc0 w l h.2.2
  show 1≤(ZaY l).length
  lia
theorem Zc0(w:Nat):∀l:List PT,Zdn w l→l.length≤(ZaY l).length
 | [],_=>Qi 0
 | t::r,h=>by
  have h1:=Zkq w t h.1
  have h2:=Zc0 w r h.2
  show r.length+1≤(tLv t++ZaY r).length
  rw[Qg]
  lia
end
def Zct(b e:Nat):List Int:=(List.range (e-b)).map fun i=>((b+i:Nat):Int)
theorem Zcp(b e:Nat):(Zct b e).length=e-b:=by unfold Zct;simp
theorem ZeC{b e i:Nat}(h:i<e-b):(Zct b e)[i]? = some ((b+i:Nat):Int):=by
 unfold Zct
 rw[Qk,Qan h]
 rfl
theorem Zhw{b e k:Nat}(h:b+k≤e):(Zct b e).take k=Zct b (b+k):=by
 refine Qaj fun i=>?_
 rw[List.getElem?_take]
 by_cases hi:i<k
 ·rw[if_pos hi,ZeC (by lia),ZeC (by lia)]
 ·rw[if_neg hi,QG (by rw[Zcp];lia)]
theorem ZgZ{b e k:Nat}(h:b+k≤e):(Zct b e).drop k=Zct (b+k) e:=by
 refine Qaj fun i=>?_
 rw[List.getElem?_drop]
 by_cases hi:k+i<e-b
 ·rw[ZeC hi,ZeC (by lia),Nat.add_assoc]
 ·rw[QG (by rw[Zcp];lia),QG (by rw[Zcp];lia)]
theorem ZmD{b m e:Nat}(h1:b≤m)(h2:m≤e):Zct b m++Zct m e=Zct b e:=by
 have a:=Zhw (b:=b) (e:=e) (k:=m-b) (by lia)
 have c:=ZgZ (b:=b) (e:=e) (k:=m-b) (by lia)
 rw[show b+(m-b)=m by lia]at a c
 rw[← a,← c,List.take_append_drop]
def Nf(w b e:Nat)(ts:List PT):Prop:=ZaY ts=Zct b e∧Zdn w ts
theorem Nf.cut{w b e:Nat}{t:PT}{r:List PT}(h:Nf w b e (t::r))(hr:1≤r.length):∃mid,b<mid∧mid<e∧Nf w b mid [t]∧Nf w mid e r:=by
 obtain⟨h1,h2,h3⟩:=h
 have p1:=Zkq w t h2
 have p2:=Zc0 w r h3
 have hl:(tLv t).length+(ZaY r).length=e-b:=by
  have:=congrArg List.length h1
  rw[Zcp]at this
  rw[← this]
  show _=(tLv t++ZaY r).length
  rw[Qg]
 have e1:tLv t++ZaY r=Zct b e:=h1
 refine⟨b+(tLv t).length,by lia,by lia,⟨?_,h2,trivial⟩,⟨?_,h3⟩⟩
 ·rw[← Zhw (b:=b) (e:=e) (by lia),← e1,List.take_left]
  show tLv t++[]=_
  rw[QR]
 ·rw[← ZgZ (b:=b) (e:=e) (by lia),← e1,List.drop_left]
theorem Nf.app{w b m e:Nat}{a c:List PT}(h1:Nf w b m a)(h2:Nf w m e c)(hb:b≤m)(he:m≤e):Nf w b e (a++c):=by
 refine⟨?_,(ZiU w a c).mpr ⟨h1.2,h2.2⟩⟩
 rw[Zi3,h1.1,h2.1,ZmD hb he]
theorem Nf.len{w b e:Nat}{ts:List PT}(h:Nf w b e ts):ts.length≤e-b:=by
 have:=Zc0 w ts h.2
 rw[h.1,Zcp]at this
 exact this
mutual
theorem Zoc(ns:List Int):∀t:PT,tSz ns t=((tLv t).map fun k=>ns.getD k.toNat 0).sum
 | .leaf k=>by show _=([ns.getD k.toNat 0]:List Int).sum;simp[tSz]
 | .node l=>Zh9 ns l
theorem Zh9(ns:List Int):∀l:List PT,ZeS ns l=((ZaY l).map fun k=>ns.getD k.toNat 0).sum
 | []=>rfl
 | t::r=>by show tSz ns t+ZeS ns r=((tLv t++ZaY r).map _).sum;rw[Qf,Qak,Zoc ns t,Zh9 ns r]
end
def seg(ns:List Int)(b e:Nat):Int:=((ns.drop b).take (e-b)).sum
theorem Zqf{ns:List Int}{b e:Nat}(h:e≤ns.length):((Zct b e).map fun k=>ns.getD k.toNat 0).sum=seg ns b e:=by
 unfold seg
 congr 1
 refine Qaj fun i=>?_
 rw[Qk,List.getElem?_take,List.getElem?_drop]
 by_cases hi:i<e-b
 ·rw[if_pos hi,ZeC hi,Qb (by lia),Option.map_some,Qaf,Qm,Qb (by lia)]
  rfl
 ·rw[if_neg hi,QG (by rw[Zcp];lia)]
  rfl
theorem Nf.size{ns:List Int}{w b e:Nat}{ts:List PT}(h:Nf w b e ts)(he:e≤ns.length):ZeS ns ts=seg ns b e:=by
 rw[Zh9,h.1,Zqf he]
mutual
theorem Zq5{ns:List Int}(hn:∀v∈ns,0≤v):∀t:PT,0≤tSz ns t
 | .leaf k=>by
  show 0≤ns.getD k.toNat 0
  rw[Qm]
  cases h:ns[k.toNat]? with
  | none=>exact QaX 0
  | some v=>exact hn v (Qr h)
 | .node l=>Zh6 hn l
theorem Zh6{ns:List Int}(hn:∀v∈ns,0≤v):∀l:List PT,0≤ZeS ns l
 | []=>QaX 0
 | t::r=>by
  have h1:=Zq5 hn t
  have h2:=Zh6 hn r
  show 0≤tSz ns t+ZeS ns r
  lia
end
mutual
theorem Zp2{ns:List Int}(hn:∀v∈ns,0≤v):∀t:PT,0≤tCo ns t
 | .leaf k=>QaX 0
 | .node l=>by
  have h1:=Zfp hn l
  have h2:=Zh6 hn l
  show 0≤ZbB ns l+ZeS ns l
  lia
theorem Zfp{ns:List Int}(hn:∀v∈ns,0≤v):∀l:List PT,0≤ZbB ns l
 | []=>QaX 0
 | t::r=>by
  have h1:=Zp2 hn t
  have h2:=Zfp hn r
  show 0≤tCo ns t+ZbB ns r
  lia
end
structure Gr (ns:List Int) (w b e m:Nat) (p:Int) (ts:List PT):Prop where
 l1:1≤ts.length
 lm:ts.length≤m
 nf:Nf w b e ts
 co:ZbB ns ts=p
 le:∀us,1≤us.length→us.length≤m→Nf w b e us→p≤ZbB ns us
structure Gc (ns:List Int) (w b e m:Nat) (p:Int) (ts:List PT):Prop where
 l1:2≤ts.length
 lm:ts.length≤m
 nf:Nf w b e ts
 co:ZbB ns ts=p
 le:∀us,2≤us.length→us.length≤m→Nf w b e us→p≤ZbB ns us
theorem ZkB{ns:List Int}(hn:∀v∈ns,0≤v)(w b m:Nat)(h:1≤m):Gr ns w b (b+1) m 0 [.leaf (b:Int)]:=by
 refine⟨Qi 1,h,⟨?_,trivial,trivial⟩,rfl,fun us _ _ _=>Zfp hn us⟩
 show [(b:Int)]=Zct b (b+1)
 unfold Zct
 rw[show b+1-b=1 by lia]
 rfl
theorem ZqA{ns:List Int}{w b e m mid:Nat}{p1 p2:Int}{t1 t2:List PT}(hm:2≤m)(hb:b<mid)(he:mid<e)(g1:Gr ns w b mid 1 p1 t1)(g2:Gr ns w mid e (m-1) p2 t2)
  (hle:∀k q1 q2 u1 u2,b<k→k<e→Gr ns w b k 1 q1 u1→Gr ns w k e (m-1) q2 u2→p1+p2≤q1+q2) (hex:∀k,b<k→k<e→∃q1 q2 u1 u2,Gr ns w b k 1 q1 u1∧Gr ns w k e (m-1) q2 u2):Gc ns w b e m (p1+p2) (t1++t2):=by
 have a1:=g1.l1
 have a2:=g1.lm
 have a3:=g2.l1
 have a4:=g2.lm
 refine⟨by rw[Qg];lia,by rw[Qg];lia,g1.nf.app g2.nf (by lia) (by lia),by rw[ZfJ,g1.co,g2.co],fun us h2 hl hu=>?_⟩
 cases us with
 | nil=>simp at h2
 | cons t r =>
  simp only[List.length_cons]at h2 hl
  obtain⟨k,k1,k2,n1,n2⟩:=hu.cut (by lia)
  obtain⟨q1,q2,u1,u2,f1,f2⟩:=hex k k1 k2
  have c1:=f1.le [t] (by simp) (by simp) n1
  have c2:=f2.le r (by lia) (by lia) n2
  have c3:=hle k q1 q2 u1 u2 k1 k2 f1 f2
  have e1:ZbB ns [t]=tCo ns t:=by show tCo ns t+0=_;lia
  show _≤tCo ns t+ZbB ns r
  lia
theorem ZkC{ns:List Int}{w b e:Nat}{p:Int}{ts:List PT}(h:Gc ns w b e w p ts)(hbe:b+1<e)(he:e≤ns.length):Gr ns w b e 1 (p+seg ns b e) [.node ts]:=by
 have a1:=h.l1
 have a2:=h.lm
 refine⟨Qi 1,Qi 1,⟨?_,⟨a1,a2,h.nf.2⟩,trivial⟩,?_,fun us h1 h2 hu=>?_⟩
 ·show ZaY ts++[]=_
  rw[QR,h.nf.1]
 ·show ZbB ns ts+ZeS ns ts+0=_
  rw[h.co,h.nf.size he]
  lia
 ·cases us with
  | nil=>simp at h1
  | cons t r =>
   have:r=[]:=by simpa using h2
   subst this
   cases t with
   | leaf k =>
    have:=congrArg List.length hu.1
    rw[Zcp]at this
    have:1=e-b:=this
    lia
   | node l =>
    have hp:2≤l.length∧l.length≤w∧Zdn w l:=hu.2.1
    have hv:ZaY l=Zct b e:=by
     have h9:ZaY l++[]=Zct b e:=hu.1
     rw[QR]at h9
     exact h9
    have hl:Nf w b e l:=⟨hv,hp.2.2⟩
    have:=h.le l hp.1 hp.2.1 hl
    show _≤ZbB ns l+ZeS ns l+0
    rw[hl.size he]
    lia
theorem ZoO{ns:List Int}{w b e m:Nat}{p q:Int}{ts us:List PT}(hm:1≤m)(h:Gr ns w b e 1 p ts)(g:Gc ns w b e m q us):(q<p→Gr ns w b e m q us)∧(¬ q<p→Gr ns w b e m p ts):=by
 have a1:=h.l1
 have a2:=h.lm
 have a3:=g.l1
 have both:∀vs,1≤vs.length→vs.length≤m→Nf w b e vs→(vs.length=1∧p≤ZbB ns vs)∨q≤ZbB ns vs:=fun vs v1 v2 hv=>by
  by_cases h1:vs.length=1
  ·exact .inl ⟨h1,h.le vs (by lia) (by lia) hv⟩
  ·exact .inr (g.le vs (by lia) v2 hv)
 refine⟨fun hl=>⟨by lia,g.lm,g.nf,g.co,fun vs v1 v2 hv=>?_⟩,fun hl=>⟨h.l1,by lia,h.nf,h.co,fun vs v1 v2 hv=>?_⟩⟩
 ·rcases both vs v1 v2 hv with⟨_,z⟩|z<;>lia
 ·rcases both vs v1 v2 hv with⟨_,z⟩|z<;>lia
theorem ZqH{ns:List Int}{w b m:Nat}{p:Int}{ts:List PT}(h:Gr ns w b (b+1) 1 p ts)(hm:1≤m):Gr ns w b (b+1) m p ts:=by
 have a1:=h.l1
 have a2:=h.lm
 refine⟨h.l1,by lia,h.nf,h.co,fun us u1 u2 hu=>h.le us u1 ?_ hu⟩
 have:=hu.len
 lia
theorem Zdx{ns:List Int}{w b e:Nat}{p q:Int}{ts us:List PT}{m:Nat}(h:Gr ns w b e m p ts)(g:Gr ns w b e m q us):p=q:=by
 have a:=h.le us g.l1 g.lm g.nf
 have c:=g.le ts h.l1 h.lm h.nf
 rw[g.co]at a
 rw[h.co]at c
 lia
theorem Zme(ts:Zb9):(Z6 ts).length=ts.length:=by unfold Z6;rw[Qa]
theorem Zo9{x y:Int}{r s:List Key}(h:ZU (.inl x::r) (.inl y::s)=false):y≤x:=by
 rw[Zag]at h
 by_cases e:(Sum.inl x:Key)=.inl y
 ·injection e with e;lia
 ·rw[if_neg e]at h
  have:¬ x<y:=of_decide_eq_false h
  lia
def Kb(b e m:Nat):List Key:=[.inl (b:Int),.inl (e:Int),.inl (m:Int)]
theorem Zof{b e m b' e' m':Nat}(h:Kb b e m=Kb b' e' m'):b=b'∧e=e'∧m=m':=by
 unfold Kb at h
 injection h with h1 h2
 injection h2 with h2 h3
 injection h3 with h3 _
 injection h1 with h1
 injection h2 with h2
 injection h3 with h3
 lia
def ZgI(H:Hp)(v:V)(p:Int)(ts:List PT):Prop:=∃ (a t:Addr) (xs:List V),v=.ref a∧H a=some (.tup [.int p,.ref t])∧H t=some (.tup xs)∧TVs H xs ts
theorem ZgI.mono{H H':Hp}{v:V}{p:Int}{ts:List PT}(h:ZgI H v p ts)(s:∀a xs,H a=some (.tup xs)→H' a=some (.tup xs)):ZgI H' v p ts:=by
 obtain⟨a,t,xs,e,h1,h2,h3⟩:=h
 exact⟨a,t,xs,e,s _ _ h1,s _ _ h2,h3.mono s⟩
def Has(ns:List Int)(w:Nat)(H:Hp)(kvs:List (List Key×V))(b e:Nat):Prop:=∀m,1≤m→m<w→∃v p ts,Zah kvs (Kb b e m)=some v∧ZgI H v p ts∧Gr ns w b e m p ts
theorem Has.mono{ns:List Int}{w:Nat}{H H':Hp}{kvs:List (List Key×V)}{b e:Nat}(h:Has ns w H kvs b e)(s:∀a xs,H a=some (.tup xs)→H' a=some (.tup xs)):Has ns w H' kvs b e:=fun m h1 h2=>by
 obtain⟨v,p,ts,a,c,g⟩:=h m h1 h2
 exact⟨v,p,ts,a,c.mono s,g⟩
def ZmU(ns:List Int)(wy:Nat):Sp:=fun vs H Q _=>∃ (d:Addr) (kvs:List (List Key×V)) (b e m:Nat),vs=[.ref d,.int b,.int e,.int m]∧H d=some (.dT kvs)∧b+1<e∧e≤60∧2≤m∧m≤wy∧(∀k,b<k→k<e→Has ns wy H kvs b k∧Has ns wy H kvs k e) ∧
 ∀ (r:Addr) (p:Int) (ts:List PT) (H':Hp),ZgI H' (.ref r) p ts→Gc ns wy b e m p ts→ZA H H'→Q (.ref r) H'
def PS(ns:List Int)(wy b e m k:Nat)(s:Int):Prop:=∃q1 q2 u1 u2,Gr ns wy b k 1 q1 u1∧Gr ns wy k e (m-1) q2 u2∧s=q1+q2
theorem ZqW(T:Zao K mg cRow cMerge)(ns:List Int)(wy:Nat):Df P w K mg base 1 "least_cut" ["groves", "begin", "end", "most"] (ZmU ns wy):=by
 refine T.t_least_cut.df Zdd (fun vs H Q E h=>?_) (fun cdv f A outer s H vs Q E hr h=>?_)
 ·obtain⟨d,kvs,b,e,m,rfl,_⟩:=h
  rfl
 obtain⟨d,kvs,b,e,m,rfl,hd,hbe,he12,hm2,hmw,hall,q⟩:=h
 refine⟨_,#[Zf,#[ZaS,#[Zk,(ZpV K hr),(by rfl),T.b.n_min,boot_min,#[Za,#[Za8,Zd5,#[ZbR,T.b.n_range,#[Za,#[ZC,ZV,#[pv,1,(Or.inr (Or.inl rfl))],#[Zi]],#[Za,#[pv,2,(Or.inr (Or.inl rfl))],#[Zd]]]],(fun _ _ _ _=>#[cg,6,Zd5]),(fun _ _ _ _=>(@ZaC _)),(fun _ _ _ _=>#[ZH,#[Za,#[ZC,ZV,#[Zz,(ixT K),#[Zz,(ixD hr),#[cv,0,Zd5],#[ZH,#[Za,#[cv,1,Zd5],#[Za,#[cw,6,Zd5],#[Za,#[Zi],#[Zd]]]]]],#[Zi]],#[Zz,(ixT K),#[Zz,(ixD hr),#[cv,0,Zd5],#[ZH,#[Za,#[cw,6,Zd5],#[Za,#[cv,2,Zd5],#[Za,#[ZC,Zb5,#[cv,3,Zd5],#[Zi]],#[Zd]]]]]],#[Zi]]],#[Za,#[cw,6,Zd5],#[Zd]]]])],#[Zd]]],#[gT,K,2,#[Zw,#[ZB,4,Zdd.nd],#[Zw,#[ZB,5,Zdd.nd],(@ZaD _)]]]],#[Zj,#[Zp,#[ZH,#[Za,‹4›,#[Za,#[ZC,ZoM,#[Zz,(ixT K),#[Zz,(ixD hr),#[pv,0,(Or.inr (Or.inl rfl))],#[ZH,#[Za,#[pv,1,(Or.inr (Or.inl rfl))],#[Za,‹5›,#[Za,#[Zi],#[Zd]]]]]],#[Zi]],#[Zz,(ixT K),#[Zz,(ixD hr),#[pv,0,(Or.inr (Or.inl rfl))],#[ZH,#[Za,‹5›,#[Za,#[pv,2,(Or.inr (Or.inl rfl))],#[Za,#[ZC,Zb5,#[pv,3,(Or.inr (Or.inl rfl))],#[Zi]],#[Zd]]]]]],#[Zi]]],#[Zd]]]]]]],?_⟩
 refine⟨_,rfl,_,_,rfl,rfl,_,rfl,_,_,rfl,⟨by lia,by lia,by lia,by lia⟩,fun D hD=>?_⟩
 rw[show ((e:Int)-((b:Int)+1)).toNat=e-(b+1) by lia]
 refine Zcl (fun i zs σ H2=>(∃v:Option V,σ=[some (.ref d),some (.int b),some (.int e),some (.int m),none,none,v])∧(∃tl:Zb9,zs=Z6 tl∧AtT H2 tl∧tl.length=i∧∀ (j:Nat) (t:Addr×List Key),tl[j]? = some t→∃s,t.2=[.inl s,.inl ((b+1+j:Nat):Int)]∧PS ns wy b e m (b+1+j) s)∧i≤e-(b+1)∧H2 D=some (.lst zs)∧ZA H H2) ?_ ?_ ?_
 ·exact⟨⟨none,rfl⟩,⟨[],rfl,(fun t h=>by cases h),rfl,fun j t h=>by cases h⟩,Qv _,Zb,Zg hD _⟩
 ·rintro i zs σ H2 hi ⟨⟨v,rfl⟩,⟨tl,rfl,hat,htl,hk⟩,hi',hD2,s2⟩
  rw[show ((b:Int)+1+(i:Int))=((b+1+i:Nat):Int) by lia]
  obtain⟨A1,A2⟩:=hall (b+1+i) (by lia) (by lia)
  obtain⟨v1,p1,t1,l1,⟨a1,y1,x1,rfl,ha1,hy1,tv1⟩,g1⟩:=A1 1 (by lia) (by lia)
  obtain⟨v2,p2,t2,l2,⟨a2,y2,x2,rfl,ha2,hy2,tv2⟩,g2⟩:=A2 (m-1) (by lia) (by lia)
  refine⟨_,rfl,_,rfl,_,rfl,(by show 3≤sizeLine;decide),fun k1 hk1=>?_⟩
  have s3:=s2.trans (Zg hk1 (.tup ((Kb b (b+1+i) 1).map kV)))
  have hD3:=Zg hk1 (.tup ((Kb b (b+1+i) 1).map kV)) _ _ hD2
  have hat3:=AtT.mono hat (Zg hk1 (.tup ((Kb b (b+1+i) 1).map kV)))
  have f3:(upd H2 k1 (.tup ((Kb b (b+1+i) 1).map kV))) k1=some (.tup ((Kb b (b+1+i) 1).map kV)):=Zb
  change ZgL _ _ (upd H2 k1 (.tup ((Kb b (b+1+i) 1).map kV))) _
  generalize upd H2 k1 (.tup ((Kb b (b+1+i) 1).map kV))=H3 at s3 hD3 hat3 f3 ⊢
  refine⟨d,kvs,k1,Kb b (b+1+i) 1,_,rfl,rfl,s3 _ _ hd,f3,l1,a1,_,_,_,rfl,rfl,SqT.of (s3 _ _ ha1),rfl,?_⟩
  refine⟨_,rfl,_,rfl,_,rfl,_,rfl,_,_,rfl,rfl,(by show 3≤sizeLine;decide),fun k2 hk2=>?_⟩
  have s4:=s3.trans (Zg hk2 (.tup ((Kb (b+1+i) e (m-1)).map kV)))
  have hD4:=Zg hk2 (.tup ((Kb (b+1+i) e (m-1)).map kV)) _ _ hD3
  have hat4:=AtT.mono hat3 (Zg hk2 (.tup ((Kb (b+1+i) e (m-1)).map kV)))
  have f4:(upd H3 k2 (.tup ((Kb (b+1+i) e (m-1)).map kV))) k2=some (.tup ((Kb (b+1+i) e (m-1)).map kV)):=Zb
  change ZgL _ _ (upd H3 k2 (.tup [V.int ((b+1+i:Nat):Int),V.int (e:Int),V.int ((m:Int)-1)])) _
  rw[show ((m:Int)-1)=((m-1:Nat):Int) by lia]
  change ZgL _ _ (upd H3 k2 (.tup ((Kb (b+1+i) e (m-1)).map kV))) _
  generalize upd H3 k2 (.tup ((Kb (b+1+i) e (m-1)).map kV))=H4 at s4 hD4 hat4 f4 ⊢
  refine⟨d,kvs,k2,Kb (b+1+i) e (m-1),_,rfl,rfl,s4 _ _ hd,f4,l2,a2,_,_,_,rfl,rfl,SqT.of (s4 _ _ ha2),rfl,_,_,rfl,rfl,_,rfl,(by show 2≤sizeLine;decide),fun n hn=>?_⟩
  have sn:=Zg hn (.tup [.int (p1+p2),.int ((b+1+i:Nat):Int)])
  have hD5:=sn _ _ hD4
  have nDn:D≠n:=Zc hD4 hn
  refine⟨hD5,(by rw[Zme,htl];exact Zx (by lia)),⟨_,rfl⟩,⟨tl++[(n,[.inl (p1+p2),.inl ((b+1+i:Nat):Int)])],by unfold Z6;rw[Qf];rfl,fun t ht=>?_,by rw[Qg,Qj];lia,fun j t hj=>?_⟩,by lia,Zb,fun b' o hb=>?_⟩
  ·rcases Qh.mp ht with ht|ht
   ·exact ZaA hD5 _ _ _ (sn _ _ (hat4 t ht))
   ·rw[Qe.mp ht,Ze nDn.symm];exact Zb
  ·by_cases hjl:j<tl.length
   ·rw[QU hjl]at hj
    exact hk j t hj
   ·have hj2:=(Qc.mp hj).1
    rw[Qg,Qj]at hj2
    have ej:j=i:=by lia
    subst ej
    rw[QS (by lia),htl,Nat.sub_self]at hj
    cases hj
    exact⟨p1+p2,rfl,p1,p2,t1,t2,g1,g2,rfl⟩
  ·rw[Ze (Zc hb hD)];exact sn _ _ (s4 b' o hb)
 rintro zs σ H2 ⟨⟨v,rfl⟩,⟨tl,rfl,hat,htl,hk⟩,_,hD2,s2⟩
 have hsh:∀t∈tl,Zar t.2=[true,true]:=fun t ht=>by
  obtain⟨j,hj⟩:=QaJ.mp ht
  obtain⟨s,e1,_⟩:=hk j t hj
  rw[e1];rfl
 refine⟨D,tl,[true,true],rfl,SqL.of hD2,hat,(fun z=>by rw[z]at htl;simp at htl;lia),hsh,fun t ht hmin=>?_⟩
 obtain⟨j,hj⟩:=QaJ.mp ht
 have hjl:=(Qc.mp hj).1
 obtain⟨sm,et,q1,q2,u1,u2,g1,g2,es⟩:=hk j t hj
 have htt:=hat t ht
 rw[et]at htt
 refine⟨t.1,_,rfl,SqT.of htt,rfl,_,_,rfl,_,_,rfl,rfl,?_⟩
 have hmid1:b<b+1+j:=by lia
 have hmid2:b+1+j<e:=by lia
 obtain⟨A1,A2⟩:=hall (b+1+j) hmid1 hmid2
 obtain⟨v1,p1,t1,l1,⟨a1,y1,x1,rfl,ha1,hy1,tv1⟩,g1'⟩:=A1 1 (by lia) (by lia)
 obtain⟨v2,p2,t2,l2,⟨a2,y2,x2,rfl,ha2,hy2,tv2⟩,g2'⟩:=A2 (m-1) (by lia) (by lia)
 have e1:=Zdx g1 g1'
 have e2:=Zdx g2 g2'
 have hcut:Gc ns wy b e m (p1+p2) (t1++t2):=by
  refine ZqA hm2 hmid1 hmid2 g1' g2' (fun k r1 r2 w1 w2 k1 k2 f1 f2=>?_) (fun k k1 k2=>?_)
  ·have hkl:k-(b+1)<tl.length:=by lia
   obtain⟨s',e3,r1',r2',w1',w2',f1',f2',es'⟩:=hk (k-(b+1)) _ (Qb hkl)
   have hm':=hmin _ (QX hkl)
   rw[e3,et]at hm'
   have:=Zo9 hm'
   rw[show b+1+(k-(b+1))=k by lia]at f1' f2'
   have e4:=Zdx f1 f1'
   have e5:=Zdx f2 f2'
   lia
  ·obtain⟨B1,B2⟩:=hall k k1 k2
   obtain⟨_,r1,w1,_,_,f1⟩:=B1 1 (by lia) (by lia)
   obtain⟨_,r2,w2,_,_,f2⟩:=B2 (m-1) (by lia) (by lia)
   exact⟨r1,r2,w1,w2,f1,f2⟩
 refine⟨_,rfl,_,rfl,_,rfl,_,rfl,(by show 3≤sizeLine;decide),fun k1 hk1=>?_⟩
 have s3:=s2.trans (Zg hk1 (.tup ((Kb b (b+1+j) 1).map kV)))
 have f3:(upd H2 k1 (.tup ((Kb b (b+1+j) 1).map kV))) k1=some (.tup ((Kb b (b+1+j) 1).map kV)):=Zb
 change ZgL _ _ (upd H2 k1 (.tup ((Kb b (b+1+j) 1).map kV))) _
 generalize upd H2 k1 (.tup ((Kb b (b+1+j) 1).map kV))=H3 at s3 f3 ⊢
 refine⟨d,kvs,k1,Kb b (b+1+j) 1,_,rfl,rfl,s3 _ _ hd,f3,l1,a1,_,_,_,rfl,rfl,SqT.of (s3 _ _ ha1),rfl,?_⟩
 refine⟨_,rfl,_,rfl,_,rfl,_,rfl,_,_,rfl,rfl,(by show 3≤sizeLine;decide),fun k2 hk2=>?_⟩
 have s4:=s3.trans (Zg hk2 (.tup ((Kb (b+1+j) e (m-1)).map kV)))
 have f4:(upd H3 k2 (.tup ((Kb (b+1+j) e (m-1)).map kV))) k2=some (.tup ((Kb (b+1+j) e (m-1)).map kV)):=Zb
 change ZgL _ _ (upd H3 k2 (.tup [V.int ((b+1+j:Nat):Int),V.int (e:Int),V.int ((m:Int)-1)])) _
 rw[show ((m:Int)-1)=((m-1:Nat):Int) by lia]
 change ZgL _ _ (upd H3 k2 (.tup ((Kb (b+1+j) e (m-1)).map kV))) _
 generalize upd H3 k2 (.tup ((Kb (b+1+j) e (m-1)).map kV))=H4 at s4 f4 ⊢
 have tv1':TVs H4 x1 t1:=tv1.mono fun a xs e=>s4 _ _ e
 have tv2':TVs H4 x2 t2:=tv2.mono fun a xs e=>s4 _ _ e
 have n1:=tv1.len
 have n2:=tv2.len
 have c1:=g1'.l1
 have c2:=g2'.l1
 have c3:=g1'.lm
 have c4:=g2'.nf.len
 refine⟨d,kvs,k2,Kb (b+1+j) e (m-1),_,rfl,rfl,s4 _ _ hd,f4,l2,a2,_,_,_,rfl,rfl,SqT.of (s4 _ _ ha2),rfl,y1,y2,x1,x2,rfl,rfl,SqT.of (s4 _ _ hy1),SqT.of (s4 _ _ hy2),(fun z=>by rw[z]at n1;simp at n1;lia),QaD (Zx (by lia)),(fun z=>by rw[z]at n2;simp at n2;lia),fun _ tt htt'=>?_⟩
 have s5:=s4.trans (Zg htt' (.tup (x1++x2)))
 have f5:(upd H4 tt (.tup (x1++x2))) tt=some (.tup (x1++x2)):=Zb
 have tv5:TVs (upd H4 tt (.tup (x1++x2))) (x1++x2) (t1++t2):=(tv1'.app tv2').mono fun a xs e=>Zg htt' _ _ _ e
 generalize upd H4 tt (.tup (x1++x2))=H5 at s5 f5 tv5 ⊢
 refine⟨(by show 2≤sizeLine;decide),fun r hr0=>?_⟩
 have esum:sm=p1+p2:=by lia
 rw[esum]
 have s6:=Zg hr0 (.tup [.int (p1+p2),.ref tt])
 exact q r (p1+p2) (t1++t2) _ ⟨r,tt,x1++x2,rfl,Zb,s6 _ _ f5,tv5.mono fun a xs e=>s6 _ _ e⟩ hcut (s5.trans s6)
def ZkK(K:PySem.W.Frag)(ns:List Int)(wy:Nat):Sp:=fun vs H Q _=>∃ (d a:Addr) (kvs:List (List Key×V)) (b e:Nat),vs=[.ref d,.ref a,.int wy,.int b,.int e]∧H d=some (.dT kvs)∧SqL K H a (ns.map V.int)∧b<e∧e≤ns.length∧ns.length≤60∧(∀v∈ns,0≤v∧v≤1000000000)∧2≤wy∧(∀k,b<k→k<e→Has ns wy H kvs b k∧Has ns wy H kvs k e) ∧
 ∀ (r:Addr) (p:Int) (ts:List PT) (H':Hp),ZgI H' (.ref r) p ts→Gr ns wy b e 1 p ts→ZA H H'→Q (.ref r) H'
theorem Znq(T:Zao K mg cRow cMerge)(ns:List Int)(wy:Nat)(f_least_cut:Df P w K mg base 1 "least_cut" ["groves", "begin", "end", "most"] (ZmU ns wy)):Df P w K mg base 2 "least_tree" ["groves", "sizes", "ways", "begin", "end"] (ZkK K ns wy):=by
 refine T.t_least_tree.df Zcy (fun vs H Q E h=>?_) (fun cdv f A outer s H vs Q E hr h=>?_)
 ·obtain⟨d,a,kvs,b,e,rfl,_⟩:=h
  rfl
 obtain⟨d,a,kvs,b,e,rfl,hd,hS,hbe,hen,hn12,hns,w2,hall,q⟩:=h
 refine⟨_,#[Zf,#[Z9,#[Zn,Za7,#[ZC,Zb5,‹4›,‹3›],#[Zi],(Zs _)],#[Zj,#[Zp,#[ZH,#[Za,#[Zi],#[Za,#[ZH,#[Za,‹3›,#[Zd]]],#[Zd]]]]]],#[ZF]],#[Zf,#[ZaS,#[ZD,f_least_cut,hr,#[Za,‹0›,#[Za,‹3›,#[Za,‹4›,#[Za,‹2›,#[Zd]]]]],(by rfl)],#[gT,K,2,#[Zw,#[ZB,5,Zcy.nd],#[Zw,#[ZB,6,Zcy.nd],(@ZaD _)]]]],#[Zj,#[Zp,#[ZH,#[Za,#[ZC,ZV,‹5›,#[Zk,(Zrp K),(by rfl),T.b.n_sum,boot_sum,#[Za,#[Zcn,(slL K),‹1›,(@ZbW _ _ _ ‹3›),(@ZbW _ _ _ ‹4›)],#[Zd]]]],#[Za,#[ZH,#[Za,‹6›,#[Zd]]],#[Zd]]]]]]]],?_⟩
 have hnn:∀v∈ns,0≤v:=fun v hv=>(hns v hv).1
 refine⟨_,rfl,_,rfl,_,_,rfl,rfl,rfl,_,rfl,Za3 (fun d0=>?_) (fun d0=>?_)⟩
 ·have d':=V.int.inj (of_decide_eq_true d0)
  have ee:e=b+1:=by lia
  subst ee
  refine⟨_,rfl,(by show 1≤sizeLine;decide),fun t1 ht1=>⟨(by show 2≤sizeLine;decide),fun r hr0=>?_⟩⟩
  have s2:=Zg hr0 (.tup [.int 0,.ref t1])
  exact q r 0 [.leaf (b:Int)] _ ⟨r,t1,_,rfl,Zb,s2 _ _ Zb,.cons (.leaf _) .nil⟩ (ZkB hnn wy b 1 (Qi 1)) ((Zg ht1 _).trans s2)
 ·have hne:¬ e=b+1:=fun z=>d0 (decide_eq_true (show V.int ((e:Int)-(b:Int))=V.int 1 from by rw[show ((e:Int)-(b:Int))=1 by lia]))
  refine⟨_,rfl,_,rfl,_,rfl,_,rfl,d,kvs,b,e,wy,rfl,hd,by lia,by lia,w2,Qi _,hall,fun r p ts H1 hC hG s1=>?_⟩
  obtain⟨r',t,xs,er,h1,h2,h3⟩:=hC
  cases er
  refine⟨r,_,rfl,SqT.of h1,rfl,_,_,rfl,_,_,rfl,rfl,?_⟩
  refine⟨_,rfl,_,rfl,_,rfl,_,rfl,_,rfl,_,rfl,a,_,rfl,s1.seq hS,fun sl hsl=>?_⟩
  rw[Ziy (ns.map V.int) b e (by rw[Qa];lia) (by rw[Qa];exact hen),← List.map_drop,← QaT]
  have s2:=Zg hsl (.lst (((ns.drop b).take (e-b)).map V.int))
  have f2:(upd H1 sl (.lst (((ns.drop b).take (e-b)).map V.int))) sl=some (.lst (((ns.drop b).take (e-b)).map V.int)):=Zb
  generalize upd H1 sl (.lst (((ns.drop b).take (e-b)).map V.int))=H2 at s2 f2 ⊢
  refine⟨sl,(ns.drop b).take (e-b),rfl,SqL.of f2,by rw[QC,QW];lia,fun v hv=>?_,_,_,rfl,rfl,_,rfl,(by show 1≤sizeLine;decide),fun t2 ht2=>⟨(by show 2≤sizeLine;decide),fun r2 hr2=>?_⟩⟩
  ·have:=hns v (Qay (Qac hv))
   lia
  have s3:=Zg ht2 (.tup [.ref t])
  have s4:=Zg hr2 (.tup [.int (p+((ns.drop b).take (e-b)).sum),.ref t2])
  have s14:=(s2.trans s3).trans s4
  exact q r2 (p+seg ns b e) [.node ts] _ ⟨r2,t2,_,rfl,Zb,s4 _ _ Zb,.cons (.node (s14 _ _ h2) (h3.mono fun a xs e=>s14 _ _ e)) .nil⟩ (ZkC hG (by lia) hen) (s1.trans s14)
def ZkL(ns:List Int)(wy:Nat):Sp:=fun vs H Q _=>∃ (d al:Addr) (kvs:List (List Key×V)) (b e m:Nat) (p:Int) (ts:List PT),vs=[.ref d,.ref al,.int b,.int e,.int m]∧H d=some (.dT kvs)∧b<e∧e≤60∧1≤m∧m<wy∧ZgI H (.ref al) p ts∧Gr ns wy b e 1 p ts∧(∀k,b<k→k<e→Has ns wy H kvs b k∧Has ns wy H kvs k e) ∧
 ∀ (r:Addr) (p:Int) (ts:List PT) (H':Hp),ZgI H' (.ref r) p ts→Gr ns wy b e m p ts→ZA H H'→Q (.ref r) H'
theorem Zmy(T:Zao K mg cRow cMerge)(ns:List Int)(wy:Nat)(f_least_cut:Df P w K mg base 1 "least_cut" ["groves", "begin", "end", "most"] (ZmU ns wy)):Df P w K mg base 2 "least_grove" ["groves", "alone", "begin", "end", "most"] (ZkL ns wy):=by
 refine T.t_least_grove.df ZdJ (fun vs H Q E h=>?_) (fun cdv f A outer s H vs Q E hr h=>?_)
 ·obtain⟨d,al,kvs,b,e,m,p,ts,rfl,_⟩:=h
  rfl
 obtain⟨d,al,kvs,b,e,m,p,ts,rfl,hd,hbe,he12,m1,mw,hC,hG,hall,q⟩:=h
 refine⟨_,#[Zf,#[Z9,(@PW.pt _ _ _ (@ZiV _ _ _ _ _ _ _ #[Zn,Za7,#[ZC,Zb5,‹3›,‹2›],#[Zi],(Zs _)] (@Zgc _ _ _ _ #[Zn,Za7,‹4›,#[Zi],(Zs _)]))),#[Zj,#[Zp,‹1›]],#[ZF]],#[Zf,#[Zu,5,ZdJ.nd,(Or.inl rfl),#[ZD,f_least_cut,hr,#[Za,‹0›,#[Za,‹2›,#[Za,‹3›,#[Za,‹4›,#[Zd]]]]],(by rfl)]],#[Zj,#[Zp,#[Za1,#[Zn,Zd4,#[Zz,(ixT K),‹5›,#[Zi]],#[Zz,(ixT K),‹1›,#[Zi]],(Zs _)],‹5›,‹1›]]]]],?_⟩
 refine⟨_,rfl,_,rfl,_,_,rfl,rfl,rfl,_,rfl,Za3 (fun d0=>ZeH ⟨_,rfl,?_⟩) (fun d0=>⟨_,rfl,rfl,_,rfl,Za3 (fun d1=>⟨_,rfl,?_⟩) (fun d1=>?_)⟩)⟩
 ·have d':=V.int.inj (of_decide_eq_true d0)
  have ee:e=b+1:=by lia
  subst ee
  exact q al p ts H hC (ZqH hG m1) (ZA.refl H)
 ·have d':=V.int.inj (of_decide_eq_true d1)
  have em:m=1:=by lia
  subst em
  exact q al p ts H hC hG (ZA.refl H)
 ·have hne:¬ e=b+1:=fun z=>d0 (decide_eq_true (show V.int ((e:Int)-(b:Int))=V.int 1 from by rw[show ((e:Int)-(b:Int))=1 by lia]))
  have hm1:¬ m=1:=fun z=>d1 (decide_eq_true (by rw[z];rfl))
  refine⟨_,rfl,_,rfl,_,rfl,_,rfl,d,kvs,b,e,m,rfl,hd,by lia,he12,by lia,by lia,hall,fun r p2 ts2 H1 hC2 hG2 s1=>?_⟩
  obtain⟨g1,g2⟩:=ZoO m1 hG hG2
  obtain⟨r',t,xs,er,h1,h2,h3⟩:=id hC2
  cases er
  obtain⟨al',t',xs',ea,k1,k2,k3⟩:=id hC
  cases ea
  refine⟨_,rfl,r,_,_,_,rfl,rfl,SqT.of h1,rfl,_,rfl,al,_,_,_,rfl,rfl,SqT.of (s1 _ _ k1),rfl,_,_,rfl,rfl,_,rfl,Za3 (fun d2=>⟨_,rfl,?_⟩) (fun d2=>⟨_,rfl,?_⟩)⟩
  ·exact q r p2 ts2 H1 hC2 (g1 (of_decide_eq_true d2)) s1
  ·exact q al p ts H1 (hC.mono fun a xs e=>s1 _ _ e) (g2 fun z=>d2 (decide_eq_true z)) s1
theorem Zkg{H:Hp}{d:Addr}{kvs:List (List Key×V)}(h:H d=some (.dT kvs))(o:HO):∀a xs,H a=some (.tup xs)→(upd H d o) a=some (.tup xs):=fun a xs e=>by
 rw[Ze (ZgW e h (fun z=>nomatch z))];exact e
structure St (ns:List Int) (wy:Nat) (H0 H:Hp) (d:Addr) (kvs:List (List Key×V)) (i j:Nat):Prop where
 hd:H d=some (.dT kvs)
 has:∀b e,b<e→e≤ns.length→(e-b≤i∨(e-b=i+1∧b<j))→Has ns wy H kvs b e
 only:∀b e m,Zah kvs (Kb b e m)≠none→e-b≤i∨(e-b=i+1∧b<j)
 len:kvs.length≤360*i+6*j
 sm:ZA H0 H
 d0:H0 d=none
def Zjh(K:PySem.W.Frag)(ns:List Int)(wy:Nat):Sp:=fun vs H Q _=>∃ (a:Addr),vs=[.ref a,.int wy]∧SqL K H a (ns.map V.int)∧1≤ns.length∧ns.length≤60∧(∀v∈ns,0≤v∧v≤1000000000)∧2≤wy∧wy≤6 ∧
 ∀ (d:Addr) (kvs:List (List Key×V)) (H':Hp),H' d=some (.dT kvs)→(∀b e,b<e→e≤ns.length→Has ns wy H' kvs b e)→ZA H H'→Q (.ref d) H'
theorem Zln(T:Zao K mg cRow cMerge)(ns:List Int)(wy:Nat)(f_least_tree:Df P w K mg base 2 "least_tree" ["groves", "sizes", "ways", "begin", "end"] (ZkK K ns wy))(f_least_grove:Df P w K mg base 2 "least_grove" ["groves", "alone", "begin", "end", "most"] (ZkL ns wy)):Df P w K mg base 3 "least_groves" ["sizes", "ways"] (Zjh K ns wy):=by
 refine T.t_least_groves.df Zak (fun vs H Q E h=>?_) (fun cdv f A outer s H vs Q E hr h=>?_)
 ·obtain⟨a,rfl,_⟩:=h
  rfl
 obtain⟨a,rfl,hS,n1,n12,hns,w2,w6,q⟩:=h
 refine⟨_,#[Zf,#[Zu,2,Zak.nd,(Or.inl rfl),(@Zfx _ _)],#[Zf,#[Zbu,PassesOwn.never,#[ZbR,T.b.n_range,#[Za,#[Zi],#[Za,#[ZC,ZV,#[Zk,(ZbC K),(by rfl),T.b.n_len,Qw,#[Za,‹0›,#[Zd]]],#[Zi]],#[Zd]]]],#[ZB,3,Zak.nd],#[Zj,#[Zbu,PassesOwn.never,#[Zbj,T.b.n_range,#[Za,#[ZC,ZV,#[ZC,Zb5,#[Zk,(ZbC K),(by rfl),T.b.n_len,Qw,#[Za,‹0›,#[Zd]]],‹3›],#[Zi]],#[Zd]]],#[ZB,4,Zak.nd],#[Zf,#[Zu,5,Zak.nd,(Or.inl rfl),#[ZC,ZV,‹4›,‹3›]],#[Zf,#[Zu,6,Zak.nd,(Or.inl rfl),#[ZD,f_least_tree,hr,#[Za,‹2›,#[Za,‹0›,#[Za,‹1›,#[Za,‹4›,#[Za,‹5›,#[Zd]]]]]],(by rfl)]],#[Zj,#[Zbu,PassesOwn.never,#[ZbR,T.b.n_range,#[Za,#[Zi],#[Za,‹1›,#[Zd]]]],#[ZB,7,Zak.nd],#[Zj,#[ZaS,#[ZD,f_least_grove,hr,#[Za,‹2›,#[Za,‹6›,#[Za,‹4›,#[Za,‹5›,#[Za,‹7›,#[Zd]]]]]],(by rfl)],#[ZcF,‹2›,#[ZH,#[Za,‹4›,#[Za,‹5›,#[Za,‹7›,#[Zd]]]]],(Zqq hr)]]]]]]]]]],#[Zj,#[Zp,‹2›]]]],?_⟩
 have hl:(((ns.map V.int).length:Nat):Int)=(ns.length:Int):=by rw[Qa]
 refine fun d hd0=>?_
 have st0:St ns wy H (upd H d (.dT [])) d [] 0 0:=⟨Zb,fun b e h1 h2 h3=>by lia,fun b e m h=>absurd rfl h,Qv _,Zg hd0 _,hd0⟩
 generalize upd H d (.dT [])=H1 at st0 ⊢
 refine⟨_,rfl,a,_,rfl,.inl (st0.sm.seq hS),_,_,rfl,rfl,_,_,rfl,⟨by lia,by lia,by lia,by lia⟩,?_⟩
 rw[show ((((ns.map V.int).length:Nat):Int)+1-1).toNat=ns.length by lia]
 refine ZaR (fun i σ H2=>∃ (kvs:List (List Key×V)) (v3 v4 v5 v6 v7:Option V),σ=[some (.ref a),some (.int wy),some (.ref d),v3,v4,v5,v6,v7]∧St ns wy H H2 d kvs i 0) ⟨[],_,_,_,_,_,rfl,st0⟩ ?_ ?_
 ·rintro i σ H2 hi ⟨kvs,v3,v4,v5,v6,v7,rfl,st2⟩
  rw[show ((1:Int)+(i:Int))=((1+i:Nat):Int) by lia]
  refine⟨_,rfl,a,_,rfl,.inl (st2.sm.seq hS),_,rfl,_,_,rfl,rfl,_,_,rfl,rfl,_,rfl,by lia,by lia,?_⟩
  rw[show ((((ns.map V.int).length:Nat):Int)-((1+i:Nat):Int)+1).toNat=ns.length-i by lia]
  refine ZaR (fun j σ H3=>∃ (kvs:List (List Key×V)) (v4 v5 v6 v7:Option V),σ=[some (.ref a),some (.int wy),some (.ref d),some (.int ((1+i:Nat):Int)),v4,v5,v6,v7]∧St ns wy H H3 d kvs i j) ⟨kvs,_,_,_,_,rfl,st2⟩ ?_ ?_
  ·rintro j σ H3 hj ⟨kvs,v4,v5,v6,v7,rfl,st3⟩
   rw[show ((0:Int)+(j:Int))=(j:Int) by lia]
   refine⟨_,rfl,_,rfl,_,_,rfl,rfl,?_⟩
   simp only[show ((j:Int)+((1+i:Nat):Int))=((j+1+i:Nat):Int) by lia]
   have fam:∀k,j<k→k<j+1+i→Has ns wy H3 kvs j k∧Has ns wy H3 kvs k (j+1+i):=fun k h1 h2=>⟨st3.has j k h1 (by lia) (.inl (by lia)),st3.has k (j+1+i) h2 (by lia) (.inl (by lia))⟩
   refine⟨_,rfl,_,rfl,_,rfl,_,rfl,_,rfl,d,a,kvs,j,j+1+i,rfl,st3.hd,st3.sm.seq hS,by lia,by lia,n12,hns,w2,fam,fun al p ts H4 hC hG s4=>?_⟩
   refine⟨_,rfl,_,_,rfl,⟨by lia,by lia,by lia,by lia⟩,?_⟩
   rw[show ((wy:Int)-1).toNat=wy-1 by lia]
   refine ZaR (fun l σ H5=>∃ (kvs:List (List Key×V)) (v7:Option V),σ=[some (.ref a),some (.int wy),some (.ref d),some (.int ((1+i:Nat):Int)),some (.int (j:Int)),some (.int ((j+1+i:Nat):Int)),some (.ref al),v7]∧H5 d=some (.dT kvs)∧(∀b e,b<e→e≤ns.length→(e-b≤i∨(e-b=i+1∧b<j))→Has ns wy H5 kvs b e)∧(∀m,1≤m→m≤l→∃v p ts,Zah kvs (Kb j (j+1+i) m)=some v∧ZgI H5 v p ts∧Gr ns wy j (j+1+i) m p ts)∧(∀b e m,Zah kvs (Kb b e m)≠none→(e-b≤i∨(e-b=i+1∧b<j))∨(b=j∧e=j+1+i∧m≤l))∧kvs.length≤360*i+6*j+l∧ZA H H5∧ZgI H5 (.ref al) p ts)
    ⟨kvs,_,rfl,s4 _ _ st3.hd,fun b e h1 h2 h3=>(st3.has b e h1 h2 h3).mono fun a xs e=>s4 _ _ e,fun m h1 h2=>by lia,fun b e m h=>.inl (st3.only b e m h),by have:=st3.len;lia,st3.sm.trans s4,hC⟩ ?_ ?_
   ·rintro l σ H5 hll ⟨kvs5,v7',rfl,hd5,has5,cur5,only5,len5,s5,hC5⟩
    rw[show ((1:Int)+(l:Int))=((1+l:Nat):Int) by lia]
    have fam5:∀k,j<k→k<j+1+i→Has ns wy H5 kvs5 j k∧Has ns wy H5 kvs5 k (j+1+i):=fun k h1 h2=>⟨has5 j k h1 (by lia) (.inl (by lia)),has5 k (j+1+i) h2 (by lia) (.inl (by lia))⟩
    refine⟨_,rfl,_,rfl,_,rfl,_,rfl,_,rfl,d,al,kvs5,j,j+1+i,1+l,p,ts,rfl,hd5,by lia,by lia,by lia,by lia,hC5,hG,fam5,fun r p6 ts6 H6 hC6 hG6 s6=>?_⟩
    have hd6:=s6 _ _ hd5
    refine⟨_,rfl,_,rfl,_,rfl,_,rfl,(by show 3≤sizeLine;decide),fun k1 hk1=>?_⟩
    have s7:=Zg hk1 (.tup ((Kb j (j+1+i) (1+l)).map kV))
    have f7:(upd H6 k1 (.tup ((Kb j (j+1+i) (1+l)).map kV))) k1=some (.tup ((Kb j (j+1+i) (1+l)).map kV)):=Zb
    change Zf9 _ _ _ (upd H6 k1 (.tup ((Kb j (j+1+i) (1+l)).map kV))) _
    generalize upd H6 k1 (.tup ((Kb j (j+1+i) (1+l)).map kV))=H7 at s7 f7 ⊢
    have hd7:=s7 _ _ hd6
    have hnone:Zah kvs5 (Kb j (j+1+i) (1+l))=none:=by
     cases hx:Zah kvs5 (Kb j (j+1+i) (1+l)) with
     | none=>rfl
     | some v =>
      rcases only5 j (j+1+i) (1+l) (by rw[hx];simp) with h|h<;>lia
    have s57:=s6.trans s7
    have keepT:∀a xs,H5 a=some (.tup xs)→(upd H7 d (.dT (kvs5++[(Kb j (j+1+i) (1+l),.ref r)]))) a=some (.tup xs):=fun a xs e=>Zkg hd7 _ _ _ (s57 _ _ e)
    have keepT6:∀a xs,H6 a=some (.tup xs)→(upd H7 d (.dT (kvs5++[(Kb j (j+1+i) (1+l),.ref r)]))) a=some (.tup xs):=fun a xs e=>Zkg hd7 _ _ _ (s7 _ _ e)
    have old:∀k v,Zah kvs5 k=some v→Zah (kvs5++[(Kb j (j+1+i) (1+l),V.ref r)]) k=some v:=fun k v h=>by rw[ZaT,h];rfl
    refine⟨d,kvs5,k1,Kb j (j+1+i) (1+l),rfl,rfl,hd7,f7,hnone,(by rw[sizeLine_eq];lia),?_⟩
    refine⟨_,_,rfl,Zb,fun b e h1 h2 h3 m m1 m2=>?_,fun m m1 m2=>?_,fun b e m h=>?_,by rw[Qg,Qj];lia,fun b o hb=>?_,hC5.mono keepT⟩
    ·obtain⟨v,p',ts',x1,x2,x3⟩:=has5 b e h1 h2 h3 m m1 m2
     exact⟨v,p',ts',old _ _ x1,x2.mono keepT,x3⟩
    ·by_cases hm:m≤l
     ·obtain⟨v,p',ts',x1,x2,x3⟩:=cur5 m m1 hm
      exact⟨v,p',ts',old _ _ x1,x2.mono keepT,x3⟩
     ·have em:m=1+l:=by lia
      subst em
      exact⟨.ref r,p6,ts6,by rw[ZaT,hnone,if_pos rfl];rfl,hC6.mono keepT6,hG6⟩
    ·rw[ZaT]at h
     by_cases hk:Kb j (j+1+i) (1+l)=Kb b e m
     ·obtain⟨x1,x2,x3⟩:=Zof hk
      exact .inr ⟨x1.symm,x2.symm,by lia⟩
     ·rw[if_neg hk]at h
      rcases only5 b e m (fun z=>h (by rw[z];rfl)) with h|h
      ·exact .inl h
      ·exact .inr ⟨h.1,h.2.1,by lia⟩
    ·rw[Ze (Zc hb st2.d0)];exact s57 _ _ (s5 b o hb)
   ·rintro σ H5 ⟨kvs5,v7',rfl,hd5,has5,cur5,only5,len5,s5,hC5⟩
    refine⟨kvs5,_,_,_,_,rfl,hd5,fun b e h1 h2 h3=>?_,fun b e m h=>?_,by lia,s5,st2.d0⟩
    ·by_cases hb:e-b≤i∨(e-b=i+1∧b<j)
     ·exact has5 b e h1 h2 hb
     ·have eb:b=j:=by lia
      have ee:e=j+1+i:=by lia
      subst eb ee
      exact fun m m1 m2=>cur5 m m1 (by lia)
    ·rcases only5 b e m h with h|h
     ·rcases h with h|h
      ·exact .inl h
      ·exact .inr ⟨h.1,by lia⟩
     ·exact .inr ⟨by lia,by lia⟩
  ·rintro σ H3 ⟨kvs,v4,v5,v6,v7,rfl,st3⟩
   refine⟨kvs,_,_,_,_,_,rfl,st3.hd,fun b e h1 h2 h3=>st3.has b e h1 h2 (by lia),fun b e m h=>?_,by have:=st3.len;lia,st3.sm,st3.d0⟩
   have:=st3.only b e m h
   lia
 ·rintro σ H2 ⟨kvs,v3,v4,v5,v6,v7,rfl,st2⟩
  exact⟨_,rfl,q d kvs H2 st2.hd (fun b e h1 h2=>st2.has b e h1 h2 (.inl (by lia))) st2.sm⟩
def Zmj(K:PySem.W.Frag):Sp:=fun vs H Q _=>∃ (a:Addr) (ns:List Int) (wy:Nat),vs=[.ref a,.int wy]∧SqL K H a (ns.map V.int)∧1≤ns.length∧ns.length≤60∧(∀v∈ns,0≤v∧v≤1000000000)∧2≤wy∧wy≤6 ∧
 ∀ (r:Addr) (x:V) (p:Int) (t:PT) (H':Hp),H r=none→H' r=some (.tup [.int p,x])→TV H' x t→Gr ns wy 0 ns.length 1 p [t]→ZA H H'→Q (.ref r) H'
theorem Zpf(T:Zao K mg cRow cMerge)(f_least_groves':∀ns wy,Df P w K mg base 3 "least_groves" ["sizes", "ways"] (Zjh K ns wy)):Df P w K mg base 4 "near_plan" ["sizes", "ways"] (Zmj K):=by
 refine T.t_near_plan.df Zdc (fun vs H Q E h=>?_) (fun cdv f A outer s H vs Q E hr h=>?_)
 ·obtain⟨a,ns,wy,rfl,_⟩:=h
  rfl
 obtain⟨a,ns,wy,rfl,hS,n1,n12,hns,w2,w6,q⟩:=h
 have f_least_groves:=f_least_groves' ns wy
 refine⟨_,#[Zf,#[ZaS,#[Zz,(ixD hr),#[ZD,f_least_groves,hr,#[Za,‹0›,#[Za,‹1›,#[Zd]]],(by rfl)],#[ZH,#[Za,#[Zi],#[Za,#[Zk,(ZbC K),(by rfl),T.b.n_len,Qw,#[Za,‹0›,#[Zd]]],#[Za,#[Zi],#[Zd]]]]]],#[gT,K,2,#[Zw,#[ZB,2,Zdc.nd],#[Zw,#[ZB,3,Zdc.nd],(@ZaD _)]]]],#[Zj,#[Zp,#[ZH,#[Za,‹2›,#[Za,#[Zz,(ixT K),‹3›,#[Zi]],#[Zd]]]]]]],?_⟩
 have hl:(((ns.map V.int).length:Nat):Int)=(ns.length:Int):=by rw[Qa]
 refine⟨_,rfl,_,rfl,a,rfl,hS,n1,n12,hns,w2,w6,fun d kvs H1 hd hall s1=>?_⟩
 refine⟨_,rfl,a,_,rfl,.inl (s1.seq hS),(by show 3≤sizeLine;decide),fun k1 hk1=>?_⟩
 obtain⟨v,p,ts,hlk,⟨c,t,xs,rfl,hc,ht,tv⟩,hG⟩:=hall 0 ns.length (by lia) (Qi _) 1 (by lia) (by lia)
 have s2:=Zg hk1 (.tup ((Kb 0 ns.length 1).map kV))
 have f2:(upd H1 k1 (.tup ((Kb 0 ns.length 1).map kV))) k1=some (.tup ((Kb 0 ns.length 1).map kV)):=Zb
 rw[hl]
 change ZgL _ _ (upd H1 k1 (.tup ((Kb 0 ns.length 1).map kV))) _
 generalize upd H1 k1 (.tup ((Kb 0 ns.length 1).map kV))=H2 at s2 f2 ⊢
 refine⟨d,kvs,k1,Kb 0 ns.length 1,_,rfl,rfl,s2 _ _ hd,f2,hlk,c,_,rfl,SqT.of (s2 _ _ hc),rfl,_,_,rfl,_,_,rfl,rfl,?_⟩
 have g1:=hG.l1
 have g2:=hG.lm
 have s12:=s1.trans s2
 cases tv with
 | nil=>simp at g1
 | @cons x u xs us hx hxs =>
  have:us=[]:=QT (by simp at g2;rw[g2];rfl)
  subst this
  refine⟨_,rfl,_,rfl,t,_,_,_,rfl,rfl,SqT.of (s2 _ _ ht),(Zaf (j:=0) rfl),(by show 2≤sizeLine;decide),fun r hr0=>?_⟩
  have s3:=Zg hr0 (.tup [.int p,x])
  exact q r x p u _ (s12.free hr0) Zb (hx.mono fun a xs e=>s3 _ _ (s2 _ _ e)) hG (s12.trans s3)
theorem Zmp{H H':Hp}(s:ZA H H'):∀a xs,H a=some (.tup xs)→H' a=some (.tup xs):=fun a xs h=>s a _ h
def Zgw(P:List ZN):List Str:=P.flatMap fun x=>x.2.1.drop x.2.2
theorem Zkb{ss:List Str}{g:Nat}{z:Str}(h:ss[g]? = some z):ss.drop g=z::ss.drop (g+1):=by
 obtain⟨hlt,e⟩:=Qc.mp h
 rw[List.drop_eq_getElem_cons hlt,e]
theorem ZiE:∀ (P:List ZN),(ZaU P).Nodup→∀ {x:ZN} {z:Str},x∈P→x.2.1[x.2.2]? = some z→(z::Zgw (ZbF P x.1)).Perm (Zgw P)
 | [],_,_,_,h,_=>by cases h
 | y::P,nd,x,z,h,hz=>by
  unfold ZaU at nd
  rw[Ql,Q3]at nd
  unfold Zgw ZbF
  rw[Ql,Qa2,Qa2]
  rcases QO.mp h with rfl|h
  ·have e:P.map (Zat x.1)=P:=by
    conv=>rhs;rw[← List.map_id P]
    refine QN fun u hu=>?_
    unfold Zat
    rw[if_neg (fun z:u.1=x.1=>nd.1 (z ▸ Qn (f:=fun x:ZN=>x.1) hu))]
    rfl
   rw[e,Zkb hz]
   unfold Zat
   rw[if_pos rfl]
   exact QaB _
  ·have ih:=ZiE P nd.2 h hz
   unfold Zgw ZbF at ih
   have e:Zat x.1 y=y:=if_neg (fun z:y.1=x.1=>nd.1 (z ▸ Qn (f:=fun x:ZN=>x.1) h))
   rw[e]
   exact List.perm_middle.symm.trans (ih.append_left _)
theorem ZjB{a b:Str}(h:ZK (cds a) (cds b)≤0):LeS a b:=fun z=>by
 have z':cds b<cds a:=z
 have:=(Zb3 _ _).mp z'
 have:=ZaP (cds a) (cds b)
 lia
theorem LeS.refl(a:Str):LeS a a:=ZjB (by rw[ZcS];exact QaX _)
theorem LeS.anti{a b:Str}(h:LeS a b)(k:LeS b a):a=b:=by
 have h1:¬ ZK (cds b) (cds a)<0:=fun z=>h ((Zb3 _ _).mpr z)
 have h2:¬ ZK (cds a) (cds b)<0:=fun z=>k ((Zb3 _ _).mpr z)
 have:=ZaP (cds a) (cds b)
 have e:cds a=cds b:=Zc1 _ _ (by lia)
 obtain⟨⟨a⟩⟩:=a
 obtain⟨⟨b⟩⟩:=b
 have e':a=b:=e
 rw[e']
def ZiR(P:List ZN):Prop:=∀x∈P,sortedS x.2.1=true
theorem ZiR.bump{P:List ZN}(h:ZiR P)(n:Int):ZiR (ZbF P n):=fun x hx=>by
 obtain⟨y,hy,rfl⟩:=Qx.mp hx
 unfold Zat
 split
 ·exact h y hy
 ·exact h y hy
theorem ZjZ{P:List ZN}(h:Zbd P=0):Zgw P=[]:=by
 have e:(Zgw P).length=Zbd P:=by
  unfold Zgw Zbd
  rw[List.length_flatMap]
  congr 1
  refine QN fun x _=>?_
  rw[QW]
 exact QT (e.trans h)
def ZgT(P:List ZN)(x:ZN)(z:Str):Prop:=x∈P∧x.2.1[x.2.2]? = some z∧Win (hdP P) (ZaU P) (some x.1)
inductive TkW (P:List ZN):List ZaF→List ZN→Prop
 | nil:TkW P [] P
 | snoc {ts:List ZaF} {P1:List ZN} {x:ZN} {z:Str}:TkW P ts P1→ZgT P1 x z→TkW P (ts++[(x.1,x.2.2,z)]) (ZbF P1 x.1)
theorem ZcM.tk{P P':List ZN}{ts:List ZaF}{k q:Int}(h:ZcM P ts P' k q):TkW P ts P':=by
 induction h with
 | nil=>exact .nil
 | snoc h s ih=>exact .snoc ih ⟨s.1,s.2.1,s.2.2.1⟩
theorem ZgT.one{P:List ZN}(nd:(ZaU P).Nodup){x y:ZN}{z u:Str}(h:ZgT P x z)(g:ZgT P y u):x=y∧z=u:=by
 obtain⟨h1,h2,h3⟩:=h
 obtain⟨g1,g2,g3⟩:=g
 have e1:=Qq (h3.one g3)
 have e2:=Zc4 nd h1 g1 e1
 subst e2
 exact⟨rfl,Qq (h2.symm.trans g2)⟩
theorem TkW.num{P P':List ZN}{ts:List ZaF}(h:TkW P ts P'):ZaU P'=ZaU P:=by
 induction h with
 | nil=>rfl
 | snoc _ _ ih=>rw[ZhC,ih]
theorem TkW.one{P:List ZN}(nd:(ZaU P).Nodup){ts:List ZaF}{P1:List ZN}(h:TkW P ts P1):∀ {us:List ZaF} {P2:List ZN},TkW P us P2→ts.length=us.length→ts=us∧P1=P2:=by
 induction h with
 | nil =>
  intro us P2 g hl
  cases g with
  | nil=>exact⟨rfl,rfl⟩
  | snoc _ _=>rw[Qg,Qj]at hl;exact absurd hl (by simp)
 | snoc h s ih =>
  intro us P2 g hl
  cases g with
  | nil=>rw[Qg,Qj]at hl;exact absurd hl (by simp)
  | snoc g' s' =>
   rw[Qg,Qg,Qj,Qj]at hl
   obtain⟨e1,e2⟩:=ih g' (by lia)
   subst e1
   subst e2
   obtain⟨f1,f2⟩:=s.one (by rw[h.num];exact nd) s'
   subst f1
   subst f2
   exact⟨rfl,rfl⟩
theorem TkW.left{P P':List ZN}{ts:List ZaF}(h:TkW P ts P')(nd:(ZaU P).Nodup):Zbd P'+ts.length=Zbd P:=by
 induction h with
 | nil=>rfl
 | snoc h s ih =>
  have:=ZdX _ (by rw[h.num];exact nd) s.1 (Qc.mp s.2.1).1
  rw[Qg,Qj]
  lia
theorem TkW.row{P P':List ZN}{ts:List ZaF}(h:TkW P ts P'):∀x∈P',∃y∈P,y.1=x.1∧y.2.1=x.2.1:=by
 induction h with
 | nil=>exact fun x hx=>⟨x,hx,rfl,rfl⟩
 | snoc h s ih =>
  intro x hx
  obtain⟨u,hu,rfl⟩:=Qx.mp hx
  obtain⟨y,hy,e1,e2⟩:=ih u hu
  refine⟨y,hy,?_,?_⟩
  ·unfold Zat;split<;>exact e1
  ·unfold Zat;split<;>exact e2
theorem TkW.at{P P':List ZN}{ts:List ZaF}(h:TkW P ts P'):∀u∈ts,∃y∈P,y.1=u.1∧y.2.1[u.2.1]? = some u.2.2:=by
 induction h with
 | nil=>exact fun u hu=>by cases hu
 | snoc h s ih =>
  intro u hu
  rcases Qh.mp hu with hu|hu
  ·exact ih u hu
  ·rw[Qe.mp hu]
   obtain⟨y,hy,e1,e2⟩:=h.row _ s.1
   exact⟨y,hy,e1,by rw[e2];exact s.2.1⟩
theorem ZgT.le{P:List ZN}(nd:(ZaU P).Nodup)(srt:ZiR P){x:ZN}{z:Str}(h:ZgT P x z):∀y∈Zgw P,LeS z y:=fun y hy=>by
 obtain⟨hx,hz,W⟩:=h
 obtain⟨_,zc,hzc,hall⟩:=W
 rw[ZfO nd hx,hz]at hzc
 have hzc':cds z=zc:=Qq hzc
 subst hzc'
 obtain⟨u,hu,hyu⟩:=List.mem_flatMap.mp hy
 cases hh:u.2.1[u.2.2]? with
 | none=>rw[List.drop_eq_nil_of_le (List.getElem?_eq_none_iff.mp hh)]at hyu;cases hyu
 | some hd =>
  have hle:LeS hd y:=by
   have p:(u.2.1.drop u.2.2).Pairwise LeS:=((Zew _).mp (srt u hu)).sublist (List.drop_sublist _ _)
   rw[Zkb hh]at p hyu
   rcases QO.mp hyu with rfl|hyu
   ·exact LeS.refl _
   ·exact(List.pairwise_cons.mp p).1 y hyu
  have hd':=ZfO nd hu
  rw[hh]at hd'
  rcases hall u.1 (Qn (f:=fun x:ZN=>x.1) hu) _ hd' with e|b
  ·have e2:=Zc4 nd hu hx e
   subst e2
   have:=Qq (hz.symm.trans hh)
   rw[this];exact hle
  ·refine(ZjB ?_).trans hle
   rcases b with b|⟨b,_⟩<;>lia
theorem TkW.srt{P P':List ZN}{ts:List ZaF}(h:TkW P ts P')(nd:(ZaU P).Nodup)(srt:ZiR P):ZiR P'∧(ts.map (·.2.2)++Zgw P').Perm (Zgw P)∧(ts.map (·.2.2)).Pairwise LeS∧∀a∈ts.map (·.2.2),∀b∈Zgw P',LeS a b:=by
 induction h with
 | nil=>exact⟨srt,QaB _,List.Pairwise.nil,fun a ha=>by cases ha⟩
 | snoc h s ih =>
  obtain⟨i1,i2,i3,i4⟩:=ih
  have nd1:=nd
  rw[← h.num]at nd1
  have pm:=ZiE _ nd1 s.1 s.2.1
  have le:=s.le nd1 i1
  refine⟨i1.bump _,?_,?_,fun a ha b hb=>?_⟩
  ·rw[Qf,Qai]
   exact(pm.append_left _).trans i2
  ·rw[Qf]
   refine QaN.mpr ⟨i3,Qah _ _,fun a ha b hb=>?_⟩
   have eb:=Qe.mp hb
   rw[eb]
   exact i4 a ha _ (pm.mem_iff.mp (QZ ..))
  ·have hb':=pm.mem_iff.mp (Qy _ hb)
   rw[Qf]at ha
   rcases Qh.mp ha with ha|ha
   ·exact i4 a ha b hb'
   ·rw[Qe.mp ha]
    exact le b hb'
def ZbI(ss:List Str)(d:List Int):List Str:=d.map fun n=>ss.getD n.toNat ""
def ZdH(R:List (List Str)):List ZN:=(Zaj 0 R.length).zip (R.map fun x=>(x,0))
theorem Zrw(rs:List (Addr×List Str)):Zjz rs=ZdH (rs.map (·.2)):=by
 unfold Zjz ZdH
 rw[Qa,QE]
 rfl
theorem Zii(R:List (List Str)):ZaU (ZdH R)=Zaj 0 R.length:=by
 unfold ZaU ZdH
 rw[List.map_fst_zip]
 unfold Zaj
 rw[Qa,Qa,Qax]
 exact Qi _
theorem Zc9(R:List (List Str)):(ZaU (ZdH R)).Nodup:=by
 rw[Zii]
 exact(ZfX _).imp fun h=>by lia
theorem Zi5(R:List (List Str))(i:Nat):(ZdH R)[i]? = (R[i]?).map fun x=>((i:Int),(x,0)):=by
 unfold ZdH Zaj
 rw[List.zip_eq_zipWith,List.getElem?_zipWith,Qk,Qk]
 by_cases h:i<R.length
 ·rw[Qb h,Qan h]
  simp
 ·rw[QG (by lia:R.length≤i)]
  simp
theorem ZdN{R:List (List Str)}{x:ZN}(h:x∈ZdH R):∃i:Nat,x.1=(i:Int)∧R[i]? = some x.2.1∧x.2.2=0:=by
 obtain⟨i,hi⟩:=QaO h
 rw[Zi5]at hi
 cases hR:R[i]? with
 | none=>rw[hR]at hi;cases hi
 | some d=>rw[hR]at hi;cases hi;exact⟨i,rfl,hR,rfl⟩
theorem ZhA(R:List (List Str)):Zbd (ZdH R)=(R.map List.length).sum:=by
 unfold Zbd ZdH
 have e:((Zaj 0 R.length).zip (R.map fun x=>(x,0))).map (fun x:ZN=>x.2.1.length-x.2.2)=((((Zaj 0 R.length).zip (R.map fun x=>(x,0))).map (·.2))).map (fun y:List Str×Nat=>y.1.length-y.2):=by rw[QE];rfl
 rw[e,List.map_snd_zip (by rw[Qa,ZaQ];exact Qi _),QE]
 rfl
theorem Ziv{R:List (List Str)}(h:∀d∈R,sortedS d=true):ZiR (ZdH R):=fun x hx=>by
 obtain⟨i,_,hi,_⟩:=ZdN hx
 exact h _ (Qr hi)
def Zau(R:List (List Int))(u:ZaF):Int:=(R.getD u.1.toNat []).getD u.2.1 0
def Put(ss:List Str)(R:List (List Int))(out:List Int):Prop:=∃ (ts:List ZaF) (P':List ZN),TkW (ZdH (R.map (ZbI ss))) ts P'∧ts.length=(R.map List.length).sum∧out=ts.map (Zau R)
theorem Put.one{ss:List Str}{R:List (List Int)}{a b:List Int}(h:Put ss R a)(g:Put ss R b):a=b:=by
 obtain⟨ts,P1,h1,h2,h3⟩:=h
 obtain⟨us,P2,g1,g2,g3⟩:=g
 have:=(h1.one (Zc9 _) g1 (by rw[h2,g2])).1
 rw[h3,g3,this]
theorem ZfZ(ss:List Str)(R:List (List Int)):((R.map (ZbI ss)).map List.length).sum=(R.map List.length).sum:=by
 rw[QE]
 congr 1
 refine QN fun d _=>?_
 show (ZbI ss d).length=d.length
 unfold ZbI
 rw[Qa]
theorem Zda{ss:List Str}{R:List (List Int)}{u:ZaF}{P':List ZN}{ts:List ZaF}(h:TkW (ZdH (R.map (ZbI ss))) ts P')(hu:u∈ts):∃d,R[u.1.toNat]? = some d∧0≤u.1∧d[u.2.1]? = some (Zau R u)∧ss.getD (Zau R u).toNat "" = u.2.2:=by
 obtain⟨y,hy,e1,e2⟩:=h.at u hu
 obtain⟨i,hi,hR,_⟩:=ZdN hy
 rw[Qk]at hR
 cases hd:R[i]? with
 | none=>rw[hd]at hR;cases hR
 | some d =>
  rw[hd]at hR
  have hR':=Qq hR
  rw[← hR']at e2
  unfold ZbI at e2
  rw[Qk]at e2
  cases hn:d[u.2.1]? with
  | none=>rw[hn]at e2;cases e2
  | some n =>
   rw[hn]at e2
   have e2':=Qq e2
   have eu:u.1.toNat=i:=by rw[← e1,hi];rfl
   have ep:Zau R u=n:=by
    unfold Zau
    rw[eu,Qm,Qm,hd]
    show (d[u.2.1]?).getD 0=n
    rw[hn];rfl
   exact⟨d,by rw[eu];exact hd,by rw[← e1,hi];lia,by rw[ep];exact hn,by rw[ep];exact e2'⟩
theorem Put.ok{ss:List Str}{R:List (List Int)}{out:List Int}(h:Put ss R out)(hs:∀d∈R,sortedS (ZbI ss d)=true):out.length=(R.map List.length).sum∧(∀n∈out,∃d∈R,n∈d)∧sortedS (ZbI ss out)=true:=by
 obtain⟨ts,P1,h1,h2,rfl⟩:=h
 refine⟨by rw[Qa];exact h2,fun n hn=>?_,?_⟩
 ·obtain⟨u,hu,rfl⟩:=Qx.mp hn
  obtain⟨d,hd,_,hg,_⟩:=Zda h1 hu
  exact⟨d,Qr hd,Qr hg⟩
 ·have e:ZbI ss (ts.map (Zau R))=ts.map (·.2.2):=by
   unfold ZbI
   rw[QE]
   refine QN fun u hu=>?_
   obtain⟨d,_,_,_,e⟩:=Zda h1 hu
   exact e
  rw[e]
  have hR:∀d∈R.map (ZbI ss),sortedS d=true:=fun d hd=>by
   obtain⟨x,hx,rfl⟩:=Qx.mp hd
   exact hs x hx
  exact(Zew _).mpr (h1.srt (Zc9 _) (Ziv hR)).2.2.1
mutual
inductive Zc6 (ss:List Str) (R:List (List Int)):PT→List Int→Prop where
 | leaf {i:Int}:Zc6 ss R (.leaf i) (R.getD i.toNat [])
 | node {l:List PT} {os:List (List Int)} {out:List Int}:Zaz ss R l os→Put ss os out→Zc6 ss R (.node l) out
inductive Zaz (ss:List Str) (R:List (List Int)):List PT→List (List Int)→Prop where
 | nil:Zaz ss R [] []
 | cons {t:PT} {o:List Int} {l:List PT} {os:List (List Int)}:Zc6 ss R t o→Zaz ss R l os→Zaz ss R (t::l) (o::os)
end
mutual
theorem Zc6.one{ss:List Str}{R:List (List Int)}:∀ {t:PT} {a b:List Int},Zc6 ss R t a→Zc6 ss R t b→a=b
 | _,_,_,.leaf,.leaf=>rfl
 | _,_,_,.node h p,.node g q=>by
  have:=Zaz.one h g
  subst this
  exact p.one q
theorem Zaz.one{ss:List Str}{R:List (List Int)}:∀ {l:List PT} {a b:List (List Int)},Zaz ss R l a→Zaz ss R l b→a=b
 | _,_,_,.nil,.nil=>rfl
 | _,_,_,.cons h hs,.cons g gs=>by rw[Zc6.one h g,Zaz.one hs gs]
end
theorem Zaz.app{ss:List Str}{R:List (List Int)}:∀ {l m:List PT} {a b:List (List Int)},Zaz ss R l a→Zaz ss R m b→Zaz ss R (l++m) (a++b)
 | _,_,_,_,.nil,g=>g
 | _,_,_,_,.cons h hs,g=>.cons h (hs.app g)
def wtR(R:List (List Int))(lv:List Int):Nat:=(lv.map fun i=>(R.getD i.toNat []).length).sum
theorem ZhR(R:List (List Int))(a b:List Int):wtR R (a++b)=wtR R a+wtR R b:=by unfold wtR;rw[Qf,Qak]
def Zh3(ss:List Str)(d:List Int):Prop:=(∀n∈d,0≤n∧n<(ss.length:Int))∧sortedS (ZbI ss d)=true
theorem Zp4(ss:List Str):Zh3 ss []:=⟨fun n h=>(by cases h),rfl⟩
theorem Zrm{ss:List Str}{R:List (List Int)}(h:∀d∈R,Zh3 ss d)(i:Nat):Zh3 ss (R.getD i []):=by
 rw[Qm]
 cases hx:R[i]? with
 | none=>exact Zp4 ss
 | some d=>exact h d (Qr hx)
mutual
theorem Zc6.ok{ss:List Str}{R:List (List Int)}(hR:∀d∈R,Zh3 ss d):∀ {t:PT} {o:List Int},Zc6 ss R t o→Zh3 ss o∧o.length=wtR R (tLv t)
 | .leaf i,_,.leaf=>⟨Zrm hR _,by show _=((([i]:List Int).map fun i=>(R.getD i.toNat []).length).sum);simp⟩
 | .node l,o,.node h p=>by
  obtain⟨a,b⟩:=Zaz.ok hR h
  obtain⟨p1,p2,p3⟩:=p.ok fun d hd=>(a d hd).2
  refine⟨⟨fun n hn=>?_,p3⟩,by rw[p1,b];rfl⟩
  obtain⟨d,hd,hnd⟩:=p2 n hn
  exact(a d hd).1 n hnd
theorem Zaz.ok{ss:List Str}{R:List (List Int)}(hR:∀d∈R,Zh3 ss d):∀ {l:List PT} {os:List (List Int)},Zaz ss R l os→(∀d∈os,Zh3 ss d)∧(os.map List.length).sum=wtR R (ZaY l)
 | [],_,.nil=>⟨fun d h=>(by cases h),rfl⟩
 | t::l,_,.cons h hs=>by
  obtain⟨a,b⟩:=Zc6.ok hR h
  obtain⟨c,d⟩:=Zaz.ok hR hs
  refine⟨fun x hx=>?_,?_⟩
  ·rcases QO.mp hx with rfl|hx
   ·exact a
   ·exact c x hx
  ·rw[Ql,QV,b,d]
   show _=wtR R (tLv t++ZaY l)
   rw[ZhR]
end
theorem Zmq{K:PySem.W.Frag}{a:Addr}{xs:List V}{k:Nat}{D:Addr}{σ:L2.St}{H1:Hp}{g:TG}{te:TE}{Q:VK}(Pv:Nat→List V→L2.St→Hp→Prop)(h0:Pv 0 [] (σ++List.replicate k none) (upd H1 D (.lst [])))
  (hl:∀i ys σ H,Pv i ys σ H→SqT K H a xs)
  (hs:∀i x ys σ H,xs[i]? = some x→Pv i ys σ H→g x σ H fun σ4 H4=>te σ4 H4 fun y H6=>H6 D=some (.lst ys)∧ys.length<sizeLine∧Pv (i+1) (ys++[y]) σ4 (upd H6 D (.lst (ys++[y]))))
  (hd:∀ys σ H,Pv xs.length ys σ H→Q (.ref D) H):Zfb (Itt K a) D k σ H1 g Zgs te Q:=by
 refine⟨fun i m ys σ H=>m=xs.length-i∧i≤xs.length∧Pv i ys σ H,⟨xs.length,by simp,Qv _,h0⟩,?_⟩
 rintro i m ys σ H ⟨rfl,hi,p⟩
 have q1:=hl i ys σ H p
 by_cases hlt:i<xs.length
 ·refine .inr ⟨⟨xs,xs[i],q1,Qb hlt⟩,Pv (i+1),fun ys' σ' H' p'=>⟨xs.length-(i+1),by lia,rfl,hlt,p'⟩,fun x H' y=>?_⟩
  obtain⟨rfl,e⟩:=y
  simp only[Zgs,↓reduceIte]
  exact hs i x ys σ _ (e xs q1) p
 ·have e:i=xs.length:=by lia
  exact .inl ⟨⟨xs,q1,by lia⟩,hd ys σ H (e ▸ p)⟩
theorem Zkw{ls:List Addr}{k:Int}{l:Addr}(h0:0≤k)(h:ls[k.toNat]? = some l):atI (ls.map V.ref) k=some (.ref l):=by
 have ek:k=((k.toNat:Nat):Int):=by lia
 rw[ek]
 exact Zaf (by rw[Qk,h];rfl)
theorem Zaz.len{ss:List Str}{R:List (List Int)}:∀ {l:List PT} {os:List (List Int)},Zaz ss R l os→os.length=l.length
 | _,_,.nil=>rfl
 | _,_,.cons _ h=>by rw[QK,QK,h.len]
theorem ZkT{w:Nat}:∀ {l:List PT} {i:Nat} {t:PT},Zdn w l→l[i]? = some t→tPl w t
 | [],i,t,_,h=>by simp at h
 | u::r,0,t,hp,h=>by simp at h;rw[← h];exact hp.1
 | u::r,i+1,t,hp,h=>ZkT hp.2 (by simpa using h)
theorem Zh8:∀ {R:List (List Int)} {i:Nat} {d:List Int},R[i]? = some d→d.length≤(R.map List.length).sum
 | [],i,d,h=>by simp at h
 | u::r,0,d,h=>by simp at h;rw[← h,Ql,QV];lia
 | u::r,i+1,d,h=>by
  have:=Zh8 (R:=r) (i:=i) (d:=d) (by simpa using h)
  rw[Ql,QV];lia
theorem ZpO(R:List (List Int)):∀ {l:List PT} {i:Nat} {t:PT},l[i]? = some t→wtR R (tLv t)≤wtR R (ZaY l)
 | [],i,t,h=>by simp at h
 | u::r,0,t,h=>by
  simp at h
  rw[← h]
  show _≤wtR R (tLv u++ZaY r)
  rw[ZhR];lia
 | u::r,i+1,t,h=>by
  have:=ZpO R (l:=r) (i:=i) (t:=t) (by simpa using h)
  show _≤wtR R (tLv u++ZaY r)
  rw[ZhR];lia
structure Zl2 (H:Hp) (a r:Addr) (ss:List Str) (ls:List Addr) (R:List (List Int)):Prop where
 th:H a=some (.lst (ss.map V.str))
 s60:ss.length≤60
 key:∀s∈ss,s.length≤1000∧AZ s
 ru:H r=some (.lst (ls.map V.ref))
 rd:Rd H ls R
 rg:∀d∈R,Zh3 ss d
theorem Zl2.same{H H':Hp}{a r:Addr}{ss:List Str}{ls:List Addr}{R:List (List Int)}(h:Zl2 H a r ss ls R)(s:ZA H H'):Zl2 H' a r ss ls R:=⟨s _ _ h.th,h.s60,h.key,s _ _ h.ru,Rd.mono (fun _ _ o ho=>s _ _ ho) h.rd,h.rg⟩
def ZrF(n:Nat):Sp:=fun vs H Q _=>∃ (a r:Addr) (ss:List Str) (ls:List Addr) (R:List (List Int)) (x:V) (t:PT),vs=[.ref a,.ref r,x]∧Zl2 H a r ss ls R∧TV H x t∧tOk R.length t∧tPl 60 t∧wtR R (tLv t)≤100∧tDp t<n ∧
 ∀ (b:Addr) (out:List Int) (H':Hp),H b=none→H' b=some (.lst (out.map V.int))→Zc6 ss R t out→ZA H H'→Q (.ref b) H'
theorem ZpN(T:Zao K mg cRow cMerge)(f_is_number:Df P w K mg base 1 "is_number" ["thing"] ZpP)(f_merged:Df P w K mg base 16 "merged" ["rows"] ZiJ):∀n:Nat,Df P w K mg base (n+17) "merged_by" ["things", "runs", "tree"] (ZrF n)
 | 0=>by
  refine T.t_merged_by.df Zca (fun vs H Q E h=>?_) (fun cdv f A outer s H vs Q E hr h=>?_)
  ·obtain⟨a,r,ss,ls,R,x,t,rfl,_⟩:=h
   rfl
  obtain⟨a,r,ss,ls,R,x,t,rfl,hI,hT,hok,hpl,hwt,hdp,q⟩:=h
  exact absurd hdp (by lia)
 | n+1=>by
  have f_merged_by:=ZpN T f_is_number f_merged n
  refine T.t_merged_by.df Zca (fun vs H Q E h=>?_) (fun cdv f A outer s H vs Q E hr h=>?_)
  ·obtain⟨a,r,ss,ls,R,x,t,rfl,_⟩:=h
   rfl
  obtain⟨a,r,ss,ls,R,x,t,rfl,hI,hT,hok,hpl,hwt,hdp,q⟩:=h
  refine⟨_,#[Zf,#[Z9,#[ZeN,#[ZD,f_is_number,hr,#[Za,‹2›,#[Zd]],(by rfl)]],#[Zj,#[Zp,#[Za5,(ZnH K),T.b.n_list,boot_list,#[Za,#[Zz,(ixL K),#[pv,1,(Or.inr (Or.inl rfl))],‹2›],#[Zd]]]]],#[ZF]],#[Zf,#[Zu,3,Zca.nd,(Or.inr rfl),#[Za8,Zk1,(@iT _ K _ _ _ ‹2› (by rfl)),(fun _ _ _ _=>#[cg,5,Zk1]),(fun _ _ _ _=>(@ZaC _)),(fun _ _ _ _=>#[ZD,f_merged_by,hr,#[Za,#[cv,0,Zk1],#[Za,#[cv,1,Zk1],#[Za,#[cw,5,Zk1],#[Zd]]]],(ZbQ Zk1 rfl (by ac_rfl))])]],#[Zf,#[Zea,4,Zca.nd,Zqv,#[iL,K,#[pv,3,(Or.inr (Or.inl rfl))]],(fun _ _ _ _=>#[cg,5,Zqv]),(fun _ _ _ _=>(@ZaC _)),(fun _ _ _ _=>#[Za8,ZoU,#[iL,K,#[cw,5,Zqv]],(fun _ _ _ _=>#[cg,6,ZoU]),(fun _ _ _ _=>(@ZaC _)),(fun _ _ _ _=>#[Zz,(ixL K),#[cv,0,ZoU],#[cw,6,ZoU]])])],#[Zj,#[Zp,#[Za8,ZlW,#[iL,K,#[ZD,f_merged,hr,#[Za,‹4›,#[Zd]],(by rfl)]],(fun _ _ _ _=>#[gT,K,2,#[Zw,#[cg,5,ZlW],#[Zw,#[cg,6,ZlW],(@ZaD _)]]]),(fun _ _ _ _=>(@ZaC _)),(fun _ _ _ _=>#[Zz,(ixL K),#[Zz,(ixL K),#[cv,3,ZlW],#[cw,5,ZlW]],#[cw,6,ZlW]])]]]]]],?_⟩
  have hR60:R.length=ls.length:=hI.rd.len.symm
  cases hT with
  | leaf k =>
   refine⟨_,rfl,.inl ⟨k,rfl,_,rfl,ZeH ?_⟩⟩
   have hk:0≤k∧k<(R.length:Nat):=hok
   obtain⟨l,hl⟩:∃l,ls[k.toNat]? = some l:=⟨_,Qb (by lia)⟩
   obtain⟨d,hd,hld⟩:=hI.rd.at hl
   refine⟨_,rfl,_,rfl,r,_,_,_,rfl,rfl,SqL.of hI.ru,Zkw hk.1 hl,l,_,rfl,.inl (SqL.of hld),fun b hb=>?_⟩
   refine q b d _ hb Zb ?_ (Zg hb _)
   have e:R.getD k.toNat []=d:=by rw[Qm,hd];rfl
   rw[← e]
   exact .leaf
  | node htp hTs =>
   rename_i tp xs l
   refine⟨_,rfl,.inr ⟨tp,xs,rfl,htp,_,rfl,Zcz ?_⟩⟩
   have hxl:=hTs.len
   have hl60:l.length≤60:=hpl.2.1
   have hpls:Zdn 60 l:=hpl.2.2
   have hoks:Zli R.length l:=hok
   have hwts:wtR R (ZaY l)≤100:=hwt
   have hdps:ZeX l<n:=by have:ZeX l+1<n+1:=hdp;lia
   refine⟨_,rfl,tp,rfl,⟨_,SqT.of htp⟩,fun D hD=>?_⟩
   refine Zmq (K:=K) (a:=tp) (xs:=xs) (fun i zs σ H2=>(∃v:Option V,σ=[some (.ref a),some (.ref r),some (.ref tp),none,none,v])∧(∃ (bs:List Addr) (os:List (List Int)),zs=bs.map V.ref∧Rd H2 bs os∧Zaz ss R (l.take i) os∧D ∉ bs)∧i≤xs.length∧H2 D=some (.lst zs)∧ZA H H2) ?_ (fun _ _ _ _ h=>SqT.of (h.2.2.2.2 _ _ htp)) ?_ ?_
   ·exact⟨⟨none,rfl⟩,⟨[],[],rfl,True.intro,.nil,fun h=>by cases h⟩,Qv _,Zb,Zg hD _⟩
   ·rintro i x zs σ H2 hx ⟨⟨v,rfl⟩,⟨bs,os,rfl,hrd,hpt,hDb⟩,hi,hD2,s2⟩
    obtain⟨t,ht,hTV⟩:=hTs.at hx
    have hil:i<xs.length:=(Qc.mp hx).1
    have hbl:bs.length=i:=by rw[hrd.len,hpt.len,QC];lia
    refine⟨_,rfl,_,rfl,_,rfl,a,r,ss,ls,R,x,t,rfl,hI.same s2,hTV.mono (Zmp s2),Zki _ _ _ _ hoks ht,ZkT hpls ht,QP (ZpO R ht) hwts,QaE (Zj4 _ _ _ ht) hdps,fun b out H3 hb0 hb hp s3=>?_⟩
    have hD3:=s3 _ _ hD2
    have nbD:b≠D:=fun z=>by rw[z,hD2]at hb0;cases hb0
    refine⟨hD3,(by rw[Qa,hbl,sizeLine_eq];lia),⟨_,rfl⟩,⟨bs++[b],os++[out],by rw[Qf];rfl,?_,?_,?_⟩,hil,Zb,fun c o hc=>?_⟩
    ·refine Rd.app (Rd.mono (fun c hc o ho=>?_) hrd) ⟨by rw[Ze nbD];exact hb,True.intro⟩
     rw[Ze (fun z:c=D=>hDb (by rw[← z];exact hc))];exact s3 _ _ ho
    ·rw[QM,ht]
     exact hpt.app (.cons hp .nil)
    ·intro h
     rcases Qh.mp h with h|h
     ·exact hDb h
     ·exact nbD (Qe.mp h).symm
    ·rw[Ze (Zc hc hD)];exact s3 _ _ (s2 c o hc)
   rintro zs σ H2 ⟨⟨v,rfl⟩,⟨bs,os,rfl,hrd,hpt,_⟩,_,hD2,s2⟩
   rw[QB (by lia)]at hpt
   obtain⟨hro,hso⟩:=Zaz.ok hI.rg hpt
   have hos:os.length=l.length:=hpt.len
   have hbo:=hrd.len
   refine⟨_,rfl,D,rfl,⟨_,SqL.of hD2⟩,fun D2 hD20=>?_⟩
   refine Zbh (K:=K) (a:=D) (xs:=bs.map V.ref) (fun i zs σ H3=>(∃v:Option V,σ=[some (.ref a),some (.ref r),some (.ref tp),some (.ref D),none,v])∧(∃rs:List (Addr×List Str),zs=(rs.map fun x=>V.ref x.1)∧rs.map (·.2)=(os.take i).map (ZbI ss)∧∀x∈rs,x.1≠D2∧H3 x.1=some (.lst (x.2.map V.str)))∧i≤bs.length∧H3 D2=some (.lst zs)∧ZA H2 H3) ?_ (fun _ _ _ _ h=>SqL.of (h.2.2.2.2 _ _ hD2)) ?_ ?_
   ·exact⟨⟨none,rfl⟩,⟨[],rfl,rfl,fun x h=>by cases h⟩,Qv _,Zb,Zg hD20 _⟩
   ·rintro i y zs σ H3 hy ⟨⟨v,rfl⟩,⟨rs,rfl,hrs,hrs3⟩,hi,hD3,s3⟩
    rw[Qk]at hy
    cases hb:bs[i]? with
    | none=>rw[hb]at hy;cases hy
    | some b =>
    rw[hb]at hy
    cases hy
    have hil:i<bs.length:=(Qc.mp hb).1
    obtain⟨d,hd,hbd⟩:=hrd.at hb
    have hrl:rs.length=i:=by
     have:=congrArg List.length hrs
     rw[Qa,Qa,QC]at this
     lia
    have hdr:=(hro d (Qr hd)).1
    have hdl:d.length≤100:=QP (Zh8 hd) (by rw[hso];exact hwts)
    have hb3:=s3 _ _ hbd
    refine⟨_,rfl,b,rfl,⟨_,SqL.of hb3⟩,fun E0 hE=>?_⟩
    have nED:D2≠E0:=Zc hD3 hE
    refine Zbh (K:=K) (a:=b) (xs:=d.map V.int) (fun j ys σ H5=>(∃v:Option V,σ=[some (.ref a),some (.ref r),some (.ref tp),some (.ref D),none,some (.ref b),v])∧ys=((ZbI ss d).take j).map V.str∧j≤d.length∧H5 E0=some (.lst ys)∧ZA H3 H5) ?_ (fun _ _ _ _ h=>SqL.of (h.2.2.2.2 _ _ hb3)) ?_ ?_
    ·exact⟨⟨none,rfl⟩,rfl,Qv _,Zb,Zg hE _⟩
    ·rintro j y ys σ H5 hy ⟨⟨v',rfl⟩,rfl,hj,hE5,s5⟩
     rw[Qk]at hy
     cases hn:d[j]? with
     | none=>rw[hn]at hy;cases hy
     | some nn =>
     rw[hn]at hy
     cases hy
     have hjl:j<d.length:=(Qc.mp hn).1
     obtain⟨n0,n1⟩:=hdr nn (Qr hn)
     refine⟨_,rfl,_,rfl,a,_,_,_,rfl,rfl,SqL.of (s5 _ _ (s3 _ _ (s2 _ _ hI.th))),ZeR n0 n1,hE5,(by rw[Qa,QC,sizeLine_eq];lia),⟨_,rfl⟩,?_,hjl,Zb,fun c o hc=>?_⟩
     ·unfold ZbI
      rw[QM,Qk,hn,Qf];rfl
     ·rw[Ze (Zc hc hE)];exact s5 c o hc
    rintro ys σ H5 ⟨⟨v',rfl⟩,rfl,_,hE5,s5⟩
    rw[Qa,QB (by unfold ZbI;rw[Qa];exact Qi _)]at hE5
    refine⟨s5 _ _ hD3,(by rw[Qa,hrl,sizeLine_eq];lia),⟨_,rfl⟩,⟨rs++[(E0,ZbI ss d)],by rw[Qf];rfl,?_,fun x hx=>?_⟩,hil,Zb,fun c o hc=>?_⟩
    ·rw[QM,hd,Qf,Qf,hrs];rfl
    ·rcases Qh.mp hx with hx|hx
     ·obtain⟨g1,g2⟩:=hrs3 x hx
      exact⟨g1,by rw[Ze g1];exact s5 _ _ g2⟩
     ·rw[Qe.mp hx]
      exact⟨nED.symm,by rw[Ze nED.symm];exact hE5⟩
    ·rw[Ze (Zc hc hD20)];exact s5 _ _ (s3 c o hc)
   rintro zs σ H3 ⟨⟨v,rfl⟩,⟨rs,rfl,hrs,hrs3⟩,_,hD3,s3⟩
   rw[Qa,QB (by lia)]at hrs
   have hsrt:∀x∈rs,sortedS x.2=true:=fun x hx=>by
    have:x.2∈rs.map (·.2):=Qn (f:=fun x:Addr×List Str=>x.2) hx
    rw[hrs]at this
    obtain⟨d,hd,e⟩:=Qx.mp this
    rw[← e]
    exact(hro d hd).2
   have hrl:rs.length=os.length:=by have:=congrArg List.length hrs;rwa [Qa,Qa]at this
   have R3:Zeg H3 D2 rs:=⟨hD3,by lia,fun x hx=>by
    have:x.2∈rs.map (·.2):=Qn (f:=fun x:Addr×List Str=>x.2) hx
    rw[hrs]at this
    obtain⟨d,hd,e⟩:=Qx.mp this
    obtain⟨i,hi⟩:=QaO hd
    refine⟨(hrs3 x hx).2,?_,fun s hs=>?_⟩
    ·rw[← e]
     unfold ZbI
     rw[Qa]
     exact QP (Zh8 hi) (by rw[hso];exact hwts)
    ·rw[← e]at hs
     unfold ZbI at hs
     obtain⟨nn,hnn,rfl⟩:=Qx.mp hs
     obtain⟨n0,n1⟩:=(hro d hd).1 nn hnn
     rw[Qm,Qb (by lia)]
     exact hI.key _ (QX _)⟩
   refine⟨_,rfl,D2,rs,rfl,R3,hsrt,fun mt us P' k0 q0 H4 htk hln hmt hus _ _ s4=>?_⟩
   have htw:=htk.tk
   rw[Zrw,hrs]at htw
   have hln2:(us.map (·.2)).length=(os.map List.length).sum:=by
    rw[Qa,hln,← ZfZ ss os,← hrs,QE];rfl
   have hD4:=s4 _ _ (s3 _ _ hD2)
   have s24:=s3.trans s4
   have hrd4:Rd H4 bs os:=Rd.mono (fun _ _ o ho=>s24 _ _ ho) hrd
   refine⟨mt,rfl,⟨_,SqL.of hmt⟩,fun O hO=>?_⟩
   refine Zbh (K:=K) (a:=mt) (xs:=us.map fun u=>V.ref u.1) (fun i zs σ H5=>(∃v1 v2:Option V,σ=[some (.ref a),some (.ref r),some (.ref tp),some (.ref D),some (.ref D2),v1,v2])∧zs=(((us.take i).map (·.2)).map (Zau os)).map V.int∧i≤us.length∧H5 O=some (.lst zs)∧ZA H4 H5) ?_ (fun _ _ _ _ h=>SqL.of (h.2.2.2.2 _ _ hmt)) ?_ ?_
   ·exact⟨⟨none,none,rfl⟩,rfl,Qv _,Zb,Zg hO _⟩
   ·rintro i y zs σ H5 hy ⟨⟨v1,v2,rfl⟩,rfl,hi,hO5,s5⟩
    rw[Qk]at hy
    cases hz:us[i]? with
    | none=>rw[hz]at hy;cases hy
    | some u =>
    rw[hz]at hy
    cases hy
    have hil:i<us.length:=(Qc.mp hz).1
    have hum:=Qr hz
    obtain⟨d,hd,hu0,hdg,_⟩:=Zda htw (Qn (f:=fun u:Addr×ZaF=>u.2) hum)
    obtain⟨b,hb⟩:∃b,bs[u.2.1.toNat]? = some b:=⟨_,Qb (by rw[hbo];exact(Qc.mp hd).1)⟩
    have hbd:=hrd4.get hb hd
    have hul:=Qa (as:=us) (fun u:Addr×ZaF=>u.2)
    refine⟨u.1,_,rfl,SqT.of (s5 _ _ (hus u hum)),rfl,_,_,rfl,_,_,rfl,rfl,?_⟩
    refine⟨_,rfl,_,rfl,D,_,_,_,rfl,rfl,SqL.of (s5 _ _ hD4),Zkw hu0 hb,_,rfl,b,_,_,_,rfl,rfl,SqL.of (s5 _ _ hbd),Zaf (by rw[Qk,hdg];rfl),hO5,(by rw[Qa,Qa,Qa,QC,sizeLine_eq];lia),⟨_,_,rfl⟩,?_,hil,Zb,fun c o hc=>?_⟩
    ·rw[QM,hz,Qf,Qf,Qf];rfl
    ·rw[Ze (Zc hc hO)];exact s5 c o hc
   rintro zs σ H5 ⟨⟨v1,v2,rfl⟩,rfl,_,hO5,s5⟩
   rw[Qa,QB (Qi _)]at hO5
   have s05:=s2.trans (s24.trans s5)
   exact q O _ H5 ((s2.trans s24).free hO) hO5 (.node hpt ⟨_,_,htw,hln2,rfl⟩) s05
theorem Zqm{x y:Str}(h:cds x=cds y):x=y:=by
 obtain⟨x⟩:=x
 obtain⟨y⟩:=y
 have:x=y:=Array.ext' h
 rw[this]
theorem Zga{ss:List Str}{g:List Int}{n:Int}(h:Ris ss g)(hl:∀x,g.getLast? = some x→ZU (kk (ks ss x)) (kk (ks ss n))=true):Ris ss (g++[n]):=fun p x y hx hy=>by
 have hpl:=(Qc.mp hy).1
 rw[Qg,Qj]at hpl
 rw[QU (by lia)]at hx
 by_cases e:p+1<g.length
 ·rw[QU e]at hy
  exact h p x y hx hy
 ·rw[QS (by lia),show p+1-g.length=0 by lia]at hy
  cases hy
  refine hl x ?_
  rw[List.getLast?_eq_getElem?,show g.length-1=p by lia]
  exact hx
theorem ZlD{ss:List Str}{n:Int}{c:Nat}(hn:n<c)(h:¬ ltK ss (c:Int) n):ZU (kk (ks ss n)) (kk (ks ss (c:Int)))=true:=by
 cases hb:ZU (kk (ks ss n)) (kk (ks ss (c:Int))) with
 | true=>rfl
 | false =>
  have h2:ZU (kk (ks ss (c:Int))) (kk (ks ss n))=false:=by
   unfold kk
   rw[Zag]
   by_cases e:(Sum.inr (ks ss (c:Int)).1:Key)=Sum.inr (ks ss n).1
   ·rw[if_pos e,Zag,if_neg (by intro z;have:=Sum.inl.inj z;show False;simp only[ks]at this;lia)]
    exact decide_eq_false (by show ¬ ((c:Int)<n);lia)
   ·rw[if_neg e]
    exact decide_eq_false h
  have:=Zh4 (Zbv _ _ hb h2)
  have:=congrArg Prod.snd this
  simp only[ks]at this
  lia
def Zh2(ss:List Str)(d:List Int):Prop:=d≠[]∧Ris ss d∧∀n∈d,0≤n∧n<ss.length
theorem Zgh{ss:List Str}{A B:List Int}{n:Int}(hl:Zd7 ss A n)(nd:(A++B).Nodup):∀a∈A.erase n,ZU (kk (ks ss n)) (kk (ks ss a))=true:=fun a ha=>by
 have hA:=(QY.mp nd).1
 have hne:a≠n:=((List.Nodup.mem_erase_iff hA).mp ha).1
 cases hb:ZU (kk (ks ss n)) (kk (ks ss a)) with
 | true=>rfl
 | false=>exact absurd (congrArg Prod.snd (Zh4 (Zbv _ _ (hl.2 a (Qt ha)) hb))) hne
theorem Zgo{A B:List Int}{n:Int}(nd:(A++B).Nodup):(A.erase n++B).Nodup:=by
 have h:=QY.mp nd
 exact QY.mpr ⟨h.1.erase n,h.2.1,fun x hx y hy=>h.2.2 x (Qt hx) y hy⟩
theorem Zne{ss:List Str}{A B:List Int}{c:Nat}{gone:List Int}{done R:List (List Int)}(h:Res ss A B c gone done R):(A++B).Nodup→(∀n∈A++B,0≤n∧n<(c:Int))→c≤ss.length→(∀d∈done,Zh2 ss d)→Ris ss gone→(∀n∈gone,0≤n∧n<ss.length)→(∀x,gone.getLast? = some x→∀a∈A,ZU (kk (ks ss x)) (kk (ks ss a))=true)→(A=[]→B≠[]→gone≠[])→∀d∈R,Zh2 ss d:=by
 induction h with
 | stop0=>intro _ _ _ hd _ _ _ _;exact hd
 | stop =>
  intro _ _ _ hd hr hm _ _ d hdm
  rcases Qh.mp hdm with h|h
  ·exact hd d h
  ·rw[Qe.mp h];exact⟨by simp,hr,hm⟩
 | switch _ ih =>
  intro nd mem hc hd hr hm _ go
  refine ih (by simpa using nd) (by simpa using mem) hc (fun d hdm=>?_) (fun p x y hx=>by simp at hx) (fun n hn=>by cases hn) (fun x hx=>by simp at hx) (fun z=>by cases z)
  rcases Qh.mp hdm with h|h
  ·exact hd d h
  ·rw[Qe.mp h];exact⟨go rfl (by simp),hr,hm⟩
 | stepN l hcN _ ih =>
  intro nd mem hc hd hr hm last go
  have hn:=mem _ (Qp _ l.1)
  refine ih (Zgo nd) (fun m hm'=>mem m ?_) hc hd (Zga hr (fun x hx=>last x hx _ l.1)) (fun m hm'=>?_) (fun x hx=>?_) (fun _ _=>by simp)
  ·rcases Qh.mp hm' with h|h
   ·exact Qp _ (Qt h)
   ·exact Qo _ h
  ·rcases Qh.mp hm' with h|h
   ·exact hm m h
   ·rw[Qe.mp h];lia
  ·rw[List.getLast?_concat]at hx
   cases hx
   exact Zgh l nd
 | @stepA A B c gone done R n l hcN hlt _ ih =>
  intro nd mem hc hd hr hm last go
  have hn:=mem _ (Qp _ l.1)
  refine ih ?_ (fun m hm'=>?_) hcN hd (Zga hr (fun x hx=>last x hx _ l.1)) (fun m hm'=>?_) (fun x hx=>?_) (fun _ _=>by simp)
  ·have e:=QY.mp (Zgo (n:=n) nd)
   refine QY.mpr ⟨QY.mpr ⟨e.1,by simp,fun x hx y hy=>?_⟩,e.2.1,fun x hx y hy=>?_⟩
   ·have:=mem x (Qp _ (Qt hx));rw[Qe.mp hy];lia
   ·rcases Qh.mp hx with hx|hx
    ·exact e.2.2 x hx y hy
    ·have:=mem y (Qo _ hy);rw[Qe.mp hx];lia
  ·have:m∈A++B∨m=(c:Int):=by
    simp only[List.mem_append,List.mem_singleton]at hm' ⊢
    rcases hm' with(h|h)|h
    ·exact .inl (.inl (Qt h))
    ·exact .inr h
    ·exact .inl (.inr h)
   rcases this with h|h
   ·have:=mem m h;lia
   ·lia
  ·rcases Qh.mp hm' with h|h
   ·exact hm m h
   ·rw[Qe.mp h];lia
  ·rw[List.getLast?_concat]at hx
   cases hx
   intro a ha
   rcases Qh.mp ha with ha|ha
   ·exact Zgh l nd a ha
   ·rw[Qe.mp ha];exact ZlD hn.2 hlt
 | @stepB A B c gone done R n l hcN hlt _ ih =>
  intro nd mem hc hd hr hm last go
  have hn:=mem _ (Qp _ l.1)
  refine ih ?_ (fun m hm'=>?_) hcN hd (Zga hr (fun x hx=>last x hx _ l.1)) (fun m hm'=>?_) (fun x hx=>?_) (fun _ _=>by simp)
  ·have e:=QY.mp (Zgo (n:=n) nd)
   refine QY.mpr ⟨e.1,QY.mpr ⟨e.2.1,by simp,fun x hx y hy=>?_⟩,fun x hx y hy=>?_⟩
   ·have:=mem x (Qo _ hx);rw[Qe.mp hy];lia
   ·rcases Qh.mp hy with hy|hy
    ·exact e.2.2 x hx y hy
    ·have:=mem x (Qp _ (Qt hx));rw[Qe.mp hy];lia
  ·have:m∈A++B∨m=(c:Int):=by
    simp only[List.mem_append,List.mem_singleton]at hm' ⊢
    rcases hm' with h|h|h
    ·exact .inl (.inl (Qt h))
    ·exact .inl (.inr h)
    ·exact .inr h
   rcases this with h|h
   ·have:=mem m h;lia
   ·lia
  ·rcases Qh.mp hm' with h|h
   ·exact hm m h
   ·rw[Qe.mp h];lia
  ·rw[List.getLast?_concat]at hx
   cases hx
   exact Zgh l nd
theorem ZmW(n:Nat):(first n).Nodup:=by
 unfold first Zaj
 refine QaL _ (fun a b h=>?_) List.nodup_range
 intro z
 exact h (by lia)
theorem Ze0{ss:List Str}{k:Nat}(hk:k≤ss.length){R:List (List Int)}(h:Res ss (first k) [] k [] [] R):∀d∈R,Zh2 ss d :=
 Zne h (by rw[QR];exact ZmW k) (by rw[QR];exact fun n hn=>Zch hn) hk (fun d h=>by cases h) (fun p x y hx=>by simp at hx) (fun n h=>by cases h) (fun x hx=>by simp at hx) (fun _ z=>absurd rfl z)
theorem Ris.far{ss:List Str}{ns:List Int}(h:Ris ss ns):∀ (d p:Nat) (x y:Int),ns[p]? = some x→ns[p+d+1]? = some y→ZU (kk (ks ss x)) (kk (ks ss y))=true
 | 0,p,x,y,hx,hy=>h p x y hx hy
 | d+1,p,x,y,hx,hy=>by
  have hl:p+d+1<ns.length:=by have:=(Qc.mp hy).1;lia
  have hz:=Qb hl
  exact ZbM _ _ _ (h.far d p x _ hx hz) (h (p+d+1) _ _ hz hy)
theorem Ris.pw{ss:List Str}{ns:List Int}(h:Ris ss ns):ns.Pairwise fun x y=>ZU (kk (ks ss x)) (kk (ks ss y))=true:=by
 refine List.pairwise_iff_getElem.mpr fun i j hi hj hij=>?_
 exact h.far (j-i-1) i _ _ (Qb hi) (by rw[show i+(j-i-1)+1=j by lia];exact Qb hj)
theorem Zoi{ss:List Str}{x y:Int}(h:ZU (kk (ks ss x)) (kk (ks ss y))=true):LeS (ss.getD x.toNat "") (ss.getD y.toNat ""):=by
 by_cases e:ss.getD x.toNat "" = ss.getD y.toNat ""
 ·rw[e];exact LeS.refl _
 ·unfold kk at h
  rw[Zag,if_neg (show ¬ (Sum.inr (ks ss x).1:Key)=Sum.inr (ks ss y).1 from fun z=>e (Sum.inr.inj z))]at h
  have h':cds (ss.getD x.toNat "")<cds (ss.getD y.toNat ""):=of_decide_eq_true h
  have:=(Zb3 _ _).mp h'
  exact ZjB (by lia)
theorem ZnT{ss:List Str}{d:List Int}(h:d.Pairwise fun x y=>ZU (kk (ks ss x)) (kk (ks ss y))=true):sortedS (ZbI ss d)=true:=(Zew _).mpr (List.pairwise_map.mpr (h.imp fun h=>Zoi h))
theorem Zop{ss:List Str}{A B:List Int}{c:Nat}{gone:List Int}{done R:List (List Int)}(h:Res ss A B c gone done R):c≤ss.length→(R.map List.length).sum≤(done.map List.length).sum+gone.length+A.length+B.length+(ss.length-c):=by
 induction h with
 | stop0=>intro _;lia
 | stop=>intro _;rw[Qf,Qak,Ql,Qap,QV,List.sum_nil];lia
 | switch _ ih =>
  intro hc
  have:=ih hc
  rw[Qf,Qak,Ql,Qap,QV,List.sum_nil,List.length_nil]at this
  rw[List.length_nil]
  lia
 | stepN l _ _ ih =>
  intro hc
  have:=ih hc
  rw[Qg,Qj,Q4 l.1]at this
  have:=Q0 l.1
  lia
 | stepA l hcl _ _ ih =>
  intro hc
  have:=ih (by lia)
  rw[Qg,Qg,Qj,Qj,Q4 l.1]at this
  have:=Q0 l.1
  lia
 | stepB l hcl _ _ ih =>
  intro hc
  have:=ih (by lia)
  rw[Qg,Qg,Qj,Qj,Q4 l.1]at this
  have:=Q0 l.1
  lia
theorem Zet{ss:List Str}{k:Nat}(hk:k≤ss.length){R:List (List Int)}(h:Res ss (first k) [] k [] [] R):(R.map List.length).sum≤ss.length:=by
 have:=Zop h hk
 rw[Zby,List.length_nil]at this
 simp at this
 lia
theorem ZhF:∀R:List (List Int),(∀d∈R,d≠[])→R.length≤(R.map List.length).sum
 | [],_=>Qi _
 | d::R,h=>by
  have:=ZhF R fun x hx=>h x (Qy _ hx)
  have:=Qao.mpr (h d (by simp))
  rw[Ql,QV,QK]
  lia
def LtT(u v:ZaF):Prop:=ZK (cds u.2.2) (cds v.2.2)<0∨(u.2.2=v.2.2∧(u.1<v.1∨(u.1=v.1∧u.2.1<v.2.1)))
theorem ZeL{a b:Str}(h:LeS a b):ZK (cds a) (cds b)<0∨a=b:=by
 by_cases e:ZK (cds a) (cds b)<0
 ·exact .inl e
 ·refine .inr (h.anti fun z=>e ((Zb3 _ _).mp z))
theorem Zjw{ss:List Str}(h:sortedS ss=true){i j:Nat}(hij:i≤j){x y:Str}(hx:ss[i]? = some x)(hy:ss[j]? = some y):LeS x y:=by
 rcases Nat.lt_or_eq_of_le hij with hlt|rfl
 ·have p:=(Zew _).mp h
  obtain⟨h1,e1⟩:=Qc.mp hx
  obtain⟨h2,e2⟩:=Qc.mp hy
  rw[← e1,← e2]
  exact Q8.mp p i j h1 h2 hlt
 ·rw[Qq (hx.symm.trans hy)];exact LeS.refl _
theorem Zh5{a b c:Str}(h:ZK (cds a) (cds b)<0)(g:LeS b c):ZK (cds a) (cds c)<0:=by
 rcases ZeL g with g|rfl
 ·have h1:=ZbS _ _ _ (Int.le_of_lt h) (Int.le_of_lt g)
  by_cases e:ZK (cds a) (cds c)=0
  ·have e2:=Zc1 _ _ e
   rw[← e2]at g
   have:=ZaP (cds a) (cds b)
   lia
  ·lia
 ·exact h
theorem TkW.lt{P P':List ZN}{ts:List ZaF}(h:TkW P ts P')(nd:(ZaU P).Nodup)(srt:ZiR P):ts.Pairwise LtT∧∀u∈ts,∀x∈P',∀ (k:Nat) (y:Str),x.2.2≤k→x.2.1[k]? = some y→LtT u (x.1,k,y):=by
 induction h with
 | nil=>exact⟨List.Pairwise.nil,fun u hu=>by cases hu⟩
 | snoc h s ih =>
  rename_i ts P1 x z
  obtain⟨i1,i2⟩:=ih
  have nd1:(ZaU P1).Nodup:=by rw[h.num];exact nd
  have srt1:=(h.srt nd srt).1
  obtain⟨hx,hz,W⟩:=s
  obtain⟨_,zc,hzc,hall⟩:=W
  rw[ZfO nd1 hx,hz]at hzc
  have hzc':cds z=zc:=Qq hzc
  subst hzc'
  refine⟨QaN.mpr ⟨i1,Qah _ _,fun u hu v hv=>?_⟩,fun u hu w hw k y hk hy=>?_⟩
  ·rw[Qe.mp hv]
   exact i2 u hu x hx x.2.2 z (Qi _) hz
  ·obtain⟨w0,hw0,rfl⟩:=Qx.mp hw
   have e1:(Zat x.1 w0).1=w0.1:=by unfold Zat;split<;>rfl
   have e2:(Zat x.1 w0).2.1=w0.2.1:=by unfold Zat;split<;>rfl
   have e3:w0.2.2≤(Zat x.1 w0).2.2:=by unfold Zat;split<;>simp
   rw[e2]at hy
   rw[e1]
   rcases Qh.mp hu with hu|hu
   ·exact i2 u hu w0 hw0 k y (QP e3 hk) hy
   ·rw[Qe.mp hu]
    by_cases hn:w0.1=x.1
    ·have:=Zc4 nd1 hw0 hx hn
     subst this
     have hk':w0.2.2+1≤k:=by
      have:(Zat w0.1 w0).2.2=w0.2.2+1:=by unfold Zat;rw[if_pos rfl]
      lia
     rcases ZeL (Zjw (srt1 w0 hw0) (by lia) hz hy) with g|g
     ·exact .inl g
     ·exact .inr ⟨g,.inr ⟨rfl,hk'⟩⟩
    ·have hk':w0.2.2≤k:=QP e3 hk
     obtain⟨hkl,_⟩:=Qc.mp hy
     obtain⟨hd,hhd⟩:∃hd,w0.2.1[w0.2.2]? = some hd:=⟨_,Qb (by lia)⟩
     have hle:=Zjw (srt1 w0 hw0) hk' hhd hy
     have hd':=ZfO nd1 hw0
     rw[hhd]at hd'
     rcases hall w0.1 (Qn (f:=fun x:ZN=>x.1) hw0) _ hd' with e|b
     ·exact absurd e hn
     ·rcases b with b|⟨b,bl⟩
      ·exact .inl (Zh5 b hle)
      ·have ez:z=hd:=Zqm (Zc1 _ _ b)
       rw[ez]
       rcases ZeL hle with g|g
       ·exact .inl g
       ·exact .inr ⟨g,.inl bl⟩
theorem TkW.cnt{R:List (List Str)}{ts:List ZaF}{P:List ZN}(h:TkW (ZdH R) ts P):∀x∈P,(ts.filter fun u=>decide (u.1=x.1)).map (·.2.1)=List.range x.2.2:=by
 induction h with
 | nil =>
  intro x hx
  obtain⟨_,_,_,e⟩:=ZdN hx
  rw[e];rfl
 | snoc h s ih =>
  rename_i ts P1 x z
  intro w hw
  have nd1:(ZaU P1).Nodup:=by rw[h.num];exact Zc9 _
  obtain⟨w0,hw0,rfl⟩:=Qx.mp hw
  have e1:(Zat x.1 w0).1=w0.1:=by unfold Zat;split<;>rfl
  rw[e1,List.filter_append,Qf,ih w0 hw0]
  by_cases hn:w0.1=x.1
  ·have:=Zc4 nd1 hw0 s.1 hn
   subst this
   have e2:(Zat w0.1 w0).2.2=w0.2.2+1:=by unfold Zat;rw[if_pos rfl]
   rw[e2,Qav]
   simp
  ·have e2:(Zat x.1 w0).2.2=w0.2.2:=by unfold Zat;rw[if_neg hn]
   rw[e2]
   have:¬ x.1=w0.1:=fun z=>hn z.symm
   simp[this]
theorem Put.sub{ss:List Str}{R:List (List Int)}{out:List Int}(h:Put ss R out):∀d∈R,d.Sublist out:=fun d hd=>by
 obtain⟨ts,P,h1,h2,rfl⟩:=h
 obtain⟨i,hi⟩:=QaO hd
 have hl:=h1.left (Zc9 _)
 rw[ZhA,ZfZ]at hl
 have h0:Zbd P=0:=by lia
 have hnum:=h1.num
 obtain⟨x,hx,ex⟩:∃x∈P,x.1=(i:Int):=by
  have:(i:Int)∈ZaU P:=by
   rw[hnum,Zii,Qa]
   unfold Zaj
   exact Qx.mpr ⟨i,Q1.mpr (Qc.mp hi).1,by lia⟩
  obtain⟨x,hx,e⟩:=Qx.mp this
  exact⟨x,hx,e⟩
 obtain⟨y,hy,e1,e2⟩:=h1.row x hx
 obtain⟨j,hj,hR,_⟩:=ZdN hy
 have hij:j=i:=by lia
 subst hij
 rw[Qk,hi]at hR
 have hxk:x.2.1=ZbI ss d:=by rw[← e2];exact(Qq hR).symm
 have hxl:x.2.1.length=d.length:=by rw[hxk];unfold ZbI;rw[Qa]
 have hge:d.length≤x.2.2:=by
  have:=List.flatMap_eq_nil_iff.mp (ZjZ h0) x hx
  have:=List.drop_eq_nil_iff.mp this
  lia
 have hc:=h1.cnt x hx
 have hle:x.2.2≤d.length:=by
  by_cases hz:x.2.2=0
  ·lia
  ·have hm:x.2.2-1∈List.range x.2.2:=Q1.mpr (by lia)
   rw[← hc]at hm
   obtain⟨u,hu,eu⟩:=Qx.mp hm
   obtain⟨hu1,hu2⟩:=List.mem_filter.mp hu
   obtain⟨d',hd',_,hg,_⟩:=Zda h1 hu1
   have eu1:u.1=x.1:=of_decide_eq_true hu2
   have:u.1.toNat=j:=by rw[eu1,ex];rfl
   rw[this,hi]at hd'
   have:d=d':=Qq hd'
   subst this
   have:=(Qc.mp hg).1
   lia
 have he:x.2.2=d.length:=by lia
 have hsub:((ts.filter fun u=>decide (u.1=x.1)).map (Zau R)).Sublist (ts.map (Zau R)):=List.Sublist.map _ List.filter_sublist
 have heq:(ts.filter fun u=>decide (u.1=x.1)).map (Zau R)=d:=by
  have e3:(ts.filter fun u=>decide (u.1=x.1)).map (Zau R)=((ts.filter fun u=>decide (u.1=x.1)).map (·.2.1)).map fun g=>d.getD g 0:=by
   rw[QE]
   refine QN fun u hu=>?_
   have eu1:u.1=x.1:=of_decide_eq_true (List.mem_filter.mp hu).2
   unfold Zau
   have:u.1.toNat=j:=by rw[eu1,ex];rfl
   rw[this]
   show ((R.getD j []).getD u.2.1 0)=d.getD u.2.1 0
   rw[Qm (l:=R),hi];rfl
  rw[e3,hc,he]
  refine Qaj fun k=>?_
  rw[Qk]
  by_cases hk:k<d.length
  ·rw[Qan hk,Qb hk]
   simp[List.getD_eq_getElem?_getD,List.getElem?_eq_getElem hk]
  ·rw[QG (by rw[Qax];lia),QG (by lia)]
   rfl
 rw[heq]at hsub
 exact hsub
def ZgH(R:List (List Int))(P:List ZN):List Int:=P.flatMap fun x=>(R.getD x.1.toNat []).drop x.2.2
theorem Zhl(R:List (List Int)):∀ (P:List ZN),(ZaU P).Nodup→∀ {x:ZN} {n:Int},x∈P→(R.getD x.1.toNat [])[x.2.2]? = some n→(n::ZgH R (ZbF P x.1)).Perm (ZgH R P)
 | [],_,_,_,h,_=>by cases h
 | y::P,nd,x,n,h,hn=>by
  unfold ZaU at nd
  rw[Ql,Q3]at nd
  unfold ZgH ZbF
  rw[Ql,Qa2,Qa2]
  rcases QO.mp h with rfl|h
  ·have e:P.map (Zat x.1)=P:=by
    conv=>rhs;rw[← List.map_id P]
    refine QN fun u hu=>?_
    unfold Zat
    rw[if_neg (fun z:u.1=x.1=>nd.1 (z ▸ Qn (f:=fun x:ZN=>x.1) hu))]
    rfl
   obtain⟨hlt,en⟩:=Qc.mp hn
   rw[e,List.drop_eq_getElem_cons hlt,en]
   unfold Zat
   rw[if_pos rfl]
   exact QaB _
  ·have ih:=Zhl R P nd.2 h hn
   unfold ZgH ZbF at ih
   have e:Zat x.1 y=y:=if_neg (fun z:y.1=x.1=>nd.1 (z ▸ Qn (f:=fun x:ZN=>x.1) h))
   rw[e]
   exact List.perm_middle.symm.trans (ih.append_left _)
theorem Put.perm{ss:List Str}{R:List (List Int)}{out:List Int}(h:Put ss R out):out.Perm R.flatten:=by
 obtain⟨ts,P,h1,h2,rfl⟩:=h
 have key:∀ {ts:List ZaF} {P:List ZN},TkW (ZdH (R.map (ZbI ss))) ts P→(ts.map (Zau R)++ZgH R P).Perm (ZgH R (ZdH (R.map (ZbI ss)))):=by
  intro ts P h
  induction h with
  | nil=>exact QaB _
  | snoc h s ih =>
   rename_i ts P1 x z
   have nd1:(ZaU P1).Nodup:=by rw[h.num];exact Zc9 _
   have hp:=Zda (TkW.snoc h s) (u:=(x.1,x.2.2,z)) (Qo _ (Qe.mpr rfl))
   obtain⟨d,hd,_,hg,_⟩:=hp
   have hR:(R.getD x.1.toNat [])[x.2.2]? = some (Zau R (x.1,x.2.2,z)):=by
    have:R.getD x.1.toNat []=d:=by rw[Qm];show (R[x.1.toNat]?).getD []=d;rw[hd];rfl
    rw[this];exact hg
   rw[Qf,Qai]
   exact((Zhl R P1 nd1 s.1 hR).append_left _).trans ih
 have hl:=h1.left (Zc9 _)
 rw[ZhA,ZfZ]at hl
 have h0:Zbd P=0:=by lia
 have hr0:ZgH R P=[]:=by
  unfold ZgH
  refine List.flatMap_eq_nil_iff.mpr fun x hx=>?_
  have h3:=List.drop_eq_nil_iff.mp (List.flatMap_eq_nil_iff.mp (ZjZ h0) x hx)
  obtain⟨y,hy,e1,e2⟩:=h1.row x hx
  obtain⟨j,hj,hR,_⟩:=ZdN hy
  rw[Qk]at hR
  cases hd:R[j]? with
  | none=>rw[hd]at hR;cases hR
  | some d =>
   rw[hd]at hR
   have e4:ZbI ss d=x.2.1:=by rw[← e2];exact Qq hR
   have e5:x.1.toNat=j:=by rw[← e1,hj];rfl
   refine List.drop_eq_nil_iff.mpr ?_
   rw[e5,Qm,hd]
   show d.length≤_
   rw[← e4]at h3
   unfold ZbI at h3
   rwa [Qa]at h3
 have hk:=key h1
 rw[hr0,QR]at hk
 refine hk.trans ?_
 have e:ZgH R (ZdH (R.map (ZbI ss)))=R.flatten:=by
  unfold ZgH
  rw[List.flatMap_def]
  congr 1
  refine Qaj fun i=>?_
  rw[Qk,Zi5,Qk]
  cases hR:R[i]? with
  | none=>rfl
  | some d =>
   show some (((R.getD ((i:Int).toNat) []).drop 0))=some d
   rw[Qaf,Qm,hR];rfl
 rw[e]
theorem Put.ris{ss:List Str}{R:List (List Int)}{out:List Int}(h:Put ss R out)(hr:∀d∈R,d.Pairwise fun x y=>ZU (kk (ks ss x)) (kk (ks ss y))=true)(ha:R.Pairwise fun d e=>∀b∈d,∀a∈e,ss.getD a.toNat "" = ss.getD b.toNat ""→b<a):out.Pairwise fun x y=>ZU (kk (ks ss x)) (kk (ks ss y))=true:=by
 obtain⟨ts,P,h1,h2,rfl⟩:=h
 have hs:∀d∈R.map (ZbI ss),sortedS d=true:=fun d hd=>by
  obtain⟨x,hx,rfl⟩:=Qx.mp hd
  exact ZnT (hr x hx)
 have hlt:=(h1.lt (Zc9 _) (Ziv hs)).1
 refine List.pairwise_map.mpr ((List.pairwise_iff_forall_sublist.mpr fun {u v} huv=>?_))
 have hu:u∈ts:=huv.subset (by simp)
 have hv:v∈ts:=huv.subset (by simp)
 have huv':LtT u v:=List.pairwise_iff_forall_sublist.mp hlt huv
 obtain⟨d,hd,u0,ud,uk⟩:=Zda h1 hu
 obtain⟨e,he,v0,ve,vk⟩:=Zda h1 hv
 rcases huv' with g|⟨g1,g2⟩
 ·unfold kk
  rw[Zag,if_neg (show ¬ (Sum.inr (ks ss (Zau R u)).1:Key)=Sum.inr (ks ss (Zau R v)).1 from fun z=>by
   have z':ss.getD (Zau R u).toNat "" = ss.getD (Zau R v).toNat "":=Sum.inr.inj z
   rw[uk,vk]at z'
   rw[z',ZcS]at g
   lia)]
  refine decide_eq_true ?_
  show cds (ss.getD (Zau R u).toNat "")<cds (ss.getD (Zau R v).toNat "")
  rw[uk,vk]
  exact(Zb3 _ _).mpr g
 ·have ek:ss.getD (Zau R u).toNat "" = ss.getD (Zau R v).toNat "":=by rw[uk,vk,g1]
  have hnum:Zau R u<Zau R v:=by
   rcases g2 with g2|⟨g2,g3⟩
   ·have hij:u.1.toNat<v.1.toNat:=by lia
    obtain⟨l1,m1⟩:=Qc.mp hd
    obtain⟨l2,m2⟩:=Qc.mp he
    have:=Q8.mp ha _ _ l1 l2 hij
    rw[m1,m2]at this
    exact this _ (Qr ud) _ (Qr ve) ek.symm
   ·have e1:u.1.toNat=v.1.toNat:=by rw[g2]
    rw[e1,he]at hd
    have:e=d:=Qq hd
    subst this
    obtain⟨l1,m1⟩:=Qc.mp ud
    obtain⟨l2,m2⟩:=Qc.mp ve
    have hx:=Q8.mp (hr e (Qr he)) _ _ l1 l2 g3
    rw[m1,m2]at hx
    unfold kk at hx
    rw[Zag,if_pos (show (Sum.inr (ks ss (Zau R u)).1:Key)=Sum.inr (ks ss (Zau R v)).1 from congrArg Sum.inr ek),Zag]at hx
    split at hx
    ·cases hx
    ·exact of_decide_eq_true hx
  unfold kk
  rw[Zag,if_pos (show (Sum.inr (ks ss (Zau R u)).1:Key)=Sum.inr (ks ss (Zau R v)).1 from congrArg Sum.inr ek),Zag,if_neg (show ¬ (Sum.inl (ks ss (Zau R u)).2:Key)=Sum.inl (ks ss (Zau R v)).2 from fun z=>by
   have z':Zau R u=Zau R v:=Sum.inl.inj z
   lia)]
  exact decide_eq_true hnum
abbrev ZeG(ss:List Str)(d:List Int):Prop:=d.Pairwise fun x y=>ZU (kk (ks ss x)) (kk (ks ss y))=true
abbrev ApP(ss:List Str)(d e:List Int):Prop:=∀b∈d,∀a∈e,ss.getD a.toNat "" = ss.getD b.toNat ""→b<a
def lvR(R:List (List Int))(lv:List Int):List (List Int):=lv.map fun i=>R.getD i.toNat []
theorem Zfw(R:List (List Int))(a b:List Int):lvR R (a++b)=lvR R a++lvR R b:=by unfold lvR;rw[Qf]
mutual
theorem Zc6.srt{ss:List Str}{R:List (List Int)}(hr:∀d∈R,ZeG ss d):∀ {t:PT} {o:List Int},Zc6 ss R t o→(lvR R (tLv t)).Pairwise (ApP ss)→ZeG ss o∧o.Perm (lvR R (tLv t)).flatten
 | .leaf i,_,.leaf,_=>by
  refine⟨?_,?_⟩
  ·rw[Qm]
   cases hx:R[i.toNat]? with
   | none=>exact List.Pairwise.nil
   | some d=>exact hr d (Qr hx)
  ·show (R.getD i.toNat []).Perm ([R.getD i.toNat []].flatten)
   rw[List.flatten_cons,List.flatten_nil,QR]
 | .node l,o,.node h p,ha=>by
  obtain⟨a,b,c⟩:=Zaz.srt hr h ha
  exact⟨p.ris a b,p.perm.trans c⟩
theorem Zaz.srt{ss:List Str}{R:List (List Int)}(hr:∀d∈R,ZeG ss d):∀ {l:List PT} {os:List (List Int)},Zaz ss R l os→(lvR R (ZaY l)).Pairwise (ApP ss)→(∀o∈os,ZeG ss o)∧os.Pairwise (ApP ss)∧os.flatten.Perm (lvR R (ZaY l)).flatten
 | [],_,.nil,_=>⟨fun o h=>(by cases h),List.Pairwise.nil,QaB _⟩
 | t::l,_,.cons (o:=o) (os:=os) h hs,ha=>by
  have ha':(lvR R (tLv t)++lvR R (ZaY l)).Pairwise (ApP ss):=by rw[← Zfw];exact ha
  obtain⟨a1,a2,a3⟩:=List.pairwise_append.mp ha'
  obtain⟨p1,p2⟩:=Zc6.srt hr h a1
  obtain⟨q1,q2,q3⟩:=Zaz.srt hr hs a2
  refine⟨fun x hx=>?_,List.pairwise_cons.mpr ⟨fun e he b hb x hx=>?_,q2⟩,?_⟩
  ·rcases QO.mp hx with rfl|hx
   ·exact p1
   ·exact q1 x hx
  ·obtain⟨d1,hd1,hb1⟩:=List.mem_flatten.mp (p2.mem_iff.mp hb)
   obtain⟨d2,hd2,hx2⟩:=List.mem_flatten.mp (q3.mem_iff.mp (List.mem_flatten.mpr ⟨e,he,hx⟩))
   exact a3 d1 hd1 d2 hd2 b hb1 x hx2
  ·show (o++os.flatten).Perm (lvR R (tLv t++ZaY l)).flatten
   rw[Zfw,List.flatten_append]
   exact p2.append q3
end
mutual
theorem Zc6.any{ss:List Str}{R:List (List Int)}:∀ {t:PT} {o:List Int},Zc6 ss R t o→o.Perm (lvR R (tLv t)).flatten∧∀d∈lvR R (tLv t),d.Sublist o
 | .leaf i,_,.leaf=>by
  refine⟨?_,fun d hd=>?_⟩
  ·show (R.getD i.toNat []).Perm ([R.getD i.toNat []].flatten)
   rw[List.flatten_cons,List.flatten_nil,QR]
  ·have:d=R.getD i.toNat []:=Qe.mp hd
   rw[this];exact List.Sublist.refl _
 | .node l,o,.node h p=>by
  obtain⟨a,b⟩:=Zaz.any h
  refine⟨p.perm.trans a,fun d hd=>?_⟩
  obtain⟨x,hx,hs⟩:=b d hd
  exact hs.trans (p.sub x hx)
theorem Zaz.any{ss:List Str}{R:List (List Int)}:∀ {l:List PT} {os:List (List Int)},Zaz ss R l os→os.flatten.Perm (lvR R (ZaY l)).flatten∧∀d∈lvR R (ZaY l),∃o∈os,d.Sublist o
 | [],_,.nil=>⟨QaB _,fun d h=>by cases h⟩
 | t::l,_,.cons (o:=o) (os:=os) h hs=>by
  obtain⟨p1,p2⟩:=Zc6.any h
  obtain⟨q1,q2⟩:=Zaz.any hs
  refine⟨?_,fun d hd=>?_⟩
  ·show (o++os.flatten).Perm (lvR R (tLv t++ZaY l)).flatten
   rw[Zfw,List.flatten_append]
   exact p1.append q1
  ·have hd':d∈lvR R (tLv t)++lvR R (ZaY l):=by rw[← Zfw];exact hd
   rcases Qh.mp hd' with hd'|hd'
   ·exact⟨o,QZ ..,p2 d hd'⟩
   ·obtain⟨x,hx,hs'⟩:=q2 d hd'
    exact⟨x,Qy _ hx,hs'⟩
end
theorem ZhM(R:List (List Int)):lvR R (Zaj 0 R.length)=R:=by
 unfold lvR
 refine Qaj fun i=>?_
 unfold Zaj
 rw[Qk,Qk]
 by_cases h:i<R.length
 ·rw[Qan h,Qb h]
  simp[List.getD_eq_getElem?_getD,List.getElem?_eq_getElem h]
 ·rw[QG (by rw[Qax];lia),QG (by lia)]
  rfl
theorem Zky{ss:List Str}{a b:List Int}(ha:ZeG ss a)(hb:ZeG ss b)(p:a.Perm b):a=b:=List.Perm.eq_of_pairwise (fun x y _ _ h1 h2=>by
 have:ZU (kk (ks ss x)) (kk (ks ss x))=true:=ZbM _ _ _ h1 h2
 have h0:=ZbA (kk (ks ss x))
 rw[h0]at this;cases this) ha hb p
theorem ZqT{ss:List Str}{a:List Int}(ha:ZeG ss a):a.Nodup:=ha.imp fun {x y} h e=>by
 rw[e]at h
 have h0:=ZbA (kk (ks ss y))
 rw[h0]at h;cases h
structure Zos (ss:List Str) (R:List (List Int)):Prop where
 rg:∀d∈R,Zh3 ss d
 lex:∀d∈R,ZeG ss d
 ap:R.Pairwise (ApP ss)
 pm:R.flatten.Perm (Zaj 0 ss.length)
theorem ZeB:∀R:List (List Int),R.flatten.length=(R.map List.length).sum
 | []=>rfl
 | d::R=>by rw[List.flatten_cons,Qg,Ql,QV,ZeB R]
theorem Znb(n:Nat):(Zaj 0 n).Nodup:=(ZfX n).imp fun h=>by lia
theorem Zh1{ss:List Str}{room:Nat}(hr:1≤room){R:List (List Int)}(h:Res ss (first (min room ss.length)) [] (min room ss.length) [] [] R):Zos ss R:=by
 have hg:=Ze0 (Qar _ _) h
 have hs:=Zet (Qar _ _) h
 have ha:=Zm3 hr h
 have pm:R.flatten.Perm (Zaj 0 ss.length):=(ZdC (Znb _) (fun x hx=>by
  unfold Zaj at hx
  obtain⟨m,hm,rfl⟩:=Qx.mp hx
  have:=Q1.mp hm
  obtain⟨d,hd,hmd⟩:=ha (0+(m:Int)) (by lia) (by lia)
  exact List.mem_flatten.mpr ⟨d,hd,hmd⟩) (by rw[ZeB,ZaQ];exact hs)).symm
 have nd:R.flatten.Nodup:=pm.nodup_iff.mpr (Znb _)
 have dj:=(List.pairwise_flatten.mp nd).2
 refine⟨fun d hd=>⟨(hg d hd).2.2,ZnT (hg d hd).2.1.pw⟩,fun d hd=>(hg d hd).2.1.pw,?_,pm⟩
 refine((ZlP h).and dj).imp fun hh b hb a ha' hk=>?_
 obtain⟨h1,h2⟩:=hh
 have hne:b≠a:=h2 b hb a ha'
 by_cases hlt:a<b
 ·exact absurd hk (h1 b hb a ha' hlt)
 ·lia
mutual
theorem Zn5{n:Nat}:∀t:PT,(∀k∈tLv t,0≤k∧k<(n:Nat))→tOk n t
 | .leaf k,h=>h k (Qe.mpr rfl)
 | .node l,h=>Zj2 l h
theorem Zj2{n:Nat}:∀l:List PT,(∀k∈ZaY l,0≤k∧k<(n:Nat))→Zli n l
 | [],_=>trivial
 | t::r,h=>⟨Zn5 t fun k hk=>h k (Qp _ hk),Zj2 r fun k hk=>h k (Qo _ hk)⟩
end
mutual
theorem Zm8{w:Nat}(hw:w≤60):∀t:PT,tPl w t→tPl 60 t
 | .leaf _,_=>trivial
 | .node l,h=>⟨h.1,QP h.2.1 hw,Zj0 hw l h.2.2⟩
theorem Zj0{w:Nat}(hw:w≤60):∀l:List PT,Zdn w l→Zdn 60 l
 | [],_=>trivial
 | t::r,h=>⟨Zm8 hw t h.1,Zj0 hw r h.2⟩
end
mutual
theorem Znx{w:Nat}:∀t:PT,tPl w t→tDp t+1≤(tLv t).length
 | .leaf _,_=>Qi _
 | .node l,h=>by
  have h2:2≤l.length:=h.1
  have:=ZkU l h.2.2 (by lia)
  show ZeX l+1+1≤(ZaY l).length
  lia
theorem ZkU{w:Nat}:∀l:List PT,Zdn w l→1≤l.length→ZeX l+l.length≤(ZaY l).length
 | [],_,h=>absurd h (by decide)
 | t::r,h,_=>by
  have h1:=Znx t h.1
  have h2:=Zc0 w r h.2
  show max (tDp t) (ZeX r)+(r.length+1)≤(tLv t++ZaY r).length
  rw[Qg]
  by_cases hr:r=[]
  ·subst hr
   have:ZeX []=0:=rfl
   simp only[List.length_nil]
   lia
  ·have h3:=ZkU r h.2 (Qao.mpr hr)
   lia
end
theorem Zkm(n:Nat):Zct 0 n=Zaj 0 n:=by
 unfold Zct Zaj
 rw[Nat.sub_zero]
 refine QN fun i _=>by lia
theorem Zmk{ss:List Str}{R:List (List Int)}(h:Zos ss R){ns:List Int}{wy:Nat}{p:Int}{t:PT}(hn:ns.length=R.length)(hw:wy≤6)(g:Gr ns wy 0 ns.length 1 p [t]) :
  tOk R.length t∧tPl 60 t∧wtR R (tLv t)=ss.length∧tDp t+1≤R.length∧tCo ns t=p∧∀out,Zc6 ss R t out→ZeG ss out∧out.Perm (Zaj 0 ss.length):=by
 obtain⟨n1,n2⟩:=g.nf
 have lv:tLv t=Zaj 0 R.length:=by
  have:tLv t++[]=Zct 0 ns.length:=n1
  rw[QR,Zkm,hn]at this
  exact this
 have pl:tPl wy t:=n2.1
 have dp:=Znx t pl
 rw[lv,ZaQ]at dp
 refine⟨Zn5 t fun k hk=>?_,Zm8 (by lia) t pl,?_,dp,?_,fun out ho=>?_⟩
 ·rw[lv]at hk
  unfold Zaj at hk
  obtain⟨m,hm,rfl⟩:=Qx.mp hk
  have:=Q1.mp hm
  lia
 ·rw[lv]
  have e:wtR R (Zaj 0 R.length)=((lvR R (Zaj 0 R.length)).map List.length).sum:=by unfold wtR lvR;rw[QE];rfl
  rw[e,ZhM,← ZeB,h.pm.length_eq,ZaQ]
 ·have:tCo ns t+0=p:=g.co
  lia
 ·have:=Zc6.srt h.lex ho (by rw[lv,ZhM];exact h.ap)
  rw[lv,ZhM]at this
  exact⟨this.1,this.2.trans h.pm⟩
def Za0(R:List (List Int)):List Int:=R.map fun d=>(d.length:Int)
def Zgk(ss:List Str)(R:List (List Int))(wy:Nat)(p:Int):Prop:=(R=[]∧p=0)∨(R≠[]∧∃t,Gr (Za0 R) wy 0 (Za0 R).length 1 p [t])
theorem Zgk.one{ss:List Str}{R:List (List Int)}{wy:Nat}{p q:Int}(h:Zgk ss R wy p)(g:Zgk ss R wy q):p=q:=by
 rcases h with⟨h1,h2⟩|⟨h1,t,h2⟩
 ·rcases g with⟨_,g2⟩|⟨g1,_⟩
  ·rw[h2,g2]
  ·exact absurd h1 g1
 ·rcases g with⟨g1,_⟩|⟨_,u,g2⟩
  ·exact absurd g1 h1
  ·exact Zdx h2 g2
def ZqG(K:PySem.W.Frag):Sp:=fun vs H Q _=>∃ (a:Addr) (ss:List Str) (room wy:Nat),vs=[.ref a,.int room,.int wy]∧H a=some (.lst (ss.map V.str))∧ss.length≤60∧(∀s∈ss,s.length≤1000∧AZ s)∧1≤room∧room≤100∧2≤wy∧wy≤6 ∧
 ∀ (t b:Addr) (out:List Int) (p:Int) (R:List (List Int)) (H':Hp),H' t=some (.tup [.ref b,.int p])→H b=none→H' b=some (.lst (out.map V.int))→ZeG ss out→out.Perm (Zaj 0 ss.length)→Res ss (first (min room ss.length)) [] (min room ss.length) [] [] R→Zgk ss R wy p→ZA H H'→Q (.ref t) H'
theorem Zok(T:Zao K mg cRow cMerge)(f_runs_of:Df P w K mg base 5 "runs_of" ["things", "room"] (ZjN K))(f_near_plan:Df P w K mg base 4 "near_plan" ["sizes", "ways"] (Zmj K))(f_merged_by:Df P w K mg base (61+17) "merged_by" ["things", "runs", "tree"] (ZrF 61)):Df P w K mg base 79 "sort_by" ["things", "room", "ways"] (ZqG K):=by
 refine T.t_sort_by.df Zdg (fun vs H Q E h=>?_) (fun cdv f A outer s H vs Q E hr h=>?_)
 ·obtain⟨a,ss,room,wy,rfl,_⟩:=h
  rfl
 obtain⟨a,ss,room,wy,rfl,ha,h60,hk,r1,r2,w2,w6,q⟩:=h
 refine⟨_,#[Zf,#[Zu,3,Zdg.nd,(Or.inl rfl),#[ZD,f_runs_of,hr,#[Za,‹0›,#[Za,‹1›,#[Zd]]],(by rfl)]],#[Zf,#[Z9,#[Zn,Za7,#[Zk,(ZbC K),(by rfl),T.b.n_len,Qw,#[Za,‹3›,#[Zd]]],#[Zi],(Zs _)],#[Zj,#[Zp,#[ZH,#[Za,#[Zai,#[Zd]],#[Za,#[Zi],#[Zd]]]]]],#[ZF]],#[Zf,#[ZaS,#[ZD,f_near_plan,hr,#[Za,#[Za8,ZkG,#[iL,K,‹3›],(fun _ _ _ _=>#[cg,6,ZkG]),(fun _ _ _ _=>(@ZaC _)),(fun _ _ _ _=>#[Zk,(ZbC K),(ZbQ ZkG rfl (by ac_rfl)),T.b.n_len,Qw,#[Za,#[cw,6,ZkG],#[Zd]]])],#[Za,‹2›,#[Zd]]],(by rfl)],#[gT,K,2,#[Zw,#[ZB,4,Zdg.nd],#[Zw,#[ZB,5,Zdg.nd],(@ZaD _)]]]],#[Zj,#[Zp,#[ZH,#[Za,#[ZD,f_merged_by,hr,#[Za,‹0›,#[Za,‹3›,#[Za,‹5›,#[Zd]]]],(by rfl)],#[Za,‹4›,#[Zd]]]]]]]]],?_⟩
 refine⟨_,rfl,_,rfl,a,ss,room,rfl,SqL.of ha,h60,fun s hs=>(hk s hs).1,r2,fun r ls R H1 hr0 hr1 hrl hls hrd hres _ _ s1=>?_⟩
 have nr:=Zh1 r1 hres
 have hln:(ls.map V.ref).length=R.length:=by rw[Qa];exact hrd.len
 have hRl:R.length≤60:=by
  have h1:=ZhF R fun d hd=>(Ze0 (Qar _ _) hres d hd).1
  have h2:=Zet (Qar _ _) hres
  lia
 refine⟨_,rfl,r,_,rfl,.inl (SqL.of hr1),?_⟩
 refine⟨rfl,_,rfl,Za3 (fun d=>?_) (fun d=>?_)⟩
 ·have h0:R=[]:=by
   have:=V.int.inj (of_decide_eq_true d)
   exact QT (by lia)
  subst h0
  have hs0:ss.length=0:=by
   have:=nr.pm.length_eq
   rw[ZaQ]at this
   exact this.symm
  refine⟨(by show 0≤sizeLine;decide),fun b hb=>⟨(by show 2≤sizeLine;decide),fun t ht=>?_⟩⟩
  have s2:=Zg hb (.lst [])
  have s3:=Zg ht (.tup [.ref b,.int 0])
  refine q t b [] 0 [] _ Zb (s1.free hb) (s3 _ _ Zb) List.Pairwise.nil ?_ hres (.inl ⟨rfl,rfl⟩) (s1.trans (s2.trans s3))
  rw[hs0];exact QaB _
 ·have hR1:R≠[]:=fun z=>d (decide_eq_true (by rw[hln,z];rfl))
  have hRp:=Qao.mpr hR1
  refine⟨_,rfl,r,rfl,⟨_,SqL.of hr1⟩,fun D hD=>?_⟩
  refine Zbh (K:=K) (a:=r) (xs:=ls.map V.ref) (fun i zs σ H2=>(∃v:Option V,σ=[some (.ref a),some (.int room),some (.int wy),some (.ref r),none,none,v])∧zs=(Za0 (R.take i)).map V.int∧i≤ls.length∧H2 D=some (.lst zs)∧ZA H1 H2) ?_ (fun _ _ _ _ h=>SqL.of (h.2.2.2.2 _ _ hr1)) ?_ ?_
  ·exact⟨⟨none,rfl⟩,rfl,Qv _,Zb,Zg hD _⟩
  ·rintro i y zs σ H2 hy ⟨⟨v,rfl⟩,rfl,hi,hD2,s2⟩
   rw[Qk]at hy
   cases hb:ls[i]? with
   | none=>rw[hb]at hy;cases hy
   | some b =>
   rw[hb]at hy
   cases hy
   have hil:i<ls.length:=(Qc.mp hb).1
   obtain⟨d',hd',hbd⟩:=hrd.at hb
   refine⟨_,rfl,b,_,rfl,.inl (SqL.of (s2 _ _ hbd)),hD2,(by unfold Za0;rw[Qa,Qa,QC,sizeLine_eq];lia),⟨_,rfl⟩,?_,hil,Zb,fun x o hx=>?_⟩
   ·unfold Za0
    rw[QM,hd',Qf,Qf,Qa];rfl
   ·rw[Ze (Zc hx hD)];exact s2 x o hx
  rintro zs σ H2 ⟨⟨v,rfl⟩,rfl,_,hD2,s2⟩
  rw[show (ls.map V.ref).length=R.length from hln,QB (Qi _)]at hD2
  have hll:(Za0 R).length=R.length:=by unfold Za0;rw[Qa]
  refine⟨_,rfl,D,Za0 R,wy,rfl,SqL.of hD2,by lia,by lia,fun v hv=>?_,w2,w6,fun t0 x p t H3 ht00 ht0 hTV hG s3=>?_⟩
  ·unfold Za0 at hv
   obtain⟨d',hd',rfl⟩:=Qx.mp hv
   obtain⟨i,hi⟩:=QaO hd'
   have h1:=Zh8 hi
   have h2:=Zet (Qar _ _) hres
   lia
  obtain⟨g1,g2,g3,g4,g5,g6⟩:=Zmk nr hll w6 hG
  have s13:=s2.trans s3
  have s03:=s1.trans s13
  have I3:Zl2 H3 a r ss ls R:=⟨s03 _ _ ha,h60,hk,s13 _ _ hr1,Rd.mono (fun _ _ o ho=>s13 _ _ ho) hrd,nr.rg⟩
  refine⟨t0,_,rfl,SqT.of ht0,rfl,_,_,rfl,_,_,rfl,rfl,?_⟩
  refine⟨_,rfl,_,rfl,_,rfl,a,r,ss,ls,R,x,t,rfl,I3,hTV,g1,g2,by lia,by lia,fun b out H4 hb0 hb hp s4=>?_⟩
  obtain⟨k1,k2⟩:=g6 out hp
  refine⟨_,rfl,(by show 2≤sizeLine;decide),fun tt htt=>?_⟩
  have s5:=Zg htt (.tup [.ref b,.int p])
  exact q tt b out p R _ Zb (s03.free hb0) (s5 _ _ hb) k1 k2 hres (.inr ⟨hR1,t,hG⟩) (s03.trans (s4.trans s5))
theorem Zmx:∀ks:List Int,(Zaj 0 ks.length).map (fun k=>ks.getD k.toNat 0)=ks:=fun ks=>by
 refine Qaj fun i=>?_
 unfold Zaj
 rw[Qk,Qk]
 by_cases h:i<ks.length
 ·rw[Qan h,Qb h]
  simp[List.getD_eq_getElem?_getD,List.getElem?_eq_getElem h]
 ·rw[QG (by rw[Qax];lia),QG (by lia)]
  rfl
theorem ZkO:∀R:List (List Int),(R.map fun d=>(d.length:Int)).sum=(((R.map List.length).sum:Nat):Int)
 | []=>rfl
 | x::r=>by rw[Ql,Ql,QV,QV,ZkO r,Int.natCast_add]
theorem Zl8{ss:List Str}{R:List (List Int)}(h:Zos ss R):(Za0 R).sum=(ss.length:Int):=by
 unfold Za0
 rw[ZkO,← ZeB,h.pm.length_eq,ZaQ]
theorem Zke(R:List (List Int)):∀v∈Za0 R,0≤v:=fun v hv=>by
 obtain⟨d,_,rfl⟩:=Qx.mp hv
 lia
theorem Gr.lv{ns:List Int}{wy:Nat}{p:Int}{t:PT}(g:Gr ns wy 0 ns.length 1 p [t]):tLv t=Zaj 0 ns.length∧tPl wy t∧tCo ns t=p:=by
 obtain⟨n1,n2⟩:=g.nf
 have lv:tLv t++[]=Zct 0 ns.length:=n1
 rw[QR,Zkm]at lv
 have co:tCo ns t+0=p:=g.co
 exact⟨lv,n2.1,by lia⟩
theorem Zgk.few{ss:List Str}{R:List (List Int)}{wy:Nat}{p:Int}(nr:Zos ss R)(h:Zgk ss R wy p):(R.length<2→p=0)∧(2≤R.length→(ss.length:Int)≤p):=by
 rcases h with⟨h1,h2⟩|⟨h1,t,g⟩
 ·exact⟨fun _=>h2,fun z=>by rw[h1]at z;exact absurd z (by decide)⟩
 ·obtain⟨lv,pl,co⟩:=g.lv
  have hll:(Za0 R).length=R.length:=by unfold Za0;rw[Qa]
  rw[hll]at lv
  have hlen:(tLv t).length=R.length:=by rw[lv,ZaQ]
  cases t with
  | leaf k =>
   have h1':R.length=1:=hlen.symm
   have c0:(0:Int)=p:=co
   exact⟨fun _=>c0.symm,fun z=>absurd z (by lia)⟩
  | node l =>
   have h2:2≤l.length:=pl.1
   have h3:=Zc0 wy l pl.2.2
   have hlen':(ZaY l).length=R.length:=hlen
   refine⟨fun z=>absurd z (by lia),fun _=>?_⟩
   have hsz:ZeS (Za0 R) l=(ss.length:Int):=by
    have:=Zoc (Za0 R) (.node l)
    rw[lv,← hll,Zmx,Zl8 nr]at this
    exact this
   have hnn:=Zfp (Zke R) l
   have c1:ZbB (Za0 R) l+ZeS (Za0 R) l=p:=co
   lia
theorem Zou{ss:List Str}(hs:sortedS ss=true){A B:List Int}{c:Nat}{gone:List Int}{done R:List (List Int)}(h:Res ss A B c gone done R):(∀n∈A,0≤n∧n<(c:Int))→B=[]→done=[]→R.length≤1:=by
 induction h with
 | stop0=>intro _ _ hd;rw[hd];exact Qv _
 | stop=>intro _ _ hd;rw[hd];exact Qi _
 | switch _ _=>intro _ hB _;cases hB
 | stepN l _ _ ih=>intro hA hB hd;exact ih (fun n hn=>hA n (Qt hn)) hB hd
 | stepA l hc _ _ ih =>
  intro hA hB hd
  refine ih (fun n hn=>?_) hB hd
  rcases Qh.mp hn with hn|hn
  ·have:=hA n (Qt hn);lia
  ·rw[Qe.mp hn];lia
 | @stepB A B c gone done R n l hc hlt _ _ =>
  intro hA _ _
  exfalso
  obtain⟨n0,n1⟩:=hA n l.1
  have hn:n.toNat<ss.length:=by lia
  have:=Zjw hs (i:=n.toNat) (j:=c) (by lia) (Qb hn) (Qb hc)
  refine this ?_
  show cds ss[c]<cds ss[n.toNat]
  unfold ltK at hlt
  rw[Qaf,Qm,Qm,Qb hn,Qb hc]at hlt
  exact hlt
theorem Zka{ss:List Str}(hs:sortedS ss=true){k:Nat}{R:List (List Int)}(h:Res ss (first k) [] k [] [] R):R.length≤1:=Zou hs h (fun n hn=>Zch hn) rfl rfl
theorem Zn2{ss:List Str}{ns:List Int}(hl:ns.length=ss.length)(hm:∀n∈ns,0≤n∧n<ss.length)(h:Ris ss ns):ZeG ss ns∧ns.Perm (Zaj 0 ss.length):=by
 refine⟨h.pw,ZdC (ZqT h.pw) (fun x hx=>?_) (by rw[ZaQ];lia)⟩
 have:=hm x hx
 unfold Zaj
 exact Qx.mpr ⟨x.toNat,Q1.mpr (by lia),by lia⟩
theorem Zqy(xs:List V)(m:Nat):ZdI xs none (some (m:Int))=xs.take m:=by
 unfold ZdI
 have e:HT.sIx xs.length xs.length (some (m:Int))=min m xs.length:=by
  unfold HT.sIx
  simp only
  rw[if_neg (by lia)]
  lia
 have e0:HT.sIx xs.length 0 none=0:=rfl
 rw[e,e0,List.drop_zero,Nat.sub_zero]
 by_cases h:m≤xs.length
 ·rw[Nat.min_eq_left h]
 ·rw[Nat.min_eq_right (by lia),QB (Qi _),QB (by lia)]
structure Ge (ns:List Int) (w b e c:Nat) (p:Int) (ts:List PT):Prop where
 l:ts.length=c
 nf:Nf w b e ts
 co:ZbB ns ts=p
 le:∀us,us.length=c→Nf w b e us→p≤ZbB ns us
theorem Ge.gr{ns:List Int}{w b e:Nat}{p:Int}{ts:List PT}(h:Ge ns w b e 1 p ts):Gr ns w b e 1 p ts:=⟨by rw[h.l];exact Qi 1,by rw[h.l];exact Qi 1,h.nf,h.co,fun us u1 u2 hu=>h.le us (by lia) hu⟩
theorem Gr.ge{ns:List Int}{w b e:Nat}{p:Int}{ts:List PT}(h:Gr ns w b e 1 p ts):Ge ns w b e 1 p ts:=⟨by have a:=h.l1;have c:=h.lm;lia,h.nf,h.co,fun us u hu=>h.le us (by lia) (by lia) hu⟩
theorem Zrg{ns:List Int}{w b e c mid:Nat}{p1 p2:Int}{t1 t2:List PT}(hc:2≤c)(hb:b<mid)(he:mid+c≤e+1)(g1:Ge ns w b mid 1 p1 t1)(g2:Ge ns w mid e (c-1) p2 t2)
  (hle:∀k,b<k→k+c≤e+1→∃q1 q2 u1 u2,Ge ns w b k 1 q1 u1∧Ge ns w k e (c-1) q2 u2∧p1+p2≤q1+q2):Ge ns w b e c (p1+p2) (t1++t2):=by
 have a1:=g1.l
 have a2:=g2.l
 refine⟨by rw[Qg];lia,g1.nf.app g2.nf (by lia) (by lia),by rw[ZfJ,g1.co,g2.co],fun us hl hu=>?_⟩
 cases us with
 | nil=>simp at hl;lia
 | cons t r =>
  simp only[List.length_cons]at hl
  obtain⟨k,k1,k2,n1,n2⟩:=hu.cut (by lia)
  have n3:=n2.len
  obtain⟨q1,q2,u1,u2,f1,f2,f3⟩:=hle k k1 (by lia)
  have c1:=f1.le [t] rfl n1
  have c2:=f2.le r (by lia) n2
  have e1:ZbB ns [t]=tCo ns t:=by show tCo ns t+0=_;lia
  show _≤tCo ns t+ZbB ns r
  lia
theorem Ge.gc{ns:List Int}{w b e:Nat}{p:Int}{ts:List PT}(h:Ge ns w b e 2 p ts):Gc ns w b e 2 p ts:=⟨by rw[h.l];exact Qi 2,by rw[h.l];exact Qi 2,h.nf,h.co,fun us u1 u2 hu=>h.le us (by lia) hu⟩
theorem Zov{ns:List Int}{w b e c:Nat}{p q:Int}{ts us:List PT}(hc:2≤c)(h:Gc ns w b e c p ts)(g:Ge ns w b e (c+1) q us):(q<p→Gc ns w b e (c+1) q us)∧(¬ q<p→Gc ns w b e (c+1) p ts):=by
 have a1:=h.l1
 have a2:=h.lm
 have a3:=g.l
 have both:∀vs,2≤vs.length→vs.length≤c+1→Nf w b e vs→p≤ZbB ns vs∨q≤ZbB ns vs:=fun vs v1 v2 hv=>by
  by_cases h1:vs.length=c+1
  ·exact .inr (g.le vs h1 hv)
  ·exact .inl (h.le vs v1 (by lia) hv)
 refine⟨fun hl=>⟨by lia,by lia,g.nf,g.co,fun vs v1 v2 hv=>?_⟩,fun hl=>⟨h.l1,by lia,h.nf,h.co,fun vs v1 v2 hv=>?_⟩⟩
 ·rcases both vs v1 v2 hv with z|z<;>lia
 ·rcases both vs v1 v2 hv with z|z<;>lia
theorem Zr7{ns:List Int}{w b e m:Nat}{p:Int}{ts:List PT}(h:Gc ns w b e m p ts)(hm:m≤w)(hw:w≤m∨e-b≤m):Gc ns w b e w p ts:=⟨h.l1,by have:=h.lm;lia,h.nf,h.co,fun us u1 u2 hu=>h.le us u1 (by have:=hu.len;lia) hu⟩
def K2(b e:Nat):List Key:=[.inl (b:Int),.inl (e:Int)]
theorem ZjE{b e b' e':Nat}(h:K2 b e=K2 b' e'):b=b'∧e=e':=by
 unfold K2 at h
 injection h with h1 h2
 injection h2 with h2 h3
 injection h1 with h1
 injection h2 with h2
 lia
def LkR(kw kp:List (List Key×V))(b e c:Nat)(p:Int):Prop:=(c=1→Zah kw (K2 b e)=some (.int p))∧(c≠1→Zah kp (Kb b e c)=some (.int p))
def Zmf:Sp:=fun vs H Q _=>∃ (dw dp:Addr) (kw kp:List (List Key×V)) (b e c:Nat) (p:Int),vs=[.ref dw,.ref dp,.int b,.int e,.int c]∧H dw=some (.dT kw)∧H dp=some (.dT kp)∧LkR kw kp b e c p∧∀H',ZA H H'→Q (.int p) H'
theorem ZoX(T:Zao K mg cRow cMerge):Df P w K mg base 1 "_law_rest_cost" ["_law_whole", "_law_parted", "_law_begin", "_law_end", "_law_count"] Zmf:=by
 refine T.t_l_rest_cost.df ZfY (fun vs H Q E h=>?_) (fun cdv f A outer s H vs Q E hr h=>?_)
 ·obtain⟨dw,dp,kw,kp,b,e,c,p,rfl,_⟩:=h
  rfl
 obtain⟨dw,dp,kw,kp,b,e,c,p,rfl,hw,hp,⟨lk1,lk2⟩,q⟩:=h
 refine⟨_,#[Zj,#[Zp,#[Za1,#[Zn,Za7,‹4›,#[Zi],(Zs _)],#[Zz,(ixD hr),‹0›,#[ZH,#[Za,‹2›,#[Za,‹3›,#[Zd]]]]],#[Zz,(ixD hr),‹1›,#[ZH,#[Za,‹2›,#[Za,‹3›,#[Za,‹4›,#[Zd]]]]]]]]],?_⟩
 refine⟨_,rfl,rfl,_,rfl,?_⟩
 by_cases hc:c=1
 ·subst hc
  refine ZdA rfl ⟨_,rfl,_,rfl,_,rfl,(by show 2≤sizeLine;decide),fun k hk=>?_⟩
  exact⟨dw,kw,k,K2 b e,_,rfl,rfl,Zg hk _ _ _ hw,Zb,lk1 rfl,q _ (Zg hk _)⟩
 ·refine Zco (fun z=>hc (by injection z with z;lia)) ⟨_,rfl,_,rfl,_,rfl,_,rfl,(by show 3≤sizeLine;decide),fun k hk=>?_⟩
  exact⟨dp,kp,k,Kb b e c,_,rfl,rfl,Zg hk _ _ _ hp,Zb,lk2 hc,q _ (Zg hk _)⟩
def Wc(ns:List Int)(wy b e c:Nat)(p:Int):Prop:=∃ts,Ge ns wy b e c p ts
def kw0(n:Nat):List (List Key×V):=(List.range n).map fun b=>(K2 b (b+1),V.int 0)
theorem Zgf(n:Nat):kw0 (n+1)=kw0 n++[(K2 n (n+1),V.int 0)]:=by unfold kw0;rw[Qav,Qf];rfl
theorem Zgn:∀ (n:Nat) (b e:Nat),Zah (kw0 n) (K2 b e)≠none→e=b+1∧b<n
 | 0,b,e,h=>absurd rfl h
 | n+1,b,e,h=>by
  rw[Zgf,ZaT]at h
  by_cases hk:K2 n (n+1)=K2 b e
  ·have:=ZjE hk;lia
  ·rw[if_neg hk]at h
   have:=Zgn n b e (fun z=>h (by rw[z];rfl))
   lia
theorem Zl3:∀ (n b:Nat),b<n→Zah (kw0 n) (K2 b (b+1))=some (.int 0)
 | 0,b,h=>by lia
 | n+1,b,h=>by
  rw[Zgf,ZaT]
  by_cases hb:b<n
  ·rw[Zl3 n b hb];rfl
  ·have:b=n:=by lia
   subst this
   cases hx:Zah (kw0 b) (K2 b (b+1)) with
   | none=>rw[if_pos rfl];rfl
   | some v =>
    have:=Zgn b b (b+1) (by rw[hx];simp)
    lia
theorem ZqL(n:Nat):((kw0 n).map (·.1)).Nodup:=by
 unfold kw0
 rw[QE]
 refine QaL _ (R:=fun a b=>a≠b) (fun a b h z=>h (ZjE z).1) List.nodup_range
structure SL (ns:List Int) (wy:Nat) (H0 H:Hp) (dw dp:Addr) (kw kp:List (List Key×V)) (i j:Nat):Prop where
 hw:H dw=some (.dT kw)
 hp:H dp=some (.dT kp)
 has:∀b e,b<e→e≤ns.length→(e-b≤i∨(e-b=i+1∧b<j))→∀c,1≤c→c≤wy→c≤e-b→∃p,LkR kw kp b e c p∧Wc ns wy b e c p
 ow:∀b e,Zah kw (K2 b e)≠none→e-b≤i∨(e-b=i+1∧b<j)
 op:∀b e c,Zah kp (Kb b e c)≠none→e-b≤i∨(e-b=i+1∧b<j)
 lw:kw.length≤60*i+j
 lp:kp.length≤360*i+6*j
 sm:ZA H0 H
 w0:H0 dw=none
 p0:H0 dp=none
 ne:dw≠dp
structure SC (ns:List Int) (wy:Nat) (H0 H:Hp) (dw dp:Addr) (kw kp:List (List Key×V)) (i j l:Nat) (vb:V):Prop where
 hw:H dw=some (.dT kw)
 hp:H dp=some (.dT kp)
 has:∀b e,b<e→e≤ns.length→(e-b≤i∨(e-b=i+1∧b<j))→∀c,1≤c→c≤wy→c≤e-b→∃p,LkR kw kp b e c p∧Wc ns wy b e c p
 cur:∀c,2≤c→c≤l+1→∃p,Zah kp (Kb j (j+(i+1)) c)=some (.int p)∧Wc ns wy j (j+(i+1)) c p
 op:∀b e c,Zah kp (Kb b e c)≠none→(e-b≤i∨(e-b=i+1∧b<j))∨(b=j∧e=j+(i+1)∧c≤l+1)
 lp:kp.length≤360*i+6*j+l
 sm:ZA H0 H
 bs:(l=0∧vb=.non)∨(1≤l∧∃q ts,vb=.int q∧Gc ns wy j (j+(i+1)) (l+1) q ts)
def ZoJ(K:PySem.W.Frag):Sp:=fun vs H Q _=>∃ (a:Addr) (ns:List Int) (wy:Nat),vs=[.ref a,.int wy]∧SqL K H a (ns.map V.int)∧1≤ns.length∧ns.length≤60∧(∀v∈ns,0≤v)∧2≤wy∧wy≤6 ∧
 ∀ (p:Int) (H':Hp),(∃ts,Gr ns wy 0 ns.length 1 p ts)→ZA H H'→Q (.int p) H'
theorem Zl1(T:Zao K mg cRow cMerge)(f_l_rest_cost:Df P w K mg base 1 "_law_rest_cost" ["_law_whole", "_law_parted", "_law_begin", "_law_end", "_law_count"] Zmf):Df P w K mg base 2 "_law_least_cost" ["_law_sizes", "_law_ways"] (ZoJ K):=by
 refine T.t_l_least_cost.df ZJ (fun vs H Q E h=>?_) (fun cdv f A outer s H vs Q E hr h=>?_)
 ·obtain⟨a,ns,wy,rfl,_⟩:=h
  rfl
 obtain⟨a,ns,wy,rfl,hS,n1,n60,hns,w2,w6,q⟩:=h
 refine⟨_,#[Zf,#[Zu,2,ZJ.nd,(Or.inl rfl),#[Zk,(ZbC K),(by rfl),T.b.n_len,Qw,#[Za,‹0›,#[Zd]]]],#[Zf,#[Zu,3,ZJ.nd,(Or.inl rfl),#[Za5,(ZrW K hr),T.b.n_dict,boot_dict,#[Za,#[Za8,Zkk,#[Zbj,T.b.n_range,#[Za,‹2›,#[Zd]]],(fun _ _ _ _=>#[cg,12,Zkk]),(fun _ _ _ _=>(@ZaC _)),(fun _ _ _ _=>#[ZH,#[Za,#[ZH,#[Za,#[cw,12,Zkk],#[Za,#[ZC,ZV,#[cw,12,Zkk],#[Zi]],#[Zd]]]],#[Za,#[Zi],#[Zd]]]])],#[Zd]]]],#[Zf,#[Zu,4,ZJ.nd,(Or.inl rfl),(@Zfx _ _)],#[Zf,#[Zbu,PassesOwn.never,#[ZbR,T.b.n_range,#[Za,#[Zi],#[Za,#[ZC,ZV,‹2›,#[Zi]],#[Zd]]]],#[ZB,5,ZJ.nd],#[Zj,#[Zbu,PassesOwn.never,#[Zbj,T.b.n_range,#[Za,#[ZC,ZV,#[ZC,Zb5,‹2›,‹5›],#[Zi]],#[Zd]]],#[ZB,6,ZJ.nd],#[Zf,#[Zu,7,ZJ.nd,(Or.inl rfl),#[ZC,ZV,‹6›,‹5›]],#[Zf,#[Zu,8,ZJ.nd,(Or.inl rfl),#[Zav]],#[Zf,#[Zbu,PassesOwn.never,#[ZbR,T.b.n_range,#[Za,#[Zi],#[Za,#[ZC,ZV,#[Zk,(Zci rfl),(by rfl),T.b.n_min,boot_min,#[Za,‹1›,#[Za,‹5›,#[Zd]]]],#[Zi]],#[Zd]]]],#[ZB,9,ZJ.nd],#[Zf,#[Zu,10,ZJ.nd,(Or.inl rfl),#[Zai,#[Zd]]],#[Zf,#[Zbu,PassesOwn.never,#[ZbR,T.b.n_range,#[Za,#[ZC,ZV,‹6›,#[Zi]],#[Za,#[ZC,ZV,#[ZC,Zb5,‹7›,‹9›],#[Zi]],#[Zd]]]],#[ZB,11,ZJ.nd],#[Zj,#[Zac,#[ZbY,QD,QH,QI,Z7,‹10›,#[Za,#[ZC,ZV,#[Zz,(ixD hr),‹3›,#[ZH,#[Za,‹6›,#[Za,‹11›,#[Zd]]]]],#[ZD,f_l_rest_cost,hr,#[Za,‹3›,#[Za,‹4›,#[Za,‹11›,#[Za,‹7›,#[Za,#[ZC,Zb5,‹9›,#[Zi]],#[Zd]]]]]],(by rfl)]],#[Zd]]]]]],#[Zf,#[ZaS,#[Zk,(Zp8 K),(by rfl),T.b.n_min,boot_min,#[Za,‹10›,#[Zd]]],#[ZcF,‹4›,#[ZH,#[Za,‹6›,#[Za,‹7›,#[Za,‹9›,#[Zd]]]]],(Zqq hr)]],#[Zj,#[Zu,8,ZJ.nd,(Or.inl rfl),#[Za1,#[Zn,ZcG,‹8›,#[Zav],(Zs _)],#[Zk,(Zp8 K),(by rfl),T.b.n_min,boot_min,#[Za,‹10›,#[Zd]]],#[Zk,(Zci rfl),(by rfl),T.b.n_min,boot_min,#[Za,‹8›,#[Za,#[Zk,(Zp8 K),(by rfl),T.b.n_min,boot_min,#[Za,‹10›,#[Zd]]],#[Zd]]]]]]]]]]],#[Zj,#[ZaS,#[ZC,ZV,‹8›,#[Zk,(ZsI K),(by rfl),T.b.n_sum,boot_sum,#[Za,#[Zcn,(slL K),‹0›,(@ZbW _ _ _ ‹6›),(@ZbW _ _ _ ‹7›)],#[Zd]]]],#[ZcF,‹3›,#[ZH,#[Za,‹6›,#[Za,‹7›,#[Zd]]]],(Zqq hr)]]]]]]]]],#[Zj,#[Zp,#[Zz,(ixD hr),‹3›,#[ZH,#[Za,#[Zi],#[Za,‹2›,#[Zd]]]]]]]]]]],?_⟩
 refine⟨_,rfl,a,_,rfl,.inl hS,?_⟩
 simp only[List.length_map]
 refine⟨_,rfl,_,rfl,by lia,by lia,fun D hD=>?_⟩
 rw[show ((ns.length:Int)).toNat=ns.length by lia]
 refine Zcl (fun i zs σ H2=>(∃v:Option V,σ=[some (.ref a),some (.int wy),some (.int (ns.length:Int)),none,none,none,none,none,none,none,none,none,v])∧(∃ts:List (Addr×Addr×List Key×V),zs=ts.map (fun t=>V.ref t.1)∧(∀t∈ts,H2 t.1=some (.tup [.ref t.2.1,t.2.2.2])∧H2 t.2.1=some (.tup (t.2.2.1.map kV)))∧ts.map (·.2.2)=kw0 i)∧i≤ns.length∧H2 D=some (.lst zs)∧ZA H H2) ?_ ?_ ?_
 ·exact⟨⟨none,rfl⟩,⟨[],rfl,(fun t h=>by cases h),rfl⟩,Qv _,Zb,Zg hD _⟩
 ·rintro i zs σ H2 hi ⟨⟨v,rfl⟩,⟨ts,rfl,hat,hts⟩,hi',hD2,s2⟩
  rw[show ((0:Int)+(i:Int))=((i:Nat):Int) by lia]
  have htl:ts.length=i:=by have:=congrArg List.length hts;unfold kw0 at this;simpa using this
  refine⟨_,rfl,_,rfl,_,_,rfl,rfl,(by show 2≤sizeLine;decide),fun k1 hk1=>⟨(by show 2≤sizeLine;decide),fun n hn=>?_⟩⟩
  have eK:(.tup [.int (i:Int),.int ((i:Int)+1)]:HO)=.tup ((K2 i (i+1)).map kV):=by show _=HO.tup [.int (i:Int),.int ((i+1:Nat):Int)];rw[show ((i+1:Nat):Int)=(i:Int)+1 by lia]
  change _∧_∧_
  have sa:=Zg hk1 (.tup [.int (i:Int),.int ((i:Int)+1)])
  have sb:=Zg hn (.tup [.ref k1,.int 0])
  have fk:(upd (upd H2 k1 (.tup [.int (i:Int),.int ((i:Int)+1)])) n (.tup [.ref k1,.int 0])) k1=some (.tup ((K2 i (i+1)).map kV)):=by rw[← eK];exact sb _ _ Zb
  have fn:(upd (upd H2 k1 (.tup [.int (i:Int),.int ((i:Int)+1)])) n (.tup [.ref k1,.int 0])) n=some (.tup [.ref k1,.int 0]):=Zb
  have s3:=sa.trans sb
  change (upd (upd H2 k1 (.tup [.int (i:Int),.int ((i:Int)+1)])) n (.tup [.ref k1,.int 0])) D=_∧_∧_
  generalize upd (upd H2 k1 (.tup [.int (i:Int),.int ((i:Int)+1)])) n (.tup [.ref k1,.int 0])=H3 at fk fn s3 ⊢
  have hD3:=s3 _ _ hD2
  refine⟨hD3,(by rw[Qa];exact Zx (by lia)),⟨_,rfl⟩,⟨ts++[(n,k1,K2 i (i+1),.int 0)],by rw[Qf];rfl,fun t ht=>?_,by rw[Qf,hts,Zgf];rfl⟩,by lia,Zb,fun b o hb=>?_⟩
  ·rcases Qh.mp ht with ht|ht
   ·exact⟨ZaA hD3 _ _ _ (s3 _ _ (hat t ht).1),ZaA hD3 _ _ _ (s3 _ _ (hat t ht).2)⟩
   ·rw[Qe.mp ht]
    exact⟨ZaA hD3 _ _ _ fn,ZaA hD3 _ _ _ fk⟩
  ·rw[Ze (Zc hb hD)];exact s3 _ _ (s2 b o hb)
 rintro zs σ H2 ⟨⟨v,rfl⟩,⟨ts,rfl,hat,hts⟩,_,hD2,s2⟩
 have htl:ts.length=ns.length:=by have:=congrArg List.length hts;unfold kw0 at this;simpa using this
 refine⟨D,ts,rfl,SqL.of hD2,hat,by lia,?_,fun dw hdw=>?_⟩
 ·have:=ZqL ns.length
  rw[← hts,QE]at this
  exact this
 rw[hts]
 refine fun dp hdp=>?_
 have ndp:dw≠dp:=Zc Zb hdp
 have sA:=Zg hdw (.dT (kw0 ns.length))
 have sB:=Zg hdp (.dT [])
 have st0:SL ns wy H (upd (upd H2 dw (.dT (kw0 ns.length))) dp (.dT [])) dw dp (kw0 ns.length) [] 1 0:=by
  refine⟨sB _ _ Zb,Zb,fun b e h1 h2 h3 c c1 c2 c3=>?_,fun b e h=>?_,fun b e c h=>absurd rfl h,?_,Qv _,s2.trans (sA.trans sB),s2.free hdw,s2.free (sA.free hdp),ndp⟩
  ·have ee:e=b+1:=by lia
   have ec:c=1:=by lia
   subst ee ec
   exact⟨0,⟨fun _=>Zl3 _ _ (by lia),fun z=>absurd rfl z⟩,[.leaf (b:Int)],(ZkB hns wy b 1 (Qi 1)).ge⟩
  ·have:=Zgn _ _ _ h
   lia
  ·unfold kw0;rw[Qa,Qax];lia
 generalize upd (upd H2 dw (.dT (kw0 ns.length))) dp (.dT [])=H3 at st0 ⊢
 generalize kw0 ns.length=kw at st0
 clear hdw hdp sA sB s2 hD2 hat hts htl ts hD
 refine⟨_,rfl,_,_,rfl,rfl,_,_,rfl,⟨by lia,by lia,by lia,by lia⟩,?_⟩
 rw[show ((ns.length:Int)+1-2).toNat=ns.length-1 by lia]
 refine ZaR (fun i σ H2=>∃ (kw kp:List (List Key×V)) (v5 v6 v7 v8 v9 v10 v11:Option V),σ=[some (.ref a),some (.int wy),some (.int (ns.length:Int)),some (.ref dw),some (.ref dp),v5,v6,v7,v8,v9,v10,v11]∧SL ns wy H H2 dw dp kw kp (i+1) 0) ⟨kw,[],_,_,_,_,_,_,_,rfl,st0⟩ ?_ ?_
 ·rintro i σ H2 hi ⟨kw,kp,v5,v6,v7,v8,v9,v10,v11,rfl,st2⟩
  rw[show ((2:Int)+(i:Int))=((i+2:Nat):Int) by lia]
  refine⟨_,rfl,_,rfl,_,_,rfl,rfl,_,_,rfl,rfl,_,rfl,by lia,by lia,?_⟩
  rw[show ((ns.length:Int)-((i+2:Nat):Int)+1).toNat=ns.length-1-i by lia]
  refine ZaR (fun j σ H3=>∃ (kw kp:List (List Key×V)) (v6 v7 v8 v9 v10 v11:Option V),σ=[some (.ref a),some (.int wy),some (.int (ns.length:Int)),some (.ref dw),some (.ref dp),some (.int ((i+2:Nat):Int)),v6,v7,v8,v9,v10,v11]∧SL ns wy H H3 dw dp kw kp (i+1) j) ⟨kw,kp,_,_,_,_,_,_,rfl,st2⟩ ?_ ?_
  ·rintro j σ H3 hj ⟨kw,kp,v6,v7,v8,v9,v10,v11,rfl,st3⟩
   rw[show ((0:Int)+(j:Int))=(j:Int) by lia]
   refine⟨_,rfl,_,rfl,_,_,rfl,rfl,?_⟩
   simp only[show ((j:Int)+((i+2:Nat):Int))=((j+(i+1+1):Nat):Int) by lia]
   obtain⟨M,hM,M1,M2,M3,M4⟩:∃M:Nat,(if ((i+2:Nat):Int)<(wy:Int) then ((i+2:Nat):Int) else (wy:Int))=(M:Int)∧2≤M∧M≤wy∧M≤i+2∧(wy≤M∨i+2≤M):=by
    split
    ·exact⟨i+2,rfl,by lia,by lia,by lia,by lia⟩
    ·exact⟨wy,rfl,by lia,by lia,by lia,by lia⟩
   refine⟨_,rfl,_,rfl,_,_,rfl,?_⟩
   rw[hM]
   refine⟨_,_,rfl,rfl,_,_,rfl,⟨by lia,by lia,by lia,by lia⟩,?_⟩
   rw[show ((M:Int)+1-2).toNat=M-1 by lia]
   have sc0:SC ns wy H H3 dw dp kw kp (i+1) j 0 .non:=⟨st3.hw,st3.hp,st3.has,fun c h1 h2=>by lia,fun b e c h=>.inl (st3.op b e c h),by have:=st3.lp;lia,st3.sm,.inl ⟨rfl,rfl⟩⟩
   refine ZaR (fun l σ H4=>∃ (kp:List (List Key×V)) (vb:V) (v9 v10 v11:Option V),σ=[some (.ref a),some (.int wy),some (.int (ns.length:Int)),some (.ref dw),some (.ref dp),some (.int ((i+2:Nat):Int)),some (.int (j:Int)),some (.int ((j+(i+1+1):Nat):Int)),some vb,v9,v10,v11]∧SC ns wy H H4 dw dp kw kp (i+1) j l vb) ⟨kp,.non,v9,v10,v11,rfl,sc0⟩ ?_ ?_
   ·rintro l σ H4 hl ⟨kp4,vb,v9',v10',v11',rfl,sc4⟩
    rw[show ((2:Int)+(l:Int))=((l+2:Nat):Int) by lia]
    refine⟨(by show 0≤sizeLine;decide),fun so hso=>?_⟩
    refine⟨_,rfl,_,_,rfl,rfl,_,rfl,_,rfl,_,_,rfl,rfl,_,_,rfl,rfl,_,_,rfl,⟨by lia,by lia,by lia,by lia⟩,?_⟩
    rw[show (((j+(i+1+1):Nat):Int)-((l+2:Nat):Int)+2-((j:Int)+1)).toNat=i+1-l by lia]
    refine ZaR (fun u σ H5=>∃ (xs:List Int) (v11:Option V),σ=[some (.ref a),some (.int wy),some (.int (ns.length:Int)),some (.ref dw),some (.ref dp),some (.int ((i+2:Nat):Int)),some (.int (j:Int)),some (.int ((j+(i+1+1):Nat):Int)),some vb,some (.int ((l+2:Nat):Int)),some (.ref so),v11]∧H5 so=some (.lst (xs.map V.int))∧xs.length=u∧(∀ (z:Nat) (s:Int),xs[z]? = some s→∃q1 q2,Wc ns wy j (j+1+z) 1 q1∧Wc ns wy (j+1+z) (j+(i+1+1)) (l+1) q2∧s=q1+q2)∧ZA H4 H5) ⟨[],_,rfl,Zb,rfl,(fun z s h=>by cases h),Zg hso _⟩ ?_ ?_
    ·rintro u σ H5 hu ⟨xs,v11b,rfl,hso5,hxl,hxs,s5⟩
     rw[show ((j:Int)+1+(u:Int))=((j+1+u:Nat):Int) by lia]
     obtain⟨p1,⟨lk1,_⟩,g1⟩:=sc4.has j (j+1+u) (by lia) (by lia) (.inl (by lia)) 1 (by lia) (by lia) (by lia)
     obtain⟨p2,lk2,g2⟩:=sc4.has (j+1+u) (j+(i+1+1)) (by lia) (by lia) (.inl (by lia)) (l+1) (by lia) (by lia) (by lia)
     refine⟨_,rfl,Zc8 hso5,_,rfl,_,rfl,_,rfl,(by show 2≤sizeLine;decide),fun k1 hk1=>?_⟩
     have s6:=Zg hk1 (.tup ((K2 j (j+1+u)).map kV))
     have f6:(upd H5 k1 (.tup ((K2 j (j+1+u)).map kV))) k1=some (.tup ((K2 j (j+1+u)).map kV)):=Zb
     change ZgL _ _ (upd H5 k1 (.tup ((K2 j (j+1+u)).map kV))) _
     generalize upd H5 k1 (.tup ((K2 j (j+1+u)).map kV))=H6 at s6 f6 ⊢
     have s46:=s5.trans s6
     refine⟨dw,kw,k1,K2 j (j+1+u),_,rfl,rfl,s46 _ _ sc4.hw,f6,lk1 rfl,?_⟩
     refine⟨_,rfl,_,rfl,_,rfl,_,rfl,_,rfl,_,_,rfl,rfl,dw,dp,kw,kp4,j+1+u,j+(i+1+1),l+1,p2,?_,s46 _ _ sc4.hw,s46 _ _ sc4.hp,lk2,fun H7 s7=>?_⟩
     ·show [V.ref dw,V.ref dp,V.int _,V.int _,V.int (((l+2:Nat):Int)-1)]=_
      rw[show (((l+2:Nat):Int)-1)=((l+1:Nat):Int) by lia]
     have hso7:=s7 _ _ (s6 _ _ hso5)
     have s57:=s6.trans s7
     refine⟨_,_,rfl,rfl,so,_,_,rfl,rfl,hso7,(by rw[Qa,hxl];exact Zx (by lia)),xs++[p1+p2],_,rfl,?_,by rw[Qg,Qj];lia,fun z s hz=>?_,fun b o hb=>?_⟩
     ·rw[Qf];exact Zb
     ·by_cases hzl:z<xs.length
      ·rw[QU hzl]at hz
       exact hxs z s hz
      ·have hz2:=(Qc.mp hz).1
       rw[Qg,Qj]at hz2
       have ez:z=u:=by lia
       subst ez
       rw[QS (by lia),hxl,Nat.sub_self]at hz
       cases hz
       exact⟨p1,p2,g1,g2,rfl⟩
     ·rw[Ze (Zc hb hso)];exact s57 _ _ (s5 b o hb)
    ·rintro σ H5 ⟨xs,v11b,rfl,hso5,hxl,hxs,s5⟩
     refine⟨_,rfl,so,xs,rfl,SqL.of hso5,by lia,fun m hm hmin=>?_⟩
     have hge:Wc ns wy j (j+(i+1+1)) (l+2) m:=by
      obtain⟨z,hz⟩:=QaJ.mp hm
      have hzl:=(Qc.mp hz).1
      obtain⟨q1,q2,⟨t1,g1⟩,⟨t2,g2⟩,rfl⟩:=hxs z m hz
      refine⟨t1++t2,Zrg (mid:=j+1+z) (by lia) (by lia) (by lia) g1 g2 fun k k1 k2=>?_⟩
      have hkl:k-(j+1)<xs.length:=by lia
      obtain⟨r1,r2,⟨u1,f1⟩,⟨u2,f2⟩,e3⟩:=hxs (k-(j+1)) _ (Qb hkl)
      rw[show j+1+(k-(j+1))=k by lia]at f1 f2
      have:=hmin _ (QX hkl)
      exact⟨r1,r2,u1,u2,f1,f2,by lia⟩
     refine⟨_,rfl,_,rfl,_,rfl,_,rfl,(by show 3≤sizeLine;decide),fun k1 hk1=>?_⟩
     have s6:=Zg hk1 (.tup ((Kb j (j+(i+1+1)) (l+2)).map kV))
     have f6:(upd H5 k1 (.tup ((Kb j (j+(i+1+1)) (l+2)).map kV))) k1=some (.tup ((Kb j (j+(i+1+1)) (l+2)).map kV)):=Zb
     change Zf9 _ _ _ (upd H5 k1 (.tup ((Kb j (j+(i+1+1)) (l+2)).map kV))) _
     generalize upd H5 k1 (.tup ((Kb j (j+(i+1+1)) (l+2)).map kV))=H6 at s6 f6 ⊢
     have s46:=s5.trans s6
     have hso6:=s6 _ _ hso5
     have hnone:Zah kp4 (Kb j (j+(i+1+1)) (l+2))=none:=by
      cases hx:Zah kp4 (Kb j (j+(i+1+1)) (l+2)) with
      | none=>rfl
      | some v =>
       rcases sc4.op j (j+(i+1+1)) (l+2) (by rw[hx];simp) with h|h<;>lia
     refine⟨dp,kp4,k1,Kb j (j+(i+1+1)) (l+2),rfl,rfl,s46 _ _ sc4.hp,f6,hnone,(by rw[sizeLine_eq];have:=sc4.lp;lia),?_⟩
     have hp6:=s46 _ _ sc4.hp
     have hso7:(upd H6 dp (.dT (kp4++[(Kb j (j+(i+1+1)) (l+2),.int m)]))) so=some (.lst (xs.map V.int)):=by rw[Ze (ZgW hso6 hp6 (fun z=>nomatch z))];exact hso6
     have hsm:ZA H (upd H6 dp (.dT (kp4++[(Kb j (j+(i+1+1)) (l+2),.int m)]))):=fun b o hb=>by rw[Ze (Zc hb st3.p0)];exact s46 _ _ (sc4.sm b o hb)
     have old:∀k v,Zah kp4 k=some v→Zah (kp4++[(Kb j (j+(i+1+1)) (l+2),V.int m)]) k=some v:=fun k v h=>by rw[ZaT,h];rfl
     have fin:∀vb',((1≤l+1∧∃q ts,vb'=.int q∧Gc ns wy j (j+(i+1+1)) (l+1+1) q ts))→SC ns wy H (upd H6 dp (.dT (kp4++[(Kb j (j+(i+1+1)) (l+2),.int m)]))) dw dp kw (kp4++[(Kb j (j+(i+1+1)) (l+2),.int m)]) (i+1) j (l+1) vb':=fun vb' hb'=>by
      refine⟨by rw[Ze st3.ne];exact s46 _ _ sc4.hw,Zb,fun b e h1 h2 h3 c c1 c2 c3=>?_,fun c c1 c2=>?_,fun b e c h=>?_,by rw[Qg,Qj];have:=sc4.lp;lia,hsm,.inr hb'⟩
      ·obtain⟨p,⟨x1,x2⟩,x3⟩:=sc4.has b e h1 h2 h3 c c1 c2 c3
       exact⟨p,⟨x1,fun z=>old _ _ (x2 z)⟩,x3⟩
      ·by_cases hc:c≤l+1
       ·obtain⟨p,x1,x2⟩:=sc4.cur c c1 hc
        exact⟨p,old _ _ x1,x2⟩
       ·have ec:c=l+2:=by lia
        subst ec
        exact⟨m,by rw[ZaT,hnone,if_pos rfl];rfl,hge⟩
      ·rw[ZaT]at h
       by_cases hk:Kb j (j+(i+1+1)) (l+2)=Kb b e c
       ·obtain⟨x1,x2,x3⟩:=Zof hk
        exact .inr ⟨x1.symm,x2.symm,by lia⟩
       ·rw[if_neg hk]at h
        rcases sc4.op b e c (fun z=>h (by rw[z];rfl)) with h|h
        ·exact .inl h
        ·exact .inr ⟨h.1,h.2.1,by lia⟩
     generalize upd H6 dp (.dT (kp4++[(Kb j (j+(i+1+1)) (l+2),.int m)]))=H7 at hso7 fin ⊢
     have again:∀m',m'∈xs→(∀x∈xs,m'≤x)→m'=m:=fun m' h1 h2=>by
      have x1:=hmin m' h1
      have x2:=h2 m hm
      lia
     refine⟨_,rfl,rfl,_,rfl,?_⟩
     obtain⟨tsg,hge⟩:=hge
     rcases sc4.bs with⟨l0,rfl⟩|⟨l1,qb,tsb,rfl,hgc⟩
     ·subst l0
      refine ZdA rfl ⟨_,rfl,so,xs,rfl,SqL.of hso7,by lia,fun m' h1 h2=>?_⟩
      rw[again m' h1 h2]
      exact⟨_,_,_,_,_,rfl,fin _ ⟨by lia,m,tsg,rfl,hge.gc⟩⟩
     ·refine Zco (fun z=>nomatch z) ⟨_,rfl,_,rfl,so,xs,rfl,SqL.of hso7,by lia,fun m' h1 h2=>?_⟩
      rw[again m' h1 h2]
      obtain⟨y1,y2⟩:=Zov (by lia) hgc hge
      refine⟨_,_,rfl,?_⟩
      by_cases hlt:m<qb
      ·rw[if_pos hlt]
       exact⟨_,_,_,_,_,rfl,fin _ ⟨by lia,m,tsg,rfl,y1 hlt⟩⟩
      ·rw[if_neg hlt]
       exact⟨_,_,_,_,_,rfl,fin _ ⟨by lia,qb,tsb,rfl,y2 hlt⟩⟩
   ·rintro σ H4 ⟨kp4,vb,v9',v10',v11',rfl,sc4⟩
    rcases sc4.bs with⟨l0,_⟩|⟨l1,qb,tsb,rfl,hgc⟩
    ·lia
    rw[show M-1+1=M by lia]at hgc
    have hgr:Gr ns wy j (j+(i+1+1)) 1 (qb+seg ns j (j+(i+1+1))) [.node tsb]:=ZkC (Zr7 hgc M2 (by lia)) (by lia) (by lia)
    refine⟨_,rfl,_,rfl,_,rfl,_,rfl,_,rfl,_,rfl,a,_,rfl,sc4.sm.seq hS,fun sl hsl=>?_⟩
    rw[Ziy (ns.map V.int) j (j+(i+1+1)) (by rw[Qa];lia) (by rw[Qa];lia),← List.map_drop,← QaT]
    have s5:=Zg hsl (.lst (((ns.drop j).take (j+(i+1+1)-j)).map V.int))
    have f5:(upd H4 sl (.lst (((ns.drop j).take (j+(i+1+1)-j)).map V.int))) sl=some (.lst (((ns.drop j).take (j+(i+1+1)-j)).map V.int)):=Zb
    generalize upd H4 sl (.lst (((ns.drop j).take (j+(i+1+1)-j)).map V.int))=H5 at s5 f5 ⊢
    refine⟨sl,(ns.drop j).take (j+(i+1+1)-j),rfl,SqL.of f5,_,_,rfl,rfl,_,rfl,_,rfl,_,rfl,(by show 2≤sizeLine;decide),fun k1 hk1=>?_⟩
    have s6:=Zg hk1 (.tup ((K2 j (j+(i+1+1))).map kV))
    have f6:(upd H5 k1 (.tup ((K2 j (j+(i+1+1))).map kV))) k1=some (.tup ((K2 j (j+(i+1+1))).map kV)):=Zb
    change Zf9 _ _ _ (upd H5 k1 (.tup ((K2 j (j+(i+1+1))).map kV))) _
    generalize upd H5 k1 (.tup ((K2 j (j+(i+1+1))).map kV))=H6 at s6 f6 ⊢
    have s46:=s5.trans s6
    have hnone:Zah kw (K2 j (j+(i+1+1)))=none:=by
     cases hx:Zah kw (K2 j (j+(i+1+1))) with
     | none=>rfl
     | some v =>
      rcases st3.ow j (j+(i+1+1)) (by rw[hx];simp) with h|h<;>lia
    refine⟨dw,kw,k1,K2 j (j+(i+1+1)),rfl,rfl,s46 _ _ sc4.hw,f6,hnone,(by rw[sizeLine_eq];have:=st3.lw;lia),?_⟩
    have old:∀v' k v,Zah kw k=some v→Zah (kw++[(K2 j (j+(i+1+1)),v')]) k=some v:=fun v' k v h=>by rw[ZaT,h];rfl
    refine⟨_,kp4,_,_,_,_,_,_,rfl,Zb,by rw[Ze st3.ne.symm];exact s46 _ _ sc4.hp,fun b e h1 h2 h3 c c1 c2 c3=>?_,fun b e h=>?_,fun b e c h=>?_,by rw[Qg,Qj];have:=st3.lw;lia,by have:=sc4.lp;lia,fun b o hb=>by rw[Ze (Zc hb st3.w0)];exact s46 _ _ (sc4.sm b o hb),st3.w0,st3.p0,st3.ne⟩
    ·by_cases hd:e-b≤i+1∨(e-b=i+1+1∧b<j)
     ·obtain⟨p,⟨x1,x2⟩,x3⟩:=sc4.has b e h1 h2 hd c c1 c2 c3
      exact⟨p,⟨fun z=>old _ _ _ (x1 z),x2⟩,x3⟩
     ·have eb:b=j:=by lia
      have ee:e=j+(i+1+1):=by lia
      subst eb ee
      by_cases hc:c=1
      ·subst hc
       exact⟨_,⟨fun _=>by rw[ZaT,hnone,if_pos rfl];rfl,fun z=>absurd rfl z⟩,_,hgr.ge⟩
      ·obtain⟨p,x1,x2⟩:=sc4.cur c (by lia) (by lia)
       exact⟨p,⟨fun z=>absurd z hc,fun _=>x1⟩,x2⟩
    ·rw[ZaT]at h
     by_cases hk:K2 j (j+(i+1+1))=K2 b e
     ·have:=ZjE hk
      lia
     ·rw[if_neg hk]at h
      have:=st3.ow b e (fun z=>h (by rw[z];rfl))
      lia
    ·rcases sc4.op b e c h with h|h<;>lia
  ·rintro σ H3 ⟨kw,kp,v6,v7,v8,v9,v10,v11,rfl,st3⟩
   refine⟨kw,kp,_,_,_,_,_,_,_,rfl,st3.hw,st3.hp,fun b e h1 h2 h3=>st3.has b e h1 h2 (by lia),fun b e h=>?_,fun b e c h=>?_,by have:=st3.lw;lia,by have:=st3.lp;lia,st3.sm,st3.w0,st3.p0,st3.ne⟩
   ·have:=st3.ow b e h
    lia
   ·have:=st3.op b e c h
    lia
 ·rintro σ H2 ⟨kw,kp,v5,v6,v7,v8,v9,v10,v11,rfl,st2⟩
  obtain⟨p,⟨lk1,_⟩,ts,hg⟩:=st2.has 0 ns.length (by lia) (Qi _) (.inl (by lia)) 1 (by lia) (by lia) (by lia)
  refine⟨_,rfl,_,rfl,(by show 2≤sizeLine;decide),fun k1 hk1=>?_⟩
  exact⟨dw,kw,k1,K2 0 ns.length,_,rfl,rfl,Zg hk1 _ _ _ st2.hw,Zb,lk1 rfl,q p _ ⟨ts,hg.gr⟩ (st2.sm.trans (Zg hk1 _))⟩
theorem Zqn:∀s∈(["", ""]:List Str),s.length≤1000∧AZ s:=by unfold AZ cds;ac_rfl
theorem Zpp:ZeG ["", ""] [0,1]:=by unfold ZeG;ac_rfl
theorem Zgi{H:Hp}{t b u c:Addr}{out:List Int}{p:Int}(ht:H t=some (.tup [.ref b,.int p]))(hu:H u=some (.tup [.ref c,.int p]))(hb:H b=some (.lst (out.map V.int)))(hc:H c=some (.lst (out.map V.int)))(hl:out.length≤60):IsD H 3 (.ref t) (.ref u):=by
 refine .inr ⟨t,u,_,_,rfl,rfl,.inr ⟨ht,hu⟩,rfl,(by show 2≤1000;lia),fun i x y hx hy=>?_⟩
 match i,hx,hy with
 | 0,hx,hy =>
  cases hx;cases hy
  refine .inr ⟨b,c,_,_,rfl,rfl,.inl ⟨hb,hc⟩,rfl,by rw[Qa];lia,fun i x y hx hy=>?_⟩
  rw[hx]at hy
  cases hy
  rw[Qk]at hx
  cases h:out[i]? with
  | none=>rw[h]at hx;cases hx
  | some n=>rw[h]at hx;cases hx;exact .inl ⟨rfl,.inr (.inr (.inl ⟨n,rfl⟩))⟩
 | 1,hx,hy=>cases hx;cases hy;exact .inl ⟨rfl,.inr (.inr (.inl ⟨p,rfl⟩))⟩
 | n+2,hx,hy=>cases hx
def ZjY(K:PySem.W.Frag):Sp:=fun vs H Q _=>∃ (a:Addr) (ns:List Int),vs=[.ref a]∧SqL K H a (ns.map V.int)∧ns.length≤63∧∀H',Q (.bl true) H'
theorem ZqP{f:Addr}{fd:FuncData}(F:Fun K "law" "law" ZcA f fd)(T:Zao K mg cRow cMerge):Zd3 P w K mg base CX0 90 f fd ["_law_script"] (ZjY K):=by
 have f_l_mix:Df P w K mg base 1 "_law_mix" ["_law_cell", "_law_k"] Zns:=Zrd T
 have f_l_left:Df P w K mg base 1 "_law_left" ["_law_script", "_law_k"] (Znm K):=Zo8 T
 have f_l_pick:Df P w K mg base 2 "_law_pick" ["_law_left_here", "_law_many"] ZeQ:=Zpk T f_l_mix
 have f_l_stems:Df P w K mg base 3 "_law_stems" ["_law_left_here"] ZhI:=Zm9 T f_l_pick
 have f_l_key:Df P w K mg base 3 "_law_key" ["_law_left_here", "_law_stems_here"] ZmQ:=ZqD T f_l_pick
 have f_alike_from:Df P w K mg base 1 "alike_from" ["one", "other", "far"] Zcx:=ZgG T
 have f_alike:Df P w K mg base 2 "alike" ["one", "other"] ZfB:=Zmr T f_alike_from
 have f_order_at:Df P w K mg base 1 "order_at" ["one", "other", "at"] Zfq:=ZnG T
 have f_liken:Df P w K mg base 3 "liken" ["one", "other"] Zfy:=Zma T f_alike f_order_at
 have f_liken_from:Df P w K mg base 2 "liken_from" ["one", "other", "far"] Zdp:=Zgz T f_alike_from f_order_at
 have f_first_break:Df P w K mg base 4 "first_break" ["keys"] (Zod K):=Zno T f_liken
 have f_refuse_break:Df P w K mg base 5 "refuse_break" ["number", "keys"] (ZfR K):=Zlr T f_first_break
 have f_alikes:Df P w K mg base 3 "alikes" ["row"] (Zgq K):=Zlb T f_alike
 have f_halves:Df P w K mg base 1 "halves" ["numbers"] (Zeq K true):=ZlK T
 have f_Row_to_go:=Zoq T (P:=P) (w:=w) (base:=base)
 have f_Row_head:=Zo3 T f_Row_to_go
 have f_Row_init:=Zjp T f_alikes
 have f_Merge_meet:=Zpr T f_Row_head f_liken_from
 have f_Merge_play:=Zkh T f_Row_head f_halves f_Merge_meet 8
 have f_Merge_play_all:=Zjb T f_Merge_play
 have f_Merge_init:=Zgy T f_refuse_break f_Row_init f_Merge_play_all
 have f_Merge_coming:=ZlH T f_Row_head
 have f_way_up:Df P w K mg base 2 "way_up" ["numbers", "n"] Zml:=ZqF T f_halves
 have f_matches_up:=ZjD T f_way_up
 have f_Merge_play_again:=Zmu T f_Merge_meet
 have f_Merge_send_out:=ZoG T f_Row_head f_matches_up f_Merge_play_again
 have f_Merge_take:=ZoD T f_Merge_coming f_Merge_send_out
 have f_Merge_take_few:=Zqr T f_Merge_take
 have f_how_many:=Ziq T (P:=P) (w:=w) (base:=base)
 have f_merged:=ZlE T f_Merge_init f_Merge_take_few f_how_many
 have f_is_number:=ZpZ T (P:=P) (w:=w) (base:=base)
 have f_merged_by:=ZpN T f_is_number f_merged 61
 have f_l_things:Df P w K mg base 4 "_law_things" ["_law_left_here"] Zi6:=Zlq T f_l_pick f_l_stems f_l_key
 have f_l_room:Df P w K mg base 3 "_law_room" ["_law_left_here"] ZmC:=Zo1 T f_l_pick
 have f_run_behind:=Zk8 T f_liken
 have f_runs_of:=ZoW T f_run_behind
 have f_least_cut':=fun ns wy=>ZqW T (P:=P) (w:=w) (base:=base) ns wy
 have f_least_tree':=fun ns wy=>Znq T ns wy (f_least_cut' ns wy)
 have f_least_grove':=fun ns wy=>Zmy T ns wy (f_least_cut' ns wy)
 have f_least_groves':=fun ns wy=>Zln T ns wy (f_least_tree' ns wy) (f_least_grove' ns wy)
 have f_near_plan:=Zpf T f_least_groves'
 have f_sort_by:=Zok T f_runs_of f_near_plan f_merged_by
 have f_l_same:=Zku T (P:=P) (w:=w) (base:=base) 3
 have f_l_rounds_due:=Zpn T (P:=P) (w:=w) (base:=base)
 have f_l_in_order:=Zit T (P:=P) (w:=w) (base:=base)
 have f_l_rest_cost:=ZoX T (P:=P) (w:=w) (base:=base)
 have f_l_least_cost:=Zl1 T f_l_rest_cost
 refine F.ok ZbP (fun vs H Q E h=>?_) (fun cdv A outer s H vs Q E hr h=>?_)
 ·obtain⟨a,ns,rfl,_⟩:=h
  rfl
 obtain⟨a,sc,rfl,hS,h63,q⟩:=h
 refine⟨_,#[Zf,#[Zbu,PassesOwn.never,#[Zbj,T.b.n_range,#[Za,#[ZC,ZV,#[Zi],#[Zk,(Zci rfl),(by rfl),T.b.n_min,boot_min,#[Za,#[Zi],#[Za,#[Zk,(ZbC K),(by rfl),T.b.n_len,Qw,#[Za,‹0›,#[Zd]]],#[Zd]]]]],#[Zd]]],#[ZB,1,ZbP.nd],#[Zf,#[Zu,2,ZbP.nd,(Or.inl rfl),#[ZD,f_l_left,hr,#[Za,‹0›,#[Za,‹1›,#[Zd]]],(by rfl)]],#[Zf,#[Zu,3,ZbP.nd,(Or.inl rfl),#[ZD,f_l_things,hr,#[Za,‹2›,#[Zd]],(by rfl)]],#[Zf,(@ZmA _ _ 4 5 _ _ _ _ _ _ _ _ _ _ _ rfl ZbP.nd rfl rfl (by decide) rfl rfl #[Za,#[ZD,f_l_room,hr,#[Za,‹2›,#[Zd]],(by rfl)],#[Za,#[ZC,ZV,#[Zi],#[ZD,f_l_pick,hr,#[Za,‹2›,#[Za,#[Zi],#[Zd]]],(by rfl)]],#[Zd]]] rfl (by rfl)),(@Zia _ _ _ _ _ #[Z9,#[Zn,ZfF,‹1›,#[Zi],(Zs _)],#[Zj,#[Zu,3,ZbP.nd,(Or.inl rfl),#[Zcn,(slL K),‹3›,(@Zdi _),(@ZbW _ _ _ #[Zi])]]],#[ZF]] #[Zf,#[Zea,6,ZbP.nd,Zkv,#[iL,K,#[ZD,f_l_rounds_due,hr,#[Za,‹3›,#[Za,‹4›,#[Zd]]],(by rfl)]],(fun _ _ _ _=>#[cg,12,Zkv]),(fun _ _ _ _=>(@ZaC _)),(fun _ _ _ _=>#[Zk,(ZbC K),(ZbQ Zkv rfl (by ac_rfl)),T.b.n_len,Qw,#[Za,#[cw,12,Zkv],#[Zd]]])],#[Zf,#[Zu,7,ZbP.nd,(Or.inl rfl),#[Zi]],(@Zia _ _ _ _ _ #[Z9,#[Zn,(@neD _ K _ hr (by rfl)),‹6›,#[Zai,#[Zd]],(Zs _)],#[Zj,#[Zu,7,ZbP.nd,(Or.inl rfl),#[ZD,f_l_least_cost,hr,#[Za,‹6›,#[Za,‹5›,#[Zd]]],(by rfl)]]],#[ZF]] #[Zf,#[Zu,8,ZbP.nd,(Or.inl rfl),#[ZH,#[Za,#[ZD,f_l_in_order,hr,#[Za,‹3›,#[Zd]],(by rfl)],#[Za,‹7›,#[Zd]]]]],#[Zf,#[Zu,9,ZbP.nd,(Or.inl rfl),#[Za5,(ZnH K),T.b.n_list,boot_list,#[Za,‹3›,#[Zd]]]],#[Zj,#[Zbu,PassesOwn.never,#[Zbj,T.b.n_range,#[Za,#[Zi],#[Zd]]],#[ZB,10,ZbP.nd],#[Zf,#[Zu,11,ZbP.nd,(Or.inl rfl),#[ZD,f_sort_by,hr,#[Za,‹3›,#[Za,‹4›,#[Za,‹5›,#[Zd]]]],(by rfl)]],#[Zf,#[Z9,(@PW.pt _ _ _ (@ZiV _ _ _ _ _ _ _ (@ZmF _ _ _ _ #[ZeN,#[ZD,f_l_same,hr,#[Za,‹11›,#[Za,‹8›,#[Zd]]],(by rfl)]]) (@Zgc _ _ _ _ #[Zn,(@neD _ K _ hr (by rfl)),‹3›,‹9›,(Zs _)]))),#[Zj,#[Zp,(@ZnR _ _ _ _)]],#[ZF]],#[Zf,#[Zac,#[ZbY,QD,QH,QI,Z7,#[Zz,(ixT K),‹11›,#[Zi]],#[Za,(@Zhc _ _ _ _ _ _ Ze9 #[Zi]),#[Zd]]]],#[Zj,#[Zac,(@Zmt _ _ _ _ _ _ _ _ _ QD PySem.F.slot_list_reverse PySem.F.type_list_reverse Zgu #[Zz,(ixT K),‹11›,#[Zi]] (by rfl) (by rfl))]]]]]]]]])]])]]]],#[Zf,#[Z9,(@ZmF _ _ _ _ #[ZeN,#[ZD,f_l_same,hr,#[Za,#[ZD,f_sort_by,hr,#[Za,#[Zai,#[Zd]],#[Za,#[Zi],#[Za,#[Zi],#[Zd]]]],(by rfl)],#[Za,#[ZH,#[Za,#[Zai,#[Zd]],#[Za,#[Zi],#[Zd]]]],#[Zd]]],(by rfl)]]),#[Zj,#[Zp,(@ZnR _ _ _ _)]],#[ZF]],#[Zj,#[Zp,#[ZD,f_l_same,hr,#[Za,#[ZD,f_sort_by,hr,#[Za,#[Zai,#[Za,#[Zbm],#[Za,#[Zbm],#[Zd]]]],#[Za,#[Zi],#[Za,#[Zi],#[Zd]]]],(by rfl)],#[Za,#[ZH,#[Za,#[Zai,#[Za,#[Zi],#[Za,#[Zi],#[Zd]]]],#[Za,#[Zi],#[Zd]]]],#[Zd]]],(by rfl)]]]]],?_⟩
 clear f_l_mix f_l_left f_l_pick f_l_stems f_l_key f_alike_from f_alike f_order_at f_liken f_liken_from f_first_break f_refuse_break f_alikes f_halves f_Row_to_go f_Row_head f_Row_init f_Merge_meet f_Merge_play f_Merge_play_all f_Merge_init f_Merge_coming f_way_up f_matches_up f_Merge_play_again f_Merge_send_out f_Merge_take f_Merge_take_few f_how_many f_merged f_is_number f_merged_by f_l_things f_l_room f_run_behind f_runs_of f_near_plan f_sort_by f_l_same f_l_rounds_due f_l_in_order f_l_rest_cost f_l_least_cost
 have hlen:(sc.map V.int).length=sc.length:=by rw[Qa]
 refine⟨_,rfl,a,_,rfl,.inl hS,_,_,rfl,_,_,rfl,rfl,_,rfl,by split<;>lia,by split<;>lia,?_⟩
 refine ZaR (fun i σ H2=>∃v1 v2 v3 v4 v5 v6 v7 v8 v9 v10 v11:Option V,σ=[some (.ref a),v1,v2,v3,v4,v5,v6,v7,v8,v9,v10,v11]∧ZA H H2) ⟨_,_,_,_,_,_,_,_,_,_,_,rfl,ZA.refl _⟩ ?_ ?_
 ·rintro ii σ H2 hi ⟨v1,v2,v3,v4,v5,v6,v7,v8,v9,v10,v11,rfl,s2⟩
  have hi8:(ii:Int)<65:=by split at hi<;>lia
  clear hi
  refine⟨_,rfl,_,rfl,a,sc,_,rfl,s2.seq hS,h63,by lia,by lia,fun p H3 hp L3 s3=>?_⟩
  refine⟨_,rfl,p,0,rfl,L3,by decide,fun th0 ss0 c4 H4 hth0 hth h60' h28' L4 a1 a2 B4=>?_⟩
  have npth:p≠th0:=by obtain⟨o,ho⟩:=L3.here;exact Zc ho hth0
  have nHp:H p=none:=s2.free hp
  have B04:∀b o,H b=some o→H4 b=some o:=fun b o hb=>B4 b o (s3 b o (s2 b o hb)) (Zc hb nHp)
  refine⟨_,rfl,p,c4,rfl,L4,by lia,fun rm c5 H5 rm1 rm2 L5 b1 b2 B5=>?_⟩
  refine⟨_,rfl,p,c5,_,rfl,L5,by lia,by decide,by decide,fun pk H6 pk0 pk1 L6 B6=>⟨_,_,rfl,rfl,?_⟩⟩
  have hth6:=B6 _ _ (B5 _ _ hth npth.symm) npth.symm
  have B06:ZA H H6:=fun b o hb=>B6 _ _ (B5 _ _ (B04 b o hb) (Zc hb nHp)) (Zc hb nHp)
  obtain⟨rn,rfl⟩:∃rn:Nat,rm=(rn:Int):=⟨rm.toNat,by lia⟩
  obtain⟨wn,hwn⟩:∃wn:Nat,2+pk=(wn:Int):=⟨(2+pk).toNat,by lia⟩
  have w2:2≤wn:=by lia
  have w6:wn≤6:=by lia
  have r1:1≤rn:=by lia
  have r2:rn≤100:=by lia
  clear B6 B5 B04 B4 s3 s2 hp L3 L4 L5 L6 hth npth a1 a2 b1 b2
  refine⟨_,_,rfl,?_⟩
  refine⟨fun σ H7=>∃ (th:Addr) (ss:List Str),σ=[some (.ref a),some (.int (0+(ii:Int))),some (.ref p),some (.ref th),some (.int rn),some (.int wn),v6,v7,v8,v9,v10,v11]∧H7 th=some (.lst (ss.map V.str))∧ss.length≤60∧(∀s∈ss,s.length≤28∧AZ s)∧ZA H6 H7,?_,?_⟩
  ·refine⟨_,rfl,_,_,rfl,rfl,_,rfl,Za3 (fun d=>?_) (fun d=>?_)⟩
   ·refine⟨_,rfl,_,rfl,th0,_,rfl,SqL.of hth6,fun sl hsl=>?_⟩
    have e:ZdI (ss0.map V.str) none (some 40)=(ss0.take 40).map V.str:=by rw[show (40:Int)=((40:Nat):Int) from rfl,Zqy,QaT]
    rw[e]
    exact⟨sl,ss0.take 40,by rw[← hwn];rfl,Zb,(by rw[QC];lia),fun s hs=>h28' s (Qac hs),Zg hsl _⟩
   ·exact⟨th0,ss0,by rw[← hwn];rfl,hth6,h60',h28',ZA.refl _⟩
  rintro σ H7 ⟨th,ss,rfl,hth7,h60,h28,s7⟩
  have hk:∀s∈ss,s.length≤1000∧AZ s:=fun s hs=>⟨by have:=(h28 s hs).1;lia,(h28 s hs).2⟩
  have s07:=B06.trans s7
  clear s7 B06 hth6 h28' h60' hth0 nHp h28
  refine⟨_,rfl,_,rfl,th,ss,rn,rfl,SqL.of hth7,h60,fun s hs=>(hk s hs).1,r2,fun r ls R H8 hr0 hr1 hrl hls hrd hres _ _ s8=>?_⟩
  have nr:=Zh1 r1 hres
  have hln:(ls.map V.ref).length=R.length:=by rw[Qa];exact hrd.len
  have hRl:R.length≤60:=by
   have h1:=ZhF R fun d hd=>(Ze0 (Qar _ _) hres d hd).1
   have h2:=Zet (Qar _ _) hres
   lia
  refine⟨r,rfl,⟨_,SqL.of hr1⟩,fun D hD=>?_⟩
  refine Zbh (K:=K) (a:=r) (xs:=ls.map V.ref) (fun i zs σ H9=>(∃v:Option V,σ=[some (.ref a),some (.int (0+(ii:Int))),some (.ref p),some (.ref th),some (.int rn),some (.int wn),v6,v7,v8,v9,v10,v11,v])∧zs=(Za0 (R.take i)).map V.int∧i≤ls.length∧H9 D=some (.lst zs)∧ZA H8 H9) ?_ (fun _ _ _ _ h=>SqL.of (h.2.2.2.2 _ _ hr1)) ?_ ?_
  ·exact⟨⟨none,rfl⟩,rfl,Qv _,Zb,Zg hD _⟩
  ·rintro i y zs σ H9 hy ⟨⟨v,rfl⟩,rfl,hi,hD9,s9⟩
   rw[Qk]at hy
   cases hb:ls[i]? with
   | none=>rw[hb]at hy;cases hy
   | some b =>
   rw[hb]at hy
   cases hy
   have hil:i<ls.length:=(Qc.mp hb).1
   obtain⟨d',hd',hbd⟩:=hrd.at hb
   refine⟨_,rfl,b,_,rfl,.inl (SqL.of (s9 _ _ hbd)),hD9,(by unfold Za0;rw[Qa,Qa,QC,sizeLine_eq];lia),⟨_,rfl⟩,?_,hil,Zb,fun x o hx=>?_⟩
   ·unfold Za0
    rw[QM,hd',Qf,Qf,Qa];rfl
   ·rw[Ze (Zc hx hD)];exact s9 x o hx
  rintro zs σ H9 ⟨⟨v,rfl⟩,rfl,_,hD9,s9⟩
  rw[hln,QB (Qi _)]at hD9
  have hll:(Za0 R).length=R.length:=by unfold Za0;rw[Qa]
  have s79:=s8.trans s9
  have hth9:=s79 _ _ hth7
  have s09:=s07.trans s79
  clear s9 s8 hr1 hrl hls hrd hr0 hD hth7 s07 s79
  refine⟨fun σ H10=>∃cost:Int,σ=[some (.ref a),some (.int (0+(ii:Int))),some (.ref p),some (.ref th),some (.int rn),some (.int wn),some (.ref D),some (.int cost),v8,v9,v10,v11]∧Zgk ss R wn cost∧ZA H9 H10,?_,?_⟩
  ·refine⟨_,rfl,(by show 0≤sizeLine;decide),fun e he=>?_⟩
   have s10:=Zg he (.lst [])
   refine⟨.list ((Za0 R).map PyData.int),.list [],.lst (SqL.of (s10 _ _ hD9)) (Zfv _),.lst (SqL.of Zb) .nil,Zbw _,Zbw [],_,rfl,?_⟩
   rw[ZhO]
   refine Za3 (fun d=>?_) (fun d=>?_)
   ·have hR1:R≠[]:=by intro z;rw[z]at d;cases d
    have hRp:=Qao.mpr hR1
    refine⟨_,rfl,_,rfl,D,Za0 R,wn,rfl,SqL.of (s10 _ _ hD9),by lia,by lia,Zke R,w2,w6,fun pp H11 hg s11=>?_⟩
    obtain⟨ts,hg⟩:=hg
    obtain⟨t,rfl⟩:∃t,ts=[t]:=by
     have g1:=hg.l1
     have g2:=hg.lm
     match ts,g1,g2 with
     | [t],_,_=>exact⟨t,rfl⟩
    exact⟨pp,rfl,.inr ⟨hR1,t,hg⟩,s10.trans s11⟩
   ·have hR0:R=[]:=by
     cases R with
     | nil=>rfl
     | cons x r=>exact absurd rfl d
    exact⟨0,rfl,.inl ⟨hR0,rfl⟩,s10⟩
  rintro σ H10 ⟨cost,rfl,hC0,s10⟩
  have hth10:=s10 _ _ hth9
  refine⟨_,rfl,th,ss,rfl,SqL.of hth10,h60,fun du due H11 hdu0 hdu hdl hdm hris s11=>⟨_,rfl,(by show 2≤sizeLine;decide),fun tq htq=>?_⟩⟩
  obtain⟨dlex,dpm⟩:=Zn2 hdl hdm hris
  have s12:=Zg htq (.tup [.ref du,.int cost])
  have htq12:(upd H11 tq (.tup [.ref du,.int cost])) tq=some (.tup [.ref du,.int cost]):=Zb
  have hth12:=s12 _ _ (s11 _ _ hth10)
  have hdu12:=s12 _ _ hdu
  have s012:=s09.trans (s10.trans (s11.trans s12))
  generalize upd H11 tq (.tup [.ref du,.int cost])=H12 at htq12 hth12 hdu12 s012 ⊢
  clear s12 s11 s10 htq hdu0 hdu hth10 hth9 s09 hD9
  refine⟨_,rfl,th,_,rfl,.inl (SqL.of hth12),fun kl hkl=>?_⟩
  have s13:=Zg hkl (.lst (ss.map V.str))
  have hkl13:(upd H12 kl (.lst (ss.map V.str))) kl=some (.lst (ss.map V.str)):=Zb
  have hth13:=s13 _ _ hth12
  have hdu13:=s13 _ _ hdu12
  have htq13:=s13 _ _ htq12
  have s013:=s012.trans s13
  generalize upd H12 kl (.lst (ss.map V.str))=H13 at hkl13 hth13 hdu13 htq13 s013 ⊢
  clear s13 hkl s012 hth12 hdu12 htq12
  refine⟨_,rfl,by decide,by decide,?_⟩
  refine ZaR (fun i σ H14=>∃v10 v11:Option V,σ=[some (.ref a),some (.int (0+(ii:Int))),some (.ref p),some (.ref th),some (.int rn),some (.int wn),some (.ref D),some (.int cost),some (.ref tq),some (.ref kl),v10,v11]∧ZA H13 H14) ⟨_,_,rfl,ZA.refl _⟩ ?_ ?_
  ·rintro jj σ H14 hj ⟨v10',v11',rfl,s14⟩
   refine⟨_,rfl,_,rfl,_,rfl,th,ss,rn,wn,rfl,s14 _ _ hth13,h60,hk,r1,r2,w2,w6,fun t b out pp R2 H15 ht hb0 hb olex opm hres2 hC s15=>?_⟩
   have eR:R=R2:=ZkH hres R2 hres2
   subst eR
   have eo:out=due:=Zky olex dlex (opm.trans dpm.symm)
   subst eo
   have ep:pp=cost:=hC.one hC0
   subst ep
   have s1315:=s14.trans s15
   refine⟨_,rfl,_,rfl,_,_,rfl,Zgi ht (s1315 _ _ htq13) hb (s1315 _ _ hdu13) (by lia),fun H16 s16=>⟨_,rfl,?_⟩⟩
   have s1316:=s1315.trans s16
   refine Zcz ⟨_,rfl,_,rfl,.list (ss.map PyData.str),.list (ss.map PyData.str),.lst (SqL.of (s1316 _ _ hth13)) (Zfz ss),.lst (SqL.of (s1316 _ _ hkl13)) (Zfz ss),ZdD ss (fun s h=>(hk s h).2),ZdD ss (fun s h=>(hk s h).2),_,rfl,?_⟩
   rw[ZlN]
   refine Zcz ?_
   have ht16:=s16 _ _ ht
   have hb16:=s16 _ _ hb
   have ntb:t≠b:=ZgW ht16 hb16 (fun z=>nomatch z)
   have nb13:H13 b=none:=s14.free hb0
   refine⟨_,rfl,t,_,_,_,rfl,rfl,SqT.of ht16,rfl,Zc8 hb16,_,rfl,b,_,_,rfl,rfl,hb16,(by rw[Qa];exact Zx (by lia)),?_⟩
   have ht17:(upd H16 b (.lst (out.map V.int++[.int (-1)]))) t=some (.tup [.ref b,.int pp]):=by rw[Ze ntb];exact ht16
   refine⟨_,rfl,t,_,_,_,rfl,rfl,SqT.of ht17,rfl,Zc8 Zb,b,_,rfl,rfl,Zb,_,_,rfl,fun x o hx=>?_⟩
   have nxb:=Zc hx nb13
   rw[Ze nxb,Ze nxb]
   exact s1316 _ _ hx
  ·rintro σ H14 ⟨v10',v11',rfl,s14⟩
   exact⟨_,_,_,_,_,_,_,_,_,_,_,rfl,s013.trans s14⟩
 ·rintro σ H2 ⟨v1,v2,v3,v4,v5,v6,v7,v8,v9,v10,v11,rfl,s2⟩
  refine⟨(by show 0≤sizeLine;decide),fun e he=>?_⟩
  refine⟨e,[],4,3,rfl,Zb,by decide,(fun s h=>by cases h),by decide,by decide,by decide,by decide,fun t b out pp R H3 ht hb0 hb olex opm hres hC s3=>?_⟩
  have eo:out=[]:=QT opm.length_eq
  have ep:pp=0:=(hC.few (Zh1 (by decide) hres)).1 (by have:=Zka (ss:=[]) rfl hres;lia)
  subst eo ep
  refine⟨(by show 0≤sizeLine;decide),fun l2 hl2=>⟨(by show 2≤sizeLine;decide),fun tq htq=>?_⟩⟩
  have s4:=Zg hl2 (.lst [])
  have s5:=Zg htq (.tup [.ref l2,.int 0])
  have s45:=s4.trans s5
  refine⟨_,_,rfl,Zgi (out:=[]) (s45 _ _ ht) Zb (s45 _ _ hb) (s5 _ _ Zb) (by decide),fun H6 s6=>⟨_,rfl,Zcz ?_⟩⟩
  refine⟨(by show 2≤sizeLine;decide),fun e2 he2=>?_⟩
  refine⟨e2,["", ""],1,2,rfl,Zb,by decide,Zqn,by decide,by decide,by decide,by decide,fun t b out pp R H7 ht hb0 hb olex opm hres hC s7=>?_⟩
  have eo:out=[0,1]:=Zky olex Zpp opm
  have ep:pp=0:=(hC.few (Zh1 (by decide) hres)).1 (by have:=Zka (ss:=["", ""]) (by ac_rfl) hres;lia)
  subst eo ep
  refine⟨(by show 2≤sizeLine;decide),fun l3 hl3=>⟨(by show 2≤sizeLine;decide),fun tr htr=>?_⟩⟩
  have s8:=Zg hl3 (.lst [.int 0,.int 1])
  have s9:=Zg htr (.tup [.ref l3,.int 0])
  have s89:=s8.trans s9
  exact⟨_,_,rfl,Zgi (out:=[0,1]) (s89 _ _ ht) Zb (s89 _ _ hb) (s9 _ _ Zb) (by decide),fun H10 s10=>q H10⟩
end
theorem ZO{K:PySem.W.Frag}{h:Heap}{mg:Str→Option Value}{x:Str}{st:Stmt}{ps:List Str}{f:Addr}{od an:Option Addr}{sl:Array (Option Value)}{oc kV dc pm cd ct:Value}(X:K.In h)(G:h.Ns mainGlobals mg)
  (a:PySem.W.nsIn K mainGlobals x=some (some (.ref f))) (l:K.lookup f=some ⟨oc,od,.func (PySem.W.fnOf x x (Zo st) (Zm st) (Zh st) .none kV dc pm an cd ct),sl⟩) (c:PySem.W.codeIn K cd x=true) (k:PySem.W.keepIn K (.ref f)=true)
  (hb:∀ (kV doc pm:Value) (an:Option Addr) (cdv ct:Value) (us:List Value),us.length=ps.length→bindArgs (PySem.W.fnOf x x (Zo st) (Zm st) (Zh st) .none kV doc pm an cdv ct) ⟨us,[]⟩=pure (ps.zip us)):Top K mg x st ps :=
 ⟨_,_,ZY (st:=st) l c k,PySem.W.mg_of X G a,(ZY (st:=st) l c k).binds hb⟩
theorem Zpm{n:Nat}{us:List Value}(h:us.length=n+1):∃a r,us=a::r∧r.length=n:=by
 obtain⟨a,r,rfl⟩:=List.exists_cons_of_length_eq_add_one h
 exact⟨a,r,rfl,Nat.succ.inj h⟩
theorem ZdE(us:List Value)(h:us.length=1):∃a0,us=[a0]:=QaH.mp h
theorem ZcB(us:List Value)(h:us.length=2):∃a0 a1,us=[a0,a1]:=by
 obtain⟨a,r,rfl,g⟩:=Zpm h
 obtain⟨b0,rfl⟩:=ZdE r g
 exact⟨a,b0,rfl⟩
theorem Zi9(us:List Value)(h:us.length=3):∃a0 a1 a2,us=[a0,a1,a2]:=by
 obtain⟨a,r,rfl,g⟩:=Zpm h
 obtain⟨b0,b1,rfl⟩:=ZcB r g
 exact⟨a,b0,b1,rfl⟩
theorem Zqt(us:List Value)(h:us.length=4):∃a0 a1 a2 a3,us=[a0,a1,a2,a3]:=by
 obtain⟨a,r,rfl,g⟩:=Zpm h
 obtain⟨b0,b1,b2,rfl⟩:=Zi9 r g
 exact⟨a,b0,b1,b2,rfl⟩
theorem ZqB(us:List Value)(h:us.length=5):∃a0 a1 a2 a3 a4,us=[a0,a1,a2,a3,a4]:=by
 obtain⟨a,r,rfl,g⟩:=Zpm h
 obtain⟨b0,b1,b2,b3,rfl⟩:=Zqt r g
 exact⟨a,b0,b1,b2,b3,rfl⟩
theorem all_mk{l:PySem.W.OpenLaw}{w:World}{K:PySem.W.Frag}{h:Heap}{mg:Str→Option Value}{fa:Addr}(X:K.In h)(G:h.Ns mainGlobals mg)(hfa:mg "law" = some (.ref fa))
  {cRow:Addr}
  {cMerge:Addr}
  (aCRow:#[Xns,K,"Row",cRow]) (pgRow:PySem.W.plainGet K cRow Str.empty=true) (hdRow:PySem.W.hasDictIn K cRow=true) (poRow:PySem.W.plainOver K cRow=true) (saRow:PySem.W.findIn K (.ref cRow) "__setattr__" = some (some (.builtin "object.__setattr__"))) (mkRow:PySem.W.makesIn K cRow=true) (kcRow:#[Xki,K,cRow])
  (nARow_all_keys:PySem.W.findIn K (.ref cRow) "all_keys" = some none)
  (nARow_fars:PySem.W.findIn K (.ref cRow) "fars" = some none)
  (nARow_gone:PySem.W.findIn K (.ref cRow) "gone" = some none)
  (aCMerge:#[Xns,K,"Merge",cMerge]) (pgMerge:PySem.W.plainGet K cMerge Str.empty=true) (hdMerge:PySem.W.hasDictIn K cMerge=true) (poMerge:PySem.W.plainOver K cMerge=true) (saMerge:PySem.W.findIn K (.ref cMerge) "__setattr__" = some (some (.builtin "object.__setattr__"))) (mkMerge:PySem.W.makesIn K cMerge=true) (kcMerge:#[Xki,K,cMerge])
  (nAMerge_best:PySem.W.findIn K (.ref cMerge) "best" = some none)
  (nAMerge_likened:PySem.W.findIn K (.ref cMerge) "likened" = some none)
  (nAMerge_looked:PySem.W.findIn K (.ref cMerge) "looked" = some none)
  (nAMerge_next_number:PySem.W.findIn K (.ref cMerge) "next_number" = some none)
  (nAMerge_rows:PySem.W.findIn K (.ref cMerge) "rows" = some none)
  (nAMerge_stays:PySem.W.findIn K (.ref cMerge) "stays" = some none)
  (a0:#[Xns,K,"is_number",f0]) (l0:#[Xlk,K,f0,oc0,od0,"is_number","is_number",ZbG,kV0,dc0,pm0,an0,cd0,ct0,sl0]) (c0:#[Xci,K,cd0,"is_number"]) (k0:#[Xki,K,f0])
  (a1:#[Xns,K,"near_plan",f1]) (l1:#[Xlk,K,f1,oc1,od1,"near_plan","near_plan",ZbE,kV1,dc1,pm1,an1,cd1,ct1,sl1]) (c1:#[Xci,K,cd1,"near_plan"]) (k1:#[Xki,K,f1])
  (a2:#[Xns,K,"least_groves",f2]) (l2:#[Xlk,K,f2,oc2,od2,"least_groves","least_groves",Za2,kV2,dc2,pm2,an2,cd2,ct2,sl2]) (c2:#[Xci,K,cd2,"least_groves"]) (k2:#[Xki,K,f2])
  (a3:#[Xns,K,"least_tree",f3]) (l3:#[Xlk,K,f3,oc3,od3,"least_tree","least_tree",Zbs,kV3,dc3,pm3,an3,cd3,ct3,sl3]) (c3:#[Xci,K,cd3,"least_tree"]) (k3:#[Xki,K,f3])
  (a4:#[Xns,K,"least_grove",f4]) (l4:#[Xlk,K,f4,oc4,od4,"least_grove","least_grove",Zbe,kV4,dc4,pm4,an4,cd4,ct4,sl4]) (c4:#[Xci,K,cd4,"least_grove"]) (k4:#[Xki,K,f4])
  (a5:#[Xns,K,"least_cut",f5]) (l5:#[Xlk,K,f5,oc5,od5,"least_cut","least_cut",Zbf,kV5,dc5,pm5,an5,cd5,ct5,sl5]) (c5:#[Xci,K,cd5,"least_cut"]) (k5:#[Xki,K,f5])
  (a6:#[Xns,K,"alike",f6]) (l6:#[Xlk,K,f6,oc6,od6,"alike","alike",ZdK,kV6,dc6,pm6,an6,cd6,ct6,sl6]) (c6:#[Xci,K,cd6,"alike"]) (k6:#[Xki,K,f6])
  (a7:#[Xns,K,"liken",f7]) (l7:#[Xlk,K,f7,oc7,od7,"liken","liken",Zdz,kV7,dc7,pm7,an7,cd7,ct7,sl7]) (c7:#[Xci,K,cd7,"liken"]) (k7:#[Xki,K,f7])
  (a8:#[Xns,K,"liken_from",f8]) (l8:#[Xlk,K,f8,oc8,od8,"liken_from","liken_from",Zbp,kV8,dc8,pm8,an8,cd8,ct8,sl8]) (c8:#[Xci,K,cd8,"liken_from"]) (k8:#[Xki,K,f8])
  (a9:#[Xns,K,"alike_from",f9]) (l9:#[Xlk,K,f9,oc9,od9,"alike_from","alike_from",Zbo,kV9,dc9,pm9,an9,cd9,ct9,sl9]) (c9:#[Xci,K,cd9,"alike_from"]) (k9:#[Xki,K,f9])
  (a10:#[Xns,K,"order_at",f10]) (l10:#[Xlk,K,f10,oc10,od10,"order_at","order_at",ZbZ,kV10,dc10,pm10,an10,cd10,ct10,sl10]) (c10:#[Xci,K,cd10,"order_at"]) (k10:#[Xki,K,f10])
  (a11:#[Xns,K,"runs_of",f11]) (l11:#[Xlk,K,f11,oc11,od11,"runs_of","runs_of",ZbO,kV11,dc11,pm11,an11,cd11,ct11,sl11]) (c11:#[Xci,K,cd11,"runs_of"]) (k11:#[Xki,K,f11])
  (a12:#[Xns,K,"run_behind",f12]) (l12:#[Xlk,K,f12,oc12,od12,"run_behind","run_behind",Zbq,kV12,dc12,pm12,an12,cd12,ct12,sl12]) (c12:#[Xci,K,cd12,"run_behind"]) (k12:#[Xki,K,f12])
  (a13:#[Xns,K,"halves",f13]) (l13:#[Xlk,K,f13,oc13,od13,"halves","halves",ZcR,kV13,dc13,pm13,an13,cd13,ct13,sl13]) (c13:#[Xci,K,cd13,"halves"]) (k13:#[Xki,K,f13])
  (a14:#[Xns,K,"way_up",f14]) (l14:#[Xlk,K,f14,oc14,od14,"way_up","way_up",ZcI,kV14,dc14,pm14,an14,cd14,ct14,sl14]) (c14:#[Xci,K,cd14,"way_up"]) (k14:#[Xki,K,f14])
  (a15:#[Xns,K,"first_break",f15]) (l15:#[Xlk,K,f15,oc15,od15,"first_break","first_break",Zba,kV15,dc15,pm15,an15,cd15,ct15,sl15]) (c15:#[Xci,K,cd15,"first_break"]) (k15:#[Xki,K,f15])
  (a16:#[Xns,K,"alikes",f16]) (l16:#[Xlk,K,f16,oc16,od16,"alikes","alikes",ZcU,kV16,dc16,pm16,an16,cd16,ct16,sl16]) (c16:#[Xci,K,cd16,"alikes"]) (k16:#[Xki,K,f16])
  (a17:#[Xns,K,"refuse_break",f17]) (l17:#[Xlk,K,f17,oc17,od17,"refuse_break","refuse_break",Za4,kV17,dc17,pm17,an17,cd17,ct17,sl17]) (c17:#[Xci,K,cd17,"refuse_break"]) (k17:#[Xki,K,f17])
  (a18:#[Xns,K,"matches_up",f18]) (l18:#[Xlk,K,f18,oc18,od18,"matches_up","matches_up",Zbt,kV18,dc18,pm18,an18,cd18,ct18,sl18]) (c18:#[Xci,K,cd18,"matches_up"]) (k18:#[Xki,K,f18])
  (a19:#[Xns,K,"merged",f19]) (l19:#[Xlk,K,f19,oc19,od19,"merged","merged",Zcg,kV19,dc19,pm19,an19,cd19,ct19,sl19]) (c19:#[Xci,K,cd19,"merged"]) (k19:#[Xki,K,f19])
  (a20:#[Xns,K,"how_many",f20]) (l20:#[Xlk,K,f20,oc20,od20,"how_many","how_many",Zbx,kV20,dc20,pm20,an20,cd20,ct20,sl20]) (c20:#[Xci,K,cd20,"how_many"]) (k20:#[Xki,K,f20])
  (a21:#[Xns,K,"merged_by",f21]) (l21:#[Xlk,K,f21,oc21,od21,"merged_by","merged_by",ZaB,kV21,dc21,pm21,an21,cd21,ct21,sl21]) (c21:#[Xci,K,cd21,"merged_by"]) (k21:#[Xki,K,f21])
  (a22:#[Xns,K,"sort_by",f22]) (l22:#[Xlk,K,f22,oc22,od22,"sort_by","sort_by",ZbL,kV22,dc22,pm22,an22,cd22,ct22,sl22]) (c22:#[Xci,K,cd22,"sort_by"]) (k22:#[Xki,K,f22])
  (a23:#[Xns,K,"_law_mix",f23]) (l23:#[Xlk,K,f23,oc23,od23,"_law_mix","_law_mix",Zdq,kV23,dc23,pm23,an23,cd23,ct23,sl23]) (c23:#[Xci,K,cd23,"_law_mix"]) (k23:#[Xki,K,f23])
  (a24:#[Xns,K,"_law_left",f24]) (l24:#[Xlk,K,f24,oc24,od24,"_law_left","_law_left",ZcP,kV24,dc24,pm24,an24,cd24,ct24,sl24]) (c24:#[Xci,K,cd24,"_law_left"]) (k24:#[Xki,K,f24])
  (a25:#[Xns,K,"_law_pick",f25]) (l25:#[Xlk,K,f25,oc25,od25,"_law_pick","_law_pick",ZcZ,kV25,dc25,pm25,an25,cd25,ct25,sl25]) (c25:#[Xci,K,cd25,"_law_pick"]) (k25:#[Xki,K,f25])
  (a26:#[Xns,K,"_law_stems",f26]) (l26:#[Xlk,K,f26,oc26,od26,"_law_stems","_law_stems",ZbT,kV26,dc26,pm26,an26,cd26,ct26,sl26]) (c26:#[Xci,K,cd26,"_law_stems"]) (k26:#[Xki,K,f26])
  (a27:#[Xns,K,"_law_key",f27]) (l27:#[Xlk,K,f27,oc27,od27,"_law_key","_law_key",ZcL,kV27,dc27,pm27,an27,cd27,ct27,sl27]) (c27:#[Xci,K,cd27,"_law_key"]) (k27:#[Xki,K,f27])
  (a28:#[Xns,K,"_law_things",f28]) (l28:#[Xlk,K,f28,oc28,od28,"_law_things","_law_things",ZbX,kV28,dc28,pm28,an28,cd28,ct28,sl28]) (c28:#[Xci,K,cd28,"_law_things"]) (k28:#[Xki,K,f28])
  (a29:#[Xns,K,"_law_room",f29]) (l29:#[Xlk,K,f29,oc29,od29,"_law_room","_law_room",ZcH,kV29,dc29,pm29,an29,cd29,ct29,sl29]) (c29:#[Xci,K,cd29,"_law_room"]) (k29:#[Xki,K,f29])
  (a30:#[Xns,K,"_law_rounds_due",f30]) (l30:#[Xlk,K,f30,oc30,od30,"_law_rounds_due","_law_rounds_due",Zay,kV30,dc30,pm30,an30,cd30,ct30,sl30]) (c30:#[Xci,K,cd30,"_law_rounds_due"]) (k30:#[Xki,K,f30])
  (a31:#[Xns,K,"_law_in_order",f31]) (l31:#[Xlk,K,f31,oc31,od31,"_law_in_order","_law_in_order",ZaJ,kV31,dc31,pm31,an31,cd31,ct31,sl31]) (c31:#[Xci,K,cd31,"_law_in_order"]) (k31:#[Xki,K,f31])
  (a32:#[Xns,K,"_law_least_cost",f32]) (l32:#[Xlk,K,f32,oc32,od32,"_law_least_cost","_law_least_cost",Zax,kV32,dc32,pm32,an32,cd32,ct32,sl32]) (c32:#[Xci,K,cd32,"_law_least_cost"]) (k32:#[Xki,K,f32])
  (a33:#[Xns,K,"_law_rest_cost",f33]) (l33:#[Xlk,K,f33,oc33,od33,"_law_rest_cost","_law_rest_cost",Zbc,kV33,dc33,pm33,an33,cd33,ct33,sl33]) (c33:#[Xci,K,cd33,"_law_rest_cost"]) (k33:#[Xki,K,f33])
  (a34:#[Xns,K,"_law_same",f34]) (l34:#[Xlk,K,f34,oc34,od34,"_law_same","_law_same",Zcf,kV34,dc34,pm34,an34,cd34,ct34,sl34]) (c34:#[Xci,K,cd34,"_law_same"]) (k34:#[Xki,K,f34])
  (a35:#[Xns,K,"law",f35]) (l35:#[Xlk,K,f35,oc35,od35,"law","law",ZcA,kV35,dc35,pm35,an35,cd35,ct35,sl35]) (c35:#[Xci,K,cd35,"law"]) (k35:#[Xki,K,f35])
  (a36:#[Xfi,K,cRow,"__init__",f36]) (i36:#[Xif,K,f36]) (l36:#[Xlk,K,f36,oc36,od36,"__init__","Row.__init__",Zbb,kV36,dc36,pm36,an36,cd36,ct36,sl36]) (c36:#[Xci,K,cd36,"Row.__init__"]) (k36:#[Xki,K,f36])
  (a37:#[Xfi,K,cRow,"to_go",f37]) (i37:#[Xif,K,f37]) (l37:#[Xlk,K,f37,oc37,od37,"to_go","Row.to_go",ZaX,kV37,dc37,pm37,an37,cd37,ct37,sl37]) (c37:#[Xci,K,cd37,"Row.to_go"]) (k37:#[Xki,K,f37])
  (a38:#[Xfi,K,cRow,"head",f38]) (i38:#[Xif,K,f38]) (l38:#[Xlk,K,f38,oc38,od38,"head","Row.head",Za9,kV38,dc38,pm38,an38,cd38,ct38,sl38]) (c38:#[Xci,K,cd38,"Row.head"]) (k38:#[Xki,K,f38])
  (a39:#[Xfi,K,cMerge,"__init__",f39]) (i39:#[Xif,K,f39]) (l39:#[Xlk,K,f39,oc39,od39,"__init__","Merge.__init__",ZaH,kV39,dc39,pm39,an39,cd39,ct39,sl39]) (c39:#[Xci,K,cd39,"Merge.__init__"]) (k39:#[Xki,K,f39])
  (a40:#[Xfi,K,cMerge,"coming",f40]) (i40:#[Xif,K,f40]) (l40:#[Xlk,K,f40,oc40,od40,"coming","Merge.coming",Zal,kV40,dc40,pm40,an40,cd40,ct40,sl40]) (c40:#[Xci,K,cd40,"Merge.coming"]) (k40:#[Xki,K,f40])
  (a41:#[Xfi,K,cMerge,"take",f41]) (i41:#[Xif,K,f41]) (l41:#[Xlk,K,f41,oc41,od41,"take","Merge.take",ZaI,kV41,dc41,pm41,an41,cd41,ct41,sl41]) (c41:#[Xci,K,cd41,"Merge.take"]) (k41:#[Xki,K,f41])
  (a42:#[Xfi,K,cMerge,"take_few",f42]) (i42:#[Xif,K,f42]) (l42:#[Xlk,K,f42,oc42,od42,"take_few","Merge.take_few",ZZ,kV42,dc42,pm42,an42,cd42,ct42,sl42]) (c42:#[Xci,K,cd42,"Merge.take_few"]) (k42:#[Xki,K,f42])
  (a43:#[Xfi,K,cMerge,"looks",f43]) (i43:#[Xif,K,f43]) (l43:#[Xlk,K,f43,oc43,od43,"looks","Merge.looks",ZaO,kV43,dc43,pm43,an43,cd43,ct43,sl43]) (c43:#[Xci,K,cd43,"Merge.looks"]) (k43:#[Xki,K,f43])
  (a44:#[Xfi,K,cMerge,"play_all",f44]) (i44:#[Xif,K,f44]) (l44:#[Xlk,K,f44,oc44,od44,"play_all","Merge.play_all",Z1,kV44,dc44,pm44,an44,cd44,ct44,sl44]) (c44:#[Xci,K,cd44,"Merge.play_all"]) (k44:#[Xki,K,f44])
  (a45:#[Xfi,K,cMerge,"play",f45]) (i45:#[Xif,K,f45]) (l45:#[Xlk,K,f45,oc45,od45,"play","Merge.play",ZaK,kV45,dc45,pm45,an45,cd45,ct45,sl45]) (c45:#[Xci,K,cd45,"Merge.play"]) (k45:#[Xki,K,f45])
  (a46:#[Xfi,K,cMerge,"send_out",f46]) (i46:#[Xif,K,f46]) (l46:#[Xlk,K,f46,oc46,od46,"send_out","Merge.send_out",Z0,kV46,dc46,pm46,an46,cd46,ct46,sl46]) (c46:#[Xci,K,cd46,"Merge.send_out"]) (k46:#[Xki,K,f46])
  (a47:#[Xfi,K,cMerge,"play_again",f47]) (i47:#[Xif,K,f47]) (l47:#[Xlk,K,f47,oc47,od47,"play_again","Merge.play_again",ZQ,kV47,dc47,pm47,an47,cd47,ct47,sl47]) (c47:#[Xci,K,cd47,"Merge.play_again"]) (k47:#[Xki,K,f47])
  (a48:#[Xfi,K,cMerge,"meet",f48]) (i48:#[Xif,K,f48]) (l48:#[Xlk,K,f48,oc48,od48,"meet","Merge.meet",ZaM,kV48,dc48,pm48,an48,cd48,ct48,sl48]) (c48:#[Xci,K,cd48,"Merge.meet"]) (k48:#[Xki,K,f48])
  (z0:PySem.W.nsIn K mainGlobals "abs" = some none) (z1:PySem.W.nsIn K mainGlobals "all" = some none) (z2:PySem.W.nsIn K mainGlobals "bool" = some none) (z3:PySem.W.nsIn K mainGlobals "dict" = some none) (z4:PySem.W.nsIn K mainGlobals "enumerate" = some none) (z5:PySem.W.nsIn K mainGlobals "int" = some none) (z6:PySem.W.nsIn K mainGlobals "isinstance" = some none) (z7:PySem.W.nsIn K mainGlobals "len" = some none) (z8:PySem.W.nsIn K mainGlobals "list" = some none) (z9:PySem.W.nsIn K mainGlobals "max" = some none) (z10:PySem.W.nsIn K mainGlobals "min" = some none) (z11:PySem.W.nsIn K mainGlobals "range" = some none) (z12:PySem.W.nsIn K mainGlobals "sorted" = some none) (z13:PySem.W.nsIn K mainGlobals "str" = some none) (z14:PySem.W.nsIn K mainGlobals "sum" = some none) (z15:PySem.W.nsIn K mainGlobals "tuple" = some none) (z16:PySem.W.nsIn K mainGlobals "zip" = some none) :
  ∃fd:FuncData,(∀ (s:Shared) (v:Value),BindsTo s fd ⟨[v],[]⟩ [("_law_script",v)])∧∀base:Heap,K.In base→base.Ns mainGlobals mg→Zd3 l.prog w K mg base CX0 90 fa fd ["_law_script"] (ZjY K):=by
 have e:=hfa.symm.trans (PySem.W.mg_of X G a35)
 cases e
 have T:Zao K mg cRow cMerge:=⟨⟨QL X G z0,QL X G z1,QL X G z2,QL X G z3,QL X G z4,QL X G z5,QL X G z6,QL X G z7,QL X G z8,QL X G z9,QL X G z10,QL X G z11,QL X G z12,QL X G z13,QL X G z14,QL X G z15,QL X G z16⟩,ZO X G a0 l0 c0 k0 (fun _ _ _ _ _ _ us hl=>by obtain⟨_,rfl⟩:=ZdE us hl;exact rfl),ZO X G a1 l1 c1 k1 (fun _ _ _ _ _ _ us hl=>by obtain⟨_,_,rfl⟩:=ZcB us hl;exact rfl),ZO X G a2 l2 c2 k2 (fun _ _ _ _ _ _ us hl=>by obtain⟨_,_,rfl⟩:=ZcB us hl;exact rfl),ZO X G a3 l3 c3 k3 (fun _ _ _ _ _ _ us hl=>by obtain⟨_,_,_,_,_,rfl⟩:=ZqB us hl;exact rfl),ZO X G a4 l4 c4 k4 (fun _ _ _ _ _ _ us hl=>by obtain⟨_,_,_,_,_,rfl⟩:=ZqB us hl;exact rfl),ZO X G a5 l5 c5 k5 (fun _ _ _ _ _ _ us hl=>by obtain⟨_,_,_,_,rfl⟩:=Zqt us hl;exact rfl),ZO X G a6 l6 c6 k6 (fun _ _ _ _ _ _ us hl=>by obtain⟨_,_,rfl⟩:=ZcB us hl;exact rfl),ZO X G a7 l7 c7 k7 (fun _ _ _ _ _ _ us hl=>by obtain⟨_,_,rfl⟩:=ZcB us hl;exact rfl),ZO X G a8 l8 c8 k8 (fun _ _ _ _ _ _ us hl=>by obtain⟨_,_,_,rfl⟩:=Zi9 us hl;exact rfl),ZO X G a9 l9 c9 k9 (fun _ _ _ _ _ _ us hl=>by obtain⟨_,_,_,rfl⟩:=Zi9 us hl;exact rfl),ZO X G a10 l10 c10 k10 (fun _ _ _ _ _ _ us hl=>by obtain⟨_,_,_,rfl⟩:=Zi9 us hl;exact rfl),ZO X G a11 l11 c11 k11 (fun _ _ _ _ _ _ us hl=>by obtain⟨_,_,rfl⟩:=ZcB us hl;exact rfl),ZO X G a12 l12 c12 k12 (fun _ _ _ _ _ _ us hl=>by obtain⟨_,_,_,rfl⟩:=Zi9 us hl;exact rfl),ZO X G a13 l13 c13 k13 (fun _ _ _ _ _ _ us hl=>by obtain⟨_,rfl⟩:=ZdE us hl;exact rfl),ZO X G a14 l14 c14 k14 (fun _ _ _ _ _ _ us hl=>by obtain⟨_,_,rfl⟩:=ZcB us hl;exact rfl),ZO X G a15 l15 c15 k15 (fun _ _ _ _ _ _ us hl=>by obtain⟨_,rfl⟩:=ZdE us hl;exact rfl),ZO X G a16 l16 c16 k16 (fun _ _ _ _ _ _ us hl=>by obtain⟨_,rfl⟩:=ZdE us hl;exact rfl),ZO X G a17 l17 c17 k17 (fun _ _ _ _ _ _ us hl=>by obtain⟨_,_,rfl⟩:=ZcB us hl;exact rfl),ZO X G a18 l18 c18 k18 (fun _ _ _ _ _ _ us hl=>by obtain⟨_,_,rfl⟩:=ZcB us hl;exact rfl),ZO X G a19 l19 c19 k19 (fun _ _ _ _ _ _ us hl=>by obtain⟨_,rfl⟩:=ZdE us hl;exact rfl),ZO X G a20 l20 c20 k20 (fun _ _ _ _ _ _ us hl=>by obtain⟨_,rfl⟩:=ZdE us hl;exact rfl),ZO X G a21 l21 c21 k21 (fun _ _ _ _ _ _ us hl=>by obtain⟨_,_,_,rfl⟩:=Zi9 us hl;exact rfl),ZO X G a22 l22 c22 k22 (fun _ _ _ _ _ _ us hl=>by obtain⟨_,_,_,rfl⟩:=Zi9 us hl;exact rfl),ZO X G a23 l23 c23 k23 (fun _ _ _ _ _ _ us hl=>by obtain⟨_,_,rfl⟩:=ZcB us hl;exact rfl),ZO X G a24 l24 c24 k24 (fun _ _ _ _ _ _ us hl=>by obtain⟨_,_,rfl⟩:=ZcB us hl;exact rfl),ZO X G a25 l25 c25 k25 (fun _ _ _ _ _ _ us hl=>by obtain⟨_,_,rfl⟩:=ZcB us hl;exact rfl),ZO X G a26 l26 c26 k26 (fun _ _ _ _ _ _ us hl=>by obtain⟨_,rfl⟩:=ZdE us hl;exact rfl),ZO X G a27 l27 c27 k27 (fun _ _ _ _ _ _ us hl=>by obtain⟨_,_,rfl⟩:=ZcB us hl;exact rfl),ZO X G a28 l28 c28 k28 (fun _ _ _ _ _ _ us hl=>by obtain⟨_,rfl⟩:=ZdE us hl;exact rfl),ZO X G a29 l29 c29 k29 (fun _ _ _ _ _ _ us hl=>by obtain⟨_,rfl⟩:=ZdE us hl;exact rfl),ZO X G a30 l30 c30 k30 (fun _ _ _ _ _ _ us hl=>by obtain⟨_,_,rfl⟩:=ZcB us hl;exact rfl),ZO X G a31 l31 c31 k31 (fun _ _ _ _ _ _ us hl=>by obtain⟨_,rfl⟩:=ZdE us hl;exact rfl),ZO X G a32 l32 c32 k32 (fun _ _ _ _ _ _ us hl=>by obtain⟨_,_,rfl⟩:=ZcB us hl;exact rfl),ZO X G a33 l33 c33 k33 (fun _ _ _ _ _ _ us hl=>by obtain⟨_,_,_,_,_,rfl⟩:=ZqB us hl;exact rfl),ZO X G a34 l34 c34 k34 (fun _ _ _ _ _ _ us hl=>by obtain⟨_,_,rfl⟩:=ZcB us hl;exact rfl),⟨_,_,ZY (st:=Zbb) l36 c36 k36,⟨mkRow,a36,i36,kcRow⟩,(ZY (st:=Zbb) l36 c36 k36).binds (ps:=["self", "keys"]) (fun _ _ _ _ _ _ us hl=>by obtain⟨_,_,rfl⟩:=ZcB us hl;exact rfl),PySem.W.mg_of X G aCRow⟩,⟨_,_,ZY (st:=ZaX) l37 c37 k37,⟨a37,i37,k37⟩,(ZY (st:=ZaX) l37 c37 k37).binds (ps:=["self"]) (fun _ _ _ _ _ _ us hl=>by obtain⟨_,rfl⟩:=ZdE us hl;exact rfl)⟩,⟨_,_,ZY (st:=Za9) l38 c38 k38,⟨a38,i38,k38⟩,(ZY (st:=Za9) l38 c38 k38).binds (ps:=["self"]) (fun _ _ _ _ _ _ us hl=>by obtain⟨_,rfl⟩:=ZdE us hl;exact rfl)⟩,⟨_,_,ZY (st:=ZaH) l39 c39 k39,⟨mkMerge,a39,i39,kcMerge⟩,(ZY (st:=ZaH) l39 c39 k39).binds (ps:=["self", "rows"]) (fun _ _ _ _ _ _ us hl=>by obtain⟨_,_,rfl⟩:=ZcB us hl;exact rfl),PySem.W.mg_of X G aCMerge⟩,⟨_,_,ZY (st:=Zal) l40 c40 k40,⟨a40,i40,k40⟩,(ZY (st:=Zal) l40 c40 k40).binds (ps:=["self"]) (fun _ _ _ _ _ _ us hl=>by obtain⟨_,rfl⟩:=ZdE us hl;exact rfl)⟩,⟨_,_,ZY (st:=ZaI) l41 c41 k41,⟨a41,i41,k41⟩,(ZY (st:=ZaI) l41 c41 k41).binds (ps:=["self"]) (fun _ _ _ _ _ _ us hl=>by obtain⟨_,rfl⟩:=ZdE us hl;exact rfl)⟩,⟨_,_,ZY (st:=ZZ) l42 c42 k42,⟨a42,i42,k42⟩,(ZY (st:=ZZ) l42 c42 k42).binds (ps:=["self", "many"]) (fun _ _ _ _ _ _ us hl=>by obtain⟨_,_,rfl⟩:=ZcB us hl;exact rfl)⟩,⟨_,_,ZY (st:=ZaO) l43 c43 k43,⟨a43,i43,k43⟩,(ZY (st:=ZaO) l43 c43 k43).binds (ps:=["self"]) (fun _ _ _ _ _ _ us hl=>by obtain⟨_,rfl⟩:=ZdE us hl;exact rfl)⟩,⟨_,_,ZY (st:=Z1) l44 c44 k44,⟨a44,i44,k44⟩,(ZY (st:=Z1) l44 c44 k44).binds (ps:=["self"]) (fun _ _ _ _ _ _ us hl=>by obtain⟨_,rfl⟩:=ZdE us hl;exact rfl)⟩,⟨_,_,ZY (st:=ZaK) l45 c45 k45,⟨a45,i45,k45⟩,(ZY (st:=ZaK) l45 c45 k45).binds (ps:=["self", "numbers"]) (fun _ _ _ _ _ _ us hl=>by obtain⟨_,_,rfl⟩:=ZcB us hl;exact rfl)⟩,⟨_,_,ZY (st:=Z0) l46 c46 k46,⟨a46,i46,k46⟩,(ZY (st:=Z0) l46 c46 k46).binds (ps:=["self", "number"]) (fun _ _ _ _ _ _ us hl=>by obtain⟨_,_,rfl⟩:=ZcB us hl;exact rfl)⟩,⟨_,_,ZY (st:=ZQ) l47 c47 k47,⟨a47,i47,k47⟩,(ZY (st:=ZQ) l47 c47 k47).binds (ps:=["self", "meeting", "comer"]) (fun _ _ _ _ _ _ us hl=>by obtain⟨_,_,_,rfl⟩:=Zi9 us hl;exact rfl)⟩,⟨_,_,ZY (st:=ZaM) l48 c48 k48,⟨a48,i48,k48⟩,(ZY (st:=ZaM) l48 c48 k48).binds (ps:=["self", "one", "other", "far"]) (fun _ _ _ _ _ _ us hl=>by obtain⟨_,_,_,_,rfl⟩:=Zqt us hl;exact rfl)⟩,⟨pgRow,hdRow,poRow,saRow⟩,nARow_all_keys,nARow_fars,nARow_gone,⟨pgMerge,hdMerge,poMerge,saMerge⟩,nAMerge_best,nAMerge_likened,nAMerge_looked,nAMerge_next_number,nAMerge_rows,nAMerge_stays⟩
 exact⟨PySem.W.fnOf "law" "law" (Zo ZcA) (Zm ZcA) (Zh ZcA) .none kV35 dc35 pm35 an35 cd35 ct35,fun s v=>.of_eq rfl,fun base _ _=>ZqP (ZY (st:=ZcA) l35 c35 k35) T⟩
theorem walk{l:PySem.W.OpenLaw}{q:Program}{loose:List Str}{XP:(Str→Option Value)→Heap→Prop}{YP:World→Heap→Prop}{d:DefRec}{K:Params→PySem.W.Frag}(hn:l.most=some 63)(hdf:d.params.defaults=[])
  (hY:∀ (w:World) (h:Heap),YP w h→(K w.params).In h)
  (F:∀ (w:World) (mg:Str→Option Value) (fa:Addr) (h:Heap),(K w.params).In h→h.Ns mainGlobals mg→mg d.name=some (.ref fa) →
   ∃fd:FuncData,(∀ (s:Shared) (u:Value),BindsTo s fd ⟨[u],[]⟩ [("_law_script",u)])∧∀base:Heap,(K w.params).In base→base.Ns mainGlobals mg→Zd3 l.prog w (K w.params) mg base CX0 90 fa fd ["_law_script"] (ZjY (K w.params))) :
  PySem.W.WalkO q loose XP YP l.row.toRowW d [] (fun f vs=>PySem.call f vs) :=
 L2.walk_of (n:=63) (k:=90) (x := "_law_script") (CX:=fun _=>CX0) (sp:=fun w=>ZjY (K w.params)) hn (by decide) hdf ⟨rfl,by decide,by decide,rfl⟩ hY F (fun _ _ a ns hl _ hS=>⟨a,ns,rfl,hS,hl,fun _=>rfl⟩) fun _ _ _ _ _ z=>z
end My
open PySem PySem.W PyProof.Rows
namespace PySem.W.Fast
def tw13401769258271155399:=0
def tw14161809611124018110:=0
def tw16910428525123973545:=0
def tw16146216317023275403:=0
def tw7344329633704009451:=0
def tw14185585076201855266:=0
def tw3431796716757482274:=0
def tw11630803947225675428:=0
def tw15821082152393558449:=0
def tw3635824181619977896:=0
def tw4347435795243162538:=0
def tw3714061352956225205:=0
def tw10775059174031089909:=0
def tw5659874998642894581:=0
def tw14599921112834256300:=0
def tw11388418948898847895:=0
def tw18243554079105656249:=0
def tw14176767965129554173:=0
def tw4362206770264274036:=0
def tw6028641340364976067:=0
def tw2327036150315026168:=0
def tw5878429767882610458:=0
def tw585281171822543005:=0
def tw10595491891047191444:=0
def tw17858185269734893355:=0
def tw8415401144338507003:=0
def tw13083931788038285284:=0
def tw7670803429546487113:=0
def tw17682794466429646850:=0
def tw14655952360918381082:=0
def tw15877509626603128550:=0
def tw16013539916762254238:=0
def tw6190064175026673897:=0
def tw10136319302300514954:=0
def tw1731011384255205195:=0
def tw18285282831212593489:=0
def tw16316381717785990211:=0
def tw7921934910546894752:=0
def tw11718620561545993583:=0
def tw7628350910929592312:=0
def tw18262867117920197850:=0
def tw5348933487123930591:=0
def tw11202236657935348:=0
def tw10509755132371421884:=0
def tw15750826755580429121:=0
def tw958769965126634108:=0
def tw17428800847758652709:=0
def tw12283315054446457647:=0
def tw17192102833826306490:=0
def tw10111417736995963397:=0
def tw14655810687168817013:=0
def tw14290945062841005103:=0
def tw6408545766114527099:=0
def tw9434175553252636289:=0
def tw14636952919485376558:=0
def tw5814860304668678771:=0
def tw4233323840057514889:=0
def tw17194583035911876878:=0
def tw17908648067714480875:=0
def tw1783398929703444855:=0
def tw13263275131402125208:=0
def tw10021457821717038839:=0
def tw6449799452024488944:=0
def tw16591447853465242529:=0
def tw6284121339855076802:=0
def tw8699856979604187644:=0
def tw16286658673063188084:=0
def tw5492738759223148293:=0
def tw7428133797171184922:=0
def tw18037863516467443322:=0
def tw2858603626391291834:=0
def tw2444039689468437210:=0
def tw8599542379665975422:=0
def tw4216960572565585514:=0
def tw7240988268433471795:=0
def tw14937443804886533798:=0
def tw11143187917001315589:=0
def tw3257445017906550512:=0
def tw7243739105707722325:=0
def tw8387110207286924864:=0
def tw3478652654876098205:=0
def tw17938109082983987126:=0
def tw13706362428388623944:=0
def tw2074510081730499058:=0
def tw4096972145785068337:=0
def tw1258828244972959272:=0
def tw16061604715515055129:=0
def tw9331558567025257308:=0
def tw191300663382689868:=0
def tw16445913545577864126:=0
def tw10067047497869800713:=0
def tw17605127693811044138:=0
def tw12227191828936202912:=0
def tw8695278335661765641:=0
def tw13529537299893967283:=0
def tw2797488578740658990:=0
def tw12818323462675475993:=0
def tw15613158398707525935:=0
def tw18412907031836806782:=0
def tw10597842469615396309:=0
def tw16428734787110318178:=0
def tw9457040676257581764:=0
def tw8642694047033374795:=0
def tw1410993858902193513:=0
def tw14681937580267218559:=0
def tw17101149271128437634:=0
def tw17912939270603181892:=0
def tw105411703541736961:=0
def tw11501130751003289326:=0
def tw13092794652878308612:=0
def tw515153902089111903:=0
def tw11164517862081225004:=0
def tw9041531004628743802:=0
def tw16780706086404931246:=0
def tw15896097068990485205:=0
def tw10951032549438470225:=0
def tw6834649351844193151:=0
def tw766358151624241788:=0
def tw8995429777584169024:=0
def tw4372221638230096390:=0
def tw4187425814964474351:=0
def tw15183296983436036640:=0
def tw3667872772777182491:=0
def tw11030676460541723112:=0
def tw7008874502729271304:=0
def tw3334538663148023409:=0
def tw12243083101938423338:=0
def tw17453422942890367145:=0
def tw11483885953509393763:=0
def tw16513569191434230731:=0
def tw6198091038572955904:=0
def tw2649033812039644765:=0
def tw4999248279134570214:=0
def tw14992987090368612793:=0
def tw3559542963067911158:=0
def tw5863252994181448202:=0
def tw10548105944868499632:=0
def tw16324172782900387290:=0
def tw14255735610175969661:=0
def tw10488598671573760043:=0
def tw8621628333603165684:=0
def tw9894829813477554288:=0
def tw338790624100685573:=0
def tw776623865633141500:=0
def tw9055732343386469615:=0
def tw9151724014016406549:=0
def tw9061761678072881079:=0
def tw7682980574615560560:=0
def tw1259324432814301480:=0
def tw3167337707011109802:=0
def tw17593507081664145904:=0
def tw3012674764475439299:=0
def tw16320995914194762682:=0
def tw13170575327393164300:=0
def tw9644963151211004123:=0
def tw1189801659233394134:=0
def tw8451269089163859154:=0
def tw13185352352137052843:=0
def tw6322200268546753114:=0
def tw11514595667526384138:=0
def tw6767117149756484883:=0
def tw2663530984304895058:=0
def tw16499210170486544801:=0
def tw8583720509465386408:=0
def tw17301984863350229752:=0
def tw8874954589011879727:=0
def tw10529499843417632873:=0
def tw16747865527934526989:=0
def tw5973898423925460625:=0
def tw15169816077166730985:=0
def tw12097574371054475245:=0
def tw11895310731160027404:=0
def tw558671324358623308:=0
def tw9731990988852146887:=0
def tw10592006108732677991:=0
def tw940006169667672359:=0
def tw5574019950232787302:=0
def tw11089775601698800453:=0
def tw4142160730869254390:=0
def tw14299596579156999684:=0
def tw227539922214777764:=0
def tw17211178419697391780:=0
def tw9275839271513048857:=0
def tw5859556474950999817:=0
def tw4136760266337720912:=0
def tw17514168830489177450:=0
def tw11879516312539438308:=0
def tw4055184301354033826:=0
def tw4318087204228360265:=0
def tw4219387714883030120:=0
def tw17889069850185244500:=0
def tw8433523372685019489:=0
def tw2505215845068588737:=0
def tw5294795836646312845:=0
def tw5477807497109661095:=0
def tw3202400200760561608:=0
def tw17893334663370055941:=0
def tw6261849165679754935:=0
def tw14257959374891467199:=0
def tw4461215789797446219:=0
def tw11514536990839607092:=0
def tw9398623474820711546:=0
def tw14266464012748981940:=0
def tw3821815428618245401:=0
def tw12229400280627384706:=0
def tw369697108761482408:=0
def tw12768220807512241097:=0
def tw37638958268665666:=0
def tw1302671944868805375:=0
def tw14215710899874016265:=0
def tw6872366562756420527:=0
def tw5969874079482911462:=0
def tw13922093099764753805:=0
def tw11438886029900032885:=0
def tw1266861134910082065:=0
def tw3817942949120444127:=0
def tw63487816346414581:=0
def tw14866621950702417708:=0
def tw2566476502244935744:=0
def tw5571472730237578996:=0
def tw12454641428326273314:=0
def tw7830538722793238676:=0
def tw9325888107362335989:=0
def tw8649447671183873624:=0
def tw18161564509493944042:=0
def tw15625406329387616137:=0
def tw15872649666722625088:=0
def tw17985329617981000785:=0
def tw987063515232321746:=0
def tw5106933499168012534:=0
def tw9546461091942931642:=0
def tw17287016526251639878:=0
def tw11086559092355774344:=0
def tw2730573710475731827:=0
def tw14008674119054628865:=0
def tw6404656009750624135:=0
def tw16743777714781424054:=0
def tw10652530317834281390:=0
def tw8540186363584731410:=0
def tw16847924005416889508:=0
def tw5702414487734894425:=0
def tw1072000283179855105:=0
def tw6416264410102286777:=0
def tw3738037626366866584:=0
def tw12965436999335192610:=0
def tw1126830106835779292:=0
def tw5131843851147369727:=0
def tw6245868844968746763:=0
def tw1267952313805248242:=0
def tw6722408714861213263:=0
def tw13620736886685791788:=0
def tw3312926181815129344:=0
def tw12138851998883515766:=0
def tw13368329337002267815:=0
def tw2508998188688509528:=0
def tw14501504856579753671:=0
def tw8536728577973925751:=0
def tw7561484088025359473:=0
def tw14587987213818538711:=0
def tw16628348860748212862:=0
def tw10400144685713268189:=0
def tw12015981389383977761:=0
def tw14157328438669135078:=0
def tw829394080651534302:=0
def tw13203807085578820482:=0
def tw1820721072496796208:=0
def tw15028558858290734969:=0
def tw7896452310703364619:=0
def tw10025153871368562902:=0
def tw18091448348941026538:=0
def tw3087081354871951680:=0
def tw3258078655849029131:=0
def tw5264595945060466705:=0
def tw11297738129748673973:=0
def tw5207052645120884681:=0
def tw418864986059489390:=0
def tw2424623605333553872:=0
def tw6507461875359435143:=0
def tw3721235466986067305:=0
def tw9948461869369701153:=0
def tw17570925865382568285:=0
def tw12944551033205635663:=0
def tw10632639233763051868:=0
def tw13435935726549905526:=0
def tw10865918178721654908:=0
def tw10369452186275342536:=0
def tw4330751491953738630:=0
def tw10439259188612758006:=0
def tw8283943963075571038:=0
def tw3392828155234407964:=0
def tw1554328489966119465:=0
def tw7617336197403167280:=0
def tw319416065405112720:=0
def tw16687544586523445781:=0
def tw10332726147525734444:=0
def tw3683833519357058267:=0
def tw2284163345851405257:=0
def tw15513382185108661463:=0
def tw2583254715711825290:=0
def tw8457467993543738463:=0
def tw8674003513101603764:=0
def tw7427014425640280073:=0
def tw13311983524183485541:=0
def tw17725431427914830279:=0
def tw8567491192634187827:=0
def tw17398106469453295567:=0
def tw9263757486923802076:=0
def tw8662531553735292917:=0
def tw1876062368702637262:=0
def tw13754321705758355704:=0
def tw8604222469374138638:=0
def tw9813659740124475605:=0
def tw4880576557544128121:=0
def tw7656771473302402414:=0
def tw13538044085733341656:=0
def tw7605402625797270820:=0
def tw12358949635124085689:=0
def tw1248555851438839371:=0
def tw12519856144890896621:=0
def tw432077090860384884:=0
def tw5706091304627789602:=0
end PySem.W.Fast
set_option maxRecDepth 100000 in
set_option maxHeartbeats 0 in
theorem PySem.Challenge.cw_mergetree_k47_sorts_and_their_costs_holds : PySem.Challenge.rw_mergetree_k47_sorts_and_their_costs.Holds := by
 w_on;o_law;k_head;(case hw=>w_witness2)
 k_fill
 refine My.walk (l:=PySem.Challenge.rw_mergetree_k47_sorts_and_their_costs) rfl rfl (fun w h Y=>PySem.W.kIn_of Y) ?F
 case F =>
  intro w mg fa h KX G hmg
  refine' My.all_mk KX G hmg ?aCRow ?pgRow ?hdRow ?poRow ?saRow ?mkRow ?kcRow ?nARow_all_keys ?nARow_fars ?nARow_gone ?aCMerge ?pgMerge ?hdMerge ?poMerge ?saMerge ?mkMerge ?kcMerge ?nAMerge_best ?nAMerge_likened ?nAMerge_looked ?nAMerge_next_number ?nAMerge_rows ?nAMerge_stays ?a0 ?l0 ?c0 ?k0 ?a1 ?l1 ?c1 ?k1 ?a2 ?l2 ?c2 ?k2 ?a3 ?l3 ?c3 ?k3 ?a4 ?l4 ?c4 ?k4 ?a5 ?l5 ?c5 ?k5 ?a6 ?l6 ?c6 ?k6 ?a7 ?l7 ?c7 ?k7 ?a8 ?l8 ?c8 ?k8 ?a9 ?l9 ?c9 ?k9 ?a10 ?l10 ?c10 ?k10 ?a11 ?l11 ?c11 ?k11 ?a12 ?l12 ?c12 ?k12 ?a13 ?l13 ?c13 ?k13 ?a14 ?l14 ?c14 ?k14 ?a15 ?l15 ?c15 ?k15 ?a16 ?l16 ?c16 ?k16 ?a17 ?l17 ?c17 ?k17 ?a18 ?l18 ?c18 ?k18 ?a19 ?l19 ?c19 ?k19 ?a20 ?l20 ?c20 ?k20 ?a21 ?l21 ?c21 ?k21 ?a22 ?l22 ?c22 ?k22 ?a23 ?l23 ?c23 ?k23 ?a24 ?l24 ?c24 ?k24 ?a25 ?l25 ?c25 ?k25 ?a26 ?l26 ?c26 ?k26 ?a27 ?l27 ?c27 ?k27 ?a28 ?l28 ?c28 ?k28 ?a29 ?l29 ?c29 ?k29 ?a30 ?l30 ?c30 ?k30 ?a31 ?l31 ?c31 ?k31 ?a32 ?l32 ?c32 ?k32 ?a33 ?l33 ?c33 ?k33 ?a34 ?l34 ?c34 ?k34 ?a35 ?l35 ?c35 ?k35 ?a36 ?i36 ?l36 ?c36 ?k36 ?a37 ?i37 ?l37 ?c37 ?k37 ?a38 ?i38 ?l38 ?c38 ?k38 ?a39 ?i39 ?l39 ?c39 ?k39 ?a40 ?i40 ?l40 ?c40 ?k40 ?a41 ?i41 ?l41 ?c41 ?k41 ?a42 ?i42 ?l42 ?c42 ?k42 ?a43 ?i43 ?l43 ?c43 ?k43 ?a44 ?i44 ?l44 ?c44 ?k44 ?a45 ?i45 ?l45 ?c45 ?k45 ?a46 ?i46 ?l46 ?c46 ?k46 ?a47 ?i47 ?l47 ?c47 ?k47 ?a48 ?i48 ?l48 ?c48 ?k48 ?z0 ?z1 ?z2 ?z3 ?z4 ?z5 ?z6 ?z7 ?z8 ?z9 ?z10 ?z11 ?z12 ?z13 ?z14 ?z15 ?z16
  (case aCRow=>k_is)
  (case pgRow=>k_is)
  (case hdRow=>k_is)
  (case poRow=>k_is)
  (case saRow=>k_is)
  (case mkRow=>k_is)
  (case kcRow=>k_is)
  (case nARow_all_keys=>k_is)
  (case nARow_fars=>k_is)
  (case nARow_gone=>k_is)
  (case aCMerge=>k_is)
  (case pgMerge=>k_is)
  (case hdMerge=>k_is)
  (case poMerge=>k_is)
  (case saMerge=>k_is)
  (case mkMerge=>k_is)
  (case kcMerge=>k_is)
  (case nAMerge_best=>k_is)
  (case nAMerge_likened=>k_is)
  (case nAMerge_looked=>k_is)
  (case nAMerge_next_number=>k_is)
  (case nAMerge_rows=>k_is)
  (case nAMerge_stays=>k_is)
  (case a0|l0|c0|k0=>k_is)
  (case a1|l1|c1|k1=>k_is)
  (case a2|l2|c2|k2=>k_is)
  (case a3|l3|c3|k3=>k_is)
  (case a4|l4|c4|k4=>k_is)
  (case a5|l5|c5|k5=>k_is)
  (case a6|l6|c6|k6=>k_is)
  (case a7|l7|c7|k7=>k_is)
  (case a8|l8|c8|k8=>k_is)
  (case a9|l9|c9|k9=>k_is)
  (case a10|l10|c10|k10=>k_is)
  (case a11|l11|c11|k11=>k_is)
  (case a12|l12|c12|k12=>k_is)
  (case a13|l13|c13|k13=>k_is)
  (case a14|l14|c14|k14=>k_is)
  (case a15|l15|c15|k15=>k_is)
  (case a16|l16|c16|k16=>k_is)
  (case a17|l17|c17|k17=>k_is)
  (case a18|l18|c18|k18=>k_is)
  (case a19|l19|c19|k19=>k_is)
  (case a20|l20|c20|k20=>k_is)
  (case a21|l21|c21|k21=>k_is)
  (case a22|l22|c22|k22=>k_is)
  (case a23|l23|c23|k23=>k_is)
  (case a24|l24|c24|k24=>k_is)
  (case a25|l25|c25|k25=>k_is)
  (case a26|l26|c26|k26=>k_is)
  (case a27|l27|c27|k27=>k_is)
  (case a28|l28|c28|k28=>k_is)
  (case a29|l29|c29|k29=>k_is)
  (case a30|l30|c30|k30=>k_is)
  (case a31|l31|c31|k31=>k_is)
  (case a32|l32|c32|k32=>k_is)
  (case a33|l33|c33|k33=>k_is)
  (case a34|l34|c34|k34=>k_is)
  (case a35|l35|c35|k35=>k_is)
  (case a36|i36|l36|c36|k36=>k_is)
  (case a37|i37|l37|c37|k37=>k_is)
  (case a38|i38|l38|c38|k38=>k_is)
  (case a39|i39|l39|c39|k39=>k_is)
  (case a40|i40|l40|c40|k40=>k_is)
  (case a41|i41|l41|c41|k41=>k_is)
  (case a42|i42|l42|c42|k42=>k_is)
  (case a43|i43|l43|c43|k43=>k_is)
  (case a44|i44|l44|c44|k44=>k_is)
  (case a45|i45|l45|c45|k45=>k_is)
  (case a46|i46|l46|c46|k46=>k_is)
  (case a47|i47|l47|c47|k47=>k_is)
  (case a48|i48|l48|c48|k48=>k_is)
  (case z0=>k_is)
  (case z1=>k_is)
  (case z2=>k_is)
  (case z3=>k_is)
  (case z4=>k_is)
  (case z5=>k_is)
  (case z6=>k_is)
  (case z7=>k_is)
  (case z8=>k_is)
  (case z9=>k_is)
  (case z10=>k_is)
  (case z11=>k_is)
  (case z12=>k_is)
  (case z13=>k_is)
  (case z14=>k_is)
  (case z15=>k_is)
  (case z16=>k_is)
