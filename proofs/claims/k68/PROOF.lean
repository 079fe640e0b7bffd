import PyProof.Rows.All
import Wide.All
import OpenK.AllK
import Wide.FinOn
import Lean
import PyProof.EqAt
import PyProof.EqKinds
import PyProof.TupleCall
import PyProof.AttrMissHeap
import KE.KEqDict
import KE.KItemsList
import PyProof.WalksMore
import PySem.Challenge.RW_mergetree_k68_whole_sorts_beside_sorted
set_option maxHeartbeats 4000000
set_option maxRecDepth 100000
set_option Elab.async false
set_option linter.all false
local macro_rules|`(tactic|ac_rfl)=>`(tactic|decide +kernel)
abbrev Qa:=@List.length_map
abbrev Qb:=@List.getElem?_eq_getElem
abbrev Qc:=@List.getElem?_eq_some_iff
abbrev Qd:=@List.mem_singleton
abbrev Qe:=@List.map_append
abbrev Qf:=@List.mem_append
abbrev Qg:=@List.length_append
abbrev Qh:=@Nat.le_refl
abbrev Qi:=@List.getElem?_map
abbrev Qj:=@List.map_cons
abbrev Qk:=@List.length_singleton
abbrev Ql:=@List.getD_eq_getElem?_getD
abbrev Qm:=@List.mem_map_of_mem
abbrev Qn:=@List.mem_append_right
abbrev Qo:=@PySem.Heap.get?_push_of_some
abbrev Qp:=@Option.some.inj
abbrev Qq:=@List.mem_of_getElem?
abbrev Qr:=@List.mem_append_left
abbrev Qs:=@PySem.boot_len
abbrev Qt:=@List.mem_map
abbrev Qu:=@List.mem_cons_of_mem
abbrev Qv:=@Nat.zero_le
abbrev Qw:=@List.size_toArray
abbrev Qx:=@List.take_of_length_le
abbrev Qy:=@List.mem_of_mem_erase
abbrev Qz:=@List.length_take
abbrev QA:=@List.map_map
abbrev QB:=@PySem.Heap.lt_size
abbrev QC:=@Bool.false_ne_true
abbrev QD:=@List.length_cons
abbrev QE:=@List.getElem?_eq_none
abbrev QF:=@PySem.F.plainAttrs_list
abbrev QG:=@Nat.lt_of_lt_of_le
abbrev QH:=@List.take_add_one
abbrev QI:=@List.mem_cons
abbrev QJ:=@PySem.Heap.get?_push_size
abbrev QK:=@List.map_congr_left
abbrev QL:=@PySem.F.slot_list_append
abbrev QM:=@PySem.F.type_list_append
abbrev QN:=@List.getElem?_append_right
abbrev QO:=@List.eq_nil_of_length_eq_zero
abbrev QP:=@Nat.le_trans
abbrev QR:=@List.append_nil
abbrev QS:=@List.getElem?_append_left
abbrev QT:=@PySem.W.mg_none_of
abbrev QU:=@Nat.ne_of_lt
abbrev QV:=@List.length_drop
abbrev QW:=@List.nodup_append
abbrev QX:=@List.mem_range
abbrev QY:=@List.pairwise_singleton
abbrev QZ:=@List.getElem_mem
abbrev Q0:=@List.sum_cons
abbrev Q1:=@List.length_pos_of_mem
abbrev Q3:=@List.nodup_cons
abbrev Q4:=@List.mem_cons_self
abbrev Q5:=@PySem.W.kia_one
abbrev Q6:=@PySem.Heap.get?_update_of_ne
abbrev Q7:=@List.pairwise_iff_getElem
abbrev Q8:=@List.filterMap_cons
abbrev Q9:=@List.length_erase_of_mem
abbrev Qaa:=@List.zip_cons_cons
abbrev Qab:=@List.mem_of_mem_take
abbrev Qac:=@List.map_nil
abbrev Qad:=@Int.toNat_natCast
abbrev Qae:=@List.append_assoc
abbrev Qaf:=@List.ext_getElem?
abbrev Qag:=@List.range_succ
abbrev Qah:=@PySem.mem_of_lookup
abbrev Qai:=@List.getElem?_range
abbrev Qaj:=@PyProof.Rows.callWith_type1
abbrev Qak:=@List.getLastD_eq_getLast?
abbrev Qal:=@List.sum_append
abbrev Qam:=@List.find?_cons
abbrev Qan:=@List.mem_of_mem_drop
abbrev Qao:=@List.getElem?_of_mem
abbrev Qap:=@List.Perm.refl
abbrev Qaq:=@Nat.le_succ
abbrev Qar:=@Nat.lt_of_le_of_lt
abbrev Qas:=@List.find?_cons_of_neg
abbrev Qat:=@Nat.add_sub_cancel
abbrev Qau:=@Nat.lt_irrefl
abbrev Qav:=@List.reverse_cons
abbrev Qaw:=@List.length_range
abbrev Qax:=@List.mem_erase_of_ne
abbrev Qay:=@List.pairwise_append
abbrev Qaz:=@Bool.and_eq_true
abbrev QaA:=@List.lookup_cons
abbrev QaB:=@Nat.min_le_right
abbrev QaC:=@List.getElem?_eq_none_iff
abbrev QaD:=@Array.length_toList
abbrev QaE:=@List.length_pos_iff
abbrev QaF:=@List.any_cons
abbrev QaG:=@List.map_take
abbrev QaH:=@List.getLast?_eq_getLast
abbrev QaI:=@Int.emod_lt_of_pos
abbrev QaJ:=@Int.le_refl
abbrev QaK:=@Option.map_eq_some_iff
abbrev QaL:=@List.Pairwise.map
abbrev QaM:=@List.length_eq_one_iff
abbrev QaN:=@Int.add_zero
abbrev QaO:=@List.pairwise_map
abbrev QaP:=@List.flatMap_cons
abbrev QaQ:=@List.flatten_cons
abbrev QaT:=@List.mem_reverse
namespace L2
open PySem PySem.Spec PyProof.Rows
abbrev Key:=Sum Int Str
def Zgl:Key→Value→Bool
 | .inl k,v=>Value.isInt k v
 | .inr x,v=>Value.isStrOf x v
def Ztm(w:World):Key→Int
 | .inl k=>hashInt k
 | .inr x=>hashStr w x
theorem Zan:∀ {k:Key} {v:Value},Zgl k v=true→(∃i t,k=Sum.inl i∧v=Value.int i t)∨(∃x t,k=Sum.inr x∧v=Value.str x t)
 | .inl i,v,h=>by
  obtain⟨t,e⟩:=Value.isInt_shape (k:=i) (v:=v) h
  exact .inl ⟨i,t,rfl,e⟩
 | .inr x,v,h=>by
  obtain⟨t,e⟩:=Value.isStrOf_shape (x:=x) (v:=v) h
  exact .inr ⟨x,t,rfl,e⟩
theorem Zlb(i:Int)(t:Tok):Zgl (.inl i) (.int i t)=true:=by simp[Zgl,Value.isInt]
theorem Zk5(x:Str)(t:Tok):Zgl (.inr x) (.str x t)=true:=by simp[Zgl,Value.isStrOf]
theorem Zqt(a b:Int):decide ((Sum.inl a:Key)=Sum.inl b)=(a == b):=by
 by_cases e:a=b
 ·subst e;simp
 ·have h:¬ (Sum.inl a:Key)=Sum.inl b:=fun q=>e (Sum.inl.inj q)
  rw[decide_eq_false h]
  exact(beq_eq_false_iff_ne.mpr e).symm
theorem ZqD(a b:Str):decide ((Sum.inr a:Key)=Sum.inr b)=decide (a=b):=by
 by_cases e:a=b
 ·subst e;simp
 ·have h:¬ (Sum.inr a:Key)=Sum.inr b:=fun q=>e (Sum.inr.inj q)
  rw[decide_eq_false h,decide_eq_false e]
theorem ZqV(a:Int)(b:Str):decide ((Sum.inl a:Key)=Sum.inr b)=false:=decide_eq_false (fun q=>nomatch q)
theorem Zqf(a:Str)(b:Int):decide ((Sum.inr a:Key)=Sum.inl b)=false:=decide_eq_false (fun q=>nomatch q)
def ZL(prog:Program)(w:World):PySem.KeyKind prog w Key where
 is:=Zgl
 hash:=Ztm w
 inj:=fun v a b ha hb=>by
  rcases Zan ha with⟨i,t,rfl,rfl⟩|⟨x,t,rfl,rfl⟩
  ·rcases Zan hb with⟨j,u,rfl,e⟩|⟨y,u,rfl,e⟩
   ·injection e with e1 _;rw[e1]
   ·exact nomatch e
  ·rcases Zan hb with⟨j,u,rfl,e⟩|⟨y,u,rfl,e⟩
   ·exact nomatch e
   ·injection e with e1 _;rw[e1]
 byValue:=fun k v h=>by
  rcases Zan h with⟨i,t,rfl,rfl⟩|⟨x,t,rfl,rfl⟩<;>rfl
 pyHash:=fun hv h=>by
  rcases Zan hv with⟨i,t,rfl,rfl⟩|⟨x,t,rfl,rfl⟩
  ·exact wpAny_pyHash_int h
  ·exact wpAny_pyHash_str h
 eqBool:=fun hu hv h=>by
  rcases Zan hu with⟨i,t,rfl,rfl⟩|⟨x,t,rfl,rfl⟩
  ·rcases Zan hv with⟨j,u,rfl,rfl⟩|⟨y,u,rfl,rfl⟩
   ·rw[Zqt]at h;exact wpAny_eqBool_int h
   ·rw[ZqV]at h;exact SeqAt.EqAt.int_str i t y u _ _ _ _ h
  ·rcases Zan hv with⟨j,u,rfl,rfl⟩|⟨y,u,rfl,rfl⟩
   ·rw[Zqf]at h;exact SeqAt.EqAt.str_int x t j u _ _ _ _ h
   ·rw[ZqD]at h;exact wpAny_eqBool_str h
 «strs»:=fun k x t v h=>by
  rcases Zan h with⟨i,u,rfl,e⟩|⟨y,u,rfl,e⟩
  ·exact nomatch e
  ·injection e with e1 _
   subst e1
   cases v<;>rfl
theorem Zj7(prog:Program)(w:World)(k:Key)(v:Value):(ZL prog w).is k v=Zgl k v:=rfl
theorem Zfg(prog:Program)(w:World)(i:Int)(t:Tok):(ZL prog w).is (.inl i) (.int i t)=true:=Zlb i t
theorem Zfb(prog:Program)(w:World)(x:Str)(t:Tok):(ZL prog w).is (.inr x) (.str x t)=true:=Zk5 x t
inductive V where
 | non|bl (b:Bool)|int (i:Int)|str (x:Str)|byt (b:Array UInt8)|flt (b:UInt64)|ref (a:Addr)|ty (n:String)
 deriving DecidableEq
def ZC:V→Value→Prop
 | .non,u=>u=Value.none
 | .bl b,u=>u=Value.bool b
 | .int i,u=>∃t,u=Value.int i t
 | .str x,u=>∃t,u=Value.str x t
 | .byt b,u=>∃t,u=Value.bytes b t
 | .flt b,u=>∃t,u=Value.float b t
 | .ref a,u=>u=Value.ref a
 | .ty n,u=>u=Value.type n
abbrev Zy:List V→List Value→Prop:=Paired ZC
theorem Zy.length{xs:List V}{us:List Value}(r:Zy xs us):xs.length=us.length:=Paired.length r
theorem Zy.get:∀ {xs:List V} {us:List Value} {i:Nat} {x:V},Zy xs us→xs[i]? = some x→∃u,us[i]? = some u∧ZC x u
 | _,_,_,_,.nil,e=>by simp at e
 | _,_,0,_,.cons r _,e=>by simp at e;subst e;exact⟨_,rfl,r⟩
 | _,_,i+1,x,.cons _ t,e=>by
  obtain⟨u,h1,h2⟩:=Zy.get (i:=i) (x:=x) t (by simpa using e)
  exact⟨u,by simpa using h1,h2⟩
theorem Zy.set{x:V}{u:Value}(r:ZC x u):∀ {xs:List V} {us:List Value} (i:Nat),Zy xs us→Zy (xs.set i x) (us.set i u)
 | _,_,_,.nil=>.nil
 | _,_,0,.cons _ t=>.cons r t
 | _,_,i+1,.cons q t=>.cons q (Zy.set r i t)
theorem Zy.append:∀ {xs ys:List V} {us ws:List Value},Zy xs us→Zy ys ws→Zy (xs++ys) (us++ws)
 | _,_,_,_,.nil,s=>s
 | _,_,_,_,.cons r t,s=>.cons r (Zy.append t s)
theorem Zy.take:∀ {xs:List V} {us:List Value} (n:Nat),Zy xs us→Zy (xs.take n) (us.take n)
 | _,_,0,_=>.nil
 | _,_,_+1,.nil=>.nil
 | _,_,n+1,.cons r t=>.cons r (Zy.take n t)
theorem Zy.drop:∀ {xs:List V} {us:List Value} (n:Nat),Zy xs us→Zy (xs.drop n) (us.drop n)
 | _,_,0,r=>r
 | _,_,_+1,.nil=>.nil
 | _,_,n+1,.cons _ t=>Zy.drop n t
def Zdo:Option V→Option Value→Prop
 | some v,some u=>ZC v u
 | none,none=>True
 | _,_=>False
def KV{κ:Type}:List (κ×V)→List (κ×Value)→Prop:=Paired fun (p:κ×V) (q:κ×Value)=>p.1=q.1∧ZC p.2 q.2
def kV:Key→V
 | .inl i=>.int i
 | .inr x=>.str x
inductive HO where
  | lst (xs:List V)
  | tup (xs:List V)
  | dK (kvs:List (Key×V))|dT (kvs:List (List Key×V))
  | set (S:Int→Bool) (n:Nat)
  | ins (C dx:Addr) (fs:List (Str×V))
  | own (x:Addr)
  | xd (fs:List (Str×V))
  | met (f x:Addr)
  | rng (lo hi:Int)
  | frz (o:Obj) (u:HO)
  | tbl (ps:Array Value)
  | ext (φ:Heap→Prop)
abbrev Hp:=Addr→Option HO
def upd(H:Hp)(a:Addr)(o:HO):Hp:=fun b=>if b=a then some o else H b
theorem Zb{H:Hp}{a:Addr}{o:HO}:upd H a o a=some o:=by unfold upd;rw[if_pos rfl]
theorem Ze{H:Hp}{a b:Addr}{o:HO}(h:b≠a):upd H a o b=H b:=by unfold upd;rw[if_neg h]
theorem Zku{H:Hp}{a b:Addr}{o u:HO}(h:H a=some o)(h':H b=some u)(d:o≠u):a≠b:=by
 intro e;subst e;rw[h]at h';exact d (Qp h')
theorem Zc{H:Hp}{a b:Addr}{o:HO}(h:H a=some o)(h':H b=none):a≠b:=by
 intro e;subst e;rw[h]at h';cases h'
section
variable (P:Program) (w:World)
def Zaw(H:Hp)(h:Heap)(a:Addr):HO→Prop
 | .lst xs=>xs.length≤sizeLine∧∃ (its:List Value) (n:Nat),Zy xs its∧h.get? a=some { cls:=.type "list",data:=.seq its.toArray n }
 | .tup xs=>xs.length≤sizeLine∧∃its:List Value,Zy xs its∧IsTup h a its.toArray
 | .dK kvs=>kvs.length≤sizeLine∧(a == sysModules)=false∧∃vs,KV kvs vs∧h.DictOf (ZL P w) a vs
 | .dT kvs=>kvs.length≤sizeLine∧(a == sysModules)=false∧∃xs:List (List Key×Addr×Value),
   Paired (fun (p:List Key×V) (q:List Key×Addr×Value)=>p.1=q.1∧H q.2.1=some (.tup (p.1.map kV))∧ZC p.2 q.2.2) kvs xs ∧
   ∃o es ep,h.get? a=some o∧o.ExactDict∧o.data=.dict es ep∧es.toList=xs.map (entryOfKey (tupleKind (ZL P w)))∧(xs.map (·.1)).Nodup
 | .set S n=>h.SetOf (intKind P w) a S n
 | .ins C dx fs=>H dx=some (.own a)∧fs.length≤1000∧dx≠a∧h.get? a=some (PySem.W.instObj C dx) ∧
   ∃mA,h.Ns1 dx mA∧(∀f,Zdo (fs.lookup f) (mA f))∧PySem.Within mA (fs.map (·.1))
 | .own _=>∃o,h.get? a=some o
 | .xd fs=>∃mA,h.Ns1 a mA∧∀f,Zdo (fs.lookup f) (mA f)
 | .rng lo hi=>∃t u v,h.get? a=some { cls:=.type "range",data:=.fields #[.int lo t,.int hi u,.int 1 v] }
 | .frz o u=>h.get? a=some o∧Zaw H h a u
 | .tbl ps=>h.get? a=some { cls:=.none,data:=.fields ps }
 | .met f x=>h.get? a=some (PySem.W.methodObj (.ref f) (.ref x))
 | .ext φ=>φ h∧(∃o,h.get? a=some o)∧∀h1 h2:Heap,φ h1→(∀o,h1.get? a=some o→h2.get? a=some o)→φ h2
def HOk(H:Hp)(h:Heap):Prop:=∀a o,H a=some o→Zaw P w H h a o
end
section
variable {P:Program} {w:World} {H H':Hp} {h h':Heap} {a:Addr} {o:HO}
theorem Zaw.lt(x:Zaw P w H h a o):a<h.objs.size:=by
 cases o with
 | lst xs=>obtain⟨_,_,_,_,e⟩:=x;exact QB e
 | tup xs=>obtain⟨_,_,_,p⟩:=x;exact p.lt
 | dK kvs=>obtain⟨_,_,_,_,o,_,_,e,_⟩:=x;exact QB e
 | dT kvs=>obtain⟨_,_,_,_,o,_,_,e,_⟩:=x;exact QB e
 | set S n=>obtain⟨o,_,_,_,e,_⟩:=x;exact QB e
 | ins C dx fs=>obtain⟨_,_,_,e,_⟩:=x;exact QB e
 | own y=>obtain⟨_,e⟩:=x;exact QB e
 | xd fs=>obtain⟨_,⟨_,_,_,e,_⟩,_⟩:=x;exact QB e
 | rng lo hi=>obtain⟨_,_,_,e⟩:=x;exact QB e
 | frz ob u=>obtain⟨e,_⟩:=x;exact QB e
 | tbl ps=>exact QB (show h.get? a=some _ from x)
 | met f y=>exact QB (show h.get? a=some _ from x)
 | ext φ=>obtain⟨_,⟨_,e⟩,_⟩:=x;exact QB e
theorem Paired.mapP{α β:Type}{F G:α→β→Prop}:∀ {l₁:List α} {l₂:List β},Paired F l₁ l₂→(∀a b,F a b→G a b)→Paired G l₁ l₂
 | _,_,.nil,_=>.nil
 | _,_,.cons r t,f=>.cons (f _ _ r) (Paired.mapP t f)
theorem Zaw.stay(x:Zaw P w H h a o)(k:∀b u,(b=a∨H b=some (.own a))→h.get? b=some u→h'.get? b=some u)
  (ho:∀b,H b=some (.own a)→H' b=some (.own a)) (ht:∀b xs,H b=some (.tup xs)→H' b=some (.tup xs)):Zaw P w H' h' a o:=by
 induction o with
 | lst xs=>obtain⟨z,its,n,r,e⟩:=x;exact⟨z,its,n,r,k _ _ (.inl rfl) e⟩
 | tup xs=>obtain⟨z,its,r,ob,e,c⟩:=x;exact⟨z,its,r,ob,k _ _ (.inl rfl) e,c⟩
 | dK kvs=>obtain⟨z,y,vs,r,ob,es,ep,e,c⟩:=x;exact⟨z,y,vs,r,ob,es,ep,k _ _ (.inl rfl) e,c⟩
 | dT kvs =>
  obtain⟨z,y,xs,r,ob,es,ep,e,c⟩:=x
  exact⟨z,y,xs,Paired.mapP r fun p q z=>⟨z.1,ht _ _ z.2.1,z.2.2⟩,ob,es,ep,k _ _ (.inl rfl) e,c⟩
 | set S n=>obtain⟨ob,es,ep,t,e,c⟩:=x;exact⟨ob,es,ep,t,k _ _ (.inl rfl) e,c⟩
 | ins C dx fs =>
  obtain⟨d,z,ne,e,mA,⟨od,es,ep,e2,c⟩,r⟩:=x
  exact⟨ho _ d,z,ne,k _ _ (.inl rfl) e,mA,⟨od,es,ep,k _ _ (.inr d) e2,c⟩,r⟩
 | own y=>obtain⟨ob,e⟩:=x;exact⟨ob,k _ _ (.inl rfl) e⟩
 | xd fs=>obtain⟨mA,⟨od,es,ep,e,c⟩,r⟩:=x;exact⟨mA,⟨od,es,ep,k _ _ (.inl rfl) e,c⟩,r⟩
 | rng lo hi=>obtain⟨t,u,v,e⟩:=x;exact⟨t,u,v,k _ _ (.inl rfl) e⟩
 | frz ob u ih=>obtain⟨e,q⟩:=x;exact⟨k _ _ (.inl rfl) e,ih q⟩
 | tbl ps =>
  have e:h.get? a=some { cls:=.none,data:=.fields ps }:=x
  show h'.get? a=some { cls:=.none,data:=.fields ps }
  exact k a _ (.inl rfl) e
 | met f y =>
  have e:h.get? a=some (PySem.W.methodObj (.ref f) (.ref y)):=x
  show h'.get? a=some (PySem.W.methodObj (.ref f) (.ref y))
  exact k a _ (.inl rfl) e
 | ext φ=>obtain⟨p,⟨o,e⟩,st⟩:=x;exact⟨st _ _ p fun o q=>k _ _ (.inl rfl) q,⟨o,k _ _ (.inl rfl) e⟩,st⟩
theorem HOk.lt(x:HOk P w H h)(e:H a=some o):a<h.objs.size:=(x a o e).lt
theorem HOk.fresh(x:HOk P w H h)(e:h.objs.size≤a):H a=none:=by
 cases q:H a with
 | none=>rfl
 | some u=>exact absurd (QG (x.lt q) e) (Qau _)
theorem HOk.kept(x:HOk P w H h)(k:∀b u,h.get? b=some u→h'.get? b=some u):HOk P w H h':=fun a o e =>
 (x a o e).stay (fun b u _ q=>k b u q) (fun _ q=>q) fun _ _ q=>q
theorem HOk.laid(x:HOk P w H h)(k:∀b u,h.get? b=some u→h'.get? b=some u)(hp:h.objs.size≤a)(new:Zaw P w (upd H a o) h' a o):HOk P w (upd H a o) h':=fun b u e=>by
 have hn:=x.fresh hp
 by_cases hb:b=a
 ·subst hb;rw[Zb]at e;cases e;exact new
 ·rw[Ze hb]at e
  exact(x b u e).stay (fun c v _ q=>k c v q) (fun c q=>by rw[Ze (Zc q hn)];exact q) fun c xs q=>by rw[Ze (Zc q hn)];exact q
end
def Rd(H:Hp)(a:Addr)(u:HO):Prop:=H a=some u∨∃o,H a=some (.frz o u)
theorem Rd.ok{P:Program}{w:World}{H:Hp}{h:Heap}{a:Addr}{u:HO}(r:Rd H a u)(x:HOk P w H h):Zaw P w H h a u:=by
 rcases r with r|⟨o,r⟩
 ·exact x a u r
 ·obtain⟨_,q⟩:=x a _ r
  exact q
def Mut:Option HO→Prop
 | some (.lst _)=>True
 | some (.dK _)=>True
 | some (.dT _)=>True
 | some (.set _ _)=>True
 | some (.ins _ _ _)=>True
 | some (.ext _)=>True
 | _=>False
section
variable {P:Program} {w:World} {H:Hp} {h h':Heap} {x e:Addr} {o':HO}
theorem HOk.write(ok:HOk P w H h)(mu:Mut (H x))(he:e=x∨H e=some (.own x))(k:∀b u,b≠e→h.get? b=some u→h'.get? b=some u)(heo:∃u,h'.get? e=some u)
  (new:Zaw P w (upd H x o') h' x o'):HOk P w (upd H x o') h':=fun b u q=>by
 have nown:∀c y,H c=some (.own y)→c≠x:=fun c y r z=>by subst z;rw[r]at mu;exact mu
 have ntup:∀c xs,H c=some (.tup xs)→c≠x:=fun c xs r z=>by subst z;rw[r]at mu;exact mu
 by_cases hb:b=x
 ·subst hb;rw[Zb]at q;cases q;exact new
 ·rw[Ze hb]at q
  by_cases hbe:b=e
  ·have q':H b=some (.own x):=by
    rcases he with z|z
    ·exact absurd (hbe.trans z) hb
    ·rw[hbe];exact z
   rw[q]at q';cases q'
   obtain⟨v,hv⟩:=heo
   exact⟨v,by rw[hbe];exact hv⟩
  ·refine(ok b u q).stay (fun c v hc r=>k c v ?_ r) (fun c r=>by rw[Ze (nown c b r)];exact r) fun c xs r=>by rw[Ze (ntup c xs r)];exact r
   rcases hc with rfl|hc
   ·exact hbe
   ·rintro rfl
    rcases he with z|z
    ·exact nown c b hc z
    ·rw[hc]at z;cases z;exact hb rfl
end
structure Un (fs ex:List Addr) (H H':Hp) (h h':Heap):Prop where
 keep:∀b o,h.get? b=some o→H b=none→b ∉ fs→b ∉ ex→h'.get? b=some o
 slot:∀b o,h.get? b=some o→H b=none→b∈fs→b ∉ ex→∃sl,h'.get? b=some { o with slots:=sl }
 free:∀b o,h.get? b=some o→H b=none→b ∉ ex→H' b=none
 there:∀b o,h.get? b=some o→b ∉ ex→∃o',h'.get? b=some o'
 tups:∀b xs,H b=some (.tup xs)→H' b=some (.tup xs)
 frzs:∀b o u,H b=some (.frz o u)→H' b=some (.frz o u)
 tbls:∀b ps,H b=some (.tbl ps)→∃more,H' b=some (.tbl (ps++more))
section
variable {fs fs' ex ex':List Addr} {H H1 H2:Hp} {h h1 h2 h':Heap} {a x e:Addr} {o:HO}
theorem Un.any(u:Un fs ex H H1 h h1){b:Addr}{ob:Obj}(q:h.get? b=some ob)(n:H b=none)(hx:b ∉ ex):∃sl,h1.get? b=some { ob with slots:=sl }:=by
 by_cases hb:b∈fs
 ·exact u.slot b ob q n hb hx
 ·exact⟨ob.slots,u.keep b ob q n hb hx⟩
theorem Un.kept(k:∀b u,h.get? b=some u→h'.get? b=some u):Un fs ex H H h h' :=
 ⟨fun b ob q _ _ _=>k b ob q,fun b ob q _ _ _=>⟨ob.slots,k b ob q⟩,fun _ _ _ n _=>n,fun b ob q _=>⟨ob,k b ob q⟩,fun _ _ q=>q,fun _ _ _ q=>q,fun _ ps q=>⟨#[],by rw[q];simp⟩⟩
theorem Un.refl:Un fs ex H H h h:=Un.kept fun _ _ q=>q
theorem Un.laid(k:∀b u,h.get? b=some u→h'.get? b=some u)(hp:h.objs.size≤a)(hn:H a=none):Un fs ex H (upd H a o) h h' where
 keep:=fun b u q _ _ _=>k b u q
 slot:=fun b u q _ _ _=>⟨u.slots,k b u q⟩
 free:=fun b u q n _=>by rw[Ze (QU (QG (QB q) hp))];exact n
 there:=fun b u q _=>⟨u,k b u q⟩
 tups:=fun b xs q=>by rw[Ze (Zc q hn)];exact q
 frzs:=fun b u xs q=>by rw[Ze (Zc q hn)];exact q
 tbls:=fun b ps q=>⟨#[],by rw[Ze (Zc q hn),q];simp⟩
theorem Un.write(mu:Mut (H x))(he:e=x∨H e=some (.own x))(k:∀b u,b≠e→h.get? b=some u→h'.get? b=some u)(heo:∃u,h'.get? e=some u):Un fs ex H (upd H x o) h h':=by
 have hx:∀b,H b=none→b≠x:=fun b n z=>by subst z;rw[n]at mu;exact mu
 have hb:∀b,H b=none→b≠e:=fun b n z=>by
  subst z
  rcases he with r|r
  ·exact hx b n r
  ·rw[n]at r;cases r
 have hm:∀b u,H b=some u→¬ Mut (some u)→b≠x:=fun b u q nm z=>by subst z;rw[q]at mu;exact nm mu
 refine⟨fun b u q n _ _=>k b u (hb b n) q,fun b u q n _ _=>⟨u.slots,k b u (hb b n) q⟩,fun b u q n _=>by rw[Ze (hx b n)];exact n,fun b u q _=>?_,
  fun b xs q=>by rw[Ze (hm b _ q fun z=>z)];exact q,fun b u xs q=>by rw[Ze (hm b _ q fun z=>z)];exact q,fun b ps q=>⟨#[],by rw[Ze (hm b _ q fun z=>z),q];simp⟩⟩
 by_cases hbe:b=e
 ·subst hbe;exact heo
 ·exact⟨u,k b u hbe q⟩
end
def trk(h:Heap)(H:Hp):List Addr:=(List.range h.objs.size).filter fun a=>(H a).isSome
def Zib(h:Heap)(H:Hp):Heap:=PySem.W.hideAll h (trk h H)
theorem Zlr(h:Heap)(H:Hp):(Zib h H).objs.size=h.objs.size:=PySem.W.hideAll_size _ _
theorem ZmM{h:Heap}{H:Hp}{b:Addr}{o:Obj}(e:h.get? b=some o)(n:H b=none):(Zib h H).get? b=some o :=
 PySem.W.hideAll_get _ e fun hm=>by
  have q:(H b).isSome=true:=(List.mem_filter.mp hm).2
  rw[n]at q;simp at q
theorem ZpF{h:Heap}{H:Hp}{b:Addr}{o:Obj}(e:(Zib h H).get? b=some o):h.get? b=some o∧H b=none:=by
 have e':h.get? b=some o:=PySem.W.of_hideAll (trk h H) e
 refine⟨e',?_⟩
 cases q:H b with
 | none=>rfl
 | some x =>
  have hm:b∈trk h H:=List.mem_filter.mpr ⟨QX.mpr (QB e'),by simp[q]⟩
  have z:(Zib h H).get? b=none:=PySem.W.hideAll_none (trk h H) hm
  rw[z]at e;cases e
def Zo8(g h:Heap)(L:Addr):List (Addr×Obj):=(List.range h.objs.size).filterMap fun a=>if a=L∨(g.get? a).isSome=true then none else (h.get? a).map fun o=>(a,o)
def rest(g h:Heap)(L d:Addr):List (Addr×Obj):=(Zo8 g h L).filter fun p=>decide (p.1≠d)
structure Mod (K:PySem.W.Frag) (mg:Str→Option Value) (base:Heap):Prop where
 kin:K.In base
 glob:base.Ns mainGlobals mg
 blt:∃mb,base.Ns builtinsNs mb∧∀x:Str,x ≠ "__name__"→mb x=bootBuiltins x
 nolimit:base.NoLimit
structure Cx where
 prog:Program
 w:World
 K:PySem.W.Frag
 mg:Str→Option Value
 base:Heap
 A:Around
 N:List Str
 s₀:Shared
 H₀:Hp
 env:Env
 outer:List Env
 stack:List Env
 ex:List Addr
 fn:Str→Bool
 calm:Bool
 pn:List (Addr×Obj)
 xe:Value→Shared→Prop
def frs(l:List Env):List Addr:=l.filterMap (·.frame)
abbrev Cx.fs(X:Cx):List Addr:=frs X.outer
def Vis(sc:Scope)(x:Str):Prop:=sc.names.lookup x=some .local∨sc.names.lookup x=some .cell∨sc.names.lookup x=some .free
def Loc(sc:Scope)(x:Str):Prop:=sc.names.lookup x=some .local∨sc.names.lookup x=some .cell
def Ztb(env:Env)(h:Heap)(m:Str→Option Value)(x:Str)(u:Value):Prop :=
 (env.kindOf x=some .local∧m x=some u)∨((env.kindOf x=some .cell∨env.kindOf x=some .free)∧∃c,env.cells.lookup x=some c∧h.IsCell c (some u))
structure Cx.Ok (X:Cx):Prop where
 mod:Mod X.K X.mg X.base
 kind:X.env.scope.kind=.function
 glob:X.env.globals=mainGlobals
 blt:X.env.builtins=builtinsNs
 above:X.s₀.heap.objs.size≤X.env.locals
 inj:∀x y c,X.env.cells.lookup x=some c→X.env.cells.lookup y=some c→x=y
 has:∀x,(X.env.kindOf x=some .cell∨X.env.kindOf x=some .free)→∃c,X.env.cells.lookup x=some c
 cab:∀x c,X.fn x=true→X.env.cells.lookup x=some c→X.s₀.heap.objs.size≤c
 hd:X.calm=true→X.A.handled=none
 frames:X.A.frames=some X.stack
 stk:X.stack=X.outer∨(X.stack=X.env::X.outer∧X.env.frame=some X.env.locals)
 exf:∀b∈X.ex,b≠X.env.locals∧∀x c,X.env.cells.lookup x=some c→c≠b
 bs:∀b o,X.base.get? b=some o→X.s₀.heap.get? b=some o∧X.H₀ b=none
 bsz:X.base.objs.size≤X.s₀.heap.objs.size
 noex:∀b o,X.base.get? b=some o→b ∉ X.ex
 exfs:∀b∈X.ex,b ∉ X.fs
 funs:X.s₀.heap.FunFrames X.base X.outer
 frf:∀b∈X.fs,X.H₀ b=none
structure Inv (X:Cx) (pins:List (Addr×Obj)) (σ:List (Option V)) (H:Hp) (s:Shared):Prop where
 ok:X.Ok
 os:s.os=X.s₀.os
 bare:AllBare s.gens
 base:Un X.fs X.ex X.H₀ H X.s₀.heap s.heap
 loc:∃m,s.heap.Ns X.env.locals m∧∀ (i:Nat) (x:Str) (v:V),X.N[i]? = some x→σ[i]? = some (some v)→Vis X.env.scope x→∃u,ZC v u∧Ztb X.env s.heap m x u
 cell:∀x c,X.env.cells.lookup x=some c→∃v,s.heap.IsCell c v
 free:H X.env.locals=none
 freeC:∀x c,X.env.cells.lookup x=some c→H c=none
 pin:∀p∈X.pn++pins,s.heap.get? p.1=some p.2∧H p.1=none∧p.1≠X.env.locals∧p.1 ∉ X.fs∧∀v,p.2.data≠.cell v
 hok:HOk X.prog X.w H s.heap
 len:σ.length=X.N.length
section
variable {X:Cx} {pins:List (Addr×Obj)} {σ:List (Option V)} {H H':Hp} {s:Shared} {h':Heap}
theorem Cx.Ok.nofr(ok:X.Ok){b:Addr}{o:Obj}(e:X.base.get? b=some o):b ∉ X.fs:=fun hb=>by
 have:=(ok.funs.mem hb).1
 rw[e]at this;cases this
theorem Inv.bs(I:Inv X pins σ H s):∀b o,X.base.get? b=some o→s.heap.get? b=some o∧H b=none:=fun b o e =>
 ⟨I.base.keep b o (I.ok.bs b o e).1 (I.ok.bs b o e).2 (I.ok.nofr e) (I.ok.noex b o e),I.base.free b o (I.ok.bs b o e).1 (I.ok.bs b o e).2 (I.ok.noex b o e)⟩
theorem Inv.bk(I:Inv X pins σ H s):∀b o,X.base.get? b=some o→s.heap.get? b=some o:=fun b o e=>(I.bs b o e).1
theorem Inv.mod(I:Inv X pins σ H s):Mod X.K X.mg X.base:=I.ok.mod
theorem Inv.kIn(I:Inv X pins σ H s):X.K.In s.heap:=I.ok.mod.kin.keeps I.bk
theorem Inv.lt(I:Inv X pins σ H s):X.env.locals<s.heap.objs.size:=let ⟨_,hn,_⟩:=I.loc;hn.lt
theorem Inv.sz(I:Inv X pins σ H s):X.s₀.heap.objs.size≤s.heap.objs.size:=QP I.ok.above (Nat.le_of_lt I.lt)
theorem Inv.nofs(I:Inv X pins σ H s){a:Addr}(h:s.heap.objs.size≤a):a ∉ X.fs:=fun hb=>by
 obtain⟨_,o,ho,_⟩:=I.ok.funs.mem hb
 exact absurd (QG (QB ho) (QP I.sz h)) (Qau _)
theorem Inv.cne(I:Inv X pins σ H s):∀x c,X.env.cells.lookup x=some c→c≠X.env.locals:=fun x c e z=>by
 obtain⟨v,o,ho,hd⟩:=I.cell x c e
 obtain⟨m,⟨o',es,ep,ho',hd',_⟩,_⟩:=I.loc
 rw[z,ho']at ho;cases ho;rw[hd']at hd;cases hd
theorem Inv.funs(I:Inv X pins σ H s):s.heap.FunFrames X.base X.outer:=by
 have all:∀ (l:List Env),(∀b∈frs l,b∈X.fs)→X.s₀.heap.FunFrames X.base l→s.heap.FunFrames X.base l:=by
  intro l
  induction l with
  | nil=>intro _ _;trivial
  | cons env r ih =>
   intro hs hl
   obtain⟨hk,⟨L,o,hf,hn,ho,hd⟩,hr⟩:=hl
   have hL:L∈X.fs:=hs L (by unfold frs;rw[Q8,hf];exact Q4)
   obtain⟨sl,e⟩:=I.base.slot L o ho (I.ok.frf L hL) hL fun z=>I.ok.exfs L z hL
   exact⟨hk,⟨L,_,hf,hn,e,hd⟩,ih (fun b hb=>hs b (by unfold frs;rw[Q8,hf];exact Qu _ hb)) hr⟩
 exact all X.outer (fun _ hb=>hb) I.ok.funs
theorem Inv.stack(I:Inv X pins σ H s):s.heap.FunFrames X.base X.stack:=by
 rcases I.ok.stk with e|⟨e,hf⟩
 ·rw[e];exact I.funs
 ·rw[e]
  obtain⟨m,hn,_⟩:=I.loc
  refine .cons (by rw[I.ok.kind];decide) hf hn ?_ I.funs
  exact Heap.get?_none_of_le (QP I.ok.bsz I.ok.above)
theorem Inv.stkSub(I:Inv X pins σ H s):∀b∈frs X.stack,b∈X.env.locals::X.fs:=fun b hb=>by
 rcases I.ok.stk with e|⟨e,hf⟩
 ·rw[e]at hb;exact Qu _ hb
 ·rw[e]at hb
  unfold frs at hb
  rw[Q8,hf]at hb
  exact hb
theorem Inv.stkFree(I:Inv X pins σ H s):∀b∈frs X.stack,H b=none:=fun b hb=>by
 rcases QI.mp (I.stkSub b hb) with e|hb
 ·rw[e];exact I.free
 ·obtain⟨_,o,ho,_⟩:=I.ok.funs.mem hb
  exact I.base.free b o ho (I.ok.frf b hb) fun z=>I.ok.exfs b z hb
theorem Inv.step{g':Array GenState}{t':Nat}{d':Drawn}{ch:List Addr}(I:Inv X pins σ H s)
  (hch:∀b∈ch,(b∈X.ex∨X.s₀.heap.objs.size≤b)∧b≠X.env.locals∧(∀x c,X.env.cells.lookup x=some c→c≠b)∧∀p∈X.pn++pins,p.1≠b)
  (keep:∀b o,b≠X.env.locals→b ∉ X.fs→b ∉ ch→s.heap.get? b=some o→H b=none→h'.get? b=some o)
  (slot:∀b o,b≠X.env.locals→b∈X.fs→b ∉ ch→s.heap.get? b=some o→H b=none→∃sl,h'.get? b=some { o with slots:=sl }) (free:∀b o,b ∉ ch→s.heap.get? b=some o→H b=none→H' b=none)
  (there:∀b o,b ∉ ch→s.heap.get? b=some o→∃o',h'.get? b=some o')
  (tups:∀b xs,H b=some (.tup xs)→H' b=some (.tup xs)) (frzs:∀b o u,H b=some (.frz o u)→H' b=some (.frz o u)) (tbls:∀b ps,H b=some (.tbl ps)→∃more,H' b=some (.tbl (ps++more)))
  (ns:∀m,s.heap.Ns X.env.locals m→h'.Ns X.env.locals m) (hok:HOk X.prog X.w H' h') (hg:AllBare g') :
  Inv X pins σ H' { s with heap:=h',gens:=g',drawn:=d',toks:=t' }:=by
 have neL:∀b o,X.s₀.heap.get? b=some o→b≠X.env.locals:=fun b o e=>QU (QG (QB e) I.ok.above)
 have neC:∀b o,X.s₀.heap.get? b=some o→b ∉ X.ex→b ∉ ch:=fun b o e hx hb=>by
  rcases(hch b hb).1 with z|z
  ·exact hx z
  ·exact absurd (QG (QB e) z) (Qau _)
 have cellK:∀x c,X.env.cells.lookup x=some c→∀v,s.heap.IsCell c v→h'.IsCell c v:=fun x c e v ⟨o,ho,hd⟩=>by
  have nch:c ∉ ch:=fun z=>(hch c z).2.2.1 x c e rfl
  by_cases hc:c∈X.fs
  ·obtain⟨sl,q⟩:=slot c o (I.cne x c e) hc nch ho (I.freeC x c e)
   exact⟨_,q,hd⟩
  ·exact⟨o,keep c o (I.cne x c e) hc nch ho (I.freeC x c e),hd⟩
 refine⟨I.ok,I.os,hg,⟨fun b o e n hb hx=>?_,fun b o e n hb hx=>?_,fun b o e n hx=>?_,fun b o e hx=>?_,fun b xs e=>tups b xs (I.base.tups b xs e),fun b o xs e=>frzs b o xs (I.base.frzs b o xs e),fun b ps e=>?_⟩,?_,fun x c e=>?_,?_,fun x c e=>?_,fun p hp=>?_,hok,I.len⟩
 ·exact keep b o (neL b o e) hb (neC b o e hx) (I.base.keep b o e n hb hx) (I.base.free b o e n hx)
 ·obtain⟨sl,e1⟩:=I.base.slot b o e n hb hx
  obtain⟨sl',e2⟩:=slot b _ (neL b o e) hb (neC b o e hx) e1 (I.base.free b o e n hx)
  exact⟨sl',e2⟩
 ·obtain⟨o',e1⟩:=I.base.there b o e hx
  exact free b o' (neC b o e hx) e1 (I.base.free b o e n hx)
 ·obtain⟨o',e1⟩:=I.base.there b o e hx
  exact there b o' (neC b o e hx) e1
 ·obtain⟨m1,e1⟩:=I.base.tbls b ps e
  obtain⟨m2,e2⟩:=tbls b _ e1
  exact⟨m1++m2,by rw[e2,Array.append_assoc]⟩
 ·obtain⟨m,hn,hl⟩:=I.loc
  refine⟨m,ns m hn,fun i x v e1 e2 e3=>?_⟩
  obtain⟨u,r,l⟩:=hl i x v e1 e2 e3
  refine⟨u,r,?_⟩
  rcases l with l|⟨k,c,e,z⟩
  ·exact .inl l
  ·exact .inr ⟨k,c,e,cellK x c e _ z⟩
 ·obtain⟨v,z⟩:=I.cell x c e
  exact⟨v,cellK x c e v z⟩
 ·obtain⟨m,⟨o,_,_,ho,_⟩,_⟩:=I.loc
  exact free _ o (fun z=>(hch _ z).2.1 rfl) ho I.free
 ·obtain⟨v,o,ho,hd⟩:=I.cell x c e
  exact free c o (fun z=>(hch c z).2.2.1 x c e rfl) ho (I.freeC x c e)
 ·obtain⟨e,n,ne,nf,d⟩:=I.pin p hp
  have nch:p.1 ∉ ch:=fun z=>(hch p.1 z).2.2.2 p hp rfl
  exact⟨keep p.1 p.2 ne nf nch e n,free p.1 p.2 nch e n,ne,nf,d⟩
theorem Inv.un{t':Nat}(I:Inv X pins σ H s)(u:Un X.fs [] H H' s.heap h')(hok:HOk X.prog X.w H' h'):Inv X pins σ H' { s with heap:=h',toks:=t' }:=by
 obtain⟨m,⟨o,es,ep,ho,r⟩,_⟩:=id I.loc
 obtain⟨sl,hL⟩:=u.any ho I.free (by simp)
 exact I.step (g':=s.gens) (d':=s.drawn) (ch:=[]) (fun _ z=>nomatch z) (fun b o _ hb _ e n=>u.keep b o e n hb (by simp)) (fun b o _ hb _ e n=>u.slot b o e n hb (by simp)) (fun b o _ e n=>u.free b o e n (by simp)) (fun b o _ e=>u.there b o e (by simp)) u.tups u.frzs u.tbls (fun m' hm=>by
  obtain⟨o',es',ep',ho',r'⟩:=hm
  rw[ho]at ho';cases ho'
  exact⟨_,es',ep',hL,r'⟩) hok I.bare
theorem Inv.call{g':Array GenState}{t':Nat}{d':Drawn}{ch:List Addr}(I:Inv X pins σ H s)(u:Un (frs X.stack) ch H H' s.heap h')(hok:HOk X.prog X.w H' h')(hg:AllBare g')
  (hch:∀b∈ch,(b∈X.ex∨X.s₀.heap.objs.size≤b)∧b≠X.env.locals∧(∀x c,X.env.cells.lookup x=some c→c≠b)∧∀p∈X.pn++pins,p.1≠b) :
  Inv X pins σ H' { s with heap:=h',gens:=g',drawn:=d',toks:=t' }:=by
 obtain⟨m,⟨o,es,ep,ho,r⟩,_⟩:=id I.loc
 obtain⟨sl,hL⟩:=u.any ho I.free fun z=>(hch _ z).2.1 rfl
 exact I.step (ch:=ch) hch (fun b o hL hb hc e n=>u.keep b o e n (fun z=>(QI.mp (I.stkSub b z)).elim hL hb) hc) (fun b o _ _ hc e n=>u.any e n hc) (fun b o hc e n=>u.free b o e n hc) (fun b o hc e=>u.there b o e hc) u.tups u.frzs u.tbls (fun m' hm=>by
  obtain⟨o',es',ep',ho',r'⟩:=hm
  rw[ho]at ho';cases ho'
  exact⟨_,es',ep',hL,r'⟩) hok hg
theorem Inv.turned{t':Nat}{it:Addr}(I:Inv X pins σ H s)(k:∀b o,b≠it→s.heap.get? b=some o→h'.get? b=some o)(hn:H it=none)(hL:it≠X.env.locals)
  (h1:it∈X.ex∨X.s₀.heap.objs.size≤it) (h2:∀x c,X.env.cells.lookup x=some c→c≠it) (h3:∀p∈X.pn++pins,p.1≠it):Inv X pins σ H { s with heap:=h',toks:=t' }:=by
 have nit:∀b u,H b=some u→b≠it:=fun b u e z=>by rw[z,hn]at e;cases e
 refine I.step (g':=s.gens) (d':=s.drawn) (ch:=[it]) (fun b hb=>?_) (fun b o _ _ hc e _=>k b o (fun z=>hc (by simp[z])) e) (fun b o _ _ hc e _=>⟨o.slots,k b o (fun z=>hc (by simp[z])) e⟩) (fun _ _ _ _ n=>n)
  (fun b o hc e=>⟨o,k b o (fun z=>hc (by simp[z])) e⟩) (fun _ _ e=>e) (fun _ _ _ e=>e) (fun b ps e=>⟨#[],by rw[e];simp⟩) (fun m hm=>?_) (fun b u e=>?_) I.bare
 ·have e:b=it:=by simpa using hb
  subst e
  exact⟨h1,hL,h2,h3⟩
 ·obtain⟨o,es,ep,ho,r⟩:=hm
  exact⟨o,es,ep,k _ o (Ne.symm hL) ho,r⟩
 ·refine(I.hok b u e).stay (fun c v hc q=>k c v ?_ q) (fun _ q=>q) fun _ _ q=>q
  rcases hc with z|z
  ·rw[z];exact nit b u e
  ·exact nit c _ z
theorem Inv.tok(I:Inv X pins σ H s)(t:Nat):Inv X pins σ H { s with toks:=t }:=I.un (h':=s.heap) (t':=t) Un.refl I.hok
theorem Inv.kept{t':Nat}(I:Inv X pins σ H s)(k:∀b u,s.heap.get? b=some u→h'.get? b=some u):Inv X pins σ H { s with heap:=h',toks:=t' }:=I.un (Un.kept k) (I.hok.kept k)
theorem Inv.laid{a:Addr}{o:HO}{t':Nat}(I:Inv X pins σ H s)(k:∀b u,s.heap.get? b=some u→h'.get? b=some u)(hp:s.heap.objs.size≤a)(new:Zaw X.prog X.w (upd H a o) h' a o) :
  Inv X pins σ (upd H a o) { s with heap:=h',toks:=t' }:=I.un (Un.laid k hp (I.hok.fresh hp)) (I.hok.laid k hp new)
theorem Inv.write{x e:Addr}{o:HO}{t':Nat}(I:Inv X pins σ H s)(mu:Mut (H x))(he:e=x∨H e=some (.own x))(k:∀b u,b≠e→s.heap.get? b=some u→h'.get? b=some u)(heo:∃u,h'.get? e=some u)
  (new:Zaw X.prog X.w (upd H x o) h' x o):Inv X pins σ (upd H x o) { s with heap:=h',toks:=t' }:=I.un (Un.write mu he k heo) (I.hok.write mu he k heo new)
theorem Inv.pins_of{pins':List (Addr×Obj)}(I:Inv X pins σ H s)(h:∀p∈pins',s.heap.get? p.1=some p.2∧H p.1=none∧p.1≠X.env.locals∧p.1 ∉ X.fs∧∀v,p.2.data≠.cell v):Inv X pins' σ H s :=
 ⟨I.ok,I.os,I.bare,I.base,I.loc,I.cell,I.free,I.freeC,fun p hp=>(Qf.mp hp).elim (fun z=>I.pin p (Qr _ z)) (h p),I.hok,I.len⟩
theorem Zjg{N:List Str}(hN:N.Nodup){i j:Nat}{x:Str}(a:N[i]? = some x)(b:N[j]? = some x):i=j:=by
 obtain⟨h1,e1⟩:=Qc.mp a
 obtain⟨h2,e2⟩:=Qc.mp b
 exact(List.getElem_inj hN).mp (e1.trans e2.symm)
theorem ZgT{M:Model}{A:Around}{E:Value→Shared→Prop}{i:Nat}{x:Str}{v:V}{u:Value}{Q:Unit→Shared→Prop}(I:Inv X pins σ H s)(hN:X.N.Nodup)(hi:X.N[i]? = some x)(hx:Loc X.env.scope x)(r:ZC v u)
  (h:∀s',Inv X pins (σ.set i (some v)) H s'→(∃a,Heap.SameBut a s.heap s'.heap∧(a=X.env.locals∨X.env.cells.lookup x=some a))→Q () s') (hf:X.fn x=true∨X.env.scope.names.lookup x=some .local:=by first|exact .inl rfl|exact .inr rfl|assumption):wpAny M A (storeName X.env x u) Q E s:=by
 obtain⟨m,hn,hl⟩:=id I.loc
 have hcls:(X.env.scope.kind == .class||(X.env.scope.kind == .module&&X.env.locals != X.env.globals))=false:=by rw[I.ok.kind];rfl
 have hiσ:i<σ.length:=by rw[I.len];exact(Qc.mp hi).1
 have cne:=I.cne
 have tracked:∀ {a:Addr} {h':Heap},(∃o,s.heap.get? a=some o∧H a=none)→Heap.SameBut a s.heap h'→HOk X.prog X.w H h':=fun {a h'} ha hs b ob e=>by
  obtain⟨_,_,hfree⟩:=ha
  refine(I.hok b ob e).stay (fun c w' hc q=>(hs.2 c ?_).trans q) (fun _ q=>q) fun _ _ q=>q
  rintro rfl
  rcases hc with rfl|hc
  ·rw[hfree]at e;cases e
  ·rw[hfree]at hc;cases hc
 rcases hx with hk|hk
 ·refine wpAny_storeName_local hk hn (fun h' hn' hs=>?_) hcls
  obtain⟨oL,_,_,hoL,_⟩:=id hn
  refine h _ ⟨I.ok,I.os,I.bare,⟨fun b o e n hb hx=>?_,fun b o e n hb hx=>?_,I.base.free,fun b o e hx=>?_,I.base.tups,I.base.frzs,I.base.tbls⟩,⟨_,hn',fun j y v' e1 e2 e3=>?_⟩,fun y c e=>?_,I.free,I.freeC,fun p hp=>?_,tracked ⟨oL,hoL,I.free⟩ hs,by simpa using I.len⟩ ⟨_,hs,.inl rfl⟩
  ·exact(hs.2 b (QU (QG (QB e) I.ok.above))).trans (I.base.keep b o e n hb hx)
  ·obtain⟨sl,e1⟩:=I.base.slot b o e n hb hx
   exact⟨sl,(hs.2 b (QU (QG (QB e) I.ok.above))).trans e1⟩
  ·obtain⟨o',e1⟩:=I.base.there b o e hx
   exact⟨o',(hs.2 b (QU (QG (QB e) I.ok.above))).trans e1⟩
  ·by_cases hj:j=i
   ·subst hj
    rw[hi]at e1;cases e1
    rw[List.getElem?_set_self hiσ]at e2
    cases e2
    exact⟨u,r,.inl ⟨hk,by simp⟩⟩
   ·rw[List.getElem?_set_ne (Ne.symm hj)]at e2
    obtain⟨u',r',q⟩:=hl j y v' e1 e2 e3
    refine⟨u',r',?_⟩
    rcases q with⟨k,e⟩|⟨k,c,e,z⟩
    ·refine .inl ⟨k,?_⟩
     have:y≠x:=fun e=>hj (Zjg hN e1 (e ▸ hi))
     simp[this,e]
    ·exact .inr ⟨k,c,e,z.sameBut hs (cne y c e)⟩
  ·obtain⟨w',z⟩:=I.cell y c e
   exact⟨w',z.sameBut hs (cne y c e)⟩
  ·obtain⟨e,n,ne,nf,d⟩:=I.pin p hp
   exact⟨(hs.2 p.1 ne).trans e,n,ne,nf,d⟩
 ·have hfn:X.fn x=true:=by
   rcases hf with z|z
   ·exact z
   ·rw[z]at hk;cases hk
  obtain⟨c,hc⟩:=I.ok.has x (.inl hk)
  obtain⟨w',z⟩:=I.cell x c hc
  refine wpAny_storeName_cell I.ok.kind hk hc z (fun h' hc' hs=>?_)
  obtain⟨oc,hoc,hocd⟩:=id z
  refine h { s with heap:=h' } ⟨I.ok,I.os,I.bare,⟨fun b o e n hb hx=>?_,fun b o e n hb hx=>?_,I.base.free,fun b o e hx=>?_,I.base.tups,I.base.frzs,I.base.tbls⟩,⟨m,hn.sameBut hs (Ne.symm (cne x c hc)),fun j y v' e1 e2 e3=>?_⟩,fun y c' e=>?_,I.free,I.freeC,fun p hp=>?_,tracked ⟨oc,hoc,I.freeC x c hc⟩ hs,by simpa using I.len⟩ ⟨c,hs,.inr hc⟩
  ·exact(hs.2 b (QU (QG (QB e) (I.ok.cab x c hfn hc)))).trans (I.base.keep b o e n hb hx)
  ·obtain⟨sl,e1⟩:=I.base.slot b o e n hb hx
   exact⟨sl,(hs.2 b (QU (QG (QB e) (I.ok.cab x c hfn hc)))).trans e1⟩
  ·obtain⟨o',e1⟩:=I.base.there b o e hx
   exact⟨o',(hs.2 b (QU (QG (QB e) (I.ok.cab x c hfn hc)))).trans e1⟩
  ·by_cases hj:j=i
   ·subst hj
    rw[hi]at e1;cases e1
    rw[List.getElem?_set_self hiσ]at e2
    cases e2
    exact⟨u,r,.inr ⟨.inl hk,c,hc,hc'⟩⟩
   ·rw[List.getElem?_set_ne (Ne.symm hj)]at e2
    obtain⟨u',r',q⟩:=hl j y v' e1 e2 e3
    refine⟨u',r',?_⟩
    rcases q with q|⟨k,c',e,z'⟩
    ·exact .inl q
    ·refine .inr ⟨k,c',e,z'.sameBut hs ?_⟩
     rintro rfl
     exact hj (Zjg hN e1 (I.ok.inj _ _ _ e hc ▸ hi))
  ·by_cases hcc:c'=c
   ·subst hcc;exact⟨_,hc'⟩
   ·obtain⟨w2,z2⟩:=I.cell y c' e
    exact⟨w2,z2.sameBut hs hcc⟩
  ·obtain⟨e,n,ne,nf,d⟩:=I.pin p hp
   refine⟨(hs.2 p.1 ?_).trans e,n,ne,nf,d⟩
   intro q
   rw[q,hoc]at e
   have q':oc=p.2:=Qp e
   exact d w' (by rw[← q'];exact hocd)
theorem ZfA{M:Model}{A:Around}{E:Value→Shared→Prop}{i:Nat}{x:Str}{v:V}{u:Value}{Q:Unit→Shared→Prop}(I:Inv X pins σ H s)(hN:X.N.Nodup)(hi:X.N[i]? = some x)(hx:Loc X.env.scope x)(r:ZC v u)
  (h:∀s',Inv X pins (σ.set i (some v)) H s'→Q () s') (hf:X.fn x=true∨X.env.scope.names.lookup x=some .local:=by first|exact .inl rfl|exact .inr rfl|assumption):wpAny M A (storeName X.env x u) Q E s :=
 ZgT I hN hi hx r (fun s' I' _=>h s' I') hf
theorem Inv.call'{s':Shared}{ch:List Addr}(I:Inv X pins σ H s)(ho:s'.os=s.os)(u:Un (frs X.stack) ch H H' s.heap s'.heap)(hok:HOk X.prog X.w H' s'.heap)(hg:AllBare s'.gens)
  (hch:∀b∈ch,(b∈X.ex∨X.s₀.heap.objs.size≤b)∧b≠X.env.locals∧(∀x c,X.env.cells.lookup x=some c→c≠b)∧∀p∈X.pn++pins,p.1≠b):Inv X pins σ H' s':=by
 obtain⟨h',g',d',t',o'⟩:=s'
 have e:o'=s.os:=ho
 subst e
 exact I.call (g':=g') (t':=t') (d':=d') u hok hg hch
end
abbrev XK:=Value→Option Addr→Hp→Prop
abbrev St:=List (Option V)
abbrev VK:=V→Hp→Prop
abbrev TE:=St→Hp→VK→Prop
abbrev TT:=St→Hp→(Bool→Hp→Prop)→Prop
abbrev TA:=St→Hp→(List V→Hp→Prop)→Prop
structure ZeK where
 nx:St→Hp→Prop
 rt:VK
 bk:St→Hp→Prop:=fun _ _=>False
 ct:St→Hp→Prop:=fun _ _=>False
abbrev TS:=ZeK→St→Hp→Prop
def EP(X:Cx)(pins:List (Addr×Obj))(σ:St)(Q:VK)(u:Value)(s':Shared):Prop:=∃v H',Inv X pins σ H' s'∧ZC v u∧Q v H'
def TP(X:Cx)(pins:List (Addr×Obj))(σ:St)(Q:Bool→Hp→Prop)(b:Bool)(s':Shared):Prop:=∃H',Inv X pins σ H' s'∧Q b H'
def AP(X:Cx)(pins:List (Addr×Obj))(σ:St)(Q:List V→Hp→Prop)(us:List Value)(s':Shared):Prop:=∃vs H',Inv X pins σ H' s'∧Zy vs us∧Q vs H'
def SP(X:Cx)(pins:List (Addr×Obj))(D:ZeK)(f:Flow)(s':Shared):Prop :=
 match f with
 | .next=>∃σ' H',Inv X pins σ' H' s'∧D.nx σ' H'
 | .brk=>∃σ' H',Inv X pins σ' H' s'∧D.bk σ' H'
 | .cont=>∃σ' H',Inv X pins σ' H' s'∧D.ct σ' H'
 | .ret u=>∃v σ' H',Inv X pins σ' H' s'∧ZC v u∧D.rt v H'
def PE(X:Cx)(e:Expr)(t:TE):Prop :=
 ∀ (pins:List (Addr×Obj)) (s:Shared) (σ:St) (H:Hp) (Q:VK),Inv X pins σ H s→t σ H Q→wpAny (model X.prog X.w) X.A (eval e X.env) (EP X pins σ Q) X.xe s
def PT(X:Cx)(e:Expr)(t:TT):Prop :=
 ∀ (pins:List (Addr×Obj)) (s:Shared) (σ:St) (H:Hp) (Q:Bool→Hp→Prop),Inv X pins σ H s→t σ H Q→wpAny (model X.prog X.w) X.A (isTrue e X.env (eval e X.env)) (TP X pins σ Q) X.xe s
def PW(X:Cx)(e:Expr)(t:TT):Prop :=
 ∀ (whole:Sem Value) (pins:List (Addr×Obj)) (s:Shared) (σ:St) (H:Hp) (Q:Bool→Hp→Prop),Inv X pins σ H s→t σ H Q→wpAny (model X.prog X.w) X.A (isTrue e X.env whole) (TP X pins σ Q) X.xe s
theorem PW.pt{X:Cx}{e:Expr}{t:TT}(h:PW X e t):PT X e t:=h _
def PA(X:Cx)(es:List Expr)(t:TA):Prop :=
 ∀ (pos:Pos) (pins:List (Addr×Obj)) (s:Shared) (σ:St) (H:Hp) (Q:List V→Hp→Prop),Inv X pins σ H s→t σ H Q→wpAny (model X.prog X.w) X.A (spliced (backTo pos (starEach es X.env))) (AP X pins σ Q) X.xe s
def PS(X:Cx)(st:Stmt)(t:TS):Prop :=
 ∀ (pins:List (Addr×Obj)) (s:Shared) (σ:St) (H:Hp) (D:ZeK),Inv X pins σ H s→t D σ H→wpAny (model X.prog X.w) X.A (exec st X.env) (SP X pins D) X.xe s
def PSs(X:Cx)(st:List Stmt)(t:TS):Prop :=
 ∀ (pins:List (Addr×Obj)) (s:Shared) (σ:St) (H:Hp) (D:ZeK),Inv X pins σ H s→t D σ H→wpAny (model X.prog X.w) X.A (execs st X.env) (SP X pins D) X.xe s
theorem thn{α:Type}{t:Sem α}{Q Q':α→Shared→Prop}{M:Model}{A:Around}{E:Value→Shared→Prop}{s:Shared}(h:wpAny M A t Q E s)(hQ:∀a s,Q a s→Q' a s):wpAny M A t Q' E s:=wpAny_mono h hQ fun _ _ x=>x
section
variable {X:Cx}
def ZoE(i:Nat):TE:=fun σ H Q=>∃v,σ[i]? = some (some v)∧Q v H
def tC(v:V):TE:=fun _ H Q=>Q v H
theorem Zju{i:Nat}{x:Str}{pos:Pos}(hN:X.N[i]? = some x)(hv:Vis X.env.scope x)(hd:(x == ("__debug__" : Str))=false:=by decide)(hcd:(x == ("__classdict__" : Str))=false:=by decide):PE X (.Name x pos) (ZoE i):=by
 intro pins s σ H Q I h
 obtain⟨v,e,h⟩:=h
 obtain⟨m,hn,hl⟩:=I.loc
 obtain⟨u,r,l⟩:=hl i x v hN e hv
 have fin:EP X pins σ Q u s:=⟨v,H,I,r,h⟩
 rcases l with⟨hk,hm⟩|⟨hk,c,hc,hcell⟩
 ·exact wpAny_Name (wpAny_loadName_local I.ok.kind hk hn hm fin) hd
 ·rcases hk with hk|hk
  ·exact wpAny_Name (wpAny_loadName_cell I.ok.kind hk hc hcell fin) hd
  ·exact wpAny_Name (wpAny_loadName_free I.ok.kind hk hc hcell fin hcd) hd
theorem Zh{i j pos}:PE X (.Constant (.int i) j pos) (tC (.int i)):=fun _ _ _ H _ I h=>wpAny_Constant_int ⟨.int i,H,I.tok _,⟨_,rfl⟩,h⟩
theorem ZdB{b j pos}:PE X (.Constant (.bool b) j pos) (tC (.bl b)):=fun _ _ _ H _ I h=>Constant_bool ⟨.bl b,H,I,rfl,h⟩
theorem Zar{j pos}:PE X (.Constant .none j pos) (tC .non):=fun _ _ _ H _ I h=>Constant_none ⟨.non,H,I,rfl,h⟩
theorem Zbv{x j pos}:PE X (.Constant (.str x) j pos) (tC (.str x)):=fun _ _ _ H _ I h=>Calls.Constant_str ⟨.str x,H,I.tok _,⟨_,rfl⟩,h⟩
def Gl(X:Cx)(x:Str):Prop:=X.env.kindOf x=some .globalImplicit
theorem Zko{E:Value→Shared→Prop}{pins:List (Addr×Obj)}{s:Shared}{σ:St}{H:Hp}{x:Str}{u:Value}{pos:Pos}{Q:Value→Shared→Prop}(I:Inv X pins σ H s)(hg:Gl X x)(hm:X.mg x=some u)(h:Q u s)
  (hd:(x == ("__debug__" : Str))=false:=by decide):wpAny (model X.prog X.w) X.A (eval (.Name x pos) X.env) Q E s :=
 Calls.Name_function_global I.ok.kind hg (Calls.loadGlobal_global (by rw[I.ok.glob];exact I.mod.glob.keeps I.bk) hm h) hd
theorem Ze5{E:Value→Shared→Prop}{pins:List (Addr×Obj)}{s:Shared}{σ:St}{H:Hp}{x:Str}{u:Value}{pos:Pos}{Q:Value→Shared→Prop}(I:Inv X pins σ H s)(hg:Gl X x)(hm:X.mg x=none)(hv:bootBuiltins x=some u)(h:Q u s)
  (hn:x ≠ "__name__":=by decide) (hd:(x == ("__debug__" : Str))=false:=by decide):wpAny (model X.prog X.w) X.A (eval (.Name x pos) X.env) Q E s:=by
 obtain⟨mb,h1,h2⟩:=I.mod.blt
 exact Calls.Name_function_global I.ok.kind hg (Calls.loadGlobal_builtin (by rw[I.ok.glob];exact I.mod.glob.keeps I.bk) hm (by rw[I.ok.blt];exact h1.keeps I.bk) ((h2 x hn).trans hv) h) hd
theorem Zpv{x:Str}{v:V}{u:Value}{pos:Pos}(hg:Gl X x)(hm:X.mg x=none)(hv:bootBuiltins x=some u)(r:ZC v u)(hn:x ≠ "__name__":=by decide)(hd:(x == ("__debug__" : Str))=false:=by decide):PE X (.Name x pos) (tC v) :=
 fun _ _ _ H _ I h=>Ze5 I hg hm hv ⟨v,H,I,r,h⟩ hn hd
def t2I(ta tb:TE)(k:Int→Int→Hp→Prop):St→Hp→Prop:=fun σ H=>ta σ H fun x H1=>tb σ H1 fun y H2=>∃i j,x=.int i∧y=.int j∧k i j H2
def tAdd(ta tb:TE):TE:=fun σ H Q=>t2I ta tb (fun i j H2=>Q (.int (i+j)) H2) σ H
def tSub(ta tb:TE):TE:=fun σ H Q=>t2I ta tb (fun i j H2=>Q (.int (i-j)) H2) σ H
def tMul(ta tb:TE):TE:=fun σ H Q=>t2I ta tb (fun i j H2=>(-(2 ^ 64)<i∧i<2 ^ 64)∧Q (.int (i*j)) H2) σ H
variable {a b:Expr} {ta tb:TE} {pos:Pos}
def PC(X:Cx)(op:CmpOp)(a b:Expr)(t:TE):Prop :=
 ∀ (pins:List (Addr×Obj)) (s:Shared) (σ:St) (H:Hp) (Q:VK),Inv X pins σ H s→t σ H Q →
  wpAny (model X.prog X.w) X.A (eval a X.env) (fun v s₁=>wpAny (model X.prog X.w) X.A (eval b X.env) (fun u s₂=>wpAny (model X.prog X.w) X.A (compareOp op v u) (EP X pins σ Q) X.xe s₂) X.xe s₁) X.xe s
def ZkZ(p:Int→Int→Bool)(ta tb:TE):TE:=fun σ H Q=>t2I ta tb (fun i j H2=>Q (.bl (p i j)) H2) σ H
abbrev tLt:TE→TE→TE:=ZkZ fun i j=>decide (i<j)
abbrev tLe:TE→TE→TE:=ZkZ fun i j=>decide (i≤j)
abbrev tGt:TE→TE→TE:=ZkZ fun i j=>decide (j<i)
abbrev tGe:TE→TE→TE:=ZkZ fun i j=>decide (j≤i)
abbrev tEqI:TE→TE→TE:=ZkZ fun i j=>decide (i=j)
abbrev tNeI:TE→TE→TE:=ZkZ fun i j=>!decide (i=j)
def tIsN(ta:TE):TE:=fun σ H Q=>ta σ H fun x H1=>Q (.bl (decide (x=.non))) H1
def tNotN(ta:TE):TE:=fun σ H Q=>ta σ H fun x H1=>Q (.bl (!decide (x=.non))) H1
def tB(t:TE):TT:=fun σ H Q=>t σ H fun x H1=>∃c,x=.bl c∧Q c H1
theorem ZfT{e:Expr}{t:TE}(h:PE X e t)(he:∀whole,isTrue e X.env whole=(do let v ← whole;standAt e.pos;holding [v] (truthy v)):=by intro _;rfl):PT X e (tB t):=by
 intro pins s σ H Q I hw
 refine isTrue_plain (thn (h pins s σ H _ I hw) ?_) (he _)
 rintro v s1 ⟨x,H1,I1,r1,q1⟩
 obtain⟨d,rfl,q⟩:=q1
 cases r1
 exact wpAny_truthy_bool ⟨H1,I1,q⟩
variable {tA tB':TT} {rest:List Expr}
def Zs8(t u:TT):TT:=fun σ H Q=>t σ H fun c H1=>if c=true then u σ H1 Q else Q false H1
def tOr(t u:TT):TT:=fun σ H Q=>t σ H fun c H1=>if c=true then Q true H1 else u σ H1 Q
def Zs1(t:TT):TT:=fun σ H Q=>t σ H fun c H1=>Q (!c) H1
theorem Zc9(ha:PT X a tA):PW X (.BoolOp .And [a] pos) tA:=by
 intro wh pins s σ H Q I h
 refine isTrue_and (thn (ha pins s σ H Q I h) fun c s1 e=>?_)
 cases c with
 | true=>exact isTrue_and_nil e
 | false=>exact e
theorem ZfP(ha:PT X a tA):PW X (.BoolOp .Or [a] pos) tA:=by
 intro wh pins s σ H Q I h
 refine isTrue_or (thn (ha pins s σ H Q I h) fun c s1 e=>?_)
 cases c with
 | false=>exact isTrue_or_nil e
 | true=>exact e
theorem ZdD(ha:PT X a tA)(hb:PW X (.BoolOp .And (b::rest) pos) tB'):PW X (.BoolOp .And (a::b::rest) pos) (Zs8 tA tB'):=by
 intro wh pins s σ H Q I h
 refine isTrue_and (thn (ha pins s σ H _ I h) ?_)
 rintro c s1 ⟨H1,I1,q1⟩
 cases c with
 | true=>exact hb wh pins s1 σ H1 Q I1 q1
 | false=>exact⟨H1,I1,q1⟩
theorem Zhj(ha:PT X a tA)(hb:PW X (.BoolOp .Or (b::rest) pos) tB'):PW X (.BoolOp .Or (a::b::rest) pos) (tOr tA tB'):=by
 intro wh pins s σ H Q I h
 refine isTrue_or (thn (ha pins s σ H _ I h) ?_)
 rintro c s1 ⟨H1,I1,q1⟩
 cases c with
 | true=>exact⟨H1,I1,q1⟩
 | false=>exact hb wh pins s1 σ H1 Q I1 q1
theorem Zj5(ha:PT X a tA):PT X (.UnaryOp .Not a pos) (Zs1 tA):=by
 intro pins s σ H Q I h
 exact isTrue_not (ha pins s σ H (fun c H1=>Q (!c) H1) I h)
def Zsc(ta tb:TE):TE:=fun σ H Q=>ta σ H fun x H1=>∃c,x=.bl c∧if c=true then tb σ H1 Q else Q (.bl false) H1
def tOrV(ta tb:TE):TE:=fun σ H Q=>ta σ H fun x H1=>∃c,x=.bl c∧if c=true then Q (.bl true) H1 else tb σ H1 Q
def ZsI(ta:TE):TE:=fun σ H Q=>ta σ H fun x H1=>∃c,x=.bl c∧Q (.bl (!c)) H1
theorem ZhH{op}{t:TE}(h:PE X a t):PE X (.BoolOp op [a] pos) t:=fun pins s σ H Q I hw=>BoolOp_one (h pins s σ H Q I hw)
theorem Zhw(ha:PE X a ta)(hb:PE X (.BoolOp .And (b::rest) pos) tb):PE X (.BoolOp .And (a::b::rest) pos) (Zsc ta tb):=by
 intro pins s σ H Q I h
 refine BoolOp_and (thn (ha pins s σ H _ I h) ?_)
 rintro v s1 ⟨x,H1,I1,r1,q1⟩
 obtain⟨c,rfl,q1⟩:=q1
 cases r1
 refine wpAny_truthy_bool ?_
 cases c with
 | true=>exact hb pins s1 σ H1 Q I1 q1
 | false=>exact⟨.bl false,H1,I1,rfl,q1⟩
theorem Zq6(ha:PE X a ta):PE X (.UnaryOp .Not a pos) (ZsI ta):=by
 intro pins s σ H Q I h
 refine UnaryOp_ (thn (ha pins s σ H _ I h) ?_)
 rintro v s1 ⟨x,H1,I1,r1,q1⟩
 obtain⟨c,rfl,q1⟩:=q1
 cases r1
 exact not_of (wpAny_truthy_bool ⟨.bl (!c),H1,I1,rfl,q1⟩)
def tIf(t:TT)(ta tb:TE):TE:=fun σ H Q=>t σ H fun c H1=>if c=true then ta σ H1 Q else tb σ H1 Q
theorem Za9{c:Expr}(hc:PT X c tA)(ha:PE X a ta)(hb:PE X b tb):PE X (.IfExp c a b pos) (tIf tA ta tb):=by
 intro pins s σ H Q I h
 refine wpAny_IfExp (thn (hc pins s σ H _ I h) ?_)
 rintro d s1 ⟨H1,I1,q1⟩
 cases d with
 | true=>exact ha pins s1 σ H1 Q I1 q1
 | false=>exact hb pins s1 σ H1 Q I1 q1
end
def SqL(K:PySem.W.Frag)(H:Hp)(a:Addr)(xs:List V):Prop :=
 Rd H a (.lst xs) ∨
  ∃ (o:Obj) (its:Array Value) (n:Nat),K.lookup a=some o∧o.cls=.type "list"∧o.dict=none∧o.data=.seq its n∧its.size≤sizeLine∧Zy xs its.toList
def SqT(K:PySem.W.Frag)(H:Hp)(a:Addr)(xs:List V):Prop :=
 Rd H a (.tup xs) ∨
  ∃ (o:Obj) (its:Array Value) (n:Nat),K.lookup a=some o∧o.cls=.type "tuple"∧o.data=.seq its n∧its.size≤sizeLine∧Zy xs its.toList
def Ztn:Value→Option V
 | .none=>some .non
 | .bool b=>some (.bl b)
 | .int i _=>some (.int i)
 | .str x _=>some (.str x)
 | .bytes b _=>some (.byt b)
 | .float b _=>some (.flt b)
 | .ref a=>some (.ref a)
 | .type n=>some (.ty n)
 | _=>none
theorem ZC.abs{x:V}{u:Value}(r:ZC x u):Ztn u=some x:=by
 cases x with
 | non=>cases r;rfl
 | bl _=>cases r;rfl
 | int _=>obtain⟨t,rfl⟩:=r;rfl
 | str _=>obtain⟨t,rfl⟩:=r;rfl
 | byt _=>obtain⟨t,rfl⟩:=r;rfl
 | flt _=>obtain⟨t,rfl⟩:=r;rfl
 | ref _=>cases r;rfl
 | ty _=>cases r;rfl
theorem ZC.inj{x y:V}{u:Value}(r:ZC x u)(q:ZC y u):x=y:=Qp (r.abs.symm.trans q.abs)
theorem Zy.inj:∀ {xs ys:List V} {us:List Value},Zy xs us→Zy ys us→xs=ys
 | _,_,_,.nil,.nil=>rfl
 | _,_,_,.cons r t,.cons r' t'=>by rw[r.inj r',Zy.inj t t']
section
variable {X:Cx} {pins:List (Addr×Obj)} {σ:St} {H:Hp} {s:Shared} {a:Addr} {xs ys:List V}
theorem SqL.of{K:PySem.W.Frag}(h:H a=some (.lst xs)):SqL K H a xs:=.inl (.inl h)
theorem SqT.of{K:PySem.W.Frag}(h:H a=some (.tup xs)):SqT K H a xs:=.inl (.inl h)
theorem Inv.list(I:Inv X pins σ H s)(h:SqL X.K H a xs):∃its:List Value,Zy xs its∧PlainL s.heap a its.toArray∧xs.length≤sizeLine:=by
 rcases h with h|⟨o,its,n,hk,hc,hd,hs,hz,r⟩
 ·obtain⟨z,its,n,r,e⟩:=h.ok I.hok
  exact⟨its,r,⟨_,n,e,rfl,rfl,rfl⟩,z⟩
 ·refine⟨its.toList,r,⟨o,n,I.kIn a o hk,hc,hd,by simpa using hs⟩,?_⟩
  have e:=r.length
  simp only[Array.length_toList]at e
  omega
theorem Inv.tuple(I:Inv X pins σ H s)(h:SqT X.K H a xs):∃its:List Value,Zy xs its∧IsTup s.heap a its.toArray∧xs.length≤sizeLine:=by
 rcases h with h|⟨o,its,n,hk,hc,hs,hz,r⟩
 ·obtain⟨z,its,r,p⟩:=h.ok I.hok
  exact⟨its,r,p,z⟩
 ·refine⟨its.toList,r,⟨o,I.kIn a o hk,hc,n,by simpa using hs⟩,?_⟩
  have e:=r.length
  simp only[Array.length_toList]at e
  omega
theorem Inv.list_inj(I:Inv X pins σ H s)(h:SqL X.K H a xs)(h':SqL X.K H a ys):xs=ys:=by
 obtain⟨its,r,⟨o,n,e,_,_,d⟩,_⟩:=I.list h
 obtain⟨its',r',⟨o',n',e',_,_,d'⟩,_⟩:=I.list h'
 rw[e]at e';cases e'
 rw[d]at d'
 injection d' with d1 _
 have:its=its':=by simpa using congrArg Array.toList d1
 subst this
 exact r.inj r'
theorem Inv.tuple_inj(I:Inv X pins σ H s)(h:SqT X.K H a xs)(h':SqT X.K H a ys):xs=ys:=by
 obtain⟨its,r,⟨o,e,_,n,d⟩,_⟩:=I.tuple h
 obtain⟨its',r',⟨o',e',_,n',d'⟩,_⟩:=I.tuple h'
 rw[e]at e';cases e'
 rw[d]at d'
 injection d' with d1 _
 have:its=its':=by simpa using congrArg Array.toList d1
 subst this
 exact r.inj r'
end
abbrev Cx.wish(X:Cx)(E:Value→Shared→Prop):Cx:={ X with xe:=E }
abbrev Cx.nox(X:Cx):Cx:=X.wish fun _ _=>False
theorem Cx.Ok.wish{X:Cx}(ok:X.Ok)(E:Value→Shared→Prop):(X.wish E).Ok :=
 ⟨ok.mod,ok.kind,ok.glob,ok.blt,ok.above,ok.inj,ok.has,ok.cab,ok.hd,ok.frames,ok.stk,ok.exf,ok.bs,ok.bsz,ok.noex,ok.exfs,ok.funs,ok.frf⟩
theorem Cx.Ok.unwish{X:Cx}{E:Value→Shared→Prop}(ok:(X.wish E).Ok):X.Ok :=
 ⟨ok.mod,ok.kind,ok.glob,ok.blt,ok.above,ok.inj,ok.has,ok.cab,ok.hd,ok.frames,ok.stk,ok.exf,ok.bs,ok.bsz,ok.noex,ok.exfs,ok.funs,ok.frf⟩
section
variable {X:Cx} {pins:List (Addr×Obj)} {σ:St} {H:Hp} {s:Shared} {E:Value→Shared→Prop}
theorem Inv.wish(I:Inv X pins σ H s)(E:Value→Shared→Prop):Inv (X.wish E) pins σ H s:=⟨I.ok.wish E,I.os,I.bare,I.base,I.loc,I.cell,I.free,I.freeC,I.pin,I.hok,I.len⟩
theorem Inv.unwish(I:Inv (X.wish E) pins σ H s):Inv X pins σ H s:=⟨I.ok.unwish,I.os,I.bare,I.base,I.loc,I.cell,I.free,I.freeC,I.pin,I.hok,I.len⟩
theorem SP.unwish{D:ZeK}{f:Flow}{s':Shared}(h:SP (X.wish E) pins D f s'):SP X pins D f s':=by
 cases f with
 | next=>obtain⟨σ',H',I,q⟩:=h;exact⟨σ',H',I.unwish,q⟩
 | brk=>obtain⟨σ',H',I,q⟩:=h;exact⟨σ',H',I.unwish,q⟩
 | cont=>obtain⟨σ',H',I,q⟩:=h;exact⟨σ',H',I.unwish,q⟩
 | ret u=>obtain⟨v,σ',H',I,r,q⟩:=h;exact⟨v,σ',H',I.unwish,r,q⟩
theorem PSs.nox{st:List Stmt}{t:TS}(h:PSs X.nox st t):PSs X st t:=fun pins s σ H D I hw =>
 wpAny_mono (h pins s σ H D (I.wish _) hw) (fun _ _ q=>q.unwish) fun _ _ z=>False.elim z
end
section
variable {X:Cx} {st:Stmt} {rest:List Stmt} {t u:TS} {e:Expr} {te:TE} {pos:Pos}
def Zss:TS:=fun D σ H=>D.nx σ H
def ZsU(t u:TS):TS:=fun D σ H=>t { D with nx:=u D } σ H
theorem ZB:PSs X [] Zss:=fun _ _ σ H _ I h=>wpAny_execs_nil ⟨σ,H,I,h⟩
theorem Zf(h1:PS X st t)(h2:PSs X rest u):PSs X (st::rest) (ZsU t u):=by
 intro pins s σ H D I h
 refine wpAny_execs_cons (thn (h1 pins s σ H { D with nx:=u D } I h) fun f s1 q=>?_)
 cases f with
 | next =>
  obtain⟨σ',H',I',q⟩:=q
  exact h2 pins s1 σ' H' D I' q
 | ret v=>exact q
 | brk=>exact q
 | cont=>exact q
theorem Zj(h1:PS X st t):PSs X [st] t:=by
 intro pins s σ H D I h
 refine wpAny_execs_cons (thn (h1 pins s σ H D I h) fun f s1 q=>?_)
 cases f with
 | next=>exact wpAny_execs_nil q
 | ret v=>exact q
 | brk=>exact q
 | cont=>exact q
def tBreak:TS:=fun D σ H=>D.bk σ H
def tCont:TS:=fun D σ H=>D.ct σ H
theorem Inv.quiet{pins:List (Addr×Obj)}{σ:St}{H:Hp}{s:Shared}(I:Inv X pins σ H s):interactive X.env=false:=by simp[interactive,I.ok.kind]
def ZsF(te:TE):TS:=fun D σ H=>te σ H fun _ H1=>D.nx σ H1
theorem ZaI(he:PE X e te)(hs:swapsWith e none pos.line X.env=pure false:=by rfl):PS X (.Expr e pos) (ZsF te):=by
 intro pins s σ H D I h
 exact wpAny_Expr_any (thn (he pins s σ H _ I h) fun v s1 ⟨x,H1,I1,r1,q1⟩=>⟨σ,H1,I1,q1⟩) I.quiet hs
def ZsZ(te:TE):TS:=fun D σ H=>te σ H D.rt
theorem Zn(he:PE X e te):PS X (.Return (some e) pos) (ZsZ te):=by
 intro pins s σ H D I h
 exact wpAny_Return_some (thn (he pins s σ H _ I h) fun v s1 ⟨x,H1,I1,r1,q1⟩=>⟨x,σ,H1,I1,r1,q1⟩)
def tRetN:TS:=fun D _ H=>D.rt .non H
def ZsN(c:TT)(t u:TS):TS:=fun D σ H=>c σ H fun b H1=>if b=true then t D σ H1 else u D σ H1
theorem ZZ{c:Expr}{a b:List Stmt}{tc:TT}(hc:PT X c tc)(ha:PSs X a t)(hb:PSs X b u):PS X (.If c a b pos) (ZsN tc t u):=by
 intro pins s σ H D I h
 refine wpAny_If (thn (hc pins s σ H _ I h) ?_)
 rintro d s1 ⟨H1,I1,q1⟩
 cases d with
 | true=>exact ha pins s1 σ H1 D I1 q1
 | false=>exact hb pins s1 σ H1 D I1 q1
def tNever:TS:=fun _ _ _=>False
end
abbrev TG:=V→St→Hp→(St→Hp→Prop)→Prop
abbrev TGs:=List V→St→Hp→(St→Hp→Prop)→Prop
def PG(X:Cx)(target:Expr)(t:TG):Prop :=
 ∀ (pins:List (Addr×Obj)) (s:Shared) (σ:St) (H:Hp) (v:V) (u:Value) (Q:St→Hp→Prop),Inv X pins σ H s→ZC v u→t v σ H Q →
  wpAny (model X.prog X.w) X.A (assign target X.env u) (fun _ s'=>∃σ' H',Inv X pins σ' H' s'∧Q σ' H') X.xe s
def PGs(X:Cx)(ts:List Expr)(t:TGs):Prop :=
 ∀ (pins:List (Addr×Obj)) (s:Shared) (σ:St) (H:Hp) (vs:List V) (us:List Value) (Q:St→Hp→Prop),Inv X pins σ H s→Zy vs us→t vs σ H Q →
  wpAny (model X.prog X.w) X.A (assignInOrder ((assignEach ts X.env).map (·.2)) us) (fun _ s'=>∃σ' H',Inv X pins σ' H' s'∧Q σ' H') X.xe s
abbrev Zls:=V→V→V→Hp→(Hp→Prop)→Prop
def Zni(X:Cx)(t:Zls):Prop :=
 ∀ (pins:List (Addr×Obj)) (s:Shared) (σ:St) (H:Hp) (o i v:V) (ov iv u:Value) (Q:Hp→Prop),Inv X pins σ H s→ZC o ov→ZC i iv→ZC v u→t o i v H Q →
  wpAny (model X.prog X.w) X.A (setItem ov iv u) (fun _ s'=>∃H',Inv X pins σ H' s'∧Q H') X.xe s
abbrev TIp:=V→V→Hp→VK→Prop
def PIp(X:Cx)(op:Operator)(t:TIp):Prop :=
 ∀ (pins:List (Addr×Obj)) (s:Shared) (σ:St) (H:Hp) (x y:V) (v u:Value) (Q:VK),Inv X pins σ H s→ZC x v→ZC y u→t x y H Q →
  wpAny (model X.prog X.w) X.A (inplaceOp op v u) (EP X pins σ Q) X.xe s
section
variable {X:Cx} {pos:Pos}
def Zke(i:Nat):TG:=fun v σ H Q=>Q (σ.set i (some v)) H
theorem Zw{i:Nat}{x:Str}(hN:X.N.Nodup)(hi:X.N[i]? = some x)(hx:Loc X.env.scope x)(hf:X.fn x=true∨X.env.scope.names.lookup x=some .local:=by first|exact .inl rfl|exact .inr rfl|assumption):PG X (.Name x pos) (Zke i):=by
 intro pins s σ H v u Q I r h
 exact wpAny_assign_Name (ZfA I hN hi hx r (fun s' I'=>⟨_,H,I',h⟩) hf)
def Ztp:TGs:=fun vs σ H Q=>vs=[]∧Q σ H
def Zsj(t:TG)(u:TGs):TGs:=fun vs σ H Q=>∃v r,vs=v::r∧t v σ H fun σ' H'=>u r σ' H' Q
theorem Zal:PGs X [] Ztp:=by
 intro pins s σ H vs us Q I r h
 obtain⟨e,h⟩:=h
 subst e
 cases r
 exact assignInOrder_nil ⟨σ,H,I,h⟩
theorem Zs{e:Expr}{es:List Expr}{t:TG}{u:TGs}(h1:PG X e t)(h2:PGs X es u)
  (hs:(assignEach (e::es) X.env).map (·.2)=assign e X.env::(assignEach es X.env).map (·.2):=by rfl):PGs X (e::es) (Zsj t u):=by
 intro pins s σ H vs us Q I r h
 obtain⟨v,vr,e1,h⟩:=h
 subst e1
 cases r with
 | cons r rr =>
  rw[hs]
  refine assignInOrder_cons (thn (h1 pins s σ H _ _ _ I r h) ?_)
  rintro _ s1 ⟨σ1,H1,I1,q1⟩
  exact h2 pins s1 σ1 H1 _ _ Q I1 rr q1
def Zsf(K:PySem.W.Frag)(n:Nat)(t:TGs):TG:=fun v σ H Q=>∃a xs,v=.ref a∧SqT K H a xs∧xs.length=n∧t xs σ H Q
theorem Zqi{es:List Expr}{k:Nat}{t:TGs}{n:Nat}(hc:X.calm=true)(h:PGs X es t)
  (hn:(assignEach es X.env).length=n:=by rfl) (hst:(assignEach es X.env).findIdx? (·.1)=none:=by rfl):PG X (.Tuple es k pos) (Zsf X.K n t):=by
 intro pins s σ H v u Q I r hw
 obtain⟨a,xs,e1,hq,hl,hw⟩:=hw
 subst e1
 cases r
 obtain⟨its,rv,ht,hz⟩:=I.tuple hq
 refine assign_Tuple_tuple (I.ok.hd hc) ht (by simp[hn,← hl,rv.length]) hst fun h' hx=>?_
 have I1:Inv X pins σ H { s with heap:=h' }:=I.kept (t':=s.toks) fun b o e=>hx b o (QU (QB e)) e
 exact h pins _ σ H xs _ Q I1 (by simpa using rv) hw
def Ztj(to ti:TE)(t:Zls):TG:=fun v σ H Q=>to σ H fun o H1=>ti σ H1 fun i H2=>t o i v H2 fun H3=>Q σ H3
theorem ZdA{o i:Expr}{to ti:TE}{t:Zls}(ho:PE X o to)(hi:PE X i ti)(hs:Zni X t)
  (ha:∀v,assign (.Subscript o i pos) X.env v=(do
   let ov ← holding [v] (eval o X.env)
   let iv ← holding [v,ov] (eval i X.env)
   standAt pos
   holding [v,ov,iv] (setItem ov iv v)
   release [v,ov,iv] []):=by intro _;rfl):PG X (.Subscript o i pos) (Ztj to ti t):=by
 intro pins s σ H v u Q I r h
 rw[ha]
 refine wpAny_bind (wpAny_holding (thn (ho pins s σ H _ I h) ?_))
 rintro ov s1 ⟨x,H1,I1,r1,q1⟩
 refine wpAny_bind (wpAny_holding (thn (hi pins s1 σ H1 _ I1 q1) ?_))
 rintro iv s2 ⟨y,H2,I2,r2,q2⟩
 refine wpAny_bind (wpAny_standAt (wpAny_bind (wpAny_holding (thn (hs pins s2 σ H2 x y v ov iv u _ I2 r1 r2 r q2) ?_))))
 rintro _ s3 ⟨H3,I3,q3⟩
 exact wpAny_release ⟨σ,H3,I3,q3⟩
def Zrl(te:TE)(g:TG):TS:=fun D σ H=>te σ H fun x H1=>g x σ H1 D.nx
theorem ZaO{tg e:Expr}{te:TE}{g:TG}(he:PE X e te)(hg:PG X tg g)(hs:swapsWithSole [tg] e pos.line X.env=pure false:=by rfl)(hw:swappedStores [tg] e X.env=pure none:=by rfl)
  (h1:(assignEach [tg] X.env).map (·.2)=[assign tg X.env]:=by rfl):PS X (.Assign [tg] e pos) (Zrl te g):=by
 intro pins s σ H D I h
 refine wpAny_Assign_stores (thn (he pins s σ H _ I h) ?_) hs hw
 rintro v s1 ⟨x,H1,I1,r1,q1⟩
 rw[h1]
 exact thn (hg pins s1 σ H1 x v _ I1 r1 q1) fun _ s2 q=>q
theorem Zz{i:Nat}{x:Str}{e:Expr}{te:TE}{pos':Pos}(hN:X.N.Nodup)(hi:X.N[i]? = some x)(hx:Loc X.env.scope x)(he:PE X e te)(hs:swapsWith e (some (.Name x pos')) pos.line X.env=pure false:=by rfl)(hf:X.fn x=true∨X.env.scope.names.lookup x=some .local:=by first|exact .inl rfl|exact .inr rfl|assumption) :
  PS X (.Assign [.Name x pos'] e pos) (Zrl te (Zke i)):=by
 intro pins s σ H D I h
 refine wpAny_Assign_Name (thn (he pins s σ H _ I h) ?_) hs
 rintro v s1 ⟨y,H1,I1,r1,q1⟩
 exact ZfA I1 hN hi hx r1 (fun s2 I2=>⟨_,H1,I2,q1⟩) hf
def tPar(i j:Nat)(ta:TA):TS:=fun D σ H=>ta σ H fun vs H1=>∃v w,vs=[v,w]∧D.nx ((σ.set i (some v)).set j (some w)) H1
def ZsY(i:Nat)(te:TE)(ti:TIp):TS:=fun D σ H=>∃x,σ[i]? = some (some x)∧te σ H fun y H1=>ti x y H1 fun z H2=>D.nx (σ.set i (some z)) H2
theorem ZhJ{i:Nat}{x:Str}{e:Expr}{te:TE}{op:Operator}{ti:TIp}{pos':Pos}(hN:X.N.Nodup)(hi:X.N[i]? = some x)(hx:Loc X.env.scope x)(he:PE X e te)(ho:PIp X op ti)(hf:X.fn x=true∨X.env.scope.names.lookup x=some .local:=by first|exact .inl rfl|exact .inr rfl|assumption) :
  PS X (.AugAssign (.Name x pos') op e pos) (ZsY i te ti):=by
 intro pins s σ H D I h
 obtain⟨v,e1,h⟩:=h
 obtain⟨m,hn,hl⟩:=I.loc
 have vis:Vis X.env.scope x:=by rcases hx with k|k;exact .inl k;exact .inr (.inl k)
 obtain⟨u,r,l⟩:=hl i x v hi e1 vis
 refine wpAny_AugAssign_Name ?_
 have go:wpAny (model X.prog X.w) X.A (eval e X.env) (fun w s₂=>wpAny (model X.prog X.w) X.A (inplaceOp op u w) (fun r s₃=>wpAny (model X.prog X.w) X.A (storeName X.env x r) (fun _=>SP X pins D .next) X.xe s₃) X.xe s₂) X.xe s:=by
  refine thn (he pins s σ H _ I h) ?_
  rintro w s1 ⟨y,H1,I1,r1,q1⟩
  refine thn (ho pins s1 σ H1 v y u w _ I1 r r1 q1) ?_
  rintro z s2 ⟨zv,H2,I2,r2,q2⟩
  exact ZfA I2 hN hi hx r2 (fun s3 I3=>⟨_,H2,I3,q2⟩) hf
 rcases l with⟨hk,hm⟩|⟨hk,c,hc,hcell⟩
 ·exact wpAny_loadName_local I.ok.kind hk hn hm go
 ·rcases hk with hk|hk
  ·exact wpAny_loadName_cell I.ok.kind hk hc hcell go
  ·rcases hx with k|k
   ·have:X.env.scope.names.lookup x=some .free:=hk
    rw[k]at this;cases this
   ·have:X.env.scope.names.lookup x=some .free:=hk
    rw[k]at this;cases this
def tAugS(to ti te:TE)(tget:V→V→Hp→VK→Prop)(tip:TIp)(tset:Zls):TS:=fun D σ H=>to σ H fun o H1=>ti σ H1 fun i H2=>tget o i H2 fun x H3=>te σ H3 fun y H4=>tip x y H4 fun z H5=>tset o i z H5 fun H6=>D.nx σ H6
def PGet(X:Cx)(t:V→V→Hp→VK→Prop):Prop :=
 ∀ (pins:List (Addr×Obj)) (s:Shared) (σ:St) (H:Hp) (o i:V) (ov iv:Value) (Q:VK),Inv X pins σ H s→ZC o ov→ZC i iv→t o i H Q →
  wpAny (model X.prog X.w) X.A (getItem ov iv) (EP X pins σ Q) X.xe s
def ipI(f:Int→Int→Int):TIp:=fun x y H Q=>∃i j,x=.int i∧y=.int j∧Q (.int (f i j)) H
theorem ZhG:PIp X .Add (ipI fun i j=>i+j):=by
 intro pins s σ H x y v u Q I r1 r2 h
 obtain⟨i,j,e1,e2,q⟩:=h
 subst e1;subst e2
 obtain⟨t,rfl⟩:=r1
 obtain⟨t',rfl⟩:=r2
 exact iadd_int ⟨.int _,H,I.tok _,⟨_,rfl⟩,q⟩
end
section
variable {X:Cx} {pos:Pos}
def ZqP(c:TT)(tb:TS):TS:=fun D σ H=>∃W:Nat→St→Hp→Prop,(∃m,W m σ H)∧∀m σ H,W m σ H →
 c σ H fun b H1=>if b=true then ∃N:St→Hp→Prop,(∀σ' H',N σ' H'→∃m',m'<m∧W m' σ' H')∧tb { D with nx:=N,ct:=N,bk:=D.nx } σ H1 else D.nx σ H1
theorem ZeH{c:Expr}{body:List Stmt}{tc:TT}{tb:TS}(hp:PassesOwn (model X.prog X.w) X.A X.env X.xe)(hc:PT X c tc)(hb:PSs X body tb):PS X (.While c body [] pos) (ZqP tc tb):=by
 intro pins s σ H D I h
 obtain⟨W,⟨m0,w0⟩,turn⟩:=h
 refine wpAny_While (codeAny_whileLoop (fun n s'=>∃σ' H',Inv X pins σ' H' s'∧W n σ' H') ?_ m0 ⟨σ,H,I,w0⟩)
 rintro n s1 ⟨σ1,H1,I1,w1⟩
 refine wpAny_passesOwn hp (thn (hc pins s1 σ1 H1 _ I1 (turn n σ1 H1 w1)) ?_)
 rintro b s2 ⟨H2,I2,q2⟩
 cases b with
 | true =>
  obtain⟨N,hN,q2⟩:=q2
  rw[if_pos rfl]
  refine wpAny_passesOwn hp (thn (hb pins s2 σ1 H2 _ I2 q2) fun f s3 q3=>?_)
  cases f with
  | next =>
   obtain⟨σ3,H3,I3,n3⟩:=q3
   obtain⟨m',hm,w3⟩:=hN σ3 H3 n3
   exact⟨m',hm,σ3,H3,I3,w3⟩
  | cont =>
   obtain⟨σ3,H3,I3,n3⟩:=q3
   obtain⟨m',hm,w3⟩:=hN σ3 H3 n3
   exact⟨m',hm,σ3,H3,I3,w3⟩
  | brk=>exact q3
  | ret v=>exact q3
 | false =>
  rw[if_neg QC]
  exact wpAny_execs_nil ⟨σ1,H2,I2,q2⟩
end
structure It where
 go:Nat→Hp→Prop
 yld:Nat→Hp→V→Hp→Prop
 stop:Nat→Hp→Prop
def ZfY(X:Cx)(pins:List (Addr×Obj))(H:Hp)(b:Addr):Prop :=
 H b=none∧b≠X.env.locals∧b ∉ X.fs∧(b∈X.ex∨X.s₀.heap.objs.size≤b)∧(∀x c,X.env.cells.lookup x=some c→c≠b)∧∀p∈X.pn++pins,p.1≠b
theorem Inv.fpOk{X:Cx}{pins:List (Addr×Obj)}{σ:St}{H H':Hp}{s:Shared}{b:Addr}(I:Inv X pins σ H s)(hb:s.heap.objs.size≤b)(hn:H' b=none):ZfY X pins H' b:=by
 refine⟨hn,Nat.ne_of_gt (QG I.lt hb),I.nofs hb,.inr (QP I.sz hb),fun x c e z=>?_,fun p hp z=>?_⟩
 ·obtain⟨v,q⟩:=I.cell x c e
  exact absurd (QG q.lt (by rw[z];exact hb)) (Qau _)
 ·exact absurd (QG (QB (I.pin p hp).1) (by rw[z];exact hb)) (Qau _)
structure Zmg (P:Program) (w:World) (K:PySem.W.Frag) (tg:Expr) (J:It) (fp:List Addr) (it:Addr) (tn:Nat→Heap→Prop):Prop where
 mem:it∈fp
 obj:∀i h,tn i h→∀b∈fp,∃o,h.get? b=some o∧∀v,o.data≠.cell v
 keep:∀i h h',tn i h→(∀b∈fp,∀o,h.get? b=some o→h'.get? b=some o)→tn i h'
 item:∀ (X:Cx),X.prog=P→X.w=w→X.K=K→X.calm=true→∀ (i:Nat) (pins:List (Addr×Obj)) (s:Shared) (σ:St) (H:Hp) (E:Value→Shared→Prop),Inv X pins σ H s→(∀b∈fp,ZfY X pins H b)→tn i s.heap→J.go i H →
  wpAny (model P w) X.A (pyNext (.ref it)) (fun r s1=>∃u,r=some u ∧
   wpAny (model P w) X.A (letOwnedTupleGo tg (.ref it) u) (fun _ s2=>∃x H',Inv X pins σ H' s2∧ZC x u∧J.yld i H x H'∧tn (i+1) s2.heap∧∀b∈fp,H' b=none) E s1) E s
 done:∀ (X:Cx),X.prog=P→X.w=w→X.K=K→X.calm=true→∀ (i:Nat) (pins:List (Addr×Obj)) (s:Shared) (σ:St) (H:Hp) (E:Value→Shared→Prop),Inv X pins σ H s→(∀b∈fp,ZfY X pins H b)→tn i s.heap→J.stop i H →
  wpAny (model P w) X.A (pyNext (.ref it)) (fun r s1=>r=none∧Inv X pins σ H s1) E s
 self:∀ (A:Around) (i:Nat) (s:Shared) (Q:Value→Shared→Prop) (E:Value→Shared→Prop),tn i s.heap→Q (.ref it) s→wpAny (model P w) A (pyIter (.ref it)) Q E s
abbrev TI:=St→Hp→(It→Hp→Prop)→Prop
def PIE(X:Cx)(pins:List (Addr×Obj))(σ:St)(tg:Expr)(R:It→Hp→Prop)(itv:Value)(s2:Shared):Prop :=
 ∃ (it:Addr) (fp:List Addr) (tn:Nat→Heap→Prop) (J:It) (H':Hp),itv=.ref it∧Inv X pins σ H' s2∧Zmg X.prog X.w X.K tg J fp it tn∧tn 0 s2.heap∧(∀b∈fp,ZfY X pins H' b)∧R J H'
def PI(X:Cx)(tg iter:Expr)(wi:TI):Prop :=
 ∀ (pins:List (Addr×Obj)) (s:Shared) (σ:St) (H:Hp) (R:It→Hp→Prop),Inv X pins σ H s→wi σ H R →
  wpAny (model X.prog X.w) X.A (eval iter X.env) (fun v s1=>wpAny (model X.prog X.w) X.A (pyIter v) (PIE X pins σ tg R) X.xe s1) X.xe s
theorem Zm8{M:Model}{A:Around}{E:Value→Shared→Prop}{s:Shared}{tg:Expr}{it:Addr}{u:Value}{o:Obj}{n:String}{vs:Array Value}{Q:Unit→Shared→Prop}(ho:s.heap.get? it=some o)(hc:o.cls=.type n)(hd:o.data=.fields vs)
  (hn:["enumerate", "zip", "dict_itemiterator", "dict_reverseitemiterator", "odict_iterator", "itertools.zip_longest", "itertools.pairwise"].contains n=false) (hQ:Q () s):wpAny M A (letOwnedTupleGo tg (.ref it) u) Q E s:=by
 unfold letOwnedTupleGo
 cases tg<;>first
  | exact wpAny_pure hQ
  | (cases u<;>first
    | exact wpAny_pure hQ
    | (refine wpAny_bind (wpAny_load ho ?_);rw[hc,hd];show wpAny M A (if (["enumerate", "zip", "dict_itemiterator", "dict_reverseitemiterator", "odict_iterator", "itertools.zip_longest", "itertools.pairwise"].contains n&&vs[0]? == some (rawInt _))=true then _ else _) Q E s;rw[if_neg (by intro h;rw[hn,Bool.false_and]at h;cases h)];exact wpAny_pure hQ))
def Itl(K:PySem.W.Frag)(a:Addr):It :=
 ⟨fun i H=>∃xs x,SqL K H a xs∧xs[i]? = some x,fun i H x H'=>H'=H∧∀xs,SqL K H a xs→xs[i]? = some x,fun i H=>∃xs,SqL K H a xs∧xs.length≤i⟩
def Itt(K:PySem.W.Frag)(a:Addr):It :=
 ⟨fun i H=>∃xs x,SqT K H a xs∧xs[i]? = some x,fun i H x H'=>H'=H∧∀xs,SqT K H a xs→xs[i]? = some x,fun i H=>∃xs,SqT K H a xs∧xs.length≤i⟩
def Itr(lo:Int)(n:Nat):It:=⟨fun i _=>i<n,fun i H x H'=>H'=H∧x=.int (lo+i),fun i _=>n≤i⟩
theorem Zly{P:Program}{w:World}{K:PySem.W.Frag}{tg:Expr}(a it:Addr):Zmg P w K tg (Itl K a) [it] it (fun i h=>h.IsListIter it a i) where
 mem:=by simp
 obj:=fun i h st b hb=>by
  have e:b=it:=by simpa using hb
  subst e
  obtain⟨o,e,c,d⟩:=st
  exact⟨o,e,fun v z=>by rw[d]at z;cases z⟩
 keep:=fun i h h' st k=>st.at fun o e=>k it (by simp) o e
 item:=by
  intro X hP hw hK hc i pins s σ H E I hf st hg
  subst hP hw hK
  obtain⟨xs,x,hq,hx⟩:=hg
  obtain⟨its,rv,p,hz⟩:=I.list hq
  obtain⟨u,hu,ru⟩:=rv.get hx
  obtain⟨f0,f1,f2,f3,f4,f5⟩:=hf it (by simp)
  refine wpAny_pyNext_list_item st p.isList (x:=u) (by simpa using hu) fun h' st' sb=>?_
  have I1:Inv X pins σ H { s with heap:=h' }:=I.turned (t':=s.toks) (fun b o hb e=>(sb.2 b hb).trans e) f0 f1 f3 f4 f5
  obtain⟨o,e,c,d⟩:=id st'
  exact⟨u,rfl,Zm8 (s:={ s with heap:=h' }) e c d (by decide) ⟨x,H,I1,ru,⟨rfl,fun ys hy=>by rw[I.list_inj hy hq];exact hx⟩,st',fun b hb=>(hf b hb).1⟩⟩
 done:=by
  intro X hP hw hK hc i pins s σ H E I hf st hg
  subst hP hw hK
  obtain⟨xs,hq,hx⟩:=hg
  obtain⟨its,rv,p,hz⟩:=I.list hq
  obtain⟨f0,f1,f2,f3,f4,f5⟩:=hf it (by simp)
  have hl:=rv.length
  exact wpAny_pyNext_list_end (I.ok.hd hc) st p.isList (by simp;omega) fun h' eb=>⟨rfl,I.turned (t':=s.toks) (fun b o hb e=>eb b o hb e) f0 f1 f3 f4 f5⟩
 self:=fun _ _ _ _ _ st h=>wpAny_pyIter_listiter st h
theorem Zjz{P:Program}{w:World}{K:PySem.W.Frag}{tg:Expr}(a it:Addr):Zmg P w K tg (Itt K a) [it] it (fun i h=>h.IsTupleIter it a i) where
 mem:=by simp
 obj:=fun i h st b hb=>by
  have e:b=it:=by simpa using hb
  subst e
  obtain⟨o,e,c,d⟩:=st
  exact⟨o,e,fun v z=>by rw[d]at z;cases z⟩
 keep:=fun i h h' st k=>st.at fun o e=>k it (by simp) o e
 item:=by
  intro X hP hw hK hc i pins s σ H E I hf st hg
  subst hP hw hK
  obtain⟨xs,x,hq,hx⟩:=hg
  obtain⟨its,rv,p,hz⟩:=I.tuple hq
  obtain⟨u,hu,ru⟩:=rv.get hx
  obtain⟨f0,f1,f2,f3,f4,f5⟩:=hf it (by simp)
  refine wpAny_pyNext_tuple_item st (show s.heap.IsTuple a its.toArray from p) (x:=u) (by simpa using hu) fun h' st' sb=>?_
  have I1:Inv X pins σ H { s with heap:=h' }:=I.turned (t':=s.toks) (fun b o hb e=>(sb.2 b hb).trans e) f0 f1 f3 f4 f5
  obtain⟨o,e,c,d⟩:=id st'
  exact⟨u,rfl,Zm8 (s:={ s with heap:=h' }) e c d (by decide) ⟨x,H,I1,ru,⟨rfl,fun ys hy=>by rw[I.tuple_inj hy hq];exact hx⟩,st',fun b hb=>(hf b hb).1⟩⟩
 done:=by
  intro X hP hw hK hc i pins s σ H E I hf st hg
  subst hP hw hK
  obtain⟨xs,hq,hx⟩:=hg
  obtain⟨its,rv,p,hz⟩:=I.tuple hq
  obtain⟨f0,f1,f2,f3,f4,f5⟩:=hf it (by simp)
  have hl:=rv.length
  exact wpAny_pyNext_tuple_end (I.ok.hd hc) st (show s.heap.IsTuple a its.toArray from p) (by simp;omega) fun h' eb=>⟨rfl,I.turned (t':=s.toks) (fun b o hb e=>eb b o hb e) f0 f1 f3 f4 f5⟩
 self:=fun _ _ _ _ _ st h=>wpAny_pyIter_tupleiter st h
theorem ZjV{P:Program}{w:World}{K:PySem.W.Frag}{tg:Expr}(it:Addr)(lo:Int)(n:Nat):Zmg P w K tg (Itr lo n) [it] it (fun i h=>IsRangeIter h it (lo+(i:Nat)*1) ((n:Int)-(i:Nat)) 1) where
 mem:=by simp
 obj:=fun i h st b hb=>by
  have e:b=it:=by simpa using hb
  subst e
  exact⟨_,st,fun v z=>by
   have z':Data.fields _=Data.cell v:=z
   cases z'⟩
 keep:=fun i h h' st k=>k it (by simp) _ st
 item:=by
  intro X hP hw hK hc i pins s σ H E I hf st hg
  subst hP hw hK
  obtain⟨f0,f1,f2,f3,f4,f5⟩:=hf it (by simp)
  have W:=Walks.range (prog:=X.prog) (w:=X.w) (I.ok.hd hc) it lo 1 n
  refine W.item i s _ _ hg st fun v h' tk hv st' kk=>?_
  obtain⟨t,rfl⟩:=hv
  have I1:Inv X pins σ H { s with heap:=h',toks:=tk }:=I.turned (fun b o hb e=>kk b o (by simpa using hb) e) f0 f1 f3 f4 f5
  refine⟨_,rfl,Zm8 (s:={ s with heap:=h',toks:=tk }) (n := "range_iterator") st' rfl rfl (by decide) ⟨.int (lo+i),H,I1,⟨t,?_⟩,⟨rfl,rfl⟩,st',fun b hb=>(hf b hb).1⟩⟩
  rw[Int.mul_one]
 done:=by
  intro X hP hw hK hc i pins s σ H E I hf st hg
  subst hP hw hK
  obtain⟨f0,f1,f2,f3,f4,f5⟩:=hf it (by simp)
  exact wpAny_pyNext_range_end (I.ok.hd hc) st (by have:n≤i:=hg;omega) fun h' eb=>⟨rfl,I.turned (t':=s.toks) (fun b o hb e=>eb b o hb e) f0 f1 f3 f4 f5⟩
 self:=fun _ _ _ _ _ st h=>wpAny_pyIter_rangeiter st h
section
variable {X:Cx} {tg:Expr}
def ZpU(K:PySem.W.Frag)(tl:TE):TI:=fun σ H R=>tl σ H fun x H1=>∃a,x=.ref a∧(∃xs,SqL K H1 a xs)∧R (Itl K a) H1
def Zr6(K:PySem.W.Frag)(tl:TE):TI:=fun σ H R=>tl σ H fun x H1=>∃a,x=.ref a∧(∃xs,SqT K H1 a xs)∧R (Itt K a) H1
theorem Zpo{l:Expr}{tl:TE}(hl:PE X l tl):PI X tg l (ZpU X.K tl):=by
 intro pins s σ H R I h
 refine thn (hl pins s σ H _ I h) ?_
 rintro v s1 ⟨x,H1,I1,r1,q1⟩
 obtain⟨a,e,⟨xs,hq⟩,q⟩:=q1
 subst e
 cases r1
 obtain⟨its,rv,p,hz⟩:=I1.list hq
 refine wpAny_pyIter_list p.isList ?_
 refine⟨s1.heap.objs.size,[s1.heap.objs.size],_,_,H1,rfl,I1.kept (t':=s1.toks) fun b o e=>Qo _ e,Zly a _,⟨_,QJ _ rfl,rfl,rfl⟩,fun b hb=>?_,q⟩
 have e:b=s1.heap.objs.size:=by simpa using hb
 subst e
 exact I1.fpOk (Qh _) (I1.hok.fresh (Qh _))
theorem Zra{l:Expr}{tl:TE}(hl:PE X l tl):PI X tg l (Zr6 X.K tl):=by
 intro pins s σ H R I h
 refine thn (hl pins s σ H _ I h) ?_
 rintro v s1 ⟨x,H1,I1,r1,q1⟩
 obtain⟨a,e,⟨xs,hq⟩,q⟩:=q1
 subst e
 cases r1
 obtain⟨its,rv,p,hz⟩:=I1.tuple hq
 refine wpAny_pyIter_tuple (show s1.heap.IsTuple a its.toArray from p) ?_
 refine⟨s1.heap.objs.size,[s1.heap.objs.size],_,_,H1,rfl,I1.kept (t':=s1.toks) fun b o e=>Qo _ e,Zjz a _,⟨_,QJ _ rfl,rfl,rfl⟩,fun b hb=>?_,q⟩
 have e:b=s1.heap.objs.size:=by simpa using hb
 subst e
 exact I1.fpOk (Qh _) (I1.hok.fresh (Qh _))
theorem Ziz{pins:List (Addr×Obj)}{σ:St}{H:Hp}{s:Shared}{R:It→Hp→Prop}{E:Value→Shared→Prop}{lo hi:Int}{t u v:Tok}{tk:Nat}(I:Inv X pins σ H s)(h1:-(2 ^ 62)≤lo)(h2:lo<2 ^ 62)(h3:-(2 ^ 62)≤hi)(h4:hi<2 ^ 62)
  (q:R (Itr lo (hi-lo).toNat) H):wpAny (model X.prog X.w) X.A (pyIter (.ref s.heap.objs.size)) (PIE X pins σ tg R) E { s with heap:=s.heap.push { cls:=.type "range",data:=.fields #[.int lo t,.int hi u,.int 1 v] },toks:=tk }:=by
 refine wpAny_pyIter_range (IsRange.new ..) (small_one h1 h2 h3 h4) ?_
 have I1:Inv X pins σ H { s with heap:=s.heap.push { cls:=.type "range",data:=.fields #[.int lo t,.int hi u,.int 1 v] },toks:=tk }:=I.kept fun b o e=>Qo _ e
 refine⟨(s.heap.push { cls:=.type "range",data:=.fields #[.int lo t,.int hi u,.int 1 v] }).objs.size,[(s.heap.push { cls:=.type "range",data:=.fields #[.int lo t,.int hi u,.int 1 v] }).objs.size],_,_,H,rfl,
  I1.kept (t':=tk) fun b o e=>Qo _ e,ZjV _ lo (hi-lo).toNat,?_,fun b hb=>?_,q⟩
 ·have e1:lo+((0:Nat):Int)*1=lo:=by simp
  have e2:(((hi-lo).toNat:Nat):Int)-((0:Nat):Int)=Builtin.Range.rangeSize lo hi 1:=by rw[rangeSize_one];split<;>omega
  show IsRangeIter _ _ (lo+((0:Nat):Int)*1) ((((hi-lo).toNat:Nat):Int)-((0:Nat):Int)) 1
  rw[e1,e2]
  exact QJ _ rfl
 ·have e:b=(s.heap.push { cls:=.type "range",data:=.fields #[.int lo t,.int hi u,.int 1 v] }).objs.size:=by simpa using hb
  subst e
  exact I1.fpOk (Qh _) (I1.hok.fresh (Qh _))
def Zsp(ta:TA):TI:=fun σ H R=>ta σ H fun vs H1=>∃j:Int,vs=[.int j] ∧ -(2 ^ 62)≤j∧j<2 ^ 62∧R (Itr 0 j.toNat) H1
def Zsk(ta:TA):TI:=fun σ H R=>ta σ H fun vs H1=>∃i j:Int,vs=[.int i,.int j]∧(-(2 ^ 62)≤i∧i<2 ^ 62 ∧ -(2 ^ 62)≤j∧j<2 ^ 62)∧R (Itr i (j-i).toNat) H1
theorem ZbL{a:Expr}{ta:TA}{p pos:Pos}(hg:Gl X "range")(hm:X.mg "range" = none)(ha:PA X [a] ta)(hs:starEach [a] X.env=[(false,eval a X.env)]:=by rfl):PI X tg (.Call (.Name "range" p) [a] [] pos) (Zsp ta):=by
 intro pins s σ H R I h
 refine Call_ (Ze5 I hg hm boot_range (Qaj (thn (ha pos pins s σ H _ I h) ?_) hs rfl))
 rintro us s1 ⟨vs,H1,I1,r1,q1⟩
 obtain⟨j,e,q1,q2,q⟩:=q1
 subst e
 cases r1 with
 | cons r rr =>
  cases rr
  obtain⟨t,rfl⟩:=r
  exact call_range_1 (Ziz I1 (by omega) (by omega) q1 q2 (by simpa using q))
theorem ZcL{a b:Expr}{ta:TA}{p pos:Pos}(hg:Gl X "range")(hm:X.mg "range" = none)(ha:PA X [a,b] ta)(hs:starEach [a,b] X.env=[(false,eval a X.env),(false,eval b X.env)]:=by rfl)(hs2:starEach [b] X.env=[(false,eval b X.env)]:=by rfl) :
  PI X tg (.Call (.Name "range" p) [a,b] [] pos) (Zsk ta):=by
 intro pins s σ H R I h
 refine Call_ (Ze5 I hg hm boot_range (Qaj (thn (ha pos pins s σ H _ I h) ?_) (by rw[hs,hs2]) (by rw[hs2];rfl)))
 rintro us s1 ⟨vs,H1,I1,r1,q1⟩
 obtain⟨i,j,e,⟨q1,q2,q3,q4⟩,q⟩:=q1
 subst e
 cases r1 with
 | cons r rr =>
  cases rr with
  | cons r' rr =>
   cases rr
   obtain⟨t,rfl⟩:=r
   obtain⟨t',rfl⟩:=r'
   exact call_range_2 (Ziz I1 q1 q2 q3 q4 q)
def ZsW(wi:TI)(g:TG)(tb:TS):TS:=fun D σ H=>wi σ H fun J H1=>∃W:Nat→Nat→St→Hp→Prop,(∃m,W 0 m σ H1)∧∀i m σ H,W i m σ H →
 (J.stop i H∧D.nx σ H)∨(J.go i H∧∃N:St→Hp→Prop,(∀σ' H',N σ' H'→∃m',m'<m∧W (i+1) m' σ' H')∧∀x H',J.yld i H x H'→g x σ H' fun σ2 H2=>tb { D with nx:=N,ct:=N,bk:=D.nx } σ2 H2)
def ZfU(fp:List Addr)(h:Heap):List (Addr×Obj):=fp.filterMap fun b=>(h.get? b).map fun o=>(b,o)
theorem Zdb{fp:List Addr}{h:Heap}{b:Addr}{o:Obj}(hb:b∈fp)(e:h.get? b=some o):(b,o)∈ZfU fp h:=List.mem_filterMap.mpr ⟨b,hb,by rw[e];rfl⟩
theorem Zlo{fp:List Addr}{h:Heap}{p:Addr×Obj}(hp:p∈ZfU fp h):p.1∈fp∧h.get? p.1=some p.2:=by
 obtain⟨b,hb,e⟩:=List.mem_filterMap.mp hp
 cases q:h.get? b with
 | none=>rw[q]at e;cases e
 | some o =>
  rw[q]at e
  have e':(b,o)=p:=Qp e
  subst e'
  exact⟨hb,q⟩
theorem Inv.pinned{pins:List (Addr×Obj)}{σ:St}{H:Hp}{s:Shared}{fp:List Addr}(I:Inv X pins σ H s)(hf:∀b∈fp,ZfY X pins H b)(ho:∀b∈fp,∃o,s.heap.get? b=some o∧∀v,o.data≠.cell v):Inv X (pins++ZfU fp s.heap) σ H s :=
 I.pins_of fun p hp=>(Qf.mp hp).elim (fun z=>I.pin p (Qn _ z)) fun z=>by
  obtain⟨hb,e⟩:=Zlo z
  obtain⟨f0,f1,f2,_⟩:=hf p.1 hb
  obtain⟨o,e',d⟩:=ho p.1 hb
  rw[e]at e';cases e'
  exact⟨e,f0,f1,f2,d⟩
theorem Inv.unpinned{pins pl:List (Addr×Obj)}{σ:St}{H:Hp}{s:Shared}(I:Inv X (pins++pl) σ H s):Inv X pins σ H s:=I.pins_of fun p hp=>I.pin p (Qn _ (Qr _ hp))
theorem Zbo{iter:Expr}{body:List Stmt}{wi:TI}{g:TG}{tb:TS}{pos:Pos}(hp:PassesOwn (model X.prog X.w) X.A X.env X.xe)(hc:X.calm=true)(hi:PI X tg iter wi)(hg:PG X tg g)(hb:PSs X body tb)
  (hs:∀x,foldedSetIterable iter X.env x=pure x:=by intro _;rfl):PS X (.For tg iter body [] pos) (ZsW wi g tb):=by
 intro pins s σ H D I h
 refine wpAny_For (thn (hi pins s σ H _ I h) fun v s1 h1=>thn h1 fun itv s2 h2=>?_) hs
 obtain⟨it,fp,tn,J,H2,e,I2,T,st2,f2,W,⟨m0,w0⟩,turn⟩:=h2
 subst e
 have stat:∀ {H':Hp},(∀b∈fp,H' b=none)→∀b∈fp,ZfY X pins H' b:=fun hn b hb=>⟨hn b hb,(f2 b hb).2⟩
 refine codeAny_forLoop_any (fun n s'=>∃i σ' H',Inv X pins σ' H' s'∧tn i s'.heap∧(∀b∈fp,H' b=none)∧W i n σ' H') ?_ m0 ⟨0,σ,H2,I2,st2,fun b hb=>(f2 b hb).1,w0⟩
 rintro n s3 ⟨i,σ3,H3,I3,st3,fr3,w3⟩
 rcases turn i n σ3 H3 w3 with⟨stop,qn⟩|⟨go,N,hN,step⟩
 ·refine wpAny_passesOwn hp (thn (T.done X rfl rfl rfl hc i pins s3 σ3 H3 X.xe I3 (stat fr3) st3 stop) ?_)
  rintro r s4 ⟨hr,I4⟩
  subst hr
  exact wpAny_execs_nil ⟨σ3,H3,I4,qn⟩
 ·refine wpAny_passesOwn hp (thn (T.item X rfl rfl rfl hc i pins s3 σ3 H3 X.xe I3 (stat fr3) st3 go) ?_)
  rintro r s4 ⟨u,hr,h4⟩
  subst hr
  refine wpAny_passesOwn hp (thn h4 ?_)
  rintro _ s5 ⟨x,H5,I5,r5,y5,st5,fr5⟩
  have I5':=I5.pinned (stat fr5) (T.obj _ _ st5)
  refine wpAny_passesOwn hp (thn (hg _ s5 σ3 H5 x u _ I5' r5 (step x H5 y5)) ?_)
  rintro _ s6 ⟨σ6,H6,I6,q6⟩
  refine wpAny_passesOwn hp (thn (hb _ s6 σ6 H6 _ I6 q6) fun f s7 q7=>?_)
  have again:∀ {σ7:St} {H7:Hp},Inv X (pins++ZfU fp s5.heap) σ7 H7 s7→N σ7 H7→∃m,m<n∧∃i σ' H',Inv X pins σ' H' s7∧tn i s7.heap∧(∀b∈fp,H' b=none)∧W i m σ' H':=fun {σ7 H7} I7 n7=>by
   obtain⟨m',hm,w7⟩:=hN σ7 H7 n7
   refine⟨m',hm,i+1,σ7,H7,I7.unpinned,T.keep _ _ _ st5 fun b hb o e=>(I7.pin (b,o) (Qn _ (Qn _ (Zdb hb e)))).1,fun b hb=>?_,w7⟩
   obtain⟨o,e,d⟩:=T.obj _ _ st5 b hb
   exact(I7.pin (b,o) (Qn _ (Qn _ (Zdb hb e)))).2.1
  cases f with
  | next=>obtain⟨σ7,H7,I7,n7⟩:=q7;exact again I7 n7
  | cont=>obtain⟨σ7,H7,I7,n7⟩:=q7;exact again I7 n7
  | brk=>obtain⟨σ7,H7,I7,q7⟩:=q7;exact⟨σ7,H7,I7.unpinned,q7⟩
  | ret v=>obtain⟨x7,σ7,H7,I7,r7,q7⟩:=q7;exact⟨x7,σ7,H7,I7.unpinned,r7,q7⟩
end
theorem Zf4{K:PySem.W.Frag}{a:Addr}{xs:List V}{g:TG}{tb:TS}{D:ZeK}{σ:St}{H:Hp}(Pv:Nat→St→Hp→Prop)(h0:Pv 0 σ H)(hl:∀i σ H,i≤xs.length→Pv i σ H→SqL K H a xs)
  (hs:∀i x σ H,xs[i]? = some x→Pv i σ H→g x σ H fun σ2 H2=>tb { D with nx:=Pv (i+1),ct:=Pv (i+1),bk:=D.nx } σ2 H2) (hd:∀σ H,Pv xs.length σ H→D.nx σ H) :
  ∃W:Nat→Nat→St→Hp→Prop,(∃m,W 0 m σ H)∧∀i m σ H,W i m σ H →
   ((Itl K a).stop i H∧D.nx σ H)∨((Itl K a).go i H∧∃N:St→Hp→Prop,(∀σ' H',N σ' H'→∃m',m'<m∧W (i+1) m' σ' H')∧∀x H',(Itl K a).yld i H x H'→g x σ H' fun σ2 H2=>tb { D with nx:=N,ct:=N,bk:=D.nx } σ2 H2):=by
 refine⟨fun i m σ H=>m=xs.length-i∧i≤xs.length∧Pv i σ H,⟨xs.length,by simp,Qv _,h0⟩,?_⟩
 rintro i m σ H ⟨rfl,hi,p⟩
 have q:=hl i σ H hi p
 by_cases hlt:i<xs.length
 ·refine .inr ⟨⟨xs,xs[i],q,by simp[hlt]⟩,Pv (i+1),fun σ' H' p'=>⟨xs.length-(i+1),by omega,rfl,hlt,p'⟩,fun x H' y=>?_⟩
  obtain⟨e,y⟩:=y
  subst e
  exact hs i x σ _ (y xs q) p
 ·have e:i=xs.length:=by omega
  subst e
  exact .inl ⟨⟨xs,q,Qh _⟩,hd σ H p⟩
theorem Zpa{K:PySem.W.Frag}{a:Addr}{xs:List V}{g:TG}{tb:TS}{D:ZeK}{σ:St}{H:Hp}(Pv:Nat→St→Hp→Prop)(h0:Pv 0 σ H)(hl:∀i σ H,i≤xs.length→Pv i σ H→SqT K H a xs)
  (hs:∀i x σ H,xs[i]? = some x→Pv i σ H→g x σ H fun σ2 H2=>tb { D with nx:=Pv (i+1),ct:=Pv (i+1),bk:=D.nx } σ2 H2) (hd:∀σ H,Pv xs.length σ H→D.nx σ H) :
  ∃W:Nat→Nat→St→Hp→Prop,(∃m,W 0 m σ H)∧∀i m σ H,W i m σ H →
   ((Itt K a).stop i H∧D.nx σ H)∨((Itt K a).go i H∧∃N:St→Hp→Prop,(∀σ' H',N σ' H'→∃m',m'<m∧W (i+1) m' σ' H')∧∀x H',(Itt K a).yld i H x H'→g x σ H' fun σ2 H2=>tb { D with nx:=N,ct:=N,bk:=D.nx } σ2 H2):=by
 refine⟨fun i m σ H=>m=xs.length-i∧i≤xs.length∧Pv i σ H,⟨xs.length,by simp,Qv _,h0⟩,?_⟩
 rintro i m σ H ⟨rfl,hi,p⟩
 have q:=hl i σ H hi p
 by_cases hlt:i<xs.length
 ·refine .inr ⟨⟨xs,xs[i],q,by simp[hlt]⟩,Pv (i+1),fun σ' H' p'=>⟨xs.length-(i+1),by omega,rfl,hlt,p'⟩,fun x H' y=>?_⟩
  obtain⟨e,y⟩:=y
  subst e
  exact hs i x σ _ (y xs q) p
 ·have e:i=xs.length:=by omega
  subst e
  exact .inl ⟨⟨xs,q,Qh _⟩,hd σ H p⟩
theorem Zbt{lo:Int}{n:Nat}{g:TG}{tb:TS}{D:ZeK}{σ:St}{H:Hp}(Pv:Nat→St→Hp→Prop)(h0:Pv 0 σ H)
  (hs:∀i σ H,i<n→Pv i σ H→g (.int (lo+i)) σ H fun σ2 H2=>tb { D with nx:=Pv (i+1),ct:=Pv (i+1),bk:=D.nx } σ2 H2) (hd:∀σ H,Pv n σ H→D.nx σ H) :
  ∃W:Nat→Nat→St→Hp→Prop,(∃m,W 0 m σ H)∧∀i m σ H,W i m σ H →
   ((Itr lo n).stop i H∧D.nx σ H)∨((Itr lo n).go i H∧∃N:St→Hp→Prop,(∀σ' H',N σ' H'→∃m',m'<m∧W (i+1) m' σ' H')∧∀x H',(Itr lo n).yld i H x H'→g x σ H' fun σ2 H2=>tb { D with nx:=N,ct:=N,bk:=D.nx } σ2 H2):=by
 refine⟨fun i m σ H=>m=n-i∧i≤n∧Pv i σ H,⟨n,by simp,Qv _,h0⟩,?_⟩
 rintro i m σ H ⟨rfl,hi,p⟩
 by_cases hlt:i<n
 ·refine .inr ⟨hlt,Pv (i+1),fun σ' H' p'=>⟨n-(i+1),by omega,rfl,hlt,p'⟩,fun x H' y=>?_⟩
  obtain⟨e,y⟩:=y
  subst e y
  exact hs i σ _ hlt p
 ·have e:i=n:=by omega
  subst e
  exact .inl ⟨Qh _,hd σ H p⟩
abbrev R2:=V→V→Hp→VK→Prop
def OpR(X:Cx)(f:Value→Value→Sem Value)(r:R2):Prop :=
 ∀ (pins:List (Addr×Obj)) (s:Shared) (σ:St) (H:Hp) (x y:V) (v u:Value) (Q:VK),Inv X pins σ H s→ZC x v→ZC y u→r x y H Q →
  wpAny (model X.prog X.w) X.A (f v u) (EP X pins σ Q) X.xe s
def UnR(X:Cx)(f:Value→Sem Value)(r:V→Hp→VK→Prop):Prop :=
 ∀ (pins:List (Addr×Obj)) (s:Shared) (σ:St) (H:Hp) (x:V) (v:Value) (Q:VK),Inv X pins σ H s→ZC x v→r x H Q →
  wpAny (model X.prog X.w) X.A (f v) (EP X pins σ Q) X.xe s
def ZaW(X:Cx)(f:Value)(r:List V→Hp→VK→Prop):Prop :=
 ∀ (pins:List (Addr×Obj)) (s:Shared) (σ:St) (H:Hp) (xs:List V) (us:List Value) (Q:VK),Inv X pins σ H s→Zy xs us→r xs H Q →
  wpAny (model X.prog X.w) X.A (call f us) (EP X pins σ Q) X.xe s
def TruR(X:Cx)(r:V→Hp→(Bool→Hp→Prop)→Prop):Prop :=
 ∀ (pins:List (Addr×Obj)) (s:Shared) (σ:St) (H:Hp) (x:V) (v:Value) (Q:Bool→Hp→Prop),Inv X pins σ H s→ZC x v→r x H Q →
  wpAny (model X.prog X.w) X.A (truthy v) (TP X pins σ Q) X.xe s
def tOp(r:R2)(ta tb:TE):TE:=fun σ H Q=>ta σ H fun x H1=>tb σ H1 fun y H2=>r x y H2 Q
def tUn(r:V→Hp→VK→Prop)(ta:TE):TE:=fun σ H Q=>ta σ H fun x H1=>r x H1 Q
def rI(C:Int→Int→Prop)(g:Int→Int→V):R2:=fun x y H Q=>∃i j,x=.int i∧y=.int j∧C i j∧Q (g i j) H
def rI0(g:Int→Int→V):R2:=fun x y H Q=>∃i j,x=.int i∧y=.int j∧Q (g i j) H
def rU(g:Int→V):V→Hp→VK→Prop:=fun x H Q=>∃i,x=.int i∧Q (g i) H
section
variable {X:Cx} {a b c:Expr} {ta tb tc:TE} {pos:Pos}
theorem ZqK(ha:PE X a ta)(hb:PE X b tb){pins:List (Addr×Obj)}{s:Shared}{σ:St}{H:Hp}{R:V→V→Hp→Prop}(I:Inv X pins σ H s)
  (h:ta σ H fun x H1=>tb σ H1 fun y H2=>R x y H2) {Q:Value→Shared→Prop} {f:Value→Value→Sem Value}
  (hf:∀v u s2 x y H2,Inv X pins σ H2 s2→ZC x v→ZC y u→R x y H2→wpAny (model X.prog X.w) X.A (f v u) Q X.xe s2) :
  wpAny (model X.prog X.w) X.A (eval a X.env) (fun v s₁=>wpAny (model X.prog X.w) X.A (eval b X.env) (fun u s₂=>wpAny (model X.prog X.w) X.A (f v u) Q X.xe s₂) X.xe s₁) X.xe s:=by
 refine thn (ha pins s σ H _ I h) ?_
 rintro v s1 ⟨x,H1,I1,r1,q1⟩
 refine thn (hb pins s1 σ H1 _ I1 q1) ?_
 rintro u s2 ⟨y,H2,I2,r2,q2⟩
 exact hf v u s2 x y H2 I2 r1 r2 q2
theorem ZG{op:Operator}{r:R2}(ho:OpR X (binaryOp op) r)(ha:PE X a ta)(hb:PE X b tb):PE X (.BinOp a op b pos) (tOp r ta tb):=by
 intro pins s σ H Q I h
 exact wpAny_BinOp (ZqK ha hb I h fun v u s2 x y H2 I2 rx ry q=>ho pins s2 σ H2 x y v u Q I2 rx ry q)
theorem ZgR{op:UnaryOp}{r:V→Hp→VK→Prop}(ho:UnR X (unaryOp op) r)(ha:PE X a ta):PE X (.UnaryOp op a pos) (tUn r ta):=by
 intro pins s σ H Q I h
 exact UnaryOp_ (thn (ha pins s σ H _ I h) fun v s1 ⟨x,H1,I1,r1,q1⟩=>ho pins s1 σ H1 x v Q I1 r1 q1)
theorem opI{f:Value→Value→Sem Value}{C:Int→Int→Prop}{g:Int→Int→Int}
  (rule:∀ (i j:Int) (t u:Tok) (s:Shared) (Q:Value→Shared→Prop) (E:Value→Shared→Prop),C i j→Q (.int (g i j) s.toks) { s with toks:=s.toks+1 }→wpAny (model X.prog X.w) X.A (f (.int i t) (.int j u)) Q E s) :
  OpR X f (rI C fun i j=>.int (g i j)):=by
 intro pins s σ H x y v u Q I rx ry h
 obtain⟨i,j,rfl,rfl,hc,q⟩:=h
 obtain⟨t,rfl⟩:=rx
 obtain⟨t',rfl⟩:=ry
 exact rule i j t t' s _ _ hc ⟨.int (g i j),H,I.tok _,⟨_,rfl⟩,q⟩
theorem Zsq{f:Value→Value→Sem Value}{g:Int→Int→Int}
  (rule:∀ (i j:Int) (t u:Tok) (s:Shared) (Q:Value→Shared→Prop) (E:Value→Shared→Prop),Q (.int (g i j) s.toks) { s with toks:=s.toks+1 }→wpAny (model X.prog X.w) X.A (f (.int i t) (.int j u)) Q E s) :
  OpR X f (rI0 fun i j=>.int (g i j)):=by
 intro pins s σ H x y v u Q I rx ry h
 obtain⟨i,j,rfl,rfl,q⟩:=h
 obtain⟨t,rfl⟩:=rx
 obtain⟨t',rfl⟩:=ry
 exact rule i j t t' s _ _ ⟨.int (g i j),H,I.tok _,⟨_,rfl⟩,q⟩
theorem ZoN{f:Value→Value→Sem Value}{g:Int→Int→Bool}
  (rule:∀ (i j:Int) (t u:Tok) (s:Shared) (Q:Value→Shared→Prop) (E:Value→Shared→Prop),Q (.bool (g i j)) s→wpAny (model X.prog X.w) X.A (f (.int i t) (.int j u)) Q E s) :
  OpR X f (rI0 fun i j=>.bl (g i j)):=by
 intro pins s σ H x y v u Q I rx ry h
 obtain⟨i,j,rfl,rfl,q⟩:=h
 obtain⟨t,rfl⟩:=rx
 obtain⟨t',rfl⟩:=ry
 exact rule i j t t' s _ _ ⟨.bl (g i j),H,I,rfl,q⟩
def Ztq(i j:Int):Prop:=0<j∧j<1073741824
def CDivN(i j:Int):Prop:=j≠0∧j.natAbs<1073741824
def Zsr(i j:Int):Prop:=0≤j∧j≤1000000∧i.natAbs<2 ^ 64
def Zq7(i j:Int):Prop:=(-(2 ^ 64)<i∧i<2 ^ 64)∨(-(2 ^ 64)<j∧j<2 ^ 64)
theorem Zq7.ok{i j:Int}(h:Zq7 i j):IntMulOk i j:=by
 rcases h with⟨h1,h2⟩|⟨h1,h2⟩
 ·exact .of_left (intBits_le_64 h1 h2)
 ·exact .of_right (intBits_le_64 h1 h2)
theorem Zaq:OpR X (binaryOp .Add) (rI0 fun i j=>.int (i+j)):=Zsq fun _ _ _ _ _ _ _ q=>add_int q
theorem Zb0:OpR X (binaryOp .Sub) (rI0 fun i j=>.int (i-j)):=Zsq fun _ _ _ _ _ _ _ q=>sub_int q
theorem Ze4:OpR X (binaryOp .Mult) (rI Zq7 fun i j=>.int (i*j)):=opI fun _ _ _ _ _ _ _ hc q=>mul_int q hc.ok
theorem Zfx:OpR X (binaryOp .FloorDiv) (rI Ztq fun i j=>.int (i / j)):=opI fun i j _ _ _ _ _ hc q=>by
 have h1:(0:Int)<j:=hc.1
 have h2:j<1073741824:=hc.2
 exact floordiv_int (by omega) (by rw[Int.fdiv_eq_ediv_of_nonneg i (by omega)];exact q) (.inl (PyProof.noPylong_small (by omega)))
theorem Zga:OpR X (binaryOp .Mod) (rI (fun _ j=>0<j) fun i j=>.int (i % j)):=opI fun i j _ _ _ _ _ hc q=>by
 have h1:(0:Int)<j:=hc
 exact mod_int' (by omega) (by rw[Int.fmod_eq_emod_of_nonneg i (by omega)];exact q)
theorem Zqu:OpR X (binaryOp .Pow) (rI Zsr fun i j=>.int (i ^ j.toNat)):=opI fun _ _ _ _ _ _ _ hc q=>pow_int_small hc.1 hc.2.1 hc.2.2 q
theorem unI{f:Value→Sem Value}{g:Int→Int}
  (rule:∀ (i:Int) (t:Tok) (s:Shared) (Q:Value→Shared→Prop) (E:Value→Shared→Prop),Q (.int (g i) s.toks) { s with toks:=s.toks+1 }→wpAny (model X.prog X.w) X.A (f (.int i t)) Q E s) :
  UnR X f (rU fun i=>.int (g i)):=by
 intro pins s σ H x v Q I rx h
 obtain⟨i,rfl,q⟩:=h
 obtain⟨t,rfl⟩:=rx
 exact rule i t s _ _ ⟨.int (g i),H,I.tok _,⟨_,rfl⟩,q⟩
theorem Ze0:UnR X (unaryOp .USub) (rU fun i=>.int (-i)):=unI fun _ _ _ _ _ q=>neg_int q
end
def Zsg:V→V→Bool
 | .non,.non=>true|.non,.int _=>true|.int _,.non=>true|.non,.bl _=>true|.bl _,.non=>true|.non,.str _=>true|.str _,.non=>true
 | .int _,.int _=>true|.bl _,.bl _=>true|.str _,.str _=>true|.byt _,.byt _=>true
 | .int _,.str _=>true|.str _,.int _=>true|.bl _,.str _=>true|.str _,.bl _=>true
 | _,_=>false
def rEq:R2:=fun x y H Q=>Zsg x y=true∧Q (.bl (decide (x=y))) H
def rNe:R2:=fun x y H Q=>Zsg x y=true∧Q (.bl (!decide (x=y))) H
theorem ZoS{i j:Int}:decide (V.int i=V.int j)=(i == j):=by
 rw[Bool.eq_iff_iff]
 simp
theorem ZqI{i j:Bool}:decide (V.bl i=V.bl j)=(i == j):=by
 rw[Bool.eq_iff_iff]
 simp
theorem Zoo{i j:Str}:decide (V.str i=V.str j)=(i == j):=by
 rw[Bool.eq_iff_iff]
 simp
theorem ZpE{i j:Array UInt8}:decide (V.byt i=V.byt j)=(i.toList == j.toList):=by
 rw[Bool.eq_iff_iff]
 cases i
 cases j
 simp
section
variable {X:Cx} {a b c:Expr} {ta tb tc:TE} {pos:Pos}
theorem ZaS{pins:List (Addr×Obj)}{σ:St}{H:Hp}{s:Shared}{Q:VK}{k k':Bool}(I:Inv X pins σ H s)(q:Q (.bl k) H)(e:k=k'):EP X pins σ Q (.bool k') s:=by
 subst e
 exact⟨.bl k,H,I,rfl,q⟩
theorem Za4:OpR X (compareOp .Eq) rEq:=by
 intro pins s σ H x y v u Q I rx ry h
 obtain⟨hs,q⟩:=h
 cases x with
 | non =>
  cases rx
  cases y with
  | non=>cases ry;exact PySem.EqNone.eq_none_none (ZaS I q (by simp))
  | bl j=>cases ry;exact PySem.EqNone.eq_none_bool (ZaS I q (by simp))
  | int j=>obtain⟨t',rfl⟩:=ry;exact PySem.EqNone.eq_none_int (ZaS I q (by simp))
  | str j=>obtain⟨t',rfl⟩:=ry;exact PySem.EqNone.eq_none_str (ZaS I q (by simp))
  | _=>exact absurd (show false=true from hs) QC
 | bl i =>
  cases rx
  cases y with
  | non=>cases ry;exact PySem.EqNone.eq_bool_none (ZaS I q (by simp))
  | bl j=>cases ry;exact eq_bool (ZaS I q ZqI)
  | str j=>obtain⟨t',rfl⟩:=ry;exact PySem.EqMixed.eq_bool_str (ZaS I q (by simp))
  | _=>exact absurd (show false=true from hs) QC
 | int i =>
  obtain⟨t,rfl⟩:=rx
  cases y with
  | non=>cases ry;exact PySem.EqNone.eq_int_none (ZaS I q (by simp))
  | int j=>obtain⟨t',rfl⟩:=ry;exact eq_int (ZaS I q ZoS)
  | str j=>obtain⟨t',rfl⟩:=ry;exact PySem.EqMixed.eq_int_str (ZaS I q (by simp))
  | _=>exact absurd (show false=true from hs) QC
 | str i =>
  obtain⟨t,rfl⟩:=rx
  cases y with
  | non=>cases ry;exact PySem.EqNone.eq_str_none (ZaS I q (by simp))
  | bl j=>cases ry;exact PySem.EqMixed.eq_str_bool (ZaS I q (by simp))
  | int j=>obtain⟨t',rfl⟩:=ry;exact PySem.EqMixed.eq_str_int (ZaS I q (by simp))
  | str j=>obtain⟨t',rfl⟩:=ry;exact eq_str (ZaS I q Zoo)
  | _=>exact absurd (show false=true from hs) QC
 | byt i =>
  obtain⟨t,rfl⟩:=rx
  cases y with
  | byt j=>obtain⟨t',rfl⟩:=ry;exact PySem.W.eq_bytes (ZaS I q ZpE)
  | _=>exact absurd (show false=true from hs) QC
 | _=>cases y<;>exact absurd (show false=true from hs) QC
theorem Zcw:OpR X (compareOp .Lt) (rI0 fun i j=>.bl (decide (i<j))):=ZoN fun _ _ _ _ _ _ _ q=>lt_int q
theorem ZrZ:OpR X (compareOp .LtE) (rI0 fun i j=>.bl (decide (i≤j))):=ZoN fun _ _ _ _ _ _ _ q=>le_int q
theorem Zfi:OpR X (compareOp .Gt) (rI0 fun i j=>.bl (decide (j<i))):=ZoN fun _ _ _ _ _ _ _ q=>gt_int q
theorem Zmu:OpR X (compareOp .GtE) (rI0 fun i j=>.bl (decide (j≤i))):=ZoN fun _ _ _ _ _ _ _ q=>ge_int q
theorem ZlE:OpR X (compareOp .Lt) (fun x y H Q=>∃i j,x=.str i∧y=.str j∧Q (.bl (decide (i.cps.toList<j.cps.toList))) H):=by
 intro pins s σ H x y v u Q I rx ry h
 obtain⟨i,j,rfl,rfl,q⟩:=h
 obtain⟨t,rfl⟩:=rx
 obtain⟨t',rfl⟩:=ry
 exact lt_str (ZaS I q rfl)
theorem ZdR:OpR X (compareOp .Is) (fun x y H Q=>y=.non∧Q (.bl (decide (x=.non))) H):=by
 intro pins s σ H x y v u Q I rx ry h
 obtain⟨rfl,q⟩:=h
 cases ry
 refine is_none_gen (ZaS I q ?_)
 cases x<;>first
  | (cases rx;rfl)
  | (obtain⟨t,rfl⟩:=rx;rfl)
theorem Zfu:OpR X (compareOp .IsNot) (fun x y H Q=>y=.non∧Q (.bl (!decide (x=.non))) H):=by
 intro pins s σ H x y v u Q I rx ry h
 obtain⟨rfl,q⟩:=h
 cases ry
 refine isnot_none_gen (ZaS I q ?_)
 cases x<;>first
  | (cases rx;rfl)
  | (obtain⟨t,rfl⟩:=rx;rfl)
def isObj:HO→Bool
 | .lst _=>true
 | .ins _ _ _=>true
 | _=>false
theorem Zt(b:Expr){op:CmpOp}(h:op≠.In:=by decide)(h2:op≠.NotIn:=by decide):behindInMarks op b=false:=by
 have e1:(op == CmpOp.In)=false:=by cases op<;>first|rfl|exact absurd rfl h
 have e2:(op == CmpOp.NotIn)=false:=by cases op<;>first|rfl|exact absurd rfl h2
 cases b<;>simp[behindInMarks,e1,e2]
theorem Zet{op:CmpOp}{r:R2}(ho:OpR X (compareOp op) r)(ha:PE X a ta)(hb:PE X b tb)(hm:behindInMarks op b=false):PE X (.Compare a [op] [b] pos) (tOp r ta tb):=by
 intro pins s σ H Q I h
 exact wpAny_Compare1 (ZqK ha hb I h fun v u s2 x y H2 I2 rx ry q=>ho pins s2 σ H2 x y v u Q I2 rx ry q) hm
def ZpV(t:TE):TT:=fun σ H Q=>t σ H fun x H'=>∃k,x=.bl k∧Q k H'
theorem Zo{op:CmpOp}{r:R2}(ho:OpR X (compareOp op) r)(ha:PE X a ta)(hb:PE X b tb)(hm:behindInMarks op b=false):PT X (.Compare a [op] [b] pos) (ZpV (tOp r ta tb)):=by
 intro pins s σ H Q I h
 refine wpAny_isTrue_Compare1 (thn (ha pins s σ H _ I h) fun v s1 ⟨x,H1,I1,r1,q1⟩=>thn (hb pins s1 σ H1 _ I1 q1) fun u s2 ⟨y,H2,I2,r2,q2⟩=>
  thn (ho pins s2 σ H2 x y v u _ I2 r1 r2 q2) fun c s3 ⟨z,H3,I3,r3,k,e,q3⟩=>?_) hm
 subst e
 cases r3
 exact wpAny_truthy_bool ⟨H3,I3,q3⟩
def Zrm(r r':R2)(ta tb tc:TE):TE:=fun σ H Q=>ta σ H fun x H1=>tb σ H1 fun y H2=>r x y H2 fun z H3=>∃k,z=.bl k ∧
 (if k=true then tc σ H3 fun w' H4=>r' y w' H4 Q else Q (.bl false) H3)
theorem Zif{op op':CmpOp}{r r':R2}(ho:OpR X (compareOp op) r)(ho':OpR X (compareOp op') r')(ha:PE X a ta)(hb:PE X b tb)(hc:PE X c tc)
  (hm:lastMarks [op,op'] [b,c]=false:=by with_unfolding_all rfl):PT X (.Compare a [op,op'] [b,c] pos) (ZpV (Zrm r r' ta tb tc)):=by
 intro pins s σ H Q I h
 refine isTrue_chain (thn (ha pins s σ H _ I h) fun v s1 ⟨x,H1,I1,r1,q1⟩=>test_link (thn (hb pins s1 σ H1 _ I1 q1) fun u s2 ⟨y,H2,I2,r2,q2⟩=>
  thn (ho pins s2 σ H2 x y v u _ I2 r1 r2 q2) fun d s3 ⟨z,H3,I3,r3,k,e,q3⟩=>?_)) hm
 subst e
 cases r3
 refine wpAny_truthy_bool ?_
 cases k with
 | false =>
  obtain⟨k',e',q'⟩:=q3
  cases e'
  exact ite_ff ⟨H3,I3,q'⟩
 | true =>
  refine ite_tt (test_last (thn (hc pins s3 σ H3 _ I3 q3) fun w' s4 ⟨z',H4,I4,r4,q4⟩=>thn (ho' pins s4 σ H4 y z' u w' _ I4 r2 r4 q4) ?_))
  rintro d' s5 ⟨z2,H5,I5,r5,k2,e2,q5⟩
  subst e2
  cases r5
  exact wpAny_truthy_bool ⟨H5,I5,q5⟩
def Zs4(K:PySem.W.Frag)(x:V)(H:Hp)(k:Bool):Prop :=
 match x with
 | .non=>k=false
 | .bl b=>k=b
 | .int i=>k=(i != 0)
 | .str y=>y.length≤sizeLine∧k=((y.length:Int) != 0)
 | .byt y=>y.size≤sizeLine∧k=((y.size:Int) != 0)
 | .ref p=>(∃xs,SqL K H p xs∧k = !xs.isEmpty)∨(∃xs,SqT K H p xs∧k = !xs.isEmpty)∨∃kvs,H p=some (.dK kvs)∧k = !kvs.isEmpty
 | _=>False
theorem Ze8:(sizeLine:Nat)<2 ^ 63:=by rw[sizeLine_eq];decide
theorem ZjW:OpR X (binaryOp .Add) (fun x y H Q=>∃i j,x=.str i∧y=.str j∧i.length+j.length≤sizeLine∧Q (.str (i++j)) H):=by
 intro pins s σ H x y v u Q I rx ry h
 obtain⟨i,j,rfl,rfl,hz,q⟩:=h
 obtain⟨t,rfl⟩:=rx
 obtain⟨t',rfl⟩:=ry
 exact add_str (fun t' tk=>⟨.str (i++j),H,I.tok _,⟨_,rfl⟩,q⟩) hz
def PlainIxT(b:Expr):Prop:=∀o i,subscripted b false o i=operate [o,i] (getItem o i)
theorem Zdm{x:V}{us:List Value}(r:Zy [x] us):∃u,us=[u]∧ZC x u:=by
 cases r with
 | cons r1 r2=>cases r2;exact⟨_,rfl,r1⟩
theorem ZnS{x y:V}{us:List Value}(r:Zy [x,y] us):∃u w',us=[u,w']∧ZC x u∧ZC y w':=by
 cases r with
 | cons r1 r2 =>
  cases r2 with
  | cons r3 r4=>cases r4;exact⟨_,_,rfl,r1,r3⟩
theorem ZiH:ZaW X (.builtin "abs") (fun xs H Q=>∃i,xs=[.int i]∧Q (.int (if i<0 then -i else i)) H):=by
 intro pins s σ H xs us Q I r h
 obtain⟨i,rfl,q⟩:=h
 obtain⟨u,rfl,t,rfl⟩:=Zdm r
 exact call_abs_int fun u tk=>⟨.int (if i<0 then -i else i),H,I.tok _,⟨_,rfl⟩,q⟩
theorem Zlw(hc:X.calm=true):ZaW X (.builtin "max") (fun xs H Q=>∃i j,xs=[.int i,.int j]∧Q (.int (if j>i then j else i)) H):=by
 intro pins s σ H xs us Q I r h
 obtain⟨i,j,rfl,q⟩:=h
 obtain⟨u,w',rfl,⟨t,rfl⟩,⟨t',rfl⟩⟩:=ZnS r
 refine max_two_ints (I.ok.hd hc) fun h' tk k=>⟨_,H,I.kept k,?_,q⟩
 by_cases hj:j>i
 ·rw[if_pos hj,if_pos hj];exact⟨_,rfl⟩
 ·rw[if_neg hj,if_neg hj];exact⟨_,rfl⟩
theorem ZeY(hc:X.calm=true):ZaW X (.builtin "min") (fun xs H Q=>∃i j,xs=[.int i,.int j]∧Q (.int (if j<i then j else i)) H):=by
 intro pins s σ H xs us Q I r h
 obtain⟨i,j,rfl,q⟩:=h
 obtain⟨u,w',rfl,⟨t,rfl⟩,⟨t',rfl⟩⟩:=ZnS r
 refine min_two_ints (I.ok.hd hc) fun h' tk k=>⟨_,H,I.kept k,?_,q⟩
 by_cases hj:j<i
 ·rw[if_pos hj,if_pos hj];exact⟨_,rfl⟩
 ·rw[if_neg hj,if_neg hj];exact⟨_,rfl⟩
theorem ZlA:ZaW X (.type "int") (fun xs H Q=>(∃i,xs=[.int i]∧Q (.int i) H)∨∃k,xs=[.bl k]∧Q (.int (if k then 1 else 0)) H):=by
 intro pins s σ H xs us Q I r h
 rcases h with⟨i,rfl,q⟩|⟨k,rfl,q⟩
 ·obtain⟨u,rfl,t,rfl⟩:=Zdm r
  exact call_int_int ⟨.int i,H,I,⟨_,rfl⟩,q⟩
 ·obtain⟨u,rfl,r1⟩:=Zdm r
  cases r1
  exact call_int_bool ⟨.int (if k then 1 else 0),H,I.tok _,⟨_,rfl⟩,q⟩
def LenV(K:PySem.W.Frag)(x:V)(H:Hp)(n:Nat):Prop :=
 match x with
 | .str y=>y.length≤sizeLine∧n=y.length
 | .byt y=>y.size≤sizeLine∧n=y.size
 | .ref p=>(∃xs,SqL K H p xs∧n=xs.length)∨∃xs,SqT K H p xs∧n=xs.length
 | _=>False
end
structure Zj3 (h:Heap) (x dx C:Addr) (mA:Str→Option Value):Prop where
 obj:h.get? x=some (PySem.W.instObj C dx)
 ns:h.Ns1 dx mA
 ne:dx≠x
theorem Zlm{h:Heap}{dx:Addr}{mA:Str→Option Value}(n:h.Ns1 dx mA):∃od,h.get? dx=some od∧∀name,PySem.W.lookIn name od=some (mA name):=by
 obtain⟨o,es,ep,ho,hd,hk,_,hm⟩:=n
 refine⟨o,ho,fun name=>?_⟩
 have e:=hm name
 unfold nsFind findBy at e
 rw[← Array.find?_toList]at e
 unfold PySem.W.lookIn
 rw[hd]
 dsimp only
 split
 ·rename_i y q
  rw[q]at e
  exact congrArg some e
 ·rename_i q
  rw[q]at e
  have a:es.toList.any (·.refKey)=false:=by
   rw[List.any_eq_false]
   intro y hy
   obtain⟨z,t,hkey⟩:=hk y (Array.mem_toList_iff.mp hy)
   simp[DictEntry.refKey,hkey]
  have a':¬ es.toList.any (·.refKey)=true:=by rw[a];exact QC
  rw[if_neg a']
  exact congrArg some e
theorem Zj3.look{h:Heap}{x dx C:Addr}{mA:Str→Option Value}(I:Zj3 h x dx C mA):∃od,PySem.W.InstAt h x (PySem.W.instObj C dx) C (some od)∧∀name,PySem.W.lookIn name od=some (mA name) :=
 let ⟨od,ho,hl⟩:=Zlm I.ns
 ⟨od,⟨I.obj,rfl,rfl,ho⟩,hl⟩
section
variable {prog:Program} {w:World} {A:Around} {E:Value→Shared→Prop} {s:Shared} {K:PySem.W.Frag} {x dx C f:Addr} {mA:Str→Option Value} {name:Str} {v:Value}
theorem Zoj{expr:Bool}{Q:Value→Shared→Prop}(X:K.In s.heap)(I:Zj3 s.heap x dx C mA)(hg:PySem.W.plainGet K C name=true)(hh:PySem.W.hasDictIn K C=true)
  (ha:PySem.W.findIn K (.ref C) name=some none) (hv:mA name=some v) (hv':PySem.W.handedIn v=true) (h:Q v { s with toks:=s.toks+1 }) :
  wpAny (model prog w) A (getAttr (.ref x) name expr) Q E s:=by
 obtain⟨od,J,hl⟩:=I.look
 exact PySem.W.get_value X J (PySem.W.plainGet_of hg).1 (PySem.W.findObj_own hh ha rfl (by rw[hl,hv])) hv' h
theorem ZmQ{pl:Sem Bool}{Q:Value×List Value→Shared→Prop}(X:K.In s.heap)(I:Zj3 s.heap x dx C mA)(hg:PySem.W.plainGet K C name=true)
  (hf:PySem.W.findIn K (.ref C) name=some (some (.ref f))) (ht:PySem.W.isFn K (.ref f)=true) (hv:mA name=none) (h:Q (.ref f,[.ref x]) s) :
  wpAny (model prog w) A (getMethod (.ref x) name pl) Q E s:=by
 obtain⟨od,J,hl⟩:=I.look
 exact PySem.W.method_fn X J (PySem.W.plainGet_of hg).1 (PySem.W.plainGet_of hg).2 hf (beq_iff_eq.mp ht) (by show (PySem.W.lookIn name od).map (·.isSome)=some false;rw[hl,hv];rfl) h
theorem ZoT{ns:List Str}{Q:Unit→Shared→Prop}(X:K.In s.heap)(I:Zj3 s.heap x dx C mA)
  (hs:PySem.W.findIn K (.ref C) "__setattr__" = some (some (.builtin "object.__setattr__"))) (hp:PySem.W.plainOver K C=true) (ht:PySem.W.takerIn K C name=some none) (hh:PySem.W.hasDictIn K C=true)
  (hw:PySem.Within mA ns) (hsz:ns.length≤sizeLine)
  (h:∀h',Zj3 h' x dx C (fun y=>if y=name then some v else mA y)→Heap.SameBut dx s.heap h'→Q () { s with heap:=h',toks:=s.toks+2 }) :
  wpAny (model prog w) A (setAttr (.ref x) name v) Q E s:=by
 obtain⟨od,J,hl⟩:=I.look
 refine PySem.W.set_plain X J hs (PySem.W.osa_open (s:={ s with toks:=s.toks+1 }) (r:=none) X J hp ht fun b=>?_)
 obtain⟨cd,hc,hd'⟩:=PySem.W.any_some hh
 have hx:s.heap.get? x=some ⟨.ref C,some dx,.plain,#[]⟩:=I.obj
 refine wpAny_bind (wpAny_pure (wpAny_bind (wpAny_bind (wpAny_loadPart hx (wpAny_bind (PySem.W.Looks.here (s:={ s with toks:=s.toks+1 }) (PySem.W.looks_clsIn X hc) ?_))))))
 rw[hd']
 refine wpAny_pure (a:=some dx) (wpAny_bind (wpAny_pure (wpAny_bind ?_)))
 refine wpAny_nsSet1 (s:={ s with toks:=s.toks+1 }) I.ns fun h' hn2 hs2=>?_
 obtain⟨oD,esD,epD,hoD,hdD,hcD⟩:=hn2.count (PySem.Within.cons name v hw)
 refine wpAny_bind (wpAny_lookBehind hoD (by rw[hdD];exact pastItsLine_dict (QP hcD (by rw[QD];omega))) ?_)
 exact wpAny_pure (h _ ⟨(hs2.2 _ (Ne.symm I.ne)).trans I.obj,hn2,I.ne⟩ hs2)
theorem ZnG{R:Result→Shared→Prop}{vs:List Value}{kw:List (Str×Value)}(X:K.In s.heap)(hm:PySem.W.makesIn K C=true)
  (hi:PySem.W.findIn K (.ref C) "__init__" = some (some (.ref f))) (hf:PySem.W.typeIn K (.ref f)=some (.type "function"))
  (h:codeAny (model prog w) (A.under (.builtin "type.__call__" ⟨.ref C::vs,kw⟩)) (.call (.ref f) ⟨.ref (s.heap.objs.size+1)::vs,kw⟩) (PySem.W.InitBack (s.heap.objs.size+1) R)
   { s with heap:=(s.heap.push PySem.W.emptyDict).push (PySem.W.instObj C s.heap.objs.size) }) :
  codeAny (model prog w) A (.call (.ref C) ⟨vs,kw⟩) R s:=by
 obtain⟨hh,g,d,t,os⟩:=s
 exact PySem.W.make_core (PySem.W.makes_of X hm) (PySem.W.looks_findIn X hi) (fun self=>PySem.W.bind_fn X self hf) (.inl rfl) h
end
def Zr(f:Str)(v:V):List (Str×V)→List (Str×V)
 | []=>[(f,v)]
 | (g,x)::r=>if g=f then (g,v)::r else (g,x)::Zr f v r
theorem Zm(f g:Str)(v:V):∀fs:List (Str×V),(Zr f v fs).lookup g=if g=f then some v else fs.lookup g
 | []=>by
  show List.lookup g [(f,v)]=_
  by_cases h:g=f
  ·have hb:(g == f)=true:=beq_iff_eq.mpr h
   simp only[List.lookup,hb,if_pos h]
  ·have hb:(g == f)=false:=beq_eq_false_iff_ne.mpr h
   simp only[List.lookup,hb,if_neg h]
 | (k,x)::r=>by
  have ih:=Zm f g v r
  rw[show Zr f v ((k,x)::r)=(if k=f then (k,v)::r else (k,x)::Zr f v r) from rfl]
  by_cases hk:k=f
  ·rw[if_pos hk]
   by_cases h:g=k
   ·have hb:(g == k)=true:=beq_iff_eq.mpr h
    simp only[List.lookup,hb,if_pos (h.trans hk)]
   ·have hb:(g == k)=false:=beq_eq_false_iff_ne.mpr h
    simp only[List.lookup,hb,if_neg (fun e:g=f=>h (e.trans hk.symm))]
  ·rw[if_neg hk]
   by_cases h:g=k
   ·have hb:(g == k)=true:=beq_iff_eq.mpr h
    simp only[List.lookup,hb,if_neg (fun e:g=f=>hk (h.symm.trans e))]
   ·have hb:(g == k)=false:=beq_eq_false_iff_ne.mpr h
    simp only[List.lookup,hb]
    exact ih
theorem ZeN(f:Str)(v:V):∀fs:List (Str×V),f∈(Zr f v fs).map (·.1)∧∀g,g∈fs.map (·.1)→g∈(Zr f v fs).map (·.1)
 | []=>⟨by simp[Zr],fun g h=>by simp at h⟩
 | (k,x)::r=>by
  obtain⟨i1,i2⟩:=ZeN f v r
  rw[show Zr f v ((k,x)::r)=(if k=f then (k,v)::r else (k,x)::Zr f v r) from rfl]
  by_cases hk:k=f
  ·rw[if_pos hk]
   subst hk
   exact⟨by simp,fun g h=>by simpa using h⟩
  ·rw[if_neg hk]
   refine⟨?_,fun g h=>?_⟩
   ·rw[Qj]
    exact Qu _ i1
   ·rw[Qj]at h ⊢
    rcases QI.mp h with e|e
    ·exact List.mem_cons.mpr (.inl e)
    ·exact Qu _ (i2 g e)
theorem Zfh(f:Str)(v:V):∀fs:List (Str×V),(Zr f v fs).length≤fs.length+1
 | []=>by simp[Zr]
 | (k,x)::r=>by
  have ih:=Zfh f v r
  rw[show Zr f v ((k,x)::r)=(if k=f then (k,v)::r else (k,x)::Zr f v r) from rfl]
  by_cases hk:k=f
  ·rw[if_pos hk,QD,QD];omega
  ·rw[if_neg hk,QD,QD];omega
theorem Zdo.some_of{v:V}{o:Option Value}(r:Zdo (some v) o):∃u,o=some u∧ZC v u:=by
 cases o with
 | none=>exact(show False from r).elim
 | some u=>exact⟨u,rfl,r⟩
theorem Zdo.none_of{o:Option Value}(r:Zdo none o):o=none:=by
 cases o with
 | none=>rfl
 | some u=>exact(show False from r).elim
theorem Zk3{v:V}{u:Value}(r:ZC v u):PySem.W.handedIn u=true:=by
 cases v with
 | non=>cases (show u=Value.none from r);rfl
 | bl b=>cases (show u=Value.bool b from r);rfl
 | int i=>obtain⟨t,e⟩:=(show ∃t,u=Value.int i t from r);cases e;rfl
 | str x=>obtain⟨t,e⟩:=(show ∃t,u=Value.str x t from r);cases e;rfl
 | byt b=>obtain⟨t,e⟩:=(show ∃t,u=Value.bytes b t from r);cases e;rfl
 | flt b=>obtain⟨t,e⟩:=(show ∃t,u=Value.float b t from r);cases e;rfl
 | ref a=>cases (show u=Value.ref a from r);rfl
 | ty n=>cases (show u=Value.type n from r);rfl
section
variable {P:Program} {w:World} {H H':Hp} {h h':Heap} {a C dx:Addr} {fs fs':List (Str×V)}
theorem Zfy(hok:HOk P w H h)(e:H a=some (.ins C dx fs)):∃mA,Zj3 h a dx C mA∧(∀f,Zdo (fs.lookup f) (mA f))∧PySem.Within mA (fs.map (·.1))∧fs.length≤1000∧H dx=some (.own a):=by
 obtain⟨d,z,ne,ob,mA,n,r,q⟩:=(show Zaw P w H h a (.ins C dx fs) from hok a _ e)
 exact⟨mA,⟨ob,n,ne⟩,r,q,z,d⟩
end
structure Cls (K:PySem.W.Frag) (C:Addr):Prop where
 pg:PySem.W.plainGet K C Str.empty=true
 hd:PySem.W.hasDictIn K C=true
 po:PySem.W.plainOver K C=true
 sa:PySem.W.findIn K (.ref C) "__setattr__" = some (some (.builtin "object.__setattr__"))
theorem Cls.get{K:PySem.W.Frag}{C:Addr}(c:Cls K C)(f:Str):PySem.W.plainGet K C f=true:=c.pg
def Zbi(K:PySem.W.Frag)(C:Addr)(f:Str):Prop:=PySem.W.findIn K (.ref C) f=some none
theorem Zbi.taker{K:PySem.W.Frag}{C:Addr}{f:Str}(n:Zbi K C f):PySem.W.takerIn K C f=some none:=by
 unfold PySem.W.takerIn
 rw[show PySem.W.findIn K (.ref C) f=some none from n]
 rfl
structure Con (K:PySem.W.Frag) (C:Addr) (f:Str) (v:V) (u:Value):Prop where
 at_:PySem.W.findIn K (.ref C) f=some (some u)
 rel:ZC v u
 get:PySem.W.specialIn K u "__get__" = some none
 cp:PySem.W.copiedNames.contains f=false
structure ZnA (K:PySem.W.Frag) (C:Addr) (m:Str) (f:Addr):Prop where
 at_:PySem.W.findIn K (.ref C) m=some (some (.ref f))
 fn:PySem.W.isFn K (.ref f)=true
 kp:PySem.W.keepIn K (.ref f)=true
section
variable {X:Cx} {pins:List (Addr×Obj)} {σ:St} {H:Hp} {s:Shared} {a C dx:Addr} {fs:List (Str×V)} {f:Str} {v:V} {A:Around} {E:Value→Shared→Prop}
theorem ZfE{b:Bool}{Q:Value→Shared→Prop}(I:Inv X pins σ H s)(e:H a=some (.ins C dx fs))(c:Cls X.K C)(n:Zbi X.K C f)(l:fs.lookup f=some v)
  (h:∀u s',Inv X pins σ H s'→ZC v u→Q u s'):wpAny (model X.prog X.w) A (getAttr (.ref a) f b) Q E s:=by
 obtain⟨mA,O,r,_,_,_⟩:=Zfy I.hok e
 obtain⟨u,hu,ru⟩:=Zdo.some_of (v:=v) (o:=mA f) (by rw[← l];exact r f)
 exact Zoj I.kIn O (c.get f) c.hd n hu (Zk3 ru) (h u _ (I.tok _) ru)
theorem Zgm{m:Str}{g:Addr}{pl:Sem Bool}{Q:Value×List Value→Shared→Prop}(I:Inv X pins σ H s)(e:H a=some (.ins C dx fs))(c:Cls X.K C)(k:ZnA X.K C m g)(l:fs.lookup m=none)
  (h:Q (.ref g,[.ref a]) s):wpAny (model X.prog X.w) A (getMethod (.ref a) m pl) Q E s:=by
 obtain⟨mA,O,r,_,_,_⟩:=Zfy I.hok e
 have hn:mA m=none:=Zdo.none_of (by rw[← l];exact r m)
 exact ZmQ I.kIn O (c.get m) k.at_ k.fn hn h
theorem Zf9{y:V}{u:Value}{Q:Unit→Shared→Prop}(I:Inv X pins σ H s)(e:H a=some (.ins C dx fs))(c:Cls X.K C)(n:Zbi X.K C f)(hl:fs.length<1000)(ry:ZC y u)
  (h:∀s',Inv X pins σ (upd H a (.ins C dx (Zr f y fs))) s'→Q () s'):wpAny (model X.prog X.w) A (setAttr (.ref a) f u) Q E s:=by
 obtain⟨mA,O,r,wi,_,ho⟩:=Zfy I.hok e
 have hz:(fs.map (·.1)).length≤sizeLine:=by rw[Qa,sizeLine_eq];omega
 refine ZoT I.kIn O c.sa c.po n.taker c.hd wi hz fun h' O' sb=>h _ ?_
 have hd:∃o,h'.get? dx=some o:=let ⟨o,_,_,e',_⟩:=O'.ns;⟨o,e'⟩
 refine I.write (x:=a) (e:=dx) (by rw[e];exact True.intro) (.inr ho) (fun b q hb z=>(sb.2 b hb).trans z) hd ?_
 refine⟨by rw[Ze O.ne];exact ho,?_,O.ne,O'.obj,_,O'.ns,fun g=>?_,fun g hg=>?_⟩
 ·have:=Zfh f y fs;omega
 ·show Zdo ((Zr f y fs).lookup g) (if g=f then some u else mA g)
  rw[Zm]
  by_cases q:g=f
  ·rw[if_pos q,if_pos q];exact ry
  ·rw[if_neg q,if_neg q];exact r g
 ·by_cases q:g=f
  ·rw[q];exact(ZeN f y fs).1
  ·refine(ZeN f y fs).2 g (wi g fun z=>hg ?_)
   show (if g=f then some u else mA g)=none
   rw[if_neg q];exact z
theorem Inv.made(I:Inv X pins σ H s):Inv X pins σ (upd (upd H s.heap.objs.size (.own (s.heap.objs.size+1))) (s.heap.objs.size+1) (.ins C s.heap.objs.size []))
  { s with heap:=(s.heap.push PySem.W.emptyDict).push (PySem.W.instObj C s.heap.objs.size) }:=by
 have e1:(s.heap.push PySem.W.emptyDict).get? s.heap.objs.size=some PySem.W.emptyDict:=QJ s.heap rfl
 have e2:((s.heap.push PySem.W.emptyDict).push (PySem.W.instObj C s.heap.objs.size)).get? (s.heap.objs.size+1)=some (PySem.W.instObj C s.heap.objs.size):=by
  have:=QJ (s.heap.push PySem.W.emptyDict) (o:=PySem.W.instObj C s.heap.objs.size) rfl
  rwa [Heap.size_push]at this
 have e3:(s.heap.push PySem.W.emptyDict).Ns s.heap.objs.size (fun _=>none):=⟨PySem.W.emptyDict,#[],_,e1,rfl,(fun e he=>absurd he (by simp)),fun _=>rfl⟩
 have I1:=I.laid (a:=s.heap.objs.size) (o:=.own (s.heap.objs.size+1)) (h':=s.heap.push PySem.W.emptyDict) (t':=s.toks) (fun b u q=>Qo _ q) (Qh _) ⟨_,e1⟩
 refine I1.laid (a:=s.heap.objs.size+1) (o:=.ins C s.heap.objs.size []) (t':=s.toks) (fun b u q=>Qo _ q) (Nat.le_of_eq (Heap.size_push _ _)) ?_
 have ne:s.heap.objs.size≠s.heap.objs.size+1:=QU (Nat.lt_succ_self _)
 refine⟨by rw[Ze ne,Zb],Qv _,ne,e2,fun _=>none,(Heap.Ns1.of_empty e3).at fun o q=>Qo _ q,fun _=>True.intro,fun y hy=>absurd rfl hy⟩
theorem Zol{prog:Program}{w:World}{env:Env}{e:Expr}{f:Str}{pos:Pos}{s:Shared}{Q:Value→Shared→Prop}(hb:attributeBase e f env (eval e env)=eval e env)
  (h:wpAny (model prog w) A (eval e env) (fun o s₁=>wpAny (model prog w) A (getAttr o f true) Q E s₁) E s):wpAny (model prog w) A (eval (.Attribute e f pos) env) Q E s :=
 Attribute_any_ h (by rw[arm_eval_Attribute,hb])
end
def Zs5(K:PySem.W.Frag)(ta:TE)(f:Str):TE:=fun σ H Q=>ta σ H fun x H1=>∃a C dx fs v,x=.ref a∧H1 a=some (.ins C dx fs)∧Cls K C∧Zbi K C f∧fs.lookup f=some v∧Q v H1
def tCon(K:PySem.W.Frag)(ta:TE)(f:Str):TE:=fun σ H Q=>ta σ H fun x H1=>∃a C dx fs v u,x=.ref a∧H1 a=some (.ins C dx fs)∧Cls K C∧Con K C f v u∧fs.lookup f=none∧Q v H1
def Zta(K:PySem.W.Frag)(ta tv:TE)(f:Str):TS:=fun D σ H=>tv σ H fun y H1=>ta σ H1 fun x H2=>∃a C dx fs,x=.ref a∧H2 a=some (.ins C dx fs)∧Cls K C∧Zbi K C f∧fs.length<1000 ∧
 D.nx σ (upd H2 a (.ins C dx (Zr f y fs)))
def ZrT(X:Cx)(op:Operator)(rd:V→V→Hp→VK→Prop):Prop :=
 ∀ (pins:List (Addr×Obj)) (s:Shared) (σ:St) (H:Hp) (x y:V) (u v:Value) (Q:VK),Inv X pins σ H s→ZC x u→ZC y v→rd x y H Q→wpAny (model X.prog X.w) X.A (inplaceOp op u v) (EP X pins σ Q) X.xe s
def Zpw(K:PySem.W.Frag)(ta tv:TE)(rd:V→V→Hp→VK→Prop)(f:Str):TS:=fun D σ H=>ta σ H fun x H1=>∃a C dx fs v,x=.ref a∧H1 a=some (.ins C dx fs)∧Cls K C∧Zbi K C f∧fs.lookup f=some v ∧
 tv σ H1 fun y H2=>rd v y H2 fun z H3=>∃dx' fs',H3 a=some (.ins C dx' fs')∧fs'.length<1000∧D.nx σ (upd H3 a (.ins C dx' (Zr f z fs')))
section
variable {X:Cx} {o e value:Expr} {f:Str} {pos pos' tpos:Pos} {ta tv:TE}
theorem Zac(he:PE X e ta)(hb:attributeBase e f X.env (eval e X.env)=eval e X.env):PE X (.Attribute e f pos) (Zs5 X.K ta f):=by
 intro pins s σ H Q I h
 refine Zol hb (thn (he pins s σ H _ I h) ?_)
 rintro u s1 ⟨x,H1,I1,rx,a,C,dx,fs,v,ex,ea,c,n,l,q⟩
 subst ex
 obtain rfl:u=Value.ref a:=rx
 exact ZfE I1 ea c n l fun u' s2 I2 ru=>⟨v,H1,I2,ru,q⟩
theorem Zb1(ha:PE X o ta)(hv:PE X value tv)(hs:swapsWith value (some (.Attribute o f pos')) pos.line X.env=pure false):PS X (.Assign [.Attribute o f pos'] value pos) (Zta X.K ta tv f):=by
 intro pins s σ H D I h
 refine plainObj_wpAny_Assign_Attribute (thn (hv pins s σ H _ I h) fun u s1 ⟨y,H1,I1,ry,q⟩=>thn (ha pins s1 σ H1 _ I1 q) ?_) hs
 rintro ov s2 ⟨x,H2,I2,rx,a,C,dx,fs,ex,ea,c,n,l,q2⟩
 subst ex
 obtain rfl:ov=Value.ref a:=rx
 exact Zf9 I2 ea c n l ry fun s3 I3=>⟨σ,_,I3,q2⟩
theorem ZdW{op:Operator}{rd:V→V→Hp→VK→Prop}(ha:PE X o ta)(hv:PE X value tv)(hop:ZrT X op rd):PS X (.AugAssign (.Attribute o f tpos) op value pos) (Zpw X.K ta tv rd f):=by
 intro pins s σ H D I h
 refine wpAny_AugAssign_AttributeAny (thn (ha pins s σ H _ I h) ?_)
 rintro ov s1 ⟨x,H1,I1,rx,a,C,dx,fs,v,ex,ea,c,n,l,q⟩
 subst ex
 obtain rfl:ov=Value.ref a:=rx
 refine ZfE I1 ea c n l fun u s2 I2 ru=>thn (hv pins s2 σ H1 _ I2 q) fun w3 s3 ⟨y,H2,I3,ry,q3⟩=>thn (hop pins s3 σ H2 v y u w3 _ I3 ru ry q3) ?_
 rintro w4 s4 ⟨z,H3,I4,rz,dx',fs',ea',l',q4⟩
 exact Zf9 I4 ea' c n l' rz fun s5 I5=>⟨σ,_,I5,q4⟩
def Zte:V→V→Hp→VK→Prop:=fun x y H Q=>∃i j,x=.int i∧y=.int j∧Q (.int (i+j)) H
def rSub:V→V→Hp→VK→Prop:=fun x y H Q=>∃i j,x=.int i∧y=.int j∧Q (.int (i-j)) H
theorem Zh4:ZrT X .Add Zte:=by
 rintro pins s σ H x y u v Q I rx ry ⟨i,j,rfl,rfl,q⟩
 obtain⟨t,rfl⟩:=(show ∃t,u=Value.int i t from rx)
 obtain⟨t',rfl⟩:=(show ∃t',v=Value.int j t' from ry)
 exact PyProof.Rows.iadd_int ⟨.int (i+j),H,I.tok _,⟨_,rfl⟩,q⟩
end
section
variable {X:Cx} {pins:List (Addr×Obj)} {σ:St} {H:Hp} {s:Shared} {A:Around} {E:Value→Shared→Prop} {Q:Value→Shared→Prop} {c:Value} {b:Bool}
inductive ZeL (K:PySem.W.Frag) (H:Hp):V→Value→Prop where
 | non:ZeL K H .non (.type "NoneType")
 | bl (x:Bool):ZeL K H (.bl x) (.type "bool")
 | int (i:Int):ZeL K H (.int i) (.type "int")
 | str (x:Str):ZeL K H (.str x) (.type "str")
 | flt (x:UInt64):ZeL K H (.flt x) (.type "float")
 | lst {a:Addr} {xs:List V} (e:H a=some (.lst xs)):ZeL K H (.ref a) (.type "list")
 | frz {a:Addr} {o:Obj} {xs:List V} (e:H a=some (.frz o (.lst xs))):ZeL K H (.ref a) (.type "list")
 | tup {a:Addr} {xs:List V} (e:H a=some (.tup xs)):ZeL K H (.ref a) (.type "tuple")
 | dK {a:Addr} {kvs:List (Key×V)} (e:H a=some (.dK kvs)):ZeL K H (.ref a) (.type "dict")
 | dT {a:Addr} {kvs:List (List Key×V)} (e:H a=some (.dT kvs)):ZeL K H (.ref a) (.type "dict")
 | ins {a C dx:Addr} {fs:List (Str×V)} (e:H a=some (.ins C dx fs)) (cl:Cls K C) (ha:PySem.W.findIn K (.ref C) "__class__" = some (some (.builtin "object.__class__")))
   (hn:PySem.W.specialIn K (.builtin "object.__class__") "__get__" = some (some (.builtin "getset_descriptor.__get__"))) (htk:PySem.W.takesIn K (.builtin "object.__class__")=some true)
   (hm:PySem.W.mroIn K C (.type "object")=some true):ZeL K H (.ref a) (.ref C)
theorem Zk6{x:V}{u t:Value}(I:Inv X pins σ H s)(rx:ZC x u)(ty:ZeL X.K H x t)(e:PySem.W.kitOne X.K t c=some b)(h:∀tk,Q (.bool b) { s with toks:=tk }) :
  wpAny (model X.prog X.w) A (call (.builtin "isinstance") [u,c]) Q E s:=by
 cases ty with
 | non=>cases (show u=Value.none from rx);exact Q5 PySem.W.kitx_none I.kIn True.intro e (fun z=>nomatch z) h
 | bl y=>cases (show u=Value.bool y from rx);exact Q5 PySem.W.kitx_bool I.kIn True.intro e (fun z=>nomatch z) h
 | int i=>obtain⟨t,q⟩:=(show ∃t,u=Value.int i t from rx);cases q;exact Q5 PySem.W.kitx_int I.kIn True.intro e (fun z=>nomatch z) h
 | str y=>obtain⟨t,q⟩:=(show ∃t,u=Value.str y t from rx);cases q;exact Q5 PySem.W.kitx_str I.kIn True.intro e (fun z=>nomatch z) h
 | flt y=>obtain⟨t,q⟩:=(show ∃t,u=Value.float y t from rx);cases q;exact Q5 PySem.W.kitx_float I.kIn True.intro e (fun z=>nomatch z) h
 | @lst a xs ea =>
  cases (show u=Value.ref a from rx)
  obtain⟨_,_,n,_,h1⟩:=(show Zaw X.prog X.w H s.heap a (.lst xs) from I.hok a _ ea)
  exact Q5 PySem.W.kitx_list I.kIn ⟨_,h1,rfl⟩ e (fun z=>nomatch z) h
 | @frz a ob xs ea =>
  cases (show u=Value.ref a from rx)
  obtain⟨_,_,_,n,_,h1⟩:=(show Zaw X.prog X.w H s.heap a (.frz ob (.lst xs)) from I.hok a _ ea)
  exact Q5 PySem.W.kitx_list I.kIn ⟨_,h1,rfl⟩ e (fun z=>nomatch z) h
 | @tup a xs ea =>
  cases (show u=Value.ref a from rx)
  obtain⟨_,_,_,p⟩:=(show Zaw X.prog X.w H s.heap a (.tup xs) from I.hok a _ ea)
  obtain⟨o,h1,h2,_⟩:=p
  exact Q5 PySem.W.kitx_tuple I.kIn ⟨o,h1,h2⟩ e (fun z=>nomatch z) h
 | @dK a kvs ea =>
  cases (show u=Value.ref a from rx)
  obtain⟨_,_,vs,_,p⟩:=(show Zaw X.prog X.w H s.heap a (.dK kvs) from I.hok a _ ea)
  obtain⟨o,es,ep,h1,h2,_⟩:=p
  exact Q5 PySem.W.kitx_dict I.kIn ⟨o,h1,h2.1⟩ e (fun z=>nomatch z) h
 | @dT a kvs ea =>
  cases (show u=Value.ref a from rx)
  obtain⟨_,_,xs,_,o,es,ep,h1,h2,_⟩:=(show Zaw X.prog X.w H s.heap a (.dT kvs) from I.hok a _ ea)
  exact Q5 PySem.W.kitx_dict I.kIn ⟨o,h1,h2.1⟩ e (fun z=>nomatch z) h
 | @ins a C dx fs ea cl ha hn htk hm =>
  cases (show u=Value.ref a from rx)
  obtain⟨mA,O,_⟩:=Zfy I.hok ea
  obtain⟨od,J,_⟩:=O.look
  exact Q5 (PySem.W.kitx_own (cl.get _) cl.hd ha hn htk hm) I.kIn J e (fun z=>nomatch z) h
end
structure ZaG (k:Nat) (A:Around):Prop where
 hd:A.handled=none
 dp:A.depth+3*k+5<recursionLimit
 un:A.units+16*k+200<cLine
 gd:A.guards=some []
theorem ZaG.mono{j k:Nat}{A:Around}(r:ZaG k A)(h:j≤k):ZaG j A:=⟨r.hd,by have:=r.dp;omega,by have:=r.un;omega,r.gd⟩
theorem ZaG.deeper{k:Nat}{A:Around}(r:ZaG (k+1) A)(env:Env):ZaG k (A.deeper env) :=
 ⟨r.hd,by have:=r.dp;show A.depth+1+3*k+5<_;omega,by have:=r.un;show A.units+3+16*k+200<_;omega,r.gd⟩
theorem ZjD{A:Around}{C:Addr}{us:List Value}{kw:List (Str×Value)}:(A.under (.builtin "type.__call__" ⟨.ref C::us,kw⟩)).depth=A.depth+1:=by
 first|rfl|simp[Around.under,Code.weight,Code.isCreation,Code.isGuard,Code.isCaller,Code.frames,Code.isFrame,guardIds]
theorem ZjY{A:Around}{C:Addr}{us:List Value}{kw:List (Str×Value)}:(A.under (.builtin "type.__call__" ⟨.ref C::us,kw⟩)).units=A.units+1:=by
 first|rfl|simp[Around.under,Code.cUnits,Code.frames,Code.isFrame]
theorem ZaG.make{k:Nat}{A:Around}(r:ZaG (k+1) A)(C:Addr)(us:List Value)(kw:List (Str×Value)):ZaG k (A.under (.builtin "type.__call__" ⟨.ref C::us,kw⟩)) :=
 ⟨r.hd,by have:=r.dp;rw[ZjD];omega,by have:=r.un;rw[ZjY];omega,by rw[show (A.under (.builtin "type.__call__" ⟨.ref C::us,kw⟩)).guards=A.guards from by first|rfl|simp[Around.under,pushGuards,Code.guards,Code.isGuard,guardIds]];exact r.gd⟩
theorem ZaG.depth{k:Nat}{A:Around}(r:ZaG k A):A.depth<recursionLimit:=by have:=r.dp;omega
theorem ZaG.units{k:Nat}{A:Around}(r:ZaG k A):A.units+64<cLine:=by have:=r.un;omega
def Zq2:TA:=fun _ H Q=>Q [] H
def Zr3(ta:TE)(tr:TA):TA:=fun σ H Q=>ta σ H fun x H1=>tr σ H1 fun xs H2=>Q (x::xs) H2
section
variable {X:Cx} {e:Expr} {es:List Expr} {te:TE} {t:TA} {pos:Pos}
theorem Zd:PA X [] Zq2:=fun _ _ _ _ H Q I h=>Calls.spliced_nil ⟨[],H,I,.nil,h⟩
theorem Za(ha:PE X e te)(hr:PA X es t)(hs:starEach (e::es) X.env=(false,eval e X.env)::starEach es X.env:=by rfl):PA X (e::es) (Zr3 te t):=by
 intro pos pins s σ H Q I h
 rw[hs]
 show wpAny _ _ (spliced ((false,eval e X.env)::backTo pos (starEach es X.env))) _ _ s
 refine Calls.spliced_cons (thn (ha pins s σ H _ I h) ?_)
 rintro u s1 ⟨x,H1,I1,r1,q1⟩
 exact thn (hr pos pins s1 σ H1 _ I1 q1) fun us s2 ⟨xs,H2,I2,r2,q2⟩=>⟨x::xs,H2,I2,.cons r1 r2,q2⟩
def Ztk(t:TA):TE:=fun σ H Q=>t σ H fun xs H1=>xs.length≤sizeLine∧∀p,H1 p=none→Q (.ref p) (upd H1 p (.tup xs))
def Ztl(t:TA):TE:=fun σ H Q=>t σ H fun xs H1=>xs.length≤sizeLine∧∀p,H1 p=none→Q (.ref p) (upd H1 p (.lst xs))
theorem ZN{x1}(h:PA X es t):PE X (.Tuple es x1 pos) (Ztk t):=by
 intro pins s σ H Q I hq
 refine wpAny_Tuple_spliced (thn (h pos pins s σ H _ I hq) fun us s1 ⟨xs,H1,I1,r,z,q⟩=>⟨by rw[← r.length];exact z,?_⟩)
 have hf:H1 s1.heap.objs.size=none:=I1.hok.fresh (Qh _)
 refine⟨.ref s1.heap.objs.size,upd H1 s1.heap.objs.size (.tup xs),I1.laid (t':=s1.toks) (fun b u e=>Qo _ e) (Qh _) ?_,rfl,q _ hf⟩
 exact⟨z,us,r,⟨_,QJ _ rfl,rfl,_,rfl⟩⟩
theorem Zbg(h:PA X es t):PE X (.List es pos) (Ztl t):=by
 intro pins s σ H Q I hq
 refine wpAny_List_spliced (thn (h pos pins s σ H _ I hq) fun us s1 ⟨xs,H1,I1,r,z,q⟩=>⟨by rw[← r.length];exact z,?_⟩)
 have hf:H1 s1.heap.objs.size=none:=I1.hok.fresh (Qh _)
 refine⟨.ref s1.heap.objs.size,upd H1 s1.heap.objs.size (.lst xs),I1.laid (t':=s1.toks) (fun b u e=>Qo _ e) (Qh _) ?_,rfl,q _ hf⟩
 exact⟨z,us,0,r,QJ _ rfl⟩
end
abbrev Sp:=List V→Hp→VK→XK→Prop
abbrev CXT:=List Env→Hp→Shared→XK→Value→Shared→Prop
structure ZjE (P:Program) (w:World) (K:PySem.W.Frag) (mg:Str→Option Value) (base:Heap) (A:Around) (outer:List Env) (s:Shared) (H:Hp):Prop where
 frames:A.frames=some outer
 mod:Mod K mg base
 bs:∀b o,base.get? b=some o→s.heap.get? b=some o∧H b=none
 bsz:base.objs.size≤s.heap.objs.size
 funs:s.heap.FunFrames base outer
 frf:∀b∈frs outer,H b=none
 hok:HOk P w H s.heap
 bare:AllBare s.gens
def CE(outer:List Env)(P:Program)(w:World)(H:Hp)(s:Shared)(Q:VK)(u:Value)(s':Shared):Prop :=
 ∃v H',s'.os=s.os∧AllBare s'.gens∧Un (frs outer) [] H H' s.heap s'.heap∧HOk P w H' s'.heap∧ZC v u∧Q v H'
def CR(CX:CXT)(outer:List Env)(P:Program)(w:World)(H:Hp)(s:Shared)(Q:VK)(E:XK)(r:Result)(s':Shared):Prop :=
 match r with
 | .ok (.ret u)=>CE outer P w H s Q u s'
 | .ok _=>False
 | .error e=>CX outer H s E e s'
structure Zd5 (P:Program) (w:World) (K:PySem.W.Frag) (mg:Str→Option Value) (base:Heap) (CX:CXT) (k:Nat) (f:Addr) (fd:FuncData) (ps:List Str) (sp:Sp):Prop where
 len:∀vs H Q E,sp vs H Q E→vs.length=ps.length
 run:∀ (A:Around) (outer:List Env) (s:Shared) (H:Hp) (args:Args) (us:List Value) (vs:List V) (Q:VK) (E:XK),ZaG k A→ZjE P w K mg base A outer s H→BindsTo s fd args (ps.zip us)→Zy vs us→sp vs H Q E →
  codeAny (model P w) A (.call (.ref f) args) (CR CX outer P w H s Q E) s
theorem ZjE.make{P:Program}{w:World}{K:PySem.W.Frag}{mg:Str→Option Value}{base:Heap}{A:Around}{outer:List Env}{s:Shared}{H:Hp}(e:ZjE P w K mg base A outer s H)(C:Addr)(us:List Value)(kw:List (Str×Value)) :
  ZjE P w K mg base (A.under (.builtin "type.__call__" ⟨.ref C::us,kw⟩)) outer s H:=⟨by first|exact e.frames|(simpa [Around.under,Code.envs,Code.isFrame,pushEnvs] using e.frames),e.mod,e.bs,e.bsz,e.funs,e.frf,e.hok,e.bare⟩
section
variable {X:Cx} {pins:List (Addr×Obj)} {σ:St} {H:Hp} {s s':Shared}
theorem Inv.env0(I:Inv X pins σ H s):ZjE X.prog X.w X.K X.mg X.base X.A X.stack s H :=
 ⟨I.ok.frames,I.ok.mod,I.bs,QP I.ok.bsz I.sz,I.stack,I.stkFree,I.hok,I.bare⟩
theorem Inv.after{Q:VK}{u:Value}(I:Inv X pins σ H s)(h:CE X.stack X.prog X.w H s Q u s'):EP X pins σ Q u s':=by
 obtain⟨v,H',os,bare,un,hok,r,q⟩:=h
 obtain⟨hh,g,d,t,os'⟩:=s'
 obtain rfl:os'=s.os:=os
 exact⟨v,H',I.call (h':=hh) (g':=g) (d':=d) (t':=t) (ch:=[]) un hok bare (fun b z=>absurd z (by simp)),r,q⟩
end
def ZpK(sp:Sp)(dvs:List V)(E:XK)(t:TA):TE:=fun σ H Q=>t σ H fun vs H1=>sp (vs++dvs) H1 Q E
def Zkz(C:Addr)(m:Str)(sp:Sp)(dvs:List V)(E:XK)(ta:TE)(t:TA):TE:=fun σ H Q=>ta σ H fun x H1=>∃a dx fs,x=.ref a∧H1 a=some (.ins C dx fs)∧fs.lookup m=none ∧
 t σ H1 fun vs H2=>sp (x::(vs++dvs)) H2 Q E
def ZpW(C:Addr)(sp:Sp)(dvs:List V)(E:XK)(t:TA):TE:=fun σ H Q=>t σ H fun vs H1=>∀x dx,H1 x=none→H1 dx=none→dx≠x →
 sp (.ref x::(vs++dvs)) (upd (upd H1 dx (.own x)) x (.ins C dx [])) (fun v H2=>v=.non∧Q (.ref x) H2) E
def Zci(K:PySem.W.Frag)(fd:FuncData)(ps:List Str)(ds:List Value):Prop :=
 ∀ (s:Shared) (us:List Value),K.In s.heap→(us++ds).length=ps.length→BindsTo s fd ⟨us,[]⟩ (ps.zip (us++ds))
theorem Zci.all{K:PySem.W.Frag}{fd:FuncData}{ps:List Str}(h:∀us:List Value,us.length=ps.length→bindArgs fd ⟨us,[]⟩=pure (ps.zip us)):Zci K fd ps []:=fun s us _ hl=>by
 rw[QR]at hl ⊢
 exact .of_eq (h us hl)
def Zed(CX:CXT)(X:Cx)(E:XK):Prop:=∀ (pins:List (Addr×Obj)) (σ:St) (H:Hp) (s:Shared) (e:Value) (s':Shared),Inv X pins σ H s→CX X.stack H s E e s'→X.xe e s'
section
variable {X:Cx} {CX:CXT} {k:Nat} {f C:Addr} {fd:FuncData} {ps:List Str} {sp:Sp} {dvs:List V} {ds:List Value} {E:XK} {x m:Str} {p pos apos:Pos} {e o:Expr} {es:List Expr} {ta:TE} {t:TA}
theorem ZjA{pins:List (Addr×Obj)}{σ:St}{H:Hp}{s:Shared}{Q:VK}{us:List Value}{vs:List V}(F:Zd5 X.prog X.w X.K X.mg X.base CX k f fd ps sp)(hr:ZaG k X.A)(hb:Zci X.K fd ps ds)(hd:Zy dvs ds)(hx:Zed CX X E)
  (I:Inv X pins σ H s) (r:Zy vs us) (h:sp (vs++dvs) H Q E):wpAny (model X.prog X.w) X.A (call (.ref f) us) (EP X pins σ Q) X.xe s:=by
 have r2:Zy (vs++dvs) (us++ds):=r.append hd
 have hl:(us++ds).length=ps.length:=by rw[← r2.length];exact F.len _ _ _ _ h
 refine wpAny_call (codeAny_mono (F.run X.A X.stack s H ⟨us,[]⟩ (us++ds) (vs++dvs) Q E hr I.env0 (hb s us I.kIn hl) r2 h) fun r s' hq=>?_)
 cases r with
 | error e=>exact hx pins σ H s e s' I hq
 | ok fl =>
  cases fl with
  | ret u=>exact I.after hq
  | next=>exact False.elim hq
  | brk=>exact False.elim hq
  | cont=>exact False.elim hq
theorem Zps(F:Zd5 X.prog X.w X.K X.mg X.base CX k f fd ps sp)(hr:ZaG k X.A)(hg:Gl X x)(hm:X.mg x=some (.ref f))(hk:PySem.W.keepIn X.K (.ref f)=true)(hb:Zci X.K fd ps ds)(hd:Zy dvs ds)(hx:Zed CX X E)
  (ha:PA X (e::es) t) (hdb:(x == ("__debug__" : Str))=false:=by decide) (he:starEach (e::es) X.env=(false,eval e X.env)::starEach es X.env:=by rfl) (hpl:(backTo pos (starEach es X.env)).any (·.1)=false:=by rfl) :
  PE X (.Call (.Name x p) (e::es) [] pos) (ZpK sp dvs E t):=by
 intro pins s σ H Q I h
 refine wpAny_Call_Name_kw (Zko I hg hm ?_ hdb)
 refine PySem.W.callWith_K (h₀:=X.base) I.ok.mod.kin hk (thn (ha pos pins s σ H _ I h) fun us s1 ⟨vs,H1,I1,r,q⟩=>⟨I1.kIn,?_⟩) he hpl
 exact ZjA F hr hb hd hx I1 r q
theorem ZpI{pl:Sem Bool}(he:PE X o ta)(c:Cls X.K C)(hm:ZnA X.K C m f)(F:Zd5 X.prog X.w X.K X.mg X.base CX k f fd ps sp)(hr:ZaG k X.A)(hb:Zci X.K fd ps ds)(hd:Zy dvs ds)(hx:Zed CX X E)(ha:PA X (e::es) t)
  (hst:starEach (e::es) X.env=(false,eval e X.env)::starEach es X.env:=by rfl) (hpl:(backTo pos (starEach es X.env)).any (·.1)=false:=by rfl)
  (ht:eval (.Call (.Attribute o m apos) (e::es) [] pos) X.env=(do
   let ov ← eval o X.env
   standAt apos.atName
   let (f,first) ← holding [ov] (getMethod ov m pl)
   callWith pos f first (backTo pos (starEach (e::es) X.env)) (backToKw pos (keywordEach [] X.env))):=by rfl) :
  PE X (.Call (.Attribute o m apos) (e::es) [] pos) (Zkz C m sp dvs E ta t):=by
 intro pins s σ H Q I h
 refine PySem.W.methodCall_KW (pl:=pl) (thn (he pins s σ H _ I h) ?_) ht
 rintro u s1 ⟨x,H1,I1,rx,a,dx,fs,ex,ea,l,q⟩
 subst ex
 obtain rfl:u=Value.ref a:=rx
 refine Zgm I1 ea c hm l ?_
 refine PySem.W.callWith_K (first:=[.ref a]) (h₀:=X.base) I.ok.mod.kin hm.kp (thn (ha pos pins s1 σ H1 _ I1 q) fun us s2 ⟨vs,H2,I2,r,q2⟩=>⟨I2.kIn,?_⟩) hst hpl
 exact ZjA (us:=.ref a::us) (vs:=.ref a::vs) F hr hb hd hx I2 (.cons rfl r) q2
theorem Zn0{pl:Sem Bool}(he:PE X o ta)(c:Cls X.K C)(hm:ZnA X.K C m f)(F:Zd5 X.prog X.w X.K X.mg X.base CX k f fd ps sp)(hr:ZaG k X.A)(hb:Zci X.K fd ps ds)(hd:Zy dvs ds)(hx:Zed CX X E)
  (ht:eval (.Call (.Attribute o m apos) [] [] pos) X.env=(do
   let ov ← eval o X.env
   standAt apos.atName
   let (f,first) ← holding [ov] (getMethod ov m pl)
   callWith pos f first (backTo pos (starEach [] X.env)) (backToKw pos (keywordEach [] X.env))):=by rfl) :
  PE X (.Call (.Attribute o m apos) [] [] pos) (Zkz C m sp dvs E ta Zq2):=by
 intro pins s σ H Q I h
 refine PySem.W.methodCall_KW (pl:=pl) (thn (he pins s σ H _ I h) ?_) ht
 rintro u s1 ⟨x,H1,I1,rx,a,dx,fs,ex,ea,l,q⟩
 subst ex
 obtain rfl:u=Value.ref a:=rx
 refine Zgm I1 ea c hm l ?_
 exact PySem.W.callWith_K0 (first:=[.ref a]) I1.kIn hm.kp (ZjA (us:=[.ref a]) (vs:=[.ref a]) F hr hb hd hx I1 (.cons rfl .nil) q)
structure Mk (K:PySem.W.Frag) (C f:Addr):Prop where
 makes:PySem.W.makesIn K C=true
 init:PySem.W.findIn K (.ref C) "__init__" = some (some (.ref f))
 fn:PySem.W.isFn K (.ref f)=true
 kp:PySem.W.keepIn K (.ref C)=true
theorem Znc{pins:List (Addr×Obj)}{σ:St}{H:Hp}{s:Shared}{Q:VK}{us:List Value}{vs:List V}(M:Mk X.K C f)(F:Zd5 X.prog X.w X.K X.mg X.base CX k f fd ps sp)(hr:ZaG (k+1) X.A)(hb:Zci X.K fd ps ds)(hd:Zy dvs ds)
  (hx:Zed CX X E) (I:Inv X pins σ H s) (r:Zy vs us)
  (h:∀x dx,H x=none→H dx=none→dx≠x→sp (.ref x::(vs++dvs)) (upd (upd H dx (.own x)) x (.ins C dx [])) (fun v H2=>v=.non∧Q (.ref x) H2) E) :
  wpAny (model X.prog X.w) X.A (call (.ref C) us) (EP X pins σ Q) X.xe s:=by
 have hq:=h (s.heap.objs.size+1) s.heap.objs.size (I.hok.fresh (Qaq _)) (I.hok.fresh (Qh _)) (QU (Nat.lt_succ_self _))
 have I2:=Inv.made (C:=C) I
 have r2:Zy (V.ref (s.heap.objs.size+1)::(vs++dvs)) (Value.ref (s.heap.objs.size+1)::(us++ds)):=.cons rfl (r.append hd)
 have hl:(Value.ref (s.heap.objs.size+1)::us++ds).length=ps.length:=by
  have e:=r2.length
  rw[F.len _ _ _ _ hq]at e
  exact e.symm
 refine wpAny_call (ZnG (f:=f) I.kIn M.makes M.init (beq_iff_eq.mp M.fn) (codeAny_mono (F.run _ X.stack _ _ ⟨Value.ref (s.heap.objs.size+1)::us,[]⟩ (Value.ref (s.heap.objs.size+1)::(us++ds)) _ _ E (hr.make C us [])
  (I2.env0.make C us []) (hb _ (Value.ref (s.heap.objs.size+1)::us) I2.kIn hl) r2 hq) fun r s' hq'=>?_))
 cases r with
 | error e=>exact hx pins σ _ _ e s' I2 hq'
 | ok fl =>
  cases fl with
  | ret u =>
   obtain⟨v,H',I3,rv,ev,q3⟩:=I2.after hq'
   subst ev
   exact⟨rv,⟨V.ref (s.heap.objs.size+1),H',I3,rfl,q3⟩⟩
  | next=>exact False.elim hq'
  | brk=>exact False.elim hq'
  | cont=>exact False.elim hq'
theorem ZpA(M:Mk X.K C f)(F:Zd5 X.prog X.w X.K X.mg X.base CX k f fd ps sp)(hr:ZaG (k+1) X.A)(hg:Gl X x)(hm:X.mg x=some (.ref C))(hb:Zci X.K fd ps ds)(hd:Zy dvs ds)(hx:Zed CX X E)
  (ha:PA X (e::es) t) (hdb:(x == ("__debug__" : Str))=false:=by decide) (he:starEach (e::es) X.env=(false,eval e X.env)::starEach es X.env:=by rfl) (hpl:(backTo pos (starEach es X.env)).any (·.1)=false:=by rfl) :
  PE X (.Call (.Name x p) (e::es) [] pos) (ZpW C sp dvs E t):=by
 intro pins s σ H Q I h
 refine wpAny_Call_Name_kw (Zko I hg hm ?_ hdb)
 refine PySem.W.callWith_K (h₀:=X.base) I.ok.mod.kin M.kp (thn (ha pos pins s σ H _ I h) fun us s1 ⟨vs,H1,I1,r,q⟩=>⟨I1.kIn,?_⟩) he hpl
 exact Znc M F hr hb hd hx I1 r q
end
def PK(X:Cx)(kws:List Keyword)(t:TA):Prop :=
 ∀ (pos:Pos) (pins:List (Addr×Obj)) (s:Shared) (σ:St) (H:Hp) (Q:List V→Hp→Prop),Inv X pins σ H s→t σ H Q→wpAny (model X.prog X.w) X.A (evalAll ((backToKw pos (keywordEach kws X.env)).map (·.2))) (AP X pins σ Q) X.xe s
section
variable {X:Cx} {CX:CXT} {k:Nat} {f C:Addr} {fd:FuncData} {ps ks:List Str} {sp:Sp} {E:XK} {x m:Str} {p pos apos kpos:Pos} {e o:Expr} {es:List Expr} {kws:List Keyword} {te ta:TE} {t tk:TA} {nm:Option Str}
structure KBinds (K:PySem.W.Frag) (fd:FuncData) (ps ks:List Str) (g:List Value→List Value→List Value) (gV:List V→List V→List V):Prop where
 to:∀ (s:Shared) (us ws:List Value),K.In s.heap→(g us ws).length=ps.length→BindsTo s fd ⟨us,ks.zip ws⟩ (ps.zip (g us ws))
 rel:∀ {vs:List V} {us:List Value} {zs:List V} {ws:List Value},Zy vs us→Zy zs ws→Zy (gV vs zs) (g us ws)
def tCallK(sp:Sp)(gV:List V→List V→List V)(E:XK)(t tk:TA):TE:=fun σ H Q=>t σ H fun vs H1=>tk σ H1 fun zs H2=>sp (gV vs zs) H2 Q E
variable {g:List Value→List Value→List Value} {gV:List V→List V→List V}
end
structure Zq (N P:List Str) (sc:Scope):Prop where
 kind:sc.kind=.function
 co:sc.isCoroutine=false
 gen:sc.isGenerator=false
 nd:N.Nodup
 pre:N.take P.length=P
 par:∀x∈P,sc.names.lookup x=some .local∨sc.names.lookup x=some .cell
 nofree:∀y∈sc.names,y.2≠.free
theorem ZgP{kindOf:Str→Option NameKind}{x:Str}:∀ {binds:List (Str×Value)} {m:Str→Option Value},(∀v,(x,v) ∉ binds)→bindL kindOf binds m x=m x
 | [],_,_=>rfl
 | (n,v)::r,m,h=>by
  unfold bindL
  rw[ZgP fun w hw=>h w (Qu _ hw)]
  split
  ·have:x≠n:=by rintro rfl;exact h v Q4
   simp[this]
  ·rfl
theorem ZgI{kindOf:Str→Option NameKind}{x:Str}:∀ {binds:List (Str×Value)} {m:Str→Option Value},(∀v,(x,v) ∉ binds)→bindC kindOf binds m x=m x
 | [],_,_=>rfl
 | (n,v)::r,m,h=>by
  unfold bindC
  rw[ZgI fun w hw=>h w (Qu _ hw)]
  split
  ·rfl
  ·have:x≠n:=by rintro rfl;exact h v Q4
   simp[this]
theorem ZgQ{kindOf:Str→Option NameKind}{x:Str}{v:Value}:∀ {P:List Str} {vs:List Value} {i:Nat} {m:Str→Option Value},P.Nodup→P[i]? = some x→vs[i]? = some v→kindOf x=some .local →
  bindL kindOf (P.zip vs) m x=some v
 | [],_,_,_,_,h,_,_=>by simp at h
 | _::_,[],_,_,_,_,h,_=>by simp at h
 | p::P,w::vs,0,m,nd,h1,h2,hk=>by
  simp at h1 h2;subst h1;subst h2
  show bindL kindOf ((p,w)::P.zip vs) m p=_
  unfold bindL
  rw[ZgP fun v hv=>(Q3.mp nd).1 (List.of_mem_zip hv).1,if_pos hk]
  simp
 | p::P,w::vs,i+1,m,nd,h1,h2,hk=>by
  show bindL kindOf ((p,w)::P.zip vs) m x=_
  unfold bindL
  exact ZgQ (i:=i) (Q3.mp nd).2 (by simpa using h1) (by simpa using h2) hk
theorem ZgU{kindOf:Str→Option NameKind}{x:Str}{v:Value}:∀ {P:List Str} {vs:List Value} {i:Nat} {m:Str→Option Value},P.Nodup→P[i]? = some x→vs[i]? = some v→kindOf x≠some .local →
  bindC kindOf (P.zip vs) m x=some v
 | [],_,_,_,_,h,_,_=>by simp at h
 | _::_,[],_,_,_,_,h,_=>by simp at h
 | p::P,w::vs,0,m,nd,h1,h2,hk=>by
  simp at h1 h2;subst h1;subst h2
  show bindC kindOf ((p,w)::P.zip vs) m p=_
  unfold bindC
  rw[ZgI fun v hv=>(Q3.mp nd).1 (List.of_mem_zip hv).1,if_neg hk]
  simp
 | p::P,w::vs,i+1,m,nd,h1,h2,hk=>by
  show bindC kindOf ((p,w)::P.zip vs) m x=_
  unfold bindC
  exact ZgU (i:=i) (Q3.mp nd).2 (by simpa using h1) (by simpa using h2) hk
def Zdq(N:List Str)(vs:List V):St:=vs.map some++List.replicate (N.length-vs.length) none
def ZhB(CX:CXT)(P:Program)(w:World)(K:PySem.W.Frag)(mg:Str→Option Value)(base:Heap)(N:List Str)(qual:Str)(scope:Scope)(f:Addr)(cd:Value)(A:Around)(outer:List Env)(s:Shared)(H:Hp)(E:XK):Cx where
 prog:=P
 w:=w
 K:=K
 mg:=mg
 base:=base
 A:=A.deeper (envOfC qual scope s.heap.objs.size f cd)
 N:=N
 s₀:=s
 H₀:=H
 env:=envOfC qual scope s.heap.objs.size f cd
 outer:=outer
 stack:=envOfC qual scope s.heap.objs.size f cd::outer
 ex:=[]
 calm:=true
 fn:=fun _=>true
 pn:=[]
 xe:=fun e s'=>wpAny (model P w) (A.deeper (envOfC qual scope s.heap.objs.size f cd)) (leaving (envOfC qual scope s.heap.objs.size f cd) e) (fun _ s''=>CX outer H s E e s'') (fun e' s''=>CX outer H s E e' s'') s'
theorem ZiZ{sc:Scope}{n:Nat}{x:Str}(h:sc.names.lookup x=some .cell):∃c,(cellsFrom n sc.names []).lookup x=some c:=by
 have q:=PySem.W.cellsFrom_some sc.names n [] (.inl h)
 exact Option.isSome_iff_exists.mp q
theorem Zl2{CX:CXT}{P:Program}{w:World}{K:PySem.W.Frag}{mg:Str→Option Value}{base:Heap}{N ps:List Str}{qual:Str}{scope:Scope}{f:Addr}{cd:Value}{A:Around}{outer:List Env}{s s1:Shared}{H:Hp}{E:XK}{us:List Value}{vs:List V}
  (S:Zq N ps scope) (hd:A.handled=none) (e0:ZjE P w K mg base A outer s H) (hl:vs.length=ps.length) (r:Zy vs us)
  (x:InCallC s s.heap.objs.size (bindL (envOfC qual scope s.heap.objs.size f cd).kindOf (ps.zip us) fun _=>none) (cellsFrom (s.heap.objs.size+1) scope.names []) (bindC (envOfC qual scope s.heap.objs.size f cd).kindOf (ps.zip us) fun _=>none) s1) :
  Inv (ZhB CX P w K mg base N qual scope f cd A outer s H E) [] (Zdq N vs) H s1:=by
 have hpl:ps.length≤N.length:=by have:=congrArg List.length S.pre;rw[Qz]at this;omega
 obtain⟨h1,tk,rfl,hk⟩:=x.done
 have noA:∀b:Addr,b ∉ (ZhB CX P w K mg base N qual scope f cd A outer s H E).ex:=fun b z=>absurd (show b∈([]:List Addr) from z) (by simp)
 refine⟨⟨e0.mod,S.kind,rfl,rfl,Qh _,fun y z c h1 h2=>?_,fun y hy=>?_,fun y c _ h=>?_,fun _=>hd,Around.frames_deeper e0.frames,.inr ⟨rfl,rfl⟩,fun b z=>absurd z (noA b),e0.bs,e0.bsz,fun b _ _=>noA b,fun b z=>absurd z (noA b),e0.funs,e0.frf⟩,
  rfl,e0.bare,Un.kept hk,⟨_,x.toInCall.ns,fun i y v h1 h2 h3=>?_⟩,fun y c h=>⟨_,x.cell y c h⟩,e0.hok.fresh (Qh _),fun y c h=>?_,fun p hp=>absurd (show p∈([]:List (Addr×Obj)) from hp) (by simp),e0.hok.kept hk,?_⟩
 ·exact name_of_addr x.apart (Qah h1) (Qah h2)
 ·have hy:scope.names.lookup y=some .cell∨scope.names.lookup y=some .free:=hy
  rcases hy with hy|hy
  ·exact ZiZ hy
  ·exact absurd rfl (S.nofree _ (Qah hy))
 ·exact Nat.le_of_lt (x.above y c (Qah h))
 ·have hi:i<vs.length:=by
   unfold Zdq at h2
   by_cases hi:i<vs.length
   ·exact hi
   ·rw[QN (by simpa using hi)]at h2
    rw[List.getElem?_replicate]at h2
    split at h2<;>cases h2
  have ha:vs[i]? = some v:=by
   unfold Zdq at h2
   rw[QS (by simpa using hi),Qi]at h2
   cases e:vs[i]? with
   | none=>rw[e]at h2;cases h2
   | some a=>rw[e]at h2;cases h2;rfl
  obtain⟨u,hu,rv⟩:=r.get ha
  have hp:ps[i]? = some y:=by
   rw[← S.pre,List.getElem?_take_of_lt (by omega)];exact h1
  have ndP:ps.Nodup:=by rw[← S.pre];exact S.nd.sublist (List.take_sublist _ _)
  refine⟨u,rv,?_⟩
  rcases S.par y (Qq hp) with k|k
  ·exact .inl ⟨k,ZgQ ndP hp hu k⟩
  ·obtain⟨c,e⟩:=ZiZ (n:=s.heap.objs.size+1) k
   refine .inr ⟨.inl k,c,e,?_⟩
   have q:=x.cell y c e
   rw[ZgU ndP hp hu (by show scope.names.lookup y≠_;rw[k];decide)]at q
   exact q
 ·exact e0.hok.fresh (Nat.le_of_lt (x.above y c (Qah h)))
 ·unfold Zdq
  show _=N.length
  rw[Qg,Qa,List.length_replicate]
  omega
theorem Zso{CX:CXT}{P:Program}{w:World}{K:PySem.W.Frag}{mg:Str→Option Value}{base:Heap}{k:Nat}{f:Addr}{name qual:Str}{params:Arguments}{body:List Stmt}{scope:Scope}{dV kV doc pm cdv ct oc:Value}{an od:Option Addr}
  {osl:Array (Option Value)} {N ps:List Str} {sp:Sp} (lk:K.lookup f=some ⟨oc,od,.func (PySem.W.fnOf name qual params body scope dV kV doc pm an cdv ct),osl⟩) (hcd:PySem.W.codeIn K cdv qual=true) (S:Zq N ps scope)
  (len:∀vs H Q E,sp vs H Q E→vs.length=ps.length)
  (hbody:∀ (A:Around) (outer:List Env) (s:Shared) (H:Hp) (vs:List V) (Q:VK) (E:XK),ZaG k (A.deeper (envOfC qual scope s.heap.objs.size f cdv))→sp vs H Q E →
   ∃t,PSs (ZhB CX P w K mg base N qual scope f cdv A outer s H E) body t∧t { nx:=fun _ H'=>Q .non H',rt:=Q } (Zdq N vs) H) :
  Zd5 P w K mg base CX (k+1) f (PySem.W.fnOf name qual params body scope dV kV doc pm an cdv ct) ps sp:=by
 refine⟨len,fun A outer s H args us vs Q E hr e0 hb r hsp=>?_⟩
 have hl:=len _ _ _ _ hsp
 have KX:K.In s.heap:=e0.mod.kin.keeps fun b o e=>(e0.bs b o e).1
 have lim:s.heap.NoLimit:=e0.mod.nolimit.keeps fun b o e=>(e0.bs b o e).1
 have hkind:∀y∈ps.zip us,scope.names.lookup y.1=some .local∨(scope.names.lookup y.1=some .cell∧((cellsFrom (s.heap.objs.size+1) scope.names []).lookup y.1).isSome=true):=fun ⟨n,v⟩ hy=>by
  rcases S.par n (List.of_mem_zip hy).1 with q|q
  ·exact .inl q
  ·exact .inr ⟨q,PySem.W.cellsFrom_some _ _ _ (.inl q)⟩
 refine codeAny_call_function hr.depth (KX _ _ lk) rfl S.co S.gen rfl (PySem.W.codeRec_of KX hcd) (hb _ _ _ _ ?_)
 refine wpAny_newFunctionEnv_cells S.kind hkind fun env he s1 x=>?_
 subst he
 refine⟨lim.keeps x.toInCall.keep,codeAny_func ?_⟩
 obtain⟨t,ht,hq⟩:=hbody A outer s H vs Q E (hr.deeper _) hsp
 have I:Inv (ZhB CX P w K mg base N qual scope f cdv A outer s H E) [] (Zdq N vs) H s1:=Zl2 S hr.hd e0 hl r x
 refine wpAny_mono (ht [] s1 (Zdq N vs) H _ I hq) (fun fl s' hs=>?_) fun e s' hs=>hs
 have fin:∀ {σ':St} {H':Hp} {v:V} {u:Value},Inv (ZhB CX P w K mg base N qual scope f cdv A outer s H E) [] σ' H' s'→ZC v u→Q v H'→CE outer P w H s Q u s' :=
  fun {σ' H' v u} J rv q=>⟨v,H',J.os,J.bare,J.base,J.hok,rv,q⟩
 cases fl with
 | ret u =>
  obtain⟨v,σ',H',J,rv,q⟩:=hs
  exact fin J rv q
 | next =>
  obtain⟨σ',H',J,q⟩:=hs
  exact fin (v:=V.non) (u:=Value.none) J rfl q
 | brk =>
  obtain⟨_,_,_,q⟩:=hs
  exact False.elim q
 | cont =>
  obtain⟨_,_,_,q⟩:=hs
  exact False.elim q
section
variable {X:Cx} {x:Str} {p pos:Pos} {e:Expr} {es:List Expr} {t:TA} {id T:String} {r:List V→Hp→VK→Prop}
def tCB(r:List V→Hp→VK→Prop)(t:TA):TE:=fun σ H Q=>t σ H fun vs H1=>r vs H1 Q
theorem Zk(hc:ZaW X (.builtin id) r)(hg:Gl X x)(hm:X.mg x=none)(hv:bootBuiltins x=some (.builtin id))(ha:PA X (e::es) t)(hn:x ≠ "__name__":=by decide)(hdb:(x == ("__debug__" : Str))=false:=by decide)
  (he:starEach (e::es) X.env=(false,eval e X.env)::starEach es X.env:=by rfl) (hpl:(backTo pos (starEach es X.env)).any (·.1)=false:=by rfl):PE X (.Call (.Name x p) (e::es) [] pos) (tCB r t):=by
 intro pins s σ H Q I h
 refine wpAny_Call_Name_kw (Ze5 I hg hm hv ?_ hn hdb)
 exact PyProof.Rows.callWith_builtin1 (thn (ha pos pins s σ H _ I h) fun us s1 ⟨vs,H1,I1,r1,q1⟩=>hc pins s1 σ H1 vs us Q I1 r1 q1) he hpl
theorem ZcP(hc:ZaW X (.type T) r)(hg:Gl X x)(hm:X.mg x=none)(hv:bootBuiltins x=some (.type T))(ha:PA X (e::es) t)(hn:x ≠ "__name__":=by decide)(hdb:(x == ("__debug__" : Str))=false:=by decide)
  (he:starEach (e::es) X.env=(false,eval e X.env)::starEach es X.env:=by rfl) (hpl:(backTo pos (starEach es X.env)).any (·.1)=false:=by rfl):PE X (.Call (.Name x p) (e::es) [] pos) (tCB r t):=by
 intro pins s σ H Q I h
 refine wpAny_Call_Name_kw (Ze5 I hg hm hv ?_ hn hdb)
 exact Qaj (thn (ha pos pins s σ H _ I h) fun us s1 ⟨vs,H1,I1,r1,q1⟩=>hc pins s1 σ H1 vs us Q I1 r1 q1) he hpl
end
end L2
namespace HT
open PySem PyProof.Rows
def lexLt:List Int→List Int→Bool
 | [],[]=>false
 | [],_::_=>true
 | _::_,[]=>false
 | x::xs,y::ys=>if x=y then lexLt xs ys else decide (x<y)
theorem Zqh(x y:Int)(xs ys:List Int):lexLt (x::xs) (y::ys)=if x=y then lexLt xs ys else decide (x<y):=rfl
theorem Zof:lexLt [] []=false:=rfl
theorem Zoa(y:Int)(ys:List Int):lexLt [] (y::ys)=true:=rfl
theorem ZmP(x:Int)(xs:List Int):lexLt (x::xs) []=false:=rfl
section
open PySem.SeqAt
open PySem.AutoSeq1 (wpAny_loadPart')
open PySem.MeetsSeq PySem.MeetsSeq2 PySem.MeetsSeq3
end
section
variable {prog:Program} {w:World} {A:Around} {E:Value→Shared→Prop} {s:Shared}
theorem cat_tup{t b:Addr}{vs ws:List Value}{Q:Value→Shared→Prop}(ht:IsTup s.heap t vs.toArray)(hb:IsTup s.heap b ws.toArray)(hv:vs≠[])
  (h1:ws=[]→Q (.ref t) s) (h2:ws≠[]→Q (.ref s.heap.objs.size) { s with heap:=s.heap.push { cls:=.type "tuple",data:=.seq (vs++ws).toArray } })
  (hsz:vs.length+ws.length≤sizeLine):wpAny (model prog w) A (binaryOp .Add (.ref t) (.ref b)) Q E s:=by
 obtain⟨⟨cls,dd,data,sl⟩,ho,hc,n,hd⟩:=id ht
 obtain⟨⟨cls2,dd2,data2,sl2⟩,ho2,hc2,n2,hd2⟩:=id hb
 simp only at hc hd hc2 hd2
 subst hc hd hc2 hd2
 have e:vs.toArray++ws.toArray=(vs++ws).toArray:=by simp
 by_cases hw:ws=[]
 ·exact concat_meets ⟨_,ho,rfl⟩ ⟨_,ho2,rfl⟩ noFill_tuple_add seq_tuple_add PySem.F.slot_tuple_add PySem.F.entry_tuple_add (PySem.F.args_tuple_add_2 _ _)
   (tuple_addW1 t b vs.toArray ws.toArray n n2 dd dd2 sl sl2 (by simpa using hv) (by simp[hw])) ⟨ho,ho2,h1 hw⟩
 ·refine concat_meets ⟨_,ho,rfl⟩ ⟨_,ho2,rfl⟩ noFill_tuple_add seq_tuple_add PySem.F.slot_tuple_add PySem.F.entry_tuple_add (PySem.F.args_tuple_add_2 _ _)
   (tuple_addW2 t b vs.toArray ws.toArray n n2 dd dd2 sl sl2 (by simpa using hv) (by simpa using hw) (by rw[Qw,Qw];exact hsz)) ⟨ho,ho2,?_⟩
  rw[e]
  exact h2 hw
def sIx(n d:Nat):Option Int→Nat
 | none=>d
 | some v=>if v<0 then (v+(n:Int)).toNat else min v.toNat n
theorem Zsl(n d:Nat):sIx n d none=d:=rfl
end
end HT
namespace L2
open PySem PySem.Spec PyProof.Rows
abbrev TO:=St→Hp→(Option Int→Hp→Prop)→Prop
def PO(X:Cx)(e:Option Expr)(t:TO):Prop :=
 ∀ (pins:List (Addr×Obj)) (s:Shared) (σ:St) (H:Hp) (Q:Option Int→Hp→Prop),Inv X pins σ H s→t σ H Q →
  wpAny (model X.prog X.w) X.A (evalPart e X.env) (fun u s'=>∃o H',Inv X pins σ H' s'∧IsPart u o∧Q o H') X.xe s
def ZoD:TO:=fun _ H Q=>Q none H
def Zsm(t:TE):TO:=fun σ H Q=>t σ H fun x H1=>∃i,x=.int i∧Q (some i) H1
theorem ZjX{ns:List Int}:∀ {us:List Value},Zy (ns.map V.int) us→IntsAre us ns:=by
 induction ns with
 | nil=>intro us r;rw[Qac]at r;cases r;exact .nil
 | cons n ns ih =>
  intro us r
  rw[Qj]at r
  cases r with
  | cons r1 r2 =>
   obtain⟨t,e⟩:=r1
   subst e
   exact .cons n t (ih r2)
section
variable {X:Cx} {e:Expr} {te:TE} {lo hi:Option Expr} {tl th:TO} {pos p2:Pos}
theorem Zcv:PO X none ZoD:=by
 intro pins s σ H Q I h
 rw[evalPart_none]
 exact wpAny_pure ⟨none,H,I,.none,h⟩
theorem Zb4(h:PE X e te):PO X (some e) (Zsm te):=by
 intro pins s σ H Q I hw
 rw[evalPart_some]
 refine thn (h pins s σ H _ I hw) ?_
 rintro u s1 ⟨x,H1,I1,r1,q1⟩
 obtain⟨i,rfl,q⟩:=q1
 obtain⟨t,rfl⟩:=r1
 exact⟨some i,H1,I1,.int i t,q⟩
def SlR(X:Cx)(r:V→Option Int→Option Int→Hp→VK→Prop):Prop :=
 ∀ (pins:List (Addr×Obj)) (s:Shared) (σ:St) (H:Hp) (x:V) (v vl vu:Value) (lo hi:Option Int) (sl:Addr) (Q:VK),Inv X pins σ H s→ZC x v→s.heap.IsSliceOf sl vl vu .none→IsPart vl lo→IsPart vu hi→r x lo hi H Q →
  ∃T id,typeLookup (.type T) "__getitem__" = pure (some (.builtin id))∧s.TypeIs v T∧wpAny (model X.prog X.w) X.A (getItem v (.ref sl)) (EP X pins σ Q) X.xe s
def tSl(r:V→Option Int→Option Int→Hp→VK→Prop)(te:TE)(tl th:TO):TE:=fun σ H Q=>te σ H fun x H1=>tl σ H1 fun l H2=>th σ H2 fun u H3=>r x l u H3 Q
theorem Zcq{r:V→Option Int→Option Int→Hp→VK→Prop}(hr:SlR X r)(he:PE X e te)(hl:PO X lo tl)(hu:PO X hi th):PE X (.Subscript e (.Slice lo hi none p2) pos) (tSl r te tl th):=by
 intro pins s σ H Q I h
 refine Subscript_ (thn (he pins s σ H _ I h) ?_)
 rintro v s1 ⟨x,H1,I1,r1,q1⟩
 refine wpAny_Slice (thn (hl pins s1 σ H1 _ I1 q1) fun vl s2 ⟨l,H2,I2,pl,q2⟩=>thn (hu pins s2 σ H2 _ I2 q2) ?_)
 rintro vu s3 ⟨u,H3,I3,pu,q3⟩
 rw[evalPart_none]
 refine wpAny_pure ?_
 have I4:Inv X pins σ H3 { s3 with heap:=s3.heap.push { cls:=.type "slice",data:=.fields #[vl,vu,.none] } }:=I3.kept (t':=s3.toks) fun b ob q=>Qo _ q
 obtain⟨T,id,hT,ht,hg⟩:=hr pins { s3 with heap:=s3.heap.push { cls:=.type "slice",data:=.fields #[vl,vu,.none] } } σ H3 x v vl vu l u s3.heap.objs.size Q I4 r1 (Heap.IsSliceOf.new ..) pl pu q3
 show wpAny (model X.prog X.w) X.A (subscriptTail e (.Slice lo hi none p2) v (.ref s3.heap.objs.size)) (EP X pins σ Q) X.xe { s3 with heap:=s3.heap.push { cls:=.type "slice",data:=.fields #[vl,vu,.none] } }
 exact tail_any (ops:=[.ref s3.heap.objs.size,v]) ht hT hg (by with_unfolding_all rfl)
def Zc8(xs:List V)(lo hi:Option Int):List V:=(xs.drop (HT.sIx xs.length 0 lo)).take (HT.sIx xs.length xs.length hi-HT.sIx xs.length 0 lo)
theorem ZiR(xs:List V)(lo hi:Option Int):(Zc8 xs lo hi).length≤xs.length:=by
 unfold Zc8
 rw[Qz,QV]
 omega
def rSlT(K:PySem.W.Frag):V→Option Int→Option Int→Hp→VK→Prop:=fun x lo hi H Q=>∃a xs,x=.ref a∧SqT K H a xs ∧
 ¬ (HT.sIx xs.length 0 lo=0∧HT.sIx xs.length xs.length hi=xs.length)∧∀p,H p=none→Q (.ref p) (upd H p (.tup (Zc8 xs lo hi)))
def rLtT(K:PySem.W.Frag):R2:=fun x y H Q=>∃a b ns ms,x=.ref a∧y=.ref b∧SqT K H a (ns.map V.int)∧SqT K H b (ms.map V.int)∧Q (.bl (HT.lexLt ns ms)) H
def Zsh(K:PySem.W.Frag):R2:=fun x y H Q=>∃a b xs ys,x=.ref a∧y=.ref b∧SqT K H a xs∧SqT K H b ys∧xs≠[]∧xs.length+ys.length≤sizeLine ∧
 (ys=[]→Q (.ref a) H)∧(ys≠[]→∀p,H p=none→Q (.ref p) (upd H p (.tup (xs++ys))))
theorem Zy.nil_iff{xs:List V}{us:List Value}(r:Zy xs us):us=[]↔xs=[]:=by
 cases r with
 | nil=>simp
 | cons _ _=>simp
theorem ZoU:OpR X (binaryOp .Add) (Zsh X.K):=by
 intro pins s σ H x y v u Q I rx ry h
 obtain⟨a,b,xs,ys,rfl,rfl,ha,hb,hx,hz,q1,q2⟩:=h
 cases rx
 cases ry
 obtain⟨its,r1,p1,_⟩:=I.tuple ha
 obtain⟨its2,r2,p2,_⟩:=I.tuple hb
 refine HT.cat_tup p1 p2 (fun z=>hx (r1.nil_iff.mp z)) (fun z=>⟨.ref a,H,I,rfl,q1 (r2.nil_iff.mp z)⟩) (fun z=>?_) (by rw[← r1.length,← r2.length];exact hz)
 refine⟨.ref s.heap.objs.size,_,I.laid (t':=s.toks) (o:=.tup (xs++ys)) (fun b ob q=>Qo _ q) (Qh _) ?_,rfl,q2 (fun w=>z (r2.nil_iff.mpr w)) _ (I.hok.fresh (Qh _))⟩
 exact⟨by rw[Qg];exact hz,_,r1.append r2,IsTup.new _ _⟩
end
def ixN(n:Nat)(i:Int):Option Nat:=if 0≤i then (if i<n then some i.toNat else none) else if -(n:Int)≤i then some (i+n).toNat else none
def atI{α:Type}(xs:List α)(i:Int):Option α:=(ixN xs.length i).bind fun j=>xs[j]?
theorem ZkU{n:Nat}{i:Int}{j:Nat}(h:ixN n i=some j):seqIndex? i n=some j∧j<n ∧ -(n:Int)≤i∧i<n:=by
 unfold ixN at h
 by_cases h0:0≤i
 ·rw[if_pos h0]at h
  by_cases h1:i<n
  ·rw[if_pos h1]at h
   have e:i.toNat=j:=Qp h
   exact⟨by rw[seqIndex_of h0 h1,e],by omega,by omega,h1⟩
  ·rw[if_neg h1]at h;cases h
 ·rw[if_neg h0]at h
  by_cases h1:-(n:Int)≤i
  ·rw[if_pos h1]at h
   have e:(i+n).toNat=j:=Qp h
   exact⟨by rw[seqIndex_neg (by omega) h1,e],by omega,h1,by omega⟩
  ·rw[if_neg h1]at h;cases h
theorem Zh9{α:Type}{xs:List α}{i:Int}{v:α}(h:atI xs i=some v):∃j,seqIndex? i xs.length=some j∧xs[j]? = some v∧j<xs.length ∧ -(xs.length:Int)≤i∧i<xs.length:=by
 unfold atI at h
 cases e:ixN xs.length i with
 | none=>rw[e]at h;cases h
 | some j =>
  rw[e]at h
  obtain⟨h1,h2,h3,h4⟩:=ZkU e
  exact⟨j,h1,h,h2,h3,h4⟩
theorem Z3{α:Type}{xs:List α}{j:Nat}{v:α}(h:xs[j]? = some v):atI xs (j:Int)=some v:=by
 have hj:j<xs.length:=(Qc.mp h).1
 have e:ixN xs.length (j:Int)=some j:=by
  unfold ixN
  rw[if_pos (by omega),if_pos (by omega)];simp
 unfold atI;rw[e];exact h
theorem Zoc{α:Type}(xs:List α)(v:α):atI (xs++[v]) (-1)=some v:=by
 have hl:(xs++[v]).length=xs.length+1:=by simp
 have e:ixN (xs++[v]).length (-1)=some xs.length:=by
  unfold ixN
  rw[hl,if_neg (by decide),if_pos (by omega)]
  congr 1
  omega
 unfold atI
 rw[e]
 show (xs++[v])[xs.length]? = some v
 simp
def ZoF(b:Expr):Prop:=∀o i,subscripted b false o i=operate [o,i] (getItem o i)
def IxR(X:Cx)(r:R2):Prop :=
 ∀ (value slice:Expr) (pins:List (Addr×Obj)) (s:Shared) (σ:St) (H:Hp) (x y:V) (v u:Value) (Q:VK),Inv X pins σ H s→ZC x v→ZC y u→r x y H Q →
  subscripted slice false v u=operate [v,u] (getItem v u)→wpAny (model X.prog X.w) X.A (subscriptTail value slice v u) (EP X pins σ Q) X.xe s
def MtR(X:Cx)(id:String)(r:V→List V→Hp→VK→Prop):Prop :=
 ∀ (pins:List (Addr×Obj)) (s:Shared) (σ:St) (H:Hp) (x:V) (xs:List V) (v:Value) (us:List Value) (Q:VK),Inv X pins σ H s→ZC x v→Zy xs us→r x xs H Q →
  wpAny (model X.prog X.w) X.A (call (.builtin id) (v::us)) (EP X pins σ Q) X.xe s
section
variable {X:Cx} {a b:Expr} {ta tb:TE} {pos:Pos}
theorem Zx{r:R2}(hr:IxR X r)(ha:PE X a ta)(hb:PE X b tb)(hs:ZoF b):PE X (.Subscript a b pos) (tOp r ta tb):=by
 intro pins s σ H Q I h
 exact Subscript_ (ZqK ha hb I h fun v u s2 x y H2 I2 rx ry q=>hr a b pins s2 σ H2 x y v u Q I2 rx ry q (hs _ _))
def Zqn(K:PySem.W.Frag):R2:=fun x y H Q=>∃p xs i v,x=.ref p∧y=.int i∧SqL K H p xs∧atI xs i=some v∧Q v H
def Zrb(K:PySem.W.Frag):R2:=fun x y H Q=>∃p xs i v,x=.ref p∧y=.int i∧SqT K H p xs∧atI xs i=some v∧Q v H
def Zr1:R2:=fun x y H Q=>∃z i c,x=.str z∧y=.int i∧z.length≤sizeLine∧atI z.cps.toList i=some c∧Q (.str ⟨#[c]⟩) H
theorem Zon:IxR X (Zqn X.K):=by
 intro value slice pins s σ H x y v u Q I rx ry h hs
 obtain⟨p,xs,i,z,rfl,rfl,hq,he,q⟩:=h
 cases rx
 obtain⟨t,rfl⟩:=ry
 obtain⟨its,r,pl,hz⟩:=I.list hq
 obtain⟨j,h1,h2,h3,h4,h5⟩:=Zh9 he
 obtain⟨w,ew,rw'⟩:=r.get h2
 have hl:=r.length
 have hn:=Ze8
 have fin:EP X pins σ Q w s:=⟨z,H,I,rw',q⟩
 by_cases h0:0≤i
 ·have hj:i.toNat=j:=by
   rw[seqIndex_of h0 h5]at h1
   exact Qp h1
  exact item_listR pl.isList h0 (by omega) (by rw[hj];simpa using ew) fin hs
 ·have hj:(i+(its.toArray.size:Int)).toNat=j:=by
   rw[seqIndex_neg (by omega) h4]at h1
   rw[Qw,← hl]
   exact Qp h1
  exact subscriptTail_builtinR (x:=w) pl.isList.typeIs slot_list_getitem.lookup
   (wpAny_getItem_list_neg (Q:=fun r s'=>r=w∧EP X pins σ Q r s') pl.isList (by omega) (by rw[Qw]<;>omega) (by omega) (by rw[hj];simpa using ew) ⟨rfl,fin⟩) hs
theorem Zqc:IxR X (Zrb X.K):=by
 intro value slice pins s σ H x y v u Q I rx ry h hs
 obtain⟨p,xs,i,z,rfl,rfl,hq,he,q⟩:=h
 cases rx
 obtain⟨t,rfl⟩:=ry
 obtain⟨its,r,pl,hz⟩:=I.tuple hq
 obtain⟨j,h1,h2,h3,h4,h5⟩:=Zh9 he
 obtain⟨w,ew,rw'⟩:=r.get h2
 have hl:=r.length
 have hn:=Ze8
 have fin:EP X pins σ Q w s:=⟨z,H,I,rw',q⟩
 exact subscriptTail_builtinR (x:=w) pl.typeIs slot_tuple_getitem.lookup
  (getItem_tuple (j:=j) (Q:=fun r s'=>r=w∧EP X pins σ Q r s') pl (by omega) (by omega) (by rw[Qw,← hl];exact h1) (by simpa using ew) ⟨rfl,fin⟩) hs
theorem Zgh:IxR X Zr1:=by
 intro value slice pins s σ H x y v u Q I rx ry h hs
 obtain⟨z,i,c,rfl,rfl,hz,he,q⟩:=h
 obtain⟨t,rfl⟩:=rx
 obtain⟨t',rfl⟩:=ry
 obtain⟨j,h1,h2,h3,h4,h5⟩:=Zh9 he
 have hl:z.cps.toList.length=z.length:=by simp[Str.length]
 rw[hl]at h1 h4 h5
 have hn:=Ze8
 exact tail_any (typeIs_str s z t) slot_str_getitem.lookup (getItem_str (c:=c) (by
  have e1:decide (i < -(2 ^ 63:Int))=false:=decide_eq_false (by omega)
  have e2:decide (i≥2 ^ 63)=false:=decide_eq_false (by omega)
  rw[e1,e2,Bool.or_false]) (by rw[h1];simpa using h2) ⟨.str ⟨#[c]⟩,H,I.tok _,⟨_,rfl⟩,q⟩) hs
def rIx(K:PySem.W.Frag):R2:=fun x y H Q=>Zqn K x y H Q∨Zrb K x y H Q∨Zr1 x y H Q
theorem ZjC(its:List Value)(n j:Nat)(u:Value):Obj.mapSeq (·.setIfInBounds j u) { cls:=.type "list",data:=.seq its.toArray n }={ cls:=.type "list",data:=.seq (its.set j u).toArray n }:=by
 simp[Obj.mapSeq]
theorem Inv.lst{pins:List (Addr×Obj)}{σ:St}{H:Hp}{s:Shared}{p:Addr}{xs:List V}(I:Inv X pins σ H s)(h:H p=some (.lst xs)) :
  ∃ (its:List Value) (n:Nat),Zy xs its∧s.heap.get? p=some { cls:=.type "list",data:=.seq its.toArray n }∧xs.length≤sizeLine:=by
 obtain⟨z,its,n,r,e⟩:=I.hok p _ h
 exact⟨its,n,r,e,z⟩
theorem Inv.lstUpd{pins:List (Addr×Obj)}{σ:St}{H:Hp}{s:Shared}{p:Addr}{xs ys:List V}{its its':List Value}{n n':Nat}{f:Obj→Obj}(I:Inv X pins σ H s)(h:H p=some (.lst xs))
  (ho:s.heap.get? p=some { cls:=.type "list",data:=.seq its.toArray n }) (hf:f { cls:=.type "list",data:=.seq its.toArray n }={ cls:=.type "list",data:=.seq its'.toArray n' }) (r:Zy ys its') (hz:ys.length≤sizeLine) (t:Nat) :
  Inv X pins σ (upd H p (.lst ys)) { s with heap:=s.heap.update p f,toks:=t }:=by
 have e:(s.heap.update p f).get? p=some { cls:=.type "list",data:=.seq its'.toArray n' }:=by
  rw[Heap.get?_update_self f ho (by rw[hf]<;>rfl),hf]
 refine I.write (x:=p) (e:=p) (by rw[h];trivial) (.inl rfl) (fun b u hb q=>(Heap.get?_update_other _ _ (Ne.symm hb)).trans q) ⟨_,e⟩ ?_
 exact⟨hz,its',n',r,e⟩
def Zsd:V→V→V→Hp→(Hp→Prop)→Prop:=fun o i v H Q=>∃p xs k j,o=.ref p∧i=.int k∧H p=some (.lst xs)∧ixN xs.length k=some j∧Q (upd H p (.lst (xs.set j v)))
theorem Zjm:Zni X Zsd:=by
 intro pins s σ H o i v ov iv u Q I ro ri rv h
 obtain⟨p,xs,k,j,rfl,rfl,hp,hj,q⟩:=h
 cases ro
 obtain⟨t,rfl⟩:=ri
 obtain⟨its,n,r,ho,hz⟩:=I.lst hp
 obtain⟨h1,h2,h3,h4⟩:=ZkU hj
 have hl:=r.length
 have hn:=Ze8
 have I':Inv X pins σ (upd H p (.lst (xs.set j v))) { s with heap:=s.heap.update p (Obj.mapSeq (·.setIfInBounds j u)) } :=
  I.lstUpd hp ho (ZjC its n j u) (r.set rv j) (by rw[List.length_set];exact hz) s.toks
 by_cases h0:0≤k
 ·have hk:k.toNat=j:=by
   rw[seqIndex_of h0 h4]at h1
   exact Qp h1
  exact PySem.W.ki_setAt ho h0 (by omega) (by rw[Qw,← hl];exact h4) (by rw[hk];exact⟨_,I',q⟩)
 ·have hk:(k+(its.toArray.size:Int)).toNat=j:=by
   rw[seqIndex_neg (by omega) h3]at h1
   rw[Qw,← hl]
   exact Qp h1
  exact PySem.W.ki_setBack ho (by omega) (by rw[Qw,← hl];exact h3) (by omega) (by rw[hk];exact⟨_,I',q⟩)
theorem ZhU(lo hi:Option Int)(n:Nat):(sliceBounds lo hi none n).1=((HT.sIx n 0 lo:Nat):Int)∧(sliceBounds lo hi none n).2.1=((HT.sIx n n hi:Nat):Int)∧(sliceBounds lo hi none n).2.2=1:=by
 refine⟨?_,?_,rfl⟩
 ·cases lo with
  | none=>simp[sliceBounds,HT.sIx]
  | some i =>
   simp only[sliceBounds,HT.sIx,Option.getD_none,show (1:Int)>0 by decide,if_true]
   by_cases h:i<0
   ·simp only[h,if_true]<;>omega
   ·simp only[h,if_false]<;>omega
 ·cases hi with
  | none=>simp[sliceBounds,HT.sIx]
  | some i =>
   simp only[sliceBounds,HT.sIx,Option.getD_none,show (1:Int)>0 by decide,if_true]
   by_cases h:i<0
   ·simp only[h,if_true]<;>omega
   ·simp only[h,if_false]<;>omega
theorem Zgs(its:List Value)(lo hi:Option Int):slicePick its.toArray lo hi none=((its.drop (HT.sIx its.length 0 lo)).take (HT.sIx its.length its.length hi-HT.sIx its.length 0 lo)).toArray:=by
 obtain⟨h1,h2,h3⟩:=ZhU lo hi its.toArray.size
 unfold slicePick
 rw[h1,h2,h3]
 simp only[sliceRange_one,pick_run,List.size_toArray]<;>rfl
def Zsb(K:PySem.W.Frag):V→Option Int→Option Int→Hp→VK→Prop:=fun x lo hi H Q=>∃a xs,x=.ref a∧SqL K H a xs∧∀p,H p=none→Q (.ref p) (upd H p (.lst (Zc8 xs lo hi)))
theorem ZoY:SlR X (Zsb X.K):=by
 intro pins s σ H x v vl vu lo hi sl Q I rx hs pl pu h
 obtain⟨a,xs,rfl,hx,q⟩:=h
 cases rx
 obtain⟨its,r,ht,hz⟩:=I.list hx
 have hlen:=r.length
 refine⟨"list",_,slot_list_getitem.lookup,ht.isList.typeIs,?_⟩
 refine wpAny_getItem_list_slice ht.isList hs pl pu .none (by simp) ?_ (by rw[Qw]<;>omega)
 rw[Zgs,← hlen]
 refine⟨.ref s.heap.objs.size,_,I.laid (t':=s.toks) (o:=.lst (Zc8 xs lo hi)) (fun b ob q=>Qo _ q) (Qh _) ?_,rfl,q _ (I.hok.fresh (Qh _))⟩
 exact⟨QP (ZiR xs lo hi) hz,_,0,(r.drop (HT.sIx xs.length 0 lo)).take (HT.sIx xs.length xs.length hi-HT.sIx xs.length 0 lo),QJ _ rfl⟩
def Zev:V→Bool
 | .non=>true
 | .bl _=>true
 | .int _=>true
 | .str _=>true
 | _=>false
def eqV:V→V→Bool
 | .non,.non=>true
 | .bl a,.bl b=>a == b
 | .bl a,.int b=>(if a then 1 else 0) == b
 | .int a,.bl b=>a == (if b then 1 else 0)
 | .int a,.int b=>a == b
 | .str a,.str b=>a == b
 | _,_=>false
theorem ZqA{A:Around}{s:Shared}{y x:V}{u v:Value}(ry:ZC y u)(rx:ZC x v)(fy:Zev y=true)(fx:Zev x=true):SeqAt.EqAt A s u v (eqV y x):=by
 cases y with
 | non =>
  cases ry
  cases x with
  | non=>cases rx;exact SeqAt.EqAt.same _
  | bl b=>cases rx;exact SeqAt.EqAt.none_bool b
  | int b=>obtain⟨t,rfl⟩:=rx;exact SeqAt.EqAt.none_int b t
  | str b=>obtain⟨t,rfl⟩:=rx;exact SeqAt.EqAt.none_str b t
  | _=>exact absurd (show false=true from fx) QC
 | bl a =>
  cases ry
  cases x with
  | non=>cases rx;exact SeqAt.EqAt.bool_none a
  | bl b=>cases rx;exact SeqAt.EqAt.bool_bool a b
  | int b=>obtain⟨t,rfl⟩:=rx;exact SeqAt.EqAt.bool_int a b t
  | str b=>obtain⟨t,rfl⟩:=rx;exact SeqAt.EqAt.bool_str a b t
  | _=>exact absurd (show false=true from fx) QC
 | int a =>
  obtain⟨t',rfl⟩:=ry
  cases x with
  | non=>cases rx;exact SeqAt.EqAt.int_none a t'
  | bl b=>cases rx;exact SeqAt.EqAt.int_bool a t' b
  | int b=>obtain⟨t,rfl⟩:=rx;exact SeqAt.EqAt.int_int a t' b t
  | str b=>obtain⟨t,rfl⟩:=rx;exact SeqAt.EqAt.int_str a t' b t
  | _=>exact absurd (show false=true from fx) QC
 | str a =>
  obtain⟨t',rfl⟩:=ry
  cases x with
  | non=>cases rx;exact SeqAt.EqAt.str_none a t'
  | bl b=>cases rx;exact SeqAt.EqAt.str_bool a t' b
  | int b=>obtain⟨t,rfl⟩:=rx;exact SeqAt.EqAt.str_int a t' b t
  | str b=>obtain⟨t,rfl⟩:=rx;exact SeqAt.EqAt.str_str a t' b t
  | _=>exact absurd (show false=true from fx) QC
 | _=>exact absurd (show false=true from fy) QC
def eqU(x:V)(u:Value):Bool:=match u with
 | .none=>eqV .non x
 | .bool b=>eqV (.bl b) x
 | .int i _=>eqV (.int i) x
 | .str z _=>eqV (.str z) x
 | _=>false
theorem ZmT{x y:V}{u:Value}(r:ZC y u)(f:Zev y=true):eqU x u=eqV y x:=by
 cases y with
 | non=>cases r;rfl
 | bl b=>cases r;rfl
 | int i=>obtain⟨t,rfl⟩:=r;rfl
 | str z=>obtain⟨t,rfl⟩:=r;rfl
 | _=>exact absurd (show false=true from f) QC
theorem Zhz{x:V}:∀ {xs:List V} {us:List Value},Zy xs us→xs.all Zev=true→us.any (eqU x)=xs.any fun y=>eqV y x
 | _,_,.nil,_=>rfl
 | y::xs,u::us,.cons r t,f=>by
  rw[List.all_cons,Qaz]at f
  rw[QaF,QaF,ZmT r f.1,Zhz t f.2]
theorem Zgk{A:Around}{s:Shared}{x:V}{v:Value}(rx:ZC x v)(fx:Zev x=true):∀ {xs:List V} {us:List Value},Zy xs us→xs.all Zev=true→∀u∈us,SeqAt.EqAt A s u v (eqU x u)
 | _,_,.nil,_=>fun u hu=>by cases hu
 | y::xs,u::us,.cons r t,f=>fun u' hu=>by
  rw[List.all_cons,Qaz]at f
  rcases QI.mp hu with rfl|hu
  ·rw[ZmT r f.1];exact ZqA r rx f.1 fx
  ·exact Zgk rx fx t f.2 u' hu
def inV(x:V)(xs:List V):Bool:=xs.any fun y=>eqV y x
def rIn(K:PySem.W.Frag)(neg:Bool):R2:=fun x y H Q=>∃p xs,y=.ref p∧(SqL K H p xs∨SqT K H p xs)∧Zev x=true∧xs.all Zev=true∧Q (.bl (if neg then !inV x xs else inV x xs)) H
theorem ZlI:OpR X (compareOp .In) (rIn X.K false):=by
 intro pins s σ H x y v u Q I rx ry h
 obtain⟨p,xs,rfl,hq,fx,fs,q⟩:=h
 cases ry
 rcases hq with hq|hq
 ·obtain⟨its,r,pl,hz⟩:=I.list hq
  refine SeqAt.in_listAt (eqU x) pl.isList (fun w hw=>Zgk rx fx r fs w (by simpa using hw)) ⟨.bl _,H,I,rfl,?_⟩
  rw[show its.toArray.any (eqU x)=its.any (eqU x) by simp,Zhz r fs]
  exact q
 ·obtain⟨its,r,pl,hz⟩:=I.tuple hq
  refine SeqAt.in_tupleAt (eqU x) pl (fun w hw=>Zgk rx fx r fs w (by simpa using hw)) ⟨.bl _,H,I,rfl,?_⟩
  rw[show its.toArray.any (eqU x)=its.any (eqU x) by simp,Zhz r fs]
  exact q
theorem Zhu:ZaW X (.builtin "len") (fun xs H Q=>∃p ys,xs=[.ref p]∧(SqL X.K H p ys∨SqT X.K H p ys)∧Q (.int ys.length) H):=by
 intro pins s σ H xs us Q I r h
 obtain⟨p,ys,rfl,hq,q⟩:=h
 obtain⟨u,rfl,rx⟩:=Zdm r
 cases rx
 have hn:=Ze8
 rcases hq with hq|hq
 ·obtain⟨its,r',pl,hz⟩:=I.list hq
  have hlen:=r'.length
  exact Calls.call_len_list pl.isList (by simp only[List.size_toArray]<;>omega) ⟨.int ys.length,H,I.tok _,⟨s.toks+1,by rw[Qw,hlen]⟩,q⟩
 ·obtain⟨its,r',pl,hz⟩:=I.tuple hq
  have hlen:=r'.length
  exact len_tuple pl (by simp only[List.size_toArray]<;>omega) ⟨.int ys.length,H,I.tok _,⟨s.toks+1,by rw[Qw,hlen]⟩,q⟩
theorem Zbc:ZaW X (.builtin "len") (fun xs H Q=>∃z,xs=[.str z]∧z.length≤sizeLine∧Q (.int z.length) H):=by
 intro pins s σ H xs us Q I r h
 obtain⟨z,rfl,hz,q⟩:=h
 obtain⟨u,rfl,t,rfl⟩:=Zdm r
 have hn:=Ze8
 exact len_str (by omega) ⟨.int z.length,H,I.tok _,⟨_,rfl⟩,q⟩
theorem Zh3:ZaW X (.type "list") (fun xs H Q=>∃p ys,xs=[.ref p]∧(SqL X.K H p ys∨SqT X.K H p ys)∧∀l,H l=none→Q (.ref l) (upd H l (.lst ys))):=by
 intro pins s σ H xs us Q I r h
 obtain⟨p,ys,rfl,hq,q⟩:=h
 obtain⟨u,rfl,rx⟩:=Zdm r
 cases rx
 have fin:∀ (its:List Value),Zy ys its→ys.length≤sizeLine→∀ (h':Heap) (c':Nat),(∀b o',s.heap.get? b=some o'→h'.get? b=some o') →
   h'.get? s.heap.objs.size=some { cls:=.type "list",dict:=none,data:=.seq its.toArray c',slots:=#[] }→EP X pins σ Q (.ref s.heap.objs.size) { s with heap:=h' }:=fun its r' hz h' c' kp e =>
  ⟨.ref s.heap.objs.size,_,I.laid (t':=s.toks) kp (Qh _) (show Zaw X.prog X.w _ h' _ (.lst ys) from⟨hz,its,c',r',e⟩),rfl,q _ (I.hok.fresh (Qh _))⟩
 rcases hq with hq|hq
 ·obtain⟨its,r',pl,hz⟩:=I.list hq
  have hlen:=r'.length
  obtain⟨o,ho,hc,n,hd⟩:=pl.isList
  exact call_list_seq p (.inl rfl) ho hc hd (fun h' c' kp e=>fin its r' hz h' c' kp e) (by simp only[List.size_toArray]<;>omega)
 ·obtain⟨its,r',pl,hz⟩:=I.tuple hq
  have hlen:=r'.length
  obtain⟨o,ho,hc,n,hd⟩:=pl
  exact call_list_seq p (.inr rfl) ho hc hd (fun h' c' kp e=>fin its r' hz h' c' kp e) (by simp only[List.size_toArray]<;>omega)
def tyV(K:PySem.W.Frag)(T:String)(x:V)(H:Hp):Prop:=match x with
 | .str _=>T = "str"
 | .int _=>T = "int"
 | .ref p=>(T = "list"∧∃xs,SqL K H p xs)∨(T = "tuple"∧∃o,K.lookup p=some o∧o.cls=.type "tuple"∧o.dict=none) ∨
   (T = "dict"∧((∃kvs,H p=some (.dK kvs))∨∃kvs,H p=some (.dT kvs)))∨(T = "set"∧∃S n,H p=some (.set S n))
 | _=>False
theorem Zl6{pins:List (Addr×Obj)}{σ:St}{H:Hp}{s:Shared}{T:String}{x:V}{v:Value}(I:Inv X pins σ H s)(r:ZC x v)(ty:tyV X.K T x H) :
  s.TypeIs v T∧∀a,v=.ref a→∃ob,s.heap.get? a=some ob∧ob.dict=none:=by
 cases x with
 | str z =>
  obtain⟨t,rfl⟩:=r
  cases (show T = "str" from ty)
  exact⟨typeIs_str s z t,fun _ e=>nomatch e⟩
 | int i =>
  obtain⟨t,rfl⟩:=r
  cases (show T = "int" from ty)
  exact⟨typeIs_int s i t,fun _ e=>nomatch e⟩
 | ref p =>
  cases r
  rcases ty with⟨rfl,xs,hq⟩|⟨rfl,o,hk,hc,hd⟩|⟨rfl,hk⟩|⟨rfl,S,n,hk⟩
  ·obtain⟨its,_,pl,_⟩:=I.list hq
   refine⟨pl.isList.typeIs,fun a e=>?_⟩
   cases e
   obtain⟨o,n,e,c,hd,_⟩:=pl
   exact⟨o,e,hd⟩
  ·refine⟨⟨o,I.kIn p o hk,hc⟩,fun a e=>?_⟩
   cases e
   exact⟨o,I.kIn _ o hk,hd⟩
  ·have z:∃o,s.heap.get? p=some o∧o.ExactDict:=by
    rcases hk with⟨kvs,hk⟩|⟨kvs,hk⟩
    ·obtain⟨_,_,_,_,o,_,_,e,ex,_⟩:=I.hok p _ hk
     exact⟨o,e,ex⟩
    ·obtain⟨_,_,_,_,o,_,_,e,ex,_⟩:=I.hok p _ hk
     exact⟨o,e,ex⟩
   obtain⟨o,e,ex⟩:=z
   refine⟨⟨o,e,ex.1⟩,fun a e2=>?_⟩
   cases e2
   exact⟨o,e,ex.2.1⟩
  ·obtain⟨o,_,_,_,e,ex,_⟩:=I.hok p _ hk
   refine⟨⟨o,e,ex.1⟩,fun a e2=>?_⟩
   cases e2
   exact⟨o,e,ex.2.1⟩
 | _=>exact False.elim ty
def Zs7(K:PySem.W.Frag)(T:String)(r:V→List V→Hp→VK→Prop)(to:TE):TE:=fun σ H Q=>to σ H fun x H1=>tyV K T x H1∧r x [] H1 Q
def tBM(K:PySem.W.Frag)(T:String)(r:V→List V→Hp→VK→Prop)(to:TE)(t:TA):TE:=fun σ H Q=>to σ H fun x H1=>tyV K T x H1∧t σ H1 fun xs H2=>r x xs H2 Q
variable {o e:Expr} {es:List Expr} {to:TE} {t:TA} {name:Str} {apos cpos:Pos} {T id:String} {r:V→List V→Hp→VK→Prop}
theorem Zqb(pa:PlainAttrs T)(slot:Slot T name id)(hty:typeOf (.builtin id)=pure (.type "method_descriptor"))(hm:MtR X id r)(ho:PE X o to)
  (hbase:attributeBase o name X.env (eval o X.env)=eval o X.env:=by rfl) (hline:(apos.endLine == cpos.line)=true:=by rfl):PE X (.Call (.Attribute o name apos) [] [] cpos) (Zs7 X.K T r to):=by
 intro pins s σ H Q I h
 refine wpAny_Call_method0_late hbase hline (thn (ho pins s σ H _ I h) ?_)
 rintro v s1 ⟨x,H1,I1,r1,ty,q1⟩
 obtain⟨h1,h2⟩:=Zl6 I1 r1 ty
 exact⟨T,id,pa,slot,hty,h1,h2,Calls.callWith_builtin rfl (PySem.evalArgs_none (hm pins s1 σ H1 x [] v [] Q I1 r1 .nil q1))⟩
theorem Zc1(pa:PlainAttrs T)(slot:Slot T name id)(hty:typeOf (.builtin id)=pure (.type "method_descriptor"))(hm:MtR X id r)(ho:PE X o to)(ha:PA X (e::es) t)
  (hbase:attributeBase o name X.env (eval o X.env)=eval o X.env:=by rfl)
  (hfew:((backTo cpos (starEach (e::es) X.env)).all (fun x=>!x.1)&&(backToKw cpos (keywordEach [] X.env)).all (fun x=>x.1.isSome)
   && decide ((e::es).length+([]:List Keyword).length+(if ([]:List Keyword).isEmpty then 0 else 1)<30))=true:=by rfl)
  (hline:(apos.endLine == cpos.line)=true:=by rfl) (hs:starEach (e::es) X.env=(false,eval e X.env)::starEach es X.env:=by rfl) (hplain:(backTo cpos (starEach es X.env)).any (·.1)=false:=by rfl) :
  PE X (.Call (.Attribute o name apos) (e::es) [] cpos) (tBM X.K T r to t):=by
 intro pins s σ H Q I h
 refine wpAny_Call_method_late hbase hfew hline rfl (thn (ho pins s σ H _ I h) ?_)
 rintro v s1 ⟨x,H1,I1,r1,ty,q1⟩
 obtain⟨h1,h2⟩:=Zl6 I1 r1 ty
 refine⟨T,id,pa,slot,hty,h1,h2,?_⟩
 have hA:=ha cpos pins s1 σ H1 _ I1 q1
 rw[hs]at hA ⊢
 refine Calls.callWith_builtin (by show (false||(backTo cpos (starEach es X.env)).any (·.1))=false;rw[hplain]<;>rfl) (Calls.evalArgs_plain ?_)
 exact thn hA fun us s2 ⟨vs,H2,I2,r2,q2⟩=>hm pins s2 σ H2 x vs v us Q I2 r1 r2 q2
end
def MtM(X:Cx)(id:String)(r:V→List V→Hp→VK→Prop):Prop :=
 ∀ (pins:List (Addr×Obj)) (s:Shared) (σ:St) (H:Hp) (x:V) (xs:List V) (v:Value) (us:List Value) (Q:VK),Inv X pins σ H s→ZC x v→Zy xs us→r x xs H Q →
  wpAny (model X.prog X.w) X.A (call (.builtin id) (v::us)) (EP X pins σ Q) X.xe s
theorem Zy.one:∀ {x:V} {us:List Value},Zy [x] us→∃u,us=[u]∧ZC x u
 | _,_,.cons r .nil=>⟨_,rfl,r⟩
theorem Zy.zero:∀ {us:List Value},Zy [] us→us=[]
 | _,.nil=>rfl
theorem Zy.eraseIdx:∀ {xs:List V} {us:List Value} (i:Nat),Zy xs us→Zy (xs.eraseIdx i) (us.eraseIdx i)
 | _,_,_,.nil=>.nil
 | _,_,0,.cons _ t=>t
 | _,_,i+1,.cons r t=>.cons r (Zy.eraseIdx i t)
theorem Zy.reverse{xs:List V}{us:List Value}(h:Zy xs us):Zy xs.reverse us.reverse:=by
 induction h with
 | nil=>exact .nil
 | cons r t ih=>rw[Qav,Qav];exact Zy.append ih (.cons r .nil)
section
variable {X:Cx} {pins:List (Addr×Obj)} {σ:St} {H:Hp} {s:Shared} {l b:Addr} {xs ys zs:List V}
theorem Inv.lset{its its':List Value}{n:Nat}{f:Array Value→Array Value}{t':Nat}(I:Inv X pins σ H s)(hH:H l=some (.lst xs))
  (e:s.heap.get? l=some { cls:=.type "list",data:=.seq its.toArray n }) (hf:f its.toArray=its'.toArray) (hv:Zy ys its') (hz:ys.length≤sizeLine) :
  Inv X pins σ (upd H l (.lst ys)) { s with heap:=s.heap.update l (Obj.mapSeq f),toks:=t' }:=by
 have q:=PySem.IsL.update e f
 rw[hf]at q
 refine I.write (x:=l) (e:=l) (by rw[hH];exact trivial) (.inl rfl) (fun b' u hb hu=>(Heap.get?_update_other s.heap (Obj.mapSeq f) (Ne.symm hb)).trans hu) ⟨_,q⟩ ?_
 exact⟨hz,its',_,hv,q⟩
theorem Inv.lnew{its:List Value}{t':Nat}(I:Inv X pins σ H s)(hv:Zy ys its)(hz:ys.length≤sizeLine) :
  Inv X pins σ (upd H s.heap.objs.size (.lst ys)) { s with heap:=s.heap.push { cls:=.type "list",data:=.seq its.toArray },toks:=t' } :=
 I.laid (fun _ _ q=>Qo _ q) (Qh _) ⟨hz,its,0,hv,QJ _ rfl⟩
theorem Inv.fresh(I:Inv X pins σ H s):H s.heap.objs.size=none:=I.hok.fresh (Qh _)
theorem Inv.lstM(I:Inv X pins σ H s)(hH:H l=some (.lst xs)):xs.length≤sizeLine∧∃ (its:List Value) (n:Nat),Zy xs its∧xs.length=its.length∧s.heap.get? l=some { cls:=.type "list",data:=.seq its.toArray n }:=by
 obtain⟨z,its,n,r,e⟩:=I.hok l _ hH
 exact⟨z,its,n,r,r.length,e⟩
end
section
variable {X:Cx}
def Zpm:V→List V→Hp→VK→Prop:=fun x vs H Q=>∃l xs y,x=.ref l∧vs=[y]∧H l=some (.lst xs)∧xs.length<sizeLine∧Q .non (upd H l (.lst (xs++[y])))
theorem Zas:MtM X "list.append" Zpm:=by
 intro pins s σ H x vs v us Q I rx rv h
 obtain⟨l,xs,y,rfl,rfl,hH,hz,q⟩:=h
 cases rx
 obtain⟨u,rfl,ru⟩:=rv.one
 obtain⟨z,its,n,r,hl,e⟩:=I.lstM hH
 refine call_meets F.slot_list_append ⟨_,e,rfl⟩ F.entry_list_append (F.args_list_append_2 _ _) (PySem.list_append l its.toArray n u (by rw[Qw];omega)) ⟨e,?_⟩
 refine⟨.non,_,I.lset (its':=its++[u]) hH e (by simp) (r.append (.cons ru .nil)) ?_,rfl,q⟩
 rw[Qg,Qk]
 omega
def rExtend:V→List V→Hp→VK→Prop:=fun x vs H Q=>∃l b xs zs,x=.ref l∧vs=[.ref b]∧H l=some (.lst xs)∧H b=some (.lst zs)∧xs.length+zs.length≤sizeLine∧Q .non (upd H l (.lst (xs++zs)))
def rPop:V→List V→Hp→VK→Prop:=fun x vs H Q=>∃l xs y,x=.ref l∧vs=[]∧H l=some (.lst xs)∧xs[xs.length-1]? = some y∧Q y (upd H l (.lst xs.dropLast))
def rPopAt:V→List V→Hp→VK→Prop:=fun x vs H Q=>∃l xs i k y,x=.ref l∧vs=[.int i]∧H l=some (.lst xs) ∧ -(2 ^ 63)≤i∧i<2 ^ 63∧seqIndex? i xs.length=some k∧xs[k]? = some y∧Q y (upd H l (.lst (xs.eraseIdx k)))
def Zl5:V→List V→Hp→VK→Prop:=fun x vs H Q=>∃l xs,x=.ref l∧vs=[]∧H l=some (.lst xs)∧Q .non (upd H l (.lst xs.reverse))
theorem Zjr:MtM X "list.reverse" Zl5:=by
 intro pins s σ H x vs v us Q I rx rv h
 obtain⟨l,xs,rfl,rfl,hH,q⟩:=h
 cases rx
 have hus:=rv.zero
 subst hus
 obtain⟨z,its,n,r,hl,e⟩:=I.lstM hH
 refine call_meets F.slot_list_reverse ⟨_,e,rfl⟩ F.entry_list_reverse (F.args_list_reverse_1 _) (AutoSeq1.list_reverse_list_0 l its.toArray n (by rw[Qw];omega)) ⟨e,?_⟩
 refine⟨.non,_,I.lset (its':=its.reverse) hH e (by simp) r.reverse ?_,rfl,q⟩
 rw[List.length_reverse]
 omega
def rClear:V→List V→Hp→VK→Prop:=fun x vs H Q=>∃l xs,x=.ref l∧vs=[]∧H l=some (.lst xs)∧Q .non (upd H l (.lst []))
def Ztg:R2:=fun x y H Q=>∃l b xs zs,x=.ref l∧y=.ref b∧H l=some (.lst xs)∧H b=some (.lst zs)∧xs.length+zs.length≤sizeLine∧∀p,H p=none→Q (.ref p) (upd H p (.lst (xs++zs)))
theorem Zqg:OpR X (binaryOp .Add) Ztg:=by
 intro pins s σ H x y v u Q I rx ry h
 obtain⟨l,b,xs,zs,rfl,rfl,hH,hB,hz,q⟩:=h
 cases rx
 cases ry
 obtain⟨z,its,n,r,hl,e⟩:=I.lstM hH
 obtain⟨z2,its2,n2,r2,hl2,e2⟩:=I.lstM hB
 refine PySem.P.add_list e e2 ?_ (by rw[Qw,Qw];omega)
 have ea:its.toArray++its2.toArray=(its++its2).toArray:=by simp
 rw[ea]
 exact⟨.ref _,_,I.lnew (t':=s.toks) (r.append r2) (by rw[Qg];omega),rfl,q _ I.fresh⟩
def rRep:R2:=fun x y H Q=>∃l k xs,x=.ref l∧y=.int k∧H l=some (.lst xs) ∧ -(2 ^ 63)≤k∧k<2 ^ 63∧xs.length*k.toNat≤sizeLine ∧
 ∀p,H p=none→Q (.ref p) (upd H p (.lst (List.replicate k.toNat xs).flatten))
end
section
variable {prog:Program} {w:World} {A:Around} {E:Value→Shared→Prop} {s:Shared}
end
section
variable {X:Cx}
end
end L2
namespace Att
open PySem PySem.W PySem.Calls PyProof.Rows
theorem Zfp{P:Params}{h:Heap}:∀ (ns:List Int) (vs:List Value),WellAll P h vs (ns.map WData.int)→IntsAre vs ns:=by
 intro ns
 induction ns with
 | nil =>
  intro vs w
  rw[Qac]at w
  cases w
  exact .nil
 | cons n ns ih =>
  intro vs w
  rw[Qj]at w
  cases w with
  | cons a b =>
   cases a
   exact .cons _ _ (ih _ b)
theorem Zlz{l:OpenLaw}{n:Nat}(hn:l.most=some n){P:Params}{h:Heap}{args:List WData}{vals:List Value}
  (hpre:l.row.toRowW.claim.pre args=true) (hwl:WellAll P h vals args) :
  ∃a vs ns,vals=[Value.ref a]∧args=[WData.list (ns.map WData.int)]∧h.get? a=some { cls:=.type "list",data:=.seq vs.toArray }∧IntsAre vs ns∧ns.length≤n:=by
 have hsh:WShape.hasAll [] args [.list .int]=true:=(pre_splitW hpre).1
 have hc:l.pre.holds [] { args:=args }=true:=(pre_splitW hpre).2
 obtain⟨d,r,rfl,h1,h2⟩:=hasAllW_cons hsh
 obtain rfl:=hasAllW_nil h2
 obtain⟨xs,rfl,h3⟩:=hasW_list h1
 obtain⟨ns,rfl⟩:=items_int h3
 have hlen:ns.length≤n:=by
  unfold OpenLaw.pre at hc
  have h4:(WTm.not (.lt (.lit (.int (n:Int))) (.len (.arg 0)))).holds [] { args:=[.list (ns.map .int)] }=true:=by
   have h4:=(holds_andW hc).1
   rw[hn]at h4
   exact h4
  have h5:=condW_of h4 (w_not (w_lt w_lit (w_len_list (w_arg rfl))))
  rw[Qa]at h5
  refine Nat.le_of_not_lt fun q=>?_
  have q':(n:Int)<((ns.length:Nat):Int):=by omega
  first
   | (rw[decide_eq_true q']at h5;exact absurd h5 (by decide))
   | (simp at h5;omega)
 cases hwl with
 | cons w1 w2 =>
  cases w2
  cases w1 with
  | list ho hall=>exact⟨_,_,ns,rfl,rfl,ho,Zfp ns _ hall,hlen⟩
theorem Zln(l:OpenLaw)(args:List WData):l.row.toRowW.claim.post args (.bool true) args=true :=
 postW_of (r:=l.row.toRowW) (X:=(true == true))
  (show WShape.has [] (.bool true) .bool=true by first|rfl|decide|simp[WShape.has,WShape.arms,WShape.armsAll])
  (show (WTm.eq .res (.lit (.bool true))).value [] { args:=args,res:=some (.bool true),after:=args }=some (.bool (true == true)) from w_eq_bool (w_res rfl) w_lit) rfl
theorem attach_call{l:OpenLaw}{n:Nat}{q:Program}{loose:List Str}{XP:(Str→Option Value)→Heap→Prop}{YP:World→Heap→Prop}{d:DefRec}
  (hn:l.most=some n) (hdf:d.params.defaults=[])
  (call:∀ (w:World) (s₀ s₁:Shared) (mg mb:Str→Option Value) (fa:Addr) (o:Obj) (pm cd doc:Value) (a:Addr) (vs:List Value) (ns:List Int),
   Ground q loose [] XP w s₀ mg mb s₁.heap→YP w s₁.heap →
   s₁.heap.get? fa=some o→o.data=.func (docDef d.name d.params d.body d.scope pm cd doc)→s₁.heap.CodeRec cd d.name→mg d.name=some (.ref fa) →
   s₁.heap.get? a=some { cls:=.type "list",data:=.seq vs.toArray }→IntsAre vs ns→ns.length≤n→s₁.gens = #[] →
   codeAny (model l.prog w) callerA (.call (.ref fa) ⟨[.ref a],[]⟩) (fun r s'=>r=.ok (.ret (.bool true))∧OldK s₁.heap s'.heap∧s'.os=s₁.os∧AllBare s'.gens) s₁) :
  WalkO q loose XP YP l.row.toRowW d [] (fun f vs=>PySem.call f vs):=by
 intro w s₀ s₁ mg mb G Y fa o pm cd doc dV kV ho hd hcd hD hmg hg args vals as hpre hlay hrd hwl hlo
 obtain rfl:dV=.none:=Dflts.none hD hdf
 obtain rfl:kV=.none:=Dflts.noKw hD
 obtain⟨a,vs,ns,rfl,rfl,hobj,hints,hlen⟩:=Zlz hn hpre hwl
 refine enter_call (codeAny_mono (call w s₀ s₁ mg mb fa o pm cd doc a vs ns G Y ho (fd_plain hd) hcd hmg hobj hints hlen hg) fun r s' hq=>?_)
 obtain⟨rfl,h2,h3,h4⟩:=hq
 exact⟨.inl ⟨.bool true,.bool true,[],rfl,fun _=>rfl,.bool true,Zln l _,fun _=>⟨List.Pairwise.nil,fun _ hm=>(nomatch hm)⟩⟩,h2,h3,h4⟩
section
variable {prog:Program} {w:World} {A:Around} {E:Value→Shared→Prop} {s:Shared} {K:Frag}
def noObjs(h:Heap):Heap:={ h with objs:=#[] }
def ledger(h:Heap)(L d:Addr):List (Addr×Obj):=(List.range h.objs.size).filterMap fun a=>if a=L∨a=d then none else (h.get? a).map fun o=>(a,o)
end
end Att
namespace L2
open PySem PySem.Spec PyProof.Rows
theorem Zhl:∀ {vs:List Value} {ns:List Int},IntsAre vs ns→Zy (ns.map V.int) vs
 | _,_,.nil=>.nil
 | _,_,.cons n t h=>.cons ⟨t,rfl⟩ (Zhl h)
def ZqJ(H:Hp):Prop:=∀b,H b=none∨∃o xs,H b=some (.frz o (.lst xs))
theorem ZnF{P:Program}{w:World}{K:PySem.W.Frag}{mg mb:Str→Option Value}{CX:CXT}{k:Nat}{fa a:Addr}{fd:FuncData}{x:Str}{sp:Sp}{s₁:Shared}{vs:List Value}{ns:List Int}
  (KX:K.In s₁.heap) (hns:s₁.heap.Ns mainGlobals mg) (hb:s₁.heap.Ns builtinsNs mb) (hbb:∀x:Str,x ≠ "__name__"→mb x=bootBuiltins x) (hlim:s₁.heap.NoLimit) (hg:s₁.gens = #[])
  (ha:s₁.heap.get? a=some { cls:=.type "list",data:=.seq vs.toArray }) (hi:IntsAre vs ns) (hl:ns.length≤sizeLine) (hr:ZaG k callerA)
  (F:∀base:Heap,K.In base→base.Ns mainGlobals mg→Zd5 P w K mg base CX k fa fd [x] sp) (hbind:∀ (s:Shared) (u:Value),BindsTo s fd ⟨[u],[]⟩ [(x,u)])
  (hsp:∀H:Hp,ZqJ H→SqL K H a (ns.map V.int)→sp [.ref a] H (fun v _=>v=.bl true) fun _ _ _=>False)
  (hCX:∀H e s',CX [] H s₁ (fun _ _ _=>False) e s'→False) :
  codeAny (model P w) callerA (.call (.ref fa) ⟨[.ref a],[]⟩) (fun r s'=>r=.ok (.ret (.bool true))∧OldK s₁.heap s'.heap∧s'.os=s₁.os∧AllBare s'.gens) s₁:=by
 have rv:=Zhl hi
 have lenV:=hi.length
 have core:∀H:Hp,ZqJ H→SqL K H a (ns.map V.int)→HOk P w H s₁.heap→(∀b,H b≠none→b=a)→(H a≠none→K.lookup a=none) →
   codeAny (model P w) callerA (.call (.ref fa) ⟨[.ref a],[]⟩) (fun r s'=>r=.ok (.ret (.bool true))∧OldK s₁.heap s'.heap∧s'.os=s₁.os∧AllBare s'.gens) s₁:=by
  intro H hO hS hok hA hK
  have base_of:∀ {b:Addr} {o:Obj},s₁.heap.get? b=some o→H b=none→(Zib s₁.heap H).get? b=some o:=fun e n=>ZmM e n
  have noA:∀ {b:Addr} {o:Obj} {es:Array DictEntry} {ep:Nat},s₁.heap.get? b=some o→o.data=.dict es ep→H b=none:=fun {b o es ep} e d=>by
   cases q:H b with
   | none=>rfl
   | some u =>
    have e':b=a:=hA b (by rw[q];simp)
    subst e'
    rw[ha]at e;cases e
    have d':Data.seq vs.toArray _=Data.dict es ep:=d
    cases d'
  have nsK:∀ {b:Addr} {m:Str→Option Value},s₁.heap.Ns b m→(Zib s₁.heap H).Ns b m:=fun {b m} ⟨o,es,ep,e,d,r⟩=>⟨o,es,ep,base_of e (noA e d),d,r⟩
  have hKb:K.In (Zib s₁.heap H):=fun b o e=>base_of (KX b o e) (by
   cases q:H b with
   | none=>rfl
   | some u =>
    have e':b=a:=hA b (by rw[q];simp)
    subst e'
    rw[hK (by rw[q];simp)]at e;cases e)
  have hM:Mod K mg (Zib s₁.heap H):=⟨hKb,nsK hns,⟨mb,nsK hb,hbb⟩,let ⟨mc,h1,h2⟩:=hlim;⟨mc,nsK h1,h2⟩⟩
  have e0:ZjE P w K mg (Zib s₁.heap H) callerA [] s₁ H:=⟨rfl,hM,fun b o e=>ZpF e,Nat.le_of_eq (Zlr _ _),trivial,fun b hb=>absurd (show b∈([]:List Addr) from hb) (by simp),hok,.of_eq hg⟩
  refine codeAny_mono ((F _ hKb (nsK hns)).run callerA [] s₁ H ⟨[.ref a],[]⟩ [.ref a] [.ref a] _ _ hr e0 (hbind s₁ (.ref a)) (.cons rfl .nil) (hsp H hO hS)) fun r s' h=>?_
  cases r with
  | error e=>exact(hCX H e s' h).elim
  | ok fl =>
   cases fl with
   | next=>exact False.elim h
   | brk=>exact False.elim h
   | cont=>exact False.elim h
   | ret u =>
    obtain⟨v,H',os,bare,un,hok',r',q⟩:=h
    have q':v=.bl true:=q
    subst q'
    obtain rfl:u=Value.bool true:=r'
    refine⟨rfl,OldK.of_keep fun b o e=>?_,os,bare⟩
    cases q:H b with
    | none=>exact un.keep b o e q (by intro z;exact absurd (show b∈([]:List Addr) from z) (by simp)) (by simp)
    | some u =>
     rcases hO b with z|⟨ob,xs,z⟩
     ·rw[q]at z;cases z
     ·have z2:=un.frzs b ob _ z
      obtain⟨e1,_⟩:=hok b _ z
      obtain⟨e2,_⟩:=hok' b _ z2
      rw[e]at e1;cases e1
      exact e2
 cases hk:K.lookup a with
 | some o =>
  have e:=KX a o hk
  rw[ha]at e
  cases e
  refine core (fun _=>none) (fun _=>.inl rfl) (.inr ⟨_,vs.toArray,_,hk,rfl,rfl,rfl,by rw[Qw,lenV];exact hl,by simpa using rv⟩) (fun b u z=>by have z':(none:Option HO)=some u:=z;cases z') (fun b z=>absurd rfl z) fun z=>absurd rfl z
 | none =>
  refine core (fun b=>if b=a then some (.frz { cls:=.type "list",data:=.seq vs.toArray } (.lst (ns.map V.int))) else none) (fun b=>?_) (.inl (.inr ⟨{ cls:=.type "list",data:=.seq vs.toArray },if_pos rfl⟩)) (fun b u z=>?_) (fun b z=>?_) fun _=>hk
  ·by_cases hb:b=a
   ·exact .inr ⟨_,_,if_pos hb⟩
   ·exact .inl (if_neg hb)
  ·by_cases hb:b=a
   ·have z':=(if_pos hb).symm.trans z
    cases z'
    subst hb
    exact⟨ha,by rw[Qa];exact hl,vs,_,rv,ha⟩
   ·have z':=(if_neg hb).symm.trans z
    cases z'
  ·by_cases hb:b=a
   ·exact hb
   ·exact absurd (if_neg hb) z
abbrev KOf{K:PySem.W.Frag}{h:Heap}(_:K.In h):PySem.W.Frag:=K
theorem walk_of{l:PySem.W.OpenLaw}{n k:Nat}{q:Program}{loose:List Str}{XP:(Str→Option Value)→Heap→Prop}{YP:World→Heap→Prop}{d:DefRec}{K:Params→PySem.W.Frag}{CX:World→CXT}{sp:World→Sp}{x:Str}
  (hn:l.most=some n) (hn2:n≤sizeLine) (hdf:d.params.defaults=[]) (hr:ZaG k callerA)
  (hY:∀ (w:World) (h:Heap),YP w h→(K w.params).In h)
  (F:∀ (w:World) (mg:Str→Option Value) (fa:Addr) (h:Heap),(K w.params).In h→h.Ns mainGlobals mg→mg d.name=some (.ref fa) →
   ∃fd:FuncData,(∀ (s:Shared) (u:Value),BindsTo s fd ⟨[u],[]⟩ [(x,u)]) ∧
    ∀base:Heap,(K w.params).In base→base.Ns mainGlobals mg→Zd5 l.prog w (K w.params) mg base (CX w) k fa fd [x] (sp w))
  (hsp:∀ (w:World) (H:Hp) (a:Addr) (ns:List Int),ns.length≤n→ZqJ H→SqL (K w.params) H a (ns.map V.int)→sp w [.ref a] H (fun v _=>v=.bl true) fun _ _ _=>False)
  (hCX:∀ (w:World) (H:Hp) (s:Shared) (e:Value) (s':Shared),CX w [] H s (fun _ _ _=>False) e s'→False) :
  PySem.W.WalkO q loose XP YP l.row.toRowW d [] (fun f vs=>PySem.call f vs):=by
 refine Att.attach_call hn hdf fun w s₀ s₁ mg mb fa o pm cd doc a vs ns G Y ho hd hcd hmg hobj hints hlen hg=>?_
 have KX:=hY w _ Y
 obtain⟨fd,hb,hF⟩:=F w mg fa _ KX G.T.g hmg
 exact ZnF KX G.T.g G.T.b G.T.builtins G.T.nolimit hg hobj hints (QP hlen hn2) hr hF hb (fun H hO hS=>hsp w H a ns hlen hO hS) fun H e s'=>hCX w H s₁ e s'
def ZX(s:Stmt)(j:Nat):Stmt:=match s with
 | .ClassDef _ _ _ body _ _ _ _ _ _ _=>body.getD j (.Pass ⟨0,0,0,0⟩)
 | _=>.Pass ⟨0,0,0,0⟩
def Zp(s:Stmt):Arguments:=match s with
 | .FunctionDef _ a _ _ _ _ _ _ _ _=>a
 | _=>{ posonlyargs:=[],args:=[],vararg:=none,kwonlyargs:=[],kw_defaults:=[],kwarg:=none,defaults:=[] }
def Zl(s:Stmt):List Stmt:=match s with
 | .FunctionDef _ _ b _ _ _ _ _ _ _=>b
 | _=>[]
def Zg(s:Stmt):Scope:=match s with
 | .FunctionDef _ _ _ _ _ _ sc _ _ _=>sc
 | _=>{ kind:=.function,names:=[],isGenerator:=false,isCoroutine:=false }
abbrev CX0:CXT:=fun _ _ _ _ _ _=>False
abbrev E0:XK:=fun _ _ _=>False
theorem Zky{X:Cx}:Zed CX0 X E0:=fun _ _ _ _ _ _ _ h=>h.elim
structure Fun (K:PySem.W.Frag) (x qual:Str) (st:Stmt) (f:Addr) (fd:FuncData):Prop where
 ex:∃ (oc:Value) (od:Option Addr) (kV doc pm:Value) (an:Option Addr) (cdv ct:Value) (osl:Array (Option Value)),
  fd=PySem.W.fnOf x qual (Zp st) (Zl st) (Zg st) .none kV doc pm an cdv ct∧K.lookup f=some ⟨oc,od,.func fd,osl⟩∧PySem.W.codeIn K cdv qual=true
 kp:PySem.W.keepIn K (.ref f)=true
section
variable {P:Program} {w:World} {K:PySem.W.Frag} {mg:Str→Option Value} {base:Heap}
theorem Fun.ok{x qual:Str}{st:Stmt}{f:Addr}{fd:FuncData}{N ps:List Str}{k:Nat}{sp:Sp}(F:Fun K x qual st f fd)(S:Zq N ps (Zg st))(len:∀vs H Q E,sp vs H Q E→vs.length=ps.length)
  (hbody:∀ (cdv:Value) (A:Around) (outer:List Env) (s:Shared) (H:Hp) (vs:List V) (Q:VK) (E:XK),ZaG k (A.deeper (envOfC qual (Zg st) s.heap.objs.size f cdv))→sp vs H Q E →
   ∃t,PSs (ZhB CX0 P w K mg base N qual (Zg st) f cdv A outer s H E).nox (Zl st) t∧t { nx:=fun _ H'=>Q .non H',rt:=Q } (Zdq N vs) H):Zd5 P w K mg base CX0 (k+1) f fd ps sp:=by
 obtain⟨oc,od,kV,doc,pm,an,cdv,ct,osl,rfl,lk,hcd⟩:=F.ex
 refine Zso lk hcd S len fun A outer s H vs Q E hr hsp=>?_
 obtain⟨t,h,q⟩:=hbody cdv A outer s H vs Q E hr hsp
 exact⟨t,h.nox,q⟩
theorem Fun.binds{x qual:Str}{st:Stmt}{f:Addr}{fd:FuncData}{ps:List Str}(F:Fun K x qual st f fd)
  (h:∀ (kV doc pm:Value) (an:Option Addr) (cdv ct:Value) (us:List Value),us.length=ps.length→bindArgs (PySem.W.fnOf x qual (Zp st) (Zl st) (Zg st) .none kV doc pm an cdv ct) ⟨us,[]⟩=pure (ps.zip us)):Zci K fd ps []:=by
 obtain⟨oc,od,kV,doc,pm,an,cdv,ct,osl,rfl,lk,hcd⟩:=F.ex
 exact .all (h kV doc pm an cdv ct)
theorem Z0{x qual:Str}{st:Stmt}{f:Addr}{oc:Value}{od an:Option Addr}{osl:Array (Option Value)}{kV doc pm cdv ct:Value}(l:K.lookup f=some ⟨oc,od,.func (PySem.W.fnOf x qual (Zp st) (Zl st) (Zg st) .none kV doc pm an cdv ct),osl⟩)
  (c:PySem.W.codeIn K cdv qual=true) (k:PySem.W.keepIn K (.ref f)=true):Fun K x qual st f (PySem.W.fnOf x qual (Zp st) (Zl st) (Zg st) .none kV doc pm an cdv ct):=⟨⟨oc,od,kV,doc,pm,an,cdv,ct,osl,rfl,l,c⟩,k⟩
end
theorem Znj{A:Around}{k:Nat}(hr:ZaG k A):A.units+1<cLine:=Qar (Nat.add_le_add_left (by decide:1≤64) _) hr.units
theorem ZI{n:Nat}(h:n≤1000):n<sizeLine:=Qar h (by decide)
section
variable {X:Cx}
theorem pv(i:Nat){x:Str}{pos:Pos}(hN:X.N[i]? = some x:=by rfl)(hv:Vis X.env.scope x:=by first|exact Or.inl rfl|exact Or.inr (Or.inl rfl)|exact Or.inr (Or.inr rfl))(hd:(x == ("__debug__" : Str))=false:=by decide)
  (hcd:(x == ("__classdict__" : Str))=false:=by decide):PE X (.Name x pos) (ZoE i):=Zju hN hv hd hcd
end
theorem ZbF{A B:Prop}(h:B):if false=true then A else B:=by
 rw[if_neg QC]
 exact h
theorem ZhD{A B:Prop}(h:A):if true=true then A else B:=by
 rw[if_pos rfl]
 exact h
theorem ZaV{c A B:Prop}[Decidable c](h1:c→A)(h2:¬ c→B):if c then A else B:=by
 by_cases h:c
 ·rw[if_pos h]
  exact h1 h
 ·rw[if_neg h]
  exact h2 h
theorem ZnT{c A B:Prop}[Decidable c](hc:c)(h:B):if (!decide c)=true then A else B:=by
 rw[decide_eq_true hc]
 exact ZbF h
def Zu(H H':Hp):Prop:=∀b o,H b=some o→H' b=some o
theorem Zu.refl(H:Hp):Zu H H:=fun _ _ h=>h
theorem Zu.trans{H H1 H2:Hp}(a:Zu H H1)(b:Zu H1 H2):Zu H H2:=fun c o h=>b c o (a c o h)
theorem Zu.free{H H':Hp}(e:Zu H H'){l:Addr}(h:H' l=Option.none):H l=Option.none:=by
 cases q:H l with
 | none=>rfl
 | some o =>
  rw[e l o q]at h
  cases h
theorem Zu.seq{K:PySem.W.Frag}{H H':Hp}{a:Addr}{xs:List V}(e:Zu H H')(h:SqL K H a xs):SqL K H' a xs:=by
 rcases h with(h|⟨o,h⟩)|h
 ·exact .inl (.inl (e _ _ h))
 ·exact .inl (.inr ⟨o,e _ _ h⟩)
 ·exact .inr h
def ZaR(cells:List (Str×Addr)):List (Str×NameKind)→List (Str×Addr)→List (Str×Addr)
 | [],acc=>acc
 | (n,k)::r,acc=>if k == .free then ZaR cells r ((n,(cells.lookup n).getD 0)::acc) else ZaR cells r acc
theorem ZgC{sc:Scope}{env:Env}(h:∀y∈sc.names,y.2=.free→∃c,env.cells.lookup y.1=some c) :
  closureFor sc env=pure (ZaR env.cells sc.names []):=by
 have go:∀ (names:List (Str×NameKind)) (acc:List (Str×Addr)),(∀y∈names,y.2=.free→∃c,env.cells.lookup y.1=some c) →
   (forIn names acc fun (x:Str×NameKind) (r:List (Str×Addr))=>if (x.2 == NameKind.free)=true then (do let c ← cellOf env x.1;pure (ForInStep.yield ((x.1,c)::r))) else pure (ForInStep.yield r):Sem (List (Str×Addr)))=pure (ZaR env.cells names acc):=by
  intro names
  induction names with
  | nil=>intro acc _;rfl
  | cons y r ih =>
   intro acc hy
   obtain⟨n,k⟩:=y
   rw[List.forIn_cons]
   cases hk:(k == NameKind.free) with
   | false =>
    have e1:ZaR env.cells ((n,k)::r) acc=ZaR env.cells r acc:=by
     show (if (k == NameKind.free)=true then _ else _)=_
     rw[hk];rfl
    rw[e1,← ih acc fun z hz=>hy z (Qu _ hz)]
    simp only[hk,Bool.false_eq_true,if_false,pure_bind]
   | true =>
    have hk':k=.free:=by simpa using hk
    obtain⟨c,hc⟩:=hy (n,k) Q4 hk'
    have e1:ZaR env.cells ((n,k)::r) acc=ZaR env.cells r ((n,c)::acc):=by
     show (if (k == NameKind.free)=true then _ else _)=_
     rw[hk,hc];rfl
    have e2:cellOf env n=pure c:=by
     unfold cellOf
     rw[hc]
    rw[e1,← ih ((n,c)::acc) fun z hz=>hy z (Qu _ hz)]
    simp only[hk,if_true,e2,pure_bind]
 have q:=go sc.names [] h
 unfold closureFor
 first
  | (rw[show (forIn sc.names ([]:List (Str×Addr)) _:Sem (List (Str×Addr)))=pure (ZaR env.cells sc.names []) from q];rfl)
  | (simp only[bind_pure];exact q)
  | exact q
theorem ZdO(cells:List (Str×Addr)):∀ (names:List (Str×NameKind)) (acc:List (Str×Addr)) (x:Str) (c:Addr),(ZaR cells names acc).lookup x=some c →
  (∃y∈names,y.1=x∧y.2=.free∧c=(cells.lookup x).getD 0)∨acc.lookup x=some c
 | [],acc,x,c,h=>.inr h
 | (n,k)::r,acc,x,c,h=>by
  by_cases hk:(k == NameKind.free)=true
  ·have e:ZaR cells ((n,k)::r) acc=ZaR cells r ((n,(cells.lookup n).getD 0)::acc):=by
    show (if (k == NameKind.free)=true then _ else _)=_
    rw[if_pos hk]
   rw[e]at h
   rcases ZdO cells r _ x c h with⟨y,hy,q⟩|q
   ·exact .inl ⟨y,Qu _ hy,q⟩
   ·rw[QaA]at q
    by_cases hx:(x == n)=true
    ·rw[hx]at q
     have hx':x=n:=by simpa using hx
     subst hx'
     exact .inl ⟨(x,k),Q4,rfl,by simpa using hk,(Qp q).symm⟩
    ·have hx':(x == n)=false:=by simpa using hx
     rw[hx']at q
     exact .inr q
  ·have e:ZaR cells ((n,k)::r) acc=ZaR cells r acc:=by
    show (if (k == NameKind.free)=true then _ else _)=_
    rw[if_neg hk]
   rw[e]at h
   rcases ZdO cells r _ x c h with⟨y,hy,q⟩|q
   ·exact .inl ⟨y,Qu _ hy,q⟩
   ·exact .inr q
theorem ZfW(cells:List (Str×Addr)):∀ (names:List (Str×NameKind)) (acc:List (Str×Addr)) (x:Str),((∃y∈names,y.1=x∧y.2=.free)∨∃c,acc.lookup x=some c) →
  ∃c,(ZaR cells names acc).lookup x=some c
 | [],acc,x,h=>by
  rcases h with⟨y,hy,_⟩|h
  ·cases hy
  ·exact h
 | (n,k)::r,acc,x,h=>by
  by_cases hk:(k == NameKind.free)=true
  ·have e:ZaR cells ((n,k)::r) acc=ZaR cells r ((n,(cells.lookup n).getD 0)::acc):=by
    show (if (k == NameKind.free)=true then _ else _)=_
    rw[if_pos hk]
   rw[e]
   refine ZfW cells r _ x ?_
   by_cases hx:(x == n)=true
   ·exact .inr ⟨_,by rw[QaA,hx]⟩
   ·have hx':(x == n)=false:=by simpa using hx
    rcases h with⟨y,hy,q⟩|⟨c,q⟩
    ·rcases QI.mp hy with rfl|hy
     ·exact absurd (by simpa using q.1.symm) hx
     ·exact .inl ⟨y,hy,q⟩
    ·exact .inr ⟨c,by rw[QaA,hx'];exact q⟩
  ·have e:ZaR cells ((n,k)::r) acc=ZaR cells r acc:=by
    show (if (k == NameKind.free)=true then _ else _)=_
    rw[if_neg hk]
   rw[e]
   refine ZfW cells r _ x ?_
   rcases h with⟨y,hy,q⟩|h
   ·rcases QI.mp hy with rfl|hy
    ·exact absurd (by simpa using q.2) hk
    ·exact .inl ⟨y,hy,q⟩
   ·exact .inr h
structure ZY (N N':List Str) (o c:Scope):Prop where
 kind:c.kind=.function
 okind:o.kind=.function
 nocell:∀y∈c.names,y.2≠.cell
 loc:∀y∈c.names,y.2=.local→c.names.lookup y.1=some .local
 free:∀y∈c.names,y.2=.free→c.names.lookup y.1=some .free∧(o.names.lookup y.1=some .cell∨o.names.lookup y.1=some .free)
 len:N.length≤N'.length
 same:∀i∈List.range N.length,∀x∈N'[i]?,c.names.lookup x=some .local∨c.names.lookup x=some .free→c.names.lookup x=some .free∧N[i]? = some x
 nd:N'.Nodup
def ZaQ(X:Cx)(c:Scope)(N':List Str)(C:Addr)(s:Shared)(H:Hp)(fp:List Addr):Cx :=
 { X with N:=N',s₀:=s,H₀:=H,env:=compEnvC c (ZaR X.env.cells c.names []) C X.env,outer:=X.stack,stack:=X.stack,ex:=fp,fn:=fun _=>false,pn:=[],xe:=fun _ _=>False }
theorem ZdC{env:Env}(hf:env.scope.kind=.function):∀ (names:List (Str×NameKind)) (x:Str),
  (names.map fun (p:Str×NameKind)=>if (p.2 == NameKind.free&&env.scope.kind == .function&&env.kindOf p.1 == some .cell)=true then (p.1,NameKind.cell) else (p.1,p.2)).lookup x =
   match names.lookup x with
   | some .free=>if env.kindOf x=some .cell then some .cell else some .free
   | k=>k
 | [],x=>rfl
 | (n,k)::r,x=>by
  have ih:=ZdC hf r x
  rw[Qj]
  by_cases hx:(x == n)=true
  ·have hx':x=n:=by simpa using hx
   subst hx'
   have e2:List.lookup x ((x,k)::r)=some k:=by rw[QaA];simp
   rw[e2]
   by_cases hk:k=.free
   ·subst hk
    by_cases hc:env.kindOf x=some .cell
    ·simp[List.lookup_cons,hf,hc]
    ·simp[List.lookup_cons,hf,hc]
   ·have hk':(k == NameKind.free)=false:=by simpa using hk
    rw[hk']
    simp only[Bool.false_and,Bool.false_eq_true,if_false,List.lookup_cons,beq_self_eq_true]
    all_goals (cases k<;>first|rfl|exact absurd rfl hk)
  ·have hx':(x == n)=false:=by simpa using hx
   have e2:List.lookup x ((n,k)::r)=List.lookup x r:=by rw[QaA,hx']
   rw[e2,← ih]
   by_cases hc:(k == NameKind.free&&env.scope.kind == .function&&env.kindOf n == some .cell)=true
   ·simp only[hc,if_true,List.lookup_cons,hx']
   ·simp only[hc,if_false,List.lookup_cons,hx',Bool.false_eq_true]
section
variable {X:Cx} {N N':List Str} {o c:Scope}
theorem ZcK(S:ZY N N' o c)(ho:X.env.scope=o)(cl:List (Str×Addr))(C:Addr)(x:Str):(compEnvC c cl C X.env).kindOf x =
  match c.names.lookup x with
  | some .free=>if X.env.kindOf x=some .cell then some .cell else some .free
  | k=>k:=ZdC (env:=X.env) (by rw[ho];exact S.okind) c.names x
theorem Zdh{names:List (Str×NameKind)}{x:Str}{k:NameKind}(h:names.lookup x=some k):(x,k)∈names:=Qah h
theorem Zca(S:ZY N N' o c)(ho:X.env.scope=o)(ok:X.Ok){x:Str}{a:Addr}(h:(ZaR X.env.cells c.names []).lookup x=some a) :
  X.env.cells.lookup x=some a∧c.names.lookup x=some .free:=by
 rcases ZdO _ _ _ _ _ h with⟨y,hy,rfl,hf,e⟩|q
 ·have hk:=S.free y hy hf
  have hv:X.env.kindOf y.1=some .cell∨X.env.kindOf y.1=some .free:=by
   show X.env.scope.names.lookup y.1=_∨X.env.scope.names.lookup y.1=_
   rw[ho];exact hk.2
  obtain⟨b,hb⟩:=ok.has y.1 hv
  rw[hb]at e
  exact⟨by rw[hb,e];rfl,hk.1⟩
 ·cases q
theorem ZiO(S:ZY N N' o c)(ho:X.env.scope=o)(ok:X.Ok){x:Str}(h:c.names.lookup x=some .free):∃a,(ZaR X.env.cells c.names []).lookup x=some a∧X.env.cells.lookup x=some a:=by
 obtain⟨a,ha⟩:=ZfW X.env.cells c.names [] x (.inl ⟨(x,.free),Zdh h,rfl,rfl⟩)
 exact⟨a,ha,(Zca S ho ok ha).1⟩
theorem Zo5(S:ZY N N' o c)(ho:X.env.scope=o){pins:List (Addr×Obj)}{σ:St}{H:Hp}{s:Shared}{fp:List Addr}(I:Inv X pins σ H s)
  (hf:∀b∈fp,ZfY X pins H b) (ht:∀b∈fp,b<s.heap.objs.size):(ZaQ X c N' s.heap.objs.size s H fp).Ok where
 mod:=I.ok.mod
 kind:=S.kind
 glob:=I.ok.glob
 blt:=I.ok.blt
 above:=Qh _
 inj:=fun x y a h1 h2=>I.ok.inj x y a (Zca S ho I.ok h1).1 (Zca S ho I.ok h2).1
 has:=fun x hx=>by
  have e:=ZcK (X:=X) S ho (ZaR X.env.cells c.names []) s.heap.objs.size x
  have hx':(compEnvC c (ZaR X.env.cells c.names []) s.heap.objs.size X.env).kindOf x=some .cell∨(compEnvC c (ZaR X.env.cells c.names []) s.heap.objs.size X.env).kindOf x=some .free:=hx
  rw[e]at hx'
  cases q:c.names.lookup x with
  | none=>rw[q]at hx';rcases hx' with z|z<;>cases z
  | some k =>
   by_cases hk:k=.free
   ·subst hk
    obtain⟨a,ha,_⟩:=ZiO S ho I.ok q
    exact⟨a,ha⟩
   ·rw[q]at hx'
    have hc:k=.cell:=by
     cases k<;>first|rfl|exact absurd rfl hk|(rcases hx' with z|z<;>cases z)
    subst hc
    exact absurd rfl (S.nocell _ (Zdh q))
 cab:=fun x a h=>by cases (show false=true from h)
 hd:=I.ok.hd
 frames:=I.ok.frames
 stk:=.inl rfl
 exf:=fun b hb=>⟨QU (ht b hb),fun x a h=>(hf b hb).2.2.2.2.1 x a (Zca S ho I.ok h).1⟩
 bs:=fun b ob e=>I.bs b ob e
 bsz:=QP I.ok.bsz I.sz
 noex:=fun b ob e hb=>by
  rcases(hf b hb).2.2.2.1 with z|z
  ·exact I.ok.noex b ob e z
  ·exact absurd (QG (QB e) (QP I.ok.bsz z)) (Qau _)
 exfs:=fun b hb hb'=>by
  rcases QI.mp (I.stkSub b hb') with z|z
  ·exact(hf b hb).2.1 z
  ·exact(hf b hb).2.2.1 z
 funs:=I.stack
 frf:=I.stkFree
theorem Zmf(S:ZY N N' o c)(hN:X.N=N)(ho:X.env.scope=o){pins:List (Addr×Obj)}{σ:St}{H:Hp}{s:Shared}{fp:List Addr}{h₁:Heap}{tk:Nat}{m₀:Str→Option Value}(I:Inv X pins σ H s)
  (hf:∀b∈fp,ZfY X pins H b) (ht:∀b∈fp,b<s.heap.objs.size) (hns:h₁.Ns s.heap.objs.size m₀) (hk:∀b ob,s.heap.get? b=some ob→h₁.get? b=some ob) :
  Inv (ZaQ X c N' s.heap.objs.size s H fp) [] (σ++List.replicate (N'.length-N.length) none) H { s with heap:=h₁,toks:=tk } where
 ok:=Zo5 S ho I hf ht
 os:=rfl
 bare:=I.bare
 base:=Un.kept hk
 loc:=by
  refine⟨m₀,hns,fun i x v e1 e2 e3=>?_⟩
  obtain⟨m,hn,hl⟩:=I.loc
  have hlen:σ.length=N.length:=by rw[I.len,hN]
  have hi:i<σ.length:=by
   by_cases hi:i<σ.length
   ·exact hi
   ·rw[QN (by omega),List.getElem?_replicate]at e2
    split at e2<;>cases e2
  have e2':σ[i]? = some (some v):=by rw[QS hi]at e2;exact e2
  have kd:=ZcK (X:=X) S ho (ZaR X.env.cells c.names []) s.heap.objs.size x
  have vis:c.names.lookup x=some .local∨c.names.lookup x=some .free:=by
   have e3':(compEnvC c (ZaR X.env.cells c.names []) s.heap.objs.size X.env).kindOf x=some .local∨(compEnvC c (ZaR X.env.cells c.names []) s.heap.objs.size X.env).kindOf x=some .cell∨(compEnvC c (ZaR X.env.cells c.names []) s.heap.objs.size X.env).kindOf x=some .free:=e3
   rw[kd]at e3'
   cases q:c.names.lookup x with
   | none=>rw[q]at e3';rcases e3' with z|z|z<;>cases z
   | some k =>
    cases k with
    | «local»=>exact .inl rfl
    | free=>exact .inr rfl
    | cell=>exact absurd rfl (S.nocell _ (Zdh q))
    | _=>rw[q]at e3';rcases e3' with z|z|z<;>cases z
  obtain⟨hfr,hNi⟩:=S.same i (QX.mpr (by omega)) x (by rw[show N'[i]? = some x from e1];rfl) vis
  have hok:X.env.kindOf x=some .cell∨X.env.kindOf x=some .free:=by
   show X.env.scope.names.lookup x=_∨X.env.scope.names.lookup x=_
   rw[ho];exact(S.free _ (Zdh hfr) rfl).2
  obtain⟨u,r,l⟩:=hl i x v (by rw[hN];exact hNi) e2' (.inr hok)
  refine⟨u,r,.inr ⟨?_,?_⟩⟩
  ·show (compEnvC c (ZaR X.env.cells c.names []) s.heap.objs.size X.env).kindOf x=some .cell∨(compEnvC c (ZaR X.env.cells c.names []) s.heap.objs.size X.env).kindOf x=some .free
   rw[kd,hfr]
   show (if X.env.kindOf x=some .cell then some NameKind.cell else some NameKind.free)=some .cell∨(if X.env.kindOf x=some .cell then some NameKind.cell else some NameKind.free)=some .free
   by_cases q:X.env.kindOf x=some .cell
   ·rw[if_pos q];exact .inl rfl
   ·rw[if_neg q];exact .inr rfl
  ·obtain⟨a,ha,ha'⟩:=ZiO S ho I.ok hfr
   refine⟨a,ha,?_⟩
   rcases l with⟨z,_⟩|⟨_,a',e,ob,hob,hd⟩
   ·rcases hok with q|q<;>rw[q]at z<;>cases z
   ·rw[ha']at e;cases e
    exact⟨ob,hk _ _ hob,hd⟩
 cell:=fun x a h=>by
  obtain⟨v,ob,e,d⟩:=I.cell x a (Zca S ho I.ok h).1
  exact⟨v,ob,hk _ _ e,d⟩
 free:=I.hok.fresh (Qh _)
 freeC:=fun x a h=>I.freeC x a (Zca S ho I.ok h).1
 pin:=fun p hp=>absurd (show p∈([]:List (Addr×Obj)) from hp) (by simp)
 hok:=I.hok.kept hk
 len:=by
  have hlen:σ.length=N.length:=by rw[I.len,hN]
  have:=S.len
  show (σ++List.replicate (N'.length-N.length) none).length=N'.length
  rw[Qg,List.length_replicate]
  omega
end
abbrev Zki(ifs:List Expr)(env:Env):Sem Bool :=
 forIn ifs true fun k r=>if r=true then do let ok ← isTrue k env (eval k env);pure (ForInStep.yield ok) else pure (ForInStep.yield r)
def PTs(X:Cx)(ifs:List Expr)(t:TT):Prop :=
 ∀ (pins:List (Addr×Obj)) (s:Shared) (σ:St) (H:Hp) (Q:Bool→Hp→Prop),Inv X pins σ H s→t σ H Q→wpAny (model X.prog X.w) X.A (Zki ifs X.env) (TP X pins σ Q) X.xe s
def Zic:TT:=fun _ H Q=>Q true H
theorem ZaH{X:Cx}:PTs X [] Zic:=fun _ _ _ H _ I h=>wpAny_tests_nil ⟨H,I,h⟩
section
variable {prog:Program} {w:World} {A:Around} {R:Result→Shared→Prop} {s:Shared}
theorem Zh0{elt target iter:Expr}{ifs:List Expr}{scope:Scope}{pos:Pos}{it acc:Value}{env:Env}{E:Value→Shared→Prop}(I:Nat→Shared→Prop)
  (hE:∀e s',E e s'→False)
  (turn:∀n s,I n s→wpAny (model prog w) A (pyNext it) (fun r s₁=>match r with
   | none=>R (.ok .next) s₁
   | some v=>wpAny (model prog w) A (letOwnedTupleGo target it v) (fun _ s₀=>wpAny (model prog w) A (assign target env v) (fun _ s₂ =>
     wpAny (model prog w) A (Zki ifs env) (fun ok s₃ =>
      if ok=true then wpAny (model prog w) A (eval elt env) (fun x s₄ =>
       wpAny (model prog w) A (call (.builtin "list.append") [acc,x]) (fun _ s₅=>∃m,m<n∧I m s₅) E s₄) E s₃
      else ∃m,m<n∧I m s₃) E s₂) E s₀) E s₁) E s)
  (n:Nat) (h:I n s):codeAny (model prog w) A (.compLoop (.ListComp elt [⟨target,iter,ifs,0⟩] scope pos) 0 it acc env) R s:=by
 have go:∀ {α:Type} {t:Sem α} {Q:α→Shared→Prop} {s:Shared},wpAny (model prog w) A t Q E s→wpAny (model prog w) A t Q (notedBy (model prog w) A env fun e s'=>R (.error e) s') s :=
  fun {α t Q s} q=>wpAny_mono q (fun _ _ z=>z) fun e s' z=>(hE e s' z).elim
 refine codeAny_loop rfl I (fun n s hI=>?_) n h
 show wpAny _ A ((compTurn (.ListComp elt [⟨target,iter,ifs,0⟩] scope pos) 0 it acc env).onRaise (fun x=>do noteFrame x env;theTreesLotGoes x)) _ _ s
 refine wpAny_noted ?_
 rw[compTurn_list]
 refine wpAny_bind (wpAny_standAt (wpAny_bind (thn (go (turn n s hI)) fun r s₁ h₁=>?_)))
 cases r with
 | none=>exact wpAny_pure h₁
 | some v =>
  refine wpAny_bind (thn (go h₁) fun _ s₀ h₀=>wpAny_bind (thn (go h₀) fun _ s₂ h₂=>wpAny_bind (thn (go h₂) fun ok s₃ h₃=>?_)))
  cases ok with
  | false=>exact wpAny_pure ⟨rfl,h₃⟩
  | true =>
   exact wpAny_bind (wpAny_bind (thn (go h₃) fun x s₄ h₄=>wpAny_bind (thn (go h₄) fun _ s₅ h₅=>wpAny_pure (wpAny_pure ⟨rfl,h₅⟩))))
end
def Zf2(J:It)(D:Addr)(k:Nat)(σ:St)(H1:Hp)(g:TG)(tc:TT)(te:TE)(Q:VK):Prop :=
 ∃W:Nat→Nat→List V→St→Hp→Prop,(∃m,W 0 m [] (σ++List.replicate k none) (upd H1 D (.lst []))) ∧
  ∀i m ys σ2 H2,W i m ys σ2 H2→(J.stop i H2∧Q (.ref D) H2) ∨
   (J.go i H2∧∃N:List V→St→Hp→Prop,(∀ys' σ' H',N ys' σ' H'→∃m',m'<m∧W (i+1) m' ys' σ' H')∧∀x H3,J.yld i H2 x H3→g x σ2 H3 fun σ4 H4=>tc σ4 H4 fun b H5 =>
    if b=true then te σ4 H5 fun y H6=>H6 D=some (.lst ys)∧ys.length<sizeLine∧N (ys++[y]) σ4 (upd H6 D (.lst (ys++[y]))) else N ys σ4 H5)
def Zm9(n:Nat)(wi:TI)(g:TG)(tc:TT)(te:TE):TE:=fun σ H Q=>wi σ H fun J H1=>∀D,H1 D=none→Zf2 J D n σ H1 g tc te Q
section
variable {X:Cx} {N N':List Str} {o c:Scope}
theorem Zi7{elt tg iter:Expr}{ifs:List Expr}{pos pos':Pos}{wi:TI}{g:TG}{tc:TT}{te:TE}{use:Option (Value→Sem Unit)}{QQ:Value→Shared→Prop}(S:ZY N N' o c)(hN:X.N=N)(ho:X.env.scope=o)(hc:X.calm=true)
  (hi:PI X tg iter wi) (hg:∀C s H fp,PG (ZaQ X c N' C s H fp) tg g) (ht:∀C s H fp,PTs (ZaQ X c N' C s H fp) ifs tc) (he:∀C s H fp,PE (ZaQ X c N' C s H fp) elt te)
  (hs:∀x,foldedSetIterable iter X.env x=pure x) {pins:List (Addr×Obj)} {s:Shared} {σ:St} {H:Hp} {Q:VK} (I:Inv X pins σ H s) (h:Zm9 (N'.length-N.length) wi g tc te σ H Q)
  (post:∀ (D C:Addr) (s5:Shared) (H5:Hp) (m:Str→Option Value),Inv X pins σ H5 s5→H5 C=none→s5.heap.Ns C m→C≠X.env.locals→X.s₀.heap.objs.size≤C→(∀x a,X.env.cells.lookup x=some a→a≠C)→(∀p∈X.pn++pins,p.1≠C) →
   Q (.ref D) H5→compPost (model X.prog X.w) X.A X.xe use QQ (.ref D) C (.ok .next) s5) :
  wpAny (model X.prog X.w) X.A (comprehension (.ListComp elt [⟨tg,iter,ifs,0⟩] c pos) c X.env pos' (newList []) false (eval iter X.env) use) QQ X.xe s:=by
 have hclos:closureFor c X.env=pure (ZaR X.env.cells c.names []):=ZgC fun y hy hf=>by
  refine I.ok.has y.1 ?_
  show X.env.scope.names.lookup y.1=_∨X.env.scope.names.lookup y.1=_
  rw[ho];exact(S.free y hy hf).2
 refine wpAny_comprehension_free (use:=use) rfl hs hclos S.kind S.loc (thn (hi pins s σ H _ I h) fun v s1 h1=>thn h1 fun itv s2 h2=>?_)
 obtain⟨it,fp,tn,J,H2,e,I2,T,st2,f2,hR⟩:=h2
 subst e
 have hD:H2 s2.heap.objs.size=none:=I2.fresh
 have I3:Inv X pins σ (upd H2 s2.heap.objs.size (.lst [])) { s2 with heap:=s2.heap.push { cls:=.type "list",data:=.seq ([]:List Value).toArray } } :=
  I2.lnew (ys:=[]) (its:=[]) (t':=s2.toks) .nil (Qv _)
 have fpl:∀b∈fp,b<s2.heap.objs.size:=fun b hb=>by
  obtain⟨ob,e,_⟩:=T.obj 0 _ st2 b hb
  exact QB e
 refine wpAny_newObj_type (wpAny_newFunctionEnv S.nocell (by intro y hy;simp at hy) (fun h₁ hns₁ hsb₁=>?_) S.kind)
 have e3:∃s3:Shared,s3={ s2 with heap:=s2.heap.push { cls:=.type "list",data:=.seq ([]:List Value).toArray } }:=⟨_,rfl⟩
 obtain⟨s3,hs3⟩:=e3
 have e3:s3.heap=s2.heap.push { cls:=.type "list",data:=.seq ([]:List Value).toArray }:=by rw[hs3]
 have sz3:s3.heap.objs.size=s2.heap.objs.size+1:=by rw[e3,Heap.size_push]
 have fpl3:∀b∈fp,b<s3.heap.objs.size:=fun b hb=>QG (fpl b hb) (by rw[sz3];exact Qaq _)
 have f3:∀b∈fp,ZfY X pins (upd H2 s2.heap.objs.size (.lst [])) b:=fun b hb=>⟨by rw[Ze (QU (fpl b hb))];exact(f2 b hb).1,(f2 b hb).2⟩
 have st3:tn 0 s3.heap:=T.keep 0 _ _ st2 fun b _ ob e=>by rw[e3];exact Qo _ e
 rw[← hs3]at I3
 show codeAny (model X.prog X.w) X.A (.compStart _ 0 (.ref it) (.ref s2.heap.objs.size) (compEnvC c (ZaR X.env.cells c.names []) (s2.heap.push { cls:=.type "list",data:=.seq ([]:List Value).toArray }).objs.size X.env))
  (compPost (model X.prog X.w) X.A X.xe use QQ (.ref s2.heap.objs.size) (s2.heap.push { cls:=.type "list",data:=.seq ([]:List Value).toArray }).objs.size)
  { s2 with heap:=h₁,toks:=s2.toks+([]:List (Str×Value)).length }
 have hns:h₁.Ns s3.heap.objs.size (fun x=>([]:List (Str×Value)).reverse.lookup x):=by rw[e3];exact hns₁
 have hk1:∀b ob,s3.heap.get? b=some ob→h₁.get? b=some ob:=fun b ob e=>by
  rw[e3]at e
  exact hsb₁.extBut b ob (QU (QB e)) (Qo _ e)
 rw[← e3]
 have es4:({ s2 with heap:=h₁,toks:=s2.toks+([]:List (Str×Value)).length }:Shared)={ s3 with heap:=h₁,toks:=s2.toks }:=by rw[hs3];rfl
 rw[es4]
 obtain⟨W,⟨m0,w0⟩,turn⟩:=hR s2.heap.objs.size hD
 have I4:=Zmf (tk:=s2.toks) S hN ho I3 f3 fpl3 hns hk1
 have st4:tn 0 h₁:=T.keep 0 _ _ st3 fun b _ ob e=>hk1 b ob e
 generalize hX:ZaQ X c N' s3.heap.objs.size s3 (upd H2 s2.heap.objs.size (.lst [])) fp=Y at I4
 have Yp:Y.prog=X.prog:=by rw[← hX];rfl
 have Yw:Y.w=X.w:=by rw[← hX];rfl
 have YK:Y.K=X.K:=by rw[← hX];rfl
 have Yc:Y.calm=true:=by rw[← hX];exact hc
 have YA:Y.A=X.A:=by rw[← hX];rfl
 have Yenv:Y.env=compEnvC c (ZaR X.env.cells c.names []) s3.heap.objs.size X.env:=by rw[← hX];rfl
 have Yl:Y.env.locals=s3.heap.objs.size:=by rw[Yenv];rfl
 have Yxe:Y.xe=fun _ _=>False:=by rw[← hX];rfl
 have hg':=hg s3.heap.objs.size s3 (upd H2 s2.heap.objs.size (.lst [])) fp
 have ht':=ht s3.heap.objs.size s3 (upd H2 s2.heap.objs.size (.lst [])) fp
 have he':=he s3.heap.objs.size s3 (upd H2 s2.heap.objs.size (.lst [])) fp
 rw[hX]at hg' ht' he'
 have stat:∀ {H':Hp},(∀b∈fp,H' b=none)→∀b∈fp,ZfY Y [] H' b:=fun {H'} hn b hb=>by
  obtain⟨_,q1,q2,q3,q4,_⟩:=f3 b hb
  have z1:=I4.ok.exf b (by rw[← hX];exact hb)
  refine⟨hn b hb,z1.1,I4.ok.exfs b (by rw[← hX];exact hb),.inl (by rw[← hX];exact hb),z1.2,fun p hp=>?_⟩
  have hp':p∈([]:List (Addr×Obj)):=by
   have:Y.pn=[]:=by rw[← hX];rfl
   rw[this]at hp;exact hp
  cases hp'
 have fin:∀ (s5:Shared) (σ5:St) (H5:Hp),Inv Y [] σ5 H5 s5→Q (.ref s2.heap.objs.size) H5→compPost (model X.prog X.w) X.A X.xe use QQ (.ref s2.heap.objs.size) s3.heap.objs.size (.ok .next) s5:=fun s5 σ5 H5 I5 q=>by
  obtain⟨m,hn,_⟩:=id I5.loc
  rw[Yl]at hn
  have hCn:H5 s3.heap.objs.size=none:=by have:=I5.free;rw[Yl]at this;exact this
  have un:Un (frs X.stack) fp (upd H2 s2.heap.objs.size (.lst [])) H5 s3.heap s5.heap:=by
   have:=I5.base
   rw[← hX]at this
   exact this
  have os5:s5.os=s3.os:=by have:=I5.os;rw[← hX]at this;exact this
  have hok5:HOk X.prog X.w H5 s5.heap:=by
   have:=I5.hok
   rw[Yp,Yw]at this
   exact this
  refine post _ _ s5 H5 m (I3.call' (s':=s5) (ch:=fp) os5 un hok5 I5.bare fun b hb=>?_) hCn hn (Nat.ne_of_gt I3.lt) I3.sz (fun x a e=>?_) (fun p hp=>?_) q
  ·obtain⟨_,q1,_,q3,q4,q5⟩:=f3 b hb
   exact⟨q3,q1,q4,q5⟩
  ·obtain⟨v,ob,e',_⟩:=I3.cell x a e
   exact QU (QB e')
  ·exact QU (QB (I3.pin p hp).1)
 have loop:codeAny (model X.prog X.w) X.A (.compLoop (.ListComp elt [⟨tg,iter,ifs,0⟩] c pos) 0 (.ref it) (.ref s2.heap.objs.size) (compEnvC c (ZaR X.env.cells c.names []) s3.heap.objs.size X.env))
   (compPost (model X.prog X.w) X.A X.xe use QQ (.ref s2.heap.objs.size) s3.heap.objs.size) { s3 with heap:=h₁,toks:=s2.toks }:=by
  rw[← Yenv,← YA]
  refine Zh0 (E:=fun _ _=>False) (fun n s'=>∃i ys σ' H',Inv Y [] σ' H' s'∧tn i s'.heap∧(∀b∈fp,H' b=none)∧W i n ys σ' H') (fun _ _ z=>z) ?_ m0
   ⟨0,[],_,_,I4,st4,fun b hb=>(f3 b hb).1,?_⟩
  ·rintro n s5 ⟨i,ys,σ5,H5,I5,st5,fr5,w5⟩
   rcases turn i n ys σ5 H5 w5 with⟨stop,qn⟩|⟨go,Nn,hNn,step⟩
   ·refine thn (T.done Y Yp Yw YK Yc i [] s5 σ5 H5 _ I5 (stat fr5) st5 stop) ?_
    rintro r s6 ⟨hr,I6⟩
    subst hr
    have fq:=fin s6 σ5 H5 I6 qn
    rw[← YA]at fq
    exact fq
   ·refine thn (T.item Y Yp Yw YK Yc i [] s5 σ5 H5 _ I5 (stat fr5) st5 go) ?_
    rintro r s6 ⟨u,hr,h6⟩
    subst hr
    refine thn h6 ?_
    rintro _ s7 ⟨x,H7,I7,r7,y7,st7,fr7⟩
    have I7':=I7.pinned (stat fr7) (T.obj _ _ st7)
    have back:∀ {σ9:St} {H9:Hp} {s9:Shared},Inv Y ([]++ZfU fp s7.heap) σ9 H9 s9→Inv Y [] σ9 H9 s9∧tn (i+1) s9.heap∧∀b∈fp,H9 b=none:=fun {σ9 H9 s9} I9=>by
     refine⟨I9.unpinned,T.keep _ _ _ st7 fun b hb ob e=>(I9.pin (b,ob) (Qn _ (Qn _ (Zdb hb e)))).1,fun b hb=>?_⟩
     obtain⟨ob,e,d⟩:=T.obj _ _ st7 b hb
     exact(I9.pin (b,ob) (Qn _ (Qn _ (Zdb hb e)))).2.1
    have P1:=hg' _ s7 σ5 H7 x u _ I7' r7 (step x H7 y7)
    rw[Yp,Yw,Yxe]at P1
    refine thn P1 ?_
    rintro _ s8 ⟨σ8,H8,I8,q8⟩
    have P2:=ht' _ s8 σ8 H8 _ I8 q8
    rw[Yp,Yw,Yxe]at P2
    refine thn P2 ?_
    rintro ok s9 ⟨H9,I9,q9⟩
    cases ok with
    | false =>
     rw[if_neg QC]at q9
     rw[if_neg QC]
     obtain⟨b1,b2,b3⟩:=back I9
     obtain⟨m',hm',w9⟩:=hNn _ _ _ q9
     exact⟨m',hm',i+1,ys,σ8,H9,b1,b2,b3,w9⟩
    | true =>
     rw[if_pos rfl]at q9
     rw[if_pos rfl]
     have P3:=he' _ s9 σ8 H9 _ I9 q9
     rw[Yp,Yw,Yxe]at P3
     refine thn P3 ?_
     rintro y s10 ⟨vy,H10,I10,r10,hDl,hsz,q10⟩
     have P4:=Zas (X:=Y) _ s10 σ8 H10 (.ref s2.heap.objs.size) [vy] (.ref s2.heap.objs.size) [y] (fun _ H'=>Nn (ys++[vy]) σ8 H') I10 rfl (.cons r10 .nil) ⟨_,ys,vy,rfl,rfl,hDl,hsz,q10⟩
     rw[Yp,Yw,Yxe]at P4
     refine thn P4 ?_
     rintro _ s11 ⟨_,H11,I11,_,q11⟩
     obtain⟨b1,b2,b3⟩:=back I11
     obtain⟨m',hm',w11⟩:=hNn _ _ _ q11
     exact⟨m',hm',i+1,ys++[vy],σ8,H11,b1,b2,b3,w11⟩
  ·exact w0
 have lp:=T.self X.A 0 { s3 with heap:=h₁,toks:=s2.toks } (fun it' s'=>codeAny (model X.prog X.w) X.A (.compLoop (.ListComp elt [⟨tg,iter,ifs,0⟩] c pos) 0 it' (.ref s2.heap.objs.size) (compEnvC c (ZaR X.env.cells c.names []) s3.heap.objs.size X.env))
   (compPost (model X.prog X.w) X.A X.xe use QQ (.ref s2.heap.objs.size) s3.heap.objs.size) s') (fun _ _=>False) st4 loop
 exact codeAny_compStart_list loop (wpAny_mono lp (fun _ _ z=>z) fun _ _ z=>z.elim)
theorem Inv.let{pins:List (Addr×Obj)}{σ:St}{H:Hp}{s:Shared}{C:Addr}{h':Heap}(I:Inv X pins σ H s)(hn:H C=none)(hL:C≠X.env.locals)(h1:X.s₀.heap.objs.size≤C)
  (h2:∀x a,X.env.cells.lookup x=some a→a≠C) (h3:∀p∈X.pn++pins,p.1≠C) (hs:Heap.SameBut C s.heap h'):Inv X pins σ H { s with heap:=h' } :=
 I.turned (t':=s.toks) (fun b ob hb e=>hs.extBut b ob hb e) hn hL (.inr h1) h2 h3
theorem Zbd{elt tg iter:Expr}{ifs:List Expr}{pos:Pos}{wi:TI}{g:TG}{tc:TT}{te:TE}(S:ZY N N' o c)(hN:X.N=N)(ho:X.env.scope=o)(hc:X.calm=true)
  (hi:PI X tg iter wi) (hg:∀C s H fp,PG (ZaQ X c N' C s H fp) tg g) (ht:∀C s H fp,PTs (ZaQ X c N' C s H fp) ifs tc) (he:∀C s H fp,PE (ZaQ X c N' C s H fp) elt te)
  (hs:∀x,foldedSetIterable iter X.env x=pure x:=by intro _;rfl) :
  PE X (.ListComp elt [⟨tg,iter,ifs,0⟩] c pos) (Zm9 (N'.length-N.length) wi g tc te):=by
 intro pins s σ H Q I h
 rw[eval_ListComp]
 refine Zi7 (use:=none) S hN ho hc hi hg ht he hs I h fun D C s5 H5 m I5 hCn hn n1 n2 n3 n4 q=>⟨m,hn,fun h' hsb=>?_⟩
 exact⟨.ref D,H5,I5.let hCn n1 n2 n3 n4 hsb,rfl,q⟩
theorem Zem{i:Nat}{x:Str}{elt tg iter:Expr}{ifs:List Expr}{pos pos' spos:Pos}{wi:TI}{g:TG}{tc:TT}{te:TE}(hnd:X.N.Nodup)(hx:X.N[i]? = some x)(hl:Loc X.env.scope x)(S:ZY N N' o c)(hN:X.N=N)(ho:X.env.scope=o)(hc:X.calm=true)
  (hi:PI X tg iter wi) (hg:∀C s H fp,PG (ZaQ X c N' C s H fp) tg g) (ht:∀C s H fp,PTs (ZaQ X c N' C s H fp) ifs tc) (he:∀C s H fp,PE (ZaQ X c N' C s H fp) elt te)
  (hsw:swapsWith (.ListComp elt [⟨tg,iter,ifs,0⟩] c pos) (some (.Name x pos')) spos.line X.env=pure true)
  (hs:∀x,foldedSetIterable iter X.env x=pure x:=by intro _;rfl) (hf:X.fn x=true∨X.env.scope.names.lookup x=some .local:=by first|exact .inl rfl|exact .inr rfl|assumption) :
  PS X (.Assign [.Name x pos'] (.ListComp elt [⟨tg,iter,ifs,0⟩] c pos) spos) (Zrl (Zm9 (N'.length-N.length) wi g tc te) (Zke i)):=by
 intro pins s σ H D I h
 rw[exec_Assign_Name_used _ _ _ _ hsw]
 refine wpAny_bind (wpAny_standAt (wpAny_bind ?_))
 show wpAny _ X.A (do let _ ← comprehension (.ListComp elt [⟨tg,iter,ifs,0⟩] c pos) c X.env _ (newList []) false (eval iter X.env) (some (assign (.Name x pos') X.env))) _ _ s
 refine wpAny_bind (thn (Zi7 (QQ:=fun _ s'=>SP X pins D .next s') (use:=some (assign (.Name x pos') X.env)) S hN ho hc hi hg ht he hs I h ?_) fun _ s' hq=>wpAny_pure (wpAny_pure hq))
 intro L C s5 H5 m I5 hCn hn n1 n2 n3 n4 q
 show wpAny _ X.A (assign (.Name x pos') X.env (.ref L)) _ _ _
 refine wpAny_assign_Name (ZgT (v:=.ref L) I5 hnd hx hl rfl (?_) hf)
 rintro s6 I6 ⟨a,hsb,ha⟩
 have nCa:C≠a:=by
  rcases ha with z|z
  ·rw[z];exact n1
  ·exact(n3 x a z).symm
 exact⟨m,hn.sameBut hsb nCa,fun h' hsb'=>⟨_,H5,I6.let hCn n1 n2 n3 n4 hsb',q⟩⟩
end
theorem ZfB{ys:List Str}:∀ {us:List Value},Zy (ys.map V.str) us→StrsAre us ys:=by
 induction ys with
 | nil=>intro us r;rw[Qac]at r;cases r;exact .nil
 | cons y ys ih =>
  intro us r
  rw[Qj]at r
  cases r with
  | cons r1 r2 =>
   obtain⟨t,e⟩:=r1
   subst e
   exact .cons _ _ (ih r2)
theorem ZgZ:∀ {vs:List Value} {ys:List Str},StrsAre vs ys→Zy (ys.map V.str) vs
 | _,_,.nil=>.nil
 | _,_,.cons _ t h=>.cons ⟨t,rfl⟩ (ZgZ h)
section
variable {X:Cx}
def Zr0(K:PySem.W.Frag):List V→Hp→VK→Prop:=fun xs H Q=>∃x c t b,xs=[x,.ty c]∧ZeL K H x t∧PySem.W.kitOne K t (.type c)=some b∧Q (.bl b) H
theorem Zm0:ZaW X (.builtin "isinstance") (Zr0 X.K):=by
 intro pins s σ H xs us Q I r h
 obtain⟨x,c,t,b,rfl,ty,e,q⟩:=h
 obtain⟨u,w',rfl,rx,rc⟩:=ZnS r
 cases rc
 exact Zk6 I rx ty e fun tk=>⟨.bl b,H,I.tok _,rfl,q⟩
def rIsiT(K:PySem.W.Frag):List V→Hp→VK→Prop:=fun xs H Q=>∃ (x:V) (tp:Addr) (cs:List String) (t:Value) (b:Bool),xs=[x,.ref tp]∧H tp=some (.tup (cs.map V.ty))∧ZeL K H x t∧PySem.W.kitAny K t (cs.map Value.type)=some b∧Q (.bl b) H
theorem ZhQ:ZaW X (.builtin "sorted") (fun xs H Q=>∃ (p:Addr) (ss:List Str),xs=[.ref p]∧SqL X.K H p (ss.map V.str)∧ss.length<64 ∧
  ∀ (l:Addr) (ss':List Str),H l=none→ss'.Perm ss→sortedS ss'=true→Q (.ref l) (upd H l (.lst (ss'.map V.str)))):=by
 intro pins s σ H xs us Q I r h
 obtain⟨p,ss,rfl,hq,h64,q⟩:=h
 obtain⟨u,rfl,rx⟩:=Zdm r
 cases rx
 obtain⟨its,rv,pl,hz⟩:=I.list hq
 have hlen:=rv.length
 rw[Qa]at hlen hz
 refine sorted_strs pl.isList (ZfB rv) (by omega) fun out ss' a1 a2 a3=>?_
 obtain⟨e,he⟩:=sortedAll_at s.heap its out
 have hp:=a2.length_eq
 refine⟨.ref (s.heap.objs.size+1),_,I.laid (t':=s.toks) (o:=.lst (ss'.map V.str)) (fun _ _=>sortedAll_old) (Qaq _) ⟨by rw[Qa];omega,out.toList,e,ZgZ a1,by simpa using he⟩,rfl,q _ ss' (I.hok.fresh (Qaq _)) a2 a3⟩
theorem ZoX:MtR X "str.join" (fun x vs H Q=>∃ (sep:Str) (p:Addr) (ys:List Str),x=.str sep∧vs=[.ref p]∧SqL X.K H p (ys.map V.str)∧(ys.map (·.length)).sum+ys.length*sep.length≤16777216∧Q (.str (Txt.join sep ys)) H):=by
 intro pins s σ H x vs v us Q I rx rv h
 obtain⟨sep,p,ys,rfl,rfl,hq,hz,q⟩:=h
 obtain⟨t,rfl⟩:=rx
 obtain⟨u,rfl,ru⟩:=rv.one
 cases ru
 obtain⟨its,r',pl,_⟩:=I.list hq
 exact join_list pl.isList (ZfB r') hz fun t' k=>⟨.str _,H,I.tok _,⟨_,rfl⟩,q⟩
theorem Zot:OpR X (binaryOp .Mult) (fun x y H Q=>∃a n,x=.str a∧y=.int n∧0≤n∧n≤1000000∧(a.length:Int)*n≤1000000∧Q (.str (Txt.mul a n)) H):=by
 intro pins s σ H x y v u Q I rx ry h
 obtain⟨a,n,rfl,rfl,h0,h1,h2,q⟩:=h
 obtain⟨t,rfl⟩:=rx
 obtain⟨t',rfl⟩:=ry
 have h2':a.length*n.toNat≤1000000:=by
  have e:((a.length*n.toNat:Nat):Int)=(a.length:Int)*n:=by rw[Int.natCast_mul,Int.toNat_of_nonneg h0]
  omega
 refine PySem.P.mul_str ?_ (fun c1 c2=>?_) (fun c1 c2=>?_) ?_
 ·have e1:decide (n < -(2 ^ 63:Int))=false:=decide_eq_false (by omega)
  have e2:decide (n≥2 ^ 63)=false:=decide_eq_false (by omega)
  rw[e1,e2];rfl
 ·have hn:(1:Int)≤n:=by omega
  have q1:(a.length:Int)*1≤(a.length:Int)*n:=Int.mul_le_mul_of_nonneg_left hn (Int.natCast_nonneg _)
  have q2:(1000000:Int)≤(2 ^ 63-1) / n:=by
   rw[Int.le_ediv_iff_mul_le (by omega)]
   have:(1000000:Int)*n≤1000000*1000000:=Int.mul_le_mul_of_nonneg_left h1 (by decide)
   omega
  omega
 ·unfold Builtin.Str.tooLong
  have hl:sizeLine=16777216:=sizeLine_eq
  exact decide_eq_false (by omega)
 ·have e:Txt.mul a n=if n<1 then Str.empty else if (n == 1||a.length == 0)=true then a else ⟨(List.replicate n.toNat a.cps).foldl (·++·) #[]⟩:=rfl
  rw[e]at q
  by_cases c1:n<1
  ·rw[if_pos c1]at q ⊢
   exact⟨by decide,.str _,H,I.tok _,⟨_,rfl⟩,q⟩
  ·rw[if_neg c1]at q ⊢
   by_cases c2:(n == 1||a.length == 0)=true
   ·rw[if_pos c2]at q ⊢
    exact⟨.str _,H,I,⟨_,rfl⟩,q⟩
   ·rw[if_neg c2]at q ⊢
    refine⟨?_,.str _,H,I.tok _,⟨_,rfl⟩,q⟩
    have hfold:∀ (k:Nat) (acc:Array Nat),((List.replicate k a.cps).foldl (·++·) acc).size=acc.size+k*a.cps.size:=by
     intro k
     induction k with
     | zero=>intro acc;simp
     | succ k ih=>intro acc;rw[List.replicate_succ,List.foldl_cons,ih,Array.size_append,Nat.succ_mul];omega
    show ((List.replicate n.toNat a.cps).foldl (·++·) #[]).size≤sizeLine
    rw[hfold]
    have e2:a.cps.size=a.length:=rfl
    have:n.toNat*a.cps.size≤1000000:=by rw[e2,Nat.mul_comm];exact h2'
    have hl:sizeLine=16777216:=sizeLine_eq
    simp only[List.size_toArray,List.length_nil]
    omega
def rSlS:V→Option Int→Option Int→Hp→VK→Prop:=fun x lo hi H Q=>∃z,x=.str z∧z.length≤sizeLine∧Q (.str (Txt.slice z lo hi)) H
end
inductive Src where
 | l (a:Addr)|t (a:Addr)|s (z:Str)
def Src.val:Src→V
 | .l a=>.ref a
 | .t a=>.ref a
 | .s z=>.str z
def Zpy(c:Nat):V:=.str ⟨#[c]⟩
def Src.its(K:PySem.W.Frag)(H:Hp):Src→List V→Prop
 | .l a,xs=>SqL K H a xs
 | .t a,xs=>SqT K H a xs
 | .s z,xs=>xs=z.cps.toList.map Zpy
def Src.at(h:Heap)(i:Addr):Src→Nat→Prop
 | .l a,k=>h.IsListIter i a k
 | .t a,k=>h.IsTupleIter i a k
 | .s z,k=>∃tk,h.IsStrIter i (strIterType z) z tk k
def Src.raw(h:Heap):Src→List Value→Prop
 | .l a,us=>h.IsList a us.toArray
 | .t a,us=>h.IsTuple a us.toArray
 | .s _,_=>True
def Src.fit:Src→List Value→Nat→Value→Prop
 | .l _,us,k,u=>us[k]? = some u
 | .t _,us,k,u=>us[k]? = some u
 | .s z,_,k,u=>∃c tk,z.cps[k]? = some c∧u=.str ⟨#[c]⟩ tk
def Src.many:Src→List Value→Nat
 | .l _,us=>us.length
 | .t _,us=>us.length
 | .s z,_=>z.cps.size
def Src.off:Src→Addr→Prop
 | .l a,b=>a≠b
 | .t a,b=>a≠b
 | .s _,_=>True
section
variable {prog:Program} {w:World} {A:Around} {E:Value→Shared→Prop} {s:Shared}
structure ZipOff (z TI TO i1 i2:Addr) (S1 S2:Src):Prop where
 TIz:TI≠z
 TOz:TO≠z
 i1z:i1≠z
 i2z:i2≠z
 TITO:TI≠TO
 TIi1:TI≠i1
 TIi2:TI≠i2
 TOi1:TO≠i1
 TOi2:TO≠i2
 i12:i1≠i2
 s1z:S1.off z
 s1TO:S1.off TO
 s1i1:S1.off i1
 s1i2:S1.off i2
 s2z:S2.off z
 s2TO:S2.off TO
 s2i1:S2.off i1
 s2i2:S2.off i2
end
def Src.iter(tk:Tok):Src→Obj
 | .l a=>{ cls:=.type "list_iterator",data:=.fields #[.ref a,.int 0 0] }
 | .t a=>{ cls:=.type "tuple_iterator",data:=.fields #[.ref a,.int 0 0] }
 | .s z=>{ cls:=.type (strIterType z),data:=.fields #[.str z tk,.int 0 0] }
def Src.value(tk:Tok):Src→Value
 | .l a=>.ref a
 | .t a=>.ref a
 | .s z=>.str z tk
abbrev zH1(h:Heap)(S1:Src)(t1:Tok):Heap:=h.push (S1.iter t1)
abbrev zH2(h:Heap)(S1 S2:Src)(t1 t2:Tok):Heap:=(zH1 h S1 t1).push (S2.iter t2)
abbrev zH3(h:Heap)(S1 S2:Src)(t1 t2:Tok):Heap:=(zH2 h S1 S2 t1 t2).push { cls:=.type "tuple",data:=.seq #[.ref h.objs.size,.ref (zH1 h S1 t1).objs.size] }
abbrev zH4(h:Heap)(S1 S2:Src)(t1 t2:Tok):Heap:=(zH3 h S1 S2 t1 t2).push { cls:=.type "tuple",data:=.seq #[.none,.none] }
abbrev zH5(h:Heap)(S1 S2:Src)(t1 t2:Tok):Heap:=(zH4 h S1 S2 t1 t2).push { cls:=.type "zip",data:=.fields #[.none,.bool false,.bool false,.ref (zH2 h S1 S2 t1 t2).objs.size,.ref (zH3 h S1 S2 t1 t2).objs.size] }
section
variable {prog:Program} {w:World} {A:Around} {E:Value→Shared→Prop} {s:Shared}
end
def Itz(K:PySem.W.Frag)(S1 S2:Src):It :=
 ⟨fun i H=>∃xs ys,S1.its K H xs∧S2.its K H ys∧i<xs.length∧i<ys.length,
  fun i H v H'=>∃p,H p=none∧v=.ref p∧∀xs ys,S1.its K H xs→S2.its K H ys→∀x y,xs[i]? = some x→ys[i]? = some y→H'=upd H p (.tup [x,y]),
  fun i H=>∃xs ys,S1.its K H xs∧S2.its K H ys∧(xs.length≤i∨ys.length≤i)⟩
section
variable {X:Cx} {pins:List (Addr×Obj)} {σ:St} {H:Hp} {s:Shared}
theorem Inv.zipped{fp:List Addr}{h':Heap}{tk:Nat}{x y:V}{u v:Value}(I:Inv X pins σ H s)(hf:∀b∈fp,ZfY X pins H b)(rx:ZC x u)(ry:ZC y v)
  (hp:IsPair h' s.heap.objs.size u v) (hfh:∀b∈fp,∃o,h'.get? b=some o) (hk:∀c o,c ∉ fp→s.heap.get? c=some o→h'.get? c=some o) :
  Inv X pins σ (upd H s.heap.objs.size (.tup [x,y])) { s with heap:=h',toks:=tk }:=by
 have hn:H s.heap.objs.size=none:=I.fresh
 have ne:∀b ob,s.heap.get? b=some ob→b≠s.heap.objs.size:=fun b ob e=>QU (QB e)
 have nt:∀b u,H b=some u→b≠s.heap.objs.size:=fun b u e=>Zc e hn
 have nfp:∀b u,H b=some u→b ∉ fp:=fun b u e hb=>by rw[(hf b hb).1]at e;cases e
 refine I.step (g':=s.gens) (d':=s.drawn) (ch:=fp) (fun b hb=>⟨(hf b hb).2.2.2.1,(hf b hb).2.1,(hf b hb).2.2.2.2.1,(hf b hb).2.2.2.2.2⟩)
  (fun b ob _ _ hc e _=>hk b ob hc e) (fun b ob _ _ hc e _=>⟨ob.slots,hk b ob hc e⟩) (fun b ob _ e n=>by rw[Ze (ne b ob e)];exact n) (fun b ob hc e=>⟨ob,hk b ob hc e⟩)
  (fun b xs e=>by rw[Ze (nt b _ e)];exact e) (fun b ob u e=>by rw[Ze (nt b _ e)];exact e) (fun b ps e=>⟨#[],by rw[Ze (nt b _ e),e];simp⟩) (fun m hm=>?_) (fun b ub e=>?_) I.bare
 ·obtain⟨ob,es,ep,ho,r⟩:=hm
  exact⟨ob,es,ep,hk _ ob (fun z=>(hf _ z).2.1 rfl) ho,r⟩
 ·by_cases hb:b=s.heap.objs.size
  ·subst hb
   rw[Zb]at e;cases e
   exact⟨by show 2≤sizeLine;decide,[u,v],.cons rx (.cons ry .nil),⟨_,hp,rfl,_,rfl⟩⟩
  ·rw[Ze hb]at e
   refine(I.hok b ub e).stay (fun c w' hc q=>hk c w' ?_ q) (fun c q=>by rw[Ze (nt c _ q)];exact q) fun c xs q=>by rw[Ze (nt c _ q)];exact q
   rcases hc with z|z
   ·rw[z];exact nfp b ub e
   ·exact nfp c _ z
end
def iZip(K:PySem.W.Frag)(ta:TA):TI:=fun σ H R=>ta σ H fun vs H1=>∃S1 S2 xs ys,vs=[Src.val S1,Src.val S2]∧S1.its K H1 xs∧S2.its K H1 ys∧R (Itz K S1 S2) H1
section
variable {X:Cx} (K:PySem.W.Frag)
theorem ixL(h:X.K=K:=by rfl):IxR X (Zqn K):=by subst h;exact Zon
theorem ixT(h:X.K=K:=by rfl):IxR X (Zrb K):=by subst h;exact Zqc
theorem slL(h:X.K=K:=by rfl):SlR X (Zsb K):=by subst h;exact ZoY
def Zr5:List V→Hp→VK→Prop:=fun xs H Q=>∃p ys,xs=[.ref p]∧(SqL K H p ys∨SqT K H p ys)∧Q (.int ys.length) H
theorem Zbf(h:X.K=K:=by rfl):ZaW X (.builtin "len") (Zr5 K):=by subst h;exact Zhu
theorem Zou(h:X.K=K:=by rfl):ZaW X (.builtin "isinstance") (Zr0 K):=by subst h;exact Zm0
def rAllQ:List V→Hp→VK→Prop:=fun xs H Q=>∃ (p:Addr) (bs:List Bool),xs=[.ref p]∧SqL K H p (bs.map V.bl)∧Q (.bl (bs.all id)) H
def rSrtI:List V→Hp→VK→Prop:=fun xs H Q=>∃ (p:Addr) (ns:List Int),xs=[.ref p]∧SqL K H p (ns.map V.int)∧ns.length<64 ∧
  ∀ (l:Addr) (ns':List Int),H l=none→ns'.Perm ns→ns'.Pairwise (·≤·)→Q (.ref l) (upd H l (.lst (ns'.map V.int)))
def Zsn:List V→Hp→VK→Prop:=fun xs H Q=>∃ (p:Addr) (ss:List Str),xs=[.ref p]∧SqL K H p (ss.map V.str)∧ss.length<64 ∧
  ∀ (l:Addr) (ss':List Str),H l=none→ss'.Perm ss→sortedS ss'=true→Q (.ref l) (upd H l (.lst (ss'.map V.str)))
theorem Zpi(h:X.K=K:=by rfl):ZaW X (.builtin "sorted") (Zsn K):=by subst h;exact ZhQ
def Zr9:V→List V→Hp→VK→Prop:=fun x vs H Q=>∃ (sep:Str) (p:Addr) (ys:List Str),x=.str sep∧vs=[.ref p]∧SqL K H p (ys.map V.str)∧(ys.map (·.length)).sum+ys.length*sep.length≤16777216∧Q (.str (Txt.join sep ys)) H
theorem Zsv(h:X.K=K:=by rfl):MtR X "str.join" (Zr9 K):=by subst h;exact ZoX
theorem iL{tg l:Expr}{tl:TE}(hl:PE X l tl)(h:X.K=K:=by rfl):PI X tg l (ZpU K tl):=by subst h;exact Zpo hl
theorem iT{tg l:Expr}{tl:TE}(hl:PE X l tl)(h:X.K=K:=by rfl):PI X tg l (Zr6 K tl):=by subst h;exact Zra hl
theorem gT{es:List Expr}{k:Nat}{t:TGs}{n:Nat}{pos:Pos}(h:PGs X es t)(hK:X.K=K:=by rfl)(hc:X.calm=true:=by rfl)
  (hn:(assignEach es X.env).length=n:=by rfl) (hst:(assignEach es X.env).findIdx? (·.1)=none:=by rfl):PG X (.Tuple es k pos) (Zsf K n t):=by subst hK;exact Zqi hc h hn hst
end
structure Df (P:Program) (w:World) (K:PySem.W.Frag) (mg:Str→Option Value) (base:Heap) (k:Nat) (x:Str) (ps:List Str) (sp:Sp):Prop where
 ex:∃f fd,Zd5 P w K mg base CX0 k f fd ps sp∧mg x=some (.ref f)∧PySem.W.keepIn K (.ref f)=true∧Zci K fd ps []
section
variable {P:Program} {w:World} {K:PySem.W.Frag} {mg:Str→Option Value} {base:Heap}
structure Top (K:PySem.W.Frag) (mg:Str→Option Value) (x:Str) (st:Stmt) (ps:List Str):Prop where
 ex:∃f fd,Fun K x x st f fd∧mg x=some (.ref f)∧Zci K fd ps []
theorem Top.df{x:Str}{st:Stmt}{N ps:List Str}{k:Nat}{sp:Sp}(T:Top K mg x st ps)(S:Zq N ps (Zg st))(len:∀vs H Q E,sp vs H Q E→vs.length=ps.length)
  (hbody:∀ (cdv:Value) (f:Addr) (A:Around) (outer:List Env) (s:Shared) (H:Hp) (vs:List V) (Q:VK) (E:XK),ZaG k (A.deeper (envOfC x (Zg st) s.heap.objs.size f cdv))→sp vs H Q E →
   ∃t,PSs (ZhB CX0 P w K mg base N x (Zg st) f cdv A outer s H E).nox (Zl st) t∧t { nx:=fun _ H'=>Q .non H',rt:=Q } (Zdq N vs) H):Df P w K mg base (k+1) x ps sp:=by
 obtain⟨f,fd,F,m,b⟩:=T.ex
 exact⟨f,fd,F.ok S len (fun cdv A outer s H vs Q E hr h=>hbody cdv f A outer s H vs Q E hr h),m,F.kp,b⟩
end
section
variable {X:Cx} {k j:Nat} {x:Str} {ps:List Str} {sp:Sp} {e:Expr} {es:List Expr} {t:TA} {p pos:Pos}
theorem ZA(F:Df X.prog X.w X.K X.mg X.base k x ps sp)(hr:ZaG j X.A)(ha:PA X (e::es) t)(hjk:k≤j:=by decide)(hg:Gl X x:=by rfl)(hdb:(x == ("__debug__" : Str))=false:=by decide)
  (he:starEach (e::es) X.env=(false,eval e X.env)::starEach es X.env:=by rfl) (hpl:(backTo pos (starEach es X.env)).any (·.1)=false:=by rfl) :
  PE X (.Call (.Name x p) (e::es) [] pos) (ZpK sp [] E0 t):=by
 obtain⟨f,fd,F,m,kp,b⟩:=F.ex
 exact Zps F (hr.mono hjk) hg m kp b .nil Zky ha hdb he hpl
theorem ZkA{T:String}(hm:X.mg x=none)(hv:bootBuiltins x=some (.type T))(hg:Gl X x:=by rfl)(hn:x ≠ "__name__":=by decide)(hd:(x == ("__debug__" : Str))=false:=by decide):PE X (.Name x pos) (tC (.ty T)) :=
 Zpv hg hm hv rfl hn hd
end
theorem Zc4{lo:Int}{n k:Nat}{D:Addr}{σ:St}{H1:Hp}{g:TG}{te:TE}{Q:VK}(Pv:Nat→List V→St→Hp→Prop)(h0:Pv 0 [] (σ++List.replicate k none) (upd H1 D (.lst [])))
  (hs:∀i ys σ H,i<n→Pv i ys σ H→g (.int (lo+i)) σ H fun σ4 H4=>te σ4 H4 fun y H6=>H6 D=some (.lst ys)∧ys.length<sizeLine∧Pv (i+1) (ys++[y]) σ4 (upd H6 D (.lst (ys++[y]))))
  (hd:∀ys σ H,Pv n ys σ H→Q (.ref D) H):Zf2 (Itr lo n) D k σ H1 g Zic te Q:=by
 refine⟨fun i m ys σ H=>m=n-i∧i≤n∧Pv i ys σ H,⟨n,by simp,Qv _,h0⟩,?_⟩
 rintro i m ys σ H ⟨rfl,hi,p⟩
 by_cases hlt:i<n
 ·refine .inr ⟨hlt,Pv (i+1),fun ys' σ' H' p'=>⟨n-(i+1),by omega,rfl,hlt,p'⟩,fun x H' y=>?_⟩
  obtain⟨e,y⟩:=y
  subst e y
  simp only[Zic,↓reduceIte]
  exact hs i ys σ _ hlt p
 ·have e:i=n:=by omega
  subst e
  exact .inl ⟨Qh _,hd ys σ H p⟩
section
variable {X:Cx} {N N':List Str} {o c:Scope} {x:Str} {pos:Pos} {C:Addr} {s:Shared} {H:Hp} {fp:List Addr}
theorem Zei(S:ZY N N' o c)(ho:X.env.scope=o)(hl:c.names.lookup x=some .local):(ZaQ X c N' C s H fp).env.scope.names.lookup x=some .local:=by
 have e:=ZcK (X:=X) S ho (ZaR X.env.cells c.names []) C x
 rw[hl]at e
 exact e
theorem Zcd(S:ZY N N' o c)(ho:X.env.scope=o)(hl:c.names.lookup x=some .globalImplicit):Gl (ZaQ X c N' C s H fp) x:=by
 have e:=ZcK (X:=X) S ho (ZaR X.env.cells c.names []) C x
 rw[hl]at e
 exact e
theorem Zml(S:ZY N N' o c)(ho:X.env.scope=o)(hl:c.names.lookup x=some .free):Vis (ZaQ X c N' C s H fp).env.scope x:=by
 have e:=ZcK (X:=X) S ho (ZaR X.env.cells c.names []) C x
 rw[hl]at e
 have e':(ZaQ X c N' C s H fp).env.scope.names.lookup x=if X.env.kindOf x=some .cell then some NameKind.cell else some NameKind.free:=e
 by_cases z:X.env.kindOf x=some .cell
 ·rw[if_pos z]at e';exact .inr (.inl e')
 ·rw[if_neg z]at e';exact .inr (.inr e')
theorem cv(i:Nat)(S:ZY N N' o c)(ho:X.env.scope=o)(hl:c.names.lookup x=some .free)(hN:N'[i]? = some x:=by rfl)(hd:(x == ("__debug__" : Str))=false:=by decide)(hcd:(x == ("__classdict__" : Str))=false:=by decide) :
  PE (ZaQ X c N' C s H fp) (.Name x pos) (ZoE i):=Zju hN (Zml S ho hl) hd hcd
theorem cw(i:Nat)(S:ZY N N' o c)(ho:X.env.scope=o)(hl:c.names.lookup x=some .local)(hN:N'[i]? = some x:=by rfl)(hd:(x == ("__debug__" : Str))=false:=by decide)(hcd:(x == ("__classdict__" : Str))=false:=by decide) :
  PE (ZaQ X c N' C s H fp) (.Name x pos) (ZoE i):=Zju hN (.inl (Zei S ho hl)) hd hcd
theorem cg(i:Nat)(S:ZY N N' o c)(ho:X.env.scope=o)(hl:c.names.lookup x=some .local)(hi:N'[i]? = some x:=by rfl):PG (ZaQ X c N' C s H fp) (.Name x pos) (Zke i) :=
 Zw S.nd hi (.inl (Zei S ho hl)) (.inr (Zei S ho hl))
end
mutual
inductive DV (K:PySem.W.Frag) (H:Hp):V→PyData→Prop where
 | non:DV K H .non .none
 | bl (b:Bool):DV K H (.bl b) (.bool b)
 | int (i:Int):DV K H (.int i) (.int i)
 | str (s:Str):DV K H (.str s) (.str s)
 | lst {a:Addr} {xs:List V} {ds:List PyData}:SqL K H a xs→DVs K H xs ds→DV K H (.ref a) (.list ds)
 | tup {a:Addr} {xs:List V} {ds:List PyData}:SqT K H a xs→DVs K H xs ds→DV K H (.ref a) (.tuple ds)
inductive DVs (K:PySem.W.Frag) (H:Hp):List V→List PyData→Prop where
 | nil:DVs K H [] []
 | cons {x:V} {d:PyData} {xs:List V} {ds:List PyData}:DV K H x d→DVs K H xs ds→DVs K H (x::xs) (d::ds)
end
section
variable {X:Cx} {pins:List (Addr×Obj)} {σ:St} {H:Hp} {s:Shared}
mutual
theorem Inv.reads(I:Inv X pins σ H s):∀ {x:V} {d:PyData} {u:Value},DV X.K H x d→ZC x u→∃as,Reads s.heap u d as
 | _,_,_,.non,r=>by cases r;exact⟨_,.none⟩
 | _,_,_,.bl b,r=>by cases r;exact⟨_,.bool b⟩
 | _,_,_,.int i,r=>by obtain⟨t,rfl⟩:=r;exact⟨_,.int i t⟩
 | _,_,_,.str z,r=>by obtain⟨t,rfl⟩:=r;exact⟨_,.str z t⟩
 | _,_,_,.lst h hs,r=>by
  cases r
  obtain⟨its,rv,⟨o,n,e,hc,_,hd⟩,_⟩:=I.list h
  obtain⟨as,q⟩:=Inv.readsAll I hs rv
  exact⟨_,reads_list_at e hc hd (by simpa using q)⟩
 | _,_,_,.tup h hs,r=>by
  cases r
  obtain⟨its,rv,⟨o,e,hc,n,hd⟩,_⟩:=I.tuple h
  obtain⟨as,q⟩:=Inv.readsAll I hs rv
  exact⟨_,reads_tuple_at e hc hd (by simpa using q)⟩
theorem Inv.readsAll(I:Inv X pins σ H s):∀ {xs:List V} {ds:List PyData} {us:List Value},DVs X.K H xs ds→Zy xs us→∃as,ReadsAll s.heap us ds as
 | _,_,_,.nil,r=>by cases r;exact⟨_,.nil⟩
 | _,_,_,.cons h hs,r=>by
  cases r with
  | cons r1 r2 =>
   obtain⟨as,q1⟩:=Inv.reads I h r1
   obtain⟨bs,q2⟩:=Inv.readsAll I hs r2
   exact⟨_,.cons q1 q2⟩
end
def Zoq(K:PySem.W.Frag)(neg:Bool):R2:=fun x y H Q=>∃d e,DV K H x d∧DV K H y e∧SeqAt.shaped d=true∧SeqAt.shaped e=true∧Q (.bl (if neg then !PyData.eqv d e else PyData.eqv d e)) H
theorem Zqe(hu:X.A.units+64<cLine):OpR X (compareOp .Eq) (Zoq X.K false):=by
 intro pins s σ H x y v u Q I rx ry h
 obtain⟨d,e,h1,h2,s1,s2,q⟩:=h
 obtain⟨as,r1⟩:=I.reads h1 rx
 obtain⟨bs,r2⟩:=I.reads h2 ry
 exact eq_dataH r1 r2 s1 s2 hu ⟨.bl _,H,I,rfl,q⟩
theorem Zqo(hu:X.A.units+64<cLine):OpR X (compareOp .NotEq) (Zoq X.K true):=by
 intro pins s σ H x y v u Q I rx ry h
 obtain⟨d,e,h1,h2,s1,s2,q⟩:=h
 obtain⟨as,r1⟩:=I.reads h1 rx
 obtain⟨bs,r2⟩:=I.reads h2 ry
 exact ne_dataH r1 r2 s1 s2 hu ⟨.bl _,H,I,rfl,q⟩
end
theorem eqD{X:Cx}(K:PySem.W.Frag){k:Nat}(hr:ZaG k X.A)(h:X.K=K:=by rfl):OpR X (compareOp .Eq) (Zoq K false):=by subst h;exact Zqe hr.units
theorem neD{X:Cx}(K:PySem.W.Frag){k:Nat}(hr:ZaG k X.A)(h:X.K=K:=by rfl):OpR X (compareOp .NotEq) (Zoq K true):=by subst h;exact Zqo hr.units
mutual
theorem DV.mono{K:PySem.W.Frag}{H H':Hp}(s:Zu H H'):∀ {x:V} {d:PyData},DV K H x d→DV K H' x d
 | _,_,.non=>.non
 | _,_,.bl b=>.bl b
 | _,_,.int i=>.int i
 | _,_,.str z=>.str z
 | _,_,.lst h hs=>.lst (s.seq h) (DVs.mono s hs)
 | _,_,.tup h hs=>.tup (by
   rcases h with(h|⟨ob,h⟩)|h
   ·exact .inl (.inl (s _ _ h))
   ·exact .inl (.inr ⟨ob,s _ _ h⟩)
   ·exact .inr h) (DVs.mono s hs)
theorem DVs.mono{K:PySem.W.Frag}{H H':Hp}(s:Zu H H'):∀ {xs:List V} {ds:List PyData},DVs K H xs ds→DVs K H' xs ds
 | _,_,.nil=>.nil
 | _,_,.cons h hs=>.cons (DV.mono s h) (DVs.mono s hs)
end
def Ite(K:PySem.W.Frag)(a:Addr):It :=
 ⟨fun i H=>∃xs,SqL K H a xs∧i<xs.length,
  fun i H v H'=>∃p,H p=none∧v=.ref p∧∀xs,SqL K H a xs→∀x,xs[i]? = some x→H'=upd H p (.tup [.int i,x]),
  fun i H=>∃xs,SqL K H a xs∧xs.length≤i⟩
theorem ZlO{P:Program}{w:World}{K:PySem.W.Frag}{elts:List Expr}{x1:Nat}{tpos:Pos}{a e it:Addr}(hne:e≠it) :
  Zmg P w K (.Tuple elts x1 tpos) (Ite K a) [e,it] e (fun i h=>(∃old,IsEnum h e it i old)∧h.IsListIter it a i) where
 mem:=by simp
 obj:=fun i h st b hb=>by
  obtain⟨⟨old,he⟩,o,hit,hc,hd⟩:=st
  simp only[List.mem_cons,List.not_mem_nil,or_false]at hb
  rcases hb with rfl|rfl
  ·exact⟨_,he,fun v z=>by cases z⟩
  ·exact⟨o,hit,fun v z=>by rw[hd]at z;cases z⟩
 keep:=fun i h h' st k=>by
  obtain⟨⟨old,he⟩,hit⟩:=st
  exact⟨⟨old,k e (by simp) _ he⟩,hit.at fun o q=>k it (by simp) o q⟩
 item:=by
  intro X hP hw hK hc i pins s σ H E I hf st hg
  subst hP hw hK
  obtain⟨⟨old,he⟩,hit⟩:=st
  obtain⟨xs,q1,l1⟩:=hg
  obtain⟨its,rv,pl,_⟩:=I.list q1
  obtain⟨u,hu,ru⟩:=rv.get (Qb l1)
  refine wpAny_pyNext_enum_item he hit pl.isList (x:=u) (by simpa using hu) hne fun h' a1 a2 a3 a4 a5=>?_
  have lt:∀ {b:Addr} {o:Obj},s.heap.get? b=some o→s.heap.objs.size≠b:=fun q=>Nat.ne_of_gt (QB q)
  have hes:s.heap.objs.size≠e:=lt he
  refine⟨_,rfl,wpAny_letOwnedTupleGo_enum a1 fun h'' he'' hs''=>?_⟩
  have hs':Heap.SameBut e h' h'':=hs''
  have hit'':h''.IsListIter it a (i+1):=a2.extBut hs'.extBut hne.symm
  have I2:Inv X pins σ (upd H s.heap.objs.size (.tup [.int i,xs[i]])) { s with heap:=h'',toks:=s.toks+1 }:=by
   refine I.zipped (fp:=[e,it]) (u:=.int i s.toks) (v:=u) hf ⟨_,rfl⟩ ru (hs'.extBut _ _ hes a3) (fun b hb=>?_) fun c o hc q=>?_
   ·simp only[List.mem_cons,List.not_mem_nil,or_false]at hb
    rcases hb with rfl|rfl
    ·exact⟨_,he''⟩
    ·obtain⟨o,q,_⟩:=hit'';exact⟨o,q⟩
   ·simp only[List.mem_cons,List.not_mem_nil,or_false,not_or]at hc
    exact hs'.extBut _ _ hc.1 (a5 c o hc.1 hc.2 q)
  refine⟨.ref s.heap.objs.size,_,I2,rfl,⟨s.heap.objs.size,I.fresh,rfl,fun xs' w1 x' e1=>?_⟩,⟨⟨_,he''⟩,hit''⟩,fun b hb=>?_⟩
  ·have e3:=I.list_inj w1 q1
   subst e3
   rw[Qb l1]at e1
   cases e1
   rfl
  ·rw[Ze (fun z=>by
    obtain⟨o,q⟩:∃o,s.heap.get? b=some o:=by
     simp only[List.mem_cons,List.not_mem_nil,or_false]at hb
     rcases hb with rfl|rfl
     ·exact⟨_,he⟩
     ·obtain⟨o,q,_⟩:=hit;exact⟨o,q⟩
    exact lt q z.symm)]
   exact(hf b hb).1
 done:=by
  intro X hP hw hK hc i pins s σ H E I hf st hg
  subst hP hw hK
  obtain⟨⟨old,he⟩,hit⟩:=st
  obtain⟨xs,q1,l1⟩:=hg
  obtain⟨its,rv,pl,_⟩:=I.list q1
  obtain⟨f0,f1,f2,f3,f4,f5⟩:=hf it (by simp)
  have hl:=rv.length
  exact wpAny_pyNext_enum_end (I.ok.hd hc) he hit pl.isList (by rw[List.getElem?_toArray];exact QE (by omega)) fun h' eb=>⟨rfl,I.turned (t':=s.toks) (fun b o hb q=>eb b o hb q) f0 f1 f3 f4 f5⟩
 self:=fun _ _ _ _ _ st h=>by obtain⟨⟨old,he⟩,_⟩:=st;exact wpAny_pyIter_enum he h
def ZpT(K:PySem.W.Frag)(ta:TA):TI:=fun σ H R=>ta σ H fun vs H1=>∃a xs,vs=[V.ref a]∧SqL K H1 a xs∧R (Ite K a) H1
theorem Zo9{X:Cx}{l:Expr}{ta:TA}{p pos:Pos}{elts:List Expr}{x1:Nat}{tpos:Pos}(hg:Gl X "enumerate")(hm:X.mg "enumerate" = none)(ha:PA X [l] ta)
  (hs:starEach [l] X.env=[(false,eval l X.env)]:=by rfl):PI X (.Tuple elts x1 tpos) (.Call (.Name "enumerate" p) [l] [] pos) (ZpT X.K ta):=by
 intro pins s σ H R I h
 refine Call_ (Ze5 I hg hm boot_enumerate (Qaj (thn (ha pos pins s σ H _ I h) ?_) hs rfl))
 rintro us s1 ⟨vs,H1,I1,r1,q1⟩
 obtain⟨a,xs,e,y1,q⟩:=q1
 subst e
 obtain⟨u,rfl,ru⟩:=r1.one
 cases ru
 obtain⟨its,rv,pl,_⟩:=I1.list y1
 refine call_enumerate_list pl.isList fun h' he hit hsz hk=>wpAny_pyIter_enum he ?_
 have I2:Inv X pins σ H1 { s1 with heap:=h' }:=I1.kept (t':=s1.toks) hk
 refine⟨_,_,_,_,H1,rfl,I2,ZlO (a:=a) (e:=s1.heap.objs.size+1) (it:=s1.heap.objs.size) (Nat.ne_of_gt (Nat.lt_succ_self _)),⟨⟨_,he⟩,hit⟩,fun b hb=>?_,q⟩
 have hb':s1.heap.objs.size≤b:=by
  simp only[List.mem_cons,List.not_mem_nil,or_false]at hb
  rcases hb with rfl|rfl
  ·exact Nat.le_add_right _ 1
  ·exact Qh _
 exact I1.fpOk hb' (I1.hok.fresh hb')
theorem iE{X:Cx}(K:PySem.W.Frag){l:Expr}{ta:TA}{p pos:Pos}{elts:List Expr}{x1:Nat}{tpos:Pos}(hm:X.mg "enumerate" = none)(ha:PA X [l] ta)(hg:Gl X "enumerate":=by rfl)(hK:X.K=K:=by rfl)
  (hs:starEach [l] X.env=[(false,eval l X.env)]:=by rfl):PI X (.Tuple elts x1 tpos) (.Call (.Name "enumerate" p) [l] [] pos) (ZpT K ta):=by subst hK;exact Zo9 hg hm ha hs
theorem Zge{K:PySem.W.Frag}{a:Addr}{xs:List V}{g:TG}{tb:TS}{D:ZeK}{σ:St}{H:Hp}(Pv:Nat→St→Hp→Prop)(h0:Pv 0 σ H)(hl:∀i σ H,Pv i σ H→SqL K H a xs)
  (hs:∀i x σ H p,xs[i]? = some x→Pv i σ H→H p=none→g (.ref p) σ (upd H p (.tup [.int i,x])) fun σ2 H2=>tb { D with nx:=Pv (i+1),ct:=Pv (i+1),bk:=D.nx } σ2 H2) (hd:∀σ H,Pv xs.length σ H→D.nx σ H) :
  ∃W:Nat→Nat→St→Hp→Prop,(∃m,W 0 m σ H)∧∀i m σ H,W i m σ H →
   ((Ite K a).stop i H∧D.nx σ H)∨((Ite K a).go i H∧∃N:St→Hp→Prop,(∀σ' H',N σ' H'→∃m',m'<m∧W (i+1) m' σ' H')∧∀x H',(Ite K a).yld i H x H'→g x σ H' fun σ2 H2=>tb { D with nx:=N,ct:=N,bk:=D.nx } σ2 H2):=by
 refine⟨fun i m σ H=>m=xs.length-i∧i≤xs.length∧Pv i σ H,⟨xs.length,by simp,Qv _,h0⟩,?_⟩
 rintro i m σ H ⟨rfl,hi,p⟩
 have q1:=hl i σ H p
 by_cases hlt:i<xs.length
 ·refine .inr ⟨⟨xs,q1,hlt⟩,Pv (i+1),fun σ' H' p'=>⟨xs.length-(i+1),by omega,rfl,hlt,p'⟩,fun x H' y=>?_⟩
  obtain⟨r,hr,rfl,e⟩:=y
  have e':=e xs q1 _ (Qb hlt)
  subst e'
  exact hs i _ σ H r (Qb hlt) p hr
 ·have e:i=xs.length:=by omega
  exact .inl ⟨⟨xs,q1,by omega⟩,hd σ H (e ▸ p)⟩
def rMinL(K:PySem.W.Frag):List V→Hp→VK→Prop:=fun vs H Q=>∃ (p:Addr) (ns:List Int),vs=[.ref p]∧SqL K H p (ns.map V.int)∧0<ns.length∧∀M,M∈ns→(∀a∈ns,M≤a)→Q (.int M) H
def Zql(K:PySem.W.Frag):List V→Hp→VK→Prop:=fun xs H Q=>∃p ys,xs=[.ref p]∧(SqL K H p ys∨SqT K H p ys)∧∀l,H l=none→Q (.ref l) (upd H l (.lst ys))
theorem ZpL{X:Cx}(K:PySem.W.Frag)(h:X.K=K:=by rfl):ZaW X (.type "list") (Zql K):=by subst h;exact Zh3
section
variable {prog:Program} {w:World} {A:Around} {E:Value→Shared→Prop} {s:Shared}
end
def gLst(K:PySem.W.Frag)(n:Nat)(t:TGs):TG:=fun v σ H Q=>∃a xs,v=.ref a∧SqL K H a xs∧xs.length=n∧t xs σ H Q
def ZgG(xs:List V)(lo hi:Option Int)(st:Int):List V :=
 (sliceRange (sliceBounds lo hi (some st) xs.length).1 (sliceBounds lo hi (some st) xs.length).2.1 (sliceBounds lo hi (some st) xs.length).2.2).filterMap fun i=>xs[i]?
theorem Zg0{xs:List V}{us:List Value}(r:Zy xs us):∀is:List Nat,Zy (is.filterMap fun i=>xs[i]?) (is.filterMap fun i=>us[i]?)
 | []=>.nil
 | i::is=>by
  have ih:=Zg0 r is
  by_cases hi:i<xs.length
  ·have e1:xs[i]? = some xs[i]:=Qb hi
   obtain⟨u,hu,ru⟩:=r.get e1
   rw[Q8,Q8,e1,hu]
   exact .cons ru ih
  ·have e1:xs[i]? = none:=QE (by omega)
   have e2:us[i]? = none:=QE (by rw[← r.length];omega)
   rw[Q8,Q8,e1,e2]
   exact ih
def Zqv(X:Cx)(r:V→Option Int→Option Int→Int→Hp→VK→Prop):Prop :=
 ∀ (pins:List (Addr×Obj)) (s:Shared) (σ:St) (H:Hp) (x:V) (v vl vu vs:Value) (lo hi:Option Int) (st:Int) (sl:Addr) (Q:VK),Inv X pins σ H s→ZC x v→s.heap.IsSliceOf sl vl vu vs→IsPart vl lo→IsPart vu hi→IsPart vs (some st)→r x lo hi st H Q →
  ∃T id,typeLookup (.type T) "__getitem__" = pure (some (.builtin id))∧s.TypeIs v T∧wpAny (model X.prog X.w) X.A (getItem v (.ref sl)) (EP X pins σ Q) X.xe s
def ZsL(r:V→Option Int→Option Int→Int→Hp→VK→Prop)(te:TE)(tl th ts:TO):TE:=fun σ H Q=>te σ H fun x H1=>tl σ H1 fun l H2=>th σ H2 fun u H3=>ts σ H3 fun k H4=>∃i,k=some i∧r x l u i H4 Q
section
variable {X:Cx} {e st:Expr} {te:TE} {lo hi:Option Expr} {tl th ts:TO} {pos p2:Pos}
theorem Zlu{r:V→Option Int→Option Int→Int→Hp→VK→Prop}(hr:Zqv X r)(he:PE X e te)(hl:PO X lo tl)(hu:PO X hi th)(hst:PO X (some st) ts):PE X (.Subscript e (.Slice lo hi (some st) p2) pos) (ZsL r te tl th ts):=by
 intro pins s σ H Q I h
 refine Subscript_ (thn (he pins s σ H _ I h) ?_)
 rintro v s1 ⟨x,H1,I1,r1,q1⟩
 refine wpAny_Slice (thn (hl pins s1 σ H1 _ I1 q1) fun vl s2 ⟨l,H2,I2,pl,q2⟩=>thn (hu pins s2 σ H2 _ I2 q2) fun vu s3 ⟨u,H3,I3,pu,q3⟩=>thn (hst pins s3 σ H3 _ I3 q3) ?_)
 rintro vs s4 ⟨k,H4,I4,pk,q4⟩
 obtain⟨i,rfl,q4⟩:=q4
 have I5:Inv X pins σ H4 { s4 with heap:=s4.heap.push { cls:=.type "slice",data:=.fields #[vl,vu,vs] } }:=I4.kept (t':=s4.toks) fun b ob q=>Qo _ q
 obtain⟨T,id,hT,ht,hg⟩:=hr pins { s4 with heap:=s4.heap.push { cls:=.type "slice",data:=.fields #[vl,vu,vs] } } σ H4 x v vl vu vs l u i s4.heap.objs.size Q I5 r1 (Heap.IsSliceOf.new ..) pl pu pk q4
 show wpAny (model X.prog X.w) X.A (subscriptTail e (.Slice lo hi (some st) p2) v (.ref s4.heap.objs.size)) (EP X pins σ Q) X.xe { s4 with heap:=s4.heap.push { cls:=.type "slice",data:=.fields #[vl,vu,vs] } }
 exact tail_any (ops:=[v,.ref s4.heap.objs.size]) ht hT hg (by with_unfolding_all rfl)
def ZpJ(K:PySem.W.Frag):V→Option Int→Option Int→Int→Hp→VK→Prop:=fun x lo hi st H Q=>∃a xs,x=.ref a∧SqL K H a xs∧st≠0∧∀p,H p=none→Q (.ref p) (upd H p (.lst (ZgG xs lo hi st)))
theorem Zmw:Zqv X (ZpJ X.K):=by
 intro pins s σ H x v vl vu vs lo hi st sl Q I rx hs pl pu pk h
 obtain⟨a,xs,rfl,hx,hne,q⟩:=h
 cases rx
 obtain⟨its,r,ht,hz⟩:=I.list hx
 have hlen:=r.length
 refine⟨"list",_,slot_list_getitem.lookup,ht.isList.typeIs,?_⟩
 refine wpAny_getItem_list_slice ht.isList hs pl pu pk (by intro e;exact hne (Qp e)) ?_ (by rw[Qw]<;>omega)
 have hsz:=slicePick_size_le its.toArray lo hi (some st)
 have hv:Zy (ZgG xs lo hi st) (slicePick its.toArray lo hi (some st)).toList:=by
  unfold slicePick ZgG
  simp only[List.size_toArray,← hlen]
  have:=Zg0 r (sliceRange (sliceBounds lo hi (some st) xs.length).1 (sliceBounds lo hi (some st) xs.length).2.1 (sliceBounds lo hi (some st) xs.length).2.2)
  simpa using this
 refine⟨.ref s.heap.objs.size,_,I.laid (t':=s.toks) (o:=.lst (ZgG xs lo hi st)) (fun b ob q=>Qo _ q) (Qh _) ?_,rfl,q _ (I.hok.fresh (Qh _))⟩
 refine⟨?_,(slicePick its.toArray lo hi (some st)).toList,0,hv,?_⟩
 ·have e1:its.toArray.size=xs.length:=by rw[Qw];exact hlen.symm
  rw[hv.length,QaD]
  exact QP hsz (by rw[e1];exact hz)
 ·simpa using QJ _ rfl
theorem Zs2(K:PySem.W.Frag)(h:X.K=K:=by rfl):Zqv X (ZpJ K):=by subst h;exact Zmw
end
theorem Zfm(n:Nat):sliceRange ((n:Int)-1) (-1) (-1)=(List.range n).map fun i=>n-1-i:=by
 unfold sliceRange
 have hc:(if (-1:Int)>0 then (if (n:Int)-1 < -1 then (-1-((n:Int)-1) + -1-1) / -1 else 0) else (if (n:Int)-1 > -1 then ((n:Int)-1 - -1 - -1-1) / (- -1) else 0)).toNat=n:=by
  rw[if_neg (by decide)]
  by_cases h:(n:Int)-1 > -1
  ·rw[if_pos h,show (- -1:Int)=1 by decide,Int.ediv_one];omega
  ·rw[if_neg h];omega
 simp only[]
 rw[hc]
 apply QK
 intro k hk
 have:=QX.mp hk
 omega
theorem Zgy{α:Type}(xs:List α):((List.range xs.length).map fun i=>xs.length-1-i).filterMap (fun i=>xs[i]?)=xs.reverse:=by
 rw[List.filterMap_map]
 have e:∀n,n≤xs.length→(List.range n).filterMap ((fun i=>xs[i]?) ∘ fun i=>xs.length-1-i)=xs.reverse.take n:=by
  intro n
  induction n with
  | zero=>intro _;rfl
  | succ n ih =>
   intro hn
   rw[Qag,List.filterMap_append,ih (by omega)]
   have h1:xs[xs.length-1-n]? = some xs[xs.length-1-n]:=Qb (by omega)
   rw[Q8]
   simp only[Function.comp,h1,List.filterMap_nil]
   rw[QH,List.getElem?_reverse (by omega),h1]
   rfl
 rw[e _ (Qh _)]
 exact Qx (by simp)
theorem ZlV(xs:List V):ZgG xs none none (-1)=xs.reverse:=by
 have e:sliceRange (sliceBounds none none (some (-1)) xs.length).1 (sliceBounds none none (some (-1)) xs.length).2.1 (sliceBounds none none (some (-1)) xs.length).2.2=sliceRange ((xs.length:Int)-1) (-1) (-1):=rfl
 unfold ZgG
 rw[e,Zfm,Zgy]
section
variable {X:Cx}
def rInsert:V→List V→Hp→VK→Prop:=fun x vs H Q=>∃l xs i y,x=.ref l∧vs=[.int i,y]∧H l=some (.lst xs)∧0≤i∧i≤xs.length∧xs.length<sizeLine∧Q .non (upd H l (.lst (xs.take i.toNat++y::xs.drop i.toNat)))
def rBits:V→List V→Hp→VK→Prop:=fun x vs H Q=>∃i,x=.int i∧vs=[]∧Q (.int (Builtin.Int.intBits i:Nat)) H
theorem inQ(K:PySem.W.Frag)(h:X.K=K:=by rfl):OpR X (compareOp .In) (rIn K false):=by subst h;exact ZlI
def rTupQ(K:PySem.W.Frag):List V→Hp→VK→Prop:=fun xs H Q=>∃p ys,xs=[.ref p]∧((SqL K H p ys∧∀l,H l=none→Q (.ref l) (upd H l (.tup ys)))∨(SqT K H p ys∧Q (.ref p) H))
end
def Its(z:Str):It:=⟨fun i _=>i<z.cps.size,fun i H v H'=>H'=H∧∃c,z.cps[i]? = some c∧v=.str ⟨#[c]⟩,fun i _=>z.cps.size≤i⟩
section
variable {X:Cx} {tg:Expr}
def iStr(tl:TE):TI:=fun σ H R=>tl σ H fun x H1=>∃z,x=.str z∧R (Its z) H1
theorem ZoL:OpR X (compareOp .IsNot) (fun x y H Q=>∃a b,x=.bl a∧y=.bl b∧Q (.bl (!decide (a=b))) H):=by
 intro pins s σ H x y v u Q I rx ry h
 obtain⟨a,b,rfl,rfl,q⟩:=h
 cases rx
 cases ry
 exact wpAny_isNot_plain rfl (ZaS I q (by cases a<;>cases b<;>rfl))
end
def ZsO:PyData→Str
 | .str z=>z
 | d=>d.shown
def rStrD(K:PySem.W.Frag):List V→Hp→VK→Prop:=fun xs H Q=>∃x d,xs=[x]∧DV K H x d∧PyData.layable0 d=true∧d.intsShort 13=true∧d.showable=true∧Q (.str (ZsO d)) H
def Zbs(kvs:List (List Key×V))(k:List Key):Option V:=(kvs.find? fun kv=>decide (kv.1=k)).map (·.2)
abbrev Zfj(H:Hp):List (List Key×V)→List (List Key×Addr×Value)→Prop:=Paired fun (p:List Key×V) (q:List Key×Addr×Value)=>p.1=q.1∧H q.2.1=some (.tup (p.1.map kV))∧ZC p.2 q.2.2
theorem Zld{H:Hp}{kvs:List (List Key×V)}{xs:List (List Key×Addr×Value)}(r:Zfj H kvs xs){p:List Key×V}{q:List Key×Addr×Value}(h:p.1=q.1∧H q.2.1=some (.tup (p.1.map kV))∧ZC p.2 q.2.2):Zfj H (kvs++[p]) (xs++[q]):=by
 induction r with
 | nil=>exact .cons h .nil
 | cons a t ih=>exact .cons a ih
theorem Zk9{H H':Hp}{kvs:List (List Key×V)}{xs:List (List Key×Addr×Value)}(k:∀b ys,H b=some (.tup ys)→H' b=some (.tup ys))(r:Zfj H kvs xs):Zfj H' kvs xs:=by
 induction r with
 | nil=>exact .nil
 | cons a t ih=>exact .cons ⟨a.1,k _ _ a.2.1,a.2.2⟩ ih
theorem ZiG{H:Hp}{R:List Key→Addr→Prop}(k:∀ks b,H b=some (.tup (ks.map kV))→R ks b){kvs:List (List Key×V)}{xs:List (List Key×Addr×Value)}(r:Zfj H kvs xs):∀x∈xs,R x.1 x.2.1:=by
 induction r with
 | nil=>intro x hx;cases hx
 | cons a t ih =>
  intro x hx
  rcases QI.mp hx with rfl|hx
  ·exact k _ _ (by rw[← a.1];exact a.2.1)
  ·exact ih x hx
theorem ZmV{H:Hp}{kvs:List (List Key×V)}{xs:List (List Key×Addr×Value)}(r:Zfj H kvs xs):kvs.length=xs.length:=by
 induction r with
 | nil=>rfl
 | cons a t ih=>rw[QD,QD,ih]
theorem Zqq{P:Program}{w:World}{k:Key}{u:Value}(r:ZC (kV k) u):(ZL P w).is k u=true:=by
 rcases k with i|x
 ·obtain⟨t,e⟩:=(show ∃t,u=Value.int i t from r)
  rw[e]
  exact Zfg P w i t
 ·obtain⟨t,e⟩:=(show ∃t,u=Value.str x t from r)
  rw[e]
  exact Zfb P w x t
theorem Zf3{P:Program}{w:World}:∀ (ks:List Key) (us:List Value),Zy (ks.map kV) us→ItemsAre (ZL P w) ks us:=by
 intro ks
 induction ks with
 | nil=>intro us r;cases (show Zy [] us from r);exact .nil
 | cons k ks ih =>
  intro us r
  cases (show Zy (kV k::ks.map kV) us from r) with
  | cons a b=>exact .cons (Zqq a) (ih _ b)
section
variable {X:Cx} {pins:List (Addr×Obj)} {σ:St} {H:Hp} {s:Shared}
theorem Inv.tkey{ks:List Key}{b:Addr}(I:Inv X pins σ H s)(e:H b=some (.tup (ks.map kV))):(tupleKind (ZL X.prog X.w)).is s.heap ks b:=by
 obtain⟨_,its,r,hb⟩:=I.hok b _ e
 obtain⟨o,h1,h2,n,h3⟩:=hb
 refine⟨o,its.toArray,n,h1,h2,h3,?_⟩
 have:=Zf3 (P:=X.prog) (w:=X.w) ks its r
 simpa using this
def ZsG:TE:=fun _ H Q=>∀p,H p=none→Q (.ref p) (upd H p (.dT []))
theorem ZhK{pos:Pos}:PE X (.Dict [] [] pos) ZsG:=by
 intro pins s σ H Q I h
 have hb:sysModules<s.heap.objs.size:=Nat.lt_trans (by decide) (show mainGlobals<s.heap.objs.size from(I.mod.glob.keeps I.bk).lt)
 refine wpAny_Dict_empty ⟨.ref s.heap.objs.size,upd H s.heap.objs.size (.dT []),?_,rfl,h _ (I.hok.fresh (Qh _))⟩
 refine I.laid (t':=s.toks) (fun _ _ q=>Qo _ q) (Qh _) ?_
 refine⟨Qv _,?_,[],.nil,_,#[],0,QJ _ rfl,⟨rfl,rfl,rfl⟩,rfl,rfl,List.nodup_nil⟩
 exact beq_eq_false_iff_ne.mpr fun z=>Qau _ (z ▸ hb)
end
def rSetDef:V→List V→Hp→VK→Prop:=fun x vs H Q=>∃d kvs b ks y,x=.ref d∧vs=[.ref b,y]∧H d=some (.dT kvs)∧H b=some (.tup (ks.map kV))∧kvs.length<sizeLine ∧
 (∀v,Zbs kvs ks=some v→Q v H)∧(Zbs kvs ks=none→Q y (upd H d (.dT (kvs++[(ks,y)]))))
def Zts:List V→Hp→VK→Prop:=fun xs H Q=>∃j:Int,xs=[.int j]∧∀p,H p=none→Q (.ref p) (upd H p (.rng 0 j))
def Ztr:List V→Hp→VK→Prop:=fun xs H Q=>∃i j:Int,xs=[.int i,.int j]∧∀p,H p=none→Q (.ref p) (upd H p (.rng i j))
def ZT(lo:Int)(n:Nat):List Int:=(List.range n).map fun (k:Nat)=>lo+k
theorem Zao(lo:Int)(n:Nat):(ZT lo n).length=n:=by simp[ZT]
def rListR:List V→Hp→VK→Prop:=fun xs H Q=>∃ (p:Addr) (lo hi:Int),xs=[.ref p]∧H p=some (.rng lo hi) ∧ -(2 ^ 62)≤lo∧lo<2 ^ 62 ∧ -(2 ^ 62)≤hi∧hi<2 ^ 62∧(hi-lo).toNat≤1000 ∧
 ∀l,H l=none→Q (.ref l) (upd H l (.lst ((ZT lo (hi-lo).toNat).map V.int)))
section
variable {prog:Program} {w:World} {A:Around} {E:Value→Shared→Prop} {s:Shared}
end
section
variable {X:Cx}
def rSlTS(K:PySem.W.Frag):V→Option Int→Option Int→Int→Hp→VK→Prop:=fun x lo hi st H Q=>∃a xs,x=.ref a∧SqT K H a xs∧lo=none∧hi=none∧st = -1∧∀p,H p=none→Q (.ref p) (upd H p (.tup xs.reverse))
def rExtendT(K:PySem.W.Frag):V→List V→Hp→VK→Prop:=fun x vs H Q=>∃l b xs zs,x=.ref l∧vs=[.ref b]∧H l=some (.lst xs)∧H b=some (.tup zs)∧xs.length+zs.length≤sizeLine∧Q .non (upd H l (.lst (xs++zs)))
theorem Zbb{prog:Program}{w:World}{A:Around}{E:Value→Shared→Prop}{s:Shared}{a:Addr}{o:Obj}{xs:Array Value}{n:Nat}{Q:Array Value→Shared→Prop}(ho:s.heap.get? a=some o)(hd:o.data=.seq xs n)(h:Q xs s):wpAny (model prog w) A (Builtin.List.listItems (.ref a)) Q E s:=by
 unfold Builtin.List.listItems
 exact wpAny_bind (wpAny_seqItems ho hd (wpAny_pure h))
def gSlice(to:TE)(tl th:TO):TG:=fun v σ H Q=>to σ H fun o H1=>tl σ H1 fun l H2=>th σ H2 fun u H3=>∃ (p b:Addr) (xs ys:List V) (a c:Int),o=.ref p∧v=.ref b∧l=some a∧u=some c∧H3 p=some (.lst xs)∧H3 b=some (.lst ys)∧p≠b∧0≤a∧a≤c∧c≤xs.length∧xs.length+ys.length≤sizeLine ∧
 Q σ (upd H3 p (.lst (xs.take a.toNat++ys++xs.drop c.toNat)))
def rSumB(K:PySem.W.Frag):List V→Hp→VK→Prop:=fun vs H Q=>∃ (p:Addr) (ns:List Int),vs=[.ref p]∧SqL K H p (ns.map V.int)∧ns.length≤1000∧(∀n∈ns,0≤n∧n≤10000000000)∧Q (.int ns.sum) H
theorem Zex(ns:List Int):∀n,n≤ns.length→preSum (fun j=>ns.getD j 0) n=(ns.take n).sum
 | 0,_=>rfl
 | n+1,h=>by
  have ih:=Zex ns n (by omega)
  have e:ns.take (n+1)=ns.take n++[ns.getD n 0]:=by
   rw[QH,Qb (by omega),Ql,Qb (by omega)]
   rfl
  rw[e,Qal,← ih]
  simp[preSum]
end
section
variable {prog:Program} {w:World} {A:Around} {E:Value→Shared→Prop} {s:Shared} {κ:PyProof.Rows.KeyKind} {k0:SortKind} {a₀:Array Keyed} {st:SortSt}
def Zgu(prog:Program)(w:World)(A:Around)(s:Shared)(k0:SortKind)(κ:PyProof.Rows.KeyKind):Prop :=
 ∀ (E:Value→Shared→Prop) (x y:Value) (a b:κ.α) (Q:Bool→Shared→Prop),κ.keyOf x=some a→κ.keyOf y=some b→Q (κ.blt a b) s→wpAny (model prog w) A (keyLt' k0 x y) Q E s
structure SB (k0:SortKind) (a₀:Array Keyed) (st:SortSt):Prop where
 perm:(arrOf st).Perm a₀
 kind:kindOf st=k0
 failed:failedOf st=none
 pend:pendingOf st = #[]
theorem SB.size(B:SB k0 a₀ st):(arrOf st).size=a₀.size:=B.perm.size_eq
theorem SB.at(B:SB k0 a₀ st)(hk:PyProof.Rows.KeysOf κ a₀){i:Nat}(hi:i<a₀.size):∃x p,(arrOf st)[i]? = some (x,p)∧κ.keyOf x=some (KK κ (arrOf st) i):=by
 have hs:=B.size
 have e:(arrOf st)[i]? = some (arrOf st)[i]:=Array.getElem?_eq_getElem (by omega)
 have hm:(arrOf st)[i]∈a₀.toList:=by
  have h1:(arrOf st)[i]∈arrOf st:=Array.getElem_mem (by omega)
  have h2:=(B.perm.mem_iff (a:=(arrOf st)[i])).mp h1
  simpa using h2
 obtain⟨a,ha⟩:=hk _ hm
 refine⟨(arrOf st)[i].1,(arrOf st)[i].2,e,?_⟩
 unfold KK
 rw[e]
 show _=some ((κ.keyOf (arrOf st)[i].1).getD κ.dflt)
 rw[ha]
 rfl
theorem SB.set(B:SB k0 a₀ st){xs:Array Keyed}(h:xs.Perm (arrOf st)):SB k0 a₀ (setArr st xs):=⟨h.trans B.perm,B.kind,B.failed,B.pend⟩
theorem w_elem{arr:Array Keyed}{i:Nat}{p:Keyed}{Q:Keyed→SortSt→Prop}(h:arr[i]? = some p)(q:Q p st):wpS (model prog w) A E s (elem' arr i) Q st:=by
 rw[elem'_eq,h]
 exact wpS_pure q
theorem w_lt(hL:Zgu prog w A s k0 κ)(hk:PyProof.Rows.KeysOf κ a₀)(B:SB k0 a₀ st){i j:Nat}(hi:i<a₀.size)(hj:j<a₀.size){Q:Option Bool→SortSt→Prop}(q:Q (some (κ.blt (KK κ (arrOf st) i) (KK κ (arrOf st) j))) st):wpS (model prog w) A E s (ltAt' i j) Q st:=by
 obtain⟨x,p,e1,k1⟩:=B.at hk hi
 obtain⟨y,p',e2,k2⟩:=B.at hk hj
 rw[ltAt'_eq]
 refine wpS_bind (wpS_get ?_)
 show wpS _ _ _ _ (elem' (arrOf st) i >>= _) _ _
 refine wpS_bind (w_elem e1 (wpS_bind (w_elem e2 ?_)))
 rw[lt'_eq]
 refine wpS_bind (wpS_get (wpS_bind (wpS_lift (wpAny_attempt ?_))))
 rw[B.kind]
 refine hL _ x y _ _ _ k1 k2 ⟨rfl,?_⟩
 exact wpS_pure q
theorem Zn2{xs:Array Keyed}{i:Nat}(h0:1≤i)(S:SortedToK κ xs i)(h:κ.kle (KK κ xs (i-1)) (KK κ xs i)):SortedToK κ xs (i+1):=by
 intro a b hab hb
 by_cases e:b<i
 ·exact S a b hab e
 ·have eb:b=i:=by omega
  subst eb
  by_cases ea:a=b
  ·subst ea;exact KeyOrd.kle_refl _
  ·exact KeyOrd.kle_trans (S a (b-1) (by omega) (by omega)) h
theorem w_asc(hL:Zgu prog w A s k0 κ)(hk:PyProof.Rows.KeysOf κ a₀){a nrem:Nat}(hn:nrem≤a₀.size)(h1:1≤a)(ha:a≤nrem)(B:SB k0 a₀ st)(S:SortedToK κ (arrOf st) a){Q:AscSt→SortSt→Prop}
  (q:∀n,a≤n→n≤nrem→SortedToK κ (arrOf st) n→(n=nrem∨κ.klt (KK κ (arrOf st) n) (KK κ (arrOf st) (n-1)))→Q (none,n) st):wpS (model prog w) A E s (ascLoop a nrem) Q st:=by
 unfold ascLoop
 refine wpS_forRange (fun i c st'=>st'=st∧c=(none,i)∧SortedToK κ (arrOf st) i) ?_ ?_ ⟨rfl,rfl,S⟩
 ·rintro i c st' hai hin ⟨rfl,rfl,S'⟩
  refine wpS_bind (w_lt hL hk B (by show i<_;omega) (by show i-1<_;omega) ?_)
  cases hb:κ.blt (KK κ (arrOf st') i) (KK κ (arrOf st') (i-1)) with
  | true=>exact wpS_pure (q i hai (by omega) S' (.inr hb))
  | false=>exact wpS_pure ⟨rfl,rfl,Zn2 (by omega) S' hb⟩
 ·rintro c st' ⟨rfl,rfl,S'⟩
  rw[show max a nrem=nrem by omega]at S' ⊢
  exact q nrem ha (Qh _) S' (.inl rfl)
theorem w_rev{i j:Nat}{Q:Unit→SortSt→Prop}(q:Q () (setArr st (mirror (arrOf st) i j ((j-i) / 2)))):wpS (model prog w) A E s (reverseSlice' i j) Q st:=wpS_reverse q
theorem ZsJ(st:SortSt)(xs:Array Keyed):arrOf (setArr st xs)=xs:=rfl
theorem w_desc(hL:Zgu prog w A s k0 κ)(hk:PyProof.Rows.KeysOf κ a₀){n nrem:Nat}(hn:nrem≤a₀.size)(h1:1≤n)(hnn:n≤nrem)(B:SB k0 a₀ st)(S:NonIncK κ (arrOf st) n){Q:DescSt→SortSt→Prop}
  (q:∀ (m neq:Nat) (st':SortSt),SB k0 a₀ st'→n≤m→m≤nrem→NonIncK κ (arrOf st') m→neq+1≤m→(∀i,m-(neq+1)≤i→i<m→KK κ (arrOf st') i=KK κ (arrOf st') (m-1))→Q (none,m,neq) st'):wpS (model prog w) A E s (descLoop n nrem) Q st:=by
 unfold descLoop
 refine wpS_forRange (fun i c st'=>∃neq,c=(none,i,neq)∧SB k0 a₀ st'∧n≤i∧i≤nrem∧NonIncK κ (arrOf st') i∧neq+1≤i∧(∀k,i-(neq+1)≤k→k<i→KK κ (arrOf st') k=KK κ (arrOf st') (i-1))) ?_ ?_ ?_
 ·rintro i c st' hai hin ⟨neq,rfl,B',hi1,hi2,N',hq,heq⟩
  have more:∀ (st2:SortSt),SB k0 a₀ st2→(∀k,KK κ (arrOf st2) k=KK κ (arrOf st') k)→κ.kle (KK κ (arrOf st') i) (KK κ (arrOf st') (i-1))→NonIncK κ (arrOf st2) (i+1):=fun st2 B2 e hle a b hab hb=>by
   rw[e a,e b]
   by_cases hbi:b<i
   ·exact N' a b hab hbi
   ·have eb:b=i:=by omega
    subst eb
    by_cases ea:a=b
    ·subst ea;exact KeyOrd.kle_refl _
    ·exact KeyOrd.kle_trans hle (N' a (b-1) (by omega) (by omega))
  refine wpS_bind (w_lt hL hk B' (by show i<_;omega) (by show i-1<_;omega) ?_)
  cases hb:κ.blt (KK κ (arrOf st') i) (KK κ (arrOf st') (i-1)) with
  | true =>
   have hle:κ.kle (KK κ (arrOf st') i) (KK κ (arrOf st') (i-1)):=KeyOrd.kle_of_klt hb
   show wpS _ _ _ _ (if neq>0 then _ else _) _ _
   by_cases h0:neq>0
   ·rw[if_pos h0]
    refine wpS_bind (w_rev (wpS_pure ?_))
    have e:∀k,KK κ (mirror (arrOf st') (i-(neq+1)) i ((i-(i-(neq+1))) / 2)) k=KK κ (arrOf st') k:=KK_mirror_equal (by rw[B'.size];omega) (fun k h1 h2=>heq k h1 h2)
    refine⟨0,rfl,B'.set (mirror_perm _ _ _ _),by omega,by omega,more _ (B'.set (mirror_perm _ _ _ _)) e hle,by omega,fun k h1 h2=>?_⟩
    have:k=i:=by omega
    subst this
    rfl
   ·rw[if_neg h0]
    refine wpS_pure ⟨0,rfl,B',by omega,by omega,more _ B' (fun _=>rfl) hle,by omega,fun k h1 h2=>?_⟩
    have:k=i:=by omega
    subst this
    rfl
  | false =>
   refine wpS_bind (w_lt hL hk B' (by show i-1<_;omega) (by show i<_;omega) ?_)
   cases hb2:κ.blt (KK κ (arrOf st') (i-1)) (KK κ (arrOf st') i) with
   | true=>exact wpS_pure (q i neq st' B' hi1 hi2 N' hq heq)
   | false =>
    have ee:=κ.total _ _ hb hb2
    refine wpS_pure ⟨neq+1,rfl,B',by omega,by omega,more _ B' (fun _=>rfl) hb2,by omega,fun k h1 h2=>?_⟩
    show KK κ (arrOf st') k=KK κ (arrOf st') i
    by_cases hki:k=i
    ·rw[hki]
    ·rw[ee];exact heq k (by omega) (by omega)
 ·rintro c st' ⟨neq,rfl,B',hi1,hi2,N',hq,heq⟩
  rw[show max n nrem=nrem by omega]at *
  exact q nrem neq st' B' hi1 hi2 N' hq heq
 ·refine⟨0,rfl,B,Qh _,hnn,S,by omega,fun k h1 h2=>?_⟩
  have:k=n-1:=by omega
  rw[this]
theorem w_tail(hL:Zgu prog w A s k0 κ)(hk:PyProof.Rows.KeysOf κ a₀){n nrem:Nat}(hn:nrem≤a₀.size)(h1:1≤n)(hnn:n≤nrem)(B:SB k0 a₀ st)(N:NonIncK κ (arrOf st) n){Q:Option Nat→SortSt→Prop}
  (q:∀ (m:Nat) (st':SortSt),SB k0 a₀ st'→1≤m→m≤nrem→SortedToK κ (arrOf st') m→Q (some m) st'):wpS (model prog w) A E s (tail3 n nrem) Q st:=by
 unfold tail3
 refine wpS_bind (w_rev ?_)
 have B':=B.set (mirror_perm (arrOf st) 0 n ((n-0) / 2))
 have e:=KK_mirror (κ:=κ) (xs:=arrOf st) (i:=0) (j:=n) (by rw[B.size];omega)
 have S:SortedToK κ (mirror (arrOf st) 0 n ((n-0) / 2)) n:=fun a b hab hb=>by
  rw[e a,e b,if_pos ⟨by omega,by omega⟩,if_pos ⟨by omega,by omega⟩]
  exact N _ _ (by omega) (by omega)
 refine wpS_bind (w_asc hL hk hn h1 hnn B' S fun m hm1 hm2 S' _=>?_)
 exact wpS_pure (q m _ B' (by omega) hm2 S')
theorem w_part(hL:Zgu prog w A s k0 κ)(hk:PyProof.Rows.KeysOf κ a₀){n nrem:Nat}(hn:nrem≤a₀.size)(hnn:n+1≤nrem)(B:SB k0 a₀ st)(N:NonIncK κ (arrOf st) (n+1)){Q:Option Nat→SortSt→Prop}
  (q:∀ (m:Nat) (st':SortSt),SB k0 a₀ st'→1≤m→m≤nrem→SortedToK κ (arrOf st') m→Q (some m) st'):wpS (model prog w) A E s (descPart n nrem) Q st:=by
 unfold descPart
 refine wpS_bind (wpS_lift (wpAny_rule ⟨rfl,?_⟩))
 refine wpS_bind (w_desc hL hk hn (by omega) hnn B N fun m neq st' B' m1 m2 N' hq heq=>?_)
 show wpS _ _ _ _ (if neq>0 then _ else _) _ _
 by_cases h0:neq>0
 ·rw[if_pos h0]
  refine wpS_bind (w_rev ?_)
  have e:∀k,KK κ (mirror (arrOf st') (m-(neq+1)) m ((m-(m-(neq+1))) / 2)) k=KK κ (arrOf st') k:=KK_mirror_equal (by rw[B'.size];omega) (fun k h1 h2=>heq k h1 h2)
  exact w_tail hL hk hn (by omega) m2 (B'.set (mirror_perm _ _ _ _)) (fun a b hab hb=>by rw[e a,e b];exact N' a b hab hb) q
 ·rw[if_neg h0]
  exact w_tail hL hk hn (by omega) m2 B' N' q
theorem w_count(hL:Zgu prog w A s k0 κ)(hk:PyProof.Rows.KeysOf κ a₀){nrem:Nat}(hn:nrem≤a₀.size)(h1:1≤nrem)(B:SB k0 a₀ st){Q:Option Nat→SortSt→Prop}
  (q:∀ (m:Nat) (st':SortSt),SB k0 a₀ st'→1≤m→m≤nrem→SortedToK κ (arrOf st') m→Q (some m) st'):wpS (model prog w) A E s (countRun' 0 nrem) Q st:=by
 rw[countRun0_eq]
 refine wpS_bind (w_asc hL hk hn (Qh 1) h1 B (fun a b hab hb=>by obtain rfl:a=b:=(by omega);exact KeyOrd.kle_refl _) fun n n1 n2 S hor=>?_)
 show wpS _ _ _ _ (if (n == nrem)=true then _ else _) _ _
 by_cases hnn:n=nrem
 ·rw[if_pos (by rw[hnn];exact beq_self_eq_true _)]
  exact wpS_pure (q n st B n1 n2 S)
 ·rw[if_neg (by intro z;exact hnn (eq_of_beq z))]
  have hlt:=hor.resolve_left hnn
  have flat:(∀k,k<n→KK κ (arrOf st) k=KK κ (arrOf st) (n-1))→NonIncK κ (arrOf st) (n+1):=fun hf a b hab hb=>by
   by_cases hbn:b<n
   ·rw[hf a (by omega),hf b hbn];exact KeyOrd.kle_refl _
   ·have eb:b=n:=by omega
    subst eb
    by_cases ea:a=b
    ·subst ea;exact KeyOrd.kle_refl _
    ·rw[hf a (by omega)];exact KeyOrd.kle_of_klt hlt
  by_cases hn1:n>1
  ·rw[if_pos hn1]
   refine wpS_bind (w_lt hL hk B (by omega) (by omega) ?_)
   cases hb:κ.blt (KK κ (arrOf st) 0) (KK κ (arrOf st) (n-1)) with
   | true=>exact wpS_pure (q n st B n1 n2 S)
   | false =>
    have hf:∀k,k<n→KK κ (arrOf st) k=KK κ (arrOf st) (n-1):=fun k hkn=>by
     have a1:κ.kle (KK κ (arrOf st) k) (KK κ (arrOf st) (n-1)):=S k (n-1) (by omega) (by omega)
     have a2:κ.kle (KK κ (arrOf st) (n-1)) (KK κ (arrOf st) k):=KeyOrd.kle_trans (show κ.kle (KK κ (arrOf st) (n-1)) (KK κ (arrOf st) 0) from hb) (S 0 k (by omega) (by omega))
     exact KeyOrd.kle_antisymm a1 a2
    refine wpS_bind (w_rev ?_)
    have e:∀k,KK κ (mirror (arrOf st) 0 n ((n-0) / 2)) k=KK κ (arrOf st) k:=KK_mirror_equal (by rw[B.size];omega) (fun k _ h2=>hf k h2)
    exact w_part hL hk hn (by omega) (B.set (mirror_perm _ _ _ _)) (fun a b hab hb=>by rw[e a,e b];exact flat hf a b hab hb) q
  ·rw[if_neg hn1]
   exact w_part hL hk hn (by omega) B (flat fun k hkn=>by rw[show k=n-1 by omega]) q
theorem w_binary(hL:Zgu prog w A s k0 κ)(hk:PyProof.Rows.KeysOf κ a₀){n ok:Nat}(hn:n≤a₀.size)(h1:ok≤n)(h0:1≤ok)(B:SB k0 a₀ st)(S:SortedToK κ (arrOf st) ok){Q:Bool→SortSt→Prop}
  (q:∀ (st':SortSt),SB k0 a₀ st'→SortedToK κ (arrOf st') n→Q true st'):wpS (model prog w) A E s (binarySort' 0 n ok) Q st:=by
 rw[binarySort'_eq]
 refine wpS_bind ?_
 refine wpS_forRange (fun i c st'=>c=(none,())∧SB k0 a₀ st'∧SortedToK κ (arrOf st') i) ?_ ?_ ⟨rfl,B,by rw[show max ok 1=ok by omega];exact S⟩
 ·rintro k c st' hak hkn ⟨rfl,B',S'⟩
  have k1:1≤k:=by omega
  refine wpS_bind ?_
  refine wpS_forRange (fun i c st2=>∃l r,c=(none,l,r)∧st2=st'∧l≤r∧r≤k∧r-l≤k-i∧(∀j,j<l→κ.kle (KK κ (arrOf st') j) (KK κ (arrOf st') k))∧(∀j,r≤j→j<k→κ.klt (KK κ (arrOf st') k) (KK κ (arrOf st') j))) ?_ ?_ ⟨0,k,rfl,rfl,Qv _,Qh _,by omega,fun j h=>by omega,fun j h1 h2=>by omega⟩
  ·rintro i c st2 hi0 hik ⟨l,r,rfl,rfl,hlr,hrk,hm,hlo,hhi⟩
   show wpS _ _ _ _ (if l≥r then _ else _) _ _
   by_cases hge:l≥r
   ·rw[if_pos hge]
    refine wpS_pure ?_
    have elr:l=r:=by omega
    subst elr
    refine wpS_bind ?_
    rw[moveDown'_eq]
    refine wpS_modify (wpS_pure ?_)
    have eb:=KK_bubble (κ:=κ) (xs:=arrOf st2) (src:=0+k) (d:=0+k-(0+l)) (by rw[B'.size];omega) (by omega)
    refine⟨rfl,B'.set (bubble_perm _ _ _),fun a b hab hb=>?_⟩
    show κ.kle (KK κ (bubble (arrOf st2) (0+k) (0+k-(0+l))) a) (KK κ (bubble (arrOf st2) (0+k) (0+k-(0+l))) b)
    rw[eb a,eb b]
    rw[show 0+k=k by omega,show 0+l=l by omega,show k-(k-l)=l by omega]
    by_cases ha:a=l
    ·rw[if_pos ha]
     by_cases hbl:b=l
     ·rw[if_pos hbl];exact KeyOrd.kle_refl _
     ·rw[if_neg hbl,if_pos ⟨by omega,by omega⟩]
      exact KeyOrd.kle_of_klt (hhi (b-1) (by omega) (by omega))
    ·rw[if_neg ha]
     by_cases hal:a<l
     ·rw[if_neg (by omega)]
      by_cases hbl:b=l
      ·rw[if_pos hbl];exact hlo a hal
      ·rw[if_neg hbl]
       by_cases hbb:l<b
       ·rw[if_pos ⟨hbb,by omega⟩];exact S' a (b-1) (by omega) (by omega)
       ·rw[if_neg (by omega)];exact S' a b hab (by omega)
     ·rw[if_pos ⟨by omega,by omega⟩,if_neg (by omega),if_pos ⟨by omega,by omega⟩]
      exact S' (a-1) (b-1) (by omega) (by omega)
   ·rw[if_neg hge]
    refine wpS_bind (w_lt hL hk B' (by show 0+k<_;omega) (by show 0+(l+r) / 2<_;omega) ?_)
    rw[show 0+k=k by omega,show 0+(l+r) / 2=(l+r) / 2 by omega]
    cases hb:κ.blt (KK κ (arrOf st2) k) (KK κ (arrOf st2) ((l+r) / 2)) with
    | true =>
     refine wpS_pure ⟨l,(l+r) / 2,rfl,rfl,by omega,by omega,by omega,hlo,fun j h1 h2=>?_⟩
     exact KeyOrd.klt_of_klt_of_kle hb (S' _ j h1 h2)
    | false =>
     refine wpS_pure ⟨(l+r) / 2+1,r,rfl,rfl,by omega,by omega,by omega,fun j h=>?_,hhi⟩
     exact KeyOrd.kle_trans (S' j ((l+r) / 2) (by omega) (by omega)) hb
  ·rintro c st2 ⟨l,r,rfl,rfl,hlr,hrk,hm,hlo,hhi⟩
   have elr:l=r:=by omega
   subst elr
   refine wpS_bind ?_
   rw[moveDown'_eq]
   refine wpS_modify (wpS_pure ?_)
   have eb:=KK_bubble (κ:=κ) (xs:=arrOf st2) (src:=0+k) (d:=0+k-(0+l)) (by rw[B'.size];omega) (by omega)
   refine⟨rfl,B'.set (bubble_perm _ _ _),fun a b hab hb=>?_⟩
   show κ.kle (KK κ (bubble (arrOf st2) (0+k) (0+k-(0+l))) a) (KK κ (bubble (arrOf st2) (0+k) (0+k-(0+l))) b)
   rw[eb a,eb b]
   rw[show 0+k=k by omega,show 0+l=l by omega,show k-(k-l)=l by omega]
   by_cases ha:a=l
   ·rw[if_pos ha]
    by_cases hbl:b=l
    ·rw[if_pos hbl];exact KeyOrd.kle_refl _
    ·rw[if_neg hbl,if_pos ⟨by omega,by omega⟩]
     exact KeyOrd.kle_of_klt (hhi (b-1) (by omega) (by omega))
   ·rw[if_neg ha]
    by_cases hal:a<l
    ·rw[if_neg (by omega)]
     by_cases hbl:b=l
     ·rw[if_pos hbl];exact hlo a hal
     ·rw[if_neg hbl]
      by_cases hbb:l<b
      ·rw[if_pos ⟨hbb,by omega⟩];exact S' a (b-1) (by omega) (by omega)
      ·rw[if_neg (by omega)];exact S' a b hab (by omega)
    ·rw[if_pos ⟨by omega,by omega⟩,if_neg (by omega),if_pos ⟨by omega,by omega⟩]
     exact S' (a-1) (b-1) (by omega) (by omega)
 ·rintro c st' ⟨rfl,B',S'⟩
  rw[show max (max ok 1) n=n by omega]at S'
  exact wpS_pure (q st' B' S')
theorem w_runs(hL:Zgu prog w A s k0 κ)(hk:PyProof.Rows.KeysOf κ a₀)(B:SB k0 a₀ st)(h2:2≤a₀.size)(h64:a₀.size<64){Q:Unit→SortSt→Prop}
  (q:∀ (st':SortSt),(arrOf st').Perm a₀→failedOf st'=none→SortedToK κ (arrOf st') a₀.size→Q () st'):wpS (model prog w) A E s sortRuns' Q st:=by
 rw[sortRuns'_eq]
 refine wpS_bind (wpS_get ?_)
 have hsz:=B.size
 have hmin:minRun' (arrOf st).size (arrOf st).size 0=(arrOf st).size:=by
  obtain⟨f,hf⟩:∃f,(arrOf st).size=f+1:=⟨(arrOf st).size-1,by omega⟩
  rw[show minRun' (arrOf st).size (arrOf st).size 0=minRun' (f+1) (arrOf st).size 0 by rw[← hf],minRun'_succ,if_pos (by omega)]
  rfl
 refine wpS_bind ?_
 refine wpS_forRange (fun i c st'=>(i=0∧c=(none,0)∧st'=st)∨(i≠0∧c=(none,a₀.size)∧(arrOf st').Perm a₀∧failedOf st'=none∧(pendingOf st').size≤1∧SortedToK κ (arrOf st') a₀.size)) ?_ ?_ (.inl ⟨rfl,rfl,rfl⟩)
 ·rintro i c st' hi0 hi ⟨⟩
  ·rename_i h
   obtain⟨rfl,rfl,rfl⟩:=h
   show wpS _ _ _ _ (if 0≥(arrOf st').size then _ else _) _ _
   rw[if_neg (by omega)]
   refine wpS_bind ?_
   rw[show (arrOf st').size-0=a₀.size by omega]
   refine w_count hL hk (Qh _) (by omega) B fun m st2 B2 m1 m2 S2=>?_
   have push:∀ (st3:SortSt),SB k0 a₀ st3→SortedToK κ (arrOf st3) a₀.size→(arrOf (setPending st3 ((pendingOf st3).push (0,a₀.size,0)))).Perm a₀∧failedOf (setPending st3 ((pendingOf st3).push (0,a₀.size,0)))=none∧(pendingOf (setPending st3 ((pendingOf st3).push (0,a₀.size,0)))).size≤1∧SortedToK κ (arrOf (setPending st3 ((pendingOf st3).push (0,a₀.size,0)))) a₀.size:=fun st3 B3 S3 =>
    ⟨B3.perm,B3.failed,by show ((pendingOf st3).push (0,a₀.size,0)).size≤1;rw[B3.pend,Array.size_push];exact Qh _,S3⟩
   show wpS _ _ _ _ (if m<minRun' (arrOf st').size (arrOf st').size 0 then _ else _) _ _
   rw[hmin,hsz]
   by_cases hm:m<a₀.size
   ·rw[if_pos hm]
    refine wpS_bind (wpS_lift (wpAny_rule ⟨rfl,?_⟩))
    show wpS _ _ _ _ (binarySort' 0 (min a₀.size a₀.size) m >>= _) _ _
    rw[Nat.min_self]
    refine wpS_bind (w_binary hL hk (Qh _) (by omega) m1 B2 S2 fun st3 B3 S3=>?_)
    show wpS _ _ _ _ (get >>= _) _ _
    refine wpS_bind (wpS_get ?_)
    show wpS _ _ _ _ (match (pendingOf st3).back? with|some (s1,n1,snd)=>_|x=>_) _ _
    rw[show (pendingOf st3).back? = none by rw[B3.pend];rfl]
    show wpS _ _ _ _ (modify _ >>= _) _ _
    refine wpS_bind (wpS_modify (wpS_pure (.inr ⟨by omega,?_,push st3 B3 S3⟩)))
    show (none,0+a₀.size)=(none,a₀.size)
    rw[Nat.zero_add]
   ·rw[if_neg hm]
    have em:m=a₀.size:=by omega
    subst em
    show wpS _ _ _ _ (get >>= _) _ _
    refine wpS_bind (wpS_get ?_)
    show wpS _ _ _ _ (match (pendingOf st2).back? with|some (s1,n1,snd)=>_|x=>_) _ _
    rw[show (pendingOf st2).back? = none by rw[B2.pend];rfl]
    show wpS _ _ _ _ (modify _ >>= _) _ _
    refine wpS_bind (wpS_modify (wpS_pure (.inr ⟨by omega,?_,push st2 B2 S2⟩)))
    show (none,0+a₀.size)=(none,a₀.size)
    rw[Nat.zero_add]
  ·rename_i h
   obtain⟨hne,rfl,p1,p2,p3,p4⟩:=h
   show wpS _ _ _ _ (if a₀.size≥(arrOf st).size then _ else _) _ _
   rw[if_pos (by omega)]
   refine wpS_pure ?_
   show wpS _ _ _ _ (forIn [:(arrOf st).size] (none,()) _ >>= _) _ _
   refine wpS_bind ?_
   refine wpS_forRange (fun i c st2=>c=(none,())∧st2=st') ?_ ?_ ⟨rfl,rfl⟩
   ·rintro i c st2 _ _ ⟨rfl,rfl⟩
    show wpS _ _ _ _ (get >>= _) _ _
    refine wpS_bind (wpS_get ?_)
    show wpS _ _ _ _ (if (pendingOf st2).size≤1 then _ else _) _ _
    rw[if_pos p3]
    exact wpS_pure (wpS_pure (q _ p1 p2 p4))
   ·rintro c st2 ⟨rfl,rfl⟩
    exact wpS_pure (q _ p1 p2 p4)
 ·rintro c st' ⟨⟩
  ·rename_i h
   exact absurd h.1 (by omega)
  ·rename_i h
   obtain⟨hne,rfl,p1,p2,p3,p4⟩:=h
   show wpS _ _ _ _ (forIn [:(arrOf st).size] (none,()) _ >>= _) _ _
   refine wpS_bind ?_
   refine wpS_forRange (fun i c st2=>c=(none,())∧st2=st') ?_ ?_ ⟨rfl,rfl⟩
   ·rintro i c st2 _ _ ⟨rfl,rfl⟩
    show wpS _ _ _ _ (get >>= _) _ _
    refine wpS_bind (wpS_get ?_)
    show wpS _ _ _ _ (if (pendingOf st2).size≤1 then _ else _) _ _
    rw[if_pos p3]
    exact wpS_pure (wpS_pure (q _ p1 p2 p4))
   ·rintro c st2 ⟨rfl,rfl⟩
    exact wpS_pure (q _ p1 p2 p4)
end
section
variable {prog:Program} {w:World} {A:Around} {E:Value→Shared→Prop} {s:Shared} {κ:PyProof.Rows.KeyKind}
theorem w_sort{a:Addr}{vs:List Value}{n:Nat}{P:PySem.Fin→Shared→Prop}(ha:s.heap.get? a=some (seqObj "list" vs.toArray n))(hk:PyProof.Rows.KeysOf κ (pairsOf vs))(h2:2≤vs.length)(h64:vs.length<64)
  (hK:∀ (s':Shared),(∀b o,b≠a→s.heap.get? b=some o→s'.heap.get? b=some o)→∀ (E:Value→Shared→Prop) (Q:SortKind→Shared→Prop),(∀k0,Zgu prog w A s' k0 κ→Q k0 s')→wpAny (model prog w) A (keyKind' vs.toArray) Q E s')
  (q:∀ (st':SortSt),(arrOf st').Perm (pairsOf vs)→SortedToK κ (arrOf st') (pairsOf vs).size→P (Fin.done (Flow.ret Value.none)) { s with heap:=sortedHeap s.heap a vs ((arrOf st').map fun x=>x.snd) }) :
  wpAny (model prog w) A (Builtin.«list.sort» { pos:=[.ref a] }) P E s:=by
 have hz:vs.toArray.size≤sizeLine:=by rw[Qw,sizeLine_eq];omega
 rw[list_sort_plain]
 refine wpAny_bind (Zbb ha rfl ?_)
 show wpAny _ _ (updateSeq a (fun x=>#[]) >>= _) _ _ _
 refine wpAny_bind (wpAny_updateSeq ha rfl ?_ hz (by show 0≤_;omega))
 have e1:=get?_update_seq ha (fun _=>#[])
 refine wpAny_bind (seqEpoch_at e1 rfl ?_)
 refine wpAny_bind (wpAny_newTuple ?_ (by simpa using hz))
 refine wpAny_bind (wpAny_newList ?_ (by show 0≤_;omega))
 refine wpAny_holding ?_
 have hn2:¬ vs.toArray.size<2:=by rw[Qw];omega
 have hps:(pairsOf vs).size=vs.length:=by unfold pairsOf;simp
 rw[if_neg hn2,if_neg hn2]
 have keep:∀b o,b≠a→s.heap.get? b=some o→(((s.heap.update a (Obj.mapSeq fun _=>#[])).push { cls:=.type "tuple",data:=.seq vs.toArray.toList.toArray }).push { cls:=.type "list",data:=.seq ([]:List Value).toArray }).get? b=some o:=fun b o hb h =>
  Qo _ (Qo _ (Q6 _ (Ne.symm hb) h))
 have e2:(((s.heap.update a (Obj.mapSeq fun _=>#[])).push { cls:=.type "tuple",data:=.seq vs.toArray.toList.toArray }).push { cls:=.type "list",data:=.seq ([]:List Value).toArray }).get? a=some (seqObj "list" #[] _):=Qo _ (Qo _ e1)
 refine wpAny_bind (hK _ keep _ _ fun k0 hL=>?_)
 refine wpAny_bind ?_
 have B:SB k0 (pairsOf vs) (SortSt.mk' k0 (vs.toArray.zip vs.toArray) #[] 7 none):=⟨Array.Perm.refl _,rfl,rfl,rfl⟩
 refine thn (w_runs (E:=E) hL hk B (by rw[hps];exact h2) (by rw[hps];exact h64) (Q:=fun _ st'=>(arrOf st').Perm (pairsOf vs)∧failedOf st'=none∧SortedToK κ (arrOf st') (pairsOf vs).size) (fun st' a b c=>⟨a,b,c⟩)) fun r s' hr=>?_
 obtain⟨⟨⟩,st'⟩:=r
 obtain⟨rfl,p1,p2,p3⟩:=hr
 refine wpAny_bind (seqEpoch_at e2 rfl ?_)
 have hsz:((arrOf st').map fun x=>x.snd).size=vs.length:=by rw[Array.size_map,p1.size_eq,hps]
 show wpAny _ _ (updateSeq a (fun x=>(arrOf st').map fun x=>x.snd) >>= _) _ _ _
 refine wpAny_bind (wpAny_updateSeq e2 rfl ?_ (by show 0≤_;omega) (by show ((arrOf st').map fun x=>x.snd).size≤_;rw[hsz];rw[Qw]at hz;omega))
 rw[p2]
 rw[if_neg (by simp)]
 exact wpAny_pure (q st' p1 p3)
theorem w_sorted{l:Addr}{vs:List Value}{Q:Value→Shared→Prop}(hl:s.heap.IsList l vs.toArray)(hk:PyProof.Rows.KeysOf κ (pairsOf vs))(h2:2≤vs.length)(h64:vs.length<64)
  (hK:∀ (A:Around) (s':Shared),(∀b o,s.heap.get? b=some o→s'.heap.get? b=some o)→∀ (E:Value→Shared→Prop) (Q:SortKind→Shared→Prop),(∀k0,Zgu prog w A s' k0 κ→Q k0 s')→wpAny (model prog w) A (keyKind' vs.toArray) Q E s')
  (q:∀ (st':SortSt),(arrOf st').Perm (pairsOf vs)→SortedToK κ (arrOf st') (pairsOf vs).size→Q (.ref (s.heap.objs.size+1)) { s with heap:=sortedAll s.heap vs ((arrOf st').map fun x=>x.snd) }) :
  wpAny (model prog w) A (call (.builtin "sorted") [.ref l]) Q E s:=by
 refine Calls.call_function_entry kind_sorted plain_sorted entry_sorted (args_sorted1 (.ref l)) ?_
 have hz:vs.length≤sizeLine:=by rw[sizeLine_eq];omega
 refine wpAny_bind (wpAny_pure (wpAny_bind (collect_list hl (wpAny_bind (wpAny_newList ?_ hz)) hz)))
 have hsz:((s.heap.push (seqObj "list" #[] 0)).update s.heap.objs.size (Obj.mapSeq fun x=>x++vs.toArray)).objs.size=s.heap.objs.size+1:=by rw[Heap.size_update,size_push']
 have hoL:((((s.heap.push (seqObj "list" #[] 0)).update s.heap.objs.size (Obj.mapSeq fun x=>x++vs.toArray)).push (seqObj "list" vs.toArray 0)).get? (s.heap.objs.size+1))=some (seqObj "list" vs.toArray 0):=by
  rw[← hsz];exact QJ _ rfl
 have keep:∀b o,s.heap.get? b=some o→(((s.heap.push (seqObj "list" #[] 0)).update s.heap.objs.size (Obj.mapSeq fun x=>x++vs.toArray)).push (seqObj "list" vs.toArray 0)).get? b=some o:=fun b o h =>
  Qo _ (Q6 _ (Nat.ne_of_gt (QB h)) (Qo _ h))
 show wpAny _ _ (holding [.ref ((s.heap.push (seqObj "list" #[] 0)).update s.heap.objs.size (Obj.mapSeq fun x=>x++vs.toArray)).objs.size] (call (.builtin "list.sort") [.ref ((s.heap.push (seqObj "list" #[] 0)).update s.heap.objs.size (Obj.mapSeq fun x=>x++vs.toArray)).objs.size]) >>= fun _=>ret (.ref ((s.heap.push (seqObj "list" #[] 0)).update s.heap.objs.size (Obj.mapSeq fun x=>x++vs.toArray)).objs.size)) _ _ _
 rw[hsz]
 refine wpAny_bind (wpAny_holding (wpAny_call_entry slot_list_sort ⟨_,hoL,rfl⟩ entry_list_sort ?_ (args_list_sort _)))
 refine w_sort hoL hk h2 h64 (fun s' hk'=>hK _ s' fun b o h=>hk' b o (QU (QG (QB h) (Qaq _))) (keep b o h)) fun st' p1 p3=>?_
 exact⟨_,rfl,wpAny_pure ⟨_,rfl,q st' p1 p3⟩⟩
end
def kLt:Key→Key→Bool
 | .inl i,.inl j=>decide (i<j)
 | .inr x,.inr y=>decide (x.cps.toList<y.cps.toList)
 | .inl _,.inr _=>true
 | .inr _,.inl _=>false
theorem ZjB:∀a:Key,kLt a a=false
 | .inl i=>decide_eq_false (by omega)
 | .inr x=>decide_eq_false (List.lt_irrefl _)
theorem ZlP:∀a b c:Key,kLt a b=true→kLt b c=true→kLt a c=true
 | .inl i,.inl j,.inl k,h1,h2=>by have:=of_decide_eq_true h1;have:=of_decide_eq_true h2;exact decide_eq_true (by omega)
 | .inr x,.inr y,.inr z,h1,h2=>decide_eq_true (List.lt_trans (of_decide_eq_true h1) (of_decide_eq_true h2))
 | .inl _,.inl _,.inr _,_,_=>rfl
 | .inl _,.inr _,.inr _,_,_=>rfl
 | .inl _,.inr _,.inl _,_,h=>by cases h
 | .inr _,.inl _,_,h,_=>by cases h
 | .inr _,.inr _,.inl _,_,h=>by cases h
theorem ZlZ:∀a b:Key,kLt a b=false→kLt b a=false→a=b
 | .inl i,.inl j,h1,h2=>by have:=of_decide_eq_false h1;have:=of_decide_eq_false h2;congr 1;omega
 | .inr x,.inr y,h1,h2=>by
  have a1:¬ x.cps.toList<y.cps.toList:=of_decide_eq_false h1
  have a2:¬ y.cps.toList<x.cps.toList:=of_decide_eq_false h2
  have e:x.cps.toList=y.cps.toList:=List.le_antisymm a2 a1
  obtain⟨xs⟩:=x
  obtain⟨ys⟩:=y
  congr 2
  exact Array.toList_inj.mp e
 | .inl _,.inr _,h,_=>by cases h
 | .inr _,.inl _,_,h=>by cases h
def ZM:List Key→List Key→Bool
 | [],[]=>false
 | [],_::_=>true
 | _::_,[]=>false
 | x::xs,y::ys=>if x=y then ZM xs ys else kLt x y
theorem Z9(x y:Key)(xs ys:List Key):ZM (x::xs) (y::ys)=if x=y then ZM xs ys else kLt x y:=rfl
theorem Za7:∀a:List Key,ZM a a=false
 | []=>rfl
 | x::r=>by unfold ZM;rw[if_pos rfl];exact Za7 r
theorem ZbP:∀a b c:List Key,ZM a b=true→ZM b c=true→ZM a c=true
 | [],[],_,h,_=>by cases h
 | [],_::_,[],_,h=>by cases h
 | [],_::_,_::_,_,_=>rfl
 | _::_,[],_,h,_=>by cases h
 | _::_,_::_,[],_,h=>by cases h
 | x::r,y::s,z::t,h1,h2=>by
  have ih:=ZbP r s t
  unfold ZM at h1 h2 ⊢
  by_cases e1:x=y
  ·rw[if_pos e1]at h1
   by_cases e2:y=z
   ·rw[if_pos e2]at h2
    rw[if_pos (e1.trans e2)]
    exact ih h1 h2
   ·rw[if_neg e2]at h2
    rw[if_neg (fun e=>e2 (e1.symm.trans e)),e1]
    exact h2
  ·rw[if_neg e1]at h1
   by_cases e2:y=z
   ·rw[if_neg (fun e=>e1 (e.trans e2.symm)),← e2]
    exact h1
   ·rw[if_neg e2]at h2
    have h3:=ZlP _ _ _ h1 h2
    rw[if_neg (fun e=>by rw[e,ZjB]at h3;cases h3)]
    exact h3
theorem Zbp:∀a b:List Key,ZM a b=false→ZM b a=false→a=b
 | [],[],_,_=>rfl
 | [],_::_,h,_=>by cases h
 | _::_,[],_,h=>by cases h
 | x::r,y::s,h1,h2=>by
  unfold ZM at h1 h2
  by_cases e:x=y
  ·rw[if_pos e]at h1
   rw[if_pos e.symm]at h2
   rw[e,Zbp r s h1 h2]
  ·rw[if_neg e]at h1
   rw[if_neg fun z=>e z.symm]at h2
   exact absurd (ZlZ _ _ h1 h2) e
theorem ZmZ(a b c:List Key)(h:ZM a c=true):ZM a b=true∨ZM b c=true:=by
 by_cases h1:ZM a b=true
 ·exact .inl h1
 ·by_cases h2:ZM b a=true
  ·exact .inr (ZbP _ _ _ h2 h)
  ·have e:=Zbp a b (by simpa using h1) (by simpa using h2)
   rw[← e];exact .inr h
def unV:V→Option Key
 | .int i=>some (.inl i)
 | .str x=>some (.inr x)
 | _=>none
def Zfl:List V→Option (List Key)
 | []=>some []
 | x::r=>(unV x).bind fun k=>(Zfl r).map (k::·)
theorem ZqO(k:Key):unV (kV k)=some k:=by cases k<;>rfl
theorem ZiE:∀ks:List Key,Zfl (ks.map kV)=some ks
 | []=>rfl
 | k::r=>by show (unV (kV k)).bind _=_;rw[ZqO,ZiE r];rfl
theorem Zrn:∀ {x:V} {k:Key},unV x=some k→x=kV k
 | .int i,k,h=>by cases h;rfl
 | .str z,k,h=>by cases h;rfl
 | .non,_,h=>by cases h
 | .bl _,_,h=>by cases h
 | .byt _,_,h=>by cases h
 | .flt _,_,h=>by cases h
 | .ref _,_,h=>by cases h
 | .ty _,_,h=>by cases h
theorem Zij:∀ {xs:List V} {ks:List Key},Zfl xs=some ks→xs=ks.map kV
 | [],ks,h=>by cases h;rfl
 | x::r,ks,h=>by
  unfold Zfl at h
  cases hu:unV x with
  | none=>rw[hu]at h;cases h
  | some k =>
   rw[hu]at h
   cases hr:Zfl r with
   | none=>rw[hr]at h;cases h
   | some ms=>rw[hr]at h;cases h;rw[Zrn hu,Zij hr];rfl
def ZW(ks:List Key):List Bool:=ks.map fun k=>k.isLeft
def Zg2(H:Hp)(sh:List Bool):Value→Option (List Key)
 | .ref a=>match H a with
  | some (.tup xs)=>(Zfl xs).bind fun ks=>if ZW ks=sh then some ks else none
  | _=>none
 | _=>none
theorem Zi5{H:Hp}{a:Addr}{ks:List Key}(h:H a=some (.tup (ks.map kV))):Zg2 H (ZW ks) (.ref a)=some ks:=by
 unfold Zg2
 dsimp only
 rw[h]
 show (Zfl (ks.map kV)).bind _=_
 rw[ZiE]
 show (if ZW ks=ZW ks then some ks else none)=_
 rw[if_pos rfl]
theorem Zi8{H:Hp}{sh:List Bool}{v:Value}{ks:List Key}(h:Zg2 H sh v=some ks):∃a,v=.ref a∧H a=some (.tup (ks.map kV))∧ZW ks=sh:=by
 unfold Zg2 at h
 split at h
 ·rename_i a
  split at h
  ·rename_i xs hx
   cases hk:Zfl xs with
   | none=>rw[hk]at h;cases h
   | some ms =>
    rw[hk]at h
    have h':(if ZW ms=sh then some ms else none)=some ks:=h
    by_cases e:ZW ms=sh
    ·rw[if_pos e]at h'
     cases h'
     exact⟨a,rfl,by rw[hx,Zij hk],e⟩
    ·rw[if_neg e]at h';cases h'
  ·cases h
 ·cases h
def ZhE(H:Hp)(sh:List Bool):PyProof.Rows.KeyKind:=⟨⟨List Key,ZM,Za7,ZbP,fun a b c h=>ZmZ a b c h,Zbp⟩,Zg2 H sh,[]⟩
section
variable {prog:Program} {w:World} {A:Around} {E:Value→Shared→Prop} {s:Shared}
theorem ZrA{k m:Key}{p q:Value}(hp:ZC (kV k) p)(hq:ZC (kV m) q)(hs:k.isLeft=m.isLeft){Q:Bool→Shared→Prop}(h:Q (decide (k=m)) s):wpAny (model prog w) A (eqBool p q) Q E s:=by
 cases k with
 | inl i =>
  cases m with
  | inl j =>
   obtain⟨t,rfl⟩:=hp
   obtain⟨u,rfl⟩:=hq
   refine wpAny_eqBool_int ?_
   have e:(i == j)=decide ((Sum.inl i:Key)=Sum.inl j):=by
    by_cases z:i=j
    ·rw[z];simp
    ·rw[decide_eq_false (fun e=>z (Sum.inl.inj e))];simpa using z
   rw[e];exact h
  | inr y=>cases hs
 | inr x =>
  cases m with
  | inl j=>cases hs
  | inr y =>
   obtain⟨t,rfl⟩:=hp
   obtain⟨u,rfl⟩:=hq
   refine wpAny_eqBool_str ?_
   have e:decide (x=y)=decide ((Sum.inr x:Key)=Sum.inr y):=decide_eq_decide.mpr ⟨fun z=>by rw[z],fun z=>Sum.inr.inj z⟩
   rw[e];exact h
theorem ZqQ{c:Bool}{k m:Key}{p q:Value}(hp:ZC (kV k) p)(hq:ZC (kV m) q)(hs:k.isLeft=m.isLeft){Q:Bool→Shared→Prop}(h:Q (kLt k m) s):wpAny (model prog w) A (oneLt' c p q) Q E s:=by
 cases k with
 | inl i =>
  cases m with
  | inl j =>
   obtain⟨t,rfl⟩:=hp
   obtain⟨u,rfl⟩:=hq
   cases c with
   | true=>exact oneLt_int h
   | false =>
    rw[oneLt'_eq]
    show wpAny _ _ (richCompare .Lt (.int i t) (.int j u) >>= _) _ _ _
    refine wpAny_bind (show wpAny (model prog w) A (compareOp .Lt (.int i t) (.int j u)) _ _ _ from PyProof.Rows.lt_int ?_)
    exact wpAny_pure h
  | inr y=>cases hs
 | inr x =>
  cases m with
  | inl j=>cases hs
  | inr y =>
   obtain⟨t,rfl⟩:=hp
   obtain⟨u,rfl⟩:=hq
   cases c with
   | true=>exact oneLt_str h
   | false =>
    rw[oneLt'_eq]
    show wpAny _ _ (richCompare .Lt (.str x t) (.str y u) >>= _) _ _ _
    refine wpAny_bind (show wpAny (model prog w) A (compareOp .Lt (.str x t) (.str y u)) _ _ _ from PyProof.Rows.lt_str ?_)
    exact wpAny_pure h
theorem ZrB{b:Bool}{x y:Addr}{ks ms:List Key}{its its2:List Value}(hx:IsTup s.heap x its.toArray)(hy:IsTup s.heap y its2.toArray)(rx:Zy (ks.map kV) its)(ry:Zy (ms.map kV) its2)(hs:ZW ks=ZW ms){Q:Bool→Shared→Prop}
  (h:Q (ZM ks ms) s):wpAny (model prog w) A (keyLt' (tuples' b) (.ref x) (.ref y)) Q E s:=by
 obtain⟨o1,ho1,_,n1,hd1⟩:=hx
 obtain⟨o2,ho2,_,n2,hd2⟩:=hy
 show wpAny _ _ (Builtin.List.listItems (.ref x) >>= _) _ _ _
 refine wpAny_bind (Zbb ho1 hd1 (wpAny_bind (Zbb ho2 hd2 (wpAny_bind ?_))))
 have hl1:=rx.length
 have hl2:=ry.length
 have hl3:ks.length=ms.length:=by have:=congrArg List.length hs;simpa [ZW] using this
 rw[Qa]at hl1 hl2
 refine wpAny_forIn_list _ (fun rest c s'=>c=(none,())∧s'=s∧∃ (vs ws:List Value) (k:Nat) (ks' ms':List Key),rest=(vs.zip ws).zipIdx k∧Zy (ks'.map kV) vs∧Zy (ms'.map kV) ws∧ZW ks'=ZW ms'∧ZM ks ms=ZM ks' ms') _ ?_ ?_ _ _ ⟨rfl,rfl,its,its2,0,ks,ms,by simp,rx,ry,hs,rfl⟩
 ·rintro⟨⟨p,q⟩,i⟩ rest c s' ⟨rfl,rfl,vs,ws,k,ks',ms',hz,rv,rw',hs',he⟩
  cases ks' with
  | nil=>cases rv;cases hz
  | cons k1 kr =>
   cases ms' with
   | nil=>cases hs'
   | cons m1 mr =>
    cases rv with
    | cons r1 rr =>
     cases rw' with
     | cons r1' rr' =>
      rw[Qaa,List.zipIdx_cons]at hz
      injection hz with h1 h2
      injection h1 with h3 h4
      injection h3 with h5 h6
      subst h4 h5 h6
      unfold ZW at hs'
      rw[Qj,Qj]at hs'
      injection hs' with s1 s2
      refine wpAny_bind (ZrA r1 r1' s1 ?_)
      rw[Z9]at he
      by_cases e:k1=m1
      ·rw[if_pos e]at he
       rw[decide_eq_true e]
       exact wpAny_pure ⟨rfl,rfl,_,_,_,kr,mr,h2,rr,rr',s2,he⟩
      ·rw[if_neg e]at he
       rw[decide_eq_false e]
       refine wpAny_bind (ZqQ r1 r1' s1 (wpAny_pure ?_))
       refine wpAny_pure ?_
       rw[← he];exact h
 ·rintro c s' ⟨rfl,rfl,vs,ws,k,ks',ms',hz,rv,rw',hs',he⟩
  refine wpAny_pure ?_
  have e:ZM ks' ms'=false:=by
   cases ks' with
   | nil =>
    cases ms' with
    | nil=>rfl
    | cons _ _=>cases hs'
   | cons k1 kr =>
    cases ms' with
    | nil=>cases hs'
    | cons m1 mr =>
     cases rv with
     | cons r1 rr =>
      cases rw' with
      | cons r1' rr'=>rw[Qaa,List.zipIdx_cons]at hz;cases hz
  rw[e]at he
  rw[he]at h
  have e2:decide (its.toArray.size<its2.toArray.size)=false:=decide_eq_false (by rw[Qw,Qw];omega)
  rw[e2];exact h
end
section
variable {prog:Program} {w:World} {A:Around} {E:Value→Shared→Prop} {s:Shared}
theorem w_mapM{M:Model}{α β:Type}{f:α→Sem β}(R:α→β→Prop):∀ (l:List α) {Q:List β→Shared→Prop},(∀v∈l,∃r,R v r∧∀ (Q':β→Shared→Prop),Q' r s→wpAny M A (f v) Q' E s)→(∀rs,rs.length=l.length→(∀r∈rs,∃v∈l,R v r)→Q rs s)→wpAny M A (List.mapM f l) Q E s
 | [],Q,_,q=>by rw[List.mapM_nil];exact wpAny_pure (q [] rfl (fun r h=>by cases h))
 | a::l,Q,h,q=>by
  rw[List.mapM_cons]
  obtain⟨r,hr,hw⟩:=h a (by simp)
  refine wpAny_bind (hw _ (wpAny_bind (w_mapM R l (fun v hv=>h v (Qu _ hv)) fun rs hl hrs=>wpAny_pure (q (r::rs) (by simp[hl]) fun z hz=>?_))))
  rcases QI.mp hz with rfl|hz
  ·exact⟨a,by simp,hr⟩
  ·obtain⟨v,hv,hR⟩:=hrs z hz
   exact⟨v,Qu _ hv,hR⟩
theorem w_mapA{M:Model}{α β:Type}{f:α→Sem β}(R:α→β→Prop)(l:Array α){Q:Array β→Shared→Prop}(h:∀v∈l.toList,∃r,R v r∧∀ (Q':β→Shared→Prop),Q' r s→wpAny M A (f v) Q' E s)(q:∀rs:Array β,(∀r∈rs.toList,∃v∈l.toList,R v r)→Q rs s):wpAny M A (Array.mapM f l) Q E s:=by
 rw[Array.mapM_eq_mapM_toList,map_eq_pure_bind]
 exact wpAny_bind (w_mapM R l.toList h fun rs _ hr=>wpAny_pure (q rs.toArray (by simpa using hr)))
theorem ZlS{a:Addr}{its:List Value}(ht:IsTup s.heap a its.toArray){Q:Option Value→Shared→Prop}(q:Q its[0]? s):wpAny (model prog w) A (firstOfTuple' (.ref a)) Q E s:=by
 obtain⟨o,ho,hc,n,hd⟩:=id ht
 show wpAny _ _ (typeOf (.ref a) >>= _) _ _ _
 refine wpAny_bind (wpAny_typeOf ht.typeIs ?_)
 rw[if_neg (by decide)]
 refine wpAny_bind (Zbb ho hd (wpAny_pure ?_))
 simpa using q
theorem Zmv{k:Key}{v:Value}(h:ZC (kV k) v){Q:Value→Shared→Prop}(q:Q (.type (if k.isLeft then "int" else "str")) s):wpAny (model prog w) A (typeOf v) Q E s:=by
 cases k with
 | inl i=>obtain⟨t,rfl⟩:=h;exact wpAny_typeOf (T := "int") rfl q
 | inr x=>obtain⟨t,rfl⟩:=h;exact wpAny_typeOf (T := "str") rfl q
theorem Zm4{vs:List Value}(h:∀v∈vs,∃ (a:Addr) (its:List Value) (k:Key) (v0:Value),v=.ref a∧IsTup s.heap a its.toArray∧its[0]? = some v0∧ZC (kV k) v0){Q:SortKind→Shared→Prop}(q:∀b,Q (tuples' b) s):wpAny (model prog w) A (keyKind' vs.toArray) Q E s:=by
 rw[keyKind'_eq]
 refine wpAny_bind (w_mapA (fun _ r=>∃ (k:Key) (v0:Value),r=some v0∧ZC (kV k) v0) _ (fun v hv=>?_) fun firsts hf=>?_)
 ·obtain⟨a,its,k,v0,rfl,ht,h0,hr⟩:=h v (by simpa using hv)
  exact⟨its[0]?,⟨k,v0,h0,hr⟩,fun Q' q'=>ZlS ht q'⟩
 ·have hall:(firsts.all fun x=>x.isSome)=true:=by
   rw[Array.all_eq_true]
   intro i hi
   obtain⟨v,_,k,v0,e,_⟩:=hf firsts[i] (by simp)
   rw[e];rfl
  rw[if_pos hall]
  refine wpAny_bind (wpAny_rule (wpAny_bind ?_))
  rw[oneTypeOnly'_eq]
  refine wpAny_bind (w_mapA (fun _ _=>True) _ (fun v hv=>?_) fun ts _=>?_)
  ·have hv':v∈(Array.filterMap id firsts).toList:=hv
   rw[Array.toList_filterMap]at hv'
   obtain⟨o,ho,eo⟩:=List.mem_filterMap.mp hv'
   obtain⟨_,_,k,v0,e,hr⟩:=hf o ho
   have e2:v0=v:=by
    have:o=some v:=eo
    rw[e]at this;exact Qp this
   subst e2
   exact⟨_,trivial,fun Q' q'=>Zmv hr q'⟩
  ·split
   ·exact wpAny_pure (wpAny_pure (q _))
   ·exact wpAny_pure (wpAny_pure (q _))
theorem w_sort0{a:Addr}{vs:List Value}{n:Nat}{P:PySem.Fin→Shared→Prop}(ha:s.heap.get? a=some (seqObj "list" vs.toArray n))(h2:vs.length<2)
  (q:P (Fin.done (Flow.ret Value.none)) { s with heap:=sortedHeap s.heap a vs ((pairsOf vs).map fun x=>x.snd) }) :
  wpAny (model prog w) A (Builtin.«list.sort» { pos:=[.ref a] }) P E s:=by
 have hz:vs.toArray.size≤sizeLine:=by rw[Qw,sizeLine_eq];omega
 rw[list_sort_plain]
 refine wpAny_bind (Zbb ha rfl ?_)
 show wpAny _ _ (updateSeq a (fun x=>#[]) >>= _) _ _ _
 refine wpAny_bind (wpAny_updateSeq ha rfl ?_ hz (by show 0≤_;omega))
 have e1:=get?_update_seq ha (fun _=>#[])
 refine wpAny_bind (seqEpoch_at e1 rfl ?_)
 refine wpAny_bind (wpAny_newTuple ?_ (by simpa using hz))
 refine wpAny_bind (wpAny_newList ?_ (by show 0≤_;omega))
 refine wpAny_holding ?_
 have hn2:vs.toArray.size<2:=by rw[Qw];omega
 have hps:(pairsOf vs).size=vs.length:=by unfold pairsOf;simp
 rw[if_pos hn2,if_pos hn2]
 have e2:(((s.heap.update a (Obj.mapSeq fun _=>#[])).push { cls:=.type "tuple",data:=.seq vs.toArray.toList.toArray }).push { cls:=.type "list",data:=.seq ([]:List Value).toArray }).get? a=some (seqObj "list" #[] _):=Qo _ (Qo _ e1)
 refine wpAny_bind (wpAny_pure ?_)
 show wpAny _ _ (pure ((),SortSt.mk' general' (vs.toArray.zip vs.toArray) #[] 7 none) >>= _) _ _ _
 refine wpAny_bind (wpAny_pure ?_)
 refine wpAny_bind (seqEpoch_at e2 rfl ?_)
 have hsz:((pairsOf vs).map fun x=>x.snd).size=vs.length:=by rw[Array.size_map,hps]
 show wpAny _ _ (updateSeq a (fun x=>(pairsOf vs).map fun x=>x.snd) >>= _) _ _ _
 refine wpAny_bind (wpAny_updateSeq e2 rfl ?_ (by show 0≤_;omega) (by show ((pairsOf vs).map fun x=>x.snd).size≤_;rw[hsz];rw[Qw]at hz;omega))
 show wpAny _ _ (if _ then _ else _) _ _ _
 rw[if_neg (by simp)]
 exact wpAny_pure q
theorem w_sorted0{l:Addr}{vs:List Value}{Q:Value→Shared→Prop}(hl:s.heap.IsList l vs.toArray)(h2:vs.length<2)
  (q:Q (.ref (s.heap.objs.size+1)) { s with heap:=sortedAll s.heap vs ((pairsOf vs).map fun x=>x.snd) }) :
  wpAny (model prog w) A (call (.builtin "sorted") [.ref l]) Q E s:=by
 refine Calls.call_function_entry kind_sorted plain_sorted entry_sorted (args_sorted1 (.ref l)) ?_
 have hz:vs.length≤sizeLine:=by rw[sizeLine_eq];omega
 refine wpAny_bind (wpAny_pure (wpAny_bind (collect_list hl (wpAny_bind (wpAny_newList ?_ hz)) hz)))
 have hsz:((s.heap.push (seqObj "list" #[] 0)).update s.heap.objs.size (Obj.mapSeq fun x=>x++vs.toArray)).objs.size=s.heap.objs.size+1:=by rw[Heap.size_update,size_push']
 have hoL:((((s.heap.push (seqObj "list" #[] 0)).update s.heap.objs.size (Obj.mapSeq fun x=>x++vs.toArray)).push (seqObj "list" vs.toArray 0)).get? (s.heap.objs.size+1))=some (seqObj "list" vs.toArray 0):=by
  rw[← hsz];exact QJ _ rfl
 show wpAny _ _ (holding [.ref ((s.heap.push (seqObj "list" #[] 0)).update s.heap.objs.size (Obj.mapSeq fun x=>x++vs.toArray)).objs.size] (call (.builtin "list.sort") [.ref ((s.heap.push (seqObj "list" #[] 0)).update s.heap.objs.size (Obj.mapSeq fun x=>x++vs.toArray)).objs.size]) >>= fun _=>ret (.ref ((s.heap.push (seqObj "list" #[] 0)).update s.heap.objs.size (Obj.mapSeq fun x=>x++vs.toArray)).objs.size)) _ _ _
 rw[hsz]
 refine wpAny_bind (wpAny_holding (wpAny_call_entry slot_list_sort ⟨_,hoL,rfl⟩ entry_list_sort ?_ (args_list_sort _)))
 exact w_sort0 hoL h2 ⟨_,rfl,wpAny_pure ⟨_,rfl,q⟩⟩
end
theorem Ziq{α β:Type}(f:α→β){l m:List β}(h:l.Perm m):∀ts:List α,m=ts.map f→∃ts':List α,ts'.Perm ts∧l=ts'.map f:=by
 induction h with
 | nil =>
  intro ts e
  have:ts=[]:=by cases ts with
   | nil=>rfl
   | cons _ _=>cases e
  subst this
  exact⟨[],.nil,rfl⟩
 | cons x _ ih =>
  intro ts e
  cases ts with
  | nil=>cases e
  | cons a r =>
   rw[Qj]at e
   injection e with e1 e2
   obtain⟨ts',p,e3⟩:=ih r e2
   exact⟨a::ts',p.cons a,by rw[Qj,e1,e3]⟩
 | swap x y l =>
  intro ts e
  cases ts with
  | nil=>cases e
  | cons a r =>
   cases r with
   | nil=>cases e
   | cons b r =>
    rw[Qj,Qj]at e
    injection e with e1 e2
    injection e2 with e2 e3
    exact⟨b::a::r,.swap a b r,by rw[Qj,Qj,e1,e2,e3]⟩
 | trans _ _ ih1 ih2 =>
  intro ts e
  obtain⟨ts2,p2,e2⟩:=ih2 ts e
  obtain⟨ts1,p1,e1⟩:=ih1 ts2 e2
  exact⟨ts1,p1.trans p2,e1⟩
theorem Zio{α:Type}:∀l:List α,l.zip l=l.map fun v=>(v,v)
 | []=>rfl
 | a::r=>by rw[Qaa,Zio r];rfl
abbrev Zcl:=List (Addr×List Key)
def Zad(ts:Zcl):List V:=ts.map fun t=>V.ref t.1
def AtT(H:Hp)(ts:Zcl):Prop:=∀t∈ts,H t.1=some (.tup (t.2.map kV))
theorem Zd0:∀ {ts:Zcl} {us:List Value},Zy (Zad ts) us→us=ts.map fun t=>Value.ref t.1
 | [],_,h=>by cases h;rfl
 | t::r,_,h=>by
  cases h with
  | cons a b=>rw[Zd0 b];cases a;rfl
theorem Zhm:∀ts:Zcl,Zy (Zad ts) (ts.map fun t=>Value.ref t.1)
 | []=>.nil
 | t::r=>.cons rfl (Zhm r)
def ZpS(K:PySem.W.Frag):List V→Hp→VK→Prop:=fun xs H Q=>∃ (p:Addr) (ts:Zcl) (sh:List Bool),xs=[.ref p]∧SqL K H p (Zad ts)∧AtT H ts∧sh≠[]∧(∀t∈ts,ZW t.2=sh)∧ts.length<64 ∧
 ∀ (l:Addr) (ts':Zcl),H l=none→ts'.Perm ts→ts'.Pairwise (fun a b=>ZM b.2 a.2=false)→Q (.ref l) (upd H l (.lst (Zad ts')))
theorem ZhS{X:Cx}:ZaW X (.builtin "sorted") (ZpS X.K):=by
 intro pins s σ H xs us Q I r h
 obtain⟨p,ts,sh,rfl,hq,hat,hsh,hts,h64,q⟩:=h
 obtain⟨u,rfl,rx⟩:=Zdm r
 cases rx
 obtain⟨its,rv,pl,hz⟩:=I.list hq
 have ei:=Zd0 rv
 subst ei
 have tupAt:∀t∈ts,∃its:List Value,Zy (t.2.map kV) its∧IsTup s.heap t.1 its.toArray:=fun t ht=>by
  obtain⟨i,v,q,_⟩:=I.tuple (SqT.of (K:=X.K) (hat t ht))
  exact⟨i,v,q⟩
 have eptl:(pairsOf (ts.map fun t=>Value.ref t.1)).toList=ts.map fun t=>(Value.ref t.1,Value.ref t.1):=by
  unfold pairsOf
  rw[Array.toList_zip,Zio,QA]
  rfl
 have fin:∀ (out:Array Value) (ts':Zcl),ts'.Perm ts→ts'.Pairwise (fun a b=>ZM b.2 a.2=false)→out.toList=ts'.map (fun t=>Value.ref t.1)→EP X pins σ Q (.ref (s.heap.objs.size+1)) { s with heap:=sortedAll s.heap (ts.map fun t=>Value.ref t.1) out }:=fun out ts' pm pw eo=>by
  obtain⟨e,he⟩:=sortedAll_at s.heap (ts.map fun t=>Value.ref t.1) out
  refine⟨.ref (s.heap.objs.size+1),_,I.laid (t':=s.toks) (o:=.lst (Zad ts')) (fun _ _=>sortedAll_old) (Qaq _) ⟨?_,out.toList,e,by rw[eo];exact Zhm ts',by simpa using he⟩,rfl,q _ ts' (I.hok.fresh (Qaq _)) pm pw⟩
  unfold Zad
  rw[Qa,pm.length_eq,sizeLine_eq];omega
 by_cases h2:ts.length<2
 ·refine w_sorted0 pl.isList (by rw[Qa];exact h2) (fin _ ts (.refl _) ?_ ?_)
  ·cases ts with
   | nil=>exact .nil
   | cons t r =>
    have:r=[]:=QO (by rw[QD]at h2;omega)
    subst this
    exact QY _ _
  ·rw[Array.toList_map,eptl,QA];rfl
 ·have hk:PyProof.Rows.KeysOf (ZhE H sh) (pairsOf (ts.map fun t=>Value.ref t.1)):=fun z hz'=>by
   rw[eptl]at hz'
   obtain⟨t,ht,rfl⟩:=Qt.mp hz'
   exact⟨t.2,by rw[← hts t ht];exact Zi5 (hat t ht)⟩
  refine w_sorted (κ:=ZhE H sh) pl.isList hk (by rw[Qa];omega) (by rw[Qa];exact h64) (fun A' s' kp E' Q' q'=>?_) fun st' p1 p3=>?_
  ·have tup':∀ {a:Addr} {its:List Value},IsTup s.heap a its.toArray→IsTup s'.heap a its.toArray:=fun ⟨o,ho,hc⟩=>⟨o,kp _ _ ho,hc⟩
   refine Zm4 (fun v hv=>?_) fun b=>q' _ fun E2 x y a c Q2 hx hy h2=>?_
   ·obtain⟨t,ht,rfl⟩:=Qt.mp hv
    obtain⟨i,v,qt⟩:=tupAt t ht
    have hs1:=hts t ht
    cases hk2:t.2 with
    | nil=>rw[hk2]at hs1;exact absurd hs1.symm hsh
    | cons k kr =>
     rw[hk2]at v
     cases v with
     | cons r1 rr=>exact⟨t.1,_,k,_,rfl,tup' qt,rfl,r1⟩
   ·obtain⟨a1,rfl,ha1,s1⟩:=Zi8 hx
    obtain⟨a2,rfl,ha2,s2⟩:=Zi8 hy
    obtain⟨i1,v1,t1,_⟩:=I.tuple (SqT.of (K:=X.K) ha1)
    obtain⟨i2,v2,t2,_⟩:=I.tuple (SqT.of (K:=X.K) ha2)
    exact ZrB (tup' t1) (tup' t2) v1 v2 (s1.trans s2.symm) h2
  ·have p1':=p1.toList
   obtain⟨ts',pm,e⟩:=Ziq (fun t:Addr×List Key=>(Value.ref t.1,Value.ref t.1)) p1' ts eptl
   refine fin _ ts' pm ?_ ?_
   ·rw[List.pairwise_iff_getElem]
    intro i j hi hj hij
    have hsz:(pairsOf (ts.map fun t=>Value.ref t.1)).size=ts'.length:=by rw[← QaD,eptl,Qa,pm.length_eq]
    have:=p3 i j (by omega) (by rw[hsz];exact hj)
    have key:∀k (hk':k<ts'.length),KK (ZhE H sh) (arrOf st') k=ts'[k].2:=fun k hk'=>by
     unfold KK
     have e1:(arrOf st')[k]? = some (Value.ref ts'[k].1,Value.ref ts'[k].1):=by
      rw[← Array.getElem?_toList,e,Qi,Qb hk'];rfl
     rw[e1]
     have hm:ts'[k]∈ts:=pm.mem_iff.mp (QZ hk')
     show ((Zg2 H sh (.ref ts'[k].1)).getD _)=_
     rw[← hts _ hm,Zi5 (hat _ hm)];rfl
    rw[key i hi,key j hj]at this
    exact this
   ·rw[Array.toList_map,e,QA];rfl
theorem Ztd{X:Cx}(K:PySem.W.Frag)(h:X.K=K:=by rfl):ZaW X (.builtin "sorted") (ZpS K):=by subst h;exact ZhS
theorem Zip(A:Around)(s:Shared){k m:Key}{p q:Value}(hp:ZC (kV k) p)(hq:ZC (kV m) q)(hs:k.isLeft=m.isLeft):∃e,SeqAt.EqAt A s p q e∧(e=true↔k=m):=by
 cases k with
 | inl i =>
  cases m with
  | inl j =>
   obtain⟨t,rfl⟩:=hp
   obtain⟨u,rfl⟩:=hq
   exact⟨_,SeqAt.EqAt.int_int i t j u,by simp⟩
  | inr y=>cases hs
 | inr x =>
  cases m with
  | inl j=>cases hs
  | inr y =>
   obtain⟨t,rfl⟩:=hp
   obtain⟨u,rfl⟩:=hq
   exact⟨_,SeqAt.EqAt.str_str x t y u,by simp⟩
theorem Zmo(A:Around)(s:Shared){k m:Key}{p q:Value}(hp:ZC (kV k) p)(hq:ZC (kV m) q)(hs:k.isLeft=m.isLeft)(prog:Program)(w:World)(E:Value→Shared→Prop)(Q:Value→Shared→Prop)(h:Q (.bool (kLt k m)) s) :
  wpAny (model prog w) A (richCompare .Lt p q) Q E s:=by
 cases k with
 | inl i =>
  cases m with
  | inl j =>
   obtain⟨t,rfl⟩:=hp
   obtain⟨u,rfl⟩:=hq
   exact(PyProof.Rows.lt_int h:wpAny (model prog w) A (compareOp .Lt (.int i t) (.int j u)) Q E s)
  | inr y=>cases hs
 | inr x =>
  cases m with
  | inl j=>cases hs
  | inr y =>
   obtain⟨t,rfl⟩:=hp
   obtain⟨u,rfl⟩:=hq
   exact(PyProof.Rows.lt_str h:wpAny (model prog w) A (compareOp .Lt (.str x t) (.str y u)) Q E s)
section
open PySem.SeqAt
open PySem.AutoSeq1 (wpAny_loadPart')
open PySem.MeetsSeq PySem.MeetsSeq2 PySem.MeetsSeq3
theorem Zgo(l b:Addr)(items items2:Array Value)(n n2:Nat)(dd dd2:Option Addr)(sl sl2:Array (Option Value))(ks ms:List Key)(hi:Zy (ks.map kV) items.toList)(hj:Zy (ms.map kV) items2.toList)(hs:ZW ks=ZW ms) :
  Meets (Builtin.«tuple.__lt__» ⟨[.ref l,.ref b],[]⟩)
   (fun _ R s=>s.heap.get? l=some { cls:=.type "tuple",dict:=dd,data:=.seq items n,slots:=sl }∧s.heap.get? b=some { cls:=.type "tuple",dict:=dd2,data:=.seq items2 n2,slots:=sl2 } ∧
    R (.ok (.ret (.bool (ZM ks ms)))) s) :=
 .of_wp fun prog w A R s h=>by
  obtain⟨hp,g,d,tk,os⟩:=s;obtain⟨hl,hb,h⟩:=h
  have f2:=AutoSeq1.sub_tuple_tuple
  have z1:items.size=ks.length:=by have:=hi.length;simpa using this.symm
  have z2:items2.size=ms.length:=by have:=hj.length;simpa using this.symm
  have z3:ks.length=ms.length:=by have:=congrArg List.length hs;simpa [ZW] using this
  wp_walk using wpAny_loadPart' hl,wpAny_loadPart' hb,wpAny_forIn_list _ (fun rest b s'=>b.1=none∧s'=⟨hp,g,d,tk,os⟩∧∃ (vs ws:List Value) (ks' ms':List Key),rest=vs.zip ws ∧
   Zy (ks'.map kV) vs∧Zy (ms'.map kV) ws∧ZW ks'=ZW ms'∧R (.ok (.ret (.bool (ZM ks' ms')))) ⟨hp,g,d,tk,os⟩) _
  case turn =>
   rintro⟨y,x⟩ rest b s' ⟨hb',rfl,vs,ws,ks',ms',hz,hvi,hwi,hsh,hR⟩
   cases ks' with
   | nil=>cases hvi;rw[List.zip_nil_left]at hz;cases hz
   | cons k1 kr =>
    cases ms' with
    | nil=>cases hsh
    | cons m1 mr =>
     cases hvi with
     | cons r1 rr =>
      cases hwi with
      | cons r1' rr' =>
       rw[Qaa]at hz
       injection hz with hyx hrest
       injection hyx with hy hx
       subst hy hx
       rw[Z9]at hR
       unfold ZW at hsh
       rw[Qj,Qj]at hsh
       injection hsh with s1 s2
       obtain⟨e,he,hiff⟩:=Zip A.in1 ⟨hp,g,d,tk,os⟩ r1 r1' s1
       refine wpAny_bind (he prog w _ _ ?_)
       cases e with
       | true =>
        rw[if_pos (hiff.mp rfl)]at hR
        wp_walk
        exact⟨rfl,rfl,_,_,_,_,hrest,rr,rr',s2,hR⟩
       | false =>
        rw[if_neg (fun q=>absurd (hiff.mpr q) QC)]at hR
        have hri:=Zmo A.in1 ⟨hp,g,d,tk,os⟩ r1 r1' s1 prog w
        wp_walk using hri
        exact⟨_,rfl,by simpa using hR⟩
  case fin =>
   rintro⟨b1,b2⟩ s' ⟨hb',rfl,vs,ws,ks',ms',hz,hvi,hwi,hsh,hR⟩
   simp only at hb'
   subst hb'
   have hv:ZM ks' ms'=decide (items.size<items2.size):=by
    rw[decide_eq_false (by omega)]
    cases ks' with
    | nil =>
     cases ms' with
     | nil=>rfl
     | cons _ _=>cases hsh
    | cons k1 kr =>
     cases ms' with
     | nil=>cases hsh
     | cons m1 mr =>
      cases hvi with
      | cons r1 rr =>
       cases hwi with
       | cons r1' rr'=>rw[Qaa]at hz;cases hz
   rw[hv]at hR
   wp_walk
   exact⟨_,rfl,by simpa [Builtin.Tuple.tupleCompareSizes] using hR⟩
  case h =>
   exact⟨rfl,rfl,items.toList,items2.toList,ks,ms,rfl,hi,hj,hs,h⟩
end
section
variable {prog:Program} {w:World} {A:Around} {E:Value→Shared→Prop} {s:Shared}
theorem Zjv{l b:Addr}{items items2:Array Value}{ks ms:List Key}{Q:Value→Shared→Prop}(hl:IsTup s.heap l items)(hb:IsTup s.heap b items2)(hi:Zy (ks.map kV) items.toList)(hj:Zy (ms.map kV) items2.toList)(hs:ZW ks=ZW ms)
  (hu:A.units<cLine) (h:Q (.bool (ZM ks ms)) s):wpAny (model prog w) A (richCompare .Lt (.ref l) (.ref b)) Q E s:=by
 obtain⟨⟨cls,dd,data,sl⟩,ho,hc,n,hd⟩:=id hl
 obtain⟨⟨cls2,dd2,data2,sl2⟩,ho2,hc2,n2,hd2⟩:=id hb
 simp only at hc hd hc2 hd2
 subst hc hd hc2 hd2
 exact richCompare_meets_room (op:=.Lt) ⟨_,ho,rfl⟩ ⟨_,ho2,rfl⟩ PySem.F.slot_tuple_lt PySem.F.entry_tuple_lt (PySem.F.args_tuple_lt_2 _ _) (Zgo l b items items2 n n2 dd dd2 sl sl2 ks ms hi hj hs)
  ⟨ho,ho2,show Value.bool (ZM ks ms)≠Value.notImplemented∧Q (.bool (ZM ks ms)) s from⟨(fun x=>nomatch x),h⟩⟩ hu
end
section
variable {prog:Program} {w:World}
theorem Zlk{A:Around}{a:Args}:(A.under (.builtin "min.loop" a)).units≤A.units+1:=by
 show A.units+(Code.builtin "min.loop" a).cUnits≤A.units+1
 first|exact Qh _|simp[Code.cUnits,Code.frames,Code.isFrame]
theorem ZfO{A:Around}{R:Result→Shared→Prop}{l I S:Addr}{ts:Zcl}{sh:List Bool}{h0:Heap}{kw:List (Str×Value)}(hh:A.handled=none)(hu:A.units+4<cLine)(hlist:h0.IsList l (ts.map fun t=>Value.ref t.1).toArray)
  (hI:h0.get? I=none) (hS:h0.get? S=none) (hSI:S≠I) (htup:∀t∈ts,∃its:List Value,Zy (t.2.map kV) its∧IsTup h0 t.1 its.toArray) (hsh:∀t∈ts,ZW t.2=sh) (s0:Shared)
  (q:∀ (h':Heap) (t:Addr×List Key),(∀b o,h0.get? b=some o→h'.get? b=some o)→t∈ts→(∀u∈ts,ZM u.2 t.2=false)→R (.ok (.ret (.ref t.1))) { s0 with heap:=h' }) :
  ∀ (k j:Nat) (h:Heap) (t:Addr×List Key) (c:Nat),ts.length-j=k→j≤ts.length→(∀b o,h0.get? b=some o→h.get? b=some o)→h.IsListIter I l j→h.get? S=some { cls:=.type "list",data:=.seq #[.ref t.1,.ref t.1] c }→t∈ts →
   (∀u∈ts.take j,ZM u.2 t.2=false)→codeAny (model prog w) A (.builtin "min.loop" { pos:=[.ref I,.none,.ref S],kw:=kw }) R { s0 with heap:=h }
 | k,j,h,t,c,hk,hj,keep,hit,hst,htm,hbest=>by
  refine codeAny_builtin F.entry_min_loop ?_
  show wpAny _ _ (seqItems? (.ref S) >>= _) _ _ _
  refine wpAny_bind (wpAny_seqItems hst rfl ?_)
  have keepL:h.IsList l (ts.map fun t=>Value.ref t.1).toArray:=by
   obtain⟨o,ho,r⟩:=hlist
   exact⟨o,keep _ _ ho,r⟩
  by_cases hlt:j<ts.length
  ·have hx:((ts.map fun t=>Value.ref t.1).toArray)[j]? = some (Value.ref ts[j].1):=by simp[hlt]
   refine wpAny_bind (wpAny_tryCatch (wpAny_pyNext_list_item hit keepL hx fun h1 hit1 sb=>?_))
   have keep1:∀b o,h0.get? b=some o→h1.get? b=some o:=fun b o hb=>by
    have nb:b≠I:=fun e=>by rw[e,hI]at hb;cases hb
    rw[sb.2 b nb];exact keep b o hb
   have hst1:h1.get? S=some { cls:=.type "list",data:=.seq #[.ref t.1,.ref t.1] c }:=by rw[sb.2 S hSI];exact hst
   refine wpAny_bind (wpAny_pure ?_)
   have hjm:ts[j]∈ts:=QZ hlt
   obtain⟨i1,v1,t1⟩:=htup _ hjm
   obtain⟨i2,v2,t2⟩:=htup _ htm
   have tup1:∀ {a:Addr} {its:List Value},IsTup h0 a its.toArray→IsTup h1 a its.toArray:=fun ⟨o,ho,hc⟩=>⟨o,keep1 _ _ ho,hc⟩
   have hsh1:ZW ts[j].2=ZW t.2:=(hsh _ hjm).trans (hsh _ htm).symm
   refine wpAny_bind (wpAny_tryCatch (wpAny_holding (wpAny_bind (Zjv (tup1 t1) (tup1 t2) (by simpa using v1) (by simpa using v2) hsh1 (Qar Zlk (by omega)) (wpAny_bind (wpAny_holding (wpAny_truthy_bool (wpAny_bind (wpAny_letGo (wpAny_pure ?_))))))))))
   cases hb:ZM ts[j].2 t.2 with
   | true =>
    refine wpAny_bind (wpAny_updateSeq hst1 rfl ?_ (by show 2≤_;rw[sizeLine_eq];decide) (by show 2≤_;rw[sizeLine_eq];decide))
    refine wpAny_bind (wpAny_letGo (wpAny_pure ⟨rfl,?_⟩))
    refine ZfO hh hu hlist hI hS hSI htup hsh s0 q (k-1) (j+1) _ ts[j] c (by omega) (by omega) (fun b o hb'=>?_) ?_ ?_ hjm (fun u hu'=>?_)
    ·have nb:S≠b:=fun e=>by rw[← e,hS]at hb';cases hb'
     exact Q6 _ nb (keep1 b o hb')
    ·obtain⟨o,ho,r⟩:=hit1
     exact⟨o,Q6 _ hSI ho,r⟩
    ·have:=get?_update_seq (c := "list") hst1 (fun _=>#[.ref ts[j].1,.ref ts[j].1])
     simpa using this
    ·rw[QH,Qb hlt]at hu'
     rcases Qf.mp hu' with hu'|hu'
     ·have:=hbest u hu'
      cases hz:ZM u.2 ts[j].2 with
      | false=>rfl
      | true=>rw[ZbP _ _ _ hz hb]at this;cases this
     ·have:u=ts[j]:=by simpa using hu'
      rw[this];exact Za7 _
   | false =>
    refine wpAny_bind (wpAny_letGo (wpAny_pure ⟨rfl,?_⟩))
    refine ZfO hh hu hlist hI hS hSI htup hsh s0 q (k-1) (j+1) h1 t c (by omega) (by omega) keep1 hit1 hst1 htm (fun u hu'=>?_)
    rw[QH,Qb hlt]at hu'
    rcases Qf.mp hu' with hu'|hu'
    ·exact hbest u hu'
    ·have:u=ts[j]:=by simpa using hu'
     rw[this];exact hb
  ·have hx:((ts.map fun t=>Value.ref t.1).toArray)[j]? = none:=by simp;omega
   refine wpAny_bind (wpAny_tryCatch (wpAny_pyNext_list_end hh hit keepL hx fun h1 eb=>?_))
   have hst1:h1.get? S=some { cls:=.type "list",data:=.seq #[.ref t.1,.ref t.1] c }:=eb S _ hSI hst
   refine wpAny_bind (wpAny_updateSeq hst1 rfl ?_ (by show 2≤_;rw[sizeLine_eq];decide) (by show 0≤_;omega))
   refine wpAny_bind (wpAny_letGo (wpAny_pure ?_))
   refine q _ t (fun b o hb=>?_) htm (fun u hu'=>hbest u (by rw[Qx (by omega)];exact hu'))
   have nb:S≠b:=fun e=>by rw[← e,hS]at hb;cases hb
   have nI:b≠I:=fun e=>by rw[e,hI]at hb;cases hb
   exact Q6 _ nb (eb b o nI (keep b o hb))
termination_by k=>k
theorem ZlM{A:Around}{R:Result→Shared→Prop}{l I S:Addr}{ts:Zcl}{sh:List Bool}{h0 h:Heap}{c:Nat}{kw:List (Str×Value)}(hh:A.handled=none)(hu:A.units+4<cLine)(hlist:h0.IsList l (ts.map fun t=>Value.ref t.1).toArray)
  (hI:h0.get? I=none) (hS:h0.get? S=none) (hSI:S≠I) (htup:∀t∈ts,∃its:List Value,Zy (t.2.map kV) its∧IsTup h0 t.1 its.toArray) (hsh:∀t∈ts,ZW t.2=sh) (s0:Shared) (keep:∀b o,h0.get? b=some o→h.get? b=some o) (hit:h.IsListIter I l 0) (hst:h.get? S=some { cls:=.type "list",data:=.seq #[] c })
  (hne:ts≠[]∨∃n d kr,kw=(n,d)::kr∧∀h':Heap,(∀b o,h0.get? b=some o→h'.get? b=some o)→R (.ok (.ret d)) { s0 with heap:=h' })
  (q:∀ (h':Heap) (t:Addr×List Key),(∀b o,h0.get? b=some o→h'.get? b=some o)→t∈ts→(∀u∈ts,ZM u.2 t.2=false)→R (.ok (.ret (.ref t.1))) { s0 with heap:=h' }) :
  codeAny (model prog w) A (.builtin "min.loop" { pos:=[.ref I,.none,.ref S],kw:=kw }) R { s0 with heap:=h }:=by
 refine codeAny_builtin F.entry_min_loop ?_
 show wpAny _ _ (seqItems? (.ref S) >>= _) _ _ _
 refine wpAny_bind (wpAny_seqItems hst rfl ?_)
 have keepL:h.IsList l (ts.map fun t=>Value.ref t.1).toArray:=by
  obtain⟨o,ho,r⟩:=hlist
  exact⟨o,keep _ _ ho,r⟩
 cases ts with
 | nil =>
  obtain⟨n,d,kr,rfl,q0⟩:=hne.resolve_left (by simp)
  refine wpAny_bind (wpAny_tryCatch (wpAny_pyNext_list_end hh hit keepL (by simp) fun h1 eb=>?_))
  show wpAny _ _ (rule _ >>= _) _ _ _
  refine wpAny_bind (wpAny_rule (wpAny_pure ?_))
  refine q0 _ fun b o hb=>?_
  have nI:b≠I:=fun e=>by rw[e,hI]at hb;cases hb
  exact eb b o nI (keep b o hb)
 | cons t r =>
  refine wpAny_bind (wpAny_tryCatch (wpAny_pyNext_list_item hit keepL (x:=.ref t.1) (by simp) fun h1 hit1 sb=>?_))
  have keep1:∀b o,h0.get? b=some o→h1.get? b=some o:=fun b o hb=>by
   have nb:b≠I:=fun e=>by rw[e,hI]at hb;cases hb
   rw[sb.2 b nb];exact keep b o hb
  have hst1:h1.get? S=some { cls:=.type "list",data:=.seq #[] c }:=by rw[sb.2 S hSI];exact hst
  refine wpAny_bind (wpAny_pure ?_)
  show wpAny _ _ (updateSeq S _ >>= _) _ _ _
  refine wpAny_bind (wpAny_updateSeq hst1 rfl ?_ (by show 0≤_;omega) (by show 2≤_;rw[sizeLine_eq];decide))
  refine wpAny_pure ⟨rfl,?_⟩
  refine ZfO hh hu hlist hI hS hSI htup hsh s0 q _ 1 _ t (c+1) rfl (by simp) (fun b o hb'=>?_) ?_ ?_ (by simp) (fun u hu'=>?_)
  ·have nb:S≠b:=fun e=>by rw[← e,hS]at hb';cases hb'
   exact Q6 _ nb (keep1 b o hb')
  ·obtain⟨o,ho,r⟩:=hit1
   exact⟨o,Q6 _ hSI ho,r⟩
  ·have:=get?_update_seq (c := "list") hst1 (fun _=>#[.ref t.1,.ref t.1])
   simpa using this
  ·have:u=t:=by simpa using hu'
   rw[this];exact Za7 _
end
section
variable {X:Cx}
def Zp6(K:PySem.W.Frag):List V→Hp→VK→Prop:=fun vs H Q=>∃ (p:Addr) (ts:Zcl) (sh:List Bool),vs=[.ref p]∧SqL K H p (Zad ts)∧AtT H ts∧ts≠[]∧(∀t∈ts,ZW t.2=sh) ∧
 ∀t:Addr×List Key,t∈ts→(∀u∈ts,ZM u.2 t.2=false)→Q (.ref t.1) H
theorem Zno{prog:Program}{w:World}{A:Around}{R:Result→Shared→Prop}{s:Shared}{l:Addr}{ts:Zcl}{sh:List Bool}{kw:List (Str×Value)}{kw2:List (Str×Value)}(hh:A.handled=none)(hu:A.units+4<cLine)(hlist:s.heap.IsList l (ts.map fun t=>Value.ref t.1).toArray)
  (hkw:(kw=[]∧kw2=[])∨∃d,kw=[(Str.ofString "default",d)]∧kw2=[(Str.ofString "default",d)])
  (htup:∀t∈ts,∃its:List Value,Zy (t.2.map kV) its∧IsTup s.heap t.1 its.toArray) (hsh:∀t∈ts,ZW t.2=sh)
  (hne:ts≠[]∨∃n d kr,kw2=(n,d)::kr∧∀h':Heap,(∀b o,s.heap.get? b=some o→h'.get? b=some o)→R (.ok (.ret d)) { s with heap:=h' })
  (q:∀ (h':Heap) (t:Addr×List Key),(∀b o,s.heap.get? b=some o→h'.get? b=some o)→t∈ts→(∀u∈ts,ZM u.2 t.2=false)→R (.ok (.ret (.ref t.1))) { s with heap:=h' }) :
  codeAny (model prog w) A (.call (.builtin "min") { pos:=[.ref l],kw:=kw }) R s:=by
 refine codeAny_call_builtin_at rfl F.entry_min ?_
 have hc:checkBuiltinCall "min" { pos:=[.ref l],kw:=kw }=pure ():=by
  rcases hkw with⟨rfl,_⟩|⟨d,rfl,_⟩<;>rfl
 rw[hc]
 refine wpAny_pure ?_
 have go:∀ {A':Around},A'.handled=none→wpAny (model prog w) A' (pyIter (.ref l) >>= fun it=>newList [] >>= fun b=>again (.builtin "min.loop" { pos:=[it,.none,b],kw:=kw2 })) (fun fin s'=>match fin with
   | Fin.done f=>R (Except.ok f) s'
   | Fin.again c'=>c'.quiet=true∧codeAny (model prog w) A c' R s') (fun e s'=>R (Except.error e) s') s:=fun {A'} hA'=>by
  refine wpAny_bind (wpAny_pyIter_list hlist ?_)
  refine wpAny_bind (wpAny_newList ?_ (by show 0≤_;omega))
  refine wpAny_pure ⟨rfl,?_⟩
  have none_at:∀b,s.heap.objs.size≤b→s.heap.get? b=none:=fun b hb=>by
   cases e:s.heap.get? b with
   | none=>rfl
   | some o=>exact absurd (QB e) (Nat.not_lt.mpr hb)
  have hsz:(s.heap.push { cls:=Value.type "list_iterator",data:=Data.fields #[Value.ref l,Value.int 0 0] }).objs.size=s.heap.objs.size+1:=size_push' _ _
  refine ZlM (h0:=s.heap) (c:=0) hh hu hlist (none_at _ (Qh _)) (none_at _ (by rw[hsz];exact Qaq _)) (by rw[hsz];exact Nat.succ_ne_self _) htup hsh s (fun b o h=>Qo _ (Qo _ h)) ⟨_,Qo _ (QJ _ rfl),rfl,rfl⟩ (QJ _ rfl) hne q
 rcases hkw with⟨rfl,rfl⟩|⟨d,rfl,rfl⟩
 ·exact go hh
 ·exact go hh
theorem ZlR(hc:X.calm=true)(hu:X.A.units+64<cLine):ZaW X (.builtin "min") (Zp6 X.K):=by
 intro pins s σ H vs us Q I r h
 obtain⟨p,ts,sh,rfl,hq,hat,hne,hsh,q⟩:=h
 obtain⟨u,rfl,rx⟩:=Zdm r
 cases rx
 obtain⟨its,rv,pl,hz⟩:=I.list hq
 have ei:=Zd0 rv
 subst ei
 refine wpAny_call (Zno (sh:=sh) (I.ok.hd hc) (by omega) pl.isList (.inl ⟨rfl,rfl⟩) (fun t ht=>?_) hsh (.inl hne) fun h' t kp ht hmin=>?_)
 ·obtain⟨i,v,q,_⟩:=I.tuple (SqT.of (K:=X.K) (hat t ht))
  exact⟨i,v,q⟩
 ·exact⟨.ref t.1,H,I.kept (t':=s.toks) kp,rfl,q t ht hmin⟩
theorem ZsH(K:PySem.W.Frag){k:Nat}(hr:ZaG k X.A)(hc:X.calm=true:=by rfl)(h:X.K=K:=by rfl):ZaW X (.builtin "min") (Zp6 K):=by subst h;exact ZlR hc hr.units
def tMinD(K:PySem.W.Frag)(te:TA):TE:=fun σ H Q=>te σ H fun vs H1=>∃ (p:Addr) (ts:Zcl) (sh:List Bool),vs=[.ref p]∧SqL K H1 p (Zad ts)∧AtT H1 ts∧(∀t∈ts,ZW t.2=sh)∧(ts=[]→Q .non H1) ∧
 ∀t:Addr×List Key,t∈ts→(∀u∈ts,ZM u.2 t.2=false)→Q (.ref t.1) H1
end
theorem Zg3{α β:Type}(f:α→β):∀ (l:List α) (i:Nat),(l.eraseIdx i).map f=(l.map f).eraseIdx i
 | [],_=>rfl
 | a::r,0=>rfl
 | a::r,i+1=>by simp[Zg3 f r i]
theorem Zk7{A:Around}{a:Args}:(A.under (.builtin "list.remove.loop" a)).units≤A.units+1:=by
 show A.units+(Code.builtin "list.remove.loop" a).cUnits≤A.units+1
 rw[plainId_units MeetsSeq.plain_remove_loop]
 exact Qh _
def EqS(s:Shared)(items:List Value)(v:Value)(e:Nat→Bool):Prop:=∀ (prog:Program) (w:World) (A:Around) (E:Value→Shared→Prop) (Q:Bool→Shared→Prop) (m:Nat) (x:Value),A.units+2<cLine→items[m]? = some x→Q (e m) s→wpAny (model prog w) A (eqBool x v) Q E s
theorem Zjf{prog:Program}{w:World}{A:Around}{R:Result→Shared→Prop}{s:Shared}{l:Addr}{items:List Value}{n:Nat}{v:Value}{e:Nat→Bool}{j:Nat}(hl:s.heap.get? l=some { cls:=.type "list",data:=.seq items.toArray n })(hq:EqS s items v e)(hu:A.units+8<cLine)(hz:items.length≤1000)
  (hj:j<items.length) (h1:e j=true) (h0:∀m,m<j→e m=false) (q:R (.ok (.ret .none)) { s with heap:=s.heap.update l (Obj.mapSeq fun xs=>xs.eraseIdxIfInBounds j) }) :
  ∀ (k i:Nat),j-i=k→i≤j→codeAny (model prog w) A (.builtin "list.remove.loop" { pos:=[.ref l,v,rawInt (i:Int)] }) R s
 | k,i,hk,hi=>by
  refine codeAny_builtin MeetsSeq.entry_remove_loop ?_
  have hx:items.toArray[((i:Nat):Int).toNat]? = some items[i]:=by rw[Qad];simp
  show wpAny _ _ (Builtin.List.listItems (.ref l) >>= _) _ _ _
  refine wpAny_bind (Zbb hl rfl ?_)
  show wpAny _ _ (match items.toArray[((i:Nat):Int).toNat]? with|none=>_|some x=>_) _ _ _
  rw[hx]
  refine wpAny_bind (hq prog w _ _ _ i _ (Qar (Nat.add_le_add_right Zk7 2) (by omega)) (by simp) ?_)
  by_cases e0:i=j
  ·subst e0
   rw[h1]
   show wpAny _ _ (updateSeq l _ >>= _) _ _ _
   refine wpAny_bind (wpAny_updateSeq hl rfl ?_ (by rw[Qw,sizeLine_eq];omega) ?_)
   ·rw[Qad]
    exact wpAny_pure q
   ·show (items.toArray.eraseIdxIfInBounds ((i:Nat):Int).toNat).size≤_
    rw[List.eraseIdxIfInBounds_toArray,Qw,sizeLine_eq]
    have:=List.length_eraseIdx_le items ((i:Nat):Int).toNat
    omega
  ·rw[h0 i (by omega)]
   refine wpAny_pure ⟨plainId_quiet MeetsSeq.plain_remove_loop _,?_⟩
   have:=Zjf (prog:=prog) (w:=w) hl hq hu hz hj h1 h0 q (k-1) (i+1) (by omega) (by omega)
   rw[show ((i+1:Nat):Int)=(i:Int)+1 by omega]at this
   exact this
termination_by k=>k
theorem ZlF(l:Addr)(items:List Value)(n:Nat)(v:Value)(e:Nat→Bool)(j:Nat):Meets (Builtin.«list.remove» { pos:=[.ref l,v] }) (fun A R s=>s.heap.get? l=some { cls:=.type "list",data:=.seq items.toArray n }∧EqS s items v e∧A.units+8<cLine∧items.length≤1000∧j<items.length∧e j=true∧(∀m,m<j→e m=false) ∧
  R (.ok (.ret .none)) { s with heap:=s.heap.update l (Obj.mapSeq fun xs=>xs.eraseIdxIfInBounds j) }):=by
 intro prog w A R s ⟨hl,hq,hu,hz,hj,h1,h0,q⟩
 show wpAny _ _ (pure (Fin.again (.builtin "list.remove.loop" { pos:=[.ref l,v,rawInt 0] }))) _ _ _
 exact wpAny_pure ⟨plainId_quiet MeetsSeq.plain_remove_loop _,Zjf hl hq hu hz hj h1 h0 q j 0 rfl (Qv _)⟩
section
variable {X:Cx}
def rRemI:V→List V→Hp→VK→Prop:=fun x vs H Q=>∃ (l:Addr) (ns:List Int) (n:Int),x=.ref l∧vs=[.int n]∧H l=some (.lst (ns.map V.int))∧n∈ns∧ns.length≤1000∧Q .non (upd H l (.lst ((ns.erase n).map V.int)))
def ZpX:V→List V→Hp→VK→Prop:=fun x vs H Q=>∃ (l:Addr) (ts:Zcl) (t:Addr×List Key),x=.ref l∧vs=[.ref t.1]∧H l=some (.lst (Zad ts))∧AtT H ts∧t∈ts∧ts.length≤1000∧∀ (i:Nat) (hi:i<ts.length),ts[i].2=t.2→Q .non (upd H l (.lst (Zad (ts.eraseIdx i))))
theorem ZoQ(hu:X.A.units+64<cLine):MtM X "list.remove" ZpX:=by
 intro pins s σ H x vs v us Q I rx rv h
 obtain⟨l,ts,t,rfl,rfl,hH,hat,ht,hz,q⟩:=h
 cases rx
 obtain⟨u,rfl,ru⟩:=rv.one
 cases ru
 obtain⟨z,its,n',r,hl,e⟩:=I.lstM hH
 have ei:=Zd0 r
 subst ei
 have hj:ts.findIdx (fun u=>decide (u.2=t.2))<ts.length:=List.findIdx_lt_length.mpr ⟨t,ht,decide_eq_true rfl⟩
 have key:∀u∈ts,(tupleKind (ZL X.prog X.w)).is s.heap u.2 u.1:=fun u hu'=>I.tkey (hat u hu')
 have tup:∀u∈ts,∃i:List Value,Zy (u.2.map kV) i∧IsTup s.heap u.1 i.toArray:=fun u hu'=>by
  obtain⟨i,v,q,_⟩:=I.tuple (SqT.of (K:=X.K) (hat u hu'))
  exact⟨i,v,q⟩
 refine call_meets F.slot_list_remove ⟨_,e,rfl⟩ F.entry_list_remove (F.args_list_remove_2 _ _) (ZlF l _ n' _ (fun m=>match ts[m]? with|some u=>decide (u.2=t.2)|none=>false) (ts.findIdx (fun u=>decide (u.2=t.2)))) ⟨e,?_,by omega,by rw[Qa];omega,by rw[Qa];exact hj,?_,?_,?_⟩
 ·intro prog w A E Q' m x hA hx hQ
  rw[Qi]at hx
  cases hm:ts[m]? with
  | none=>rw[hm]at hx;cases hx
  | some u =>
   rw[hm]at hx
   cases hx
   simp only[hm]at hQ
   obtain⟨i1,v1,o1,g1,c1,n1,d1⟩:=tup u (Qq hm)
   obtain⟨i2,v2,o2,g2,c2,n2,d2⟩:=tup t ht
   refine wpAny_eqBool_tuple (knd:=ZL prog w) (x:=u.2) (y:=t.2) (by omega) ⟨o1,_,n1,g1,c1,d1,?_⟩ ⟨o2,_,n2,g2,c2,d2,?_⟩ hQ
   ·simpa using Zf3 u.2 i1 v1
   ·simpa using Zf3 t.2 i2 v2
 ·simp only[List.getElem?_eq_getElem hj]
  exact List.findIdx_getElem (w:=hj)
 ·intro m hm
  have hml:m<ts.length:=by omega
  simp only[List.getElem?_eq_getElem hml]
  exact List.not_of_lt_findIdx (xs:=ts) (p:=fun u=>decide (u.2=t.2)) hm
 ·have hv:Zy (Zad (ts.eraseIdx (ts.findIdx fun u=>decide (u.2=t.2)))) ((ts.map fun t=>Value.ref t.1).eraseIdx (ts.findIdx fun u=>decide (u.2=t.2))):=by
   have:=r.eraseIdx (ts.findIdx fun u=>decide (u.2=t.2))
   unfold Zad at this ⊢
   rw[Zg3]
   exact this
  refine⟨.non,_,I.lset (its':=(ts.map fun t=>Value.ref t.1).eraseIdx (ts.findIdx fun u=>decide (u.2=t.2))) hH e ?_ hv ?_,rfl,q _ hj (of_decide_eq_true (List.findIdx_getElem (w:=hj)))⟩
  ·show (ts.map fun t=>Value.ref t.1).toArray.eraseIdxIfInBounds _=_
   rw[List.eraseIdxIfInBounds_toArray]
  ·unfold Zad
   rw[Qa]
   have:=List.length_eraseIdx_le ts (ts.findIdx fun u=>decide (u.2=t.2))
   rw[sizeLine_eq];omega
theorem ZsM{k:Nat}(hr:ZaG k X.A):MtM X "list.remove" ZpX:=ZoQ hr.units
end
theorem ZqZ(i j:Int):(!decide (i<j))=decide (j≤i):=by by_cases z:i<j<;>simp[z]<;>omega
theorem Zm6(A:Around)(s:Shared){k m:Key}{p q:Value}(hp:ZC (kV k) p)(hq:ZC (kV m) q)(hs:k.isLeft=m.isLeft)(prog:Program)(w:World)(E:Value→Shared→Prop)(Q:Value→Shared→Prop)(h:Q (.bool (!kLt k m)) s) :
  wpAny (model prog w) A (richCompare .GtE p q) Q E s:=by
 cases k with
 | inl i =>
  cases m with
  | inl j =>
   obtain⟨t,rfl⟩:=hp
   obtain⟨u,rfl⟩:=hq
   exact(PyProof.Rows.ge_int (ZqZ i j ▸ h):wpAny (model prog w) A (compareOp .GtE (.int i t) (.int j u)) Q E s)
  | inr y=>cases hs
 | inr x =>
  cases m with
  | inl j=>cases hs
  | inr y =>
   obtain⟨t,rfl⟩:=hp
   obtain⟨u,rfl⟩:=hq
   exact(PySem.P.ge_str h:wpAny (model prog w) A (compareOp .GtE (.str x t) (.str y u)) Q E s)
section
open PySem.SeqAt
open PySem.AutoSeq1 (wpAny_loadPart')
open PySem.MeetsSeq PySem.MeetsSeq2 PySem.MeetsSeq3
theorem Zgq(l b:Addr)(items items2:Array Value)(n n2:Nat)(dd dd2:Option Addr)(sl sl2:Array (Option Value))(ks ms:List Key)(hi:Zy (ks.map kV) items.toList)(hj:Zy (ms.map kV) items2.toList)(hs:ZW ks=ZW ms) :
  Meets (Builtin.«tuple.__ge__» ⟨[.ref l,.ref b],[]⟩)
   (fun _ R s=>s.heap.get? l=some { cls:=.type "tuple",dict:=dd,data:=.seq items n,slots:=sl }∧s.heap.get? b=some { cls:=.type "tuple",dict:=dd2,data:=.seq items2 n2,slots:=sl2 } ∧
    R (.ok (.ret (.bool (!ZM ks ms)))) s) :=
 .of_wp fun prog w A R s h=>by
  obtain⟨hp,g,d,tk,os⟩:=s;obtain⟨hl,hb,h⟩:=h
  have f2:=AutoSeq1.sub_tuple_tuple
  have z1:items.size=ks.length:=by have:=hi.length;simpa using this.symm
  have z2:items2.size=ms.length:=by have:=hj.length;simpa using this.symm
  have z3:ks.length=ms.length:=by have:=congrArg List.length hs;simpa [ZW] using this
  wp_walk using wpAny_loadPart' hl,wpAny_loadPart' hb,wpAny_forIn_list _ (fun rest b s'=>b.1=none∧s'=⟨hp,g,d,tk,os⟩∧∃ (vs ws:List Value) (ks' ms':List Key),rest=vs.zip ws ∧
   Zy (ks'.map kV) vs∧Zy (ms'.map kV) ws∧ZW ks'=ZW ms'∧R (.ok (.ret (.bool (!ZM ks' ms')))) ⟨hp,g,d,tk,os⟩) _
  case turn =>
   rintro⟨y,x⟩ rest b s' ⟨hb',rfl,vs,ws,ks',ms',hz,hvi,hwi,hsh,hR⟩
   cases ks' with
   | nil=>cases hvi;rw[List.zip_nil_left]at hz;cases hz
   | cons k1 kr =>
    cases ms' with
    | nil=>cases hsh
    | cons m1 mr =>
     cases hvi with
     | cons r1 rr =>
      cases hwi with
      | cons r1' rr' =>
       rw[Qaa]at hz
       injection hz with hyx hrest
       injection hyx with hy hx
       subst hy hx
       rw[Z9]at hR
       unfold ZW at hsh
       rw[Qj,Qj]at hsh
       injection hsh with s1 s2
       obtain⟨e,he,hiff⟩:=Zip A.in1 ⟨hp,g,d,tk,os⟩ r1 r1' s1
       refine wpAny_bind (he prog w _ _ ?_)
       cases e with
       | true =>
        rw[if_pos (hiff.mp rfl)]at hR
        wp_walk
        exact⟨rfl,rfl,_,_,_,_,hrest,rr,rr',s2,hR⟩
       | false =>
        rw[if_neg (fun q=>absurd (hiff.mpr q) QC)]at hR
        have hri:=Zm6 A.in1 ⟨hp,g,d,tk,os⟩ r1 r1' s1 prog w
        wp_walk using hri
        exact⟨_,rfl,by simpa using hR⟩
  case fin =>
   rintro⟨b1,b2⟩ s' ⟨hb',rfl,vs,ws,ks',ms',hz,hvi,hwi,hsh,hR⟩
   simp only at hb'
   subst hb'
   have hv:(!ZM ks' ms')=decide (items.size≥items2.size):=by
    rw[decide_eq_true (by omega)]
    cases ks' with
    | nil =>
     cases ms' with
     | nil=>rfl
     | cons _ _=>cases hsh
    | cons k1 kr =>
     cases ms' with
     | nil=>cases hsh
     | cons m1 mr =>
      cases hvi with
      | cons r1 rr =>
       cases hwi with
       | cons r1' rr'=>rw[Qaa]at hz;cases hz
   rw[hv]at hR
   wp_walk
   exact⟨_,rfl,by simpa [Builtin.Tuple.tupleCompareSizes] using hR⟩
  case h =>
   exact⟨rfl,rfl,items.toList,items2.toList,ks,ms,rfl,hi,hj,hs,h⟩
end
section
variable {prog:Program} {w:World} {A:Around} {E:Value→Shared→Prop} {s:Shared}
theorem ZjT{l b:Addr}{items items2:Array Value}{ks ms:List Key}{Q:Value→Shared→Prop}(hl:IsTup s.heap l items)(hb:IsTup s.heap b items2)(hi:Zy (ks.map kV) items.toList)(hj:Zy (ms.map kV) items2.toList)(hs:ZW ks=ZW ms)
  (hu:A.units<cLine) (h:Q (.bool (!ZM ks ms)) s):wpAny (model prog w) A (richCompare .GtE (.ref l) (.ref b)) Q E s:=by
 obtain⟨⟨cls,dd,data,sl⟩,ho,hc,n,hd⟩:=id hl
 obtain⟨⟨cls2,dd2,data2,sl2⟩,ho2,hc2,n2,hd2⟩:=id hb
 simp only at hc hd hc2 hd2
 subst hc hd hc2 hd2
 exact richCompare_meets_room (op:=.GtE) ⟨_,ho,rfl⟩ ⟨_,ho2,rfl⟩ PySem.F.slot_tuple_ge PySem.F.entry_tuple_ge (PySem.F.args_tuple_ge_2 _ _) (Zgq l b items items2 n n2 dd dd2 sl sl2 ks ms hi hj hs)
  ⟨ho,ho2,show Value.bool (!ZM ks ms)≠Value.notImplemented∧Q (.bool (!ZM ks ms)) s from⟨(fun x=>nomatch x),h⟩⟩ hu
end
section
variable {X:Cx}
def Zsz(K:PySem.W.Frag):R2:=fun x y H Q=>∃ (a b:Addr) (ks ms:List Key),x=.ref a∧y=.ref b∧SqT K H a (ks.map kV)∧SqT K H b (ms.map kV)∧ZW ks=ZW ms∧Q (.bl (!ZM ks ms)) H
theorem Zrj(hu:X.A.units<cLine):OpR X (compareOp .GtE) (Zsz X.K):=by
 intro pins s σ H x y v u Q I rx ry h
 obtain⟨a,b,ks,ms,rfl,rfl,ha,hb,hs,q⟩:=h
 cases rx
 cases ry
 obtain⟨its,r1,p1,_⟩:=I.tuple ha
 obtain⟨its2,r2,p2,_⟩:=I.tuple hb
 exact ZjT p1 p2 r1 r2 hs hu ⟨.bl (!ZM ks ms),H,I,rfl,q⟩
theorem geK(K:PySem.W.Frag){k:Nat}(hr:ZaG k X.A)(h:X.K=K:=by rfl):OpR X (compareOp .GtE) (Zsz K):=by subst h;exact Zrj (by have:=hr.units;omega)
end
def rMaxL(K:PySem.W.Frag):List V→Hp→VK→Prop:=fun vs H Q=>∃ (p:Addr) (ns:List Int),vs=[.ref p]∧SqL K H p (ns.map V.int)∧0<ns.length∧∀M,M∈ns→(∀a∈ns,a≤M)→Q (.int M) H
def isNum(n:Int):Value→Bool
 | .int a _=>a == n
 | _=>false
section
variable {X:Cx}
def rCountI:V→List V→Hp→VK→Prop:=fun x vs H Q=>∃ (l:Addr) (ns:List Int) (n:Int),x=.ref l∧vs=[.int n]∧H l=some (.lst (ns.map V.int))∧Q (.int ((ns.count n:Nat):Int)) H
end
section
variable {X:Cx} {T name id:String} {r:V→List V→Hp→VK→Prop} {o e:Expr} {es:List Expr} {to:TE} {t:TA} {apos cpos:Pos}
end
def Ztt(s:Shared)(items:List Value)(v:Value)(e:Nat→Bool):Prop:=∀ (prog:Program) (w:World) (A:Around) (E:Value→Shared→Prop) (Q:Bool→Shared→Prop) (m:Nat) (x:Value),A.units+60<cLine→items[m]? = some x→Q (e m) s→wpAny (model prog w) A (eqBool x v) Q E s
section
variable {X:Cx}
def rRemD(K:PySem.W.Frag):V→List V→Hp→VK→Prop:=fun x vs H Q=>∃ (l:Addr) (xs:List V) (ds:List PyData) (y:V) (d:PyData) (i:Nat),x=.ref l∧vs=[y]∧H l=some (.lst xs)∧DVs K H xs ds∧DV K H y d∧(∀e∈ds,e.canLay0=true)∧d.canLay0=true∧d.depth≤56∧xs.length≤1000 ∧
 i<ds.length∧(∀e,ds[i]? = some e→PyData.eqv e d=true)∧(∀m e,m<i→ds[m]? = some e→PyData.eqv e d=false)∧Q .non (upd H l (.lst (xs.eraseIdx i)))
def rInD(K:PySem.W.Frag):R2:=fun x y H Q=>∃ (l:Addr) (xs:List V) (ds:List PyData) (d:PyData),y=.ref l∧SqL K H l xs∧DVs K H xs ds∧DV K H x d∧PyData.canLayAll0 ds=true∧SeqAt.shaped d=true∧d.depth≤60∧Q (.bl (ds.any fun e=>PyData.eqv e d)) H
def Zp7(K:PySem.W.Frag):List V→Hp→VK→Prop:=fun vs H Q=>∃ (p:Addr) (ns:List Int),vs=[.ref p]∧SqL K H p (ns.map V.int)∧ns.length≤1000∧(∀n∈ns,0≤n∧n≤10000000000000)∧Q (.int ns.sum) H
theorem Zlv(hc:X.calm=true):ZaW X (.builtin "sum") (Zp7 X.K):=by
 intro pins s σ H vs us Q I r h
 obtain⟨p,ns,rfl,hq,hn,hb,q⟩:=h
 obtain⟨u,rfl,rx⟩:=Zdm r
 cases rx
 obtain⟨its,rv,pl,_⟩:=I.list hq
 have hi:=ZjX rv
 obtain⟨xs,e⟩:=hi.allInts.items
 have hns:ns=xs.toList.map (·.1):=by rw[← hi.numsOf,← nums_intItems,← e]
 have hsz:xs.size=ns.length:=by rw[hns,Qa,QaD]
 have hnum:numAt xs=fun j=>ns.getD j 0:=by funext j;rw[numAt_eq,hns]
 have hl:=pl.isList
 rw[e]at hl
 have bound:∀n,n≤ns.length→0≤(ns.take n).sum∧(ns.take n).sum≤10000000000000*n:=by
  intro n
  induction n with
  | zero=>intro _;exact⟨by simp,by simp⟩
  | succ n ih =>
   intro h
   have ih:=ih (by omega)
   have hm:=hb ns[n] (QZ (by omega))
   have e2:ns.take (n+1)=ns.take n++[ns[n]]:=by rw[QH,Qb (by omega)];rfl
   rw[e2,Qal]
   have e3:([ns[n]]:List Int).sum=ns[n]:=by simp
   rw[e3]
   omega
 refine sum_intList (I.ok.hd hc) hl (fun j hj=>?_) fun h' tk t' hk=>⟨.int _,H,I.kept hk,⟨t',rfl⟩,?_⟩
 ·rw[hnum]
  have hm:=hb ns[j] (QZ (by omega))
  have hg:ns.getD j 0=ns[j]:=by rw[Ql,Qb (by omega)];rfl
  have hp:=bound (j+1) (by omega)
  refine⟨⟨?_,?_⟩,⟨?_,?_⟩⟩
  ·show -(2 ^ 63)≤ns.getD j 0
   rw[hg];omega
  ·show ns.getD j 0<2 ^ 63
   rw[hg];omega
  ·rw[Zex ns (j+1) (by omega)];omega
  ·rw[Zex ns (j+1) (by omega)];omega
 ·rw[hnum,hsz,Zex ns ns.length (Qh _),Qx (Qh _)]
  exact q
theorem Zr7(K:PySem.W.Frag)(hc:X.calm=true:=by rfl)(h:X.K=K:=by rfl):ZaW X (.builtin "sum") (Zp7 K):=by subst h;exact Zlv hc
end
theorem Zph{H:Hp}{k:List Key}{kvs:List (List Key×V)}{xs:List (List Key×Addr×Value)}(r:Zfj H kvs xs):∀ {v:V},Zbs kvs k=some v→∃p,atKey xs k=some p∧ZC v p.2:=by
 induction r with
 | nil=>intro v h;cases h
 | @cons p q ps qs h t ih =>
  intro v hv
  unfold Zbs at hv
  unfold atKey
  rw[Qam]at hv ⊢
  rw[← h.1]
  by_cases e:p.1=k
  ·rw[decide_eq_true e]at hv ⊢
   cases hv
   exact⟨q.2,rfl,h.2.2⟩
  ·rw[decide_eq_false e]at hv ⊢
   exact ih hv
theorem ZoP{H:Hp}{k:List Key}{kvs:List (List Key×V)}{xs:List (List Key×Addr×Value)}(r:Zfj H kvs xs):Zbs kvs k=none→atKey xs k=none:=by
 induction r with
 | nil=>intro _;rfl
 | @cons p q ps qs h t ih =>
  intro hv
  unfold Zbs at hv
  unfold atKey
  rw[Qam]at hv ⊢
  rw[← h.1]
  by_cases e:p.1=k
  ·rw[decide_eq_true e]at hv
   cases hv
  ·rw[decide_eq_false e]at hv ⊢
   exact ih hv
theorem Zfa{kvs:List (List Key×V)}{k k':List Key}{v:V}:Zbs (kvs++[(k,v)]) k'=(Zbs kvs k').or (if k=k' then some v else none):=by
 unfold Zbs
 rw[List.find?_append]
 cases h:kvs.find? fun kv=>decide (kv.1=k') with
 | some x=>rfl
 | none =>
  by_cases e:k=k'
  ·simp[e]
  ·simp[e]
section
variable {X:Cx}
def ZhO:R2:=fun x y H Q=>∃d kvs b ks v,x=.ref d∧y=.ref b∧H d=some (.dT kvs)∧H b=some (.tup (ks.map kV))∧Zbs kvs ks=some v∧Q v H
theorem ZrW(hu:X.A.units+64<cLine):IxR X ZhO:=by
 intro value slice pins s σ H x y v u Q I rx ry h hs
 obtain⟨d,kvs,b,ks,z,rfl,rfl,hH,hb,hk,q⟩:=h
 cases rx
 cases ry
 obtain⟨_,hd,xs,rel,o,es,ep,ho,hex,hdat,hent,hnd⟩:=(show Zaw X.prog X.w H s.heap d (.dT kvs) from I.hok d _ hH)
 have hm:s.heap.DictOfH (tupleKind (ZL X.prog X.w)) d xs:=⟨o,es,ep,ho,hex,hdat,hent,ZiG (R:=fun ks b=>(tupleKind (ZL X.prog X.w)).is s.heap ks b) (fun ks b e=>I.tkey e) rel,hnd⟩
 obtain⟨p,hp,rp⟩:=Zph rel hk
 exact subscriptTail_builtinR (x:=p.2) hm.typeIs PySem.F.slot_dict_getitem.lookup (wpAny_getItem_heap (knd:=tupleKind (ZL X.prog X.w)) (by show X.A.units+1<cLine;omega) (I.tkey hb) hm hp ⟨rfl,z,H,I.tok _,rp,q⟩) hs
theorem ixD{k:Nat}(hr:ZaG k X.A):IxR X ZhO:=ZrW hr.units
def ZjL:Zls:=fun o i v H Q=>∃d kvs b ks,o=.ref d∧i=.ref b∧H d=some (.dT kvs)∧H b=some (.tup (ks.map kV))∧Zbs kvs ks=none∧kvs.length<sizeLine∧Q (upd H d (.dT (kvs++[(ks,v)])))
theorem Zqm(hu:X.A.units+64<cLine):Zni X ZjL:=by
 intro pins s σ H o i v ov iv u Q I ro ri rv h
 obtain⟨d,kvs,b,ks,rfl,rfl,hH,hb,hk,hz,q⟩:=h
 cases ro
 cases ri
 obtain⟨_,hd,xs,rel,o,es,ep,ho,hex,hdat,hent,hnd⟩:=(show Zaw X.prog X.w H s.heap d (.dT kvs) from I.hok d _ hH)
 have hm:s.heap.DictOfH (tupleKind (ZL X.prog X.w)) d xs:=⟨o,es,ep,ho,hex,hdat,hent,ZiG (R:=fun ks b=>(tupleKind (ZL X.prog X.w)).is s.heap ks b) (fun ks b e=>I.tkey e) rel,hnd⟩
 have hl:=ZmV rel
 have hno:=ZoP rel hk
 refine wpAny_setItem_heap (knd:=tupleKind (ZL X.prog X.w)) (k:=ks) (by show X.A.units+1<cLine;omega) (I.tkey hb) hm (fun h' hm' hs=>?_) (by omega)
 rw[storedH_new hno]at hm'
 obtain⟨o',es',ep',g1,g2,g3,g4,_,g5⟩:=hm'
 refine⟨_,?_,q⟩
 refine I.write (x:=d) (e:=d) (by rw[hH];exact True.intro) (.inl rfl) (fun c q hc z=>(hs.2 c hc).trans z) ⟨o',g1⟩ ?_
 refine⟨by rw[Qg,Qk];omega,hd,xs++[(ks,b,u)],?_,o',es',ep',g1,g2,g3,g4,g5⟩
 refine Zk9 (fun c ys ec=>?_) (Zld rel ⟨rfl,hb,rv⟩)
 rw[Ze (Zku ec hH (fun z=>nomatch z))]
 exact ec
theorem ZsK{k:Nat}(hr:ZaG k X.A):Zni X ZjL:=Zqm hr.units
end
abbrev IsZipG(h:Heap)(z TI TO:Addr)(f0:Value)(fl:Bool):Prop :=
 h.get? z=some { cls:=.type "zip",dict:=none,data:=.fields #[f0,.bool fl,.bool false,.ref TI,.ref TO],slots:=#[] }
section
variable {prog:Program} {w:World} {A:Around} {E:Value→Shared→Prop} {s:Shared}
end
section
variable {prog:Program} {w:World} {A:Around} {R:Result→Shared→Prop} {s:Shared}
end
def ZoJ(J:It)(D:Addr)(ys:List V)(σ:St)(H:Hp)(g:TG)(te:TE)(N:List V→St→Hp→Prop):Prop :=
 ∃W:Nat→Nat→List V→St→Hp→Prop,(∃m,W 0 m ys σ H) ∧
  ∀i m ys σ2 H2,W i m ys σ2 H2→(J.stop i H2∧N ys σ2 H2) ∨
   (J.go i H2∧∃N2:List V→St→Hp→Prop,(∀ys' σ' H',N2 ys' σ' H'→∃m',m'<m∧W (i+1) m' ys' σ' H')∧∀x H3,J.yld i H2 x H3→g x σ2 H3 fun σ4 H4 =>
    te σ4 H4 fun y H6=>H6 D=some (.lst ys)∧ys.length<sizeLine∧N2 (ys++[y]) σ4 (upd H6 D (.lst (ys++[y]))))
def Zpt(J:It)(D:Addr)(k:Nat)(σ:St)(H1:Hp)(g:TG)(wi2:TI)(g2:TG)(te:TE)(Q:VK):Prop :=
 ∃W:Nat→Nat→List V→St→Hp→Prop,(∃m,W 0 m [] (σ++List.replicate k none) (upd H1 D (.lst []))) ∧
  ∀i m ys σ2 H2,W i m ys σ2 H2→(J.stop i H2∧Q (.ref D) H2) ∨
   (J.go i H2∧∃N:List V→St→Hp→Prop,(∀ys' σ' H',N ys' σ' H'→∃m',m'<m∧W (i+1) m' ys' σ' H')∧∀x H3,J.yld i H2 x H3→g x σ2 H3 fun σ4 H4=>wi2 σ4 H4 fun J2 H5=>ZoJ J2 D ys σ4 H5 g2 te N)
def Ztf(n:Nat)(wi:TI)(g:TG)(wi2:TI)(g2:TG)(te:TE):TE:=fun σ H Q=>wi σ H fun J H1=>∀D,H1 D=none→Zpt J D n σ H1 g wi2 g2 te Q
section
variable {X:Cx} {N N':List Str} {o c:Scope}
end
end L2
namespace Hf
open L2
abbrev PW:=List (Int×Nat)
def val(P:PW):Int:=(P.map fun p=>p.1*(p.2:Int)).sum
def ws(P:PW):List Int:=P.map (·.1)
def ds(P:PW):List Nat:=P.map (·.2)
def zs(z:Nat):List Int:=List.replicate z 0
def kr(w E:Nat)(D:List Nat):Nat:=(D.map fun d=>w ^ (E-d)).sum
def Kr(w:Nat)(D:List Nat):Prop:=∃E,(∀d∈D,d≤E)∧kr w E D=w ^ E
inductive Hu (w:Nat):List Int→Nat→Int→Prop
 | stop {e:Int} {m:Nat}:Hu w [e] m 0
 | step {E L:List Int} {m:Nat} {C:Int}:1<L.length→E.Perm L→L.Pairwise (·≤·)→Hu w (L.drop m++[(L.take m).sum]) w C→Hu w E m (C+(L.take m).sum)
def Fit(w n m:Nat):Prop:=n=1∨∃t,n=m+t*(w-1)
structure Fits (w n m:Nat):Prop where
 w2:2≤w
 m2:2≤m
 mw:m≤w
 ok:Fit w n m
end Hf
namespace L2
open PySem PySem.Spec PyProof.Rows
section
variable {prog:Program} {w:World} {A:Around} {R:Result→Shared→Prop} {s:Shared}
end
def Zrq(J:It)(D:Addr)(k:Nat)(σ:St)(H1:Hp)(g:TG)(tc:TT)(tk te:TE)(Q:VK):Prop :=
 ∃W:Nat→Nat→List (List Key×V)→St→Hp→Prop,(∃m,W 0 m [] (σ++List.replicate k none) (upd H1 D (.dT []))) ∧
  ∀i m ys σ2 H2,W i m ys σ2 H2→(J.stop i H2∧Q (.ref D) H2) ∨
   (J.go i H2∧∃N:List (List Key×V)→St→Hp→Prop,(∀ys' σ' H',N ys' σ' H'→∃m',m'<m∧W (i+1) m' ys' σ' H')∧∀x H3,J.yld i H2 x H3→g x σ2 H3 fun σ4 H4=>tc σ4 H4 fun b H5 =>
    if b=true then tk σ4 H5 fun kv H6=>te σ4 H6 fun y H7=>∃ (b:Addr) (ks:List Key),kv=.ref b∧H7 D=some (.dT ys)∧H7 b=some (.tup (ks.map kV))∧Zbs ys ks=none∧ys.length<sizeLine∧N (ys++[(ks,y)]) σ4 (upd H7 D (.dT (ys++[(ks,y)]))) else N ys σ4 H5)
def tDComp(n:Nat)(wi:TI)(g:TG)(tc:TT)(tk te:TE):TE:=fun σ H Q=>wi σ H fun J H1=>∀D,H1 D=none→Zrq J D n σ H1 g tc tk te Q
section
variable {X:Cx} {N N':List Str} {o c:Scope}
end
section
variable {κ:Type} [DecidableEq κ]
def ZbE(kvs:List (κ×V))(k:κ):Option V:=(kvs.find? fun kv=>decide (kv.1=k)).map (·.2)
def Zc3(kvs:List (κ×V))(k:κ)(v:V):List (κ×V) :=
 if (kvs.any fun kv=>decide (kv.1=k))=true then kvs.map (fun kv=>if kv.1=k then (kv.1,v) else kv) else kvs++[(k,v)]
def ZkS(kvs:List (κ×V))(k:κ):List (κ×V):=kvs.filter fun kv=>decide (kv.1≠k)
theorem ZrM{k:κ}:ZbE ([]:List (κ×V)) k=none:=rfl
theorem Zdu{p:κ×V}{r:List (κ×V)}{k:κ}(e:p.1=k):ZbE (p::r) k=some p.2:=by simp[ZbE,List.find?_cons,e]
theorem ZdJ{p:κ×V}{r:List (κ×V)}{k:κ}(e:¬ p.1=k):ZbE (p::r) k=ZbE r k:=by simp[ZbE,List.find?_cons,e]
theorem Zf7(k:κ):∀kvs:List (κ×V),(kvs.any fun kv=>decide (kv.1=k))=(ZbE kvs k).isSome
 | []=>rfl
 | p::r=>by
  rw[QaF]
  by_cases e:p.1=k
  ·simp only[Zdu e,decide_eq_true e,Bool.true_or,Option.isSome_some]
  ·rw[ZdJ e,decide_eq_false e,Bool.false_or];exact Zf7 k r
theorem Zfd(kvs:List (κ×V))(k:κ)(v:V):(Zc3 kvs k v).length≤kvs.length+1:=by
 unfold Zc3
 split
 ·rw[Qa];omega
 ·rw[Qg,QD,List.length_nil];omega
theorem ZmW{kvs:List (κ×V)}{k:κ}(v:V)(h:ZbE kvs k=none):Zc3 kvs k v=kvs++[(k,v)]:=by
 unfold Zc3
 rw[Zf7,h]
 exact if_neg (by decide)
theorem Zdo.isSome_eq{o:Option V}{u:Option Value}(r:Zdo o u):o.isSome=u.isSome:=by
 cases o with
 | none=>cases u with
  | none=>rfl
  | some _=>exact(show False from r).elim
 | some _=>cases u with
  | none=>exact(show False from r).elim
  | some _=>rfl
theorem Zdo.getD{o:Option V}{u:Option Value}{d:V}{d':Value}(r:Zdo o u)(rd:ZC d d'):ZC (o.getD d) (u.getD d'):=by
 cases o with
 | none=>cases u with
  | none=>exact rd
  | some _=>exact(show False from r).elim
 | some _=>cases u with
  | none=>exact(show False from r).elim
  | some _=>exact r
theorem KV.val{kvs:List (κ×V)}{vs:List (κ×Value)}(r:KV kvs vs)(k:κ):Zdo (ZbE kvs k) (valueAt vs k):=by
 unfold KV at r
 induction r with
 | nil=>exact True.intro
 | @cons p q ps qs h t ih =>
  obtain⟨h1,h2⟩:=h
  by_cases e:p.1=k
  ·have e':q.1=k:=h1.symm.trans e
   have b:valueAt (q::qs) k=some q.2:=by simp[valueAt,List.find?_cons,e']
   rw[Zdu e,b];exact h2
  ·have e':¬ q.1=k:=fun z=>e (h1.trans z)
   have b:valueAt (q::qs) k=valueAt qs k:=by simp[valueAt,List.find?_cons,e']
   rw[ZdJ e,b];exact ih
theorem KV.any{kvs:List (κ×V)}{vs:List (κ×Value)}(r:KV kvs vs)(k:κ):(kvs.any fun kv=>decide (kv.1=k))=vs.any fun kv=>decide (kv.1=k):=by
 unfold KV at r
 induction r with
 | nil=>rfl
 | cons h t ih=>rw[QaF,QaF,ih,h.1]
theorem KV.repl{kvs:List (κ×V)}{vs:List (κ×Value)}(r:KV kvs vs)(k:κ){y:V}{u:Value}(ry:ZC y u) :
  KV (kvs.map fun kv=>if kv.1=k then (kv.1,y) else kv) (vs.map fun kv=>if kv.1=k then (kv.1,u) else kv):=by
 unfold KV at r ⊢
 induction r with
 | nil=>exact .nil
 | @cons p q ps qs h t ih =>
  rw[Qj,Qj]
  refine .cons ?_ ih
  obtain⟨h1,h2⟩:=h
  by_cases e:p.1=k
  ·rw[if_pos e,if_pos (h1.symm.trans e)];exact⟨h1,ry⟩
  ·rw[if_neg e,if_neg (fun z=>e (h1.trans z))];exact⟨h1,h2⟩
theorem KV.put{kvs:List (κ×V)}{vs:List (κ×Value)}(r:KV kvs vs)(k:κ){y:V}{u:Value}(ry:ZC y u):KV (Zc3 kvs k y) (stored vs k u):=by
 unfold Zc3 stored
 rw[r.any k]
 by_cases e:(vs.any fun kv=>decide (kv.1=k))=true
 ·rw[if_pos e,if_pos e];exact r.repl k ry
 ·rw[if_neg e,if_neg e];exact Paired.snoc r ⟨rfl,ry⟩
theorem KV.length{kvs:List (κ×V)}{vs:List (κ×Value)}(r:KV kvs vs):kvs.length=vs.length:=Paired.length r
end
theorem ZkW{P:Program}{w:World}{k:Key}{u:Value}(r:ZC (kV k) u):(ZL P w).is k u=true:=by
 cases k with
 | inl i=>obtain⟨t,e⟩:=(show ∃t,u=Value.int i t from r);subst e;exact Zfg P w i t
 | inr x=>obtain⟨t,e⟩:=(show ∃t,u=Value.str x t from r);subst e;exact Zfb P w x t
theorem Zhs{P:Program}{w:World}:∀ {ks:List Key} {us:List Value},Zy (ks.map kV) us→ItemsAre (ZL P w) ks us
 | [],_,r=>by rw[Qac]at r;cases r;exact .nil
 | k::ks,_,r=>by
  rw[Qj]at r
  cases r with
  | cons h t=>exact .cons (ZkW h) (Zhs t)
abbrev KT(H:Hp):List (List Key×V)→List (List Key×Addr×Value)→Prop:=Paired fun p q=>p.1=q.1∧H q.2.1=some (.tup (p.1.map kV))∧ZC p.2 q.2.2
theorem KT.val{H:Hp}{kvs:List (List Key×V)}{xs:List (List Key×Addr×Value)}(r:KT H kvs xs)(k:List Key):Zdo (ZbE kvs k) ((atKey xs k).map (·.2)):=by
 induction r with
 | nil=>exact True.intro
 | @cons p q ps qs h t ih =>
  obtain⟨h1,_,h2⟩:=h
  by_cases e:p.1=k
  ·have e':q.1=k:=h1.symm.trans e
   have b:atKey (q::qs) k=some q.2:=by simp[atKey,List.find?_cons,e']
   rw[Zdu e,b];exact h2
  ·have e':¬ q.1=k:=fun z=>e (h1.trans z)
   have b:atKey (q::qs) k=atKey qs k:=by simp[atKey,List.find?_cons,e']
   rw[ZdJ e,b];exact ih
theorem KT.repl{H:Hp}{kvs:List (List Key×V)}{xs:List (List Key×Addr×Value)}(r:KT H kvs xs)(k:List Key){y:V}{u:Value}(ry:ZC y u) :
  KT H (kvs.map fun kv=>if kv.1=k then (kv.1,y) else kv) (xs.map (putAt k u)):=by
 induction r with
 | nil=>exact .nil
 | @cons p q ps qs h t ih =>
  rw[Qj,Qj]
  refine .cons ?_ ih
  obtain⟨h1,h2,h3⟩:=h
  unfold putAt
  by_cases e:p.1=k
  ·rw[if_pos e,if_pos (h1.symm.trans e)];exact⟨h1,h2,ry⟩
  ·rw[if_neg e,if_neg (fun z=>e (h1.trans z))];exact⟨h1,h2,h3⟩
theorem KT.put{H:Hp}{kvs:List (List Key×V)}{xs:List (List Key×Addr×Value)}(r:KT H kvs xs)(k:List Key){b:Addr}{y:V}{u:Value}(hb:H b=some (.tup (k.map kV)))(ry:ZC y u) :
  KT H (Zc3 kvs k y) (storedH xs k b u):=by
 have e:(kvs.any fun kv=>decide (kv.1=k))=(atKey xs k).isSome:=by
  rw[Zf7,(r.val k).isSome_eq,Option.isSome_map]
 unfold Zc3 storedH
 rw[e]
 by_cases q:(atKey xs k).isSome=true
 ·rw[if_pos q,if_pos q];exact r.repl k ry
 ·rw[if_neg q,if_neg q];exact Paired.snoc r ⟨rfl,hb,ry⟩
theorem KT.keeps{H H':Hp}{kvs:List (List Key×V)}{xs:List (List Key×Addr×Value)}(r:KT H kvs xs)(ht:∀b ys,H b=some (.tup ys)→H' b=some (.tup ys)):KT H' kvs xs :=
 Paired.mapP r fun _ _ z=>⟨z.1,ht _ _ z.2.1,z.2.2⟩
section
variable {P:Program} {w:World} {H:Hp} {h:Heap} {a:Addr}
theorem Zp0{u:HO}(ok:HOk P w H h)(e:Rd H a u):Zaw P w H h a u:=e.ok ok
theorem ZgM{kvs:List (Key×V)}(ok:HOk P w H h)(e:Rd H a (.dK kvs)):kvs.length≤sizeLine∧(a == sysModules)=false∧∃vs,KV kvs vs∧h.DictOf (ZL P w) a vs :=
 show Zaw P w H h a (.dK kvs) from Zp0 ok e
theorem ZsC{kvs:List (Key×V)}(ok:HOk P w H h)(e:H a=some (.dK kvs)):kvs.length≤sizeLine∧(a == sysModules)=false∧∃vs,KV kvs vs∧h.DictOf (ZL P w) a vs:=ZgM ok (.inl e)
theorem ZhW{ks:List Key}(ok:HOk P w H h)(e:H a=some (.tup (ks.map kV))):(tupleKind (ZL P w)).is h ks a:=by
 obtain⟨_,its,r,o,h1,h2,n,h3⟩:=(show Zaw P w H h a (.tup (ks.map kV)) from ok a _ e)
 exact⟨o,its.toArray,n,h1,h2,h3,by simpa using Zhs r⟩
theorem Zig{kvs:List (List Key×V)}(ok:HOk P w H h)(e:Rd H a (.dT kvs)):kvs.length≤sizeLine∧(a == sysModules)=false ∧
  ∃xs,KT H kvs xs∧h.DictOfH (tupleKind (ZL P w)) a xs:=by
 obtain⟨z,y,xs,r,o,es,ep,h1,h2,h3,h4,h5⟩:=(show Zaw P w H h a (.dT kvs) from Zp0 ok e)
 refine⟨z,y,xs,r,o,es,ep,h1,h2,h3,h4,fun x hx=>?_,h5⟩
 have all:∀ {l:List (List Key×V)} {m:List (List Key×Addr×Value)},KT H l m→∀x∈m,(tupleKind (ZL P w)).is h x.1 x.2.1:=by
  intro l m q
  induction q with
  | nil=>intro x hx;exact nomatch hx
  | @cons p q ps qs hq t ih =>
   intro x hx
   rcases QI.mp hx with e|hx
   ·subst e
    exact ZhW ok (by rw[← hq.1];exact hq.2.1)
   ·exact ih x hx
 exact all r x hx
theorem ZrV{kvs:List (List Key×V)}(ok:HOk P w H h)(e:H a=some (.dT kvs)):kvs.length≤sizeLine∧(a == sysModules)=false ∧
  ∃xs,KT H kvs xs∧h.DictOfH (tupleKind (ZL P w)) a xs:=Zig ok (.inl e)
end
def ZbZ(H:Hp)(a:Addr)(y:V)(r:Option V):Prop :=
 (∃kvs k,Rd H a (.dK kvs)∧y=kV k∧r=ZbE kvs k)∨∃kvs k b,Rd H a (.dT kvs)∧y=.ref b∧H b=some (.tup (k.map kV))∧r=ZbE kvs k
def ZeW(H:Hp)(a:Addr)(y v:V)(H':Hp):Prop :=
 (∃kvs k,H a=some (.dK kvs)∧y=kV k∧kvs.length<sizeLine∧H'=upd H a (.dK (Zc3 kvs k v))) ∨
 ∃kvs k b,H a=some (.dT kvs)∧y=.ref b∧H b=some (.tup (k.map kV))∧kvs.length<sizeLine∧H'=upd H a (.dT (Zc3 kvs k v))
theorem ZbZ.k{H:Hp}{a:Addr}{kvs:List (Key×V)}{k:Key}(e:H a=some (.dK kvs)):ZbZ H a (kV k) (ZbE kvs k):=.inl ⟨kvs,k,.inl e,rfl,rfl⟩
theorem ZbZ.t{H:Hp}{a b:Addr}{kvs:List (List Key×V)}{k:List Key}(e:H a=some (.dT kvs))(eb:H b=some (.tup (k.map kV))):ZbZ H a (.ref b) (ZbE kvs k):=.inr ⟨kvs,k,b,.inl e,rfl,eb,rfl⟩
theorem ZeW.k{H:Hp}{a:Addr}{kvs:List (Key×V)}{k:Key}{v:V}(e:H a=some (.dK kvs))(hl:kvs.length<sizeLine):ZeW H a (kV k) v (upd H a (.dK (Zc3 kvs k v))):=.inl ⟨kvs,k,e,rfl,hl,rfl⟩
theorem ZeW.t{H:Hp}{a b:Addr}{kvs:List (List Key×V)}{k:List Key}{v:V}(e:H a=some (.dT kvs))(eb:H b=some (.tup (k.map kV)))(hl:kvs.length<sizeLine) :
  ZeW H a (.ref b) v (upd H a (.dT (Zc3 kvs k v))):=.inr ⟨kvs,k,b,e,rfl,eb,hl,rfl⟩
section
variable {X:Cx} {pins:List (Addr×Obj)} {σ:St} {H:Hp} {s:Shared} {a:Addr} {y v:V} {u r:Value} {o:Option V} {A:Around} {E:Value→Shared→Prop}
theorem Inv.big(I:Inv X pins σ H s):sysModules<s.heap.objs.size:=by
 have h:mainGlobals<s.heap.objs.size:=(I.mod.glob.keeps I.bk).lt
 exact Nat.lt_trans (by decide) h
theorem Zk2{Q:Value→Shared→Prop}(hu:A.units+1<cLine)(I:Inv X pins σ H s)(g:ZbZ H a y (some v))(ry:ZC y u)(h:∀w' s',Inv X pins σ H s'→ZC v w'→Q w' s') :
  wpAny (model X.prog X.w) A (getItem (.ref a) u) Q E s:=by
 rcases g with⟨kvs,k,e,ey,l⟩|⟨kvs,k,b,e,ey,eb,l⟩
 ·subst ey
  obtain⟨z,hd,vs,rel,dd⟩:=ZgM I.hok e
  obtain⟨w',hw,rw'⟩:=Zdo.some_of (v:=v) (o:=valueAt vs k) (by rw[l];exact rel.val k)
  exact wpAny_getItem_of (ZkW ry) dd.mapOf hw (h w' _ (I.tok _) rw')
 ·subst ey
  cases (show u=Value.ref b from ry)
  obtain⟨z,hd,xs,rel,dd⟩:=Zig I.hok e
  obtain⟨w',hw,rw'⟩:=Zdo.some_of (v:=v) (o:=(atKey xs k).map (·.2)) (by rw[l];exact rel.val k)
  obtain⟨p,hp,hp2⟩:=QaK.mp hw
  refine wpAny_getItem_heap (tupleKind_room_in1 hu) (ZhW I.hok eb) dd hp ?_
  rw[hp2]
  exact h w' _ (I.tok _) rw'
theorem ZkO{h':Heap}{t':Nat}{ob:HO}(I:Inv X pins σ H s)(mu:Mut (H a))(hs:Heap.SameBut a s.heap h')(he:∃q,h'.get? a=some q)(new:Zaw X.prog X.w (upd H a ob) h' a ob) :
  Inv X pins σ (upd H a ob) { s with heap:=h',toks:=t' } :=
 I.write (x:=a) (e:=a) mu (.inl rfl) (fun b q hb z=>(hs.2 b hb).trans z) he new
theorem Zqs{P:Program}{w:World}{H':Hp}{h':Heap}{kvs:List (Key×V)}{vs:List (Key×Value)}(z:kvs.length≤sizeLine)(hd:(a == sysModules)=false)(rel:KV kvs vs)(dd:h'.DictOf (ZL P w) a vs) :
  Zaw P w H' h' a (.dK kvs):=⟨z,hd,vs,rel,dd⟩
theorem ZlK{H':Hp}{Q:Unit→Shared→Prop}(hu:A.units+1<cLine)(I:Inv X pins σ H s)(g:ZeW H a y v H')(ry:ZC y u)(rv:ZC v r)(h:∀s',Inv X pins σ H' s'→Q () s') :
  wpAny (model X.prog X.w) A (setItem (.ref a) u r) Q E s:=by
 rcases g with⟨kvs,k,e,ey,l,eH⟩|⟨kvs,k,b,e,ey,eb,l,eH⟩
 ·subst ey eH
  obtain⟨z,hd,vs,rel,dd⟩:=ZsC I.hok e
  have hz:vs.length≤sizeLine:=by rw[← rel.length];exact z
  have hl:(Zc3 kvs k v).length≤sizeLine:=by have:=Zfd kvs k v;omega
  refine wpAny_setItem_pairs (hsz:=hz) (ZkW ry) dd fun h' dd' hs=>h _ ?_
  have he:∃q,h'.get? a=some q:=let ⟨q,_,_,hq,_⟩:=dd';⟨q,hq⟩
  exact ZkO I (by rw[e];exact True.intro) hs he (Zqs hl hd (rel.put k rv) dd')
 ·subst ey eH
  cases (show u=Value.ref b from ry)
  obtain⟨z,hd,xs,rel,dd⟩:=ZrV I.hok e
  have hz:xs.length≤sizeLine:=by rw[← Paired.length rel];exact z
  have hl:(Zc3 kvs k v).length≤sizeLine:=by have:=Zfd kvs k v;omega
  refine wpAny_setItem_heap (hsz:=hz) (tupleKind_room_in1 hu) (ZhW I.hok eb) dd fun h' dd' hs=>h _ ?_
  obtain⟨q,es,ep,hq,h2,h3,h4,_,h5⟩:=dd'
  refine ZkO I (by rw[e];exact True.intro) hs ⟨q,hq⟩ ⟨hl,hd,_,(rel.put k eb rv).keeps fun c ys ec=>?_,q,es,ep,hq,h2,h3,h4,h5⟩
  rw[Ze (Zku ec e (fun z=>nomatch z))]
  exact ec
end
section
variable {X:Cx} {pins:List (Addr×Obj)} {σ:St} {H:Hp} {s:Shared} {a:Addr} {kvs:List (Key×V)} {k:Key} {u:Value} {A:Around} {E:Value→Shared→Prop}
theorem Zsi{Q:Value→Shared→Prop}(I:Inv X pins σ H s)(e:Rd H a (.dK kvs))(h:∀t s',Inv X pins σ H s'→Q (.int kvs.length t) s'):wpAny (model X.prog X.w) A (call (.builtin "len") [.ref a]) Q E s:=by
 obtain⟨z,hd,vs,rel,dd⟩:=ZgM I.hok e
 refine call_len_dict hd dd (by rw[← rel.length];rw[sizeLine_eq]at z;omega) ?_
 rw[← rel.length]
 exact h _ _ (I.tok _)
end
def NoSl(i:Expr):Prop:=∀ov iv,subscripted i false ov iv=operate [ov,iv] (getItem ov iv)
theorem ZiL{X:Cx}{pins:List (Addr×Obj)}{σ:St}{H:Hp}{s:Shared}{a:Addr}{y:V}{o:Option V}(I:Inv X pins σ H s)(g:ZbZ H a y o):s.TypeIs (.ref a) "dict":=by
 rcases g with⟨kvs,k,e,_,_⟩|⟨kvs,k,b,e,_,_,_⟩
 ·obtain⟨_,_,vs,_,dd⟩:=ZgM I.hok e
  exact dd.typeIs
 ·obtain⟨_,_,xs,_,dd⟩:=Zig I.hok e
  exact dd.typeIs
def tDGet(td ty:TE):TE:=fun σ H Q=>td σ H fun x H1=>ty σ H1 fun y H2=>∃a v,x=.ref a∧ZbZ H2 a y (some v)∧Q v H2
def tDIn(ty td:TE):TE:=fun σ H Q=>ty σ H fun y H1=>td σ H1 fun x H2=>∃a o,x=.ref a∧ZbZ H2 a y o∧Q (.bl o.isSome) H2
def tDNotIn(ty td:TE):TE:=fun σ H Q=>ty σ H fun y H1=>td σ H1 fun x H2=>∃a o,x=.ref a∧ZbZ H2 a y o∧Q (.bl (!o.isSome)) H2
def sDPut(td ty tv:TE):TS:=fun D σ H=>tv σ H fun v H1=>td σ H1 fun x H2=>ty σ H2 fun y H3=>∃a H4,x=.ref a∧ZeW H3 a y v H4∧D.nx σ H4
def sDAug(td ty tv:TE)(rd:V→V→Hp→VK→Prop):TS:=fun D σ H=>td σ H fun x H1=>ty σ H1 fun y H2=>∃a v,x=.ref a∧ZbZ H2 a y (some v) ∧
 tv σ H2 fun y2 H3=>rd v y2 H3 fun z H4=>∃H5,ZeW H4 a y z H5∧D.nx σ H5
def sDDel(td ty:TE):TS:=fun D σ H=>td σ H fun x H1=>ty σ H1 fun y H2=>∃a kvs k,x=.ref a∧H2 a=some (.dK kvs)∧y=kV k∧(ZbE kvs k).isSome=true∧D.nx σ (upd H2 a (.dK (ZkS kvs k)))
section
variable {X:Cx} {o i e value:Expr} {pos pos' tpos:Pos} {td ty tv:TE}
end
theorem ZnM{P:Program}{w:World}{H:Hp}(h:Heap)(hb:sysModules<h.objs.size):Zaw P w H (h.push { cls:=.type "dict",data:=.dict #[] }) h.objs.size (.dK []) :=
 ⟨Qv _,beq_eq_false_iff_ne.mpr (Ne.symm (QU hb)),[],.nil,Heap.DictOf.new h⟩
def ZqL:TE:=fun _ H Q=>∀p,H p=none→Q (.ref p) (upd H p (.dK []))
def tDNewT:TE:=fun _ H Q=>∀p,H p=none→Q (.ref p) (upd H p (.dT []))
section
variable {X:Cx} {pos:Pos}
theorem Znk:PE X (.Dict [] [] pos) ZqL:=fun pins s σ H Q I h =>
 wpAny_Dict_empty ⟨.ref s.heap.objs.size,_,I.laid (a:=s.heap.objs.size) (o:=.dK []) (t':=s.toks) (fun _ _ q=>Qo _ q) (Qh _) (ZnM s.heap I.big),rfl,h _ (I.hok.fresh (Qh _))⟩
end
def ZjG:List (TE×TE)→St→Hp→(List (V×V)→Hp→Prop)→Prop
 | [],_,H,Q=>Q [] H
 | (tk,tv)::r,σ,H,Q=>tk σ H fun x H1=>tv σ H1 fun y H2=>ZjG r σ H2 fun ps H3=>Q ((x,y)::ps) H3
abbrev VV:List (V×V)→List (Value×Value)→Prop:=Paired fun p q=>ZC p.1 q.1∧ZC p.2 q.2
def PPs(X:Cx)(pos:Pos)(keys:List (Option Expr))(values:List Expr)(trs:List (TE×TE)):Prop :=
 ∀ (pins:List (Addr×Obj)) (s:Shared) (σ:St) (H:Hp) (Q:List (V×V)→Hp→Prop),Inv X pins σ H s→ZjG trs σ H Q →
  wpAny (model X.prog X.w) X.A (evalPairs (pairTrees keys values X.env pos)) (fun vs s'=>∃ps H',Inv X pins σ H' s'∧VV ps vs∧Q ps H') X.xe s
def Zjt(kvs more:List (Key×V)):List (Key×V):=more.foldl (fun acc kv=>Zc3 acc kv.1 kv.2) kvs
def tDisp(trs:List (TE×TE)):TE:=fun σ H Q=>∀p,H p=none→ZjG trs σ (upd H p (.dK [])) fun ps H2=>H2 p=some (.dK [])∧∃kvs:List (Key×V),ps=kvs.map (fun kv=>(kV kv.1,kv.2))∧kvs.length≤15∧Q (.ref p) (upd H2 p (.dK (Zjt [] kvs)))
structure M1 (X:Cx) (o:Expr) (m:Str) (apos:Pos) (e:Expr) (cpos:Pos):Prop where
 base:attributeBase o m X.env (eval o X.env)=eval o X.env
 few:((backTo cpos (starEach [e] X.env)).all (fun x=>!x.1)&&(backToKw cpos (keywordEach [] X.env)).all (fun x=>x.1.isSome)
  && decide (([e]:List Expr).length+([]:List Keyword).length+(if ([]:List Keyword).isEmpty then 0 else 1)<30))=true
 line:(apos.endLine == cpos.line)=true
 trees:backTo cpos (starEach [e] X.env)=[(false,eval e X.env)]
structure M2 (X:Cx) (o:Expr) (m:Str) (apos:Pos) (e f:Expr) (cpos:Pos):Prop where
 base:attributeBase o m X.env (eval o X.env)=eval o X.env
 few:((backTo cpos (starEach [e,f] X.env)).all (fun x=>!x.1)&&(backToKw cpos (keywordEach [] X.env)).all (fun x=>x.1.isSome)
  && decide (([e,f]:List Expr).length+([]:List Keyword).length+(if ([]:List Keyword).isEmpty then 0 else 1)<30))=true
 line:(apos.endLine == cpos.line)=true
 trees:backTo cpos (starEach [e,f] X.env)=[(false,eval e X.env),(false,eval f X.env)]
def IsD(H:Hp)(a:Addr):Prop:=(∃kvs,Rd H a (.dK kvs))∨∃kvs,Rd H a (.dT kvs)
theorem Zrs{X:Cx}{pins:List (Addr×Obj)}{σ:St}{H:Hp}{s:Shared}{a:Addr}(I:Inv X pins σ H s)(d:IsD H a) :
  s.TypeIs (.ref a) "dict"∧(∀b,Value.ref a=.ref b→∃ob,s.heap.get? b=some ob∧ob.dict=none)∧(a == sysModules)=false:=by
 rcases d with⟨kvs,e⟩|⟨kvs,e⟩
 ·obtain⟨_,hd,vs,_,dd⟩:=ZgM I.hok e
  refine⟨dd.typeIs,fun b q=>?_,hd⟩
  cases q
  obtain⟨ob,_,_,h1,h2,_⟩:=dd
  exact⟨ob,h1,h2.2.1⟩
 ·obtain⟨_,hd,xs,_,dd⟩:=Zig I.hok e
  refine⟨dd.typeIs,fun b q=>?_,hd⟩
  cases q
  obtain⟨ob,_,_,h1,h2,_⟩:=dd
  exact⟨ob,h1,h2.2.1⟩
section
variable {X:Cx} {pins:List (Addr×Obj)} {σ:St} {H:Hp} {s:Shared} {a:Addr} {y d:V} {u r:Value} {o:Option V} {A:Around} {E:Value→Shared→Prop}
theorem Zqw{Q:Value→Shared→Prop}(hu:A.units+1<cLine)(I:Inv X pins σ H s)(g:ZbZ H a y o)(ry:ZC y u)(h:∀w' s',Inv X pins σ H s'→ZC (o.getD .non) w'→Q w' s') :
  wpAny (model X.prog X.w) A (call (.builtin "dict.get") [.ref a,u]) Q E s:=by
 rcases g with⟨kvs,k,e,ey,l⟩|⟨kvs,k,b,e,ey,eb,l⟩
 ·subst ey
  obtain⟨z,hd,vs,rel,dd⟩:=ZgM I.hok e
  refine call_meetsIn PySem.F.slot_dict_get dd.typeIs PySem.F.entry_dict_get (PySem.F.args_dict_get_2 _ _) (meets_dict_get (ZL X.prog X.w) a (ZkW ry) hd) ⟨_,dd.mapOf,h _ _ (I.tok _) ?_⟩
  rw[l]
  exact(rel.val k).getD rfl
 ·subst ey
  cases (show u=Value.ref b from ry)
  obtain⟨z,hd,xs,rel,dd⟩:=Zig I.hok e
  refine call_meetsIn PySem.F.slot_dict_get dd.typeIs PySem.F.entry_dict_get (PySem.F.args_dict_get_2 _ _) (meetsH_dict_get (tupleKind (ZL X.prog X.w)) a b hd) ⟨tupleKind_room_in1 hu,k,xs,ZhW I.hok eb,dd,h _ _ (I.tok _) ?_⟩
  rw[l]
  exact(rel.val k).getD rfl
end
def Znt(td ty:TE):TE:=fun σ H Q=>td σ H fun x H1=>∃a,x=.ref a∧IsD H1 a∧ty σ H1 fun y H2=>∃o,ZbZ H2 a y o∧Q (o.getD .non) H2
def ZsV(td ty tx:TE):TE:=fun σ H Q=>td σ H fun x H1=>∃a,x=.ref a∧IsD H1 a∧ty σ H1 fun y H2=>tx σ H2 fun z H3=>∃o,ZbZ H3 a y o∧Q (o.getD z) H3
def Zs3(td ty:TE):TE:=fun σ H Q=>td σ H fun x H1=>∃a,x=.ref a∧IsD H1 a∧ty σ H1 fun y H2=>∃kvs k v,H2 a=some (.dK kvs)∧y=kV k∧ZbE kvs k=some v∧Q v (upd H2 a (.dK (ZkS kvs k)))
def Zti(td ty tx:TE):TE:=fun σ H Q=>td σ H fun x H1=>∃a,x=.ref a∧IsD H1 a∧ty σ H1 fun y H2=>tx σ H2 fun z H3=>∃kvs k,H3 a=some (.dK kvs)∧y=kV k ∧
 (∀v,ZbE kvs k=some v→Q v (upd H3 a (.dK (ZkS kvs k))))∧(ZbE kvs k=none→Q z H3)
section
variable {X:Cx} {o e f:Expr} {apos cpos:Pos} {td ty tx:TE}
theorem Zmm(hu:X.A.units+1<cLine)(ho:PE X o td)(he:PE X e ty)(m:M1 X o "get" apos e cpos):PE X (.Call (.Attribute o "get" apos) [e] [] cpos) (Znt td ty):=by
 intro pins s σ H Q I h
 refine wpAny_Call_method m.base m.few m.line PySem.F.plainAttrs_dict PySem.F.slot_dict_get PySem.F.type_dict_get (thn (ho pins s σ H _ I h) ?_)
 rintro u s1 ⟨x,H1,I1,rx,a,ex,d,q1⟩
 subst ex
 obtain rfl:u=Value.ref a:=rx
 obtain⟨t1,t2,_⟩:=Zrs I1 d
 refine⟨t1,t2,?_⟩
 rw[m.trees]
 refine Calls.callWith_builtin rfl (Calls.evalArgs_plain (Calls.spliced_cons (thn (he pins s1 σ H1 _ I1 q1) fun iv s2 ⟨y,H2,I2,ry,ov,g,q2⟩=>Calls.spliced_nil ?_)))
 exact Zqw hu I2 g ry fun w' s3 I3 rw'=>⟨_,H2,I3,rw',q2⟩
end
section
variable {X:Cx} {pins:List (Addr×Obj)} {σ:St} {H:Hp} {s:Shared} {a:Addr} {kvs:List (Key×V)} {A:Around} {E:Value→Shared→Prop}
end
section
variable {X:Cx} {pins:List (Addr×Obj)} {σ:St} {H:Hp} {s:Shared} {a:Addr} {y:V} {u:Value} {A:Around} {E:Value→Shared→Prop}
end
section
variable {X:Cx}
theorem Zlh:ZaW X (.builtin "len") (fun xs H Q=>∃a kvs,xs=[V.ref a]∧H a=some (.dK kvs)∧Q (.int kvs.length) H):=by
 intro pins s σ H xs us Q I r h
 obtain⟨a,kvs,rfl,ha,q⟩:=h
 obtain⟨u,rfl,ru⟩:=Zdm r
 cases ru
 exact Zsi I (.inl ha) fun t s' I'=>⟨.int kvs.length,H,I',⟨t,rfl⟩,q⟩
end
section
variable {κ:Type} [DecidableEq κ]
end
structure Mf (P:Program) (w:World) (K:PySem.W.Frag) (mg:Str→Option Value) (base:Heap) (k:Nat) (C:Addr) (m:Str) (ps:List Str) (sp:Sp):Prop where
 ex:∃f fd,Zd5 P w K mg base CX0 k f fd ps sp∧ZnA K C m f∧Zci K fd ps []
structure Cf (P:Program) (w:World) (K:PySem.W.Frag) (mg:Str→Option Value) (base:Heap) (k:Nat) (C:Addr) (x:Str) (ps:List Str) (sp:Sp):Prop where
 ex:∃f fd,Zd5 P w K mg base CX0 k f fd ps sp∧Mk K C f∧Zci K fd ps []∧mg x=some (.ref C)
structure ZeX (K:PySem.W.Frag) (C:Addr) (m qual:Str) (st:Stmt) (ps:List Str):Prop where
 ex:∃f fd,Fun K m qual st f fd∧ZnA K C m f∧Zci K fd ps []
structure Zor (K:PySem.W.Frag) (mg:Str→Option Value) (C:Addr) (x qual:Str) (st:Stmt) (ps:List Str):Prop where
 ex:∃f fd,Fun K "__init__" qual st f fd∧Mk K C f∧Zci K fd ps []∧mg x=some (.ref C)
section
variable {P:Program} {w:World} {K:PySem.W.Frag} {mg:Str→Option Value} {base:Heap}
theorem ZeX.mf{C:Addr}{m qual:Str}{st:Stmt}{N ps:List Str}{k:Nat}{sp:Sp}(T:ZeX K C m qual st ps)(S:Zq N ps (Zg st))(len:∀vs H Q E,sp vs H Q E→vs.length=ps.length)
  (hbody:∀ (cdv:Value) (f:Addr) (A:Around) (outer:List Env) (s:Shared) (H:Hp) (vs:List V) (Q:VK) (E:XK),ZaG k (A.deeper (envOfC qual (Zg st) s.heap.objs.size f cdv))→sp vs H Q E →
   ∃t,PSs (ZhB CX0 P w K mg base N qual (Zg st) f cdv A outer s H E).nox (Zl st) t∧t { nx:=fun _ H'=>Q .non H',rt:=Q } (Zdq N vs) H):Mf P w K mg base (k+1) C m ps sp:=by
 obtain⟨f,fd,F,m,b⟩:=T.ex
 exact⟨f,fd,F.ok S len (fun cdv A outer s H vs Q E hr h=>hbody cdv f A outer s H vs Q E hr h),m,b⟩
theorem Zor.cf{C:Addr}{x qual:Str}{st:Stmt}{N ps:List Str}{k:Nat}{sp:Sp}(T:Zor K mg C x qual st ps)(S:Zq N ps (Zg st))(len:∀vs H Q E,sp vs H Q E→vs.length=ps.length)
  (hbody:∀ (cdv:Value) (f:Addr) (A:Around) (outer:List Env) (s:Shared) (H:Hp) (vs:List V) (Q:VK) (E:XK),ZaG k (A.deeper (envOfC qual (Zg st) s.heap.objs.size f cdv))→sp vs H Q E →
   ∃t,PSs (ZhB CX0 P w K mg base N qual (Zg st) f cdv A outer s H E).nox (Zl st) t∧t { nx:=fun _ H'=>Q .non H',rt:=Q } (Zdq N vs) H):Cf P w K mg base (k+1) C x ps sp:=by
 obtain⟨f,fd,F,m,b,g⟩:=T.ex
 exact⟨f,fd,F.ok S len (fun cdv A outer s H vs Q E hr h=>hbody cdv f A outer s H vs Q E hr h),m,b,g⟩
end
section
variable {X:Cx} {k j:Nat} {C:Addr} {m x:Str} {ps:List Str} {sp:Sp} {o e:Expr} {es:List Expr} {ta:TE} {t:TA} {p apos pos:Pos} {pl:Sem Bool}
theorem Zfc(F:Mf X.prog X.w X.K X.mg X.base k C m ps sp)(c:Cls X.K C)(hr:ZaG j X.A)(he:PE X o ta)(ha:PA X (e::es) t)(hjk:k≤j:=by decide)
  (hst:starEach (e::es) X.env=(false,eval e X.env)::starEach es X.env:=by rfl) (hpl:(backTo pos (starEach es X.env)).any (·.1)=false:=by rfl)
  (ht:eval (.Call (.Attribute o m apos) (e::es) [] pos) X.env=(do
   let ov ← eval o X.env
   standAt apos.atName
   let (f,first) ← holding [ov] (getMethod ov m pl)
   callWith pos f first (backTo pos (starEach (e::es) X.env)) (backToKw pos (keywordEach [] X.env))):=by rfl) :
  PE X (.Call (.Attribute o m apos) (e::es) [] pos) (Zkz C m sp [] E0 ta t):=by
 obtain⟨f,fd,F,g,b⟩:=F.ex
 exact ZpI he c g F (hr.mono hjk) b .nil Zky ha hst hpl ht
theorem Zdg(F:Mf X.prog X.w X.K X.mg X.base k C m ps sp)(c:Cls X.K C)(hr:ZaG j X.A)(he:PE X o ta)(hjk:k≤j:=by decide)
  (ht:eval (.Call (.Attribute o m apos) [] [] pos) X.env=(do
   let ov ← eval o X.env
   standAt apos.atName
   let (f,first) ← holding [ov] (getMethod ov m pl)
   callWith pos f first (backTo pos (starEach [] X.env)) (backToKw pos (keywordEach [] X.env))):=by rfl) :
  PE X (.Call (.Attribute o m apos) [] [] pos) (Zkz C m sp [] E0 ta Zq2):=by
 obtain⟨f,fd,F,g,b⟩:=F.ex
 exact Zn0 he c g F (hr.mono hjk) b .nil Zky ht
theorem ZpR(F:Cf X.prog X.w X.K X.mg X.base k C x ps sp)(hr:ZaG j X.A)(ha:PA X (e::es) t)(hjk:k+1≤j:=by decide)(hg:Gl X x:=by rfl)(hdb:(x == ("__debug__" : Str))=false:=by decide)
  (he:starEach (e::es) X.env=(false,eval e X.env)::starEach es X.env:=by rfl) (hpl:(backTo pos (starEach es X.env)).any (·.1)=false:=by rfl) :
  PE X (.Call (.Name x p) (e::es) [] pos) (ZpW C sp [] E0 t):=by
 obtain⟨f,fd,F,g,b,gm⟩:=F.ex
 exact ZpA g F (hr.mono hjk) hg gm b .nil Zky ha hdb he hpl
end
section
variable {X:Cx} {pins:List (Addr×Obj)} {σ:St} {H:Hp} {s:Shared} {d:Addr} {o:Obj} {u:HO}
end
def tThaw(t:TE):TE:=fun σ H Q=>∃d u,H d=some u∧Mut (some u)∧t σ H fun v H'=>∃o,H' d=some (.frz o u)∧Q v (upd H' d u)
theorem Zpn{P:Program}{w:World}{k:Key}{v:Value}(h:(ZL P w).is k v=true):ZC (kV k) v:=by
 rw[Zj7]at h
 rcases Zan h with⟨i,t,rfl,rfl⟩|⟨x,t,rfl,rfl⟩
 ·exact⟨t,rfl⟩
 ·exact⟨t,rfl⟩
def Znp:List V→Hp→VK→Prop:=fun xs H Q=>∃d kvs,xs=[.ref d]∧H d=some (.dK kvs)∧∀l,H l=none→Q (.ref l) (upd H l (.lst (kvs.map fun kv=>kV kv.1)))
theorem Zk1{P:Program}{w:World}:∀ (kvs:List (Key×V)) (vs:List (Key×Value)) (us:List Value),KV kvs vs→us.length=vs.length→(∀ (j:Nat) (v:Value),us[j]? = some v→∃k x,vs[j]? = some (k,x)∧(ZL P w).is k v=true)→Zy (kvs.map fun kv=>kV kv.1) us:=by
 intro kvs vs us r
 unfold KV at r
 induction r generalizing us with
 | nil =>
  intro hl _
  cases us with
  | nil=>exact .nil
  | cons a b=>simp at hl
 | @cons p q ps qs h t ih =>
  intro hl hp
  cases us with
  | nil=>simp at hl
  | cons a b =>
   obtain⟨k,x,e,hk⟩:=hp 0 a rfl
   have e':q=(k,x):=by simpa using e
   rw[Qj]
   refine .cons ?_ (ih b (by simpa using hl) fun j v hv=>?_)
   ·rw[h.1,e'];exact Zpn hk
   ·simpa using hp (j+1) v (by simpa using hv)
theorem Zj4{X:Cx}(hc:X.calm=true):ZaW X (.type "list") Znp:=by
 intro pins s σ H xs us Q I r h
 obtain⟨d,kvs,rfl,hd,q⟩:=h
 obtain⟨u,rfl,ru⟩:=Zdm r
 cases ru
 obtain⟨z,lo,vs,rel,dd⟩:=(show Zaw X.prog X.w H s.heap d (.dK kvs) from I.hok d _ hd)
 obtain⟨ep,da⟩:=dd.dictAt
 have hl:kvs.length=vs.length:=rel.length
 refine PySem.W.kdl_call (PySem.W.kdl_dict lo) (I.ok.hd hc) da (by omega) fun h' tk acc c hk hD hacc=>?_
 have hv:Zy (kvs.map fun kv=>kV kv.1) acc.toList:=Zk1 (P:=X.prog) (w:=X.w) kvs vs acc.toList rel (by rw[QaD];exact hacc.1) fun j v e=>hacc.2 j v (by rw[← Array.getElem?_toList];exact e)
 refine⟨.ref s.heap.objs.size,_,I.laid (a:=s.heap.objs.size) (o:=.lst (kvs.map fun kv=>kV kv.1)) (t':=tk) hk (Qh _) ?_,rfl,q _ (I.hok.fresh (Qh _))⟩
 exact⟨by rw[Qa];exact z,acc.toList,c,hv,by simpa using hD⟩
def Itv(d:Addr)(o:Obj)(kvs:List (Key×V)):It :=
 ⟨fun i H=>H d=some (.frz o (.dK kvs))∧i<kvs.length,fun i H v H'=>H'=H∧∃k,kvs[i]? = some (k,v),fun i H=>H d=some (.frz o (.dK kvs))∧kvs.length≤i⟩
def Itk(d:Addr)(o:Obj)(kvs:List (Key×V)):It :=
 ⟨fun i H=>H d=some (.frz o (.dK kvs))∧i<kvs.length,fun i H v H'=>H'=H∧∃k x,kvs[i]? = some (k,x)∧v=kV k,fun i H=>H d=some (.frz o (.dK kvs))∧kvs.length≤i⟩
def iKeys(tl:TE):TI:=fun σ H R=>tl σ H fun x H1=>∃d kvs,x=.ref d∧H1 d=some (.dK kvs)∧∀o,R (Itk d o kvs) (upd H1 d (.frz o (.dK kvs)))
def rSortedD:List V→Hp→VK→Prop:=fun xs H Q=>∃d kvs ns,xs=[.ref d]∧H d=some (.dK kvs)∧kvs.map (·.1)=ns.map Sum.inl∧ns.length<64 ∧
 ∀ (l:Addr) (ns':List Int),H l=none→ns'.Perm ns→ns'.Pairwise (·≤·)→Q (.ref l) (upd H l (.lst (ns'.map V.int)))
def rSumL(K:PySem.W.Frag):List V→Hp→VK→Prop:=fun vs H Q=>∃ (p:Addr) (ns:List Int),vs=[.ref p]∧SqL K H p (ns.map V.int)∧ns.length≤1000∧(∀n∈ns,0≤n∧n≤1000000)∧Q (.int ns.sum) H
def iVals(tl:TE):TI:=fun σ H R=>tl σ H fun x H1=>∃d kvs,x=.ref d∧H1 d=some (.dK kvs)∧∀o,R (Itv d o kvs) (upd H1 d (.frz o (.dK kvs)))
def Iti(d:Addr)(o:Obj)(kvs:List (Key×V)):It :=
 ⟨fun i H=>H d=some (.frz o (.dK kvs))∧i<kvs.length,
  fun i H v H'=>∃p k x,H p=none∧v=.ref p∧kvs[i]? = some (k,x)∧H'=upd H p (.tup [kV k,x]),
  fun i H=>H d=some (.frz o (.dK kvs))∧kvs.length≤i⟩
def iItems(tl:TE):TI:=fun σ H R=>tl σ H fun x H1=>∃d kvs,x=.ref d∧H1 d=some (.dK kvs)∧∀o,R (Iti d o kvs) (upd H1 d (.frz o (.dK kvs)))
def Zox(J:It)(D:Addr)(k:Nat)(σ:St)(H1:Hp)(g:TG)(tc:TT)(tk te:TE)(Q:VK):Prop :=
 ∃W:Nat→Nat→List (Key×V)→St→Hp→Prop,(∃m,W 0 m [] (σ++List.replicate k none) (upd H1 D (.dK []))) ∧
  ∀i m ys σ2 H2,W i m ys σ2 H2→(J.stop i H2∧Q (.ref D) H2) ∨
   (J.go i H2∧∃N:List (Key×V)→St→Hp→Prop,(∀ys' σ' H',N ys' σ' H'→∃m',m'<m∧W (i+1) m' ys' σ' H')∧∀x H3,J.yld i H2 x H3→g x σ2 H3 fun σ4 H4=>tc σ4 H4 fun b H5 =>
    if b=true then tk σ4 H5 fun kv H6=>te σ4 H6 fun y H7=>∃k:Key,kv=kV k∧H7 D=some (.dK ys)∧ys.length<sizeLine∧N (Zc3 ys k y) σ4 (upd H7 D (.dK (Zc3 ys k y))) else N ys σ4 H5)
def tKComp(n:Nat)(wi:TI)(g:TG)(tc:TT)(tk te:TE):TE:=fun σ H Q=>wi σ H fun J H1=>∀D,H1 D=none→Zox J D n σ H1 g tc tk te Q
section
variable {X:Cx} {N N':List Str} {o c:Scope}
end
section
variable {X:Cx}
def rIxK:R2:=fun x y H Q=>∃d kvs k v,x=.ref d∧y=kV k∧H d=some (.dK kvs)∧ZbE kvs k=some v∧Q v H
end
section
variable {prog:Program} {w:World} {A:Around} {R:Result→Shared→Prop} {I:Addr} {fp wr:List Addr} {G:Array GenState→Array GenState→Prop} {n:Nat} {P:Nat→Value→Prop} {St:Nat→Shared→Prop} {K:Type} [DecidableEq K] {knd:KeyKind prog w K}
end
section
variable {prog:Program} {w:World} {A:Around} {E:Value→Shared→Prop} {s:Shared} {K:Type} [DecidableEq K] {knd:KeyKind prog w K}
end
def rDictP(K:PySem.W.Frag):List V→Hp→VK→Prop:=fun xs H Q=>∃ (a:Addr) (ts:List (Addr×Key×V)),xs=[.ref a]∧SqL K H a (ts.map fun t=>V.ref t.1)∧(∀t∈ts,H t.1=some (.tup [kV t.2.1,t.2.2]))∧ts.length≤1000 ∧
 ∀D,H D=none→Q (.ref D) (upd H D (.dK (Zjt [] (ts.map (·.2)))))
def rInG:R2:=fun y x H Q=>∃a o,x=.ref a∧ZbZ H a y o∧Q (.bl o.isSome) H
def rNotInG:R2:=fun y x H Q=>∃a o,x=.ref a∧ZbZ H a y o∧Q (.bl (!o.isSome)) H
def ZsR:R2:=fun x y H Q=>∃a v,x=.ref a∧ZbZ H a y (some v)∧Q v H
section
variable {X:Cx} {k:Nat}
def ZrS:Zls:=fun o i v H Q=>∃a H',o=.ref a∧ZeW H a i v H'∧Q H'
theorem Znl(hr:ZaG k X.A):Zni X ZrS:=by
 intro pins s σ H o i v ov iv u Q I ro ri rv h
 obtain⟨a,H',rfl,g,q⟩:=h
 cases ro
 exact ZlK (Znj hr) I g ri rv fun s4 I4=>⟨H',I4,q⟩
theorem ZjM{prog:Program}{w:World}{A:Around}{E:Value→Shared→Prop}{s:Shared}{value slice:Expr}{o i:Value}{T id:String}{Q:Value→Shared→Prop}(hT:s.TypeIs o T)
  (hl:typeLookup (.type T) "__getitem__" = pure (some (.builtin id))) (hs:subscripted slice false o i=operate [o,i] (getItem o i)) (h:wpAny (model prog w) A (getItem o i) Q E s) :
  wpAny (model prog w) A (subscriptTail value slice o i) Q E s:=by
 unfold subscriptTail
 refine wpAny_bind ?_
 rw[getitemInPython_of_ne hT.not_modules]
 refine wpAny_bind (wpAny_specialOf hT hl ?_)
 have fin:wpAny (model prog w) A (subscripted slice false o i) (fun r s₃=>wpAny (model prog w) A (letTemporaryGo value o r >>= fun _=>pure r) Q E s₃) E s:=by
  rw[hs]
  exact wpAny_operating (wpAny_mono h (fun r s₃ h₃=>wpAny_bind (wpAny_letTemporaryGo (wpAny_pure h₃))) fun _ _ x=>x)
 first
  | exact wpAny_pure (wpAny_bind fin)
  | exact wpAny_bind (wpAny_pure (wpAny_bind fin))
  | exact wpAny_bind fin
theorem ixG(hr:ZaG k X.A):IxR X ZsR:=by
 intro value slice pins s σ H x y v u Q I rx ry h hs
 obtain⟨a,z,rfl,g,q⟩:=h
 cases rx
 exact ZjM (ZiL I g) PySem.F.slot_dict_getitem.lookup hs (Zk2 (Znj hr) I g ry fun w' s' I' rw'=>⟨z,H,I',rw',q⟩)
def rEqE(neg:Bool):R2:=fun x y H Q=>∃a b kvs,x=.ref a∧y=.ref b∧H a=some (.dK kvs)∧H b=some (.dK [])∧Q (.bl (if neg then !kvs.isEmpty else kvs.isEmpty)) H
theorem Zth:ZaW X (.builtin "len") (fun xs H Q=>∃a kvs,xs=[V.ref a]∧H a=some (.dK kvs)∧Q (.int kvs.length) H):=Zlh
theorem Zst(hc:X.calm=true:=by rfl):ZaW X (.type "list") Znp:=Zj4 hc
end
mutual
inductive DH (H:Hp):V→PyData→Prop where
 | non:DH H .non .none
 | bl (b:Bool):DH H (.bl b) (.bool b)
 | int (i:Int):DH H (.int i) (.int i)
 | str (s:Str):DH H (.str s) (.str s)
 | lst {a:Addr} {xs:List V} {ds:List PyData}:H a=some (.lst xs)→DHs H xs ds→DH H (.ref a) (.list ds)
 | tup {a:Addr} {xs:List V} {ds:List PyData}:H a=some (.tup xs)→DHs H xs ds→DH H (.ref a) (.tuple ds)
inductive DHs (H:Hp):List V→List PyData→Prop where
 | nil:DHs H [] []
 | cons {x:V} {d:PyData} {xs:List V} {ds:List PyData}:DH H x d→DHs H xs ds→DHs H (x::xs) (d::ds)
end
mutual
theorem DH.mono{H H':Hp}(s:Zu H H'):∀ {x:V} {d:PyData},DH H x d→DH H' x d
 | _,_,.non=>.non
 | _,_,.bl b=>.bl b
 | _,_,.int i=>.int i
 | _,_,.str z=>.str z
 | _,_,.lst h hs=>.lst (s _ _ h) (DHs.mono s hs)
 | _,_,.tup h hs=>.tup (s _ _ h) (DHs.mono s hs)
theorem DHs.mono{H H':Hp}(s:Zu H H'):∀ {xs:List V} {ds:List PyData},DHs H xs ds→DHs H' xs ds
 | _,_,.nil=>.nil
 | _,_,.cons h hs=>.cons (DH.mono s h) (DHs.mono s hs)
end
mutual
theorem DH.dv{K:PySem.W.Frag}{H:Hp}:∀ {x:V} {d:PyData},DH H x d→DV K H x d
 | _,_,.non=>.non
 | _,_,.bl b=>.bl b
 | _,_,.int i=>.int i
 | _,_,.str z=>.str z
 | _,_,.lst h hs=>.lst (SqL.of h) (DHs.dv hs)
 | _,_,.tup h hs=>.tup (SqT.of h) (DHs.dv hs)
theorem DHs.dv{K:PySem.W.Frag}{H:Hp}:∀ {xs:List V} {ds:List PyData},DHs H xs ds→DVs K H xs ds
 | _,_,.nil=>.nil
 | _,_,.cons h hs=>.cons (DH.dv h) (DHs.dv hs)
end
def tyD:PyData→String
 | .none => "NoneType"
 | .bool _ => "bool"
 | .int _ => "int"
 | .str _ => "str"
 | .tuple _ => "tuple"
 | _ => "list"
def isIntD:PyData→Bool
 | .int _=>true
 | _=>false
def isBoolD:PyData→Bool
 | .bool _=>true
 | _=>false
def isLstD:PyData→Bool
 | .list _=>true
 | _=>false
def isTupD:PyData→Bool
 | .tuple _=>true
 | _=>false
def isStrD:PyData→Bool
 | .str _=>true
 | _=>false
section
open PySem.W
end
theorem ZdE:∀ {a b:List Int},a.Nodup→(∀x∈a,x∈b)→b.length≤a.length→a.Perm b
 | [],b,_,_,l=>by
  have:b=[]:=List.length_eq_zero_iff.mp (by simpa using l)
  rw[this]
 | x::r,b,na,h,l=>by
  obtain⟨n1,n2⟩:=Q3.mp na
  have hx:=h x (by simp)
  have hp:=List.perm_cons_erase hx
  refine(List.Perm.cons x (ZdE n2 (fun y hy=>?_) ?_)).trans hp.symm
  ·have nyx:y≠x:=fun e=>n1 (by rw[← e];exact hy)
   exact(Qax nyx).mpr (h y (Qu _ hy))
  ·rw[Q9 hx]
   simp only[List.length_cons]at l
   omega
theorem Zmz{kvs:List (Key×V)}{k:Key}{v:V}(h:ZbE kvs k=some v):(k,v)∈kvs:=by
 unfold ZbE at h
 obtain⟨p,hp,rfl⟩:=QaK.mp h
 have h1:=List.find?_some hp
 have h2:=List.mem_of_find?_eq_some hp
 have:p.1=k:=by simpa using h1
 rw[← this];exact h2
theorem ZiV{kvs:List (Key×V)}(hn:(kvs.map (·.1)).Nodup){k:Key}{v:V}(h:(k,v)∈kvs):ZbE kvs k=some v:=by
 induction kvs with
 | nil=>cases h
 | cons p r ih =>
  obtain⟨n1,n2⟩:=Q3.mp (by simpa using hn:(p.1::r.map (·.1)).Nodup)
  rcases QI.mp h with rfl|h
  ·exact Zdu rfl
  ·rw[ZdJ fun e=>n1 (e ▸ Qm (f:=(·.1)) h)]
   exact ih n2 h
def tOrK(K:PySem.W.Frag)(ta tb:TE):TE:=fun σ H Q=>ta σ H fun x H1=>∃k,Zs4 K x H1 k∧if k=true then Q x H1 else tb σ H1 Q
end L2
namespace L2
open PySem PySem.Spec PyProof.Rows
def off(p:Addr)(H:Hp):Hp:=fun b=>if b=p then none else H b
section
variable {prog:Program} {w:World} {A:Around} {R:Result→Shared→Prop} {I:Addr} {fp wr:List Addr} {G:Array GenState→Array GenState→Prop} {n:Nat} {P:Nat→Value→Prop} {St:Nat→Shared→Prop} {K:Type} [DecidableEq K] {knd:KeyKind prog w K}
end
def rDPop:V→List V→Hp→VK→Prop:=fun x vs H Q=>∃a kvs k v,x=.ref a∧vs=[kV k]∧H a=some (.dK kvs)∧ZbE kvs k=some v∧Q v (upd H a (.dK (ZkS kvs k)))
def rDUpd(K:PySem.W.Frag):V→List V→Hp→VK→Prop:=fun x vs H Q=>∃ (D a:Addr) (kvs:List (Key×V)) (ts:List (Addr×Key×V)),x=.ref D∧vs=[.ref a]∧H D=some (.dK kvs)∧H a=some (.lst (ts.map fun t=>V.ref t.1))∧(∀t∈ts,H t.1=some (.tup [kV t.2.1,t.2.2]))∧ts.length≤1000∧kvs.length≤100000 ∧
 Q .non (upd H D (.dK (Zjt kvs (ts.map (·.2)))))
theorem Zpp{X:Cx}{s:Stmt}:PS X s (fun _ _ _=>False):=fun pins s' σ H D I h=>h.elim
def pairsAt(ts:List (Addr×Key×V))(l:Addr)(H:Hp):Hp:=fun b=>if b=l then some (.lst (ts.map fun t=>V.ref t.1)) else
 match ts.find? fun t=>decide (t.1=b) with
 | some t=>some (.tup [kV t.2.1,t.2.2])
 | none=>H b
def tLstItems(to:TE):TE:=fun σ H Q=>to σ H fun x H1=>∃d kvs,x=.ref d∧H1 d=some (.dK kvs) ∧
 ∀ (l:Addr) (ts:List (Addr×Key×V)) (H2:Hp),H1 l=none→ts.map (·.2)=kvs→(∀t∈ts,H1 t.1=none∧H2 t.1=some (.tup [kV t.2.1,t.2.2]))→(∀b o,H1 b=some o→H2 b=some o)→H2 l=some (.lst (ts.map fun t=>V.ref t.1))→Q (.ref l) H2
theorem ZqB{X:Cx}{k:Nat}{o e:Expr}{td ty:TE}{apos cpos:Pos}(hr:ZaG k X.A)(ho:PE X o td)(he:PE X e ty)(hb:attributeBase o "get" X.env (eval o X.env)=eval o X.env:=by rfl)
  (hl:(apos.endLine == cpos.line)=true:=by rfl) (ht:backTo cpos (starEach [e] X.env)=[(false,eval e X.env)]:=by rfl):PE X (.Call (.Attribute o "get" apos) [e] [] cpos) (Znt td ty):=by
 refine Zmm (Znj hr) ho he ⟨hb,?_,hl,ht⟩
 rw[ht];rfl
section
variable {prog:Program} {w:World} {A:Around} {E:Value→Shared→Prop} {s:Shared} {l:Addr} {xs:Array (Int×Tok)}
end
def rMinQ(K:PySem.W.Frag):List V→Hp→VK→Prop:=fun vs H Q=>∃ (p:Addr) (ns:List Int),vs=[.ref p]∧SqT K H p (ns.map V.int)∧0<ns.length∧∀M,M∈ns→(∀a∈ns,M≤a)→Q (.int M) H
section
variable {X:Cx}
end
section
variable {X:Cx}
end
def tThawS(t:TS):TS:=fun D σ H=>∃d u,H d=some u∧Mut (some u)∧t ⟨fun σ' H'=>∃o,H' d=some (.frz o u)∧D.nx σ' (upd H' d u),fun _ _=>False,fun _ _=>False,fun _ _=>False⟩ σ H
def Zs9(t u:TS):TS:=fun D σ H=>∃M:St→Hp→Prop,t { D with nx:=M } σ H∧∀σ' H',M σ' H'→u D σ' H'
theorem Zh2{X:Cx}{st:Stmt}{rest:List Stmt}{t u:TS}(h1:PS X st t)(h2:PSs X rest u):PSs X (st::rest) (Zs9 t u):=by
 intro pins s σ H D I h
 obtain⟨M,h,hm⟩:=h
 refine wpAny_execs_cons (thn (h1 pins s σ H { D with nx:=M } I h) fun f s1 q=>?_)
 cases f with
 | next =>
  obtain⟨σ',H',I',q⟩:=q
  exact h2 pins s1 σ' H' D I' (hm σ' H' q)
 | ret v=>exact q
 | brk=>exact q
 | cont=>exact q
end L2
set_option maxHeartbeats 1000000
namespace My
open PySem L2 PyProof.Rows
abbrev Ztl:=@List.tail Stmt
abbrev Zt2(x:List Stmt):=Ztl (Ztl x)
abbrev Zt4(x:List Stmt):=Zt2 (Zt2 x)
abbrev Zt8(x:List Stmt):=Zt4 (Zt4 x)
abbrev Zt16(x:List Stmt):=Zt8 (Zt8 x)
abbrev Zt32(x:List Stmt):=Zt16 (Zt16 x)
local macro_rules|`(‹$i:num›)=>`(@pv _ $i _ _ (by rfl) (Or.inl rfl) (by decide) (by decide))
local macro_rules|`(tactic|trivial)=>`(tactic|first|exact .inl rfl|exact .inr rfl|decide|exact Nat.le_refl _|omega)
local macro_rules
|`(#[Xns,$a,$b,$c])=>`(PySem.W.nsIn $a mainGlobals $b=some (some (.ref $c)))
|`(#[Xfi,$a,$b,$c,$d])=>`(PySem.W.findIn $a (.ref $b) $c=some (some (.ref $d)))
|`(#[Xlk,$z,$a,$b,$c,$d,$e,$f,$g,$h,$i,$j,$k,$l,$m])=>`(($z).lookup $a=some ⟨$b,$c,.func (PySem.W.fnOf $d $e (Zp $f) (Zl $f) (Zg $f) .none $g $h $i $j $k $l),$m⟩)
|`(#[Xci,$a,$b,$c])=>`(PySem.W.codeIn $a $b $c=true)
|`(#[Xki,$a,$b])=>`(PySem.W.keepIn $a (.ref $b)=true)
|`(#[Xif,$a,$b])=>`(PySem.W.isFn $a (.ref $b)=true)
|`(#[Zf,$a,$b])=>`(@Zf _ _ _ _ _ $a $b)
|`(#[Zz,$a,$b,$c,$d])=>`(@Zz _ _ $a _ _ _ _ $b rfl $c $d (by rfl) (by trivial))
|`(#[ZG,$a,$b,$c])=>`(@ZG _ _ _ _ _ _ _ _ $a $b $c)
|`(#[Zh])=>`(@Zh _ _ _ _)
|`(#[Zj,$a])=>`(@Zj _ _ _ $a)
|`(#[Zn,$a])=>`(@Zn _ _ _ _ $a)
|`(#[Za9,$a,$b,$c])=>`(@Za9 _ _ _ _ _ _ _ _ $a $b $c)
|`(#[Zo,$a,$b,$c,$d])=>`(@Zo _ _ _ _ _ _ _ _ $a $b $c $d)
|`(#[Zk,$a,$b,$c,$d,$e])=>`(@Zk _ _ _ _ _ _ _ _ _ $a $b $c $d $e (by decide) (by decide) (by rfl) (by rfl))
|`(#[Za,$a,$b])=>`(@Za _ _ _ _ _ $a $b (by rfl))
|`(#[Zd])=>`(@Zd _)
|`(#[Zx,$a,$b,$c])=>`(@Zx _ _ _ _ _ _ _ $a $b $c (fun _ _=>rfl))
|`(#[Zbg,$a])=>`(@Zbg _ _ _ _ $a)
|`(#[ZcP,$a,$b,$c,$d])=>`(@ZcP _ _ _ _ _ _ _ _ _ $a (by rfl) $b $c $d (by decide) (by decide) (by rfl) (by rfl))
|`(#[Zet,$a,$b,$c])=>`(@Zet _ _ _ _ _ _ _ _ $a $b $c (Zt _))
|`(#[ZaO,$a,$b])=>`(@ZaO _ _ _ _ _ _ $a $b (by rfl) (by rfl) (by rfl))
|`(#[ZdA,$a,$b,$c])=>`(@ZdA _ _ _ _ _ _ _ $a $b $c (by intro _;rfl))
|`(#[ZZ,$a,$b,$c])=>`(@ZZ _ _ _ _ _ _ _ _ $a $b $c)
|`(#[ZB])=>`(@ZB _)
|`(#[ZA,$a,$b,$c,$d])=>`(@ZA _ _ _ _ _ _ _ _ _ _ _ $a $b $c (by trivial) $d (by decide) (by rfl) (by rfl))
|`(#[Zbv])=>`(@Zbv _ _ _ _)
|`(#[Zbd,$a,$b,$c,$d,$e])=>`(@Zbd _ _ _ _ _ _ _ _ _ _ _ _ _ _ $a rfl rfl rfl $b $c $d $e (by intro _;rfl))
|`(#[ZbL,$a,$b])=>`(@ZbL _ _ _ _ _ _ rfl $a $b (by rfl))
|`(#[pv,$a,$b])=>`(@pv _ $a _ _ (by rfl) $b (by decide) (by decide))
|`(#[cg,$a,$b])=>`(@cg _ _ _ _ _ _ _ _ _ _ _ $a $b rfl (by ac_rfl) (by rfl))
|`(#[cv,$a,$b])=>`(@cv _ _ _ _ _ _ _ _ _ _ _ $a $b rfl (by ac_rfl) (by rfl) (by decide) (by decide))
|`(#[Zc1,$a,$b,$c,$d,$e,$f])=>`(@Zc1 _ _ _ _ _ _ _ _ _ _ _ _ $a $b $c $d $e $f (by rfl) (by rfl) (by rfl) (by rfl) (by rfl))
|`(#[ZdD,$a,$b])=>`(@ZdD _ _ _ _ _ _ _ $a $b)
|`(#[ZhJ,$a,$b,$c,$d])=>`(@ZhJ _ _ $a _ _ _ _ _ _ $b rfl (Or.inl rfl) $c $d (by trivial))
|`(#[Zbo,$a,$b,$c,$d])=>`(@Zbo _ _ _ _ _ _ _ _ $a rfl $b $c $d (by intro _;rfl))
|`(#[iE,$a,$b,$c])=>`(@iE _ $a _ _ _ _ _ _ _ $b $c (by rfl) (by rfl) (by rfl))
|`(#[gT,$a,$b,$c])=>`(@gT _ $a _ _ _ $b _ $c (by rfl) (by rfl) (by rfl) (by rfl))
|`(#[Zs,$a,$b])=>`(@Zs _ _ _ _ _ $a $b (by rfl))
|`(#[Zw,$a,$b])=>`(@Zw _ _ $a _ $b rfl (Or.inl rfl) (by trivial))
|`(#[ZaI,$a])=>`(@ZaI _ _ _ _ $a (by rfl))
|`(#[ZN,$a])=>`(@ZN _ _ _ _ _ $a)
|`(#[ZcL,$a,$b])=>`(@ZcL _ _ _ _ _ _ _ rfl $a $b (by rfl) (by rfl))
|`(#[Zar])=>`(@Zar _ _ _)
|`(#[Zcq,$a,$b,$c,$d])=>`(@Zcq _ _ _ _ _ _ _ _ _ _ $a $b $c $d)
|`(#[Zac,$a])=>`(@Zac _ _ _ _ _ $a (by rfl))
|`(#[Zdg,$a,$b,$c,$d])=>`(@Zdg _ _ _ _ _ _ _ _ _ _ _ _ $a $b $c $d (by trivial) (by rfl))
|`(#[Zb1,$a,$b])=>`(@Zb1 _ _ _ _ _ _ _ _ $a $b (by rfl))
|`(#[Zhj,$a,$b])=>`(@Zhj _ _ _ _ _ _ _ $a $b)
|`(#[Zfc,$a,$b,$c,$d,$e])=>`(@Zfc _ _ _ _ _ _ _ _ _ _ _ _ _ _ _ $a $b $c $d $e (by trivial) (by rfl) (by rfl) (by rfl))
|`(#[ZpR,$a,$b,$c])=>`(@ZpR _ _ _ _ _ _ _ _ _ _ _ _ $a $b $c (by trivial) (by rfl) (by decide) (by rfl) (by rfl))
|`(#[iL,$a,$b])=>`(@iL _ $a _ _ _ $b (by rfl))
|`(#[cw,$a,$b])=>`(@cw _ _ _ _ _ _ _ _ _ _ _ $a $b rfl (by ac_rfl) (by rfl) (by decide) (by decide))
|`(#[ZkA,$a,$b])=>`(@ZkA _ _ _ _ $a $b (by rfl) (by decide) (by decide))
|`(#[Zem,$a,$b,$c,$d,$e,$f,$g])=>`(@Zem _ _ _ _ _ $a _ _ _ _ _ _ _ _ _ _ _ _ $b rfl (Or.inl rfl) $c rfl rfl rfl $d $e $f $g (by rfl) (by intro _;rfl) (by trivial))
|`(#[ZfT,$a])=>`(@ZfT _ _ _ $a (by intro _;rfl))
|`(#[ZdB])=>`(@ZdB _ _ _ _)
theorem xw4{α0:Type _}{α1:Type _}{α2:Type _}{α3:Type _}{p:α0→α1→α2→α3→Prop}(a0:α0)(a1:α1)(a2:α2)(a3:α3)(h:p a0 a1 a2 a3):∃a0 a1 a2 a3,p a0 a1 a2 a3:=⟨a0,a1,a2,a3,h⟩
theorem xw5{α0:Type _}{α1:Type _}{α2:Type _}{α3:Type _}{α4:Type _}{p:α0→α1→α2→α3→α4→Prop}(a0:α0)(a1:α1)(a2:α2)(a3:α3)(a4:α4)(h:p a0 a1 a2 a3 a4):∃a0 a1 a2 a3 a4,p a0 a1 a2 a3 a4:=⟨a0,a1,a2,a3,a4,h⟩
theorem xw6{α0:Type _}{α1:Type _}{α2:Type _}{α3:Type _}{α4:Type _}{α5:Type _}{p:α0→α1→α2→α3→α4→α5→Prop}(a0:α0)(a1:α1)(a2:α2)(a3:α3)(a4:α4)(a5:α5)(h:p a0 a1 a2 a3 a4 a5):∃a0 a1 a2 a3 a4 a5,p a0 a1 a2 a3 a4 a5:=⟨a0,a1,a2,a3,a4,a5,h⟩
theorem xw7{α0:Type _}{α1:Type _}{α2:Type _}{α3:Type _}{α4:Type _}{α5:Type _}{α6:Type _}{p:α0→α1→α2→α3→α4→α5→α6→Prop}(a0:α0)(a1:α1)(a2:α2)(a3:α3)(a4:α4)(a5:α5)(a6:α6)(h:p a0 a1 a2 a3 a4 a5 a6):∃a0 a1 a2 a3 a4 a5 a6,p a0 a1 a2 a3 a4 a5 a6:=⟨a0,a1,a2,a3,a4,a5,a6,h⟩
theorem xw9{α0:Type _}{α1:Type _}{α2:Type _}{α3:Type _}{α4:Type _}{α5:Type _}{α6:Type _}{α7:Type _}{α8:Type _}{p:α0→α1→α2→α3→α4→α5→α6→α7→α8→Prop}(a0:α0)(a1:α1)(a2:α2)(a3:α3)(a4:α4)(a5:α5)(a6:α6)(a7:α7)(a8:α8)(h:p a0 a1 a2 a3 a4 a5 a6 a7 a8):∃a0 a1 a2 a3 a4 a5 a6 a7 a8,p a0 a1 a2 a3 a4 a5 a6 a7 a8:=⟨a0,a1,a2,a3,a4,a5,a6,a7,a8,h⟩
theorem ZsQ{α0:Type _}{α1:Type _}{α2:Type _}{α3:Type _}{α4:Type _}{α5:Type _}{α6:Type _}{α7:Type _}{α8:Type _}{α9:Type _}{α10:Type _}{p:α0→α1→α2→α3→α4→α5→α6→α7→α8→α9→α10→Prop}(a0:α0)(a1:α1)(a2:α2)(a3:α3)(a4:α4)(a5:α5)(a6:α6)(a7:α7)(a8:α8)(a9:α9)(a10:α10)(h:p a0 a1 a2 a3 a4 a5 a6 a7 a8 a9 a10):∃a0 a1 a2 a3 a4 a5 a6 a7 a8 a9 a10,p a0 a1 a2 a3 a4 a5 a6 a7 a8 a9 a10:=⟨a0,a1,a2,a3,a4,a5,a6,a7,a8,a9,a10,h⟩
def hdS:List Stmt→Stmt
 | a::_=>a
 | []=>.Pass ⟨0,0,0,0⟩
abbrev ZS:List Stmt:=PySem.Challenge.pw_mergetree_k68_whole_sorts_beside_sorted.main.body
abbrev Zod:Stmt:=hdS (Zt16 (Zt8 ZS))
abbrev ZgF:Stmt:=hdS (Zt16 (Zt8 (Ztl ZS)))
abbrev Zgf:Stmt:=hdS (Zt16 (Zt8 (Zt4 (Zt2 ZS))))
abbrev Z7:Stmt:=hdS (Zt16 (Zt8 (Zt4 (Zt2 (Ztl ZS)))))
abbrev Zsx:Stmt:=hdS ZS
abbrev Zbw:Stmt:=hdS (Zt2 ZS)
abbrev ZbB:Stmt:=hdS (Zt4 ZS)
abbrev ZaX:Stmt:=hdS (Zt4 (Ztl ZS))
abbrev Zbk:Stmt:=hdS (Zt4 (Zt2 ZS))
abbrev Za2:Stmt:=hdS (Zt4 (Zt2 (Ztl ZS)))
abbrev Zba:Stmt:=hdS (Zt8 ZS)
abbrev Zdr:Stmt:=hdS (Zt8 (Zt2 ZS))
abbrev ZdM:Stmt:=hdS (Zt8 (Zt2 (Ztl ZS)))
abbrev Zbn:Stmt:=hdS (Zt8 (Zt4 ZS))
abbrev Zbj:Stmt:=hdS (Zt8 (Zt4 (Ztl ZS)))
abbrev ZbY:Stmt:=hdS (Zt8 (Zt4 (Zt2 ZS)))
abbrev Zbx:Stmt:=hdS (Zt16 ZS)
abbrev ZbO:Stmt:=hdS (Zt16 (Ztl ZS))
abbrev Zbm:Stmt:=hdS (Zt16 (Zt2 ZS))
abbrev ZcM:Stmt:=hdS (Zt16 (Zt2 (Ztl ZS)))
abbrev ZcU:Stmt:=hdS (Zt16 (Zt4 (Ztl ZS)))
abbrev ZcY:Stmt:=hdS (Zt16 (Zt4 (Zt2 ZS)))
abbrev Za8:Stmt:=hdS (Zt16 (Zt8 (Zt2 (Ztl ZS))))
abbrev ZcR:Stmt:=hdS (Zt16 (Zt8 (Zt4 ZS)))
abbrev ZaU:Stmt:=hdS (Zt32 ZS)
abbrev Zbl:Stmt:=hdS (Zt32 (Ztl ZS))
abbrev Zcg:Stmt:=hdS (Zt32 (Zt2 (Ztl ZS)))
abbrev Zbr:Stmt:=hdS (Zt32 (Zt4 ZS))
abbrev Zay:Stmt:=hdS (Zt32 (Zt4 (Zt2 ZS)))
abbrev ZbM:Stmt:=hdS (Zt32 (Zt4 (Zt2 (Ztl ZS))))
abbrev ZbC:Stmt:=hdS (Zt32 (Zt8 ZS))
abbrev Zcj:Stmt:=hdS (Zt32 (Zt8 (Zt2 ZS)))
abbrev ZaN:Stmt:=hdS (Zt32 (Zt8 (Zt2 (Ztl ZS))))
abbrev Zdy:Stmt:=hdS (Zt32 (Zt8 (Zt4 (Ztl ZS))))
abbrev ZcJ:Stmt:=hdS (Zt32 (Zt8 (Zt4 (Zt2 ZS))))
abbrev ZcF:Stmt:=hdS (Zt32 (Zt8 (Zt4 (Zt2 (Ztl ZS)))))
abbrev ZbN:Stmt:=hdS (Zt32 (Zt16 ZS))
abbrev Zc2:Stmt:=hdS (Zt32 (Zt16 (Ztl ZS)))
abbrev ZbT:Stmt:=hdS (Zt32 (Zt16 (Zt2 ZS)))
abbrev ZcH:Stmt:=hdS (Zt32 (Zt16 (Zt2 (Ztl ZS))))
abbrev ZaB:Stmt:=hdS (Zt32 (Zt16 (Zt4 ZS)))
abbrev Zbe:Stmt:=hdS (Zt32 (Zt16 (Zt4 (Ztl ZS))))
abbrev ZaL:Stmt:=hdS (Zt32 (Zt16 (Zt4 (Zt2 ZS))))
abbrev Zck:Stmt:=hdS (Zt32 (Zt16 (Zt4 (Zt2 (Ztl ZS)))))
abbrev ZjO:Stmt:=ZX ZgF 0
abbrev Za5:Stmt:=ZX Zgf 0
abbrev Zoi:Stmt:=ZX Zgf 1
abbrev ZaP:Stmt:=ZX Zgf 2
abbrev Za1:Stmt:=ZX Zgf 3
abbrev Zl4:Stmt:=ZX Zgf 4
abbrev ZaF:Stmt:=ZX Z7 0
abbrev Zah:Stmt:=ZX Z7 1
abbrev ZaD:Stmt:=ZX Z7 2
abbrev Z5:Stmt:=ZX Z7 3
abbrev Zoe:Stmt:=ZX Z7 4
abbrev ZmB:Stmt:=ZX Z7 5
abbrev ZjH:Stmt:=ZX Z7 6
abbrev ZaK:Stmt:=ZX Z7 7
abbrev Zoh:Stmt:=ZX Z7 8
abbrev Zlc:Stmt:=ZX Z7 9
abbrev ZkX:Stmt:=ZX Z7 10
abbrev Zog:Stmt:=ZX Z7 11
abbrev Zl3:Stmt:=ZX Z7 12
abbrev Z4:Stmt:=ZX Z7 13
abbrev ZaC:Stmt:=ZX Z7 14
abbrev Z2:Stmt:=ZX Z7 15
abbrev ZQ:Stmt:=ZX Z7 16
abbrev ZaA:Stmt:=ZX Z7 17
theorem Zje:Zq ["_law_cell", "_law_k", "_law_m"] ["_law_cell", "_law_k"] (Zg Zdy):=⟨rfl,rfl,rfl,by ac_rfl,rfl,by ac_rfl,by ac_rfl⟩
theorem ZgO:Zq ["_law_script", "_law_k", "_law_cell"] ["_law_script", "_law_k"] (Zg ZcJ):=⟨rfl,rfl,rfl,by ac_rfl,rfl,by ac_rfl,by ac_rfl⟩
theorem Zg5:Zq ["_law_left_here", "_law_many", "_law_digit"] ["_law_left_here", "_law_many"] (Zg ZcF):=⟨rfl,rfl,rfl,by ac_rfl,rfl,by ac_rfl,by ac_rfl⟩
theorem ZfX:Zq ["_law_left_here", "_law_some"] ["_law_left_here"] (Zg ZbN):=⟨rfl,rfl,rfl,by ac_rfl,rfl,by ac_rfl,by ac_rfl⟩
theorem Zjb:Zq ["_law_left_here", "_law_stems_here", "_law_tail"] ["_law_left_here", "_law_stems_here"] (Zg Zc2):=⟨rfl,rfl,rfl,by ac_rfl,rfl,by ac_rfl,by ac_rfl⟩
theorem ZcD:Zq ["one", "other", "far", "at"] ["one", "other", "far"] (Zg Zbj):=⟨rfl,rfl,rfl,by ac_rfl,rfl,by ac_rfl,by ac_rfl⟩
theorem Znx:Zq ["one", "other"] ["one", "other"] (Zg Zdr):=⟨rfl,rfl,rfl,by ac_rfl,rfl,by ac_rfl,by ac_rfl⟩
theorem Zd1:Zq ["row", "told", "place", "key"] ["row"] (Zg ZcR):=⟨rfl,rfl,rfl,by ac_rfl,rfl,by ac_rfl,by ac_rfl⟩
theorem ZiM:Zq ["one", "other", "at"] ["one", "other", "at"] (Zg ZbY):=⟨rfl,rfl,rfl,by ac_rfl,rfl,by ac_rfl,by ac_rfl⟩
theorem ZnN:Zq ["one", "other"] ["one", "other"] (Zg ZdM):=⟨rfl,rfl,rfl,by ac_rfl,rfl,by ac_rfl,by ac_rfl⟩
theorem Zd8:Zq ["one", "other", "far", "at"] ["one", "other", "far"] (Zg Zbn):=⟨rfl,rfl,rfl,by ac_rfl,rfl,by ac_rfl,by ac_rfl⟩
theorem Zds:Zq ["keys", "place"] ["keys"] (Zg Za8):=⟨rfl,rfl,rfl,by ac_rfl,rfl,by ac_rfl,by ac_rfl⟩
theorem Zhe:Zq ["numbers", "middle"] ["numbers"] (Zg ZcU):=⟨rfl,rfl,rfl,by ac_rfl,rfl,by ac_rfl,by ac_rfl⟩
theorem ZhC:Zq ["self"] ["self"] (Zg ZaP):=⟨rfl,rfl,rfl,by ac_rfl,rfl,by ac_rfl,by ac_rfl⟩
theorem Ziw:Zq ["self"] ["self"] (Zg Za1):=⟨rfl,rfl,rfl,by ac_rfl,rfl,by ac_rfl,by ac_rfl⟩
theorem Zjd:Zq ["self", "keys"] ["self", "keys"] (Zg Za5):=⟨rfl,rfl,rfl,by ac_rfl,rfl,by ac_rfl,by ac_rfl⟩
theorem ZcC:Zq ["self", "rows", "number", "keys"] ["self", "rows"] (Zg ZaF):=⟨rfl,rfl,rfl,by ac_rfl,rfl,by ac_rfl,by ac_rfl⟩
theorem Zdk:Zq ["self", "row"] ["self"] (Zg Zah):=⟨rfl,rfl,rfl,by ac_rfl,rfl,by ac_rfl,by ac_rfl⟩
theorem Zes:Zq ["self"] ["self"] (Zg Z4):=⟨rfl,rfl,rfl,by ac_rfl,rfl,by ac_rfl,by ac_rfl⟩
theorem Zaa:Zq ["self", "numbers", "first_side", "other_side", "one", "other", "winner", "loser", "far"] ["self", "numbers"] (Zg ZaC):=⟨rfl,rfl,rfl,by ac_rfl,rfl,by ac_rfl,by ac_rfl⟩
theorem ZbQ:Zq ["self", "one", "other", "far", "order", "alike_far", "seen"] ["self", "one", "other", "far"] (Zg ZaA):=⟨rfl,rfl,rfl,by ac_rfl,rfl,by ac_rfl,by ac_rfl⟩
theorem Zdn:Zq ["number", "keys", "place"] ["number", "keys"] (Zg ZaU):=⟨rfl,rfl,rfl,by ac_rfl,rfl,by ac_rfl,by ac_rfl⟩
theorem Zeb:Zq ["self", "thing"] ["self"] (Zg ZaD):=⟨rfl,rfl,rfl,by ac_rfl,rfl,by ac_rfl,by ac_rfl⟩
theorem Zcx:Zq ["self", "many", "things"] ["self", "many"] (Zg Z5):=⟨rfl,rfl,rfl,by ac_rfl,rfl,by ac_rfl,by ac_rfl⟩
theorem Zav:Zq ["self", "number", "row", "comer", "meeting"] ["self", "number"] (Zg Z2):=⟨rfl,rfl,rfl,by ac_rfl,rfl,by ac_rfl,by ac_rfl⟩
theorem Zak:Zq ["self", "meeting", "comer", "stayer", "winner", "loser", "far"] ["self", "meeting", "comer"] (Zg ZQ):=⟨rfl,rfl,rfl,by ac_rfl,rfl,by ac_rfl,by ac_rfl⟩
theorem Zaz:Zq ["numbers", "n", "matches", "least", "greatest", "others"] ["numbers", "n"] (Zg Zbl):=⟨rfl,rfl,rfl,by ac_rfl,rfl,by ac_rfl,by ac_rfl⟩
theorem ZbG:Zq ["numbers", "n", "others", "side", "first", "rest"] ["numbers", "n"] (Zg ZcY):=⟨rfl,rfl,rfl,by ac_rfl,rfl,by ac_rfl,by ac_rfl⟩
theorem Zi3:Zq ["rows"] ["rows"] (Zg Zbr):=⟨rfl,rfl,rfl,by ac_rfl,rfl,by ac_rfl,by ac_rfl⟩
theorem Zla:Zq ["rows"] ["rows"] (Zg Zcg):=⟨rfl,rfl,rfl,by ac_rfl,rfl,by ac_rfl,by ac_rfl⟩
theorem Zau:Zq ["_law_left_here", "_law_stems_here", "_law_many", "_law_found", "_law_k", "_law_key_here", "_law_way", "_law_cut"] ["_law_left_here"] (Zg ZbT):=⟨rfl,rfl,rfl,by ac_rfl,rfl,by ac_rfl,by ac_rfl⟩
theorem Zl0:Zq ["_law_left_here"] ["_law_left_here"] (Zg ZcH):=⟨rfl,rfl,rfl,by ac_rfl,rfl,by ac_rfl,by ac_rfl⟩
theorem ZgB:Zq ["_law_things_here"] ["_law_things_here"] (Zg ZaB):=⟨rfl,rfl,rfl,by ac_rfl,rfl,by ac_rfl,by ac_rfl⟩
theorem Zhy:Zq ["thing"] ["thing"] (Zg Zbw):=⟨rfl,rfl,rfl,by ac_rfl,rfl,by ac_rfl,by ac_rfl⟩
theorem Zb6:Zq ["things", "runs", "tree", "parts", "rows"] ["things", "runs", "tree"] (Zg Zay):=⟨rfl,rfl,rfl,by ac_rfl,rfl,by ac_rfl,by ac_rfl⟩
theorem Zgp:Zq ["run", "key", "comer"] ["run", "key", "comer"] (Zg Zbm):=⟨rfl,rfl,rfl,by ac_rfl,rfl,by ac_rfl,by ac_rfl⟩
theorem ZaT:Zq ["things", "room", "inside", "next_in", "runs", "goer", "run", "key", "number"] ["things", "room"] (Zg ZbO):=⟨rfl,rfl,rfl,by ac_rfl,rfl,by ac_rfl,by ac_rfl⟩
theorem Zb5:Zq ["things", "runs", "number", "key"] ["things"] (Zg Zbx):=⟨rfl,rfl,rfl,by ac_rfl,rfl,by ac_rfl,by ac_rfl⟩
theorem ZeS:Zq ["things", "thing", "number", "place"] ["things", "thing"] (Zg ZcM):=⟨rfl,rfl,rfl,by ac_rfl,rfl,by ac_rfl,by ac_rfl⟩
theorem Zc5:Zq ["groves", "begin", "end", "most", "price", "middle"] ["groves", "begin", "end", "most"] (Zg Zba):=⟨rfl,rfl,rfl,by ac_rfl,rfl,by ac_rfl,by ac_rfl⟩
theorem ZdI:Zq ["groves", "alone", "begin", "end", "most", "cut"] ["groves", "alone", "begin", "end", "most"] (Zg Za2):=⟨rfl,rfl,rfl,by ac_rfl,rfl,by ac_rfl,by ac_rfl⟩
theorem ZcA:Zq ["groves", "sizes", "ways", "begin", "end", "price", "parts"] ["groves", "sizes", "ways", "begin", "end"] (Zg Zbk):=⟨rfl,rfl,rfl,by ac_rfl,rfl,by ac_rfl,by ac_rfl⟩
theorem Zag:Zq ["sizes", "ways", "groves", "many", "begin", "end", "alone", "most"] ["sizes", "ways"] (Zg ZaX):=⟨rfl,rfl,rfl,by ac_rfl,rfl,by ac_rfl,by ac_rfl⟩
theorem Zc6:Zq ["sizes", "ways", "price", "trees"] ["sizes", "ways"] (Zg ZbB):=⟨rfl,rfl,rfl,by ac_rfl,rfl,by ac_rfl,by ac_rfl⟩
theorem Zh7:Zq ["things", "thing"] ["things", "thing"] (Zg ZbC):=⟨rfl,rfl,rfl,by ac_rfl,rfl,by ac_rfl,by ac_rfl⟩
theorem Zdi:Zq ["things", "room", "ways", "runs", "cost", "tree"] ["things", "room", "ways"] (Zg ZbM):=⟨rfl,rfl,rfl,by ac_rfl,rfl,by ac_rfl,by ac_rfl⟩
theorem ZjU:Zq ["sizes", "tree"] ["sizes", "tree"] (Zg Zcj):=⟨rfl,rfl,rfl,by ac_rfl,rfl,by ac_rfl,by ac_rfl⟩
theorem ZP:Zq ["sizes", "tree", "size", "cost", "part", "part_size", "part_cost"] ["sizes", "tree"] (Zg ZaN):=⟨rfl,rfl,rfl,by ac_rfl,rfl,by ac_rfl,by ac_rfl⟩
theorem Zb7:Zq ["_law_things_here", "_law_lists", "_law_ways", "_law_sizes", "_law_cost", "_law_tree"] ["_law_things_here", "_law_lists", "_law_ways"] (Zg Zbe):=⟨rfl,rfl,rfl,by ac_rfl,rfl,by ac_rfl,by ac_rfl⟩
theorem ZaJ:Zq ["_law_things_here", "_law_room_here", "_law_ways", "_law_due", "_law_told", "_law_lists", "_law_found"] ["_law_things_here", "_law_room_here", "_law_ways", "_law_due"] (Zg ZaL):=⟨rfl,rfl,rfl,by ac_rfl,rfl,by ac_rfl,by ac_rfl⟩
theorem ZdQ:Zq ["_law_script", "_law_k", "_law_left_here", "_law_things_here", "_law_due", "_law_turn", "_law_few"] ["_law_script"] (Zg Zck):=⟨rfl,rfl,rfl,by ac_rfl,rfl,by ac_rfl,by ac_rfl⟩
def ZoG:Scope:={ kind:=.function,names:=[(Str.ofString ".0",.«local»),(Str.ofString "_law_k",.«local»),(Str.ofString "_law_pick",.globalImplicit),(Str.ofString "_law_left_here",.free),(Str.ofString "_law_some",.free)],isGenerator:=false,isCoroutine:=false,more:=[] }
theorem Znn:ZY ["_law_left_here", "_law_some"] ["_law_left_here", "_law_some", "_law_k"] (Zg ZbN) ZoG:=⟨rfl,rfl,by ac_rfl,by ac_rfl,by ac_rfl,by decide,by ac_rfl,by ac_rfl⟩
def Zr2:Scope:={ kind:=.function,names:=[(Str.ofString ".0",.«local»),(Str.ofString "_law_k",.«local»),(Str.ofString "_law_pick",.globalImplicit),(Str.ofString "_law_left_here",.cell),(Str.ofString "_law_some",.cell)],isGenerator:=false,isCoroutine:=false,more:=[] }
def Zo7:Scope:={ kind:=.function,names:=[(Str.ofString ".0",.«local»),(Str.ofString "_law_k",.«local»),(Str.ofString "_law_pick",.globalImplicit),(Str.ofString "_law_left_here",.free)],isGenerator:=false,isCoroutine:=false,more:=[] }
theorem Zpe:ZY ["_law_left_here", "_law_stems_here", "_law_tail"] ["_law_left_here", "_law_stems_here", "_law_tail", "_law_k"] (Zg Zc2) Zo7:=⟨rfl,rfl,by ac_rfl,by ac_rfl,by ac_rfl,by decide,by ac_rfl,by ac_rfl⟩
def ZrJ:Scope:={ kind:=.function,names:=[(Str.ofString ".0",.«local»),(Str.ofString "_law_k",.«local»),(Str.ofString "_law_pick",.globalImplicit),(Str.ofString "_law_left_here",.cell)],isGenerator:=false,isCoroutine:=false,more:=[] }
def Zpj:Scope:={ kind:=.function,names:=[(Str.ofString ".0",.«local»),(Str.ofString "row",.«local»),(Str.ofString "len",.globalImplicit)],isGenerator:=false,isCoroutine:=false,more:=[] }
theorem ZoM:ZY ["rows"] ["rows", "row"] (Zg Zbr) Zpj:=⟨rfl,rfl,by ac_rfl,by ac_rfl,by ac_rfl,by decide,by ac_rfl,by ac_rfl⟩
def ZrK:Scope:={ kind:=.function,names:=[(Str.ofString ".0",.«local»),(Str.ofString "row",.«local»),(Str.ofString "len",.globalImplicit)],isGenerator:=false,isCoroutine:=false,more:=[] }
def Zpz:Scope:={ kind:=.function,names:=[(Str.ofString ".0",.«local»),(Str.ofString "row",.«local»),(Str.ofString "place",.«local»),(Str.ofString "key",.«local»)],isGenerator:=false,isCoroutine:=false,more:=[] }
theorem ZlX:ZY ["rows"] ["rows", "row", "place", "key"] (Zg Zcg) Zpz:=⟨rfl,rfl,by ac_rfl,by ac_rfl,by ac_rfl,by decide,by ac_rfl,by ac_rfl⟩
def Zsw:Scope:={ kind:=.function,names:=[(Str.ofString ".0",.«local»),(Str.ofString "row",.«local»),(Str.ofString "place",.«local»),(Str.ofString "key",.«local»)],isGenerator:=false,isCoroutine:=false,more:=[] }
def ZpD:Scope:={ kind:=.function,names:=[(Str.ofString ".0",.«local»),(Str.ofString "_law_key_here",.«local»),(Str.ofString "_law_number",.«local»)],isGenerator:=false,isCoroutine:=false,more:=[] }
theorem Zow:ZY ["_law_things_here"] ["_law_things_here", "_law_key_here", "_law_number"] (Zg ZaB) ZpD:=⟨rfl,rfl,by ac_rfl,by ac_rfl,by ac_rfl,by decide,by ac_rfl,by ac_rfl⟩
def ZrN:Scope:={ kind:=.function,names:=[(Str.ofString ".0",.«local»),(Str.ofString "_law_key_here",.«local»),(Str.ofString "_law_number",.«local»)],isGenerator:=false,isCoroutine:=false,more:=[] }
def Zpu:Scope:={ kind:=.function,names:=[(Str.ofString ".0",.«local»),(Str.ofString "_law_number",.«local»),(Str.ofString "_law_key_here",.«local»)],isGenerator:=false,isCoroutine:=false,more:=[] }
theorem ZnZ:ZY ["_law_things_here"] ["_law_things_here", "_law_number", "_law_key_here"] (Zg ZaB) Zpu:=⟨rfl,rfl,by ac_rfl,by ac_rfl,by ac_rfl,by decide,by ac_rfl,by ac_rfl⟩
def Zr8:Scope:={ kind:=.function,names:=[(Str.ofString ".0",.«local»),(Str.ofString "_law_number",.«local»),(Str.ofString "_law_key_here",.«local»)],isGenerator:=false,isCoroutine:=false,more:=[] }
def ZoB:Scope:={ kind:=.function,names:=[(Str.ofString ".0",.«local»),(Str.ofString "part",.«local»),(Str.ofString "merged_by",.globalImplicit),(Str.ofString "runs",.free),(Str.ofString "things",.free)],isGenerator:=false,isCoroutine:=false,more:=[] }
theorem ZlN:ZY ["things", "runs", "tree", "parts", "rows"] ["things", "runs", "tree", "parts", "rows", "part"] (Zg Zay) ZoB:=⟨rfl,rfl,by ac_rfl,by ac_rfl,by ac_rfl,by decide,by ac_rfl,by ac_rfl⟩
def Zsy:Scope:={ kind:=.function,names:=[(Str.ofString ".0",.«local»),(Str.ofString "part",.«local»),(Str.ofString "merged_by",.globalImplicit),(Str.ofString "runs",.cell),(Str.ofString "things",.cell)],isGenerator:=false,isCoroutine:=false,more:=[] }
def ZoV:Scope:={ kind:=.function,names:=[(Str.ofString ".0",.«local»),(Str.ofString "part",.«local»),(Str.ofString "things",.free)],isGenerator:=false,isCoroutine:=false,more:=[] }
theorem Zqa:ZY ["things", "runs", "tree", "parts", "rows"] ["things", "runs", "tree", "parts", "rows", "part"] (Zg Zay) ZoV:=⟨rfl,rfl,by ac_rfl,by ac_rfl,by ac_rfl,by decide,by ac_rfl,by ac_rfl⟩
def Zne:Scope:={ kind:=.function,names:=[(Str.ofString ".0",.«local»),(Str.ofString "part",.«local»),(Str.ofString "things",.cell)],isGenerator:=false,isCoroutine:=false,more:=[] }
def Zo4:Scope:={ kind:=.function,names:=[(Str.ofString ".0",.«local»),(Str.ofString "number",.«local»),(Str.ofString "things",.free)],isGenerator:=false,isCoroutine:=false,more:=[] }
theorem Zpx:ZY ["things", "runs", "tree", "parts", "rows", "part"] ["things", "runs", "tree", "parts", "rows", "part", "number"] Zne Zo4:=⟨rfl,rfl,by ac_rfl,by ac_rfl,by ac_rfl,by decide,by ac_rfl,by ac_rfl⟩
def Zsu:Scope:={ kind:=.function,names:=[(Str.ofString ".0",.«local»),(Str.ofString "number",.«local»),(Str.ofString "things",.cell)],isGenerator:=false,isCoroutine:=false,more:=[] }
def Zpd:Scope:={ kind:=.function,names:=[(Str.ofString ".0",.«local»),(Str.ofString "part",.«local»),(Str.ofString "place",.«local»),(Str.ofString "parts",.free)],isGenerator:=false,isCoroutine:=false,more:=[] }
theorem Zlx:ZY ["things", "runs", "tree", "parts", "rows"] ["things", "runs", "tree", "parts", "rows", "part", "place"] (Zg Zay) Zpd:=⟨rfl,rfl,by ac_rfl,by ac_rfl,by ac_rfl,by decide,by ac_rfl,by ac_rfl⟩
def Zse:Scope:={ kind:=.function,names:=[(Str.ofString ".0",.«local»),(Str.ofString "part",.«local»),(Str.ofString "place",.«local»),(Str.ofString "parts",.cell)],isGenerator:=false,isCoroutine:=false,more:=[] }
def Znv:Scope:={ kind:=.function,names:=[(Str.ofString ".0",.«local»),(Str.ofString "number",.«local»),(Str.ofString "things",.free)],isGenerator:=false,isCoroutine:=false,more:=[] }
theorem Ziu:ZY ["things", "room", "inside", "next_in", "runs", "goer", "run", "key", "number"] ["things", "room", "inside", "next_in", "runs", "goer", "run", "key", "?number", "number"] (Zg ZbO) Znv:=⟨rfl,rfl,by ac_rfl,by ac_rfl,by ac_rfl,by decide,by ac_rfl,by ac_rfl⟩
def ZrE:Scope:={ kind:=.function,names:=[(Str.ofString ".0",.«local»),(Str.ofString "number",.«local»),(Str.ofString "things",.cell)],isGenerator:=false,isCoroutine:=false,more:=[] }
def Znq:Scope:={ kind:=.function,names:=[(Str.ofString ".0",.«local»),(Str.ofString "middle",.«local»),(Str.ofString "begin",.free),(Str.ofString "end",.free),(Str.ofString "groves",.free),(Str.ofString "most",.free)],isGenerator:=false,isCoroutine:=false,more:=[] }
theorem Zea:ZY ["groves", "begin", "end", "most", "price", "middle"] ["groves", "begin", "end", "most", "price", "?middle", "middle"] (Zg Zba) Znq:=⟨rfl,rfl,by ac_rfl,by ac_rfl,by ac_rfl,by decide,by ac_rfl,by ac_rfl⟩
def ZrD:Scope:={ kind:=.function,names:=[(Str.ofString ".0",.«local»),(Str.ofString "middle",.«local»),(Str.ofString "begin",.cell),(Str.ofString "end",.cell),(Str.ofString "groves",.cell),(Str.ofString "most",.cell)],isGenerator:=false,isCoroutine:=false,more:=[] }
def Zn4:Scope:={ kind:=.function,names:=[(Str.ofString ".0",.«local»),(Str.ofString "run",.«local»),(Str.ofString "len",.globalImplicit)],isGenerator:=false,isCoroutine:=false,more:=[] }
theorem ZkM:ZY ["things", "room", "ways", "runs", "cost", "tree"] ["things", "room", "ways", "runs", "cost", "tree", "run"] (Zg ZbM) Zn4:=⟨rfl,rfl,by ac_rfl,by ac_rfl,by ac_rfl,by decide,by ac_rfl,by ac_rfl⟩
def ZrG:Scope:={ kind:=.function,names:=[(Str.ofString ".0",.«local»),(Str.ofString "run",.«local»),(Str.ofString "len",.globalImplicit)],isGenerator:=false,isCoroutine:=false,more:=[] }
def Zma:Scope:={ kind:=.function,names:=[(Str.ofString ".0",.«local»),(Str.ofString "_law_part",.«local»),(Str.ofString "len",.globalImplicit)],isGenerator:=false,isCoroutine:=false,more:=[] }
theorem ZkJ:ZY ["_law_things_here", "_law_lists", "_law_ways", "_law_sizes", "_law_cost", "_law_tree"] ["_law_things_here", "_law_lists", "_law_ways", "_law_sizes", "_law_cost", "_law_tree", "_law_part"] (Zg Zbe) Zma:=⟨rfl,rfl,by ac_rfl,by ac_rfl,by ac_rfl,by decide,by ac_rfl,by ac_rfl⟩
def ZrC:Scope:={ kind:=.function,names:=[(Str.ofString ".0",.«local»),(Str.ofString "_law_part",.«local»),(Str.ofString "len",.globalImplicit)],isGenerator:=false,isCoroutine:=false,more:=[] }
def ZmC:Scope:={ kind:=.function,names:=[(Str.ofString ".0",.«local»),(Str.ofString "_law_key_here",.«local»)],isGenerator:=false,isCoroutine:=false,more:=[] }
theorem Zl8:ZY ["_law_script", "_law_k", "_law_left_here", "_law_things_here", "_law_due", "_law_turn", "_law_few"] ["_law_script", "_law_k", "_law_left_here", "_law_things_here", "_law_due", "_law_turn", "_law_few", "_law_key_here"] (Zg Zck) ZmC:=⟨rfl,rfl,by ac_rfl,by ac_rfl,by ac_rfl,by decide,by ac_rfl,by ac_rfl⟩
def ZrF:Scope:={ kind:=.function,names:=[(Str.ofString ".0",.«local»),(Str.ofString "_law_key_here",.«local»)],isGenerator:=false,isCoroutine:=false,more:=[] }
def ZmK:Scope:={ kind:=.function,names:=[(Str.ofString ".0",.«local»),(Str.ofString "_law_number",.«local»)],isGenerator:=false,isCoroutine:=false,more:=[] }
theorem ZnQ:ZY ["_law_script", "_law_k", "_law_left_here", "_law_things_here", "_law_due", "_law_turn", "_law_few"] ["_law_script", "_law_k", "_law_left_here", "_law_things_here", "_law_due", "_law_turn", "_law_few", "_law_number"] (Zg Zck) ZmK:=⟨rfl,rfl,by ac_rfl,by ac_rfl,by ac_rfl,by decide,by ac_rfl,by ac_rfl⟩
def ZrH:Scope:={ kind:=.function,names:=[(Str.ofString ".0",.«local»),(Str.ofString "_law_number",.«local»)],isGenerator:=false,isCoroutine:=false,more:=[] }
structure Bt (mg:Str→Option Value):Prop where
 n_abs:mg "abs" = none
 n_bool:mg "bool" = none
 n_enumerate:mg "enumerate" = none
 n_int:mg "int" = none
 n_isinstance:mg "isinstance" = none
 n_len:mg "len" = none
 n_list:mg "list" = none
 n_max:mg "max" = none
 n_min:mg "min" = none
 n_range:mg "range" = none
 n_sorted:mg "sorted" = none
 n_sum:mg "sum" = none
structure Zaf (K:PySem.W.Frag) (mg:Str→Option Value) (cRow:Addr) (cMerge:Addr):Prop where
 b:Bt mg
 t_is_number:Top K mg "is_number" Zbw ["thing"]
 t_near_plan:Top K mg "near_plan" ZbB ["sizes", "ways"]
 t_least_groves:Top K mg "least_groves" ZaX ["sizes", "ways"]
 t_least_tree:Top K mg "least_tree" Zbk ["groves", "sizes", "ways", "begin", "end"]
 t_least_grove:Top K mg "least_grove" Za2 ["groves", "alone", "begin", "end", "most"]
 t_least_cut:Top K mg "least_cut" Zba ["groves", "begin", "end", "most"]
 t_alike:Top K mg "alike" Zdr ["one", "other"]
 t_liken:Top K mg "liken" ZdM ["one", "other"]
 t_liken_from:Top K mg "liken_from" Zbn ["one", "other", "far"]
 t_alike_from:Top K mg "alike_from" Zbj ["one", "other", "far"]
 t_order_at:Top K mg "order_at" ZbY ["one", "other", "at"]
 t_stretches:Top K mg "stretches" Zbx ["things"]
 t_runs_of:Top K mg "runs_of" ZbO ["things", "room"]
 t_run_behind:Top K mg "run_behind" Zbm ["run", "key", "comer"]
 t_is_run:Top K mg "is_run" ZcM ["things", "thing"]
 t_halves:Top K mg "halves" ZcU ["numbers"]
 t_way_up:Top K mg "way_up" ZcY ["numbers", "n"]
 t_first_break:Top K mg "first_break" Za8 ["keys"]
 t_alikes:Top K mg "alikes" ZcR ["row"]
 t_refuse_break:Top K mg "refuse_break" ZaU ["number", "keys"]
 t_matches_up:Top K mg "matches_up" Zbl ["numbers", "n"]
 t_merged:Top K mg "merged" Zcg ["rows"]
 t_how_many:Top K mg "how_many" Zbr ["rows"]
 t_merged_by:Top K mg "merged_by" Zay ["things", "runs", "tree"]
 t_sort_by:Top K mg "sort_by" ZbM ["things", "room", "ways"]
 t_is_sorted:Top K mg "is_sorted" ZbC ["things", "thing"]
 t_cost_of:Top K mg "cost_of" Zcj ["sizes", "tree"]
 t_size_and_cost:Top K mg "size_and_cost" ZaN ["sizes", "tree"]
 t_l_mix:Top K mg "_law_mix" Zdy ["_law_cell", "_law_k"]
 t_l_left:Top K mg "_law_left" ZcJ ["_law_script", "_law_k"]
 t_l_pick:Top K mg "_law_pick" ZcF ["_law_left_here", "_law_many"]
 t_l_stems:Top K mg "_law_stems" ZbN ["_law_left_here"]
 t_l_key:Top K mg "_law_key" Zc2 ["_law_left_here", "_law_stems_here"]
 t_l_things:Top K mg "_law_things" ZbT ["_law_left_here"]
 t_l_room:Top K mg "_law_room" ZcH ["_law_left_here"]
 t_l_in_order:Top K mg "_law_in_order" ZaB ["_law_things_here"]
 t_l_by_plan:Top K mg "_law_by_plan" Zbe ["_law_things_here", "_law_lists", "_law_ways"]
 t_l_sorts_right:Top K mg "_law_sorts_right" ZaL ["_law_things_here", "_law_room_here", "_law_ways", "_law_due"]
 t_Row_init:Zor K mg cRow "Row" "Row.__init__" Za5 ["self", "keys"]
 t_Row_to_go:ZeX K cRow "to_go" "Row.to_go" ZaP ["self"]
 t_Row_head:ZeX K cRow "head" "Row.head" Za1 ["self"]
 t_Merge_init:Zor K mg cMerge "Merge" "Merge.__init__" ZaF ["self", "rows"]
 t_Merge_coming:ZeX K cMerge "coming" "Merge.coming" Zah ["self"]
 t_Merge_take:ZeX K cMerge "take" "Merge.take" ZaD ["self"]
 t_Merge_take_few:ZeX K cMerge "take_few" "Merge.take_few" Z5 ["self", "many"]
 t_Merge_looks:ZeX K cMerge "looks" "Merge.looks" ZaK ["self"]
 t_Merge_play_all:ZeX K cMerge "play_all" "Merge.play_all" Z4 ["self"]
 t_Merge_play:ZeX K cMerge "play" "Merge.play" ZaC ["self", "numbers"]
 t_Merge_send_out:ZeX K cMerge "send_out" "Merge.send_out" Z2 ["self", "number"]
 t_Merge_play_again:ZeX K cMerge "play_again" "Merge.play_again" ZQ ["self", "meeting", "comer"]
 t_Merge_meet:ZeX K cMerge "meet" "Merge.meet" ZaA ["self", "one", "other", "far"]
 cl_Row:Cls K cRow
 na_Row_all_keys:Zbi K cRow "all_keys"
 na_Row_fars:Zbi K cRow "fars"
 na_Row_gone:Zbi K cRow "gone"
 cl_Merge:Cls K cMerge
 na_Merge_best:Zbi K cMerge "best"
 na_Merge_likened:Zbi K cMerge "likened"
 na_Merge_looked:Zbi K cMerge "looked"
 na_Merge_next_number:Zbi K cMerge "next_number"
 na_Merge_rows:Zbi K cMerge "rows"
 na_Merge_stays:Zbi K cMerge "stays"
def ZaE(H:Hp)(p:Addr)(c:Int):Prop:=∃a b:Int,H p=some (.lst [.int a,.int b,.int c])∧0≤c
def But(p:Addr)(H H':Hp):Prop:=∀b o,H b=some o→b≠p→H' b=some o
theorem But.trans{p:Addr}{H H1 H2:Hp}(a:But p H H1)(b:But p H1 H2):But p H H2:=fun c o h n=>b c o (a c o h n) n
theorem But.same{p:Addr}{H H1:Hp}(a:Zu H H1):But p H H1:=fun c o h _=>a c o h
theorem Zi{H:Hp}{p:Addr}(h:H p=none)(o:HO):Zu H (upd H p o):=fun b u q=>by rw[Ze (Zc q h)];exact q
theorem ZcS{n:Nat}(h:n≤1000):n≤sizeLine:=Nat.le_of_lt (ZI h)
def Zmx:Sp:=fun vs H Q _=>∃a k:Int,vs=[.int a,.int k] ∧ -(2 ^ 62)<k∧k<2 ^ 62∧∀r:Int,0≤r→r<2000000000→Q (.int r) H
def Zmy(K:PySem.W.Frag):Sp:=fun vs H Q _=>∃ (a:Addr) (ns:List Int) (k:Int),vs=[.ref a,.int k]∧SqL K H a (ns.map V.int)∧ns.length≤63∧0≤k∧k<100 ∧
 ∀ (p:Addr) (H':Hp),H p=none→ZaE H' p 0→Zu H H'→Q (.ref p) H'
def Ze6:Sp:=fun vs H Q _=>∃ (p:Addr) (c m:Int),vs=[.ref p,.int m]∧ZaE H p c∧c<2 ^ 60∧0<m∧m<1000000 ∧
 ∀ (r:Int) (H':Hp),0≤r→r<m→ZaE H' p (c+1)→But p H H'→Q (.int r) H'
theorem ZqE{ns:List Int}{k:Int}(h0:0≤k)(h:k<(ns.length:Int)):∃v:Int,atI (ns.map V.int) k=some (.int v):=by
 have hk:k.toNat<ns.length:=by omega
 have ek:k=((k.toNat:Nat):Int):=by omega
 have q:atI (ns.map V.int) ((k.toNat:Nat):Int)=some (.int ns[k.toNat]):=Z3 (by rw[Qi,Qb hk]<;>rfl)
 rw[← ek]at q
 exact⟨_,q⟩
theorem ZjK{ss:List Str}{k:Int}(h0:0≤k)(h:k<(ss.length:Int)):∃s∈ss,atI (ss.map V.str) k=some (.str s):=by
 have hk:k.toNat<ss.length:=by omega
 have ek:k=((k.toNat:Nat):Int):=by omega
 have q:atI (ss.map V.str) ((k.toNat:Nat):Int)=some (.str ss[k.toNat]):=Z3 (by rw[Qi,Qb hk]<;>rfl)
 rw[← ek]at q
 exact⟨_,QZ hk,q⟩
theorem Zp1(b:Bool):-(2 ^ 64)<(if b=true then (1:Int) else 0)∧(if b=true then (1:Int) else 0)<2 ^ 64:=by cases b<;>decide
theorem ZeI{z:Str}{k:Int}(h0:0≤k)(h:k<(z.length:Int)):∃c:Nat,z.cps.toList[k.toNat]? = some c∧atI z.cps.toList k=some c:=by
 have hl:z.cps.toList.length=z.length:=by simp[Str.length]
 have hk:k.toNat<z.cps.toList.length:=by omega
 have ek:k=((k.toNat:Nat):Int):=by omega
 have q:atI z.cps.toList ((k.toNat:Nat):Int)=some z.cps.toList[k.toNat]:=Z3 (Qb hk)
 rw[← ek]at q
 exact⟨_,Qb hk,q⟩
theorem ZmG(sep:Str)(ys:List Str):(Txt.join sep ys).length≤(ys.map (·.length)).sum+ys.length*sep.length:=by
 have e:Txt.join sep ys=Str.join sep ys:=by simpa using join_plain_closes sep ys
 rw[e]
 exact StrLaws.join_length_le sep ys
theorem ZiU:∀ss:List Str,(∀s∈ss,s.length≤1)→(ss.map (·.length)).sum≤ss.length
 | [],_=>Qh _
 | s::r,h=>by
  have h1:=h s Q4
  have h2:=ZiU r fun x hx=>h x (Qu _ hx)
  rw[Qj,Q0,QD]
  omega
def lcp:List Nat→List Nat→Nat
 | a::r,b::s=>if a=b then lcp r s+1 else 0
 | _,_=>0
theorem ZfM:∀ (x y:List Nat),lcp x y≤x.length∧lcp x y≤y.length
 | [],_=>⟨Qv _,Qv _⟩
 | _::_,[]=>⟨Qv _,Qv _⟩
 | a::r,b::s=>by
  have h:=ZfM r s
  unfold lcp
  split
  ·exact⟨Nat.succ_le_succ h.1,Nat.succ_le_succ h.2⟩
  ·exact⟨Qv _,Qv _⟩
theorem Zcm:∀ (x y:List Nat),lcp x y=lcp y x
 | [],[]=>rfl
 | [],_::_=>rfl
 | _::_,[]=>rfl
 | a::r,b::s=>by
  unfold lcp
  by_cases h:a=b
  ·rw[if_pos h,if_pos h.symm,Zcm r s]
  ·rw[if_neg h,if_neg fun e=>h e.symm]
theorem Ziy:∀x:List Nat,lcp x x=x.length
 | []=>rfl
 | a::r=>by unfold lcp;rw[if_pos rfl,Ziy r];rfl
theorem ZdS(x:List Nat):lcp x []=0:=by cases x<;>rfl
theorem lcp_nil'(x:List Nat):lcp [] x=0:=by cases x<;>rfl
theorem Zmh:∀ (x y:List Nat) (k:Nat),k≤lcp x y→∀a,x[k]? = some a→y[k]? = some a→k+1≤lcp x y
 | [],_,k,_,a,h,_=>by simp at h
 | _::_,[],k,_,a,_,h=>by simp at h
 | a::r,b::s,0,_,c,h1,h2=>by
  simp at h1 h2
  unfold lcp
  rw[if_pos (by rw[h1,h2])]
  omega
 | a::r,b::s,k+1,h,c,h1,h2=>by
  unfold lcp at h ⊢
  by_cases e:a=b
  ·rw[if_pos e]at h ⊢
   have:=Zmh r s k (by omega) c (by simpa using h1) (by simpa using h2)
   omega
  ·rw[if_neg e]at h;omega
theorem Zn9:∀ (x y:List Nat) (k:Nat),k<lcp x y→x[k]? = y[k]?
 | [],_,k,h=>by unfold lcp at h;omega
 | _::_,[],k,h=>by unfold lcp at h;omega
 | a::r,b::s,0,h=>by
  unfold lcp at h
  by_cases e:a=b
  ·simp[e]
  ·rw[if_neg e]at h;omega
 | a::r,b::s,k+1,h=>by
  unfold lcp at h
  by_cases e:a=b
  ·rw[if_pos e]at h
   simpa using Zn9 r s k (by omega)
  ·rw[if_neg e]at h;omega
theorem Zh5(x y:List Nat)(k:Nat)(h:k≤lcp x y)(n:x.length≤k∨y.length≤k∨∃a b,x[k]? = some a∧y[k]? = some b∧a≠b):lcp x y=k:=by
 have l:=ZfM x y
 rcases n with n|n|⟨a,b,h1,h2,ne⟩
 ·omega
 ·omega
 ·by_cases q:k<lcp x y
  ·have:=Zn9 x y k q
   rw[h1,h2]at this
   exact absurd (Qp this) ne
  ·omega
theorem ZeO:∀ (x y z:List Nat),(lcp x y≤lcp x z∧lcp y z=lcp x y)∨(lcp x y≤lcp y z∧lcp x z=lcp x y)∨(lcp x z≤lcp x y∧lcp y z=lcp x z)
 | [],y,z=>.inr (.inl ⟨by rw[lcp_nil'];exact Qv _,by rw[lcp_nil',lcp_nil']⟩)
 | x,[],z=>.inl ⟨by rw[ZdS];exact Qv _,by rw[ZdS,lcp_nil']⟩
 | x,y,[]=>.inr (.inr ⟨by rw[ZdS];exact Qv _,by rw[ZdS,ZdS]⟩)
 | a::r,b::s,c::t=>by
  have ih:=ZeO r s t
  unfold lcp
  by_cases h1:a=b
  ·by_cases h2:b=c
   ·rw[if_pos h1,if_pos h2,if_pos (h1.trans h2)]
    omega
   ·rw[if_pos h1,if_neg h2,if_neg fun e=>h2 (h1.symm.trans e)]
    omega
  ·rw[if_neg h1]
   by_cases h2:b=c
   ·rw[if_pos h2,if_neg fun e=>h1 (e.trans h2.symm)]
    omega
   ·rw[if_neg h2]
    omega
abbrev cds(z:Str):List Nat:=z.cps.toList
def AZ(z:Str):Prop:=∀c∈cds z,97≤c∧c≤122
theorem Zom(x y:Str):cds (x++y)=cds x++cds y:=by
 show (x++y).cps.toList=_
 rw[PySem.Str.cps_append]
 simp
theorem AZ.app{x y:Str}(a:AZ x)(b:AZ y):AZ (x++y):=fun c h=>by
 rw[Zom]at h
 exact(Qf.mp h).elim (a c) (b c)
theorem AZ.nil:AZ "":=by unfold AZ cds;ac_rfl
theorem AZ.join:∀ys:List Str,(∀s∈ys,AZ s)→AZ (Str.join "" ys)
 | [],_=>fun c h=>by cases (show c∈([]:List Nat) from h)
 | [x],h=>h x (by simp)
 | x::y::r,h=>((h x (by simp)).app AZ.nil).app (AZ.join (y::r) fun s hs=>h s (Qu _ hs))
theorem AZ.joinT(ys:List Str)(h:∀s∈ys,AZ s):AZ (Txt.join "" ys):=by
 have e:Txt.join "" ys=Str.join "" ys:=by simpa using join_plain_closes "" ys
 rw[e]
 exact AZ.join ys h
theorem AZ.one{z:Str}(a:AZ z){k:Nat}{c:Nat}(h:z.cps.toList[k]? = some c):AZ ⟨#[c]⟩:=fun d hd=>by
 have e:d=c:=by simpa using hd
 rw[e]
 exact a c (Qq h)
theorem AZ.ok{z:Str}(a:AZ z):PyData.strOk z=true:=by
 unfold PyData.strOk
 rw[Array.all_eq_true]
 intro i hi
 have:=a z.cps[i] (by simp)
 exact decide_eq_true (by omega)
theorem Zrh:AZ "ababcz":=by unfold AZ cds;ac_rfl
def Zfr:Sp:=fun vs H Q _=>∃x y:Str,vs=[.str x,.str y]∧x.length≤1000∧y.length≤1000∧Q (.int (lcp (cds x) (cds y))) H
def Zcu:Sp:=fun vs H Q _=>∃ (x y:Str) (far:Nat),vs=[.str x,.str y,.int far]∧x.length≤1000∧y.length≤1000∧far≤lcp (cds x) (cds y)∧Q (.int (lcp (cds x) (cds y))) H
def IsD(H:Hp):Nat→V→V→Prop
 | 0,_,_=>False
 | n+1,x,y=>(x=y∧(x=.non∨(∃b,x=.bl b)∨(∃i,x=.int i)∨∃s,x=.str s)) ∨
   (∃ (p q:Addr) (xs ys:List V),x=.ref p∧y=.ref q∧((H p=some (.lst xs)∧H q=some (.lst ys))∨(H p=some (.tup xs)∧H q=some (.tup ys)))∧xs.length=ys.length∧xs.length≤1000∧∀ (i:Nat) (x y:V),xs[i]? = some x→ys[i]? = some y→IsD H n x y)
def spSame(n:Nat):Sp:=fun vs H Q _=>∃x y:V,vs=[x,y]∧IsD H n x y∧∀H',Zu H H'→Q (.bl true) H'
section
variable (K:PySem.W.Frag)
open PySem.W
theorem Zhk:kitOne K (.type "list") (.type "list")=some true:=by unfold kitOne kitCls;rfl
theorem Zm5:kitOne K (.type "int") (.type "bool")=some false:=by unfold kitOne kitCls;rfl
theorem Zk0:kitOne K (.type "int") (.type "int")=some true:=by unfold kitOne kitCls;rfl
end
section
variable {P:Program} {w:World} {K:PySem.W.Frag} {mg:Str→Option Value} {base:Heap} {cRow cMerge:Addr}
theorem ZqY(T:Zaf K mg cRow cMerge):Df P w K mg base 1 "_law_mix" ["_law_cell", "_law_k"] Zmx:=by
 refine T.t_l_mix.df Zje (fun vs H Q E h=>?_) (fun cdv f A outer s H vs Q E hr h=>?_)
 ·obtain⟨a,k,rfl,_⟩:=h
  rfl
 obtain⟨a,k,rfl,k1,k2,q⟩:=h
 refine⟨_,#[Zf,#[Zz,2,Zje.nd,(Or.inl rfl),#[ZG,Zga,#[ZG,Ze4,#[ZG,Zaq,#[ZG,Zaq,#[ZG,Zga,‹0›,#[Zh]],#[ZG,Ze4,#[ZG,Ze4,‹1›,‹1›],#[Zh]]],#[Zh]],#[Zh]],#[Zh]]],#[Zj,#[Zn,#[ZG,Zga,#[ZG,Ze4,‹2›,‹2›],#[Zh]]]]],?_⟩
 refine⟨_,rfl,_,_,rfl,rfl,(by show (0:Int)<_;decide),_,rfl,_,rfl,_,_,rfl,rfl,.inl ⟨by omega,by omega⟩,_,_,rfl,rfl,.inr ⟨by decide,by decide⟩,_,_,rfl,rfl,_,_,rfl,rfl,_,_,rfl,rfl,.inr ⟨by decide,by decide⟩,_,_,rfl,rfl,(by show (0:Int)<_;decide),?_⟩
 have m0:=Int.emod_nonneg ((a % 2147483629+k*k*7919+11)*48271) (show (2147483647:Int)≠0 by decide)
 have m1:=QaI ((a % 2147483629+k*k*7919+11)*48271) (show (0:Int)<2147483647 by decide)
 refine⟨_,rfl,_,rfl,_,_,rfl,rfl,.inl ⟨by omega,by omega⟩,_,_,rfl,rfl,(by show (0:Int)<_;decide),?_⟩
 exact q _ (Int.emod_nonneg _ (by decide)) (Int.lt_trans (QaI _ (by decide)) (by decide))
theorem ZpG(T:Zaf K mg cRow cMerge):Df P w K mg base 1 "_law_left" ["_law_script", "_law_k"] (Zmy K):=by
 refine T.t_l_left.df ZgO (fun vs H Q E h=>?_) (fun cdv f A outer s H vs Q E hr h=>?_)
 ·obtain⟨a,ns,k,rfl,_⟩:=h
  rfl
 obtain⟨a,ns,k,rfl,hS,h63,k0,k1,q⟩:=h
 refine⟨_,#[Zf,#[Zz,2,ZgO.nd,(Or.inl rfl),#[Za9,#[Zo,Zcw,‹1›,#[Zk,(Zbf K),(by rfl),T.b.n_len,Qs,#[Za,‹0›,#[Zd]]],(Zt _)],#[Zx,(ixL K),‹0›,‹1›],#[Zh]]],#[Zj,#[Zn,#[Zbg,#[Za,#[ZG,Ze4,#[Zk,ZiH,(by rfl),T.b.n_abs,boot_abs,#[Za,‹2›,#[Zd]]],#[ZcP,ZlA,T.b.n_int,boot_int,#[Za,#[Zet,Zmu,#[Zk,ZiH,(by rfl),T.b.n_abs,boot_abs,#[Za,‹2›,#[Zd]]],#[ZG,Zqu,#[Zh],#[Zh]]],#[Zd]]]],#[Za,#[ZG,Zaq,‹2›,#[ZG,Ze4,#[Zh],‹1›]],#[Za,#[Zh],#[Zd]]]]]]]],?_⟩
 have hl:(ns.map V.int).length=ns.length:=Qa _
 have pw:Zsr 10 18:=⟨by decide,by decide,by decide⟩
 refine⟨_,rfl,_,rfl,a,_,rfl,.inl hS,_,_,rfl,rfl,_,rfl,?_⟩
 refine ZaV (fun c=>?_) (fun c=>?_)
 ·have c':k<(((ns.map V.int).length:Nat):Int):=of_decide_eq_true c
  rw[hl]at c'
  obtain⟨v,hv⟩:=ZqE (ns:=ns) k0 c'
  refine⟨_,rfl,_,rfl,xw4 a _ _ _ ⟨rfl,rfl,hS,hv,?_⟩⟩
  refine⟨_,rfl,_,rfl,_,rfl,_,rfl,_,_,rfl,rfl,pw,_,_,rfl,rfl,.inr ⟨_,rfl,_,_,rfl,rfl,.inr (Zp1 _),_,rfl,_,rfl,_,_,rfl,rfl,.inl ⟨by decide,by decide⟩,_,_,rfl,rfl,(by show 3≤sizeLine;decide),fun p hp=>?_⟩⟩
  exact q p _ hp ⟨_,_,Zb,QaJ _⟩ (Zi hp _)
 ·refine⟨_,rfl,_,rfl,_,rfl,_,rfl,_,_,rfl,rfl,pw,_,_,rfl,rfl,.inr ⟨_,rfl,_,_,rfl,rfl,.inr (Zp1 _),_,rfl,_,rfl,_,_,rfl,rfl,.inl ⟨by decide,by decide⟩,_,_,rfl,rfl,(by show 3≤sizeLine;decide),fun p hp=>?_⟩⟩
  exact q p _ hp ⟨_,_,Zb,QaJ _⟩ (Zi hp _)
theorem ZoR(T:Zaf K mg cRow cMerge)(f_l_mix:Df P w K mg base 1 "_law_mix" ["_law_cell", "_law_k"] Zmx):Df P w K mg base 2 "_law_pick" ["_law_left_here", "_law_many"] Ze6:=by
 refine T.t_l_pick.df Zg5 (fun vs H Q E h=>?_) (fun cdv f A outer s H vs Q E hr h=>?_)
 ·obtain⟨p,c,m,rfl,_⟩:=h
  rfl
 obtain⟨p,c,m,rfl,⟨a,b,hp,c0⟩,c1,m0,m1,q⟩:=h
 refine⟨_,#[Zf,#[ZaO,#[ZG,Zaq,#[Zx,(ixL K),‹0›,#[Zh]],#[Zh]],#[ZdA,‹0›,#[Zh],Zjm]],#[Zf,#[ZZ,#[Zo,Zfi,#[Zx,(ixL K),‹0›,#[Zh]],#[Zh],(Zt _)],#[Zf,#[Zz,2,Zg5.nd,(Or.inl rfl),#[ZG,Zga,#[Zx,(ixL K),‹0›,#[Zh]],‹1›]],#[Zf,#[ZaO,#[ZG,Zfx,#[Zx,(ixL K),‹0›,#[Zh]],‹1›],#[ZdA,‹0›,#[Zh],Zjm]],#[Zj,#[Zn,‹2›]]]],#[ZB]],#[Zj,#[Zn,#[ZG,Zga,#[ZG,Zfx,#[ZA,f_l_mix,hr,#[Za,#[ZA,f_l_mix,hr,#[Za,#[Zx,(ixL K),‹0›,#[Zh]],#[Za,#[Zx,(ixL K),‹0›,#[Zh]],#[Zd]]],(by rfl)],#[Za,#[ZG,Zaq,#[Zx,(ixL K),‹0›,#[Zh]],#[Zh]],#[Zd]]],(by rfl)],#[Zh]],‹1›]]]]],?_⟩
 have u1:(upd H p (.lst [.int a,.int b,.int (c+1)])) p=some (.lst [.int a,.int b,.int (c+1)]):=Zb
 refine⟨_,rfl,xw4 p _ _ _ ⟨rfl,rfl,SqL.of hp,rfl,_,_,rfl,rfl,_,rfl,p,_,_,2,rfl,rfl,hp,rfl,?_⟩⟩
 refine⟨_,rfl,xw4 p _ _ _ ⟨rfl,rfl,SqL.of u1,rfl,_,_,rfl,rfl,_,rfl,?_⟩⟩
 refine ZaV (fun d=>?_) (fun d=>?_)
 ·refine⟨_,rfl,xw4 p _ _ _ ⟨rfl,rfl,SqL.of u1,rfl,_,rfl,_,_,rfl,rfl,m0,?_⟩⟩
  refine⟨_,rfl,xw4 p _ _ _ ⟨rfl,rfl,SqL.of u1,rfl,_,rfl,_,_,rfl,rfl,⟨m0,by omega⟩,_,rfl,p,_,_,0,rfl,rfl,u1,rfl,?_⟩⟩
  refine⟨_,rfl,?_⟩
  refine q _ _ (Int.emod_nonneg _ (by omega)) (QaI _ m0) ⟨a / m,b,Zb,by omega⟩ fun e o h n=>?_
  rw[Ze n,Ze n]
  exact h
 ·refine⟨_,rfl,xw4 p _ _ _ ⟨rfl,rfl,SqL.of u1,rfl,_,rfl,xw4 p _ _ _ ⟨rfl,rfl,SqL.of u1,rfl,_,_,rfl,by omega,by omega,fun r r0 r1=>?_⟩⟩⟩
  refine⟨_,rfl,xw4 p _ _ _ ⟨rfl,rfl,SqL.of u1,rfl,_,_,rfl,rfl,_,_,rfl,by omega,by omega,fun r' r0' r1'=>?_⟩⟩
  refine⟨_,_,rfl,rfl,⟨by decide,by decide⟩,_,rfl,_,_,rfl,rfl,m0,?_⟩
  refine q _ _ (Int.emod_nonneg _ (by omega)) (QaI _ m0) ⟨a,b,Zb,by omega⟩ fun e o h n=>?_
  rw[Ze n]
  exact h
def ZbR:List Str:=["", "a", "ab", "aba", "abab", "b", "zebra", "aaaaaaaa", "knowswho", "z", "abababababab",Txt.mul "a" 24]
theorem Zi0:∀s∈ZbR,s.length≤24:=by ac_rfl
theorem Zjs:∀s∈ZbR,AZ s:=by unfold AZ cds;ac_rfl
def ZhM:Sp:=fun vs H Q _=>∃ (p:Addr) (c:Int),vs=[.ref p]∧ZaE H p c∧c<2 ^ 50 ∧
 ∀ (l:Addr) (ss:List Str) (c':Int) (H':Hp),H l=none→H' l=some (.lst (ss.map V.str))→1≤ss.length→ss.length≤4→(∀s∈ss,s.length≤24∧AZ s)→ZaE H' p c'→c≤c'→c'≤c+5→But p H H'→Q (.ref l) H'
def Znu:Sp:=fun vs H Q _=>∃ (p l:Addr) (c:Int) (ss:List Str),vs=[.ref p,.ref l]∧ZaE H p c∧c<2 ^ 50∧H l=some (.lst (ss.map V.str))∧1≤ss.length∧ss.length≤4∧(∀s∈ss,s.length≤24∧AZ s) ∧
 ∀ (z:Str) (c':Int) (H':Hp),z.length≤28→AZ z→ZaE H' p c'→c≤c'→c'≤c+6→But p H H'→Q (.str z) H'
theorem Znr(T:Zaf K mg cRow cMerge)(f_l_pick:Df P w K mg base 2 "_law_pick" ["_law_left_here", "_law_many"] Ze6):Df P w K mg base 3 "_law_stems" ["_law_left_here"] ZhM:=by
 refine T.t_l_stems.df ZfX (fun vs H Q E h=>?_) (fun cdv f A outer s H vs Q E hr h=>?_)
 ·obtain⟨p,c,rfl,_⟩:=h
  rfl
 obtain⟨p,c,rfl,hL,c1,q⟩:=h
 refine⟨_,#[Zf,#[Zz,1,ZfX.nd,(Or.inr rfl),#[Zbg,#[Za,#[Zbv],#[Za,#[Zbv],#[Za,#[Zbv],#[Za,#[Zbv],#[Za,#[Zbv],#[Za,#[Zbv],#[Za,#[Zbv],#[Za,#[Zbv],#[Za,#[Zbv],#[Za,#[Zbv],#[Za,#[Zbv],#[Za,#[ZG,Zot,#[Zbv],#[Zh]],#[Zd]]]]]]]]]]]]]]],#[Zj,#[Zn,#[Zbd,Znn,#[ZbL,T.b.n_range,#[Za,#[ZG,Zaq,#[Zh],#[ZA,f_l_pick,hr,#[Za,#[pv,0,(Or.inr (Or.inl rfl))],#[Za,#[Zh],#[Zd]]],(by rfl)]],#[Zd]]],(fun _ _ _ _=>#[cg,2,Znn]),(fun _ _ _ _=>(@ZaH _)),(fun _ _ _ _=>#[Zx,(ixL K),#[cv,1,Znn],#[ZA,f_l_pick,hr,#[Za,#[cv,0,Znn],#[Za,#[Zh],#[Zd]]],(Zcd Znn rfl (by ac_rfl))]])]]]],?_⟩
 refine⟨_,_,rfl,rfl,by decide,by decide,by decide,(by show 12≤sizeLine;decide),fun l hl=>?_⟩
 have npl:p≠l:=by obtain⟨a,b,hp,_⟩:=hL;exact Zc hp hl
 have hL1:ZaE (upd H l (.lst (ZbR.map V.str))) p c:=by obtain⟨a,b,hp,c0⟩:=hL;exact⟨a,b,by rw[Ze npl];exact hp,c0⟩
 refine⟨_,rfl,p,c,_,rfl,hL1,by omega,by decide,by decide,fun r H1 r0 r1 L1 B1=>?_⟩
 refine⟨_,_,rfl,rfl,_,rfl,by omega,by omega,fun D hD=>?_⟩
 have c0:0≤c:=by obtain⟨a,b,hp,c0⟩:=hL;exact c0
 have h1l:H1 l=some (.lst (ZbR.map V.str)):=B1 l _ Zb npl.symm
 have npD:p≠D:=by obtain⟨a,b,hp,_⟩:=L1;exact Zc hp hD
 have nlD:l≠D:=Zc h1l hD
 refine Zc4 (fun i ys σ H2=>∃ (ss:List Str) (v:Option V) (c2:Int),σ=[some (.ref p),some (.ref l),v]∧ys=ss.map V.str∧ss.length=i∧(∀s∈ss,s.length≤24∧AZ s)∧ZaE H2 p c2∧c+1≤c2∧c2≤c+1+i ∧
   H2 l=some (.lst (ZbR.map V.str))∧H2 D=some (.lst ys)∧But p H H2) ?_ ?_ ?_
 ·refine⟨[],none,c+1,rfl,rfl,rfl,(fun s hs=>by cases hs),?_,by omega,by omega,?_,Zb,?_⟩
  ·obtain⟨a,b,hp,q0⟩:=L1
   exact⟨a,b,by rw[Ze npD];exact hp,q0⟩
  ·rw[Ze nlD];exact h1l
  ·intro b o e n
   have e1:(upd H l (.lst (ZbR.map V.str))) b=some o:=by rw[Ze (Zc e hl)];exact e
   have e2:=B1 b o e1 n
   rw[Ze (Zc e2 hD)]
   exact e2
 ·rintro i ys σ H2 hi ⟨ss,v,c2,rfl,rfl,hn,hs,L2',b1,b2,hl2,hD2,B2⟩
  refine⟨_,rfl,_,rfl,p,c2,_,rfl,L2',by omega,by decide,by decide,fun r' H3 r0' r1' L3 B3=>?_⟩
  obtain⟨s,hs1,hs2⟩:=ZjK (ss:=ZbR) r0' r1'
  have hD3:H3 D=some (.lst (ss.map V.str)):=B3 D _ hD2 npD.symm
  have hl3:H3 l=some (.lst (ZbR.map V.str)):=B3 l _ hl2 npl.symm
  refine(xw4 l _ _ _ ⟨rfl,rfl,SqL.of hl3,hs2,hD3,(by rw[Qa,hn];exact ZI (by omega)),ss++[s],_,c2+1,rfl,?_,?_,?_,?_,by omega,by omega,?_,Zb,?_⟩)
  ·rw[Qe];rfl
  ·rw[Qg,hn];rfl
  ·intro x hx
   rcases Qf.mp hx with hx|hx
   ·exact hs x hx
   ·rw[Qd.mp hx];exact⟨Zi0 s hs1,Zjs s hs1⟩
  ·obtain⟨a,b,hp,q0⟩:=L3
   exact⟨a,b,by rw[Ze npD];exact hp,q0⟩
  ·rw[Ze nlD];exact hl3
  ·intro b o e n
   have e2:=B3 b o (B2 b o e n) n
   have e3:H D=none:=by
    cases w':H D with
    | none=>rfl
    | some u =>
     have nDp:D≠p:=npD.symm
     have z1:(upd H l (.lst (ZbR.map V.str))) D=some u:=by rw[Ze nlD.symm];exact w'
     rw[B1 D u z1 nDp]at hD
     cases hD
   rw[Ze (Zc e e3)]
   exact e2
 ·rintro ys σ H2 ⟨ss,v,c2,rfl,rfl,hn,hs,L2',b1,b2,hl2,hD2,B2⟩
  have e3:H D=none:=by
   cases w':H D with
   | none=>rfl
   | some u =>
    have z1:(upd H l (.lst (ZbR.map V.str))) D=some u:=by rw[Ze nlD.symm];exact w'
    rw[B1 D u z1 npD.symm]at hD
    cases hD
  exact q D ss c2 H2 e3 hD2 (by omega) (by omega) hs L2' (by omega) (by omega) B2
theorem Zrx(T:Zaf K mg cRow cMerge)(f_l_pick:Df P w K mg base 2 "_law_pick" ["_law_left_here", "_law_many"] Ze6):Df P w K mg base 3 "_law_key" ["_law_left_here", "_law_stems_here"] Znu:=by
 refine T.t_l_key.df Zjb (fun vs H Q E h=>?_) (fun cdv f A outer s H vs Q E hr h=>?_)
 ·obtain⟨p,l,c,ss,rfl,_⟩:=h
  rfl
 obtain⟨p,l,c,ss,rfl,hL,c1,hl,n1,n4,h24,q⟩:=h
 refine⟨_,#[Zf,#[Zz,2,Zjb.nd,(Or.inl rfl),#[Zc1,PySem.F.plainAttrs_str,PySem.F.slot_str_join,PySem.F.type_str_join,(Zsv K),#[Zbv],#[Za,#[Zbd,Zpe,#[ZbL,T.b.n_range,#[Za,#[ZA,f_l_pick,hr,#[Za,#[pv,0,(Or.inr (Or.inl rfl))],#[Za,#[Zh],#[Zd]]],(by rfl)],#[Zd]]],(fun _ _ _ _=>#[cg,3,Zpe]),(fun _ _ _ _=>(@ZaH _)),(fun _ _ _ _=>#[Zx,Zgh,#[Zbv],#[ZA,f_l_pick,hr,#[Za,#[cv,0,Zpe],#[Za,#[Zh],#[Zd]]],(Zcd Zpe rfl (by ac_rfl))]])],#[Zd]]]],#[Zj,#[Zn,#[ZG,ZjW,#[Zx,(ixL K),‹1›,#[ZA,f_l_pick,hr,#[Za,#[pv,0,(Or.inr (Or.inl rfl))],#[Za,#[Zk,(Zbf K),(by rfl),T.b.n_len,Qs,#[Za,‹1›,#[Zd]]],#[Zd]]],(by rfl)]],‹2›]]]],?_⟩
 have c0:0≤c:=by obtain⟨a,b,hp,c0⟩:=hL;exact c0
 have npl:p≠l:=by
  obtain⟨a,b,hp,_⟩:=hL
  refine Zku hp hl fun e=>?_
  have e1:=congrArg List.length (HO.lst.inj e)
  cases ss with
  | nil=>cases e1
  | cons x r=>exact absurd (HO.lst.inj e) (by intro z;cases z)
 refine⟨rfl,_,rfl,p,c,_,rfl,hL,by omega,by decide,by decide,fun r H1 r0 r1 L1 B1=>?_⟩
 refine⟨_,rfl,by omega,by omega,fun D hD=>?_⟩
 have npD:p≠D:=by obtain⟨a,b,hp,_⟩:=L1;exact Zc hp hD
 have h1l:=B1 l _ hl npl.symm
 have nlD:l≠D:=Zc h1l hD
 have hDn:H D=none:=by
  cases w':H D with
  | none=>rfl
  | some u=>rw[B1 D u w' npD.symm]at hD;cases hD
 refine Zc4 (fun i ys σ H2=>∃ (ts:List Str) (v:Option V) (c2:Int),σ=[some (.ref p),some (.ref l),none,v]∧ys=ts.map V.str∧ts.length=i∧(∀s∈ts,s.length≤1∧AZ s)∧ZaE H2 p c2∧c+1≤c2∧c2≤c+1+i ∧
   H2 D=some (.lst ys)∧But p H H2) ?_ ?_ ?_
 ·refine⟨[],none,c+1,rfl,rfl,rfl,(fun s hs=>by cases hs),?_,by omega,by omega,Zb,?_⟩
  ·obtain⟨a,b,hp,q0⟩:=L1
   exact⟨a,b,by rw[Ze npD];exact hp,q0⟩
  ·intro b o e n
   rw[Ze (Zc e hDn)]
   exact B1 b o e n
 ·rintro i ys σ H2 hi ⟨ts,v,c2,rfl,rfl,hn,hs,L2',b1,b2,hD2,B2⟩
  refine⟨_,rfl,p,c2,_,rfl,L2',by omega,by decide,by decide,fun r' H3 r0' r1' L3 B3=>?_⟩
  obtain⟨ch,hcm,hch⟩:=ZeI (z := "ababcz") r0' r1'
  have hD3:H3 D=some (.lst (ts.map V.str)):=B3 D _ hD2 npD.symm
  refine⟨_,_,_,rfl,rfl,(by ac_rfl),hch,hD3,(by rw[Qa,hn];exact ZI (by omega)),ts++[⟨#[ch]⟩],_,c2+1,rfl,?_,?_,?_,?_,by omega,by omega,Zb,?_⟩
  ·rw[Qe];rfl
  ·rw[Qg,hn];rfl
  ·intro x hx
   rcases Qf.mp hx with hx|hx
   ·exact hs x hx
   ·rw[Qd.mp hx];exact⟨Qh 1,Zrh.one hcm⟩
  ·obtain⟨a,b,hp,q0⟩:=L3
   exact⟨a,b,by rw[Ze npD];exact hp,q0⟩
  ·intro b o e n
   rw[Ze (Zc e hDn)]
   exact B3 b o (B2 b o e n) n
 ·rintro ys σ H2 ⟨ts,v,c2,rfl,rfl,hn,hs,L2',b1,b2,hD2,B2⟩
  have hsum:=ZiU ts fun s h=>(hs s h).1
  have hjl:=ZmG "" ts
  have e0:("" : Str).length=0:=by ac_rfl
  rw[e0]at hjl
  have hl2:=B2 l _ hl npl.symm
  refine⟨_,D,ts,rfl,rfl,SqL.of hD2,(by rw[e0];omega),?_⟩
  have hlen:(((ss.map V.str).length:Nat):Int)=(ss.length:Int):=by rw[Qa]
  refine⟨_,rfl,_,rfl,_,rfl,l,_,rfl,.inl (SqL.of hl2),p,c2,_,rfl,L2',by omega,by omega,by omega,fun r' H3 r0' r1' L3 B3=>?_⟩
  obtain⟨st,hs1,hs2⟩:=ZjK (ss:=ss) r0' (by omega)
  have hst:=(h24 st hs1).1
  refine(xw4 l _ _ _ ⟨rfl,rfl,SqL.of (B3 l _ hl2 npl.symm),hs2,_,rfl,_,_,rfl,rfl,ZcS (by omega),?_⟩)
  refine q _ (c2+1) H3 ?_ ((h24 st hs1).2.app (AZ.joinT ts fun s h=>(hs s h).2)) L3 (by omega) (by omega) (B2.trans B3)
  rw[PySem.Str.length_append]
  omega
theorem Zgn(T:Zaf K mg cRow cMerge):Df P w K mg base 1 "alike_from" ["one", "other", "far"] Zcu:=by
 refine T.t_alike_from.df ZcD (fun vs H Q E h=>?_) (fun cdv f A outer s H vs Q E hr h=>?_)
 ·obtain⟨x,y,far,rfl,_⟩:=h
  rfl
 obtain⟨x,y,far,rfl,hx,hy,hf,q⟩:=h
 refine⟨_,#[Zf,#[Zz,3,ZcD.nd,(Or.inl rfl),‹2›],#[Zf,(@ZeH _ _ _ _ _ _ PassesOwn.never (@PW.pt _ _ _ #[ZdD,#[Zo,Zcw,‹3›,#[Zk,Zbc,(by rfl),T.b.n_len,Qs,#[Za,‹0›,#[Zd]]],(Zt _)],#[ZdD,#[Zo,Zcw,‹3›,#[Zk,Zbc,(by rfl),T.b.n_len,Qs,#[Za,‹1›,#[Zd]]],(Zt _)],(@Zc9 _ _ _ _ #[Zo,Za4,#[Zx,Zgh,‹0›,‹3›],#[Zx,Zgh,‹1›,‹3›],(Zt _)])]]) #[Zj,#[ZhJ,3,ZcD.nd,#[Zh],ZhG]]),#[Zj,#[Zn,‹3›]]]],?_⟩
 refine⟨_,rfl,?_⟩
 have lx:(cds x).length=x.length:=by simp[Str.length]
 have ly:(cds y).length=y.length:=by simp[Str.length]
 have ll:=ZfM (cds x) (cds y)
 refine⟨fun m σ H2=>∃k:Nat,σ=[some (.str x),some (.str y),some (.int far),some (.int k)]∧H2=H∧k≤lcp (cds x) (cds y)∧m=lcp (cds x) (cds y)-k,⟨_,far,rfl,rfl,hf,rfl⟩,?_⟩
 rintro m σ H2 ⟨k,rfl,rfl,hk,rfl⟩
 refine⟨_,rfl,_,rfl,x,rfl,ZcS hx,_,_,rfl,rfl,_,rfl,?_⟩
 refine ZaV (fun d1=>?_) (fun d1=>?_)
 ·have d1':(k:Int)<(x.length:Int):=of_decide_eq_true d1
  refine⟨_,rfl,_,rfl,y,rfl,ZcS hy,_,_,rfl,rfl,_,rfl,?_⟩
  refine ZaV (fun d2=>?_) (fun d2=>?_)
  ·have d2':(k:Int)<(y.length:Int):=of_decide_eq_true d2
   obtain⟨a,ha,ha'⟩:=ZeI (z:=x) (k:=k) (by omega) d1'
   obtain⟨b,hb,hb'⟩:=ZeI (z:=y) (k:=k) (by omega) d2'
   rw[Qad]at ha hb
   refine⟨_,rfl,_,rfl,x,_,a,rfl,rfl,ZcS hx,ha',_,rfl,_,rfl,y,_,b,rfl,rfl,ZcS hy,hb',rfl,_,rfl,?_⟩
   refine ZaV (fun d3=>?_) (fun d3=>?_)
   ·have d3':a=b:=by
     have:=of_decide_eq_true d3
     injection this with e
     injection e with e
     simpa using e
    subst d3'
    have:=Zmh _ _ k hk a ha hb
    refine⟨fun σ' H'=>σ'=[some (.str x),some (.str y),some (.int far),some (.int ((k+1:Nat):Int))]∧H'=H2,fun σ' H' ⟨e1,e2⟩=>⟨_,?_,k+1,e1,e2,this,rfl⟩,?_⟩
    ·omega
    ·exact⟨_,rfl,_,_,rfl,rfl,rfl,rfl⟩
   ·refine⟨_,rfl,?_⟩
    have e:=Zh5 _ _ k hk (.inr (.inr ⟨a,b,ha,hb,fun e=>d3 (by subst e;exact decide_eq_true rfl)⟩))
    rw[e]at q
    exact q
  ·refine ZbF ⟨_,rfl,?_⟩
   have d2':¬ (k:Int)<(y.length:Int):=of_decide_eq_false (Bool.eq_false_iff.mpr d2)
   have e:=Zh5 _ _ k hk (.inr (.inl (by omega)))
   rw[e]at q
   exact q
 ·refine ZbF ⟨_,rfl,?_⟩
  have d1':¬ (k:Int)<(x.length:Int):=of_decide_eq_false (Bool.eq_false_iff.mpr d1)
  have e:=Zh5 _ _ k hk (.inl (by omega))
  rw[e]at q
  exact q
theorem ZmA(T:Zaf K mg cRow cMerge)(f_alike_from:Df P w K mg base 1 "alike_from" ["one", "other", "far"] Zcu):Df P w K mg base 2 "alike" ["one", "other"] Zfr:=by
 refine T.t_alike.df Znx (fun vs H Q E h=>?_) (fun cdv f A outer s H vs Q E hr h=>?_)
 ·obtain⟨x,y,rfl,_⟩:=h
  rfl
 obtain⟨x,y,rfl,hx,hy,q⟩:=h
 refine⟨_,#[Zj,#[Zn,#[ZA,f_alike_from,hr,#[Za,‹0›,#[Za,‹1›,#[Za,#[Zh],#[Zd]]]],(by rfl)]]],?_⟩
 exact⟨_,rfl,_,rfl,x,y,0,rfl,hx,hy,Qv _,q⟩
theorem Zej{c A B:Prop}[Decidable c](hc:c)(h:A):if decide c=true then A else B:=by
 rw[if_pos (decide_eq_true hc)]
 exact h
theorem Zdj{c A B:Prop}[Decidable c](hc:¬ c)(h:B):if decide c=true then A else B:=by
 rw[if_neg (by rw[decide_eq_false hc];exact QC)]
 exact h
theorem ZaE.new{H:Hp}{p l:Addr}{c:Int}{o:HO}(h:ZaE H p c)(n:H l=none):ZaE (upd H l o) p c:=by
 obtain⟨a,b,hp,c0⟩:=h
 exact⟨a,b,by rw[Ze (Zc hp n)];exact hp,c0⟩
theorem ZaE.ge{H:Hp}{p:Addr}{c:Int}(h:ZaE H p c):0≤c:=by obtain⟨a,b,hp,c0⟩:=h;exact c0
theorem ZaE.here{H:Hp}{p:Addr}{c:Int}(h:ZaE H p c):∃o,H p=some o:=by obtain⟨a,b,hp,c0⟩:=h;exact⟨_,hp⟩
theorem ZaE.at{H:Hp}{p l:Addr}{c:Int}{o:HO}(h:ZaE H p c)(n:p≠l):ZaE (upd H l o) p c:=by
 obtain⟨a,b,hp,c0⟩:=h
 exact⟨a,b,by rw[Ze n];exact hp,c0⟩
theorem Zjn:∀ss:List Str,(∀s∈ss,AZ s)→PyData.canLayAll0 (ss.map PyData.str)=true
 | [],_=>rfl
 | x::r,h=>by simp[PyData.canLayAll0,PyData.canLay0,(h x (by simp)).ok,Zjn r fun s hs=>h s (List.mem_cons_of_mem _ hs)]
theorem Zgb:∀ss:List Str,PyData.depthAll (ss.map PyData.str)=0
 | []=>rfl
 | _::r=>by simp[PyData.depthAll,PyData.depth,Zgb r]
theorem Zjh(ss:List Str)(h:∀s∈ss,AZ s):SeqAt.shaped (.list (ss.map PyData.str))=true:=by simp[SeqAt.shaped,PyData.canLay0,PyData.depth,Zjn ss h,Zgb]
theorem Zkp{K:PySem.W.Frag}{H:Hp}:∀ss:List Str,DVs K H (ss.map V.str) (ss.map PyData.str)
 | []=>.nil
 | s::r=>.cons (.str s) (Zkp r)
def spKeys:Sp:=fun vs H Q _=>∃ (p l:Addr) (c most:Int) (ss:List Str),vs=[.ref p,.ref l,.int most]∧ZaE H p c∧c<2 ^ 40∧0≤most∧most≤60∧H l=some (.lst (ss.map V.str))∧1≤ss.length∧ss.length≤4∧(∀s∈ss,s.length≤24∧AZ s) ∧
 ∀ (r:Addr) (ts:List Str) (c':Int) (H':Hp),H r=none→H' r=some (.lst (ts.map V.str))→(ts.length:Int)≤most→(∀s∈ts,s.length≤28∧AZ s)→ZaE H' p c'→c≤c'→c'≤c+600→But p H H'→Q (.ref r) H'
def ZcQ(ss:List Str)(i:Nat):Int:=if i=0 then 0 else (lcp (cds (ss.getD (i-1) "")) (cds (ss.getD i "")):Nat)
def Zgj(K:PySem.W.Frag):Sp:=fun vs H Q _=>∃ (a:Addr) (ss:List Str),vs=[.ref a]∧SqL K H a (ss.map V.str)∧ss.length≤100∧(∀s∈ss,s.length≤1000) ∧
 ∀ (r:Addr) (H':Hp),H r=none→H' r=some (.lst ((List.range ss.length).map fun j=>.int (ZcQ ss j)))→Zu H H'→Q (.ref r) H'
theorem Zlq(T:Zaf K mg cRow cMerge)(f_alike:Df P w K mg base 2 "alike" ["one", "other"] Zfr):Df P w K mg base 3 "alikes" ["row"] (Zgj K):=by
 refine T.t_alikes.df Zd1 (fun vs H Q E h=>?_) (fun cdv f A outer s H vs Q E hr h=>?_)
 ·obtain⟨a,ss,rfl,_⟩:=h
  rfl
 obtain⟨a,ss,rfl,hS,hn,hlen,q⟩:=h
 refine⟨_,#[Zf,#[Zz,1,Zd1.nd,(Or.inl rfl),#[Zbg,#[Zd]]],#[Zf,#[Zbo,PassesOwn.never,#[iE,K,T.b.n_enumerate,#[Za,‹0›,#[Zd]]],#[gT,K,2,#[Zs,#[Zw,2,Zd1.nd],#[Zs,#[Zw,3,Zd1.nd],(@Zal _)]]],#[Zj,#[ZaI,#[Zc1,QF,QL,QM,Zas,‹1›,#[Za,#[Za9,#[Zo,Za4,‹2›,#[Zh],(Zt _)],#[Zh],#[ZA,f_alike,hr,#[Za,#[Zx,(ixL K),‹0›,#[ZG,Zb0,‹2›,#[Zh]]],#[Za,‹3›,#[Zd]]],(by rfl)]],#[Zd]]]]]],#[Zj,#[Zn,‹1›]]]],?_⟩
 refine⟨(by show 0≤sizeLine;decide),fun r hr0=>?_⟩
 have s1:Zu H (upd H r (.lst [])):=Zi hr0 _
 refine⟨_,rfl,a,ss.map V.str,rfl,s1.seq hS,?_⟩
 refine Zge (K:=K) (a:=a) (xs:=ss.map V.str) (fun i σ H2=>(∃v1 v2:Option V,σ=[some (.ref a),some (.ref r),v1,v2])∧H2 r=some (.lst ((List.range i).map fun j=>.int (ZcQ ss j)))∧Zu H H2∧i≤ss.length) ⟨⟨none,none,rfl⟩,Zb,s1,Qv _⟩ (fun _ _ _ hq=>by obtain⟨_,_,s2,_⟩:=hq;exact s2.seq hS) ?_ ?_
 ·rintro i x σ H2 p hx ⟨⟨v1,v2,rfl⟩,hr2,s2,hi⟩ hp
  rw[Qi]at hx
  cases hy:ss[i]? with
  | none=>rw[hy]at hx;cases hx
  | some y =>
   rw[hy]at hx
   cases hx
   have hil:i<ss.length:=(Qc.mp hy).1
   have npr:r≠p:=Zc hr2 hp
   have s3:Zu H (upd H2 p (.tup [.int i,.str y])):=s2.trans (Zi hp _)
   have hr3:(upd H2 p (.tup [.int i,.str y])) r=some (.lst ((List.range i).map fun j=>.int (ZcQ ss j))):=by rw[Ze npr];exact hr2
   have hlt:((List.range i).map fun j=>V.int (ZcQ ss j)).length<sizeLine:=by rw[Qa,Qaw];exact ZI (by omega)
   have fin:∀z:Int,z=ZcQ ss i→(∃v1 v2:Option V,[some (V.ref a),some (V.ref r),some (V.int i),some (V.str y)]=[some (.ref a),some (.ref r),v1,v2]) ∧
     (upd (upd H2 p (.tup [.int i,.str y])) r (.lst (((List.range i).map fun j=>.int (ZcQ ss j))++[.int z]))) r=some (.lst ((List.range (i+1)).map fun j=>.int (ZcQ ss j))) ∧
     Zu H (upd (upd H2 p (.tup [.int i,.str y])) r (.lst (((List.range i).map fun j=>.int (ZcQ ss j))++[.int z])))∧i+1≤ss.length:=fun z e=>by
    refine⟨⟨_,_,rfl⟩,?_,fun b o h=>?_,hil⟩
    ·rw[Zb,Qag,Qe,e];rfl
    ·rw[Ze (Zc h hr0)];exact s3 b o h
   refine⟨p,_,rfl,SqT.of Zb,rfl,_,_,rfl,_,_,rfl,rfl,?_⟩
   refine⟨_,rfl,.inl ⟨rfl,_,SqL.of hr3⟩,_,rfl,rfl,_,rfl,?_⟩
   by_cases e0:i=0
   ·subst e0
    exact Zej rfl ⟨r,_,_,rfl,rfl,hr3,hlt,fin 0 rfl⟩
   ·have hprev:i-1<ss.length:=by omega
    have ei:((i:Int)-1)=((i-1:Nat):Int):=by omega
    have hat:atI (ss.map V.str) ((i:Int)-1)=some (.str ss[i-1]):=by rw[ei];exact Z3 (by rw[Qi,Qb hprev]<;>rfl)
    refine Zdj (fun z=>by injection z with z;omega) ⟨_,rfl,_,rfl,_,_,rfl,rfl,xw4 a _ _ _ ⟨rfl,rfl,s3.seq hS,hat,_,rfl,ss[i-1],y,rfl,hlen _ (QZ hprev),hlen _ (Qq hy),r,_,_,rfl,rfl,hr3,hlt,fin _ ?_⟩⟩
    unfold ZcQ
    rw[if_neg e0,Ql,Ql,Qb hprev,hy]
    rfl
 ·rintro σ H2 ⟨⟨v1,v2,rfl⟩,hr2,s2,hi⟩
  rw[Qa]at hr2
  exact⟨_,rfl,q r H2 hr0 hr2 s2⟩
def ZF:List Nat→List Nat→Int
 | [],[]=>0
 | [],_::_ =>-1
 | _::_,[]=>1
 | a::r,b::s=>if a=b then ZF r s else if a<b then -1 else 1
theorem ZgX:∀ (x y:List Nat),Spec.ltCps y x=false→ZF x y≤0
 | [],[],_=>by unfold ZF;omega
 | [],_::_,_=>by unfold ZF;omega
 | _::_,[],h=>by unfold Spec.ltCps at h;cases h
 | a::r,b::s,h=>by
  have ih:=ZgX r s
  unfold Spec.ltCps at h
  unfold ZF
  rw[Bool.or_eq_false_iff,Bool.and_eq_false_iff]at h
  obtain⟨h1,h2⟩:=h
  have h1':¬ b<a:=of_decide_eq_false h1
  by_cases e:a=b
  ·rw[if_pos e]
   rcases h2 with z|z
   ·rw[e]at z;simp at z
   ·exact ih z
  ·rw[if_neg e,if_pos (by omega)]
   omega
theorem ZbJ:∀ (x y z:List Nat),ZF x y≤0→ZF y z≤0→ZF x z≤0
 | [],_,[],_,_=>by unfold ZF;omega
 | [],_,_::_,_,_=>by unfold ZF;omega
 | _::_,[],_,h,_=>by unfold ZF at h;omega
 | _::_,_::_,[],_,h=>by unfold ZF at h;omega
 | a::r,b::s,c::t,h1,h2=>by
  unfold ZF at h1 h2 ⊢
  have ih:=ZbJ r s t
  by_cases e1:a=b
  ·rw[if_pos e1]at h1
   by_cases e2:b=c
   ·rw[if_pos e2]at h2
    rw[if_pos (e1.trans e2)]
    exact ih h1 h2
   ·rw[if_neg e2]at h2
    rw[if_neg (fun e=>e2 (e1.symm.trans e))]
    split at h2
    ·rw[if_pos (by omega)];omega
    ·omega
  ·rw[if_neg e1]at h1
   split at h1
   ·by_cases e2:b=c
    ·rw[if_neg (fun e=>e1 (e.trans e2.symm)),if_pos (by omega)];omega
    ·rw[if_neg e2]at h2
     split at h2
     ·rw[if_neg (by omega),if_pos (by omega)];omega
     ·omega
   ·omega
theorem Zhn:∀ (ss:List Str) (p:Str),risingS p ss=true→∀ (k:Nat) (x y:Str),(p::ss)[k]? = some x→ss[k]? = some y→ZF (cds x) (cds y)≤0
 | [],p,_,k,x,y,_,h=>by simp at h
 | z::r,p,h,0,x,y,h1,h2=>by
  unfold risingS at h
  rw[Qaz]at h
  simp at h1 h2
  subst h1 h2
  exact ZgX _ _ (by simpa using h.1)
 | z::r,p,h,k+1,x,y,h1,h2=>by
  unfold risingS at h
  rw[Qaz]at h
  exact Zhn r z h.2 k x y (by simpa using h1) (by simpa using h2)
theorem Zho{ss:List Str}(h:sortedS ss=true)(k:Nat)(x y:Str)(h1:ss[k]? = some x)(h2:ss[k+1]? = some y):ZF (cds x) (cds y)≤0:=by
 cases ss with
 | nil=>simp at h1
 | cons p r=>exact Zhn r p h k x y h1 (by simpa using h2)
theorem ZhT{ss:List Str}{k:Nat}(h:k<ss.length):atI (ss.map V.str) (k:Int)=some (.str ss[k]):=Z3 (by rw[Qi,Qb h]<;>rfl)
theorem ZmL(xs:List V)(i j:Nat)(h:i≤xs.length)(h2:j≤xs.length):Zc8 xs (some i) (some j)=(xs.drop i).take (j-i):=by
 have e:∀ (k d:Nat),k≤xs.length→HT.sIx xs.length d (some (k:Int))=k:=fun k d hk=>by
  unfold HT.sIx
  simp only[]
  rw[if_neg (by omega)]
  omega
 unfold Zc8
 rw[e i _ h,e j _ h2]
def lawInv(H:Hp)(a p:Addr)(j:Nat)(σ:L2.St)(H4:Hp):Prop:=∃ (u1 u3 u4 u5 u6 u7 u8 u9:Option V) (c:Int),σ=[some (.ref a),u1,some (.ref p),u3,u4,u5,u6,u7,u8,u9]∧Zu H H4∧ZaE H4 p c∧c≤700*j
theorem ZaE.same{H H':Hp}{p:Addr}{c:Int}(h:ZaE H p c)(s:Zu H H'):ZaE H' p c:=by obtain⟨b1,b2,hb,c0⟩:=h;exact⟨b1,b2,s _ _ hb,c0⟩
def mid(ns:List Int):Nat:=(ns.length+1) / 2
def Zd6(ns:List Int):List Int:=ns.take (mid ns)
def Zgz(ns:List Int):List Int:=ns.drop (mid ns)
theorem Zo1(ns:List Int):((((ns.map V.int).length:Nat):Int)+1) / 2=((mid ns:Nat):Int):=by
 rw[Qa];unfold mid;omega
theorem Zkh{ns:List Int}{k:Int}(h0:0≤k)(h:k<(ns.length:Int)):∃v∈ns,atI (ns.map V.int) k=some (.int v):=by
 have hk:k.toNat<ns.length:=by omega
 have ek:k=((k.toNat:Nat):Int):=by omega
 have q:atI (ns.map V.int) ((k.toNat:Nat):Int)=some (.int ns[k.toNat]):=Z3 (by rw[Qi,Qb hk]<;>rfl)
 rw[← ek]at q
 exact⟨_,QZ hk,q⟩
theorem Zqp(ns:List Int)(m:Nat)(h:m≤ns.length):Zc8 (ns.map V.int) none (some (m:Int))=(ns.take m).map V.int:=by
 unfold Zc8
 have e:HT.sIx (ns.map V.int).length (ns.map V.int).length (some (m:Int))=m:=by
  unfold HT.sIx
  simp only[List.length_map]
  rw[if_neg (by omega)]
  omega
 have e0:HT.sIx (ns.map V.int).length 0 none=0:=rfl
 rw[e,e0,List.drop_zero,Nat.sub_zero,QaG]
theorem Znw(ns:List Int)(m:Nat)(h:m≤ns.length):Zc8 (ns.map V.int) (some (m:Int)) none=(ns.drop m).map V.int:=by
 unfold Zc8
 have e:HT.sIx (ns.map V.int).length 0 (some (m:Int))=m:=by
  unfold HT.sIx
  simp only[List.length_map]
  rw[if_neg (by omega)]
  omega
 have e0:HT.sIx (ns.map V.int).length (ns.map V.int).length none=(ns.map V.int).length:=rfl
 rw[e,e0,List.map_drop,Qx (by rw[QV,Qa];omega)]
theorem Zkl(z:Str):(cds z).length=z.length:=by simp[Str.length]
theorem Zkb:∀ (x y:List Nat),(lcp x y=x.length→lcp x y=y.length→ZF x y=0)∧(lcp x y=x.length→lcp x y≠y.length→ZF x y = -1)∧(lcp x y≠x.length→lcp x y=y.length→ZF x y=1) ∧
  ∀a b,x[lcp x y]? = some a→y[lcp x y]? = some b→ZF x y=if a<b then -1 else 1
 | [],[]=>⟨fun _ _=>rfl,fun _ h=>absurd rfl h,fun h _=>absurd rfl h,fun a b h _=>by simp at h⟩
 | [],_::_=>⟨fun _ h=>by unfold lcp at h;simp at h,fun _ _=>rfl,fun h _=>absurd rfl h,fun a b h _=>by simp at h⟩
 | _::_,[]=>⟨fun h _=>by unfold lcp at h;simp at h,fun h _=>by unfold lcp at h;simp at h,fun _ _=>rfl,fun a b _ h=>by simp at h⟩
 | a::r,b::s=>by
  obtain⟨h1,h2,h3,h4⟩:=Zkb r s
  unfold lcp ZF
  by_cases e:a=b
  ·rw[if_pos e,if_pos e]
   simp only[List.length_cons,List.getElem?_cons_succ]
   exact⟨fun p q=>h1 (by omega) (by omega),fun p q=>h2 (by omega) (by omega),fun p q=>h3 (by omega) (by omega),h4⟩
  ·rw[if_neg e,if_neg e]
   simp only[List.length_cons,List.getElem?_cons_zero]
   refine⟨fun p=>by omega,fun p=>by omega,fun _ p=>by omega,fun c d p q=>?_⟩
   cases p;cases q
   rfl
theorem Zax:∀ (x y:List Nat),ZF y x =-ZF x y
 | [],[]=>rfl
 | [],_::_=>rfl
 | _::_,[]=>rfl
 | a::r,b::s=>by
  have ih:=Zax r s
  unfold ZF
  by_cases e:a=b
  ·rw[if_pos e,if_pos e.symm,ih]
  ·rw[if_neg e,if_neg fun z=>e z.symm]
   by_cases l:a<b
   ·rw[if_pos l,if_neg (by omega)];rfl
   ·rw[if_neg l,if_pos (by omega)]
theorem Zp8(a b:Nat):decide ((⟨#[a]⟩:Str).cps.toList<(⟨#[b]⟩:Str).cps.toList)=decide (a<b):=by
 have e:([a]:List Nat)<[b]↔a<b:=by
  constructor
  ·intro h
   cases h with
   | rel h=>exact h
   | cons h=>cases h
  ·exact fun h=>List.Lex.rel h
 exact decide_eq_decide.mpr e
theorem ZcO:∀x:List Nat,ZF x x=0
 | []=>rfl
 | a::r=>by unfold ZF;rw[if_pos rfl];exact ZcO r
theorem ZcI:∀ (x y:List Nat),ZF x y=0→x=y
 | [],[],_=>rfl
 | [],_::_,h=>by unfold ZF at h;omega
 | _::_,[],h=>by unfold ZF at h;omega
 | a::r,b::s,h=>by
  unfold ZF at h
  by_cases e:a=b
  ·rw[if_pos e]at h
   rw[e,ZcI r s h]
  ·rw[if_neg e]at h
   split at h<;>omega
def Zep:Sp:=fun vs H Q _=>∃x y:Str,vs=[.str x,.str y]∧x.length≤1000∧y.length≤1000∧Q (.int (ZF (cds x) (cds y))) H
def Zft:Sp:=fun vs H Q _=>∃x y:Str,vs=[.str x,.str y,.int (lcp (cds x) (cds y):Nat)]∧x.length≤1000∧y.length≤1000∧Q (.int (ZF (cds x) (cds y))) H
theorem ZmF(T:Zaf K mg cRow cMerge):Df P w K mg base 1 "order_at" ["one", "other", "at"] Zft:=by
 refine T.t_order_at.df ZiM (fun vs H Q E h=>?_) (fun cdv f A outer s H vs Q E hr h=>?_)
 ·obtain⟨x,y,rfl,_⟩:=h
  rfl
 obtain⟨x,y,rfl,hx,hy,q⟩:=h
 refine⟨_,#[Zf,#[ZZ,(@PW.pt _ _ _ #[ZdD,#[Zo,Za4,‹2›,#[Zk,Zbc,(by rfl),T.b.n_len,Qs,#[Za,‹0›,#[Zd]]],(Zt _)],(@Zc9 _ _ _ _ #[Zo,Za4,‹2›,#[Zk,Zbc,(by rfl),T.b.n_len,Qs,#[Za,‹1›,#[Zd]]],(Zt _)])]),#[Zj,#[Zn,#[Zh]]],#[ZB]],#[Zf,#[ZZ,#[Zo,Za4,‹2›,#[Zk,Zbc,(by rfl),T.b.n_len,Qs,#[Za,‹0›,#[Zd]]],(Zt _)],#[Zj,#[Zn,(@ZgR _ _ _ _ _ _ Ze0 #[Zh])]],#[ZB]],#[Zf,#[ZZ,#[Zo,Za4,‹2›,#[Zk,Zbc,(by rfl),T.b.n_len,Qs,#[Za,‹1›,#[Zd]]],(Zt _)],#[Zj,#[Zn,#[Zh]]],#[ZB]],#[Zj,#[Zn,#[Za9,#[Zo,ZlE,#[Zx,Zgh,‹0›,‹2›],#[Zx,Zgh,‹1›,‹2›],(Zt _)],(@ZgR _ _ _ _ _ _ Ze0 #[Zh]),#[Zh]]]]]]],?_⟩
 obtain⟨o1,o2,o3,o4⟩:=Zkb (cds x) (cds y)
 have ll:=ZfM (cds x) (cds y)
 have lx:=Zkl x
 have ly:=Zkl y
 have inj:∀ {m n:Nat},V.int (m:Int)=V.int (n:Int)→m=n:=fun {m n} e=>by injection e with e;omega
 refine⟨_,rfl,_,rfl,x,rfl,ZcS hx,rfl,_,rfl,ZaV (fun d=>?_) (fun d=>?_)⟩
 ·have d1:=inj (of_decide_eq_true d)
  refine⟨_,rfl,_,rfl,y,rfl,ZcS hy,rfl,_,rfl,ZaV (fun d2=>?_) (fun d2=>?_)⟩
  ·have d2':=inj (of_decide_eq_true d2)
   rw[o1 (by omega) (by omega)]at q
   exact q
  ·have d2':¬ lcp (cds x) (cds y)=y.length:=fun e=>d2 (by rw[e];exact decide_eq_true rfl)
   refine⟨_,rfl,_,rfl,x,rfl,ZcS hx,rfl,_,rfl,Zej (by rw[d1]) ?_⟩
   rw[o2 (by omega) (by omega)]at q
   exact⟨_,rfl,q⟩
 ·have d1:¬ lcp (cds x) (cds y)=x.length:=fun e=>d (by rw[e];exact decide_eq_true rfl)
  refine ZbF ⟨_,rfl,_,rfl,x,rfl,ZcS hx,rfl,_,rfl,Zdj (fun e=>d1 (inj e)) ?_⟩
  refine⟨_,rfl,_,rfl,y,rfl,ZcS hy,rfl,_,rfl,ZaV (fun d2=>?_) (fun d2=>?_)⟩
  ·have d2':=inj (of_decide_eq_true d2)
   rw[o3 (by omega) (by omega)]at q
   exact q
  ·have d2':¬ lcp (cds x) (cds y)=y.length:=fun e=>d2 (by rw[e];exact decide_eq_true rfl)
   obtain⟨a,ha,ha'⟩:=ZeI (z:=x) (k:=(lcp (cds x) (cds y):Nat)) (by omega) (by omega)
   obtain⟨b,hb,hb'⟩:=ZeI (z:=y) (k:=(lcp (cds x) (cds y):Nat)) (by omega) (by omega)
   rw[Qad]at ha hb
   refine⟨_,rfl,_,rfl,x,_,a,rfl,rfl,ZcS hx,ha',_,rfl,_,rfl,y,_,b,rfl,rfl,ZcS hy,hb',_,_,rfl,rfl,_,rfl,?_⟩
   rw[Zp8]
   rw[o4 a b ha hb]at q
   refine ZaV (fun e=>?_) (fun e=>?_)
   ·rw[if_pos (of_decide_eq_true e)]at q
    exact⟨_,rfl,q⟩
   ·rw[if_neg (fun z=>e (decide_eq_true z))]at q
    exact q
theorem Zme(T:Zaf K mg cRow cMerge)(f_alike:Df P w K mg base 2 "alike" ["one", "other"] Zfr)(f_order_at:Df P w K mg base 1 "order_at" ["one", "other", "at"] Zft):Df P w K mg base 3 "liken" ["one", "other"] Zep:=by
 refine T.t_liken.df ZnN (fun vs H Q E h=>?_) (fun cdv f A outer s H vs Q E hr h=>?_)
 ·obtain⟨x,y,rfl,_⟩:=h
  rfl
 obtain⟨x,y,rfl,hx,hy,q⟩:=h
 refine⟨_,#[Zj,#[Zn,#[ZA,f_order_at,hr,#[Za,‹0›,#[Za,‹1›,#[Za,#[ZA,f_alike,hr,#[Za,‹0›,#[Za,‹1›,#[Zd]]],(by rfl)],#[Zd]]]],(by rfl)]]],?_⟩
 exact⟨_,rfl,_,rfl,_,rfl,_,rfl,x,y,rfl,hx,hy,x,y,rfl,hx,hy,q⟩
theorem Zfz{p:Addr}{H H1:Hp}{l:Addr}(B:But p H H1)(n:p≠l)(h:H1 l=none):H l=none:=by
 cases w':H l with
 | none=>rfl
 | some u=>rw[B l u w' n.symm]at h;cases h
theorem ZnD{c A B:Prop}[Decidable c](hc:¬ c)(h:A):if (!decide c)=true then A else B:=by
 rw[if_pos (by rw[decide_eq_false hc];rfl)]
 exact h
def ZdN:Sp:=fun vs H Q _=>∃ (x y:Str) (far:Nat),vs=[.str x,.str y,.int far]∧x.length≤1000∧y.length≤1000∧far≤lcp (cds x) (cds y) ∧
 ∀t,H t=none→Q (.ref t) (upd H t (.tup [.int (ZF (cds x) (cds y)),.int (lcp (cds x) (cds y):Nat),.int ((lcp (cds x) (cds y):Nat)-(far:Int)+1)]))
theorem Zgw(T:Zaf K mg cRow cMerge)(f_alike_from:Df P w K mg base 1 "alike_from" ["one", "other", "far"] Zcu)(f_order_at:Df P w K mg base 1 "order_at" ["one", "other", "at"] Zft):Df P w K mg base 2 "liken_from" ["one", "other", "far"] ZdN:=by
 refine T.t_liken_from.df Zd8 (fun vs H Q E h=>?_) (fun cdv f A outer s H vs Q E hr h=>?_)
 ·obtain⟨x,y,far,rfl,_⟩:=h
  rfl
 obtain⟨x,y,far,rfl,hx,hy,hf,q⟩:=h
 refine⟨_,#[Zf,#[Zz,3,Zd8.nd,(Or.inl rfl),#[ZA,f_alike_from,hr,#[Za,‹0›,#[Za,‹1›,#[Za,‹2›,#[Zd]]]],(by rfl)]],#[Zj,#[Zn,#[ZN,#[Za,#[ZA,f_order_at,hr,#[Za,‹0›,#[Za,‹1›,#[Za,‹3›,#[Zd]]]],(by rfl)],#[Za,‹3›,#[Za,#[ZG,Zaq,#[ZG,Zb0,‹3›,‹2›],#[Zh]],#[Zd]]]]]]]],?_⟩
 refine⟨_,rfl,_,rfl,_,rfl,x,y,far,rfl,hx,hy,hf,?_⟩
 refine⟨_,rfl,_,rfl,_,rfl,x,y,rfl,hx,hy,?_⟩
 refine⟨_,rfl,_,rfl,_,rfl,_,_,rfl,rfl,_,_,rfl,rfl,(by show 3≤sizeLine;decide),fun t ht=>?_⟩
 exact q t ht
def Zi2(ss:List Str)(v:V):Prop :=
 (v=.non∧∀i x y,ss[i+1]? = some x→ss[i]? = some y→0≤ZF (cds x) (cds y)) ∨
 ∃k:Nat,v=.int ((k+1:Nat):Int)∧k+1<ss.length∧(∀x y,ss[k+1]? = some x→ss[k]? = some y→ZF (cds x) (cds y)<0)∧∀i,i<k→∀x y,ss[i+1]? = some x→ss[i]? = some y→0≤ZF (cds x) (cds y)
theorem Zop{ss:List Str}{v v':V}(h:Zi2 ss v)(h':Zi2 ss v'):v=v':=by
 rcases h with⟨rfl,a⟩|⟨k,rfl,l,b,c⟩
 ·rcases h' with⟨rfl,_⟩|⟨k',rfl,l',b',_⟩
  ·rfl
  ·have:=a k' _ _ (Qb l') (Qb (by omega))
   have:=b' _ _ (Qb l') (Qb (by omega))
   omega
 ·rcases h' with⟨rfl,a⟩|⟨k',rfl,l',b',c'⟩
  ·have:=a k _ _ (Qb l) (Qb (by omega))
   have:=b _ _ (Qb l) (Qb (by omega))
   omega
  ·have e:k=k':=by
    rcases Nat.lt_trichotomy k k' with h|h|h
    ·have:=c' k h _ _ (Qb l) (Qb (by omega))
     have:=b _ _ (Qb l) (Qb (by omega))
     omega
    ·exact h
    ·have:=c k' h _ _ (Qb l') (Qb (by omega))
     have:=b' _ _ (Qb l') (Qb (by omega))
     omega
   rw[e]
def ZnY(K:PySem.W.Frag):Sp:=fun vs H Q _=>∃ (a:Addr) (ss:List Str),vs=[.ref a]∧SqL K H a (ss.map V.str)∧ss.length≤200∧(∀s∈ss,s.length≤1000)∧∀ (v:V) (H':Hp),Zi2 ss v→Zu H H'→Q v H'
theorem Znb(T:Zaf K mg cRow cMerge)(f_liken:Df P w K mg base 3 "liken" ["one", "other"] Zep):Df P w K mg base 4 "first_break" ["keys"] (ZnY K):=by
 refine T.t_first_break.df Zds (fun vs H Q E h=>?_) (fun cdv f A outer s H vs Q E hr h=>?_)
 ·obtain⟨a,ss,rfl,_⟩:=h
  rfl
 obtain⟨a,ss,rfl,hS,hn,hlen,q⟩:=h
 refine⟨_,#[Zf,#[Zbo,PassesOwn.never,#[ZcL,T.b.n_range,#[Za,#[Zh],#[Za,#[Zk,(Zbf K),(by rfl),T.b.n_len,Qs,#[Za,‹0›,#[Zd]]],#[Zd]]]],#[Zw,1,Zds.nd],#[Zj,#[ZZ,#[Zo,Zcw,#[ZA,f_liken,hr,#[Za,#[Zx,(ixL K),‹0›,‹1›],#[Za,#[Zx,(ixL K),‹0›,#[ZG,Zb0,‹1›,#[Zh]]],#[Zd]]],(by rfl)],#[Zh],(Zt _)],#[Zj,#[Zn,‹1›]],#[ZB]]]],#[Zj,#[Zn,#[Zar]]]],?_⟩
 have hl:(((ss.map V.str).length:Nat):Int)=(ss.length:Int):=by rw[Qa]
 refine⟨_,rfl,a,_,rfl,.inl hS,_,_,rfl,⟨by omega,by omega,by omega,by omega⟩,?_⟩
 refine Zbt (fun i σ H2=>(∃v:Option V,σ=[some (.ref a),v])∧Zu H H2∧∀j,j<i→∀x y,ss[j+1]? = some x→ss[j]? = some y→0≤ZF (cds x) (cds y)) ⟨⟨none,rfl⟩,Zu.refl H,fun j h=>by omega⟩ ?_ ?_
 ·rintro i σ H2 hi ⟨⟨v,rfl⟩,s2,h2⟩
  have hi1:i+1<ss.length:=by omega
  have e1:(1+(i:Int))=((i+1:Nat):Int):=by omega
  have e0:(1+(i:Int)-1)=((i:Nat):Int):=by omega
  refine⟨_,rfl,_,rfl,xw4 a _ _ _ ⟨rfl,rfl,s2.seq hS,(by rw[e1];exact ZhT hi1),_,rfl,_,rfl,_,_,rfl,rfl,xw4 a _ _ _ ⟨rfl,rfl,s2.seq hS,(by rw[e0];exact ZhT (by omega)),ss[i+1],ss[i],rfl,hlen _ (QZ hi1),hlen _ (QZ (by omega)),_,_,rfl,rfl,_,rfl,?_⟩⟩⟩
  refine ZaV (fun d=>?_) (fun d=>?_)
  ·have d':ZF (cds ss[i+1]) (cds ss[i])<0:=of_decide_eq_true d
   refine⟨_,rfl,q _ H2 (.inr ⟨i,by rw[e1],hi1,fun x y h1 h0=>?_,h2⟩) s2⟩
   rw[Qb hi1]at h1
   rw[Qb (by omega)]at h0
   cases h1;cases h0
   omega
  ·have d':¬ ZF (cds ss[i+1]) (cds ss[i])<0:=fun z=>d (decide_eq_true z)
   refine⟨⟨_,rfl⟩,s2,fun j hj x y h1 h0=>?_⟩
   by_cases ej:j=i
   ·subst ej
    rw[Qb hi1]at h1
    rw[Qb (by omega)]at h0
    cases h1;cases h0
    omega
   ·exact h2 j (by omega) x y h1 h0
 ·rintro σ H2 ⟨⟨v,rfl⟩,s2,h2⟩
  refine q _ H2 (.inl ⟨rfl,fun j x y h1 h0=>?_⟩) s2
  have:=(Qc.mp h1).1
  exact h2 j (by omega) x y h1 h0
def ZeJ(K:PySem.W.Frag)(tup:Bool):Sp:=fun vs H Q _=>∃ (a:Addr) (ns:List Int),vs=[.ref a]∧SqL K H a (ns.map V.int)∧ns.length≤100 ∧
 ∀ (t f r:Addr) (H':Hp),H t=none→H f=none→H r=none→f≠r→H' t=some (if tup=true then .tup [.ref f,.ref r] else .lst [.ref f,.ref r])→H' f=some (.lst ((Zd6 ns).map V.int))→H' r=some (.lst ((Zgz ns).map V.int))→Zu H H'→t≠f→t≠r→Q (.ref t) H'
theorem Zn7{H:Hp}{f r t:Addr}{A B T:HO}(hf:H f=none)(hr:(upd H f A) r=none)(ht:(upd (upd H f A) r B) t=none) :
  H r=none∧H t=none∧f≠r∧t≠f∧t≠r∧(upd (upd (upd H f A) r B) t T) f=some A∧(upd (upd (upd H f A) r B) t T) r=some B∧Zu H (upd (upd (upd H f A) r B) t T):=by
 have n1:f≠r:=Zc (H:=upd H f A) (o:=A) Zb hr
 have e1:(upd (upd H f A) r B) f=some A:=by rw[Ze n1];exact Zb
 have n2:f≠t:=Zc e1 ht
 have n3:r≠t:=Zc (H:=upd (upd H f A) r B) (o:=B) Zb ht
 have s1:Zu H (upd H f A):=Zi hf _
 have s2:=s1.trans (Zi hr B)
 have s3:=s2.trans (Zi ht T)
 exact⟨s1.free hr,s2.free ht,n1,n2.symm,n3.symm,by rw[Ze n2];exact e1,by rw[Ze n3];exact Zb,s3⟩
theorem ZlT(T:Zaf K mg cRow cMerge):Df P w K mg base 1 "halves" ["numbers"] (ZeJ K true):=by
 refine T.t_halves.df Zhe (fun vs H Q E h=>?_) (fun cdv f A outer s H vs Q E hr h=>?_)
 ·obtain⟨a,ns,rfl,_⟩:=h
  rfl
 obtain⟨a,ns,rfl,hS,hn,q⟩:=h
 refine⟨_,#[Zf,#[Zz,1,Zhe.nd,(Or.inl rfl),#[ZG,Zfx,#[ZG,Zaq,#[Zk,(Zbf K),(by rfl),T.b.n_len,Qs,#[Za,‹0›,#[Zd]]],#[Zh]],#[Zh]]],#[Zj,#[Zn,#[ZN,#[Za,#[Zcq,(slL K),‹0›,(@Zcv _),(@Zb4 _ _ _ ‹1›)],#[Za,#[Zcq,(slL K),‹0›,(@Zb4 _ _ _ ‹1›),(@Zcv _)],#[Zd]]]]]]],?_⟩
 refine⟨_,rfl,a,_,rfl,.inl hS,_,_,rfl,rfl,_,_,rfl,rfl,⟨by decide,by decide⟩,?_⟩
 have hm:mid ns≤ns.length∨ns=[]:=by
  cases ns with
  | nil=>exact .inr rfl
  | cons x r=>left;unfold mid;rw[QD];omega
 have hml:mid ns≤ns.length:=by
  rcases hm with h|h
  ·exact h
  ·subst h;decide
 have em:=Zo1 ns
 simp only[em]
 refine⟨_,rfl,_,rfl,_,rfl,a,_,rfl,hS,fun l hl=>?_⟩
 refine⟨_,rfl,_,rfl,_,rfl,a,_,rfl,(Zi hl _).seq hS,fun r hr0=>⟨(by show 2≤sizeLine;decide),fun t ht=>?_⟩⟩
 rw[Zqp ns _ hml]at hr0 ht ⊢
 rw[Znw ns _ hml]at ht ⊢
 obtain⟨z1,z2,z3,z4,z5,z6,z7,z8⟩:=Zn7 (T:=.tup [.ref l,.ref r]) hl hr0 ht
 exact q t l r _ z2 hl z1 z3 Zb z6 z7 z8 z4 z5
def spMany:Sp:=fun vs H Q _=>∃ (p:Addr) (c:Int),vs=[.ref p]∧ZaE H p c∧c<2 ^ 50∧∀ (v c':Int) (H':Hp),0≤v→v≤12→ZaE H' p c'→c≤c'→c'≤c+3→But p H H'→Q (.int v) H'
theorem ZbX(f:Str)(v:V):∀fs:List (Str×V),(Zr f v fs).length≤fs.length+1
 | []=>Qh _
 | p::r=>by
  unfold Zr
  split
  ·exact Qaq _
  ·exact Nat.succ_le_succ (ZbX f v r)
def ZcG(k f:Addr)(g:Int):List (Str×V):=Zr "gone" (.int g) (Zr "fars" (.ref f) (Zr "all_keys" (.ref k) []))
theorem nGF:¬ (("fars" : Str) = "gone"):=by ac_rfl
theorem nGK:¬ (("all_keys" : Str) = "gone"):=by ac_rfl
theorem nFK:¬ (("all_keys" : Str) = "fars"):=by ac_rfl
theorem Ze7(k f:Addr)(g:Int):(ZcG k f g).lookup ("all_keys" : Str)=some (.ref k):=by
 unfold ZcG
 rw[Zm,if_neg nGK,Zm,if_neg nFK,Zm,if_pos rfl]
theorem ZcT(k f:Addr)(g:Int):(ZcG k f g).lookup ("gone" : Str)=some (.int g):=by
 unfold ZcG
 rw[Zm,if_pos rfl]
theorem Zkn(k f:Addr)(g:Int){m:Str}(h1:¬ m = "gone")(h2:¬ m = "fars")(h3:¬ m = "all_keys"):(ZcG k f g).lookup m=none:=by
 unfold ZcG
 rw[Zm,if_neg h1,Zm,if_neg h2,Zm,if_neg h3]
 rfl
structure Zkk (C:Addr) (H:Hp) (p k f:Addr) (ss:List Str) (g:Nat):Prop where
 ob:∃dx,H p=some (.ins C dx (ZcG k f g))
 ks:H k=some (.lst (ss.map V.str))
 fs:H f=some (.lst ((List.range ss.length).map fun j=>.int (ZcQ ss j)))
def ZmN(C:Addr):Sp:=fun vs H Q _=>∃ (p k f:Addr) (ss:List Str) (g:Nat),vs=[.ref p]∧Zkk C H p k f ss g∧Q (.int ((ss.length:Int)-(g:Int))) H
theorem ZoC(T:Zaf K mg cRow cMerge):Mf P w K mg base 1 cRow "to_go" ["self"] (ZmN cRow):=by
 refine T.t_Row_to_go.mf ZhC (fun vs H Q E h=>?_) (fun cdv f A outer s H vs Q E hr h=>?_)
 ·obtain⟨p,k,f,ss,g,rfl,_⟩:=h
  rfl
 obtain⟨p,k,f,ss,g,rfl,R,q⟩:=h
 refine⟨_,#[Zj,#[Zn,#[ZG,Zb0,#[Zk,(Zbf K),(by rfl),T.b.n_len,Qs,#[Za,#[Zac,‹0›],#[Zd]]],#[Zac,‹0›]]]],?_⟩
 obtain⟨⟨dx,ho⟩,hk,hf⟩:=R
 refine⟨_,rfl,xw5 p cRow dx _ _ ⟨rfl,ho,T.cl_Row,T.na_Row_all_keys,Ze7 _ _ _,k,_,rfl,.inl (SqL.of hk),_,rfl,xw5 p cRow dx _ _ ⟨rfl,ho,T.cl_Row,T.na_Row_gone,ZcT _ _ _,_,_,rfl,rfl,?_⟩⟩⟩
 rw[Qa]
 exact q
def Zeu(ss:List Str)(g:Nat):V:=match ss[g]? with
 | some z=>.str z
 | none=>.non
def ZfC(C:Addr):Sp:=fun vs H Q _=>∃ (p k f:Addr) (ss:List Str) (g:Nat),vs=[.ref p]∧Zkk C H p k f ss g∧Q (Zeu ss g) H
theorem Zok(T:Zaf K mg cRow cMerge)(f_Row_to_go:Mf P w K mg base 1 cRow "to_go" ["self"] (ZmN cRow)):Mf P w K mg base 2 cRow "head" ["self"] (ZfC cRow):=by
 refine T.t_Row_head.mf Ziw (fun vs H Q E h=>?_) (fun cdv f A outer s H vs Q E hr h=>?_)
 ·obtain⟨p,k,f,ss,g,rfl,_⟩:=h
  rfl
 obtain⟨p,k,f,ss,g,rfl,R,q⟩:=h
 refine⟨_,#[Zj,#[Zn,#[Za9,#[Zo,Zfi,#[Zdg,f_Row_to_go,T.cl_Row,hr,‹0›],#[Zh],(Zt _)],#[Zx,(ixL K),#[Zac,‹0›],#[Zac,‹0›]],#[Zar]]]],?_⟩
 obtain⟨⟨dx,ho⟩,hk,hf⟩:=id R
 refine⟨_,rfl,p,dx,_,rfl,ho,Zkn _ _ _ (by ac_rfl) (by ac_rfl) (by ac_rfl),p,k,f,ss,g,rfl,R,_,_,rfl,rfl,_,rfl,?_⟩
 refine ZaV (fun d=>?_) (fun d=>?_)
 ·have d':(0:Int)<(ss.length:Int)-(g:Int):=of_decide_eq_true d
  have hg:g<ss.length:=by omega
  refine⟨_,rfl,xw5 p cRow dx _ _ ⟨rfl,ho,T.cl_Row,T.na_Row_all_keys,Ze7 _ _ _,_,rfl,xw5 p cRow dx _ _ ⟨rfl,ho,T.cl_Row,T.na_Row_gone,ZcT _ _ _,k,_,_,_,rfl,rfl,SqL.of hk,Z3 (by rw[Qi,Qb hg]<;>rfl),?_⟩⟩⟩
  unfold Zeu at q
  rw[Qb hg]at q
  exact q
 ·have d':¬ (0:Int)<(ss.length:Int)-(g:Int):=fun z=>d (decide_eq_true z)
  unfold Zeu at q
  rw[QE (by omega)]at q
  exact q
def Zhp(C:Addr):Sp:=fun vs H Q _=>∃ (p dx a:Addr) (ss:List Str),vs=[.ref p,.ref a]∧H p=some (.ins C dx [])∧H a=some (.lst (ss.map V.str))∧ss.length≤100∧(∀s∈ss,s.length≤1000) ∧
 ∀ (k f:Addr) (H':Hp),H k=none→H f=none→k≠f→Zkk C H' p k f ss 0→(∀b o,H b=some o→b≠p→H' b=some o)→Q .non H'
theorem ZjI(T:Zaf K mg cRow cMerge)(f_alikes:Df P w K mg base 3 "alikes" ["row"] (Zgj K)):Cf P w K mg base 4 cRow "Row" ["self", "keys"] (Zhp cRow):=by
 refine T.t_Row_init.cf Zjd (fun vs H Q E h=>?_) (fun cdv f A outer s H vs Q E hr h=>?_)
 ·obtain⟨p,dx,a,ss,rfl,_⟩:=h
  rfl
 obtain⟨p,dx,a,ss,rfl,hp,ha,hn,hz,q⟩:=h
 refine⟨_,#[Zf,#[Zb1,‹0›,#[ZcP,(ZpL K),T.b.n_list,boot_list,#[Za,‹1›,#[Zd]]]],#[Zf,#[Zb1,‹0›,#[ZA,f_alikes,hr,#[Za,‹1›,#[Zd]],(by rfl)]],#[Zj,#[Zb1,‹0›,#[Zh]]]]],?_⟩
 refine⟨_,rfl,a,_,rfl,.inl (SqL.of ha),fun k hk=>?_⟩
 have npk:p≠k:=Zc hp hk
 have nap:a≠p:=fun e=>by rw[e,hp]at ha;cases ha
 have nak:a≠k:=Zc ha hk
 refine⟨_,rfl,p,cRow,dx,[],rfl,(by rw[Ze npk];exact hp),T.cl_Row,T.na_Row_all_keys,(by show 0<1000;decide),?_⟩
 have ha2:(upd (upd H k (.lst (ss.map V.str))) p (.ins cRow dx (Zr "all_keys" (.ref k) []))) a=some (.lst (ss.map V.str)):=by rw[Ze nap,Ze nak];exact ha
 have hp2:(upd (upd H k (.lst (ss.map V.str))) p (.ins cRow dx (Zr "all_keys" (.ref k) []))) p=some (.ins cRow dx (Zr "all_keys" (.ref k) [])):=Zb
 have hk2:(upd (upd H k (.lst (ss.map V.str))) p (.ins cRow dx (Zr "all_keys" (.ref k) []))) k=some (.lst (ss.map V.str)):=by rw[Ze npk.symm];exact Zb
 have s2:∀b o,H b=some o→b≠p→(upd (upd H k (.lst (ss.map V.str))) p (.ins cRow dx (Zr "all_keys" (.ref k) []))) b=some o:=fun b o h n=>by rw[Ze n,Ze (Zc h hk)];exact h
 refine⟨_,rfl,a,ss,rfl,SqL.of ha2,hn,hz,fun f H3 hf0 hf3 s3=>?_⟩
 have hHf:H f=none:=by
  cases w':H f with
  | none=>rfl
  | some u =>
   by_cases e:f=p
   ·rw[e,hp2]at hf0;cases hf0
   ·rw[s2 f u w' e]at hf0;cases hf0
 have nkf:k≠f:=Zc hk2 hf0
 have npf:p≠f:=Zc hp2 hf0
 refine⟨_,rfl,xw4 p cRow dx _ ⟨rfl,s3 _ _ hp2,T.cl_Row,T.na_Row_fars,(by show 1<1000;decide),?_⟩⟩
 refine⟨_,rfl,xw4 p cRow dx _ ⟨rfl,Zb,T.cl_Row,T.na_Row_gone,?_,?_⟩⟩
 ·have h1:=ZbX "all_keys" (V.ref k) []
  have h2:=ZbX "fars" (V.ref f) (Zr "all_keys" (V.ref k) [])
  have h3:([]:List (Str×V)).length=0:=rfl
  omega
 ·refine q k f _ hk hHf nkf ⟨⟨dx,Zb⟩,?_,?_⟩ fun b o h n=>?_
  ·rw[Ze npk.symm,Ze npk.symm];exact s3 _ _ hk2
  ·rw[Ze npf.symm,Ze npf.symm];exact hf3
  ·rw[Ze n,Ze n];exact s3 _ _ (s2 b o h n)
theorem Za0{K:PySem.W.Frag}{a:Addr}{xs:List V}{k:Nat}{D:Addr}{σ:L2.St}{H1:Hp}{g:TG}{te:TE}{Q:VK}(Pv:Nat→List V→L2.St→Hp→Prop)(h0:Pv 0 [] (σ++List.replicate k none) (upd H1 D (.lst [])))
  (hl:∀i ys σ H,Pv i ys σ H→SqL K H a xs)
  (hs:∀i x ys σ H,xs[i]? = some x→Pv i ys σ H→g x σ H fun σ4 H4=>te σ4 H4 fun y H6=>H6 D=some (.lst ys)∧ys.length<sizeLine∧Pv (i+1) (ys++[y]) σ4 (upd H6 D (.lst (ys++[y]))))
  (hd:∀ys σ H,Pv xs.length ys σ H→Q (.ref D) H):Zf2 (Itl K a) D k σ H1 g Zic te Q:=by
 refine⟨fun i m ys σ H=>m=xs.length-i∧i≤xs.length∧Pv i ys σ H,⟨xs.length,by simp,Qv _,h0⟩,?_⟩
 rintro i m ys σ H ⟨rfl,hi,p⟩
 have q1:=hl i ys σ H p
 by_cases hlt:i<xs.length
 ·refine .inr ⟨⟨xs,xs[i],q1,Qb hlt⟩,Pv (i+1),fun ys' σ' H' p'=>⟨xs.length-(i+1),by omega,rfl,hlt,p'⟩,fun x H' y=>?_⟩
  obtain⟨rfl,e⟩:=y
  simp only[Zic,↓reduceIte]
  exact hs i x ys σ _ (e xs q1) p
 ·have e:i=xs.length:=by omega
  exact .inl ⟨⟨xs,q1,by omega⟩,hd ys σ H (e ▸ p)⟩
theorem ZbI:∀x y:List Nat,x<y↔ZF x y<0
 | [],[]=>by unfold ZF;exact⟨fun h=>absurd h (by simp),fun h=>absurd h (by omega)⟩
 | [],_::_=>by unfold ZF;exact⟨fun _=>by omega,fun _=>List.nil_lt_cons _ _⟩
 | _::_,[]=>by unfold ZF;exact⟨fun h=>absurd h (List.not_lt_nil _),fun h=>absurd h (by omega)⟩
 | a::r,b::s=>by
  have ih:=ZbI r s
  unfold ZF
  rw[List.cons_lt_cons_iff]
  by_cases e:a=b
  ·rw[if_pos e,← ih]
   exact⟨fun h=>h.elim (fun z=>by omega) (fun z=>z.2),fun h=>.inr ⟨e,h⟩⟩
  ·rw[if_neg e]
   by_cases l:a<b
   ·rw[if_pos l];exact⟨fun _=>by omega,fun _=>.inl l⟩
   ·rw[if_neg l];exact⟨fun h=>h.elim (fun z=>absurd z l) (fun z=>absurd z.1 e),fun h=>absurd h (by omega)⟩
theorem Zro{K:PySem.W.Frag}{H:Hp}{a:Addr}{xs:List V}(h:H a=some (.lst xs)):L2.tyV K "list" (.ref a) H:=.inl ⟨rfl,_,SqL.of h⟩
theorem AtT.mono{H H':Hp}{ts:Zcl}(h:AtT H ts)(s:Zu H H'):AtT H' ts:=fun x hx=>s _ _ (h x hx)
theorem ZbD{H:Hp}{D:Addr}{ys:List V}(h:H D=some (.lst ys))(o:HO):∀a xs,H a=some (.tup xs)→(upd H D o) a=some (.tup xs):=fun a xs e=>by
 have nb:a≠D:=by intro z;rw[z,h]at e;cases e
 rw[Ze nb];exact e
abbrev Hd:=Int→Option (List Nat)
def Btr(x:List Nat)(a:Int)(y:List Nat)(b:Int):Prop:=ZF x y<0∨(ZF x y=0∧a<b)
def Win(hd:Hd)(N:List Int):Option Int→Prop
 | none=>∀n∈N,hd n=none
 | some a=>a∈N∧∃x,hd a=some x∧∀b∈N,∀y,hd b=some y→b=a∨Btr x a y b
theorem Btr.asym{x y:List Nat}{a b:Int}(h:Btr x a y b)(g:Btr y b x a):False:=by
 have e:=Zax x y
 rcases h with h|⟨h,h2⟩<;>rcases g with g|⟨g,g2⟩<;>omega
theorem Btr.total{x y:List Nat}{a b:Int}(h:a≠b):Btr x a y b∨Btr y b x a:=by
 have e:=Zax x y
 unfold Btr
 omega
theorem Btr.trans{x y z:List Nat}{a b c:Int}(h:Btr x a y b)(g:Btr y b z c):Btr x a z c:=by
 have t1:=ZbJ x y z
 have t2:=ZbJ z x y
 have t3:=ZbJ y z x
 have e1:=Zax x y
 have e2:=Zax y z
 have e3:=Zax x z
 unfold Btr at *
 omega
theorem Win.one{hd:Hd}{N:List Int}{v w:Option Int}(h:Win hd N v)(g:Win hd N w):v=w:=by
 cases v with
 | none =>
  cases w with
  | none=>rfl
  | some b=>obtain⟨hb,y,hy,_⟩:=g;rw[h b hb]at hy;cases hy
 | some a =>
  obtain⟨ha,x,hx,h2⟩:=h
  cases w with
  | none=>rw[g a ha]at hx;cases hx
  | some b =>
   obtain⟨hb,y,hy,g2⟩:=g
   rcases h2 b hb y hy with e|e
   ·rw[e]
   ·rcases g2 a ha x hx with e'|e'
    ·rw[e']
    ·exact(e.asym e').elim
theorem Win.nil(hd:Hd):Win hd [] none:=fun n h=>by cases h
theorem Win.sing{hd:Hd}{n:Int}:Win hd [n] (if (hd n).isSome then some n else none):=by
 cases h:hd n with
 | none=>intro m hm;rw[Qd.mp hm];exact h
 | some x=>exact⟨by simp,x,h,fun b hb y hy=>.inl (Qd.mp hb)⟩
theorem Win.both{hd:Hd}{A B:List Int}{a b:Int}{x y:List Nat}(ha:Win hd A (some a))(hb:Win hd B (some b))(hx:hd a=some x)(hy:hd b=some y)(h:Btr x a y b):Win hd (A++B) (some a):=by
 obtain⟨a1,x',hx',a2⟩:=ha
 obtain⟨b1,y',hy',b2⟩:=hb
 rw[hx]at hx';cases hx'
 rw[hy]at hy';cases hy'
 refine⟨Qr _ a1,x,hx,fun c hc z hz=>?_⟩
 rcases Qf.mp hc with hc|hc
 ·exact a2 c hc z hz
 ·rcases b2 c hc z hz with e|e
  ·subst e;rw[hy]at hz;cases hz;exact .inr h
  ·exact .inr (h.trans e)
theorem Win.both'{hd:Hd}{A B:List Int}{a b:Int}{x y:List Nat}(ha:Win hd A (some a))(hb:Win hd B (some b))(hx:hd a=some x)(hy:hd b=some y)(h:Btr y b x a):Win hd (A++B) (some b):=by
 have:=Win.both hb ha hy hx h
 obtain⟨h1,z,h2,h3⟩:=this
 exact⟨by rcases Qf.mp h1 with h|h<;>simp[h],z,h2,fun c hc=>h3 c (by rcases Qf.mp hc with h|h<;>simp[h])⟩
theorem Win.left{hd:Hd}{A B:List Int}{w:Option Int}(ha:Win hd A w)(hb:Win hd B none):Win hd (A++B) w:=by
 cases w with
 | none=>intro n hn;rcases Qf.mp hn with h|h;exact ha n h;exact hb n h
 | some a =>
  obtain⟨a1,x,hx,a2⟩:=ha
  refine⟨Qr _ a1,x,hx,fun c hc z hz=>?_⟩
  rcases Qf.mp hc with hc|hc
  ·exact a2 c hc z hz
  ·rw[hb c hc]at hz;cases hz
theorem Win.right{hd:Hd}{A B:List Int}{w:Option Int}(ha:Win hd A none)(hb:Win hd B w):Win hd (A++B) w:=by
 cases w with
 | none=>intro n hn;rcases Qf.mp hn with h|h;exact ha n h;exact hb n h
 | some a =>
  obtain⟨a1,x,hx,a2⟩:=hb
  refine⟨Qn _ a1,x,hx,fun c hc z hz=>?_⟩
  rcases Qf.mp hc with hc|hc
  ·rw[ha c hc]at hz;cases hz
  ·exact a2 c hc z hz
theorem Win.ex(hd:Hd):∀N:List Int,N.Nodup→∃w,Win hd N w
 | [],_=>⟨none,Win.nil hd⟩
 | n::N,hn=>by
  obtain⟨n1,n2⟩:=Q3.mp hn
  obtain⟨w,hw⟩:=Win.ex hd N n2
  have hs:Win hd [n] (if (hd n).isSome then some n else none):=Win.sing
  cases h:hd n with
  | none =>
   rw[h]at hs
   exact⟨w,Win.right (A:=[n]) hs hw⟩
  | some x =>
   rw[h]at hs
   cases w with
   | none=>exact⟨some n,Win.left (A:=[n]) hs hw⟩
   | some b =>
    obtain⟨b1,y,hy,b2⟩:=id hw
    have hne:n≠b:=fun e=>n1 (e ▸ b1)
    rcases Btr.total (x:=x) (y:=y) hne with e|e
    ·exact⟨some n,Win.both (A:=[n]) hs hw h hy e⟩
    ·exact⟨some b,Win.both' (A:=[n]) hs hw h hy e⟩
theorem Win.congr{hd hd':Hd}{N:List Int}(h:∀n∈N,hd' n=hd n){w:Option Int}(hw:Win hd N w):Win hd' N w:=by
 cases w with
 | none=>intro n hn;rw[h n hn];exact hw n hn
 | some a =>
  obtain⟨a1,x,hx,a2⟩:=hw
  exact⟨a1,x,by rw[h a a1];exact hx,fun b hb y hy=>a2 b hb y (by rw[← h b hb];exact hy)⟩
def lo(N:List Int):List Int:=N.take (mid N)
def up(N:List Int):List Int:=N.drop (mid N)
theorem Zcn(N:List Int):lo N++up N=N:=List.take_append_drop _ _
theorem ZdF{N:List Int}(h:2≤N.length):(lo N).length<N.length∧1≤(lo N).length:=by
 unfold lo mid
 rw[Qz]
 omega
theorem Zef{N:List Int}(h:2≤N.length):(up N).length<N.length∧1≤(up N).length:=by
 unfold up mid
 rw[QV]
 omega
def ZO(N:List Int):Int×Int:=(N.headD 0,N.getLastD 0)
abbrev StL:=List ((Int×Int)×Option (Addr×Int×Int))
def stV:Option (Addr×Int×Int)→V
 | none=>.non
 | some t=>.ref t.1
def kvS(s:StL):List (List Key×V):=s.map fun e=>([.inl e.1.1,.inl e.1.2],stV e.2)
def AtS(H:Hp)(s:StL):Prop:=∀e∈s,∀t,e.2=some t→H t.1=some (.tup [.int t.2.1,.int t.2.2])
def ZR(s:StL)(k:Int×Int):Option (Option (Addr×Int×Int)):=(s.find? fun e=>decide (e.1=k)).map (·.2)
def Zc0(s:StL)(k:Int×Int)(v:Option (Addr×Int×Int)):StL:=if s.any (fun e=>decide (e.1=k)) then s.map (fun e=>if e.1=k then (e.1,v) else e) else s++[(k,v)]
theorem AtS.mono{H H':Hp}{s:StL}(h:AtS H s)(k:∀a xs,H a=some (.tup xs)→H' a=some (.tup xs)):AtS H' s:=fun e he t ht=>k _ _ (h e he t ht)
theorem ZjJ{a b:Int×Int}(h:([.inl a.1,.inl a.2]:List Key)=[.inl b.1,.inl b.2]):a=b:=by
 obtain⟨a1,a2⟩:=a
 obtain⟨b1,b2⟩:=b
 injection h with h1 h2
 injection h2 with h2 _
 have e1:=Sum.inl.inj h1
 have e2:=Sum.inl.inj h2
 simp only at e1 e2
 rw[e1,e2]
theorem Zjo(k:Int×Int):∀s:StL,ZbE (kvS s) [.inl k.1,.inl k.2]=(ZR s k).map stV
 | []=>rfl
 | e::s=>by
  have ih:=Zjo k s
  by_cases h:e.1=k
  ·unfold kvS ZR
   rw[Qj,Zdu (by rw[h])]
   simp[List.find?_cons,h]
  ·unfold kvS at ih ⊢
   rw[Qj,ZdJ (fun z=>h (ZjJ z)),ih]
   unfold ZR
   simp[List.find?_cons,h]
theorem Zo3(k:Int×Int)(s:StL):((kvS s).any fun kv=>decide (kv.1=([.inl k.1,.inl k.2]:List Key)))=s.any fun e=>decide (e.1=k):=by
 unfold kvS
 rw[List.any_map]
 congr 1
 funext e
 simp only[Function.comp]
 by_cases h:e.1=k
 ·rw[decide_eq_true h,decide_eq_true (by rw[h])]
 ·rw[decide_eq_false h,decide_eq_false (fun z=>h (ZjJ z))]
theorem Zfw(s:StL)(k:Int×Int)(v:Option (Addr×Int×Int)):Zc3 (kvS s) [.inl k.1,.inl k.2] (stV v)=kvS (Zc0 s k v):=by
 unfold Zc3 Zc0
 rw[Zo3]
 split
 ·unfold kvS
  rw[QA,QA]
  congr 1
  funext e
  simp only[Function.comp]
  by_cases h:e.1=k
  ·rw[if_pos h,if_pos (by rw[h])]
  ·rw[if_neg h,if_neg (fun z=>h (ZjJ z))]
 ·unfold kvS;rw[Qe];rfl
theorem Zmk(s:StL)(k:Int×Int)(v:Option (Addr×Int×Int)):(Zc0 s k v).length≤s.length+1:=by
 unfold Zc0
 split
 ·rw[Qa];omega
 ·rw[Qg];exact Qh _
theorem ZaZ(s:StL)(k j:Int×Int)(v:Option (Addr×Int×Int)):ZR (Zc0 s k v) j=if j=k then some v else ZR s j:=by
 unfold Zc0
 split
 ·rename_i h
  induction s with
  | nil=>simp at h
  | cons e s ih =>
   unfold ZR at ih ⊢
   by_cases hek:e.1=k
   ·by_cases hj:j=k
    ·subst hj;simp[List.find?_cons,hek]
    ·have hj':¬ k=j:=fun z=>hj z.symm
     rw[Qj,if_pos hek,Qas (by simp[hek,hj']),Qas (by simp[hek,hj']),if_neg hj]
     by_cases ha:s.any (fun e=>decide (e.1=k))=true
     ·have:=ih ha;rw[if_neg hj]at this;exact this
     ·have:s.map (fun e=>if e.1=k then (e.1,v) else e)=s:=by
       rw[List.map_eq_iff]
       intro i
       cases hi:s[i]? with
       | none=>rfl
       | some x =>
        have hx:¬ x.1=k:=fun z=>ha (List.any_eq_true.mpr ⟨x,Qq hi,by simpa using z⟩)
        simp[hx]
      rw[this]
   ·have ha:s.any (fun e=>decide (e.1=k))=true:=by simpa [hek] using h
    rw[Qj,if_neg hek]
    by_cases hj:e.1=j
    ·have:¬ j=k:=fun z=>hek (hj.trans z)
     rw[List.find?_cons_of_pos (by simpa using hj),List.find?_cons_of_pos (by simpa using hj),if_neg this]
    ·rw[Qas (by simpa using hj),Qas (by simpa using hj)]
     exact ih ha
 ·rename_i h
  unfold ZR
  rw[List.find?_append]
  by_cases hj:j=k
  ·subst hj
   have:s.find? (fun e=>decide (e.1=j))=none:=by
    rw[List.find?_eq_none]
    intro x hx z
    exact h (List.any_eq_true.mpr ⟨x,hx,z⟩)
   rw[this];simp
  ·have hj':¬ k=j:=fun z=>hj z.symm
   rw[if_neg hj]
   simp[hj']
theorem AtS.put{H:Hp}{s:StL}{k:Int×Int}{v:Option (Addr×Int×Int)}(h:AtS H s)(hv:∀t,v=some t→H t.1=some (.tup [.int t.2.1,.int t.2.2])):AtS H (Zc0 s k v):=by
 unfold Zc0
 split
 ·intro e he t ht
  obtain⟨x,hx,rfl⟩:=Qt.mp he
  split at ht
  ·exact hv t ht
  ·exact h x hx t ht
 ·intro e he t ht
  rcases Qf.mp he with he|he
  ·exact h e he t ht
  ·rw[Qd.mp he]at ht;exact hv t ht
theorem Zg1{s:StL}{k:Int×Int}{v:Option (Addr×Int×Int)}(h:ZR s k=some v):(k,v)∈s:=by
 unfold ZR at h
 obtain⟨e,he,rfl⟩:=QaK.mp h
 have h1:=List.find?_some he
 have:e.1=k:=by simpa using h1
 rw[← this];exact List.mem_of_find?_eq_some he
def Zs6(hd:Hd)(s:StL)(N:List Int):Prop :=
 (∀a b x y,Win hd (lo N) (some a)→Win hd (up N) (some b)→hd a=some x→hd b=some y→∃t,ZR s (ZO N)=some (some (t,if ZF x y<0∨(ZF x y=0∧a<b) then b else a,((lcp x y:Nat):Int)))) ∧
 ((Win hd (lo N) none∨Win hd (up N) none)→ZR s (ZO N)=none∨ZR s (ZO N)=some none)
def ZeP(hd:Hd)(s:StL):Nat→List Int→Prop
 | 0,_=>True
 | n+1,N=>2≤N.length→ZeP hd s n (lo N)∧ZeP hd s n (up N)∧Zs6 hd s N
def ZeB:Nat→List Int→Int×Int→Prop
 | 0,_,_=>False
 | n+1,N,k=>2≤N.length∧(ZeB n (lo N) k∨ZeB n (up N) k∨k=ZO N)
abbrev Zai(N:List Int):Prop:=N.Pairwise (·<·)
theorem ZdZ{N:List Int}(h:Zai N):Zai (lo N):=h.sublist (List.take_sublist _ _)
theorem ZdT{N:List Int}(h:Zai N):Zai (up N):=h.sublist (List.drop_sublist _ _)
theorem Zd3{N:List Int}(h:Zai N):N.Nodup:=h.imp fun {a b} hab e=>by omega
theorem ZJ{N:List Int}(h:Zai N){a b:Int}(ha:a∈lo N)(hb:b∈up N):a<b:=by
 have:Zai (lo N++up N):=by rw[Zcn];exact h
 exact(List.pairwise_append.mp this).2.2 a ha b hb
theorem Zcc{N:List Int}(h:N≠[]):N.headD 0∈N:=by
 cases N with
 | nil=>exact absurd rfl h
 | cons a r=>simp
theorem Zce{N:List Int}(h:N≠[]):N.getLastD 0∈N:=by
 rw[Qak,QaH h]
 exact List.getLast_mem h
theorem Z8{N:List Int}(h:1≤N.length):N≠[]:=fun z=>by rw[z]at h;simp at h
theorem Ze3{N:List Int}(h:2≤N.length):(ZO N).2=(up N).getLastD 0:=by
 have hu:=Z8 (Zef h).2
 show N.getLastD 0=_
 rw[Qak,Qak]
 conv=>lhs;rw[← Zcn N]
 rw[List.getLast?_append,QaH hu];rfl
theorem Ze9{N:List Int}(h:2≤N.length):(ZO N).1=(lo N).headD 0:=by
 have hl:=Z8 (ZdF h).2
 show N.headD 0=_
 conv=>lhs;rw[← Zcn N]
 cases hc:lo N with
 | nil=>exact absurd hc hl
 | cons a r=>rfl
theorem ZdV:∀ (n:Nat) (N:List Int) (k:Int×Int),ZeB n N k→k.1∈N∧k.2∈N
 | 0,_,_,h=>h.elim
 | n+1,N,k,⟨h2,h⟩=>by
  rcases h with h|h|rfl
  ·have:=ZdV n _ k h
   rw[← Zcn N]
   exact⟨Qr _ this.1,Qr _ this.2⟩
  ·have:=ZdV n _ k h
   rw[← Zcn N]
   exact⟨Qn _ this.1,Qn _ this.2⟩
  ·have hn:N≠[]:=Z8 (by omega)
   exact⟨Zcc hn,Zce hn⟩
theorem ZhF{N:List Int}(hr:Zai N)(h2:2≤N.length){n:Nat}{k:Int×Int}(h:ZeB n (lo N) k):k≠ZO N∧∀m,¬ ZeB m (up N) k:=by
 have:=ZdV n _ k h
 refine⟨fun z=>?_,fun m hm=>?_⟩
 ·have h1:=Ze3 h2
  rw[z,h1]at this
  have:=ZJ hr this.2 (Zce (Z8 (Zef h2).2))
  omega
 ·have:=ZJ hr this.1 (ZdV m _ k hm).1
  omega
theorem Zid{N:List Int}(hr:Zai N)(h2:2≤N.length){n:Nat}{k:Int×Int}(h:ZeB n (up N) k):k≠ZO N∧∀m,¬ ZeB m (lo N) k:=by
 have:=ZdV n _ k h
 refine⟨fun z=>?_,fun m hm=>?_⟩
 ·have h1:=Ze9 h2
  rw[z,h1]at this
  have:=ZJ hr (Zcc (Z8 (ZdF h2).2)) this.1
  omega
 ·have:=ZJ hr (ZdV m _ k hm).1 this.1
  omega
theorem ZeP.congr{hd hd':Hd}{s s':StL}:∀ (n:Nat) (N:List Int),(∀m∈N,hd' m=hd m)→(∀k,ZeB n N k→ZR s' k=ZR s k)→ZeP hd s n N→ZeP hd' s' n N
 | 0,_,_,_,_=>True.intro
 | n+1,N,hh,hk,h=>fun h2=>by
  obtain⟨a,b,c1,c2⟩:=h h2
  have hl:∀m∈lo N,hd' m=hd m:=fun m hm=>hh m (by rw[← Zcn N];exact Qr _ hm)
  have hu:∀m∈up N,hd' m=hd m:=fun m hm=>hh m (by rw[← Zcn N];exact Qn _ hm)
  have hl':∀m∈lo N,hd m=hd' m:=fun m hm=>(hl m hm).symm
  have hu':∀m∈up N,hd m=hd' m:=fun m hm=>(hu m hm).symm
  refine⟨ZeP.congr n _ hl (fun k hkk=>hk k ⟨h2,.inl hkk⟩) a,ZeP.congr n _ hu (fun k hkk=>hk k ⟨h2,.inr (.inl hkk)⟩) b,fun a b x y ha hb hx hy=>?_,fun hw=>?_⟩
  ·rw[hk _ ⟨h2,.inr (.inr rfl)⟩]
   exact c1 a b x y (Win.congr hl' ha) (Win.congr hu' hb) (by rw[← hl a ha.1];exact hx) (by rw[← hu b hb.1];exact hy)
  ·rw[hk _ ⟨h2,.inr (.inr rfl)⟩]
   refine c2 ?_
   rcases hw with hw|hw
   ·exact .inl (Win.congr hl' hw)
   ·exact .inr (Win.congr hu' hw)
inductive Zee (hd:Hd):Nat→List Int→Int→Int→Prop
 | few {n:Nat} {N:List Int}:N.length<2→Zee hd n N 0 0
 | none {n:Nat} {N:List Int} {k l k' l':Int}:2≤N.length→Zee hd n (lo N) k l→Zee hd n (up N) k' l'→(Win hd (lo N) none∨Win hd (up N) none)→Zee hd (n+1) N (k+k') (l+l')
 | both {n:Nat} {N:List Int} {k l k' l':Int} {a b:Int} {x y:List Nat}:2≤N.length→Zee hd n (lo N) k l→Zee hd n (up N) k' l'→Win hd (lo N) (some a)→Win hd (up N) (some b)→hd a=some x→hd b=some y→Zee hd (n+1) N (k+k'+1) (l+l'+(lcp x y:Nat)+1)
def kk(e:Str×Int):List Key:=[.inr e.1,.inl e.2]
def oV:Option Str→V
 | none=>.non
 | some s=>.str s
def Zel:Option Int→V
 | none=>.non
 | some a=>.int a
def kvH(E:List (Int×Option Str)):List (Key×V):=E.map fun e=>(.inl e.1,oV e.2)
def lk(E:List (Int×Option Str))(n:Int):Option Str:=(E.find? fun e=>decide (e.1=n)).bind (·.2)
def hdE(E:List (Int×Option Str)):Hd:=fun n=>(lk E n).map cds
def prs(E:List (Int×Option Str))(N:List Int):List (Str×Int):=N.filterMap fun n=>(lk E n).map fun s=>(s,n)
def ZsT:Key→PyData
 | .inl i=>.int i
 | .inr s=>.str s
def tD(k:List Key):PyData:=.tuple (k.map ZsT)
structure Hds (H:Hp) (D:Addr) (E:List (Int×Option Str)):Prop where
 at':H D=some (.dK (kvH E))
 nd:(E.map (·.1)).Nodup
 ok:∀e∈E,∀s,e.2=some s→s.length≤1000∧AZ s
def spLeast(K:PySem.W.Frag):Sp:=fun vs H Q _=>∃ (D l:Addr) (E:List (Int×Option Str)) (N:List Int),vs=[.ref D,.ref l]∧Hds H D E∧SqL K H l (N.map V.int)∧N.length≤60∧(∀n∈N,n∈E.map (·.1)) ∧
 ∀ (v:Option Int) (H':Hp),Win (hdE E) N v→Zu H H'→Q (Zel v) H'
theorem Zqy(N:List Int):Zd6 N=lo N:=rfl
theorem Zri(N:List Int):Zgz N=up N:=rfl
def spFP(K:PySem.W.Frag)(n:Nat):Sp:=fun vs H Q _=>∃ (D l:Addr) (E:List (Int×Option Str)) (N:List Int),vs=[.ref D,.ref l]∧Hds H D E∧SqL K H l (N.map V.int)∧N.length≤60∧0<n∧N.length≤2 ^ (n-1)∧(∀m∈N,m∈E.map (·.1)) ∧
 ∀ (t:Addr) (k q:Int) (H':Hp),Zee (hdE E) n N k q→H t=none→H' t=some (.tup [.int k,.int q])→Zu H H'→Q (.ref t) H'
abbrev Za6:=Int×Addr×List Str×Nat
def kvR(L:List Za6):List (Key×V):=L.map fun e=>(.inl e.1,.ref e.2.1)
def kvG(L:List Za6):List (Key×V):=L.map fun e=>(.inl e.1,.int (e.2.2.2:Int))
def Zto(ra ga:Addr)(nb li lo:Int):List (Key×V):=[(.inr "rows",.ref ra),(.inr "gone",.ref ga),(.inr "number",.int nb),(.inr "likenings",.int li),(.inr "looks",.int lo)]
structure Own (H:Hp) (o ra ga:Addr) (L:List Za6) (nb li lo:Int):Prop where
 at':H o=some (.dK (Zto ra ga nb li lo))
 rows:H ra=some (.dK (kvR L))
 gone:H ga=some (.dK (kvG L))
 nd:(L.map (·.1)).Nodup
 few:L.length≤60
 lst:∀e∈L,H e.2.1=some (.lst (e.2.2.1.map V.str))∧e.2.2.1.length≤100∧e.2.2.2≤e.2.2.1.length∧∀s∈e.2.2.1,s.length≤1000∧AZ s
theorem Zq5{ns:List Int}(h:ns.Nodup):(ns.map (Sum.inl:Int→Key)).Nodup:=QaL _ (fun a b hab z=>hab (Sum.inl.inj z)) h
theorem ZbZ.k'{H:Hp}{a:Addr}{kvs:List (Key×V)}{k:Key}{r:Option V}(e:H a=some (.dK kvs))(h:ZbE kvs k=r):ZbZ H a (kV k) r:=by rw[← h];exact ZbZ.k e
structure ZsP (L:List Za6) (E:List (Int×Option Str)):Prop where
 per:(E.map (·.1)).Perm (L.map (·.1))
 up:(E.map (·.1)).Pairwise (·<·)
 hd:∀e∈L,(e.1,e.2.2.1[e.2.2.2]?)∈E
def spHeads:Sp:=fun vs H Q _=>∃ (o ra ga:Addr) (L:List Za6) (nb li lo:Int),vs=[.ref o]∧Own H o ra ga L nb li lo ∧
 ∀ (D:Addr) (E:List (Int×Option Str)) (H':Hp),H D=none→Hds H' D E→ZsP L E→Zu H H'→Q (.ref D) H'
def hdL(L:List Za6):Hd:=fun n=>((L.find? fun e=>decide (e.1=n)).bind fun e=>e.2.2.1[e.2.2.2]?).map cds
theorem Zjw:∀ {L:List Za6},(L.map (·.1)).Nodup→∀ {e:Za6},e∈L→hdL L e.1=(e.2.2.1[e.2.2.2]?).map cds
 | [],_,_,h=>by cases h
 | x::r,nd,e,h=>by
  rw[Qj,Q3]at nd
  unfold hdL
  rw[Qam]
  rcases QI.mp h with rfl|h
  ·rw[decide_eq_true rfl];rfl
  ·rw[decide_eq_false (fun z:x.1=e.1=>nd.1 (by rw[z];exact Qm (f:=fun x:Za6=>x.1) h))]
   exact Zjw nd.2 h
theorem Win.perm{hd:Hd}{N M:List Int}{v:Option Int}(h:Win hd N v)(p:N.Perm M):Win hd M v:=by
 cases v with
 | none=>exact fun n hn=>h n (p.mem_iff.mpr hn)
 | some a=>obtain⟨ha,x,hx,hb⟩:=h;exact⟨p.mem_iff.mp ha,x,hx,fun b hbm=>hb b (p.mem_iff.mpr hbm)⟩
def Zp4(L:List Za6)(H:Hp)(x:V):Prop:=(x=.non∧Win (hdL L) (L.map (·.1)) none)∨∃ (t:Addr) (e:Za6) (z:Str),x=.ref t∧e∈L∧e.2.2.1[e.2.2.2]? = some z∧H t=some (.tup [.int e.1,.int (e.2.2.2:Int),.str z])∧Win (hdL L) (L.map (·.1)) (some e.1)
def spLCom:Sp:=fun vs H Q _=>∃ (o ra ga:Addr) (L:List Za6) (nb li lo:Int),vs=[.ref o]∧Own H o ra ga L nb li lo∧∀ (x:V) (H':Hp),Zp4 L H' x→Zu H H'→Q x H'
def spLPlay:Sp:=fun vs H Q _=>∃ (o ra ga:Addr) (L:List Za6) (nb li lo:Int),vs=[.ref o]∧Own H o ra ga L nb li lo∧(L.map (·.1)).Pairwise (·<·)∧(∀e∈L,e.2.1≠o) ∧
 ∀ (k q':Int) (H':Hp),Zee (hdL L) 8 (L.map (·.1)) k q'→Own H' o ra ga L nb (li+k) (lo+q')→But o H H'→Q .non H'
def ZpQ(L:List Za6):List Int:=L.map fun e=>(e.2.2.1.length:Int)-(e.2.2.2:Int)
def spLLeft:Sp:=fun vs H Q _=>∃ (o ra ga:Addr) (L:List Za6) (nb li lo:Int),vs=[.ref o]∧Own H o ra ga L nb li lo∧∀H':Hp,Zu H H'→Q (.int (ZpQ L).sum) H'
structure Zcp (H:Hp) (r:Addr) (rs:List (Addr×List Str)):Prop where
 at':H r=some (.lst (rs.map fun x=>V.ref x.1))
 few:rs.length≤60
 lst:∀x∈rs,H x.1=some (.lst (x.2.map V.str))∧x.2.length≤100∧∀s∈x.2,s.length≤1000∧AZ s
theorem Zcp.same{H H':Hp}{r:Addr}{rs:List (Addr×List Str)}(h:Zcp H r rs)(s:Zu H H'):Zcp H' r rs:=⟨s _ _ h.at',h.few,fun x hx=>let ⟨a,b⟩:=h.lst x hx;⟨s _ _ a,b⟩⟩
def Zs0(L:List Za6)(rs:List (Addr×List Str)):Prop:=L.map (·.1)=ZT 0 rs.length∧L.map (fun e=>e.2.2)=rs.map fun x=>(x.2,0)
theorem Zey(n:Nat):(ZT 0 n).Pairwise (·<·):=by
 unfold ZT
 exact QaL _ (fun a b h=>by omega) (List.pairwise_lt_range)
def spLWorld:Sp:=fun vs H Q _=>∃ (r:Addr) (rs:List (Addr×List Str)),vs=[.ref r]∧Zcp H r rs ∧
 ∀ (o ra ga:Addr) (L:List Za6) (k q':Int) (H':Hp),H o=none→H ra=none→H ga=none→ga≠ra→(∀e∈L,H e.2.1=none∧e.2.1≠o)→Zs0 L rs→Own H' o ra ga L (rs.length:Int) k q'→Zee (hdL L) 8 (L.map (·.1)) k q'→Zu H H'→Q (.ref o) H'
def spLRow:Sp:=fun vs H Q _=>∃ (p l:Addr) (c most:Int) (ss:List Str),vs=[.ref p,.ref l,.int most]∧ZaE H p c∧c<2 ^ 40∧0≤most∧most≤60∧H l=some (.lst (ss.map V.str))∧1≤ss.length∧ss.length≤4∧(∀s∈ss,s.length≤24∧AZ s) ∧
 ∀ (r:Addr) (ts:List Str) (c':Int) (H':Hp),H r=none→H' r=some (.lst (ts.map V.str))→(ts.length:Int)≤most→sortedS ts=true→(∀s∈ts,s.length≤28∧AZ s)→ZaE H' p c'→c≤c'→c'≤c+600→But p H H'→Q (.ref r) H'
def spLRows:Sp:=fun vs H Q _=>∃ (p:Addr) (c:Int),vs=[.ref p]∧ZaE H p c∧c<2 ^ 30 ∧
 ∀ (r:Addr) (rs:List (Addr×List Str)) (c':Int) (H':Hp),H r=none→Zcp H' r rs→(∀x∈rs,H x.1=none∧x.1≠r∧x.1≠p∧sortedS x.2=true∧x.2.length≤60)→rs.length≤12→ZaE H' p c'→c≤c'→c'≤c+10000→But p H H'→Q (.ref r) H'
def ZfD(K:PySem.W.Frag):Sp:=fun vs H Q _=>∃ (n:Int) (a:Addr) (ss:List Str),vs=[.int n,.ref a]∧SqL K H a (ss.map V.str)∧ss.length≤200∧(∀s∈ss,s.length≤1000)∧Zi2 ss .non∧∀H',Zu H H'→Q .non H'
theorem ZlU(T:Zaf K mg cRow cMerge)(f_first_break:Df P w K mg base 4 "first_break" ["keys"] (ZnY K)):Df P w K mg base 5 "refuse_break" ["number", "keys"] (ZfD K):=by
 refine T.t_refuse_break.df Zdn (fun vs H Q E h=>?_) (fun cdv f A outer s H vs Q E hr h=>?_)
 ·obtain⟨n,a,ss,rfl,_⟩:=h
  rfl
 obtain⟨n,a,ss,rfl,hS,h200,h1000,hnon,q⟩:=h
 refine⟨_,#[Zf,#[Zz,2,Zdn.nd,(Or.inl rfl),#[ZA,f_first_break,hr,#[Za,‹1›,#[Zd]],(by rfl)]],#[Zj,#[ZZ,#[Zo,Zfu,‹2›,#[Zar],(Zt _)],#[Zj,(@Zpp _ _)],#[ZB]]]],?_⟩
 refine⟨_,rfl,a,ss,rfl,hS,h200,h1000,fun v H1 hb s1=>?_⟩
 have e:=Zop hb hnon
 subst e
 exact⟨_,rfl,rfl,_,rfl,ZbF (q H1 s1)⟩
structure ZD where
 n:Int
 p:Addr
 k:Addr
 f:Addr
 ss:List Str
 g:Nat
def toL(e:ZD):Za6:=(e.n,e.p,e.ss,e.g)
def hdM(L:List ZD):Hd:=hdL (L.map toL)
def ZE(L:List ZD):List Int:=L.map (·.n)
theorem ZeF(L:List ZD):(L.map toL).map (·.1)=ZE L:=by rw[QA];rfl
def kvM(L:List ZD):List (Key×V):=L.map fun e=>(.inl e.n,.ref e.p)
theorem Zeg{L:List ZD}(nd:(ZE L).Nodup){e:ZD}(he:e∈L):hdM L e.n=(e.ss[e.g]?).map cds :=
 Zjw (L:=L.map toL) (by rw[ZeF];exact nd) (Qm (f:=toL) he)
theorem Zns(L:List ZD):(kvM L).map (·.1)=(ZE L).map (Sum.inl:Int→Key):=by unfold kvM ZE;rw[QA,QA];rfl
theorem ZfS{L:List ZD}(nd:(ZE L).Nodup){e:ZD}(he:e∈L):ZbE (kvM L) (.inl e.n)=some (.ref e.p):=ZiV (by rw[Zns];exact Zq5 nd) (Qm (f:=fun e:ZD=>((.inl e.n:Key),V.ref e.p)) he)
theorem ZdG{L:List ZD}{n:Int}(h:n∈ZE L):∃e∈L,e.n=n:=Qt.mp h
def mgF(rd:Addr)(nb li lo:Int)(sd:Addr)(best:V):List (Str×V):=[("rows",.ref rd),("next_number",.int nb),("likened",.int li),("looked",.int lo),("stays",.ref sd),("best",best)]
theorem ZrY:¬ (("rows" : Str) = "next_number"):=by ac_rfl
theorem Zqx:¬ (("rows" : Str) = "likened"):=by ac_rfl
theorem Zq0:¬ (("rows" : Str) = "looked"):=by ac_rfl
theorem Zqd:¬ (("rows" : Str) = "stays"):=by ac_rfl
theorem ZqT:¬ (("rows" : Str) = "best"):=by ac_rfl
theorem ZrO:¬ (("next_number" : Str) = "likened"):=by ac_rfl
theorem ZrR:¬ (("next_number" : Str) = "looked"):=by ac_rfl
theorem ZrU:¬ (("next_number" : Str) = "stays"):=by ac_rfl
theorem Zr4:¬ (("next_number" : Str) = "best"):=by ac_rfl
theorem ZqR:¬ (("likened" : Str) = "looked"):=by ac_rfl
theorem Zrg:¬ (("likened" : Str) = "stays"):=by ac_rfl
theorem ZqH:¬ (("likened" : Str) = "best"):=by ac_rfl
theorem Zqr:¬ (("looked" : Str) = "stays"):=by ac_rfl
theorem Zre:¬ (("looked" : Str) = "best"):=by ac_rfl
theorem Zru:¬ (("stays" : Str) = "best"):=by ac_rfl
theorem Zdv(f:Str)(v x:V)(r:List (Str×V)):Zr f v ((f,x)::r)=(f,v)::r:=by unfold Zr;rw[if_pos rfl]
theorem Zv{f g:Str}(h:¬ g=f)(v x:V)(r:List (Str×V)):Zr f v ((g,x)::r)=(g,x)::Zr f v r:=by
 show (if g=f then (g,v)::r else (g,x)::Zr f v r)=_
 rw[if_neg h]
theorem Zbz(f:Str)(v:V):Zr f v []=[(f,v)]:=rfl
theorem ZbK(rd:Addr)(nb li lo:Int)(sd:Addr)(best:V):mgF rd nb li lo sd best=Zr "best" best (Zr "stays" (.ref sd) (Zr "looked" (.int lo) (Zr "likened" (.int li) (Zr "next_number" (.int nb) (Zr "rows" (.ref rd) []))))):=by
 rw[Zbz,Zv ZrY,Zbz,Zv Zqx,Zv ZrO,Zbz,Zv Zq0,Zv ZrR,Zv ZqR,Zbz,Zv Zqd,Zv ZrU,Zv Zrg,Zv Zqr,Zbz,Zv ZqT,Zv Zr4,Zv ZqH,Zv Zre,Zv Zru,Zbz]
 rfl
section
variable (rd:Addr) (nb li lo:Int) (sd:Addr) (best:V)
theorem ZbU:(mgF rd nb li lo sd best).lookup ("rows" : Str)=some (.ref rd):=by
 rw[ZbK,Zm,if_neg ZqT,Zm,if_neg Zqd,Zm,if_neg Zq0,Zm,if_neg Zqx,Zm,if_neg ZrY,Zm,if_pos rfl]
theorem Zff:(mgF rd nb li lo sd best).lookup ("likened" : Str)=some (.int li):=by
 rw[ZbK,Zm,if_neg ZqH,Zm,if_neg Zrg,Zm,if_neg ZqR,Zm,if_pos rfl]
theorem Zj6:(mgF rd nb li lo sd best).lookup ("looked" : Str)=some (.int lo):=by
 rw[ZbK,Zm,if_neg Zre,Zm,if_neg Zqr,Zm,if_pos rfl]
theorem ZcX:(mgF rd nb li lo sd best).lookup ("stays" : Str)=some (.ref sd):=by
 rw[ZbK,Zm,if_neg Zru,Zm,if_pos rfl]
theorem Zdz:(mgF rd nb li lo sd best).lookup ("best" : Str)=some best:=by
 rw[ZbK,Zm,if_pos rfl]
theorem Zda{m:Str}(h1:¬ m = "rows")(h2:¬ m = "next_number")(h3:¬ m = "likened")(h4:¬ m = "looked")(h5:¬ m = "stays")(h6:¬ m = "best"):(mgF rd nb li lo sd best).lookup m=none:=by
 rw[ZbK,Zm,if_neg h6,Zm,if_neg h5,Zm,if_neg h4,Zm,if_neg h3,Zm,if_neg h2,Zm,if_neg h1]
 rfl
theorem Zdl(v:Int):Zr "likened" (.int v) (mgF rd nb li lo sd best)=mgF rd nb v lo sd best:=by unfold mgF;rw[Zv Zqx,Zv ZrO,Zdv]
theorem ZfH(v:Int):Zr "looked" (.int v) (mgF rd nb li lo sd best)=mgF rd nb li v sd best:=by unfold mgF;rw[Zv Zq0,Zv ZrR,Zv ZqR,Zdv]
theorem Zgx(x:Addr):Zr "stays" (.ref x) (mgF rd nb li lo sd best)=mgF rd nb li lo x best:=by unfold mgF;rw[Zv Zqd,Zv ZrU,Zv Zrg,Zv Zqr,Zdv]
theorem Zb8(x:V):Zr "best" x (mgF rd nb li lo sd best)=mgF rd nb li lo sd x:=by unfold mgF;rw[Zv ZqT,Zv Zr4,Zv ZqH,Zv Zre,Zv Zru,Zdv]
theorem Zct:(mgF rd nb li lo sd best).length<1000:=by show 6<1000;decide
end
structure ZeC (C:Addr) (H:Hp) (e:ZD):Prop where
 at':Zkk C H e.p e.k e.f e.ss e.g
 le:e.g≤e.ss.length
 len:e.ss.length≤100
 srt:sortedS e.ss=true
 str:∀s∈e.ss,s.length≤1000∧AZ s
structure Z1 (cR cM:Addr) (H:Hp) (m rd sd:Addr) (L:List ZD) (s:StL) (nb li lo:Int) (best:V):Prop where
 ob:∃dx,H m=some (.ins cM dx (mgF rd nb li lo sd best))
 rows:H rd=some (.dK (kvM L))
 stays:H sd=some (.dT (kvS s))
 ats:AtS H s
 each:∀e∈L,ZeC cR H e
 up:Zai (ZE L)
 pd:(L.map (·.p)).Nodup
 few:L.length≤60
 sfew:s.length≤100
def Fp(m rd sd:Addr)(L:List ZD)(b:Addr):Prop:=b=m∨b=rd∨b=sd∨∃e∈L,b=e.p∨b=e.k∨b=e.f
theorem ZeC.keep{C:Addr}{H H':Hp}{e:ZD}(h:ZeC C H e)(hp:H' e.p=H e.p)(hk:H' e.k=H e.k)(hf:H' e.f=H e.f):ZeC C H' e :=
 ⟨⟨by rw[hp];exact h.at'.ob,by rw[hk];exact h.at'.ks,by rw[hf];exact h.at'.fs⟩,h.le,h.len,h.srt,h.str⟩
section
variable {cR cM:Addr} {H H':Hp} {m rd sd:Addr} {L:List ZD} {s:StL} {nb li lo:Int} {best:V}
theorem Z1.nd(h:Z1 cR cM H m rd sd L s nb li lo best):(ZE L).Nodup:=Zd3 h.up
theorem Z1.keep(h:Z1 cR cM H m rd sd L s nb li lo best)(k:∀b o,H b=some o→Fp m rd sd L b∨(∃xs,o=.tup xs)→H' b=some o):Z1 cR cM H' m rd sd L s nb li lo best:=by
 refine⟨?_,k _ _ h.rows (.inl (.inr (.inl rfl))),k _ _ h.stays (.inl (.inr (.inr (.inl rfl)))),fun e he t ht=>k _ _ (h.ats e he t ht) (.inr ⟨_,rfl⟩),fun e he=>?_,h.up,h.pd,h.few,h.sfew⟩
 ·obtain⟨dx,hd⟩:=h.ob
  exact⟨dx,k _ _ hd (.inl (.inl rfl))⟩
 ·have r:=h.each e he
  obtain⟨dx,hd⟩:=r.at'.ob
  exact⟨⟨⟨dx,k _ _ hd (.inl (.inr (.inr (.inr ⟨e,he,.inl rfl⟩))))⟩,k _ _ r.at'.ks (.inl (.inr (.inr (.inr ⟨e,he,.inr (.inl rfl)⟩)))),k _ _ r.at'.fs (.inl (.inr (.inr (.inr ⟨e,he,.inr (.inr rfl)⟩))))⟩,r.le,r.len,r.srt,r.str⟩
theorem Z1.same(h:Z1 cR cM H m rd sd L s nb li lo best)(k:Zu H H'):Z1 cR cM H' m rd sd L s nb li lo best:=h.keep fun b o hb _=>k b o hb
theorem Z1.ne_p(h:Z1 cR cM H m rd sd L s nb li lo best){e:ZD}(he:e∈L):m≠e.p∧m≠e.k∧m≠e.f:=by
 obtain⟨dx,hd⟩:=h.ob
 have r:=h.each e he
 obtain⟨dy,hy⟩:=r.at'.ob
 refine⟨fun z=>?_,fun z=>?_,fun z=>?_⟩
 ·rw[z,hy]at hd
  injection hd with hd
  injection hd with _ _ hd
  have a:=Ze7 e.k e.f (e.g:Int)
  rw[hd,Zda _ _ _ _ _ _ (by ac_rfl) (by ac_rfl) (by ac_rfl) (by ac_rfl) (by ac_rfl) (by ac_rfl)]at a
  cases a
 ·rw[z,r.at'.ks]at hd;cases hd
 ·rw[z,r.at'.fs]at hd;cases hd
theorem Z1.ne_m(h:Z1 cR cM H m rd sd L s nb li lo best):m≠rd∧m≠sd∧rd≠sd:=by
 obtain⟨dx,hd⟩:=h.ob
 refine⟨fun z=>?_,fun z=>?_,fun z=>?_⟩
 ·rw[z,h.rows]at hd;cases hd
 ·rw[z,h.stays]at hd;cases hd
 ·have:=h.rows;rw[z,h.stays]at this;cases this
theorem Z1.ne_sd(h:Z1 cR cM H m rd sd L s nb li lo best){e:ZD}(he:e∈L):sd≠e.p∧sd≠e.k∧sd≠e.f∧rd≠e.p∧rd≠e.k∧rd≠e.f:=by
 have r:=h.each e he
 obtain⟨dy,hy⟩:=r.at'.ob
 have a:=h.stays
 have b:=h.rows
 refine⟨fun z=>?_,fun z=>?_,fun z=>?_,fun z=>?_,fun z=>?_,fun z=>?_⟩
 ·rw[z,hy]at a;cases a
 ·rw[z,r.at'.ks]at a;cases a
 ·rw[z,r.at'.fs]at a;cases a
 ·rw[z,hy]at b;cases b
 ·rw[z,r.at'.ks]at b;cases b
 ·rw[z,r.at'.fs]at b;cases b
theorem Z1.obj(h:Z1 cR cM H m rd sd L s nb li lo best){nb' li' lo':Int}{best':V}{dx:Addr}:Z1 cR cM (upd H m (.ins cM dx (mgF rd nb' li' lo' sd best'))) m rd sd L s nb' li' lo' best':=by
 obtain⟨n1,n2,n3⟩:=h.ne_m
 obtain⟨dy,hd⟩:=h.ob
 refine⟨⟨dx,Zb⟩,by rw[Ze n1.symm];exact h.rows,by rw[Ze n2.symm];exact h.stays,fun e he t ht=>?_,fun e he=>?_,h.up,h.pd,h.few,h.sfew⟩
 ·have:=h.ats e he t ht
  rw[Ze (fun z=>by rw[z,hd]at this;cases this)];exact this
 ·obtain⟨a,b,c⟩:=h.ne_p he
  exact(h.each e he).keep (Ze a.symm) (Ze b.symm) (Ze c.symm)
theorem Z1.put(h:Z1 cR cM H m rd sd L s nb li lo best){k:Int×Int}{v:Option (Addr×Int×Int)}(hv:∀t,v=some t→H t.1=some (.tup [.int t.2.1,.int t.2.2]))(hs:(Zc0 s k v).length≤100):Z1 cR cM (upd H sd (.dT (kvS (Zc0 s k v)))) m rd sd L (Zc0 s k v) nb li lo best:=by
 obtain⟨n1,n2,n3⟩:=h.ne_m
 obtain⟨dy,hd⟩:=h.ob
 have tup:∀a xs,H a=some (.tup xs)→(upd H sd (.dT (kvS (Zc0 s k v)))) a=some (.tup xs):=fun a xs ha=>by rw[Ze (fun z=>by rw[z,h.stays]at ha;cases ha)];exact ha
 refine⟨⟨dy,by rw[Ze n2];exact hd⟩,by rw[Ze n3];exact h.rows,Zb,(h.ats.put hv).mono tup,fun e he=>?_,h.up,h.pd,h.few,hs⟩
 obtain⟨a,b,c,_⟩:=h.ne_sd he
 exact(h.each e he).keep (Ze a.symm) (Ze b.symm) (Ze c.symm)
end
def Zj1(cR cM:Addr):Sp:=fun vs H Q _=>∃ (m rd sd:Addr) (L:List ZD) (s:StL) (nb li lo:Int) (best:V) (a b:ZD) (x y:Str) (far:Nat),vs=[.ref m,.int a.n,.int b.n,.int (far:Int)]∧Z1 cR cM H m rd sd L s nb li lo best∧a∈L∧b∈L∧a.ss[a.g]? = some x∧b.ss[b.g]? = some y∧far≤lcp (cds x) (cds y) ∧
 ∀ (t:Addr) (wi lz:Int) (H':Hp),(Btr (cds x) a.n (cds y) b.n∧wi=a.n∧lz=b.n∨¬ Btr (cds x) a.n (cds y) b.n∧wi=b.n∧lz=a.n)→H t=none→H' t=some (.tup [.int wi,.int lz,.int ((lcp (cds x) (cds y):Nat):Int)]) →
  Z1 cR cM H' m rd sd L s nb (li+1) (lo+((lcp (cds x) (cds y):Nat)-(far:Int)+1)) best→(∀b o,H b=some o→b≠m→H' b=some o)→Q (.ref t) H'
theorem Zew{ss:List Str}{g:Nat}{x:Str}(h:ss[g]? = some x):Zeu ss g=.str x:=by unfold Zeu;rw[h]
theorem ZbS(k f:Addr)(g:Int):(ZcG k f g).lookup ("head" : Str)=none:=Zkn _ _ _ (by ac_rfl) (by ac_rfl) (by ac_rfl)
theorem Zpl(T:Zaf K mg cRow cMerge)(f_Row_head:Mf P w K mg base 2 cRow "head" ["self"] (ZfC cRow))(f_liken_from:Df P w K mg base 2 "liken_from" ["one", "other", "far"] ZdN):Mf P w K mg base 3 cMerge "meet" ["self", "one", "other", "far"] (Zj1 cRow cMerge):=by
 refine T.t_Merge_meet.mf ZbQ (fun vs H Q E h=>?_) (fun cdv f A outer s H vs Q E hr h=>?_)
 ·obtain⟨m,rd,sd,L,s,nb,li,lo,best,a,b,x,y,far,rfl,_⟩:=h
  rfl
 obtain⟨m,rd,sd,L,s,nb,li,lo,best,a,b,x,y,far,rfl,M,ha,hb,hx,hy,hf,q⟩:=h
 refine⟨_,#[Zf,#[ZaO,#[ZA,f_liken_from,hr,#[Za,#[Zdg,f_Row_head,T.cl_Row,hr,#[Zx,(ixG hr),#[Zac,‹0›],‹1›]],#[Za,#[Zdg,f_Row_head,T.cl_Row,hr,#[Zx,(ixG hr),#[Zac,‹0›],‹2›]],#[Za,‹3›,#[Zd]]]],(by rfl)],#[gT,K,3,#[Zs,#[Zw,4,ZbQ.nd],#[Zs,#[Zw,5,ZbQ.nd],#[Zs,#[Zw,6,ZbQ.nd],(@Zal _)]]]]],#[Zf,(@ZdW _ _ _ _ _ _ _ _ _ _ ‹0› #[Zh] Zh4),#[Zf,(@ZdW _ _ _ _ _ _ _ _ _ _ ‹0› ‹6› Zh4),#[Zf,#[ZZ,(@PW.pt _ _ _ #[Zhj,#[Zo,Zcw,‹4›,#[Zh],(Zt _)],(@ZfP _ _ _ _ (@PW.pt _ _ _ #[ZdD,#[Zo,Za4,‹4›,#[Zh],(Zt _)],(@Zc9 _ _ _ _ #[Zo,Zcw,‹1›,‹2›,(Zt _)])]))]),#[Zj,#[Zn,#[ZN,#[Za,‹1›,#[Za,‹2›,#[Za,‹5›,#[Zd]]]]]]],#[ZB]],#[Zj,#[Zn,#[ZN,#[Za,‹2›,#[Za,‹1›,#[Za,‹5›,#[Zd]]]]]]]]]]],?_⟩
 obtain⟨dx,hm⟩:=M.ob
 have Ra:=M.each a ha
 have Rb:=M.each b hb
 obtain⟨da,hpa⟩:=Ra.at'.ob
 obtain⟨db,hpb⟩:=Rb.at'.ob
 have lx:=(Ra.str x (Qq hx)).1
 have ly:=(Rb.str y (Qq hy)).1
 refine⟨_,rfl,xw5 m cMerge dx _ _ ⟨rfl,hm,T.cl_Merge,T.na_Merge_rows,ZbU ..,_,rfl,rd,_,rfl,ZbZ.k' (k:=.inl a.n) M.rows (ZfS M.nd ha),a.p,da,_,rfl,hpa,ZbS ..,xw5 a.p a.k a.f a.ss a.g ⟨rfl,Ra.at',?_⟩⟩⟩
 refine⟨_,rfl,xw5 m cMerge dx _ _ ⟨rfl,hm,T.cl_Merge,T.na_Merge_rows,ZbU ..,_,rfl,rd,_,rfl,ZbZ.k' (k:=.inl b.n) M.rows (ZfS M.nd hb),b.p,db,_,rfl,hpb,ZbS ..,xw5 b.p b.k b.f b.ss b.g ⟨rfl,Rb.at',?_⟩⟩⟩
 rw[Zew hx,Zew hy]
 refine⟨_,rfl,x,y,far,rfl,lx,ly,hf,fun t ht=>?_⟩
 have s1:=Zi ht (.tup [.int (ZF (cds x) (cds y)),.int (lcp (cds x) (cds y):Nat),.int ((lcp (cds x) (cds y):Nat)-(far:Int)+1)])
 have ht1:(upd H t (.tup [.int (ZF (cds x) (cds y)),.int (lcp (cds x) (cds y):Nat),.int ((lcp (cds x) (cds y):Nat)-(far:Int)+1)])) t=some (.tup [.int (ZF (cds x) (cds y)),.int (lcp (cds x) (cds y):Nat),.int ((lcp (cds x) (cds y):Nat)-(far:Int)+1)]):=Zb
 generalize upd H t (.tup [.int (ZF (cds x) (cds y)),.int (lcp (cds x) (cds y):Nat),.int ((lcp (cds x) (cds y):Nat)-(far:Int)+1)])=H1 at s1 ht1 ⊢
 have M1:=M.same s1
 refine⟨t,_,rfl,SqT.of ht1,rfl,_,_,rfl,_,_,rfl,_,_,rfl,rfl,?_⟩
 have hm1:=s1 _ _ hm
 refine⟨_,rfl,xw5 m cMerge dx _ _ ⟨rfl,hm1,T.cl_Merge,T.na_Merge_likened,Zff ..,_,_,rfl,rfl,dx,_,hm1,Zct ..,?_⟩⟩
 rw[Zdl]
 have M2:=M1.obj (nb':=nb) (li':=li+1) (lo':=lo) (best':=best) (dx:=dx)
 have k2:∀b o,H b=some o→b≠m→(upd H1 m (.ins cMerge dx (mgF rd nb (li+1) lo sd best))) b=some o:=fun b o hb n=>by rw[Ze n];exact s1 b o hb
 have hm2:(upd H1 m (.ins cMerge dx (mgF rd nb (li+1) lo sd best))) m=some (.ins cMerge dx (mgF rd nb (li+1) lo sd best)):=Zb
 generalize upd H1 m (.ins cMerge dx (mgF rd nb (li+1) lo sd best))=H2 at M2 k2 hm2 ⊢
 refine⟨_,rfl,xw5 m cMerge dx _ _ ⟨rfl,hm2,T.cl_Merge,T.na_Merge_looked,Zj6 ..,_,rfl,_,_,rfl,rfl,dx,_,hm2,Zct ..,?_⟩⟩
 rw[ZfH]
 have M3:=M2.obj (nb':=nb) (li':=li+1) (lo':=lo+((lcp (cds x) (cds y):Nat)-(far:Int)+1)) (best':=best) (dx:=dx)
 have k3:∀b o,H b=some o→b≠m→(upd H2 m (.ins cMerge dx (mgF rd nb (li+1) (lo+((lcp (cds x) (cds y):Nat)-(far:Int)+1)) sd best))) b=some o:=fun b o hb n=>by rw[Ze n];exact k2 b o hb n
 generalize upd H2 m (.ins cMerge dx (mgF rd nb (li+1) (lo+((lcp (cds x) (cds y):Nat)-(far:Int)+1)) sd best))=H3 at M3 k3 ⊢
 have fin:∀wi lz:Int,(Btr (cds x) a.n (cds y) b.n∧wi=a.n∧lz=b.n∨¬ Btr (cds x) a.n (cds y) b.n∧wi=b.n∧lz=a.n)→∀t2,H3 t2=none→Q (.ref t2) (upd H3 t2 (.tup [.int wi,.int lz,.int ((lcp (cds x) (cds y):Nat):Int)])):=fun wi lz hw t2 ht2=>by
  have hfree:H t2=none:=by
   cases e:H t2 with
   | none=>rfl
   | some o =>
    by_cases z:t2=m
    ·obtain⟨dz,hz⟩:=M3.ob;rw[z,hz]at ht2;cases ht2
    ·rw[k3 t2 o e z]at ht2;cases ht2
  exact q t2 wi lz _ hw hfree Zb (M3.same (Zi ht2 _)) (fun b o hb n=>Zi ht2 _ _ _ (k3 b o hb n))
 have sz3:3≤sizeLine:=by decide
 refine⟨_,rfl,_,_,rfl,rfl,_,rfl,ZaV (fun d=>?_) (fun d=>?_)⟩
 ·have d':ZF (cds x) (cds y)<0:=of_decide_eq_true d
  exact ZhD ⟨_,rfl,_,rfl,_,rfl,sz3,fun t2 ht2=>fin _ _ (.inl ⟨.inl d',rfl,rfl⟩) t2 ht2⟩
 have d1:¬ ZF (cds x) (cds y)<0:=fun z=>d (decide_eq_true z)
 refine⟨_,rfl,rfl,_,rfl,ZaV (fun e=>?_) (fun e=>?_)⟩
 ·have e':ZF (cds x) (cds y)=0:=by have:=of_decide_eq_true e;injection this
  refine⟨_,rfl,_,rfl,_,_,rfl,rfl,_,rfl,ZaV (fun g=>?_) (fun g=>?_)⟩
  ·have g':a.n<b.n:=of_decide_eq_true g
   exact⟨_,rfl,_,rfl,_,rfl,sz3,fun t2 ht2=>fin _ _ (.inl ⟨.inr ⟨e',g'⟩,rfl,rfl⟩) t2 ht2⟩
  ·have g':¬ a.n<b.n:=fun z=>g (decide_eq_true z)
   exact⟨_,rfl,_,rfl,_,rfl,sz3,fun t2 ht2=>fin _ _ (.inr ⟨fun z=>by rcases z with z|z;exact d1 z;exact g' z.2,rfl,rfl⟩) t2 ht2⟩
 ·have e':ZF (cds x) (cds y)≠0:=fun z=>e (decide_eq_true (by rw[z]))
  exact ZbF ⟨_,rfl,_,rfl,_,rfl,sz3,fun t2 ht2=>fin _ _ (.inr ⟨fun z=>by rcases z with z|z;exact d1 z;exact e' z.1,rfl,rfl⟩) t2 ht2⟩
theorem Z1.cast{cR cM:Addr}{H:Hp}{m rd sd:Addr}{L:List ZD}{s:StL}{nb li lo li' lo':Int}{best:V}(h:Z1 cR cM H m rd sd L s nb li lo best)(e1:li=li')(e2:lo=lo'):Z1 cR cM H m rd sd L s nb li' lo' best:=by subst e1;subst e2;exact h
theorem Zii{N:List Int}(h:N≠[]):atI (N.map V.int) (-1)=some (.int (N.getLastD 0)):=by
 have e:N=N.dropLast++[N.getLast h]:=(List.dropLast_concat_getLast h).symm
 have:=Zoc (N.dropLast.map V.int) (V.int (N.getLast h))
 rw[Qak,QaH h]
 conv=>lhs;rw[e,Qe]
 exact this
theorem Zik{N:List Int}(h:N≠[]):atI (N.map V.int) 0=some (.int (N.headD 0)):=by
 cases N with
 | nil=>exact absurd rfl h
 | cons a r=>exact Z3 (j:=0) rfl
theorem Zen(rd:Addr)(nb li lo:Int)(sd:Addr)(best:V):(mgF rd nb li lo sd best).lookup ("play" : Str)=none:=Zda _ _ _ _ _ _ (by ac_rfl) (by ac_rfl) (by ac_rfl) (by ac_rfl) (by ac_rfl) (by ac_rfl)
theorem Zf8(rd:Addr)(nb li lo:Int)(sd:Addr)(best:V):(mgF rd nb li lo sd best).lookup ("meet" : Str)=none:=Zda _ _ _ _ _ _ (by ac_rfl) (by ac_rfl) (by ac_rfl) (by ac_rfl) (by ac_rfl) (by ac_rfl)
def Zm1(K:PySem.W.Frag)(cR cM:Addr)(n:Nat):Sp:=fun vs H Q _=>∃ (m rd sd:Addr) (L:List ZD) (s:StL) (nb li lo:Int) (best:V) (l:Addr) (N:List Int),vs=[.ref m,.ref l]∧Z1 cR cM H m rd sd L s nb li lo best∧H l=some (.lst (N.map V.int))∧1≤N.length∧N.length≤60∧0<n∧N.length≤2 ^ (n-1)∧(∀x∈N,x∈ZE L)∧Zai N∧(∀k,ZeB n N k→ZR s k=none)∧s.length+N.length≤100 ∧
 ∀ (w:Option Int) (s':StL) (k q:Int) (H':Hp),Win (hdM L) N w→ZeP (hdM L) s' n N→Zee (hdM L) n N k q→(∀j,¬ ZeB n N j→ZR s' j=ZR s j)→s'.length+1≤s.length+N.length→Z1 cR cM H' m rd sd L s' nb (li+k) (lo+q) best→(∀b o,H b=some o→b≠m→b≠sd→H' b=some o)→Q (Zel w) H'
theorem Zkr(T:Zaf K mg cRow cMerge)(f_Row_head:Mf P w K mg base 2 cRow "head" ["self"] (ZfC cRow))(f_halves:Df P w K mg base 1 "halves" ["numbers"] (ZeJ K true))(f_Merge_meet:Mf P w K mg base 3 cMerge "meet" ["self", "one", "other", "far"] (Zj1 cRow cMerge)) :
  ∀n:Nat,Mf P w K mg base (n+4) cMerge "play" ["self", "numbers"] (Zm1 K cRow cMerge n)
 | 0=>by
  refine T.t_Merge_play.mf Zaa (fun vs H Q E h=>?_) (fun cdv f A outer s H vs Q E hr h=>?_)
  ·obtain⟨m,rd,sd,L,s,nb,li,lo,best,l,N,rfl,_⟩:=h
   rfl
  obtain⟨m,rd,sd,L,s,nb,li,lo,best,l,N,rfl,_,_,_,_,z,_⟩:=h
  exact absurd z (by omega)
 | n+1=>by
  have f_Merge_play:=Zkr T f_Row_head f_halves f_Merge_meet n
  refine T.t_Merge_play.mf Zaa (fun vs H Q E h=>?_) (fun cdv f A outer s H vs Q E hr h=>?_)
  ·obtain⟨m,rd,sd,L,s,nb,li,lo,best,l,N,rfl,_⟩:=h
   rfl
  obtain⟨m,rd,sd,L,s,nb,li,lo',best,l,N,rfl,M,hl,h1,h60,_,hp2,hmem,hup,hfree,hsz,q⟩:=h
  rw[Qat]at hp2
  refine⟨_,#[Zf,#[ZZ,#[Zo,Za4,#[Zk,(Zbf K),(by rfl),T.b.n_len,Qs,#[Za,‹1›,#[Zd]]],#[Zh],(Zt _)],#[Zj,#[Zn,#[Za9,#[Zo,ZdR,#[Zdg,f_Row_head,T.cl_Row,hr,#[Zx,(ixG hr),#[Zac,‹0›],#[Zx,(ixL K),‹1›,#[Zh]]]],#[Zar],(Zt _)],#[Zar],#[Zx,(ixL K),‹1›,#[Zh]]]]],#[ZB]],#[Zf,#[ZaO,#[ZA,f_halves,hr,#[Za,‹1›,#[Zd]],(by rfl)],#[gT,K,2,#[Zs,#[Zw,2,Zaa.nd],#[Zs,#[Zw,3,Zaa.nd],(@Zal _)]]]],#[Zf,#[Zz,4,Zaa.nd,(Or.inl rfl),#[Zfc,f_Merge_play,T.cl_Merge,hr,‹0›,#[Za,‹2›,#[Zd]]]],#[Zf,#[Zz,5,Zaa.nd,(Or.inl rfl),#[Zfc,f_Merge_play,T.cl_Merge,hr,‹0›,#[Za,‹3›,#[Zd]]]],#[Zf,#[ZZ,#[Zo,ZdR,‹4›,#[Zar],(Zt _)],#[Zj,#[Zn,‹5›]],#[ZB]],#[Zf,#[ZZ,#[Zo,ZdR,‹5›,#[Zar],(Zt _)],#[Zj,#[Zn,‹4›]],#[ZB]],#[Zf,#[ZaO,#[Zfc,f_Merge_meet,T.cl_Merge,hr,‹0›,#[Za,‹4›,#[Za,‹5›,#[Za,#[Zh],#[Zd]]]]],#[gT,K,3,#[Zs,#[Zw,6,Zaa.nd],#[Zs,#[Zw,7,Zaa.nd],#[Zs,#[Zw,8,Zaa.nd],(@Zal _)]]]]],#[Zf,#[ZaO,#[ZN,#[Za,‹7›,#[Za,‹8›,#[Zd]]]],#[ZdA,#[Zac,‹0›],#[ZN,#[Za,#[Zx,(ixL K),‹1›,#[Zh]],#[Za,#[Zx,(ixL K),‹1›,(@ZgR _ _ _ _ _ _ Ze0 #[Zh])],#[Zd]]]],(Znl hr)]],#[Zj,#[Zn,‹6›]]]]]]]]]],?_⟩
  obtain⟨dx,hm⟩:=M.ob
  have hN:N≠[]:=Z8 h1
  have nml:l≠m:=fun z=>by rw[z,hm]at hl;cases hl
  have nsl:l≠sd:=fun z=>by rw[z,M.stays]at hl;cases hl
  have hll:(((N.map V.int).length:Nat):Int)=(N.length:Int):=by rw[Qa]
  refine⟨_,rfl,l,_,rfl,.inl (SqL.of hl),rfl,_,rfl,ZaV (fun d=>?_) (fun d=>?_)⟩
  ·have hone:N.length=1:=by have:=of_decide_eq_true d;injection this with this;rw[hll]at this;omega
   obtain⟨n0,rfl⟩:∃n0,N=[n0]:=QaM.mp hone
   obtain⟨e,he,rfl⟩:=ZdG (hmem n0 (by simp))
   have R:=M.each e he
   obtain⟨dp,hp⟩:=R.at'.ob
   have hat:atI (([e.n]:List Int).map V.int) 0=some (.int e.n):=Z3 (j:=0) rfl
   refine⟨_,rfl,xw5 m cMerge dx _ _ ⟨rfl,hm,T.cl_Merge,T.na_Merge_rows,ZbU ..,_,rfl,xw4 l _ _ _ ⟨rfl,rfl,SqL.of hl,hat,rd,_,rfl,ZbZ.k' (k:=.inl e.n) M.rows (ZfS M.nd he),e.p,dp,_,rfl,hp,ZbS ..,xw5 e.p e.k e.f e.ss e.g ⟨rfl,R.at',rfl,_,rfl,?_⟩⟩⟩⟩
   have hst:ZeP (hdM L) s (n+1) [e.n]:=fun h2=>by simp at h2
   have hpl:Zee (hdM L) (n+1) [e.n] 0 0:=.few (by show 1<2;decide)
   have hwin:=Win.sing (hd:=hdM L) (n:=e.n)
   have hd:=Zeg M.nd he
   have M':=M.cast (li':=li+0) (lo':=lo'+0) (by omega) (by omega)
   cases hx:e.ss[e.g]? with
   | none =>
    rw[show Zeu e.ss e.g=.non by unfold Zeu;rw[hx]]
    rw[hd,hx]at hwin
    exact Zej rfl (q none s 0 0 H hwin hst hpl (fun _ _=>rfl) (Qh _) M' (fun b o h _ _=>h))
   | some x =>
    rw[Zew hx]
    rw[hd,hx]at hwin
    exact Zdj (fun z=>nomatch z) ⟨_,rfl,xw4 l _ _ _ ⟨rfl,rfl,SqL.of hl,hat,q (some e.n) s 0 0 H hwin hst hpl (fun _ _=>rfl) (Qh _) M' (fun b o h _ _=>h)⟩⟩
  have hge:2≤N.length:=by
   have:¬ ((N.length:Int)=1):=fun z=>d (decide_eq_true (by rw[hll,z]))
   omega
  have hn1:1≤n:=by
   cases n with
   | zero=>simp at hp2;omega
   | succ m=>omega
  have hpow:2 ^ n=2*2 ^ (n-1):=by
   obtain⟨m,rfl⟩:∃m,n=m+1:=⟨n-1,by omega⟩
   rw[Nat.pow_succ,Qat];omega
  have hlo:(lo N).length≤2 ^ (n-1)∧(lo N).length≤60:=by unfold lo mid;rw[Qz];omega
  have hupl:(up N).length≤2 ^ (n-1)∧(up N).length≤60:=by unfold up mid;rw[QV];omega
  have hsum:(lo N).length+(up N).length=N.length:=by rw[← Qg,Zcn]
  have hmlo:∀x∈lo N,x∈ZE L:=fun x hx=>hmem x (Qab hx)
  have hmup:∀x∈up N,x∈ZE L:=fun x hx=>hmem x (Qan hx)
  refine⟨_,rfl,l,N,rfl,SqL.of hl,by omega,fun t f r H2 ht hf hr' nfr ht2 hf2 hr2 s2 ntf ntr=>?_⟩
  rw[if_pos rfl]at ht2
  rw[Zqy]at hf2
  rw[Zri]at hr2
  refine⟨t,_,rfl,SqT.of ht2,rfl,_,_,rfl,_,_,rfl,rfl,?_⟩
  have M2:=M.same s2
  have hm2:=s2 _ _ hm
  have nfm:r≠m:=(Zc hm hr').symm
  have nfs:r≠sd:=(Zc M.stays hr').symm
  refine⟨_,rfl,m,dx,_,rfl,hm2,Zen ..,_,rfl,m,rd,sd,L,s,nb,li,lo',best,f,lo N,rfl,M2,hf2,(ZdF hge).2,hlo.2,hn1,hlo.1,hmlo,ZdZ hup,fun k hk=>hfree k ⟨hge,.inl hk⟩,by omega,fun w1 s1 k1 q1 H3 W1 S1 P1 o1 l1 M3 b3=>?_⟩
  have hr3:=b3 _ _ hr2 nfm nfs
  obtain⟨dx3,hm3⟩:=M3.ob
  refine⟨_,rfl,m,dx3,_,rfl,hm3,Zen ..,_,rfl,m,rd,sd,L,s1,nb,_,_,best,r,up N,rfl,M3,hr3,(Zef hge).2,hupl.2,hn1,hupl.1,hmup,ZdT hup,fun k hk=>?_,by omega,fun w2 s2' k2 q2 H4 W2 S2 P2 o2 l2 M4 b4=>?_⟩
  ·rw[o1 k ((Zid hup hge hk).2 n)]
   exact hfree k ⟨hge,.inr (.inl hk)⟩
  have key_n:¬ ZeB n (lo N) (ZO N)∧¬ ZeB n (up N) (ZO N):=⟨fun z=>(ZhF hup hge z).1 rfl,fun z=>(Zid hup hge z).1 rfl⟩
  have S1':ZeP (hdM L) s2' n (lo N):=S1.congr n _ (fun _ _=>rfl) (fun k hk=>o2 k ((ZhF hup hge hk).2 n))
  have hk2:ZR s2' (ZO N)=none:=by rw[o2 _ key_n.2,o1 _ key_n.1];exact hfree _ ⟨hge,.inr (.inr rfl)⟩
  have oth:∀j,¬ ZeB (n+1) N j→ZR s2' j=ZR s j:=fun j hj=>by
   rw[o2 j (fun z=>hj ⟨hge,.inr (.inl z)⟩),o1 j (fun z=>hj ⟨hge,.inl z⟩)]
  have b04:∀b o,H b=some o→b≠m→b≠sd→H4 b=some o:=fun b o hb n1 n2=>b4 b o (b3 b o (s2 b o hb) n1 n2) n1 n2
  have none':∀wn,Win (hdM L) N wn→(Win (hdM L) (lo N) none∨Win (hdM L) (up N) none)→Q (Zel wn) H4:=fun wn hw hno=>by
   refine q wn s2' (k1+k2) (q1+q2) H4 hw (fun _=>⟨S1',S2,fun a b x y wa wb _ _=>?_,fun _=>.inl hk2⟩) (.none hge P1 P2 hno) oth (by omega) (M4.cast (by omega) (by omega)) b04
   rcases hno with z|z
   ·exact nomatch z.one wa
   ·exact nomatch z.one wb
  cases w1 with
  | none=>exact⟨_,rfl,rfl,_,rfl,Zej rfl ⟨_,rfl,none' w2 (by have:=Win.right W1 W2;rwa [Zcn]at this) (.inl W1)⟩⟩
  | some a =>
  refine⟨_,rfl,rfl,_,rfl,Zdj (fun z=>nomatch z) ?_⟩
  cases w2 with
  | none=>exact⟨_,rfl,rfl,_,rfl,Zej rfl ⟨_,rfl,none' (some a) (by have:=Win.left W1 W2;rwa [Zcn]at this) (.inr W2)⟩⟩
  | some b =>
  refine⟨_,rfl,rfl,_,rfl,Zdj (fun z=>nomatch z) ?_⟩
  obtain⟨ea,hea,ea'⟩:=ZdG (hmlo a W1.1)
  obtain⟨eb,heb,eb'⟩:=ZdG (hmup b W2.1)
  subst ea'
  subst eb'
  have hda:=Zeg M.nd hea
  have hdb:=Zeg M.nd heb
  cases hx:ea.ss[ea.g]? with
  | none=>obtain⟨_,z,hz,_⟩:=W1;rw[hda,hx]at hz;cases hz
  | some x =>
  cases hy:eb.ss[eb.g]? with
  | none=>obtain⟨_,z,hz,_⟩:=W2;rw[hdb,hy]at hz;cases hz
  | some y =>
  rw[hx]at hda
  rw[hy]at hdb
  obtain⟨dx4,hm4⟩:=M4.ob
  refine⟨_,rfl,m,dx4,_,rfl,hm4,Zf8 ..,_,rfl,_,rfl,m,rd,sd,L,s2',nb,_,_,best,ea,eb,x,y,0,rfl,M4,hea,heb,hx,hy,Qv _,fun t5 wi lz H5 hw ht5 ht5' M5 b5=>?_⟩
  refine⟨t5,_,rfl,SqT.of ht5',rfl,_,_,rfl,_,_,rfl,_,_,rfl,rfl,?_⟩
  have sz2:2≤sizeLine:=by decide
  refine⟨_,rfl,_,rfl,sz2,fun t6 ht6=>?_⟩
  have s6:=Zi ht6 (.tup [.int lz,.int ((lcp (cds x) (cds y):Nat):Int)])
  have ht66:(upd H5 t6 (.tup [.int lz,.int ((lcp (cds x) (cds y):Nat):Int)])) t6=some (.tup [.int lz,.int ((lcp (cds x) (cds y):Nat):Int)]):=Zb
  have M6:=M5.same s6
  generalize upd H5 t6 (.tup [.int lz,.int ((lcp (cds x) (cds y):Nat):Int)])=H6 at s6 ht66 M6 ⊢
  obtain⟨dx6,hm6⟩:=M6.ob
  have hl6:H6 l=some (.lst (N.map V.int)):=s6 _ _ (b5 _ _ (b04 _ _ hl nml nsl) nml)
  refine⟨_,rfl,xw5 m cMerge dx6 _ _ ⟨rfl,hm6,T.cl_Merge,T.na_Merge_stays,ZcX ..,_,rfl,xw4 l _ _ _ ⟨rfl,rfl,SqL.of hl6,Zik hN,_,rfl,_,rfl,xw4 l _ _ _ ⟨rfl,rfl,SqL.of hl6,Zii hN,sz2,fun t7 ht7=>?_⟩⟩⟩⟩
  have s7:=Zi ht7 (.tup [.int (N.headD 0),.int (N.getLastD 0)])
  have ht77:(upd H6 t7 (.tup [.int (N.headD 0),.int (N.getLastD 0)])) t7=some (.tup ([.inl (ZO N).1,.inl (ZO N).2].map kV)):=Zb
  have M7:=M6.same s7
  generalize upd H6 t7 (.tup [.int (N.headD 0),.int (N.getLastD 0)])=H7 at s7 ht77 M7 ⊢
  have hsl:(kvS s2').length<sizeLine:=by unfold kvS;rw[Qa];exact ZI (by omega)
  refine⟨sd,_,rfl,ZeW.t (k:=[.inl (ZO N).1,.inl (ZO N).2]) M7.stays ht77 hsl,?_⟩
  rw[show V.ref t6=stV (some (t6,lz,((lcp (cds x) (cds y):Nat):Int))) from rfl,Zfw]
  have hpl:=Zmk s2' (ZO N) (some (t6,lz,((lcp (cds x) (cds y):Nat):Int)))
  have l1':=(ZdF hge).2
  have M8:=M7.put (k:=ZO N) (v:=some (t6,lz,((lcp (cds x) (cds y):Nat):Int))) (fun t ht=>by injection ht with ht;rw[← ht];exact s7 _ _ ht66) (by omega)
  have hne:ea.n≠eb.n:=fun z=>by have:=ZJ hup W1.1 W2.1;omega
  have b08:∀b o,H b=some o→b≠m→b≠sd→(upd H7 sd (.dT (kvS (Zc0 s2' (ZO N) (some (t6,lz,((lcp (cds x) (cds y):Nat):Int))))))) b=some o:=fun b o hb n1 n2=>by
   rw[Ze n2];exact s7 _ _ (s6 _ _ (b5 _ _ (b04 _ _ hb n1 n2) n1))
  have hwin:Win (hdM L) N (some wi):=by
   rcases hw with⟨w0,rfl,_⟩|⟨w0,rfl,_⟩
   ·have:=Win.both W1 W2 hda hdb w0;rwa [Zcn]at this
   ·have:=Win.both' W1 W2 hda hdb ((Btr.total hne).resolve_left w0);rwa [Zcn]at this
  have hlz:lz=if ZF (cds x) (cds y)<0∨(ZF (cds x) (cds y)=0∧ea.n<eb.n) then eb.n else ea.n:=by
   rcases hw with⟨w0,_,rfl⟩|⟨w0,_,rfl⟩
   ·exact(if_pos (show ZF (cds x) (cds y)<0∨(ZF (cds x) (cds y)=0∧ea.n<eb.n) from w0)).symm
   ·exact(if_neg (show ¬ (ZF (cds x) (cds y)<0∨(ZF (cds x) (cds y)=0∧ea.n<eb.n)) from w0)).symm
  refine⟨_,rfl,q (some wi) _ (k1+k2+1) (q1+q2+(lcp (cds x) (cds y):Nat)+1) _ hwin (fun _=>⟨?_,?_,?_,fun hno=>?_⟩) (.both hge P1 P2 W1 W2 hda hdb) (fun j hj=>?_) (by omega) (M8.cast (by omega) (by omega)) b08⟩
  ·exact S1'.congr n _ (fun _ _=>rfl) (fun k hk=>by rw[ZaZ,if_neg (ZhF hup hge hk).1])
  ·exact S2.congr n _ (fun _ _=>rfl) (fun k hk=>by rw[ZaZ,if_neg (Zid hup hge hk).1])
  ·intro a' b' x' y' wa wb hxa hyb
   have e1:=Qp (wa.one W1)
   have e2:=Qp (wb.one W2)
   subst e1
   subst e2
   have e3:=Qp (hxa.symm.trans hda)
   have e4:=Qp (hyb.symm.trans hdb)
   subst e3
   subst e4
   exact⟨t6,by rw[ZaZ,if_pos rfl,hlz]⟩
  ·rcases hno with z|z
   ·exact nomatch z.one W1
   ·exact nomatch z.one W2
  ·rw[ZaZ,if_neg (fun z=>hj ⟨hge,.inr (.inr z)⟩)]
   exact oth j hj
theorem ZeC.mono{C:Addr}{H H':Hp}{e:ZD}(h:ZeC C H e)(k:∀b o,H b=some o→b=e.p∨b=e.k∨b=e.f→H' b=some o):ZeC C H' e:=by
 obtain⟨dx,hd⟩:=h.at'.ob
 exact⟨⟨⟨dx,k _ _ hd (.inl rfl)⟩,k _ _ h.at'.ks (.inr (.inl rfl)),k _ _ h.at'.fs (.inr (.inr rfl))⟩,h.le,h.len,h.srt,h.str⟩
theorem Zmp(L:List ZD):(kvM L).map (fun kv=>kV kv.1)=(ZE L).map V.int:=by unfold kvM ZE;rw[QA,QA];rfl
theorem ZmH{n:Nat}{N:List Int}{k:Int×Int}(_:ZeB n N k):ZR [] k=none:=rfl
def Zg9(cR cM:Addr):Sp:=fun vs H Q _=>∃ (m rd sd:Addr) (L:List ZD) (s:StL) (nb li lo:Int) (best:V),vs=[.ref m]∧Z1 cR cM H m rd sd L s nb li lo best ∧
 ∀ (sd':Addr) (s':StL) (w:Option Int) (k q:Int) (H':Hp),H sd'=none→Win (hdM L) (ZE L) w→ZeP (hdM L) s' 8 (ZE L)→Zee (hdM L) 8 (ZE L) k q→Z1 cR cM H' m rd sd' L s' nb (li+k) (lo+q) (Zel w)→(∀b o,H b=some o→b≠m→H' b=some o)→Q .non H'
theorem ZiQ(T:Zaf K mg cRow cMerge)(f_Merge_play:Mf P w K mg base 12 cMerge "play" ["self", "numbers"] (Zm1 K cRow cMerge 8)):Mf P w K mg base 13 cMerge "play_all" ["self"] (Zg9 cRow cMerge):=by
 refine T.t_Merge_play_all.mf Zes (fun vs H Q E h=>?_) (fun cdv f A outer s H vs Q E hr h=>?_)
 ·obtain⟨m,rd,sd,L,s,nb,li,lo,best,rfl,_⟩:=h
  rfl
 obtain⟨m,rd,sd,L,s,nb,li,lo',best,rfl,M,q⟩:=h
 refine⟨_,#[Zf,#[Zb1,‹0›,(@ZhK _ _)],#[Zj,#[Zb1,‹0›,#[Za9,#[Zo,Zfi,#[Zk,Zth,(by rfl),T.b.n_len,Qs,#[Za,#[Zac,‹0›],#[Zd]]],#[Zh],(Zt _)],#[Zfc,f_Merge_play,T.cl_Merge,hr,‹0›,#[Za,#[ZcP,Zst,T.b.n_list,boot_list,#[Za,#[Zac,‹0›],#[Zd]]],#[Zd]]],#[Zar]]]]],?_⟩
 refine fun sd' hsd=>?_
 obtain⟨dx,hm⟩:=M.ob
 have s1:=Zi hsd (.dT [])
 have hs1:(upd H sd' (.dT [])) sd'=some (.dT (kvS [])):=Zb
 have M1:=M.same s1
 have hm1:=s1 _ _ hm
 have nms:m≠sd':=Zc hm hsd
 have nrs:rd≠sd':=Zc M.rows hsd
 generalize upd H sd' (.dT [])=H1 at s1 hs1 M1 hm1 ⊢
 refine⟨_,rfl,xw4 m cMerge dx _ ⟨rfl,hm1,T.cl_Merge,T.na_Merge_stays,Zct ..,?_⟩⟩
 rw[Zgx]
 obtain⟨n1,n2,n3⟩:=M.ne_m
 have M2:Z1 cRow cMerge (upd H1 m (.ins cMerge dx (mgF rd nb li lo' sd' best))) m rd sd' L [] nb li lo' best:=by
  refine⟨⟨dx,Zb⟩,by rw[Ze n1.symm];exact M1.rows,by rw[Ze nms.symm];exact hs1,(fun e he=>by cases he),fun e he=>?_,M.up,M.pd,M.few,by decide⟩
  obtain⟨a,b,c⟩:=M1.ne_p he
  exact(M1.each e he).keep (Ze a.symm) (Ze b.symm) (Ze c.symm)
 have k2:∀b o,H b=some o→b≠m→(upd H1 m (.ins cMerge dx (mgF rd nb li lo' sd' best))) b=some o:=fun b o hb n=>by rw[Ze n];exact s1 b o hb
 generalize upd H1 m (.ins cMerge dx (mgF rd nb li lo' sd' best))=H2 at M2 k2 ⊢
 obtain⟨dx2,hm2⟩:=M2.ob
 have hlen:(((kvM L).length:Nat):Int)=(L.length:Int):=by unfold kvM;rw[Qa]
 have hnl:(ZE L).length=L.length:=by unfold ZE;rw[Qa]
 have hfew:=M.few
 refine⟨_,rfl,xw5 m cMerge dx2 _ _ ⟨rfl,hm2,T.cl_Merge,T.na_Merge_rows,ZbU ..,rd,_,rfl,M2.rows,_,_,rfl,rfl,_,rfl,ZaV (fun d=>?_) (fun d=>?_)⟩⟩
 ·have hpos:0<L.length:=by have:(0:Int)<(((kvM L).length:Nat):Int):=of_decide_eq_true d;omega
  refine⟨_,rfl,m,dx2,_,rfl,hm2,Zen ..,_,rfl,xw5 m cMerge dx2 _ _ ⟨rfl,hm2,T.cl_Merge,T.na_Merge_rows,ZbU ..,rd,_,rfl,M2.rows,fun l hl=>?_⟩⟩
  rw[Zmp]
  have s3:=Zi hl (.lst ((ZE L).map V.int))
  have hl3:(upd H2 l (.lst ((ZE L).map V.int))) l=some (.lst ((ZE L).map V.int)):=Zb
  have M3:=M2.same s3
  generalize upd H2 l (.lst ((ZE L).map V.int))=H3 at s3 hl3 M3 ⊢
  refine⟨m,rd,sd',L,[],nb,li,lo',best,l,ZE L,rfl,M3,hl3,by omega,by omega,by decide,QP (by omega:(ZE L).length≤60) (by decide),fun x hx=>hx,M.up,fun k hk=>ZmH hk,by show 0+_≤_;omega,fun w1 s' k q' H4 W S Pl _ _ M4 b4=>?_⟩
  obtain⟨dx4,hm4⟩:=M4.ob
  refine⟨_,rfl,xw4 m cMerge dx4 _ ⟨rfl,hm4,T.cl_Merge,T.na_Merge_best,Zct ..,?_⟩⟩
  rw[Zb8]
  exact q sd' s' w1 k q' _ hsd W S Pl M4.obj (fun b o hb n=>by rw[Ze n];exact b4 b o (s3 b o (k2 b o hb n)) n (Zc hb hsd))
 ·have hnil:L=[]:=by
   cases L with
   | nil=>rfl
   | cons e r=>exact absurd (decide_eq_true (show (0:Int)<(((kvM (e::r)).length:Nat):Int) by rw[hlen];simp only[List.length_cons];omega)) d
  subst hnil
  refine⟨_,rfl,xw4 m cMerge dx2 _ ⟨rfl,hm2,T.cl_Merge,T.na_Merge_best,Zct ..,?_⟩⟩
  rw[Zb8]
  exact q sd' [] none 0 0 _ hsd (Win.nil _) (fun h2=>absurd h2 (by decide)) (.few (by decide)) (M2.obj.cast (by omega) (by omega)) (fun b o hb n=>by rw[Ze n];exact k2 b o hb n)
def ZqS(L:List ZD)(rs:List (Addr×List Str)):Prop:=ZE L=ZT 0 rs.length∧L.map (fun e=>(e.ss,e.g))=rs.map fun x=>(x.2,0)
def Zfe(cR cM:Addr):Sp:=fun vs H Q _=>∃ (m dx r:Addr) (rs:List (Addr×List Str)),vs=[.ref m,.ref r]∧H m=some (.ins cM dx [])∧Zcp H r rs∧(∀x∈rs,sortedS x.2=true) ∧
 ∀ (rd sd:Addr) (L:List ZD) (s:StL) (w:Option Int) (k q:Int) (H':Hp),Z1 cR cM H' m rd sd L s (rs.length:Int) k q (Zel w)→ZqS L rs→Win (hdM L) (ZE L) w→ZeP (hdM L) s 8 (ZE L)→Zee (hdM L) 8 (ZE L) k q→(∀b,Fp m rd sd L b→b=m∨H b=none)→(∀b o,H b=some o→b≠m→H' b=some o)→Q .non H'
theorem ZfR(rd:Addr)(nb li lo:Int)(sd:Addr)(best:V):(mgF rd nb li lo sd best).lookup ("play_all" : Str)=none:=Zda _ _ _ _ _ _ (by ac_rfl) (by ac_rfl) (by ac_rfl) (by ac_rfl) (by ac_rfl) (by ac_rfl)
theorem ZoO{ss:List Str}(h:sortedS ss=true):Zi2 ss .non:=by
 refine .inl ⟨rfl,fun i x y hx hy=>?_⟩
 have:=Zho h i y x hy hx
 have:=Zax (cds y) (cds x)
 omega
theorem ZgD(T:Zaf K mg cRow cMerge)(f_refuse_break:Df P w K mg base 5 "refuse_break" ["number", "keys"] (ZfD K))(f_Row_init:Cf P w K mg base 4 cRow "Row" ["self", "keys"] (Zhp cRow))(f_Merge_play_all:Mf P w K mg base 13 cMerge "play_all" ["self"] (Zg9 cRow cMerge)):Cf P w K mg base 14 cMerge "Merge" ["self", "rows"] (Zfe cRow cMerge):=by
 refine T.t_Merge_init.cf ZcC (fun vs H Q E h=>?_) (fun cdv f A outer s H vs Q E hr h=>?_)
 ·obtain⟨m,dx,r,rs,rfl,_⟩:=h
  rfl
 obtain⟨m,dx,r,rs,rfl,hm,hrs,hsrt,q⟩:=h
 refine⟨_,#[Zf,#[Zb1,‹0›,(@Znk _ _)],#[Zf,#[Zbo,PassesOwn.never,#[iE,K,T.b.n_enumerate,#[Za,‹1›,#[Zd]]],#[gT,K,2,#[Zs,#[Zw,2,ZcC.nd],#[Zs,#[Zw,3,ZcC.nd],(@Zal _)]]],#[Zf,#[ZaI,#[ZA,f_refuse_break,hr,#[Za,‹2›,#[Za,‹3›,#[Zd]]],(by rfl)]],#[Zj,#[ZaO,#[ZpR,f_Row_init,hr,#[Za,‹3›,#[Zd]]],#[ZdA,#[Zac,‹0›],‹2›,(Znl hr)]]]]],#[Zf,#[Zb1,‹0›,#[Zk,(Zbf K),(by rfl),T.b.n_len,Qs,#[Za,‹1›,#[Zd]]]],#[Zf,#[Zb1,‹0›,#[Zh]],#[Zf,#[Zb1,‹0›,#[Zh]],#[Zf,#[Zb1,‹0›,(@ZhK _ _)],#[Zf,#[Zb1,‹0›,#[Zar]],#[Zj,#[ZaI,#[Zdg,f_Merge_play_all,T.cl_Merge,hr,‹0›]]]]]]]]]],?_⟩
 refine fun rd hrd=>?_
 have nmr:m≠rd:=Zc hm hrd
 have s1:=Zi hrd (.dK [])
 have hr1:(upd H rd (.dK [])) rd=some (.dK (kvM [])):=Zb
 have hm1:=s1 _ _ hm
 generalize upd H rd (.dK [])=H1 at s1 hr1 hm1 ⊢
 refine⟨_,rfl,xw4 m cMerge dx _ ⟨rfl,hm1,T.cl_Merge,T.na_Merge_rows,(by show 0<1000;decide),?_⟩⟩
 have nrm:r≠m:=fun z=>by have:=hrs.at';rw[z,hm]at this;cases this
 have k2:∀b o,H b=some o→b≠m→(upd H1 m (.ins cMerge dx (Zr "rows" (.ref rd) []))) b=some o:=fun b o hb n=>by rw[Ze n];exact s1 b o hb
 have hm2:(upd H1 m (.ins cMerge dx (Zr "rows" (.ref rd) []))) m=some (.ins cMerge dx (Zr "rows" (.ref rd) [])):=Zb
 have hr2:(upd H1 m (.ins cMerge dx (Zr "rows" (.ref rd) []))) rd=some (.dK (kvM [])):=by rw[Ze nmr.symm];exact hr1
 generalize upd H1 m (.ins cMerge dx (Zr "rows" (.ref rd) []))=H2 at k2 hm2 hr2 ⊢
 have hfew:=hrs.few
 have lkr:(Zr "rows" (.ref rd) []).lookup ("rows" : Str)=some (V.ref rd):=by rw[Zm,if_pos rfl]
 refine⟨_,rfl,r,_,rfl,SqL.of (k2 _ _ hrs.at' nrm),?_⟩
 refine Zge (K:=K) (a:=r) (xs:=rs.map fun x=>V.ref x.1) (fun i σ H5=>∃ (L:List ZD) (v2 v3:Option V),σ=[some (.ref m),some (.ref r),v2,v3]∧H5 m=some (.ins cMerge dx (Zr "rows" (.ref rd) []))∧H5 rd=some (.dK (kvM L))∧(∀e∈L,ZeC cRow H5 e)∧ZqS L (rs.take i)∧(L.map (·.p)).Nodup∧(∀e∈L,H e.p=none∧H e.k=none∧H e.f=none)∧(∀b o,H b=some o→b≠m→H5 b=some o)) ⟨[],_,_,rfl,hm2,hr2,(fun e h=>by cases h),⟨rfl,rfl⟩,List.nodup_nil,(fun e h=>by cases h),k2⟩ (fun i σ H5 hq=>by obtain⟨_,_,_,_,_,_,_,_,_,_,k5⟩:=hq;exact SqL.of (k5 _ _ hrs.at' nrm)) ?_ ?_
 ·rintro i y σ H5 p hy ⟨L,v2,v3,rfl,hm5,hr5,each,⟨n1,n2⟩,pd,hfr,k5⟩ hp
  rw[Qi]at hy
  cases hz:rs[i]? with
  | none=>rw[hz]at hy;cases hy
  | some x =>
  rw[hz]at hy
  cases hy
  have hil:i<rs.length:=(Qc.mp hz).1
  have hxm:=Qq hz
  obtain⟨lx,l100,laz⟩:=hrs.lst x hxm
  have nxm:x.1≠m:=fun z=>by rw[z,hm]at lx;cases lx
  have hLl:L.length=i:=by have:=congrArg List.length n1;unfold ZE at this;rw[Qa,Zao,Qz]at this;omega
  have hlt:∀e∈L,e.n≠(i:Int):=fun e he z=>by
   have h1:e.n∈ZT 0 (rs.take i).length:=by rw[← n1];exact Qm (f:=fun e:ZD=>e.n) he
   unfold ZT at h1
   obtain⟨j,hj,ej⟩:=Qt.mp h1
   have:=QX.mp hj
   rw[Qz]at this
   omega
  have sp:=Zi hp (.tup [.int (i:Int),.ref x.1])
  have hp6:(upd H5 p (.tup [.int (i:Int),.ref x.1])) p=some (.tup [.int (i:Int),.ref x.1]):=Zb
  generalize upd H5 p (.tup [.int (i:Int),.ref x.1])=H6 at sp hp6 ⊢
  refine⟨p,_,rfl,SqT.of hp6,rfl,_,_,rfl,_,_,rfl,rfl,?_⟩
  have lx6:H6 x.1=some (.lst (x.2.map V.str)):=sp _ _ (k5 _ _ lx nxm)
  refine⟨_,rfl,_,rfl,(i:Int),x.1,x.2,rfl,SqL.of lx6,by omega,fun s hs=>(laz s hs).1,ZoO (hsrt x hxm),fun H7 s7=>?_⟩
  have s57:=sp.trans s7
  refine⟨_,rfl,fun u dy hu hdy ndu=>?_⟩
  have hu5:H5 u=none:=s57.free hu
  have lx8:(upd (upd H7 dy (.own u)) u (.ins cRow dy [])) x.1=some (.lst (x.2.map V.str)):=by
   have:=s7 _ _ lx6
   rw[Ze (Zc this hu),Ze (Zc this hdy)];exact this
  have s8:∀b o,H5 b=some o→(upd (upd H7 dy (.own u)) u (.ins cRow dy [])) b=some o:=fun b o hb=>by
   have:=s57 _ _ hb
   rw[Ze (Zc this hu),Ze (Zc this hdy)];exact this
  have hu8:(upd (upd H7 dy (.own u)) u (.ins cRow dy [])) u=some (.ins cRow dy []):=Zb
  generalize upd (upd H7 dy (.own u)) u (.ins cRow dy [])=H8 at lx8 s8 hu8 ⊢
  refine⟨u,dy,x.1,x.2,rfl,hu8,lx8,l100,fun s hs=>(laz s hs).1,fun k f H9 hk hf nkf R k9=>⟨rfl,?_⟩⟩
  have s9:∀b o,H5 b=some o→H9 b=some o:=fun b o hb=>k9 b o (s8 b o hb) (Zc hb hu5)
  have free5:∀b,H8 b=none→H5 b=none:=fun b hb=>by
   cases e:H5 b with
   | none=>rfl
   | some o=>rw[s8 b o e]at hb;cases hb
  have free0:∀b,b≠m→H5 b=none→H b=none:=fun b nb hb=>by
   cases e:H b with
   | none=>rfl
   | some o=>rw[k5 b o e nb]at hb;cases hb
  have num:u≠m:=fun z=>by rw[z,hm5]at hu5;cases hu5
  have nkm:k≠m:=fun z=>by have:=free5 k hk;rw[z,hm5]at this;cases this
  have nfm:f≠m:=fun z=>by have:=free5 f hf;rw[z,hm5]at this;cases this
  have nrd:rd≠u∧rd≠k∧rd≠f:=⟨Zc hr5 hu5,Zc hr5 (free5 k hk),Zc hr5 (free5 f hf)⟩
  have hsz:(kvM L).length<sizeLine:=by unfold kvM;rw[Qa];exact ZI (by omega)
  have hn1:ZbE (kvM L) (.inl (i:Int))=none:=by
   cases hv:ZbE (kvM L) (.inl (i:Int)) with
   | none=>rfl
   | some v=>obtain⟨e,he,z⟩:=Qt.mp (Zmz hv);injection z with z _;exact absurd (Sum.inl.inj z) (hlt e he)
  refine⟨_,rfl,xw5 m cMerge dx _ _ ⟨rfl,s9 _ _ hm5,T.cl_Merge,T.na_Merge_rows,lkr,_,rfl,rd,_,rfl,ZeW.k (k:=.inl (i:Int)) (s9 _ _ hr5) hsz,?_⟩⟩
  rw[ZmW _ hn1,show kvM L++[((.inl (i:Int):Key),V.ref u)]=kvM (L++[⟨(i:Int),u,k,f,x.2,0⟩]) by unfold kvM;rw[Qe];rfl]
  refine⟨L++[⟨(i:Int),u,k,f,x.2,0⟩],_,_,rfl,by rw[Ze nmr];exact s9 _ _ hm5,Zb,fun e he=>?_,⟨?_,?_⟩,?_,fun e he=>?_,fun b o hb n=>?_⟩
  ·rcases Qf.mp he with he|he
   ·have re:=each e he
    obtain⟨de,hde⟩:=re.at'.ob
    refine re.mono fun b o hb hor=>?_
    have nb:b≠rd:=fun z=>by
     rw[z,hr5]at hb
     injection hb with hb
     subst hb
     rcases hor with z2|z2|z2
     ·rw[← z2,z,hr5]at hde;cases hde
     ·have:=re.at'.ks;rw[← z2,z,hr5]at this;cases this
     ·have:=re.at'.fs;rw[← z2,z,hr5]at this;cases this
    rw[Ze nb];exact s9 b o hb
   ·rw[Qd.mp he]
    refine ZeC.keep (H:=H9) ⟨R,Qv _,l100,hsrt x hxm,laz⟩ (Ze nrd.1.symm) (Ze nrd.2.1.symm) (Ze nrd.2.2.symm)
  ·unfold ZE at n1 ⊢
   rw[Qe,n1,Qz,Qz,Nat.min_eq_left (by omega),Nat.min_eq_left (by omega)]
   unfold ZT
   rw[Qag,Qe]
   simp
  ·rw[Qe,n2,QH,hz,Qe];rfl
  ·rw[Qe]
   refine QW.mpr ⟨pd,by simp,fun a ha b hb=>?_⟩
   obtain⟨e,he,rfl⟩:=Qt.mp ha
   have:b=u:=by simpa using hb
   rw[this]
   obtain⟨de,hde⟩:=(each e he).at'.ob
   exact Zc hde hu5
  ·rcases Qf.mp he with he|he
   ·exact hfr e he
   ·rw[Qd.mp he]
    exact⟨free0 u num hu5,free0 k nkm (free5 k hk),free0 f nfm (free5 f hf)⟩
  ·rw[Ze (Zc hb hrd)];exact s9 b o (k5 b o hb n)
 ·rintro σ H5 ⟨L,v2,v3,rfl,hm5,hr5,each,hnew,pd,hfr,k5⟩
  rw[Qa,Qx (Qh _)]at hnew
  have p1:=ZbX "rows" (V.ref rd) []
  have p2:=ZbX "next_number" (V.int (rs.length:Int)) (Zr "rows" (.ref rd) [])
  have p3:=ZbX "likened" (V.int 0) (Zr "next_number" (.int (rs.length:Int)) (Zr "rows" (.ref rd) []))
  have p4:=ZbX "looked" (V.int 0) (Zr "likened" (.int 0) (Zr "next_number" (.int (rs.length:Int)) (Zr "rows" (.ref rd) [])))
  have p0:([]:List (Str×V)).length=0:=rfl
  refine⟨_,rfl,r,_,rfl,.inl (SqL.of (k5 _ _ hrs.at' nrm)),_,rfl,xw4 m cMerge dx _ ⟨rfl,hm5,T.cl_Merge,T.na_Merge_next_number,by omega,?_⟩⟩
  rw[Qa]
  refine⟨_,rfl,xw4 m cMerge dx _ ⟨rfl,Zb,T.cl_Merge,T.na_Merge_likened,by omega,?_⟩⟩
  refine⟨_,rfl,xw4 m cMerge dx _ ⟨rfl,Zb,T.cl_Merge,T.na_Merge_looked,by omega,?_⟩⟩
  have k8:∀b,b≠m→(upd (upd (upd H5 m (.ins cMerge dx (Zr "next_number" (.int (rs.length:Int)) (Zr "rows" (.ref rd) [])))) m (.ins cMerge dx (Zr "likened" (.int 0) (Zr "next_number" (.int (rs.length:Int)) (Zr "rows" (.ref rd) []))))) m (.ins cMerge dx (Zr "looked" (.int 0) (Zr "likened" (.int 0) (Zr "next_number" (.int (rs.length:Int)) (Zr "rows" (.ref rd) [])))))) b=H5 b:=fun b n=>by rw[Ze n,Ze n,Ze n]
  have hm8:(upd (upd (upd H5 m (.ins cMerge dx (Zr "next_number" (.int (rs.length:Int)) (Zr "rows" (.ref rd) [])))) m (.ins cMerge dx (Zr "likened" (.int 0) (Zr "next_number" (.int (rs.length:Int)) (Zr "rows" (.ref rd) []))))) m (.ins cMerge dx (Zr "looked" (.int 0) (Zr "likened" (.int 0) (Zr "next_number" (.int (rs.length:Int)) (Zr "rows" (.ref rd) [])))))) m=some (.ins cMerge dx (Zr "looked" (.int 0) (Zr "likened" (.int 0) (Zr "next_number" (.int (rs.length:Int)) (Zr "rows" (.ref rd) []))))):=Zb
  generalize (upd (upd (upd H5 m (.ins cMerge dx (Zr "next_number" (.int (rs.length:Int)) (Zr "rows" (.ref rd) [])))) m (.ins cMerge dx (Zr "likened" (.int 0) (Zr "next_number" (.int (rs.length:Int)) (Zr "rows" (.ref rd) []))))) m (.ins cMerge dx (Zr "looked" (.int 0) (Zr "likened" (.int 0) (Zr "next_number" (.int (rs.length:Int)) (Zr "rows" (.ref rd) []))))))=H8 at k8 hm8 ⊢
  refine fun sd hsd=>?_
  have nms:m≠sd:=Zc hm8 hsd
  have p5:=ZbX "stays" (V.ref sd) (Zr "looked" (.int 0) (Zr "likened" (.int 0) (Zr "next_number" (.int (rs.length:Int)) (Zr "rows" (.ref rd) []))))
  refine⟨_,rfl,xw4 m cMerge dx _ ⟨rfl,by rw[Ze nms];exact hm8,T.cl_Merge,T.na_Merge_stays,by omega,?_⟩⟩
  refine⟨_,rfl,xw4 m cMerge dx _ ⟨rfl,Zb,T.cl_Merge,T.na_Merge_best,by omega,?_⟩⟩
  have hsd5:H5 sd=none:=by rw[← k8 sd nms.symm];exact hsd
  have hm9:(upd (upd (upd H8 sd (.dT [])) m (.ins cMerge dx (Zr "stays" (.ref sd) (Zr "looked" (.int 0) (Zr "likened" (.int 0) (Zr "next_number" (.int (rs.length:Int)) (Zr "rows" (.ref rd) []))))))) m (.ins cMerge dx (Zr "best" .non (Zr "stays" (.ref sd) (Zr "looked" (.int 0) (Zr "likened" (.int 0) (Zr "next_number" (.int (rs.length:Int)) (Zr "rows" (.ref rd) [])))))))) m=some (.ins cMerge dx (mgF rd (rs.length:Int) 0 0 sd .non)):=by rw[ZbK];exact Zb
  have hs9:(upd (upd (upd H8 sd (.dT [])) m (.ins cMerge dx (Zr "stays" (.ref sd) (Zr "looked" (.int 0) (Zr "likened" (.int 0) (Zr "next_number" (.int (rs.length:Int)) (Zr "rows" (.ref rd) []))))))) m (.ins cMerge dx (Zr "best" .non (Zr "stays" (.ref sd) (Zr "looked" (.int 0) (Zr "likened" (.int 0) (Zr "next_number" (.int (rs.length:Int)) (Zr "rows" (.ref rd) [])))))))) sd=some (.dT (kvS [])):=by rw[Ze nms.symm,Ze nms.symm];exact Zb
  have k9:∀b o,H5 b=some o→b≠m→(upd (upd (upd H8 sd (.dT [])) m (.ins cMerge dx (Zr "stays" (.ref sd) (Zr "looked" (.int 0) (Zr "likened" (.int 0) (Zr "next_number" (.int (rs.length:Int)) (Zr "rows" (.ref rd) []))))))) m (.ins cMerge dx (Zr "best" .non (Zr "stays" (.ref sd) (Zr "looked" (.int 0) (Zr "likened" (.int 0) (Zr "next_number" (.int (rs.length:Int)) (Zr "rows" (.ref rd) [])))))))) b=some o:=fun b o hb n=>by rw[Ze n,Ze n,Ze (Zc hb hsd5),k8 b n];exact hb
  generalize (upd (upd (upd H8 sd (.dT [])) m (.ins cMerge dx (Zr "stays" (.ref sd) (Zr "looked" (.int 0) (Zr "likened" (.int 0) (Zr "next_number" (.int (rs.length:Int)) (Zr "rows" (.ref rd) []))))))) m (.ins cMerge dx (Zr "best" .non (Zr "stays" (.ref sd) (Zr "looked" (.int 0) (Zr "likened" (.int 0) (Zr "next_number" (.int (rs.length:Int)) (Zr "rows" (.ref rd) []))))))))=H9 at hm9 hs9 k9 ⊢
  have hLl:L.length=rs.length:=by have:=congrArg List.length hnew.1;unfold ZE at this;rw[Qa,Zao]at this;exact this
  have M9:Z1 cRow cMerge H9 m rd sd L [] (rs.length:Int) 0 0 .non:=by
   refine⟨⟨dx,hm9⟩,k9 _ _ hr5 nmr.symm,hs9,(fun e he=>by cases he),fun e he=>?_,by rw[hnew.1];exact Zey _,pd,by omega,by decide⟩
   have re:=each e he
   obtain⟨de,hde⟩:=re.at'.ob
   refine re.mono fun b o hb hor=>k9 b o hb fun z=>?_
   have hf:=hfr e he
   have hm':=hm
   rw[← z]at hm'
   rcases hor with z2|z2|z2
   ·rw[z2,hf.1]at hm';cases hm'
   ·rw[z2,hf.2.1]at hm';cases hm'
   ·rw[z2,hf.2.2]at hm';cases hm'
  refine⟨_,rfl,m,dx,_,rfl,hm9,ZfR ..,m,rd,sd,L,[],_,0,0,.non,rfl,M9,fun sd' s' w1 k q' H10 hsd' W S Pl M10 b10=>?_⟩
  have free0:∀b,b≠m→H9 b=none→H b=none:=fun b nb hb=>by
   cases e:H b with
   | none=>rfl
   | some o=>rw[k9 b o (k5 b o e nb) nb]at hb;cases hb
  refine q rd sd' L s' w1 k q' H10 (M10.cast (by omega) (by omega)) hnew W S Pl (fun b hb=>?_) (fun b o hb n=>b10 b o (k9 b o (k5 b o hb n) n) n)
  rcases hb with rfl|rfl|rfl|⟨e,he,hb⟩
  ·exact .inl rfl
  ·exact .inr hrd
  ·exact .inr (free0 _ (fun z=>by rw[z,hm9]at hsd';cases hsd') hsd')
  ·have hf:=hfr e he
   rcases hb with rfl|rfl|rfl
   ·exact .inr hf.1
   ·exact .inr hf.2.1
   ·exact .inr hf.2.2
def spLik(cR cM:Addr):Sp:=fun vs H Q _=>∃ (m rd sd:Addr) (L:List ZD) (s:StL) (nb li lo:Int) (best:V),vs=[.ref m]∧Z1 cR cM H m rd sd L s nb li lo best∧Q (.int li) H
def spLks(cR cM:Addr):Sp:=fun vs H Q _=>∃ (m rd sd:Addr) (L:List ZD) (s:StL) (nb li lo:Int) (best:V),vs=[.ref m]∧Z1 cR cM H m rd sd L s nb li lo best∧Q (.int lo) H
def Zis(cR cM:Addr):Sp:=fun vs H Q _=>∃ (m rd sd:Addr) (L:List ZD) (s:StL) (nb li lo:Int) (w:Option Int),vs=[.ref m]∧Z1 cR cM H m rd sd L s nb li lo (Zel w)∧Win (hdM L) (ZE L) w∧∀ (x:V) (H':Hp),Zp4 (L.map toL) H' x→Zu H H'→Q x H'
theorem ZlJ(T:Zaf K mg cRow cMerge)(f_Row_head:Mf P w K mg base 2 cRow "head" ["self"] (ZfC cRow)):Mf P w K mg base 3 cMerge "coming" ["self"] (Zis cRow cMerge):=by
 refine T.t_Merge_coming.mf Zdk (fun vs H Q E h=>?_) (fun cdv f A outer s H vs Q E hr h=>?_)
 ·obtain⟨m,rd,sd,L,s,nb,li,lo,w,rfl,_⟩:=h
  rfl
 obtain⟨m,rd,sd,L,s,nb,li,lo,w,rfl,M,W,q⟩:=h
 refine⟨_,#[Zf,#[ZZ,#[Zo,ZdR,#[Zac,‹0›],#[Zar],(Zt _)],#[Zj,#[Zn,#[Zar]]],#[ZB]],#[Zf,#[Zz,1,Zdk.nd,(Or.inl rfl),#[Zx,(ixG hr),#[Zac,‹0›],#[Zac,‹0›]]],#[Zj,#[Zn,#[ZN,#[Za,#[Zac,‹0›],#[Za,#[Zac,‹1›],#[Za,#[Zdg,f_Row_head,T.cl_Row,hr,‹1›],#[Zd]]]]]]]]],?_⟩
 obtain⟨dx,hm⟩:=M.ob
 refine⟨_,rfl,xw5 m cMerge dx _ _ ⟨rfl,hm,T.cl_Merge,T.na_Merge_best,Zdz ..,rfl,_,rfl,?_⟩⟩
 have W':Win (hdL (L.map toL)) ((L.map toL).map (·.1)) w:=by rw[ZeF];exact W
 cases w with
 | none=>exact Zej rfl (q _ H (.inl ⟨rfl,W'⟩) (Zu.refl H))
 | some a =>
  obtain⟨e,he,rfl⟩:=ZdG W.1
  have R:=M.each e he
  obtain⟨dp,hp⟩:=R.at'.ob
  have hd:=Zeg M.nd he
  cases hx:e.ss[e.g]? with
  | none=>obtain⟨_,z,hz,_⟩:=W;rw[hd,hx]at hz;cases hz
  | some x =>
  refine Zdj (fun z=>nomatch z) ?_
  refine⟨_,rfl,xw5 m cMerge dx _ _ ⟨rfl,hm,T.cl_Merge,T.na_Merge_rows,ZbU ..,_,rfl,xw5 m cMerge dx _ _ ⟨rfl,hm,T.cl_Merge,T.na_Merge_best,Zdz ..,rd,_,rfl,ZbZ.k' (k:=.inl e.n) M.rows (ZfS M.nd he),?_⟩⟩⟩
  refine⟨_,rfl,xw5 m cMerge dx _ _ ⟨rfl,hm,T.cl_Merge,T.na_Merge_best,Zdz ..,_,rfl,e.p,cRow,dp,_,_,rfl,hp,T.cl_Row,T.na_Row_gone,ZcT ..,_,rfl,e.p,dp,_,rfl,hp,ZbS ..,xw5 e.p e.k e.f e.ss e.g ⟨rfl,R.at',(by show 3≤sizeLine;decide),fun t ht=>?_⟩⟩⟩
  rw[Zew hx]
  exact q _ _ (.inr ⟨t,toL e,x,rfl,Qm he,hx,Zb,W'⟩) (Zi ht _)
def spLeftM(cR cM:Addr):Sp:=fun vs H Q _=>∃ (m rd sd:Addr) (L:List ZD) (s:StL) (nb li lo:Int) (best:V),vs=[.ref m]∧Z1 cR cM H m rd sd L s nb li lo best∧∀H':Hp,Zu H H'→Q (.int (ZpQ (L.map toL)).sum) H'
def ZsX(L:List Za6):List (Int×Option Str):=L.map fun e=>(e.1,e.2.2.1[e.2.2.2]?)
def ZrQ(H:Hp)(l:Addr)(E:List (Int×Option Str)):Prop:=∃ts:List (Addr×Int×Option Str),ts.map (·.2)=E∧H l=some (.lst (ts.map fun t=>V.ref t.1))∧∀t∈ts,H t.1=some (.tup [.int t.2.1,oV t.2.2])
theorem Zl9(ss:List Str)(g:Nat):Zeu ss g=oV ss[g]?:=by unfold Zeu oV;cases ss[g]?<;>rfl
def spHeadsM(cR cM:Addr):Sp:=fun vs H Q _=>∃ (m rd sd:Addr) (L:List ZD) (s:StL) (nb li lo:Int) (best:V),vs=[.ref m]∧Z1 cR cM H m rd sd L s nb li lo best∧∀ (l:Addr) (H':Hp),H l=none→ZrQ H' l (ZsX (L.map toL))→Zu H H'→Q (.ref l) H'
def Agr(Lo:List Za6)(L:List ZD):Prop:=Lo.map (fun e=>(e.1,e.2.2))=L.map (fun e=>(e.n,(e.ss,e.g)))
theorem Zkv:∀ (A B:List Za6),A.map (fun e=>(e.1,e.2.2))=B.map (fun e=>(e.1,e.2.2))→hdL A=hdL B
 | [],[],_=>rfl
 | [],_::_,h=>by cases h
 | _::_,[],h=>by cases h
 | a::A,b::B,h=>by
  rw[Qj,Qj]at h
  injection h with h1 h2
  injection h1 with h3 h4
  have ih:=Zkv A B h2
  funext n
  have ihn:=congrFun ih n
  unfold hdL at ihn ⊢
  rw[Qam,Qam,h3]
  split
  ·simp only[Option.bind_some];rw[h4]
  ·exact ihn
theorem Zdf{α β:Type}:∀ {P:List (α×β)},(P.map (·.1)).Nodup→∀ {p q:α×β},p∈P→q∈P→p.1=q.1→p=q
 | [],_,_,_,h,_,_=>by cases h
 | x::r,nd,p,q,hp,hq,e=>by
  rw[Qj,Q3]at nd
  rcases QI.mp hp with h1|h1
  ·rcases QI.mp hq with h2|h2
   ·rw[h1,h2]
   ·exact absurd (show x.1∈r.map (·.1) by rw[← h1,e];exact Qm (f:=fun x:α×β=>x.1) h2) nd.1
  ·rcases QI.mp hq with h2|h2
   ·exact absurd (show x.1∈r.map (·.1) by rw[← h2,← e];exact Qm (f:=fun x:α×β=>x.1) h1) nd.1
   ·exact Zdf nd.2 h1 h2 e
def FlatV(x:V):Prop:=x=.non∨(∃b,x=.bl b)∨(∃i,x=.int i)∨∃s,x=.str s
structure F2 (R:V→V→Prop) (xs ys:List V):Prop where
 len:xs.length=ys.length
 at':∀ (i:Nat) (x y:V),xs[i]? = some x→ys[i]? = some y→R x y
theorem ZhL(rd:Addr)(nb li lo:Int)(sd:Addr)(best:V):(mgF rd nb li lo sd best).lookup ("coming" : Str)=none:=Zda _ _ _ _ _ _ (by ac_rfl) (by ac_rfl) (by ac_rfl) (by ac_rfl) (by ac_rfl) (by ac_rfl)
def spStands(cR cM:Addr):Sp:=fun vs H Q _=>∃ (m rd sd:Addr) (L:List ZD) (s:StL) (nb li lo:Int) (w:Option Int) (o ra ga:Addr) (Lo:List Za6) (nb':Int),vs=[.ref m,.ref o]∧Z1 cR cM H m rd sd L s nb li lo (Zel w)∧Win (hdM L) (ZE L) w∧Own H o ra ga Lo nb' li lo∧Agr Lo L∧∀H',Zu H H'→Q (.bl true) H'
def rowsD(rs:List (Addr×List Str)):PyData:=.list (rs.map fun x=>.list (x.2.map PyData.str))
def Zae(M:List Int)(n:Int):List Int:=if n∈lo M then lo M else up M
def Zap(M:List Int)(n:Int):List Int:=if n∈lo M then up M else lo M
def ZV:Nat→List Int→Int→List (List Int)
 | 0,_,_=>[]
 | k+1,M,n=>if 2≤M.length then ZV k (Zae M n) n++[M] else []
inductive Sub (N:List Int):List Int→Prop
 | top:Sub N N
 | lo {M:List Int}:Sub N M→2≤M.length→Sub N (lo M)
 | up {M:List Int}:Sub N M→2≤M.length→Sub N (up M)
theorem Sub.trans{A B C:List Int}(h:Sub A B)(k:Sub B C):Sub A C:=by
 induction k with
 | top=>exact h
 | lo _ h2 ih=>exact ih.lo h2
 | up _ h2 ih=>exact ih.up h2
theorem Sub.rise{N M:List Int}(h:Sub N M)(r:Zai N):Zai M:=by
 induction h with
 | top=>exact r
 | lo _ _ ih=>exact ZdZ ih
 | up _ _ ih=>exact ZdT ih
theorem Sub.mem{N M:List Int}(h:Sub N M){x:Int}(hx:x∈M):x∈N:=by
 induction h with
 | top=>exact hx
 | lo _ _ ih=>exact ih (Qab hx)
 | up _ _ ih=>exact ih (Qan hx)
theorem ZiI{M:List Int}(h:2≤M.length)(n:Int):Sub M (Zae M n):=by
 unfold Zae
 split
 ·exact Sub.top.lo h
 ·exact Sub.top.up h
theorem ZdH{M:List Int}{n:Int}(h:n∈M):n∈Zae M n:=by
 unfold Zae
 split
 ·assumption
 ·rename_i hn
  rw[← Zcn M]at h
  exact(Qf.mp h).resolve_left hn
theorem Zgc{M:List Int}(r:Zai M){n:Int}(hn:n∈Zae M n):n ∉ Zap M n:=by
 intro h
 unfold Zap Zae at *
 split at h
 ·rename_i hl
  have:=ZJ r hl h
  omega
 ·rename_i hl;exact hl h
theorem ZeQ(M:List Int)(n:Int):(Zae M n++Zap M n).Perm M:=by
 unfold Zae Zap
 split
 ·rw[Zcn]
 ·exact List.perm_append_comm.trans (by rw[Zcn])
def Kys(M:List Int)(k:Int×Int):Prop:=∃M',Sub M M'∧2≤M'.length∧k=ZO M'
theorem Zia{M:List Int}{k:Int×Int}(h:Kys M k):k.1∈M∧k.2∈M:=by
 obtain⟨M',s,h2,rfl⟩:=h
 have hn:M'≠[]:=Z8 (by omega)
 exact⟨s.mem (Zcc hn),s.mem (Zce hn)⟩
theorem ZnX{M:List Int}(r:Zai M)(h2:2≤M.length){k:Int×Int}(h:Kys (lo M) k):k≠ZO M∧¬ Kys (up M) k:=by
 have:=Zia h
 refine⟨fun z=>?_,fun m=>?_⟩
 ·have h1:=Ze3 h2
  rw[z,h1]at this
  have:=ZJ r this.2 (Zce (Z8 (Zef h2).2))
  omega
 ·have:=ZJ r this.1 (Zia m).1
  omega
theorem Znd{M:List Int}(r:Zai M)(h2:2≤M.length){k:Int×Int}(h:Kys (up M) k):k≠ZO M∧¬ Kys (lo M) k:=by
 have:=Zia h
 refine⟨fun z=>?_,fun m=>?_⟩
 ·have h1:=Ze9 h2
  rw[z,h1]at this
  have:=ZJ r (Zcc (Z8 (ZdF h2).2)) this.1
  omega
 ·have:=ZJ r (Zia m).1 this.1
  omega
theorem Zi9{M:List Int}(r:Zai M)(h2:2≤M.length){n:Int}{k:Int×Int}(h:Kys (Zae M n) k):k≠ZO M∧¬ Kys (Zap M n) k:=by
 unfold Zae at h
 unfold Zap
 split
 ·rename_i hl;rw[if_pos hl]at h;exact ZnX r h2 h
 ·rename_i hl;rw[if_neg hl]at h;exact Znd r h2 h
theorem ZiC{M:List Int}(r:Zai M)(h2:2≤M.length){n:Int}{k:Int×Int}(h:Kys (Zap M n) k):k≠ZO M∧¬ Kys (Zae M n) k:=by
 unfold Zap at h
 unfold Zae
 split
 ·rename_i hl;rw[if_pos hl]at h;exact Znd r h2 h
 ·rename_i hl;rw[if_neg hl]at h;exact ZnX r h2 h
theorem Ze1{M M':List Int}(h:Sub M M'):M'=M∨(2≤M.length∧(Sub (lo M) M'∨Sub (up M) M')):=by
 induction h with
 | top=>exact .inl rfl
 | lo h h2 ih =>
  rcases ih with rfl|⟨g,ih⟩
  ·exact .inr ⟨h2,.inl .top⟩
  ·exact .inr ⟨g,ih.imp (fun z=>z.lo h2) (fun z=>z.lo h2)⟩
 | up h h2 ih =>
  rcases ih with rfl|⟨g,ih⟩
  ·exact .inr ⟨h2,.inr .top⟩
  ·exact .inr ⟨g,ih.imp (fun z=>z.up h2) (fun z=>z.up h2)⟩
theorem ZmE{M M':List Int}(n:Int)(h:Sub M M'):M'=M∨(2≤M.length∧(Sub (Zae M n) M'∨Sub (Zap M n) M')):=by
 rcases Ze1 h with h|⟨g,h⟩
 ·exact .inl h
 ·refine .inr ⟨g,?_⟩
  unfold Zae Zap
  split
  ·exact h
  ·exact h.symm
def Zec(hd:Hd)(s:StL)(A B:List Int)(k:Int×Int):Prop :=
 (∀a b x y,Win hd A (some a)→Win hd B (some b)→hd a=some x→hd b=some y→∃t lz,ZR s k=some (some (t,lz,((lcp x y:Nat):Int)))∧((Btr x a y b∧lz=b)∨(Btr y b x a∧lz=a))) ∧
 ((Win hd A none∨Win hd B none)→ZR s k=none∨ZR s k=some none)
theorem Zec.swap{hd:Hd}{s:StL}{A B:List Int}{k:Int×Int}(h:Zec hd s A B k):Zec hd s B A k:=by
 refine⟨fun a b x y wa wb hx hy=>?_,fun hw=>h.2 hw.symm⟩
 obtain⟨t,lz,e,o⟩:=h.1 b a y x wb wa hy hx
 exact⟨t,lz,by rw[Zcm x y];exact e,o.symm⟩
def Z6(hd:Hd)(s:StL)(N:List Int):Prop:=∀M,Sub N M→2≤M.length→Zec hd s (lo M) (up M) (ZO M)
theorem Z6.sub{hd:Hd}{s:StL}{N M:List Int}(h:Z6 hd s N)(k:Sub N M):Z6 hd s M:=fun M' h' h2=>h M' (k.trans h') h2
theorem Z6.at_side{hd:Hd}{s:StL}{M:List Int}(h:Z6 hd s M)(h2:2≤M.length)(n:Int):Zec hd s (Zae M n) (Zap M n) (ZO M):=by
 have:=h M .top h2
 unfold Zae Zap
 split
 ·exact this
 ·exact this.swap
theorem Zf6:∀ (n:Nat) (hd:Hd) (s:StL) (N:List Int),Zai N→N.length≤2 ^ (n-1)→0<n→ZeP hd s n N→Z6 hd s N
 | 0,_,_,_,_,_,h,_=>absurd h (by omega)
 | n+1,hd,s,N,r,hl,_,h=>fun M hM h2=>by
  rw[Qat]at hl
  rcases Ze1 hM with rfl|⟨g,hM⟩
  ·obtain⟨_,_,c1,c2⟩:=h h2
   refine⟨fun a b x y wa wb hx hy=>?_,c2⟩
   obtain⟨t,e⟩:=c1 a b x y wa wb hx hy
   have hab:=ZJ r wa.1 wb.1
   by_cases hb:ZF x y<0∨(ZF x y=0∧a<b)
   ·rw[if_pos hb]at e;exact⟨t,b,e,.inl ⟨hb,rfl⟩⟩
   ·rw[if_neg hb]at e;exact⟨t,a,e,.inr ⟨(Btr.total (show a≠b by omega)).resolve_left hb,rfl⟩⟩
  ·obtain⟨h1,h3,_⟩:=h g
   have hn:1≤n:=by
    cases n with
    | zero=>simp at hl;omega
    | succ m=>omega
   have hp:2 ^ n=2*2 ^ (n-1):=by
    obtain⟨m,rfl⟩:∃m,n=m+1:=⟨n-1,by omega⟩
    rw[Nat.pow_succ,Qat];omega
   rcases hM with hM|hM
   ·exact Zf6 n hd s (lo N) (ZdZ r) (by unfold lo mid;rw[Qz];omega) hn h1 M hM h2
   ·exact Zf6 n hd s (up N) (ZdT r) (by unfold up mid;rw[QV];omega) hn h3 M hM h2
theorem Zec.congr{hd hd':Hd}{s s':StL}{A B:List Int}{k:Int×Int}(h:Zec hd s A B k)(ha:∀m∈A,hd' m=hd m)(hb:∀m∈B,hd' m=hd m)(hk:ZR s' k=ZR s k):Zec hd' s' A B k:=by
 refine⟨fun a b x y wa wb hx hy=>?_,fun hw=>?_⟩
 ·rw[hk]
  exact h.1 a b x y (wa.congr fun m hm=>(ha m hm).symm) (wb.congr fun m hm=>(hb m hm).symm) (by rw[← ha a wa.1];exact hx) (by rw[← hb b wb.1];exact hy)
 ·rw[hk]
  exact h.2 (hw.imp (fun w=>w.congr fun m hm=>(ha m hm).symm) (fun w=>w.congr fun m hm=>(hb m hm).symm))
theorem Z6.congr{hd hd':Hd}{s s':StL}{M:List Int}(h:Z6 hd s M)(hh:∀m∈M,hd' m=hd m)(hk:∀k,Kys M k→ZR s' k=ZR s k):Z6 hd' s' M:=fun M' hM h2 =>
 (h M' hM h2).congr (fun m hm=>hh m (hM.mem (Qab hm))) (fun m hm=>hh m (hM.mem (Qan hm))) (hk _ ⟨M',hM,h2,rfl⟩)
theorem Zll{hd:Hd}{s:StL}{M:List Int}{n:Int}(h1:Z6 hd s (Zae M n))(h3:Z6 hd s (Zap M n))(h:Zec hd s (Zae M n) (Zap M n) (ZO M)):Z6 hd s M:=fun M' hM h2=>by
 rcases ZmE n hM with rfl|⟨g,hM|hM⟩
 ·unfold Zae Zap at h
  split at h
  ·exact h
  ·exact h.swap
 ·exact h1 M' hM h2
 ·exact h3 M' hM h2
def low(n:Int)(C:List (List Int)):Nat→List Int
 | 0=>[n]
 | i+1=>C.getD i []
theorem ZfJ:∀ (k:Nat) (M:List Int) (n:Int),n∈M→M.length≤2 ^ k→(∀i X,(ZV k M n)[i]? = some X→Sub M X∧2≤X.length∧n∈X∧Zae X n=low n (ZV k M n) i)∧low n (ZV k M n) (ZV k M n).length=M∧(ZV k M n).length≤k
 | 0,M,n,hn,hl=>by
  refine⟨fun i X h=>by unfold ZV at h;simp at h,?_,Qh _⟩
  have h1:M.length=1:=by
   have:=Q1 hn
   simp at hl;omega
  obtain⟨x,rfl⟩:=QaM.mp h1
  have:n=x:=by simpa using hn
  rw[this];rfl
 | k+1,M,n,hn,hl=>by
  unfold ZV
  by_cases h2:2≤M.length
  ·rw[if_pos h2]
   have hs:(Zae M n).length≤2 ^ k:=by
    rw[Nat.pow_succ]at hl
    unfold Zae
    split
    ·unfold lo mid;rw[Qz];omega
    ·unfold up mid;rw[QV];omega
   obtain⟨a,b,c⟩:=ZfJ k (Zae M n) n (ZdH hn) hs
   refine⟨fun i X h=>?_,?_,by rw[Qg,Qk];omega⟩
   ·have lw:∀j,j≤(ZV k (Zae M n) n).length→low n (ZV k (Zae M n) n++[M]) j=low n (ZV k (Zae M n) n) j:=fun j hj=>by
     cases j with
     | zero=>rfl
     | succ j =>
      show (ZV k (Zae M n) n++[M]).getD j []=(ZV k (Zae M n) n).getD j []
      rw[Ql,Ql,QS (by omega)]
    by_cases hi:i<(ZV k (Zae M n) n).length
    ·rw[QS hi]at h
     obtain⟨g1,g2,g3,g4⟩:=a i X h
     exact⟨(ZiI h2 n).trans g1,g2,g3,by rw[lw i (by omega)];exact g4⟩
    ·have hi':i=(ZV k (Zae M n) n).length:=by
      have:=(Qc.mp h).1
      rw[Qg,Qk]at this
      omega
     subst hi'
     rw[QN (Qh _),Nat.sub_self]at h
     cases h
     exact⟨.top,h2,hn,by rw[lw _ (Qh _),b]⟩
   ·rw[Qg,Qk]
    show (ZV k (Zae M n) n++[M]).getD _ []=M
    rw[Ql,QN (Qh _),Nat.sub_self];rfl
  ·rw[if_neg h2]
   refine⟨fun i X h=>by simp at h,?_,Qv _⟩
   have h1:M.length=1:=by have:=Q1 hn;omega
   obtain⟨x,rfl⟩:=QaM.mp h1
   have:n=x:=by simpa using hn
   rw[this];rfl
structure Tk (hd hd':Hd) (N:List Int) (n:Int) (z:List Nat):Prop where
 win:Win hd N (some n)
 key:hd n=some z
 oth:∀b,b≠n→hd' b=hd b
 nxt:∀x,hd' n=some x→ZF z x≤0
 up:Zai N
theorem Tk.ge{hd hd':Hd}{N:List Int}{n:Int}{z:List Nat}(h:Tk hd hd' N n z){b:Int}(hb:b∈N){y:List Nat}(hy:hd' b=some y):ZF z y≤0:=by
 by_cases e:b=n
 ·exact h.nxt y (by rw[← e];exact hy)
 ·obtain⟨_,x,hx,hw⟩:=h.win
  rw[h.key]at hx
  cases hx
  rw[h.oth b e]at hy
  rcases hw b hb y hy with z|z
  ·exact absurd z e
  ·rcases z with z|z<;>omega
inductive Ag (hd:Hd) (z:List Nat):List (List Int×List Int)→Int→Int→Prop
 | nil:Ag hd z [] 0 0
 | no {C:List (List Int×List Int)} {A B:List Int} {k q:Int}:Ag hd z C k q→(Win hd A none∨Win hd B none)→Ag hd z (C++[(A,B)]) k q
 | eq {C:List (List Int×List Int)} {A B:List Int} {k q:Int} {a b:Int} {x y:List Nat}:Ag hd z C k q→Win hd A (some a)→Win hd B (some b)→hd a=some x→hd b=some y→lcp x z=lcp y z→Ag hd z (C++[(A,B)]) (k+1) (q+((lcp x y:Nat)-(lcp x z:Nat)+1))
 | ne {C:List (List Int×List Int)} {A B:List Int} {k q:Int} {a b:Int} {x y:List Nat}:Ag hd z C k q→Win hd A (some a)→Win hd B (some b)→hd a=some x→hd b=some y→lcp x z≠lcp y z→Ag hd z (C++[(A,B)]) (k+1) q
theorem Zkg:∀ (x z y:List Nat),lcp z y<lcp x z→ZF x y=ZF z y
 | [],z,y,h=>by rw[lcp_nil']at h;omega
 | _::_,[],y,h=>by rw[ZdS]at h;omega
 | a::x,b::z,[],h=>by unfold ZF;rfl
 | a::x,b::z,c::y,h=>by
  unfold lcp at h
  by_cases e:a=b
  ·subst e
   rw[if_pos rfl]at h
   by_cases e2:a=c
   ·subst e2
    rw[if_pos rfl]at h
    unfold ZF
    rw[if_pos rfl,if_pos rfl]
    exact Zkg x z y (by omega)
   ·unfold ZF
    rw[if_neg e2,if_neg e2]
  ·rw[if_neg e]at h;omega
theorem ZpC{x z y:List Nat}(h:lcp z y<lcp x z):lcp x y=lcp z y:=by
 have:=ZeO x y z
 rw[Zcm y z]at this
 omega
theorem Zqz{x z y:List Nat}(h:lcp x z=lcp y z):lcp x z≤lcp x y:=by
 have:=ZeO x y z
 omega
theorem ZiN{x z y:List Nat}{a b:Int}(h:lcp y z<lcp x z)(hz:ZF z y≤0):Btr x a y b∧lcp x y=lcp y z:=by
 rw[Zcm y z]at h ⊢
 refine⟨.inl ?_,ZpC h⟩
 rw[Zkg x z y h]
 rcases Int.lt_or_eq_of_le hz with g|g
 ·exact g
 ·have e:=ZcI _ _ g
  subst e
  rw[Ziy]at h
  have:=(ZfM x z).2
  omega
abbrev Com:=Option (Int×Int)
def ZiS(hd:Hd)(z:List Nat)(M:List Int)(c:Com):Prop:=Win hd M (c.map (·.1))∧∀p,c=some p→∃x,hd p.1=some x∧p.2=((lcp x z:Nat):Int)
theorem ZnO{hd hd':Hd}{N M:List Int}{n:Int}{z:List Nat}{s:StL}(T:Tk hd hd' N n z)(hM:Sub N M)(h2:2≤M.length)(hn:n∈M)(ok:Z6 hd s N) :
  (Win hd' (Zap M n) none∧(ZR s (ZO M)=none∨ZR s (ZO M)=some none))∨∃t b y,Win hd' (Zap M n) (some b)∧hd' b=some y∧b∈N∧ZR s (ZO M)=some (some (t,b,((lcp y z:Nat):Int))):=by
 have r:=hM.rise T.up
 have nd:=Zd3 r
 have hno:=Zgc r (ZdH hn)
 have nS:=(ok.sub hM).at_side h2 n
 have hoN:∀b∈Zap M n,b∈M:=fun b hb=>(ZeQ M n).mem_iff.mp (Qn _ hb)
 have hsN:∀b∈Zae M n,b∈M:=fun b hb=>(ZeQ M n).mem_iff.mp (Qr _ hb)
 have wS:Win hd (Zae M n) (some n):=by
  obtain⟨_,x,hx,hw⟩:=T.win
  exact⟨ZdH hn,x,hx,fun b hb y hy=>hw b (hM.mem (hsN b hb)) y hy⟩
 have cO:∀m∈Zap M n,hd' m=hd m:=fun m hm=>T.oth m fun e=>hno (e ▸ hm)
 have ndO:(Zap M n).Nodup:=by unfold Zap;split;exact Zd3 (ZdT r);exact Zd3 (ZdZ r)
 obtain⟨w,hw⟩:=Win.ex hd (Zap M n) ndO
 cases w with
 | none=>exact .inl ⟨hw.congr cO,nS.2 (.inr hw)⟩
 | some b =>
  obtain⟨y,hy⟩:∃y,hd b=some y:=by obtain⟨_,y,hy,_⟩:=hw;exact⟨y,hy⟩
  obtain⟨t,lz,e,o⟩:=nS.1 n b z y wS hw T.key hy
  have hbM:=hoN b hw.1
  have hbn:b≠n:=fun z=>hno (z ▸ hw.1)
  have hB:Btr z n y b:=by
   obtain⟨_,x,hx,hww⟩:=T.win
   rw[T.key]at hx;cases hx
   exact(hww b (hM.mem hbM) y hy).resolve_left hbn
  have el:lz=b:=by
   rcases o with⟨_,e⟩|⟨e,_⟩
   ·exact e
   ·exact(hB.asym e).elim
  subst el
  exact .inr ⟨t,lz,y,hw.congr cO,by rw[cO lz hw.1];exact hy,hM.mem hbM,by rw[Zcm y z];exact e⟩
theorem Zkd(ns:List Int):(Zd6 ns).length=(ns.length+1) / 2:=by unfold Zd6 mid;rw[Qz];omega
theorem ZkI(ns:List Int):(Zgz ns).length=ns.length / 2:=by unfold Zgz mid;rw[QV];omega
def Zgt:Nat→List Int→Int→List (List Int)
 | 0,_,_=>[]
 | f+1,ns,n=>if ns.length≤1 then [] else if n∈Zd6 ns then Zgz ns::Zgt f (Zd6 ns) n else Zd6 ns::Zgt f (Zgz ns) n
def Zb3(ns:List Int)(n:Int):List Int:=if n∈Zd6 ns then Zd6 ns else Zgz ns
def Zdc(ns:List Int)(n:Int):List Int:=if n∈Zd6 ns then Zgz ns else Zd6 ns
theorem Zeq{ns:List Int}{n:Int}(h:1<ns.length):(Zb3 ns n).length<ns.length:=by
 unfold Zb3
 split
 ·rw[Zkd];omega
 ·rw[ZkI];omega
theorem Zn8{ns:List Int}{n:Int}(h:1<ns.length):0<(Zb3 ns n).length:=by
 unfold Zb3
 split
 ·rw[Zkd];omega
 ·rw[ZkI];omega
theorem ZeU{f:Nat}{ns:List Int}{n:Int}(h:1<ns.length):Zgt (f+1) ns n=Zdc ns n::Zgt f (Zb3 ns n) n:=by
 conv=>lhs;unfold Zgt
 rw[if_neg (by omega)]
 unfold Zdc Zb3
 split<;>rfl
theorem Zch{f:Nat}{ns:List Int}{n:Int}(h:ns.length≤1):Zgt f ns n=[]:=by
 cases f with
 | zero=>rfl
 | succ f=>unfold Zgt;rw[if_pos h]
theorem ZgN:∀ (f g:Nat) (ns:List Int) (n:Int),ns.length≤f+1→ns.length≤g+1→Zgt f ns n=Zgt g ns n
 | 0,g,ns,n,h,_=>by rw[Zch (by omega),Zch (by omega)]
 | f+1,0,ns,n,_,h=>by rw[Zch (by omega),Zch (by omega)]
 | f+1,g+1,ns,n,h1,h2=>by
  by_cases h:1<ns.length
  ·have:=Zeq (n:=n) h
   rw[ZeU h,ZeU h,ZgN f g _ n (by omega) (by omega)]
  ·rw[Zch (by omega),Zch (by omega)]
def way(ns:List Int)(n:Int):List (List Int):=Zgt ns.length ns n
theorem Zi4{ns:List Int}{n:Int}(h:1<ns.length):way ns n=Zdc ns n::way (Zb3 ns n) n:=by
 unfold way
 cases e:ns.length with
 | zero=>omega
 | succ f =>
  have:=Zeq (n:=n) h
  rw[ZeU h,ZgN f (Zb3 ns n).length _ n (by omega) (by omega)]
theorem ZhX{ns:List Int}{n:Int}(h:ns.length≤1):way ns n=[]:=Zch h
theorem ZkE(n:Int):∀ns:List Int,inV (.int n) (ns.map V.int)=decide (n∈ns)
 | []=>rfl
 | m::r=>by
  have ih:=ZkE n r
  unfold inV at ih ⊢
  rw[Qj,QaF,ih]
  by_cases h:m=n
  ·subst h;simp[eqV]
  ·have:(m == n)=false:=by simpa using h
   simp[eqV,this,List.mem_cons,Ne.symm h]
theorem Zhh:∀ns:List Int,(ns.map V.int).all Zev=true
 | []=>rfl
 | _::r=>by rw[Qj,List.all_cons,Zhh r];rfl
def Rd(H:Hp):List Addr→List (List Int)→Prop
 | [],[]=>True
 | l::ls,d::ds=>H l=some (.lst (d.map V.int))∧Rd H ls ds
 | _,_=>False
theorem Rd.len{H:Hp}:∀ {ls:List Addr} {ds:List (List Int)},Rd H ls ds→ls.length=ds.length
 | [],[],_=>rfl
 | [],_::_,h=>h.elim
 | _::_,[],h=>h.elim
 | _::ls,_::ds,h=>by rw[QD,QD,Rd.len h.2]
theorem Rd.mono{H H':Hp}:∀ {ls:List Addr} {ds:List (List Int)},(∀l∈ls,∀o,H l=some o→H' l=some o)→Rd H ls ds→Rd H' ls ds
 | [],[],_,_=>trivial
 | [],_::_,_,h=>h.elim
 | _::_,[],_,h=>h.elim
 | l::ls,_::ds,k,h=>⟨k l (by simp) _ h.1,Rd.mono (fun x hx=>k x (Qu _ hx)) h.2⟩
theorem Rd.app{H:Hp}:∀ {ls:List Addr} {ds:List (List Int)} {ms:List Addr} {es:List (List Int)},Rd H ls ds→Rd H ms es→Rd H (ls++ms) (ds++es)
 | [],[],_,_,_,h=>h
 | [],_::_,_,_,h,_=>h.elim
 | _::_,[],_,_,h,_=>h.elim
 | _::ls,_::ds,_,_,h,g=>⟨h.1,Rd.app h.2 g⟩
theorem Rd.rev{H:Hp}:∀ {ls:List Addr} {ds:List (List Int)},Rd H ls ds→Rd H ls.reverse ds.reverse
 | [],[],h=>h
 | [],_::_,h=>h.elim
 | _::_,[],h=>h.elim
 | l::ls,d::ds,h=>by
  rw[Qav,Qav]
  exact Rd.app (Rd.rev h.2) ⟨h.1,trivial⟩
theorem Rd.at{H:Hp}:∀ {ls:List Addr} {ds:List (List Int)} {i:Nat} {l:Addr},Rd H ls ds→ls[i]? = some l→∃d,ds[i]? = some d∧H l=some (.lst (d.map V.int))
 | [],_,i,l,_,h=>by simp at h
 | _::_,[],_,_,h,_=>h.elim
 | l::ls,d::ds,0,x,h,e=>⟨d,rfl,by simp at e;subst e;exact h.1⟩
 | l::ls,d::ds,i+1,x,h,e=>by simpa using Rd.at (i:=i) h.2 (by simpa using e)
def ZmJ:Sp:=fun vs H Q _=>∃ (a:Addr) (ns:List Int) (n:Int),vs=[.ref a,.int n]∧H a=some (.lst (ns.map V.int))∧1≤ns.length∧ns.length≤100 ∧
 ∀ (r:Addr) (ls:List Addr) (H':Hp),H r=none→H' r=some (.lst (ls.map V.ref))→r ∉ ls→(∀l∈ls,H l=none)→Rd H' ls (way ns n).reverse→Zu H H'→Q (.ref r) H'
def Dn(H:Hp)(a o:Addr)(ns:List Int)(n:Int)(b:Addr)(cur:List Int)(ls:List Addr)(H2:Hp):Prop :=
 ∃done:List (List Int),H2 b=some (.lst (cur.map V.int))∧b≠o∧1≤cur.length∧cur.length≤100∧way ns n=done++way cur n∧Rd H2 ls done∧H2 o=some (.lst (ls.map V.ref))∧Zu H H2∧(∀l∈ls,H l=none)∧o ∉ ls∧ls.length+cur.length≤100
theorem Dn.step{H:Hp}{a o:Addr}{ns:List Int}{n:Int}{b:Addr}{cur:List Int}{ls:List Addr}{H2 H3:Hp}(D:Dn H a o ns n b cur ls H2)(hO:H o=none)(h1:1<cur.length)(s:Zu H2 H3){x y:Addr}(hx:H3 x=some (.lst ((Zb3 cur n).map V.int)))(hy:H3 y=some (.lst ((Zdc cur n).map V.int)))(nx:H2 x=none)(ny:H2 y=none) :
  Dn H a o ns n x (Zb3 cur n) (ls++[y]) (upd H3 o (.lst (ls.map V.ref++[.ref y]))):=by
 obtain⟨done,d1,d2,d3,d4,d5,d6,d7,d8,d9,d10,d11⟩:=D
 have xo:x≠o:=(Zc d7 nx).symm
 have yo:y≠o:=(Zc d7 ny).symm
 have sl:=Zeq (n:=n) h1
 have k:∀l,l≠o→∀u,H3 l=some u→(upd H3 o (.lst (ls.map V.ref++[.ref y]))) l=some u:=fun l hl u hu=>by rw[Ze hl];exact hu
 refine⟨done++[Zdc cur n],k x xo _ hx,xo,Zn8 h1,by omega,by rw[d5,Zi4 h1,Qae];rfl,?_,?_,fun c u hu=>?_,?_,?_,?_⟩
 ·refine Rd.app (Rd.mono (fun l hl u hu=>k l (fun e=>d10 (e ▸ hl)) u (s _ _ hu)) d6) ⟨k y yo _ hy,trivial⟩
 ·rw[Zb,Qe];rfl
 ·rw[Ze (Zc hu hO)];exact s _ _ (d8 _ _ hu)
 ·intro l hl
  rcases Qf.mp hl with hl|hl
  ·exact d9 l hl
  ·rw[Qd.mp hl];exact d8.free ny
 ·intro hm
  rcases Qf.mp hm with hl|hl
  ·exact d10 hl
  ·exact yo (Qd.mp hl).symm
 ·rw[Qg,Qk];omega
theorem Zrw(T:Zaf K mg cRow cMerge)(f_halves:Df P w K mg base 1 "halves" ["numbers"] (ZeJ K true)):Df P w K mg base 2 "way_up" ["numbers", "n"] ZmJ:=by
 refine T.t_way_up.df ZbG (fun vs H Q E h=>?_) (fun cdv f A outer s H vs Q E hr h=>?_)
 ·obtain⟨a,ns,n,rfl,_⟩:=h
  rfl
 obtain⟨a,ns,n,rfl,hA,h1,h100,q⟩:=h
 refine⟨_,#[Zf,#[Zz,2,ZbG.nd,(Or.inl rfl),#[Zbg,#[Zd]]],#[Zf,#[Zz,3,ZbG.nd,(Or.inl rfl),‹0›],#[Zf,(@ZeH _ _ _ _ _ _ PassesOwn.never #[Zo,Zfi,#[Zk,(Zbf K),(by rfl),T.b.n_len,Qs,#[Za,‹3›,#[Zd]]],#[Zh],(Zt _)] #[Zf,#[ZaO,#[ZA,f_halves,hr,#[Za,‹3›,#[Zd]],(by rfl)],#[gT,K,2,#[Zs,#[Zw,4,ZbG.nd],#[Zs,#[Zw,5,ZbG.nd],(@Zal _)]]]],#[Zj,#[ZZ,#[Zo,(inQ K),‹1›,‹4›,(by with_unfolding_all rfl)],#[Zf,#[ZaI,#[Zc1,QF,QL,QM,Zas,‹2›,#[Za,‹5›,#[Zd]]]],#[Zj,#[Zz,3,ZbG.nd,(Or.inl rfl),‹4›]]],#[Zf,#[ZaI,#[Zc1,QF,QL,QM,Zas,‹2›,#[Za,‹4›,#[Zd]]]],#[Zj,#[Zz,3,ZbG.nd,(Or.inl rfl),‹5›]]]]]]),#[Zf,#[ZaI,(@Zqb _ _ _ _ _ _ _ _ _ QF PySem.F.slot_list_reverse PySem.F.type_list_reverse Zjr ‹2› (by rfl) (by rfl))],#[Zj,#[Zn,‹2›]]]]]],?_⟩
 refine⟨(by show 0≤sizeLine;decide),fun o hO=>?_⟩
 have nao:a≠o:=Zc hA hO
 refine⟨_,rfl,?_⟩
 refine⟨fun m σ H2=>∃ (b:Addr) (cur:List Int) (ls:List Addr) (v4 v5:Option V),σ=[some (.ref a),some (.int n),some (.ref o),some (.ref b),v4,v5]∧Dn H a o ns n b cur ls H2∧m=cur.length,⟨_,a,ns,[],none,none,rfl,⟨[],?_,nao,h1,h100,rfl,trivial,Zb,Zi hO _,(fun l hl=>by cases hl),(fun hm=>by cases hm),by simpa using h100⟩,rfl⟩,?_⟩
 ·rw[Ze nao];exact hA
 rintro m σ H2 ⟨b,cur,ls,v4,v5,rfl,D,rfl⟩
 obtain⟨done,d1,d2,d3,d4,d5,d6,d7,d8,d9,d10,d11⟩:=id D
 have hlc:(((cur.map V.int).length:Nat):Int)=(cur.length:Int):=by rw[Qa]
 refine⟨_,rfl,b,_,rfl,.inl (SqL.of d1),_,_,rfl,rfl,_,rfl,?_⟩
 refine ZaV (fun c1=>?_) (fun c1=>?_)
 ·have c1':(1:Int)<(((cur.map V.int).length:Nat):Int):=of_decide_eq_true c1
  have hc:1<cur.length:=by omega
  refine⟨_,fun σ' H' h=>h,?_⟩
  refine⟨_,rfl,b,cur,rfl,SqL.of d1,d4,fun t x y H3 ht hx hy nxy et ex ey s3 ntx nty=>?_⟩
  refine⟨t,_,rfl,SqT.of et,rfl,_,_,rfl,_,_,rfl,rfl,?_⟩
  have ho3:=s3 _ _ d7
  have hlt:(ls.map V.ref).length<sizeLine:=by rw[Qa];exact ZI (by omega)
  have sl:=Zeq (n:=n) hc
  refine⟨_,rfl,_,rfl,x,_,rfl,.inl (SqL.of ex),rfl,Zhh _,_,rfl,?_⟩
  show if inV (V.int n) ((Zd6 cur).map V.int)=true then _ else _
  rw[ZkE]
  refine ZaV (fun c2=>?_) (fun c2=>?_)
  ·have c2':n∈Zd6 cur:=of_decide_eq_true c2
   have e1:Zb3 cur n=Zd6 cur:=by unfold Zb3;rw[if_pos c2']
   have e2:Zdc cur n=Zgz cur:=by unfold Zdc;rw[if_pos c2']
   refine⟨_,rfl,.inl ⟨rfl,_,SqL.of ho3⟩,_,rfl,o,_,_,rfl,rfl,ho3,hlt,_,rfl,_,?_,x,Zb3 cur n,ls++[y],_,_,rfl,D.step hO hc s3 (by rw[e1];exact ex) (by rw[e2];exact ey) hx hy,rfl⟩
   exact sl
  ·have c2':¬ n∈Zd6 cur:=fun z=>c2 (decide_eq_true z)
   have e1:Zb3 cur n=Zgz cur:=by unfold Zb3;rw[if_neg c2']
   have e2:Zdc cur n=Zd6 cur:=by unfold Zdc;rw[if_neg c2']
   refine⟨_,rfl,.inl ⟨rfl,_,SqL.of ho3⟩,_,rfl,o,_,_,rfl,rfl,ho3,hlt,_,rfl,_,?_,y,Zb3 cur n,ls++[x],_,_,rfl,D.step hO hc s3 (by rw[e1];exact ey) (by rw[e2];exact ex) hy hx,rfl⟩
   exact sl
 ·have c1':¬ (1:Int)<(((cur.map V.int).length:Nat):Int):=fun z=>c1 (decide_eq_true z)
  have e:way ns n=done:=by rw[d5,ZhX (by omega),QR]
  refine⟨_,rfl,.inl ⟨rfl,_,SqL.of d7⟩,o,_,rfl,rfl,d7,?_⟩
  refine⟨_,rfl,q o ls.reverse _ hO (by rw[Zb,List.map_reverse]) (fun hm=>d10 (QaT.mp hm)) (fun l hl=>d9 l (QaT.mp hl)) ?_ fun c u hu=>?_⟩
  ·rw[e]
   refine Rd.mono (fun l hl u hu=>?_) d6.rev
   rw[Ze (fun z=>by subst z;exact d10 (QaT.mp hl))]
   exact hu
  ·rw[Ze (Zc hu hO)];exact d8 _ _ hu
theorem Zhi:∀ (k:Nat) (M:List Int) (n:Int),M.length≤2 ^ k→(way M n).reverse=(ZV k M n).map (fun X=>Zap X n)
 | 0,M,n,h=>by
  rw[ZhX (by simpa using h)];rfl
 | k+1,M,n,h=>by
  unfold ZV
  by_cases h2:2≤M.length
  ·rw[if_pos h2,Zi4 (by omega),Qav,Qe]
   have hs:(Zae M n).length≤2 ^ k:=by
    rw[Nat.pow_succ]at h
    unfold Zae
    split
    ·unfold lo mid;rw[Qz];omega
    ·unfold up mid;rw[QV];omega
   have e:=Zhi k (Zae M n) n hs
   rw[← e];rfl
  ·rw[if_neg h2,ZhX (by omega)];rfl
theorem ZnV{M:List Int}(h:2≤M.length)(n:Int):Zap M n≠[]:=by
 unfold Zap
 split
 ·exact Z8 (Zef h).2
 ·exact Z8 (ZdF h).2
theorem ZjN{M:List Int}(r:Zai M)(h:2≤M.length)(n:Int):ZO M=(if (Zap M n).headD 0<(Zae M n).headD 0 then (Zap M n).headD 0 else (Zae M n).headD 0,if (Zap M n).getLastD 0>(Zae M n).getLastD 0 then (Zap M n).getLastD 0 else (Zae M n).getLastD 0):=by
 have a:=Ze9 h
 have b:=Ze3 h
 have l1:=Zcc (Z8 (ZdF h).2)
 have l2:=Zce (Z8 (ZdF h).2)
 have u1:=Zcc (Z8 (Zef h).2)
 have u2:=Zce (Z8 (Zef h).2)
 have c:=ZJ r l1 u1
 have d:=ZJ r l2 u2
 unfold Zae Zap
 split<;>(refine Prod.ext ?_ ?_<;>dsimp only<;>first|omega|(split<;>omega))
theorem Rd.get{H:Hp}:∀ {ls:List Addr} {ds:List (List Int)},Rd H ls ds→∀ {i:Nat} {l:Addr} {d:List Int},ls[i]? = some l→ds[i]? = some d→H l=some (.lst (d.map V.int))
 | [],[],_,i,l,d,h,_=>by simp at h
 | l::ls,d::ds,⟨h1,h2⟩,0,a,b,e1,e2=>by simp at e1 e2;rw[← e1,← e2];exact h1
 | l::ls,d::ds,⟨h1,h2⟩,i+1,a,b,e1,e2=>Rd.get h2 (by simpa using e1) (by simpa using e2)
def Zhb:Sp:=fun vs H Q _=>∃ (a:Addr) (N:List Int) (n:Int),vs=[.ref a,.int n]∧H a=some (.lst (N.map V.int))∧n∈N∧N.length≤60∧Zai N ∧
 ∀ (r:Addr) (ts:List Addr) (H':Hp),H r=none→H' r=some (.lst (ts.map V.ref))→ts.length=(ZV 8 N n).length→(∀ (i:Nat) (t:Addr) (X:List Int),ts[i]? = some t→(ZV 8 N n)[i]? = some X→H' t=some (.tup [.int (ZO X).1,.int (ZO X).2]))→Zu H H'→Q (.ref r) H'
theorem ZjQ(T:Zaf K mg cRow cMerge)(f_way_up:Df P w K mg base 2 "way_up" ["numbers", "n"] ZmJ):Df P w K mg base 3 "matches_up" ["numbers", "n"] Zhb:=by
 refine T.t_matches_up.df Zaz (fun vs H Q E h=>?_) (fun cdv f A outer s H vs Q E hr h=>?_)
 ·obtain⟨a,N,n,rfl,_⟩:=h
  rfl
 obtain⟨a,N,n,rfl,ha,hn,h60,hup,q⟩:=h
 refine⟨_,#[Zf,#[Zz,2,Zaz.nd,(Or.inl rfl),#[Zbg,#[Zd]]],#[Zf,#[Zz,3,Zaz.nd,(Or.inl rfl),‹1›],#[Zf,#[Zz,4,Zaz.nd,(Or.inl rfl),‹1›],#[Zf,#[Zbo,PassesOwn.never,#[iL,K,#[ZA,f_way_up,hr,#[Za,‹0›,#[Za,‹1›,#[Zd]]],(by rfl)]],#[Zw,5,Zaz.nd],#[Zf,#[Zz,3,Zaz.nd,(Or.inl rfl),#[Zk,(ZeY rfl),(by rfl),T.b.n_min,boot_min,#[Za,‹3›,#[Za,#[Zx,(ixL K),‹5›,#[Zh]],#[Zd]]]]],#[Zf,#[Zz,4,Zaz.nd,(Or.inl rfl),#[Zk,(Zlw rfl),(by rfl),T.b.n_max,boot_max,#[Za,‹4›,#[Za,#[Zx,(ixL K),‹5›,(@ZgR _ _ _ _ _ _ Ze0 #[Zh])],#[Zd]]]]],#[Zj,#[ZaI,#[Zc1,QF,QL,QM,Zas,‹2›,#[Za,#[ZN,#[Za,‹3›,#[Za,‹4›,#[Zd]]]],#[Zd]]]]]]]],#[Zj,#[Zn,‹2›]]]]]],?_⟩
 have hpos:=Q1 hn
 have hpw:N.length≤2 ^ 8:=QP h60 (by decide)
 obtain⟨cok,ctop,clen⟩:=ZfJ 8 N n hn hpw
 refine⟨(by show 0≤sizeLine;decide),fun r hr0=>?_⟩
 have s1:=Zi hr0 (.lst [])
 have hr1:(upd H r (.lst [])) r=some (.lst []):=Zb
 generalize upd H r (.lst [])=H1 at s1 hr1 ⊢
 refine⟨_,rfl,_,rfl,_,rfl,_,rfl,a,N,n,rfl,s1 _ _ ha,hpos,by omega,fun wy ls H2 hwy hwy2 hnot hfr hrd s2=>?_⟩
 rw[Zhi 8 N n hpw]at hrd
 have hll:=hrd.len
 rw[Qa]at hll
 have s02:=s1.trans s2
 refine⟨wy,rfl,⟨_,SqL.of hwy2⟩,?_⟩
 refine Zf4 (K:=K) (a:=wy) (xs:=ls.map V.ref) (fun i σ H3=>∃ (v5:Option V) (ts:List Addr),σ=[some (.ref a),some (.int n),some (.ref r),some (.int ((low n (ZV 8 N n) i).headD 0)),some (.int ((low n (ZV 8 N n) i).getLastD 0)),v5]∧i≤ls.length∧ts.length=i∧H3 r=some (.lst (ts.map V.ref))∧(∀ (j:Nat) (t:Addr) (X:List Int),ts[j]? = some t→(ZV 8 N n)[j]? = some X→H3 t=some (.tup [.int (ZO X).1,.int (ZO X).2]))∧(∀t∈ts,t≠r∧∃xs,H3 t=some (.tup xs))∧(∀b o,H2 b=some o→b≠r→H3 b=some o)) ⟨_,[],rfl,Qv _,rfl,s2 _ _ hr1,(fun j t X h=>by simp at h),(fun t h=>by cases h),fun b o h _=>h⟩ (fun i σ H3 _ hq=>by obtain⟨_,_,_,_,_,_,_,_,k3⟩:=hq;exact SqL.of (k3 _ _ hwy2 (fun z=>by rw[z,hr1]at hwy;cases hwy))) ?_ ?_
 ·rintro i y σ H3 hy ⟨v5,ts,rfl,hi,htl,hr3,hts,htr,k3⟩
  rw[Qi]at hy
  cases hz:ls[i]? with
  | none=>rw[hz]at hy;cases hy
  | some l =>
  rw[hz]at hy
  cases hy
  have hil:i<ls.length:=(Qc.mp hz).1
  cases hX:(ZV 8 N n)[i]? with
  | none=>rw[QaC]at hX;omega
  | some X =>
  obtain⟨x1,x2,x3,x4⟩:=cok i X hX
  have hl2:H2 l=some (.lst ((Zap X n).map V.int)):=hrd.get hz (by rw[Qi,hX];rfl)
  have nlr:l≠r:=fun z=>by rw[z]at hl2;rw[s2 _ _ hr1]at hl2;have:=hfr l (Qq hz);rw[z,hr1]at this;cases this
  have hl3:=k3 _ _ hl2 nlr
  have hne:=ZnV x2 n
  have e2:=ZjN (x1.rise hup) x2 n
  rw[x4]at e2
  have e3:low n (ZV 8 N n) (i+1)=X:=by show (ZV 8 N n).getD i []=X;rw[Ql,hX];rfl
  refine⟨_,rfl,_,rfl,xw4 l _ _ _ ⟨rfl,rfl,SqL.of hl3,Zik hne,_,_,rfl,?_⟩⟩
  refine⟨_,rfl,_,rfl,_,rfl,xw4 l _ _ _ ⟨rfl,rfl,SqL.of hl3,Zii hne,_,_,rfl,?_⟩⟩
  refine⟨_,rfl,.inl ⟨rfl,_,SqL.of hr3⟩,_,rfl,_,rfl,(by show 2≤sizeLine;decide),fun t ht=>?_⟩
  have nrt:r≠t:=Zc hr3 ht
  refine⟨r,_,_,rfl,rfl,by rw[Ze nrt];exact hr3,(by rw[Qa];exact ZI (by omega)),?_⟩
  refine⟨some (.ref l),ts++[t],?_,hil,by rw[Qg,Qk];omega,by rw[Zb,Qe];rfl,fun j u Y hu hY=>?_,fun u hu=>?_,fun b o hb nb=>?_⟩
  ·rw[e3]
   have h1:=congrArg Prod.fst e2
   have h2:=congrArg Prod.snd e2
   simp only at h1 h2
   rw[show X.headD 0=(ZO X).1 from rfl,show X.getLastD 0=(ZO X).2 from rfl,h1,h2]
   rfl
  ·have htuple:∀ (u:Addr) (xs:List V),H3 u=some (.tup xs)→(upd (upd H3 t (.tup [.int (if (Zap X n).headD 0<(low n (ZV 8 N n) i).headD 0 then (Zap X n).headD 0 else (low n (ZV 8 N n) i).headD 0),.int (if (Zap X n).getLastD 0>(low n (ZV 8 N n) i).getLastD 0 then (Zap X n).getLastD 0 else (low n (ZV 8 N n) i).getLastD 0)])) r (.lst (ts.map V.ref++[.ref t]))) u=some (.tup xs):=fun u xs hu=>by
    rw[Ze (fun z=>by rw[z,hr3]at hu;cases hu),Ze (Zc hu ht)];exact hu
   by_cases hj:j<ts.length
   ·rw[QS hj]at hu
    exact htuple u _ (hts j u Y hu hY)
   ·have ej:j=ts.length:=by have:=(Qc.mp hu).1;rw[Qg,Qk]at this;omega
    subst ej
    rw[QN (Qh _),Nat.sub_self]at hu
    cases hu
    rw[htl,hX]at hY
    cases hY
    rw[Ze nrt.symm,Zb,e2]
  ·rcases Qf.mp hu with hu|hu
   ·obtain⟨g1,xs,g2⟩:=htr u hu
    exact⟨g1,xs,by rw[Ze g1,Ze (Zc g2 ht)];exact g2⟩
   ·rw[Qd.mp hu]
    exact⟨nrt.symm,_,by rw[Ze nrt.symm];exact Zb⟩
  ·have:=k3 b o hb nb
   rw[Ze nb,Ze (Zc this ht)];exact this
 ·rintro σ H3 ⟨v5,ts,rfl,_,htl,hr3,hts,_,k3⟩
  rw[Qa]at htl
  exact⟨_,rfl,q r ts H3 hr0 hr3 (by omega) hts (fun b o hb=>k3 b o (s02 b o hb) (Zc hb hr0))⟩
def CV(H:Hp)(v:V)(c:Com):Prop:=(c=none∧v=.non)∨∃ (t:Addr) (p:Int×Int),c=some p∧v=.ref t∧H t=some (.tup [.int p.1,.int p.2])
theorem CV.keep{H H':Hp}{v:V}{c:Com}(h:CV H v c)(k:∀t xs,H t=some (.tup xs)→H' t=some (.tup xs)):CV H' v c:=by
 rcases h with h|⟨t,p,h1,h2,h3⟩
 ·exact .inl h
 ·exact .inr ⟨t,p,h1,h2,k _ _ h3⟩
theorem ZmI{s:StL}{k:Int×Int}{v0:Option (Addr×Int×Int)}(h:ZR s k=some v0):s.any (fun e=>decide (e.1=k))=true:=List.any_eq_true.mpr ⟨_,Zg1 h,decide_eq_true rfl⟩
theorem Ze2{s:StL}{k:Int×Int}{v0 v:Option (Addr×Int×Int)}(h:ZR s k=some v0):(Zc0 s k v).length=s.length:=by
 unfold Zc0
 rw[if_pos (ZmI h),Qa]
def AgS(hd:Hd)(z:List Nat)(A B:List Int)(k q:Int):Prop:=∀C k0 q0,Ag hd z C k0 q0→Ag hd z (C++[(A,B)]) (k0+k) (q0+q)
def Zkm(cR cM:Addr):Sp:=fun vs H Q _=>∃ (m rd sd:Addr) (L:List ZD) (s:StL) (nb li lo:Int) (best:V) (tm:Addr) (v:V) (c:Com) (z:List Nat) (M:List Int) (n:Int),vs=[.ref m,.ref tm,v]∧Z1 cR cM H m rd sd L s nb li lo best∧H tm=some (.tup [.int (ZO M).1,.int (ZO M).2])∧CV H v c∧ZiS (hdM L) z (Zae M n) c ∧
 ((Win (hdM L) (Zap M n) none∧(ZR s (ZO M)=none∨ZR s (ZO M)=some none))∨∃t b y,Win (hdM L) (Zap M n) (some b)∧hdM L b=some y∧ZR s (ZO M)=some (some (t,b,((lcp y z:Nat):Int)))) ∧
 (∀b∈M,∀y,hdM L b=some y→ZF z y≤0)∧Zai M∧(∀b∈M,b∈ZE L)∧2≤M.length∧n∈M ∧
 ∀ (v':V) (c':Com) (s':StL) (k q:Int) (H':Hp),CV H' v' c'→ZiS (hdM L) z M c'→Zec (hdM L) s' (Zae M n) (Zap M n) (ZO M)→(∀j,j≠ZO M→ZR s' j=ZR s j)→AgS (hdM L) z (Zae M n) (Zap M n) k q →
  Z1 cR cM H' m rd sd L s' nb (li+k) (lo+q) best→(∀b o,H b=some o→b≠m→b≠sd→H' b=some o)→Q v' H'
theorem ZnL{L:List ZD}(nd:(ZE L).Nodup){b:Int}(hb:b∈ZE L){y:List Nat}(hy:hdM L b=some y):∃e∈L,e.n=b∧∃x,e.ss[e.g]? = some x∧y=cds x:=by
 obtain⟨e,he,rfl⟩:=ZdG hb
 rw[Zeg nd he]at hy
 cases hx:e.ss[e.g]? with
 | none=>rw[hx]at hy;cases hy
 | some x=>rw[hx]at hy;cases hy;exact⟨e,he,rfl,x,hx,rfl⟩
theorem Zn6(T:Zaf K mg cRow cMerge)(f_Merge_meet:Mf P w K mg base 3 cMerge "meet" ["self", "one", "other", "far"] (Zj1 cRow cMerge)):Mf P w K mg base 4 cMerge "play_again" ["self", "meeting", "comer"] (Zkm cRow cMerge):=by
 refine T.t_Merge_play_again.mf Zak (fun vs H Q E h=>?_) (fun cdv f A outer s H vs Q E hr h=>?_)
 ·obtain⟨m,rd,sd,L,s,nb,li,lo,best,tm,v,c,z,M,n,rfl,_⟩:=h
  rfl
 obtain⟨m,rd,sd,L,s,nb,li,lo',best,tm,v,c,z,M,n,rfl,Mg,htm,hcv,⟨wS,hcf⟩,hst,hge,hup,hin,h2,hn,q⟩:=h
 refine⟨_,#[Zf,#[Zz,3,Zak.nd,(Or.inl rfl),(@ZqB _ _ _ _ _ _ _ _ hr #[Zac,‹0›] ‹1› (by rfl) (by rfl) (by rfl))],#[Zf,#[ZZ,#[Zo,ZdR,‹3›,#[Zar],(Zt _)],#[Zj,#[Zn,‹2›]],#[ZB]],#[Zf,#[ZZ,#[Zo,ZdR,‹2›,#[Zar],(Zt _)],#[Zf,#[ZaO,#[Zar],#[ZdA,#[Zac,‹0›],‹1›,(Znl hr)]],#[Zj,#[Zn,‹3›]]],#[ZB]],#[Zf,#[ZZ,#[Zo,Za4,#[Zx,(ixT K),‹2›,#[Zh]],#[Zx,(ixT K),‹3›,#[Zh]],(Zt _)],#[Zf,#[ZaO,#[Zfc,f_Merge_meet,T.cl_Merge,hr,‹0›,#[Za,#[Zx,(ixT K),‹2›,#[Zh]],#[Za,#[Zx,(ixT K),‹3›,#[Zh]],#[Za,#[Zx,(ixT K),‹2›,#[Zh]],#[Zd]]]]],#[gT,K,3,#[Zs,#[Zw,4,Zak.nd],#[Zs,#[Zw,5,Zak.nd],#[Zs,#[Zw,6,Zak.nd],(@Zal _)]]]]],#[Zf,#[ZaO,#[ZN,#[Za,‹5›,#[Za,‹6›,#[Zd]]]],#[ZdA,#[Zac,‹0›],‹1›,(Znl hr)]],#[Zj,#[Zn,#[ZN,#[Za,‹4›,#[Za,#[Zx,(ixT K),‹2›,#[Zh]],#[Zd]]]]]]]],#[ZB]],#[Zf,(@ZdW _ _ _ _ _ _ _ _ _ _ ‹0› #[Zh] Zh4),#[Zf,#[ZZ,#[Zo,Zfi,#[Zx,(ixT K),‹2›,#[Zh]],#[Zx,(ixT K),‹3›,#[Zh]],(Zt _)],#[Zj,#[Zn,‹2›]],#[ZB]],#[Zf,#[ZaO,‹2›,#[ZdA,#[Zac,‹0›],‹1›,(Znl hr)]],#[Zj,#[Zn,‹3›]]]]]]]]],?_⟩
 obtain⟨dx,hm⟩:=Mg.ob
 have htm':H tm=some (.tup (([.inl (ZO M).1,.inl (ZO M).2]:List Key).map kV)):=htm
 have pm:=ZeQ M n
 have dg:=ZbZ.t (k:=[.inl (ZO M).1,.inl (ZO M).2]) Mg.stays htm'
 rw[Zjo]at dg
 have sA:∀b∈Zae M n,b∈M:=fun b hb=>pm.mem_iff.mp (Qr _ hb)
 have sB:∀b∈Zap M n,b∈M:=fun b hb=>pm.mem_iff.mp (Qn _ hb)
 have hno:=Zgc hup (ZdH hn)
 have dis:∀a b,a∈Zae M n→b∈Zap M n→a≠b:=fun a b ha hb e=>by
  subst e
  unfold Zae Zap at *
  split at ha
  ·rename_i hl;rw[if_pos hl]at hb;have:=ZJ hup ha hb;omega
  ·rename_i hl;rw[if_neg hl]at hb;have:=ZJ hup hb ha;omega
 refine⟨_,rfl,xw5 m cMerge dx _ _ ⟨rfl,hm,T.cl_Merge,T.na_Merge_stays,ZcX ..,sd,rfl,.inr ⟨_,.inl Mg.stays⟩,_,rfl,_,dg,?_⟩⟩
 rcases hst with⟨wO,hlk⟩|⟨t,b,y,wO,hy,hlk⟩
 ·have ev:((ZR s (ZO M)).map stV).getD .non=.non:=by rcases hlk with e|e<;>rw[e]<;>rfl
  rw[ev]
  refine⟨_,rfl,rfl,_,rfl,Zej rfl ⟨_,rfl,q v c s 0 0 H hcv ⟨(Win.left wS wO).perm pm,hcf⟩ ⟨(fun a b x y _ wb _ _=>nomatch wO.one wb),fun _=>hlk⟩ (fun _ _=>rfl) (fun C k0 q0 g=>by rw[QaN,QaN];exact .no g (.inr wO)) (Mg.cast (by omega) (by omega)) (fun b o h _ _=>h)⟩⟩
 have hat:=Mg.ats _ (Zg1 hlk) _ rfl
 have e1:((ZR s (ZO M)).map stV).getD .non=.ref t:=by rw[hlk];rfl
 rw[e1]
 have hsf:=Mg.sfew
 have hsl:(kvS s).length<sizeLine:=by unfold kvS;rw[Qa];exact ZI (by omega)
 refine⟨_,rfl,rfl,_,rfl,Zdj (fun z=>nomatch z) ?_⟩
 have hbM:=sB b wO.1
 rcases hcv with⟨rfl,rfl⟩|⟨tc,p,rfl,rfl,htc⟩
 ·refine⟨_,rfl,rfl,_,rfl,Zej rfl ?_⟩
  refine⟨_,rfl,xw5 m cMerge dx _ _ ⟨rfl,hm,T.cl_Merge,T.na_Merge_stays,ZcX ..,_,rfl,sd,_,rfl,ZeW.t (k:=[.inl (ZO M).1,.inl (ZO M).2]) Mg.stays htm' hsl,?_⟩⟩
  rw[show V.non=stV none from rfl,Zfw]
  have hl1:(Zc0 s (ZO M) none).length≤100:=by rw[Ze2 hlk];exact hsf
  have M2:=Mg.put (k:=ZO M) (v:=none) (fun t ht=>by cases ht) hl1
  have wS':Win (hdM L) (Zae M n) none:=wS
  refine⟨_,rfl,q (.ref t) (some (b,((lcp y z:Nat):Int))) _ 0 0 _ (.inr ⟨t,_,rfl,rfl,?_⟩) ⟨(Win.right wS' wO).perm pm,fun p hp=>?_⟩ ⟨(fun a b x y wa _ _ _=>nomatch wS'.one wa),fun _=>.inr ?_⟩ (fun j hj=>?_) (fun C k0 q0 g=>?_) (M2.cast (by omega) (by omega)) (fun b o hb _ n2=>by rw[Ze n2];exact hb)⟩
  ·rw[Ze (fun z=>by rw[z,Mg.stays]at hat;cases hat)];exact hat
  ·cases hp;exact⟨y,hy,rfl⟩
  ·rw[ZaZ,if_pos rfl]
  ·rw[ZaZ,if_neg hj]
  ·rw[QaN,QaN];exact .no g (.inl wS')
 obtain⟨a,fa⟩:=p
 obtain⟨x,hx,efa⟩:=hcf _ rfl
 simp only at hx efa
 subst efa
 have wS':Win (hdM L) (Zae M n) (some a):=wS
 have haM:=sA a wS'.1
 have hab:=dis a b wS'.1 wO.1
 obtain⟨ea,hea,rfl,zx,hzx,rfl⟩:=ZnL Mg.nd (hin a haM) hx
 obtain⟨eb,heb,rfl,zy,hzy,rfl⟩:=ZnL Mg.nd (hin b hbM) hy
 have c0:atI [V.int ea.n,.int ((lcp (cds zx) z:Nat):Int)] 0=some (.int ea.n):=Z3 (j:=0) rfl
 have c1:atI [V.int ea.n,.int ((lcp (cds zx) z:Nat):Int)] 1=some (.int ((lcp (cds zx) z:Nat):Int)):=Z3 (j:=1) rfl
 have d0:atI [V.int eb.n,.int ((lcp (cds zy) z:Nat):Int)] 0=some (.int eb.n):=Z3 (j:=0) rfl
 have d1:atI [V.int eb.n,.int ((lcp (cds zy) z:Nat):Int)] 1=some (.int ((lcp (cds zy) z:Nat):Int)):=Z3 (j:=1) rfl
 refine⟨_,rfl,rfl,_,rfl,Zdj (fun z=>nomatch z) ?_⟩
 refine⟨_,rfl,tc,_,_,_,rfl,rfl,SqT.of htc,c1,_,rfl,xw4 t _ _ _ ⟨rfl,rfl,SqT.of hat,d1,rfl,_,rfl,ZaV (fun d=>?_) (fun d=>?_)⟩⟩
 ·have ef:lcp (cds zx) z=lcp (cds zy) z:=by have:=of_decide_eq_true d;injection this with this;omega
  have hle:=Zqz ef
  refine⟨_,rfl,m,dx,_,rfl,hm,Zf8 ..,_,rfl,tc,_,_,_,rfl,rfl,SqT.of htc,c0,_,rfl,xw4 t _ _ _ ⟨rfl,rfl,SqT.of hat,d0,_,rfl,tc,_,_,_,rfl,rfl,SqT.of htc,c1,?_⟩⟩
  refine⟨m,rd,sd,L,s,nb,li,lo',best,ea,eb,zx,zy,lcp (cds zx) z,rfl,Mg,hea,heb,hzx,hzy,hle,fun t5 wi lz H5 hw ht5 ht5' M5 b5=>?_⟩
  refine⟨t5,_,rfl,SqT.of ht5',rfl,_,_,rfl,_,_,rfl,_,_,rfl,rfl,?_⟩
  have sz2:2≤sizeLine:=by decide
  refine⟨_,rfl,_,rfl,sz2,fun t6 ht6=>?_⟩
  have s6:=Zi ht6 (.tup [.int lz,.int ((lcp (cds zx) (cds zy):Nat):Int)])
  have ht66:(upd H5 t6 (.tup [.int lz,.int ((lcp (cds zx) (cds zy):Nat):Int)])) t6=some (.tup [.int lz,.int ((lcp (cds zx) (cds zy):Nat):Int)]):=Zb
  have M6:=M5.same s6
  generalize upd H5 t6 (.tup [.int lz,.int ((lcp (cds zx) (cds zy):Nat):Int)])=H6 at s6 ht66 M6 ⊢
  obtain⟨dx6,hm6⟩:=M6.ob
  have ntm:tm≠m:=fun z=>by rw[z,hm]at htm;cases htm
  have ntc:tc≠m:=fun z=>by rw[z,hm]at htc;cases htc
  have htm6:H6 tm=some (.tup (([.inl (ZO M).1,.inl (ZO M).2]:List Key).map kV)):=s6 _ _ (b5 _ _ htm' ntm)
  refine⟨_,rfl,xw5 m cMerge dx6 _ _ ⟨rfl,hm6,T.cl_Merge,T.na_Merge_stays,ZcX ..,_,rfl,sd,_,rfl,ZeW.t (k:=[.inl (ZO M).1,.inl (ZO M).2]) M6.stays htm6 hsl,?_⟩⟩
  rw[show V.ref t6=stV (some (t6,lz,((lcp (cds zx) (cds zy):Nat):Int))) from rfl,Zfw]
  have hl1:(Zc0 s (ZO M) (some (t6,lz,((lcp (cds zx) (cds zy):Nat):Int)))).length≤100:=by rw[Ze2 hlk];exact hsf
  have M7:=M6.put (k:=ZO M) (v:=some (t6,lz,((lcp (cds zx) (cds zy):Nat):Int))) (fun t ht=>by injection ht with ht;rw[← ht];exact ht66) hl1
  have b7:∀b o,H b=some o→b≠m→b≠sd→(upd H6 sd (.dT (kvS (Zc0 s (ZO M) (some (t6,lz,((lcp (cds zx) (cds zy):Nat):Int))))))) b=some o:=fun b o hb n1 n2=>by rw[Ze n2];exact s6 _ _ (b5 b o hb n1)
  have ntcs:tc≠sd:=fun z=>by rw[z,Mg.stays]at htc;cases htc
  generalize upd H6 sd (.dT (kvS (Zc0 s (ZO M) (some (t6,lz,((lcp (cds zx) (cds zy):Nat):Int))))))=H7 at M7 b7 ⊢
  refine⟨_,rfl,_,rfl,tc,_,_,_,rfl,rfl,SqT.of (b7 _ _ htc ntc ntcs),c1,sz2,fun t8 ht8=>?_⟩
  have wn:Win (hdM L) M (some wi):=by
   rcases hw with⟨w0,rfl,_⟩|⟨w0,rfl,_⟩
   ·exact(Win.both wS' wO hx hy w0).perm pm
   ·exact(Win.both' wS' wO hx hy ((Btr.total hab).resolve_left w0)).perm pm
  refine q (.ref t8) (some (wi,((lcp (cds zx) z:Nat):Int))) _ 1 ((lcp (cds zx) (cds zy):Nat)-(lcp (cds zx) z:Nat)+1) _ (.inr ⟨t8,_,rfl,rfl,Zb⟩) ⟨wn,fun p hp=>?_⟩ ⟨fun a b x' y' wa wb hxa hyb=>?_,fun hno=>?_⟩ (fun j hj=>by rw[ZaZ,if_neg hj]) (fun C k0 q0 g=>.eq g wS' wO hx hy ef) ((M7.same (Zi ht8 _)).cast rfl rfl) (fun b o hb n1 n2=>Zi ht8 _ _ _ (b7 b o hb n1 n2))
  ·cases hp
   rcases hw with⟨w0,rfl,_⟩|⟨w0,rfl,_⟩
   ·exact⟨_,hx,rfl⟩
   ·exact⟨_,hy,by simp only;rw[ef]⟩
  ·have e1:=Qp (wa.one wS')
   have e2:=Qp (wb.one wO)
   subst e1
   subst e2
   have e3:=Qp (hxa.symm.trans hx)
   have e4:=Qp (hyb.symm.trans hy)
   subst e3
   subst e4
   refine⟨t6,lz,by rw[ZaZ,if_pos rfl],?_⟩
   rcases hw with⟨w0,_,rfl⟩|⟨w0,_,rfl⟩
   ·exact .inl ⟨w0,rfl⟩
   ·exact .inr ⟨(Btr.total hab).resolve_left w0,rfl⟩
  ·rcases hno with z|z
   ·exact nomatch z.one wS'
   ·exact nomatch z.one wO
 have nef:lcp (cds zx) z≠lcp (cds zy) z:=fun e=>d (decide_eq_true (by rw[e]))
 refine⟨_,rfl,xw5 m cMerge dx _ _ ⟨rfl,hm,T.cl_Merge,T.na_Merge_likened,Zff ..,_,_,rfl,rfl,dx,_,hm,Zct ..,?_⟩⟩
 rw[Zdl]
 have M2:=Mg.obj (nb':=nb) (li':=li+1) (lo':=lo') (best':=best) (dx:=dx)
 have k2:∀b o,H b=some o→b≠m→(upd H m (.ins cMerge dx (mgF rd nb (li+1) lo' sd best))) b=some o:=fun b o hb n=>by rw[Ze n];exact hb
 have ntc:tc≠m:=fun z=>by rw[z,hm]at htc;cases htc
 have ntt:t≠m:=fun z=>by rw[z,hm]at hat;cases hat
 have ntm:tm≠m:=fun z=>by rw[z,hm]at htm;cases htm
 generalize upd H m (.ins cMerge dx (mgF rd nb (li+1) lo' sd best))=H2 at M2 k2 ⊢
 have htc2:=k2 _ _ htc ntc
 have hat2:=k2 _ _ hat ntt
 refine⟨_,rfl,tc,_,_,_,rfl,rfl,SqT.of htc2,c1,_,rfl,xw4 t _ _ _ ⟨rfl,rfl,SqT.of hat2,d1,_,_,rfl,rfl,_,rfl,ZaV (fun g=>?_) (fun g=>?_)⟩⟩
 ·have hgt:lcp (cds zy) z<lcp (cds zx) z:=by have:((lcp (cds zy) z:Nat):Int)<((lcp (cds zx) z:Nat):Int):=of_decide_eq_true g;omega
  obtain⟨bt,el⟩:=ZiN (a:=ea.n) (b:=eb.n) hgt (hge _ hbM _ hy)
  refine⟨_,rfl,q (.ref tc) (some (ea.n,((lcp (cds zx) z:Nat):Int))) s 1 0 H2 (.inr ⟨tc,_,rfl,rfl,htc2⟩) ⟨(Win.both wS' wO hx hy bt).perm pm,fun p hp=>by cases hp;exact⟨_,hx,rfl⟩⟩ ⟨fun a b x' y' wa wb hxa hyb=>?_,fun hno=>?_⟩ (fun _ _=>rfl) (fun C k0 q0 g=>by rw[QaN];exact .ne g wS' wO hx hy nef) (M2.cast rfl (by omega)) (fun b o hb n1 _=>k2 b o hb n1)⟩
  ·have e1:=Qp (wa.one wS')
   have e2:=Qp (wb.one wO)
   subst e1
   subst e2
   have e3:=Qp (hxa.symm.trans hx)
   have e4:=Qp (hyb.symm.trans hy)
   subst e3
   subst e4
   exact⟨t,_,by rw[el];exact hlk,.inl ⟨bt,rfl⟩⟩
  ·rcases hno with z|z
   ·exact nomatch z.one wS'
   ·exact nomatch z.one wO
 ·have hlt:lcp (cds zx) z<lcp (cds zy) z:=by
   have:¬ ((lcp (cds zy) z:Nat):Int)<((lcp (cds zx) z:Nat):Int):=fun e=>g (decide_eq_true e)
   omega
  obtain⟨bt,el⟩:=ZiN (a:=eb.n) (b:=ea.n) hlt (hge _ haM _ hx)
  obtain⟨dx2,hm2⟩:=M2.ob
  have htm2:H2 tm=some (.tup (([.inl (ZO M).1,.inl (ZO M).2]:List Key).map kV)):=k2 _ _ htm' ntm
  refine⟨_,rfl,_,rfl,xw5 m cMerge dx2 _ _ ⟨rfl,hm2,T.cl_Merge,T.na_Merge_stays,ZcX ..,_,rfl,sd,_,rfl,ZeW.t (k:=[.inl (ZO M).1,.inl (ZO M).2]) M2.stays htm2 hsl,?_⟩⟩
  rw[show V.ref tc=stV (some (tc,ea.n,((lcp (cds zx) z:Nat):Int))) from rfl,Zfw]
  have hl1:(Zc0 s (ZO M) (some (tc,ea.n,((lcp (cds zx) z:Nat):Int)))).length≤100:=by rw[Ze2 hlk];exact hsf
  have M3:=M2.put (k:=ZO M) (v:=some (tc,ea.n,((lcp (cds zx) z:Nat):Int))) (fun t ht=>by injection ht with ht;rw[← ht];exact htc2) hl1
  refine⟨_,rfl,q (.ref t) (some (eb.n,((lcp (cds zy) z:Nat):Int))) _ 1 0 _ (.inr ⟨t,_,rfl,rfl,?_⟩) ⟨(Win.both' wS' wO hx hy bt).perm pm,fun p hp=>by cases hp;exact⟨_,hy,rfl⟩⟩ ⟨fun a b x' y' wa wb hxa hyb=>?_,fun hno=>?_⟩ (fun j hj=>by rw[ZaZ,if_neg hj]) (fun C k0 q0 g=>by rw[QaN];exact .ne g wS' wO hx hy nef) (M3.cast rfl (by omega)) (fun b o hb n1 n2=>by rw[Ze n2];exact k2 b o hb n1)⟩
  ·rw[Ze (fun z=>by rw[z,M2.stays]at hat2;cases hat2)];exact hat2
  ·have e1:=Qp (wa.one wS')
   have e2:=Qp (wb.one wO)
   subst e1
   subst e2
   have e3:=Qp (hxa.symm.trans hx)
   have e4:=Qp (hyb.symm.trans hy)
   subst e3
   subst e4
   exact⟨tc,_,by rw[ZaZ,if_pos rfl,Zcm (cds zx) (cds zy),el],.inr ⟨bt,rfl⟩⟩
  ·rcases hno with z|z
   ·exact nomatch z.one wS'
   ·exact nomatch z.one wO
def ZcV(n:Int)(e:ZD):ZD:=if e.n=n then ⟨e.n,e.p,e.k,e.f,e.ss,e.g+1⟩ else e
def bump(L:List ZD)(n:Int):List ZD:=L.map (ZcV n)
theorem Zde(n:Int)(e:ZD):(ZcV n e).n=e.n∧(ZcV n e).p=e.p∧(ZcV n e).k=e.k∧(ZcV n e).f=e.f∧(ZcV n e).ss=e.ss:=by unfold ZcV;split<;>exact⟨rfl,rfl,rfl,rfl,rfl⟩
theorem ZeE{n:Int}{e:ZD}(h:e.n=n):ZcV n e=⟨e.n,e.p,e.k,e.f,e.ss,e.g+1⟩:=if_pos h
theorem Zf0{n:Int}{e:ZD}(h:¬ e.n=n):ZcV n e=e:=if_neg h
theorem Zcf(L:List ZD)(n:Int):ZE (bump L n)=ZE L:=by
 unfold ZE bump
 rw[QA]
 exact QK fun e _=>(Zde n e).1
theorem ZpH(L:List ZD)(n:Int):(bump L n).map (·.p)=L.map (·.p):=by
 unfold bump
 rw[QA]
 exact QK fun e _=>(Zde n e).2.1
theorem ZnH(L:List ZD)(n:Int):kvM (bump L n)=kvM L:=by
 unfold kvM bump
 rw[QA]
 refine QK fun e _=>?_
 simp only[Function.comp]
 rw[(Zde n e).1,(Zde n e).2.1]
theorem Zoz{m rd sd:Addr}{L:List ZD}{n:Int}{b:Addr}(h:Fp m rd sd (bump L n) b):Fp m rd sd L b:=by
 rcases h with h|h|h|⟨e',he',h⟩
 ·exact .inl h
 ·exact .inr (.inl h)
 ·exact .inr (.inr (.inl h))
 ·obtain⟨e,he,rfl⟩:=Qt.mp he'
  obtain⟨_,h1,h2,h3,_⟩:=Zde n e
  rw[h1,h2,h3]at h
  exact .inr (.inr (.inr ⟨e,he,h⟩))
theorem Fp_bump'{m rd sd:Addr}{L:List ZD}{n:Int}{b:Addr}(h:Fp m rd sd L b):Fp m rd sd (bump L n) b:=by
 rcases h with h|h|h|⟨e,he,h⟩
 ·exact .inl h
 ·exact .inr (.inl h)
 ·exact .inr (.inr (.inl h))
 ·obtain⟨_,h1,h2,h3,_⟩:=Zde n e
  refine .inr (.inr (.inr ⟨ZcV n e,Qm he,?_⟩))
  rw[h1,h2,h3]
  exact h
theorem Zkw{n b:Int}(h:b≠n):∀L:List ZD,hdM (bump L n) b=hdM L b
 | []=>rfl
 | e::L=>by
  have ih:=Zkw h L
  unfold hdM hdL bump at ih ⊢
  rw[Qj,Qj,Qj,Qam,Qam]
  have e1:(toL (ZcV n e)).1=e.n:=(Zde n e).1
  rw[e1]
  by_cases he:e.n=b
  ·rw[decide_eq_true he,decide_eq_true (show (toL e).1=b from he),Zf0 (fun z=>h (he.symm.trans z))]
  ·rw[decide_eq_false he,decide_eq_false (show ¬ (toL e).1=b from he)]
   exact ih
theorem Zim{L:List ZD}(nd:(ZE L).Nodup){e:ZD}(he:e∈L):hdM (bump L e.n) e.n=(e.ss[e.g+1]?).map cds:=by
 have hm:ZcV e.n e∈bump L e.n:=Qm he
 rw[ZeE rfl]at hm
 exact Zeg (L:=bump L e.n) (by rw[Zcf];exact nd) hm
theorem ZeR(k f:Addr)(g:Int):ZcG k f g=([("all_keys",.ref k),("fars",.ref f),("gone",.int g)]:List (Str×V)):=by
 unfold ZcG
 rw[Zbz,Zv nFK,Zbz,Zv nGK,Zv nGF,Zbz]
theorem Zgv(k f:Addr)(g v:Int):Zr "gone" (.int v) (ZcG k f g)=ZcG k f v:=by
 rw[ZeR,ZeR,Zv nGK,Zv nGF,Zdv]
theorem Zms(k f:Addr)(g:Int):(ZcG k f g).length<1000:=by rw[ZeR];show 3<1000;decide
theorem ZlH(k f:Addr)(g:Int):(ZcG k f g).lookup ("fars" : Str)=some (.ref f):=by
 unfold ZcG
 rw[Zm,if_neg nGF,Zm,if_pos rfl]
theorem ZsB{L:List ZD}(pd:(L.map (·.p)).Nodup){e e':ZD}(he:e∈L)(he':e'∈L)(h:e.p=e'.p):e=e':=by
 have n2:((L.map fun x=>(x.p,x)).map (·.1)).Nodup:=by rw[QA];exact pd
 have:=Zdf n2 (Qm (f:=fun x:ZD=>(x.p,x)) he) (Qm (f:=fun x:ZD=>(x.p,x)) he') h
 injection this
theorem Z1.bump{cR cM:Addr}{H:Hp}{m rd sd:Addr}{L:List ZD}{s:StL}{nb li lo:Int}{best:V}(M:Z1 cR cM H m rd sd L s nb li lo best){e:ZD}(he:e∈L)(hg:e.g<e.ss.length){dp:Addr} :
  Z1 cR cM (upd H e.p (.ins cR dp (ZcG e.k e.f ((e.g+1:Nat):Int)))) m rd sd (My.bump L e.n) s nb li lo best:=by
 obtain⟨dm,hm⟩:=M.ob
 obtain⟨dq,hp⟩:=(M.each e he).at'.ob
 obtain⟨n1,_,_⟩:=M.ne_p he
 obtain⟨n2,_,_,n3,_,_⟩:=M.ne_sd he
 refine⟨⟨dm,by rw[Ze n1];exact hm⟩,by rw[Ze n3,ZnH];exact M.rows,by rw[Ze n2];exact M.stays,fun x hx t ht=>?_,fun e' he'=>?_,by rw[Zcf];exact M.up,by rw[ZpH];exact M.pd,by unfold My.bump;rw[Qa];exact M.few,M.sfew⟩
 ·have:=M.ats x hx t ht
  rw[Ze (fun z=>by rw[z,hp]at this;cases this)];exact this
 ·obtain⟨x,hx,rfl⟩:=Qt.mp he'
  have R:=M.each x hx
  have kne:∀ {y:ZD},y∈L→y.k≠e.p∧y.f≠e.p:=fun {y} hy=>by
   have Ry:=M.each y hy
   exact⟨(fun z=>by have:=Ry.at'.ks;rw[z,hp]at this;cases this),(fun z=>by have:=Ry.at'.fs;rw[z,hp]at this;cases this)⟩
  obtain⟨k1,k2⟩:=kne hx
  by_cases hn:x.n=e.n
  ·have ex:x=e:=by
    have n2:((L.map fun x=>(x.n,x)).map (·.1)).Nodup:=by rw[QA];exact M.nd
    have:=Zdf n2 (Qm (f:=fun x:ZD=>(x.n,x)) hx) (Qm (f:=fun x:ZD=>(x.n,x)) he) hn
    injection this
   subst ex
   rw[ZeE rfl]
   exact⟨⟨⟨dp,Zb⟩,by show (upd H x.p _) x.k=_;rw[Ze k1];exact R.at'.ks,by show (upd H x.p _) x.f=_;rw[Ze k2];exact R.at'.fs⟩,hg,R.len,R.srt,R.str⟩
  ·rw[Zf0 hn]
   exact R.keep (Ze (fun z=>hn (by rw[ZsB M.pd hx he z]))) (Ze k1) (Ze k2)
theorem ZrP{L:List ZD}{e:ZD}{x:Str}(nd:(ZE L).Nodup)(up:Zai (ZE L))(he:e∈L)(hx:e.ss[e.g]? = some x)(srt:sortedS e.ss=true)(W:Win (hdM L) (ZE L) (some e.n)):Tk (hdM L) (hdM (bump L e.n)) (ZE L) e.n (cds x):=by
 refine⟨W,by rw[Zeg nd he,hx];rfl,fun b hb=>Zkw hb L,fun y hy=>?_,up⟩
 rw[Zim nd he]at hy
 cases hz:e.ss[e.g+1]? with
 | none=>rw[hz]at hy;cases hy
 | some y'=>rw[hz]at hy;cases hy;exact Zho srt e.g x y' hx hz
theorem Zq4{c:Bool}{e1 e2:VK→Prop}{Q:VK}(P:V→Hp→Prop)(h1:c=true→∀Q':VK,(∀v H,P v H→Q' v H)→e1 Q')(h2:c=false→∀Q':VK,(∀v H,P v H→Q' v H)→e2 Q')(q:∀v H,P v H→Q v H):if c=true then e1 Q else e2 Q:=by
 cases c with
 | true=>rw[if_pos rfl];exact h1 rfl Q q
 | false=>rw[if_neg (by decide)];exact h2 rfl Q q
def Zd4(n:Int)(C:List (List Int)):List (List Int×List Int):=C.map fun X=>(Zae X n,Zap X n)
theorem Zir(rd:Addr)(nb li lo:Int)(sd:Addr)(best:V):(mgF rd nb li lo sd best).lookup ("play_again" : Str)=none:=Zda _ _ _ _ _ _ (by ac_rfl) (by ac_rfl) (by ac_rfl) (by ac_rfl) (by ac_rfl) (by ac_rfl)
def Znm(cR cM:Addr):Sp:=fun vs H Q _=>∃ (m rd sd:Addr) (L:List ZD) (s:StL) (nb li lo:Int) (best:V) (e:ZD) (x:Str),vs=[.ref m,.int e.n]∧Z1 cR cM H m rd sd L s nb li lo best∧e∈L∧e.ss[e.g]? = some x∧Win (hdM L) (ZE L) (some e.n)∧Z6 (hdM L) s (ZE L) ∧
 ∀ (s':StL) (w':Option Int) (k q:Int) (H':Hp),Z1 cR cM H' m rd sd (bump L e.n) s' nb (li+k) (lo+q) (Zel w')→Win (hdM (bump L e.n)) (ZE L) w'→Z6 (hdM (bump L e.n)) s' (ZE L)→Ag (hdM (bump L e.n)) (cds x) (Zd4 e.n (ZV 8 (ZE L) e.n)) k q→(∀b o,H b=some o→¬ Fp m rd sd L b→H' b=some o)→Q .non H'
theorem Zo2(T:Zaf K mg cRow cMerge)(f_Row_head:Mf P w K mg base 2 cRow "head" ["self"] (ZfC cRow))(f_matches_up:Df P w K mg base 3 "matches_up" ["numbers", "n"] Zhb)(f_Merge_play_again:Mf P w K mg base 4 cMerge "play_again" ["self", "meeting", "comer"] (Zkm cRow cMerge)):Mf P w K mg base 5 cMerge "send_out" ["self", "number"] (Znm cRow cMerge):=by
 refine T.t_Merge_send_out.mf Zav (fun vs H Q E h=>?_) (fun cdv f A outer s H vs Q E hr h=>?_)
 ·obtain⟨m,rd,sd,L,s,nb,li,lo,best,e,x,rfl,_⟩:=h
  rfl
 obtain⟨m,rd,sd,L,s,nb,li,lo',best,e,x,rfl,M,he,hx,W,ok,q⟩:=h
 refine⟨_,#[Zf,#[Zz,2,Zav.nd,(Or.inl rfl),#[Zx,(ixG hr),#[Zac,‹0›],‹1›]],#[Zf,(@ZdW _ _ _ _ _ _ _ _ _ _ ‹2› #[Zh] Zh4),#[Zf,#[Zz,3,Zav.nd,(Or.inl rfl),#[Za9,#[Zo,ZdR,#[Zdg,f_Row_head,T.cl_Row,hr,‹2›],#[Zar],(Zt _)],#[Zar],#[ZN,#[Za,‹1›,#[Za,#[Zx,(ixL K),#[Zac,‹2›],#[Zac,‹2›]],#[Zd]]]]]],#[Zf,#[Zbo,PassesOwn.never,#[iL,K,#[ZA,f_matches_up,hr,#[Za,#[ZcP,Zst,T.b.n_list,boot_list,#[Za,#[Zac,‹0›],#[Zd]]],#[Za,‹1›,#[Zd]]],(by rfl)]],#[Zw,4,Zav.nd],#[Zj,#[Zz,3,Zav.nd,(Or.inl rfl),#[Zfc,f_Merge_play_again,T.cl_Merge,hr,‹0›,#[Za,‹4›,#[Za,‹3›,#[Zd]]]]]]],#[Zj,#[Zb1,‹0›,#[Za9,#[Zo,ZdR,‹3›,#[Zar],(Zt _)],#[Zar],#[Zx,(ixT K),‹3›,#[Zh]]]]]]]]],?_⟩
 obtain⟨dx,hm⟩:=M.ob
 have R:=M.each e he
 obtain⟨dp,hp⟩:=R.at'.ob
 have hg:e.g<e.ss.length:=(Qc.mp hx).1
 have tk:=ZrP M.nd M.up he hx R.srt W
 refine⟨_,rfl,xw5 m cMerge dx _ _ ⟨rfl,hm,T.cl_Merge,T.na_Merge_rows,ZbU ..,_,rfl,rd,_,rfl,ZbZ.k' (k:=.inl e.n) M.rows (ZfS M.nd he),?_⟩⟩
 refine⟨_,rfl,e.p,cRow,dp,_,_,rfl,hp,T.cl_Row,T.na_Row_gone,ZcT ..,_,_,rfl,rfl,dp,_,hp,Zms ..,?_⟩
 rw[Zgv,show ((e.g:Int)+1)=((e.g+1:Nat):Int) by omega]
 have M1:=M.bump he hg (dp:=dp)
 have hp1:(upd H e.p (.ins cRow dp (ZcG e.k e.f ((e.g+1:Nat):Int)))) e.p=some (.ins cRow dp (ZcG e.k e.f ((e.g+1:Nat):Int))):=Zb
 have k1:∀b o,H b=some o→b≠e.p→(upd H e.p (.ins cRow dp (ZcG e.k e.f ((e.g+1:Nat):Int)))) b=some o:=fun b o hb n=>by rw[Ze n];exact hb
 generalize upd H e.p (.ins cRow dp (ZcG e.k e.f ((e.g+1:Nat):Int)))=H1 at M1 hp1 k1 ⊢
 have hm':(⟨e.n,e.p,e.k,e.f,e.ss,e.g+1⟩:ZD)∈bump L e.n:=by
  have:ZcV e.n e∈bump L e.n:=Qm he
  rwa [ZeE rfl]at this
 have R1:=M1.each _ hm'
 have keep1:∀ {H2:Hp},(∀b o,H1 b=some o→b≠m→b≠sd→H2 b=some o)→∀b o,H b=some o→¬ Fp m rd sd L b→H2 b=some o:=fun {H2} k b o hb nf =>
  k b o (k1 b o hb fun z=>nf (.inr (.inr (.inr ⟨e,he,.inl z⟩)))) (fun z=>nf (.inl z)) (fun z=>nf (.inr (.inr (.inl z))))
 have hpos:e.n∈ZE L:=W.1
 have h60:(ZE L).length≤60:=by unfold ZE;rw[Qa];exact M.few
 have hpw:(ZE L).length≤2 ^ 8:=QP h60 (by decide)
 obtain⟨cok,ctop,clen⟩:=ZfJ 8 (ZE L) e.n hpos hpw
 have hgo:hdM (bump L e.n) e.n=(e.ss[e.g+1]?).map cds:=Zim M.nd he
 have hdd:∀ (c:Com),(c=none∧e.ss[e.g+1]? = none)∨(∃y,e.ss[e.g+1]? = some y∧c=some (e.n,((lcp (cds y) (cds x):Nat):Int)))→ZiS (hdM (bump L e.n)) (cds x) [e.n] c:=fun c hc=>by
  have hw:=Win.sing (hd:=hdM (bump L e.n)) (n:=e.n)
  rcases hc with⟨rfl,hn⟩|⟨y,hy,rfl⟩
  ·rw[hgo,hn]at hw
   exact⟨hw,fun p hp=>by cases hp⟩
  ·rw[hgo,hy]at hw
   exact⟨hw,fun p hp=>by cases hp;exact⟨cds y,by rw[hgo,hy];rfl,rfl⟩⟩
 refine⟨_,rfl,e.p,dp,_,rfl,hp1,ZbS ..,e.p,e.k,e.f,e.ss,e.g+1,rfl,R1.at',rfl,_,rfl,?_⟩
 rw[Zl9]
 refine Zq4 (fun v H2=>Zu H1 H2∧∃c,CV H2 v c∧ZiS (hdM (bump L e.n)) (cds x) [e.n] c) (fun d Q' hq=>?_) (fun d Q' hq=>?_) (fun v H2 ⟨s2,c,hcv,hok⟩=>?_)
 ·have hn:e.ss[e.g+1]? = none:=by
   have:=of_decide_eq_true d
   cases hy:e.ss[e.g+1]? with
   | none=>rfl
   | some y=>rw[hy]at this;cases this
  exact hq _ _ ⟨Zu.refl _,none,.inl ⟨rfl,rfl⟩,hdd none (.inl ⟨rfl,hn⟩)⟩
 ·obtain⟨y,hy⟩:∃y,e.ss[e.g+1]? = some y:=by
   cases hy:e.ss[e.g+1]? with
   | none=>rw[hy]at d;exact absurd rfl (of_decide_eq_false d)
   | some y=>exact⟨y,rfl⟩
  have hyl:e.g+1<e.ss.length:=(Qc.mp hy).1
  have hal:ZcQ e.ss (e.g+1)=((lcp (cds y) (cds x):Nat):Int):=by
   unfold ZcQ
   rw[if_neg (by omega),Qat,Ql,Ql,hx,hy,Zcm]
   rfl
  have hat:atI ((List.range e.ss.length).map fun j=>V.int (ZcQ e.ss j)) ((e.g+1:Nat):Int)=some (.int ((lcp (cds y) (cds x):Nat):Int)):=Z3 (by rw[Qi,Qai hyl,← hal];rfl)
  refine⟨_,rfl,_,rfl,e.p,cRow,dp,_,_,rfl,hp1,T.cl_Row,T.na_Row_fars,ZlH ..,_,rfl,e.p,cRow,dp,_,_,rfl,hp1,T.cl_Row,T.na_Row_gone,ZcT ..,xw4 e.f _ _ _ ⟨rfl,rfl,SqL.of R1.at'.fs,hat,(by show 2≤sizeLine;decide),fun tc htc=>?_⟩⟩
  exact hq _ _ ⟨Zi htc _,some (e.n,((lcp (cds y) (cds x):Nat):Int)),.inr ⟨tc,_,rfl,rfl,Zb⟩,hdd _ (.inr ⟨y,hy,rfl⟩)⟩
 have M2:=M1.same s2
 obtain⟨dx2,hm2⟩:=M2.ob
 refine⟨_,rfl,xw5 m cMerge dx2 _ _ ⟨rfl,hm2,T.cl_Merge,T.na_Merge_rows,ZbU ..,rd,_,rfl,M2.rows,fun l hl=>?_⟩⟩
 rw[Zmp,Zcf]
 have s3:=s2.trans (Zi hl (.lst ((ZE L).map V.int)))
 have hl3:(upd H2 l (.lst ((ZE L).map V.int))) l=some (.lst ((ZE L).map V.int)):=Zb
 have hcv3:CV (upd H2 l (.lst ((ZE L).map V.int))) v c:=hcv.keep fun t xs ht=>Zi hl _ _ _ ht
 generalize upd H2 l (.lst ((ZE L).map V.int))=H3 at s3 hl3 hcv3 ⊢
 refine⟨_,rfl,l,ZE L,e.n,rfl,hl3,hpos,h60,M.up,fun r ts H4 hr0 hr4 htl hts s4=>?_⟩
 have s14:=s3.trans s4
 have M4:=M1.same s14
 have hcv4:CV H4 v c:=hcv3.keep fun t xs ht=>s4 _ _ ht
 refine⟨r,rfl,⟨_,SqL.of hr4⟩,?_⟩
 obtain⟨dm4,hm4⟩:=M4.ob
 obtain⟨dm1,hm1⟩:=M1.ob
 have nrm:r≠m:=(Zc (s3 _ _ hm1) hr0).symm
 have nrs:r≠sd:=(Zc (s3 _ _ M1.stays) hr0).symm
 refine Zf4 (K:=K) (a:=r) (xs:=ts.map V.ref) (fun i σ H5=>∃ (v':V) (c':Com) (s':StL) (k q':Int) (v4:Option V),σ=[some (.ref m),some (.int e.n),some (.ref e.p),some v',v4]∧i≤ts.length∧CV H5 v' c'∧ZiS (hdM (bump L e.n)) (cds x) (low e.n (ZV 8 (ZE L) e.n) i) c'∧Z1 cRow cMerge H5 m rd sd (bump L e.n) s' nb (li+k) (lo'+q') best∧Z6 (hdM (bump L e.n)) s' (low e.n (ZV 8 (ZE L) e.n) i)∧(∀j,¬ Kys (low e.n (ZV 8 (ZE L) e.n) i) j→ZR s' j=ZR s j)∧Ag (hdM (bump L e.n)) (cds x) (Zd4 e.n ((ZV 8 (ZE L) e.n).take i)) k q'∧(∀b o,H4 b=some o→b≠m→b≠sd→H5 b=some o)) ?_ (fun i σ H5 _ hq=>by obtain⟨_,_,_,_,_,_,_,_,_,_,_,_,_,_,k5⟩:=hq;exact SqL.of (k5 _ _ hr4 nrm nrs)) ?_ ?_
 ·refine⟨v,c,s,0,0,_,rfl,Qv _,hcv4,hok,M4.cast (by omega) (by omega),fun X hX h2=>?_,fun _ _=>rfl,.nil,fun b o h _ _=>h⟩
  have:=Ze1 hX
  rcases this with rfl|⟨g,_⟩
  ·exact absurd h2 (by show ¬ 2≤1;decide)
  ·exact absurd g (by show ¬ 2≤1;decide)
 ·rintro i y σ H5 hy ⟨v',c',s',k,q',v4,rfl,hi,hcv5,hok5,M5,nok,hlk,ag,k5⟩
  rw[Qi]at hy
  cases hz:ts[i]? with
  | none=>rw[hz]at hy;cases hy
  | some t =>
  rw[hz]at hy
  cases hy
  have hil:i<ts.length:=(Qc.mp hz).1
  cases hX:(ZV 8 (ZE L) e.n)[i]? with
  | none=>rw[QaC]at hX;omega
  | some X =>
  obtain⟨x1,x2,x3,x4⟩:=cok i X hX
  have hup:=x1.rise M.up
  have e3:low e.n (ZV 8 (ZE L) e.n) (i+1)=X:=by show (ZV 8 (ZE L) e.n).getD i []=X;rw[Ql,hX];rfl
  have ht5:H5 t=some (.tup [.int (ZO X).1,.int (ZO X).2]):=k5 _ _ (hts i t X hz hX) (fun z=>by have:=hts i t X hz hX;rw[z,hm4]at this;cases this) (fun z=>by have:=hts i t X hz hX;rw[z,M4.stays]at this;cases this)
  obtain⟨dm5,hm5⟩:=M5.ob
  rw[← x4]at hok5 nok hlk
  have was:=ZnO tk x1 x2 x3 ok
  have hkey:ZR s' (ZO X)=ZR s (ZO X):=hlk _ fun z=>(Zi9 hup x2 z).1 rfl
  refine⟨_,rfl,m,dm5,_,rfl,hm5,Zir ..,_,rfl,_,rfl,m,rd,sd,bump L e.n,s',nb,_,_,best,t,v',c',cds x,X,e.n,rfl,M5,ht5,hcv5,hok5,?_,fun b hb y hy=>tk.ge (x1.mem hb) hy,hup,fun b hb=>by rw[Zcf];exact x1.mem hb,x2,x3,fun v6 c6 s6 k6 q6 H6 hcv6 hok6 hnd6 hoth6 hag6 M6 k6'=>?_⟩
  ·rw[hkey]
   rcases was with w|⟨t',b,y,w1,w2,_,w4⟩
   ·exact .inl w
   ·exact .inr ⟨t',b,y,w1,w2,w4⟩
  ·refine⟨v6,c6,s6,k+k6,q'+q6,_,rfl,hil,hcv6,by rw[e3];exact hok6,M6.cast (by omega) (by omega),?_,fun j hj=>?_,?_,fun b o hb n1 n2=>k6' b o (k5 b o hb n1 n2) n1 n2⟩
   ·rw[e3]
    refine Zll (n:=e.n) (nok.congr (fun _ _=>rfl) fun j hj=>hoth6 j (Zi9 hup x2 hj).1) ?_ hnd6
    have hno:=Zgc hup (ZdH x3)
    have so:Sub X (Zap X e.n):=by unfold Zap;split;exact Sub.top.up x2;exact Sub.top.lo x2
    refine(ok.sub (x1.trans so)).congr (fun b hb=>tk.oth b fun z=>hno (z ▸ hb)) fun j hj=>?_
    rw[hoth6 j (ZiC hup x2 hj).1,hlk j (ZiC hup x2 hj).2]
   ·rw[e3]at hj
    rw[hoth6 j (fun z=>hj ⟨X,.top,x2,z⟩),hlk j (fun hq=>by obtain⟨Y,y1,y2,y3⟩:=hq;exact hj ⟨Y,(ZiI x2 e.n).trans y1,y2,y3⟩)]
   ·have:=hag6 _ _ _ ag
    unfold Zd4 at this ⊢
    rw[QH,hX,Qe]
    exact this
 ·rintro σ H5 ⟨v',c',s',k,q',v4,rfl,_,hcv5,hok5,M5,nok,hlk,ag,k5⟩
  rw[Qa,htl,ctop]at hok5 nok
  rw[Qa,htl,Qx (Qh _)]at ag
  obtain⟨dm5,hm5⟩:=M5.ob
  have fin:∀w':Option Int,w'=c'.map (·.1)→Q .non (upd H5 m (.ins cMerge dm5 (mgF rd nb (li+k) (lo'+q') sd (Zel w')))):=fun w' ew=>by
   subst ew
   refine q s' _ k q' _ M5.obj hok5.1 nok ag fun b o hb nf=>?_
   rw[Ze (fun z=>nf (.inl z))]
   exact keep1 (fun b o hb n1 n2=>k5 b o (s14 b o hb) n1 n2) b o hb nf
  rcases hcv5 with⟨rfl,rfl⟩|⟨t,p,rfl,rfl,ht⟩
  ·refine⟨_,rfl,rfl,_,rfl,Zej rfl ?_⟩
   refine⟨_,rfl,m,cMerge,dm5,_,rfl,hm5,T.cl_Merge,T.na_Merge_best,Zct ..,?_⟩
   rw[Zb8]
   exact fin none rfl
  ·refine⟨_,rfl,rfl,_,rfl,Zdj (fun z=>nomatch z) ?_⟩
   refine⟨_,rfl,xw4 t _ _ _ ⟨rfl,rfl,SqT.of ht,(show atI [V.int p.1,V.int p.2] 0=some (.int p.1) from Z3 (j:=0) rfl),_,rfl,m,cMerge,dm5,_,rfl,hm5,T.cl_Merge,T.na_Merge_best,Zct ..,?_⟩⟩
   rw[Zb8]
   exact fin (some p.1) rfl
def ZkK(L:List ZD)(w:Option Int)(x:V)(L':List ZD)(k q:Int)(H':Hp):Prop :=
 (w=none∧x=.non∧L'=L∧k=0∧q=0)∨∃ (e:ZD) (t:Addr) (z:Str),e∈L∧w=some e.n∧x=.ref t∧e.ss[e.g]? = some z∧H' t=some (.tup [.int e.n,.int (e.g:Int),.str z])∧L'=bump L e.n∧Ag (hdM L') (cds z) (Zd4 e.n (ZV 8 (ZE L) e.n)) k q
theorem Zjq(rd:Addr)(nb li lo:Int)(sd:Addr)(best:V):(mgF rd nb li lo sd best).lookup ("send_out" : Str)=none:=Zda _ _ _ _ _ _ (by ac_rfl) (by ac_rfl) (by ac_rfl) (by ac_rfl) (by ac_rfl) (by ac_rfl)
theorem Zj0(rd:Addr)(nb li lo:Int)(sd:Addr)(best:V):(mgF rd nb li lo sd best).lookup ("take" : Str)=none:=Zda _ _ _ _ _ _ (by ac_rfl) (by ac_rfl) (by ac_rfl) (by ac_rfl) (by ac_rfl) (by ac_rfl)
def ZnC(cR cM:Addr):Sp:=fun vs H Q _=>∃ (m rd sd:Addr) (L:List ZD) (s:StL) (nb li lo:Int) (w:Option Int),vs=[.ref m]∧Z1 cR cM H m rd sd L s nb li lo (Zel w)∧Win (hdM L) (ZE L) w∧Z6 (hdM L) s (ZE L) ∧
 ∀ (x:V) (L':List ZD) (s':StL) (w':Option Int) (k q:Int) (H':Hp),ZkK L w x L' k q H'→Z1 cR cM H' m rd sd L' s' nb (li+k) (lo+q) (Zel w')→Win (hdM L') (ZE L') w'→Z6 (hdM L') s' (ZE L')→(∀b o,H b=some o→¬ Fp m rd sd L b→H' b=some o)→Q x H'
theorem Zpk(T:Zaf K mg cRow cMerge)(f_Merge_coming:Mf P w K mg base 3 cMerge "coming" ["self"] (Zis cRow cMerge))(f_Merge_send_out:Mf P w K mg base 5 cMerge "send_out" ["self", "number"] (Znm cRow cMerge)):Mf P w K mg base 6 cMerge "take" ["self"] (ZnC cRow cMerge):=by
 refine T.t_Merge_take.mf Zeb (fun vs H Q E h=>?_) (fun cdv f A outer s H vs Q E hr h=>?_)
 ·obtain⟨m,rd,sd,L,s,nb,li,lo,w,rfl,_⟩:=h
  rfl
 obtain⟨m,rd,sd,L,s,nb,li,lo',w,rfl,M,W,ok,q⟩:=h
 refine⟨_,#[Zf,#[Zz,1,Zeb.nd,(Or.inl rfl),#[Zdg,f_Merge_coming,T.cl_Merge,hr,‹0›]],#[Zf,#[ZZ,#[Zo,Zfu,‹1›,#[Zar],(Zt _)],#[Zj,#[ZaI,#[Zfc,f_Merge_send_out,T.cl_Merge,hr,‹0›,#[Za,#[Zac,‹0›],#[Zd]]]]],#[ZB]],#[Zj,#[Zn,‹1›]]]],?_⟩
 obtain⟨dx,hm⟩:=M.ob
 refine⟨_,rfl,m,dx,_,rfl,hm,ZhL ..,xw9 m rd sd L s nb li lo' w ⟨rfl,M,W,fun x H1 hc s1=>?_⟩⟩
 have M1:=M.same s1
 rcases hc with⟨rfl,hw⟩|⟨t,e',z,rfl,he',hz,ht,hw⟩
 ·have hw':Win (hdM L) (ZE L) none:=by rw[ZeF]at hw;exact hw
  have ew:=W.one hw'
  subst ew
  exact⟨_,rfl,rfl,_,rfl,ZnT rfl ⟨_,rfl,q .non L s none 0 0 H1 (.inl ⟨rfl,rfl,rfl,rfl,rfl⟩) (M1.cast (by omega) (by omega)) W ok (fun b o hb _=>s1 b o hb)⟩⟩
 ·obtain⟨e,he,rfl⟩:=Qt.mp he'
  have hw':Win (hdM L) (ZE L) (some e.n):=by rw[ZeF]at hw;exact hw
  have ew:=W.one hw'
  subst ew
  obtain⟨dx1,hm1⟩:=M1.ob
  refine⟨_,rfl,rfl,_,rfl,ZnD (fun z=>nomatch z) ?_⟩
  refine⟨_,rfl,m,dx1,_,rfl,hm1,Zjq ..,_,rfl,xw5 m cMerge dx1 _ _ ⟨rfl,hm1,T.cl_Merge,T.na_Merge_best,Zdz ..,ZsQ m rd sd L s nb li lo' _ e z ⟨rfl,M1,he,hz,W,ok,fun s' w' k q' H2 M2 W2 ok2 ag k2=>?_⟩⟩⟩
  have ht2:H2 t=some (.tup [.int e.n,.int (e.g:Int),.str z]):=k2 _ _ ht fun hf=>by
   have ht':=ht
   rcases hf with h|h|h|⟨y,hy,h⟩
   ·rw[h,hm1]at ht';cases ht'
   ·rw[h,M1.rows]at ht';cases ht'
   ·rw[h,M1.stays]at ht';cases ht'
   ·have R:=(M1.each y hy).at'
    obtain⟨dy,hdy⟩:=R.ob
    rcases h with h|h|h
    ·rw[h,hdy]at ht';cases ht'
    ·rw[h,R.ks]at ht';cases ht'
    ·rw[h,R.fs]at ht';cases ht'
  exact⟨_,rfl,q (.ref t) (bump L e.n) s' w' k q' H2 (.inr ⟨e,t,z,he,rfl,rfl,hz,ht2,rfl,ag⟩) M2 (by rw[Zcf];exact W2) (by rw[Zcf];exact ok2) (fun b o hb nf=>k2 b o (s1 b o hb) nf)⟩
abbrev ZH:=Int×List Str×Nat
def pur(Lo:List Za6):List ZH:=Lo.map fun e=>(e.1,e.2.2)
def Zb2(L:List ZD):List ZH:=L.map fun e=>(e.n,(e.ss,e.g))
def hdP(P:List ZH):Hd:=hdL (P.map fun x=>(x.1,0,x.2))
def ZaM(P:List ZH):List Int:=P.map (·.1)
def Zam(n:Int)(x:ZH):ZH:=if x.1=n then (x.1,x.2.1,x.2.2+1) else x
def ZbA(P:List ZH)(n:Int):List ZH:=P.map (Zam n)
theorem Zfv(L:List ZD):hdM L=hdP (Zb2 L):=Zkv _ _ (by unfold Zb2;rw[QA,QA,QA];rfl)
theorem ZcN(L:List ZD):ZE L=ZaM (Zb2 L):=by unfold ZaM Zb2 ZE;rw[QA];rfl
theorem Zg7(L:List ZD)(n:Int):Zb2 (bump L n)=ZbA (Zb2 L) n:=by
 unfold Zb2 bump ZbA
 rw[QA,QA]
 refine QK fun e _=>?_
 simp only[Function.comp]
 unfold Zam
 by_cases h:e.n=n
 ·rw[ZeE h,if_pos h]
 ·rw[Zf0 h,if_neg h]
def ZrX(n:Int)(e:Za6):Za6:=if e.1=n then (e.1,e.2.1,e.2.2.1,e.2.2.2+1) else e
def ZrI(Lo:List Za6)(n:Int):List Za6:=Lo.map (ZrX n)
theorem Zhr(P:List ZH)(n:Int):ZaM (ZbA P n)=ZaM P:=by
 unfold ZaM ZbA
 rw[QA]
 refine QK fun x _=>?_
 simp only[Function.comp]
 unfold Zam
 split<;>rfl
theorem Zgi{P:List ZH}(nd:(ZaM P).Nodup){x:ZH}(h:x∈P):hdP P x.1=(x.2.1[x.2.2]?).map cds :=
 Zjw (L:=P.map fun x:ZH=>((x.1,0,x.2):Za6)) (e:=(x.1,0,x.2)) (by rw[QA];exact nd) (Qm (f:=fun x:ZH=>((x.1,0,x.2):Za6)) h)
def Zm2(P:List ZH)(x:ZH)(z:Str)(k q:Int):Prop:=x∈P∧x.2.1[x.2.2]? = some z∧Win (hdP P) (ZaM P) (some x.1)∧Ag (hdP (ZbA P x.1)) (cds z) (Zd4 x.1 (ZV 8 (ZaM P) x.1)) k q
abbrev Zaj:=Int×Nat×Str
inductive Zcs (P:List ZH):List Zaj→List ZH→Int→Int→Prop
 | nil:Zcs P [] P 0 0
 | snoc {ts:List Zaj} {P1:List ZH} {x:ZH} {z:Str} {k q k1 q1:Int}:Zcs P ts P1 k q→Zm2 P1 x z k1 q1→Zcs P (ts++[(x.1,x.2.2,z)]) (ZbA P1 x.1) (k+k1) (q+q1)
inductive ZeK:List ZH→Int→Int→Prop
 | stop {P:List ZH}:Win (hdP P) (ZaM P) none→ZeK P 0 0
 | go {P:List ZH} {x:ZH} {z:Str} {k q k1 q1:Int}:Zm2 P x z k1 q1→ZeK (ZbA P x.1) k q→ZeK P (k1+k) (q1+q)
theorem Zcs.num{P P':List ZH}{ts:List Zaj}{k q:Int}(h:Zcs P ts P' k q):ZaM P'=ZaM P:=by
 induction h with
 | nil=>rfl
 | snoc _ _ ih=>rw[Zhr,ih]
def Za3(P:List ZH):Nat:=(P.map fun x=>x.2.1.length-x.2.2).sum
theorem ZdX:∀ (P:List ZH),(ZaM P).Nodup→∀ {x:ZH},x∈P→x.2.2<x.2.1.length→Za3 (ZbA P x.1)+1=Za3 P
 | [],_,_,h,_=>by cases h
 | y::P,nd,x,h,hlt=>by
  unfold ZaM at nd
  rw[Qj,Q3]at nd
  unfold Za3 ZbA
  rw[Qj,Qj,Qj,Q0,Q0]
  rcases QI.mp h with rfl|h
  ·have e:P.map (Zam x.1)=P:=by
    conv=>rhs;rw[← List.map_id P]
    refine QK fun u hu=>?_
    unfold Zam
    rw[if_neg (fun z:u.1=x.1=>nd.1 (z ▸ Qm (f:=fun x:ZH=>x.1) hu))]
    rfl
   rw[e]
   unfold Zam
   rw[if_pos rfl]
   show x.2.1.length-(x.2.2+1)+_+1=_
   omega
  ·have ih:=ZdX P nd.2 h hlt
   unfold Za3 ZbA at ih
   have e:Zam x.1 y=y:=if_neg (fun z:y.1=x.1=>nd.1 (z ▸ Qm (f:=fun x:ZH=>x.1) h))
   rw[e]
   omega
theorem Zcs.left{P P':List ZH}{ts:List Zaj}{k q:Int}(h:Zcs P ts P' k q)(nd:(ZaM P).Nodup):Za3 P'+ts.length=Za3 P:=by
 induction h with
 | nil=>rfl
 | snoc h s ih =>
  have:=ZdX _ (by rw[h.num];exact nd) s.1 (Qc.mp s.2.1).1
  rw[Qg,Qk]
  omega
theorem Zlt{L L':List ZD}{w:Option Int}{x:V}{k q:Int}{H:Hp}(W:Win (hdM L) (ZE L) w)(h:ZkK L w x L' k q H):(Win (hdP (Zb2 L)) (ZaM (Zb2 L)) none∧x=.non∧L'=L∧k=0∧q=0)∨∃ (y:ZH) (z:Str) (t:Addr),Zm2 (Zb2 L) y z k q∧Zb2 L'=ZbA (Zb2 L) y.1∧x=.ref t∧H t=some (.tup [.int y.1,.int (y.2.2:Int),.str z]):=by
 rw[Zfv,ZcN]at W
 rcases h with⟨rfl,h1,h2,h3,h4⟩|⟨e,t,z,he,rfl,rfl,hz,ht,rfl,ag⟩
 ·exact .inl ⟨W,h1,h2,h3,h4⟩
 ·refine .inr ⟨(e.n,(e.ss,e.g)),z,t,⟨Qm (f:=fun e:ZD=>(e.n,(e.ss,e.g))) he,hz,W,?_⟩,Zg7 L e.n,rfl,ht⟩
  rw[Zfv,Zg7,ZcN]at ag
  exact ag
def Zp5(K:PySem.W.Frag)(cR cM:Addr):Sp:=fun vs H Q _=>∃ (m rd sd:Addr) (L:List ZD) (s:StL) (nb li lo:Int) (w:Option Int) (many:Int),vs=[.ref m,.int many]∧Z1 cR cM H m rd sd L s nb li lo (Zel w)∧Win (hdM L) (ZE L) w∧Z6 (hdM L) s (ZE L)∧Za3 (Zb2 L)≤100000 ∧
 ∀ (r:Addr) (us:List (Addr×Zaj)) (L':List ZD) (s':StL) (w':Option Int) (k q:Int) (H':Hp),H r=none→H' r=some (.lst (us.map fun u=>V.ref u.1))→(∀u∈us,H' u.1=some (.tup [.int u.2.1,.int (u.2.2.1:Int),.str u.2.2.2]))→Zcs (Zb2 L) (us.map (·.2)) (Zb2 L') k q→((us.length:Int)<many→w'=none)→(us≠[]→(us.length:Int)≤many)→Z1 cR cM H' m rd sd L' s' nb (li+k) (lo+q) (Zel w')→Win (hdM L') (ZE L') w'→Z6 (hdM L') s' (ZE L')→(∀b,Fp m rd sd L' b↔Fp m rd sd L b)→(∀b o,H b=some o→¬ Fp m rd sd L b→H' b=some o)→Q (.ref r) H'
theorem ZkK.fp{L L':List ZD}{w:Option Int}{x:V}{k q:Int}{H:Hp}(h:ZkK L w x L' k q H){m rd sd b:Addr}:Fp m rd sd L' b↔Fp m rd sd L b:=by
 rcases h with⟨_,_,rfl,_⟩|⟨e,t,z,_,_,_,_,_,rfl,_⟩
 ·exact Iff.rfl
 ·exact⟨Zoz,Fp_bump'⟩
theorem Z1.fp_live{cR cM:Addr}{H:Hp}{m rd sd:Addr}{L:List ZD}{s:StL}{nb li lo:Int}{best:V}(M:Z1 cR cM H m rd sd L s nb li lo best){b:Addr}(h:Fp m rd sd L b):∃o,H b=some o∧∀xs,o≠.tup xs:=by
 rcases h with rfl|rfl|rfl|⟨e,he,h⟩
 ·obtain⟨dx,hd⟩:=M.ob;exact⟨_,hd,fun xs z=>by cases z⟩
 ·exact⟨_,M.rows,fun xs z=>by cases z⟩
 ·exact⟨_,M.stays,fun xs z=>by cases z⟩
 ·have R:=(M.each e he).at'
  obtain⟨dx,hd⟩:=R.ob
  rcases h with rfl|rfl|rfl
  ·exact⟨_,hd,fun xs z=>by cases z⟩
  ·exact⟨_,R.ks,fun xs z=>by cases z⟩
  ·exact⟨_,R.fs,fun xs z=>by cases z⟩
theorem Z1.fp_fresh{cR cM:Addr}{H:Hp}{m rd sd:Addr}{L:List ZD}{s:StL}{nb li lo:Int}{best:V}(M:Z1 cR cM H m rd sd L s nb li lo best){b:Addr}(h:H b=none):¬ Fp m rd sd L b:=fun z=>by
 obtain⟨o,ho,_⟩:=M.fp_live z
 rw[h]at ho;cases ho
theorem Z1.fp_tup{cR cM:Addr}{H:Hp}{m rd sd:Addr}{L:List ZD}{s:StL}{nb li lo:Int}{best:V}(M:Z1 cR cM H m rd sd L s nb li lo best){b:Addr}{xs:List V}(h:H b=some (.tup xs)):¬ Fp m rd sd L b:=fun z=>by
 obtain⟨o,ho,hn⟩:=M.fp_live z
 rw[h]at ho;cases ho;exact hn xs rfl
theorem Zrt(T:Zaf K mg cRow cMerge)(f_Merge_take:Mf P w K mg base 6 cMerge "take" ["self"] (ZnC cRow cMerge)):Mf P w K mg base 7 cMerge "take_few" ["self", "many"] (Zp5 K cRow cMerge):=by
 refine T.t_Merge_take_few.mf Zcx (fun vs H Q E h=>?_) (fun cdv f A outer s H vs Q E hr h=>?_)
 ·obtain⟨m,rd,sd,L,s,nb,li,lo,w,many,rfl,_⟩:=h
  rfl
 obtain⟨m,rd,sd,L,s,nb,li,lo',w,many,rfl,M,W,ok,hleft,q⟩:=h
 refine⟨_,#[Zf,#[Zz,2,Zcx.nd,(Or.inl rfl),#[Zbg,#[Zd]]],#[Zf,(@ZeH _ _ _ _ _ _ PassesOwn.never (@PW.pt _ _ _ #[ZdD,#[Zo,Zcw,#[Zk,(Zbf K),(by rfl),T.b.n_len,Qs,#[Za,‹2›,#[Zd]]],‹1›,(Zt _)],(@Zc9 _ _ _ _ #[Zo,Zfu,#[Zac,‹0›],#[Zar],(Zt _)])]) #[Zj,#[ZaI,#[Zc1,QF,QL,QM,Zas,‹2›,#[Za,#[Zdg,f_Merge_take,T.cl_Merge,hr,‹0›],#[Zd]]]]]),#[Zj,#[Zn,‹2›]]]],?_⟩
 have nd:(ZaM (Zb2 L)).Nodup:=by rw[← ZcN];exact M.nd
 refine⟨(by show 0≤sizeLine;decide),fun r hr0=>?_⟩
 have nfr:=M.fp_fresh hr0
 refine⟨fun mm σ H2=>∃ (us:List (Addr×Zaj)) (L':List ZD) (s':StL) (w':Option Int) (k q':Int),σ=[some (.ref m),some (.int many),some (.ref r)]∧H2 r=some (.lst (us.map fun u=>V.ref u.1))∧(∀u∈us,u.1≠r∧H2 u.1=some (.tup [.int u.2.1,.int (u.2.2.1:Int),.str u.2.2.2]))∧Zcs (Zb2 L) (us.map (·.2)) (Zb2 L') k q'∧(us≠[]→(us.length:Int)≤many)∧Z1 cRow cMerge H2 m rd sd L' s' nb (li+k) (lo'+q') (Zel w')∧Win (hdM L') (ZE L') w'∧Z6 (hdM L') s' (ZE L')∧(∀b,Fp m rd sd L' b↔Fp m rd sd L b)∧(∀b o,H b=some o→¬ Fp m rd sd L b→H2 b=some o)∧mm=Za3 (Zb2 L'),⟨_,[],L,s,w,0,0,rfl,Zb,(fun u h=>by cases h),.nil,(fun h=>absurd rfl h),(M.same (Zi hr0 _)).cast (by omega) (by omega),W,ok,fun _=>Iff.rfl,fun b o hb _=>Zi hr0 _ _ _ hb,rfl⟩,?_⟩
 rintro mm σ H2 ⟨us,L1,s1,w1,k,q',rfl,hr2,hus,htk,hmany,M2,W2,ok2,hfp,k2,rfl⟩
 have hul:(((us.map fun u=>V.ref u.1).length:Nat):Int)=(us.length:Int):=by rw[Qa]
 have hlf:=htk.left nd
 rw[Qa]at hlf
 obtain⟨dx2,hm2⟩:=M2.ob
 have done:((us.length:Int)<many→w1=none)→Q (.ref r) H2:=fun hd=>q r us L1 s1 w1 k q' H2 hr0 hr2 (fun u hu=>(hus u hu).2) htk hd hmany M2 W2 ok2 hfp k2
 refine⟨_,rfl,r,_,rfl,.inl (SqL.of hr2),_,rfl,_,_,rfl,rfl,_,rfl,ZaV (fun d1=>?_) (fun d1=>?_)⟩
 ·have d1':(us.length:Int)<many:=by have:=of_decide_eq_true d1;omega
  refine⟨_,rfl,xw5 m cMerge dx2 _ _ ⟨rfl,hm2,T.cl_Merge,T.na_Merge_best,Zdz ..,rfl,_,rfl,?_⟩⟩
  cases w1 with
  | none=>exact ZnT rfl ⟨_,rfl,done fun _=>rfl⟩
  | some a =>
  refine ZnD (fun z=>nomatch z) ?_
  refine⟨_,fun σ' H' h=>h,?_⟩
  refine⟨_,rfl,.inl ⟨rfl,_,SqL.of hr2⟩,_,rfl,m,dx2,_,rfl,hm2,Zj0 ..,m,rd,sd,L1,s1,nb,_,_,some a,rfl,M2,W2,ok2,fun x L3 s3 w3 k3 q3 H3 hR M3 W3 ok3 kp3=>?_⟩
  have hr3:H3 r=some (.lst (us.map fun u=>V.ref u.1)):=kp3 _ _ hr2 (fun z=>nfr ((hfp r).mp z))
  rcases Zlt W2 hR with⟨w0,_⟩|⟨y,z,t,stp,eL,rfl,ht⟩
  ·rw[Zfv,ZcN]at W2
   exact nomatch w0.one W2
  have hbl:=ZdX _ (by rw[htk.num];exact nd) stp.1 (Qc.mp stp.2.1).1
  have htr:t≠r:=fun e=>by rw[e,hr3]at ht;cases ht
  refine⟨r,_,_,rfl,rfl,hr3,(by rw[Qa,sizeLine_eq];omega),Za3 (Zb2 L3),by rw[eL];omega,us++[(t,(y.1,y.2.2,z))],L3,s3,w3,k+k3,q'+q3,rfl,by rw[Zb,Qe];rfl,fun u hu=>?_,?_,fun _=>by rw[Qg,Qk];omega,?_,W3,ok3,fun b=>(hR.fp).trans (hfp b),fun b o hb nf=>?_,rfl⟩
  ·rcases Qf.mp hu with hu|hu
   ·obtain⟨g2,g3⟩:=hus u hu
    exact⟨g2,by rw[Ze g2];exact kp3 _ _ g3 (M2.fp_tup g3)⟩
   ·rw[Qd.mp hu]
    exact⟨htr,by rw[Ze htr];exact ht⟩
  ·rw[Qe,eL]
   exact .snoc htk stp
  ·refine Z1.cast (M3.keep fun b o hb hor=>?_) (by omega) (by omega)
   rw[Ze (fun e=>?_)]
   ·exact hb
   ·subst e
    rcases hor with hf|⟨xs,rfl⟩
    ·exact nfr ((hfp b).mp (hR.fp.mp hf))
    ·rw[hr3]at hb;cases hb
  ·rw[Ze (Zc hb hr0)]
   exact kp3 b o (k2 b o hb nf) (fun z=>nf ((hfp b).mp z))
 ·refine ZbF ⟨_,rfl,done fun h=>?_⟩
  have:¬ ((((us.map fun u=>V.ref u.1).length:Nat):Int)<many):=fun z=>d1 (decide_eq_true z)
  omega
def spLWay:Sp:=fun vs H Q _=>∃ (a:Addr) (N:List Int) (n:Int),vs=[.ref a,.int n]∧H a=some (.lst (N.map V.int))∧n∈N∧N.length≤60∧Zai N ∧
 ∀ (r:Addr) (ts:List (Addr×Addr×Addr)) (H':Hp),H r=none→H' r=some (.lst (ts.map fun t=>V.ref t.1))→ts.length=(ZV 8 N n).length→(∀ (i:Nat) (t:Addr×Addr×Addr) (X:List Int),ts[i]? = some t→(ZV 8 N n)[i]? = some X→H' t.1=some (.tup [.ref t.2.1,.ref t.2.2])∧H' t.2.1=some (.lst ((Zae X n).map V.int))∧H' t.2.2=some (.lst ((Zap X n).map V.int)))→Zu H H'→Q (.ref r) H'
def Zrz(Lo:List Za6)(x:V)(Lo':List Za6)(k q:Int)(H':Hp):Prop :=
 (x=.non∧Win (hdL Lo) (Lo.map (·.1)) none∧Lo'=Lo∧k=0∧q=0)∨∃ (e:Za6) (t:Addr) (z:Str),e∈Lo∧Win (hdL Lo) (Lo.map (·.1)) (some e.1)∧x=.ref t∧e.2.2.1[e.2.2.2]? = some z∧H' t=some (.tup [.int e.1,.int (e.2.2.2:Int),.str z])∧Lo'=ZrI Lo e.1∧Ag (hdL Lo') (cds z) (Zd4 e.1 (ZV 8 (Lo.map (·.1)) e.1)) k q
def spLTaken:Sp:=fun vs H Q _=>∃ (o ra ga:Addr) (Lo:List Za6) (nb li lo:Int),vs=[.ref o]∧Own H o ra ga Lo nb li lo∧(Lo.map (·.1)).Pairwise (·<·) ∧
 ∀ (x:V) (Lo':List Za6) (k q:Int) (H':Hp),Zrz Lo x Lo' k q H'→Own H' o ra ga Lo' nb (li+k) (lo+q)→(∀b u,H b=some u→b≠o→b≠ga→H' b=some u)→Q x H'
structure MS where
 m:Addr
 rd:Addr
 sd:Addr
 L:List ZD
 s:StL
 nb:Int
 li:Int
 lo:Int
 w:Option Int
structure OS where
 o:Addr
 ra:Addr
 ga:Addr
 Lo:List Za6
 nb:Int
def ZsS(Y:OS)(b:Addr):Prop:=b=Y.o∨b=Y.ra∨b=Y.ga∨∃e∈Y.Lo,b=e.2.1
def MFp(X:MS)(b:Addr):Prop:=Fp X.m X.rd X.sd X.L b
structure MOk (cR cM:Addr) (H:Hp) (X:MS):Prop where
 M:Z1 cR cM H X.m X.rd X.sd X.L X.s X.nb X.li X.lo (Zel X.w)
 W:Win (hdM X.L) (ZE X.L) X.w
 ok:Z6 (hdM X.L) X.s (ZE X.L)
structure Pair (cR cM:Addr) (H:Hp) (X:MS) (Y:OS):Prop where
 mg:MOk cR cM H X
 ow:Own H Y.o Y.ra Y.ga Y.Lo Y.nb X.li X.lo
 ag:Agr Y.Lo X.L
 sep:∀b,MFp X b→¬ ZsS Y b
theorem ZlC{P:List ZH}(nd:(ZaM P).Nodup)(h:Win (hdP P) (ZaM P) none)(ok:∀x∈P,x.2.2≤x.2.1.length):Za3 P=0:=by
 unfold Za3
 have:∀l:List Nat,(∀a∈l,a=0)→l.sum=0:=fun l hl=>by
  induction l with
  | nil=>rfl
  | cons b r ih=>rw[Q0,hl b (by simp),ih fun a ha=>hl a (Qu _ ha)]
 refine this _ fun a ha=>?_
 obtain⟨x,hx,rfl⟩:=Qt.mp ha
 have hh:=h x.1 (Qm (f:=fun x:ZH=>x.1) hx)
 rw[Zgi nd hx]at hh
 cases hg:x.2.1[x.2.2]? with
 | none=>rw[QaC]at hg;show x.2.1.length-x.2.2=0;omega
 | some y=>rw[hg]at hh;cases hh
def Zf5(rs:List (Addr×List Str)):List ZH:=(ZT 0 rs.length).zip (rs.map fun x=>(x.2,0))
theorem Zj9{α β γ:Type}(f:α→β)(g:α→γ):∀l:List α,l.map (fun x=>(f x,g x))=(l.map f).zip (l.map g)
 | []=>rfl
 | x::r=>by rw[Qj,Qj,Qj,Qaa,Zj9 f g r]
theorem Zmj{L:List ZD}{rs:List (Addr×List Str)}(h:ZqS L rs):Zb2 L=Zf5 rs:=by
 unfold Zb2 Zf5
 rw[Zj9 (fun e:ZD=>e.n) (fun e=>(e.ss,e.g)) L,← h.1,← h.2];rfl
theorem ZnW(rs:List (Addr×List Str)):Za3 (Zf5 rs)=(rs.map fun x=>x.2.length).sum:=by
 unfold Za3 Zf5
 have e:((ZT 0 rs.length).zip (rs.map fun x=>(x.2,0))).map (fun x:ZH=>x.2.1.length-x.2.2)=((((ZT 0 rs.length).zip (rs.map fun x=>(x.2,0))).map (·.2))).map (fun y:List Str×Nat=>y.1.length-y.2):=by rw[QA];rfl
 rw[e,List.map_snd_zip (by rw[Qa,Zao];exact Qh _),QA]
 rfl
def ZgY:Sp:=fun vs H Q _=>∃ (r:Addr) (rs:List (Addr×List Str)),vs=[.ref r]∧Zcp H r rs∧∀H':Hp,Zu H H'→Q (.int (((rs.map fun x=>x.2.length).sum:Nat):Int)) H'
theorem ZiD:∀rs:List (Addr×List Str),(rs.map fun x=>(x.2.length:Int)).sum=(((rs.map fun x=>x.2.length).sum:Nat):Int)
 | []=>rfl
 | x::r=>by rw[Qj,Qj,Q0,Q0,ZiD r,Int.natCast_add]
theorem ZiY(T:Zaf K mg cRow cMerge):Df P w K mg base 1 "how_many" ["rows"] ZgY:=by
 refine T.t_how_many.df Zi3 (fun vs H Q E h=>?_) (fun cdv f A outer s H vs Q E hr h=>?_)
 ·obtain⟨r,rs,rfl,_⟩:=h
  rfl
 obtain⟨r,rs,rfl,hrs,q⟩:=h
 refine⟨_,#[Zj,#[Zn,#[Zk,(Zr7 K),(by rfl),T.b.n_sum,boot_sum,#[Za,#[Zbd,ZoM,#[iL,K,‹0›],(fun _ _ _ _=>#[cg,1,ZoM]),(fun _ _ _ _=>(@ZaH _)),(fun _ _ _ _=>#[Zk,(Zbf K),(Zcd ZoM rfl (by ac_rfl)),T.b.n_len,Qs,#[Za,#[cw,1,ZoM],#[Zd]]])],#[Zd]]]]],?_⟩
 have hfew:=hrs.few
 refine⟨_,rfl,r,rfl,⟨_,SqL.of hrs.at'⟩,fun D hD=>?_⟩
 refine Za0 (K:=K) (a:=r) (xs:=rs.map fun x=>V.ref x.1) (fun i zs σ H2=>(∃v:Option V,σ=[some (.ref r),v])∧zs=((rs.take i).map fun x=>(x.2.length:Int)).map V.int∧i≤rs.length∧H2 D=some (.lst zs)∧Zu H H2) ?_ (fun _ _ _ _ h=>SqL.of (h.2.2.2.2 _ _ hrs.at')) ?_ ?_
 ·exact⟨⟨none,rfl⟩,rfl,Qv _,Zb,Zi hD _⟩
 ·rintro i y zs σ H2 hy ⟨⟨v,rfl⟩,rfl,hi,hD2,s2⟩
  rw[Qi]at hy
  cases hz:rs[i]? with
  | none=>rw[hz]at hy;cases hy
  | some x =>
  rw[hz]at hy
  cases hy
  have hil:i<rs.length:=(Qc.mp hz).1
  refine⟨_,rfl,x.1,_,rfl,.inl (SqL.of (s2 _ _ (hrs.lst x (Qq hz)).1)),hD2,(by rw[Qa,Qa,Qz];exact ZI (by omega)),⟨_,rfl⟩,?_,hil,Zb,fun b u hb=>?_⟩
  ·rw[QH,hz,Qe,Qe,Qa];rfl
  ·rw[Ze (Zc hb hD)];exact s2 b u hb
 rintro zs σ H2 ⟨⟨v,rfl⟩,rfl,_,hD2,s2⟩
 rw[Qa,Qx (Qh _)]at hD2
 refine⟨D,_,rfl,SqL.of hD2,by rw[Qa];omega,fun n hn=>?_,?_⟩
 ·obtain⟨x,hx,rfl⟩:=Qt.mp hn
  have:=(hrs.lst x hx).2.1
  omega
 ·rw[ZiD];exact q H2 s2
def spCounts:Sp:=fun vs H Q _=>∃ (r:Addr) (rs:List (Addr×List Str)),vs=[.ref r]∧Zcp H r rs∧(∀x∈rs,sortedS x.2=true)∧∀ (t:Addr) (k0 q0 k1 q1:Int) (H':Hp),Zee (hdP (Zf5 rs)) 8 (ZaM (Zf5 rs)) k0 q0→ZeK (Zf5 rs) k1 q1→H' t=some (.tup [.int (k0+k1),.int (q0+q1)])→Zu H H'→Q (.ref t) H'
theorem Zlp(rd:Addr)(nb li lo:Int)(sd:Addr)(best:V):(mgF rd nb li lo sd best).lookup ("take_few" : Str)=none:=Zda _ _ _ _ _ _ (by ac_rfl) (by ac_rfl) (by ac_rfl) (by ac_rfl) (by ac_rfl) (by ac_rfl)
theorem Zp9(rs:List (Addr×List Str))(h:∀x∈rs,x.2.length≤100):(rs.map fun x=>x.2.length).sum≤rs.length*100:=by
 induction rs with
 | nil=>exact Qh _
 | cons x r ih =>
  have:=ih fun y hy=>h y (Qu _ hy)
  have:=h x (by simp)
  rw[Qj,Q0,QD]
  omega
theorem ZnE{L':List ZD}{P:List ZH}{ts:List Zaj}{k q:Int}{w':Option Int}{many:Nat}(nd:(ZaM P).Nodup)(h:Zcs P ts (Zb2 L') k q)(h1:(ts.length:Int)<(many:Int)→w'=none)(h2:ts≠[]→(ts.length:Int)≤(many:Int))(W:Win (hdM L') (ZE L') w')(ok:∀x∈Zb2 L',x.2.2≤x.2.1.length):ts.length=min many (Za3 P):=by
 have hl:=h.left nd
 by_cases hlt:(ts.length:Int)<(many:Int)
 ·have e:=h1 hlt
  subst e
  rw[Zfv,ZcN]at W
  have hz:=ZlC (by rw[h.num];exact nd) W ok
  omega
 ·by_cases hn:ts=[]
  ·subst hn
   simp only[List.length_nil]at hlt ⊢
   omega
  ·have:=h2 hn
   omega
theorem ZeM:∀ns:List Int,PyData.canLayAll0 (ns.map PyData.int)=true
 | []=>rfl
 | x::r=>by simp[PyData.canLayAll0,PyData.canLay0,ZeM r]
theorem Zek:∀ns:List Int,PyData.depthAll (ns.map PyData.int)=0
 | []=>rfl
 | _::r=>by simp[PyData.depthAll,PyData.depth,Zek r]
theorem ZbV(ns:List Int):SeqAt.shaped (.list (ns.map PyData.int))=true:=by simp[SeqAt.shaped,PyData.canLay0,PyData.depth,ZeM ns,Zek]
theorem ZdU{K:PySem.W.Frag}{H:Hp}:∀ns:List Int,DVs K H (ns.map V.int) (ns.map PyData.int)
 | []=>.nil
 | s::r=>.cons (.int s) (ZdU r)
theorem ZeV:∀a b:List Nat,Spec.ltCps a b=true↔a<b
 | [],[]=>by simp[Spec.ltCps]
 | [],y::s=>by simp[Spec.ltCps]
 | x::r,[]=>by simp[Spec.ltCps]
 | x::r,y::s=>by
  have ih:=ZeV r s
  rw[List.cons_lt_cons_iff]
  simp[Spec.ltCps,ih]
def LeS(a b:Str):Prop:=¬ b.cps.toList<a.cps.toList
theorem LeS.trans{a b c:Str}(h:LeS a b)(k:LeS b c):LeS a c:=List.not_lt.mpr (List.le_trans (List.not_lt.mp h) (List.not_lt.mp k))
theorem Zg8:∀ (r:List Str) (x:Str),risingS x r=true↔(x::r).Pairwise LeS
 | [],x=>by simp[risingS]
 | y::r,x=>by
  have ih:=Zg8 r y
  rw[List.pairwise_cons]
  unfold risingS
  rw[Qaz,Bool.not_eq_true']
  constructor
  ·rintro⟨h1,h2⟩
   have p:=ih.mp h2
   have hxy:LeS x y:=fun z=>by rw[(ZeV _ _).mpr z]at h1;cases h1
   refine⟨fun b hb=>?_,p⟩
   rcases QI.mp hb with rfl|hb
   ·exact hxy
   ·exact hxy.trans ((List.pairwise_cons.mp p).1 b hb)
  ·rintro⟨h1,h2⟩
   exact⟨Bool.eq_false_iff.mpr fun z=>h1 y (by simp) ((ZeV _ _).mp z),ih.mpr h2⟩
theorem ZcW(ss:List Str):sortedS ss=true↔ss.Pairwise LeS:=by
 cases ss with
 | nil=>simp[sortedS]
 | cons x r=>exact Zg8 r x
def ZiT:Sp:=fun vs H Q _=>∃ (r:Addr) (rs:List (Addr×List Str)),vs=[.ref r]∧Zcp H r rs∧(∀x∈rs,sortedS x.2=true) ∧
 ∀ (t:Addr) (us:List (Addr×Zaj)) (P':List ZH) (k q:Int) (H':Hp),Zcs (Zf5 rs) (us.map (·.2)) P' k q→us.length=(rs.map fun x=>x.2.length).sum→H' t=some (.lst (us.map fun u=>V.ref u.1))→(∀u∈us,H' u.1=some (.tup [.int u.2.1,.int (u.2.2.1:Int)]))→H t=none→(∀u∈us,H u.1=none)→Zu H H'→Q (.ref t) H'
theorem ZlB(T:Zaf K mg cRow cMerge)(f_Merge_init:Cf P w K mg base 14 cMerge "Merge" ["self", "rows"] (Zfe cRow cMerge))(f_Merge_take_few:Mf P w K mg base 7 cMerge "take_few" ["self", "many"] (Zp5 K cRow cMerge))(f_how_many:Df P w K mg base 1 "how_many" ["rows"] ZgY):Df P w K mg base 16 "merged" ["rows"] ZiT:=by
 refine T.t_merged.df Zla (fun vs H Q E h=>?_) (fun cdv f A outer s H vs Q E hr h=>?_)
 ·obtain⟨r,rs,rfl,_⟩:=h
  rfl
 obtain⟨r,rs,rfl,hrs,hsrt,q⟩:=h
 refine⟨_,#[Zj,#[Zn,#[Zbd,ZlX,#[iL,K,#[Zfc,f_Merge_take_few,T.cl_Merge,hr,#[ZpR,f_Merge_init,hr,#[Za,‹0›,#[Zd]]],#[Za,#[ZA,f_how_many,hr,#[Za,‹0›,#[Zd]],(by rfl)],#[Zd]]]],(fun _ _ _ _=>#[gT,K,3,#[Zs,#[cg,1,ZlX],#[Zs,#[cg,2,ZlX],#[Zs,#[cg,3,ZlX],(@Zal _)]]]]),(fun _ _ _ _=>(@ZaH _)),(fun _ _ _ _=>#[ZN,#[Za,#[cw,1,ZlX],#[Za,#[cw,2,ZlX],#[Zd]]]])]]],?_⟩
 refine⟨_,rfl,fun m dx hm hdx nmd=>?_⟩
 have s1:Zu H (upd (upd H dx (.own m)) m (.ins cMerge dx [])):=fun b o hb=>by rw[Ze (Zc hb hm),Ze (Zc hb hdx)];exact hb
 have hm1:(upd (upd H dx (.own m)) m (.ins cMerge dx [])) m=some (.ins cMerge dx []):=Zb
 generalize upd (upd H dx (.own m)) m (.ins cMerge dx [])=H1 at s1 hm1 ⊢
 refine(xw4 m dx r rs ⟨rfl,hm1,hrs.same s1,hsrt,fun rd sd L st w0 k0 q0 H2 M2 hnew W2 S2 P2 fp2 k2=>⟨rfl,?_⟩⟩)
 have s2:Zu H H2:=fun b o hb=>k2 b o (s1 b o hb) (Zc hb hm)
 have fpH:∀b,Fp m rd sd L b→H b=none:=fun b hb=>by
  rcases fp2 b hb with z|z
  ·rw[z];exact hm
  ·exact s1.free z
 have ok2:=Zf6 8 (hdM L) st (ZE L) M2.up (QP (show (ZE L).length≤60 by unfold ZE;rw[Qa];exact M2.few) (by decide)) (by decide) S2
 have eP:=Zmj hnew
 obtain⟨dx2,hm2⟩:=M2.ob
 have hsum:=Zp9 rs fun x hx=>(hrs.lst x hx).2.1
 have hfew:=hrs.few
 have hl:=ZnW rs
 refine⟨m,dx2,_,rfl,hm2,Zlp ..,_,rfl,r,rs,rfl,hrs.same s2,fun H3 s3=>?_⟩
 have M3:=M2.same s3
 refine⟨m,rd,sd,L,st,_,k0,q0,w0,_,rfl,M3,W2,ok2,by rw[eP,hl];omega,fun rr us L' s' w' k1 q1 H4 hrr hrr4 hus htk hfin hmany M4 W4 ok4 fp4 k4=>?_⟩
 have s4:Zu H H4:=fun b o hb=>k4 b o (s3 b o (s2 b o hb)) fun z=>by rw[fpH b z]at hb;cases hb
 have nd:(ZaM (Zb2 L)).Nodup:=by rw[← ZcN];exact M2.nd
 have hlen:=ZnE (ts:=us.map (·.2)) (many:=(rs.map fun x=>x.2.length).sum) nd htk (by rw[Qa];exact hfin) (by rw[Qa];exact fun z=>hmany fun y=>z (by rw[y];rfl)) W4 (fun x hx=>by obtain⟨e,he,rfl⟩:=Qt.mp hx;exact(M4.each e he).le)
 rw[Qa,eP,hl,Nat.min_self]at hlen
 rw[eP]at htk
 refine⟨rr,rfl,⟨_,SqL.of hrr4⟩,fun D hD=>?_⟩
 have hDH:H D=none:=s4.free hD
 refine Za0 (K:=K) (a:=rr) (xs:=us.map fun u=>V.ref u.1) (fun i zs σ H5=>(∃v1 v2 v3:Option V,σ=[some (.ref r),v1,v2,v3])∧(∃ws:List (Addr×Zaj),zs=(ws.map fun u=>V.ref u.1)∧ws.map (·.2)=(us.take i).map (·.2)∧∀u∈ws,u.1≠D∧H u.1=none∧H5 u.1=some (.tup [.int u.2.1,.int (u.2.2.1:Int)]))∧i≤us.length∧H5 D=some (.lst zs)∧Zu H4 H5) ?_ (fun _ _ _ _ h=>SqL.of (h.2.2.2.2 _ _ hrr4)) ?_ ?_
 ·exact⟨⟨none,none,none,rfl⟩,⟨[],rfl,rfl,fun u h=>by cases h⟩,Qv _,Zb,Zi hD _⟩
 ·rintro i y zs σ H5 hy ⟨⟨v1,v2,v3,rfl⟩,⟨ws,rfl,hw,hws⟩,hi,hD5,s5⟩
  rw[Qi]at hy
  cases hz:us[i]? with
  | none=>rw[hz]at hy;cases hy
  | some u =>
  rw[hz]at hy
  cases hy
  have hil:i<us.length:=(Qc.mp hz).1
  have hwl:ws.length=i:=by
   have:=congrArg List.length hw
   rw[Qa,Qa,Qz]at this
   omega
  refine⟨u.1,_,rfl,SqT.of (s5 _ _ (hus u (Qq hz))),rfl,_,_,rfl,_,_,rfl,_,_,rfl,rfl,?_⟩
  refine⟨_,rfl,_,rfl,(by show 2≤sizeLine;decide),fun n hn0=>?_⟩
  have sn:=Zi hn0 (.tup [.int u.2.1,.int (u.2.2.1:Int)])
  have nDn:D≠n:=Zc hD5 hn0
  refine⟨sn _ _ hD5,(by rw[Qa,hwl,sizeLine_eq];omega),⟨_,_,_,rfl⟩,⟨ws++[(n,u.2)],by rw[Qe];rfl,?_,fun x hx=>?_⟩,hil,Zb,fun b o hb=>?_⟩
  ·rw[QH,hz,Qe,Qe,hw];rfl
  ·rcases Qf.mp hx with hx|hx
   ·obtain⟨g1,g2,g3⟩:=hws x hx
    exact⟨g1,g2,by rw[Ze g1];exact sn _ _ g3⟩
   ·rw[Qd.mp hx]
    exact⟨nDn.symm,s4.free (s5.free hn0),by rw[Ze nDn.symm];exact Zb⟩
  ·rw[Ze (Zc hb hD)];exact sn _ _ (s5 b o hb)
 rintro zs σ H5 ⟨⟨v1,v2,v3,rfl⟩,⟨ws,rfl,hw,hws⟩,_,hD5,s5⟩
 rw[Qa,Qx (Qh _)]at hw
 exact q D ws _ k1 q1 H5 (by rw[hw];exact htk) (by have:=congrArg List.length hw;rw[Qa,Qa]at this;omega) hD5 (fun u hu=>(hws u hu).2.2) hDH (fun u hu=>(hws u hu).2.1) (s4.trans s5)
theorem Zi1:∀ns:List Int,PyData.eqvAll (ns.map PyData.int) (ns.map PyData.int)=true
 | []=>by simp[PyData.eqvAll]
 | x::r=>by simp[PyData.eqvAll,PyData.eqv,Zi1 r]
theorem Zhg(ns:List Int):PyData.eqv (.list (ns.map PyData.int)) (.list (ns.map PyData.int))=true:=by simp[PyData.eqv,Zi1 ns]
theorem ZnI(ss:List Str)(m:Nat)(h:m≤ss.length):Zc8 (ss.map V.str) none (some (m:Int))=(ss.take m).map V.str∧Zc8 (ss.map V.str) (some (m:Int)) none=(ss.drop m).map V.str:=by
 have e:∀d:Nat,HT.sIx (ss.map V.str).length d (some (m:Int))=m:=fun d=>by
  unfold HT.sIx
  simp only[List.length_map]
  rw[if_neg (by omega)]
  omega
 have e0:∀d:Nat,HT.sIx (ss.map V.str).length d none=d:=fun d=>rfl
 constructor
 ·unfold Zc8
  rw[e,e0,List.drop_zero,Nat.sub_zero,QaG]
 ·unfold Zc8
  rw[e,e0,← List.map_drop,← QaG,Qx (by rw[QV,Qa];omega)]
def Zja:Sp:=fun vs H Q _=>∃ (p:Addr) (c:Int),vs=[.ref p]∧ZaE H p c∧c<2 ^ 30 ∧
 ∀ (r:Addr) (ts:List Str) (c':Int) (H':Hp),H r=none→H' r=some (.lst (ts.map V.str))→ts.length≤60→(∀s∈ts,s.length≤28∧AZ s)→ZaE H' p c'→c≤c'→c'≤c+700→But p H H'→Q (.ref r) H'
theorem ZlL(T:Zaf K mg cRow cMerge)(f_l_pick:Df P w K mg base 2 "_law_pick" ["_law_left_here", "_law_many"] Ze6)(f_l_stems:Df P w K mg base 3 "_law_stems" ["_law_left_here"] ZhM)(f_l_key:Df P w K mg base 3 "_law_key" ["_law_left_here", "_law_stems_here"] Znu):Df P w K mg base 4 "_law_things" ["_law_left_here"] Zja:=by
 refine T.t_l_things.df Zau (fun vs H Q E h=>?_) (fun cdv f A outer s H vs Q E hr h=>?_)
 ·obtain⟨p,c,rfl,_⟩:=h
  rfl
 obtain⟨p,c,rfl,hL,c1,q⟩:=h
 refine⟨_,#[Zf,#[Zz,1,Zau.nd,(Or.inl rfl),#[ZA,f_l_stems,hr,#[Za,‹0›,#[Zd]],(by rfl)]],#[Zf,#[Zz,2,Zau.nd,(Or.inl rfl),#[Zbg,#[Za,#[ZA,f_l_pick,hr,#[Za,‹0›,#[Za,#[Zh],#[Zd]]],(by rfl)],#[Za,#[Zh],#[Za,#[Zh],#[Za,#[Zh],#[Za,#[Zh],#[Za,#[ZG,Zaq,#[Zh],#[ZA,f_l_pick,hr,#[Za,‹0›,#[Za,#[Zh],#[Zd]]],(by rfl)]],#[Za,#[ZG,Zaq,#[Zh],#[ZA,f_l_pick,hr,#[Za,‹0›,#[Za,#[Zh],#[Zd]]],(by rfl)]],#[Za,#[ZG,Zaq,#[Zh],#[ZA,f_l_pick,hr,#[Za,‹0›,#[Za,#[Zh],#[Zd]]],(by rfl)]],#[Zd]]]]]]]]]]],#[Zf,#[Zz,3,Zau.nd,(Or.inl rfl),#[Zbg,#[Zd]]],#[Zf,#[Zbo,PassesOwn.never,#[ZbL,T.b.n_range,#[Za,#[Zx,(ixL K),‹2›,#[ZA,f_l_pick,hr,#[Za,‹0›,#[Za,#[Zh],#[Zd]]],(by rfl)]],#[Zd]]],#[Zw,4,Zau.nd],#[Zf,#[Zz,5,Zau.nd,(Or.inl rfl),#[ZA,f_l_key,hr,#[Za,‹0›,#[Za,‹1›,#[Zd]]],(by rfl)]],#[Zf,#[ZZ,(@PW.pt _ _ _ #[ZdD,#[Zo,(@neD _ K _ hr (by rfl)),‹3›,#[Zbg,#[Zd]],(Zt _)],(@Zc9 _ _ _ _ #[Zo,Za4,#[ZA,f_l_pick,hr,#[Za,‹0›,#[Za,#[Zh],#[Zd]]],(by rfl)],#[Zh],(Zt _)])]),#[Zj,#[Zz,5,Zau.nd,(Or.inl rfl),#[Zx,(ixL K),‹3›,#[ZA,f_l_pick,hr,#[Za,‹0›,#[Za,#[Zk,(Zbf K),(by rfl),T.b.n_len,Qs,#[Za,‹3›,#[Zd]]],#[Zd]]],(by rfl)]]]],#[ZB]],#[Zj,#[ZaI,#[Zc1,QF,QL,QM,Zas,‹3›,#[Za,‹5›,#[Zd]]]]]]]],#[Zf,#[Zz,6,Zau.nd,(Or.inl rfl),#[ZA,f_l_pick,hr,#[Za,‹0›,#[Za,#[Zh],#[Zd]]],(by rfl)]],#[Zf,#[Zz,7,Zau.nd,(Or.inl rfl),#[ZG,Zfx,#[Zk,(Zbf K),(by rfl),T.b.n_len,Qs,#[Za,‹3›,#[Zd]]],#[Zh]]],#[Zf,#[ZZ,#[Zo,Za4,‹6›,#[Zh],(Zt _)],#[Zj,#[Zn,#[Zk,(Zpi K),(by rfl),T.b.n_sorted,boot_sorted,#[Za,‹3›,#[Zd]]]]],#[ZB]],#[Zf,#[ZZ,#[Zo,Za4,‹6›,#[Zh],(Zt _)],#[Zj,#[Zn,(@Zlu _ _ _ _ _ _ _ _ _ _ _ _ (Zs2 K) #[Zk,(Zpi K),(by rfl),T.b.n_sorted,boot_sorted,#[Za,‹3›,#[Zd]]] (@Zcv _) (@Zcv _) (@Zb4 _ _ _ (@ZgR _ _ _ _ _ _ Ze0 #[Zh])))]],#[ZB]],#[Zf,#[ZZ,#[Zo,Za4,‹6›,#[Zh],(Zt _)],#[Zj,#[Zn,#[ZG,Zqg,#[Zk,(Zpi K),(by rfl),T.b.n_sorted,boot_sorted,#[Za,#[Zcq,(slL K),‹3›,(@Zcv _),(@Zb4 _ _ _ ‹7›)],#[Zd]]],#[Zk,(Zpi K),(by rfl),T.b.n_sorted,boot_sorted,#[Za,#[Zcq,(slL K),‹3›,(@Zb4 _ _ _ ‹7›),(@Zcv _)],#[Zd]]]]]],#[ZB]],#[Zj,#[Zn,‹3›]]]]]]]]]]],?_⟩
 have c0:=hL.ge
 refine⟨_,rfl,p,c,rfl,hL,by omega,fun l ss c5 H5 hl0 hl5 n1 n4 h24 L5 a1 a2 B5=>?_⟩
 have npl:p≠l:=by
  obtain⟨o,ho⟩:=hL.here
  exact Zc ho hl0
 refine⟨_,rfl,p,c5,_,rfl,L5,by omega,by decide,by decide,fun d1 H6 d10 d11 L6 B6=>?_⟩
 refine⟨_,rfl,p,c5+1,_,rfl,L6,by omega,by decide,by decide,fun d2 H7 d20 d21 L7 B7=>⟨_,_,rfl,rfl,?_⟩⟩
 refine⟨_,rfl,p,c5+1+1,_,rfl,L7,by omega,by decide,by decide,fun d3 H8 d30 d31 L8 B8=>⟨_,_,rfl,rfl,?_⟩⟩
 refine⟨_,rfl,p,c5+1+1+1,_,rfl,L8,by omega,by decide,by decide,fun d4 H9 d40 d41 L9 B9=>⟨_,_,rfl,rfl,?_⟩⟩
 refine⟨(by show 8≤sizeLine;decide),fun m hm=>?_⟩
 have npm:p≠m:=by obtain⟨o,ho⟩:=L9.here;exact Zc ho hm
 have B59:But p H5 H9:=((B6.trans B7).trans B8).trans B9
 have hl9:=B59 l _ hl5 npl.symm
 have nlm:l≠m:=Zc hl9 hm
 refine⟨(by show 0≤sizeLine;decide),fun r hr0=>?_⟩
 have L10:ZaE (upd H9 m (.lst (([d1,4,5,6,8,3+d2,7+d3,20+d4]:List Int).map V.int))) p (c5+1+1+1+1):=L9.new hm
 have hm10:(upd H9 m (.lst (([d1,4,5,6,8,3+d2,7+d3,20+d4]:List Int).map V.int))) m=some (.lst (([d1,4,5,6,8,3+d2,7+d3,20+d4]:List Int).map V.int)):=Zb
 have hl10:(upd H9 m (.lst (([d1,4,5,6,8,3+d2,7+d3,20+d4]:List Int).map V.int))) l=some (.lst (ss.map V.str)):=by rw[Ze nlm];exact hl9
 have B010:But p H (upd H9 m (.lst (([d1,4,5,6,8,3+d2,7+d3,20+d4]:List Int).map V.int))):=(B5.trans B59).trans (But.same (Zi hm _))
 change (upd H9 m (.lst (([d1,4,5,6,8,3+d2,7+d3,20+d4]:List Int).map V.int))) r=none at hr0
 have npr:p≠r:=by obtain⟨o,ho⟩:=L10.here;exact Zc ho hr0
 have nlr:l≠r:=Zc hl10 hr0
 have nmr:m≠r:=Zc hm10 hr0
 have hrn:H r=none:=Zfz B010 npr hr0
 refine⟨_,rfl,_,rfl,p,c5+1+1+1+1,_,rfl,L10.new hr0,by omega,by decide,by decide,fun ix H11 ix0 ix1 L11 B11=>?_⟩
 have hm11:H11 m=some (.lst (([d1,4,5,6,8,3+d2,7+d3,20+d4]:List Int).map V.int)):=B11 m _ (by rw[Ze nmr];exact hm10) npm.symm
 obtain⟨many,hmm,hat⟩:=Zkh (ns:=[d1,4,5,6,8,3+d2,7+d3,20+d4]) ix0 ix1
 have hm1:0≤many∧many≤60:=by
  simp only[List.mem_cons,List.not_mem_nil,or_false]at hmm
  omega
 refine(xw4 m _ _ _ ⟨rfl,rfl,SqL.of hm11,hat,_,rfl,by omega,by omega,?_⟩)
 have hr11:H11 r=some (.lst (([]:List Str).map V.str)):=B11 r _ Zb npr.symm
 have hl11:H11 l=some (.lst (ss.map V.str)):=B11 l _ (by rw[Ze nlr];exact hl10) npl.symm
 have B011:But p H H11:=(B010.trans (But.same (Zi hr0 _))).trans B11
 refine Zbt (fun i σ H2=>∃ (ts:List Str) (v1 v2:Option V) (c2:Int),σ=[some (.ref p),some (.ref l),some (.ref m),some (.ref r),v1,v2,none,none]∧H2 r=some (.lst (ts.map V.str))∧H2 l=some (.lst (ss.map V.str))∧ts.length=i∧(∀s∈ts,s.length≤28∧AZ s)∧ZaE H2 p c2∧c5+5≤c2∧c2≤c5+5+8*i∧(∀b o,H b=some o→b≠p→H2 b=some o)) ⟨[],none,none,c5+1+1+1+1+1,rfl,hr11,hl11,rfl,(fun s hs=>by cases hs),L11,by omega,by omega,B011⟩ ?_ ?_
 ·rintro i σ H2 hi ⟨ts,v1,v2,c2,rfl,hr2,hl2,hn,h28,L2,a1',a2',B2⟩
  have hi60:(i:Int)<61:=by omega
  refine⟨_,rfl,_,rfl,p,l,c2,ss,rfl,L2,by omega,hl2,n1,n4,h24,fun key c3 H3 hkey hkaz L3 a3 a4 B3=>?_⟩
  have hr3:=B3 r _ hr2 npr.symm
  have hl3:=B3 l _ hl2 npl.symm
  have fin:∀ (k2:Str) (c4:Int) (H4:Hp),k2.length≤28∧AZ k2→ZaE H4 p c4→c2≤c4→c4≤c2+8→H4 r=some (.lst (ts.map V.str))→H4 l=some (.lst (ss.map V.str))→(∀b o,H b=some o→b≠p→H4 b=some o) →
    ∃ (ts':List Str) (v1 v2:Option V) (c5':Int),[some (V.ref p),some (V.ref l),some (V.ref m),some (V.ref r),some (V.int (0+(i:Int))),some (V.str k2),none,none]=[some (.ref p),some (.ref l),some (.ref m),some (.ref r),v1,v2,none,none] ∧
     (upd H4 r (.lst (ts.map V.str++[.str k2]))) r=some (.lst (ts'.map V.str))∧(upd H4 r (.lst (ts.map V.str++[.str k2]))) l=some (.lst (ss.map V.str))∧ts'.length=i+1∧(∀s∈ts',s.length≤28∧AZ s)∧ZaE (upd H4 r (.lst (ts.map V.str++[.str k2]))) p c5'∧c5+5≤c5'∧c5'≤c5+5+8*((i+1:Nat):Int) ∧
     (∀b o,H b=some o→b≠p→(upd H4 r (.lst (ts.map V.str++[.str k2]))) b=some o):=fun k2 c4 H4 hk L4 b1 b2 hr4 hl4 B4=>by
   refine⟨ts++[k2],_,_,c4,rfl,?_,?_,by rw[Qg,hn];rfl,?_,L4.at npr,by omega,by omega,fun b o e n=>?_⟩
   ·rw[Zb,Qe];rfl
   ·rw[Ze nlr];exact hl4
   ·intro x hx
    rcases Qf.mp hx with hx|hx
    ·exact h28 x hx
    ·rw[Qd.mp hx];exact hk
   ·rw[Ze (Zc e hrn)]
    exact B4 b o e n
  have hlt:(ts.map V.str).length<sizeLine:=by rw[Qa,hn];exact ZI (by omega)
  refine⟨_,rfl,(by show 0≤sizeLine;decide),fun e he=>?_⟩
  have hr3':(upd H3 e (.lst [])) r=some (.lst (ts.map V.str)):=by rw[Ze (Zc hr3 he)];exact hr3
  have hl3':(upd H3 e (.lst [])) l=some (.lst (ss.map V.str)):=by rw[Ze (Zc hl3 he)];exact hl3
  refine⟨.list (ts.map PyData.str),.list [],.lst (SqL.of hr3') (Zkp ts),.lst (SqL.of Zb) .nil,Zjh ts (fun s h=>(h28 s h).2),(by ac_rfl),_,rfl,?_⟩
  have B3':∀b o,H b=some o→b≠p→(upd H3 e (.lst [])) b=some o:=fun b o z n=>Zi he _ b o (B3 b o (B2 b o z n) n)
  cases ts with
  | nil =>
   have ev:(if true=true then !PyData.eqv (.list (([]:List Str).map PyData.str)) (.list []) else PyData.eqv (.list (([]:List Str).map PyData.str)) (.list []))=false:=by ac_rfl
   rw[ev]
   refine ZbF (ZbF ?_)
   refine⟨_,rfl,.inl ⟨rfl,_,SqL.of hr3'⟩,_,rfl,r,_,_,rfl,rfl,hr3',hlt,?_⟩
   exact fin key c3 _ ⟨hkey,hkaz⟩ (L3.new he) (by omega) (by omega) hr3' hl3' B3'
  | cons t0 tr =>
   have ev:(if true=true then !PyData.eqv (.list ((t0::tr).map PyData.str)) (.list []) else PyData.eqv (.list ((t0::tr).map PyData.str)) (.list []))=true:=by simp[PyData.eqv,PyData.eqvAll]
   rw[ev]
   refine ZhD ⟨_,rfl,p,c3,_,rfl,L3.new he,by omega,by decide,by decide,fun d H5' d0 d1' L5' B5'=>?_⟩
   have hr5:=B5' r _ hr3' npr.symm
   have hl5':=B5' l _ hl3' npl.symm
   refine⟨rfl,_,rfl,ZaV (fun _=>?_) (fun _=>?_)⟩
   ·have hlen:((((t0::tr).map V.str).length:Nat):Int)=((t0::tr).length:Int):=by rw[Qa]
    have hpos:(0:Int)<((t0::tr).length:Int):=by simp
    refine⟨_,rfl,_,rfl,_,rfl,r,_,rfl,.inl (SqL.of hr5),p,c3+1,_,rfl,L5',by omega,by omega,by omega,fun d' H6' d0' d1'' L6' B6'=>?_⟩
    obtain⟨st,hs1,hs2⟩:=ZjK (ss:=t0::tr) d0' (by omega)
    have hr6:=B6' r _ hr5 npr.symm
    refine(xw4 r _ _ _ ⟨rfl,rfl,SqL.of hr6,hs2,?_⟩)
    refine⟨_,rfl,.inl ⟨rfl,_,SqL.of hr6⟩,_,rfl,r,_,_,rfl,rfl,hr6,hlt,?_⟩
    exact fin st _ _ (h28 st hs1) L6' (by omega) (by omega) hr6 (B6' l _ hl5' npl.symm) fun b o z n=>B6' b o (B5' b o (B3' b o z n) n) n
   ·refine⟨_,rfl,.inl ⟨rfl,_,SqL.of hr5⟩,_,rfl,r,_,_,rfl,rfl,hr5,hlt,?_⟩
    exact fin key _ _ ⟨hkey,hkaz⟩ L5' (by omega) (by omega) hr5 hl5' fun b o z n=>B5' b o (B3' b o z n) n
 ·rintro σ H2 ⟨ts,v1,v2,c2,rfl,hr2,hl2,hn,h28,L2,a1',a2',B2⟩
  have hn60:ts.length≤60:=by omega
  refine⟨_,rfl,p,c2,_,rfl,L2,by omega,by decide,by decide,fun wy H3 w0 w1 L3 B3=>?_⟩
  have hr3:=B3 r _ hr2 npr.symm
  have B03:But p H H3:=fun b o h n=>B3 b o (B2 b o h n) n
  refine⟨_,rfl,r,_,rfl,.inl (SqL.of hr3),_,_,rfl,rfl,⟨by decide,by decide⟩,?_⟩
  refine⟨_,rfl,rfl,_,rfl,ZaV (fun _=>?_) (fun _=>?_)⟩
  ·refine⟨_,rfl,r,ts,rfl,SqL.of hr3,by omega,fun x rs hx perm srt=>?_⟩
   have npx:p≠x:=by obtain⟨o,ho⟩:=L3.here;exact Zc ho hx
   exact q x rs _ _ (Zfz B03 npx hx) Zb (by rw[perm.length_eq];omega) (fun s hs=>h28 s (perm.mem_iff.mp hs)) (L3.new hx) (by omega) (by omega) (B03.trans (But.same (Zi hx _)))
  refine⟨_,rfl,rfl,_,rfl,ZaV (fun _=>?_) (fun _=>?_)⟩
  ·refine⟨_,rfl,r,ts,rfl,SqL.of hr3,by omega,fun x rs hx perm srt=>?_⟩
   refine⟨_,rfl,_,rfl,_,rfl,x,_,rfl,SqL.of Zb,by decide,fun y hy=>?_⟩
   have B04:=B03.trans (But.same (Zi hx (.lst (rs.map V.str))))
   have L4:ZaE (upd H3 x (.lst (rs.map V.str))) p (c2+1):=L3.new hx
   have npy:p≠y:=by obtain⟨o,ho⟩:=L4.here;exact Zc ho hy
   exact q y rs.reverse _ _ (Zfz B04 npy hy) (by rw[Zb,ZlV,List.map_reverse]) (by rw[List.length_reverse,perm.length_eq];omega) (fun s hs=>h28 s (perm.mem_iff.mp (QaT.mp hs))) (L4.new hy) (by omega) (by omega) (B04.trans (But.same (Zi hy _)))
  refine⟨_,rfl,rfl,_,rfl,ZaV (fun _=>?_) (fun _=>?_)⟩
  ·have hcut:((((ts.map V.str).length:Nat):Int) / 2)=((ts.length / 2:Nat):Int):=by rw[Qa];omega
   simp only[hcut]
   obtain⟨e1,e2⟩:=ZnI ts (ts.length / 2) (by omega)
   refine⟨_,rfl,_,rfl,_,rfl,r,_,rfl,SqL.of hr3,fun y hy=>?_⟩
   rw[e1]
   refine⟨y,ts.take (ts.length / 2),rfl,SqL.of Zb,by rw[Qz];omega,fun x rs hx perm srt=>?_⟩
   have S5:Zu H3 (upd (upd H3 y (.lst ((ts.take (ts.length / 2)).map V.str))) x (.lst (rs.map V.str))):=(Zi hy _).trans (Zi hx _)
   have hx5:(upd (upd H3 y (.lst ((ts.take (ts.length / 2)).map V.str))) x (.lst (rs.map V.str))) x=some (.lst (rs.map V.str)):=Zb
   generalize upd (upd H3 y (.lst ((ts.take (ts.length / 2)).map V.str))) x (.lst (rs.map V.str))=H5x at S5 hx5 ⊢
   refine⟨_,rfl,_,rfl,_,rfl,r,_,rfl,SqL.of (S5 _ _ hr3),fun y2 hy2=>?_⟩
   rw[e2]
   refine⟨y2,ts.drop (ts.length / 2),rfl,SqL.of Zb,by rw[QV];omega,fun x2 rs2 hx2 perm2 srt2=>?_⟩
   have S6:Zu H5x (upd (upd H5x y2 (.lst ((ts.drop (ts.length / 2)).map V.str))) x2 (.lst (rs2.map V.str))):=(Zi hy2 _).trans (Zi hx2 _)
   have hx6:(upd (upd H5x y2 (.lst ((ts.drop (ts.length / 2)).map V.str))) x2 (.lst (rs2.map V.str))) x2=some (.lst (rs2.map V.str)):=Zb
   generalize upd (upd H5x y2 (.lst ((ts.drop (ts.length / 2)).map V.str))) x2 (.lst (rs2.map V.str))=H6x at S6 hx6 ⊢
   have l1:=perm.length_eq
   have l2:=perm2.length_eq
   rw[Qz]at l1
   rw[QV]at l2
   refine⟨x,x2,_,_,rfl,rfl,S6 _ _ hx5,hx6,(by rw[Qa,Qa];exact ZcS (by omega)),fun z hz=>?_⟩
   have L6x:=(L3.same S5).same S6
   have npz:p≠z:=by obtain⟨o,ho⟩:=L6x.here;exact Zc ho hz
   have B06:But p H H6x:=B03.trans (But.same (S5.trans S6))
   refine q z (rs++rs2) _ _ (Zfz B06 npz hz) (by rw[Zb,Qe]) (by rw[Qg];omega) (fun s hs=>?_) (L6x.new hz) (by omega) (by omega) (B06.trans (But.same (Zi hz _)))
   rcases Qf.mp hs with hs|hs
   ·exact h28 s (Qab (perm.mem_iff.mp hs))
   ·exact h28 s (Qan (perm2.mem_iff.mp hs))
  ·exact⟨_,rfl,q r ts _ H3 hrn hr3 (by omega) h28 L3 (by omega) (by omega) B03⟩
theorem Rd.out{H:Hp}{ls:List Addr}{ds:List (List Int)}(h:Rd H ls ds){l:Addr}(hl:H l=none):l ∉ ls:=fun hm=>by
 obtain⟨i,hi⟩:=List.mem_iff_getElem?.mp hm
 obtain⟨d,_,hd⟩:=h.at hi
 rw[hl]at hd;cases hd
theorem Zmr{ls:List Addr}{l:Addr}:atI ((ls++[l]).map V.ref) (-1)=some (.ref l):=by
 have e:ixN ((ls++[l]).map V.ref).length (-1)=some ls.length:=by
  unfold ixN
  rw[Qa,Qg,Qk,if_neg (by decide),if_pos (by omega)]
  congr 1
  omega
 unfold atI
 rw[e,Option.bind_some,Qi]
 simp
theorem Rd.split{H:Hp}:∀ {ls:List Addr} {ds:List (List Int)} {d:List Int},Rd H ls (ds++[d])→∃ms l,ls=ms++[l]∧Rd H ms ds∧H l=some (.lst (d.map V.int))
 | [],[],d,h=>h.elim
 | [],_::_,d,h=>h.elim
 | [l],[],d,h=>⟨[],l,rfl,trivial,h.1⟩
 | l::m::ls,[],d,h=>h.2.elim
 | l::ls,e::ds,d,h=>by
  obtain⟨ms,x,e1,e2,e3⟩:=Rd.split (ls:=ls) (ds:=ds) h.2
  exact⟨l::ms,x,by rw[e1];rfl,⟨h.1,e2⟩,e3⟩
def ks(ss:List Str)(n:Int):Str×Int:=(ss.getD n.toNat "",n)
def Zd9(ss:List Str)(A:List Int)(n:Int):Prop:=n∈A∧∀m∈A,ZM (kk (ks ss m)) (kk (ks ss n))=false
theorem ZhR{e f:Str×Int}(h:kk e=kk f):e=f:=by
 obtain⟨a,b⟩:=e
 obtain⟨c,d⟩:=f
 unfold kk at h
 injection h with h1 h2
 injection h2 with h2 _
 have e1:a=c:=Sum.inr.inj h1
 have e2:b=d:=Sum.inl.inj h2
 rw[e1,e2]
theorem ZcZ{ss:List Str}{A:List Int}{n m:Int}(h:Zd9 ss A n)(g:Zd9 ss A m):n=m:=by
 have:=ZhR (Zbp _ _ (g.2 n h.1) (h.2 m g.1))
 exact congrArg Prod.snd this
def ltK(ss:List Str)(c n:Int):Prop:=cds (ss.getD c.toNat "")<cds (ss.getD n.toNat "")
inductive Res (ss:List Str):List Int→List Int→Nat→List Int→List (List Int)→List (List Int)→Prop where
 | stop0 {c:Nat} {done:List (List Int)}:Res ss [] [] c [] done done
 | stop {c:Nat} {g:Int} {gone:List Int} {done:List (List Int)}:Res ss [] [] c (g::gone) done (done++[g::gone])
 | switch {b:Int} {B:List Int} {c:Nat} {gone:List Int} {done R:List (List Int)}:Res ss (b::B) [] c [] (done++[gone]) R→Res ss [] (b::B) c gone done R
 | stepN {A B:List Int} {c:Nat} {gone:List Int} {done R:List (List Int)} {n:Int}:Zd9 ss A n→¬ c<ss.length→Res ss (A.erase n) B c (gone++[n]) done R→Res ss A B c gone done R
 | stepA {A B:List Int} {c:Nat} {gone:List Int} {done R:List (List Int)} {n:Int}:Zd9 ss A n→c<ss.length→¬ ltK ss c n→Res ss (A.erase n++[(c:Int)]) B (c+1) (gone++[n]) done R→Res ss A B c gone done R
 | stepB {A B:List Int} {c:Nat} {gone:List Int} {done R:List (List Int)} {n:Int}:Zd9 ss A n→c<ss.length→ltK ss c n→Res ss (A.erase n) (B++[(c:Int)]) (c+1) (gone++[n]) done R→Res ss A B c gone done R
theorem ZU{ss:List Str}{n:Int}(h:Zd9 ss [] n):False:=by cases h.1
theorem ZoH{ss:List Str}{A B:List Int}{c:Nat}{gone:List Int}{done R:List (List Int)}(h:Res ss A B c gone done R):∀R',Res ss A B c gone done R'→R=R':=by
 induction h with
 | stop0=>intro R' g;cases g with
  | stop0=>rfl
  | stepN l _ _=>exact(ZU l).elim
  | stepA l _ _ _=>exact(ZU l).elim
  | stepB l _ _ _=>exact(ZU l).elim
 | stop=>intro R' g;cases g with
  | stop=>rfl
  | stepN l _ _=>exact(ZU l).elim
  | stepA l _ _ _=>exact(ZU l).elim
  | stepB l _ _ _=>exact(ZU l).elim
 | switch _ ih=>intro R' g;cases g with
  | switch g=>exact ih _ g
  | stepN l _ _=>exact(ZU l).elim
  | stepA l _ _ _=>exact(ZU l).elim
  | stepB l _ _ _=>exact(ZU l).elim
 | stepN l hc _ ih=>intro R' g;cases g with
  | stop0=>exact(ZU l).elim
  | stop=>exact(ZU l).elim
  | switch _=>exact(ZU l).elim
  | stepN l' _ g=>rw[ZcZ l' l]at g;exact ih _ g
  | stepA _ h _ _=>exact absurd h hc
  | stepB _ h _ _=>exact absurd h hc
 | stepA l hc hn _ ih=>intro R' g;cases g with
  | stop0=>exact(ZU l).elim
  | stop=>exact(ZU l).elim
  | switch _=>exact(ZU l).elim
  | stepN _ h _=>exact absurd hc h
  | stepA l' _ _ g=>rw[ZcZ l' l]at g;exact ih _ g
  | stepB l' _ h _=>rw[ZcZ l' l]at h;exact absurd h hn
 | stepB l hc hn _ ih=>intro R' g;cases g with
  | stop0=>exact(ZU l).elim
  | stop=>exact(ZU l).elim
  | switch _=>exact(ZU l).elim
  | stepN _ h _=>exact absurd hc h
  | stepA l' _ h _=>rw[ZcZ l' l]at h;exact absurd hn h
  | stepB l' _ _ g=>rw[ZcZ l' l]at g;exact ih _ g
def kt(ss:List Str)(r:Int)(n:Int):List Key:=[.inl r,.inr (ss.getD n.toNat ""),.inl n]
theorem Zq9{ss:List Str}{r n m:Int}:ZM (kt ss r n) (kt ss r m)=ZM (kk (ks ss n)) (kk (ks ss m)):=by
 unfold kt
 rw[Z9,if_pos rfl]
 rfl
theorem ZrL{ss:List Str}{r n m:Int}:ZM (kt ss r n) (kt ss (r+1) m)=true:=by
 unfold kt
 rw[Z9,if_neg (by intro z;have:=Sum.inl.inj z;omega)]
 exact decide_eq_true (by omega)
def Zbq(ss:List Str)(r:Int)(A B:List Int):List (List Key):=A.map (kt ss r)++B.map (kt ss (r+1))
theorem Zrk{ss:List Str}{r:Int}{A B:List Int}{M:List (List Key)}(hp:M.Perm (Zbq ss r A B))(hA:A≠[]){t:List Key}(ht:t∈M)(hm:∀u∈M,ZM u t=false):∃n,t=kt ss r n∧Zd9 ss A n:=by
 have h1:=hp.mem_iff.mp ht
 rcases Qf.mp h1 with h1|h1
 ·obtain⟨n,hn,rfl⟩:=Qt.mp h1
  refine⟨n,rfl,hn,fun m hm'=>?_⟩
  rw[← Zq9 (r:=r)]
  exact hm _ (hp.mem_iff.mpr (Qr _ (Qm hm')))
 ·obtain⟨m,_,rfl⟩:=Qt.mp h1
  cases A with
  | nil=>exact absurd rfl hA
  | cons a A =>
   have:=hm _ (hp.mem_iff.mpr (Qr _ (Qm (Q4 (a:=a)))))
   rw[ZrL]at this;cases this
theorem Zm3{ss:List Str}{r:Int}{A B:List Int}{M M':List (List Key)}{n:Int}(hp:M.Perm (Zbq ss r A B))(hn:n∈A)(he:M.Perm (kt ss r n::M')):M'.Perm (Zbq ss r (A.erase n) B):=by
 have h1:(kt ss r n::M').Perm (Zbq ss r A B):=he.symm.trans hp
 have h3:(Zbq ss r A B).Perm (kt ss r n::Zbq ss r (A.erase n) B):=by
  unfold Zbq
  exact((List.perm_cons_erase hn).map (kt ss r)).append_right _
 exact(h1.trans h3).cons_inv
def Znz:Sp:=fun vs H Q _=>∃ (p:Addr) (c:Int),vs=[.ref p]∧ZaE H p c∧c<2 ^ 40∧∀ (v c':Int) (H':Hp),1≤v→v≤16→ZaE H' p c'→c≤c'→c'≤c+2→But p H H'→Q (.int v) H'
theorem Zpb(T:Zaf K mg cRow cMerge)(f_l_pick:Df P w K mg base 2 "_law_pick" ["_law_left_here", "_law_many"] Ze6):Df P w K mg base 3 "_law_room" ["_law_left_here"] Znz:=by
 refine T.t_l_room.df Zl0 (fun vs H Q E h=>?_) (fun cdv f A outer s H vs Q E hr h=>?_)
 ·obtain⟨p,c,rfl,_⟩:=h
  rfl
 obtain⟨p,c,rfl,hL,c1,q⟩:=h
 refine⟨_,#[Zj,#[Zn,#[Zx,(ixL K),#[Zbg,#[Za,#[Zh],#[Za,#[Zh],#[Za,#[Zh],#[Za,#[Zh],#[Za,#[Zh],#[Za,#[Zh],#[Za,#[Zh],#[Za,#[ZG,Zaq,#[Zh],#[ZA,f_l_pick,hr,#[Za,‹0›,#[Za,#[Zh],#[Zd]]],(by rfl)]],#[Zd]]]]]]]]]],#[ZA,f_l_pick,hr,#[Za,‹0›,#[Za,#[Zh],#[Zd]]],(by rfl)]]]],?_⟩
 have c0:=hL.ge
 refine⟨_,rfl,p,c,_,rfl,hL,by omega,by decide,by decide,fun d H1 d0 d1 L1 B1=>⟨_,_,rfl,rfl,(by show 8≤sizeLine;decide),fun e he=>?_⟩⟩
 have npe:p≠e:=by obtain⟨o,ho⟩:=L1.here;exact Zc ho he
 refine⟨_,rfl,p,c+1,_,rfl,L1.new he,by omega,by decide,by decide,fun i H2 i0 i1 L2 B2=>?_⟩
 obtain⟨v,hv,hat⟩:=Zkh (ns:=[1,2,3,4,5,2,3,1+d]) i0 i1
 have he2:H2 e=some (.lst (([1,2,3,4,5,2,3,1+d]:List Int).map V.int)):=B2 e _ Zb npe.symm
 have hv1:1≤v∧v≤16:=by
  simp only[List.mem_cons,List.not_mem_nil,or_false]at hv
  omega
 exact(xw4 e _ _ _ ⟨rfl,rfl,SqL.of he2,hat,q v _ _ hv1.1 hv1.2 L2 (by omega) (by omega) ((B1.trans (But.same (Zi he _))).trans B2)⟩)
def Zji:Sp:=fun vs H Q _=>∃ (r:Int) (x y:Str),vs=[.int r,.str x,.str y]∧x.length≤1000∧y.length≤1000∧(¬ cds y<cds x→Q (.int r) H)∧(cds y<cds x→Q (.int (r+1)) H)
theorem Zlj(T:Zaf K mg cRow cMerge)(f_liken:Df P w K mg base 3 "liken" ["one", "other"] Zep):Df P w K mg base 4 "run_behind" ["run", "key", "comer"] Zji:=by
 refine T.t_run_behind.df Zgp (fun vs H Q E h=>?_) (fun cdv f A outer s H vs Q E hr h=>?_)
 ·obtain⟨r,x,y,rfl,_⟩:=h
  rfl
 obtain⟨r,x,y,rfl,hx,hy,q1,q2⟩:=h
 refine⟨_,#[Zj,#[Zn,#[Za9,#[Zo,Zmu,#[ZA,f_liken,hr,#[Za,‹2›,#[Za,‹1›,#[Zd]]],(by rfl)],#[Zh],(Zt _)],‹0›,#[ZG,Zaq,‹0›,#[Zh]]]]],?_⟩
 refine⟨_,rfl,_,rfl,y,x,rfl,hy,hx,_,_,rfl,rfl,_,rfl,ZaV (fun d=>?_) (fun d=>?_)⟩
 ·have d':(0:Int)≤ZF (cds y) (cds x):=of_decide_eq_true d
  exact⟨_,rfl,q1 (fun z=>by have:=(ZbI _ _).mp z;omega)⟩
 ·have d':¬ (0:Int)≤ZF (cds y) (cds x):=fun z=>d (decide_eq_true z)
  exact⟨_,rfl,_,_,rfl,rfl,q2 ((ZbI _ _).mpr (by omega))⟩
def first(k:Nat):List Int:=ZT 0 k
def ZjR(K:PySem.W.Frag):Sp:=fun vs H Q _=>∃ (a:Addr) (ss:List Str) (room:Nat),vs=[.ref a,.int room]∧SqL K H a (ss.map V.str)∧ss.length≤60∧(∀s∈ss,s.length≤1000)∧room≤100 ∧
 ∀ (r:Addr) (ls:List Addr) (R:List (List Int)) (H':Hp),H r=none→H' r=some (.lst (ls.map V.ref))→r ∉ ls→(∀l∈ls,H l=none)→Rd H' ls R→Res ss (first (min room ss.length)) [] (min room ss.length) [] [] R→R.length≤100→(∀d∈R,d.length≤100)→Zu H H'→Q (.ref r) H'
theorem Zd2{k:Nat}{n:Int}(h:n∈first k):0≤n∧n<k:=by
 unfold first ZT at h
 obtain⟨m,hm,rfl⟩:=Qt.mp h
 have:=QX.mp hm
 omega
theorem ZfG{ss:List Str}{n:Int}(h0:0≤n)(h:n<ss.length):atI (ss.map V.str) n=some (.str (ss.getD n.toNat "")):=by
 have hk:n.toNat<ss.length:=by omega
 have ek:n=((n.toNat:Nat):Int):=by omega
 have q:atI (ss.map V.str) ((n.toNat:Nat):Int)=some (.str ss[n.toNat]):=Z3 (by rw[Qi,Qb hk]<;>rfl)
 rw[← ek]at q
 rw[q,Ql,Qb hk];rfl
theorem ZfL{ss:List Str}(h:∀s∈ss,s.length≤1000)(n:Nat):(ss.getD n "").length≤1000:=by
 rw[Ql]
 cases hx:ss[n]? with
 | none=>decide
 | some z=>exact h z (Qq hx)
def Zcr(gone:List Int)(done:List (List Int)):List (List Int):=if gone=[] then done else done++[gone]
structure At (ss:List Str) (k:Nat) (H0 H:Hp) (ia ru:Addr) (ts:Zcl) (ls:List Addr) (A B:List Int) (c:Nat) (gone:List Int) (done:List (List Int)):Prop where
 ins:H ia=some (.lst (Zad ts))
 att:AtT H ts
 per:(ts.map (·.2)).Perm (Zbq ss (done.length:Int) A B)
 run:H ru=some (.lst (ls.map V.ref))
 rd:Rd H ls (Zcr gone done)
 rul:ru ∉ ls
 nd:ls.Nodup
 fr:∀l∈ls,H0 l=none
 ne:ia≠ru
 nil:ia ∉ ls
 sm:Zu H0 H
 i0:H0 ia=none
 r0:H0 ru=none
 hc:c≤ss.length
 mem:∀n∈A++B,0≤n∧n<c
 cnt:((Zcr gone done).map List.length).sum+A.length+B.length+(ss.length-c)=ss.length
 nem:∀d∈done,d≠[]
 go:B≠[]→A=[]→gone≠[]
 res:∀R,Res ss A B c gone done R→Res ss (first k) [] k [] [] R
theorem Zcb(k:Nat):(first k).length=k:=Zao 0 k
theorem ZdY:∀D:List (List Int),(∀d∈D,d≠[])→D.length≤(D.map List.length).sum∧∀d∈D,d.length≤(D.map List.length).sum
 | [],_=>⟨Qh _,fun d h=>by cases h⟩
 | x::r,h=>by
  obtain⟨a,b⟩:=ZdY r fun d hd=>h d (Qu _ hd)
  have hx:x.length≠0:=fun z=>h x (by simp) (QO z)
  rw[Qj,Q0,QD]
  refine⟨by omega,fun d hd=>?_⟩
  rcases QI.mp hd with rfl|hd
  ·omega
  ·have:=b d hd;omega
structure In (ss:List Str) (k:Nat) (H0 H:Hp) (h1 la go fo:Addr) (ls:List Addr) (A B:List Int) (c:Nat) (gone:List Int) (done:List (List Int)):Prop where
 hA:H h1=some (.lst (A.map V.int))
 hB:H la=some (.lst (B.map V.int))
 hG:H go=some (.lst (gone.map V.int))
 hF:H fo=some (.lst (ls.map V.ref))
 rd:Rd H ls done
 d1:h1≠la
 d2:h1≠go
 d3:la≠go
 e1:h1≠fo
 e2:la≠fo
 e3:go≠fo
 l0:fo ∉ ls
 l1:h1 ∉ ls
 l2:la ∉ ls
 l3:go ∉ ls
 f0:H0 fo=none
 f1:H0 h1=none
 f2:H0 la=none
 f3:H0 go=none
 fl:∀l∈ls,H0 l=none
 sm:Zu H0 H
 hc:c≤ss.length
 mem:∀n∈A++B,0≤n∧n<c
 cnt:(done.map List.length).sum+gone.length+A.length+B.length+(ss.length-c)=ss.length
 nem:∀d∈done,d≠[]
 go':A≠[]∨gone≠[]
 res:∀R,Res ss A B c gone done R→Res ss (first k) [] k [] [] R
structure Out (ss:List Str) (k:Nat) (H0 H:Hp) (h1 fo:Addr) (ls:List Addr) (A:List Int) (c:Nat) (done:List (List Int)):Prop where
 hA:H h1=some (.lst (A.map V.int))
 hF:H fo=some (.lst (ls.map V.ref))
 rd:Rd H ls done
 e1:h1≠fo
 l0:fo ∉ ls
 l1:h1 ∉ ls
 f0:H0 fo=none
 f1:H0 h1=none
 fl:∀l∈ls,H0 l=none
 sm:Zu H0 H
 hc:c≤ss.length
 mem:∀n∈A,0≤n∧n<c
 cnt:(done.map List.length).sum+A.length+(ss.length-c)=ss.length
 nem:∀d∈done,d≠[]
 res:∀R,Res ss A [] c [] done R→Res ss (first k) [] k [] [] R
def Ord(E:List (Str×Int)):Prop:=E.Pairwise fun a b=>ZM (kk b) (kk a)=false
theorem Zjp{ts' ts:Zcl}{E:List (Str×Int)}(hE:ts.map (·.2)=E.map kk)(pm:ts'.Perm ts)(pw:ts'.Pairwise (fun a b=>ZM b.2 a.2=false)):∃E',E'.Perm E∧ts'.map (·.2)=E'.map kk∧Ord E':=by
 obtain⟨E',p,e⟩:=Ziq kk (pm.map (·.2)) E hE
 refine⟨E',p,e,?_⟩
 have:(ts'.map (·.2)).Pairwise (fun a b=>ZM b a=false):=QaO.mpr pw
 rw[e]at this
 exact List.pairwise_map.mp this
theorem Zlg{K:PySem.W.Frag}{a:Addr}{xs:List V}{k:Nat}{D:Addr}{σ:L2.St}{H1:Hp}{g:TG}{te:TE}{Q:VK}(Pv:Nat→List V→L2.St→Hp→Prop)(h0:Pv 0 [] (σ++List.replicate k none) (upd H1 D (.lst [])))
  (hl:∀i zs σ H,Pv i zs σ H→SqL K H a xs)
  (hs:∀i zs σ H x p,xs[i]? = some x→Pv i zs σ H→H p=none→g (.ref p) σ (upd H p (.tup [.int i,x])) fun σ4 H4=>te σ4 H4 fun z H6=>H6 D=some (.lst zs)∧zs.length<sizeLine∧Pv (i+1) (zs++[z]) σ4 (upd H6 D (.lst (zs++[z]))))
  (hd:∀zs σ H,Pv xs.length zs σ H→Q (.ref D) H):Zf2 (Ite K a) D k σ H1 g Zic te Q:=by
 refine⟨fun i m zs σ H=>m=xs.length-i∧i≤xs.length∧Pv i zs σ H,⟨xs.length,by simp,Qv _,h0⟩,?_⟩
 rintro i m zs σ H ⟨rfl,hi,p⟩
 have q1:=hl i zs σ H p
 by_cases hlt:i<xs.length
 ·refine .inr ⟨⟨xs,q1,hlt⟩,Pv (i+1),fun ys' σ' H' p'=>⟨xs.length-(i+1),by omega,rfl,hlt,p'⟩,fun x H' y=>?_⟩
  obtain⟨r,hr,rfl,e⟩:=y
  have e':=e xs q1 _ (Qb hlt)
  subst e'
  simp only[Zic,↓reduceIte]
  exact hs i zs σ H _ r (Qb hlt) p hr
 ·have e:i=xs.length:=by omega
  exact .inl ⟨⟨xs,q1,by omega⟩,hd zs σ H (e ▸ p)⟩
def Ris(ss:List Str)(ns:List Int):Prop:=∀ (p:Nat) (x y:Int),ns[p]? = some x→ns[p+1]? = some y→ZM (kk (ks ss x)) (kk (ks ss y))=true
theorem ZiB(ss:List Str)(n:Nat):((first n).map (ks ss)).Nodup:=by
 unfold first ZT
 rw[QA]
 refine QaL _ (fun a b h=>?_) List.nodup_range
 intro z
 have:=congrArg Prod.snd z
 exact h (by simp only[Function.comp_apply,ks]at this;omega)
theorem Zq1{ss:List Str}{n:Nat}{E:List (Str×Int)}(hp:E.Perm ((first n).map (ks ss)))(ho:Ord E):Ris ss (E.map (·.2))∧(∀m∈E.map (·.2),(0:Int)≤m∧m<(n:Int))∧E.length=n:=by
 have he:∀e∈E,e=ks ss e.2∧(0:Int)≤e.2∧e.2<(n:Int):=fun e h=>by
  obtain⟨m,hm,rfl⟩:=Qt.mp (hp.mem_iff.mp h)
  exact⟨rfl,Zd2 hm⟩
 refine⟨fun p x y hx hy=>?_,fun m hm=>?_,?_⟩
 ·rw[Qi]at hx hy
  cases h1:E[p]? with
  | none=>rw[h1]at hx;cases hx
  | some e =>
   cases h2:E[p+1]? with
   | none=>rw[h2]at hy;cases hy
   | some f =>
    rw[h1]at hx
    rw[h2]at hy
    cases hx
    cases hy
    obtain⟨l1,g1⟩:=Qc.mp h1
    obtain⟨l2,g2⟩:=Qc.mp h2
    have o:=Q7.mp ho p (p+1) l1 l2 (by omega)
    have nd:=Q7.mp (hp.nodup_iff.mpr (ZiB ss n)) p (p+1) l1 l2 (by omega)
    rw[g1,g2]at o nd
    rw[← (he e (Qq h1)).1,← (he f (Qq h2)).1]
    cases hb:ZM (kk e) (kk f) with
    | true=>rfl
    | false=>exact absurd (ZhR (Zbp _ _ hb o)) nd
 ·obtain⟨e,h,rfl⟩:=Qt.mp hm
  exact(he e h).2
 ·rw[hp.length_eq,Qa,Zcb]
def ZgL(K:PySem.W.Frag):Sp:=fun vs H Q _=>∃ (a:Addr) (ss:List Str),vs=[.ref a]∧SqL K H a (ss.map V.str)∧ss.length≤60 ∧
 ∀ (r:Addr) (ns:List Int) (H':Hp),H r=none→H' r=some (.lst (ns.map V.int))→ns.length=ss.length→(∀n∈ns,0≤n∧n<ss.length)→Ris ss ns→Zu H H'→Q (.ref r) H'
theorem Zie(T:Zaf K mg cRow cMerge):Df P w K mg base 1 "_law_in_order" ["_law_things_here"] (ZgL K):=by
 refine T.t_l_in_order.df ZgB (fun vs H Q E h=>?_) (fun cdv f A outer s H vs Q E hr h=>?_)
 ·obtain⟨a,ss,rfl,_⟩:=h
  rfl
 obtain⟨a,ss,rfl,hS,h60,q⟩:=h
 refine⟨_,#[Zj,#[Zn,#[Zbd,Zow,#[iL,K,#[Zk,(Ztd K),(by rfl),T.b.n_sorted,boot_sorted,#[Za,#[Zbd,ZnZ,#[iE,K,T.b.n_enumerate,#[Za,‹0›,#[Zd]]],(fun _ _ _ _=>#[gT,K,2,#[Zs,#[cg,1,ZnZ],#[Zs,#[cg,2,ZnZ],(@Zal _)]]]),(fun _ _ _ _=>(@ZaH _)),(fun _ _ _ _=>#[ZN,#[Za,#[cw,2,ZnZ],#[Za,#[cw,1,ZnZ],#[Zd]]]])],#[Zd]]]],(fun _ _ _ _=>#[gT,K,2,#[Zs,#[cg,1,Zow],#[Zs,#[cg,2,Zow],(@Zal _)]]]),(fun _ _ _ _=>(@ZaH _)),(fun _ _ _ _=>#[cw,2,Zow])]]],?_⟩
 refine⟨_,rfl,a,ss.map V.str,rfl,hS,fun D hD=>?_⟩
 refine Zlg (K:=K) (a:=a) (xs:=ss.map V.str) (fun i zs σ H2=>(∃v1 v2:Option V,σ=[some (.ref a),v1,v2])∧(∃ts:Zcl,zs=Zad ts∧AtT H2 ts∧ts.length=i∧ts.map (·.2)=((first i).map (ks ss)).map kk)∧i≤ss.length∧H2 D=some (.lst zs)∧Zu H H2) ?_ (fun _ _ _ _ h=>h.2.2.2.2.seq hS) ?_ ?_
 ·exact⟨⟨none,none,rfl⟩,⟨[],rfl,(fun t h=>by cases h),rfl,rfl⟩,Qv _,Zb,Zi hD _⟩
 ·rintro i zs σ H2 x p hx ⟨⟨v1,v2,rfl⟩,⟨ts,rfl,hat,htl,hE⟩,hi',hD2,s2⟩ hp
  rw[Qi]at hx
  cases hy:ss[i]? with
  | none=>rw[hy]at hx;cases hx
  | some y =>
   rw[hy]at hx
   cases hx
   have hil:i<ss.length:=(Qc.mp hy).1
   have sp:=Zi hp (.tup [.int i,.str y])
   have hp3:(upd H2 p (.tup [.int i,.str y])) p=some (.tup [.int i,.str y]):=Zb
   have hD3:=sp _ _ hD2
   have hat3:=AtT.mono hat sp
   have s3:=s2.trans sp
   generalize upd H2 p (.tup [.int i,.str y])=H3 at hp3 hD3 hat3 s3 ⊢
   refine⟨p,_,rfl,SqT.of hp3,rfl,_,_,rfl,_,_,rfl,rfl,?_⟩
   refine⟨_,rfl,_,rfl,(by show 2≤sizeLine;decide),fun n hn0=>?_⟩
   have sn:=Zi hn0 (.tup [.str y,.int i])
   have hD4:=sn _ _ hD3
   have nDn:D≠n:=Zc hD3 hn0
   refine⟨hD4,(by unfold Zad;rw[Qa,htl];exact ZI (by omega)),⟨_,_,rfl⟩,⟨ts++[(n,kk (ks ss (i:Int)))],by unfold Zad;rw[Qe];rfl,fun t ht=>?_,by rw[Qg,Qk];omega,?_⟩,by omega,Zb,fun b o hb=>?_⟩
   ·rcases Qf.mp ht with ht|ht
    ·exact ZbD hD4 _ _ _ (sn _ _ (hat3 t ht))
    ·rw[Qd.mp ht,Ze nDn.symm]
     have ey:ss.getD i "" = y:=by rw[Ql,hy];rfl
     show (upd H3 n _) n=_
     rw[Zb,← ey]
     rfl
   ·rw[Qe,hE]
    unfold first ZT
    rw[Qag,Qe,Qe,Qe]
    simp
   ·rw[Ze (Zc hb hD)];exact sn _ _ (s3 b o hb)
 rintro zs σ H2 ⟨⟨v1,v2,rfl⟩,⟨ts,rfl,hat,htl,hE⟩,_,hD2,s2⟩
 rw[Qa]at hE htl
 have hsh:∀t∈ts,ZW t.2=[false,true]:=fun t ht=>by
  have:t.2∈((first ss.length).map (ks ss)).map kk:=by rw[← hE];exact Qm (f:=fun t:Addr×List Key=>t.2) ht
  obtain⟨m,_,e⟩:=Qt.mp this
  rw[← e];rfl
 refine⟨D,ts,[false,true],rfl,SqL.of hD2,hat,by simp,hsh,by omega,fun l ts' hl pm pw=>?_⟩
 obtain⟨E',pE,eE,oE⟩:=Zjp hE pm pw
 obtain⟨hris,hmem,hEl⟩:=Zq1 pE oE
 have s3:=s2.trans (Zi hl (.lst (Zad ts')))
 have hl3:(upd H2 l (.lst (Zad ts'))) l=some (.lst (Zad ts')):=Zb
 have hat3:AtT (upd H2 l (.lst (Zad ts'))) ts':=fun t ht=>Zi hl _ _ _ (hat t (pm.mem_iff.mp ht))
 generalize upd H2 l (.lst (Zad ts'))=H3 at s3 hl3 hat3 ⊢
 have htl':ts'.length=ss.length:=by rw[pm.length_eq];exact htl
 refine⟨l,rfl,⟨_,SqL.of hl3⟩,fun D3 hD3=>?_⟩
 refine Za0 (K:=K) (a:=l) (xs:=Zad ts') (fun i zs σ H4=>(∃v1 v2:Option V,σ=[some (.ref a),v1,v2])∧zs=((E'.take i).map (·.2)).map V.int∧i≤ts'.length∧H4 D3=some (.lst zs)∧Zu H3 H4) ?_ (fun _ _ _ _ h=>SqL.of (h.2.2.2.2 _ _ hl3)) ?_ ?_
 ·exact⟨⟨none,none,rfl⟩,rfl,Qv _,Zb,Zi hD3 _⟩
 ·rintro i x zs σ H4 hx ⟨⟨v1,v2,rfl⟩,rfl,hi3,hD4,s4⟩
  unfold Zad at hx
  rw[Qi]at hx
  cases ht:ts'[i]? with
  | none=>rw[ht]at hx;cases hx
  | some t =>
   rw[ht]at hx
   cases hx
   have hil:i<ts'.length:=(Qc.mp ht).1
   have hEi:E'[i]? = some E'[i]:=Qb (by omega)
   have e5:t.2=kk E'[i]:=by
    have:=congrArg (fun z=>z[i]?) eE
    simp only[List.getElem?_map,ht,hEi,Option.map_some]at this
    exact Qp this
   have hH:=s4 _ _ (hat3 t (Qq ht))
   rw[e5]at hH
   refine⟨t.1,_,rfl,SqT.of hH,rfl,_,_,rfl,_,_,rfl,rfl,?_⟩
   refine⟨_,rfl,hD4,(by rw[Qa,Qa,Qz];exact ZI (by omega)),⟨_,_,rfl⟩,?_,hil,Zb,fun b o hb=>?_⟩
   ·rw[QH,hEi,Qe,Qe];rfl
   ·rw[Ze (Zc hb hD3)];exact s4 b o hb
 rintro zs σ H4 ⟨⟨v1,v2,rfl⟩,rfl,hi3,hD4,s4⟩
 rw[show (Zad ts').length=ts'.length from Qa _,Qx (by omega)]at hD4
 exact q D3 _ H4 (s3.free hD3) hD4 (by rw[Qa];exact hEl) hmem hris (s3.trans s4)
inductive PT where
 | leaf (k:Int)
 | node (l:List PT)
mutual
inductive TV (H:Hp):V→PT→Prop where
 | leaf (k:Int):TV H (.int k) (.leaf k)
 | node {a:Addr} {xs:List V} {l:List PT}:H a=some (.tup xs)→TVs H xs l→TV H (.ref a) (.node l)
inductive TVs (H:Hp):List V→List PT→Prop where
 | nil:TVs H [] []
 | cons {x:V} {t:PT} {xs:List V} {l:List PT}:TV H x t→TVs H xs l→TVs H (x::xs) (t::l)
end
mutual
theorem TV.mono{H H':Hp}(s:∀a xs,H a=some (.tup xs)→H' a=some (.tup xs)):∀ {x:V} {t:PT},TV H x t→TV H' x t
 | _,_,.leaf k=>.leaf k
 | _,_,.node h hs=>.node (s _ _ h) (hs.mono s)
theorem TVs.mono{H H':Hp}(s:∀a xs,H a=some (.tup xs)→H' a=some (.tup xs)):∀ {xs:List V} {l:List PT},TVs H xs l→TVs H' xs l
 | _,_,.nil=>.nil
 | _,_,.cons h hs=>.cons (h.mono s) (hs.mono s)
end
mutual
def toD:PT→PyData
 | .leaf k=>.int k
 | .node l=>.tuple (Zer l)
def Zer:List PT→List PyData
 | []=>[]
 | t::r=>toD t::Zer r
end
mutual
theorem TV.dv{K:PySem.W.Frag}{H:Hp}:∀ {x:V} {t:PT},TV H x t→DV K H x (toD t)
 | _,_,.leaf k=>.int k
 | _,_,.node h hs=>.tup (SqT.of h) hs.dv
theorem TVs.dv{K:PySem.W.Frag}{H:Hp}:∀ {xs:List V} {l:List PT},TVs H xs l→DVs K H xs (Zer l)
 | _,_,.nil=>.nil
 | _,_,.cons h hs=>.cons h.dv hs.dv
end
theorem TVs.len{H:Hp}:∀ {xs:List V} {l:List PT},TVs H xs l→xs.length=l.length
 | _,_,.nil=>rfl
 | _,_,.cons _ hs=>by rw[QD,QD,hs.len]
theorem TVs.app{H:Hp}:∀ {xs ys:List V} {l m:List PT},TVs H xs l→TVs H ys m→TVs H (xs++ys) (l++m)
 | _,_,_,_,.nil,h=>h
 | _,_,_,_,.cons h hs,g=>.cons h (hs.app g)
theorem TVs.at{H:Hp}:∀ {xs:List V} {l:List PT} {i:Nat} {x:V},TVs H xs l→xs[i]? = some x→∃t,l[i]? = some t∧TV H x t
 | _,_,i,x,.nil,h=>by simp at h
 | _,_,0,x,.cons (t:=t) h _,e=>by simp at e;subst e;exact⟨t,rfl,h⟩
 | _,_,i+1,x,.cons _ hs,e=>by simpa using hs.at (i:=i) (by simpa using e)
mutual
def tSz(ns:List Int):PT→Int
 | .leaf k=>ns.getD k.toNat 0
 | .node l=>Zfn ns l
def Zfn(ns:List Int):List PT→Int
 | []=>0
 | t::r=>tSz ns t+Zfn ns r
end
mutual
def tCo(ns:List Int):PT→Int
 | .leaf _=>0
 | .node l=>Zb9 ns l+Zfn ns l
def Zb9(ns:List Int):List PT→Int
 | []=>0
 | t::r=>tCo ns t+Zb9 ns r
end
mutual
def tLf:PT→Nat
 | .leaf _=>1
 | .node l=>ZnP l
def ZnP:List PT→Nat
 | []=>0
 | t::r=>tLf t+ZnP r
end
mutual
def tDp:PT→Nat
 | .leaf _=>0
 | .node l=>ZeD l+1
def ZeD:List PT→Nat
 | []=>0
 | t::r=>max (tDp t) (ZeD r)
end
mutual
def tNo:PT→Nat
 | .leaf _=>1
 | .node l=>ZfZ l+1
def ZfZ:List PT→Nat
 | []=>0
 | t::r=>tNo t+ZfZ r
end
mutual
def tOk(n:Nat):PT→Prop
 | .leaf k=>0≤k∧k<n
 | .node l=>Zli n l
def Zli(n:Nat):List PT→Prop
 | []=>True
 | t::r=>tOk n t∧Zli n r
end
theorem Zit(ns:List Int):∀a b:List PT,Zb9 ns (a++b)=Zb9 ns a+Zb9 ns b
 | [],b=>by show Zb9 ns b=0+Zb9 ns b;omega
 | t::r,b=>by show tCo ns t+Zb9 ns (r++b)=tCo ns t+Zb9 ns r+Zb9 ns b;rw[Zit ns r b];omega
theorem Zh8(n:Nat):∀ (l:List PT) (i:Nat) (t:PT),Zli n l→l[i]? = some t→tOk n t
 | [],i,t,_,h=>by simp at h
 | a::r,0,t,h,e=>by simp at e;subst e;exact h.1
 | a::r,i+1,t,h,e=>Zh8 n r i t h.2 (by simpa using e)
theorem Zh1:∀ (l:List PT) (i:Nat) (t:PT),l[i]? = some t→tDp t≤ZeD l
 | [],i,t,h=>by simp at h
 | a::r,0,t,e=>by simp at e;subst e;show tDp a≤max (tDp a) (ZeD r);omega
 | a::r,i+1,t,e=>by have:=Zh1 r i t (by simpa using e);show tDp t≤max (tDp a) (ZeD r);omega
mutual
theorem ZkR:∀t:PT,1≤tNo t
 | .leaf _=>Qh _
 | .node l=>by show 1≤ZfZ l+1;omega
theorem Zmn:∀l:List PT,l.length≤ZfZ l
 | []=>Qh _
 | t::r=>by have:=ZkR t;have:=Zmn r;show r.length+1≤tNo t+ZfZ r;omega
end
mutual
theorem ZqG:∀t:PT,tLf t≤tNo t
 | .leaf _=>Qh _
 | .node l=>by have:=ZkT l;show ZnP l≤ZfZ l+1;omega
theorem ZkT:∀l:List PT,ZnP l≤ZfZ l
 | []=>Qh _
 | t::r=>by have:=ZqG t;have:=ZkT r;show tLf t+ZnP r≤tNo t+ZfZ r;omega
end
def tGd(t:PT):Prop:=tDp t+1≤tLf t∧tNo t+1≤2*tLf t
def Ztc:List PT→Prop
 | []=>True
 | t::r=>tGd t∧Ztc r
theorem Zk4{k:Int}(h0:0≤k)(h1:k≤10000000000):(PyData.int k).intsShort 13=true∧(PyData.int k).showable=true∧(PyData.int k).weight≤40:=by
 have hl:k.natAbs<2 ^ 34:=by omega
 have hlog:k.natAbs.log2<34:=by
  by_cases e:k.natAbs=0
  ·rw[e];decide
  ·exact(Nat.log2_lt e).mpr hl
 refine⟨?_,?_,?_⟩
 ·simp only[PyData.intsShort]
  exact decide_eq_true (PyData.shown_int_le (by omega))
 ·simp only[PyData.showable]
  exact decide_eq_true (by omega)
 ·simp only[PyData.weight]
  split<;>omega
mutual
theorem Zm7{n:Nat}(hn:n≤1000):∀t:PT,tOk n t→(toD t).canLay0=true∧(toD t).depth=tDp t∧(toD t).weight+1≤42*tNo t∧(toD t).intsShort 13=true∧(toD t).showable=true
 | .leaf k,h=>by
  obtain⟨h0,h1⟩:=h
  obtain⟨a,b,c⟩:=Zk4 h0 (by omega)
  refine⟨by simp[toD,PyData.canLay0],by simp[toD,PyData.depth,tDp],?_,a,b⟩
  show (PyData.int k).weight+1≤42*1
  omega
 | .node l,h=>by
  obtain⟨a,b,c,d,e⟩:=ZgJ hn l h
  refine⟨by simpa [toD,PyData.canLay0] using a,by simp[toD,PyData.depth,tDp,b],?_,by simpa [toD,PyData.intsShort] using d,by simpa [toD,PyData.showable] using e⟩
  show PyData.weightAll (Zer l)+1≤42*(ZfZ l+1)
  omega
theorem ZgJ{n:Nat}(hn:n≤1000):∀l:List PT,Zli n l→PyData.canLayAll0 (Zer l)=true∧PyData.depthAll (Zer l)=ZeD l∧PyData.weightAll (Zer l)≤42*ZfZ l∧PyData.intsShortAll 13 (Zer l)=true∧PyData.showableAll (Zer l)=true
 | [],_=>⟨rfl,rfl,Qv _,rfl,rfl⟩
 | t::r,h=>by
  obtain⟨a,b,c,d,e⟩:=Zm7 hn t h.1
  obtain⟨a',b',c',d',e'⟩:=ZgJ hn r h.2
  have hp:=ZkR t
  refine⟨by simp[Zer,PyData.canLayAll0,a,a'],by simp[Zer,PyData.depthAll,ZeD,b,b'],?_,by simp[Zer,PyData.intsShortAll,d,d'],by simp[Zer,PyData.showableAll,e,e']⟩
  show (toD t).weight+1+PyData.weightAll (Zer r)≤42*(tNo t+ZfZ r)
  omega
end
mutual
def tLv:PT→List Int
 | .leaf k=>[k]
 | .node l=>ZaY l
def ZaY:List PT→List Int
 | []=>[]
 | t::r=>tLv t++ZaY r
end
mutual
def tPl(w:Nat):PT→Prop
 | .leaf _=>True
 | .node l=>2≤l.length∧l.length≤w∧Zdp w l
def Zdp(w:Nat):List PT→Prop
 | []=>True
 | t::r=>tPl w t∧Zdp w r
end
theorem Zih:∀a b:List PT,ZaY (a++b)=ZaY a++ZaY b
 | [],b=>rfl
 | t::r,b=>by show tLv t++ZaY (r++b)=(tLv t++ZaY r)++ZaY b;rw[Zih r b,Qae]
theorem ZiJ(w:Nat):∀a b:List PT,Zdp w (a++b)↔Zdp w a∧Zdp w b
 | [],b=>by show Zdp w b↔True∧Zdp w b;simp
 | t::r,b=>by show tPl w t∧Zdp w (r++b)↔(tPl w t∧Zdp w r)∧Zdp w b;rw[ZiJ w r b,and_assoc]
def Zkc:Sp:=fun vs H Q _=>(∃i:Int,vs=[.int i]∧Q (.bl true) H)∨(∃ (a:Addr) (xs:List V),vs=[.ref a]∧H a=some (.tup xs)∧Q (.bl false) H)
theorem ZlY(K:PySem.W.Frag):PySem.W.kitOne K (.type "tuple") (.type "int")=some false:=by unfold PySem.W.kitOne PySem.W.kitCls;rfl
theorem Zry(T:Zaf K mg cRow cMerge):Df P w K mg base 1 "is_number" ["thing"] Zkc:=by
 refine T.t_is_number.df Zhy (fun vs H Q E h=>?_) (fun cdv f A outer s H vs Q E hr h=>?_)
 ·rcases h with⟨_,rfl,_⟩|⟨_,_,rfl,_⟩<;>rfl
 refine⟨_,#[Zj,#[Zn,(@Zhw _ _ _ _ _ _ _ #[Zk,(Zou K),(by rfl),T.b.n_isinstance,boot_isinstance,#[Za,‹0›,#[Za,#[ZkA,T.b.n_int,boot_int],#[Zd]]]] (@ZhH _ _ _ _ _ (@Zq6 _ _ _ _ #[Zk,(Zou K),(by rfl),T.b.n_isinstance,boot_isinstance,#[Za,‹0›,#[Za,#[ZkA,T.b.n_bool,boot_bool],#[Zd]]]])))]],?_⟩
 rcases h with⟨i,rfl,q⟩|⟨a,xs,rfl,ha,q⟩
 ·exact⟨_,rfl,_, "int",_,_,rfl,.int i,Zk0 K,_,rfl,ZhD ⟨_,rfl,_, "bool",_,_,rfl,.int i,Zm5 K,_,rfl,q⟩⟩
 ·exact⟨_,rfl,_, "int",_,_,rfl,.tup ha,ZlY K,_,rfl,ZbF q⟩
theorem ZfK{α:Type}:∀ (l:List α) (i:Nat) (h:i<l.length),(l[i]::l.eraseIdx i).Perm l
 | [],i,h=>by simp at h
 | a::r,0,h=>.refl _
 | a::r,i+1,h=>by
  rw[List.getElem_cons_succ,List.eraseIdx_cons_succ]
  exact(List.Perm.swap a _ _).trans ((ZfK r i (by simpa using h)).cons a)
theorem ZkN{gone:List Int}{done:List (List Int)}(h:∀d∈done,d≠[]):∀d∈Zcr gone done,d≠[]:=fun d hd=>by
 unfold Zcr at hd
 by_cases hg:gone=[]
 ·rw[if_pos hg]at hd;exact h d hd
 ·rw[if_neg hg]at hd
  rcases Qf.mp hd with hd|hd
  ·exact h d hd
  ·rw[Qd.mp hd];exact hg
theorem Zf1(gone:List Int)(done:List (List Int))(n:Int):Zcr (gone++[n]) done=done++[gone++[n]]:=by unfold Zcr;rw[if_neg (by simp)]
theorem ZdP(gone:List Int)(done:List (List Int)):((Zcr gone done).map List.length).sum=(done.map List.length).sum+gone.length:=by
 unfold Zcr
 by_cases hg:gone=[]
 ·rw[if_pos hg,hg];rfl
 ·rw[if_neg hg,Qe,Qal];simp
theorem At.switch{ss:List Str}{k:Nat}{H0 H:Hp}{ia ru:Addr}{ts:Zcl}{ls:List Addr}{b:Int}{B:List Int}{c:Nat}{gone:List Int}{done:List (List Int)}(h:At ss k H0 H ia ru ts ls [] (b::B) c gone done):At ss k H0 H ia ru ts ls (b::B) [] c [] (done++[gone]):=by
 have hg:=h.go (by simp) rfl
 have e:Zcr [] (done++[gone])=Zcr gone done:=by unfold Zcr;rw[if_pos rfl,if_neg hg]
 refine⟨h.ins,h.att,?_,h.run,by rw[e];exact h.rd,h.rul,h.nd,h.fr,h.ne,h.nil,h.sm,h.i0,h.r0,h.hc,fun n hn=>h.mem n (by simpa using hn),?_,fun d hd=>?_,fun hb=>absurd rfl hb,fun R hR=>h.res R (.switch hR)⟩
 ·have:=h.per
  unfold Zbq at this ⊢
  rw[Qac,List.nil_append]at this
  rw[Qac,QR,Qg,Qk]
  exact this
 ·rw[e];have:=h.cnt;simpa using this
 ·rcases Qf.mp hd with hd|hd
  ·exact h.nem d hd
  ·rw[Qd.mp hd];exact hg
theorem ZsA(ss:List Str)(r n:Int):ZW (kt ss r n)=[true,false,true]:=rfl
theorem ZnU{ss:List Str}{r:Int}{A B:List Int}{ts:Zcl}(hp:(ts.map (·.2)).Perm (Zbq ss r A B)):∀t∈ts,ZW t.2=[true,false,true]:=fun t ht=>by
 have:=hp.mem_iff.mp (Qm (f:=fun t:Addr×List Key=>t.2) ht)
 rcases Qf.mp this with h|h
 ·obtain⟨n,_,e⟩:=Qt.mp h;rw[← e];rfl
 ·obtain⟨n,_,e⟩:=Qt.mp h;rw[← e];rfl
theorem Zo0(T:Zaf K mg cRow cMerge)(f_run_behind:Df P w K mg base 4 "run_behind" ["run", "key", "comer"] Zji):Df P w K mg base 5 "runs_of" ["things", "room"] (ZjR K):=by
 refine T.t_runs_of.df ZaT (fun vs H Q E h=>?_) (fun cdv f A outer s H vs Q E hr h=>?_)
 ·obtain⟨a,ss,room,rfl,_⟩:=h
  rfl
 obtain⟨a,ss,room,rfl,hS,h60,hlen,hroom,q⟩:=h
 refine⟨_,#[Zf,#[Zem,2,ZaT.nd,Ziu,#[ZbL,T.b.n_range,#[Za,#[Zk,(ZeY rfl),(by rfl),T.b.n_min,boot_min,#[Za,‹1›,#[Za,#[Zk,(Zbf K),(by rfl),T.b.n_len,Qs,#[Za,#[pv,0,(Or.inr (Or.inl rfl))],#[Zd]]],#[Zd]]]],#[Zd]]],(fun _ _ _ _=>#[cg,9,Ziu]),(fun _ _ _ _=>(@ZaH _)),(fun _ _ _ _=>#[ZN,#[Za,#[Zh],#[Za,#[Zx,(ixL K),#[cv,0,Ziu],#[cw,9,Ziu]],#[Za,#[cw,9,Ziu],#[Zd]]]]])],#[Zf,#[Zz,3,ZaT.nd,(Or.inl rfl),#[Zk,(Zbf K),(by rfl),T.b.n_len,Qs,#[Za,‹2›,#[Zd]]]],#[Zf,#[Zz,4,ZaT.nd,(Or.inl rfl),#[Zbg,#[Zd]]],#[Zf,(@ZeH _ _ _ _ _ _ PassesOwn.never #[Zo,Zfi,#[Zk,(Zbf K),(by rfl),T.b.n_len,Qs,#[Za,‹2›,#[Zd]]],#[Zh],(Zt _)] #[Zf,#[Zz,5,ZaT.nd,(Or.inl rfl),#[Zk,(ZsH K hr),(by rfl),T.b.n_min,boot_min,#[Za,‹2›,#[Zd]]]],#[Zf,#[ZaI,#[Zc1,QF,PySem.F.slot_list_remove,PySem.F.type_list_remove,(ZsM hr),‹2›,#[Za,‹5›,#[Zd]]]],#[Zf,#[ZaO,‹5›,#[gT,K,3,#[Zs,#[Zw,6,ZaT.nd],#[Zs,#[Zw,7,ZaT.nd],#[Zs,#[Zw,8,ZaT.nd],(@Zal _)]]]]],(@Zh2 _ _ _ _ _ #[ZZ,#[Zo,Za4,‹6›,#[Zk,(Zbf K),(by rfl),T.b.n_len,Qs,#[Za,‹4›,#[Zd]]],(Zt _)],#[Zj,#[ZaI,#[Zc1,QF,QL,QM,Zas,‹4›,#[Za,#[Zbg,#[Zd]],#[Zd]]]]],#[ZB]] #[Zf,#[ZaI,#[Zc1,QF,QL,QM,Zas,#[Zx,(ixL K),‹4›,‹6›],#[Za,‹8›,#[Zd]]]],#[Zj,#[ZZ,#[Zo,Zcw,‹3›,#[Zk,(Zbf K),(by rfl),T.b.n_len,Qs,#[Za,#[pv,0,(Or.inr (Or.inl rfl))],#[Zd]]],(Zt _)],#[Zf,#[ZaI,#[Zc1,QF,QL,QM,Zas,‹2›,#[Za,#[ZN,#[Za,#[ZA,f_run_behind,hr,#[Za,‹6›,#[Za,‹7›,#[Za,#[Zx,(ixL K),#[pv,0,(Or.inr (Or.inl rfl))],‹3›],#[Zd]]]],(by rfl)],#[Za,#[Zx,(ixL K),#[pv,0,(Or.inr (Or.inl rfl))],‹3›],#[Za,‹3›,#[Zd]]]]],#[Zd]]]],#[Zj,#[ZhJ,3,ZaT.nd,#[Zh],ZhG]]],#[ZB]]]])]]]),#[Zj,#[Zn,‹4›]]]]]],?_⟩
 have hl:(((ss.map V.str).length:Nat):Int)=(ss.length:Int):=by rw[Qa]
 have hmin:(if (((ss.map V.str).length:Nat):Int)<(room:Int) then (((ss.map V.str).length:Nat):Int) else (room:Int))=((min room ss.length:Nat):Int):=by split<;>omega
 refine⟨_,rfl,_,rfl,a,_,rfl,.inl hS,_,_,rfl,?_⟩
 simp only[hmin]
 refine⟨_,rfl,by omega,by omega,fun D hD=>?_⟩
 rw[Qad]
 refine Zc4 (fun i zs σ H2=>(∃v:Option V,σ=[some (.ref a),some (.int room),none,none,none,none,none,none,none,v])∧(∃ts:Zcl,zs=Zad ts∧AtT H2 ts∧ts.map (·.2)=(first i).map (kt ss 0))∧i≤min room ss.length∧H2 D=some (.lst zs)∧Zu H H2) ?_ ?_ ?_
 ·exact⟨⟨none,rfl⟩,⟨[],rfl,(fun t h=>by cases h),rfl⟩,Qv _,Zb,Zi hD _⟩
 ·rintro i zs σ H2 hi ⟨⟨v,rfl⟩,⟨ts,rfl,hat,hE⟩,hi',hD2,s2⟩
  have hil:i<ss.length:=by omega
  have e0:(0+(i:Int))=((i:Nat):Int):=by omega
  have hkey:atI (ss.map V.str) (0+(i:Int))=some (.str (ss.getD (0+(i:Int)).toNat "")):=ZfG (by omega) (by omega)
  refine⟨_,rfl,_,rfl,xw4 a _ _ _ ⟨rfl,rfl,s2.seq hS,hkey,_,rfl,(by show 3≤sizeLine;decide),fun n hn0=>?_⟩⟩
  have sn:=Zi hn0 (.tup [.int 0,.str (ss.getD (0+(i:Int)).toNat ""),.int (0+(i:Int))])
  have hD3:=sn _ _ hD2
  have nDn:D≠n:=Zc hD2 hn0
  have htl:ts.length=i:=by have:=congrArg List.length hE;rw[Qa,Qa,Zcb]at this;exact this
  refine⟨hD3,(by unfold Zad;rw[Qa,htl];exact ZI (by omega)),⟨_,rfl⟩,⟨ts++[(n,kt ss 0 (0+(i:Int)))],by unfold Zad;rw[Qe];rfl,fun t ht=>?_,?_⟩,by omega,Zb,fun b o hb=>?_⟩
  ·rcases Qf.mp ht with ht|ht
   ·exact ZbD hD3 _ _ _ (sn _ _ (hat t ht))
   ·rw[Qd.mp ht,Ze nDn.symm];exact Zb
  ·rw[Qe,hE]
   unfold first ZT
   rw[Qag,Qe,Qe]
   rfl
  ·rw[Ze (Zc hb hD)];exact sn _ _ (s2 b o hb)
 rintro zs σ H2 ⟨⟨v,rfl⟩,⟨ts0,rfl,hat0,hE0⟩,_,hD2,s2⟩
 have htl0:ts0.length=min room ss.length:=by have:=congrArg List.length hE0;rw[Qa,Qa,Zcb]at this;exact this
 have hrl0:(((Zad ts0).length:Nat):Int)=((min room ss.length:Nat):Int):=by unfold Zad;rw[Qa,htl0]
 refine⟨_,rfl,D,_,rfl,.inl (SqL.of hD2),?_⟩
 simp only[hrl0]
 refine⟨(by show 0≤sizeLine;decide),fun ru hru=>?_⟩
 have nDr:D≠ru:=Zc hD2 hru
 have s3:=s2.trans (Zi hru (.lst []))
 have at0:At ss (min room ss.length) H (upd H2 ru (.lst [])) D ru ts0 [] (first (min room ss.length)) [] (min room ss.length) [] []:=by
  refine⟨Zi hru _ _ _ hD2,AtT.mono hat0 (Zi hru _),?_,Zb,by unfold Zcr;rw[if_pos rfl];trivial,(fun h=>by cases h),List.nodup_nil,(fun l h=>by cases h),nDr,(fun h=>by cases h),s3,hD,s2.free hru,by omega,fun n hn=>?_,?_,(fun d h=>by cases h),fun h=>absurd rfl h,fun R h=>h⟩
  ·rw[hE0];unfold Zbq;rw[Qac,QR];exact .refl _
  ·rw[QR]at hn;exact Zd2 hn
  ·unfold Zcr;rw[if_pos rfl,Zcb];simp;omega
 generalize upd H2 ru (.lst [])=H3 at at0 ⊢
 refine⟨fun m σ H4=>∃ (ts:Zcl) (ls:List Addr) (A B:List Int) (c:Nat) (gone:List Int) (done:List (List Int)) (v5 v6 v7 v8:Option V),σ=[some (.ref a),some (.int room),some (.ref D),some (.int c),some (.ref ru),v5,v6,v7,v8]∧At ss (min room ss.length) H H4 D ru ts ls A B c gone done∧m=A.length+B.length+(ss.length-c),⟨_,ts0,[],first (min room ss.length),[],min room ss.length,[],[],none,none,none,none,rfl,at0,rfl⟩,?_⟩
 rintro m σ H4 ⟨ts,ls,A',B',c,gone',done',v5,v6,v7,v8,rfl,hAt',rfl⟩
 have htsl:ts.length=A'.length+B'.length:=by have:=hAt'.per.length_eq;unfold Zbq at this;rw[Qa,Qg,Qa,Qa]at this;exact this
 refine⟨_,rfl,D,_,rfl,.inl (SqL.of hAt'.ins),_,_,rfl,rfl,_,rfl,ZaV (fun d=>?_) (fun d=>?_)⟩
 ·have d':(0:Int)<(((Zad ts).length:Nat):Int):=of_decide_eq_true d
  have hpos:0<ts.length:=by unfold Zad at d';rw[Qa]at d';omega
  obtain⟨A,B,gone,done,hAt,hAne,hm⟩:∃A B gone done,At ss (min room ss.length) H H4 D ru ts ls A B c gone done∧A≠[]∧A'.length+B'.length=A.length+B.length:=by
   by_cases hA:A'=[]
   ·subst hA
    cases B' with
    | nil=>exact absurd hpos (by rw[htsl];decide)
    | cons b B=>exact⟨_,_,_,_,hAt'.switch,by simp,by simp⟩
   ·exact⟨A',B',gone',done',hAt',hA,rfl⟩
  refine⟨_,fun σ' H' h=>h,?_⟩
  have hcnt:=hAt.cnt
  rw[ZdP]at hcnt
  have hdl:=(ZdY done hAt.nem).1
  have tsne:ts≠[]:=fun z=>by rw[z]at hpos;simp at hpos
  refine⟨_,rfl,D,ts,[true,false,true],rfl,SqL.of hAt.ins,hAt.att,tsne,ZnU hAt.per,fun t ht hmin'=>?_⟩
  obtain⟨n,et,hleast⟩:=Zrk hAt.per hAne (Qm (f:=fun t:Addr×List Key=>t.2) ht) (fun u hu=>by
   obtain⟨t',ht',rfl⟩:=Qt.mp hu
   exact hmin' t' ht')
  have et':t.2=kt ss (done.length:Int) n:=et
  have hnA:=hleast.1
  have hn:=hAt.mem n (Qr _ hnA)
  have hcl:=hAt.hc
  refine⟨_,rfl,.inl ⟨rfl,_,SqL.of hAt.ins⟩,_,rfl,D,ts,t,rfl,rfl,hAt.ins,hAt.att,ht,by omega,fun i hi heq=>?_⟩
  have ttup:=hAt.att t ht
  rw[et']at ttup
  have ttup1:(upd H4 D (.lst (Zad (ts.eraseIdx i)))) t.1=some (.tup [.int (done.length:Int),.str (ss.getD n.toNat ""),.int n]):=ZbD hAt.ins _ _ _ ttup
  have ins1:(upd H4 D (.lst (Zad (ts.eraseIdx i)))) D=some (.lst (Zad (ts.eraseIdx i))):=Zb
  have att1:AtT (upd H4 D (.lst (Zad (ts.eraseIdx i)))) (ts.eraseIdx i):=fun u hu=>ZbD hAt.ins _ _ _ (hAt.att u (List.mem_of_mem_eraseIdx hu))
  have run1:(upd H4 D (.lst (Zad (ts.eraseIdx i)))) ru=some (.lst (ls.map V.ref)):=by rw[Ze hAt.ne.symm];exact hAt.run
  have rd1:Rd (upd H4 D (.lst (Zad (ts.eraseIdx i)))) ls (Zcr gone done):=Rd.mono (fun l hl' u hu=>by rw[Ze (fun z:l=D=>hAt.nil (z ▸ hl'))];exact hu) hAt.rd
  have sm1:Zu H (upd H4 D (.lst (Zad (ts.eraseIdx i)))):=fun b o hb=>by rw[Ze (Zc hb hAt.i0)];exact hAt.sm b o hb
  have per1:((ts.eraseIdx i).map (·.2)).Perm (Zbq ss (done.length:Int) (A.erase n) B):=by
   refine Zm3 hAt.per hnA ?_
   have:=(ZfK ts i hi).symm.map (fun t:Addr×List Key=>t.2)
   rw[Qj,heq,et']at this
   exact this
  have hel:(A.erase n).length+1=A.length:=by
   have:=Q9 hnA
   have:0<A.length:=Q1 hnA
   omega
  have htl1:(ts.eraseIdx i).length≤60:=by
   have:=per1.length_eq
   unfold Zbq at this
   rw[Qa,Qg,Qa,Qa]at this
   omega
  generalize upd H4 D (.lst (Zad (ts.eraseIdx i)))=H5 at ttup1 ins1 att1 run1 rd1 sm1 ⊢
  generalize ts.eraseIdx i=ts1 at ins1 att1 per1 htl1 ⊢
  refine⟨_,rfl,t.1,_,rfl,SqT.of ttup1,rfl,_,_,rfl,_,_,rfl,_,_,rfl,rfl,?_⟩
  have hlsl:ls.length=(Zcr gone done).length:=hAt.rd.len
  have hls60:ls.length≤60:=by have:=(ZdY _ (ZkN (gone:=gone) hAt.nem)).1;rw[ZdP]at this;omega
  have hll:(((ls.map V.ref).length:Nat):Int)=(ls.length:Int):=by rw[Qa]
  refine⟨fun σ H6=>∃ (ms:List Addr) (nl:Addr),σ=[some (.ref a),some (.int room),some (.ref D),some (.int c),some (.ref ru),some (.ref t.1),some (.int (done.length:Int)),some (.str (ss.getD n.toNat "")),some (.int n)]∧H6 D=some (.lst (Zad ts1))∧AtT H6 ts1∧H6 ru=some (.lst ((ms++[nl]).map V.ref))∧Rd H6 ms done∧H6 nl=some (.lst (gone.map V.int))∧Zu H H6∧ru ∉ ms++[nl]∧D ∉ ms++[nl]∧(ms++[nl]).Nodup∧(∀l∈ms++[nl],H l=none)∧ms.length=done.length,?_,?_⟩
  ·refine⟨_,rfl,_,rfl,ru,_,rfl,.inl (SqL.of run1),rfl,_,rfl,?_⟩
   by_cases hg:gone=[]
   ·have hlen2:ls.length=done.length:=by rw[hlsl,hg];unfold Zcr;rw[if_pos rfl]
    refine Zej (by rw[hll,hlen2]) ?_
    refine⟨_,rfl,.inl ⟨rfl,_,SqL.of run1⟩,(by show 0≤sizeLine;decide),fun nl hnl=>⟨ru,_,_,rfl,rfl,Zi hnl _ _ _ run1,(by rw[Qa];exact ZI (by omega)),?_⟩⟩
    have snl:=Zi hnl (.lst [])
    have nrn:ru≠nl:=Zc run1 hnl
    have nDn:D≠nl:=Zc ins1 hnl
    have hnll:nl ∉ ls:=rd1.out hnl
    have ins2:(upd (upd H5 nl (.lst [])) ru (.lst (ls.map V.ref++[.ref nl]))) D=some (.lst (Zad ts1)):=by rw[Ze hAt.ne];exact snl _ _ ins1
    have att2:AtT (upd (upd H5 nl (.lst [])) ru (.lst (ls.map V.ref++[.ref nl]))) ts1:=fun u hu=>ZbD (snl _ _ run1) _ _ _ (snl _ _ (att1 u hu))
    have run2:(upd (upd H5 nl (.lst [])) ru (.lst (ls.map V.ref++[.ref nl]))) ru=some (.lst ((ls++[nl]).map V.ref)):=by rw[Zb,Qe];rfl
    have rd2:Rd (upd (upd H5 nl (.lst [])) ru (.lst (ls.map V.ref++[.ref nl]))) ls done:=by
     have:Zcr gone done=done:=by unfold Zcr;rw[if_pos hg]
     rw[this]at rd1
     exact Rd.mono (fun l hl' u hu=>by rw[Ze (fun z:l=ru=>hAt.rul (z ▸ hl'))];exact snl _ _ hu) rd1
    have hl2:(upd (upd H5 nl (.lst [])) ru (.lst (ls.map V.ref++[.ref nl]))) nl=some (.lst (gone.map V.int)):=by rw[Ze nrn.symm,hg];exact Zb
    have sm2:Zu H (upd (upd H5 nl (.lst [])) ru (.lst (ls.map V.ref++[.ref nl]))):=fun b o hb=>by rw[Ze (Zc hb hAt.r0)];exact snl _ _ (sm1 b o hb)
    have rul2:ru ∉ ls++[nl]:=fun hm=>by
     rcases Qf.mp hm with hm|hm
     ·exact hAt.rul hm
     ·exact nrn (Qd.mp hm)
    have nil2:D ∉ ls++[nl]:=fun hm=>by
     rcases Qf.mp hm with hm|hm
     ·exact hAt.nil hm
     ·exact nDn (Qd.mp hm)
    have nd2:(ls++[nl]).Nodup:=by
     rw[List.nodup_append]
     exact⟨hAt.nd,by simp,fun x hx y hy e=>hnll (by rw[← Qd.mp hy,← e];exact hx)⟩
    have fr2:∀l∈ls++[nl],H l=none:=fun l hl'=>by
     rcases Qf.mp hl' with hl'|hl'
     ·exact hAt.fr l hl'
     ·rw[Qd.mp hl'];exact sm1.free hnl
    generalize upd (upd H5 nl (.lst [])) ru (.lst (ls.map V.ref++[.ref nl]))=H6 at ins2 att2 run2 rd2 hl2 sm2 ⊢
    exact⟨ls,nl,rfl,ins2,att2,run2,rd2,hl2,sm2,rul2,nil2,nd2,fr2,hlen2⟩
   ·have et2:Zcr gone done=done++[gone]:=by unfold Zcr;rw[if_neg hg]
    have hlen2:ls.length=done.length+1:=by rw[hlsl,et2,Qg];rfl
    refine Zdj (fun z=>by have z':=V.int.inj z;rw[hll,hlen2]at z';omega) ?_
    rw[et2]at rd1
    obtain⟨ms,nl,rfl,rd2,hl2⟩:=rd1.split
    have hms:ms.length=done.length:=by rw[Qg,Qk]at hlen2;omega
    exact⟨ms,nl,rfl,ins1,att1,run1,rd2,hl2,sm1,hAt.rul,hAt.nil,hAt.nd,hAt.fr,hms⟩
  rintro σ H6 ⟨ms,nl,rfl,ins2,att2,run2,rd2,hl2,sm2,rul2,nil2,nd2,fr2,hms⟩
  have hnd:=QW.mp nd2
  have hlms:nl ∉ ms:=fun h=>hnd.2.2 nl h nl (by simp) rfl
  have nrl:ru≠nl:=fun z=>rul2 (by rw[z];simp)
  have nDl:D≠nl:=fun z=>nil2 (by rw[z];simp)
  have hat3:atI ((ms++[nl]).map V.ref) (done.length:Int)=some (.ref nl):=Z3 (by rw[Qi,QN (by omega),show done.length-ms.length=0 by omega];rfl)
  refine⟨_,rfl,_,rfl,ru,_,_,_,rfl,rfl,SqL.of run2,hat3,Zro hl2,_,rfl,nl,_,_,rfl,rfl,hl2,(by rw[Qa];exact ZI (by omega)),?_⟩
  have ins3:(upd H6 nl (.lst (gone.map V.int++[.int n]))) D=some (.lst (Zad ts1)):=by rw[Ze nDl];exact ins2
  have att3:AtT (upd H6 nl (.lst (gone.map V.int++[.int n]))) ts1:=fun u hu=>ZbD hl2 _ _ _ (att2 u hu)
  have run3:(upd H6 nl (.lst (gone.map V.int++[.int n]))) ru=some (.lst ((ms++[nl]).map V.ref)):=by rw[Ze nrl];exact run2
  have rd3:Rd (upd H6 nl (.lst (gone.map V.int++[.int n]))) (ms++[nl]) (done++[gone++[n]]):=by
   refine Rd.app (Rd.mono (fun l hl' u hu=>?_) rd2) ⟨?_,trivial⟩
   ·rw[Ze (fun z:l=nl=>hlms (z ▸ hl'))];exact hu
   ·rw[Zb,Qe];rfl
  have sm3:Zu H (upd H6 nl (.lst (gone.map V.int++[.int n]))):=fun b o hb=>by rw[Ze (Zc hb (fr2 nl (by simp)))];exact sm2 b o hb
  generalize upd H6 nl (.lst (gone.map V.int++[.int n]))=H7 at ins3 att3 run3 rd3 sm3 ⊢
  refine⟨_,rfl,_,rfl,a,_,rfl,.inl (sm3.seq hS),_,_,rfl,rfl,_,rfl,ZaV (fun d2=>?_) (fun d2=>?_)⟩
  ·have hcN:c<ss.length:=by have:=of_decide_eq_true d2;omega
   have hkc:atI (ss.map V.str) (c:Int)=some (.str (ss.getD (c:Int).toNat "")):=ZfG (by omega) (by omega)
   refine⟨_,rfl,.inl ⟨rfl,_,SqL.of ins3⟩,_,rfl,_,rfl,_,rfl,_,rfl,xw4 a _ _ _ ⟨rfl,rfl,sm3.seq hS,hkc,(done.length:Int),ss.getD n.toNat "",ss.getD (c:Int).toNat "",rfl,ZfL hlen _,ZfL hlen _,fun hlt=>?_,fun hlt=>?_⟩⟩
   ·refine⟨_,rfl,_,rfl,xw4 a _ _ _ ⟨rfl,rfl,sm3.seq hS,hkc,_,rfl,(by show 3≤sizeLine;decide),fun tn htn=>⟨D,_,_,rfl,rfl,Zi htn _ _ _ ins3,(by unfold Zad;rw[Qa];exact ZI (by omega)),?_⟩⟩⟩
    have stn:=Zi htn (.tup [.int (done.length:Int),.str (ss.getD (c:Int).toNat ""),.int (c:Int)])
    have nDt:D≠tn:=Zc ins3 htn
    have per4:((ts1++[(tn,kt ss (done.length:Int) (c:Int))]).map (·.2)).Perm (Zbq ss (done.length:Int) (A.erase n++[(c:Int)]) (B)):=by
     rw[Qe]
     unfold Zbq
     refine(per1.append_right _).trans ?_
     unfold Zbq
     rw[Qe,Qae,Qae]
     exact List.Perm.append_left _ List.perm_append_comm
    refine⟨_,rfl,_,_,rfl,rfl,?_⟩
    have hcc:((c:Int)+1)=((c+1:Nat):Int):=by omega
    simp only[hcc]
    refine⟨_,by simp only[List.length_append,List.length_singleton];omega,ts1++[(tn,kt ss (done.length:Int) (c:Int))],ms++[nl],A.erase n++[(c:Int)],B,c+1,gone++[n],done,_,_,_,_,rfl,⟨by rw[Zb];unfold Zad;rw[Qe];rfl,fun u hu=>by
     rcases Qf.mp hu with hu|hu
     ·exact ZbD (stn _ _ ins3) _ _ _ (stn _ _ (att3 u hu))
     ·rw[Qd.mp hu,Ze nDt.symm];exact Zb,per4,by rw[Ze hAt.ne.symm];exact stn _ _ run3,by rw[Zf1];exact Rd.mono (fun l hl' u hu=>by rw[Ze (fun z:l=D=>nil2 (z ▸ hl'))];exact stn _ _ hu) rd3,rul2,nd2,fr2,hAt.ne,nil2,fun b o hb=>by rw[Ze (Zc hb hAt.i0)];exact stn _ _ (sm3 b o hb),hAt.i0,hAt.r0,by omega,fun z hz=>by
     have:z∈A++B∨z=(c:Int):=by
      simp only[List.mem_append,List.mem_singleton]at hz ⊢
      rcases hz with hz|hz
      ·rcases hz with hz|hz
       ·exact .inl (.inl (Qy hz))
       ·exact .inr hz
      ·exact .inl (.inr hz)
     rcases this with h|h
     ·have:=hAt.mem z h;omega
     ·omega,by rw[ZdP,Qg,Qk];simp only[List.length_append,List.length_singleton];omega,hAt.nem,fun _ _=>by simp,fun R hR=>hAt.res R (.stepA hleast hcN hlt hR)⟩,rfl⟩
   ·refine⟨_,rfl,_,rfl,xw4 a _ _ _ ⟨rfl,rfl,sm3.seq hS,hkc,_,rfl,(by show 3≤sizeLine;decide),fun tn htn=>⟨D,_,_,rfl,rfl,Zi htn _ _ _ ins3,(by unfold Zad;rw[Qa];exact ZI (by omega)),?_⟩⟩⟩
    have stn:=Zi htn (.tup [.int ((done.length:Int)+1),.str (ss.getD (c:Int).toNat ""),.int (c:Int)])
    have nDt:D≠tn:=Zc ins3 htn
    have per4:((ts1++[(tn,kt ss ((done.length:Int)+1) (c:Int))]).map (·.2)).Perm (Zbq ss (done.length:Int) (A.erase n) (B++[(c:Int)])):=by
     rw[Qe]
     unfold Zbq
     refine(per1.append_right _).trans ?_
     unfold Zbq
     rw[Qe,Qae]
     exact .refl _
    refine⟨_,rfl,_,_,rfl,rfl,?_⟩
    have hcc:((c:Int)+1)=((c+1:Nat):Int):=by omega
    simp only[hcc]
    refine⟨_,by simp only[List.length_append,List.length_singleton];omega,ts1++[(tn,kt ss ((done.length:Int)+1) (c:Int))],ms++[nl],A.erase n,B++[(c:Int)],c+1,gone++[n],done,_,_,_,_,rfl,⟨by rw[Zb];unfold Zad;rw[Qe];rfl,fun u hu=>by
     rcases Qf.mp hu with hu|hu
     ·exact ZbD (stn _ _ ins3) _ _ _ (stn _ _ (att3 u hu))
     ·rw[Qd.mp hu,Ze nDt.symm];exact Zb,per4,by rw[Ze hAt.ne.symm];exact stn _ _ run3,by rw[Zf1];exact Rd.mono (fun l hl' u hu=>by rw[Ze (fun z:l=D=>nil2 (z ▸ hl'))];exact stn _ _ hu) rd3,rul2,nd2,fr2,hAt.ne,nil2,fun b o hb=>by rw[Ze (Zc hb hAt.i0)];exact stn _ _ (sm3 b o hb),hAt.i0,hAt.r0,by omega,fun z hz=>by
     have:z∈A++B∨z=(c:Int):=by
      simp only[List.mem_append,List.mem_singleton]at hz ⊢
      rcases hz with hz|hz
      ·exact .inl (.inl (Qy hz))
      ·rcases hz with hz|hz
       ·exact .inl (.inr hz)
       ·exact .inr hz
     rcases this with h|h
     ·have:=hAt.mem z h;omega
     ·omega,by rw[ZdP,Qg,Qk];simp only[List.length_append,List.length_singleton];omega,hAt.nem,fun _ _=>by simp,fun R hR=>hAt.res R (.stepB hleast hcN hlt hR)⟩,rfl⟩
  ·have hcN:¬ c<ss.length:=fun z=>d2 (decide_eq_true (by omega))
   refine⟨_,by omega,ts1,ms++[nl],A.erase n,B,c,gone++[n],done,_,_,_,_,rfl,⟨ins3,att3,per1,run3,by rw[Zf1];exact rd3,rul2,nd2,fr2,hAt.ne,nil2,sm3,hAt.i0,hAt.r0,by omega,fun z hz=>hAt.mem z (by
    rcases Qf.mp hz with hz|hz
    ·exact Qr _ (Qy hz)
    ·exact Qn _ hz),by rw[ZdP,Qg,Qk];omega,hAt.nem,fun _ _=>by simp,fun R hR=>hAt.res R (.stepN hleast hcN hR)⟩,rfl⟩
 ·have d':¬ (0:Int)<(((Zad ts).length:Nat):Int):=fun z=>d (decide_eq_true z)
  have h0:ts.length=0:=by unfold Zad at d';rw[Qa]at d';omega
  have hA0:A'=[]:=QO (by omega)
  have hB0:B'=[]:=QO (by omega)
  subst hA0 hB0
  have hcnt:=hAt'.cnt
  obtain⟨b1,b2⟩:=ZdY _ (ZkN (gone:=gone') hAt'.nem)
  refine⟨_,rfl,q ru ls (Zcr gone' done') H4 hAt'.r0 hAt'.run hAt'.rul hAt'.fr hAt'.rd (hAt'.res _ ?_) (by omega) (fun d hd=>by have:=b2 d hd;omega) hAt'.sm⟩
  unfold Zcr
  cases gone' with
  | nil=>rw[if_pos rfl];exact .stop0
  | cons g gr=>rw[if_neg (by simp)];exact .stop
def Zby(ss:List Str)(i:Nat):Bool:=decide (0<ZF (cds (ss.getD (i-1) "")) (cds (ss.getD i "")))
theorem Zkx{ss:List Str}{k:Nat}(hk:k<ss.length):ss.getD k "" = ss[k]:=by rw[Ql,Qb hk];rfl
def ZbH(b:Nat→Bool)(m:Nat):List Nat:=((List.range m).map (·+1)).filter b
theorem Zfk(b:Nat→Bool)(m:Nat):ZbH b (m+1)=ZbH b m++(if b (m+1)=true then [m+1] else []):=by
 unfold ZbH
 rw[Qag,Qe,List.filter_append,Qj,Qac]
 congr 1
 by_cases h:b (m+1)=true
 ·rw[if_pos h];simp[h]
 ·rw[if_neg h];simp[h]
theorem Zhf(b:Nat→Bool)(m:Nat):∀x∈ZbH b m,1≤x∧x≤m:=by
 intro x hx
 unfold ZbH at hx
 obtain⟨h1,_⟩:=List.mem_filter.mp hx
 obtain⟨k,hk,rfl⟩:=Qt.mp h1
 have:=QX.mp hk
 omega
theorem ZjS(b:Nat→Bool)(m:Nat):(ZbH b m).length≤m:=by
 unfold ZbH
 have:=List.length_filter_le b ((List.range m).map (·+1))
 rw[Qa,Qaw]at this
 exact this
def pr:Nat→List Nat→List (List Int)
 | _,[]=>[]
 | a,x::r=>ZT a (x-a)::pr x r
theorem ZmX:∀ (a:Nat) (xs:List Nat),(pr a xs).length=xs.length
 | _,[]=>rfl
 | a,x::r=>by unfold pr;rw[QD,QD,ZmX x r]
theorem ZmO:∀ (a:Nat) (xs:List Nat) (x y:Nat),pr a (xs++[x]++[y])=pr a (xs++[x])++[ZT x (y-x)]
 | a,[],x,y=>rfl
 | a,z::r,x,y=>by
  show ZT a (z-a)::pr z (r++[x]++[y])=(ZT a (z-a)::pr z (r++[x]))++[ZT x (y-x)]
  rw[ZmO z r x y]
  rfl
theorem Zhd(a n:Nat):ZT a (n+1)=ZT a n++[((a+n:Nat):Int)]:=by
 unfold ZT
 rw[Qag,Qe,Qj,Qac]
 congr 2
theorem ZkV:∀ (a:Nat) (xs:List Nat) (y:Nat),a≤y→(∀x∈xs,x≤y)→∃ds d,pr a (xs++[y])=ds++[d]∧pr a (xs++[y+1])=ds++[d++[(y:Int)]]
 | a,[],y,h,_=>by
  refine⟨[],ZT a (y-a),rfl,?_⟩
  show [ZT a (y+1-a)]=[ZT a (y-a)++[(y:Int)]]
  rw[show y+1-a=(y-a)+1 by omega,Zhd,show a+(y-a)=y by omega]
 | a,z::r,y,_,h=>by
  obtain⟨ds,d,e1,e2⟩:=ZkV z r y (h z (by simp)) fun x hx=>h x (Qu _ hx)
  exact⟨ZT a (z-a)::ds,d,by show ZT a (z-a)::pr z (r++[y])=_;rw[e1];rfl,by show ZT a (z-a)::pr z (r++[y+1])=_;rw[e2];rfl⟩
theorem ZiX(n:Nat):∀ (a:Nat) (xs:List Nat),(∀x∈xs,x≤n)→∀d∈pr a xs,d.length≤n
 | _,[],_,d,h=>by cases h
 | a,x::r,h,d,hd=>by
  rcases QI.mp hd with rfl|hd
  ·rw[Zao];have:=h x (by simp);omega
  ·exact ZiX n x r (fun y hy=>h y (Qu _ hy)) d hd
def Zbh(b:Nat→Bool):Nat→List (List Int)
 | 0=>[]
 | m+1=>pr 0 (ZbH b m++[m+1])
theorem ZjF(b:Nat→Bool)(n:Nat):(Zbh b n).length≤n:=by
 cases n with
 | zero=>exact Qh _
 | succ m=>unfold Zbh;rw[ZmX,Qg];have:=ZjS b m;simp;exact this
theorem ZhY(b:Nat→Bool)(n:Nat):∀d∈Zbh b n,d.length≤n:=by
 cases n with
 | zero=>intro d h;cases h
 | succ m =>
  unfold Zbh
  refine ZiX _ _ _ fun x hx=>?_
  rcases Qf.mp hx with hx|hx
  ·have:=Zhf b m x hx;omega
  ·rw[Qd.mp hx];exact Qh _
theorem Zeo(b:Nat→Bool)(i:Nat)(h:i=0∨b i=true):Zbh b (i+1)=Zbh b i++[[(i:Int)]]:=by
 cases i with
 | zero=>rfl
 | succ m =>
  have hb:b (m+1)=true:=h.elim (fun z=>by omega) id
  show pr 0 (ZbH b (m+1)++[m+1+1])=pr 0 (ZbH b m++[m+1])++_
  rw[Zfk,if_pos hb,ZmO,show m+1+1-(m+1)=0+1 by omega,Zhd]
  rfl
theorem ZgS(b:Nat→Bool)(i:Nat)(h0:i≠0)(h:b i=false):∃ds d,Zbh b i=ds++[d]∧Zbh b (i+1)=ds++[d++[(i:Int)]]:=by
 cases i with
 | zero=>exact absurd rfl h0
 | succ m =>
  show ∃ds d,pr 0 (ZbH b m++[m+1])=_∧pr 0 (ZbH b (m+1)++[m+1+1])=_
  rw[Zfk,if_neg (by rw[h];exact QC),QR]
  exact ZkV 0 (ZbH b m) (m+1) (by omega) fun x hx=>by have:=Zhf b m x hx;omega
def Zp3(K:PySem.W.Frag):Sp:=fun vs H Q _=>∃ (a:Addr) (ss:List Str),vs=[.ref a]∧SqL K H a (ss.map V.str)∧ss.length≤100∧(∀s∈ss,s.length≤1000) ∧
 ∀ (r:Addr) (ls:List Addr) (H':Hp),H r=none→H' r=some (.lst (ls.map V.ref))→r ∉ ls→(∀l∈ls,H l=none)→Rd H' ls (Zbh (Zby ss) ss.length)→Zu H H'→Q (.ref r) H'
theorem ZhN(T:Zaf K mg cRow cMerge)(f_liken:Df P w K mg base 3 "liken" ["one", "other"] Zep):Df P w K mg base 4 "stretches" ["things"] (Zp3 K):=by
 refine T.t_stretches.df Zb5 (fun vs H Q E h=>?_) (fun cdv f A outer s H vs Q E hr h=>?_)
 ·obtain⟨a,ss,rfl,_⟩:=h
  rfl
 obtain⟨a,ss,rfl,hS,hn,hlen,q⟩:=h
 refine⟨_,#[Zf,#[Zz,1,Zb5.nd,(Or.inl rfl),#[Zbg,#[Zd]]],#[Zf,#[Zbo,PassesOwn.never,#[iE,K,T.b.n_enumerate,#[Za,‹0›,#[Zd]]],#[gT,K,2,#[Zs,#[Zw,2,Zb5.nd],#[Zs,#[Zw,3,Zb5.nd],(@Zal _)]]],#[Zj,#[ZZ,(@PW.pt _ _ _ #[ZdD,#[Zo,Zfi,‹2›,#[Zh],(Zt _)],(@Zc9 _ _ _ _ #[Zo,ZrZ,#[ZA,f_liken,hr,#[Za,#[Zx,(ixL K),‹0›,#[ZG,Zb0,‹2›,#[Zh]]],#[Za,‹3›,#[Zd]]],(by rfl)],#[Zh],(Zt _)])]),#[Zj,#[ZaI,#[Zc1,QF,QL,QM,Zas,#[Zx,(ixL K),‹1›,(@ZgR _ _ _ _ _ _ Ze0 #[Zh])],#[Za,‹2›,#[Zd]]]]],#[Zj,#[ZaI,#[Zc1,QF,QL,QM,Zas,‹1›,#[Za,#[Zbg,#[Za,‹2›,#[Zd]]],#[Zd]]]]]]]],#[Zj,#[Zn,‹1›]]]],?_⟩
 refine⟨(by show 0≤sizeLine;decide),fun r hr0=>?_⟩
 have s1:Zu H (upd H r (.lst [])):=Zi hr0 _
 refine⟨_,rfl,a,ss.map V.str,rfl,s1.seq hS,?_⟩
 refine Zge (K:=K) (a:=a) (xs:=ss.map V.str) (fun i σ H2=>∃ (v1 v2:Option V) (ls:List Addr),σ=[some (.ref a),some (.ref r),v1,v2]∧H2 r=some (.lst (ls.map V.ref))∧r ∉ ls∧ls.Nodup∧(∀l∈ls,H l=none)∧Rd H2 ls (Zbh (Zby ss) i)∧Zu H H2∧i≤ss.length)
  ⟨none,none,[],rfl,Zb,(fun h=>by cases h),List.nodup_nil,(fun l h=>by cases h),trivial,s1,Qv _⟩ (fun _ _ _ hq=>by obtain⟨_,_,_,_,_,_,_,_,_,s2,_⟩:=hq;exact s2.seq hS) ?_ ?_
 ·rintro i x σ H2 p hx ⟨v1,v2,ls,rfl,hr2,hrl,hnd,hfr,rd2,s2,hi⟩ hp
  rw[Qi]at hx
  cases hy:ss[i]? with
  | none=>rw[hy]at hx;cases hx
  | some y =>
   rw[hy]at hx
   cases hx
   have hil:i<ss.length:=(Qc.mp hy).1
   have s3:Zu H (upd H2 p (.tup [.int i,.str y])):=s2.trans (Zi hp _)
   have hr3:(upd H2 p (.tup [.int i,.str y])) r=some (.lst (ls.map V.ref)):=Zi hp _ _ _ hr2
   have rd3:Rd (upd H2 p (.tup [.int i,.str y])) ls (Zbh (Zby ss) i):=Rd.mono (fun l _ u hu=>Zi hp _ _ _ hu) rd2
   have hp3:(upd H2 p (.tup [.int i,.str y])) p=some (.tup [.int i,.str y]):=Zb
   generalize upd H2 p (.tup [.int i,.str y])=H3 at s3 hr3 rd3 hp3 ⊢
   have hll:ls.length≤i:=by rw[rd3.len];exact ZjF _ _
   have hlt:(ls.map V.ref).length<sizeLine:=by rw[Qa];exact ZI (by omega)
   have new:(i=0∨Zby ss i=true)→∀n,H3 n=none→∃ (v1 v2:Option V) (ls':List Addr),[some (V.ref a),some (V.ref r),some (V.int i),some (V.str y)]=[some (.ref a),some (.ref r),v1,v2]∧(upd (upd H3 n (.lst [.int i])) r (.lst (ls.map V.ref++[.ref n]))) r=some (.lst (ls'.map V.ref))∧r ∉ ls'∧ls'.Nodup∧(∀l∈ls',H l=none)∧Rd (upd (upd H3 n (.lst [.int i])) r (.lst (ls.map V.ref++[.ref n]))) ls' (Zbh (Zby ss) (i+1))∧Zu H (upd (upd H3 n (.lst [.int i])) r (.lst (ls.map V.ref++[.ref n])))∧i+1≤ss.length:=fun hb n hn0=>by
    have nrn:r≠n:=Zc hr3 hn0
    have hnl:n ∉ ls:=rd3.out hn0
    refine⟨_,_,ls++[n],rfl,by rw[Zb,Qe];rfl,fun h=>?_,?_,fun l h=>?_,?_,fun b o h=>?_,hil⟩
    ·rcases Qf.mp h with h|h
     ·exact hrl h
     ·exact nrn (Qd.mp h)
    ·rw[List.nodup_append]
     exact⟨hnd,by simp,fun x hx y hy e=>hnl (by rw[← Qd.mp hy,← e];exact hx)⟩
    ·rcases Qf.mp h with h|h
     ·exact hfr l h
     ·rw[Qd.mp h];exact s3.free hn0
    ·rw[Zeo _ _ hb]
     refine Rd.app (Rd.mono (fun l hl u hu=>?_) rd3) ⟨?_,trivial⟩
     ·rw[Ze (fun e:l=r=>hrl (e ▸ hl)),Ze (fun e:l=n=>hnl (e ▸ hl))];exact hu
     ·rw[Ze nrn.symm,Zb];rfl
    ·rw[Ze (Zc h hr0),Ze (Zc h (s3.free hn0))];exact s3 b o h
   refine⟨p,_,rfl,SqT.of hp3,rfl,_,_,rfl,_,_,rfl,rfl,?_⟩
   refine⟨_,rfl,_,_,rfl,rfl,_,rfl,ZaV (fun d1=>?_) (fun d1=>ZbF ?_)⟩
   ·have d1':(0:Int)<(i:Int):=of_decide_eq_true d1
    have hprev:i-1<ss.length:=by omega
    have ei:((i:Int)-1)=((i-1:Nat):Int):=by omega
    have hb:Zby ss i=decide (0<ZF (cds ss[i-1]) (cds y)):=by
     unfold Zby
     rw[Zkx hprev,Zkx hil,(Qc.mp hy).2]
    refine⟨_,rfl,_,rfl,_,_,rfl,rfl,xw4 a _ _ _ ⟨rfl,rfl,s3.seq hS,(by rw[ei];exact ZhT hprev),_,rfl,ss[i-1],y,rfl,hlen _ (QZ hprev),hlen _ (Qq hy),_,_,rfl,rfl,_,rfl,ZaV (fun d2=>?_) (fun d2=>?_)⟩⟩
    ·have d2':ZF (cds ss[i-1]) (cds y)≤0:=of_decide_eq_true d2
     have hbf:Zby ss i=false:=by rw[hb];exact decide_eq_false (by omega)
     obtain⟨ds,d,e1,e2⟩:=ZgS (Zby ss) i (by omega) hbf
     rw[e1]at rd3
     obtain⟨ms,l,rfl,rd4,hl⟩:=rd3.split
     have hdl:d.length≤i:=ZhY (Zby ss) i d (by rw[e1];simp)
     have nd2:=QW.mp hnd
     have hlms:l ∉ ms:=fun h=>nd2.2.2 l h l (by simp) rfl
     have nrl:r≠l:=fun e=>hrl (by rw[e];simp)
     refine⟨_,rfl,_,rfl,xw4 r _ _ _ ⟨rfl,rfl,SqL.of hr3,Zmr,(show L2.tyV K "list" (.ref l) H3 from .inl ⟨rfl,_,SqL.of hl⟩),_,rfl,l,_,_,rfl,rfl,hl,(by rw[Qa];exact ZI (by omega)),?_⟩⟩
     refine⟨_,_,ms++[l],rfl,by rw[Ze nrl];exact hr3,hrl,hnd,hfr,?_,fun b o h=>?_,hil⟩
     ·rw[e2]
      refine Rd.app (Rd.mono (fun l' hl' u hu=>?_) rd4) ⟨?_,trivial⟩
      ·rw[Ze (fun e:l'=l=>hlms (e ▸ hl'))];exact hu
      ·rw[Zb,Qe];rfl
     ·rw[Ze (Zc h (hfr l (by simp)))];exact s3 b o h
    ·have d2':¬ ZF (cds ss[i-1]) (cds y)≤0:=fun z=>d2 (decide_eq_true z)
     have hbt:Zby ss i=true:=by rw[hb];exact decide_eq_true (by omega)
     refine⟨_,rfl,.inl ⟨rfl,_,SqL.of hr3⟩,_,rfl,(by show 1≤sizeLine;decide),fun n hn0=>⟨r,_,_,rfl,rfl,Zi hn0 _ _ _ hr3,hlt,new (.inr hbt) n hn0⟩⟩
   ·have d1':¬ (0:Int)<(i:Int):=fun z=>d1 (decide_eq_true z)
    refine⟨_,rfl,.inl ⟨rfl,_,SqL.of hr3⟩,_,rfl,(by show 1≤sizeLine;decide),fun n hn0=>⟨r,_,_,rfl,rfl,Zi hn0 _ _ _ hr3,hlt,new (.inl (by omega)) n hn0⟩⟩
 ·rintro σ H2 ⟨v1,v2,ls,rfl,hr2,hrl,hnd,hfr,rd2,s2,hi⟩
  rw[Qa]at rd2
  exact⟨_,rfl,q r ls H2 hr0 hr2 hrl hfr rd2 s2⟩
theorem Zna{ss:List Str}{c:Nat}{gone:List Int}{done:List (List Int)}(h:gone≠[]):Res ss [] [] c gone done (done++[gone]):=by
 cases gone with
 | nil=>exact absurd rfl h
 | cons g r=>exact .stop
theorem Zeh(ss:List Str)(n:Int):Zd9 ss [n] n:=⟨by simp,fun m hm=>by rw[Qd.mp hm];exact Za7 _⟩
theorem Zn3(ss:List Str)(c:Nat)(h:1≤c):Zby ss c=true↔ltK ss (c:Int) ((c:Int)-1):=by
 unfold Zby ltK
 rw[show ((c:Int)-1).toNat=c-1 by omega,show ((c:Int)).toNat=c by omega,ZbI,decide_eq_true_iff]
 have:=Zax (cds (ss.getD (c-1) "")) (cds (ss.getD c ""))
 omega
theorem ZeT(ss:List Str):∀ (k c:Nat) (gone:List Int) (done:List (List Int)),c+k=ss.length→1≤c→done++[gone++[(c:Int)-1]]=Zbh (Zby ss) c→Res ss [(c:Int)-1] [] c gone done (Zbh (Zby ss) ss.length)
 | 0,c,gone,done,hk,h1,e=>by
  refine .stepN (Zeh ss _) (by omega) ?_
  rw[List.erase_cons_head,show ss.length=c by omega,← e]
  exact Zna (by simp)
 | k+1,c,gone,done,hk,h1,e=>by
  have ec:(((c+1:Nat):Int)-1)=(c:Int):=by omega
  by_cases hb:Zby ss c=true
  ·refine .stepB (Zeh ss _) (by omega) ((Zn3 ss c h1).mp hb) ?_
   rw[List.erase_cons_head]
   refine .switch ?_
   have:=ZeT ss k (c+1) [] (done++[gone++[(c:Int)-1]]) (by omega) (by omega) (by rw[e,ec,Zeo _ _ (.inr hb)];rfl)
   rw[ec]at this
   exact this
  ·refine .stepA (Zeh ss _) (by omega) (fun z=>hb ((Zn3 ss c h1).mpr z)) ?_
   rw[List.erase_cons_head]
   obtain⟨ds,d,e1,e2⟩:=ZgS (Zby ss) c (by omega) (by simpa using hb)
   rw[e1]at e
   obtain⟨rfl,e3⟩:=List.append_inj' e rfl
   injection e3 with e3 _
   have:=ZeT ss k (c+1) (gone++[(c:Int)-1]) done (by omega) (by omega) (by rw[ec,e2,e3])
   rw[ec]at this
   exact this
theorem ZgA(ss:List Str):Res ss (first (min 1 ss.length)) [] (min 1 ss.length) [] [] (Zbh (Zby ss) ss.length):=by
 by_cases h:ss.length=0
 ·rw[h];exact .stop0
 ·rw[show min 1 ss.length=1 by omega]
  have:=ZeT ss (ss.length-1) 1 [] [] (by omega) (by omega) (by rw[Zeo _ 0 (.inl rfl)];rfl)
  exact this
theorem ZgV{A:List Int}{n:Int}(h:n∈A):(A.erase n).length+1=A.length:=by
 have:=Q9 h
 have:=Q1 h
 omega
theorem Zpq{ss:List Str}{room:Nat}(hr:1≤room){A B:List Int}{c:Nat}{gone:List Int}{done R:List (List Int)}(h:Res ss A B c gone done R):(c<ss.length→A.length+B.length=room)→(∀m:Int,0≤m→m<c→(∃d∈done,m∈d)∨m∈gone∨m∈A∨m∈B)→∀m:Int,0≤m→m<ss.length→∃d∈R,m∈d:=by
 induction h with
 | stop0 =>
  intro f g m h0 hm
  rename_i c _
  by_cases hc:c<ss.length
  ·have:=f hc;simp at this;omega
  ·rcases g m h0 (by omega) with h|h|h|h
   ·exact h
   ·cases h
   ·cases h
   ·cases h
 | stop =>
  intro f g m h0 hm
  rename_i c _ _ _
  by_cases hc:c<ss.length
  ·have:=f hc;simp at this;omega
  ·rcases g m h0 (by omega) with⟨d,h,h'⟩|h|h|h
   ·exact⟨d,Qr _ h,h'⟩
   ·exact⟨_,Qn _ (Qd.mpr rfl),h⟩
   ·cases h
   ·cases h
 | switch _ ih =>
  intro f g
  refine ih (by simpa using f) fun m h0 hm=>?_
  rcases g m h0 hm with⟨d,h,h'⟩|h|h|h
  ·exact .inl ⟨d,Qr _ h,h'⟩
  ·exact .inl ⟨_,Qn _ (Qd.mpr rfl),h⟩
  ·cases h
  ·exact .inr (.inr (.inl h))
 | @stepN A B c gone done R n l hc _ ih =>
  intro f g
  refine ih (fun z=>absurd z hc) fun m h0 hm=>?_
  rcases g m h0 hm with h|h|h|h
  ·exact .inl h
  ·exact .inr (.inl (Qr _ h))
  ·by_cases e:m=n
   ·exact .inr (.inl (Qn _ (by rw[e];simp)))
   ·exact .inr (.inr (.inl ((Qax e).mpr h)))
  ·exact .inr (.inr (.inr h))
 | @stepA A B c gone done R n l hc _ _ ih =>
  intro f g
  have:=ZgV l.1
  have f':=f hc
  refine ih (fun _=>by rw[Qg,Qk];omega) fun m h0 hm=>?_
  by_cases e:m=(c:Int)
  ·exact .inr (.inr (.inl (Qn _ (by rw[e];simp))))
  rcases g m h0 (by omega) with h|h|h|h
  ·exact .inl h
  ·exact .inr (.inl (Qr _ h))
  ·by_cases e:m=n
   ·exact .inr (.inl (Qn _ (by rw[e];simp)))
   ·exact .inr (.inr (.inl (Qr _ ((Qax e).mpr h))))
  ·exact .inr (.inr (.inr h))
 | @stepB A B c gone done R n l hc _ _ ih =>
  intro f g
  have:=ZgV l.1
  have f':=f hc
  refine ih (fun _=>by rw[Qg,Qk];omega) fun m h0 hm=>?_
  by_cases e:m=(c:Int)
  ·exact .inr (.inr (.inr (Qn _ (by rw[e];simp))))
  rcases g m h0 (by omega) with h|h|h|h
  ·exact .inl h
  ·exact .inr (.inl (Qr _ h))
  ·by_cases e:m=n
   ·exact .inr (.inl (Qn _ (by rw[e];simp)))
   ·exact .inr (.inr (.inl ((Qax e).mpr h)))
  ·exact .inr (.inr (.inr (Qr _ h)))
theorem Zle{k:Nat}{m:Int}(h0:0≤m)(h:m<k):m∈first k:=by
 unfold first ZT
 exact Qt.mpr ⟨m.toNat,QX.mpr (by omega),by omega⟩
theorem Zl7{ss:List Str}{room:Nat}(hr:1≤room){R:List (List Int)}(h:Res ss (first (min room ss.length)) [] (min room ss.length) [] [] R):∀m:Int,0≤m→m<ss.length→∃d∈R,m∈d :=
 Zpq hr h (fun z=>by rw[Zcb];simp;omega) fun m h0 hm=>.inr (.inr (.inl (Zle h0 hm)))
theorem Zmc{ss:List Str}{a n x:Int}(h:ltK ss a n)(g:¬ ltK ss x n):ltK ss a x:=by
 unfold ltK at *
 rw[ZbI]at *
 have h1:=Zax (cds (ss.getD x.toNat "")) (cds (ss.getD n.toNat ""))
 have h2:=Zax (cds (ss.getD a.toNat "")) (cds (ss.getD x.toNat ""))
 have h4:=Zax (cds (ss.getD a.toNat "")) (cds (ss.getD n.toNat ""))
 have h3:=ZbJ (cds (ss.getD n.toNat "")) (cds (ss.getD x.toNat "")) (cds (ss.getD a.toNat "")) (by omega)
 omega
theorem ZnJ{ss:List Str}{A:List Int}{n x:Int}(h:Zd9 ss A n)(hx:x∈A):¬ ltK ss x n:=fun z=>by
 have:=h.2 x hx
 unfold kk at this
 rw[Z9]at this
 by_cases e:(Sum.inr (ks ss x).1:Key)=Sum.inr (ks ss n).1
 ·have e':ss.getD x.toNat "" = ss.getD n.toNat "":=Sum.inr.inj e
  unfold ltK at z
  rw[e',ZbI,ZcO]at z
  omega
 ·rw[if_neg e]at this
  exact of_decide_eq_false this z
theorem Zj2{ss:List Str}{a b:Int}(h:ltK ss a b):ss.getD a.toNat ""≠ss.getD b.toNat "":=fun e=>by
 unfold ltK at h
 rw[e,ZbI,ZcO]at h
 omega
def Ziv(ss:List Str)(d e:List Int):Prop:=∀b∈d,∀a∈e,a<b→ss.getD a.toNat ""≠ss.getD b.toNat ""
theorem ZmS{ss:List Str}{A B:List Int}{c:Nat}{gone:List Int}{done R:List (List Int)}(h:Res ss A B c gone done R):(∀n∈A++B,n<(c:Int))→(∀n∈gone,n<(c:Int))→(∀d∈done,∀n∈d,n<(c:Int))→(∀a∈B,∀x∈A,ltK ss a x)→Ziv ss gone B→(∀d∈done,Ziv ss d (gone++A++B))→done.Pairwise (Ziv ss)→R.Pairwise (Ziv ss):=by
 induction h with
 | stop0=>intro _ _ _ _ _ _ h;exact h
 | stop =>
  intro _ _ _ _ _ j2 j1
  refine Qay.mpr ⟨j1,QY _ _,fun d hd e he=>?_⟩
  rw[Qd.mp he]
  have:=j2 d hd
  simpa using this
 | switch _ ih =>
  intro m1 m2 m3 j4 j3 j2 j1
  refine ih (by simpa using m1) (fun n h=>by cases h) (fun d hd=>?_) (fun a h=>by cases h) (fun b h=>by cases h) (fun d hd=>?_) (Qay.mpr ⟨j1,QY _ _,fun d hd e he=>?_⟩)
  ·rcases Qf.mp hd with hd|hd
   ·exact m3 d hd
   ·rw[Qd.mp hd];exact m2
  ·rcases Qf.mp hd with hd|hd
   ·intro b hb a ha
    exact j2 d hd b hb a (by simp at ha ⊢;exact .inr ha)
   ·rw[Qd.mp hd]
    intro b hb a ha
    exact j3 b hb a (by simpa using ha)
  ·rw[Qd.mp he]
   intro b hb a ha
   exact j2 d hd b hb a (by simp;exact .inl ha)
 | @stepN A B c gone done R n l hc _ ih =>
  intro m1 m2 m3 j4 j3 j2 j1
  refine ih (fun x hx=>m1 x ?_) (fun x hx=>?_) m3 (fun a ha x hx=>j4 a ha x (Qy hx)) (fun b hb a ha hlt=>?_) (fun d hd b hb a ha=>j2 d hd b hb a ?_) j1
  ·rcases Qf.mp hx with h|h
   ·exact Qr _ (Qy h)
   ·exact Qn _ h
  ·rcases Qf.mp hx with h|h
   ·exact m2 x h
   ·rw[Qd.mp h];exact m1 n (Qr _ l.1)
  ·rcases Qf.mp hb with h|h
   ·exact j3 b h a ha hlt
   ·rw[Qd.mp h];exact Zj2 (j4 a ha n l.1)
  ·simp only[List.mem_append,List.mem_singleton]at ha ⊢
   rcases ha with((h|h)|h)|h
   ·exact .inl (.inl h)
   ·exact .inl (.inr (h ▸ l.1))
   ·exact .inl (.inr (Qy h))
   ·exact .inr h
 | @stepA A B c gone done R n l hc hk _ ih =>
  intro m1 m2 m3 j4 j3 j2 j1
  have mA:∀x∈A,x<(c:Int):=fun x h=>m1 x (Qr _ h)
  have mB:∀x∈B,x<(c:Int):=fun x h=>m1 x (Qn _ h)
  refine ih (fun x hx=>?_) (fun x hx=>?_) (fun d hd x hx=>by have:=m3 d hd x hx;omega) (fun a ha x hx=>?_) (fun b hb a ha hlt=>?_) (fun d hd b hb a ha hlt=>?_) j1
  ·simp only[List.mem_append,List.mem_singleton]at hx
   rcases hx with(h|h)|h
   ·have:=mA x (Qy h);omega
   ·omega
   ·have:=mB x h;omega
  ·rcases Qf.mp hx with h|h
   ·have:=m2 x h;omega
   ·rw[Qd.mp h];have:=mA n l.1;omega
  ·rcases Qf.mp hx with h|h
   ·exact j4 a ha x (Qy h)
   ·rw[Qd.mp h];exact Zmc (j4 a ha n l.1) hk
  ·rcases Qf.mp hb with h|h
   ·exact j3 b h a ha hlt
   ·rw[Qd.mp h];exact Zj2 (j4 a ha n l.1)
  ·have hbc:=m3 d hd b hb
   have hac:a≠(c:Int):=fun z=>by omega
   refine j2 d hd b hb a ?_ hlt
   simp only[List.mem_append,List.mem_singleton]at ha ⊢
   rcases ha with((h|h)|h|h)|h
   ·exact .inl (.inl h)
   ·exact .inl (.inr (h ▸ l.1))
   ·exact .inl (.inr (Qy h))
   ·exact absurd h hac
   ·exact .inr h
 | @stepB A B c gone done R n l hc hk _ ih =>
  intro m1 m2 m3 j4 j3 j2 j1
  have mA:∀x∈A,x<(c:Int):=fun x h=>m1 x (Qr _ h)
  have mB:∀x∈B,x<(c:Int):=fun x h=>m1 x (Qn _ h)
  refine ih (fun x hx=>?_) (fun x hx=>?_) (fun d hd x hx=>by have:=m3 d hd x hx;omega) (fun a ha x hx=>?_) (fun b hb a ha hlt=>?_) (fun d hd b hb a ha hlt=>?_) j1
  ·simp only[List.mem_append,List.mem_singleton]at hx
   rcases hx with h|h|h
   ·have:=mA x (Qy h);omega
   ·have:=mB x h;omega
   ·omega
  ·rcases Qf.mp hx with h|h
   ·have:=m2 x h;omega
   ·rw[Qd.mp h];have:=mA n l.1;omega
  ·rcases Qf.mp ha with h|h
   ·exact j4 a h x (Qy hx)
   ·rw[Qd.mp h];exact Zmc hk (ZnJ l (Qy hx))
  ·have hbc:b<(c:Int):=by
    rcases Qf.mp hb with h|h
    ·exact m2 b h
    ·rw[Qd.mp h];exact mA n l.1
   rcases Qf.mp ha with ha|ha
   ·rcases Qf.mp hb with h|h
    ·exact j3 b h a ha hlt
    ·rw[Qd.mp h];exact Zj2 (j4 a ha n l.1)
   ·have:=Qd.mp ha;omega
  ·have hbc:=m3 d hd b hb
   have hac:a≠(c:Int):=fun z=>by omega
   refine j2 d hd b hb a ?_ hlt
   simp only[List.mem_append,List.mem_singleton]at ha ⊢
   rcases ha with((h|h)|h)|h|h
   ·exact .inl (.inl h)
   ·exact .inl (.inr (h ▸ l.1))
   ·exact .inl (.inr (Qy h))
   ·exact .inr h
   ·exact absurd h hac
theorem ZlD{ss:List Str}{k:Nat}{R:List (List Int)}(h:Res ss (first k) [] k [] [] R):R.Pairwise (Ziv ss) :=
 ZmS h (by rw[QR];exact fun n hn=>(Zd2 hn).2) (fun n h=>by cases h) (fun d h=>by cases h) (fun a h=>by cases h) (fun b h=>by cases h) (fun d h=>by cases h) List.Pairwise.nil
def ZkP(K:PySem.W.Frag):Sp:=fun vs H Q _=>∃ (a t:Addr) (ss:List Str) (ns:List Int),vs=[.ref a,.ref t]∧SqL K H a (ss.map V.str)∧H t=some (.lst (ns.map V.int))∧ns.length≤100∧(∀n∈ns,0≤n∧n<ss.length) ∧
 (ns≠[]∧Ris ss ns→∀H',Zu H H'→Q (.bl true) H')∧(¬ (ns≠[]∧Ris ss ns)→∀H',Zu H H'→Q (.bl false) H')
theorem Zl1(T:Zaf K mg cRow cMerge)(f_is_number:Df P w K mg base 1 "is_number" ["thing"] Zkc):Df P w K mg base 2 "is_run" ["things", "thing"] (ZkP K):=by
 refine T.t_is_run.df ZeS (fun vs H Q E h=>?_) (fun cdv f A outer s H vs Q E hr h=>?_)
 ·obtain⟨a,t,ss,ns,rfl,_⟩:=h
  rfl
 obtain⟨a,t,ss,ns,rfl,hS,ht,h100,hmem,q1,q2⟩:=h
 refine⟨_,#[Zf,#[ZZ,(@PW.pt _ _ _ #[Zhj,(@Zj5 _ _ _ _ #[ZfT,#[Zk,(Zou K),(by rfl),T.b.n_isinstance,boot_isinstance,#[Za,‹1›,#[Za,#[ZkA,T.b.n_list,boot_list],#[Zd]]]]]),(@ZfP _ _ _ _ #[Zo,Za4,#[Zk,(Zbf K),(by rfl),T.b.n_len,Qs,#[Za,‹1›,#[Zd]]],#[Zh],(Zt _)])]),#[Zj,#[Zn,#[ZdB]]],#[ZB]],#[Zf,#[Zbo,PassesOwn.never,#[iL,K,‹1›],#[Zw,2,ZeS.nd],#[Zj,#[ZZ,(@PW.pt _ _ _ #[Zhj,(@Zj5 _ _ _ _ #[ZfT,#[ZA,f_is_number,hr,#[Za,‹2›,#[Zd]],(by rfl)]]),#[Zhj,#[Zo,Zcw,‹2›,#[Zh],(Zt _)],(@ZfP _ _ _ _ #[Zo,Zmu,‹2›,#[Zk,(Zbf K),(by rfl),T.b.n_len,Qs,#[Za,‹0›,#[Zd]]],(Zt _)])]]),#[Zj,#[Zn,#[ZdB]]],#[ZB]]]],#[Zf,#[Zbo,PassesOwn.never,#[ZcL,T.b.n_range,#[Za,#[Zh],#[Za,#[Zk,(Zbf K),(by rfl),T.b.n_len,Qs,#[Za,‹1›,#[Zd]]],#[Zd]]]],#[Zw,3,ZeS.nd],#[Zj,#[ZZ,#[Zo,(geK K hr),#[ZN,#[Za,#[Zx,(ixL K),‹0›,#[Zx,(ixL K),‹1›,#[ZG,Zb0,‹3›,#[Zh]]]],#[Za,#[Zx,(ixL K),‹1›,#[ZG,Zb0,‹3›,#[Zh]]],#[Zd]]]],#[ZN,#[Za,#[Zx,(ixL K),‹0›,#[Zx,(ixL K),‹1›,‹3›]],#[Za,#[Zx,(ixL K),‹1›,‹3›],#[Zd]]]],(Zt _)],#[Zj,#[Zn,#[ZdB]]],#[ZB]]]],#[Zj,#[Zn,#[ZdB]]]]]],?_⟩
 have hl:(((ns.map V.int).length:Nat):Int)=(ns.length:Int):=by rw[Qa]
 refine⟨_,rfl,_, "list",_,_,rfl,.lst ht,Zhk K,_,rfl,ZbF ⟨_,rfl,t,_,rfl,.inl (SqL.of ht),rfl,_,rfl,?_⟩⟩
 refine ZaV (fun d=>?_) (fun d=>?_)
 ·have d':=V.int.inj (of_decide_eq_true d)
  have h0:ns=[]:=QO (by omega)
  exact q2 (fun z=>z.1 h0) H (Zu.refl H)
 have hne:ns≠[]:=fun z=>d (by rw[z];rfl)
 refine⟨_,rfl,t,rfl,⟨_,SqL.of ht⟩,?_⟩
 refine Zf4 (K:=K) (a:=t) (xs:=ns.map V.int) (fun i σ H2=>∃v2:Option V,σ=[some (.ref a),some (.ref t),v2,none]∧H2=H) ⟨_,rfl,rfl⟩ (fun _ _ _ _ hq=>by obtain⟨_,_,e⟩:=hq;exact by rw[e];exact SqL.of ht) ?_ ?_
 ·rintro i x σ H2 hx ⟨v2,rfl,rfl⟩
  rw[Qi]at hx
  cases hz:ns[i]? with
  | none=>rw[hz]at hx;cases hx
  | some n =>
   rw[hz]at hx
   cases hx
   have hn:=hmem n (Qq hz)
   refine⟨_,rfl,.inl ⟨n,rfl,_,rfl,ZbF ⟨_,rfl,_,_,rfl,rfl,_,rfl,Zdj (by omega) ⟨_,rfl,_,rfl,a,_,rfl,.inl hS,_,_,rfl,rfl,_,rfl,Zdj (by rw[Qa];omega) ⟨_,rfl,rfl⟩⟩⟩⟩⟩
 rintro σ H2 ⟨v2,rfl,rfl⟩
 have hpos:0<ns.length:=QaE.mpr hne
 refine⟨_,rfl,t,_,rfl,.inl (SqL.of ht),_,_,rfl,⟨by omega,by omega,by rw[hl];omega,by rw[hl];omega⟩,?_⟩
 refine Zbt (fun i σ H3=>∃v2 v3:Option V,σ=[some (.ref a),some (.ref t),v2,v3]∧Zu H2 H3∧∀ (p:Nat) (x y:Int),p<i→ns[p]? = some x→ns[p+1]? = some y→ZM (kk (ks ss x)) (kk (ks ss y))=true) ⟨_,_,rfl,Zu.refl _,fun p x y h=>absurd h (by omega)⟩ ?_ ?_
 ·rintro i σ H3 hi ⟨v2,v3,rfl,s3,hris⟩
  rw[hl]at hi
  have hi1:i+1<ns.length:=by omega
  obtain⟨x,hx⟩:∃x,ns[i]? = some x:=⟨_,Qb (by omega)⟩
  obtain⟨y,hy⟩:∃y,ns[i+1]? = some y:=⟨_,Qb hi1⟩
  have hx':atI (ns.map V.int) (1+(i:Int)-1)=some (.int x):=by rw[show (1+(i:Int)-1)=((i:Nat):Int) by omega];exact Z3 (by rw[Qi,hx];rfl)
  have hy':atI (ns.map V.int) (1+(i:Int))=some (.int y):=by rw[show (1+(i:Int))=((i+1:Nat):Int) by omega];exact Z3 (by rw[Qi,hy];rfl)
  have mx:=hmem x (Qq hx)
  have my:=hmem y (Qq hy)
  have kx:=ZfG (ss:=ss) mx.1 mx.2
  have ky:=ZfG (ss:=ss) my.1 my.2
  have ht3:=s3 _ _ ht
  have hS3:=s3.seq hS
  refine⟨_,rfl,_,rfl,_,rfl,_,_,rfl,rfl,xw4 t _ _ _ ⟨rfl,rfl,SqL.of ht3,hx',xw4 a _ _ _ ⟨rfl,rfl,hS3,kx,_,rfl,_,rfl,_,_,rfl,rfl,xw4 t _ _ _ ⟨rfl,rfl,SqL.of ht3,hx',(by show 2≤sizeLine;decide),fun n1 h1=>?_⟩⟩⟩⟩
  have s4:=Zi h1 (.tup [.str (ss.getD x.toNat ""),.int x])
  have ht4:=s4 _ _ ht3
  have hS4:=s4.seq hS3
  have e4:(upd H3 n1 (.tup [.str (ss.getD x.toNat ""),.int x])) n1=some (.tup [.str (ss.getD x.toNat ""),.int x]):=Zb
  have s24:=s3.trans s4
  generalize upd H3 n1 (.tup [.str (ss.getD x.toNat ""),.int x])=H4 at ht4 hS4 e4 s24 ⊢
  refine⟨_,rfl,_,rfl,_,rfl,xw4 t _ _ _ ⟨rfl,rfl,SqL.of ht4,hy',xw4 a _ _ _ ⟨rfl,rfl,hS4,ky,_,rfl,_,rfl,xw4 t _ _ _ ⟨rfl,rfl,SqL.of ht4,hy',(by show 2≤sizeLine;decide),fun n2 h2=>?_⟩⟩⟩⟩
  have s5:=Zi h2 (.tup [.str (ss.getD y.toNat ""),.int y])
  have e5:(upd H4 n2 (.tup [.str (ss.getD y.toNat ""),.int y])) n2=some (.tup [.str (ss.getD y.toNat ""),.int y]):=Zb
  refine⟨n1,n2,kk (ks ss x),kk (ks ss y),rfl,rfl,SqT.of (s5 _ _ e4),SqT.of e5,rfl,_,rfl,?_⟩
  have s25:=s24.trans s5
  cases hb:ZM (kk (ks ss x)) (kk (ks ss y)) with
  | true =>
   refine ZbF ⟨_,_,rfl,s25,fun p x' y' hp hx2 hy2=>?_⟩
   by_cases e:p=i
   ·subst e
    rw[hx]at hx2
    rw[hy]at hy2
    cases hx2
    cases hy2
    exact hb
   ·exact hris p x' y' (by omega) hx2 hy2
  | false =>
   refine ZhD (q2 (fun z=>?_) _ s25)
   have:=z.2 i x y hx hy
   rw[hb]at this
   cases this
 ·rintro σ H3 ⟨v2,v3,rfl,s3,hris⟩
  refine q1 ⟨hne,fun p x y hx hy=>hris p x y ?_ hx hy⟩ _ s3
  have:=(Qc.mp hy).1
  omega
mutual
theorem Zks(w:Nat):∀t:PT,tPl w t→1≤(tLv t).length
 | .leaf k,_=>Qh 1
 | .node l,h=>by
  have h1:2≤l.length:=h.1
  have:=Zdw w l h.2.2
  show 1≤(ZaY l).length
  omega
theorem Zdw(w:Nat):∀l:List PT,Zdp w l→l.length≤(ZaY l).length
 | [],_=>Qh 0
 | t::r,h=>by
  have h1:=Zks w t h.1
  have h2:=Zdw w r h.2
  show r.length+1≤(tLv t++ZaY r).length
  rw[Qg]
  omega
end
def ZcE(b e:Nat):List Int:=(List.range (e-b)).map fun i=>((b+i:Nat):Int)
theorem Zco(b e:Nat):(ZcE b e).length=e-b:=by unfold ZcE;simp
theorem Zez{b e i:Nat}(h:i<e-b):(ZcE b e)[i]? = some ((b+i:Nat):Int):=by
 unfold ZcE
 rw[Qi,Qai h]
 rfl
theorem Zht{b e k:Nat}(h:b+k≤e):(ZcE b e).take k=ZcE b (b+k):=by
 refine Qaf fun i=>?_
 rw[List.getElem?_take]
 by_cases hi:i<k
 ·rw[if_pos hi,Zez (by omega),Zez (by omega)]
 ·rw[if_neg hi,QE (by rw[Zco];omega)]
theorem ZgW{b e k:Nat}(h:b+k≤e):(ZcE b e).drop k=ZcE (b+k) e:=by
 refine Qaf fun i=>?_
 rw[List.getElem?_drop]
 by_cases hi:k+i<e-b
 ·rw[Zez hi,Zez (by omega),Nat.add_assoc]
 ·rw[QE (by rw[Zco];omega),QE (by rw[Zco];omega)]
theorem ZmR{b m e:Nat}(h1:b≤m)(h2:m≤e):ZcE b m++ZcE m e=ZcE b e:=by
 have a:=Zht (b:=b) (e:=e) (k:=m-b) (by omega)
 have c:=ZgW (b:=b) (e:=e) (k:=m-b) (by omega)
 rw[show b+(m-b)=m by omega]at a c
 rw[← a,← c,List.take_append_drop]
def Nf(w b e:Nat)(ts:List PT):Prop:=ZaY ts=ZcE b e∧Zdp w ts
theorem Nf.cut{w b e:Nat}{t:PT}{r:List PT}(h:Nf w b e (t::r))(hr:1≤r.length):∃mid,b<mid∧mid<e∧Nf w b mid [t]∧Nf w mid e r:=by
 obtain⟨h1,h2,h3⟩:=h
 have p1:=Zks w t h2
 have p2:=Zdw w r h3
 have hl:(tLv t).length+(ZaY r).length=e-b:=by
  have:=congrArg List.length h1
  rw[Zco]at this
  rw[← this]
  show _=(tLv t++ZaY r).length
  rw[Qg]
 have e1:tLv t++ZaY r=ZcE b e:=h1
 refine⟨b+(tLv t).length,by omega,by omega,⟨?_,h2,trivial⟩,⟨?_,h3⟩⟩
 ·rw[← Zht (b:=b) (e:=e) (by omega),← e1,List.take_left]
  show tLv t++[]=_
  rw[QR]
 ·rw[← ZgW (b:=b) (e:=e) (by omega),← e1,List.drop_left]
theorem Nf.app{w b m e:Nat}{a c:List PT}(h1:Nf w b m a)(h2:Nf w m e c)(hb:b≤m)(he:m≤e):Nf w b e (a++c):=by
 refine⟨?_,(ZiJ w a c).mpr ⟨h1.2,h2.2⟩⟩
 rw[Zih,h1.1,h2.1,ZmR hb he]
theorem Nf.len{w b e:Nat}{ts:List PT}(h:Nf w b e ts):ts.length≤e-b:=by
 have:=Zdw w ts h.2
 rw[h.1,Zco]at this
 exact this
mutual
theorem Zq8(ns:List Int):∀t:PT,tSz ns t=((tLv t).map fun k=>ns.getD k.toNat 0).sum
 | .leaf k=>by show _=([ns.getD k.toNat 0]:List Int).sum;simp[tSz]
 | .node l=>ZhI ns l
theorem ZhI(ns:List Int):∀l:List PT,Zfn ns l=((ZaY l).map fun k=>ns.getD k.toNat 0).sum
 | []=>rfl
 | t::r=>by show tSz ns t+Zfn ns r=((tLv t++ZaY r).map _).sum;rw[Qe,Qal,Zq8 ns t,ZhI ns r]
end
def seg(ns:List Int)(b e:Nat):Int:=((ns.drop b).take (e-b)).sum
theorem ZqW{ns:List Int}{b e:Nat}(h:e≤ns.length):((ZcE b e).map fun k=>ns.getD k.toNat 0).sum=seg ns b e:=by
 unfold seg
 congr 1
 refine Qaf fun i=>?_
 rw[Qi,List.getElem?_take,List.getElem?_drop]
 by_cases hi:i<e-b
 ·rw[if_pos hi,Zez hi,Qb (by omega),Option.map_some,Qad,Ql,Qb (by omega)]
  rfl
 ·rw[if_neg hi,QE (by rw[Zco];omega)]
  rfl
theorem Nf.size{ns:List Int}{w b e:Nat}{ts:List PT}(h:Nf w b e ts)(he:e≤ns.length):Zfn ns ts=seg ns b e:=by
 rw[ZhI,h.1,ZqW he]
mutual
theorem ZqF{ns:List Int}(hn:∀v∈ns,0≤v):∀t:PT,0≤tSz ns t
 | .leaf k=>by
  show 0≤ns.getD k.toNat 0
  rw[Ql]
  cases h:ns[k.toNat]? with
  | none=>exact QaJ 0
  | some v=>exact hn v (Qq h)
 | .node l=>Zhx hn l
theorem Zhx{ns:List Int}(hn:∀v∈ns,0≤v):∀l:List PT,0≤Zfn ns l
 | []=>QaJ 0
 | t::r=>by
  have h1:=ZqF hn t
  have h2:=Zhx hn r
  show 0≤tSz ns t+Zfn ns r
  omega
end
mutual
theorem Zrp{ns:List Int}(hn:∀v∈ns,0≤v):∀t:PT,0≤tCo ns t
 | .leaf k=>QaJ 0
 | .node l=>by
  have h1:=Zh6 hn l
  have h2:=Zhx hn l
  show 0≤Zb9 ns l+Zfn ns l
  omega
theorem Zh6{ns:List Int}(hn:∀v∈ns,0≤v):∀l:List PT,0≤Zb9 ns l
 | []=>QaJ 0
 | t::r=>by
  have h1:=Zrp hn t
  have h2:=Zh6 hn r
  show 0≤tCo ns t+Zb9 ns r
  omega
end
structure Gr (ns:List Int) (w b e m:Nat) (p:Int) (ts:List PT):Prop where
 l1:1≤ts.length
 lm:ts.length≤m
 nf:Nf w b e ts
 co:Zb9 ns ts=p
 le:∀us,1≤us.length→us.length≤m→Nf w b e us→p≤Zb9 ns us
structure Gc (ns:List Int) (w b e m:Nat) (p:Int) (ts:List PT):Prop where
 l1:2≤ts.length
 lm:ts.length≤m
 nf:Nf w b e ts
 co:Zb9 ns ts=p
 le:∀us,2≤us.length→us.length≤m→Nf w b e us→p≤Zb9 ns us
theorem ZoA{ns:List Int}(hn:∀v∈ns,0≤v)(w b m:Nat)(h:1≤m):Gr ns w b (b+1) m 0 [.leaf (b:Int)]:=by
 refine⟨Qh 1,h,⟨?_,trivial,trivial⟩,rfl,fun us _ _ _=>Zh6 hn us⟩
 show [(b:Int)]=ZcE b (b+1)
 unfold ZcE
 rw[show b+1-b=1 by omega]
 rfl
theorem Zrf{ns:List Int}{w b e m mid:Nat}{p1 p2:Int}{t1 t2:List PT}(hm:2≤m)(hb:b<mid)(he:mid<e)(g1:Gr ns w b mid 1 p1 t1)(g2:Gr ns w mid e (m-1) p2 t2)
  (hle:∀k q1 q2 u1 u2,b<k→k<e→Gr ns w b k 1 q1 u1→Gr ns w k e (m-1) q2 u2→p1+p2≤q1+q2) (hex:∀k,b<k→k<e→∃q1 q2 u1 u2,Gr ns w b k 1 q1 u1∧Gr ns w k e (m-1) q2 u2):Gc ns w b e m (p1+p2) (t1++t2):=by
 have a1:=g1.l1
 have a2:=g1.lm
 have a3:=g2.l1
 have a4:=g2.lm
 refine⟨by rw[Qg];omega,by rw[Qg];omega,g1.nf.app g2.nf (by omega) (by omega),by rw[Zit,g1.co,g2.co],fun us h2 hl hu=>?_⟩
 cases us with
 | nil=>simp at h2
 | cons t r =>
  simp only[List.length_cons]at h2 hl
  obtain⟨k,k1,k2,n1,n2⟩:=hu.cut (by omega)
  obtain⟨q1,q2,u1,u2,f1,f2⟩:=hex k k1 k2
  have c1:=f1.le [t] (by simp) (by simp) n1
  have c2:=f2.le r (by omega) (by omega) n2
  have c3:=hle k q1 q2 u1 u2 k1 k2 f1 f2
  have e1:Zb9 ns [t]=tCo ns t:=by show tCo ns t+0=_;omega
  show _≤tCo ns t+Zb9 ns r
  omega
theorem Zpr{ns:List Int}{w b e:Nat}{p:Int}{ts:List PT}(h:Gc ns w b e w p ts)(hbe:b+1<e)(he:e≤ns.length):Gr ns w b e 1 (p+seg ns b e) [.node ts]:=by
 have a1:=h.l1
 have a2:=h.lm
 refine⟨Qh 1,Qh 1,⟨?_,⟨a1,a2,h.nf.2⟩,trivial⟩,?_,fun us h1 h2 hu=>?_⟩
 ·show ZaY ts++[]=_
  rw[QR,h.nf.1]
 ·show Zb9 ns ts+Zfn ns ts+0=_
  rw[h.co,h.nf.size he]
  omega
 ·cases us with
  | nil=>simp at h1
  | cons t r =>
   have:r=[]:=by simpa using h2
   subst this
   cases t with
   | leaf k =>
    have:=congrArg List.length hu.1
    rw[Zco]at this
    have:1=e-b:=this
    omega
   | node l =>
    have hp:2≤l.length∧l.length≤w∧Zdp w l:=hu.2.1
    have hv:ZaY l=ZcE b e:=by
     have h9:ZaY l++[]=ZcE b e:=hu.1
     rw[QR]at h9
     exact h9
    have hl:Nf w b e l:=⟨hv,hp.2.2⟩
    have:=h.le l hp.1 hp.2.1 hl
    show _≤Zb9 ns l+Zfn ns l+0
    rw[hl.size he]
    omega
theorem ZoZ{ns:List Int}{w b e m:Nat}{p q:Int}{ts us:List PT}(hm:1≤m)(h:Gr ns w b e 1 p ts)(g:Gc ns w b e m q us):(q<p→Gr ns w b e m q us)∧(¬ q<p→Gr ns w b e m p ts):=by
 have a1:=h.l1
 have a2:=h.lm
 have a3:=g.l1
 have both:∀vs,1≤vs.length→vs.length≤m→Nf w b e vs→(vs.length=1∧p≤Zb9 ns vs)∨q≤Zb9 ns vs:=fun vs v1 v2 hv=>by
  by_cases h1:vs.length=1
  ·exact .inl ⟨h1,h.le vs (by omega) (by omega) hv⟩
  ·exact .inr (g.le vs (by omega) v2 hv)
 refine⟨fun hl=>⟨by omega,g.lm,g.nf,g.co,fun vs v1 v2 hv=>?_⟩,fun hl=>⟨h.l1,by omega,h.nf,h.co,fun vs v1 v2 hv=>?_⟩⟩
 ·rcases both vs v1 v2 hv with⟨_,z⟩|z<;>omega
 ·rcases both vs v1 v2 hv with⟨_,z⟩|z<;>omega
theorem ZqX{ns:List Int}{w b m:Nat}{p:Int}{ts:List PT}(h:Gr ns w b (b+1) 1 p ts)(hm:1≤m):Gr ns w b (b+1) m p ts:=by
 have a1:=h.l1
 have a2:=h.lm
 refine⟨h.l1,by omega,h.nf,h.co,fun us u1 u2 hu=>h.le us u1 ?_ hu⟩
 have:=hu.len
 omega
theorem ZdK{ns:List Int}{w b e:Nat}{p q:Int}{ts us:List PT}{m:Nat}(h:Gr ns w b e m p ts)(g:Gr ns w b e m q us):p=q:=by
 have a:=h.le us g.l1 g.lm g.nf
 have c:=g.le ts h.l1 h.lm h.nf
 rw[g.co]at a
 rw[h.co]at c
 omega
theorem Zn5(ts:Zcl):(Zad ts).length=ts.length:=by unfold Zad;rw[Qa]
theorem Zpf{x y:Int}{r s:List Key}(h:ZM (.inl x::r) (.inl y::s)=false):y≤x:=by
 rw[Z9]at h
 by_cases e:(Sum.inl x:Key)=.inl y
 ·injection e with e;omega
 ·rw[if_neg e]at h
  have:¬ x<y:=of_decide_eq_false h
  omega
def Kb(b e m:Nat):List Key:=[.inl (b:Int),.inl (e:Int),.inl (m:Int)]
theorem Zrv{b e m b' e' m':Nat}(h:Kb b e m=Kb b' e' m'):b=b'∧e=e'∧m=m':=by
 unfold Kb at h
 injection h with h1 h2
 injection h2 with h2 h3
 injection h3 with h3 _
 injection h1 with h1
 injection h2 with h2
 injection h3 with h3
 omega
def Zgr(H:Hp)(v:V)(p:Int)(ts:List PT):Prop:=∃ (a t:Addr) (xs:List V),v=.ref a∧H a=some (.tup [.int p,.ref t])∧H t=some (.tup xs)∧TVs H xs ts
theorem Zgr.mono{H H':Hp}{v:V}{p:Int}{ts:List PT}(h:Zgr H v p ts)(s:∀a xs,H a=some (.tup xs)→H' a=some (.tup xs)):Zgr H' v p ts:=by
 obtain⟨a,t,xs,e,h1,h2,h3⟩:=h
 exact⟨a,t,xs,e,s _ _ h1,s _ _ h2,h3.mono s⟩
def Has(ns:List Int)(w:Nat)(H:Hp)(kvs:List (List Key×V))(b e:Nat):Prop:=∀m,1≤m→m<w→∃v p ts,Zbs kvs (Kb b e m)=some v∧Zgr H v p ts∧Gr ns w b e m p ts
theorem Has.mono{ns:List Int}{w:Nat}{H H':Hp}{kvs:List (List Key×V)}{b e:Nat}(h:Has ns w H kvs b e)(s:∀a xs,H a=some (.tup xs)→H' a=some (.tup xs)):Has ns w H' kvs b e:=fun m h1 h2=>by
 obtain⟨v,p,ts,a,c,g⟩:=h m h1 h2
 exact⟨v,p,ts,a,c.mono s,g⟩
def Zmt(ns:List Int)(wy:Nat):Sp:=fun vs H Q _=>∃ (d:Addr) (kvs:List (List Key×V)) (b e m:Nat),vs=[.ref d,.int b,.int e,.int m]∧H d=some (.dT kvs)∧b+1<e∧e≤60∧2≤m∧m≤wy∧(∀k,b<k→k<e→Has ns wy H kvs b k∧Has ns wy H kvs k e) ∧
 ∀ (r:Addr) (p:Int) (ts:List PT) (H':Hp),Zgr H' (.ref r) p ts→Gc ns wy b e m p ts→Zu H H'→Q (.ref r) H'
def PS(ns:List Int)(wy b e m k:Nat)(s:Int):Prop:=∃q1 q2 u1 u2,Gr ns wy b k 1 q1 u1∧Gr ns wy k e (m-1) q2 u2∧s=q1+q2
theorem Zq3(T:Zaf K mg cRow cMerge)(ns:List Int)(wy:Nat):Df P w K mg base 1 "least_cut" ["groves", "begin", "end", "most"] (Zmt ns wy):=by
 refine T.t_least_cut.df Zc5 (fun vs H Q E h=>?_) (fun cdv f A outer s H vs Q E hr h=>?_)
 ·obtain⟨d,kvs,b,e,m,rfl,_⟩:=h
  rfl
 obtain⟨d,kvs,b,e,m,rfl,hd,hbe,he12,hm2,hmw,hall,q⟩:=h
 refine⟨_,#[Zf,#[ZaO,#[Zk,(ZsH K hr),(by rfl),T.b.n_min,boot_min,#[Za,#[Zbd,Zea,#[ZcL,T.b.n_range,#[Za,#[ZG,Zaq,#[pv,1,(Or.inr (Or.inl rfl))],#[Zh]],#[Za,#[pv,2,(Or.inr (Or.inl rfl))],#[Zd]]]],(fun _ _ _ _=>#[cg,6,Zea]),(fun _ _ _ _=>(@ZaH _)),(fun _ _ _ _=>#[ZN,#[Za,#[ZG,Zaq,#[Zx,(ixT K),#[Zx,(ixD hr),#[cv,0,Zea],#[ZN,#[Za,#[cv,1,Zea],#[Za,#[cw,6,Zea],#[Za,#[Zh],#[Zd]]]]]],#[Zh]],#[Zx,(ixT K),#[Zx,(ixD hr),#[cv,0,Zea],#[ZN,#[Za,#[cw,6,Zea],#[Za,#[cv,2,Zea],#[Za,#[ZG,Zb0,#[cv,3,Zea],#[Zh]],#[Zd]]]]]],#[Zh]]],#[Za,#[cw,6,Zea],#[Zd]]]])],#[Zd]]],#[gT,K,2,#[Zs,#[Zw,4,Zc5.nd],#[Zs,#[Zw,5,Zc5.nd],(@Zal _)]]]],#[Zj,#[Zn,#[ZN,#[Za,‹4›,#[Za,#[ZG,ZoU,#[Zx,(ixT K),#[Zx,(ixD hr),#[pv,0,(Or.inr (Or.inl rfl))],#[ZN,#[Za,#[pv,1,(Or.inr (Or.inl rfl))],#[Za,‹5›,#[Za,#[Zh],#[Zd]]]]]],#[Zh]],#[Zx,(ixT K),#[Zx,(ixD hr),#[pv,0,(Or.inr (Or.inl rfl))],#[ZN,#[Za,‹5›,#[Za,#[pv,2,(Or.inr (Or.inl rfl))],#[Za,#[ZG,Zb0,#[pv,3,(Or.inr (Or.inl rfl))],#[Zh]],#[Zd]]]]]],#[Zh]]],#[Zd]]]]]]],?_⟩
 refine⟨_,rfl,_,_,rfl,rfl,_,rfl,_,_,rfl,⟨by omega,by omega,by omega,by omega⟩,fun D hD=>?_⟩
 rw[show ((e:Int)-((b:Int)+1)).toNat=e-(b+1) by omega]
 refine Zc4 (fun i zs σ H2=>(∃v:Option V,σ=[some (.ref d),some (.int b),some (.int e),some (.int m),none,none,v])∧(∃tl:Zcl,zs=Zad tl∧AtT H2 tl∧tl.length=i∧∀ (j:Nat) (t:Addr×List Key),tl[j]? = some t→∃s,t.2=[.inl s,.inl ((b+1+j:Nat):Int)]∧PS ns wy b e m (b+1+j) s)∧i≤e-(b+1)∧H2 D=some (.lst zs)∧Zu H H2) ?_ ?_ ?_
 ·exact⟨⟨none,rfl⟩,⟨[],rfl,(fun t h=>by cases h),rfl,fun j t h=>by cases h⟩,Qv _,Zb,Zi hD _⟩
 ·rintro i zs σ H2 hi ⟨⟨v,rfl⟩,⟨tl,rfl,hat,htl,hk⟩,hi',hD2,s2⟩
  rw[show ((b:Int)+1+(i:Int))=((b+1+i:Nat):Int) by omega]
  obtain⟨A1,A2⟩:=hall (b+1+i) (by omega) (by omega)
  obtain⟨v1,p1,t1,l1,⟨a1,y1,x1,rfl,ha1,hy1,tv1⟩,g1⟩:=A1 1 (by omega) (by omega)
  obtain⟨v2,p2,t2,l2,⟨a2,y2,x2,rfl,ha2,hy2,tv2⟩,g2⟩:=A2 (m-1) (by omega) (by omega)
  refine⟨_,rfl,_,rfl,_,rfl,(by show 3≤sizeLine;decide),fun k1 hk1=>?_⟩
  have s3:=s2.trans (Zi hk1 (.tup ((Kb b (b+1+i) 1).map kV)))
  have hD3:=Zi hk1 (.tup ((Kb b (b+1+i) 1).map kV)) _ _ hD2
  have hat3:=AtT.mono hat (Zi hk1 (.tup ((Kb b (b+1+i) 1).map kV)))
  have f3:(upd H2 k1 (.tup ((Kb b (b+1+i) 1).map kV))) k1=some (.tup ((Kb b (b+1+i) 1).map kV)):=Zb
  change ZhO _ _ (upd H2 k1 (.tup ((Kb b (b+1+i) 1).map kV))) _
  generalize upd H2 k1 (.tup ((Kb b (b+1+i) 1).map kV))=H3 at s3 hD3 hat3 f3 ⊢
  refine⟨d,kvs,k1,Kb b (b+1+i) 1,_,rfl,rfl,s3 _ _ hd,f3,l1,a1,_,_,_,rfl,rfl,SqT.of (s3 _ _ ha1),rfl,?_⟩
  refine⟨_,rfl,_,rfl,_,rfl,_,rfl,_,_,rfl,rfl,(by show 3≤sizeLine;decide),fun k2 hk2=>?_⟩
  have s4:=s3.trans (Zi hk2 (.tup ((Kb (b+1+i) e (m-1)).map kV)))
  have hD4:=Zi hk2 (.tup ((Kb (b+1+i) e (m-1)).map kV)) _ _ hD3
  have hat4:=AtT.mono hat3 (Zi hk2 (.tup ((Kb (b+1+i) e (m-1)).map kV)))
  have f4:(upd H3 k2 (.tup ((Kb (b+1+i) e (m-1)).map kV))) k2=some (.tup ((Kb (b+1+i) e (m-1)).map kV)):=Zb
  change ZhO _ _ (upd H3 k2 (.tup [V.int ((b+1+i:Nat):Int),V.int (e:Int),V.int ((m:Int)-1)])) _
  rw[show ((m:Int)-1)=((m-1:Nat):Int) by omega]
  change ZhO _ _ (upd H3 k2 (.tup ((Kb (b+1+i) e (m-1)).map kV))) _
  generalize upd H3 k2 (.tup ((Kb (b+1+i) e (m-1)).map kV))=H4 at s4 hD4 hat4 f4 ⊢
  refine⟨d,kvs,k2,Kb (b+1+i) e (m-1),_,rfl,rfl,s4 _ _ hd,f4,l2,a2,_,_,_,rfl,rfl,SqT.of (s4 _ _ ha2),rfl,_,_,rfl,rfl,_,rfl,(by show 2≤sizeLine;decide),fun n hn=>?_⟩
  have sn:=Zi hn (.tup [.int (p1+p2),.int ((b+1+i:Nat):Int)])
  have hD5:=sn _ _ hD4
  have nDn:D≠n:=Zc hD4 hn
  refine⟨hD5,(by rw[Zn5,htl];exact ZI (by omega)),⟨_,rfl⟩,⟨tl++[(n,[.inl (p1+p2),.inl ((b+1+i:Nat):Int)])],by unfold Zad;rw[Qe];rfl,fun t ht=>?_,by rw[Qg,Qk];omega,fun j t hj=>?_⟩,by omega,Zb,fun b' o hb=>?_⟩
  ·rcases Qf.mp ht with ht|ht
   ·exact ZbD hD5 _ _ _ (sn _ _ (hat4 t ht))
   ·rw[Qd.mp ht,Ze nDn.symm];exact Zb
  ·by_cases hjl:j<tl.length
   ·rw[QS hjl]at hj
    exact hk j t hj
   ·have hj2:=(Qc.mp hj).1
    rw[Qg,Qk]at hj2
    have ej:j=i:=by omega
    subst ej
    rw[QN (by omega),htl,Nat.sub_self]at hj
    cases hj
    exact⟨p1+p2,rfl,p1,p2,t1,t2,g1,g2,rfl⟩
  ·rw[Ze (Zc hb hD)];exact sn _ _ (s4 b' o hb)
 rintro zs σ H2 ⟨⟨v,rfl⟩,⟨tl,rfl,hat,htl,hk⟩,_,hD2,s2⟩
 have hsh:∀t∈tl,ZW t.2=[true,true]:=fun t ht=>by
  obtain⟨j,hj⟩:=List.mem_iff_getElem?.mp ht
  obtain⟨s,e1,_⟩:=hk j t hj
  rw[e1];rfl
 refine⟨D,tl,[true,true],rfl,SqL.of hD2,hat,(fun z=>by rw[z]at htl;simp at htl;omega),hsh,fun t ht hmin=>?_⟩
 obtain⟨j,hj⟩:=List.mem_iff_getElem?.mp ht
 have hjl:=(Qc.mp hj).1
 obtain⟨sm,et,q1,q2,u1,u2,g1,g2,es⟩:=hk j t hj
 have htt:=hat t ht
 rw[et]at htt
 refine⟨t.1,_,rfl,SqT.of htt,rfl,_,_,rfl,_,_,rfl,rfl,?_⟩
 have hmid1:b<b+1+j:=by omega
 have hmid2:b+1+j<e:=by omega
 obtain⟨A1,A2⟩:=hall (b+1+j) hmid1 hmid2
 obtain⟨v1,p1,t1,l1,⟨a1,y1,x1,rfl,ha1,hy1,tv1⟩,g1'⟩:=A1 1 (by omega) (by omega)
 obtain⟨v2,p2,t2,l2,⟨a2,y2,x2,rfl,ha2,hy2,tv2⟩,g2'⟩:=A2 (m-1) (by omega) (by omega)
 have e1:=ZdK g1 g1'
 have e2:=ZdK g2 g2'
 have hcut:Gc ns wy b e m (p1+p2) (t1++t2):=by
  refine Zrf hm2 hmid1 hmid2 g1' g2' (fun k r1 r2 w1 w2 k1 k2 f1 f2=>?_) (fun k k1 k2=>?_)
  ·have hkl:k-(b+1)<tl.length:=by omega
   obtain⟨s',e3,r1',r2',w1',w2',f1',f2',es'⟩:=hk (k-(b+1)) _ (Qb hkl)
   have hm':=hmin _ (QZ hkl)
   rw[e3,et]at hm'
   have:=Zpf hm'
   rw[show b+1+(k-(b+1))=k by omega]at f1' f2'
   have e4:=ZdK f1 f1'
   have e5:=ZdK f2 f2'
   omega
  ·obtain⟨B1,B2⟩:=hall k k1 k2
   obtain⟨_,r1,w1,_,_,f1⟩:=B1 1 (by omega) (by omega)
   obtain⟨_,r2,w2,_,_,f2⟩:=B2 (m-1) (by omega) (by omega)
   exact⟨r1,r2,w1,w2,f1,f2⟩
 refine⟨_,rfl,_,rfl,_,rfl,_,rfl,(by show 3≤sizeLine;decide),fun k1 hk1=>?_⟩
 have s3:=s2.trans (Zi hk1 (.tup ((Kb b (b+1+j) 1).map kV)))
 have f3:(upd H2 k1 (.tup ((Kb b (b+1+j) 1).map kV))) k1=some (.tup ((Kb b (b+1+j) 1).map kV)):=Zb
 change ZhO _ _ (upd H2 k1 (.tup ((Kb b (b+1+j) 1).map kV))) _
 generalize upd H2 k1 (.tup ((Kb b (b+1+j) 1).map kV))=H3 at s3 f3 ⊢
 refine⟨d,kvs,k1,Kb b (b+1+j) 1,_,rfl,rfl,s3 _ _ hd,f3,l1,a1,_,_,_,rfl,rfl,SqT.of (s3 _ _ ha1),rfl,?_⟩
 refine⟨_,rfl,_,rfl,_,rfl,_,rfl,_,_,rfl,rfl,(by show 3≤sizeLine;decide),fun k2 hk2=>?_⟩
 have s4:=s3.trans (Zi hk2 (.tup ((Kb (b+1+j) e (m-1)).map kV)))
 have f4:(upd H3 k2 (.tup ((Kb (b+1+j) e (m-1)).map kV))) k2=some (.tup ((Kb (b+1+j) e (m-1)).map kV)):=Zb
 change ZhO _ _ (upd H3 k2 (.tup [V.int ((b+1+j:Nat):Int),V.int (e:Int),V.int ((m:Int)-1)])) _
 rw[show ((m:Int)-1)=((m-1:Nat):Int) by omega]
 change ZhO _ _ (upd H3 k2 (.tup ((Kb (b+1+j) e (m-1)).map kV))) _
 generalize upd H3 k2 (.tup ((Kb (b+1+j) e (m-1)).map kV))=H4 at s4 f4 ⊢
 have tv1':TVs H4 x1 t1:=tv1.mono fun a xs e=>s4 _ _ e
 have tv2':TVs H4 x2 t2:=tv2.mono fun a xs e=>s4 _ _ e
 have n1:=tv1.len
 have n2:=tv2.len
 have c1:=g1'.l1
 have c2:=g2'.l1
 have c3:=g1'.lm
 have c4:=g2'.nf.len
 refine⟨d,kvs,k2,Kb (b+1+j) e (m-1),_,rfl,rfl,s4 _ _ hd,f4,l2,a2,_,_,_,rfl,rfl,SqT.of (s4 _ _ ha2),rfl,y1,y2,x1,x2,rfl,rfl,SqT.of (s4 _ _ hy1),SqT.of (s4 _ _ hy2),(fun z=>by rw[z]at n1;simp at n1;omega),Nat.le_of_lt (ZI (by omega)),(fun z=>by rw[z]at n2;simp at n2;omega),fun _ tt htt'=>?_⟩
 have s5:=s4.trans (Zi htt' (.tup (x1++x2)))
 have f5:(upd H4 tt (.tup (x1++x2))) tt=some (.tup (x1++x2)):=Zb
 have tv5:TVs (upd H4 tt (.tup (x1++x2))) (x1++x2) (t1++t2):=(tv1'.app tv2').mono fun a xs e=>Zi htt' _ _ _ e
 generalize upd H4 tt (.tup (x1++x2))=H5 at s5 f5 tv5 ⊢
 refine⟨(by show 2≤sizeLine;decide),fun r hr0=>?_⟩
 have esum:sm=p1+p2:=by omega
 rw[esum]
 have s6:=Zi hr0 (.tup [.int (p1+p2),.ref tt])
 exact q r (p1+p2) (t1++t2) _ ⟨r,tt,x1++x2,rfl,Zb,s6 _ _ f5,tv5.mono fun a xs e=>s6 _ _ e⟩ hcut (s5.trans s6)
def ZkC(K:PySem.W.Frag)(ns:List Int)(wy:Nat):Sp:=fun vs H Q _=>∃ (d a:Addr) (kvs:List (List Key×V)) (b e:Nat),vs=[.ref d,.ref a,.int wy,.int b,.int e]∧H d=some (.dT kvs)∧SqL K H a (ns.map V.int)∧b<e∧e≤ns.length∧ns.length≤60∧(∀v∈ns,0≤v∧v≤1000000000)∧2≤wy∧(∀k,b<k→k<e→Has ns wy H kvs b k∧Has ns wy H kvs k e) ∧
 ∀ (r:Addr) (p:Int) (ts:List PT) (H':Hp),Zgr H' (.ref r) p ts→Gr ns wy b e 1 p ts→Zu H H'→Q (.ref r) H'
theorem Zmi(T:Zaf K mg cRow cMerge)(ns:List Int)(wy:Nat)(f_least_cut:Df P w K mg base 1 "least_cut" ["groves", "begin", "end", "most"] (Zmt ns wy)):Df P w K mg base 2 "least_tree" ["groves", "sizes", "ways", "begin", "end"] (ZkC K ns wy):=by
 refine T.t_least_tree.df ZcA (fun vs H Q E h=>?_) (fun cdv f A outer s H vs Q E hr h=>?_)
 ·obtain⟨d,a,kvs,b,e,rfl,_⟩:=h
  rfl
 obtain⟨d,a,kvs,b,e,rfl,hd,hS,hbe,hen,hn12,hns,w2,hall,q⟩:=h
 refine⟨_,#[Zf,#[ZZ,#[Zo,Za4,#[ZG,Zb0,‹4›,‹3›],#[Zh],(Zt _)],#[Zj,#[Zn,#[ZN,#[Za,#[Zh],#[Za,#[ZN,#[Za,‹3›,#[Zd]]],#[Zd]]]]]],#[ZB]],#[Zf,#[ZaO,#[ZA,f_least_cut,hr,#[Za,‹0›,#[Za,‹3›,#[Za,‹4›,#[Za,‹2›,#[Zd]]]]],(by rfl)],#[gT,K,2,#[Zs,#[Zw,5,ZcA.nd],#[Zs,#[Zw,6,ZcA.nd],(@Zal _)]]]],#[Zj,#[Zn,#[ZN,#[Za,#[ZG,Zaq,‹5›,#[Zk,(Zr7 K),(by rfl),T.b.n_sum,boot_sum,#[Za,#[Zcq,(slL K),‹1›,(@Zb4 _ _ _ ‹3›),(@Zb4 _ _ _ ‹4›)],#[Zd]]]],#[Za,#[ZN,#[Za,‹6›,#[Zd]]],#[Zd]]]]]]]],?_⟩
 have hnn:∀v∈ns,0≤v:=fun v hv=>(hns v hv).1
 refine⟨_,rfl,_,rfl,_,_,rfl,rfl,rfl,_,rfl,ZaV (fun d0=>?_) (fun d0=>?_)⟩
 ·have d':=V.int.inj (of_decide_eq_true d0)
  have ee:e=b+1:=by omega
  subst ee
  refine⟨_,rfl,(by show 1≤sizeLine;decide),fun t1 ht1=>⟨(by show 2≤sizeLine;decide),fun r hr0=>?_⟩⟩
  have s2:=Zi hr0 (.tup [.int 0,.ref t1])
  exact q r 0 [.leaf (b:Int)] _ ⟨r,t1,_,rfl,Zb,s2 _ _ Zb,.cons (.leaf _) .nil⟩ (ZoA hnn wy b 1 (Qh 1)) ((Zi ht1 _).trans s2)
 ·have hne:¬ e=b+1:=fun z=>d0 (decide_eq_true (show V.int ((e:Int)-(b:Int))=V.int 1 from by rw[show ((e:Int)-(b:Int))=1 by omega]))
  refine⟨_,rfl,_,rfl,_,rfl,_,rfl,d,kvs,b,e,wy,rfl,hd,by omega,by omega,w2,Qh _,hall,fun r p ts H1 hC hG s1=>?_⟩
  obtain⟨r',t,xs,er,h1,h2,h3⟩:=hC
  cases er
  refine⟨r,_,rfl,SqT.of h1,rfl,_,_,rfl,_,_,rfl,rfl,?_⟩
  refine⟨_,rfl,_,rfl,_,rfl,_,rfl,_,rfl,_,rfl,a,_,rfl,s1.seq hS,fun sl hsl=>?_⟩
  rw[ZmL (ns.map V.int) b e (by rw[Qa];omega) (by rw[Qa];exact hen),← List.map_drop,← QaG]
  have s2:=Zi hsl (.lst (((ns.drop b).take (e-b)).map V.int))
  have f2:(upd H1 sl (.lst (((ns.drop b).take (e-b)).map V.int))) sl=some (.lst (((ns.drop b).take (e-b)).map V.int)):=Zb
  generalize upd H1 sl (.lst (((ns.drop b).take (e-b)).map V.int))=H2 at s2 f2 ⊢
  refine⟨sl,(ns.drop b).take (e-b),rfl,SqL.of f2,by rw[Qz,QV];omega,fun v hv=>?_,_,_,rfl,rfl,_,rfl,(by show 1≤sizeLine;decide),fun t2 ht2=>⟨(by show 2≤sizeLine;decide),fun r2 hr2=>?_⟩⟩
  ·have:=hns v (Qan (Qab hv))
   omega
  have s3:=Zi ht2 (.tup [.ref t])
  have s4:=Zi hr2 (.tup [.int (p+((ns.drop b).take (e-b)).sum),.ref t2])
  have s14:=(s2.trans s3).trans s4
  exact q r2 (p+seg ns b e) [.node ts] _ ⟨r2,t2,_,rfl,Zb,s4 _ _ Zb,.cons (.node (s14 _ _ h2) (h3.mono fun a xs e=>s14 _ _ e)) .nil⟩ (Zpr hG (by omega) hen) (s1.trans s14)
def ZkG(ns:List Int)(wy:Nat):Sp:=fun vs H Q _=>∃ (d al:Addr) (kvs:List (List Key×V)) (b e m:Nat) (p:Int) (ts:List PT),vs=[.ref d,.ref al,.int b,.int e,.int m]∧H d=some (.dT kvs)∧b<e∧e≤60∧1≤m∧m<wy∧Zgr H (.ref al) p ts∧Gr ns wy b e 1 p ts∧(∀k,b<k→k<e→Has ns wy H kvs b k∧Has ns wy H kvs k e) ∧
 ∀ (r:Addr) (p:Int) (ts:List PT) (H':Hp),Zgr H' (.ref r) p ts→Gr ns wy b e m p ts→Zu H H'→Q (.ref r) H'
theorem Zmq(T:Zaf K mg cRow cMerge)(ns:List Int)(wy:Nat)(f_least_cut:Df P w K mg base 1 "least_cut" ["groves", "begin", "end", "most"] (Zmt ns wy)):Df P w K mg base 2 "least_grove" ["groves", "alone", "begin", "end", "most"] (ZkG ns wy):=by
 refine T.t_least_grove.df ZdI (fun vs H Q E h=>?_) (fun cdv f A outer s H vs Q E hr h=>?_)
 ·obtain⟨d,al,kvs,b,e,m,p,ts,rfl,_⟩:=h
  rfl
 obtain⟨d,al,kvs,b,e,m,p,ts,rfl,hd,hbe,he12,m1,mw,hC,hG,hall,q⟩:=h
 refine⟨_,#[Zf,#[ZZ,(@PW.pt _ _ _ #[Zhj,#[Zo,Za4,#[ZG,Zb0,‹3›,‹2›],#[Zh],(Zt _)],(@ZfP _ _ _ _ #[Zo,Za4,‹4›,#[Zh],(Zt _)])]),#[Zj,#[Zn,‹1›]],#[ZB]],#[Zf,#[Zz,5,ZdI.nd,(Or.inl rfl),#[ZA,f_least_cut,hr,#[Za,‹0›,#[Za,‹2›,#[Za,‹3›,#[Za,‹4›,#[Zd]]]]],(by rfl)]],#[Zj,#[Zn,#[Za9,#[Zo,Zcw,#[Zx,(ixT K),‹5›,#[Zh]],#[Zx,(ixT K),‹1›,#[Zh]],(Zt _)],‹5›,‹1›]]]]],?_⟩
 refine⟨_,rfl,_,rfl,_,_,rfl,rfl,rfl,_,rfl,ZaV (fun d0=>ZhD ⟨_,rfl,?_⟩) (fun d0=>⟨_,rfl,rfl,_,rfl,ZaV (fun d1=>⟨_,rfl,?_⟩) (fun d1=>?_)⟩)⟩
 ·have d':=V.int.inj (of_decide_eq_true d0)
  have ee:e=b+1:=by omega
  subst ee
  exact q al p ts H hC (ZqX hG m1) (Zu.refl H)
 ·have d':=V.int.inj (of_decide_eq_true d1)
  have em:m=1:=by omega
  subst em
  exact q al p ts H hC hG (Zu.refl H)
 ·have hne:¬ e=b+1:=fun z=>d0 (decide_eq_true (show V.int ((e:Int)-(b:Int))=V.int 1 from by rw[show ((e:Int)-(b:Int))=1 by omega]))
  have hm1:¬ m=1:=fun z=>d1 (decide_eq_true (by rw[z];rfl))
  refine⟨_,rfl,_,rfl,_,rfl,_,rfl,d,kvs,b,e,m,rfl,hd,by omega,he12,by omega,by omega,hall,fun r p2 ts2 H1 hC2 hG2 s1=>?_⟩
  obtain⟨g1,g2⟩:=ZoZ m1 hG hG2
  obtain⟨r',t,xs,er,h1,h2,h3⟩:=id hC2
  cases er
  obtain⟨al',t',xs',ea,k1,k2,k3⟩:=id hC
  cases ea
  refine⟨_,rfl,xw4 r _ _ _ ⟨rfl,rfl,SqT.of h1,rfl,_,rfl,al,_,_,_,rfl,rfl,SqT.of (s1 _ _ k1),rfl,_,_,rfl,rfl,_,rfl,ZaV (fun d2=>⟨_,rfl,?_⟩) (fun d2=>⟨_,rfl,?_⟩)⟩⟩
  ·exact q r p2 ts2 H1 hC2 (g1 (of_decide_eq_true d2)) s1
  ·exact q al p ts H1 (hC.mono fun a xs e=>s1 _ _ e) (g2 fun z=>d2 (decide_eq_true z)) s1
theorem Zkj{H:Hp}{d:Addr}{kvs:List (List Key×V)}(h:H d=some (.dT kvs))(o:HO):∀a xs,H a=some (.tup xs)→(upd H d o) a=some (.tup xs):=fun a xs e=>by
 rw[Ze (Zku e h (fun z=>nomatch z))];exact e
structure St (ns:List Int) (wy:Nat) (H0 H:Hp) (d:Addr) (kvs:List (List Key×V)) (i j:Nat):Prop where
 hd:H d=some (.dT kvs)
 has:∀b e,b<e→e≤ns.length→(e-b≤i∨(e-b=i+1∧b<j))→Has ns wy H kvs b e
 only:∀b e m,Zbs kvs (Kb b e m)≠none→e-b≤i∨(e-b=i+1∧b<j)
 len:kvs.length≤360*i+6*j
 sm:Zu H0 H
 d0:H0 d=none
def Zjk(K:PySem.W.Frag)(ns:List Int)(wy:Nat):Sp:=fun vs H Q _=>∃ (a:Addr),vs=[.ref a,.int wy]∧SqL K H a (ns.map V.int)∧1≤ns.length∧ns.length≤60∧(∀v∈ns,0≤v∧v≤1000000000)∧2≤wy∧wy≤6 ∧
 ∀ (d:Addr) (kvs:List (List Key×V)) (H':Hp),H' d=some (.dT kvs)→(∀b e,b<e→e≤ns.length→Has ns wy H' kvs b e)→Zu H H'→Q (.ref d) H'
theorem ZlG(T:Zaf K mg cRow cMerge)(ns:List Int)(wy:Nat)(f_least_tree:Df P w K mg base 2 "least_tree" ["groves", "sizes", "ways", "begin", "end"] (ZkC K ns wy))(f_least_grove:Df P w K mg base 2 "least_grove" ["groves", "alone", "begin", "end", "most"] (ZkG ns wy)):Df P w K mg base 3 "least_groves" ["sizes", "ways"] (Zjk K ns wy):=by
 refine T.t_least_groves.df Zag (fun vs H Q E h=>?_) (fun cdv f A outer s H vs Q E hr h=>?_)
 ·obtain⟨a,rfl,_⟩:=h
  rfl
 obtain⟨a,rfl,hS,n1,n12,hns,w2,w6,q⟩:=h
 refine⟨_,#[Zf,#[Zz,2,Zag.nd,(Or.inl rfl),(@ZhK _ _)],#[Zf,#[Zbo,PassesOwn.never,#[ZcL,T.b.n_range,#[Za,#[Zh],#[Za,#[ZG,Zaq,#[Zk,(Zbf K),(by rfl),T.b.n_len,Qs,#[Za,‹0›,#[Zd]]],#[Zh]],#[Zd]]]],#[Zw,3,Zag.nd],#[Zj,#[Zbo,PassesOwn.never,#[ZbL,T.b.n_range,#[Za,#[ZG,Zaq,#[ZG,Zb0,#[Zk,(Zbf K),(by rfl),T.b.n_len,Qs,#[Za,‹0›,#[Zd]]],‹3›],#[Zh]],#[Zd]]],#[Zw,4,Zag.nd],#[Zf,#[Zz,5,Zag.nd,(Or.inl rfl),#[ZG,Zaq,‹4›,‹3›]],#[Zf,#[Zz,6,Zag.nd,(Or.inl rfl),#[ZA,f_least_tree,hr,#[Za,‹2›,#[Za,‹0›,#[Za,‹1›,#[Za,‹4›,#[Za,‹5›,#[Zd]]]]]],(by rfl)]],#[Zj,#[Zbo,PassesOwn.never,#[ZcL,T.b.n_range,#[Za,#[Zh],#[Za,‹1›,#[Zd]]]],#[Zw,7,Zag.nd],#[Zj,#[ZaO,#[ZA,f_least_grove,hr,#[Za,‹2›,#[Za,‹6›,#[Za,‹4›,#[Za,‹5›,#[Za,‹7›,#[Zd]]]]]],(by rfl)],#[ZdA,‹2›,#[ZN,#[Za,‹4›,#[Za,‹5›,#[Za,‹7›,#[Zd]]]]],(ZsK hr)]]]]]]]]]],#[Zj,#[Zn,‹2›]]]],?_⟩
 have hl:(((ns.map V.int).length:Nat):Int)=(ns.length:Int):=by rw[Qa]
 refine fun d hd0=>?_
 have st0:St ns wy H (upd H d (.dT [])) d [] 0 0:=⟨Zb,fun b e h1 h2 h3=>by omega,fun b e m h=>absurd rfl h,Qv _,Zi hd0 _,hd0⟩
 generalize upd H d (.dT [])=H1 at st0 ⊢
 refine⟨_,rfl,a,_,rfl,.inl (st0.sm.seq hS),_,_,rfl,rfl,_,_,rfl,⟨by omega,by omega,by omega,by omega⟩,?_⟩
 rw[show ((((ns.map V.int).length:Nat):Int)+1-1).toNat=ns.length by omega]
 refine Zbt (fun i σ H2=>∃ (kvs:List (List Key×V)) (v3 v4 v5 v6 v7:Option V),σ=[some (.ref a),some (.int wy),some (.ref d),v3,v4,v5,v6,v7]∧St ns wy H H2 d kvs i 0) ⟨[],xw5 _ _ _ _ _ ⟨rfl,st0⟩⟩ ?_ ?_
 ·rintro i σ H2 hi ⟨kvs,v3,v4,v5,v6,v7,rfl,st2⟩
  rw[show ((1:Int)+(i:Int))=((1+i:Nat):Int) by omega]
  refine⟨_,rfl,a,_,rfl,.inl (st2.sm.seq hS),_,rfl,_,_,rfl,rfl,_,_,rfl,rfl,_,rfl,by omega,by omega,?_⟩
  rw[show ((((ns.map V.int).length:Nat):Int)-((1+i:Nat):Int)+1).toNat=ns.length-i by omega]
  refine Zbt (fun j σ H3=>∃ (kvs:List (List Key×V)) (v4 v5 v6 v7:Option V),σ=[some (.ref a),some (.int wy),some (.ref d),some (.int ((1+i:Nat):Int)),v4,v5,v6,v7]∧St ns wy H H3 d kvs i j) ⟨kvs,xw4 _ _ _ _ ⟨rfl,st2⟩⟩ ?_ ?_
  ·rintro j σ H3 hj ⟨kvs,v4,v5,v6,v7,rfl,st3⟩
   rw[show ((0:Int)+(j:Int))=(j:Int) by omega]
   refine⟨_,rfl,_,rfl,_,_,rfl,rfl,?_⟩
   simp only[show ((j:Int)+((1+i:Nat):Int))=((j+1+i:Nat):Int) by omega]
   have fam:∀k,j<k→k<j+1+i→Has ns wy H3 kvs j k∧Has ns wy H3 kvs k (j+1+i):=fun k h1 h2=>⟨st3.has j k h1 (by omega) (.inl (by omega)),st3.has k (j+1+i) h2 (by omega) (.inl (by omega))⟩
   refine⟨_,rfl,_,rfl,_,rfl,_,rfl,_,rfl,d,a,kvs,j,j+1+i,rfl,st3.hd,st3.sm.seq hS,by omega,by omega,n12,hns,w2,fam,fun al p ts H4 hC hG s4=>?_⟩
   refine⟨_,rfl,_,_,rfl,⟨by omega,by omega,by omega,by omega⟩,?_⟩
   rw[show ((wy:Int)-1).toNat=wy-1 by omega]
   refine Zbt (fun l σ H5=>∃ (kvs:List (List Key×V)) (v7:Option V),σ=[some (.ref a),some (.int wy),some (.ref d),some (.int ((1+i:Nat):Int)),some (.int (j:Int)),some (.int ((j+1+i:Nat):Int)),some (.ref al),v7]∧H5 d=some (.dT kvs)∧(∀b e,b<e→e≤ns.length→(e-b≤i∨(e-b=i+1∧b<j))→Has ns wy H5 kvs b e)∧(∀m,1≤m→m≤l→∃v p ts,Zbs kvs (Kb j (j+1+i) m)=some v∧Zgr H5 v p ts∧Gr ns wy j (j+1+i) m p ts)∧(∀b e m,Zbs kvs (Kb b e m)≠none→(e-b≤i∨(e-b=i+1∧b<j))∨(b=j∧e=j+1+i∧m≤l))∧kvs.length≤360*i+6*j+l∧Zu H H5∧Zgr H5 (.ref al) p ts)
    ⟨kvs,_,rfl,s4 _ _ st3.hd,fun b e h1 h2 h3=>(st3.has b e h1 h2 h3).mono fun a xs e=>s4 _ _ e,fun m h1 h2=>by omega,fun b e m h=>.inl (st3.only b e m h),by have:=st3.len;omega,st3.sm.trans s4,hC⟩ ?_ ?_
   ·rintro l σ H5 hll ⟨kvs5,v7',rfl,hd5,has5,cur5,only5,len5,s5,hC5⟩
    rw[show ((1:Int)+(l:Int))=((1+l:Nat):Int) by omega]
    have fam5:∀k,j<k→k<j+1+i→Has ns wy H5 kvs5 j k∧Has ns wy H5 kvs5 k (j+1+i):=fun k h1 h2=>⟨has5 j k h1 (by omega) (.inl (by omega)),has5 k (j+1+i) h2 (by omega) (.inl (by omega))⟩
    refine⟨_,rfl,_,rfl,_,rfl,_,rfl,_,rfl,d,al,kvs5,j,j+1+i,1+l,p,ts,rfl,hd5,by omega,by omega,by omega,by omega,hC5,hG,fam5,fun r p6 ts6 H6 hC6 hG6 s6=>?_⟩
    have hd6:=s6 _ _ hd5
    refine⟨_,rfl,_,rfl,_,rfl,_,rfl,(by show 3≤sizeLine;decide),fun k1 hk1=>?_⟩
    have s7:=Zi hk1 (.tup ((Kb j (j+1+i) (1+l)).map kV))
    have f7:(upd H6 k1 (.tup ((Kb j (j+1+i) (1+l)).map kV))) k1=some (.tup ((Kb j (j+1+i) (1+l)).map kV)):=Zb
    change ZjL _ _ _ (upd H6 k1 (.tup ((Kb j (j+1+i) (1+l)).map kV))) _
    generalize upd H6 k1 (.tup ((Kb j (j+1+i) (1+l)).map kV))=H7 at s7 f7 ⊢
    have hd7:=s7 _ _ hd6
    have hnone:Zbs kvs5 (Kb j (j+1+i) (1+l))=none:=by
     cases hx:Zbs kvs5 (Kb j (j+1+i) (1+l)) with
     | none=>rfl
     | some v =>
      rcases only5 j (j+1+i) (1+l) (by rw[hx];simp) with h|h<;>omega
    have s57:=s6.trans s7
    have keepT:∀a xs,H5 a=some (.tup xs)→(upd H7 d (.dT (kvs5++[(Kb j (j+1+i) (1+l),.ref r)]))) a=some (.tup xs):=fun a xs e=>Zkj hd7 _ _ _ (s57 _ _ e)
    have keepT6:∀a xs,H6 a=some (.tup xs)→(upd H7 d (.dT (kvs5++[(Kb j (j+1+i) (1+l),.ref r)]))) a=some (.tup xs):=fun a xs e=>Zkj hd7 _ _ _ (s7 _ _ e)
    have old:∀k v,Zbs kvs5 k=some v→Zbs (kvs5++[(Kb j (j+1+i) (1+l),V.ref r)]) k=some v:=fun k v h=>by rw[Zfa,h];rfl
    refine⟨d,kvs5,k1,Kb j (j+1+i) (1+l),rfl,rfl,hd7,f7,hnone,(by rw[sizeLine_eq];omega),?_⟩
    refine⟨_,_,rfl,Zb,fun b e h1 h2 h3 m m1 m2=>?_,fun m m1 m2=>?_,fun b e m h=>?_,by rw[Qg,Qk];omega,fun b o hb=>?_,hC5.mono keepT⟩
    ·obtain⟨v,p',ts',x1,x2,x3⟩:=has5 b e h1 h2 h3 m m1 m2
     exact⟨v,p',ts',old _ _ x1,x2.mono keepT,x3⟩
    ·by_cases hm:m≤l
     ·obtain⟨v,p',ts',x1,x2,x3⟩:=cur5 m m1 hm
      exact⟨v,p',ts',old _ _ x1,x2.mono keepT,x3⟩
     ·have em:m=1+l:=by omega
      subst em
      exact⟨.ref r,p6,ts6,by rw[Zfa,hnone,if_pos rfl];rfl,hC6.mono keepT6,hG6⟩
    ·rw[Zfa]at h
     by_cases hk:Kb j (j+1+i) (1+l)=Kb b e m
     ·obtain⟨x1,x2,x3⟩:=Zrv hk
      exact .inr ⟨x1.symm,x2.symm,by omega⟩
     ·rw[if_neg hk]at h
      rcases only5 b e m (fun z=>h (by rw[z];rfl)) with h|h
      ·exact .inl h
      ·exact .inr ⟨h.1,h.2.1,by omega⟩
    ·rw[Ze (Zc hb st2.d0)];exact s57 _ _ (s5 b o hb)
   ·rintro σ H5 ⟨kvs5,v7',rfl,hd5,has5,cur5,only5,len5,s5,hC5⟩
    refine⟨kvs5,xw4 _ _ _ _ ⟨rfl,hd5,fun b e h1 h2 h3=>?_,fun b e m h=>?_,by omega,s5,st2.d0⟩⟩
    ·by_cases hb:e-b≤i∨(e-b=i+1∧b<j)
     ·exact has5 b e h1 h2 hb
     ·have eb:b=j:=by omega
      have ee:e=j+1+i:=by omega
      subst eb ee
      exact fun m m1 m2=>cur5 m m1 (by omega)
    ·rcases only5 b e m h with h|h
     ·rcases h with h|h
      ·exact .inl h
      ·exact .inr ⟨h.1,by omega⟩
     ·exact .inr ⟨by omega,by omega⟩
  ·rintro σ H3 ⟨kvs,v4,v5,v6,v7,rfl,st3⟩
   refine⟨kvs,xw5 _ _ _ _ _ ⟨rfl,st3.hd,fun b e h1 h2 h3=>st3.has b e h1 h2 (by omega),fun b e m h=>?_,by have:=st3.len;omega,st3.sm,st3.d0⟩⟩
   have:=st3.only b e m h
   omega
 ·rintro σ H2 ⟨kvs,v3,v4,v5,v6,v7,rfl,st2⟩
  exact⟨_,rfl,q d kvs H2 st2.hd (fun b e h1 h2=>st2.has b e h1 h2 (.inl (by omega))) st2.sm⟩
def ZjP(K:PySem.W.Frag):Sp:=fun vs H Q _=>∃ (a:Addr) (ns:List Int) (wy:Nat),vs=[.ref a,.int wy]∧SqL K H a (ns.map V.int)∧1≤ns.length∧ns.length≤60∧(∀v∈ns,0≤v∧v≤1000000000)∧2≤wy∧wy≤6 ∧
 ∀ (r:Addr) (x:V) (p:Int) (t:PT) (H':Hp),H r=none→H' r=some (.tup [.int p,x])→TV H' x t→Gr ns wy 0 ns.length 1 p [t]→Zu H H'→Q (.ref r) H'
theorem ZoK(T:Zaf K mg cRow cMerge)(f_least_groves':∀ns wy,Df P w K mg base 3 "least_groves" ["sizes", "ways"] (Zjk K ns wy)):Df P w K mg base 4 "near_plan" ["sizes", "ways"] (ZjP K):=by
 refine T.t_near_plan.df Zc6 (fun vs H Q E h=>?_) (fun cdv f A outer s H vs Q E hr h=>?_)
 ·obtain⟨a,ns,wy,rfl,_⟩:=h
  rfl
 obtain⟨a,ns,wy,rfl,hS,n1,n12,hns,w2,w6,q⟩:=h
 have f_least_groves:=f_least_groves' ns wy
 refine⟨_,#[Zf,#[ZaO,#[Zx,(ixD hr),#[ZA,f_least_groves,hr,#[Za,‹0›,#[Za,‹1›,#[Zd]]],(by rfl)],#[ZN,#[Za,#[Zh],#[Za,#[Zk,(Zbf K),(by rfl),T.b.n_len,Qs,#[Za,‹0›,#[Zd]]],#[Za,#[Zh],#[Zd]]]]]],#[gT,K,2,#[Zs,#[Zw,2,Zc6.nd],#[Zs,#[Zw,3,Zc6.nd],(@Zal _)]]]],#[Zj,#[Zn,#[ZN,#[Za,‹2›,#[Za,#[Zx,(ixT K),‹3›,#[Zh]],#[Zd]]]]]]],?_⟩
 have hl:(((ns.map V.int).length:Nat):Int)=(ns.length:Int):=by rw[Qa]
 refine⟨_,rfl,_,rfl,a,rfl,hS,n1,n12,hns,w2,w6,fun d kvs H1 hd hall s1=>?_⟩
 refine⟨_,rfl,a,_,rfl,.inl (s1.seq hS),(by show 3≤sizeLine;decide),fun k1 hk1=>?_⟩
 obtain⟨v,p,ts,hlk,⟨c,t,xs,rfl,hc,ht,tv⟩,hG⟩:=hall 0 ns.length (by omega) (Qh _) 1 (by omega) (by omega)
 have s2:=Zi hk1 (.tup ((Kb 0 ns.length 1).map kV))
 have f2:(upd H1 k1 (.tup ((Kb 0 ns.length 1).map kV))) k1=some (.tup ((Kb 0 ns.length 1).map kV)):=Zb
 rw[hl]
 change ZhO _ _ (upd H1 k1 (.tup ((Kb 0 ns.length 1).map kV))) _
 generalize upd H1 k1 (.tup ((Kb 0 ns.length 1).map kV))=H2 at s2 f2 ⊢
 refine⟨d,kvs,k1,Kb 0 ns.length 1,_,rfl,rfl,s2 _ _ hd,f2,hlk,c,_,rfl,SqT.of (s2 _ _ hc),rfl,_,_,rfl,_,_,rfl,rfl,?_⟩
 have g1:=hG.l1
 have g2:=hG.lm
 have s12:=s1.trans s2
 cases tv with
 | nil=>simp at g1
 | @cons x u xs us hx hxs =>
  have:us=[]:=QO (by simp at g2;rw[g2];rfl)
  subst this
  refine⟨_,rfl,_,rfl,xw4 t _ _ _ ⟨rfl,rfl,SqT.of (s2 _ _ ht),(Z3 (j:=0) rfl),(by show 2≤sizeLine;decide),fun r hr0=>?_⟩⟩
  have s3:=Zi hr0 (.tup [.int p,x])
  exact q r x p u _ (s12.free hr0) Zb (hx.mono fun a xs e=>s3 _ _ (s2 _ _ e)) hG (s12.trans s3)
def ZsE(K:PySem.W.Frag)(n:Nat):Sp:=fun vs H Q _=>∃ (a:Addr) (ns:List Int) (x:V) (t:PT),vs=[.ref a,x]∧SqL K H a (ns.map V.int)∧TV H x t∧tOk ns.length t∧tDp t<n ∧
 ∀ (r:Addr) (H':Hp),H' r=some (.tup [.int (tSz ns t),.int (tCo ns t)])→Zu H H'→Q (.ref r) H'
theorem Zrc{ns:List Int}{k:Int}(h:0≤k∧k<(ns.length:Nat)):atI (ns.map V.int) k=some (.int (ns.getD k.toNat 0)):=by
 have hk:k.toNat<ns.length:=by omega
 have ek:k=((k.toNat:Nat):Int):=by omega
 have q:atI (ns.map V.int) ((k.toNat:Nat):Int)=some (.int ns[k.toNat]):=Z3 (by rw[Qi,Qb hk]<;>rfl)
 rw[← ek]at q
 rw[q,Ql,Qb hk];rfl
theorem Zjc{f:PT→Int}:∀ (l:List PT) (i:Nat) (t:PT),l[i]? = some t→((l.take (i+1)).map f).sum=((l.take i).map f).sum+f t:=by
 intro l i t h
 rw[QH,h]
 simp
theorem Zkf(ns:List Int):∀l:List PT,(l.map (tSz ns)).sum=Zfn ns l
 | []=>rfl
 | t::r=>by show tSz ns t+(r.map (tSz ns)).sum=_;rw[Zkf ns r];rfl
theorem ZkL(ns:List Int):∀l:List PT,(l.map (tCo ns)).sum=Zb9 ns l
 | []=>rfl
 | t::r=>by show tCo ns t+(r.map (tCo ns)).sum=_;rw[ZkL ns r];rfl
theorem ZfI{H H':Hp}(s:Zu H H'):∀a xs,H a=some (.tup xs)→H' a=some (.tup xs):=fun a xs h=>s a _ h
theorem ZpM(T:Zaf K mg cRow cMerge)(f_is_number:Df P w K mg base 1 "is_number" ["thing"] Zkc):∀n:Nat,Df P w K mg base (n+1) "size_and_cost" ["sizes", "tree"] (ZsE K n)
 | 0=>by
  refine T.t_size_and_cost.df ZP (fun vs H Q E h=>?_) (fun cdv f A outer s H vs Q E hr h=>?_)
  ·obtain⟨a,ns,x,t,rfl,_⟩:=h
   rfl
  obtain⟨a,ns,x,t,rfl,hS,hT,hok,hdp,q⟩:=h
  exact absurd hdp (by omega)
 | n+1=>by
  have f_size_and_cost:=ZpM T f_is_number n
  refine T.t_size_and_cost.df ZP (fun vs H Q E h=>?_) (fun cdv f A outer s H vs Q E hr h=>?_)
  ·obtain⟨a,ns,x,t,rfl,_⟩:=h
   rfl
  obtain⟨a,ns,x,t,rfl,hS,hT,hok,hdp,q⟩:=h
  refine⟨_,#[Zf,#[ZZ,#[ZfT,#[ZA,f_is_number,hr,#[Za,‹1›,#[Zd]],(by rfl)]],#[Zj,#[Zn,#[ZN,#[Za,#[Zx,(ixL K),‹0›,‹1›],#[Za,#[Zh],#[Zd]]]]]],#[ZB]],#[Zf,#[Zz,2,ZP.nd,(Or.inl rfl),#[Zh]],#[Zf,#[Zz,3,ZP.nd,(Or.inl rfl),#[Zh]],#[Zf,#[Zbo,PassesOwn.never,(@iT _ K _ _ _ ‹1› (by rfl)),#[Zw,4,ZP.nd],#[Zf,#[ZaO,#[ZA,f_size_and_cost,hr,#[Za,‹0›,#[Za,‹4›,#[Zd]]],(by rfl)],#[gT,K,2,#[Zs,#[Zw,5,ZP.nd],#[Zs,#[Zw,6,ZP.nd],(@Zal _)]]]],#[Zf,#[ZhJ,2,ZP.nd,‹5›,ZhG],#[Zj,#[ZhJ,3,ZP.nd,‹6›,ZhG]]]]],#[Zj,#[Zn,#[ZN,#[Za,‹2›,#[Za,#[ZG,Zaq,‹3›,‹2›],#[Zd]]]]]]]]]],?_⟩
  cases hT with
  | leaf k =>
   refine⟨_,rfl,.inl ⟨k,rfl,_,rfl,ZhD ⟨_,rfl,_,rfl,xw4 a _ _ _ ⟨rfl,rfl,hS,Zrc hok,(by show 2≤sizeLine;decide),fun r hr0=>?_⟩⟩⟩⟩
   exact q r _ Zb (Zi hr0 _)
  | node h hs =>
   rename_i b xs l
   refine⟨_,rfl,.inr ⟨b,xs,rfl,h,_,rfl,ZbF ?_⟩⟩
   refine⟨_,rfl,b,rfl,⟨_,SqT.of h⟩,?_⟩
   refine Zpa (K:=K) (a:=b) (xs:=xs) (fun i σ H2=>∃v4 v5 v6:Option V,σ=[some (.ref a),some (.ref b),some (.int ((l.take i).map (tSz ns)).sum),some (.int ((l.take i).map (tCo ns)).sum),v4,v5,v6]∧Zu H H2) ⟨_,_,_,rfl,Zu.refl _⟩ (fun _ _ _ _ hq=>by obtain⟨_,_,_,_,s2⟩:=hq;exact SqT.of (s2 _ _ h)) ?_ ?_
   ·rintro i x σ H2 hx ⟨v4,v5,v6,rfl,s2⟩
    obtain⟨t,ht,hv⟩:=hs.at hx
    have hd':ZeD l+1<n+1:=hdp
    have hd2:=Zh1 l i t ht
    refine⟨_,rfl,_,rfl,xw4 a ns x t ⟨rfl,s2.seq hS,hv.mono (ZfI s2),Zh8 _ l i t hok ht,by omega,fun r H3 hr3 s3=>?_⟩⟩
    refine⟨r,_,rfl,SqT.of hr3,rfl,_,_,rfl,_,_,rfl,rfl,?_⟩
    refine⟨_,rfl,_,rfl,_,_,rfl,rfl,_,rfl,_,rfl,_,_,rfl,rfl,some x,some (.int (tSz ns t)),some (.int (tCo ns t)),by rw[Zjc l i t ht,Zjc l i t ht];rfl,s2.trans s3⟩
   ·rintro σ H2 ⟨v4,v5,v6,rfl,s2⟩
    rw[hs.len,Qx (Qh _),Zkf,ZkL]
    refine⟨_,rfl,_,rfl,_,rfl,_,_,rfl,rfl,(by show 2≤sizeLine;decide),fun r hr0=>?_⟩
    exact q r _ Zb (s2.trans (Zi hr0 _))
def ZiK(K:PySem.W.Frag)(n:Nat):Sp:=fun vs H Q _=>∃ (a:Addr) (ns:List Int) (x:V) (t:PT),vs=[.ref a,x]∧SqL K H a (ns.map V.int)∧TV H x t∧tOk ns.length t∧tDp t<n∧∀H',Zu H H'→Q (.int (tCo ns t)) H'
theorem Zlf(T:Zaf K mg cRow cMerge)(f_size_and_cost:Df P w K mg base 62 "size_and_cost" ["sizes", "tree"] (ZsE K 61)):Df P w K mg base 63 "cost_of" ["sizes", "tree"] (ZiK K 61):=by
 refine T.t_cost_of.df ZjU (fun vs H Q E h=>?_) (fun cdv f A outer s H vs Q E hr h=>?_)
 ·obtain⟨a,ns,x,t,rfl,_⟩:=h
  rfl
 obtain⟨a,ns,x,t,rfl,hS,hT,hok,hdp,q⟩:=h
 refine⟨_,#[Zj,#[Zn,#[Zx,(ixT K),#[ZA,f_size_and_cost,hr,#[Za,‹0›,#[Za,‹1›,#[Zd]]],(by rfl)],#[Zh]]]],?_⟩
 refine⟨_,rfl,_,rfl,xw4 a ns x t ⟨rfl,hS,hT,hok,hdp,fun r H' hr' s'=>(xw4 r _ _ _ ⟨rfl,rfl,SqT.of hr',rfl,q _ s'⟩)⟩⟩
def ZfF(P:List ZH):List Str:=P.flatMap fun x=>x.2.1.drop x.2.2
theorem ZkF{ss:List Str}{g:Nat}{z:Str}(h:ss[g]? = some z):ss.drop g=z::ss.drop (g+1):=by
 obtain⟨hlt,e⟩:=Qc.mp h
 rw[List.drop_eq_getElem_cons hlt,e]
theorem Zin:∀ (P:List ZH),(ZaM P).Nodup→∀ {x:ZH} {z:Str},x∈P→x.2.1[x.2.2]? = some z→(z::ZfF (ZbA P x.1)).Perm (ZfF P)
 | [],_,_,_,h,_=>by cases h
 | y::P,nd,x,z,h,hz=>by
  unfold ZaM at nd
  rw[Qj,Q3]at nd
  unfold ZfF ZbA
  rw[Qj,QaP,QaP]
  rcases QI.mp h with rfl|h
  ·have e:P.map (Zam x.1)=P:=by
    conv=>rhs;rw[← List.map_id P]
    refine QK fun u hu=>?_
    unfold Zam
    rw[if_neg (fun z:u.1=x.1=>nd.1 (z ▸ Qm (f:=fun x:ZH=>x.1) hu))]
    rfl
   rw[e,ZkF hz]
   unfold Zam
   rw[if_pos rfl]
   exact Qap _
  ·have ih:=Zin P nd.2 h hz
   unfold ZfF ZbA at ih
   have e:Zam x.1 y=y:=if_neg (fun z:y.1=x.1=>nd.1 (z ▸ Qm (f:=fun x:ZH=>x.1) h))
   rw[e]
   exact List.perm_middle.symm.trans (ih.append_left _)
theorem Zjy{a b:Str}(h:ZF (cds a) (cds b)≤0):LeS a b:=fun z=>by
 have z':cds b<cds a:=z
 have:=(ZbI _ _).mp z'
 have:=Zax (cds a) (cds b)
 omega
theorem LeS.refl(a:Str):LeS a a:=Zjy (by rw[ZcO];exact QaJ _)
theorem LeS.anti{a b:Str}(h:LeS a b)(k:LeS b a):a=b:=by
 have h1:¬ ZF (cds b) (cds a)<0:=fun z=>h ((ZbI _ _).mpr z)
 have h2:¬ ZF (cds a) (cds b)<0:=fun z=>k ((ZbI _ _).mpr z)
 have:=Zax (cds a) (cds b)
 have e:cds a=cds b:=ZcI _ _ (by omega)
 obtain⟨⟨a⟩⟩:=a
 obtain⟨⟨b⟩⟩:=b
 have e':a=b:=e
 rw[e']
def Zjl(P:List ZH):Prop:=∀x∈P,sortedS x.2.1=true
theorem Zjl.bump{P:List ZH}(h:Zjl P)(n:Int):Zjl (ZbA P n):=fun x hx=>by
 obtain⟨y,hy,rfl⟩:=Qt.mp hx
 unfold Zam
 split
 ·exact h y hy
 ·exact h y hy
theorem ZkH{P:List ZH}(h:Za3 P=0):ZfF P=[]:=by
 have e:(ZfF P).length=Za3 P:=by
  unfold ZfF Za3
  rw[List.length_flatMap]
  congr 1
  refine QK fun x _=>?_
  rw[QV]
 exact QO (e.trans h)
def Zha(P:List ZH)(x:ZH)(z:Str):Prop:=x∈P∧x.2.1[x.2.2]? = some z∧Win (hdP P) (ZaM P) (some x.1)
inductive TkW (P:List ZH):List Zaj→List ZH→Prop
 | nil:TkW P [] P
 | snoc {ts:List Zaj} {P1:List ZH} {x:ZH} {z:Str}:TkW P ts P1→Zha P1 x z→TkW P (ts++[(x.1,x.2.2,z)]) (ZbA P1 x.1)
theorem Zcs.tk{P P':List ZH}{ts:List Zaj}{k q:Int}(h:Zcs P ts P' k q):TkW P ts P':=by
 induction h with
 | nil=>exact .nil
 | snoc h s ih=>exact .snoc ih ⟨s.1,s.2.1,s.2.2.1⟩
theorem Zha.one{P:List ZH}(nd:(ZaM P).Nodup){x y:ZH}{z u:Str}(h:Zha P x z)(g:Zha P y u):x=y∧z=u:=by
 obtain⟨h1,h2,h3⟩:=h
 obtain⟨g1,g2,g3⟩:=g
 have e1:=Qp (h3.one g3)
 have e2:=Zdf nd h1 g1 e1
 subst e2
 exact⟨rfl,Qp (h2.symm.trans g2)⟩
theorem TkW.num{P P':List ZH}{ts:List Zaj}(h:TkW P ts P'):ZaM P'=ZaM P:=by
 induction h with
 | nil=>rfl
 | snoc _ _ ih=>rw[Zhr,ih]
theorem TkW.one{P:List ZH}(nd:(ZaM P).Nodup){ts:List Zaj}{P1:List ZH}(h:TkW P ts P1):∀ {us:List Zaj} {P2:List ZH},TkW P us P2→ts.length=us.length→ts=us∧P1=P2:=by
 induction h with
 | nil =>
  intro us P2 g hl
  cases g with
  | nil=>exact⟨rfl,rfl⟩
  | snoc _ _=>rw[Qg,Qk]at hl;exact absurd hl (by simp)
 | snoc h s ih =>
  intro us P2 g hl
  cases g with
  | nil=>rw[Qg,Qk]at hl;exact absurd hl (by simp)
  | snoc g' s' =>
   rw[Qg,Qg,Qk,Qk]at hl
   obtain⟨e1,e2⟩:=ih g' (by omega)
   subst e1
   subst e2
   obtain⟨f1,f2⟩:=s.one (by rw[h.num];exact nd) s'
   subst f1
   subst f2
   exact⟨rfl,rfl⟩
theorem TkW.left{P P':List ZH}{ts:List Zaj}(h:TkW P ts P')(nd:(ZaM P).Nodup):Za3 P'+ts.length=Za3 P:=by
 induction h with
 | nil=>rfl
 | snoc h s ih =>
  have:=ZdX _ (by rw[h.num];exact nd) s.1 (Qc.mp s.2.1).1
  rw[Qg,Qk]
  omega
theorem TkW.row{P P':List ZH}{ts:List Zaj}(h:TkW P ts P'):∀x∈P',∃y∈P,y.1=x.1∧y.2.1=x.2.1:=by
 induction h with
 | nil=>exact fun x hx=>⟨x,hx,rfl,rfl⟩
 | snoc h s ih =>
  intro x hx
  obtain⟨u,hu,rfl⟩:=Qt.mp hx
  obtain⟨y,hy,e1,e2⟩:=ih u hu
  refine⟨y,hy,?_,?_⟩
  ·unfold Zam;split<;>exact e1
  ·unfold Zam;split<;>exact e2
theorem TkW.at{P P':List ZH}{ts:List Zaj}(h:TkW P ts P'):∀u∈ts,∃y∈P,y.1=u.1∧y.2.1[u.2.1]? = some u.2.2:=by
 induction h with
 | nil=>exact fun u hu=>by cases hu
 | snoc h s ih =>
  intro u hu
  rcases Qf.mp hu with hu|hu
  ·exact ih u hu
  ·rw[Qd.mp hu]
   obtain⟨y,hy,e1,e2⟩:=h.row _ s.1
   exact⟨y,hy,e1,by rw[e2];exact s.2.1⟩
theorem Zha.le{P:List ZH}(nd:(ZaM P).Nodup)(srt:Zjl P){x:ZH}{z:Str}(h:Zha P x z):∀y∈ZfF P,LeS z y:=fun y hy=>by
 obtain⟨hx,hz,W⟩:=h
 obtain⟨_,zc,hzc,hall⟩:=W
 rw[Zgi nd hx,hz]at hzc
 have hzc':cds z=zc:=Qp hzc
 subst hzc'
 obtain⟨u,hu,hyu⟩:=List.mem_flatMap.mp hy
 cases hh:u.2.1[u.2.2]? with
 | none=>rw[List.drop_eq_nil_of_le (List.getElem?_eq_none_iff.mp hh)]at hyu;cases hyu
 | some hd =>
  have hle:LeS hd y:=by
   have p:(u.2.1.drop u.2.2).Pairwise LeS:=((ZcW _).mp (srt u hu)).sublist (List.drop_sublist _ _)
   rw[ZkF hh]at p hyu
   rcases QI.mp hyu with rfl|hyu
   ·exact LeS.refl _
   ·exact(List.pairwise_cons.mp p).1 y hyu
  have hd':=Zgi nd hu
  rw[hh]at hd'
  rcases hall u.1 (Qm (f:=fun x:ZH=>x.1) hu) _ hd' with e|b
  ·have e2:=Zdf nd hu hx e
   subst e2
   have:=Qp (hz.symm.trans hh)
   rw[this];exact hle
  ·refine(Zjy ?_).trans hle
   rcases b with b|⟨b,_⟩<;>omega
theorem TkW.srt{P P':List ZH}{ts:List Zaj}(h:TkW P ts P')(nd:(ZaM P).Nodup)(srt:Zjl P):Zjl P'∧(ts.map (·.2.2)++ZfF P').Perm (ZfF P)∧(ts.map (·.2.2)).Pairwise LeS∧∀a∈ts.map (·.2.2),∀b∈ZfF P',LeS a b:=by
 induction h with
 | nil=>exact⟨srt,Qap _,List.Pairwise.nil,fun a ha=>by cases ha⟩
 | snoc h s ih =>
  obtain⟨i1,i2,i3,i4⟩:=ih
  have nd1:=nd
  rw[← h.num]at nd1
  have pm:=Zin _ nd1 s.1 s.2.1
  have le:=s.le nd1 i1
  refine⟨i1.bump _,?_,?_,fun a ha b hb=>?_⟩
  ·rw[Qe,Qae]
   exact(pm.append_left _).trans i2
  ·rw[Qe]
   refine Qay.mpr ⟨i3,QY _ _,fun a ha b hb=>?_⟩
   have eb:=Qd.mp hb
   rw[eb]
   exact i4 a ha _ (pm.mem_iff.mp (Q4 ..))
  ·have hb':=pm.mem_iff.mp (Qu _ hb)
   rw[Qe]at ha
   rcases Qf.mp ha with ha|ha
   ·exact i4 a ha b hb'
   ·rw[Qd.mp ha]
    exact le b hb'
def Zbu(ss:List Str)(d:List Int):List Str:=d.map fun n=>ss.getD n.toNat ""
def ZdL(R:List (List Str)):List ZH:=(ZT 0 R.length).zip (R.map fun x=>(x,0))
theorem ZpO(rs:List (Addr×List Str)):Zf5 rs=ZdL (rs.map (·.2)):=by
 unfold Zf5 ZdL
 rw[Qa,QA]
 rfl
theorem ZiF(R:List (List Str)):ZaM (ZdL R)=ZT 0 R.length:=by
 unfold ZaM ZdL
 rw[List.map_fst_zip]
 unfold ZT
 rw[Qa,Qa,Qaw]
 exact Qh _
theorem Zdd(R:List (List Str)):(ZaM (ZdL R)).Nodup:=by
 rw[ZiF]
 exact(Zey _).imp fun h=>by omega
theorem ZiW(R:List (List Str))(i:Nat):(ZdL R)[i]? = (R[i]?).map fun x=>((i:Int),(x,0)):=by
 unfold ZdL ZT
 rw[List.zip_eq_zipWith,List.getElem?_zipWith,Qi,Qi]
 by_cases h:i<R.length
 ·rw[Qb h,Qai h]
  simp
 ·rw[QE (by omega:R.length≤i)]
  simp
theorem Zdx{R:List (List Str)}{x:ZH}(h:x∈ZdL R):∃i:Nat,x.1=(i:Int)∧R[i]? = some x.2.1∧x.2.2=0:=by
 obtain⟨i,hi⟩:=Qao h
 rw[ZiW]at hi
 cases hR:R[i]? with
 | none=>rw[hR]at hi;cases hi
 | some d=>rw[hR]at hi;cases hi;exact⟨i,rfl,hR,rfl⟩
theorem Zhq(R:List (List Str)):Za3 (ZdL R)=(R.map List.length).sum:=by
 unfold Za3 ZdL
 have e:((ZT 0 R.length).zip (R.map fun x=>(x,0))).map (fun x:ZH=>x.2.1.length-x.2.2)=((((ZT 0 R.length).zip (R.map fun x=>(x,0))).map (·.2))).map (fun y:List Str×Nat=>y.1.length-y.2):=by rw[QA];rfl
 rw[e,List.map_snd_zip (by rw[Qa,Zao];exact Qh _),QA]
 rfl
theorem Zil{R:List (List Str)}(h:∀d∈R,sortedS d=true):Zjl (ZdL R):=fun x hx=>by
 obtain⟨i,_,hi,_⟩:=Zdx hx
 exact h _ (Qq hi)
def Zab(R:List (List Int))(u:Zaj):Int:=(R.getD u.1.toNat []).getD u.2.1 0
def Put(ss:List Str)(R:List (List Int))(out:List Int):Prop:=∃ (ts:List Zaj) (P':List ZH),TkW (ZdL (R.map (Zbu ss))) ts P'∧ts.length=(R.map List.length).sum∧out=ts.map (Zab R)
theorem Put.one{ss:List Str}{R:List (List Int)}{a b:List Int}(h:Put ss R a)(g:Put ss R b):a=b:=by
 obtain⟨ts,P1,h1,h2,h3⟩:=h
 obtain⟨us,P2,g1,g2,g3⟩:=g
 have:=(h1.one (Zdd _) g1 (by rw[h2,g2])).1
 rw[h3,g3,this]
theorem ZeG(ss:List Str)(R:List (List Int)):((R.map (Zbu ss)).map List.length).sum=(R.map List.length).sum:=by
 rw[QA]
 congr 1
 refine QK fun d _=>?_
 show (Zbu ss d).length=d.length
 unfold Zbu
 rw[Qa]
theorem Zcy{ss:List Str}{R:List (List Int)}{u:Zaj}{P':List ZH}{ts:List Zaj}(h:TkW (ZdL (R.map (Zbu ss))) ts P')(hu:u∈ts):∃d,R[u.1.toNat]? = some d∧0≤u.1∧d[u.2.1]? = some (Zab R u)∧ss.getD (Zab R u).toNat "" = u.2.2:=by
 obtain⟨y,hy,e1,e2⟩:=h.at u hu
 obtain⟨i,hi,hR,_⟩:=Zdx hy
 rw[Qi]at hR
 cases hd:R[i]? with
 | none=>rw[hd]at hR;cases hR
 | some d =>
  rw[hd]at hR
  have hR':=Qp hR
  rw[← hR']at e2
  unfold Zbu at e2
  rw[Qi]at e2
  cases hn:d[u.2.1]? with
  | none=>rw[hn]at e2;cases e2
  | some n =>
   rw[hn]at e2
   have e2':=Qp e2
   have eu:u.1.toNat=i:=by rw[← e1,hi];rfl
   have ep:Zab R u=n:=by
    unfold Zab
    rw[eu,Ql,Ql,hd]
    show (d[u.2.1]?).getD 0=n
    rw[hn];rfl
   exact⟨d,by rw[eu];exact hd,by rw[← e1,hi];omega,by rw[ep];exact hn,by rw[ep];exact e2'⟩
theorem Put.ok{ss:List Str}{R:List (List Int)}{out:List Int}(h:Put ss R out)(hs:∀d∈R,sortedS (Zbu ss d)=true):out.length=(R.map List.length).sum∧(∀n∈out,∃d∈R,n∈d)∧sortedS (Zbu ss out)=true:=by
 obtain⟨ts,P1,h1,h2,rfl⟩:=h
 refine⟨by rw[Qa];exact h2,fun n hn=>?_,?_⟩
 ·obtain⟨u,hu,rfl⟩:=Qt.mp hn
  obtain⟨d,hd,_,hg,_⟩:=Zcy h1 hu
  exact⟨d,Qq hd,Qq hg⟩
 ·have e:Zbu ss (ts.map (Zab R))=ts.map (·.2.2):=by
   unfold Zbu
   rw[QA]
   refine QK fun u hu=>?_
   obtain⟨d,_,_,_,e⟩:=Zcy h1 hu
   exact e
  rw[e]
  have hR:∀d∈R.map (Zbu ss),sortedS d=true:=fun d hd=>by
   obtain⟨x,hx,rfl⟩:=Qt.mp hd
   exact hs x hx
  exact(ZcW _).mpr (h1.srt (Zdd _) (Zil hR)).2.2.1
mutual
inductive Zc7 (ss:List Str) (R:List (List Int)):PT→List Int→Prop where
 | leaf {i:Int}:Zc7 ss R (.leaf i) (R.getD i.toNat [])
 | node {l:List PT} {os:List (List Int)} {out:List Int}:Zat ss R l os→Put ss os out→Zc7 ss R (.node l) out
inductive Zat (ss:List Str) (R:List (List Int)):List PT→List (List Int)→Prop where
 | nil:Zat ss R [] []
 | cons {t:PT} {o:List Int} {l:List PT} {os:List (List Int)}:Zc7 ss R t o→Zat ss R l os→Zat ss R (t::l) (o::os)
end
mutual
theorem Zc7.one{ss:List Str}{R:List (List Int)}:∀ {t:PT} {a b:List Int},Zc7 ss R t a→Zc7 ss R t b→a=b
 | _,_,_,.leaf,.leaf=>rfl
 | _,_,_,.node h p,.node g q=>by
  have:=Zat.one h g
  subst this
  exact p.one q
theorem Zat.one{ss:List Str}{R:List (List Int)}:∀ {l:List PT} {a b:List (List Int)},Zat ss R l a→Zat ss R l b→a=b
 | _,_,_,.nil,.nil=>rfl
 | _,_,_,.cons h hs,.cons g gs=>by rw[Zc7.one h g,Zat.one hs gs]
end
theorem Zat.app{ss:List Str}{R:List (List Int)}:∀ {l m:List PT} {a b:List (List Int)},Zat ss R l a→Zat ss R m b→Zat ss R (l++m) (a++b)
 | _,_,_,_,.nil,g=>g
 | _,_,_,_,.cons h hs,g=>.cons h (hs.app g)
def wtR(R:List (List Int))(lv:List Int):Nat:=(lv.map fun i=>(R.getD i.toNat []).length).sum
theorem ZhZ(R:List (List Int))(a b:List Int):wtR R (a++b)=wtR R a+wtR R b:=by unfold wtR;rw[Qe,Qal]
def Zhv(ss:List Str)(d:List Int):Prop:=(∀n∈d,0≤n∧n<(ss.length:Int))∧sortedS (Zbu ss d)=true
theorem Zrd(ss:List Str):Zhv ss []:=⟨fun n h=>(by cases h),rfl⟩
theorem ZsD{ss:List Str}{R:List (List Int)}(h:∀d∈R,Zhv ss d)(i:Nat):Zhv ss (R.getD i []):=by
 rw[Ql]
 cases hx:R[i]? with
 | none=>exact Zrd ss
 | some d=>exact h d (Qq hx)
mutual
theorem Zc7.ok{ss:List Str}{R:List (List Int)}(hR:∀d∈R,Zhv ss d):∀ {t:PT} {o:List Int},Zc7 ss R t o→Zhv ss o∧o.length=wtR R (tLv t)
 | .leaf i,_,.leaf=>⟨ZsD hR _,by show _=((([i]:List Int).map fun i=>(R.getD i.toNat []).length).sum);simp⟩
 | .node l,o,.node h p=>by
  obtain⟨a,b⟩:=Zat.ok hR h
  obtain⟨p1,p2,p3⟩:=p.ok fun d hd=>(a d hd).2
  refine⟨⟨fun n hn=>?_,p3⟩,by rw[p1,b];rfl⟩
  obtain⟨d,hd,hnd⟩:=p2 n hn
  exact(a d hd).1 n hnd
theorem Zat.ok{ss:List Str}{R:List (List Int)}(hR:∀d∈R,Zhv ss d):∀ {l:List PT} {os:List (List Int)},Zat ss R l os→(∀d∈os,Zhv ss d)∧(os.map List.length).sum=wtR R (ZaY l)
 | [],_,.nil=>⟨fun d h=>(by cases h),rfl⟩
 | t::l,_,.cons h hs=>by
  obtain⟨a,b⟩:=Zc7.ok hR h
  obtain⟨c,d⟩:=Zat.ok hR hs
  refine⟨fun x hx=>?_,?_⟩
  ·rcases QI.mp hx with rfl|hx
   ·exact a
   ·exact c x hx
  ·rw[Qj,Q0,b,d]
   show _=wtR R (tLv t++ZaY l)
   rw[ZhZ]
end
theorem Zn1{K:PySem.W.Frag}{a:Addr}{xs:List V}{k:Nat}{D:Addr}{σ:L2.St}{H1:Hp}{g:TG}{te:TE}{Q:VK}(Pv:Nat→List V→L2.St→Hp→Prop)(h0:Pv 0 [] (σ++List.replicate k none) (upd H1 D (.lst [])))
  (hl:∀i ys σ H,Pv i ys σ H→SqT K H a xs)
  (hs:∀i x ys σ H,xs[i]? = some x→Pv i ys σ H→g x σ H fun σ4 H4=>te σ4 H4 fun y H6=>H6 D=some (.lst ys)∧ys.length<sizeLine∧Pv (i+1) (ys++[y]) σ4 (upd H6 D (.lst (ys++[y]))))
  (hd:∀ys σ H,Pv xs.length ys σ H→Q (.ref D) H):Zf2 (Itt K a) D k σ H1 g Zic te Q:=by
 refine⟨fun i m ys σ H=>m=xs.length-i∧i≤xs.length∧Pv i ys σ H,⟨xs.length,by simp,Qv _,h0⟩,?_⟩
 rintro i m ys σ H ⟨rfl,hi,p⟩
 have q1:=hl i ys σ H p
 by_cases hlt:i<xs.length
 ·refine .inr ⟨⟨xs,xs[i],q1,Qb hlt⟩,Pv (i+1),fun ys' σ' H' p'=>⟨xs.length-(i+1),by omega,rfl,hlt,p'⟩,fun x H' y=>?_⟩
  obtain⟨rfl,e⟩:=y
  simp only[Zic,↓reduceIte]
  exact hs i x ys σ _ (e xs q1) p
 ·have e:i=xs.length:=by omega
  exact .inl ⟨⟨xs,q1,by omega⟩,hd ys σ H (e ▸ p)⟩
theorem Zkt{ls:List Addr}{k:Int}{l:Addr}(h0:0≤k)(h:ls[k.toNat]? = some l):atI (ls.map V.ref) k=some (.ref l):=by
 have ek:k=((k.toNat:Nat):Int):=by omega
 rw[ek]
 exact Z3 (by rw[Qi,h];rfl)
theorem Zat.len{ss:List Str}{R:List (List Int)}:∀ {l:List PT} {os:List (List Int)},Zat ss R l os→os.length=l.length
 | _,_,.nil=>rfl
 | _,_,.cons _ h=>by rw[QD,QD,h.len]
theorem ZkQ{w:Nat}:∀ {l:List PT} {i:Nat} {t:PT},Zdp w l→l[i]? = some t→tPl w t
 | [],i,t,_,h=>by simp at h
 | u::r,0,t,hp,h=>by simp at h;rw[← h];exact hp.1
 | u::r,i+1,t,hp,h=>ZkQ hp.2 (by simpa using h)
theorem Zgg:∀ {R:List (List Int)} {i:Nat} {d:List Int},R[i]? = some d→d.length≤(R.map List.length).sum
 | [],i,d,h=>by simp at h
 | u::r,0,d,h=>by simp at h;rw[← h,Qj,Q0];omega
 | u::r,i+1,d,h=>by
  have:=Zgg (R:=r) (i:=i) (d:=d) (by simpa using h)
  rw[Qj,Q0];omega
theorem Zp2(R:List (List Int)):∀ {l:List PT} {i:Nat} {t:PT},l[i]? = some t→wtR R (tLv t)≤wtR R (ZaY l)
 | [],i,t,h=>by simp at h
 | u::r,0,t,h=>by
  simp at h
  rw[← h]
  show _≤wtR R (tLv u++ZaY r)
  rw[ZhZ];omega
 | u::r,i+1,t,h=>by
  have:=Zp2 R (l:=r) (i:=i) (t:=t) (by simpa using h)
  show _≤wtR R (tLv u++ZaY r)
  rw[ZhZ];omega
structure Zjj (H:Hp) (a r:Addr) (ss:List Str) (ls:List Addr) (R:List (List Int)):Prop where
 th:H a=some (.lst (ss.map V.str))
 s60:ss.length≤60
 key:∀s∈ss,s.length≤1000∧AZ s
 ru:H r=some (.lst (ls.map V.ref))
 rd:Rd H ls R
 rg:∀d∈R,Zhv ss d
theorem Zjj.same{H H':Hp}{a r:Addr}{ss:List Str}{ls:List Addr}{R:List (List Int)}(h:Zjj H a r ss ls R)(s:Zu H H'):Zjj H' a r ss ls R:=⟨s _ _ h.th,h.s60,h.key,s _ _ h.ru,Rd.mono (fun _ _ o ho=>s _ _ ho) h.rd,h.rg⟩
def ZqU(n:Nat):Sp:=fun vs H Q _=>∃ (a r:Addr) (ss:List Str) (ls:List Addr) (R:List (List Int)) (x:V) (t:PT),vs=[.ref a,.ref r,x]∧Zjj H a r ss ls R∧TV H x t∧tOk R.length t∧tPl 60 t∧wtR R (tLv t)≤100∧tDp t<n ∧
 ∀ (b:Addr) (out:List Int) (H':Hp),H b=none→H' b=some (.lst (out.map V.int))→Zc7 ss R t out→Zu H H'→Q (.ref b) H'
theorem ZpP(T:Zaf K mg cRow cMerge)(f_is_number:Df P w K mg base 1 "is_number" ["thing"] Zkc)(f_merged:Df P w K mg base 16 "merged" ["rows"] ZiT):∀n:Nat,Df P w K mg base (n+17) "merged_by" ["things", "runs", "tree"] (ZqU n)
 | 0=>by
  refine T.t_merged_by.df Zb6 (fun vs H Q E h=>?_) (fun cdv f A outer s H vs Q E hr h=>?_)
  ·obtain⟨a,r,ss,ls,R,x,t,rfl,_⟩:=h
   rfl
  obtain⟨a,r,ss,ls,R,x,t,rfl,hI,hT,hok,hpl,hwt,hdp,q⟩:=h
  exact absurd hdp (by omega)
 | n+1=>by
  have f_merged_by:=ZpP T f_is_number f_merged n
  refine T.t_merged_by.df Zb6 (fun vs H Q E h=>?_) (fun cdv f A outer s H vs Q E hr h=>?_)
  ·obtain⟨a,r,ss,ls,R,x,t,rfl,_⟩:=h
   rfl
  obtain⟨a,r,ss,ls,R,x,t,rfl,hI,hT,hok,hpl,hwt,hdp,q⟩:=h
  refine⟨_,#[Zf,#[ZZ,#[ZfT,#[ZA,f_is_number,hr,#[Za,‹2›,#[Zd]],(by rfl)]],#[Zj,#[Zn,#[ZcP,(ZpL K),T.b.n_list,boot_list,#[Za,#[Zx,(ixL K),#[pv,1,(Or.inr (Or.inl rfl))],‹2›],#[Zd]]]]],#[ZB]],#[Zf,#[Zz,3,Zb6.nd,(Or.inr rfl),#[Zbd,ZlN,(@iT _ K _ _ _ ‹2› (by rfl)),(fun _ _ _ _=>#[cg,5,ZlN]),(fun _ _ _ _=>(@ZaH _)),(fun _ _ _ _=>#[ZA,f_merged_by,hr,#[Za,#[cv,0,ZlN],#[Za,#[cv,1,ZlN],#[Za,#[cw,5,ZlN],#[Zd]]]],(Zcd ZlN rfl (by ac_rfl))])]],#[Zf,#[Zem,4,Zb6.nd,Zqa,#[iL,K,#[pv,3,(Or.inr (Or.inl rfl))]],(fun _ _ _ _=>#[cg,5,Zqa]),(fun _ _ _ _=>(@ZaH _)),(fun _ _ _ _=>#[Zbd,Zpx,#[iL,K,#[cw,5,Zqa]],(fun _ _ _ _=>#[cg,6,Zpx]),(fun _ _ _ _=>(@ZaH _)),(fun _ _ _ _=>#[Zx,(ixL K),#[cv,0,Zpx],#[cw,6,Zpx]])])],#[Zj,#[Zn,#[Zbd,Zlx,#[iL,K,#[ZA,f_merged,hr,#[Za,‹4›,#[Zd]],(by rfl)]],(fun _ _ _ _=>#[gT,K,2,#[Zs,#[cg,5,Zlx],#[Zs,#[cg,6,Zlx],(@Zal _)]]]),(fun _ _ _ _=>(@ZaH _)),(fun _ _ _ _=>#[Zx,(ixL K),#[Zx,(ixL K),#[cv,3,Zlx],#[cw,5,Zlx]],#[cw,6,Zlx]])]]]]]],?_⟩
  have hR60:R.length=ls.length:=hI.rd.len.symm
  cases hT with
  | leaf k =>
   refine⟨_,rfl,.inl ⟨k,rfl,_,rfl,ZhD ?_⟩⟩
   have hk:0≤k∧k<(R.length:Nat):=hok
   obtain⟨l,hl⟩:∃l,ls[k.toNat]? = some l:=⟨_,Qb (by omega)⟩
   obtain⟨d,hd,hld⟩:=hI.rd.at hl
   refine⟨_,rfl,_,rfl,xw4 r _ _ _ ⟨rfl,rfl,SqL.of hI.ru,Zkt hk.1 hl,l,_,rfl,.inl (SqL.of hld),fun b hb=>?_⟩⟩
   refine q b d _ hb Zb ?_ (Zi hb _)
   have e:R.getD k.toNat []=d:=by rw[Ql,hd];rfl
   rw[← e]
   exact .leaf
  | node htp hTs =>
   rename_i tp xs l
   refine⟨_,rfl,.inr ⟨tp,xs,rfl,htp,_,rfl,ZbF ?_⟩⟩
   have hxl:=hTs.len
   have hl60:l.length≤60:=hpl.2.1
   have hpls:Zdp 60 l:=hpl.2.2
   have hoks:Zli R.length l:=hok
   have hwts:wtR R (ZaY l)≤100:=hwt
   have hdps:ZeD l<n:=by have:ZeD l+1<n+1:=hdp;omega
   refine⟨_,rfl,tp,rfl,⟨_,SqT.of htp⟩,fun D hD=>?_⟩
   refine Zn1 (K:=K) (a:=tp) (xs:=xs) (fun i zs σ H2=>(∃v:Option V,σ=[some (.ref a),some (.ref r),some (.ref tp),none,none,v])∧(∃ (bs:List Addr) (os:List (List Int)),zs=bs.map V.ref∧Rd H2 bs os∧Zat ss R (l.take i) os∧D ∉ bs)∧i≤xs.length∧H2 D=some (.lst zs)∧Zu H H2) ?_ (fun _ _ _ _ h=>SqT.of (h.2.2.2.2 _ _ htp)) ?_ ?_
   ·exact⟨⟨none,rfl⟩,⟨[],[],rfl,True.intro,.nil,fun h=>by cases h⟩,Qv _,Zb,Zi hD _⟩
   ·rintro i x zs σ H2 hx ⟨⟨v,rfl⟩,⟨bs,os,rfl,hrd,hpt,hDb⟩,hi,hD2,s2⟩
    obtain⟨t,ht,hTV⟩:=hTs.at hx
    have hil:i<xs.length:=(Qc.mp hx).1
    have hbl:bs.length=i:=by rw[hrd.len,hpt.len,Qz];omega
    refine⟨_,rfl,_,rfl,_,rfl,xw7 a r ss ls R x t ⟨rfl,hI.same s2,hTV.mono (ZfI s2),Zh8 _ _ _ _ hoks ht,ZkQ hpls ht,QP (Zp2 R ht) hwts,Qar (Zh1 _ _ _ ht) hdps,fun b out H3 hb0 hb hp s3=>?_⟩⟩
    have hD3:=s3 _ _ hD2
    have nbD:b≠D:=fun z=>by rw[z,hD2]at hb0;cases hb0
    refine⟨hD3,(by rw[Qa,hbl,sizeLine_eq];omega),⟨_,rfl⟩,⟨bs++[b],os++[out],by rw[Qe];rfl,?_,?_,?_⟩,hil,Zb,fun c o hc=>?_⟩
    ·refine Rd.app (Rd.mono (fun c hc o ho=>?_) hrd) ⟨by rw[Ze nbD];exact hb,True.intro⟩
     rw[Ze (fun z:c=D=>hDb (by rw[← z];exact hc))];exact s3 _ _ ho
    ·rw[QH,ht]
     exact hpt.app (.cons hp .nil)
    ·intro h
     rcases Qf.mp h with h|h
     ·exact hDb h
     ·exact nbD (Qd.mp h).symm
    ·rw[Ze (Zc hc hD)];exact s3 _ _ (s2 c o hc)
   rintro zs σ H2 ⟨⟨v,rfl⟩,⟨bs,os,rfl,hrd,hpt,_⟩,_,hD2,s2⟩
   rw[Qx (by omega)]at hpt
   obtain⟨hro,hso⟩:=Zat.ok hI.rg hpt
   have hos:os.length=l.length:=hpt.len
   have hbo:=hrd.len
   refine⟨_,rfl,D,rfl,⟨_,SqL.of hD2⟩,fun D2 hD20=>?_⟩
   refine Za0 (K:=K) (a:=D) (xs:=bs.map V.ref) (fun i zs σ H3=>(∃v:Option V,σ=[some (.ref a),some (.ref r),some (.ref tp),some (.ref D),none,v])∧(∃rs:List (Addr×List Str),zs=(rs.map fun x=>V.ref x.1)∧rs.map (·.2)=(os.take i).map (Zbu ss)∧∀x∈rs,x.1≠D2∧H3 x.1=some (.lst (x.2.map V.str)))∧i≤bs.length∧H3 D2=some (.lst zs)∧Zu H2 H3) ?_ (fun _ _ _ _ h=>SqL.of (h.2.2.2.2 _ _ hD2)) ?_ ?_
   ·exact⟨⟨none,rfl⟩,⟨[],rfl,rfl,fun x h=>by cases h⟩,Qv _,Zb,Zi hD20 _⟩
   ·rintro i y zs σ H3 hy ⟨⟨v,rfl⟩,⟨rs,rfl,hrs,hrs3⟩,hi,hD3,s3⟩
    rw[Qi]at hy
    cases hb:bs[i]? with
    | none=>rw[hb]at hy;cases hy
    | some b =>
    rw[hb]at hy
    cases hy
    have hil:i<bs.length:=(Qc.mp hb).1
    obtain⟨d,hd,hbd⟩:=hrd.at hb
    have hrl:rs.length=i:=by
     have:=congrArg List.length hrs
     rw[Qa,Qa,Qz]at this
     omega
    have hdr:=(hro d (Qq hd)).1
    have hdl:d.length≤100:=QP (Zgg hd) (by rw[hso];exact hwts)
    have hb3:=s3 _ _ hbd
    refine⟨_,rfl,b,rfl,⟨_,SqL.of hb3⟩,fun E0 hE=>?_⟩
    have nED:D2≠E0:=Zc hD3 hE
    refine Za0 (K:=K) (a:=b) (xs:=d.map V.int) (fun j ys σ H5=>(∃v:Option V,σ=[some (.ref a),some (.ref r),some (.ref tp),some (.ref D),none,some (.ref b),v])∧ys=((Zbu ss d).take j).map V.str∧j≤d.length∧H5 E0=some (.lst ys)∧Zu H3 H5) ?_ (fun _ _ _ _ h=>SqL.of (h.2.2.2.2 _ _ hb3)) ?_ ?_
    ·exact⟨⟨none,rfl⟩,rfl,Qv _,Zb,Zi hE _⟩
    ·rintro j y ys σ H5 hy ⟨⟨v',rfl⟩,rfl,hj,hE5,s5⟩
     rw[Qi]at hy
     cases hn:d[j]? with
     | none=>rw[hn]at hy;cases hy
     | some nn =>
     rw[hn]at hy
     cases hy
     have hjl:j<d.length:=(Qc.mp hn).1
     obtain⟨n0,n1⟩:=hdr nn (Qq hn)
     refine⟨_,rfl,_,rfl,xw4 a _ _ _ ⟨rfl,rfl,SqL.of (s5 _ _ (s3 _ _ (s2 _ _ hI.th))),ZfG n0 n1,hE5,(by rw[Qa,Qz,sizeLine_eq];omega),⟨_,rfl⟩,?_,hjl,Zb,fun c o hc=>?_⟩⟩
     ·unfold Zbu
      rw[QH,Qi,hn,Qe];rfl
     ·rw[Ze (Zc hc hE)];exact s5 c o hc
    rintro ys σ H5 ⟨⟨v',rfl⟩,rfl,_,hE5,s5⟩
    rw[Qa,Qx (by unfold Zbu;rw[Qa];exact Qh _)]at hE5
    refine⟨s5 _ _ hD3,(by rw[Qa,hrl,sizeLine_eq];omega),⟨_,rfl⟩,⟨rs++[(E0,Zbu ss d)],by rw[Qe];rfl,?_,fun x hx=>?_⟩,hil,Zb,fun c o hc=>?_⟩
    ·rw[QH,hd,Qe,Qe,hrs];rfl
    ·rcases Qf.mp hx with hx|hx
     ·obtain⟨g1,g2⟩:=hrs3 x hx
      exact⟨g1,by rw[Ze g1];exact s5 _ _ g2⟩
     ·rw[Qd.mp hx]
      exact⟨nED.symm,by rw[Ze nED.symm];exact hE5⟩
    ·rw[Ze (Zc hc hD20)];exact s5 _ _ (s3 c o hc)
   rintro zs σ H3 ⟨⟨v,rfl⟩,⟨rs,rfl,hrs,hrs3⟩,_,hD3,s3⟩
   rw[Qa,Qx (by omega)]at hrs
   have hsrt:∀x∈rs,sortedS x.2=true:=fun x hx=>by
    have:x.2∈rs.map (·.2):=Qm (f:=fun x:Addr×List Str=>x.2) hx
    rw[hrs]at this
    obtain⟨d,hd,e⟩:=Qt.mp this
    rw[← e]
    exact(hro d hd).2
   have hrl:rs.length=os.length:=by have:=congrArg List.length hrs;rwa [Qa,Qa]at this
   have R3:Zcp H3 D2 rs:=⟨hD3,by omega,fun x hx=>by
    have:x.2∈rs.map (·.2):=Qm (f:=fun x:Addr×List Str=>x.2) hx
    rw[hrs]at this
    obtain⟨d,hd,e⟩:=Qt.mp this
    obtain⟨i,hi⟩:=Qao hd
    refine⟨(hrs3 x hx).2,?_,fun s hs=>?_⟩
    ·rw[← e]
     unfold Zbu
     rw[Qa]
     exact QP (Zgg hi) (by rw[hso];exact hwts)
    ·rw[← e]at hs
     unfold Zbu at hs
     obtain⟨nn,hnn,rfl⟩:=Qt.mp hs
     obtain⟨n0,n1⟩:=(hro d hd).1 nn hnn
     rw[Ql,Qb (by omega)]
     exact hI.key _ (QZ _)⟩
   refine⟨_,rfl,D2,rs,rfl,R3,hsrt,fun mt us P' k0 q0 H4 htk hln hmt hus _ _ s4=>?_⟩
   have htw:=htk.tk
   rw[ZpO,hrs]at htw
   have hln2:(us.map (·.2)).length=(os.map List.length).sum:=by
    rw[Qa,hln,← ZeG ss os,← hrs,QA];rfl
   have hD4:=s4 _ _ (s3 _ _ hD2)
   have s24:=s3.trans s4
   have hrd4:Rd H4 bs os:=Rd.mono (fun _ _ o ho=>s24 _ _ ho) hrd
   refine⟨mt,rfl,⟨_,SqL.of hmt⟩,fun O hO=>?_⟩
   refine Za0 (K:=K) (a:=mt) (xs:=us.map fun u=>V.ref u.1) (fun i zs σ H5=>(∃v1 v2:Option V,σ=[some (.ref a),some (.ref r),some (.ref tp),some (.ref D),some (.ref D2),v1,v2])∧zs=(((us.take i).map (·.2)).map (Zab os)).map V.int∧i≤us.length∧H5 O=some (.lst zs)∧Zu H4 H5) ?_ (fun _ _ _ _ h=>SqL.of (h.2.2.2.2 _ _ hmt)) ?_ ?_
   ·exact⟨⟨none,none,rfl⟩,rfl,Qv _,Zb,Zi hO _⟩
   ·rintro i y zs σ H5 hy ⟨⟨v1,v2,rfl⟩,rfl,hi,hO5,s5⟩
    rw[Qi]at hy
    cases hz:us[i]? with
    | none=>rw[hz]at hy;cases hy
    | some u =>
    rw[hz]at hy
    cases hy
    have hil:i<us.length:=(Qc.mp hz).1
    have hum:=Qq hz
    obtain⟨d,hd,hu0,hdg,_⟩:=Zcy htw (Qm (f:=fun u:Addr×Zaj=>u.2) hum)
    obtain⟨b,hb⟩:∃b,bs[u.2.1.toNat]? = some b:=⟨_,Qb (by rw[hbo];exact(Qc.mp hd).1)⟩
    have hbd:=hrd4.get hb hd
    have hul:=Qa (as:=us) (fun u:Addr×Zaj=>u.2)
    refine⟨u.1,_,rfl,SqT.of (s5 _ _ (hus u hum)),rfl,_,_,rfl,_,_,rfl,rfl,?_⟩
    refine⟨_,rfl,_,rfl,xw4 D _ _ _ ⟨rfl,rfl,SqL.of (s5 _ _ hD4),Zkt hu0 hb,_,rfl,xw4 b _ _ _ ⟨rfl,rfl,SqL.of (s5 _ _ hbd),Z3 (by rw[Qi,hdg];rfl),hO5,(by rw[Qa,Qa,Qa,Qz,sizeLine_eq];omega),⟨_,_,rfl⟩,?_,hil,Zb,fun c o hc=>?_⟩⟩⟩
    ·rw[QH,hz,Qe,Qe,Qe];rfl
    ·rw[Ze (Zc hc hO)];exact s5 c o hc
   rintro zs σ H5 ⟨⟨v1,v2,rfl⟩,rfl,_,hO5,s5⟩
   rw[Qa,Qx (Qh _)]at hO5
   have s05:=s2.trans (s24.trans s5)
   exact q O _ H5 ((s2.trans s24).free hO) hO5 (.node hpt ⟨_,_,htw,hln2,rfl⟩) s05
theorem Zqj{x y:Str}(h:cds x=cds y):x=y:=by
 obtain⟨x⟩:=x
 obtain⟨y⟩:=y
 have:x=y:=Array.ext' h
 rw[this]
theorem ZfQ{ss:List Str}{g:List Int}{n:Int}(h:Ris ss g)(hl:∀x,g.getLast? = some x→ZM (kk (ks ss x)) (kk (ks ss n))=true):Ris ss (g++[n]):=fun p x y hx hy=>by
 have hpl:=(Qc.mp hy).1
 rw[Qg,Qk]at hpl
 rw[QS (by omega)]at hx
 by_cases e:p+1<g.length
 ·rw[QS e]at hy
  exact h p x y hx hy
 ·rw[QN (by omega),show p+1-g.length=0 by omega]at hy
  cases hy
  refine hl x ?_
  rw[List.getLast?_eq_getElem?,show g.length-1=p by omega]
  exact hx
theorem ZlW{ss:List Str}{n:Int}{c:Nat}(hn:n<c)(h:¬ ltK ss (c:Int) n):ZM (kk (ks ss n)) (kk (ks ss (c:Int)))=true:=by
 cases hb:ZM (kk (ks ss n)) (kk (ks ss (c:Int))) with
 | true=>rfl
 | false =>
  have h2:ZM (kk (ks ss (c:Int))) (kk (ks ss n))=false:=by
   unfold kk
   rw[Z9]
   by_cases e:(Sum.inr (ks ss (c:Int)).1:Key)=Sum.inr (ks ss n).1
   ·rw[if_pos e,Z9,if_neg (by intro z;have:=Sum.inl.inj z;show False;simp only[ks]at this;omega)]
    exact decide_eq_false (by show ¬ ((c:Int)<n);omega)
   ·rw[if_neg e]
    exact decide_eq_false h
  have:=ZhR (Zbp _ _ hb h2)
  have:=congrArg Prod.snd this
  simp only[ks]at this
  omega
def ZhV(ss:List Str)(d:List Int):Prop:=d≠[]∧Ris ss d∧∀n∈d,0≤n∧n<ss.length
theorem ZfN{ss:List Str}{A B:List Int}{n:Int}(hl:Zd9 ss A n)(nd:(A++B).Nodup):∀a∈A.erase n,ZM (kk (ks ss n)) (kk (ks ss a))=true:=fun a ha=>by
 have hA:=(QW.mp nd).1
 have hne:a≠n:=((List.Nodup.mem_erase_iff hA).mp ha).1
 cases hb:ZM (kk (ks ss n)) (kk (ks ss a)) with
 | true=>rfl
 | false=>exact absurd (congrArg Prod.snd (ZhR (Zbp _ _ (hl.2 a (Qy ha)) hb))) hne
theorem Zgd{A B:List Int}{n:Int}(nd:(A++B).Nodup):(A.erase n++B).Nodup:=by
 have h:=QW.mp nd
 exact QW.mpr ⟨h.1.erase n,h.2.1,fun x hx y hy=>h.2.2 x (Qy hx) y hy⟩
theorem ZmU{ss:List Str}{A B:List Int}{c:Nat}{gone:List Int}{done R:List (List Int)}(h:Res ss A B c gone done R):(A++B).Nodup→(∀n∈A++B,0≤n∧n<(c:Int))→c≤ss.length→(∀d∈done,ZhV ss d)→Ris ss gone→(∀n∈gone,0≤n∧n<ss.length)→(∀x,gone.getLast? = some x→∀a∈A,ZM (kk (ks ss x)) (kk (ks ss a))=true)→(A=[]→B≠[]→gone≠[])→∀d∈R,ZhV ss d:=by
 induction h with
 | stop0=>intro _ _ _ hd _ _ _ _;exact hd
 | stop =>
  intro _ _ _ hd hr hm _ _ d hdm
  rcases Qf.mp hdm with h|h
  ·exact hd d h
  ·rw[Qd.mp h];exact⟨by simp,hr,hm⟩
 | switch _ ih =>
  intro nd mem hc hd hr hm _ go
  refine ih (by simpa using nd) (by simpa using mem) hc (fun d hdm=>?_) (fun p x y hx=>by simp at hx) (fun n hn=>by cases hn) (fun x hx=>by simp at hx) (fun z=>by cases z)
  rcases Qf.mp hdm with h|h
  ·exact hd d h
  ·rw[Qd.mp h];exact⟨go rfl (by simp),hr,hm⟩
 | stepN l hcN _ ih =>
  intro nd mem hc hd hr hm last go
  have hn:=mem _ (Qr _ l.1)
  refine ih (Zgd nd) (fun m hm'=>mem m ?_) hc hd (ZfQ hr (fun x hx=>last x hx _ l.1)) (fun m hm'=>?_) (fun x hx=>?_) (fun _ _=>by simp)
  ·rcases Qf.mp hm' with h|h
   ·exact Qr _ (Qy h)
   ·exact Qn _ h
  ·rcases Qf.mp hm' with h|h
   ·exact hm m h
   ·rw[Qd.mp h];omega
  ·rw[List.getLast?_concat]at hx
   cases hx
   exact ZfN l nd
 | @stepA A B c gone done R n l hcN hlt _ ih =>
  intro nd mem hc hd hr hm last go
  have hn:=mem _ (Qr _ l.1)
  refine ih ?_ (fun m hm'=>?_) hcN hd (ZfQ hr (fun x hx=>last x hx _ l.1)) (fun m hm'=>?_) (fun x hx=>?_) (fun _ _=>by simp)
  ·have e:=QW.mp (Zgd (n:=n) nd)
   refine QW.mpr ⟨QW.mpr ⟨e.1,by simp,fun x hx y hy=>?_⟩,e.2.1,fun x hx y hy=>?_⟩
   ·have:=mem x (Qr _ (Qy hx));rw[Qd.mp hy];omega
   ·rcases Qf.mp hx with hx|hx
    ·exact e.2.2 x hx y hy
    ·have:=mem y (Qn _ hy);rw[Qd.mp hx];omega
  ·have:m∈A++B∨m=(c:Int):=by
    simp only[List.mem_append,List.mem_singleton]at hm' ⊢
    rcases hm' with(h|h)|h
    ·exact .inl (.inl (Qy h))
    ·exact .inr h
    ·exact .inl (.inr h)
   rcases this with h|h
   ·have:=mem m h;omega
   ·omega
  ·rcases Qf.mp hm' with h|h
   ·exact hm m h
   ·rw[Qd.mp h];omega
  ·rw[List.getLast?_concat]at hx
   cases hx
   intro a ha
   rcases Qf.mp ha with ha|ha
   ·exact ZfN l nd a ha
   ·rw[Qd.mp ha];exact ZlW hn.2 hlt
 | @stepB A B c gone done R n l hcN hlt _ ih =>
  intro nd mem hc hd hr hm last go
  have hn:=mem _ (Qr _ l.1)
  refine ih ?_ (fun m hm'=>?_) hcN hd (ZfQ hr (fun x hx=>last x hx _ l.1)) (fun m hm'=>?_) (fun x hx=>?_) (fun _ _=>by simp)
  ·have e:=QW.mp (Zgd (n:=n) nd)
   refine QW.mpr ⟨e.1,QW.mpr ⟨e.2.1,by simp,fun x hx y hy=>?_⟩,fun x hx y hy=>?_⟩
   ·have:=mem x (Qn _ hx);rw[Qd.mp hy];omega
   ·rcases Qf.mp hy with hy|hy
    ·exact e.2.2 x hx y hy
    ·have:=mem x (Qr _ (Qy hx));rw[Qd.mp hy];omega
  ·have:m∈A++B∨m=(c:Int):=by
    simp only[List.mem_append,List.mem_singleton]at hm' ⊢
    rcases hm' with h|h|h
    ·exact .inl (.inl (Qy h))
    ·exact .inl (.inr h)
    ·exact .inr h
   rcases this with h|h
   ·have:=mem m h;omega
   ·omega
  ·rcases Qf.mp hm' with h|h
   ·exact hm m h
   ·rw[Qd.mp h];omega
  ·rw[List.getLast?_concat]at hx
   cases hx
   exact ZfN l nd
theorem Zmb(n:Nat):(first n).Nodup:=by
 unfold first ZT
 refine QaL _ (fun a b h=>?_) List.nodup_range
 intro z
 exact h (by omega)
theorem Zg4{ss:List Str}{k:Nat}(hk:k≤ss.length){R:List (List Int)}(h:Res ss (first k) [] k [] [] R):∀d∈R,ZhV ss d :=
 ZmU h (by rw[QR];exact Zmb k) (by rw[QR];exact fun n hn=>Zd2 hn) hk (fun d h=>by cases h) (fun p x y hx=>by simp at hx) (fun n h=>by cases h) (fun x hx=>by simp at hx) (fun _ z=>absurd rfl z)
theorem Ris.far{ss:List Str}{ns:List Int}(h:Ris ss ns):∀ (d p:Nat) (x y:Int),ns[p]? = some x→ns[p+d+1]? = some y→ZM (kk (ks ss x)) (kk (ks ss y))=true
 | 0,p,x,y,hx,hy=>h p x y hx hy
 | d+1,p,x,y,hx,hy=>by
  have hl:p+d+1<ns.length:=by have:=(Qc.mp hy).1;omega
  have hz:=Qb hl
  exact ZbP _ _ _ (h.far d p x _ hx hz) (h (p+d+1) _ _ hz hy)
theorem Ris.pw{ss:List Str}{ns:List Int}(h:Ris ss ns):ns.Pairwise fun x y=>ZM (kk (ks ss x)) (kk (ks ss y))=true:=by
 refine List.pairwise_iff_getElem.mpr fun i j hi hj hij=>?_
 exact h.far (j-i-1) i _ _ (Qb hi) (by rw[show i+(j-i-1)+1=j by omega];exact Qb hj)
theorem Zov{ss:List Str}{x y:Int}(h:ZM (kk (ks ss x)) (kk (ks ss y))=true):LeS (ss.getD x.toNat "") (ss.getD y.toNat ""):=by
 by_cases e:ss.getD x.toNat "" = ss.getD y.toNat ""
 ·rw[e];exact LeS.refl _
 ·unfold kk at h
  rw[Z9,if_neg (show ¬ (Sum.inr (ks ss x).1:Key)=Sum.inr (ks ss y).1 from fun z=>e (Sum.inr.inj z))]at h
  have h':cds (ss.getD x.toNat "")<cds (ss.getD y.toNat ""):=of_decide_eq_true h
  have:=(ZbI _ _).mp h'
  exact Zjy (by omega)
theorem Zny{ss:List Str}{d:List Int}(h:d.Pairwise fun x y=>ZM (kk (ks ss x)) (kk (ks ss y))=true):sortedS (Zbu ss d)=true:=(ZcW _).mpr (QaO.mpr (h.imp fun h=>Zov h))
theorem Zoy{ss:List Str}{A B:List Int}{c:Nat}{gone:List Int}{done R:List (List Int)}(h:Res ss A B c gone done R):c≤ss.length→(R.map List.length).sum≤(done.map List.length).sum+gone.length+A.length+B.length+(ss.length-c):=by
 induction h with
 | stop0=>intro _;omega
 | stop=>intro _;rw[Qe,Qal,Qj,Qac,Q0,List.sum_nil];omega
 | switch _ ih =>
  intro hc
  have:=ih hc
  rw[Qe,Qal,Qj,Qac,Q0,List.sum_nil,List.length_nil]at this
  rw[List.length_nil]
  omega
 | stepN l _ _ ih =>
  intro hc
  have:=ih hc
  rw[Qg,Qk,Q9 l.1]at this
  have:=Q1 l.1
  omega
 | stepA l hcl _ _ ih =>
  intro hc
  have:=ih (by omega)
  rw[Qg,Qg,Qk,Qk,Q9 l.1]at this
  have:=Q1 l.1
  omega
 | stepB l hcl _ _ ih =>
  intro hc
  have:=ih (by omega)
  rw[Qg,Qg,Qk,Qk,Q9 l.1]at this
  have:=Q1 l.1
  omega
theorem ZfV{ss:List Str}{k:Nat}(hk:k≤ss.length){R:List (List Int)}(h:Res ss (first k) [] k [] [] R):(R.map List.length).sum≤ss.length:=by
 have:=Zoy h hk
 rw[Zcb,List.length_nil]at this
 simp at this
 omega
theorem Zka:∀R:List (List Int),(∀d∈R,d≠[])→R.length≤(R.map List.length).sum
 | [],_=>Qh _
 | d::R,h=>by
  have:=Zka R fun x hx=>h x (Qu _ hx)
  have:=QaE.mpr (h d (by simp))
  rw[Qj,Q0,QD]
  omega
def LtT(u v:Zaj):Prop:=ZF (cds u.2.2) (cds v.2.2)<0∨(u.2.2=v.2.2∧(u.1<v.1∨(u.1=v.1∧u.2.1<v.2.1)))
theorem ZeZ{a b:Str}(h:LeS a b):ZF (cds a) (cds b)<0∨a=b:=by
 by_cases e:ZF (cds a) (cds b)<0
 ·exact .inl e
 ·refine .inr (h.anti fun z=>e ((ZbI _ _).mp z))
theorem Zng{ss:List Str}(h:sortedS ss=true){i j:Nat}(hij:i≤j){x y:Str}(hx:ss[i]? = some x)(hy:ss[j]? = some y):LeS x y:=by
 rcases Nat.lt_or_eq_of_le hij with hlt|rfl
 ·have p:=(ZcW _).mp h
  obtain⟨h1,e1⟩:=Qc.mp hx
  obtain⟨h2,e2⟩:=Qc.mp hy
  rw[← e1,← e2]
  exact Q7.mp p i j h1 h2 hlt
 ·rw[Qp (hx.symm.trans hy)];exact LeS.refl _
theorem ZhA{a b c:Str}(h:ZF (cds a) (cds b)<0)(g:LeS b c):ZF (cds a) (cds c)<0:=by
 rcases ZeZ g with g|rfl
 ·have h1:=ZbJ _ _ _ (Int.le_of_lt h) (Int.le_of_lt g)
  by_cases e:ZF (cds a) (cds c)=0
  ·have e2:=ZcI _ _ e
   rw[← e2]at g
   have:=Zax (cds a) (cds b)
   omega
  ·omega
 ·exact h
theorem TkW.lt{P P':List ZH}{ts:List Zaj}(h:TkW P ts P')(nd:(ZaM P).Nodup)(srt:Zjl P):ts.Pairwise LtT∧∀u∈ts,∀x∈P',∀ (k:Nat) (y:Str),x.2.2≤k→x.2.1[k]? = some y→LtT u (x.1,k,y):=by
 induction h with
 | nil=>exact⟨List.Pairwise.nil,fun u hu=>by cases hu⟩
 | snoc h s ih =>
  rename_i ts P1 x z
  obtain⟨i1,i2⟩:=ih
  have nd1:(ZaM P1).Nodup:=by rw[h.num];exact nd
  have srt1:=(h.srt nd srt).1
  obtain⟨hx,hz,W⟩:=s
  obtain⟨_,zc,hzc,hall⟩:=W
  rw[Zgi nd1 hx,hz]at hzc
  have hzc':cds z=zc:=Qp hzc
  subst hzc'
  refine⟨Qay.mpr ⟨i1,QY _ _,fun u hu v hv=>?_⟩,fun u hu w hw k y hk hy=>?_⟩
  ·rw[Qd.mp hv]
   exact i2 u hu x hx x.2.2 z (Qh _) hz
  ·obtain⟨w0,hw0,rfl⟩:=Qt.mp hw
   have e1:(Zam x.1 w0).1=w0.1:=by unfold Zam;split<;>rfl
   have e2:(Zam x.1 w0).2.1=w0.2.1:=by unfold Zam;split<;>rfl
   have e3:w0.2.2≤(Zam x.1 w0).2.2:=by unfold Zam;split<;>simp
   rw[e2]at hy
   rw[e1]
   rcases Qf.mp hu with hu|hu
   ·exact i2 u hu w0 hw0 k y (QP e3 hk) hy
   ·rw[Qd.mp hu]
    by_cases hn:w0.1=x.1
    ·have:=Zdf nd1 hw0 hx hn
     subst this
     have hk':w0.2.2+1≤k:=by
      have:(Zam w0.1 w0).2.2=w0.2.2+1:=by unfold Zam;rw[if_pos rfl]
      omega
     rcases ZeZ (Zng (srt1 w0 hw0) (by omega) hz hy) with g|g
     ·exact .inl g
     ·exact .inr ⟨g,.inr ⟨rfl,hk'⟩⟩
    ·have hk':w0.2.2≤k:=QP e3 hk
     obtain⟨hkl,_⟩:=Qc.mp hy
     obtain⟨hd,hhd⟩:∃hd,w0.2.1[w0.2.2]? = some hd:=⟨_,Qb (by omega)⟩
     have hle:=Zng (srt1 w0 hw0) hk' hhd hy
     have hd':=Zgi nd1 hw0
     rw[hhd]at hd'
     rcases hall w0.1 (Qm (f:=fun x:ZH=>x.1) hw0) _ hd' with e|b
     ·exact absurd e hn
     ·rcases b with b|⟨b,bl⟩
      ·exact .inl (ZhA b hle)
      ·have ez:z=hd:=Zqj (ZcI _ _ b)
       rw[ez]
       rcases ZeZ hle with g|g
       ·exact .inl g
       ·exact .inr ⟨g,.inl bl⟩
theorem TkW.cnt{R:List (List Str)}{ts:List Zaj}{P:List ZH}(h:TkW (ZdL R) ts P):∀x∈P,(ts.filter fun u=>decide (u.1=x.1)).map (·.2.1)=List.range x.2.2:=by
 induction h with
 | nil =>
  intro x hx
  obtain⟨_,_,_,e⟩:=Zdx hx
  rw[e];rfl
 | snoc h s ih =>
  rename_i ts P1 x z
  intro w hw
  have nd1:(ZaM P1).Nodup:=by rw[h.num];exact Zdd _
  obtain⟨w0,hw0,rfl⟩:=Qt.mp hw
  have e1:(Zam x.1 w0).1=w0.1:=by unfold Zam;split<;>rfl
  rw[e1,List.filter_append,Qe,ih w0 hw0]
  by_cases hn:w0.1=x.1
  ·have:=Zdf nd1 hw0 s.1 hn
   subst this
   have e2:(Zam w0.1 w0).2.2=w0.2.2+1:=by unfold Zam;rw[if_pos rfl]
   rw[e2,Qag]
   simp
  ·have e2:(Zam x.1 w0).2.2=w0.2.2:=by unfold Zam;rw[if_neg hn]
   rw[e2]
   have:¬ x.1=w0.1:=fun z=>hn z.symm
   simp[this]
theorem Put.sub{ss:List Str}{R:List (List Int)}{out:List Int}(h:Put ss R out):∀d∈R,d.Sublist out:=fun d hd=>by
 obtain⟨ts,P,h1,h2,rfl⟩:=h
 obtain⟨i,hi⟩:=Qao hd
 have hl:=h1.left (Zdd _)
 rw[Zhq,ZeG]at hl
 have h0:Za3 P=0:=by omega
 have hnum:=h1.num
 obtain⟨x,hx,ex⟩:∃x∈P,x.1=(i:Int):=by
  have:(i:Int)∈ZaM P:=by
   rw[hnum,ZiF,Qa]
   unfold ZT
   exact Qt.mpr ⟨i,QX.mpr (Qc.mp hi).1,by omega⟩
  obtain⟨x,hx,e⟩:=Qt.mp this
  exact⟨x,hx,e⟩
 obtain⟨y,hy,e1,e2⟩:=h1.row x hx
 obtain⟨j,hj,hR,_⟩:=Zdx hy
 have hij:j=i:=by omega
 subst hij
 rw[Qi,hi]at hR
 have hxk:x.2.1=Zbu ss d:=by rw[← e2];exact(Qp hR).symm
 have hxl:x.2.1.length=d.length:=by rw[hxk];unfold Zbu;rw[Qa]
 have hge:d.length≤x.2.2:=by
  have:=List.flatMap_eq_nil_iff.mp (ZkH h0) x hx
  have:=List.drop_eq_nil_iff.mp this
  omega
 have hc:=h1.cnt x hx
 have hle:x.2.2≤d.length:=by
  by_cases hz:x.2.2=0
  ·omega
  ·have hm:x.2.2-1∈List.range x.2.2:=QX.mpr (by omega)
   rw[← hc]at hm
   obtain⟨u,hu,eu⟩:=Qt.mp hm
   obtain⟨hu1,hu2⟩:=List.mem_filter.mp hu
   obtain⟨d',hd',_,hg,_⟩:=Zcy h1 hu1
   have eu1:u.1=x.1:=of_decide_eq_true hu2
   have:u.1.toNat=j:=by rw[eu1,ex];rfl
   rw[this,hi]at hd'
   have:d=d':=Qp hd'
   subst this
   have:=(Qc.mp hg).1
   omega
 have he:x.2.2=d.length:=by omega
 have hsub:((ts.filter fun u=>decide (u.1=x.1)).map (Zab R)).Sublist (ts.map (Zab R)):=List.Sublist.map _ List.filter_sublist
 have heq:(ts.filter fun u=>decide (u.1=x.1)).map (Zab R)=d:=by
  have e3:(ts.filter fun u=>decide (u.1=x.1)).map (Zab R)=((ts.filter fun u=>decide (u.1=x.1)).map (·.2.1)).map fun g=>d.getD g 0:=by
   rw[QA]
   refine QK fun u hu=>?_
   have eu1:u.1=x.1:=of_decide_eq_true (List.mem_filter.mp hu).2
   unfold Zab
   have:u.1.toNat=j:=by rw[eu1,ex];rfl
   rw[this]
   show ((R.getD j []).getD u.2.1 0)=d.getD u.2.1 0
   rw[Ql (l:=R),hi];rfl
  rw[e3,hc,he]
  refine Qaf fun k=>?_
  rw[Qi]
  by_cases hk:k<d.length
  ·rw[Qai hk,Qb hk]
   simp[List.getD_eq_getElem?_getD,List.getElem?_eq_getElem hk]
  ·rw[QE (by rw[Qaw];omega),QE (by omega)]
   rfl
 rw[heq]at hsub
 exact hsub
def ZgE(R:List (List Int))(P:List ZH):List Int:=P.flatMap fun x=>(R.getD x.1.toNat []).drop x.2.2
theorem Zg6(R:List (List Int)):∀ (P:List ZH),(ZaM P).Nodup→∀ {x:ZH} {n:Int},x∈P→(R.getD x.1.toNat [])[x.2.2]? = some n→(n::ZgE R (ZbA P x.1)).Perm (ZgE R P)
 | [],_,_,_,h,_=>by cases h
 | y::P,nd,x,n,h,hn=>by
  unfold ZaM at nd
  rw[Qj,Q3]at nd
  unfold ZgE ZbA
  rw[Qj,QaP,QaP]
  rcases QI.mp h with rfl|h
  ·have e:P.map (Zam x.1)=P:=by
    conv=>rhs;rw[← List.map_id P]
    refine QK fun u hu=>?_
    unfold Zam
    rw[if_neg (fun z:u.1=x.1=>nd.1 (z ▸ Qm (f:=fun x:ZH=>x.1) hu))]
    rfl
   obtain⟨hlt,en⟩:=Qc.mp hn
   rw[e,List.drop_eq_getElem_cons hlt,en]
   unfold Zam
   rw[if_pos rfl]
   exact Qap _
  ·have ih:=Zg6 R P nd.2 h hn
   unfold ZgE ZbA at ih
   have e:Zam x.1 y=y:=if_neg (fun z:y.1=x.1=>nd.1 (z ▸ Qm (f:=fun x:ZH=>x.1) h))
   rw[e]
   exact List.perm_middle.symm.trans (ih.append_left _)
theorem Put.perm{ss:List Str}{R:List (List Int)}{out:List Int}(h:Put ss R out):out.Perm R.flatten:=by
 obtain⟨ts,P,h1,h2,rfl⟩:=h
 have key:∀ {ts:List Zaj} {P:List ZH},TkW (ZdL (R.map (Zbu ss))) ts P→(ts.map (Zab R)++ZgE R P).Perm (ZgE R (ZdL (R.map (Zbu ss)))):=by
  intro ts P h
  induction h with
  | nil=>exact Qap _
  | snoc h s ih =>
   rename_i ts P1 x z
   have nd1:(ZaM P1).Nodup:=by rw[h.num];exact Zdd _
   have hp:=Zcy (TkW.snoc h s) (u:=(x.1,x.2.2,z)) (Qn _ (Qd.mpr rfl))
   obtain⟨d,hd,_,hg,_⟩:=hp
   have hR:(R.getD x.1.toNat [])[x.2.2]? = some (Zab R (x.1,x.2.2,z)):=by
    have:R.getD x.1.toNat []=d:=by rw[Ql];show (R[x.1.toNat]?).getD []=d;rw[hd];rfl
    rw[this];exact hg
   rw[Qe,Qae]
   exact((Zg6 R P1 nd1 s.1 hR).append_left _).trans ih
 have hl:=h1.left (Zdd _)
 rw[Zhq,ZeG]at hl
 have h0:Za3 P=0:=by omega
 have hr0:ZgE R P=[]:=by
  unfold ZgE
  refine List.flatMap_eq_nil_iff.mpr fun x hx=>?_
  have h3:=List.drop_eq_nil_iff.mp (List.flatMap_eq_nil_iff.mp (ZkH h0) x hx)
  obtain⟨y,hy,e1,e2⟩:=h1.row x hx
  obtain⟨j,hj,hR,_⟩:=Zdx hy
  rw[Qi]at hR
  cases hd:R[j]? with
  | none=>rw[hd]at hR;cases hR
  | some d =>
   rw[hd]at hR
   have e4:Zbu ss d=x.2.1:=by rw[← e2];exact Qp hR
   have e5:x.1.toNat=j:=by rw[← e1,hj];rfl
   refine List.drop_eq_nil_iff.mpr ?_
   rw[e5,Ql,hd]
   show d.length≤_
   rw[← e4]at h3
   unfold Zbu at h3
   rwa [Qa]at h3
 have hk:=key h1
 rw[hr0,QR]at hk
 refine hk.trans ?_
 have e:ZgE R (ZdL (R.map (Zbu ss)))=R.flatten:=by
  unfold ZgE
  rw[List.flatMap_def]
  congr 1
  refine Qaf fun i=>?_
  rw[Qi,ZiW,Qi]
  cases hR:R[i]? with
  | none=>rfl
  | some d =>
   show some (((R.getD ((i:Int).toNat) []).drop 0))=some d
   rw[Qad,Ql,hR];rfl
 rw[e]
theorem Put.ris{ss:List Str}{R:List (List Int)}{out:List Int}(h:Put ss R out)(hr:∀d∈R,d.Pairwise fun x y=>ZM (kk (ks ss x)) (kk (ks ss y))=true)(ha:R.Pairwise fun d e=>∀b∈d,∀a∈e,ss.getD a.toNat "" = ss.getD b.toNat ""→b<a):out.Pairwise fun x y=>ZM (kk (ks ss x)) (kk (ks ss y))=true:=by
 obtain⟨ts,P,h1,h2,rfl⟩:=h
 have hs:∀d∈R.map (Zbu ss),sortedS d=true:=fun d hd=>by
  obtain⟨x,hx,rfl⟩:=Qt.mp hd
  exact Zny (hr x hx)
 have hlt:=(h1.lt (Zdd _) (Zil hs)).1
 refine QaO.mpr ((List.pairwise_iff_forall_sublist.mpr fun {u v} huv=>?_))
 have hu:u∈ts:=huv.subset (by simp)
 have hv:v∈ts:=huv.subset (by simp)
 have huv':LtT u v:=List.pairwise_iff_forall_sublist.mp hlt huv
 obtain⟨d,hd,u0,ud,uk⟩:=Zcy h1 hu
 obtain⟨e,he,v0,ve,vk⟩:=Zcy h1 hv
 rcases huv' with g|⟨g1,g2⟩
 ·unfold kk
  rw[Z9,if_neg (show ¬ (Sum.inr (ks ss (Zab R u)).1:Key)=Sum.inr (ks ss (Zab R v)).1 from fun z=>by
   have z':ss.getD (Zab R u).toNat "" = ss.getD (Zab R v).toNat "":=Sum.inr.inj z
   rw[uk,vk]at z'
   rw[z',ZcO]at g
   omega)]
  refine decide_eq_true ?_
  show cds (ss.getD (Zab R u).toNat "")<cds (ss.getD (Zab R v).toNat "")
  rw[uk,vk]
  exact(ZbI _ _).mpr g
 ·have ek:ss.getD (Zab R u).toNat "" = ss.getD (Zab R v).toNat "":=by rw[uk,vk,g1]
  have hnum:Zab R u<Zab R v:=by
   rcases g2 with g2|⟨g2,g3⟩
   ·have hij:u.1.toNat<v.1.toNat:=by omega
    obtain⟨l1,m1⟩:=Qc.mp hd
    obtain⟨l2,m2⟩:=Qc.mp he
    have:=Q7.mp ha _ _ l1 l2 hij
    rw[m1,m2]at this
    exact this _ (Qq ud) _ (Qq ve) ek.symm
   ·have e1:u.1.toNat=v.1.toNat:=by rw[g2]
    rw[e1,he]at hd
    have:e=d:=Qp hd
    subst this
    obtain⟨l1,m1⟩:=Qc.mp ud
    obtain⟨l2,m2⟩:=Qc.mp ve
    have hx:=Q7.mp (hr e (Qq he)) _ _ l1 l2 g3
    rw[m1,m2]at hx
    unfold kk at hx
    rw[Z9,if_pos (show (Sum.inr (ks ss (Zab R u)).1:Key)=Sum.inr (ks ss (Zab R v)).1 from congrArg Sum.inr ek),Z9]at hx
    split at hx
    ·cases hx
    ·exact of_decide_eq_true hx
  unfold kk
  rw[Z9,if_pos (show (Sum.inr (ks ss (Zab R u)).1:Key)=Sum.inr (ks ss (Zab R v)).1 from congrArg Sum.inr ek),Z9,if_neg (show ¬ (Sum.inl (ks ss (Zab R u)).2:Key)=Sum.inl (ks ss (Zab R v)).2 from fun z=>by
   have z':Zab R u=Zab R v:=Sum.inl.inj z
   omega)]
  exact decide_eq_true hnum
abbrev Zd7(ss:List Str)(d:List Int):Prop:=d.Pairwise fun x y=>ZM (kk (ks ss x)) (kk (ks ss y))=true
abbrev ApP(ss:List Str)(d e:List Int):Prop:=∀b∈d,∀a∈e,ss.getD a.toNat "" = ss.getD b.toNat ""→b<a
def lvR(R:List (List Int))(lv:List Int):List (List Int):=lv.map fun i=>R.getD i.toNat []
theorem Zfq(R:List (List Int))(a b:List Int):lvR R (a++b)=lvR R a++lvR R b:=by unfold lvR;rw[Qe]
mutual
theorem Zc7.srt{ss:List Str}{R:List (List Int)}(hr:∀d∈R,Zd7 ss d):∀ {t:PT} {o:List Int},Zc7 ss R t o→(lvR R (tLv t)).Pairwise (ApP ss)→Zd7 ss o∧o.Perm (lvR R (tLv t)).flatten
 | .leaf i,_,.leaf,_=>by
  refine⟨?_,?_⟩
  ·rw[Ql]
   cases hx:R[i.toNat]? with
   | none=>exact List.Pairwise.nil
   | some d=>exact hr d (Qq hx)
  ·show (R.getD i.toNat []).Perm ([R.getD i.toNat []].flatten)
   rw[QaQ,List.flatten_nil,QR]
 | .node l,o,.node h p,ha=>by
  obtain⟨a,b,c⟩:=Zat.srt hr h ha
  exact⟨p.ris a b,p.perm.trans c⟩
theorem Zat.srt{ss:List Str}{R:List (List Int)}(hr:∀d∈R,Zd7 ss d):∀ {l:List PT} {os:List (List Int)},Zat ss R l os→(lvR R (ZaY l)).Pairwise (ApP ss)→(∀o∈os,Zd7 ss o)∧os.Pairwise (ApP ss)∧os.flatten.Perm (lvR R (ZaY l)).flatten
 | [],_,.nil,_=>⟨fun o h=>(by cases h),List.Pairwise.nil,Qap _⟩
 | t::l,_,.cons (o:=o) (os:=os) h hs,ha=>by
  have ha':(lvR R (tLv t)++lvR R (ZaY l)).Pairwise (ApP ss):=by rw[← Zfq];exact ha
  obtain⟨a1,a2,a3⟩:=List.pairwise_append.mp ha'
  obtain⟨p1,p2⟩:=Zc7.srt hr h a1
  obtain⟨q1,q2,q3⟩:=Zat.srt hr hs a2
  refine⟨fun x hx=>?_,List.pairwise_cons.mpr ⟨fun e he b hb x hx=>?_,q2⟩,?_⟩
  ·rcases QI.mp hx with rfl|hx
   ·exact p1
   ·exact q1 x hx
  ·obtain⟨d1,hd1,hb1⟩:=List.mem_flatten.mp (p2.mem_iff.mp hb)
   obtain⟨d2,hd2,hx2⟩:=List.mem_flatten.mp (q3.mem_iff.mp (List.mem_flatten.mpr ⟨e,he,hx⟩))
   exact a3 d1 hd1 d2 hd2 b hb1 x hx2
  ·show (o++os.flatten).Perm (lvR R (tLv t++ZaY l)).flatten
   rw[Zfq,List.flatten_append]
   exact p2.append q3
end
mutual
theorem Zc7.any{ss:List Str}{R:List (List Int)}:∀ {t:PT} {o:List Int},Zc7 ss R t o→o.Perm (lvR R (tLv t)).flatten∧∀d∈lvR R (tLv t),d.Sublist o
 | .leaf i,_,.leaf=>by
  refine⟨?_,fun d hd=>?_⟩
  ·show (R.getD i.toNat []).Perm ([R.getD i.toNat []].flatten)
   rw[QaQ,List.flatten_nil,QR]
  ·have:d=R.getD i.toNat []:=Qd.mp hd
   rw[this];exact List.Sublist.refl _
 | .node l,o,.node h p=>by
  obtain⟨a,b⟩:=Zat.any h
  refine⟨p.perm.trans a,fun d hd=>?_⟩
  obtain⟨x,hx,hs⟩:=b d hd
  exact hs.trans (p.sub x hx)
theorem Zat.any{ss:List Str}{R:List (List Int)}:∀ {l:List PT} {os:List (List Int)},Zat ss R l os→os.flatten.Perm (lvR R (ZaY l)).flatten∧∀d∈lvR R (ZaY l),∃o∈os,d.Sublist o
 | [],_,.nil=>⟨Qap _,fun d h=>by cases h⟩
 | t::l,_,.cons (o:=o) (os:=os) h hs=>by
  obtain⟨p1,p2⟩:=Zc7.any h
  obtain⟨q1,q2⟩:=Zat.any hs
  refine⟨?_,fun d hd=>?_⟩
  ·show (o++os.flatten).Perm (lvR R (tLv t++ZaY l)).flatten
   rw[Zfq,List.flatten_append]
   exact p1.append q1
  ·have hd':d∈lvR R (tLv t)++lvR R (ZaY l):=by rw[← Zfq];exact hd
   rcases Qf.mp hd' with hd'|hd'
   ·exact⟨o,Q4 ..,p2 d hd'⟩
   ·obtain⟨x,hx,hs'⟩:=q2 d hd'
    exact⟨x,Qu _ hx,hs'⟩
end
theorem ZhP(R:List (List Int)):lvR R (ZT 0 R.length)=R:=by
 unfold lvR
 refine Qaf fun i=>?_
 unfold ZT
 rw[Qi,Qi]
 by_cases h:i<R.length
 ·rw[Qai h,Qb h]
  simp[List.getD_eq_getElem?_getD,List.getElem?_eq_getElem h]
 ·rw[QE (by rw[Qaw];omega),QE (by omega)]
  rfl
theorem Zfs{ss:List Str}{a b:List Int}(ha:Zd7 ss a)(hb:Zd7 ss b)(p:a.Perm b):a=b:=List.Perm.eq_of_pairwise (fun x y _ _ h1 h2=>by
 have:ZM (kk (ks ss x)) (kk (ks ss x))=true:=ZbP _ _ _ h1 h2
 have h0:=Za7 (kk (ks ss x))
 rw[h0]at this;cases this) ha hb p
theorem ZqN{ss:List Str}{a:List Int}(ha:Zd7 ss a):a.Nodup:=ha.imp fun {x y} h e=>by
 rw[e]at h
 have h0:=Za7 (kk (ks ss y))
 rw[h0]at h;cases h
structure Zo6 (ss:List Str) (R:List (List Int)):Prop where
 rg:∀d∈R,Zhv ss d
 lex:∀d∈R,Zd7 ss d
 ap:R.Pairwise (ApP ss)
 pm:R.flatten.Perm (ZT 0 ss.length)
theorem ZeA:∀R:List (List Int),R.flatten.length=(R.map List.length).sum
 | []=>rfl
 | d::R=>by rw[QaQ,Qg,Qj,Q0,ZeA R]
theorem ZnK(n:Nat):(ZT 0 n).Nodup:=(Zey n).imp fun h=>by omega
theorem ZjZ{ss:List Str}{room:Nat}(hr:1≤room){R:List (List Int)}(h:Res ss (first (min room ss.length)) [] (min room ss.length) [] [] R):Zo6 ss R:=by
 have hg:=Zg4 (QaB _ _) h
 have hs:=ZfV (QaB _ _) h
 have ha:=Zl7 hr h
 have pm:R.flatten.Perm (ZT 0 ss.length):=(ZdE (ZnK _) (fun x hx=>by
  unfold ZT at hx
  obtain⟨m,hm,rfl⟩:=Qt.mp hx
  have:=QX.mp hm
  obtain⟨d,hd,hmd⟩:=ha (0+(m:Int)) (by omega) (by omega)
  exact List.mem_flatten.mpr ⟨d,hd,hmd⟩) (by rw[ZeA,Zao];exact hs)).symm
 have nd:R.flatten.Nodup:=pm.nodup_iff.mpr (ZnK _)
 have dj:=(List.pairwise_flatten.mp nd).2
 refine⟨fun d hd=>⟨(hg d hd).2.2,Zny (hg d hd).2.1.pw⟩,fun d hd=>(hg d hd).2.1.pw,?_,pm⟩
 refine((ZlD h).and dj).imp fun hh b hb a ha' hk=>?_
 obtain⟨h1,h2⟩:=hh
 have hne:b≠a:=h2 b hb a ha'
 by_cases hlt:a<b
 ·exact absurd hk (h1 b hb a ha' hlt)
 ·omega
mutual
theorem ZmD{n:Nat}:∀t:PT,(∀k∈tLv t,0≤k∧k<(n:Nat))→tOk n t
 | .leaf k,h=>h k (Qd.mpr rfl)
 | .node l,h=>ZkB l h
theorem ZkB{n:Nat}:∀l:List PT,(∀k∈ZaY l,0≤k∧k<(n:Nat))→Zli n l
 | [],_=>trivial
 | t::r,h=>⟨ZmD t fun k hk=>h k (Qr _ hk),ZkB r fun k hk=>h k (Qn _ hk)⟩
end
mutual
theorem Znh{w:Nat}(hw:w≤60):∀t:PT,tPl w t→tPl 60 t
 | .leaf _,_=>trivial
 | .node l,h=>⟨h.1,QP h.2.1 hw,ZkD hw l h.2.2⟩
theorem ZkD{w:Nat}(hw:w≤60):∀l:List PT,Zdp w l→Zdp 60 l
 | [],_=>trivial
 | t::r,h=>⟨Znh hw t h.1,ZkD hw r h.2⟩
end
mutual
theorem ZmY{w:Nat}:∀t:PT,tPl w t→tDp t+1≤(tLv t).length
 | .leaf _,_=>Qh _
 | .node l,h=>by
  have h2:2≤l.length:=h.1
  have:=Zj8 l h.2.2 (by omega)
  show ZeD l+1+1≤(ZaY l).length
  omega
theorem Zj8{w:Nat}:∀l:List PT,Zdp w l→1≤l.length→ZeD l+l.length≤(ZaY l).length
 | [],_,h=>absurd h (by decide)
 | t::r,h,_=>by
  have h1:=ZmY t h.1
  have h2:=Zdw w r h.2
  show max (tDp t) (ZeD r)+(r.length+1)≤(tLv t++ZaY r).length
  rw[Qg]
  by_cases hr:r=[]
  ·subst hr
   have:ZeD []=0:=rfl
   simp only[List.length_nil]
   omega
  ·have h3:=Zj8 r h.2 (QaE.mpr hr)
   omega
end
theorem ZoI(n:Nat):ZcE 0 n=ZT 0 n:=by
 unfold ZcE ZT
 rw[Nat.sub_zero]
 refine QK fun i _=>by omega
theorem ZiA{ss:List Str}{R:List (List Int)}(h:Zo6 ss R){ns:List Int}{wy:Nat}{p:Int}{t:PT}(hn:ns.length=R.length)(hw:wy≤6)(g:Gr ns wy 0 ns.length 1 p [t]) :
  tOk R.length t∧tPl 60 t∧wtR R (tLv t)=ss.length∧tDp t+1≤R.length∧tCo ns t=p∧∀out,Zc7 ss R t out→Zd7 ss out∧out.Perm (ZT 0 ss.length):=by
 obtain⟨n1,n2⟩:=g.nf
 have lv:tLv t=ZT 0 R.length:=by
  have:tLv t++[]=ZcE 0 ns.length:=n1
  rw[QR,ZoI,hn]at this
  exact this
 have pl:tPl wy t:=n2.1
 have dp:=ZmY t pl
 rw[lv,Zao]at dp
 refine⟨ZmD t fun k hk=>?_,Znh (by omega) t pl,?_,dp,?_,fun out ho=>?_⟩
 ·rw[lv]at hk
  unfold ZT at hk
  obtain⟨m,hm,rfl⟩:=Qt.mp hk
  have:=QX.mp hm
  omega
 ·rw[lv]
  have e:wtR R (ZT 0 R.length)=((lvR R (ZT 0 R.length)).map List.length).sum:=by unfold wtR lvR;rw[QA];rfl
  rw[e,ZhP,← ZeA,h.pm.length_eq,Zao]
 ·have:tCo ns t+0=p:=g.co
  omega
 ·have:=Zc7.srt h.lex ho (by rw[lv,ZhP];exact h.ap)
  rw[lv,ZhP]at this
  exact⟨this.1,this.2.trans h.pm⟩
def ZbW(R:List (List Int)):List Int:=R.map fun d=>(d.length:Int)
def ZgH(ss:List Str)(R:List (List Int))(wy:Nat)(p:Int):Prop:=(R=[]∧p=0)∨(R≠[]∧∃t,Gr (ZbW R) wy 0 (ZbW R).length 1 p [t])
theorem ZgH.one{ss:List Str}{R:List (List Int)}{wy:Nat}{p q:Int}(h:ZgH ss R wy p)(g:ZgH ss R wy q):p=q:=by
 rcases h with⟨h1,h2⟩|⟨h1,t,h2⟩
 ·rcases g with⟨_,g2⟩|⟨g1,_⟩
  ·rw[h2,g2]
  ·exact absurd h1 g1
 ·rcases g with⟨g1,_⟩|⟨_,u,g2⟩
  ·exact absurd g1 h1
  ·exact ZdK h2 g2
def Zob(K:PySem.W.Frag):Sp:=fun vs H Q _=>∃ (a:Addr) (ss:List Str) (room wy:Nat),vs=[.ref a,.int room,.int wy]∧H a=some (.lst (ss.map V.str))∧ss.length≤60∧(∀s∈ss,s.length≤1000∧AZ s)∧1≤room∧room≤100∧2≤wy∧wy≤6 ∧
 ∀ (t b:Addr) (out:List Int) (p:Int) (R:List (List Int)) (H':Hp),H' t=some (.tup [.ref b,.int p])→H' b=some (.lst (out.map V.int))→Zd7 ss out→out.Perm (ZT 0 ss.length)→Res ss (first (min room ss.length)) [] (min room ss.length) [] [] R→ZgH ss R wy p→Zu H H'→Q (.ref t) H'
theorem Zos(T:Zaf K mg cRow cMerge)(f_runs_of:Df P w K mg base 5 "runs_of" ["things", "room"] (ZjR K))(f_near_plan:Df P w K mg base 4 "near_plan" ["sizes", "ways"] (ZjP K))(f_merged_by:Df P w K mg base (61+17) "merged_by" ["things", "runs", "tree"] (ZqU 61)):Df P w K mg base 79 "sort_by" ["things", "room", "ways"] (Zob K):=by
 refine T.t_sort_by.df Zdi (fun vs H Q E h=>?_) (fun cdv f A outer s H vs Q E hr h=>?_)
 ·obtain⟨a,ss,room,wy,rfl,_⟩:=h
  rfl
 obtain⟨a,ss,room,wy,rfl,ha,h60,hk,r1,r2,w2,w6,q⟩:=h
 refine⟨_,#[Zf,#[Zz,3,Zdi.nd,(Or.inl rfl),#[ZA,f_runs_of,hr,#[Za,‹0›,#[Za,‹1›,#[Zd]]],(by rfl)]],#[Zf,#[ZZ,#[Zo,Za4,#[Zk,(Zbf K),(by rfl),T.b.n_len,Qs,#[Za,‹3›,#[Zd]]],#[Zh],(Zt _)],#[Zj,#[Zn,#[ZN,#[Za,#[Zbg,#[Zd]],#[Za,#[Zh],#[Zd]]]]]],#[ZB]],#[Zf,#[ZaO,#[ZA,f_near_plan,hr,#[Za,#[Zbd,ZkM,#[iL,K,‹3›],(fun _ _ _ _=>#[cg,6,ZkM]),(fun _ _ _ _=>(@ZaH _)),(fun _ _ _ _=>#[Zk,(Zbf K),(Zcd ZkM rfl (by ac_rfl)),T.b.n_len,Qs,#[Za,#[cw,6,ZkM],#[Zd]]])],#[Za,‹2›,#[Zd]]],(by rfl)],#[gT,K,2,#[Zs,#[Zw,4,Zdi.nd],#[Zs,#[Zw,5,Zdi.nd],(@Zal _)]]]],#[Zj,#[Zn,#[ZN,#[Za,#[ZA,f_merged_by,hr,#[Za,‹0›,#[Za,‹3›,#[Za,‹5›,#[Zd]]]],(by rfl)],#[Za,‹4›,#[Zd]]]]]]]]],?_⟩
 refine⟨_,rfl,_,rfl,a,ss,room,rfl,SqL.of ha,h60,fun s hs=>(hk s hs).1,r2,fun r ls R H1 hr0 hr1 hrl hls hrd hres _ _ s1=>?_⟩
 have nr:=ZjZ r1 hres
 have hln:(ls.map V.ref).length=R.length:=by rw[Qa];exact hrd.len
 have hRl:R.length≤60:=by
  have h1:=Zka R fun d hd=>(Zg4 (QaB _ _) hres d hd).1
  have h2:=ZfV (QaB _ _) hres
  omega
 refine⟨_,rfl,r,_,rfl,.inl (SqL.of hr1),?_⟩
 refine⟨rfl,_,rfl,ZaV (fun d=>?_) (fun d=>?_)⟩
 ·have h0:R=[]:=by
   have:=V.int.inj (of_decide_eq_true d)
   exact QO (by omega)
  subst h0
  have hs0:ss.length=0:=by
   have:=nr.pm.length_eq
   rw[Zao]at this
   exact this.symm
  refine⟨(by show 0≤sizeLine;decide),fun b hb=>⟨(by show 2≤sizeLine;decide),fun t ht=>?_⟩⟩
  have s2:=Zi hb (.lst [])
  have s3:=Zi ht (.tup [.ref b,.int 0])
  refine q t b [] 0 [] _ Zb (s3 _ _ Zb) List.Pairwise.nil ?_ hres (.inl ⟨rfl,rfl⟩) (s1.trans (s2.trans s3))
  rw[hs0];exact Qap _
 ·have hR1:R≠[]:=fun z=>d (decide_eq_true (by rw[hln,z];rfl))
  have hRp:=QaE.mpr hR1
  refine⟨_,rfl,r,rfl,⟨_,SqL.of hr1⟩,fun D hD=>?_⟩
  refine Za0 (K:=K) (a:=r) (xs:=ls.map V.ref) (fun i zs σ H2=>(∃v:Option V,σ=[some (.ref a),some (.int room),some (.int wy),some (.ref r),none,none,v])∧zs=(ZbW (R.take i)).map V.int∧i≤ls.length∧H2 D=some (.lst zs)∧Zu H1 H2) ?_ (fun _ _ _ _ h=>SqL.of (h.2.2.2.2 _ _ hr1)) ?_ ?_
  ·exact⟨⟨none,rfl⟩,rfl,Qv _,Zb,Zi hD _⟩
  ·rintro i y zs σ H2 hy ⟨⟨v,rfl⟩,rfl,hi,hD2,s2⟩
   rw[Qi]at hy
   cases hb:ls[i]? with
   | none=>rw[hb]at hy;cases hy
   | some b =>
   rw[hb]at hy
   cases hy
   have hil:i<ls.length:=(Qc.mp hb).1
   obtain⟨d',hd',hbd⟩:=hrd.at hb
   refine⟨_,rfl,b,_,rfl,.inl (SqL.of (s2 _ _ hbd)),hD2,(by unfold ZbW;rw[Qa,Qa,Qz,sizeLine_eq];omega),⟨_,rfl⟩,?_,hil,Zb,fun x o hx=>?_⟩
   ·unfold ZbW
    rw[QH,hd',Qe,Qe,Qa];rfl
   ·rw[Ze (Zc hx hD)];exact s2 x o hx
  rintro zs σ H2 ⟨⟨v,rfl⟩,rfl,_,hD2,s2⟩
  rw[show (ls.map V.ref).length=R.length from hln,Qx (Qh _)]at hD2
  have hll:(ZbW R).length=R.length:=by unfold ZbW;rw[Qa]
  refine⟨_,rfl,D,ZbW R,wy,rfl,SqL.of hD2,by omega,by omega,fun v hv=>?_,w2,w6,fun t0 x p t H3 ht00 ht0 hTV hG s3=>?_⟩
  ·unfold ZbW at hv
   obtain⟨d',hd',rfl⟩:=Qt.mp hv
   obtain⟨i,hi⟩:=Qao hd'
   have h1:=Zgg hi
   have h2:=ZfV (QaB _ _) hres
   omega
  obtain⟨g1,g2,g3,g4,g5,g6⟩:=ZiA nr hll w6 hG
  have s13:=s2.trans s3
  have s03:=s1.trans s13
  have I3:Zjj H3 a r ss ls R:=⟨s03 _ _ ha,h60,hk,s13 _ _ hr1,Rd.mono (fun _ _ o ho=>s13 _ _ ho) hrd,nr.rg⟩
  refine⟨t0,_,rfl,SqT.of ht0,rfl,_,_,rfl,_,_,rfl,rfl,?_⟩
  refine⟨_,rfl,_,rfl,_,rfl,xw7 a r ss ls R x t ⟨rfl,I3,hTV,g1,g2,by omega,by omega,fun b out H4 hb0 hb hp s4=>?_⟩⟩
  obtain⟨k1,k2⟩:=g6 out hp
  refine⟨_,rfl,(by show 2≤sizeLine;decide),fun tt htt=>?_⟩
  have s5:=Zi htt (.tup [.ref b,.int p])
  exact q tt b out p R _ Zb (s5 _ _ hb) k1 k2 hres (.inr ⟨hR1,t,hG⟩) (s03.trans (s4.trans s5))
def ZnR(K:PySem.W.Frag):Sp:=fun vs H Q _=>∃ (a t:Addr) (ss:List Str) (ns:List Int),vs=[.ref a,.ref t]∧H a=some (.lst (ss.map V.str))∧ss.length≤60∧H t=some (.lst (ns.map V.int))∧Zd7 ss ns∧ns.Perm (ZT 0 ss.length)∧∀H',Zu H H'→Q (.bl true) H'
theorem ZoW{ss:List Str}{ns:List Int}(h:Zd7 ss ns):Ris ss ns:=fun p x y hx hy=>by
 obtain⟨h1,e1⟩:=Qc.mp hx
 obtain⟨h2,e2⟩:=Qc.mp hy
 have:=Q7.mp h p (p+1) h1 h2 (by omega)
 rwa [e1,e2]at this
theorem Zpg(T:Zaf K mg cRow cMerge)(f_is_run:Df P w K mg base 2 "is_run" ["things", "thing"] (ZkP K)):Df P w K mg base 3 "is_sorted" ["things", "thing"] (ZnR K):=by
 refine T.t_is_sorted.df Zh7 (fun vs H Q E h=>?_) (fun cdv f A outer s H vs Q E hr h=>?_)
 ·obtain⟨a,t,ss,ns,rfl,_⟩:=h
  rfl
 obtain⟨a,t,ss,ns,rfl,ha,h60,ht,hlex,hpm,q⟩:=h
 refine⟨_,#[Zf,#[ZZ,#[Zo,Za4,#[Zk,(Zbf K),(by rfl),T.b.n_len,Qs,#[Za,‹0›,#[Zd]]],#[Zh],(Zt _)],#[Zj,#[Zn,(@Zhw _ _ _ _ _ _ _ #[Zk,(Zou K),(by rfl),T.b.n_isinstance,boot_isinstance,#[Za,‹1›,#[Za,#[ZkA,T.b.n_list,boot_list],#[Zd]]]] (@ZhH _ _ _ _ _ #[Zet,Za4,#[Zk,(Zbf K),(by rfl),T.b.n_len,Qs,#[Za,‹1›,#[Zd]]],#[Zh]]))]],#[ZB]],#[Zj,#[Zn,(@Zhw _ _ _ _ _ _ _ #[ZA,f_is_run,hr,#[Za,‹0›,#[Za,‹1›,#[Zd]]],(by rfl)] (@ZhH _ _ _ _ _ #[Zet,Za4,#[Zk,(Zbf K),(by rfl),T.b.n_len,Qs,#[Za,‹1›,#[Zd]]],#[Zk,(Zbf K),(by rfl),T.b.n_len,Qs,#[Za,‹0›,#[Zd]]]]))]]],?_⟩
 have hnl:ns.length=ss.length:=by rw[hpm.length_eq,Zao]
 refine⟨_,rfl,a,_,rfl,.inl (SqL.of ha),rfl,_,rfl,ZaV (fun d=>?_) (fun d=>?_)⟩
 ·have h0:ss.length=0:=by
   have:=V.int.inj (of_decide_eq_true d)
   rw[Qa]at this
   omega
  refine⟨_,rfl,_, "list",_,_,rfl,.lst ht,Zhk K,_,rfl,ZhD ⟨_,rfl,t,_,rfl,.inl (SqL.of ht),rfl,?_⟩⟩
  show Q (V.bl (decide (V.int (((ns.map V.int).length:Nat):Int)=V.int 0))) H
  rw[decide_eq_true (by rw[Qa,hnl,h0];rfl)]
  exact q H (Zu.refl _)
 ·have h0:ss.length≠0:=fun z=>d (decide_eq_true (by rw[Qa,z];rfl))
  refine⟨_,rfl,_,rfl,xw4 a t ss ns ⟨rfl,SqL.of ha,ht,by omega,fun n hn=>?_,fun _ H1 s1=>?_,fun hno=>?_⟩⟩
  ·have:=hpm.mem_iff.mp hn
   unfold ZT at this
   obtain⟨m,hm,rfl⟩:=Qt.mp this
   have:=QX.mp hm
   omega
  ·refine⟨_,rfl,ZhD ⟨_,rfl,t,_,rfl,.inl (SqL.of (s1 _ _ ht)),_,rfl,a,_,rfl,.inl (SqL.of (s1 _ _ ha)),rfl,?_⟩⟩
   show Q (V.bl (decide (V.int (((ns.map V.int).length:Nat):Int)=V.int (((ss.map V.str).length:Nat):Int)))) H1
   rw[decide_eq_true (by rw[Qa,Qa,hnl])]
   exact q H1 s1
  ·exact absurd ⟨fun z=>h0 (by rw[← hnl,z];rfl),ZoW hlex⟩ hno
def Zsa(K:PySem.W.Frag):Sp:=fun vs H Q _=>∃ (a r:Addr) (ss:List Str) (ls:List Addr) (R:List (List Int)) (wy:Nat),vs=[.ref a,.ref r,.int wy]∧Zjj H a r ss ls R∧Zo6 ss R∧1≤R.length∧R.length≤60∧2≤wy∧wy≤6 ∧
 ∀ (t b:Addr) (out:List Int) (p:Int) (H':Hp),H' t=some (.tup [.ref b,.int p])→H' b=some (.lst (out.map V.int))→Zd7 ss out→out.Perm (ZT 0 ss.length)→ZgH ss R wy p→Zu H H'→Q (.ref t) H'
theorem ZlQ(T:Zaf K mg cRow cMerge)(f_near_plan:Df P w K mg base 4 "near_plan" ["sizes", "ways"] (ZjP K))(f_merged_by:Df P w K mg base (61+17) "merged_by" ["things", "runs", "tree"] (ZqU 61))(f_cost_of:Df P w K mg base 63 "cost_of" ["sizes", "tree"] (ZiK K 61)):Df P w K mg base 79 "_law_by_plan" ["_law_things_here", "_law_lists", "_law_ways"] (Zsa K):=by
 refine T.t_l_by_plan.df Zb7 (fun vs H Q E h=>?_) (fun cdv f A outer s H vs Q E hr h=>?_)
 ·obtain⟨a,r,ss,ls,R,wy,rfl,_⟩:=h
  rfl
 obtain⟨a,r,ss,ls,R,wy,rfl,I,nr,hR1,hR60,w2,w6,q⟩:=h
 refine⟨_,#[Zf,#[Zem,3,Zb7.nd,ZkJ,#[iL,K,‹1›],(fun _ _ _ _=>#[cg,6,ZkJ]),(fun _ _ _ _=>(@ZaH _)),(fun _ _ _ _=>#[Zk,(Zbf K),(Zcd ZkJ rfl (by ac_rfl)),T.b.n_len,Qs,#[Za,#[cw,6,ZkJ],#[Zd]]])],#[Zf,#[ZaO,#[ZA,f_near_plan,hr,#[Za,‹3›,#[Za,‹2›,#[Zd]]],(by rfl)],#[gT,K,2,#[Zs,#[Zw,4,Zb7.nd],#[Zs,#[Zw,5,Zb7.nd],(@Zal _)]]]],#[Zj,#[Zn,#[Za9,#[Zo,Za4,#[ZA,f_cost_of,hr,#[Za,‹3›,#[Za,‹5›,#[Zd]]],(by rfl)],‹4›,(Zt _)],#[ZN,#[Za,#[ZA,f_merged_by,hr,#[Za,‹0›,#[Za,‹1›,#[Za,‹5›,#[Zd]]]],(by rfl)],#[Za,‹4›,#[Zd]]]],#[Zar]]]]]],?_⟩
 have hln:(ls.map V.ref).length=R.length:=by rw[Qa];exact I.rd.len
 have hsum:(R.map List.length).sum=ss.length:=by rw[← ZeA,nr.pm.length_eq,Zao]
 have h60:=I.s60
 refine⟨_,rfl,r,rfl,⟨_,SqL.of I.ru⟩,fun D hD=>?_⟩
 refine Za0 (K:=K) (a:=r) (xs:=ls.map V.ref) (fun i zs σ H2=>(∃v:Option V,σ=[some (.ref a),some (.ref r),some (.int wy),none,none,none,v])∧zs=(ZbW (R.take i)).map V.int∧i≤ls.length∧H2 D=some (.lst zs)∧Zu H H2) ?_ (fun _ _ _ _ h=>SqL.of (h.2.2.2.2 _ _ I.ru)) ?_ ?_
 ·exact⟨⟨none,rfl⟩,rfl,Qv _,Zb,Zi hD _⟩
 ·rintro i y zs σ H2 hy ⟨⟨v,rfl⟩,rfl,hi,hD2,s2⟩
  rw[Qi]at hy
  cases hb:ls[i]? with
  | none=>rw[hb]at hy;cases hy
  | some b =>
  rw[hb]at hy
  cases hy
  have hil:i<ls.length:=(Qc.mp hb).1
  obtain⟨d',hd',hbd⟩:=I.rd.at hb
  refine⟨_,rfl,b,_,rfl,.inl (SqL.of (s2 _ _ hbd)),hD2,(by unfold ZbW;rw[Qa,Qa,Qz,sizeLine_eq];omega),⟨_,rfl⟩,?_,hil,Zb,fun x o hx=>?_⟩
  ·unfold ZbW
   rw[QH,hd',Qe,Qe,Qa];rfl
  ·rw[Ze (Zc hx hD)];exact s2 x o hx
 rintro zs σ H2 ⟨⟨v,rfl⟩,rfl,_,hD2,s2⟩
 rw[show (ls.map V.ref).length=R.length from hln,Qx (Qh _)]at hD2
 have hll:(ZbW R).length=R.length:=by unfold ZbW;rw[Qa]
 refine⟨_,rfl,_,rfl,D,ZbW R,wy,rfl,SqL.of hD2,by omega,by omega,fun v hv=>?_,w2,w6,fun t0 x p t H3 ht00 ht0 hTV hG s3=>?_⟩
 ·unfold ZbW at hv
  obtain⟨d',hd',rfl⟩:=Qt.mp hv
  obtain⟨i,hi⟩:=Qao hd'
  have h1:=Zgg hi
  omega
 obtain⟨g1,g2,g3,g4,g5,g6⟩:=ZiA nr hll w6 hG
 have s03:=s2.trans s3
 have I3:=I.same s03
 refine⟨t0,_,rfl,SqT.of ht0,rfl,_,_,rfl,_,_,rfl,rfl,?_⟩
 refine⟨_,rfl,_,rfl,D,ZbW R,x,t,rfl,SqL.of (s3 _ _ hD2),hTV,by rw[hll];exact g1,by omega,fun H4 s4=>⟨_,rfl,rfl,_,rfl,Zej (congrArg V.int g5) ?_⟩⟩
 have I4:=I3.same s4
 refine⟨_,rfl,_,rfl,_,rfl,xw7 a r ss ls R x t ⟨rfl,I4,hTV.mono (ZfI s4),g1,g2,by omega,by omega,fun b out H5 hb0 hb hp s5=>?_⟩⟩
 obtain⟨k1,k2⟩:=g6 out hp
 refine⟨_,rfl,(by show 2≤sizeLine;decide),fun tt htt=>?_⟩
 have s6:=Zi htt (.tup [.ref b,.int p])
 exact q tt b out p _ Zb (s6 _ _ hb) k1 k2 (.inr ⟨fun z=>by rw[z]at hR1;exact absurd hR1 (by decide),t,hG⟩) (s03.trans (s4.trans (s5.trans s6)))
def Zcz(out:List Int)(p:Int):PyData:=.tuple [.list (out.map PyData.int),.int p]
theorem ZgK(out:List Int)(p:Int):SeqAt.shaped (Zcz out p)=true:=by
 have h1:=ZbV out
 unfold Zcz
 simp only[SeqAt.shaped,PyData.canLay0,PyData.canLayAll0,PyData.depth,PyData.depthAll,ZeM out,Zek out]
 decide
theorem Zqk(out:List Int)(p:Int):(if true=true then !PyData.eqv (Zcz out p) (Zcz out p) else PyData.eqv (Zcz out p) (Zcz out p))=false:=by
 rw[if_pos rfl,SeqAt.eqv_refl _ (by unfold Zcz;simp[PyData.canLay0,PyData.canLayAll0,ZeM out])];rfl
theorem ZpN{K:PySem.W.Frag}{H:Hp}{t b:Addr}{out:List Int}{p:Int}(ht:H t=some (.tup [.ref b,.int p]))(hb:H b=some (.lst (out.map V.int))):DV K H (.ref t) (Zcz out p):=.tup (SqT.of ht) (.cons (.lst (SqL.of hb) (ZdU out)) (.cons (.int p) .nil))
def Znf(K:PySem.W.Frag):Sp:=fun vs H Q _=>∃ (a du:Addr) (ss:List Str) (due:List Int) (room wy:Nat),vs=[.ref a,.int room,.int wy,.ref du]∧H a=some (.lst (ss.map V.str))∧ss.length≤60∧(∀s∈ss,s.length≤1000∧AZ s)∧H du=some (.lst (due.map V.int))∧Zd7 ss due∧due.Perm (ZT 0 ss.length)∧1≤room∧room≤100∧2≤wy∧wy≤6∧∀H',Zu H H'→Q (.bl true) H'
theorem Zk8(T:Zaf K mg cRow cMerge)(f_sort_by:Df P w K mg base 79 "sort_by" ["things", "room", "ways"] (Zob K))(f_is_sorted:Df P w K mg base 3 "is_sorted" ["things", "thing"] (ZnR K))(f_runs_of:Df P w K mg base 5 "runs_of" ["things", "room"] (ZjR K))(f_l_by_plan:Df P w K mg base 79 "_law_by_plan" ["_law_things_here", "_law_lists", "_law_ways"] (Zsa K))(f_stretches:Df P w K mg base 4 "stretches" ["things"] (Zp3 K)):Df P w K mg base 80 "_law_sorts_right" ["_law_things_here", "_law_room_here", "_law_ways", "_law_due"] (Znf K):=by
 refine T.t_l_sorts_right.df ZaJ (fun vs H Q E h=>?_) (fun cdv f A outer s H vs Q E hr h=>?_)
 ·obtain⟨a,du,ss,due,room,wy,rfl,_⟩:=h
  rfl
 obtain⟨a,du,ss,due,room,wy,rfl,ha,h60,hk,hdu,dlex,dpm,r1,r2,w2,w6,q⟩:=h
 refine⟨_,#[Zf,#[Zz,4,ZaJ.nd,(Or.inl rfl),#[ZA,f_sort_by,hr,#[Za,‹0›,#[Za,‹1›,#[Za,‹2›,#[Zd]]]],(by rfl)]],#[Zf,#[ZZ,(@PW.pt _ _ _ #[Zhj,#[Zo,(@neD _ K _ hr (by rfl)),#[Zx,(ixT K),‹4›,#[Zh]],‹3›,(Zt _)],(@ZfP _ _ _ _ #[Zo,ZoL,#[ZA,f_is_sorted,hr,#[Za,‹0›,#[Za,#[Zx,(ixT K),‹4›,#[Zh]],#[Zd]]],(by rfl)],#[ZdB],(Zt _)])]),#[Zj,#[Zn,#[ZdB]]],#[ZB]],#[Zf,#[Zz,5,ZaJ.nd,(Or.inl rfl),#[ZA,f_runs_of,hr,#[Za,‹0›,#[Za,‹1›,#[Zd]]],(by rfl)]],(@Zh2 _ _ _ _ _ #[ZZ,(@PW.pt _ _ _ #[ZdD,(@Zif _ _ _ _ _ _ _ _ _ _ _ _ Zcw Zcw #[Zh] #[Zk,(Zbf K),(by rfl),T.b.n_len,Qs,#[Za,‹5›,#[Zd]]] #[Zh] (by with_unfolding_all rfl)),(@Zc9 _ _ _ _ #[Zo,(@neD _ K _ hr (by rfl)),#[ZA,f_l_by_plan,hr,#[Za,‹0›,#[Za,‹5›,#[Za,‹2›,#[Zd]]]],(by rfl)],‹4›,(Zt _)])]),#[Zj,#[Zn,#[ZdB]]],#[ZB]] #[Zf,#[Zz,5,ZaJ.nd,(Or.inl rfl),#[ZA,f_stretches,hr,#[Za,‹0›,#[Zd]],(by rfl)]],#[Zf,#[ZZ,(@Zif _ _ _ _ _ _ _ _ _ _ _ _ Zcw Zcw #[Zh] #[Zk,(Zbf K),(by rfl),T.b.n_len,Qs,#[Za,‹5›,#[Zd]]] #[Zh] (by with_unfolding_all rfl)),#[Zf,#[Zz,6,ZaJ.nd,(Or.inl rfl),#[ZA,f_l_by_plan,hr,#[Za,‹0›,#[Za,‹5›,#[Za,‹2›,#[Zd]]]],(by rfl)]],#[Zj,#[Zn,(@Zhw _ _ _ _ _ _ _ #[Zet,Zfu,‹6›,#[Zar]] (@ZhH _ _ _ _ _ #[Zet,(@eqD _ K _ hr (by rfl)),#[Zx,(ixT K),‹6›,#[Zh]],‹3›]))]]],#[ZB]],#[Zj,#[Zn,#[ZdB]]]]])]]],?_⟩
 refine⟨_,rfl,_,rfl,_,rfl,xw4 a ss room wy ⟨rfl,ha,h60,hk,r1,r2,w2,w6,fun t b out p R H1 ht hb olex opm hres hC s1=>?_⟩⟩
 have eo:out=due:=Zfs olex dlex (opm.trans dpm.symm)
 subst eo
 have ev:(if true=true then !PyData.eqv (.list (out.map PyData.int)) (.list (out.map PyData.int)) else PyData.eqv (.list (out.map PyData.int)) (.list (out.map PyData.int)))=false:=by rw[if_pos rfl,Zhg];rfl
 refine⟨_,rfl,xw4 t _ _ _ ⟨rfl,rfl,SqT.of ht,rfl,_,rfl,.list (out.map PyData.int),.list (out.map PyData.int),.lst (SqL.of hb) (ZdU _),.lst (SqL.of (s1 _ _ hdu)) (ZdU _),ZbV _,ZbV _,_,rfl,?_⟩⟩
 rw[ev]
 refine ZbF ?_
 refine⟨_,rfl,_,rfl,xw4 t _ _ _ ⟨rfl,rfl,SqT.of ht,rfl,xw4 a b ss out ⟨rfl,s1 _ _ ha,h60,hb,olex,opm,fun H2 s2=>⟨_,_,rfl,rfl,_,rfl,ZnT rfl ?_⟩⟩⟩⟩
 have s02:=s1.trans s2
 refine⟨_,rfl,_,rfl,a,ss,room,rfl,SqL.of (s02 _ _ ha),h60,fun s hs=>(hk s hs).1,r2,fun r ls R' H3 hr0 hr3 hrl hls hrd hres' hR100 _ s3=>?_⟩
 have eR:R=R':=ZoH hres R' hres'
 subst eR
 have nr:=ZjZ r1 hres
 have s03:=s02.trans s3
 have ht3:=s3 _ _ (s2 _ _ ht)
 have hb3:=s3 _ _ (s2 _ _ hb)
 have I3:Zjj H3 a r ss ls R:=⟨s03 _ _ ha,h60,hk,hr3,hrd,nr.rg⟩
 have hln:(((ls.map V.ref).length:Nat):Int)=(R.length:Int):=by rw[Qa];exact congrArg Nat.cast hrd.len
 refine⟨fun σ H4=>σ=[some (.ref a),some (.int room),some (.int wy),some (.ref du),some (.ref t),some (.ref r),none]∧Zu H3 H4,?_,?_⟩
 ·refine⟨_,rfl,r,_,rfl,.inl (SqL.of hr3),_,_,rfl,rfl,_,rfl,?_⟩
  by_cases h0:R.length=0
  ·rw[decide_eq_false (by omega)]
   exact ZbF ⟨_,rfl,ZbF (ZbF ⟨rfl,Zu.refl _⟩)⟩
  ·refine Zej (by omega) ⟨_,_,rfl,rfl,_,rfl,?_⟩
   by_cases h13:R.length<13
   ·refine Zej (by omega) ?_
    refine⟨_,rfl,_,rfl,_,rfl,xw6 a r ss ls R wy ⟨rfl,I3,nr,by omega,by omega,w2,w6,fun t' b' out' p' H4 ht' hb' olex' opm' hC' s4=>?_⟩⟩
    have eo:out'=out:=Zfs olex' olex (opm'.trans opm.symm)
    subst eo
    have ep:p'=p:=ZgH.one hC' hC
    subst ep
    refine⟨_,rfl,Zcz out' p',Zcz out' p',ZpN ht' hb',ZpN (s4 _ _ ht3) (s4 _ _ hb3),ZgK _ _,ZgK _ _,_,rfl,?_⟩
    rw[Zqk]
    exact ZbF ⟨rfl,s4⟩
   ·rw[decide_eq_false (by omega)]
    exact ZbF (ZbF ⟨rfl,Zu.refl _⟩)
 ·rintro σ H4 ⟨rfl,s4⟩
  have s04:=s03.trans s4
  refine⟨_,rfl,a,ss,rfl,SqL.of (s04 _ _ ha),by omega,fun s hs=>(hk s hs).1,fun r2' ls2 H5 hr50 hr5 hrl5 hls5 hrd5 s5=>?_⟩
  have s05:=s04.trans s5
  have nr2:=ZjZ (Qh 1) (ZgA ss)
  generalize Zbh (Zby ss) ss.length=R2 at hrd5 nr2
  have I5:Zjj H5 a r2' ss ls2 R2:=⟨s05 _ _ ha,h60,hk,hr5,hrd5,nr2.rg⟩
  have hln2:(((ls2.map V.ref).length:Nat):Int)=(R2.length:Int):=by rw[Qa];exact congrArg Nat.cast hrd5.len
  refine⟨_,rfl,r2',_,rfl,.inl (SqL.of hr5),_,_,rfl,rfl,_,rfl,?_⟩
  by_cases h0:R2.length=0
  ·rw[decide_eq_false (by omega)]
   exact ZbF ⟨_,rfl,ZbF (q _ s05)⟩
  ·refine Zej (by omega) ⟨_,_,rfl,rfl,_,rfl,?_⟩
   by_cases h13:R2.length<13
   ·refine Zej (by omega) ?_
    refine⟨_,rfl,_,rfl,_,rfl,xw6 a r2' ss ls2 R2 wy ⟨rfl,I5,nr2,by omega,by omega,w2,w6,fun t' b' out' p' H6 ht' hb' olex' opm' hC' s6=>?_⟩⟩
    have eo:out'=out:=Zfs olex' olex (opm'.trans opm.symm)
    subst eo
    refine⟨_,rfl,rfl,_,rfl,ZnD (fun z=>nomatch z) ?_⟩
    refine⟨_,rfl,t',_,_,_,rfl,rfl,SqT.of ht',rfl,_,rfl,.list (out'.map PyData.int),.list (out'.map PyData.int),.lst (SqL.of hb') (ZdU _),.lst (SqL.of (s6 _ _ (s05 _ _ hdu))) (ZdU _),ZbV _,ZbV _,?_⟩
    show Q (V.bl (PyData.eqv (.list (out'.map PyData.int)) (.list (out'.map PyData.int)))) H6
    rw[Zhg]
    exact q H6 (s05.trans s6)
   ·rw[decide_eq_false (by omega)]
    exact ZbF (q _ s05)
theorem Zpc{n:Nat}{v:Int}(h:v∈ZT 0 n):0≤v∧v<(n:Nat):=by
 unfold ZT at h
 obtain⟨m,hm,rfl⟩:=Qt.mp h
 have:=QX.mp hm
 omega
theorem ZnB(xs:List V)(m:Nat):Zc8 xs none (some (m:Int))=xs.take m:=by
 unfold Zc8
 have e:HT.sIx xs.length xs.length (some (m:Int))=min m xs.length:=by
  unfold HT.sIx
  simp only
  rw[if_neg (by omega)]
  omega
 have e0:HT.sIx xs.length 0 none=0:=rfl
 rw[e,e0,List.drop_zero,Nat.sub_zero]
 by_cases h:m≤xs.length
 ·rw[Nat.min_eq_left h]
 ·rw[Nat.min_eq_right (by omega),Qx (Qh _),Qx (by omega)]
def Zfo(n:Nat):List (List Int):=(ZT 0 n).map fun i=>[i]
theorem ZkY{n i:Nat}(h:i<n):(Zfo n)[i]? = some [(i:Int)]:=by
 unfold Zfo ZT
 rw[Qi,Qi,Qai h]
 simp
theorem ZpB(ss:List Str):Zo6 ss (Zfo ss.length):=by
 have hm:∀d∈Zfo ss.length,∃i:Int,d=[i]∧0≤i∧i<(ss.length:Nat):=fun d hd=>by
  obtain⟨i,hi,rfl⟩:=Qt.mp hd
  exact⟨i,rfl,Zpc hi⟩
 refine⟨fun d hd=>?_,fun d hd=>?_,?_,?_⟩
 ·obtain⟨i,rfl,h1,h2⟩:=hm d hd
  refine⟨fun n hn=>?_,(ZcW _).mpr (QY _ _)⟩
  rw[Qd.mp hn]
  exact⟨h1,h2⟩
 ·obtain⟨i,rfl,_⟩:=hm d hd
  exact QY _ _
 ·refine QaO.mpr ((Zey _).imp fun h b hb a ha _=>?_)
  rw[Qd.mp hb,Qd.mp ha]
  exact h
 ·have e:∀l:List Int,(l.map fun i=>[i]).flatten=l:=fun l=>by
   induction l with
   | nil=>rfl
   | cons a l ih=>rw[Qj,QaQ,ih];rfl
  unfold Zfo
  rw[e]
theorem ZiP(ss:List Str):(Zfo ss.length).map (Zbu ss)=ss.map fun s=>[s]:=by
 refine Qaf fun i=>?_
 rw[Qi,Qi]
 by_cases h:i<ss.length
 ·rw[ZkY h,Qb h]
  simp[Zbu,List.getD_eq_getElem?_getD,List.getElem?_eq_getElem h]
 ·rw[QE (by unfold Zfo;rw[Qa,Zao];omega),QE (by omega)]
  rfl
theorem Zmd{ss:List Str}{us:List (Addr×Zaj)}{P':List ZH}{k q:Int}{rs:List (Addr×List Str)}(hrs:rs.map (·.2)=ss.map fun s=>[s])(h:Zcs (Zf5 rs) (us.map (·.2)) P' k q)(hl:us.length=(rs.map fun x=>x.2.length).sum):Zd7 ss (us.map (·.2.1))∧(us.map (·.2.1)).Perm (ZT 0 ss.length)∧∀u∈us,u.2.2.1=0:=by
 have htw:=h.tk
 rw[ZpO,hrs,← ZiP ss]at htw
 have hpk:∀u∈us.map (·.2),Zab (Zfo ss.length) u=u.1∧u.2.1=0:=fun u hu=>by
  obtain⟨d,hd,u0,hg,_⟩:=Zcy htw hu
  have hlt:u.1.toNat<ss.length:=by
   have:=(Qc.mp hd).1
   unfold Zfo at this
   rwa [Qa,Zao]at this
  rw[ZkY hlt]at hd
  have hd':=Qp hd
  rw[← hd']at hg
  have h0:u.2.1=0:=by
   have:=(Qc.mp hg).1
   rw[Qk]at this
   omega
  rw[h0]at hg
  have:=Qp hg
  exact⟨by rw[← this];omega,h0⟩
 have hput:Put ss (Zfo ss.length) ((us.map (·.2)).map (Zab (Zfo ss.length))):=by
  refine⟨_,_,htw,?_,rfl⟩
  have e:(rs.map fun x=>x.2.length).sum=((rs.map (·.2)).map List.length).sum:=by rw[QA];rfl
  rw[Qa,hl,e,hrs,← ZiP ss,ZeG]
 have eo:(us.map (·.2)).map (Zab (Zfo ss.length))=us.map (·.2.1):=by
  rw[QA]
  refine QK fun u hu=>?_
  exact(hpk u.2 (Qm (f:=fun u:Addr×Zaj=>u.2) hu)).1
 rw[eo]at hput
 have nr:=ZpB ss
 exact⟨hput.ris nr.lex nr.ap,hput.perm.trans nr.pm,fun u hu=>(hpk u.2 (Qm (f:=fun u:Addr×Zaj=>u.2) hu)).2⟩
theorem Zix{ss:List Str}{ns:List Int}(hl:ns.length=ss.length)(hm:∀n∈ns,0≤n∧n<ss.length)(h:Ris ss ns):Zd7 ss ns∧ns.Perm (ZT 0 ss.length):=by
 refine⟨h.pw,ZdE (ZqN h.pw) (fun x hx=>?_) (by rw[Zao];omega)⟩
 have:=hm x hx
 unfold ZT
 exact Qt.mpr ⟨x.toNat,QX.mpr (by omega),by omega⟩
def prD(n:Int):PyData:=.tuple [.int n,.int 0]
theorem Zjx:∀ns:List Int,PyData.canLayAll0 (ns.map prD)=true∧PyData.depthAll (ns.map prD)≤1
 | []=>⟨rfl,by simp[PyData.depthAll]⟩
 | n::r=>by
  obtain⟨a,b⟩:=Zjx r
  refine⟨by simp[PyData.canLayAll0,PyData.canLay0,prD,a],?_⟩
  rw[Qj]
  simp only[PyData.depthAll,PyData.depth,prD]
  omega
theorem Zhc(ns:List Int):SeqAt.shaped (.list (ns.map prD))=true:=by
 obtain⟨a,b⟩:=Zjx ns
 simp only[SeqAt.shaped,PyData.canLay0,PyData.depth,a,Bool.true_and]
 exact decide_eq_true (by omega)
theorem ZqC(ns:List Int):(if true=true then !PyData.eqv (.list (ns.map prD)) (.list (ns.map prD)) else PyData.eqv (.list (ns.map prD)) (.list (ns.map prD)))=false:=by
 rw[if_pos rfl,SeqAt.eqv_refl _ (by simp only[PyData.canLay0,(Zjx ns).1])];rfl
theorem ZpZ{K:PySem.W.Frag}{H:Hp}:∀us:List (Addr×Zaj),(∀u∈us,H u.1=some (.tup [.int u.2.1,.int 0]))→DVs K H (us.map fun u=>V.ref u.1) ((us.map (·.2.1)).map prD)
 | [],_=>.nil
 | u::r,h=>.cons (.tup (SqT.of (h u (by simp))) (.cons (.int _) (.cons (.int _) .nil))) (ZpZ r fun x hx=>h x (Qu _ hx))
theorem ZpY{K:PySem.W.Frag}{H:Hp}:∀ (bs:List Addr) (ns:List Int),bs.length=ns.length→(∀ (j:Nat) (b:Addr) (n:Int),bs[j]? = some b→ns[j]? = some n→H b=some (.tup [.int n,.int 0]))→DVs K H (bs.map V.ref) (ns.map prD)
 | [],[],_,_=>.nil
 | [],_::_,h,_=>by cases h
 | _::_,[],h,_=>by cases h
 | b::bs,n::ns,h,g=>.cons (.tup (SqT.of (g 0 b n rfl rfl)) (.cons (.int _) (.cons (.int _) .nil))) (ZpY bs ns (by simpa using h) fun j b' n' hb hn=>g (j+1) b' n' (by simpa using hb) (by simpa using hn))
def Zkq(K:PySem.W.Frag):Sp:=fun vs H Q _=>∃ (a:Addr) (ns:List Int),vs=[.ref a]∧SqL K H a (ns.map V.int)∧ns.length≤63∧∀H',Q (.bl true) H'
theorem Zrr{f:Addr}{fd:FuncData}(F:Fun K "law" "law" Zck f fd)(T:Zaf K mg cRow cMerge):Zd5 P w K mg base CX0 90 f fd ["_law_script"] (Zkq K):=by
 have f_l_mix:Df P w K mg base 1 "_law_mix" ["_law_cell", "_law_k"] Zmx:=ZqY T
 have f_l_left:Df P w K mg base 1 "_law_left" ["_law_script", "_law_k"] (Zmy K):=ZpG T
 have f_l_pick:Df P w K mg base 2 "_law_pick" ["_law_left_here", "_law_many"] Ze6:=ZoR T f_l_mix
 have f_l_stems:Df P w K mg base 3 "_law_stems" ["_law_left_here"] ZhM:=Znr T f_l_pick
 have f_l_key:Df P w K mg base 3 "_law_key" ["_law_left_here", "_law_stems_here"] Znu:=Zrx T f_l_pick
 have f_alike_from:Df P w K mg base 1 "alike_from" ["one", "other", "far"] Zcu:=Zgn T
 have f_alike:Df P w K mg base 2 "alike" ["one", "other"] Zfr:=ZmA T f_alike_from
 have f_order_at:Df P w K mg base 1 "order_at" ["one", "other", "at"] Zft:=ZmF T
 have f_liken:Df P w K mg base 3 "liken" ["one", "other"] Zep:=Zme T f_alike f_order_at
 have f_liken_from:Df P w K mg base 2 "liken_from" ["one", "other", "far"] ZdN:=Zgw T f_alike_from f_order_at
 have f_first_break:Df P w K mg base 4 "first_break" ["keys"] (ZnY K):=Znb T f_liken
 have f_refuse_break:Df P w K mg base 5 "refuse_break" ["number", "keys"] (ZfD K):=ZlU T f_first_break
 have f_alikes:Df P w K mg base 3 "alikes" ["row"] (Zgj K):=Zlq T f_alike
 have f_halves:Df P w K mg base 1 "halves" ["numbers"] (ZeJ K true):=ZlT T
 have f_Row_to_go:=ZoC T (P:=P) (w:=w) (base:=base)
 have f_Row_head:=Zok T f_Row_to_go
 have f_Row_init:=ZjI T f_alikes
 have f_Merge_meet:=Zpl T f_Row_head f_liken_from
 have f_Merge_play:=Zkr T f_Row_head f_halves f_Merge_meet 8
 have f_Merge_play_all:=ZiQ T f_Merge_play
 have f_Merge_init:=ZgD T f_refuse_break f_Row_init f_Merge_play_all
 have f_Merge_coming:=ZlJ T f_Row_head
 have f_way_up:Df P w K mg base 2 "way_up" ["numbers", "n"] ZmJ:=Zrw T f_halves
 have f_matches_up:=ZjQ T f_way_up
 have f_Merge_play_again:=Zn6 T f_Merge_meet
 have f_Merge_send_out:=Zo2 T f_Row_head f_matches_up f_Merge_play_again
 have f_Merge_take:=Zpk T f_Merge_coming f_Merge_send_out
 have f_Merge_take_few:=Zrt T f_Merge_take
 have f_how_many:=ZiY T (P:=P) (w:=w) (base:=base)
 have f_merged:=ZlB T f_Merge_init f_Merge_take_few f_how_many
 have f_is_number:=Zry T (P:=P) (w:=w) (base:=base)
 have f_merged_by:=ZpP T f_is_number f_merged 61
 have f_l_things:Df P w K mg base 4 "_law_things" ["_law_left_here"] Zja:=ZlL T f_l_pick f_l_stems f_l_key
 have f_l_room:Df P w K mg base 3 "_law_room" ["_law_left_here"] Znz:=Zpb T f_l_pick
 have f_l_in_order:Df P w K mg base 1 "_law_in_order" ["_law_things_here"] (ZgL K):=Zie T
 have f_run_behind:=Zlj T f_liken
 have f_runs_of:=Zo0 T f_run_behind
 have f_stretches:=ZhN T f_liken
 have f_is_run:=Zl1 T f_is_number
 have f_is_sorted:=Zpg T f_is_run
 have f_least_cut':=fun ns wy=>Zq3 T (P:=P) (w:=w) (base:=base) ns wy
 have f_least_tree':=fun ns wy=>Zmi T ns wy (f_least_cut' ns wy)
 have f_least_grove':=fun ns wy=>Zmq T ns wy (f_least_cut' ns wy)
 have f_least_groves':=fun ns wy=>ZlG T ns wy (f_least_tree' ns wy) (f_least_grove' ns wy)
 have f_near_plan:=ZoK T f_least_groves'
 have f_size_and_cost:=ZpM T f_is_number 61
 have f_cost_of:=Zlf T f_size_and_cost
 have f_sort_by:=Zos T f_runs_of f_near_plan f_merged_by
 have f_l_by_plan:=ZlQ T f_near_plan f_merged_by f_cost_of
 have f_l_sorts_right:=Zk8 T f_sort_by f_is_sorted f_runs_of f_l_by_plan f_stretches
 refine F.ok ZdQ (fun vs H Q E h=>?_) (fun cdv A outer s H vs Q E hr h=>?_)
 ·obtain⟨a,ns,rfl,_⟩:=h
  rfl
 obtain⟨a,sc,rfl,hS,h63,q⟩:=h
 refine⟨_,#[Zf,#[Zbo,PassesOwn.never,#[ZbL,T.b.n_range,#[Za,#[ZG,Zaq,#[Zh],#[Zk,(ZeY rfl),(by rfl),T.b.n_min,boot_min,#[Za,#[Zh],#[Za,#[Zk,(Zbf K),(by rfl),T.b.n_len,Qs,#[Za,‹0›,#[Zd]]],#[Zd]]]]],#[Zd]]],#[Zw,1,ZdQ.nd],#[Zf,#[Zz,2,ZdQ.nd,(Or.inl rfl),#[ZA,f_l_left,hr,#[Za,‹0›,#[Za,‹1›,#[Zd]]],(by rfl)]],#[Zf,#[Zz,3,ZdQ.nd,(Or.inl rfl),#[ZA,f_l_things,hr,#[Za,‹2›,#[Zd]],(by rfl)]],(@Zh2 _ _ _ _ _ #[ZZ,#[Zo,Zfi,‹1›,#[Zh],(Zt _)],#[Zj,#[Zz,3,ZdQ.nd,(Or.inl rfl),#[Zcq,(slL K),‹3›,(@Zcv _),(@Zb4 _ _ _ #[Zh])]]],#[ZB]] #[Zf,#[Zz,4,ZdQ.nd,(Or.inl rfl),#[ZA,f_l_in_order,hr,#[Za,‹3›,#[Zd]],(by rfl)]],#[Zf,#[Zbo,PassesOwn.never,#[ZbL,T.b.n_range,#[Za,#[Zh],#[Zd]]],#[Zw,5,ZdQ.nd],#[Zj,#[ZZ,(@Zj5 _ _ _ _ #[ZfT,#[ZA,f_l_sorts_right,hr,#[Za,‹3›,#[Za,#[ZA,f_l_room,hr,#[Za,‹2›,#[Zd]],(by rfl)],#[Za,#[ZG,Zaq,#[Zh],#[ZA,f_l_pick,hr,#[Za,‹2›,#[Za,#[Zh],#[Zd]]],(by rfl)]],#[Za,‹4›,#[Zd]]]]],(by rfl)]]),#[Zj,#[Zn,#[ZdB]]],#[ZB]]]],#[Zf,#[Zz,6,ZdQ.nd,(Or.inl rfl),#[Zcq,(slL K),‹3›,(@Zcv _),(@Zb4 _ _ _ #[Zh])]],#[Zj,#[ZZ,#[Zo,(@neD _ K _ hr (by rfl)),#[ZA,f_merged,hr,#[Za,#[Zbd,Zl8,#[iL,K,‹6›],(fun _ _ _ _=>#[cg,7,Zl8]),(fun _ _ _ _=>(@ZaH _)),(fun _ _ _ _=>#[Zbg,#[Za,#[cw,7,Zl8],#[Zd]]])],#[Zd]],(by rfl)],#[Zbd,ZnQ,#[iL,K,#[ZA,f_l_in_order,hr,#[Za,‹6›,#[Zd]],(by rfl)]],(fun _ _ _ _=>#[cg,7,ZnQ]),(fun _ _ _ _=>(@ZaH _)),(fun _ _ _ _=>#[ZN,#[Za,#[cw,7,ZnQ],#[Za,#[Zh],#[Zd]]]])],(Zt _)],#[Zj,#[Zn,#[ZdB]]],#[ZB]]]]]])]]],#[Zj,#[Zn,#[ZdB]]]],?_⟩
 clear f_l_sorts_right f_l_by_plan f_sort_by f_cost_of f_size_and_cost f_near_plan f_least_groves' f_least_grove' f_least_tree' f_least_cut' f_is_sorted f_is_run f_stretches f_runs_of f_run_behind f_l_in_order f_l_room f_l_things f_merged_by f_is_number f_merged f_how_many f_Merge_take_few f_Merge_take f_Merge_send_out f_Merge_play_again f_matches_up f_way_up f_Merge_coming f_Merge_init f_Merge_play_all f_Merge_play f_Merge_meet f_Row_init f_Row_head f_Row_to_go f_halves f_alikes f_refuse_break f_first_break f_liken_from f_liken f_order_at f_alike f_alike_from f_l_key f_l_stems f_l_pick f_l_left f_l_mix
 have hlen:(sc.map V.int).length=sc.length:=by rw[Qa]
 refine⟨_,rfl,a,_,rfl,.inl hS,_,_,rfl,_,_,rfl,rfl,_,rfl,by split<;>omega,by split<;>omega,?_⟩
 refine Zbt (fun i σ H2=>∃v1 v2 v3 v4 v5 v6:Option V,σ=[some (.ref a),v1,v2,v3,v4,v5,v6]∧Zu H H2) (xw6 _ _ _ _ _ _ ⟨rfl,Zu.refl _⟩) ?_ ?_
 ·rintro ii σ H2 hi ⟨v1,v2,v3,v4,v5,v6,rfl,s2⟩
  have hi8:(ii:Int)<65:=by split at hi<;>omega
  clear hi
  refine⟨_,rfl,_,rfl,a,sc,_,rfl,s2.seq hS,h63,by omega,by omega,fun p H3 hp L3 s3=>?_⟩
  have nHp:H p=none:=s2.free hp
  refine⟨_,rfl,p,0,rfl,L3,by decide,fun th0 ss0 c4 H4 hth0 hth h60' h28' L4 a1 a2 B4=>?_⟩
  have npth:p≠th0:=by obtain⟨o,ho⟩:=L3.here;exact Zc ho hth0
  have B04:∀b o,H b=some o→H4 b=some o:=fun b o hb=>B4 b o (s3 b o (s2 b o hb)) (Zc hb nHp)
  refine⟨fun σ H5=>∃ (th:Addr) (ss:List Str),σ=[some (.ref a),some (.int (0+(ii:Int))),some (.ref p),some (.ref th),v4,v5,v6]∧H5 th=some (.lst (ss.map V.str))∧th≠p∧ss.length≤60∧(∀s∈ss,s.length≤28∧AZ s)∧ZaE H5 p c4∧Zu H4 H5,?_,?_⟩
  ·refine⟨_,rfl,_,_,rfl,rfl,_,rfl,ZaV (fun d=>?_) (fun d=>?_)⟩
   ·refine⟨_,rfl,_,rfl,th0,_,rfl,SqL.of hth,fun sl hsl=>?_⟩
    have e:Zc8 (ss0.map V.str) none (some 40)=(ss0.take 40).map V.str:=by rw[show (40:Int)=((40:Nat):Int) from rfl,ZnB,QaG]
    rw[e]
    have s5:=Zi hsl (.lst ((ss0.take 40).map V.str))
    exact⟨sl,ss0.take 40,rfl,Zb,(fun z=>by obtain⟨o,ho⟩:=L4.here;rw[z,ho]at hsl;cases hsl),(by rw[Qz];omega),fun s hs=>h28' s (Qab hs),L4.same s5,s5⟩
   ·exact⟨th0,ss0,rfl,hth,npth.symm,h60',h28',L4,Zu.refl _⟩
  rintro σ H5 ⟨th,ss,rfl,hth5,nthp,h60,h28,L5,s5⟩
  have B05:∀b o,H b=some o→H5 b=some o:=fun b o hb=>s5 _ _ (B04 b o hb)
  have hk1000:∀s∈ss,s.length≤1000∧AZ s:=fun s hs=>⟨by have:=(h28 s hs).1;omega,(h28 s hs).2⟩
  clear s5 B04 hth L4 B4 hth0 L3 s3 s2 hp h28' h60' npth
  refine⟨_,rfl,th,ss,rfl,SqL.of hth5,h60,fun du due H6 hdu0 hdu hdl hdm hris s6=>?_⟩
  obtain⟨dlex,dpm⟩:=Zix hdl hdm hris
  have L6:=L5.same s6
  have ndp:du≠p:=fun z=>by obtain⟨o,ho⟩:=L5.here;rw[z,ho]at hdu0;cases hdu0
  have B06:∀b o,H b=some o→H6 b=some o:=fun b o hb=>s6 _ _ (B05 b o hb)
  have hth6:=s6 _ _ hth5
  refine⟨_,rfl,by decide,by decide,?_⟩
  refine Zbt (fun i σ H7=>∃ (v5':Option V) (c7:Int),σ=[some (.ref a),some (.int (0+(ii:Int))),some (.ref p),some (.ref th),some (.ref du),v5',v6]∧H7 th=some (.lst (ss.map V.str))∧H7 du=some (.lst (due.map V.int))∧ZaE H7 p c7∧c7≤c4+3*(i:Int)∧∀b o,H b=some o→H7 b=some o) ⟨_,c4,rfl,hth6,hdu,L6,by omega,B06⟩ ?_ ?_
  ·rintro jj σ H7 hj ⟨v5',c7,rfl,hth7,hdu7,L7,hc7,B07⟩
   have hj3:(jj:Int)<3:=by
    have hj':jj<3:=by simpa using hj
    omega
   refine⟨_,rfl,_,rfl,p,c7,rfl,L7,by omega,fun rm c8 H8 rm1 rm2 L8 b1 b2 B8=>?_⟩
   refine⟨_,rfl,p,c8,_,rfl,L8,by omega,by decide,by decide,fun pk H9 pk0 pk1 L9 B9=>⟨_,_,rfl,rfl,_,rfl,?_⟩⟩
   have hth9:=B9 _ _ (B8 _ _ hth7 nthp) nthp
   have hdu9:=B9 _ _ (B8 _ _ hdu7 ndp) ndp
   obtain⟨rn,rfl⟩:∃rn:Nat,rm=(rn:Int):=⟨rm.toNat,by omega⟩
   obtain⟨wn,hwn⟩:∃wn:Nat,2+pk=(wn:Int):=⟨(2+pk).toNat,by omega⟩
   refine⟨th,du,ss,due,rn,wn,(by rw[← hwn];rfl),hth9,h60,hk1000,hdu9,dlex,dpm,by omega,by omega,by omega,by omega,fun H10 s10=>⟨_,rfl,ZbF ?_⟩⟩
   exact⟨_,c8+1,rfl,s10 _ _ hth9,s10 _ _ hdu9,L9.same s10,by omega,fun b o hb=>s10 _ _ (B9 _ _ (B8 _ _ (B07 b o hb) (Zc hb nHp)) (Zc hb nHp))⟩
  ·rintro σ H7 ⟨v5',c7,rfl,hth7,hdu7,L7,hc7,B07⟩
   refine⟨_,rfl,_,rfl,th,_,rfl,SqL.of hth7,fun fw hfw=>?_⟩
   have e:Zc8 (ss.map V.str) none (some 16)=(ss.take 16).map V.str:=by rw[show (16:Int)=((16:Nat):Int) from rfl,ZnB,QaG]
   rw[e]
   have s8:=Zi hfw (.lst ((ss.take 16).map V.str))
   have hfw8:(upd H7 fw (.lst ((ss.take 16).map V.str))) fw=some (.lst ((ss.take 16).map V.str)):=Zb
   have B08:∀b o,H b=some o→(upd H7 fw (.lst ((ss.take 16).map V.str))) b=some o:=fun b o hb=>s8 _ _ (B07 b o hb)
   have h28f:∀s∈ss.take 16,s.length≤28∧AZ s:=fun s hs=>h28 s (Qab hs)
   have h16:(ss.take 16).length≤16:=by rw[Qz];omega
   generalize ss.take 16=fs at hfw8 B08 h28f h16 ⊢
   generalize upd H7 fw (.lst (fs.map V.str))=H8 at hfw8 B08 ⊢
   refine⟨_,rfl,fw,rfl,⟨_,SqL.of hfw8⟩,fun D hD=>?_⟩
   refine Za0 (K:=K) (a:=fw) (xs:=fs.map V.str) (fun i zs σ H9=>(∃v:Option V,σ=[some (.ref a),some (.int (0+(ii:Int))),some (.ref p),some (.ref th),some (.ref du),v5',some (.ref fw),v])∧(∃rs:List (Addr×List Str),zs=(rs.map fun x=>V.ref x.1)∧rs.map (·.2)=(fs.take i).map (fun s=>[s])∧∀x∈rs,x.1≠D∧H9 x.1=some (.lst (x.2.map V.str)))∧i≤fs.length∧H9 D=some (.lst zs)∧Zu H8 H9) ?_ (fun _ _ _ _ h=>SqL.of (h.2.2.2.2 _ _ hfw8)) ?_ ?_
   ·exact⟨⟨none,rfl⟩,⟨[],rfl,rfl,fun x h=>by cases h⟩,Qv _,Zb,Zi hD _⟩
   ·rintro i y zs σ H9 hy ⟨⟨v,rfl⟩,⟨rs,rfl,hrs,hrs3⟩,hi,hD9,s9⟩
    rw[Qi]at hy
    cases hz:fs[i]? with
    | none=>rw[hz]at hy;cases hy
    | some z =>
    rw[hz]at hy
    cases hy
    have hil:i<fs.length:=(Qc.mp hz).1
    have hrl:rs.length=i:=by
     have:=congrArg List.length hrs
     rw[Qa,Qa,Qz]at this
     omega
    refine⟨_,rfl,(by show 1≤sizeLine;decide),fun nl hnl=>?_⟩
    have s10:=Zi hnl (.lst [.str z])
    have nDn:D≠nl:=Zc hD9 hnl
    refine⟨s10 _ _ hD9,(by rw[Qa,hrl,sizeLine_eq];omega),⟨_,rfl⟩,⟨rs++[(nl,[z])],by rw[Qe];rfl,?_,fun x hx=>?_⟩,hil,Zb,fun c o hc=>?_⟩
    ·rw[QH,hz,Qe,Qe,hrs];rfl
    ·rcases Qf.mp hx with hx|hx
     ·obtain⟨g1,g2⟩:=hrs3 x hx
      exact⟨g1,by rw[Ze g1];exact s10 _ _ g2⟩
     ·rw[Qd.mp hx]
      exact⟨nDn.symm,by rw[Ze nDn.symm];exact Zb⟩
    ·rw[Ze (Zc hc hD)];exact s10 _ _ (s9 c o hc)
   rintro zs σ H9 ⟨⟨v,rfl⟩,⟨rs,rfl,hrs,hrs3⟩,_,hD9,s9⟩
   rw[Qa,Qx (Qh _)]at hrs
   have hrl:rs.length=fs.length:=by have:=congrArg List.length hrs;rwa [Qa,Qa]at this
   have hx2:∀x∈rs,∃z∈fs,x.2=[z]:=fun x hx=>by
    have:x.2∈rs.map (·.2):=Qm (f:=fun x:Addr×List Str=>x.2) hx
    rw[hrs]at this
    obtain⟨z,hz,e⟩:=Qt.mp this
    exact⟨z,hz,e.symm⟩
   have hsrt:∀x∈rs,sortedS x.2=true:=fun x hx=>by
    obtain⟨z,_,e⟩:=hx2 x hx
    rw[e];exact(ZcW _).mpr (QY _ _)
   have R9:Zcp H9 D rs:=⟨hD9,by omega,fun x hx=>by
    obtain⟨z,hz,e⟩:=hx2 x hx
    refine⟨(hrs3 x hx).2,by rw[e];show 1≤100;decide,fun s hs=>?_⟩
    rw[e]at hs
    rw[Qd.mp hs]
    exact⟨by have:=(h28f z hz).1;omega,(h28f z hz).2⟩⟩
   refine⟨D,rs,rfl,R9,hsrt,fun mt us P' k0 q0 H10 htk hln hmt hus _ _ s10=>?_⟩
   obtain⟨m1,m2,m3⟩:=Zmd hrs htk hln
   refine⟨_,rfl,fw,fs,rfl,SqL.of (s10 _ _ (s9 _ _ hfw8)),by omega,fun io ns H11 hio0 hio hil him hiris s11=>?_⟩
   obtain⟨n1,n2⟩:=Zix hil him hiris
   have en:us.map (·.2.1)=ns:=Zfs m1 n1 (m2.trans n2.symm)
   refine⟨io,rfl,⟨_,SqL.of hio⟩,fun F hF=>?_⟩
   refine Za0 (K:=K) (a:=io) (xs:=ns.map V.int) (fun i zs σ H12=>(∃v:Option V,σ=[some (.ref a),some (.int (0+(ii:Int))),some (.ref p),some (.ref th),some (.ref du),v5',some (.ref fw),v])∧(∃bs:List Addr,zs=bs.map V.ref∧bs.length=i∧F ∉ bs∧∀ (j:Nat) (b:Addr) (n:Int),bs[j]? = some b→ns[j]? = some n→H12 b=some (.tup [.int n,.int 0]))∧i≤ns.length∧H12 F=some (.lst zs)∧Zu H11 H12) ?_ (fun _ _ _ _ h=>SqL.of (h.2.2.2.2 _ _ hio)) ?_ ?_
   ·exact⟨⟨none,rfl⟩,⟨[],rfl,rfl,fun h=>(by cases h),fun j b n h=>by simp at h⟩,Qv _,Zb,Zi hF _⟩
   ·rintro i y zs σ H12 hy ⟨⟨v,rfl⟩,⟨bs,rfl,hbl,hFb,hbs⟩,hi,hF12,s12⟩
    rw[Qi]at hy
    cases hz:ns[i]? with
    | none=>rw[hz]at hy;cases hy
    | some n =>
    rw[hz]at hy
    cases hy
    have hil':i<ns.length:=(Qc.mp hz).1
    refine⟨_,rfl,(by show 2≤sizeLine;decide),fun nt hnt=>?_⟩
    have s13:=Zi hnt (.tup [.int n,.int 0])
    have nFn:F≠nt:=Zc hF12 hnt
    refine⟨s13 _ _ hF12,(by rw[Qa,hbl,sizeLine_eq];omega),⟨_,rfl⟩,⟨bs++[nt],by rw[Qe];rfl,by rw[Qg,Qk];omega,?_,fun j b m hb hm=>?_⟩,hil',Zb,fun c o hc=>?_⟩
    ·intro h
     rcases Qf.mp h with h|h
     ·exact hFb h
     ·exact nFn (Qd.mp h)
    ·by_cases hj:j<bs.length
     ·rw[QS hj]at hb
      have:=hbs j b m hb hm
      rw[Ze (fun z:b=F=>hFb (by rw[← z];exact Qq hb))]
      exact s13 _ _ this
     ·have hj2:j=bs.length:=by
       have:=(Qc.mp hb).1
       rw[Qg,Qk]at this
       omega
      subst hj2
      rw[QN (Qh _),Nat.sub_self]at hb
      have hb':nt=b:=by simpa using hb
      rw[hbl,hz]at hm
      have hm':n=m:=Qp hm
      rw[← hb',← hm',Ze nFn.symm]
      exact Zb
    ·rw[Ze (Zc hc hF)];exact s13 _ _ (s12 c o hc)
   rintro zs σ H12 ⟨⟨v,rfl⟩,⟨bs,rfl,hbl,_,hbs⟩,_,hF12,s12⟩
   rw[Qa]at hbl
   have s1012:=s11.trans s12
   have dv1:DV K H12 (.ref mt) (.list (ns.map prD)):=.lst (SqL.of (s1012 _ _ hmt)) (by rw[← en];exact ZpZ us (fun u hu=>by rw[s1012 _ _ (hus u hu),m3 u hu];rfl))
   have dv2:DV K H12 (.ref F) (.list (ns.map prD)):=.lst (SqL.of hF12) (ZpY bs ns hbl hbs)
   refine⟨.list (ns.map prD),.list (ns.map prD),dv1,dv2,Zhc ns,Zhc ns,_,rfl,?_⟩
   rw[ZqC]
   refine ZbF ?_
   exact(xw6 _ _ _ _ _ _ ⟨rfl,fun b o hb=>s1012 _ _ (s10 _ _ (s9 _ _ (B08 b o hb)))⟩)
 ·rintro σ H2 ⟨v1,v2,v3,v4,v5,v6,rfl,s2⟩
  exact q H2
end
theorem ZK{K:PySem.W.Frag}{h:Heap}{mg:Str→Option Value}{x:Str}{st:Stmt}{ps:List Str}{f:Addr}{od an:Option Addr}{sl:Array (Option Value)}{oc kV dc pm cd ct:Value}(X:K.In h)(G:h.Ns mainGlobals mg)
  (a:PySem.W.nsIn K mainGlobals x=some (some (.ref f))) (l:K.lookup f=some ⟨oc,od,.func (PySem.W.fnOf x x (Zp st) (Zl st) (Zg st) .none kV dc pm an cd ct),sl⟩) (c:PySem.W.codeIn K cd x=true) (k:PySem.W.keepIn K (.ref f)=true)
  (hb:∀ (kV doc pm:Value) (an:Option Addr) (cdv ct:Value) (us:List Value),us.length=ps.length→bindArgs (PySem.W.fnOf x x (Zp st) (Zl st) (Zg st) .none kV doc pm an cdv ct) ⟨us,[]⟩=pure (ps.zip us)):Top K mg x st ps :=
 ⟨_,_,Z0 (st:=st) l c k,PySem.W.mg_of X G a,(Z0 (st:=st) l c k).binds hb⟩
theorem Zdt:∀us:List Value,us.length=1→∃a0,us=[a0]
 | [a0],_=>⟨a0,rfl⟩
theorem ZcB:∀us:List Value,us.length=2→∃a0 a1,us=[a0,a1]
 | [a0,a1],_=>⟨a0,a1,rfl⟩
theorem Zi6:∀us:List Value,us.length=3→∃a0 a1 a2,us=[a0,a1,a2]
 | [a0,a1,a2],_=>⟨a0,a1,a2,rfl⟩
theorem ZqM:∀us:List Value,us.length=4→∃a0 a1 a2 a3,us=[a0,a1,a2,a3]
 | [a0,a1,a2,a3],_=>⟨a0,a1,a2,a3,rfl⟩
theorem all_mk{l:PySem.W.OpenLaw}{w:World}{K:PySem.W.Frag}{h:Heap}{mg:Str→Option Value}{fa:Addr}(X:K.In h)(G:h.Ns mainGlobals mg)(hfa:mg "law" = some (.ref fa))
  {cRow:Addr}
  {cMerge:Addr}
  (aCRow:#[Xns,K,"Row",cRow]) (pgRow:PySem.W.plainGet K cRow Str.empty=true) (hdRow:PySem.W.hasDictIn K cRow=true) (poRow:PySem.W.plainOver K cRow=true) (saRow:PySem.W.findIn K (.ref cRow) "__setattr__" = some (some (.builtin "object.__setattr__"))) (mkRow:PySem.W.makesIn K cRow=true) (kcRow:#[Xki,K,cRow])
  (nARow_all_keys:PySem.W.findIn K (.ref cRow) "all_keys" = some none)
  (nARow_fars:PySem.W.findIn K (.ref cRow) "fars" = some none)
  (nARow_gone:PySem.W.findIn K (.ref cRow) "gone" = some none)
  (aCMerge:#[Xns,K,"Merge",cMerge]) (pgMerge:PySem.W.plainGet K cMerge Str.empty=true) (hdMerge:PySem.W.hasDictIn K cMerge=true) (poMerge:PySem.W.plainOver K cMerge=true) (saMerge:PySem.W.findIn K (.ref cMerge) "__setattr__" = some (some (.builtin "object.__setattr__"))) (mkMerge:PySem.W.makesIn K cMerge=true) (kcMerge:#[Xki,K,cMerge])
  (nAMerge_best:PySem.W.findIn K (.ref cMerge) "best" = some none)
  (nAMerge_likened:PySem.W.findIn K (.ref cMerge) "likened" = some none)
  (nAMerge_looked:PySem.W.findIn K (.ref cMerge) "looked" = some none)
  (nAMerge_next_number:PySem.W.findIn K (.ref cMerge) "next_number" = some none)
  (nAMerge_rows:PySem.W.findIn K (.ref cMerge) "rows" = some none)
  (nAMerge_stays:PySem.W.findIn K (.ref cMerge) "stays" = some none)
  (a0:#[Xns,K,"is_number",f0]) (l0:#[Xlk,K,f0,oc0,od0,"is_number","is_number",Zbw,kV0,dc0,pm0,an0,cd0,ct0,sl0]) (c0:#[Xci,K,cd0,"is_number"]) (k0:#[Xki,K,f0])
  (a1:#[Xns,K,"near_plan",f1]) (l1:#[Xlk,K,f1,oc1,od1,"near_plan","near_plan",ZbB,kV1,dc1,pm1,an1,cd1,ct1,sl1]) (c1:#[Xci,K,cd1,"near_plan"]) (k1:#[Xki,K,f1])
  (a2:#[Xns,K,"least_groves",f2]) (l2:#[Xlk,K,f2,oc2,od2,"least_groves","least_groves",ZaX,kV2,dc2,pm2,an2,cd2,ct2,sl2]) (c2:#[Xci,K,cd2,"least_groves"]) (k2:#[Xki,K,f2])
  (a3:#[Xns,K,"least_tree",f3]) (l3:#[Xlk,K,f3,oc3,od3,"least_tree","least_tree",Zbk,kV3,dc3,pm3,an3,cd3,ct3,sl3]) (c3:#[Xci,K,cd3,"least_tree"]) (k3:#[Xki,K,f3])
  (a4:#[Xns,K,"least_grove",f4]) (l4:#[Xlk,K,f4,oc4,od4,"least_grove","least_grove",Za2,kV4,dc4,pm4,an4,cd4,ct4,sl4]) (c4:#[Xci,K,cd4,"least_grove"]) (k4:#[Xki,K,f4])
  (a5:#[Xns,K,"least_cut",f5]) (l5:#[Xlk,K,f5,oc5,od5,"least_cut","least_cut",Zba,kV5,dc5,pm5,an5,cd5,ct5,sl5]) (c5:#[Xci,K,cd5,"least_cut"]) (k5:#[Xki,K,f5])
  (a6:#[Xns,K,"alike",f6]) (l6:#[Xlk,K,f6,oc6,od6,"alike","alike",Zdr,kV6,dc6,pm6,an6,cd6,ct6,sl6]) (c6:#[Xci,K,cd6,"alike"]) (k6:#[Xki,K,f6])
  (a7:#[Xns,K,"liken",f7]) (l7:#[Xlk,K,f7,oc7,od7,"liken","liken",ZdM,kV7,dc7,pm7,an7,cd7,ct7,sl7]) (c7:#[Xci,K,cd7,"liken"]) (k7:#[Xki,K,f7])
  (a8:#[Xns,K,"liken_from",f8]) (l8:#[Xlk,K,f8,oc8,od8,"liken_from","liken_from",Zbn,kV8,dc8,pm8,an8,cd8,ct8,sl8]) (c8:#[Xci,K,cd8,"liken_from"]) (k8:#[Xki,K,f8])
  (a9:#[Xns,K,"alike_from",f9]) (l9:#[Xlk,K,f9,oc9,od9,"alike_from","alike_from",Zbj,kV9,dc9,pm9,an9,cd9,ct9,sl9]) (c9:#[Xci,K,cd9,"alike_from"]) (k9:#[Xki,K,f9])
  (a10:#[Xns,K,"order_at",f10]) (l10:#[Xlk,K,f10,oc10,od10,"order_at","order_at",ZbY,kV10,dc10,pm10,an10,cd10,ct10,sl10]) (c10:#[Xci,K,cd10,"order_at"]) (k10:#[Xki,K,f10])
  (a11:#[Xns,K,"stretches",f11]) (l11:#[Xlk,K,f11,oc11,od11,"stretches","stretches",Zbx,kV11,dc11,pm11,an11,cd11,ct11,sl11]) (c11:#[Xci,K,cd11,"stretches"]) (k11:#[Xki,K,f11])
  (a12:#[Xns,K,"runs_of",f12]) (l12:#[Xlk,K,f12,oc12,od12,"runs_of","runs_of",ZbO,kV12,dc12,pm12,an12,cd12,ct12,sl12]) (c12:#[Xci,K,cd12,"runs_of"]) (k12:#[Xki,K,f12])
  (a13:#[Xns,K,"run_behind",f13]) (l13:#[Xlk,K,f13,oc13,od13,"run_behind","run_behind",Zbm,kV13,dc13,pm13,an13,cd13,ct13,sl13]) (c13:#[Xci,K,cd13,"run_behind"]) (k13:#[Xki,K,f13])
  (a14:#[Xns,K,"is_run",f14]) (l14:#[Xlk,K,f14,oc14,od14,"is_run","is_run",ZcM,kV14,dc14,pm14,an14,cd14,ct14,sl14]) (c14:#[Xci,K,cd14,"is_run"]) (k14:#[Xki,K,f14])
  (a15:#[Xns,K,"halves",f15]) (l15:#[Xlk,K,f15,oc15,od15,"halves","halves",ZcU,kV15,dc15,pm15,an15,cd15,ct15,sl15]) (c15:#[Xci,K,cd15,"halves"]) (k15:#[Xki,K,f15])
  (a16:#[Xns,K,"way_up",f16]) (l16:#[Xlk,K,f16,oc16,od16,"way_up","way_up",ZcY,kV16,dc16,pm16,an16,cd16,ct16,sl16]) (c16:#[Xci,K,cd16,"way_up"]) (k16:#[Xki,K,f16])
  (a17:#[Xns,K,"first_break",f17]) (l17:#[Xlk,K,f17,oc17,od17,"first_break","first_break",Za8,kV17,dc17,pm17,an17,cd17,ct17,sl17]) (c17:#[Xci,K,cd17,"first_break"]) (k17:#[Xki,K,f17])
  (a18:#[Xns,K,"alikes",f18]) (l18:#[Xlk,K,f18,oc18,od18,"alikes","alikes",ZcR,kV18,dc18,pm18,an18,cd18,ct18,sl18]) (c18:#[Xci,K,cd18,"alikes"]) (k18:#[Xki,K,f18])
  (a19:#[Xns,K,"refuse_break",f19]) (l19:#[Xlk,K,f19,oc19,od19,"refuse_break","refuse_break",ZaU,kV19,dc19,pm19,an19,cd19,ct19,sl19]) (c19:#[Xci,K,cd19,"refuse_break"]) (k19:#[Xki,K,f19])
  (a20:#[Xns,K,"matches_up",f20]) (l20:#[Xlk,K,f20,oc20,od20,"matches_up","matches_up",Zbl,kV20,dc20,pm20,an20,cd20,ct20,sl20]) (c20:#[Xci,K,cd20,"matches_up"]) (k20:#[Xki,K,f20])
  (a21:#[Xns,K,"merged",f21]) (l21:#[Xlk,K,f21,oc21,od21,"merged","merged",Zcg,kV21,dc21,pm21,an21,cd21,ct21,sl21]) (c21:#[Xci,K,cd21,"merged"]) (k21:#[Xki,K,f21])
  (a22:#[Xns,K,"how_many",f22]) (l22:#[Xlk,K,f22,oc22,od22,"how_many","how_many",Zbr,kV22,dc22,pm22,an22,cd22,ct22,sl22]) (c22:#[Xci,K,cd22,"how_many"]) (k22:#[Xki,K,f22])
  (a23:#[Xns,K,"merged_by",f23]) (l23:#[Xlk,K,f23,oc23,od23,"merged_by","merged_by",Zay,kV23,dc23,pm23,an23,cd23,ct23,sl23]) (c23:#[Xci,K,cd23,"merged_by"]) (k23:#[Xki,K,f23])
  (a24:#[Xns,K,"sort_by",f24]) (l24:#[Xlk,K,f24,oc24,od24,"sort_by","sort_by",ZbM,kV24,dc24,pm24,an24,cd24,ct24,sl24]) (c24:#[Xci,K,cd24,"sort_by"]) (k24:#[Xki,K,f24])
  (a25:#[Xns,K,"is_sorted",f25]) (l25:#[Xlk,K,f25,oc25,od25,"is_sorted","is_sorted",ZbC,kV25,dc25,pm25,an25,cd25,ct25,sl25]) (c25:#[Xci,K,cd25,"is_sorted"]) (k25:#[Xki,K,f25])
  (a26:#[Xns,K,"cost_of",f26]) (l26:#[Xlk,K,f26,oc26,od26,"cost_of","cost_of",Zcj,kV26,dc26,pm26,an26,cd26,ct26,sl26]) (c26:#[Xci,K,cd26,"cost_of"]) (k26:#[Xki,K,f26])
  (a27:#[Xns,K,"size_and_cost",f27]) (l27:#[Xlk,K,f27,oc27,od27,"size_and_cost","size_and_cost",ZaN,kV27,dc27,pm27,an27,cd27,ct27,sl27]) (c27:#[Xci,K,cd27,"size_and_cost"]) (k27:#[Xki,K,f27])
  (a28:#[Xns,K,"_law_mix",f28]) (l28:#[Xlk,K,f28,oc28,od28,"_law_mix","_law_mix",Zdy,kV28,dc28,pm28,an28,cd28,ct28,sl28]) (c28:#[Xci,K,cd28,"_law_mix"]) (k28:#[Xki,K,f28])
  (a29:#[Xns,K,"_law_left",f29]) (l29:#[Xlk,K,f29,oc29,od29,"_law_left","_law_left",ZcJ,kV29,dc29,pm29,an29,cd29,ct29,sl29]) (c29:#[Xci,K,cd29,"_law_left"]) (k29:#[Xki,K,f29])
  (a30:#[Xns,K,"_law_pick",f30]) (l30:#[Xlk,K,f30,oc30,od30,"_law_pick","_law_pick",ZcF,kV30,dc30,pm30,an30,cd30,ct30,sl30]) (c30:#[Xci,K,cd30,"_law_pick"]) (k30:#[Xki,K,f30])
  (a31:#[Xns,K,"_law_stems",f31]) (l31:#[Xlk,K,f31,oc31,od31,"_law_stems","_law_stems",ZbN,kV31,dc31,pm31,an31,cd31,ct31,sl31]) (c31:#[Xci,K,cd31,"_law_stems"]) (k31:#[Xki,K,f31])
  (a32:#[Xns,K,"_law_key",f32]) (l32:#[Xlk,K,f32,oc32,od32,"_law_key","_law_key",Zc2,kV32,dc32,pm32,an32,cd32,ct32,sl32]) (c32:#[Xci,K,cd32,"_law_key"]) (k32:#[Xki,K,f32])
  (a33:#[Xns,K,"_law_things",f33]) (l33:#[Xlk,K,f33,oc33,od33,"_law_things","_law_things",ZbT,kV33,dc33,pm33,an33,cd33,ct33,sl33]) (c33:#[Xci,K,cd33,"_law_things"]) (k33:#[Xki,K,f33])
  (a34:#[Xns,K,"_law_room",f34]) (l34:#[Xlk,K,f34,oc34,od34,"_law_room","_law_room",ZcH,kV34,dc34,pm34,an34,cd34,ct34,sl34]) (c34:#[Xci,K,cd34,"_law_room"]) (k34:#[Xki,K,f34])
  (a35:#[Xns,K,"_law_in_order",f35]) (l35:#[Xlk,K,f35,oc35,od35,"_law_in_order","_law_in_order",ZaB,kV35,dc35,pm35,an35,cd35,ct35,sl35]) (c35:#[Xci,K,cd35,"_law_in_order"]) (k35:#[Xki,K,f35])
  (a36:#[Xns,K,"_law_by_plan",f36]) (l36:#[Xlk,K,f36,oc36,od36,"_law_by_plan","_law_by_plan",Zbe,kV36,dc36,pm36,an36,cd36,ct36,sl36]) (c36:#[Xci,K,cd36,"_law_by_plan"]) (k36:#[Xki,K,f36])
  (a37:#[Xns,K,"_law_sorts_right",f37]) (l37:#[Xlk,K,f37,oc37,od37,"_law_sorts_right","_law_sorts_right",ZaL,kV37,dc37,pm37,an37,cd37,ct37,sl37]) (c37:#[Xci,K,cd37,"_law_sorts_right"]) (k37:#[Xki,K,f37])
  (a38:#[Xns,K,"law",f38]) (l38:#[Xlk,K,f38,oc38,od38,"law","law",Zck,kV38,dc38,pm38,an38,cd38,ct38,sl38]) (c38:#[Xci,K,cd38,"law"]) (k38:#[Xki,K,f38])
  (a39:#[Xfi,K,cRow,"__init__",f39]) (i39:#[Xif,K,f39]) (l39:#[Xlk,K,f39,oc39,od39,"__init__","Row.__init__",Za5,kV39,dc39,pm39,an39,cd39,ct39,sl39]) (c39:#[Xci,K,cd39,"Row.__init__"]) (k39:#[Xki,K,f39])
  (a40:#[Xfi,K,cRow,"to_go",f40]) (i40:#[Xif,K,f40]) (l40:#[Xlk,K,f40,oc40,od40,"to_go","Row.to_go",ZaP,kV40,dc40,pm40,an40,cd40,ct40,sl40]) (c40:#[Xci,K,cd40,"Row.to_go"]) (k40:#[Xki,K,f40])
  (a41:#[Xfi,K,cRow,"head",f41]) (i41:#[Xif,K,f41]) (l41:#[Xlk,K,f41,oc41,od41,"head","Row.head",Za1,kV41,dc41,pm41,an41,cd41,ct41,sl41]) (c41:#[Xci,K,cd41,"Row.head"]) (k41:#[Xki,K,f41])
  (a42:#[Xfi,K,cMerge,"__init__",f42]) (i42:#[Xif,K,f42]) (l42:#[Xlk,K,f42,oc42,od42,"__init__","Merge.__init__",ZaF,kV42,dc42,pm42,an42,cd42,ct42,sl42]) (c42:#[Xci,K,cd42,"Merge.__init__"]) (k42:#[Xki,K,f42])
  (a43:#[Xfi,K,cMerge,"coming",f43]) (i43:#[Xif,K,f43]) (l43:#[Xlk,K,f43,oc43,od43,"coming","Merge.coming",Zah,kV43,dc43,pm43,an43,cd43,ct43,sl43]) (c43:#[Xci,K,cd43,"Merge.coming"]) (k43:#[Xki,K,f43])
  (a44:#[Xfi,K,cMerge,"take",f44]) (i44:#[Xif,K,f44]) (l44:#[Xlk,K,f44,oc44,od44,"take","Merge.take",ZaD,kV44,dc44,pm44,an44,cd44,ct44,sl44]) (c44:#[Xci,K,cd44,"Merge.take"]) (k44:#[Xki,K,f44])
  (a45:#[Xfi,K,cMerge,"take_few",f45]) (i45:#[Xif,K,f45]) (l45:#[Xlk,K,f45,oc45,od45,"take_few","Merge.take_few",Z5,kV45,dc45,pm45,an45,cd45,ct45,sl45]) (c45:#[Xci,K,cd45,"Merge.take_few"]) (k45:#[Xki,K,f45])
  (a46:#[Xfi,K,cMerge,"looks",f46]) (i46:#[Xif,K,f46]) (l46:#[Xlk,K,f46,oc46,od46,"looks","Merge.looks",ZaK,kV46,dc46,pm46,an46,cd46,ct46,sl46]) (c46:#[Xci,K,cd46,"Merge.looks"]) (k46:#[Xki,K,f46])
  (a47:#[Xfi,K,cMerge,"play_all",f47]) (i47:#[Xif,K,f47]) (l47:#[Xlk,K,f47,oc47,od47,"play_all","Merge.play_all",Z4,kV47,dc47,pm47,an47,cd47,ct47,sl47]) (c47:#[Xci,K,cd47,"Merge.play_all"]) (k47:#[Xki,K,f47])
  (a48:#[Xfi,K,cMerge,"play",f48]) (i48:#[Xif,K,f48]) (l48:#[Xlk,K,f48,oc48,od48,"play","Merge.play",ZaC,kV48,dc48,pm48,an48,cd48,ct48,sl48]) (c48:#[Xci,K,cd48,"Merge.play"]) (k48:#[Xki,K,f48])
  (a49:#[Xfi,K,cMerge,"send_out",f49]) (i49:#[Xif,K,f49]) (l49:#[Xlk,K,f49,oc49,od49,"send_out","Merge.send_out",Z2,kV49,dc49,pm49,an49,cd49,ct49,sl49]) (c49:#[Xci,K,cd49,"Merge.send_out"]) (k49:#[Xki,K,f49])
  (a50:#[Xfi,K,cMerge,"play_again",f50]) (i50:#[Xif,K,f50]) (l50:#[Xlk,K,f50,oc50,od50,"play_again","Merge.play_again",ZQ,kV50,dc50,pm50,an50,cd50,ct50,sl50]) (c50:#[Xci,K,cd50,"Merge.play_again"]) (k50:#[Xki,K,f50])
  (a51:#[Xfi,K,cMerge,"meet",f51]) (i51:#[Xif,K,f51]) (l51:#[Xlk,K,f51,oc51,od51,"meet","Merge.meet",ZaA,kV51,dc51,pm51,an51,cd51,ct51,sl51]) (c51:#[Xci,K,cd51,"Merge.meet"]) (k51:#[Xki,K,f51])
  (z0:PySem.W.nsIn K mainGlobals "abs" = some none) (z1:PySem.W.nsIn K mainGlobals "bool" = some none) (z2:PySem.W.nsIn K mainGlobals "enumerate" = some none) (z3:PySem.W.nsIn K mainGlobals "int" = some none) (z4:PySem.W.nsIn K mainGlobals "isinstance" = some none) (z5:PySem.W.nsIn K mainGlobals "len" = some none) (z6:PySem.W.nsIn K mainGlobals "list" = some none) (z7:PySem.W.nsIn K mainGlobals "max" = some none) (z8:PySem.W.nsIn K mainGlobals "min" = some none) (z9:PySem.W.nsIn K mainGlobals "range" = some none) (z10:PySem.W.nsIn K mainGlobals "sorted" = some none) (z11:PySem.W.nsIn K mainGlobals "sum" = some none) :
  ∃fd:FuncData,(∀ (s:Shared) (v:Value),BindsTo s fd ⟨[v],[]⟩ [("_law_script",v)])∧∀base:Heap,K.In base→base.Ns mainGlobals mg→Zd5 l.prog w K mg base CX0 90 fa fd ["_law_script"] (Zkq K):=by
 have e:=hfa.symm.trans (PySem.W.mg_of X G a38)
 cases e
 have T:Zaf K mg cRow cMerge:=⟨⟨QT X G z0,QT X G z1,QT X G z2,QT X G z3,QT X G z4,QT X G z5,QT X G z6,QT X G z7,QT X G z8,QT X G z9,QT X G z10,QT X G z11⟩,ZK X G a0 l0 c0 k0 (fun _ _ _ _ _ _ us hl=>by obtain⟨_,rfl⟩:=Zdt us hl;exact rfl),ZK X G a1 l1 c1 k1 (fun _ _ _ _ _ _ us hl=>by obtain⟨_,_,rfl⟩:=ZcB us hl;exact rfl),ZK X G a2 l2 c2 k2 (fun _ _ _ _ _ _ us hl=>by obtain⟨_,_,rfl⟩:=ZcB us hl;exact rfl),ZK X G a3 l3 c3 k3 (fun _ _ _ _ _ _ us hl=>match us,hl with|[_,_,_,_,_],_=>rfl),ZK X G a4 l4 c4 k4 (fun _ _ _ _ _ _ us hl=>match us,hl with|[_,_,_,_,_],_=>rfl),ZK X G a5 l5 c5 k5 (fun _ _ _ _ _ _ us hl=>by obtain⟨_,_,_,_,rfl⟩:=ZqM us hl;exact rfl),ZK X G a6 l6 c6 k6 (fun _ _ _ _ _ _ us hl=>by obtain⟨_,_,rfl⟩:=ZcB us hl;exact rfl),ZK X G a7 l7 c7 k7 (fun _ _ _ _ _ _ us hl=>by obtain⟨_,_,rfl⟩:=ZcB us hl;exact rfl),ZK X G a8 l8 c8 k8 (fun _ _ _ _ _ _ us hl=>by obtain⟨_,_,_,rfl⟩:=Zi6 us hl;exact rfl),ZK X G a9 l9 c9 k9 (fun _ _ _ _ _ _ us hl=>by obtain⟨_,_,_,rfl⟩:=Zi6 us hl;exact rfl),ZK X G a10 l10 c10 k10 (fun _ _ _ _ _ _ us hl=>by obtain⟨_,_,_,rfl⟩:=Zi6 us hl;exact rfl),ZK X G a11 l11 c11 k11 (fun _ _ _ _ _ _ us hl=>by obtain⟨_,rfl⟩:=Zdt us hl;exact rfl),ZK X G a12 l12 c12 k12 (fun _ _ _ _ _ _ us hl=>by obtain⟨_,_,rfl⟩:=ZcB us hl;exact rfl),ZK X G a13 l13 c13 k13 (fun _ _ _ _ _ _ us hl=>by obtain⟨_,_,_,rfl⟩:=Zi6 us hl;exact rfl),ZK X G a14 l14 c14 k14 (fun _ _ _ _ _ _ us hl=>by obtain⟨_,_,rfl⟩:=ZcB us hl;exact rfl),ZK X G a15 l15 c15 k15 (fun _ _ _ _ _ _ us hl=>by obtain⟨_,rfl⟩:=Zdt us hl;exact rfl),ZK X G a16 l16 c16 k16 (fun _ _ _ _ _ _ us hl=>by obtain⟨_,_,rfl⟩:=ZcB us hl;exact rfl),ZK X G a17 l17 c17 k17 (fun _ _ _ _ _ _ us hl=>by obtain⟨_,rfl⟩:=Zdt us hl;exact rfl),ZK X G a18 l18 c18 k18 (fun _ _ _ _ _ _ us hl=>by obtain⟨_,rfl⟩:=Zdt us hl;exact rfl),ZK X G a19 l19 c19 k19 (fun _ _ _ _ _ _ us hl=>by obtain⟨_,_,rfl⟩:=ZcB us hl;exact rfl),ZK X G a20 l20 c20 k20 (fun _ _ _ _ _ _ us hl=>by obtain⟨_,_,rfl⟩:=ZcB us hl;exact rfl),ZK X G a21 l21 c21 k21 (fun _ _ _ _ _ _ us hl=>by obtain⟨_,rfl⟩:=Zdt us hl;exact rfl),ZK X G a22 l22 c22 k22 (fun _ _ _ _ _ _ us hl=>by obtain⟨_,rfl⟩:=Zdt us hl;exact rfl),ZK X G a23 l23 c23 k23 (fun _ _ _ _ _ _ us hl=>by obtain⟨_,_,_,rfl⟩:=Zi6 us hl;exact rfl),ZK X G a24 l24 c24 k24 (fun _ _ _ _ _ _ us hl=>by obtain⟨_,_,_,rfl⟩:=Zi6 us hl;exact rfl),ZK X G a25 l25 c25 k25 (fun _ _ _ _ _ _ us hl=>by obtain⟨_,_,rfl⟩:=ZcB us hl;exact rfl),ZK X G a26 l26 c26 k26 (fun _ _ _ _ _ _ us hl=>by obtain⟨_,_,rfl⟩:=ZcB us hl;exact rfl),ZK X G a27 l27 c27 k27 (fun _ _ _ _ _ _ us hl=>by obtain⟨_,_,rfl⟩:=ZcB us hl;exact rfl),ZK X G a28 l28 c28 k28 (fun _ _ _ _ _ _ us hl=>by obtain⟨_,_,rfl⟩:=ZcB us hl;exact rfl),ZK X G a29 l29 c29 k29 (fun _ _ _ _ _ _ us hl=>by obtain⟨_,_,rfl⟩:=ZcB us hl;exact rfl),ZK X G a30 l30 c30 k30 (fun _ _ _ _ _ _ us hl=>by obtain⟨_,_,rfl⟩:=ZcB us hl;exact rfl),ZK X G a31 l31 c31 k31 (fun _ _ _ _ _ _ us hl=>by obtain⟨_,rfl⟩:=Zdt us hl;exact rfl),ZK X G a32 l32 c32 k32 (fun _ _ _ _ _ _ us hl=>by obtain⟨_,_,rfl⟩:=ZcB us hl;exact rfl),ZK X G a33 l33 c33 k33 (fun _ _ _ _ _ _ us hl=>by obtain⟨_,rfl⟩:=Zdt us hl;exact rfl),ZK X G a34 l34 c34 k34 (fun _ _ _ _ _ _ us hl=>by obtain⟨_,rfl⟩:=Zdt us hl;exact rfl),ZK X G a35 l35 c35 k35 (fun _ _ _ _ _ _ us hl=>by obtain⟨_,rfl⟩:=Zdt us hl;exact rfl),ZK X G a36 l36 c36 k36 (fun _ _ _ _ _ _ us hl=>by obtain⟨_,_,_,rfl⟩:=Zi6 us hl;exact rfl),ZK X G a37 l37 c37 k37 (fun _ _ _ _ _ _ us hl=>by obtain⟨_,_,_,_,rfl⟩:=ZqM us hl;exact rfl),⟨_,_,Z0 (st:=Za5) l39 c39 k39,⟨mkRow,a39,i39,kcRow⟩,(Z0 (st:=Za5) l39 c39 k39).binds (ps:=["self", "keys"]) (fun _ _ _ _ _ _ us hl=>by obtain⟨_,_,rfl⟩:=ZcB us hl;exact rfl),PySem.W.mg_of X G aCRow⟩,⟨_,_,Z0 (st:=ZaP) l40 c40 k40,⟨a40,i40,k40⟩,(Z0 (st:=ZaP) l40 c40 k40).binds (ps:=["self"]) (fun _ _ _ _ _ _ us hl=>by obtain⟨_,rfl⟩:=Zdt us hl;exact rfl)⟩,⟨_,_,Z0 (st:=Za1) l41 c41 k41,⟨a41,i41,k41⟩,(Z0 (st:=Za1) l41 c41 k41).binds (ps:=["self"]) (fun _ _ _ _ _ _ us hl=>by obtain⟨_,rfl⟩:=Zdt us hl;exact rfl)⟩,⟨_,_,Z0 (st:=ZaF) l42 c42 k42,⟨mkMerge,a42,i42,kcMerge⟩,(Z0 (st:=ZaF) l42 c42 k42).binds (ps:=["self", "rows"]) (fun _ _ _ _ _ _ us hl=>by obtain⟨_,_,rfl⟩:=ZcB us hl;exact rfl),PySem.W.mg_of X G aCMerge⟩,⟨_,_,Z0 (st:=Zah) l43 c43 k43,⟨a43,i43,k43⟩,(Z0 (st:=Zah) l43 c43 k43).binds (ps:=["self"]) (fun _ _ _ _ _ _ us hl=>by obtain⟨_,rfl⟩:=Zdt us hl;exact rfl)⟩,⟨_,_,Z0 (st:=ZaD) l44 c44 k44,⟨a44,i44,k44⟩,(Z0 (st:=ZaD) l44 c44 k44).binds (ps:=["self"]) (fun _ _ _ _ _ _ us hl=>by obtain⟨_,rfl⟩:=Zdt us hl;exact rfl)⟩,⟨_,_,Z0 (st:=Z5) l45 c45 k45,⟨a45,i45,k45⟩,(Z0 (st:=Z5) l45 c45 k45).binds (ps:=["self", "many"]) (fun _ _ _ _ _ _ us hl=>by obtain⟨_,_,rfl⟩:=ZcB us hl;exact rfl)⟩,⟨_,_,Z0 (st:=ZaK) l46 c46 k46,⟨a46,i46,k46⟩,(Z0 (st:=ZaK) l46 c46 k46).binds (ps:=["self"]) (fun _ _ _ _ _ _ us hl=>by obtain⟨_,rfl⟩:=Zdt us hl;exact rfl)⟩,⟨_,_,Z0 (st:=Z4) l47 c47 k47,⟨a47,i47,k47⟩,(Z0 (st:=Z4) l47 c47 k47).binds (ps:=["self"]) (fun _ _ _ _ _ _ us hl=>by obtain⟨_,rfl⟩:=Zdt us hl;exact rfl)⟩,⟨_,_,Z0 (st:=ZaC) l48 c48 k48,⟨a48,i48,k48⟩,(Z0 (st:=ZaC) l48 c48 k48).binds (ps:=["self", "numbers"]) (fun _ _ _ _ _ _ us hl=>by obtain⟨_,_,rfl⟩:=ZcB us hl;exact rfl)⟩,⟨_,_,Z0 (st:=Z2) l49 c49 k49,⟨a49,i49,k49⟩,(Z0 (st:=Z2) l49 c49 k49).binds (ps:=["self", "number"]) (fun _ _ _ _ _ _ us hl=>by obtain⟨_,_,rfl⟩:=ZcB us hl;exact rfl)⟩,⟨_,_,Z0 (st:=ZQ) l50 c50 k50,⟨a50,i50,k50⟩,(Z0 (st:=ZQ) l50 c50 k50).binds (ps:=["self", "meeting", "comer"]) (fun _ _ _ _ _ _ us hl=>by obtain⟨_,_,_,rfl⟩:=Zi6 us hl;exact rfl)⟩,⟨_,_,Z0 (st:=ZaA) l51 c51 k51,⟨a51,i51,k51⟩,(Z0 (st:=ZaA) l51 c51 k51).binds (ps:=["self", "one", "other", "far"]) (fun _ _ _ _ _ _ us hl=>by obtain⟨_,_,_,_,rfl⟩:=ZqM us hl;exact rfl)⟩,⟨pgRow,hdRow,poRow,saRow⟩,nARow_all_keys,nARow_fars,nARow_gone,⟨pgMerge,hdMerge,poMerge,saMerge⟩,nAMerge_best,nAMerge_likened,nAMerge_looked,nAMerge_next_number,nAMerge_rows,nAMerge_stays⟩
 exact⟨PySem.W.fnOf "law" "law" (Zp Zck) (Zl Zck) (Zg Zck) .none kV38 dc38 pm38 an38 cd38 ct38,fun s v=>.of_eq rfl,fun base _ _=>Zrr (Z0 (st:=Zck) l38 c38 k38) T⟩
theorem walk{l:PySem.W.OpenLaw}{q:Program}{loose:List Str}{XP:(Str→Option Value)→Heap→Prop}{YP:World→Heap→Prop}{d:DefRec}{K:Params→PySem.W.Frag}(hn:l.most=some 63)(hdf:d.params.defaults=[])
  (hY:∀ (w:World) (h:Heap),YP w h→(K w.params).In h)
  (F:∀ (w:World) (mg:Str→Option Value) (fa:Addr) (h:Heap),(K w.params).In h→h.Ns mainGlobals mg→mg d.name=some (.ref fa) →
   ∃fd:FuncData,(∀ (s:Shared) (u:Value),BindsTo s fd ⟨[u],[]⟩ [("_law_script",u)])∧∀base:Heap,(K w.params).In base→base.Ns mainGlobals mg→Zd5 l.prog w (K w.params) mg base CX0 90 fa fd ["_law_script"] (Zkq (K w.params))) :
  PySem.W.WalkO q loose XP YP l.row.toRowW d [] (fun f vs=>PySem.call f vs) :=
 L2.walk_of (n:=63) (k:=90) (x := "_law_script") (CX:=fun _=>CX0) (sp:=fun w=>Zkq (K w.params)) hn (by decide) hdf ⟨rfl,by decide,by decide,rfl⟩ hY F (fun _ _ a ns hl _ hS=>⟨a,ns,rfl,hS,hl,fun _=>rfl⟩) fun _ _ _ _ _ z=>z
end My
open PySem PySem.W PyProof.Rows
namespace PySem.W.Fast
def tw6830794280562027756:=0
def tw17244401921165669804:=0
def tw5167215075445541932:=0
def tw401382566710551973:=0
def tw3850971645984036282:=0
def tw16771361509107723720:=0
def tw16783523755387312913:=0
def tw8294351253304653488:=0
def tw5583245644637388985:=0
def tw3417791978837539694:=0
def tw9843181863890779310:=0
def tw8409865106002494023:=0
def tw7334907290802390684:=0
def tw13962542557454800682:=0
def tw6345525344061998474:=0
def tw5786215985079151608:=0
def tw4994919179049344193:=0
def tw5229223280755349423:=0
def tw11275215188130282148:=0
def tw12687815282452550665:=0
def tw1226007517489033385:=0
def tw12120875638898595337:=0
def tw4974784943230036086:=0
def tw320703387893185522:=0
def tw7001571619444322070:=0
def tw7475728492492245927:=0
def tw9575125564281742458:=0
def tw11136700319633589590:=0
def tw1383067967625893550:=0
def tw6717751351996566967:=0
def tw6568485339105776368:=0
def tw17135972357494894312:=0
def tw7687078881962886428:=0
def tw16410173678995320340:=0
def tw11595538261308487988:=0
def tw3935510991007307663:=0
def tw4699063151093631924:=0
def tw9113321656436737092:=0
def tw6627742277900205085:=0
def tw4852781430742773768:=0
def tw3245907973919311759:=0
def tw15750196681053174770:=0
def tw8025292865317398575:=0
def tw223756257996025010:=0
def tw6709665673266431726:=0
def tw17278798651305796365:=0
def tw8533594082246098381:=0
def tw13297702796923378223:=0
def tw11939385458455506857:=0
def tw3430645726853767198:=0
def tw8800748703719870809:=0
def tw811022336346118132:=0
def tw5236884491695072621:=0
def tw8577180801881919260:=0
def tw9990095254261799120:=0
def tw11545750238783467252:=0
def tw12115213339563113695:=0
def tw18336667349038050522:=0
def tw13377724922219632183:=0
def tw13240163338807001421:=0
def tw14954570095096104553:=0
def tw13742784908128325319:=0
def tw11148833410271905070:=0
def tw5272238365432942477:=0
def tw6590385790186823219:=0
def tw6147645788245111212:=0
def tw12999049966790810889:=0
def tw12859131204334100781:=0
def tw9368116544593123424:=0
def tw2966496702088639077:=0
def tw3192442657963642142:=0
def tw12744756553326788225:=0
def tw1742571882036486530:=0
def tw5622239441360793068:=0
def tw1522130580742340521:=0
def tw1980548042273179296:=0
def tw50395119152867942:=0
def tw6418049115662340277:=0
def tw16544375350115398224:=0
def tw13774562600314931449:=0
def tw16904544192213654593:=0
def tw14167651729024010544:=0
def tw10239999261825644215:=0
def tw5341586494855432610:=0
def tw7983133849381422029:=0
def tw16189989263405537381:=0
def tw1608662142324227954:=0
def tw8793823827529020531:=0
def tw9230471011285138425:=0
def tw13135173749666569500:=0
def tw4480541306787241771:=0
def tw13618492758518874292:=0
def tw8783240100175552578:=0
def tw3687223665468039064:=0
def tw6535499741452251927:=0
def tw18077433316969175703:=0
def tw5063376437222717214:=0
def tw6947299563845012967:=0
def tw16084310861496771893:=0
def tw12355065800653483290:=0
def tw3945559505049060108:=0
def tw15633410185150338016:=0
def tw5082047413984824233:=0
def tw15340192005291917565:=0
def tw1731653930393793171:=0
def tw845593669541705910:=0
def tw7942512595435114811:=0
def tw493077988625107178:=0
def tw12668584240627121200:=0
def tw7512203252701861727:=0
def tw9225372256353347688:=0
def tw14554311342548907919:=0
def tw14752596624902594788:=0
def tw15870583762842489457:=0
def tw1130983935128454998:=0
def tw14342744914943169277:=0
def tw3088762860118972602:=0
def tw2715468304597772588:=0
def tw4918863595639896852:=0
def tw6330087550188036787:=0
def tw14211491589080196487:=0
def tw9925868442659489349:=0
def tw3820015694128228717:=0
def tw13502450657491439167:=0
def tw1348635872489363330:=0
def tw2381189376144483012:=0
def tw338940444619318016:=0
def tw8747723248345782964:=0
def tw21897431928842269:=0
def tw12087964204322237281:=0
def tw6220548447106301393:=0
def tw12758317521687919151:=0
def tw6654989461396436012:=0
def tw7943831716965273785:=0
def tw439325746911867258:=0
def tw13167724611709619090:=0
def tw3415238623740982058:=0
def tw11561533916106439781:=0
def tw15004261771161105945:=0
def tw16720518573457083890:=0
def tw9343934996431209421:=0
def tw445558505937517205:=0
def tw11568235264633182781:=0
def tw14984969257858796571:=0
def tw16012200816774369756:=0
def tw4915325533596949904:=0
def tw14970543469705691976:=0
def tw3442267974197407170:=0
def tw15865579706045923729:=0
def tw906672773195599566:=0
def tw13751831299947877529:=0
def tw11194264642458550934:=0
def tw16067861277900491402:=0
def tw16780840772842841216:=0
def tw14919367085263617086:=0
def tw11684866170329781052:=0
def tw13594360418037046203:=0
def tw644583024171777753:=0
def tw10752457407288108314:=0
def tw13637126341423282095:=0
def tw8796470573599792701:=0
def tw13542688340207147184:=0
def tw17197564370249830792:=0
def tw10496933090804333890:=0
def tw9898159401889762019:=0
def tw10561824959660817756:=0
def tw13429742893962108091:=0
def tw14076865619946215630:=0
def tw4855313324593976251:=0
def tw12018907409876896780:=0
def tw2406374551590711605:=0
def tw13540584564099729170:=0
def tw7745617263990229730:=0
def tw5953069110210781835:=0
def tw5632403059317022952:=0
def tw10488355105801577551:=0
def tw3026453209218460083:=0
def tw2610628180886905216:=0
def tw5692691592029296607:=0
def tw6655800798453132419:=0
def tw13638763721670848006:=0
def tw2588007859141247727:=0
def tw10896454238058221135:=0
def tw17587109838310658782:=0
def tw8326096512637629747:=0
def tw17879064247101119744:=0
def tw15796961442077602983:=0
def tw13927012910043396760:=0
def tw14727144046412323993:=0
def tw904669696146440005:=0
def tw4537000571460478451:=0
def tw14089349583860152521:=0
def tw10447500754510847691:=0
def tw1656646306623173089:=0
def tw7128316093871312848:=0
def tw2144762812062037551:=0
def tw18135044576621954870:=0
def tw3671260466793400633:=0
def tw536487542453138699:=0
def tw15356055473343087706:=0
def tw9079047195524435378:=0
def tw14872895738275411773:=0
def tw1012460360898718002:=0
def tw10607273506763437772:=0
def tw12502007125796819358:=0
def tw12084470342538735893:=0
def tw1529588180581097436:=0
def tw14654647200980849739:=0
def tw4499180244345962581:=0
def tw4767044682781970467:=0
def tw12505013495532336170:=0
def tw14192881370530737816:=0
def tw12879545019521860217:=0
def tw13396671236669018045:=0
def tw15843431179182266165:=0
def tw11205754694787615669:=0
def tw9539074862462253958:=0
def tw17695561402586949965:=0
def tw12802327873987027148:=0
def tw18358371571150461386:=0
def tw10006093332929554344:=0
def tw13361801358690520005:=0
def tw12179029624297599130:=0
def tw16056703287453838812:=0
def tw7962383381811660861:=0
def tw695920282490817307:=0
def tw13899002613132743982:=0
def tw15202557775441560659:=0
def tw7905116323202253772:=0
def tw3882162205189269750:=0
def tw10773796218894358483:=0
def tw18207200930796819529:=0
def tw1012964210072079866:=0
def tw17679346261059442107:=0
def tw11925781561784093949:=0
def tw2526621511722440631:=0
def tw12842718015378791161:=0
def tw16551526763381615797:=0
def tw11435847750929808473:=0
def tw4712102687470745781:=0
def tw8317527882281171816:=0
def tw3797116909192565027:=0
def tw11133802900295505065:=0
def tw6703043074185115755:=0
def tw14488915459510803436:=0
def tw8626146127782119294:=0
def tw14261793877205746274:=0
def tw15281281093347520243:=0
def tw16344198592205583605:=0
def tw3613594905697290145:=0
def tw1472416958864216007:=0
def tw4881049808815640178:=0
def tw4171297170053992393:=0
def tw6354269898292120600:=0
def tw3744035872268564178:=0
def tw18271823048430401521:=0
def tw5123206975532762903:=0
def tw8034343632729966299:=0
def tw15080352552996304354:=0
def tw16018614921229368753:=0
def tw13533360870261751397:=0
def tw8724952010370999425:=0
def tw1378674880877136362:=0
def tw15142833658624872198:=0
def tw9767606831071253906:=0
def tw11946224291249879615:=0
def tw1071630339129923639:=0
def tw15718965061995604259:=0
def tw13097505088366771099:=0
def tw6967320306948878102:=0
def tw9313982924227833234:=0
def tw3447942831953837137:=0
def tw2753313816626507932:=0
def tw17084664650226780054:=0
def tw6784741987019152409:=0
def tw9745265803598002844:=0
def tw9190438759947392421:=0
def tw15415285641565809368:=0
def tw1040529645109325429:=0
def tw15568780498761875971:=0
def tw16200603162552338372:=0
def tw7447382720588342824:=0
def tw15297017136229271325:=0
def tw9707311544644851733:=0
def tw6513491273032171676:=0
def tw16877335738012710435:=0
def tw4900605292169093672:=0
def tw805860677778086879:=0
def tw13287268641299486468:=0
def tw9064127426812655293:=0
def tw11082943252053811443:=0
def tw14218713821855921171:=0
def tw18109085514597779552:=0
def tw17015620267937534330:=0
def tw9142097737699642349:=0
def tw4379159588432004722:=0
def tw8275960310547025093:=0
def tw14191514960393501847:=0
def tw14336860321493076425:=0
def tw3509840073951769571:=0
def tw8265364509802136346:=0
def tw11243789613855253898:=0
def tw1396219825888128758:=0
def tw8893785242762627982:=0
def tw14451124628895421895:=0
def tw12126964528018196282:=0
def tw13762546670048030801:=0
def tw13124957239823820747:=0
def tw7748306560371976508:=0
def tw15447413512852400713:=0
def tw11198679150102896017:=0
def tw10152644984987200127:=0
def tw15956781191573966308:=0
def tw2524011943780134329:=0
def tw8583944326249728373:=0
def tw11410084515013458138:=0
def tw1511734934565806766:=0
def tw1844451077042998024:=0
def tw4119613317773800439:=0
def tw11288112765225384574:=0
def tw15724573456786626039:=0
def tw431464780335368304:=0
def tw2953126351203866650:=0
def tw3261594509606230483:=0
def tw8973478821650112948:=0
def tw15480160422309474458:=0
def tw3963019292770914107:=0
def tw14057662834558326414:=0
def tw3834225677813626142:=0
def tw346547477749651793:=0
def tw14040564144718127252:=0
def tw11275247081363906337:=0
def tw17515515923446581242:=0
def tw5098609173535379871:=0
def tw10291396181922133563:=0
def tw18358235910077501673:=0
def tw14601757197478201775:=0
def tw12869892468334689156:=0
def tw18336760465035180788:=0
def tw11990520383568267583:=0
def tw16900645219206407643:=0
def tw6044635351330718713:=0
def tw344490478773831564:=0
def tw9878914160355962918:=0
def tw15790336092362147746:=0
def tw15358779199356050915:=0
def tw13760523305289467725:=0
def tw775060122098879610:=0
def tw4476632767177207455:=0
def tw9740017420048020795:=0
def tw12692707966536010899:=0
def tw8978538455237618714:=0
def tw809580300469392771:=0
def tw5989835065542004239:=0
def tw11910915750999500442:=0
def tw11700770964732908959:=0
def tw2716776902555631228:=0
def tw11483359092697066027:=0
def tw2542749194157729060:=0
def tw10080869411726062159:=0
def tw15209332679626643768:=0
def tw4862872765160499471:=0
def tw10967875369672381503:=0
def tw969438113363393836:=0
def tw1743695051758223755:=0
def tw5053992950490532363:=0
def tw7254049149352232178:=0
def tw3115719640430840162:=0
def tw4644018436234663090:=0
def tw14747541756812009596:=0
def tw6153646429492274054:=0
def tw9744059468611407650:=0
def tw6088173765842796483:=0
def tw4097508632296766516:=0
def tw4991255420365130867:=0
def tw9585246606069339310:=0
def tw15367612724144571665:=0
def tw10701576613300506503:=0
def tw2906741842534681111:=0
def tw306942512618254235:=0
def tw8726002708661652134:=0
def tw16296978316592724266:=0
def tw2388650294198110824:=0
def tw7196173627105491170:=0
def tw10437524846920855501:=0
def tw5044255340801176718:=0
def tw10020015364129759982:=0
def tw14349356480045223150:=0
def tw3436182593663852480:=0
def tw8166401098341545572:=0
def tw8188663536328781988:=0
def tw17170523414698330052:=0
def tw3989180281136052221:=0
def tw8537373055191597782:=0
def tw16562387068330467326:=0
def tw4988676703735982727:=0
def tw8427178700981127076:=0
def tw14203765938976905646:=0
def tw15488924964200623617:=0
def tw8522451811694018594:=0
def tw18154283149067714401:=0
def tw9912911989828877483:=0
def tw15831175447590859313:=0
def tw4628653923346938874:=0
def tw10344816559283947395:=0
def tw7738138160421333090:=0
def tw4150160105159173463:=0
def tw10012830710180844417:=0
def tw4581414998913673562:=0
def tw2858684085409328308:=0
def tw16499009045467325584:=0
def tw4277505443029390738:=0
def tw11647008038980842575:=0
def tw3099236189061224533:=0
def tw1961874681544072856:=0
def tw13809062080268448881:=0
def tw6935608427057241786:=0
def tw15142774582474981069:=0
def tw4812982271220903164:=0
def tw14014930048740466714:=0
def tw1805395628238700846:=0
def tw7866226573612288383:=0
def tw12978353422043371412:=0
def tw6602663193969962659:=0
def tw10632816789965695774:=0
def tw11297299522756909577:=0
def tw15442625229007608506:=0
def tw17936806310323986563:=0
def tw11579971232311330924:=0
def tw1463358636404012471:=0
def tw7976445550951714374:=0
def tw5424049367895993181:=0
def tw13674903582318077931:=0
def tw221265542120686746:=0
def tw5084313217963913061:=0
def tw10406878297570789799:=0
def tw14252128295238314675:=0
def tw12650793680749467866:=0
def tw15776086315413136065:=0
def tw7138860786163638132:=0
def tw6293789169074550525:=0
def tw10101738473048883720:=0
def tw8229998442434528878:=0
def tw6579657823168697144:=0
def tw2960198949964277876:=0
def tw12906645692858115619:=0
def tw11383259994417060643:=0
def tw3519480061067204145:=0
def tw2578356349937223340:=0
def tw10036859426686174911:=0
def tw6222545072893195298:=0
def tw475826755184906360:=0
def tw8462777086905812292:=0
def tw1885182976643911848:=0
def tw4815556110949964312:=0
def tw1628442962755407464:=0
def tw15643849072545838868:=0
def tw15281375078332908016:=0
def tw2273148825380693487:=0
def tw7077282343851051239:=0
def tw11507303252768588139:=0
def tw12805046800000324804:=0
def tw11831685129372543785:=0
end PySem.W.Fast
set_option maxRecDepth 100000 in
set_option maxHeartbeats 0 in
theorem PySem.Challenge.cw_mergetree_k68_whole_sorts_beside_sorted_holds : PySem.Challenge.rw_mergetree_k68_whole_sorts_beside_sorted.Holds := by
 w_on;o_law;k_head;(case hw=>w_witness2)
 k_fill
 refine My.walk (l:=PySem.Challenge.rw_mergetree_k68_whole_sorts_beside_sorted) rfl rfl (fun w h Y=>PySem.W.kIn_of Y) ?F
 case F =>
  intro w mg fa h KX G hmg
  refine' My.all_mk KX G hmg ?aCRow ?pgRow ?hdRow ?poRow ?saRow ?mkRow ?kcRow ?nARow_all_keys ?nARow_fars ?nARow_gone ?aCMerge ?pgMerge ?hdMerge ?poMerge ?saMerge ?mkMerge ?kcMerge ?nAMerge_best ?nAMerge_likened ?nAMerge_looked ?nAMerge_next_number ?nAMerge_rows ?nAMerge_stays ?a0 ?l0 ?c0 ?k0 ?a1 ?l1 ?c1 ?k1 ?a2 ?l2 ?c2 ?k2 ?a3 ?l3 ?c3 ?k3 ?a4 ?l4 ?c4 ?k4 ?a5 ?l5 ?c5 ?k5 ?a6 ?l6 ?c6 ?k6 ?a7 ?l7 ?c7 ?k7 ?a8 ?l8 ?c8 ?k8 ?a9 ?l9 ?c9 ?k9 ?a10 ?l10 ?c10 ?k10 ?a11 ?l11 ?c11 ?k11 ?a12 ?l12 ?c12 ?k12 ?a13 ?l13 ?c13 ?k13 ?a14 ?l14 ?c14 ?k14 ?a15 ?l15 ?c15 ?k15 ?a16 ?l16 ?c16 ?k16 ?a17 ?l17 ?c17 ?k17 ?a18 ?l18 ?c18 ?k18 ?a19 ?l19 ?c19 ?k19 ?a20 ?l20 ?c20 ?k20 ?a21 ?l21 ?c21 ?k21 ?a22 ?l22 ?c22 ?k22 ?a23 ?l23 ?c23 ?k23 ?a24 ?l24 ?c24 ?k24 ?a25 ?l25 ?c25 ?k25 ?a26 ?l26 ?c26 ?k26 ?a27 ?l27 ?c27 ?k27 ?a28 ?l28 ?c28 ?k28 ?a29 ?l29 ?c29 ?k29 ?a30 ?l30 ?c30 ?k30 ?a31 ?l31 ?c31 ?k31 ?a32 ?l32 ?c32 ?k32 ?a33 ?l33 ?c33 ?k33 ?a34 ?l34 ?c34 ?k34 ?a35 ?l35 ?c35 ?k35 ?a36 ?l36 ?c36 ?k36 ?a37 ?l37 ?c37 ?k37 ?a38 ?l38 ?c38 ?k38 ?a39 ?i39 ?l39 ?c39 ?k39 ?a40 ?i40 ?l40 ?c40 ?k40 ?a41 ?i41 ?l41 ?c41 ?k41 ?a42 ?i42 ?l42 ?c42 ?k42 ?a43 ?i43 ?l43 ?c43 ?k43 ?a44 ?i44 ?l44 ?c44 ?k44 ?a45 ?i45 ?l45 ?c45 ?k45 ?a46 ?i46 ?l46 ?c46 ?k46 ?a47 ?i47 ?l47 ?c47 ?k47 ?a48 ?i48 ?l48 ?c48 ?k48 ?a49 ?i49 ?l49 ?c49 ?k49 ?a50 ?i50 ?l50 ?c50 ?k50 ?a51 ?i51 ?l51 ?c51 ?k51 ?z0 ?z1 ?z2 ?z3 ?z4 ?z5 ?z6 ?z7 ?z8 ?z9 ?z10 ?z11
  (case aCRow=>k_is)
  (case pgRow=>k_is)
  (case hdRow=>k_is)
  (case poRow=>k_is)
  (case saRow=>k_is)
  (case mkRow=>k_is)
  (case kcRow=>k_is)
  (case nARow_all_keys=>k_is)
  (case nARow_fars=>k_is)
  (case nARow_gone=>k_is)
  (case aCMerge=>k_is)
  (case pgMerge=>k_is)
  (case hdMerge=>k_is)
  (case poMerge=>k_is)
  (case saMerge=>k_is)
  (case mkMerge=>k_is)
  (case kcMerge=>k_is)
  (case nAMerge_best=>k_is)
  (case nAMerge_likened=>k_is)
  (case nAMerge_looked=>k_is)
  (case nAMerge_next_number=>k_is)
  (case nAMerge_rows=>k_is)
  (case nAMerge_stays=>k_is)
  (case a0|l0|c0|k0=>k_is)
  (case a1|l1|c1|k1=>k_is)
  (case a2|l2|c2|k2=>k_is)
  (case a3|l3|c3|k3=>k_is)
  (case a4|l4|c4|k4=>k_is)
  (case a5|l5|c5|k5=>k_is)
  (case a6|l6|c6|k6=>k_is)
  (case a7|l7|c7|k7=>k_is)
  (case a8|l8|c8|k8=>k_is)
  (case a9|l9|c9|k9=>k_is)
  (case a10|l10|c10|k10=>k_is)
  (case a11|l11|c11|k11=>k_is)
  (case a12|l12|c12|k12=>k_is)
  (case a13|l13|c13|k13=>k_is)
  (case a14|l14|c14|k14=>k_is)
  (case a15|l15|c15|k15=>k_is)
  (case a16|l16|c16|k16=>k_is)
  (case a17|l17|c17|k17=>k_is)
  (case a18|l18|c18|k18=>k_is)
  (case a19|l19|c19|k19=>k_is)
  (case a20|l20|c20|k20=>k_is)
  (case a21|l21|c21|k21=>k_is)
  (case a22|l22|c22|k22=>k_is)
  (case a23|l23|c23|k23=>k_is)
  (case a24|l24|c24|k24=>k_is)
  (case a25|l25|c25|k25=>k_is)
  (case a26|l26|c26|k26=>k_is)
  (case a27|l27|c27|k27=>k_is)
  (case a28|l28|c28|k28=>k_is)
  (case a29|l29|c29|k29=>k_is)
  (case a30|l30|c30|k30=>k_is)
  (case a31|l31|c31|k31=>k_is)
  (case a32|l32|c32|k32=>k_is)
  (case a33|l33|c33|k33=>k_is)
  (case a34|l34|c34|k34=>k_is)
  (case a35|l35|c35|k35=>k_is)
  (case a36|l36|c36|k36=>k_is)
  (case a37|l37|c37|k37=>k_is)
  (case a38|l38|c38|k38=>k_is)
  (case a39|i39|l39|c39|k39=>k_is)
  (case a40|i40|l40|c40|k40=>k_is)
  (case a41|i41|l41|c41|k41=>k_is)
  (case a42|i42|l42|c42|k42=>k_is)
  (case a43|i43|l43|c43|k43=>k_is)
  (case a44|i44|l44|c44|k44=>k_is)
  (case a45|i45|l45|c45|k45=>k_is)
  (case a46|i46|l46|c46|k46=>k_is)
  (case a47|i47|l47|c47|k47=>k_is)
  (case a48|i48|l48|c48|k48=>k_is)
  (case a49|i49|l49|c49|k49=>k_is)
  (case a50|i50|l50|c50|k50=>k_is)
  (case a51|i51|l51|c51|k51=>k_is)
  (case z0=>k_is)
  (case z1=>k_is)
  (case z2=>k_is)
  (case z3=>k_is)
  (case z4=>k_is)
  (case z5=>k_is)
  (case z6=>k_is)
  (case z7=>k_is)
  (case z8=>k_is)
  (case z9=>k_is)
  (case z10=>k_is)
  (case z11=>k_is)
