import PyProof.Rows.All
import Wide.All
import OpenK.AllK
import Wide.FinOn
import Lean
import PyProof.EqAt
import PyProof.EqKinds
import PyProof.TupleCall
import PyProof.AttrMissHeap
import KE.KEqDict
import KE.KItemsList
import PyProof.WalksMore
import PyProof.TupleOfStr
import PySem.Challenge.RW_mergetree_k32_how_long_runs_are
set_option maxHeartbeats 4000000
set_option maxRecDepth 100000
set_option Elab.async false
set_option linter.all false
local macro_rules|`(tactic|ac_rfl)=>`(tactic|decide +kernel)
abbrev Qa:=@List.length_map
abbrev Qb:=@PySem.Heap.get?_push_of_some
abbrev Qc:=@List.length_append
abbrev Qd:=@List.getElem?_eq_getElem
abbrev Qe:=@List.mem_singleton
abbrev Qf:=@List.mem_append
abbrev Qg:=@List.map_append
abbrev Qh:=@Array.length_toList
abbrev Qi:=@List.mem_append_right
abbrev Qj:=@Nat.le_refl
abbrev Qk:=@PySem.Heap.lt_size
abbrev Ql:=@List.mem_cons_of_mem
abbrev Qm:=@List.size_toArray
abbrev Qn:=@List.getElem?_map
abbrev Qo:=@List.length_singleton
abbrev Qp:=@List.getElem?_eq_some_iff
abbrev Qq:=@PySem.Heap.get?_push_size
abbrev Qr:=@List.mem_append_left
abbrev Qs:=@Nat.ne_of_lt
abbrev Qt:=@List.eq_nil_of_length_eq_zero
abbrev Qu:=@List.mem_of_mem_erase
abbrev Qv:=@List.mem_cons_self
abbrev Qw:=@List.map_cons
abbrev Qx:=@Nat.zero_le
abbrev Qy:=@Nat.lt_of_lt_of_le
abbrev Qz:=@Bool.false_ne_true
abbrev QA:=@List.length_take
abbrev QB:=@PySem.boot_len
abbrev QC:=@Option.some.inj
abbrev QD:=@Array.getElem?_toList
abbrev QE:=@List.append_assoc
abbrev QF:=@List.take_of_length_le
abbrev QG:=@List.mem_of_getElem?
abbrev QH:=@Array.toList_append
abbrev QI:=@List.getElem_mem
abbrev QJ:=@List.nodup_append
abbrev QK:=@List.count_append
abbrev QL:=@List.getElem?_append_right
abbrev QM:=@List.getD_eq_getElem?_getD
abbrev QN:=@PySem.W.mg_none_of
abbrev QO:=@List.length_drop
abbrev QP:=@List.length_cons
abbrev QR:=@PySem.F.plainAttrs_list
abbrev QS:=@Nat.lt_succ_of_lt
abbrev QT:=@Array.getElem_toList
abbrev QU:=@Array.getElem?_eq_getElem
abbrev QV:=@List.pairwise_iff_getElem
abbrev QW:=@PySem.Heap.get?_update_other
abbrev QX:=@PySem.Heap.get?_update_of_ne
abbrev QY:=@PySem.Heap.get?_update_self
abbrev QZ:=@List.take_append_drop
abbrev Q0:=@Int.toNat_natCast
abbrev Q1:=@List.mem_map
abbrev Q3:=@List.append_nil
abbrev Q4:=@PySem.F.plain_extend_loop
abbrev Q5:=@List.filterMap_cons
abbrev Q6:=@List.mem_cons
abbrev Q7:=@PySem.F.slot_list_append
abbrev Q8:=@PySem.F.type_list_append
abbrev Q9:=@Nat.le_trans
abbrev Qaa:=@List.take_add_one
abbrev Qab:=@Array.toList_push
abbrev Qac:=@List.flatten_append
abbrev Qad:=@List.getElem?_append_left
abbrev Qae:=@List.Perm.append_left
abbrev Qaf:=@List.map_map
abbrev Qag:=@List.mem_iff_getElem
abbrev Qah:=@List.flatten_cons
abbrev Qai:=@PySem.mem_of_lookup
abbrev Qaj:=@PyProof.Rows.F.plain_set_update_loop
abbrev Qak:=@PyProof.Rows.callWith_type1
abbrev Qal:=@Nat.le_succ
abbrev Qam:=@List.mem_range
abbrev Qan:=@PySem.Heap.size_push
abbrev Qao:=@List.getElem?_eq_none
abbrev Qap:=@List.mem_map_of_mem
abbrev Qaq:=@Nat.lt_succ_self
abbrev Qar:=@List.map_nil
abbrev Qas:=@List.zip_cons_cons
abbrev Qat:=@Array.getElem?_eq_none
abbrev Qau:=@List.getElem?_dropLast
abbrev Qav:=@Nat.lt_irrefl
abbrev Qaw:=@List.length_replicate
abbrev Qax:=@List.perm_append_comm
abbrev Qay:=@List.getElem_drop
abbrev Qaz:=@List.getElem_take
abbrev QaA:=@List.length_range
abbrev QaB:=@Array.toList_reverse
abbrev QaC:=@List.mem_of_mem_drop
abbrev QaD:=@List.mem_of_mem_take
abbrev QaE:=@List.perm_cons_erase
abbrev QaF:=@Nat.le_of_lt
abbrev QaG:=@List.lookup_cons
abbrev QaH:=@List.map_congr_left
abbrev QaI:=@List.reverse_append
abbrev QaJ:=@PySem.Heap.SameBut.update
abbrev QaK:=@List.length_reverse
abbrev QaL:=@Array.getElem_mem_toList
abbrev QaM:=@List.length_erase_of_mem
abbrev QaN:=@Bool.eq_iff_iff
abbrev QaO:=@List.nodup_cons
abbrev QaP:=@List.range_succ
abbrev QaQ:=@Int.emod_lt_of_pos
abbrev QaR:=@Nat.ne_of_gt
abbrev QaS:=@Nat.zero_add
abbrev QaT:=@List.Perm.append_right
abbrev QaU:=@List.length_pos_of_mem
abbrev QaW:=@Nat.min_le_right
namespace L2
open PySem PySem.Spec PyProof.Rows
abbrev Key:=Sum Int Str
def ZcC:Key→Value→Bool
 | .inl k,v=>Value.isInt k v
 | .inr x,v=>Value.isStrOf x v
def ZiR(w:World):Key→Int
 | .inl k=>hashInt k
 | .inr x=>hashStr w x
theorem ZF:∀ {k:Key} {v:Value},ZcC k v=true→(∃i t,k=Sum.inl i∧v=Value.int i t)∨(∃x t,k=Sum.inr x∧v=Value.str x t)
 | .inl i,v,h=>by
  obtain⟨t,e⟩:=Value.isInt_shape (k:=i) (v:=v) h
  exact .inl ⟨i,t,rfl,e⟩
 | .inr x,v,h=>by
  obtain⟨t,e⟩:=Value.isStrOf_shape (x:=x) (v:=v) h
  exact .inr ⟨x,t,rfl,e⟩
theorem Zft(i:Int)(t:Tok):ZcC (.inl i) (.int i t)=true:=by simp[ZcC,Value.isInt]
theorem ZaO(x:Str)(t:Tok):ZcC (.inr x) (.str x t)=true:=by simp[ZcC,Value.isStrOf]
theorem Zis(a b:Int):decide ((Sum.inl a:Key)=Sum.inl b)=(a == b):=by
 by_cases e:a=b
 ·subst e;simp
 ·have h:¬ (Sum.inl a:Key)=Sum.inl b:=fun q=>e (Sum.inl.inj q)
  rw[decide_eq_false h]
  exact(beq_eq_false_iff_ne.mpr e).symm
theorem ZiB(a b:Str):decide ((Sum.inr a:Key)=Sum.inr b)=decide (a=b):=by
 by_cases e:a=b
 ·subst e;simp
 ·have h:¬ (Sum.inr a:Key)=Sum.inr b:=fun q=>e (Sum.inr.inj q)
  rw[decide_eq_false h,decide_eq_false e]
theorem Zih(a:Int)(b:Str):decide ((Sum.inl a:Key)=Sum.inr b)=false:=decide_eq_false (fun q=>nomatch q)
theorem Zin(a:Str)(b:Int):decide ((Sum.inr a:Key)=Sum.inl b)=false:=decide_eq_false (fun q=>nomatch q)
def ZE(prog:Program)(w:World):PySem.KeyKind prog w Key where
 is:=ZcC
 hash:=ZiR w
 inj:=fun v a b ha hb=>by
  rcases ZF ha with⟨i,t,rfl,rfl⟩|⟨x,t,rfl,rfl⟩
  ·rcases ZF hb with⟨j,u,rfl,e⟩|⟨y,u,rfl,e⟩
   ·injection e with e1 _;rw[e1]
   ·exact nomatch e
  ·rcases ZF hb with⟨j,u,rfl,e⟩|⟨y,u,rfl,e⟩
   ·exact nomatch e
   ·injection e with e1 _;rw[e1]
 byValue:=fun k v h=>by
  rcases ZF h with⟨i,t,rfl,rfl⟩|⟨x,t,rfl,rfl⟩<;>rfl
 pyHash:=fun hv h=>by
  rcases ZF hv with⟨i,t,rfl,rfl⟩|⟨x,t,rfl,rfl⟩
  ·exact wpAny_pyHash_int h
  ·exact wpAny_pyHash_str h
 eqBool:=fun hu hv h=>by
  rcases ZF hu with⟨i,t,rfl,rfl⟩|⟨x,t,rfl,rfl⟩
  ·rcases ZF hv with⟨j,u,rfl,rfl⟩|⟨y,u,rfl,rfl⟩
   ·rw[Zis]at h;exact wpAny_eqBool_int h
   ·rw[Zih]at h;exact SeqAt.EqAt.int_str i t y u _ _ _ _ h
  ·rcases ZF hv with⟨j,u,rfl,rfl⟩|⟨y,u,rfl,rfl⟩
   ·rw[Zin]at h;exact SeqAt.EqAt.str_int x t j u _ _ _ _ h
   ·rw[ZiB]at h;exact wpAny_eqBool_str h
 «strs»:=fun k x t v h=>by
  rcases ZF h with⟨i,u,rfl,e⟩|⟨y,u,rfl,e⟩
  ·exact nomatch e
  ·injection e with e1 _
   subst e1
   cases v<;>rfl
theorem Zen(prog:Program)(w:World)(i:Int)(t:Tok):(ZE prog w).is (.inl i) (.int i t)=true:=Zft i t
theorem Zeo(prog:Program)(w:World)(x:Str)(t:Tok):(ZE prog w).is (.inr x) (.str x t)=true:=ZaO x t
inductive V where
 | non|bl (b:Bool)|int (i:Int)|str (x:Str)|byt (b:Array UInt8)|flt (b:UInt64)|ref (a:Addr)|ty (n:String)
 deriving DecidableEq
def Zv:V→Value→Prop
 | .non,u=>u=Value.none
 | .bl b,u=>u=Value.bool b
 | .int i,u=>∃t,u=Value.int i t
 | .str x,u=>∃t,u=Value.str x t
 | .byt b,u=>∃t,u=Value.bytes b t
 | .flt b,u=>∃t,u=Value.float b t
 | .ref a,u=>u=Value.ref a
 | .ty n,u=>u=Value.type n
abbrev Zl:List V→List Value→Prop:=Paired Zv
theorem Zl.length{xs:List V}{us:List Value}(r:Zl xs us):xs.length=us.length:=Paired.length r
theorem Zl.get:∀ {xs:List V} {us:List Value} {i:Nat} {x:V},Zl xs us→xs[i]? = some x→∃u,us[i]? = some u∧Zv x u
 | _,_,_,_,.nil,e=>by simp at e
 | _,_,0,_,.cons r _,e=>by simp at e;subst e;exact⟨_,rfl,r⟩
 | _,_,i+1,x,.cons _ t,e=>by
  obtain⟨u,h1,h2⟩:=Zl.get (i:=i) (x:=x) t (by simpa using e)
  exact⟨u,by simpa using h1,h2⟩
theorem Zl.set{x:V}{u:Value}(r:Zv x u):∀ {xs:List V} {us:List Value} (i:Nat),Zl xs us→Zl (xs.set i x) (us.set i u)
 | _,_,_,.nil=>.nil
 | _,_,0,.cons _ t=>.cons r t
 | _,_,i+1,.cons q t=>.cons q (Zl.set r i t)
theorem Zl.append:∀ {xs ys:List V} {us ws:List Value},Zl xs us→Zl ys ws→Zl (xs++ys) (us++ws)
 | _,_,_,_,.nil,s=>s
 | _,_,_,_,.cons r t,s=>.cons r (Zl.append t s)
theorem Zl.take:∀ {xs:List V} {us:List Value} (n:Nat),Zl xs us→Zl (xs.take n) (us.take n)
 | _,_,0,_=>.nil
 | _,_,_+1,.nil=>.nil
 | _,_,n+1,.cons r t=>.cons r (Zl.take n t)
theorem Zl.drop:∀ {xs:List V} {us:List Value} (n:Nat),Zl xs us→Zl (xs.drop n) (us.drop n)
 | _,_,0,r=>r
 | _,_,_+1,.nil=>.nil
 | _,_,n+1,.cons _ t=>Zl.drop n t
def Zja:Option V→Option Value→Prop
 | some v,some u=>Zv v u
 | none,none=>True
 | _,_=>False
def KV{κ:Type}:List (κ×V)→List (κ×Value)→Prop:=Paired fun (p:κ×V) (q:κ×Value)=>p.1=q.1∧Zv p.2 q.2
def kV:Key→V
 | .inl i=>.int i
 | .inr x=>.str x
inductive HO where
  | lst (xs:List V)
  | tup (xs:List V)
  | dK (kvs:List (Key×V))|dT (kvs:List (List Key×V))
  | set (S:Int→Bool) (n:Nat)
  | ins (C dx:Addr) (fs:List (Str×V))
  | own (x:Addr)
  | xd (fs:List (Str×V))
  | met (f x:Addr)
  | rng (lo hi:Int)
  | frz (o:Obj) (u:HO)
  | tbl (ps:Array Value)
  | ext (φ:Heap→Prop)
abbrev Hp:=Addr→Option HO
def upd(H:Hp)(a:Addr)(o:HO):Hp:=fun b=>if b=a then some o else H b
theorem Zc{H:Hp}{a:Addr}{o:HO}:upd H a o a=some o:=by unfold upd;rw[if_pos rfl]
theorem Ze{H:Hp}{a b:Addr}{o:HO}(h:b≠a):upd H a o b=H b:=by unfold upd;rw[if_neg h]
theorem Zi4{H:Hp}{a b:Addr}{o u:HO}(h:H a=some o)(h':H b=some u)(d:o≠u):a≠b:=by
 intro e;subst e;rw[h]at h';exact d (QC h')
theorem Zb{H:Hp}{a b:Addr}{o:HO}(h:H a=some o)(h':H b=none):a≠b:=by
 intro e;subst e;rw[h]at h';cases h'
section
variable (P:Program) (w:World)
def ZaY(H:Hp)(h:Heap)(a:Addr):HO→Prop
 | .lst xs=>xs.length≤sizeLine∧∃ (its:List Value) (n:Nat),Zl xs its∧h.get? a=some { cls:=.type "list",data:=.seq its.toArray n }
 | .tup xs=>xs.length≤sizeLine∧∃its:List Value,Zl xs its∧IsTup h a its.toArray
 | .dK kvs=>kvs.length≤sizeLine∧(a == sysModules)=false∧∃vs,KV kvs vs∧h.DictOf (ZE P w) a vs
 | .dT kvs=>kvs.length≤sizeLine∧(a == sysModules)=false∧∃xs:List (List Key×Addr×Value),
   Paired (fun (p:List Key×V) (q:List Key×Addr×Value)=>p.1=q.1∧H q.2.1=some (.tup (p.1.map kV))∧Zv p.2 q.2.2) kvs xs ∧
   ∃o es ep,h.get? a=some o∧o.ExactDict∧o.data=.dict es ep∧es.toList=xs.map (entryOfKey (tupleKind (ZE P w)))∧(xs.map (·.1)).Nodup
 | .set S n=>h.SetOf (intKind P w) a S n
 | .ins C dx fs=>H dx=some (.own a)∧fs.length≤1000∧dx≠a∧h.get? a=some (PySem.W.instObj C dx) ∧
   ∃mA,h.Ns1 dx mA∧(∀f,Zja (fs.lookup f) (mA f))∧PySem.Within mA (fs.map (·.1))
 | .own _=>∃o,h.get? a=some o
 | .xd fs=>∃mA,h.Ns1 a mA∧∀f,Zja (fs.lookup f) (mA f)
 | .rng lo hi=>∃t u v,h.get? a=some { cls:=.type "range",data:=.fields #[.int lo t,.int hi u,.int 1 v] }
 | .frz o u=>h.get? a=some o∧ZaY H h a u
 | .tbl ps=>h.get? a=some { cls:=.none,data:=.fields ps }
 | .met f x=>h.get? a=some (PySem.W.methodObj (.ref f) (.ref x))
 | .ext φ=>φ h∧(∃o,h.get? a=some o)∧∀h1 h2:Heap,φ h1→(∀o,h1.get? a=some o→h2.get? a=some o)→φ h2
def HOk(H:Hp)(h:Heap):Prop:=∀a o,H a=some o→ZaY P w H h a o
end
section
variable {P:Program} {w:World} {H H':Hp} {h h':Heap} {a:Addr} {o:HO}
theorem ZaY.lt(x:ZaY P w H h a o):a<h.objs.size:=by
 cases o with
 | lst xs=>obtain⟨_,_,_,_,e⟩:=x;exact Qk e
 | tup xs=>obtain⟨_,_,_,p⟩:=x;exact p.lt
 | dK kvs=>obtain⟨_,_,_,_,o,_,_,e,_⟩:=x;exact Qk e
 | dT kvs=>obtain⟨_,_,_,_,o,_,_,e,_⟩:=x;exact Qk e
 | set S n=>obtain⟨o,_,_,_,e,_⟩:=x;exact Qk e
 | ins C dx fs=>obtain⟨_,_,_,e,_⟩:=x;exact Qk e
 | own y=>obtain⟨_,e⟩:=x;exact Qk e
 | xd fs=>obtain⟨_,⟨_,_,_,e,_⟩,_⟩:=x;exact Qk e
 | rng lo hi=>obtain⟨_,_,_,e⟩:=x;exact Qk e
 | frz ob u=>obtain⟨e,_⟩:=x;exact Qk e
 | tbl ps=>exact Qk (show h.get? a=some _ from x)
 | met f y=>exact Qk (show h.get? a=some _ from x)
 | ext φ=>obtain⟨_,⟨_,e⟩,_⟩:=x;exact Qk e
theorem Paired.mapP{α β:Type}{F G:α→β→Prop}:∀ {l₁:List α} {l₂:List β},Paired F l₁ l₂→(∀a b,F a b→G a b)→Paired G l₁ l₂
 | _,_,.nil,_=>.nil
 | _,_,.cons r t,f=>.cons (f _ _ r) (Paired.mapP t f)
theorem ZaY.stay(x:ZaY P w H h a o)(k:∀b u,(b=a∨H b=some (.own a))→h.get? b=some u→h'.get? b=some u)
  (ho:∀b,H b=some (.own a)→H' b=some (.own a)) (ht:∀b xs,H b=some (.tup xs)→H' b=some (.tup xs)):ZaY P w H' h' a o:=by
 induction o with
 | lst xs=>obtain⟨z,its,n,r,e⟩:=x;exact⟨z,its,n,r,k _ _ (.inl rfl) e⟩
 | tup xs=>obtain⟨z,its,r,ob,e,c⟩:=x;exact⟨z,its,r,ob,k _ _ (.inl rfl) e,c⟩
 | dK kvs=>obtain⟨z,y,vs,r,ob,es,ep,e,c⟩:=x;exact⟨z,y,vs,r,ob,es,ep,k _ _ (.inl rfl) e,c⟩
 | dT kvs =>
  obtain⟨z,y,xs,r,ob,es,ep,e,c⟩:=x
  exact⟨z,y,xs,Paired.mapP r fun p q z=>⟨z.1,ht _ _ z.2.1,z.2.2⟩,ob,es,ep,k _ _ (.inl rfl) e,c⟩
 | set S n=>obtain⟨ob,es,ep,t,e,c⟩:=x;exact⟨ob,es,ep,t,k _ _ (.inl rfl) e,c⟩
 | ins C dx fs =>
  obtain⟨d,z,ne,e,mA,⟨od,es,ep,e2,c⟩,r⟩:=x
  exact⟨ho _ d,z,ne,k _ _ (.inl rfl) e,mA,⟨od,es,ep,k _ _ (.inr d) e2,c⟩,r⟩
 | own y=>obtain⟨ob,e⟩:=x;exact⟨ob,k _ _ (.inl rfl) e⟩
 | xd fs=>obtain⟨mA,⟨od,es,ep,e,c⟩,r⟩:=x;exact⟨mA,⟨od,es,ep,k _ _ (.inl rfl) e,c⟩,r⟩
 | rng lo hi=>obtain⟨t,u,v,e⟩:=x;exact⟨t,u,v,k _ _ (.inl rfl) e⟩
 | frz ob u ih=>obtain⟨e,q⟩:=x;exact⟨k _ _ (.inl rfl) e,ih q⟩
 | tbl ps =>
  have e:h.get? a=some { cls:=.none,data:=.fields ps }:=x
  show h'.get? a=some { cls:=.none,data:=.fields ps }
  exact k a _ (.inl rfl) e
 | met f y =>
  have e:h.get? a=some (PySem.W.methodObj (.ref f) (.ref y)):=x
  show h'.get? a=some (PySem.W.methodObj (.ref f) (.ref y))
  exact k a _ (.inl rfl) e
 | ext φ=>obtain⟨p,⟨o,e⟩,st⟩:=x;exact⟨st _ _ p fun o q=>k _ _ (.inl rfl) q,⟨o,k _ _ (.inl rfl) e⟩,st⟩
theorem HOk.lt(x:HOk P w H h)(e:H a=some o):a<h.objs.size:=(x a o e).lt
theorem HOk.fresh(x:HOk P w H h)(e:h.objs.size≤a):H a=none:=by
 cases q:H a with
 | none=>rfl
 | some u=>exact absurd (Qy (x.lt q) e) (Qav _)
theorem HOk.kept(x:HOk P w H h)(k:∀b u,h.get? b=some u→h'.get? b=some u):HOk P w H h':=fun a o e =>
 (x a o e).stay (fun b u _ q=>k b u q) (fun _ q=>q) fun _ _ q=>q
theorem HOk.laid(x:HOk P w H h)(k:∀b u,h.get? b=some u→h'.get? b=some u)(hp:h.objs.size≤a)(new:ZaY P w (upd H a o) h' a o):HOk P w (upd H a o) h':=fun b u e=>by
 have hn:=x.fresh hp
 by_cases hb:b=a
 ·subst hb;rw[Zc]at e;cases e;exact new
 ·rw[Ze hb]at e
  exact(x b u e).stay (fun c v _ q=>k c v q) (fun c q=>by rw[Ze (Zb q hn)];exact q) fun c xs q=>by rw[Ze (Zb q hn)];exact q
end
def Rd(H:Hp)(a:Addr)(u:HO):Prop:=H a=some u∨∃o,H a=some (.frz o u)
theorem Rd.ok{P:Program}{w:World}{H:Hp}{h:Heap}{a:Addr}{u:HO}(r:Rd H a u)(x:HOk P w H h):ZaY P w H h a u:=by
 rcases r with r|⟨o,r⟩
 ·exact x a u r
 ·obtain⟨_,q⟩:=x a _ r
  exact q
def Mut:Option HO→Prop
 | some (.lst _)=>True
 | some (.dK _)=>True
 | some (.dT _)=>True
 | some (.set _ _)=>True
 | some (.ins _ _ _)=>True
 | some (.ext _)=>True
 | _=>False
section
variable {P:Program} {w:World} {H:Hp} {h h':Heap} {x e:Addr} {o':HO}
theorem HOk.write(ok:HOk P w H h)(mu:Mut (H x))(he:e=x∨H e=some (.own x))(k:∀b u,b≠e→h.get? b=some u→h'.get? b=some u)(heo:∃u,h'.get? e=some u)
  (new:ZaY P w (upd H x o') h' x o'):HOk P w (upd H x o') h':=fun b u q=>by
 have nown:∀c y,H c=some (.own y)→c≠x:=fun c y r z=>by subst z;rw[r]at mu;exact mu
 have ntup:∀c xs,H c=some (.tup xs)→c≠x:=fun c xs r z=>by subst z;rw[r]at mu;exact mu
 by_cases hb:b=x
 ·subst hb;rw[Zc]at q;cases q;exact new
 ·rw[Ze hb]at q
  by_cases hbe:b=e
  ·have q':H b=some (.own x):=by
    rcases he with z|z
    ·exact absurd (hbe.trans z) hb
    ·rw[hbe];exact z
   rw[q]at q';cases q'
   obtain⟨v,hv⟩:=heo
   exact⟨v,by rw[hbe];exact hv⟩
  ·refine(ok b u q).stay (fun c v hc r=>k c v ?_ r) (fun c r=>by rw[Ze (nown c b r)];exact r) fun c xs r=>by rw[Ze (ntup c xs r)];exact r
   rcases hc with rfl|hc
   ·exact hbe
   ·rintro rfl
    rcases he with z|z
    ·exact nown c b hc z
    ·rw[hc]at z;cases z;exact hb rfl
end
structure Un (fs ex:List Addr) (H H':Hp) (h h':Heap):Prop where
 keep:∀b o,h.get? b=some o→H b=none→b ∉ fs→b ∉ ex→h'.get? b=some o
 slot:∀b o,h.get? b=some o→H b=none→b∈fs→b ∉ ex→∃sl,h'.get? b=some { o with slots:=sl }
 free:∀b o,h.get? b=some o→H b=none→b ∉ ex→H' b=none
 there:∀b o,h.get? b=some o→b ∉ ex→∃o',h'.get? b=some o'
 tups:∀b xs,H b=some (.tup xs)→H' b=some (.tup xs)
 frzs:∀b o u,H b=some (.frz o u)→H' b=some (.frz o u)
 tbls:∀b ps,H b=some (.tbl ps)→∃more,H' b=some (.tbl (ps++more))
section
variable {fs fs' ex ex':List Addr} {H H1 H2:Hp} {h h1 h2 h':Heap} {a x e:Addr} {o:HO}
theorem Un.any(u:Un fs ex H H1 h h1){b:Addr}{ob:Obj}(q:h.get? b=some ob)(n:H b=none)(hx:b ∉ ex):∃sl,h1.get? b=some { ob with slots:=sl }:=by
 by_cases hb:b∈fs
 ·exact u.slot b ob q n hb hx
 ·exact⟨ob.slots,u.keep b ob q n hb hx⟩
theorem Un.kept(k:∀b u,h.get? b=some u→h'.get? b=some u):Un fs ex H H h h' :=
 ⟨fun b ob q _ _ _=>k b ob q,fun b ob q _ _ _=>⟨ob.slots,k b ob q⟩,fun _ _ _ n _=>n,fun b ob q _=>⟨ob,k b ob q⟩,fun _ _ q=>q,fun _ _ _ q=>q,fun _ ps q=>⟨#[],by rw[q];simp⟩⟩
theorem Un.refl:Un fs ex H H h h:=Un.kept fun _ _ q=>q
theorem Un.laid(k:∀b u,h.get? b=some u→h'.get? b=some u)(hp:h.objs.size≤a)(hn:H a=none):Un fs ex H (upd H a o) h h' where
 keep:=fun b u q _ _ _=>k b u q
 slot:=fun b u q _ _ _=>⟨u.slots,k b u q⟩
 free:=fun b u q n _=>by rw[Ze (Qs (Qy (Qk q) hp))];exact n
 there:=fun b u q _=>⟨u,k b u q⟩
 tups:=fun b xs q=>by rw[Ze (Zb q hn)];exact q
 frzs:=fun b u xs q=>by rw[Ze (Zb q hn)];exact q
 tbls:=fun b ps q=>⟨#[],by rw[Ze (Zb q hn),q];simp⟩
theorem Un.write(mu:Mut (H x))(he:e=x∨H e=some (.own x))(k:∀b u,b≠e→h.get? b=some u→h'.get? b=some u)(heo:∃u,h'.get? e=some u):Un fs ex H (upd H x o) h h':=by
 have hx:∀b,H b=none→b≠x:=fun b n z=>by subst z;rw[n]at mu;exact mu
 have hb:∀b,H b=none→b≠e:=fun b n z=>by
  subst z
  rcases he with r|r
  ·exact hx b n r
  ·rw[n]at r;cases r
 have hm:∀b u,H b=some u→¬ Mut (some u)→b≠x:=fun b u q nm z=>by subst z;rw[q]at mu;exact nm mu
 refine⟨fun b u q n _ _=>k b u (hb b n) q,fun b u q n _ _=>⟨u.slots,k b u (hb b n) q⟩,fun b u q n _=>by rw[Ze (hx b n)];exact n,fun b u q _=>?_,
  fun b xs q=>by rw[Ze (hm b _ q fun z=>z)];exact q,fun b u xs q=>by rw[Ze (hm b _ q fun z=>z)];exact q,fun b ps q=>⟨#[],by rw[Ze (hm b _ q fun z=>z),q];simp⟩⟩
 by_cases hbe:b=e
 ·subst hbe;exact heo
 ·exact⟨u,k b u hbe q⟩
end
def trk(h:Heap)(H:Hp):List Addr:=(List.range h.objs.size).filter fun a=>(H a).isSome
def ZdF(h:Heap)(H:Hp):Heap:=PySem.W.hideAll h (trk h H)
theorem ZfS(h:Heap)(H:Hp):(ZdF h H).objs.size=h.objs.size:=PySem.W.hideAll_size _ _
theorem ZgI{h:Heap}{H:Hp}{b:Addr}{o:Obj}(e:h.get? b=some o)(n:H b=none):(ZdF h H).get? b=some o :=
 PySem.W.hideAll_get _ e fun hm=>by
  have q:(H b).isSome=true:=(List.mem_filter.mp hm).2
  rw[n]at q;simp at q
theorem ZhH{h:Heap}{H:Hp}{b:Addr}{o:Obj}(e:(ZdF h H).get? b=some o):h.get? b=some o∧H b=none:=by
 have e':h.get? b=some o:=PySem.W.of_hideAll (trk h H) e
 refine⟨e',?_⟩
 cases q:H b with
 | none=>rfl
 | some x =>
  have hm:b∈trk h H:=List.mem_filter.mpr ⟨Qam.mpr (Qk e'),by simp[q]⟩
  have z:(ZdF h H).get? b=none:=PySem.W.hideAll_none (trk h H) hm
  rw[z]at e;cases e
def Zhl(g h:Heap)(L:Addr):List (Addr×Obj):=(List.range h.objs.size).filterMap fun a=>if a=L∨(g.get? a).isSome=true then none else (h.get? a).map fun o=>(a,o)
def rest(g h:Heap)(L d:Addr):List (Addr×Obj):=(Zhl g h L).filter fun p=>decide (p.1≠d)
structure Mod (K:PySem.W.Frag) (mg:Str→Option Value) (base:Heap):Prop where
 kin:K.In base
 glob:base.Ns mainGlobals mg
 blt:∃mb,base.Ns builtinsNs mb∧∀x:Str,x ≠ "__name__"→mb x=bootBuiltins x
 nolimit:base.NoLimit
structure Cx where
 prog:Program
 w:World
 K:PySem.W.Frag
 mg:Str→Option Value
 base:Heap
 A:Around
 N:List Str
 s₀:Shared
 H₀:Hp
 env:Env
 outer:List Env
 stack:List Env
 ex:List Addr
 fn:Str→Bool
 calm:Bool
 pn:List (Addr×Obj)
 xe:Value→Shared→Prop
def frs(l:List Env):List Addr:=l.filterMap (·.frame)
abbrev Cx.fs(X:Cx):List Addr:=frs X.outer
def Vis(sc:Scope)(x:Str):Prop:=sc.names.lookup x=some .local∨sc.names.lookup x=some .cell∨sc.names.lookup x=some .free
def Loc(sc:Scope)(x:Str):Prop:=sc.names.lookup x=some .local∨sc.names.lookup x=some .cell
def Zjx(env:Env)(h:Heap)(m:Str→Option Value)(x:Str)(u:Value):Prop :=
 (env.kindOf x=some .local∧m x=some u)∨((env.kindOf x=some .cell∨env.kindOf x=some .free)∧∃c,env.cells.lookup x=some c∧h.IsCell c (some u))
structure Cx.Ok (X:Cx):Prop where
 mod:Mod X.K X.mg X.base
 kind:X.env.scope.kind=.function
 glob:X.env.globals=mainGlobals
 blt:X.env.builtins=builtinsNs
 above:X.s₀.heap.objs.size≤X.env.locals
 inj:∀x y c,X.env.cells.lookup x=some c→X.env.cells.lookup y=some c→x=y
 has:∀x,(X.env.kindOf x=some .cell∨X.env.kindOf x=some .free)→∃c,X.env.cells.lookup x=some c
 cab:∀x c,X.fn x=true→X.env.cells.lookup x=some c→X.s₀.heap.objs.size≤c
 hd:X.calm=true→X.A.handled=none
 frames:X.A.frames=some X.stack
 stk:X.stack=X.outer∨(X.stack=X.env::X.outer∧X.env.frame=some X.env.locals)
 exf:∀b∈X.ex,b≠X.env.locals∧∀x c,X.env.cells.lookup x=some c→c≠b
 bs:∀b o,X.base.get? b=some o→X.s₀.heap.get? b=some o∧X.H₀ b=none
 bsz:X.base.objs.size≤X.s₀.heap.objs.size
 noex:∀b o,X.base.get? b=some o→b ∉ X.ex
 exfs:∀b∈X.ex,b ∉ X.fs
 funs:X.s₀.heap.FunFrames X.base X.outer
 frf:∀b∈X.fs,X.H₀ b=none
structure Inv (X:Cx) (pins:List (Addr×Obj)) (σ:List (Option V)) (H:Hp) (s:Shared):Prop where
 ok:X.Ok
 os:s.os=X.s₀.os
 bare:AllBare s.gens
 base:Un X.fs X.ex X.H₀ H X.s₀.heap s.heap
 loc:∃m,s.heap.Ns X.env.locals m∧∀ (i:Nat) (x:Str) (v:V),X.N[i]? = some x→σ[i]? = some (some v)→Vis X.env.scope x→∃u,Zv v u∧Zjx X.env s.heap m x u
 cell:∀x c,X.env.cells.lookup x=some c→∃v,s.heap.IsCell c v
 free:H X.env.locals=none
 freeC:∀x c,X.env.cells.lookup x=some c→H c=none
 pin:∀p∈X.pn++pins,s.heap.get? p.1=some p.2∧H p.1=none∧p.1≠X.env.locals∧p.1 ∉ X.fs∧∀v,p.2.data≠.cell v
 hok:HOk X.prog X.w H s.heap
 len:σ.length=X.N.length
section
variable {X:Cx} {pins:List (Addr×Obj)} {σ:List (Option V)} {H H':Hp} {s:Shared} {h':Heap}
theorem Cx.Ok.nofr(ok:X.Ok){b:Addr}{o:Obj}(e:X.base.get? b=some o):b ∉ X.fs:=fun hb=>by
 have:=(ok.funs.mem hb).1
 rw[e]at this;cases this
theorem Inv.bs(I:Inv X pins σ H s):∀b o,X.base.get? b=some o→s.heap.get? b=some o∧H b=none:=fun b o e =>
 ⟨I.base.keep b o (I.ok.bs b o e).1 (I.ok.bs b o e).2 (I.ok.nofr e) (I.ok.noex b o e),I.base.free b o (I.ok.bs b o e).1 (I.ok.bs b o e).2 (I.ok.noex b o e)⟩
theorem Inv.bk(I:Inv X pins σ H s):∀b o,X.base.get? b=some o→s.heap.get? b=some o:=fun b o e=>(I.bs b o e).1
theorem Inv.mod(I:Inv X pins σ H s):Mod X.K X.mg X.base:=I.ok.mod
theorem Inv.kIn(I:Inv X pins σ H s):X.K.In s.heap:=I.ok.mod.kin.keeps I.bk
theorem Inv.lt(I:Inv X pins σ H s):X.env.locals<s.heap.objs.size:=let ⟨_,hn,_⟩:=I.loc;hn.lt
theorem Inv.sz(I:Inv X pins σ H s):X.s₀.heap.objs.size≤s.heap.objs.size:=Q9 I.ok.above (QaF I.lt)
theorem Inv.nofs(I:Inv X pins σ H s){a:Addr}(h:s.heap.objs.size≤a):a ∉ X.fs:=fun hb=>by
 obtain⟨_,o,ho,_⟩:=I.ok.funs.mem hb
 exact absurd (Qy (Qk ho) (Q9 I.sz h)) (Qav _)
theorem Inv.cne(I:Inv X pins σ H s):∀x c,X.env.cells.lookup x=some c→c≠X.env.locals:=fun x c e z=>by
 obtain⟨v,o,ho,hd⟩:=I.cell x c e
 obtain⟨m,⟨o',es,ep,ho',hd',_⟩,_⟩:=I.loc
 rw[z,ho']at ho;cases ho;rw[hd']at hd;cases hd
theorem Inv.funs(I:Inv X pins σ H s):s.heap.FunFrames X.base X.outer:=by
 have all:∀ (l:List Env),(∀b∈frs l,b∈X.fs)→X.s₀.heap.FunFrames X.base l→s.heap.FunFrames X.base l:=by
  intro l
  induction l with
  | nil=>intro _ _;trivial
  | cons env r ih =>
   intro hs hl
   obtain⟨hk,⟨L,o,hf,hn,ho,hd⟩,hr⟩:=hl
   have hL:L∈X.fs:=hs L (by unfold frs;rw[Q5,hf];exact Qv)
   obtain⟨sl,e⟩:=I.base.slot L o ho (I.ok.frf L hL) hL fun z=>I.ok.exfs L z hL
   exact⟨hk,⟨L,_,hf,hn,e,hd⟩,ih (fun b hb=>hs b (by unfold frs;rw[Q5,hf];exact Ql _ hb)) hr⟩
 exact all X.outer (fun _ hb=>hb) I.ok.funs
theorem Inv.stack(I:Inv X pins σ H s):s.heap.FunFrames X.base X.stack:=by
 rcases I.ok.stk with e|⟨e,hf⟩
 ·rw[e];exact I.funs
 ·rw[e]
  obtain⟨m,hn,_⟩:=I.loc
  refine .cons (by rw[I.ok.kind];decide) hf hn ?_ I.funs
  exact Heap.get?_none_of_le (Q9 I.ok.bsz I.ok.above)
theorem Inv.stkSub(I:Inv X pins σ H s):∀b∈frs X.stack,b∈X.env.locals::X.fs:=fun b hb=>by
 rcases I.ok.stk with e|⟨e,hf⟩
 ·rw[e]at hb;exact Ql _ hb
 ·rw[e]at hb
  unfold frs at hb
  rw[Q5,hf]at hb
  exact hb
theorem Inv.stkFree(I:Inv X pins σ H s):∀b∈frs X.stack,H b=none:=fun b hb=>by
 rcases Q6.mp (I.stkSub b hb) with e|hb
 ·rw[e];exact I.free
 ·obtain⟨_,o,ho,_⟩:=I.ok.funs.mem hb
  exact I.base.free b o ho (I.ok.frf b hb) fun z=>I.ok.exfs b z hb
theorem Inv.step{g':Array GenState}{t':Nat}{d':Drawn}{ch:List Addr}(I:Inv X pins σ H s)
  (hch:∀b∈ch,(b∈X.ex∨X.s₀.heap.objs.size≤b)∧b≠X.env.locals∧(∀x c,X.env.cells.lookup x=some c→c≠b)∧∀p∈X.pn++pins,p.1≠b)
  (keep:∀b o,b≠X.env.locals→b ∉ X.fs→b ∉ ch→s.heap.get? b=some o→H b=none→h'.get? b=some o)
  (slot:∀b o,b≠X.env.locals→b∈X.fs→b ∉ ch→s.heap.get? b=some o→H b=none→∃sl,h'.get? b=some { o with slots:=sl }) (free:∀b o,b ∉ ch→s.heap.get? b=some o→H b=none→H' b=none)
  (there:∀b o,b ∉ ch→s.heap.get? b=some o→∃o',h'.get? b=some o')
  (tups:∀b xs,H b=some (.tup xs)→H' b=some (.tup xs)) (frzs:∀b o u,H b=some (.frz o u)→H' b=some (.frz o u)) (tbls:∀b ps,H b=some (.tbl ps)→∃more,H' b=some (.tbl (ps++more)))
  (ns:∀m,s.heap.Ns X.env.locals m→h'.Ns X.env.locals m) (hok:HOk X.prog X.w H' h') (hg:AllBare g') :
  Inv X pins σ H' { s with heap:=h',gens:=g',drawn:=d',toks:=t' }:=by
 have neL:∀b o,X.s₀.heap.get? b=some o→b≠X.env.locals:=fun b o e=>Qs (Qy (Qk e) I.ok.above)
 have neC:∀b o,X.s₀.heap.get? b=some o→b ∉ X.ex→b ∉ ch:=fun b o e hx hb=>by
  rcases(hch b hb).1 with z|z
  ·exact hx z
  ·exact absurd (Qy (Qk e) z) (Qav _)
 have cellK:∀x c,X.env.cells.lookup x=some c→∀v,s.heap.IsCell c v→h'.IsCell c v:=fun x c e v ⟨o,ho,hd⟩=>by
  have nch:c ∉ ch:=fun z=>(hch c z).2.2.1 x c e rfl
  by_cases hc:c∈X.fs
  ·obtain⟨sl,q⟩:=slot c o (I.cne x c e) hc nch ho (I.freeC x c e)
   exact⟨_,q,hd⟩
  ·exact⟨o,keep c o (I.cne x c e) hc nch ho (I.freeC x c e),hd⟩
 refine⟨I.ok,I.os,hg,⟨fun b o e n hb hx=>?_,fun b o e n hb hx=>?_,fun b o e n hx=>?_,fun b o e hx=>?_,fun b xs e=>tups b xs (I.base.tups b xs e),fun b o xs e=>frzs b o xs (I.base.frzs b o xs e),fun b ps e=>?_⟩,?_,fun x c e=>?_,?_,fun x c e=>?_,fun p hp=>?_,hok,I.len⟩
 ·exact keep b o (neL b o e) hb (neC b o e hx) (I.base.keep b o e n hb hx) (I.base.free b o e n hx)
 ·obtain⟨sl,e1⟩:=I.base.slot b o e n hb hx
  obtain⟨sl',e2⟩:=slot b _ (neL b o e) hb (neC b o e hx) e1 (I.base.free b o e n hx)
  exact⟨sl',e2⟩
 ·obtain⟨o',e1⟩:=I.base.there b o e hx
  exact free b o' (neC b o e hx) e1 (I.base.free b o e n hx)
 ·obtain⟨o',e1⟩:=I.base.there b o e hx
  exact there b o' (neC b o e hx) e1
 ·obtain⟨m1,e1⟩:=I.base.tbls b ps e
  obtain⟨m2,e2⟩:=tbls b _ e1
  exact⟨m1++m2,by rw[e2,Array.append_assoc]⟩
 ·obtain⟨m,hn,hl⟩:=I.loc
  refine⟨m,ns m hn,fun i x v e1 e2 e3=>?_⟩
  obtain⟨u,r,l⟩:=hl i x v e1 e2 e3
  refine⟨u,r,?_⟩
  rcases l with l|⟨k,c,e,z⟩
  ·exact .inl l
  ·exact .inr ⟨k,c,e,cellK x c e _ z⟩
 ·obtain⟨v,z⟩:=I.cell x c e
  exact⟨v,cellK x c e v z⟩
 ·obtain⟨m,⟨o,_,_,ho,_⟩,_⟩:=I.loc
  exact free _ o (fun z=>(hch _ z).2.1 rfl) ho I.free
 ·obtain⟨v,o,ho,hd⟩:=I.cell x c e
  exact free c o (fun z=>(hch c z).2.2.1 x c e rfl) ho (I.freeC x c e)
 ·obtain⟨e,n,ne,nf,d⟩:=I.pin p hp
  have nch:p.1 ∉ ch:=fun z=>(hch p.1 z).2.2.2 p hp rfl
  exact⟨keep p.1 p.2 ne nf nch e n,free p.1 p.2 nch e n,ne,nf,d⟩
theorem Inv.un{t':Nat}(I:Inv X pins σ H s)(u:Un X.fs [] H H' s.heap h')(hok:HOk X.prog X.w H' h'):Inv X pins σ H' { s with heap:=h',toks:=t' }:=by
 obtain⟨m,⟨o,es,ep,ho,r⟩,_⟩:=id I.loc
 obtain⟨sl,hL⟩:=u.any ho I.free (by simp)
 exact I.step (g':=s.gens) (d':=s.drawn) (ch:=[]) (fun _ z=>nomatch z) (fun b o _ hb _ e n=>u.keep b o e n hb (by simp)) (fun b o _ hb _ e n=>u.slot b o e n hb (by simp)) (fun b o _ e n=>u.free b o e n (by simp)) (fun b o _ e=>u.there b o e (by simp)) u.tups u.frzs u.tbls (fun m' hm=>by
  obtain⟨o',es',ep',ho',r'⟩:=hm
  rw[ho]at ho';cases ho'
  exact⟨_,es',ep',hL,r'⟩) hok I.bare
theorem Inv.call{g':Array GenState}{t':Nat}{d':Drawn}{ch:List Addr}(I:Inv X pins σ H s)(u:Un (frs X.stack) ch H H' s.heap h')(hok:HOk X.prog X.w H' h')(hg:AllBare g')
  (hch:∀b∈ch,(b∈X.ex∨X.s₀.heap.objs.size≤b)∧b≠X.env.locals∧(∀x c,X.env.cells.lookup x=some c→c≠b)∧∀p∈X.pn++pins,p.1≠b) :
  Inv X pins σ H' { s with heap:=h',gens:=g',drawn:=d',toks:=t' }:=by
 obtain⟨m,⟨o,es,ep,ho,r⟩,_⟩:=id I.loc
 obtain⟨sl,hL⟩:=u.any ho I.free fun z=>(hch _ z).2.1 rfl
 exact I.step (ch:=ch) hch (fun b o hL hb hc e n=>u.keep b o e n (fun z=>(Q6.mp (I.stkSub b z)).elim hL hb) hc) (fun b o _ _ hc e n=>u.any e n hc) (fun b o hc e n=>u.free b o e n hc) (fun b o hc e=>u.there b o e hc) u.tups u.frzs u.tbls (fun m' hm=>by
  obtain⟨o',es',ep',ho',r'⟩:=hm
  rw[ho]at ho';cases ho'
  exact⟨_,es',ep',hL,r'⟩) hok hg
theorem Inv.turned{t':Nat}{it:Addr}(I:Inv X pins σ H s)(k:∀b o,b≠it→s.heap.get? b=some o→h'.get? b=some o)(hn:H it=none)(hL:it≠X.env.locals)
  (h1:it∈X.ex∨X.s₀.heap.objs.size≤it) (h2:∀x c,X.env.cells.lookup x=some c→c≠it) (h3:∀p∈X.pn++pins,p.1≠it):Inv X pins σ H { s with heap:=h',toks:=t' }:=by
 have nit:∀b u,H b=some u→b≠it:=fun b u e z=>by rw[z,hn]at e;cases e
 refine I.step (g':=s.gens) (d':=s.drawn) (ch:=[it]) (fun b hb=>?_) (fun b o _ _ hc e _=>k b o (fun z=>hc (by simp[z])) e) (fun b o _ _ hc e _=>⟨o.slots,k b o (fun z=>hc (by simp[z])) e⟩) (fun _ _ _ _ n=>n)
  (fun b o hc e=>⟨o,k b o (fun z=>hc (by simp[z])) e⟩) (fun _ _ e=>e) (fun _ _ _ e=>e) (fun b ps e=>⟨#[],by rw[e];simp⟩) (fun m hm=>?_) (fun b u e=>?_) I.bare
 ·have e:b=it:=by simpa using hb
  subst e
  exact⟨h1,hL,h2,h3⟩
 ·obtain⟨o,es,ep,ho,r⟩:=hm
  exact⟨o,es,ep,k _ o (Ne.symm hL) ho,r⟩
 ·refine(I.hok b u e).stay (fun c v hc q=>k c v ?_ q) (fun _ q=>q) fun _ _ q=>q
  rcases hc with z|z
  ·rw[z];exact nit b u e
  ·exact nit c _ z
theorem Inv.tok(I:Inv X pins σ H s)(t:Nat):Inv X pins σ H { s with toks:=t }:=I.un (h':=s.heap) (t':=t) Un.refl I.hok
theorem Inv.kept{t':Nat}(I:Inv X pins σ H s)(k:∀b u,s.heap.get? b=some u→h'.get? b=some u):Inv X pins σ H { s with heap:=h',toks:=t' }:=I.un (Un.kept k) (I.hok.kept k)
theorem Inv.laid{a:Addr}{o:HO}{t':Nat}(I:Inv X pins σ H s)(k:∀b u,s.heap.get? b=some u→h'.get? b=some u)(hp:s.heap.objs.size≤a)(new:ZaY X.prog X.w (upd H a o) h' a o) :
  Inv X pins σ (upd H a o) { s with heap:=h',toks:=t' }:=I.un (Un.laid k hp (I.hok.fresh hp)) (I.hok.laid k hp new)
theorem Inv.write{x e:Addr}{o:HO}{t':Nat}(I:Inv X pins σ H s)(mu:Mut (H x))(he:e=x∨H e=some (.own x))(k:∀b u,b≠e→s.heap.get? b=some u→h'.get? b=some u)(heo:∃u,h'.get? e=some u)
  (new:ZaY X.prog X.w (upd H x o) h' x o):Inv X pins σ (upd H x o) { s with heap:=h',toks:=t' }:=I.un (Un.write mu he k heo) (I.hok.write mu he k heo new)
theorem Inv.pins_of{pins':List (Addr×Obj)}(I:Inv X pins σ H s)(h:∀p∈pins',s.heap.get? p.1=some p.2∧H p.1=none∧p.1≠X.env.locals∧p.1 ∉ X.fs∧∀v,p.2.data≠.cell v):Inv X pins' σ H s :=
 ⟨I.ok,I.os,I.bare,I.base,I.loc,I.cell,I.free,I.freeC,fun p hp=>(Qf.mp hp).elim (fun z=>I.pin p (Qr _ z)) (h p),I.hok,I.len⟩
theorem Zd0{N:List Str}(hN:N.Nodup){i j:Nat}{x:Str}(a:N[i]? = some x)(b:N[j]? = some x):i=j:=by
 obtain⟨h1,e1⟩:=Qp.mp a
 obtain⟨h2,e2⟩:=Qp.mp b
 exact(List.getElem_inj hN).mp (e1.trans e2.symm)
theorem Zdi{M:Model}{A:Around}{E:Value→Shared→Prop}{i:Nat}{x:Str}{v:V}{u:Value}{Q:Unit→Shared→Prop}(I:Inv X pins σ H s)(hN:X.N.Nodup)(hi:X.N[i]? = some x)(hx:Loc X.env.scope x)(r:Zv v u)
  (h:∀s',Inv X pins (σ.set i (some v)) H s'→(∃a,Heap.SameBut a s.heap s'.heap∧(a=X.env.locals∨X.env.cells.lookup x=some a))→Q () s') (hf:X.fn x=true∨X.env.scope.names.lookup x=some .local:=by first|exact .inl rfl|exact .inr rfl|assumption):wpAny M A (storeName X.env x u) Q E s:=by
 obtain⟨m,hn,hl⟩:=id I.loc
 have hcls:(X.env.scope.kind == .class||(X.env.scope.kind == .module&&X.env.locals != X.env.globals))=false:=by rw[I.ok.kind];rfl
 have hiσ:i<σ.length:=by rw[I.len];exact(Qp.mp hi).1
 have cne:=I.cne
 have tracked:∀ {a:Addr} {h':Heap},(∃o,s.heap.get? a=some o∧H a=none)→Heap.SameBut a s.heap h'→HOk X.prog X.w H h':=fun {a h'} ha hs b ob e=>by
  obtain⟨_,_,hfree⟩:=ha
  refine(I.hok b ob e).stay (fun c w' hc q=>(hs.2 c ?_).trans q) (fun _ q=>q) fun _ _ q=>q
  rintro rfl
  rcases hc with rfl|hc
  ·rw[hfree]at e;cases e
  ·rw[hfree]at hc;cases hc
 rcases hx with hk|hk
 ·refine wpAny_storeName_local hk hn (fun h' hn' hs=>?_) hcls
  obtain⟨oL,_,_,hoL,_⟩:=id hn
  refine h _ ⟨I.ok,I.os,I.bare,⟨fun b o e n hb hx=>?_,fun b o e n hb hx=>?_,I.base.free,fun b o e hx=>?_,I.base.tups,I.base.frzs,I.base.tbls⟩,⟨_,hn',fun j y v' e1 e2 e3=>?_⟩,fun y c e=>?_,I.free,I.freeC,fun p hp=>?_,tracked ⟨oL,hoL,I.free⟩ hs,by simpa using I.len⟩ ⟨_,hs,.inl rfl⟩
  ·exact(hs.2 b (Qs (Qy (Qk e) I.ok.above))).trans (I.base.keep b o e n hb hx)
  ·obtain⟨sl,e1⟩:=I.base.slot b o e n hb hx
   exact⟨sl,(hs.2 b (Qs (Qy (Qk e) I.ok.above))).trans e1⟩
  ·obtain⟨o',e1⟩:=I.base.there b o e hx
   exact⟨o',(hs.2 b (Qs (Qy (Qk e) I.ok.above))).trans e1⟩
  ·by_cases hj:j=i
   ·subst hj
    rw[hi]at e1;cases e1
    rw[List.getElem?_set_self hiσ]at e2
    cases e2
    exact⟨u,r,.inl ⟨hk,by simp⟩⟩
   ·rw[List.getElem?_set_ne (Ne.symm hj)]at e2
    obtain⟨u',r',q⟩:=hl j y v' e1 e2 e3
    refine⟨u',r',?_⟩
    rcases q with⟨k,e⟩|⟨k,c,e,z⟩
    ·refine .inl ⟨k,?_⟩
     have:y≠x:=fun e=>hj (Zd0 hN e1 (e ▸ hi))
     simp[this,e]
    ·exact .inr ⟨k,c,e,z.sameBut hs (cne y c e)⟩
  ·obtain⟨w',z⟩:=I.cell y c e
   exact⟨w',z.sameBut hs (cne y c e)⟩
  ·obtain⟨e,n,ne,nf,d⟩:=I.pin p hp
   exact⟨(hs.2 p.1 ne).trans e,n,ne,nf,d⟩
 ·have hfn:X.fn x=true:=by
   rcases hf with z|z
   ·exact z
   ·rw[z]at hk;cases hk
  obtain⟨c,hc⟩:=I.ok.has x (.inl hk)
  obtain⟨w',z⟩:=I.cell x c hc
  refine wpAny_storeName_cell I.ok.kind hk hc z (fun h' hc' hs=>?_)
  obtain⟨oc,hoc,hocd⟩:=id z
  refine h { s with heap:=h' } ⟨I.ok,I.os,I.bare,⟨fun b o e n hb hx=>?_,fun b o e n hb hx=>?_,I.base.free,fun b o e hx=>?_,I.base.tups,I.base.frzs,I.base.tbls⟩,⟨m,hn.sameBut hs (Ne.symm (cne x c hc)),fun j y v' e1 e2 e3=>?_⟩,fun y c' e=>?_,I.free,I.freeC,fun p hp=>?_,tracked ⟨oc,hoc,I.freeC x c hc⟩ hs,by simpa using I.len⟩ ⟨c,hs,.inr hc⟩
  ·exact(hs.2 b (Qs (Qy (Qk e) (I.ok.cab x c hfn hc)))).trans (I.base.keep b o e n hb hx)
  ·obtain⟨sl,e1⟩:=I.base.slot b o e n hb hx
   exact⟨sl,(hs.2 b (Qs (Qy (Qk e) (I.ok.cab x c hfn hc)))).trans e1⟩
  ·obtain⟨o',e1⟩:=I.base.there b o e hx
   exact⟨o',(hs.2 b (Qs (Qy (Qk e) (I.ok.cab x c hfn hc)))).trans e1⟩
  ·by_cases hj:j=i
   ·subst hj
    rw[hi]at e1;cases e1
    rw[List.getElem?_set_self hiσ]at e2
    cases e2
    exact⟨u,r,.inr ⟨.inl hk,c,hc,hc'⟩⟩
   ·rw[List.getElem?_set_ne (Ne.symm hj)]at e2
    obtain⟨u',r',q⟩:=hl j y v' e1 e2 e3
    refine⟨u',r',?_⟩
    rcases q with q|⟨k,c',e,z'⟩
    ·exact .inl q
    ·refine .inr ⟨k,c',e,z'.sameBut hs ?_⟩
     rintro rfl
     exact hj (Zd0 hN e1 (I.ok.inj _ _ _ e hc ▸ hi))
  ·by_cases hcc:c'=c
   ·subst hcc;exact⟨_,hc'⟩
   ·obtain⟨w2,z2⟩:=I.cell y c' e
    exact⟨w2,z2.sameBut hs hcc⟩
  ·obtain⟨e,n,ne,nf,d⟩:=I.pin p hp
   refine⟨(hs.2 p.1 ?_).trans e,n,ne,nf,d⟩
   intro q
   rw[q,hoc]at e
   have q':oc=p.2:=QC e
   exact d w' (by rw[← q'];exact hocd)
theorem Zbl{M:Model}{A:Around}{E:Value→Shared→Prop}{i:Nat}{x:Str}{v:V}{u:Value}{Q:Unit→Shared→Prop}(I:Inv X pins σ H s)(hN:X.N.Nodup)(hi:X.N[i]? = some x)(hx:Loc X.env.scope x)(r:Zv v u)
  (h:∀s',Inv X pins (σ.set i (some v)) H s'→Q () s') (hf:X.fn x=true∨X.env.scope.names.lookup x=some .local:=by first|exact .inl rfl|exact .inr rfl|assumption):wpAny M A (storeName X.env x u) Q E s :=
 Zdi I hN hi hx r (fun s' I' _=>h s' I') hf
theorem Inv.call'{s':Shared}{ch:List Addr}(I:Inv X pins σ H s)(ho:s'.os=s.os)(u:Un (frs X.stack) ch H H' s.heap s'.heap)(hok:HOk X.prog X.w H' s'.heap)(hg:AllBare s'.gens)
  (hch:∀b∈ch,(b∈X.ex∨X.s₀.heap.objs.size≤b)∧b≠X.env.locals∧(∀x c,X.env.cells.lookup x=some c→c≠b)∧∀p∈X.pn++pins,p.1≠b):Inv X pins σ H' s':=by
 obtain⟨h',g',d',t',o'⟩:=s'
 have e:o'=s.os:=ho
 subst e
 exact I.call (g':=g') (t':=t') (d':=d') u hok hg hch
end
abbrev XK:=Value→Option Addr→Hp→Prop
abbrev St:=List (Option V)
abbrev VK:=V→Hp→Prop
abbrev TE:=St→Hp→VK→Prop
abbrev TT:=St→Hp→(Bool→Hp→Prop)→Prop
abbrev TA:=St→Hp→(List V→Hp→Prop)→Prop
structure Zer where
 nx:St→Hp→Prop
 rt:VK
 bk:St→Hp→Prop:=fun _ _=>False
 ct:St→Hp→Prop:=fun _ _=>False
abbrev TS:=Zer→St→Hp→Prop
def EP(X:Cx)(pins:List (Addr×Obj))(σ:St)(Q:VK)(u:Value)(s':Shared):Prop:=∃v H',Inv X pins σ H' s'∧Zv v u∧Q v H'
def TP(X:Cx)(pins:List (Addr×Obj))(σ:St)(Q:Bool→Hp→Prop)(b:Bool)(s':Shared):Prop:=∃H',Inv X pins σ H' s'∧Q b H'
def AP(X:Cx)(pins:List (Addr×Obj))(σ:St)(Q:List V→Hp→Prop)(us:List Value)(s':Shared):Prop:=∃vs H',Inv X pins σ H' s'∧Zl vs us∧Q vs H'
def SP(X:Cx)(pins:List (Addr×Obj))(D:Zer)(f:Flow)(s':Shared):Prop :=
 match f with
 | .next=>∃σ' H',Inv X pins σ' H' s'∧D.nx σ' H'
 | .brk=>∃σ' H',Inv X pins σ' H' s'∧D.bk σ' H'
 | .cont=>∃σ' H',Inv X pins σ' H' s'∧D.ct σ' H'
 | .ret u=>∃v σ' H',Inv X pins σ' H' s'∧Zv v u∧D.rt v H'
def PE(X:Cx)(e:Expr)(t:TE):Prop :=
 ∀ (pins:List (Addr×Obj)) (s:Shared) (σ:St) (H:Hp) (Q:VK),Inv X pins σ H s→t σ H Q→wpAny (model X.prog X.w) X.A (eval e X.env) (EP X pins σ Q) X.xe s
def PT(X:Cx)(e:Expr)(t:TT):Prop :=
 ∀ (pins:List (Addr×Obj)) (s:Shared) (σ:St) (H:Hp) (Q:Bool→Hp→Prop),Inv X pins σ H s→t σ H Q→wpAny (model X.prog X.w) X.A (isTrue e X.env (eval e X.env)) (TP X pins σ Q) X.xe s
def PW(X:Cx)(e:Expr)(t:TT):Prop :=
 ∀ (whole:Sem Value) (pins:List (Addr×Obj)) (s:Shared) (σ:St) (H:Hp) (Q:Bool→Hp→Prop),Inv X pins σ H s→t σ H Q→wpAny (model X.prog X.w) X.A (isTrue e X.env whole) (TP X pins σ Q) X.xe s
theorem PW.pt{X:Cx}{e:Expr}{t:TT}(h:PW X e t):PT X e t:=h _
def PA(X:Cx)(es:List Expr)(t:TA):Prop :=
 ∀ (pos:Pos) (pins:List (Addr×Obj)) (s:Shared) (σ:St) (H:Hp) (Q:List V→Hp→Prop),Inv X pins σ H s→t σ H Q→wpAny (model X.prog X.w) X.A (spliced (backTo pos (starEach es X.env))) (AP X pins σ Q) X.xe s
def PS(X:Cx)(st:Stmt)(t:TS):Prop :=
 ∀ (pins:List (Addr×Obj)) (s:Shared) (σ:St) (H:Hp) (D:Zer),Inv X pins σ H s→t D σ H→wpAny (model X.prog X.w) X.A (exec st X.env) (SP X pins D) X.xe s
def PSs(X:Cx)(st:List Stmt)(t:TS):Prop :=
 ∀ (pins:List (Addr×Obj)) (s:Shared) (σ:St) (H:Hp) (D:Zer),Inv X pins σ H s→t D σ H→wpAny (model X.prog X.w) X.A (execs st X.env) (SP X pins D) X.xe s
theorem thn{α:Type}{t:Sem α}{Q Q':α→Shared→Prop}{M:Model}{A:Around}{E:Value→Shared→Prop}{s:Shared}(h:wpAny M A t Q E s)(hQ:∀a s,Q a s→Q' a s):wpAny M A t Q' E s:=wpAny_mono h hQ fun _ _ x=>x
section
variable {X:Cx}
def Zhp(i:Nat):TE:=fun σ H Q=>∃v,σ[i]? = some (some v)∧Q v H
def tC(v:V):TE:=fun _ H Q=>Q v H
theorem ZeN{i:Nat}{x:Str}{pos:Pos}(hN:X.N[i]? = some x)(hv:Vis X.env.scope x)(hd:(x == ("__debug__" : Str))=false:=by decide)(hcd:(x == ("__classdict__" : Str))=false:=by decide):PE X (.Name x pos) (Zhp i):=by
 intro pins s σ H Q I h
 obtain⟨v,e,h⟩:=h
 obtain⟨m,hn,hl⟩:=I.loc
 obtain⟨u,r,l⟩:=hl i x v hN e hv
 have fin:EP X pins σ Q u s:=⟨v,H,I,r,h⟩
 rcases l with⟨hk,hm⟩|⟨hk,c,hc,hcell⟩
 ·exact wpAny_Name (wpAny_loadName_local I.ok.kind hk hn hm fin) hd
 ·rcases hk with hk|hk
  ·exact wpAny_Name (wpAny_loadName_cell I.ok.kind hk hc hcell fin) hd
  ·exact wpAny_Name (wpAny_loadName_free I.ok.kind hk hc hcell fin hcd) hd
theorem Zh{i j pos}:PE X (.Constant (.int i) j pos) (tC (.int i)):=fun _ _ _ H _ I h=>wpAny_Constant_int ⟨.int i,H,I.tok _,⟨_,rfl⟩,h⟩
theorem ZdZ{b j pos}:PE X (.Constant (.bool b) j pos) (tC (.bl b)):=fun _ _ _ H _ I h=>Constant_bool ⟨.bl b,H,I,rfl,h⟩
theorem Zah{x j pos}:PE X (.Constant (.str x) j pos) (tC (.str x)):=fun _ _ _ H _ I h=>Calls.Constant_str ⟨.str x,H,I.tok _,⟨_,rfl⟩,h⟩
def Gl(X:Cx)(x:Str):Prop:=X.env.kindOf x=some .globalImplicit
theorem ZhB{E:Value→Shared→Prop}{pins:List (Addr×Obj)}{s:Shared}{σ:St}{H:Hp}{x:Str}{u:Value}{pos:Pos}{Q:Value→Shared→Prop}(I:Inv X pins σ H s)(hg:Gl X x)(hm:X.mg x=some u)(h:Q u s)
  (hd:(x == ("__debug__" : Str))=false:=by decide):wpAny (model X.prog X.w) X.A (eval (.Name x pos) X.env) Q E s :=
 Calls.Name_function_global I.ok.kind hg (Calls.loadGlobal_global (by rw[I.ok.glob];exact I.mod.glob.keeps I.bk) hm h) hd
theorem Zb4{E:Value→Shared→Prop}{pins:List (Addr×Obj)}{s:Shared}{σ:St}{H:Hp}{x:Str}{u:Value}{pos:Pos}{Q:Value→Shared→Prop}(I:Inv X pins σ H s)(hg:Gl X x)(hm:X.mg x=none)(hv:bootBuiltins x=some u)(h:Q u s)
  (hn:x ≠ "__name__":=by decide) (hd:(x == ("__debug__" : Str))=false:=by decide):wpAny (model X.prog X.w) X.A (eval (.Name x pos) X.env) Q E s:=by
 obtain⟨mb,h1,h2⟩:=I.mod.blt
 exact Calls.Name_function_global I.ok.kind hg (Calls.loadGlobal_builtin (by rw[I.ok.glob];exact I.mod.glob.keeps I.bk) hm (by rw[I.ok.blt];exact h1.keeps I.bk) ((h2 x hn).trans hv) h) hd
variable {a b:Expr} {ta tb:TE} {pos:Pos}
def tB(t:TE):TT:=fun σ H Q=>t σ H fun x H1=>∃c,x=.bl c∧Q c H1
theorem ZgO{e:Expr}{t:TE}(h:PE X e t)(he:∀whole,isTrue e X.env whole=(do let v ← whole;standAt e.pos;holding [v] (truthy v)):=by intro _;rfl):PT X e (tB t):=by
 intro pins s σ H Q I hw
 refine isTrue_plain (thn (h pins s σ H _ I hw) ?_) (he _)
 rintro v s1 ⟨x,H1,I1,r1,q1⟩
 obtain⟨d,rfl,q⟩:=q1
 cases r1
 exact wpAny_truthy_bool ⟨H1,I1,q⟩
variable {tA tB':TT} {rest:List Expr}
def ZjE(t u:TT):TT:=fun σ H Q=>t σ H fun c H1=>if c=true then u σ H1 Q else Q false H1
def tOr(t u:TT):TT:=fun σ H Q=>t σ H fun c H1=>if c=true then Q true H1 else u σ H1 Q
def ZjN(t:TT):TT:=fun σ H Q=>t σ H fun c H1=>Q (!c) H1
theorem Zbn(ha:PT X a tA):PW X (.BoolOp .And [a] pos) tA:=by
 intro wh pins s σ H Q I h
 refine isTrue_and (thn (ha pins s σ H Q I h) fun c s1 e=>?_)
 cases c with
 | true=>exact isTrue_and_nil e
 | false=>exact e
theorem ZeE(ha:PT X a tA):PW X (.BoolOp .Or [a] pos) tA:=by
 intro wh pins s σ H Q I h
 refine isTrue_or (thn (ha pins s σ H Q I h) fun c s1 e=>?_)
 cases c with
 | false=>exact isTrue_or_nil e
 | true=>exact e
theorem Zbw(ha:PT X a tA)(hb:PW X (.BoolOp .And (b::rest) pos) tB'):PW X (.BoolOp .And (a::b::rest) pos) (ZjE tA tB'):=by
 intro wh pins s σ H Q I h
 refine isTrue_and (thn (ha pins s σ H _ I h) ?_)
 rintro c s1 ⟨H1,I1,q1⟩
 cases c with
 | true=>exact hb wh pins s1 σ H1 Q I1 q1
 | false=>exact⟨H1,I1,q1⟩
theorem ZgK(ha:PT X a tA)(hb:PW X (.BoolOp .Or (b::rest) pos) tB'):PW X (.BoolOp .Or (a::b::rest) pos) (tOr tA tB'):=by
 intro wh pins s σ H Q I h
 refine isTrue_or (thn (ha pins s σ H _ I h) ?_)
 rintro c s1 ⟨H1,I1,q1⟩
 cases c with
 | true=>exact⟨H1,I1,q1⟩
 | false=>exact hb wh pins s1 σ H1 Q I1 q1
theorem ZgW(ha:PT X a tA):PT X (.UnaryOp .Not a pos) (ZjN tA):=by
 intro pins s σ H Q I h
 exact isTrue_not (ha pins s σ H (fun c H1=>Q (!c) H1) I h)
def ZiS(ta tb:TE):TE:=fun σ H Q=>ta σ H fun x H1=>∃c,x=.bl c∧if c=true then tb σ H1 Q else Q (.bl false) H1
theorem ZiG{op}{t:TE}(h:PE X a t):PE X (.BoolOp op [a] pos) t:=fun pins s σ H Q I hw=>BoolOp_one (h pins s σ H Q I hw)
theorem ZgA(ha:PE X a ta)(hb:PE X (.BoolOp .And (b::rest) pos) tb):PE X (.BoolOp .And (a::b::rest) pos) (ZiS ta tb):=by
 intro pins s σ H Q I h
 refine BoolOp_and (thn (ha pins s σ H _ I h) ?_)
 rintro v s1 ⟨x,H1,I1,r1,q1⟩
 obtain⟨c,rfl,q1⟩:=q1
 cases r1
 refine wpAny_truthy_bool ?_
 cases c with
 | true=>exact hb pins s1 σ H1 Q I1 q1
 | false=>exact⟨.bl false,H1,I1,rfl,q1⟩
def tIf(t:TT)(ta tb:TE):TE:=fun σ H Q=>t σ H fun c H1=>if c=true then ta σ H1 Q else tb σ H1 Q
theorem ZcL{c:Expr}(hc:PT X c tA)(ha:PE X a ta)(hb:PE X b tb):PE X (.IfExp c a b pos) (tIf tA ta tb):=by
 intro pins s σ H Q I h
 refine wpAny_IfExp (thn (hc pins s σ H _ I h) ?_)
 rintro d s1 ⟨H1,I1,q1⟩
 cases d with
 | true=>exact ha pins s1 σ H1 Q I1 q1
 | false=>exact hb pins s1 σ H1 Q I1 q1
end
def SqL(K:PySem.W.Frag)(H:Hp)(a:Addr)(xs:List V):Prop :=
 Rd H a (.lst xs) ∨
  ∃ (o:Obj) (its:Array Value) (n:Nat),K.lookup a=some o∧o.cls=.type "list"∧o.dict=none∧o.data=.seq its n∧its.size≤sizeLine∧Zl xs its.toList
def SqT(K:PySem.W.Frag)(H:Hp)(a:Addr)(xs:List V):Prop :=
 Rd H a (.tup xs) ∨
  ∃ (o:Obj) (its:Array Value) (n:Nat),K.lookup a=some o∧o.cls=.type "tuple"∧o.data=.seq its n∧its.size≤sizeLine∧Zl xs its.toList
def Zjv:Value→Option V
 | .none=>some .non
 | .bool b=>some (.bl b)
 | .int i _=>some (.int i)
 | .str x _=>some (.str x)
 | .bytes b _=>some (.byt b)
 | .float b _=>some (.flt b)
 | .ref a=>some (.ref a)
 | .type n=>some (.ty n)
 | _=>none
theorem Zv.abs{x:V}{u:Value}(r:Zv x u):Zjv u=some x:=by
 cases x with
 | non=>cases r;rfl
 | bl _=>cases r;rfl
 | int _=>obtain⟨t,rfl⟩:=r;rfl
 | str _=>obtain⟨t,rfl⟩:=r;rfl
 | byt _=>obtain⟨t,rfl⟩:=r;rfl
 | flt _=>obtain⟨t,rfl⟩:=r;rfl
 | ref _=>cases r;rfl
 | ty _=>cases r;rfl
theorem Zv.inj{x y:V}{u:Value}(r:Zv x u)(q:Zv y u):x=y:=QC (r.abs.symm.trans q.abs)
theorem Zl.inj:∀ {xs ys:List V} {us:List Value},Zl xs us→Zl ys us→xs=ys
 | _,_,_,.nil,.nil=>rfl
 | _,_,_,.cons r t,.cons r' t'=>by rw[r.inj r',Zl.inj t t']
section
variable {X:Cx} {pins:List (Addr×Obj)} {σ:St} {H:Hp} {s:Shared} {a:Addr} {xs ys:List V}
theorem SqL.of{K:PySem.W.Frag}(h:H a=some (.lst xs)):SqL K H a xs:=.inl (.inl h)
theorem SqT.of{K:PySem.W.Frag}(h:H a=some (.tup xs)):SqT K H a xs:=.inl (.inl h)
theorem Inv.list(I:Inv X pins σ H s)(h:SqL X.K H a xs):∃its:List Value,Zl xs its∧PlainL s.heap a its.toArray∧xs.length≤sizeLine:=by
 rcases h with h|⟨o,its,n,hk,hc,hd,hs,hz,r⟩
 ·obtain⟨z,its,n,r,e⟩:=h.ok I.hok
  exact⟨its,r,⟨_,n,e,rfl,rfl,rfl⟩,z⟩
 ·refine⟨its.toList,r,⟨o,n,I.kIn a o hk,hc,hd,by simpa using hs⟩,?_⟩
  have e:=r.length
  simp only[Array.length_toList]at e
  omega
theorem Inv.tuple(I:Inv X pins σ H s)(h:SqT X.K H a xs):∃its:List Value,Zl xs its∧IsTup s.heap a its.toArray∧xs.length≤sizeLine:=by
 rcases h with h|⟨o,its,n,hk,hc,hs,hz,r⟩
 ·obtain⟨z,its,r,p⟩:=h.ok I.hok
  exact⟨its,r,p,z⟩
 ·refine⟨its.toList,r,⟨o,I.kIn a o hk,hc,n,by simpa using hs⟩,?_⟩
  have e:=r.length
  simp only[Array.length_toList]at e
  omega
theorem Inv.list_inj(I:Inv X pins σ H s)(h:SqL X.K H a xs)(h':SqL X.K H a ys):xs=ys:=by
 obtain⟨its,r,⟨o,n,e,_,_,d⟩,_⟩:=I.list h
 obtain⟨its',r',⟨o',n',e',_,_,d'⟩,_⟩:=I.list h'
 rw[e]at e';cases e'
 rw[d]at d'
 injection d' with d1 _
 have:its=its':=by simpa using congrArg Array.toList d1
 subst this
 exact r.inj r'
end
abbrev Cx.wish(X:Cx)(E:Value→Shared→Prop):Cx:={ X with xe:=E }
abbrev Cx.nox(X:Cx):Cx:=X.wish fun _ _=>False
theorem Cx.Ok.wish{X:Cx}(ok:X.Ok)(E:Value→Shared→Prop):(X.wish E).Ok :=
 ⟨ok.mod,ok.kind,ok.glob,ok.blt,ok.above,ok.inj,ok.has,ok.cab,ok.hd,ok.frames,ok.stk,ok.exf,ok.bs,ok.bsz,ok.noex,ok.exfs,ok.funs,ok.frf⟩
theorem Cx.Ok.unwish{X:Cx}{E:Value→Shared→Prop}(ok:(X.wish E).Ok):X.Ok :=
 ⟨ok.mod,ok.kind,ok.glob,ok.blt,ok.above,ok.inj,ok.has,ok.cab,ok.hd,ok.frames,ok.stk,ok.exf,ok.bs,ok.bsz,ok.noex,ok.exfs,ok.funs,ok.frf⟩
section
variable {X:Cx} {pins:List (Addr×Obj)} {σ:St} {H:Hp} {s:Shared} {E:Value→Shared→Prop}
theorem Inv.wish(I:Inv X pins σ H s)(E:Value→Shared→Prop):Inv (X.wish E) pins σ H s:=⟨I.ok.wish E,I.os,I.bare,I.base,I.loc,I.cell,I.free,I.freeC,I.pin,I.hok,I.len⟩
theorem Inv.unwish(I:Inv (X.wish E) pins σ H s):Inv X pins σ H s:=⟨I.ok.unwish,I.os,I.bare,I.base,I.loc,I.cell,I.free,I.freeC,I.pin,I.hok,I.len⟩
theorem SP.unwish{D:Zer}{f:Flow}{s':Shared}(h:SP (X.wish E) pins D f s'):SP X pins D f s':=by
 cases f with
 | next=>obtain⟨σ',H',I,q⟩:=h;exact⟨σ',H',I.unwish,q⟩
 | brk=>obtain⟨σ',H',I,q⟩:=h;exact⟨σ',H',I.unwish,q⟩
 | cont=>obtain⟨σ',H',I,q⟩:=h;exact⟨σ',H',I.unwish,q⟩
 | ret u=>obtain⟨v,σ',H',I,r,q⟩:=h;exact⟨v,σ',H',I.unwish,r,q⟩
theorem PSs.nox{st:List Stmt}{t:TS}(h:PSs X.nox st t):PSs X st t:=fun pins s σ H D I hw =>
 wpAny_mono (h pins s σ H D (I.wish _) hw) (fun _ _ q=>q.unwish) fun _ _ z=>False.elim z
end
section
variable {X:Cx} {st:Stmt} {rest:List Stmt} {t u:TS} {e:Expr} {te:TE} {pos:Pos}
def Zjp:TS:=fun D σ H=>D.nx σ H
def ZjV(t u:TS):TS:=fun D σ H=>t { D with nx:=u D } σ H
theorem ZY:PSs X [] Zjp:=fun _ _ σ H _ I h=>wpAny_execs_nil ⟨σ,H,I,h⟩
theorem Zi(h1:PS X st t)(h2:PSs X rest u):PSs X (st::rest) (ZjV t u):=by
 intro pins s σ H D I h
 refine wpAny_execs_cons (thn (h1 pins s σ H { D with nx:=u D } I h) fun f s1 q=>?_)
 cases f with
 | next =>
  obtain⟨σ',H',I',q⟩:=q
  exact h2 pins s1 σ' H' D I' q
 | ret v=>exact q
 | brk=>exact q
 | cont=>exact q
theorem Zk(h1:PS X st t):PSs X [st] t:=by
 intro pins s σ H D I h
 refine wpAny_execs_cons (thn (h1 pins s σ H D I h) fun f s1 q=>?_)
 cases f with
 | next=>exact wpAny_execs_nil q
 | ret v=>exact q
 | brk=>exact q
 | cont=>exact q
theorem Inv.quiet{pins:List (Addr×Obj)}{σ:St}{H:Hp}{s:Shared}(I:Inv X pins σ H s):interactive X.env=false:=by simp[interactive,I.ok.kind]
def Zjc(te:TE):TS:=fun D σ H=>te σ H fun _ H1=>D.nx σ H1
theorem ZaI(he:PE X e te)(hs:swapsWith e none pos.line X.env=pure false:=by rfl):PS X (.Expr e pos) (Zjc te):=by
 intro pins s σ H D I h
 exact wpAny_Expr_any (thn (he pins s σ H _ I h) fun v s1 ⟨x,H1,I1,r1,q1⟩=>⟨σ,H1,I1,q1⟩) I.quiet hs
def ZjL(te:TE):TS:=fun D σ H=>te σ H D.rt
theorem Zu(he:PE X e te):PS X (.Return (some e) pos) (ZjL te):=by
 intro pins s σ H D I h
 exact wpAny_Return_some (thn (he pins s σ H _ I h) fun v s1 ⟨x,H1,I1,r1,q1⟩=>⟨x,σ,H1,I1,r1,q1⟩)
def Zjw(c:TT)(t u:TS):TS:=fun D σ H=>c σ H fun b H1=>if b=true then t D σ H1 else u D σ H1
theorem ZaC{c:Expr}{a b:List Stmt}{tc:TT}(hc:PT X c tc)(ha:PSs X a t)(hb:PSs X b u):PS X (.If c a b pos) (Zjw tc t u):=by
 intro pins s σ H D I h
 refine wpAny_If (thn (hc pins s σ H _ I h) ?_)
 rintro d s1 ⟨H1,I1,q1⟩
 cases d with
 | true=>exact ha pins s1 σ H1 D I1 q1
 | false=>exact hb pins s1 σ H1 D I1 q1
end
abbrev TG:=V→St→Hp→(St→Hp→Prop)→Prop
abbrev TGs:=List V→St→Hp→(St→Hp→Prop)→Prop
def PG(X:Cx)(target:Expr)(t:TG):Prop :=
 ∀ (pins:List (Addr×Obj)) (s:Shared) (σ:St) (H:Hp) (v:V) (u:Value) (Q:St→Hp→Prop),Inv X pins σ H s→Zv v u→t v σ H Q →
  wpAny (model X.prog X.w) X.A (assign target X.env u) (fun _ s'=>∃σ' H',Inv X pins σ' H' s'∧Q σ' H') X.xe s
def PGs(X:Cx)(ts:List Expr)(t:TGs):Prop :=
 ∀ (pins:List (Addr×Obj)) (s:Shared) (σ:St) (H:Hp) (vs:List V) (us:List Value) (Q:St→Hp→Prop),Inv X pins σ H s→Zl vs us→t vs σ H Q →
  wpAny (model X.prog X.w) X.A (assignInOrder ((assignEach ts X.env).map (·.2)) us) (fun _ s'=>∃σ' H',Inv X pins σ' H' s'∧Q σ' H') X.xe s
abbrev Zit:=V→V→V→Hp→(Hp→Prop)→Prop
def Zjl(X:Cx)(t:Zit):Prop :=
 ∀ (pins:List (Addr×Obj)) (s:Shared) (σ:St) (H:Hp) (o i v:V) (ov iv u:Value) (Q:Hp→Prop),Inv X pins σ H s→Zv o ov→Zv i iv→Zv v u→t o i v H Q →
  wpAny (model X.prog X.w) X.A (setItem ov iv u) (fun _ s'=>∃H',Inv X pins σ H' s'∧Q H') X.xe s
abbrev TIp:=V→V→Hp→VK→Prop
def PIp(X:Cx)(op:Operator)(t:TIp):Prop :=
 ∀ (pins:List (Addr×Obj)) (s:Shared) (σ:St) (H:Hp) (x y:V) (v u:Value) (Q:VK),Inv X pins σ H s→Zv x v→Zv y u→t x y H Q →
  wpAny (model X.prog X.w) X.A (inplaceOp op v u) (EP X pins σ Q) X.xe s
section
variable {X:Cx} {pos:Pos}
def Ze6(i:Nat):TG:=fun v σ H Q=>Q (σ.set i (some v)) H
theorem Zay{i:Nat}{x:Str}(hN:X.N.Nodup)(hi:X.N[i]? = some x)(hx:Loc X.env.scope x)(hf:X.fn x=true∨X.env.scope.names.lookup x=some .local:=by first|exact .inl rfl|exact .inr rfl|assumption):PG X (.Name x pos) (Ze6 i):=by
 intro pins s σ H v u Q I r h
 exact wpAny_assign_Name (Zbl I hN hi hx r (fun s' I'=>⟨_,H,I',h⟩) hf)
def ZjM:TGs:=fun vs σ H Q=>vs=[]∧Q σ H
def Zi1(t:TG)(u:TGs):TGs:=fun vs σ H Q=>∃v r,vs=v::r∧t v σ H fun σ' H'=>u r σ' H' Q
theorem Zci:PGs X [] ZjM:=by
 intro pins s σ H vs us Q I r h
 obtain⟨e,h⟩:=h
 subst e
 cases r
 exact assignInOrder_nil ⟨σ,H,I,h⟩
theorem Zaf{e:Expr}{es:List Expr}{t:TG}{u:TGs}(h1:PG X e t)(h2:PGs X es u)
  (hs:(assignEach (e::es) X.env).map (·.2)=assign e X.env::(assignEach es X.env).map (·.2):=by rfl):PGs X (e::es) (Zi1 t u):=by
 intro pins s σ H vs us Q I r h
 obtain⟨v,vr,e1,h⟩:=h
 subst e1
 cases r with
 | cons r rr =>
  rw[hs]
  refine assignInOrder_cons (thn (h1 pins s σ H _ _ _ I r h) ?_)
  rintro _ s1 ⟨σ1,H1,I1,q1⟩
  exact h2 pins s1 σ1 H1 _ _ Q I1 rr q1
def Zjm(K:PySem.W.Frag)(n:Nat)(t:TGs):TG:=fun v σ H Q=>∃a xs,v=.ref a∧SqT K H a xs∧xs.length=n∧t xs σ H Q
theorem Ziu{es:List Expr}{k:Nat}{t:TGs}{n:Nat}(hc:X.calm=true)(h:PGs X es t)
  (hn:(assignEach es X.env).length=n:=by rfl) (hst:(assignEach es X.env).findIdx? (·.1)=none:=by rfl):PG X (.Tuple es k pos) (Zjm X.K n t):=by
 intro pins s σ H v u Q I r hw
 obtain⟨a,xs,e1,hq,hl,hw⟩:=hw
 subst e1
 cases r
 obtain⟨its,rv,ht,hz⟩:=I.tuple hq
 refine assign_Tuple_tuple (I.ok.hd hc) ht (by simp[hn,← hl,rv.length]) hst fun h' hx=>?_
 have I1:Inv X pins σ H { s with heap:=h' }:=I.kept (t':=s.toks) fun b o e=>hx b o (Qs (Qk e)) e
 exact h pins _ σ H xs _ Q I1 (by simpa using rv) hw
def Zju(to ti:TE)(t:Zit):TG:=fun v σ H Q=>to σ H fun o H1=>ti σ H1 fun i H2=>t o i v H2 fun H3=>Q σ H3
theorem Zgj{o i:Expr}{to ti:TE}{t:Zit}(ho:PE X o to)(hi:PE X i ti)(hs:Zjl X t)
  (ha:∀v,assign (.Subscript o i pos) X.env v=(do
   let ov ← holding [v] (eval o X.env)
   let iv ← holding [v,ov] (eval i X.env)
   standAt pos
   holding [v,ov,iv] (setItem ov iv v)
   release [v,ov,iv] []):=by intro _;rfl):PG X (.Subscript o i pos) (Zju to ti t):=by
 intro pins s σ H v u Q I r h
 rw[ha]
 refine wpAny_bind (wpAny_holding (thn (ho pins s σ H _ I h) ?_))
 rintro ov s1 ⟨x,H1,I1,r1,q1⟩
 refine wpAny_bind (wpAny_holding (thn (hi pins s1 σ H1 _ I1 q1) ?_))
 rintro iv s2 ⟨y,H2,I2,r2,q2⟩
 refine wpAny_bind (wpAny_standAt (wpAny_bind (wpAny_holding (thn (hs pins s2 σ H2 x y v ov iv u _ I2 r1 r2 r q2) ?_))))
 rintro _ s3 ⟨H3,I3,q3⟩
 exact wpAny_release ⟨σ,H3,I3,q3⟩
def ZiO(te:TE)(g:TG):TS:=fun D σ H=>te σ H fun x H1=>g x σ H1 D.nx
theorem ZeR{tg e:Expr}{te:TE}{g:TG}(he:PE X e te)(hg:PG X tg g)(hs:swapsWithSole [tg] e pos.line X.env=pure false:=by rfl)(hw:swappedStores [tg] e X.env=pure none:=by rfl)
  (h1:(assignEach [tg] X.env).map (·.2)=[assign tg X.env]:=by rfl):PS X (.Assign [tg] e pos) (ZiO te g):=by
 intro pins s σ H D I h
 refine wpAny_Assign_stores (thn (he pins s σ H _ I h) ?_) hs hw
 rintro v s1 ⟨x,H1,I1,r1,q1⟩
 rw[h1]
 exact thn (hg pins s1 σ H1 x v _ I1 r1 q1) fun _ s2 q=>q
theorem ZL{i:Nat}{x:Str}{e:Expr}{te:TE}{pos':Pos}(hN:X.N.Nodup)(hi:X.N[i]? = some x)(hx:Loc X.env.scope x)(he:PE X e te)(hs:swapsWith e (some (.Name x pos')) pos.line X.env=pure false:=by rfl)(hf:X.fn x=true∨X.env.scope.names.lookup x=some .local:=by first|exact .inl rfl|exact .inr rfl|assumption) :
  PS X (.Assign [.Name x pos'] e pos) (ZiO te (Ze6 i)):=by
 intro pins s σ H D I h
 refine wpAny_Assign_Name (thn (he pins s σ H _ I h) ?_) hs
 rintro v s1 ⟨y,H1,I1,r1,q1⟩
 exact Zbl I1 hN hi hx r1 (fun s2 I2=>⟨_,H1,I2,q1⟩) hf
def ZjF(i j:Nat)(ta:TA):TS:=fun D σ H=>ta σ H fun vs H1=>∃v w,vs=[v,w]∧D.nx ((σ.set i (some v)).set j (some w)) H1
theorem ZiE{i j:Nat}{x y:Str}{a b:Expr}{ta:TA}{px py pt:Pos}{kt k2 pt2}(hc:X.calm=true)(hN:X.N.Nodup)(hi:X.N[i]? = some x)(hj:X.N[j]? = some y)(hij:i≠j)
  (hx:X.env.scope.names.lookup x=some .local) (hy:X.env.scope.names.lookup y=some .local) (ha:PA X [a,b] ta)
  (hw:swappedStores [.Tuple [.Name x px,.Name y py] kt pt] (.Tuple [a,b] k2 pt2) X.env=pure (some [x,y]))
  (hs:swapsWithSole [.Tuple [.Name x px,.Name y py] kt pt] (.Tuple [a,b] k2 pt2) pos.line X.env=pure false:=by rfl) :
  PS X (.Assign [.Tuple [.Name x px,.Name y py] kt pt] (.Tuple [a,b] k2 pt2) pos) (ZjF i j ta):=by
 intro pins s σ H D I h
 rw[exec_Assign_arm]
 refine wpAny_bind (wpAny_standAt ?_)
 rw[hs]
 refine wpAny_bind (wpAny_pure ?_)
 rw[if_neg (by decide)]
 refine wpAny_bind (Tuple_ (thn (ha _ pins s σ H _ I h) ?_))
 rintro us s1 ⟨vs,H1,I1,r1,q1⟩
 obtain⟨v,w,e1,q1⟩:=q1
 subst e1
 obtain⟨u1,u2,rfl,rv,rw'⟩:∃u1 u2,us=[u1,u2]∧Zv v u1∧Zv w u2:=by
  cases r1 with
  | cons p q =>
   cases q with
   | cons p' q' =>
    cases q'
    exact⟨_,_,rfl,p,p'⟩
 refine wpAny_newObj_type ?_ (by show 2≤sizeLine;decide)
 have I2:Inv X pins σ H1 { s1 with heap:=s1.heap.push { cls:=.type "tuple",data:=.seq [u1,u2].toArray } }:=I1.kept (t':=s1.toks) fun b o e=>Qb _ e
 rw[hw]
 refine wpAny_bind (wpAny_pure ?_)
 show wpAny (model X.prog X.w) X.A (do rule "assign.swapped-stores";let items ← unpackItems (.ref s1.heap.objs.size) 2 none;assignInOrder [fun v=>bindName X.env y v,fun v=>bindName X.env x v] items.reverse;pure Flow.next) _ _ _
 refine wpAny_bind (wpAny_rule (wpAny_bind (unpackItems_tuple (items:=#[u1,u2]) (I.ok.hd hc) (IsTup.new s1.heap _) fun h' hx'=>?_)))
 have I3:=I2.kept (h':=h') (t':=s1.toks) fun b o e=>hx' b o (Qs (Qk e)) e
 show wpAny _ _ (assignInOrder [fun v=>bindName X.env y v,fun v=>bindName X.env x v] [u2,u1] >>= fun _=>pure Flow.next) _ _ _
 refine wpAny_bind (assignInOrder_cons (wpAny_bindName (Zbl I3 hN hj (.inl hy) rw' (fun s2 I4=>?_) (.inr hy))))
 refine assignInOrder_cons (wpAny_bindName (Zbl I4 hN hi (.inl hx) rv (fun s3 I5=>assignInOrder_nil (wpAny_pure ?_)) (.inr hx)))
 rw[List.set_comm _ _ (Ne.symm hij)]at I5
 exact⟨_,H1,I5,q1⟩
def ZjG(i:Nat)(te:TE)(ti:TIp):TS:=fun D σ H=>∃x,σ[i]? = some (some x)∧te σ H fun y H1=>ti x y H1 fun z H2=>D.nx (σ.set i (some z)) H2
theorem Zgh{i:Nat}{x:Str}{e:Expr}{te:TE}{op:Operator}{ti:TIp}{pos':Pos}(hN:X.N.Nodup)(hi:X.N[i]? = some x)(hx:Loc X.env.scope x)(he:PE X e te)(ho:PIp X op ti)(hf:X.fn x=true∨X.env.scope.names.lookup x=some .local:=by first|exact .inl rfl|exact .inr rfl|assumption) :
  PS X (.AugAssign (.Name x pos') op e pos) (ZjG i te ti):=by
 intro pins s σ H D I h
 obtain⟨v,e1,h⟩:=h
 obtain⟨m,hn,hl⟩:=I.loc
 have vis:Vis X.env.scope x:=by rcases hx with k|k;exact .inl k;exact .inr (.inl k)
 obtain⟨u,r,l⟩:=hl i x v hi e1 vis
 refine wpAny_AugAssign_Name ?_
 have go:wpAny (model X.prog X.w) X.A (eval e X.env) (fun w s₂=>wpAny (model X.prog X.w) X.A (inplaceOp op u w) (fun r s₃=>wpAny (model X.prog X.w) X.A (storeName X.env x r) (fun _=>SP X pins D .next) X.xe s₃) X.xe s₂) X.xe s:=by
  refine thn (he pins s σ H _ I h) ?_
  rintro w s1 ⟨y,H1,I1,r1,q1⟩
  refine thn (ho pins s1 σ H1 v y u w _ I1 r r1 q1) ?_
  rintro z s2 ⟨zv,H2,I2,r2,q2⟩
  exact Zbl I2 hN hi hx r2 (fun s3 I3=>⟨_,H2,I3,q2⟩) hf
 rcases l with⟨hk,hm⟩|⟨hk,c,hc,hcell⟩
 ·exact wpAny_loadName_local I.ok.kind hk hn hm go
 ·rcases hk with hk|hk
  ·exact wpAny_loadName_cell I.ok.kind hk hc hcell go
  ·rcases hx with k|k
   ·have:X.env.scope.names.lookup x=some .free:=hk
    rw[k]at this;cases this
   ·have:X.env.scope.names.lookup x=some .free:=hk
    rw[k]at this;cases this
def ipI(f:Int→Int→Int):TIp:=fun x y H Q=>∃i j,x=.int i∧y=.int j∧Q (.int (f i j)) H
theorem Zf9:PIp X .Add (ipI fun i j=>i+j):=by
 intro pins s σ H x y v u Q I r1 r2 h
 obtain⟨i,j,e1,e2,q⟩:=h
 subst e1;subst e2
 obtain⟨t,rfl⟩:=r1
 obtain⟨t',rfl⟩:=r2
 exact iadd_int ⟨.int _,H,I.tok _,⟨_,rfl⟩,q⟩
end
section
variable {X:Cx} {pos:Pos}
def ZiL(c:TT)(tb:TS):TS:=fun D σ H=>∃W:Nat→St→Hp→Prop,(∃m,W m σ H)∧∀m σ H,W m σ H →
 c σ H fun b H1=>if b=true then ∃N:St→Hp→Prop,(∀σ' H',N σ' H'→∃m',m'<m∧W m' σ' H')∧tb { D with nx:=N,ct:=N,bk:=D.nx } σ H1 else D.nx σ H1
theorem Zeq{c:Expr}{body:List Stmt}{tc:TT}{tb:TS}(hp:PassesOwn (model X.prog X.w) X.A X.env X.xe)(hc:PT X c tc)(hb:PSs X body tb):PS X (.While c body [] pos) (ZiL tc tb):=by
 intro pins s σ H D I h
 obtain⟨W,⟨m0,w0⟩,turn⟩:=h
 refine wpAny_While (codeAny_whileLoop (fun n s'=>∃σ' H',Inv X pins σ' H' s'∧W n σ' H') ?_ m0 ⟨σ,H,I,w0⟩)
 rintro n s1 ⟨σ1,H1,I1,w1⟩
 refine wpAny_passesOwn hp (thn (hc pins s1 σ1 H1 _ I1 (turn n σ1 H1 w1)) ?_)
 rintro b s2 ⟨H2,I2,q2⟩
 cases b with
 | true =>
  obtain⟨N,hN,q2⟩:=q2
  rw[if_pos rfl]
  refine wpAny_passesOwn hp (thn (hb pins s2 σ1 H2 _ I2 q2) fun f s3 q3=>?_)
  cases f with
  | next =>
   obtain⟨σ3,H3,I3,n3⟩:=q3
   obtain⟨m',hm,w3⟩:=hN σ3 H3 n3
   exact⟨m',hm,σ3,H3,I3,w3⟩
  | cont =>
   obtain⟨σ3,H3,I3,n3⟩:=q3
   obtain⟨m',hm,w3⟩:=hN σ3 H3 n3
   exact⟨m',hm,σ3,H3,I3,w3⟩
  | brk=>exact q3
  | ret v=>exact q3
 | false =>
  rw[if_neg Qz]
  exact wpAny_execs_nil ⟨σ1,H2,I2,q2⟩
end
structure It where
 go:Nat→Hp→Prop
 yld:Nat→Hp→V→Hp→Prop
 stop:Nat→Hp→Prop
def Zct(X:Cx)(pins:List (Addr×Obj))(H:Hp)(b:Addr):Prop :=
 H b=none∧b≠X.env.locals∧b ∉ X.fs∧(b∈X.ex∨X.s₀.heap.objs.size≤b)∧(∀x c,X.env.cells.lookup x=some c→c≠b)∧∀p∈X.pn++pins,p.1≠b
theorem Inv.fpOk{X:Cx}{pins:List (Addr×Obj)}{σ:St}{H H':Hp}{s:Shared}{b:Addr}(I:Inv X pins σ H s)(hb:s.heap.objs.size≤b)(hn:H' b=none):Zct X pins H' b:=by
 refine⟨hn,QaR (Qy I.lt hb),I.nofs hb,.inr (Q9 I.sz hb),fun x c e z=>?_,fun p hp z=>?_⟩
 ·obtain⟨v,q⟩:=I.cell x c e
  exact absurd (Qy q.lt (by rw[z];exact hb)) (Qav _)
 ·exact absurd (Qy (Qk (I.pin p hp).1) (by rw[z];exact hb)) (Qav _)
structure Zg8 (P:Program) (w:World) (K:PySem.W.Frag) (tg:Expr) (J:It) (fp:List Addr) (it:Addr) (tn:Nat→Heap→Prop):Prop where
 mem:it∈fp
 obj:∀i h,tn i h→∀b∈fp,∃o,h.get? b=some o∧∀v,o.data≠.cell v
 keep:∀i h h',tn i h→(∀b∈fp,∀o,h.get? b=some o→h'.get? b=some o)→tn i h'
 item:∀ (X:Cx),X.prog=P→X.w=w→X.K=K→X.calm=true→∀ (i:Nat) (pins:List (Addr×Obj)) (s:Shared) (σ:St) (H:Hp) (E:Value→Shared→Prop),Inv X pins σ H s→(∀b∈fp,Zct X pins H b)→tn i s.heap→J.go i H →
  wpAny (model P w) X.A (pyNext (.ref it)) (fun r s1=>∃u,r=some u ∧
   wpAny (model P w) X.A (letOwnedTupleGo tg (.ref it) u) (fun _ s2=>∃x H',Inv X pins σ H' s2∧Zv x u∧J.yld i H x H'∧tn (i+1) s2.heap∧∀b∈fp,H' b=none) E s1) E s
 done:∀ (X:Cx),X.prog=P→X.w=w→X.K=K→X.calm=true→∀ (i:Nat) (pins:List (Addr×Obj)) (s:Shared) (σ:St) (H:Hp) (E:Value→Shared→Prop),Inv X pins σ H s→(∀b∈fp,Zct X pins H b)→tn i s.heap→J.stop i H →
  wpAny (model P w) X.A (pyNext (.ref it)) (fun r s1=>r=none∧Inv X pins σ H s1) E s
 self:∀ (A:Around) (i:Nat) (s:Shared) (Q:Value→Shared→Prop) (E:Value→Shared→Prop),tn i s.heap→Q (.ref it) s→wpAny (model P w) A (pyIter (.ref it)) Q E s
abbrev TI:=St→Hp→(It→Hp→Prop)→Prop
def PIE(X:Cx)(pins:List (Addr×Obj))(σ:St)(tg:Expr)(R:It→Hp→Prop)(itv:Value)(s2:Shared):Prop :=
 ∃ (it:Addr) (fp:List Addr) (tn:Nat→Heap→Prop) (J:It) (H':Hp),itv=.ref it∧Inv X pins σ H' s2∧Zg8 X.prog X.w X.K tg J fp it tn∧tn 0 s2.heap∧(∀b∈fp,Zct X pins H' b)∧R J H'
def PI(X:Cx)(tg iter:Expr)(wi:TI):Prop :=
 ∀ (pins:List (Addr×Obj)) (s:Shared) (σ:St) (H:Hp) (R:It→Hp→Prop),Inv X pins σ H s→wi σ H R →
  wpAny (model X.prog X.w) X.A (eval iter X.env) (fun v s1=>wpAny (model X.prog X.w) X.A (pyIter v) (PIE X pins σ tg R) X.xe s1) X.xe s
theorem Zh9{M:Model}{A:Around}{E:Value→Shared→Prop}{s:Shared}{tg:Expr}{it:Addr}{u:Value}{o:Obj}{n:String}{vs:Array Value}{Q:Unit→Shared→Prop}(ho:s.heap.get? it=some o)(hc:o.cls=.type n)(hd:o.data=.fields vs)
  (hn:["enumerate", "zip", "dict_itemiterator", "dict_reverseitemiterator", "odict_iterator", "itertools.zip_longest", "itertools.pairwise"].contains n=false) (hQ:Q () s):wpAny M A (letOwnedTupleGo tg (.ref it) u) Q E s:=by
 unfold letOwnedTupleGo
 cases tg<;>first
  | exact wpAny_pure hQ
  | (cases u<;>first
    | exact wpAny_pure hQ
    | (refine wpAny_bind (wpAny_load ho ?_);rw[hc,hd];show wpAny M A (if (["enumerate", "zip", "dict_itemiterator", "dict_reverseitemiterator", "odict_iterator", "itertools.zip_longest", "itertools.pairwise"].contains n&&vs[0]? == some (rawInt _))=true then _ else _) Q E s;rw[if_neg (by intro h;rw[hn,Bool.false_and]at h;cases h)];exact wpAny_pure hQ))
def Itl(K:PySem.W.Frag)(a:Addr):It :=
 ⟨fun i H=>∃xs x,SqL K H a xs∧xs[i]? = some x,fun i H x H'=>H'=H∧∀xs,SqL K H a xs→xs[i]? = some x,fun i H=>∃xs,SqL K H a xs∧xs.length≤i⟩
def Itr(lo:Int)(n:Nat):It:=⟨fun i _=>i<n,fun i H x H'=>H'=H∧x=.int (lo+i),fun i _=>n≤i⟩
theorem ZfI{P:Program}{w:World}{K:PySem.W.Frag}{tg:Expr}(a it:Addr):Zg8 P w K tg (Itl K a) [it] it (fun i h=>h.IsListIter it a i) where
 mem:=by simp
 obj:=fun i h st b hb=>by
  have e:b=it:=by simpa using hb
  subst e
  obtain⟨o,e,c,d⟩:=st
  exact⟨o,e,fun v z=>by rw[d]at z;cases z⟩
 keep:=fun i h h' st k=>st.at fun o e=>k it (by simp) o e
 item:=by
  intro X hP hw hK hc i pins s σ H E I hf st hg
  subst hP hw hK
  obtain⟨xs,x,hq,hx⟩:=hg
  obtain⟨its,rv,p,hz⟩:=I.list hq
  obtain⟨u,hu,ru⟩:=rv.get hx
  obtain⟨f0,f1,f2,f3,f4,f5⟩:=hf it (by simp)
  refine wpAny_pyNext_list_item st p.isList (x:=u) (by simpa using hu) fun h' st' sb=>?_
  have I1:Inv X pins σ H { s with heap:=h' }:=I.turned (t':=s.toks) (fun b o hb e=>(sb.2 b hb).trans e) f0 f1 f3 f4 f5
  obtain⟨o,e,c,d⟩:=id st'
  exact⟨u,rfl,Zh9 (s:={ s with heap:=h' }) e c d (by decide) ⟨x,H,I1,ru,⟨rfl,fun ys hy=>by rw[I.list_inj hy hq];exact hx⟩,st',fun b hb=>(hf b hb).1⟩⟩
 done:=by
  intro X hP hw hK hc i pins s σ H E I hf st hg
  subst hP hw hK
  obtain⟨xs,hq,hx⟩:=hg
  obtain⟨its,rv,p,hz⟩:=I.list hq
  obtain⟨f0,f1,f2,f3,f4,f5⟩:=hf it (by simp)
  have hl:=rv.length
  exact wpAny_pyNext_list_end (I.ok.hd hc) st p.isList (by simp;omega) fun h' eb=>⟨rfl,I.turned (t':=s.toks) (fun b o hb e=>eb b o hb e) f0 f1 f3 f4 f5⟩
 self:=fun _ _ _ _ _ st h=>wpAny_pyIter_listiter st h
theorem ZeQ{P:Program}{w:World}{K:PySem.W.Frag}{tg:Expr}(it:Addr)(lo:Int)(n:Nat):Zg8 P w K tg (Itr lo n) [it] it (fun i h=>IsRangeIter h it (lo+(i:Nat)*1) ((n:Int)-(i:Nat)) 1) where
 mem:=by simp
 obj:=fun i h st b hb=>by
  have e:b=it:=by simpa using hb
  subst e
  exact⟨_,st,fun v z=>by
   have z':Data.fields _=Data.cell v:=z
   cases z'⟩
 keep:=fun i h h' st k=>k it (by simp) _ st
 item:=by
  intro X hP hw hK hc i pins s σ H E I hf st hg
  subst hP hw hK
  obtain⟨f0,f1,f2,f3,f4,f5⟩:=hf it (by simp)
  have W:=Walks.range (prog:=X.prog) (w:=X.w) (I.ok.hd hc) it lo 1 n
  refine W.item i s _ _ hg st fun v h' tk hv st' kk=>?_
  obtain⟨t,rfl⟩:=hv
  have I1:Inv X pins σ H { s with heap:=h',toks:=tk }:=I.turned (fun b o hb e=>kk b o (by simpa using hb) e) f0 f1 f3 f4 f5
  refine⟨_,rfl,Zh9 (s:={ s with heap:=h',toks:=tk }) (n := "range_iterator") st' rfl rfl (by decide) ⟨.int (lo+i),H,I1,⟨t,?_⟩,⟨rfl,rfl⟩,st',fun b hb=>(hf b hb).1⟩⟩
  rw[Int.mul_one]
 done:=by
  intro X hP hw hK hc i pins s σ H E I hf st hg
  subst hP hw hK
  obtain⟨f0,f1,f2,f3,f4,f5⟩:=hf it (by simp)
  exact wpAny_pyNext_range_end (I.ok.hd hc) st (by have:n≤i:=hg;omega) fun h' eb=>⟨rfl,I.turned (t':=s.toks) (fun b o hb e=>eb b o hb e) f0 f1 f3 f4 f5⟩
 self:=fun _ _ _ _ _ st h=>wpAny_pyIter_rangeiter st h
section
variable {X:Cx} {tg:Expr}
def ZhZ(K:PySem.W.Frag)(tl:TE):TI:=fun σ H R=>tl σ H fun x H1=>∃a,x=.ref a∧(∃xs,SqL K H1 a xs)∧R (Itl K a) H1
theorem ZhE{l:Expr}{tl:TE}(hl:PE X l tl):PI X tg l (ZhZ X.K tl):=by
 intro pins s σ H R I h
 refine thn (hl pins s σ H _ I h) ?_
 rintro v s1 ⟨x,H1,I1,r1,q1⟩
 obtain⟨a,e,⟨xs,hq⟩,q⟩:=q1
 subst e
 cases r1
 obtain⟨its,rv,p,hz⟩:=I1.list hq
 refine wpAny_pyIter_list p.isList ?_
 refine⟨s1.heap.objs.size,[s1.heap.objs.size],_,_,H1,rfl,I1.kept (t':=s1.toks) fun b o e=>Qb _ e,ZfI a _,⟨_,Qq _ rfl,rfl,rfl⟩,fun b hb=>?_,q⟩
 have e:b=s1.heap.objs.size:=by simpa using hb
 subst e
 exact I1.fpOk (Qj _) (I1.hok.fresh (Qj _))
theorem ZgU{pins:List (Addr×Obj)}{σ:St}{H:Hp}{s:Shared}{R:It→Hp→Prop}{E:Value→Shared→Prop}{lo hi:Int}{t u v:Tok}{tk:Nat}(I:Inv X pins σ H s)(h1:-(2 ^ 62)≤lo)(h2:lo<2 ^ 62)(h3:-(2 ^ 62)≤hi)(h4:hi<2 ^ 62)
  (q:R (Itr lo (hi-lo).toNat) H):wpAny (model X.prog X.w) X.A (pyIter (.ref s.heap.objs.size)) (PIE X pins σ tg R) E { s with heap:=s.heap.push { cls:=.type "range",data:=.fields #[.int lo t,.int hi u,.int 1 v] },toks:=tk }:=by
 refine wpAny_pyIter_range (IsRange.new ..) (small_one h1 h2 h3 h4) ?_
 have I1:Inv X pins σ H { s with heap:=s.heap.push { cls:=.type "range",data:=.fields #[.int lo t,.int hi u,.int 1 v] },toks:=tk }:=I.kept fun b o e=>Qb _ e
 refine⟨(s.heap.push { cls:=.type "range",data:=.fields #[.int lo t,.int hi u,.int 1 v] }).objs.size,[(s.heap.push { cls:=.type "range",data:=.fields #[.int lo t,.int hi u,.int 1 v] }).objs.size],_,_,H,rfl,
  I1.kept (t':=tk) fun b o e=>Qb _ e,ZeQ _ lo (hi-lo).toNat,?_,fun b hb=>?_,q⟩
 ·have e1:lo+((0:Nat):Int)*1=lo:=by simp
  have e2:(((hi-lo).toNat:Nat):Int)-((0:Nat):Int)=Builtin.Range.rangeSize lo hi 1:=by rw[rangeSize_one];split<;>omega
  show IsRangeIter _ _ (lo+((0:Nat):Int)*1) ((((hi-lo).toNat:Nat):Int)-((0:Nat):Int)) 1
  rw[e1,e2]
  exact Qq _ rfl
 ·have e:b=(s.heap.push { cls:=.type "range",data:=.fields #[.int lo t,.int hi u,.int 1 v] }).objs.size:=by simpa using hb
  subst e
  exact I1.fpOk (Qj _) (I1.hok.fresh (Qj _))
def Zji(ta:TA):TI:=fun σ H R=>ta σ H fun vs H1=>∃j:Int,vs=[.int j] ∧ -(2 ^ 62)≤j∧j<2 ^ 62∧R (Itr 0 j.toNat) H1
theorem ZaW{a:Expr}{ta:TA}{p pos:Pos}(hg:Gl X "range")(hm:X.mg "range" = none)(ha:PA X [a] ta)(hs:starEach [a] X.env=[(false,eval a X.env)]:=by rfl):PI X tg (.Call (.Name "range" p) [a] [] pos) (Zji ta):=by
 intro pins s σ H R I h
 refine Call_ (Zb4 I hg hm boot_range (Qak (thn (ha pos pins s σ H _ I h) ?_) hs rfl))
 rintro us s1 ⟨vs,H1,I1,r1,q1⟩
 obtain⟨j,e,q1,q2,q⟩:=q1
 subst e
 cases r1 with
 | cons r rr =>
  cases rr
  obtain⟨t,rfl⟩:=r
  exact call_range_1 (ZgU I1 (by omega) (by omega) q1 q2 (by simpa using q))
def ZjT(wi:TI)(g:TG)(tb:TS):TS:=fun D σ H=>wi σ H fun J H1=>∃W:Nat→Nat→St→Hp→Prop,(∃m,W 0 m σ H1)∧∀i m σ H,W i m σ H →
 (J.stop i H∧D.nx σ H)∨(J.go i H∧∃N:St→Hp→Prop,(∀σ' H',N σ' H'→∃m',m'<m∧W (i+1) m' σ' H')∧∀x H',J.yld i H x H'→g x σ H' fun σ2 H2=>tb { D with nx:=N,ct:=N,bk:=D.nx } σ2 H2)
def Zcy(fp:List Addr)(h:Heap):List (Addr×Obj):=fp.filterMap fun b=>(h.get? b).map fun o=>(b,o)
theorem Za4{fp:List Addr}{h:Heap}{b:Addr}{o:Obj}(hb:b∈fp)(e:h.get? b=some o):(b,o)∈Zcy fp h:=List.mem_filterMap.mpr ⟨b,hb,by rw[e];rfl⟩
theorem ZfD{fp:List Addr}{h:Heap}{p:Addr×Obj}(hp:p∈Zcy fp h):p.1∈fp∧h.get? p.1=some p.2:=by
 obtain⟨b,hb,e⟩:=List.mem_filterMap.mp hp
 cases q:h.get? b with
 | none=>rw[q]at e;cases e
 | some o =>
  rw[q]at e
  have e':(b,o)=p:=QC e
  subst e'
  exact⟨hb,q⟩
theorem Inv.pinned{pins:List (Addr×Obj)}{σ:St}{H:Hp}{s:Shared}{fp:List Addr}(I:Inv X pins σ H s)(hf:∀b∈fp,Zct X pins H b)(ho:∀b∈fp,∃o,s.heap.get? b=some o∧∀v,o.data≠.cell v):Inv X (pins++Zcy fp s.heap) σ H s :=
 I.pins_of fun p hp=>(Qf.mp hp).elim (fun z=>I.pin p (Qi _ z)) fun z=>by
  obtain⟨hb,e⟩:=ZfD z
  obtain⟨f0,f1,f2,_⟩:=hf p.1 hb
  obtain⟨o,e',d⟩:=ho p.1 hb
  rw[e]at e';cases e'
  exact⟨e,f0,f1,f2,d⟩
theorem Inv.unpinned{pins pl:List (Addr×Obj)}{σ:St}{H:Hp}{s:Shared}(I:Inv X (pins++pl) σ H s):Inv X pins σ H s:=I.pins_of fun p hp=>I.pin p (Qi _ (Qr _ hp))
theorem Zdx{iter:Expr}{body:List Stmt}{wi:TI}{g:TG}{tb:TS}{pos:Pos}(hp:PassesOwn (model X.prog X.w) X.A X.env X.xe)(hc:X.calm=true)(hi:PI X tg iter wi)(hg:PG X tg g)(hb:PSs X body tb)
  (hs:∀x,foldedSetIterable iter X.env x=pure x:=by intro _;rfl):PS X (.For tg iter body [] pos) (ZjT wi g tb):=by
 intro pins s σ H D I h
 refine wpAny_For (thn (hi pins s σ H _ I h) fun v s1 h1=>thn h1 fun itv s2 h2=>?_) hs
 obtain⟨it,fp,tn,J,H2,e,I2,T,st2,f2,W,⟨m0,w0⟩,turn⟩:=h2
 subst e
 have stat:∀ {H':Hp},(∀b∈fp,H' b=none)→∀b∈fp,Zct X pins H' b:=fun hn b hb=>⟨hn b hb,(f2 b hb).2⟩
 refine codeAny_forLoop_any (fun n s'=>∃i σ' H',Inv X pins σ' H' s'∧tn i s'.heap∧(∀b∈fp,H' b=none)∧W i n σ' H') ?_ m0 ⟨0,σ,H2,I2,st2,fun b hb=>(f2 b hb).1,w0⟩
 rintro n s3 ⟨i,σ3,H3,I3,st3,fr3,w3⟩
 rcases turn i n σ3 H3 w3 with⟨stop,qn⟩|⟨go,N,hN,step⟩
 ·refine wpAny_passesOwn hp (thn (T.done X rfl rfl rfl hc i pins s3 σ3 H3 X.xe I3 (stat fr3) st3 stop) ?_)
  rintro r s4 ⟨hr,I4⟩
  subst hr
  exact wpAny_execs_nil ⟨σ3,H3,I4,qn⟩
 ·refine wpAny_passesOwn hp (thn (T.item X rfl rfl rfl hc i pins s3 σ3 H3 X.xe I3 (stat fr3) st3 go) ?_)
  rintro r s4 ⟨u,hr,h4⟩
  subst hr
  refine wpAny_passesOwn hp (thn h4 ?_)
  rintro _ s5 ⟨x,H5,I5,r5,y5,st5,fr5⟩
  have I5':=I5.pinned (stat fr5) (T.obj _ _ st5)
  refine wpAny_passesOwn hp (thn (hg _ s5 σ3 H5 x u _ I5' r5 (step x H5 y5)) ?_)
  rintro _ s6 ⟨σ6,H6,I6,q6⟩
  refine wpAny_passesOwn hp (thn (hb _ s6 σ6 H6 _ I6 q6) fun f s7 q7=>?_)
  have again:∀ {σ7:St} {H7:Hp},Inv X (pins++Zcy fp s5.heap) σ7 H7 s7→N σ7 H7→∃m,m<n∧∃i σ' H',Inv X pins σ' H' s7∧tn i s7.heap∧(∀b∈fp,H' b=none)∧W i m σ' H':=fun {σ7 H7} I7 n7=>by
   obtain⟨m',hm,w7⟩:=hN σ7 H7 n7
   refine⟨m',hm,i+1,σ7,H7,I7.unpinned,T.keep _ _ _ st5 fun b hb o e=>(I7.pin (b,o) (Qi _ (Qi _ (Za4 hb e)))).1,fun b hb=>?_,w7⟩
   obtain⟨o,e,d⟩:=T.obj _ _ st5 b hb
   exact(I7.pin (b,o) (Qi _ (Qi _ (Za4 hb e)))).2.1
  cases f with
  | next=>obtain⟨σ7,H7,I7,n7⟩:=q7;exact again I7 n7
  | cont=>obtain⟨σ7,H7,I7,n7⟩:=q7;exact again I7 n7
  | brk=>obtain⟨σ7,H7,I7,q7⟩:=q7;exact⟨σ7,H7,I7.unpinned,q7⟩
  | ret v=>obtain⟨x7,σ7,H7,I7,r7,q7⟩:=q7;exact⟨x7,σ7,H7,I7.unpinned,r7,q7⟩
end
theorem Zgm{K:PySem.W.Frag}{a:Addr}{xs:List V}{g:TG}{tb:TS}{D:Zer}{σ:St}{H:Hp}(Pv:Nat→St→Hp→Prop)(h0:Pv 0 σ H)(hl:∀i σ H,i≤xs.length→Pv i σ H→SqL K H a xs)
  (hs:∀i x σ H,xs[i]? = some x→Pv i σ H→g x σ H fun σ2 H2=>tb { D with nx:=Pv (i+1),ct:=Pv (i+1),bk:=D.nx } σ2 H2) (hd:∀σ H,Pv xs.length σ H→D.nx σ H) :
  ∃W:Nat→Nat→St→Hp→Prop,(∃m,W 0 m σ H)∧∀i m σ H,W i m σ H →
   ((Itl K a).stop i H∧D.nx σ H)∨((Itl K a).go i H∧∃N:St→Hp→Prop,(∀σ' H',N σ' H'→∃m',m'<m∧W (i+1) m' σ' H')∧∀x H',(Itl K a).yld i H x H'→g x σ H' fun σ2 H2=>tb { D with nx:=N,ct:=N,bk:=D.nx } σ2 H2):=by
 refine⟨fun i m σ H=>m=xs.length-i∧i≤xs.length∧Pv i σ H,⟨xs.length,by simp,Qx _,h0⟩,?_⟩
 rintro i m σ H ⟨rfl,hi,p⟩
 have q:=hl i σ H hi p
 by_cases hlt:i<xs.length
 ·refine .inr ⟨⟨xs,xs[i],q,by simp[hlt]⟩,Pv (i+1),fun σ' H' p'=>⟨xs.length-(i+1),by omega,rfl,hlt,p'⟩,fun x H' y=>?_⟩
  obtain⟨e,y⟩:=y
  subst e
  exact hs i x σ _ (y xs q) p
 ·have e:i=xs.length:=by omega
  subst e
  exact .inl ⟨⟨xs,q,Qj _⟩,hd σ H p⟩
theorem Zdg{lo:Int}{n:Nat}{g:TG}{tb:TS}{D:Zer}{σ:St}{H:Hp}(Pv:Nat→St→Hp→Prop)(h0:Pv 0 σ H)
  (hs:∀i σ H,i<n→Pv i σ H→g (.int (lo+i)) σ H fun σ2 H2=>tb { D with nx:=Pv (i+1),ct:=Pv (i+1),bk:=D.nx } σ2 H2) (hd:∀σ H,Pv n σ H→D.nx σ H) :
  ∃W:Nat→Nat→St→Hp→Prop,(∃m,W 0 m σ H)∧∀i m σ H,W i m σ H →
   ((Itr lo n).stop i H∧D.nx σ H)∨((Itr lo n).go i H∧∃N:St→Hp→Prop,(∀σ' H',N σ' H'→∃m',m'<m∧W (i+1) m' σ' H')∧∀x H',(Itr lo n).yld i H x H'→g x σ H' fun σ2 H2=>tb { D with nx:=N,ct:=N,bk:=D.nx } σ2 H2):=by
 refine⟨fun i m σ H=>m=n-i∧i≤n∧Pv i σ H,⟨n,by simp,Qx _,h0⟩,?_⟩
 rintro i m σ H ⟨rfl,hi,p⟩
 by_cases hlt:i<n
 ·refine .inr ⟨hlt,Pv (i+1),fun σ' H' p'=>⟨n-(i+1),by omega,rfl,hlt,p'⟩,fun x H' y=>?_⟩
  obtain⟨e,y⟩:=y
  subst e y
  exact hs i σ _ hlt p
 ·have e:i=n:=by omega
  subst e
  exact .inl ⟨Qj _,hd σ H p⟩
abbrev R2:=V→V→Hp→VK→Prop
def OpR(X:Cx)(f:Value→Value→Sem Value)(r:R2):Prop :=
 ∀ (pins:List (Addr×Obj)) (s:Shared) (σ:St) (H:Hp) (x y:V) (v u:Value) (Q:VK),Inv X pins σ H s→Zv x v→Zv y u→r x y H Q →
  wpAny (model X.prog X.w) X.A (f v u) (EP X pins σ Q) X.xe s
def UnR(X:Cx)(f:Value→Sem Value)(r:V→Hp→VK→Prop):Prop :=
 ∀ (pins:List (Addr×Obj)) (s:Shared) (σ:St) (H:Hp) (x:V) (v:Value) (Q:VK),Inv X pins σ H s→Zv x v→r x H Q →
  wpAny (model X.prog X.w) X.A (f v) (EP X pins σ Q) X.xe s
def ZX(X:Cx)(f:Value)(r:List V→Hp→VK→Prop):Prop :=
 ∀ (pins:List (Addr×Obj)) (s:Shared) (σ:St) (H:Hp) (xs:List V) (us:List Value) (Q:VK),Inv X pins σ H s→Zl xs us→r xs H Q →
  wpAny (model X.prog X.w) X.A (call f us) (EP X pins σ Q) X.xe s
def tOp(r:R2)(ta tb:TE):TE:=fun σ H Q=>ta σ H fun x H1=>tb σ H1 fun y H2=>r x y H2 Q
def tUn(r:V→Hp→VK→Prop)(ta:TE):TE:=fun σ H Q=>ta σ H fun x H1=>r x H1 Q
def rI(C:Int→Int→Prop)(g:Int→Int→V):R2:=fun x y H Q=>∃i j,x=.int i∧y=.int j∧C i j∧Q (g i j) H
def rI0(g:Int→Int→V):R2:=fun x y H Q=>∃i j,x=.int i∧y=.int j∧Q (g i j) H
def rU(g:Int→V):V→Hp→VK→Prop:=fun x H Q=>∃i,x=.int i∧Q (g i) H
section
variable {X:Cx} {a b c:Expr} {ta tb tc:TE} {pos:Pos}
theorem Zij(ha:PE X a ta)(hb:PE X b tb){pins:List (Addr×Obj)}{s:Shared}{σ:St}{H:Hp}{R:V→V→Hp→Prop}(I:Inv X pins σ H s)
  (h:ta σ H fun x H1=>tb σ H1 fun y H2=>R x y H2) {Q:Value→Shared→Prop} {f:Value→Value→Sem Value}
  (hf:∀v u s2 x y H2,Inv X pins σ H2 s2→Zv x v→Zv y u→R x y H2→wpAny (model X.prog X.w) X.A (f v u) Q X.xe s2) :
  wpAny (model X.prog X.w) X.A (eval a X.env) (fun v s₁=>wpAny (model X.prog X.w) X.A (eval b X.env) (fun u s₂=>wpAny (model X.prog X.w) X.A (f v u) Q X.xe s₂) X.xe s₁) X.xe s:=by
 refine thn (ha pins s σ H _ I h) ?_
 rintro v s1 ⟨x,H1,I1,r1,q1⟩
 refine thn (hb pins s1 σ H1 _ I1 q1) ?_
 rintro u s2 ⟨y,H2,I2,r2,q2⟩
 exact hf v u s2 x y H2 I2 r1 r2 q2
theorem ZD{op:Operator}{r:R2}(ho:OpR X (binaryOp op) r)(ha:PE X a ta)(hb:PE X b tb):PE X (.BinOp a op b pos) (tOp r ta tb):=by
 intro pins s σ H Q I h
 exact wpAny_BinOp (Zij ha hb I h fun v u s2 x y H2 I2 rx ry q=>ho pins s2 σ H2 x y v u Q I2 rx ry q)
theorem Zcw{op:UnaryOp}{r:V→Hp→VK→Prop}(ho:UnR X (unaryOp op) r)(ha:PE X a ta):PE X (.UnaryOp op a pos) (tUn r ta):=by
 intro pins s σ H Q I h
 exact UnaryOp_ (thn (ha pins s σ H _ I h) fun v s1 ⟨x,H1,I1,r1,q1⟩=>ho pins s1 σ H1 x v Q I1 r1 q1)
theorem opI{f:Value→Value→Sem Value}{C:Int→Int→Prop}{g:Int→Int→Int}
  (rule:∀ (i j:Int) (t u:Tok) (s:Shared) (Q:Value→Shared→Prop) (E:Value→Shared→Prop),C i j→Q (.int (g i j) s.toks) { s with toks:=s.toks+1 }→wpAny (model X.prog X.w) X.A (f (.int i t) (.int j u)) Q E s) :
  OpR X f (rI C fun i j=>.int (g i j)):=by
 intro pins s σ H x y v u Q I rx ry h
 obtain⟨i,j,rfl,rfl,hc,q⟩:=h
 obtain⟨t,rfl⟩:=rx
 obtain⟨t',rfl⟩:=ry
 exact rule i j t t' s _ _ hc ⟨.int (g i j),H,I.tok _,⟨_,rfl⟩,q⟩
theorem Zi2{f:Value→Value→Sem Value}{g:Int→Int→Int}
  (rule:∀ (i j:Int) (t u:Tok) (s:Shared) (Q:Value→Shared→Prop) (E:Value→Shared→Prop),Q (.int (g i j) s.toks) { s with toks:=s.toks+1 }→wpAny (model X.prog X.w) X.A (f (.int i t) (.int j u)) Q E s) :
  OpR X f (rI0 fun i j=>.int (g i j)):=by
 intro pins s σ H x y v u Q I rx ry h
 obtain⟨i,j,rfl,rfl,q⟩:=h
 obtain⟨t,rfl⟩:=rx
 obtain⟨t',rfl⟩:=ry
 exact rule i j t t' s _ _ ⟨.int (g i j),H,I.tok _,⟨_,rfl⟩,q⟩
theorem ZhT{f:Value→Value→Sem Value}{g:Int→Int→Bool}
  (rule:∀ (i j:Int) (t u:Tok) (s:Shared) (Q:Value→Shared→Prop) (E:Value→Shared→Prop),Q (.bool (g i j)) s→wpAny (model X.prog X.w) X.A (f (.int i t) (.int j u)) Q E s) :
  OpR X f (rI0 fun i j=>.bl (g i j)):=by
 intro pins s σ H x y v u Q I rx ry h
 obtain⟨i,j,rfl,rfl,q⟩:=h
 obtain⟨t,rfl⟩:=rx
 obtain⟨t',rfl⟩:=ry
 exact rule i j t t' s _ _ ⟨.bl (g i j),H,I,rfl,q⟩
def ZjO(i j:Int):Prop:=0<j∧j<1073741824
def Zi0(i j:Int):Prop:=0≤j∧j≤1000000∧i.natAbs<2 ^ 64
def Zif(i j:Int):Prop:=(-(2 ^ 64)<i∧i<2 ^ 64)∨(-(2 ^ 64)<j∧j<2 ^ 64)
theorem Zif.ok{i j:Int}(h:Zif i j):IntMulOk i j:=by
 rcases h with⟨h1,h2⟩|⟨h1,h2⟩
 ·exact .of_left (intBits_le_64 h1 h2)
 ·exact .of_right (intBits_le_64 h1 h2)
theorem Zak:OpR X (binaryOp .Add) (rI0 fun i j=>.int (i+j)):=Zi2 fun _ _ _ _ _ _ _ q=>add_int q
theorem Zip:OpR X (binaryOp .Sub) (rI0 fun i j=>.int (i-j)):=Zi2 fun _ _ _ _ _ _ _ q=>sub_int q
theorem ZbU:OpR X (binaryOp .Mult) (rI Zif fun i j=>.int (i*j)):=opI fun _ _ _ _ _ _ _ hc q=>mul_int q hc.ok
theorem ZdP:OpR X (binaryOp .FloorDiv) (rI ZjO fun i j=>.int (i / j)):=opI fun i j _ _ _ _ _ hc q=>by
 have h1:(0:Int)<j:=hc.1
 have h2:j<1073741824:=hc.2
 exact floordiv_int (by omega) (by rw[Int.fdiv_eq_ediv_of_nonneg i (by omega)];exact q) (.inl (PyProof.noPylong_small (by omega)))
theorem ZcQ:OpR X (binaryOp .Mod) (rI (fun _ j=>0<j) fun i j=>.int (i % j)):=opI fun i j _ _ _ _ _ hc q=>by
 have h1:(0:Int)<j:=hc
 exact mod_int' (by omega) (by rw[Int.fmod_eq_emod_of_nonneg i (by omega)];exact q)
theorem ZiJ:OpR X (binaryOp .Pow) (rI Zi0 fun i j=>.int (i ^ j.toNat)):=opI fun _ _ _ _ _ _ _ hc q=>pow_int_small hc.1 hc.2.1 hc.2.2 q
theorem unI{f:Value→Sem Value}{g:Int→Int}
  (rule:∀ (i:Int) (t:Tok) (s:Shared) (Q:Value→Shared→Prop) (E:Value→Shared→Prop),Q (.int (g i) s.toks) { s with toks:=s.toks+1 }→wpAny (model X.prog X.w) X.A (f (.int i t)) Q E s) :
  UnR X f (rU fun i=>.int (g i)):=by
 intro pins s σ H x v Q I rx h
 obtain⟨i,rfl,q⟩:=h
 obtain⟨t,rfl⟩:=rx
 exact rule i t s _ _ ⟨.int (g i),H,I.tok _,⟨_,rfl⟩,q⟩
theorem ZbA:UnR X (unaryOp .USub) (rU fun i=>.int (-i)):=unI fun _ _ _ _ _ q=>neg_int q
end
def ZjD:V→V→Bool
 | .non,.non=>true|.non,.int _=>true|.int _,.non=>true|.non,.bl _=>true|.bl _,.non=>true|.non,.str _=>true|.str _,.non=>true
 | .int _,.int _=>true|.bl _,.bl _=>true|.str _,.str _=>true|.byt _,.byt _=>true
 | .int _,.str _=>true|.str _,.int _=>true|.bl _,.str _=>true|.str _,.bl _=>true
 | _,_=>false
def rEq:R2:=fun x y H Q=>ZjD x y=true∧Q (.bl (decide (x=y))) H
theorem Zht{i j:Int}:decide (V.int i=V.int j)=(i == j):=by
 rw[QaN]
 simp
theorem Zik{i j:Bool}:decide (V.bl i=V.bl j)=(i == j):=by
 rw[QaN]
 simp
theorem Zhh{i j:Str}:decide (V.str i=V.str j)=(i == j):=by
 rw[QaN]
 simp
theorem Zhf{i j:Array UInt8}:decide (V.byt i=V.byt j)=(i.toList == j.toList):=by
 rw[QaN]
 cases i
 cases j
 simp
section
variable {X:Cx} {a b c:Expr} {ta tb tc:TE} {pos:Pos}
theorem Z6{pins:List (Addr×Obj)}{σ:St}{H:Hp}{s:Shared}{Q:VK}{k k':Bool}(I:Inv X pins σ H s)(q:Q (.bl k) H)(e:k=k'):EP X pins σ Q (.bool k') s:=by
 subst e
 exact⟨.bl k,H,I,rfl,q⟩
theorem Zbc:OpR X (compareOp .Eq) rEq:=by
 intro pins s σ H x y v u Q I rx ry h
 obtain⟨hs,q⟩:=h
 cases x with
 | non =>
  cases rx
  cases y with
  | non=>cases ry;exact PySem.EqNone.eq_none_none (Z6 I q (by simp))
  | bl j=>cases ry;exact PySem.EqNone.eq_none_bool (Z6 I q (by simp))
  | int j=>obtain⟨t',rfl⟩:=ry;exact PySem.EqNone.eq_none_int (Z6 I q (by simp))
  | str j=>obtain⟨t',rfl⟩:=ry;exact PySem.EqNone.eq_none_str (Z6 I q (by simp))
  | _=>exact absurd (show false=true from hs) Qz
 | bl i =>
  cases rx
  cases y with
  | non=>cases ry;exact PySem.EqNone.eq_bool_none (Z6 I q (by simp))
  | bl j=>cases ry;exact eq_bool (Z6 I q Zik)
  | str j=>obtain⟨t',rfl⟩:=ry;exact PySem.EqMixed.eq_bool_str (Z6 I q (by simp))
  | _=>exact absurd (show false=true from hs) Qz
 | int i =>
  obtain⟨t,rfl⟩:=rx
  cases y with
  | non=>cases ry;exact PySem.EqNone.eq_int_none (Z6 I q (by simp))
  | int j=>obtain⟨t',rfl⟩:=ry;exact eq_int (Z6 I q Zht)
  | str j=>obtain⟨t',rfl⟩:=ry;exact PySem.EqMixed.eq_int_str (Z6 I q (by simp))
  | _=>exact absurd (show false=true from hs) Qz
 | str i =>
  obtain⟨t,rfl⟩:=rx
  cases y with
  | non=>cases ry;exact PySem.EqNone.eq_str_none (Z6 I q (by simp))
  | bl j=>cases ry;exact PySem.EqMixed.eq_str_bool (Z6 I q (by simp))
  | int j=>obtain⟨t',rfl⟩:=ry;exact PySem.EqMixed.eq_str_int (Z6 I q (by simp))
  | str j=>obtain⟨t',rfl⟩:=ry;exact eq_str (Z6 I q Zhh)
  | _=>exact absurd (show false=true from hs) Qz
 | byt i =>
  obtain⟨t,rfl⟩:=rx
  cases y with
  | byt j=>obtain⟨t',rfl⟩:=ry;exact PySem.W.eq_bytes (Z6 I q Zhf)
  | _=>exact absurd (show false=true from hs) Qz
 | _=>cases y<;>exact absurd (show false=true from hs) Qz
theorem Zfe:OpR X (compareOp .Lt) (rI0 fun i j=>.bl (decide (i<j))):=ZhT fun _ _ _ _ _ _ _ q=>lt_int q
theorem Zh4:OpR X (compareOp .LtE) (rI0 fun i j=>.bl (decide (i≤j))):=ZhT fun _ _ _ _ _ _ _ q=>le_int q
theorem Zf8:OpR X (compareOp .Gt) (rI0 fun i j=>.bl (decide (j<i))):=ZhT fun _ _ _ _ _ _ _ q=>gt_int q
theorem ZfU:OpR X (compareOp .GtE) (rI0 fun i j=>.bl (decide (j≤i))):=ZhT fun _ _ _ _ _ _ _ q=>ge_int q
theorem ZfK:OpR X (compareOp .Lt) (fun x y H Q=>∃i j,x=.str i∧y=.str j∧Q (.bl (decide (i.cps.toList<j.cps.toList))) H):=by
 intro pins s σ H x y v u Q I rx ry h
 obtain⟨i,j,rfl,rfl,q⟩:=h
 obtain⟨t,rfl⟩:=rx
 obtain⟨t',rfl⟩:=ry
 exact lt_str (Z6 I q rfl)
theorem Zq(b:Expr){op:CmpOp}(h:op≠.In:=by decide)(h2:op≠.NotIn:=by decide):behindInMarks op b=false:=by
 have e1:(op == CmpOp.In)=false:=by cases op<;>first|rfl|exact absurd rfl h
 have e2:(op == CmpOp.NotIn)=false:=by cases op<;>first|rfl|exact absurd rfl h2
 cases b<;>simp[behindInMarks,e1,e2]
theorem ZbS{op:CmpOp}{r:R2}(ho:OpR X (compareOp op) r)(ha:PE X a ta)(hb:PE X b tb)(hm:behindInMarks op b=false):PE X (.Compare a [op] [b] pos) (tOp r ta tb):=by
 intro pins s σ H Q I h
 exact wpAny_Compare1 (Zij ha hb I h fun v u s2 x y H2 I2 rx ry q=>ho pins s2 σ H2 x y v u Q I2 rx ry q) hm
def Zjj(t:TE):TT:=fun σ H Q=>t σ H fun x H'=>∃k,x=.bl k∧Q k H'
theorem Zn{op:CmpOp}{r:R2}(ho:OpR X (compareOp op) r)(ha:PE X a ta)(hb:PE X b tb)(hm:behindInMarks op b=false):PT X (.Compare a [op] [b] pos) (Zjj (tOp r ta tb)):=by
 intro pins s σ H Q I h
 refine wpAny_isTrue_Compare1 (thn (ha pins s σ H _ I h) fun v s1 ⟨x,H1,I1,r1,q1⟩=>thn (hb pins s1 σ H1 _ I1 q1) fun u s2 ⟨y,H2,I2,r2,q2⟩=>
  thn (ho pins s2 σ H2 x y v u _ I2 r1 r2 q2) fun c s3 ⟨z,H3,I3,r3,k,e,q3⟩=>?_) hm
 subst e
 cases r3
 exact wpAny_truthy_bool ⟨H3,I3,q3⟩
theorem ZcK:(sizeLine:Nat)<2 ^ 63:=by rw[sizeLine_eq];decide
theorem ZeA:OpR X (binaryOp .Add) (fun x y H Q=>∃i j,x=.str i∧y=.str j∧i.length+j.length≤sizeLine∧Q (.str (i++j)) H):=by
 intro pins s σ H x y v u Q I rx ry h
 obtain⟨i,j,rfl,rfl,hz,q⟩:=h
 obtain⟨t,rfl⟩:=rx
 obtain⟨t',rfl⟩:=ry
 exact add_str (fun t' tk=>⟨.str (i++j),H,I.tok _,⟨_,rfl⟩,q⟩) hz
theorem ZaK{x:V}{us:List Value}(r:Zl [x] us):∃u,us=[u]∧Zv x u:=by
 cases r with
 | cons r1 r2=>cases r2;exact⟨_,rfl,r1⟩
theorem ZiU{x y:V}{us:List Value}(r:Zl [x,y] us):∃u w',us=[u,w']∧Zv x u∧Zv y w':=by
 cases r with
 | cons r1 r2 =>
  cases r2 with
  | cons r3 r4=>cases r4;exact⟨_,_,rfl,r1,r3⟩
theorem ZdV:ZX X (.builtin "abs") (fun xs H Q=>∃i,xs=[.int i]∧Q (.int (if i<0 then -i else i)) H):=by
 intro pins s σ H xs us Q I r h
 obtain⟨i,rfl,q⟩:=h
 obtain⟨u,rfl,t,rfl⟩:=ZaK r
 exact call_abs_int fun u tk=>⟨.int (if i<0 then -i else i),H,I.tok _,⟨_,rfl⟩,q⟩
theorem Zdb(hc:X.calm=true):ZX X (.builtin "min") (fun xs H Q=>∃i j,xs=[.int i,.int j]∧Q (.int (if j<i then j else i)) H):=by
 intro pins s σ H xs us Q I r h
 obtain⟨i,j,rfl,q⟩:=h
 obtain⟨u,w',rfl,⟨t,rfl⟩,⟨t',rfl⟩⟩:=ZiU r
 refine min_two_ints (I.ok.hd hc) fun h' tk k=>⟨_,H,I.kept k,?_,q⟩
 by_cases hj:j<i
 ·rw[if_pos hj,if_pos hj];exact⟨_,rfl⟩
 ·rw[if_neg hj,if_neg hj];exact⟨_,rfl⟩
theorem Zfv:ZX X (.type "int") (fun xs H Q=>(∃i,xs=[.int i]∧Q (.int i) H)∨∃k,xs=[.bl k]∧Q (.int (if k then 1 else 0)) H):=by
 intro pins s σ H xs us Q I r h
 rcases h with⟨i,rfl,q⟩|⟨k,rfl,q⟩
 ·obtain⟨u,rfl,t,rfl⟩:=ZaK r
  exact call_int_int ⟨.int i,H,I,⟨_,rfl⟩,q⟩
 ·obtain⟨u,rfl,r1⟩:=ZaK r
  cases r1
  exact call_int_bool ⟨.int (if k then 1 else 0),H,I.tok _,⟨_,rfl⟩,q⟩
end
structure ObjM (h:Heap) (x dx C:Addr) (mA:Str→Option Value):Prop where
 obj:h.get? x=some (PySem.W.instObj C dx)
 ns:h.Ns1 dx mA
 ne:dx≠x
section
variable {prog:Program} {w:World} {A:Around} {E:Value→Shared→Prop} {s:Shared} {K:PySem.W.Frag} {x dx C f:Addr} {mA:Str→Option Value} {name:Str} {v:Value}
end
section
variable {P:Program} {w:World} {H H':Hp} {h h':Heap} {a C dx:Addr} {fs fs':List (Str×V)}
end
structure Cls (K:PySem.W.Frag) (C:Addr):Prop where
 pg:PySem.W.plainGet K C Str.empty=true
 hd:PySem.W.hasDictIn K C=true
 po:PySem.W.plainOver K C=true
 sa:PySem.W.findIn K (.ref C) "__setattr__" = some (some (.builtin "object.__setattr__"))
structure Con (K:PySem.W.Frag) (C:Addr) (f:Str) (v:V) (u:Value):Prop where
 at_:PySem.W.findIn K (.ref C) f=some (some u)
 rel:Zv v u
 get:PySem.W.specialIn K u "__get__" = some none
 cp:PySem.W.copiedNames.contains f=false
structure Zjq (K:PySem.W.Frag) (C:Addr) (m:Str) (f:Addr):Prop where
 at_:PySem.W.findIn K (.ref C) m=some (some (.ref f))
 fn:PySem.W.isFn K (.ref f)=true
 kp:PySem.W.keepIn K (.ref f)=true
section
variable {X:Cx} {pins:List (Addr×Obj)} {σ:St} {H:Hp} {s:Shared} {a C dx:Addr} {fs:List (Str×V)} {f:Str} {v:V} {A:Around} {E:Value→Shared→Prop}
end
section
variable {X:Cx} {o e value:Expr} {f:Str} {pos pos' tpos:Pos} {ta tv:TE}
end
section
variable {X:Cx} {pins:List (Addr×Obj)} {σ:St} {H:Hp} {s:Shared} {A:Around} {E:Value→Shared→Prop} {Q:Value→Shared→Prop} {c:Value} {b:Bool}
inductive Zcx (K:PySem.W.Frag) (H:Hp):V→Value→Prop where
 | non:Zcx K H .non (.type "NoneType")
 | bl (x:Bool):Zcx K H (.bl x) (.type "bool")
 | int (i:Int):Zcx K H (.int i) (.type "int")
 | str (x:Str):Zcx K H (.str x) (.type "str")
 | flt (x:UInt64):Zcx K H (.flt x) (.type "float")
 | lst {a:Addr} {xs:List V} (e:H a=some (.lst xs)):Zcx K H (.ref a) (.type "list")
 | frz {a:Addr} {o:Obj} {xs:List V} (e:H a=some (.frz o (.lst xs))):Zcx K H (.ref a) (.type "list")
 | tup {a:Addr} {xs:List V} (e:H a=some (.tup xs)):Zcx K H (.ref a) (.type "tuple")
 | dK {a:Addr} {kvs:List (Key×V)} (e:H a=some (.dK kvs)):Zcx K H (.ref a) (.type "dict")
 | dT {a:Addr} {kvs:List (List Key×V)} (e:H a=some (.dT kvs)):Zcx K H (.ref a) (.type "dict")
 | ins {a C dx:Addr} {fs:List (Str×V)} (e:H a=some (.ins C dx fs)) (cl:Cls K C) (ha:PySem.W.findIn K (.ref C) "__class__" = some (some (.builtin "object.__class__")))
   (hn:PySem.W.specialIn K (.builtin "object.__class__") "__get__" = some (some (.builtin "getset_descriptor.__get__"))) (htk:PySem.W.takesIn K (.builtin "object.__class__")=some true)
   (hm:PySem.W.mroIn K C (.type "object")=some true):Zcx K H (.ref a) (.ref C)
end
structure ZaE (k:Nat) (A:Around):Prop where
 hd:A.handled=none
 dp:A.depth+3*k+5<recursionLimit
 un:A.units+16*k+200<cLine
 gd:A.guards=some []
theorem ZaE.mono{j k:Nat}{A:Around}(r:ZaE k A)(h:j≤k):ZaE j A:=⟨r.hd,by have:=r.dp;omega,by have:=r.un;omega,r.gd⟩
theorem ZaE.deeper{k:Nat}{A:Around}(r:ZaE (k+1) A)(env:Env):ZaE k (A.deeper env) :=
 ⟨r.hd,by have:=r.dp;show A.depth+1+3*k+5<_;omega,by have:=r.un;show A.units+3+16*k+200<_;omega,r.gd⟩
theorem ZaE.depth{k:Nat}{A:Around}(r:ZaE k A):A.depth<recursionLimit:=by have:=r.dp;omega
theorem ZaE.units{k:Nat}{A:Around}(r:ZaE k A):A.units+64<cLine:=by have:=r.un;omega
def ZjS:TA:=fun _ H Q=>Q [] H
def Zi5(ta:TE)(tr:TA):TA:=fun σ H Q=>ta σ H fun x H1=>tr σ H1 fun xs H2=>Q (x::xs) H2
section
variable {X:Cx} {e:Expr} {es:List Expr} {te:TE} {t:TA} {pos:Pos}
theorem Zd:PA X [] ZjS:=fun _ _ _ _ H Q I h=>Calls.spliced_nil ⟨[],H,I,.nil,h⟩
theorem Za(ha:PE X e te)(hr:PA X es t)(hs:starEach (e::es) X.env=(false,eval e X.env)::starEach es X.env:=by rfl):PA X (e::es) (Zi5 te t):=by
 intro pos pins s σ H Q I h
 rw[hs]
 show wpAny _ _ (spliced ((false,eval e X.env)::backTo pos (starEach es X.env))) _ _ s
 refine Calls.spliced_cons (thn (ha pins s σ H _ I h) ?_)
 rintro u s1 ⟨x,H1,I1,r1,q1⟩
 exact thn (hr pos pins s1 σ H1 _ I1 q1) fun us s2 ⟨xs,H2,I2,r2,q2⟩=>⟨x::xs,H2,I2,.cons r1 r2,q2⟩
def ZjR(t:TA):TE:=fun σ H Q=>t σ H fun xs H1=>xs.length≤sizeLine∧∀p,H1 p=none→Q (.ref p) (upd H1 p (.tup xs))
def ZjA(t:TA):TE:=fun σ H Q=>t σ H fun xs H1=>xs.length≤sizeLine∧∀p,H1 p=none→Q (.ref p) (upd H1 p (.lst xs))
theorem ZeY{x1}(h:PA X es t):PE X (.Tuple es x1 pos) (ZjR t):=by
 intro pins s σ H Q I hq
 refine wpAny_Tuple_spliced (thn (h pos pins s σ H _ I hq) fun us s1 ⟨xs,H1,I1,r,z,q⟩=>⟨by rw[← r.length];exact z,?_⟩)
 have hf:H1 s1.heap.objs.size=none:=I1.hok.fresh (Qj _)
 refine⟨.ref s1.heap.objs.size,upd H1 s1.heap.objs.size (.tup xs),I1.laid (t':=s1.toks) (fun b u e=>Qb _ e) (Qj _) ?_,rfl,q _ hf⟩
 exact⟨z,us,r,⟨_,Qq _ rfl,rfl,_,rfl⟩⟩
theorem Z4(h:PA X es t):PE X (.List es pos) (ZjA t):=by
 intro pins s σ H Q I hq
 refine wpAny_List_spliced (thn (h pos pins s σ H _ I hq) fun us s1 ⟨xs,H1,I1,r,z,q⟩=>⟨by rw[← r.length];exact z,?_⟩)
 have hf:H1 s1.heap.objs.size=none:=I1.hok.fresh (Qj _)
 refine⟨.ref s1.heap.objs.size,upd H1 s1.heap.objs.size (.lst xs),I1.laid (t':=s1.toks) (fun b u e=>Qb _ e) (Qj _) ?_,rfl,q _ hf⟩
 exact⟨z,us,0,r,Qq _ rfl⟩
end
abbrev Sp:=List V→Hp→VK→XK→Prop
abbrev CXT:=List Env→Hp→Shared→XK→Value→Shared→Prop
structure Zhw (P:Program) (w:World) (K:PySem.W.Frag) (mg:Str→Option Value) (base:Heap) (A:Around) (outer:List Env) (s:Shared) (H:Hp):Prop where
 frames:A.frames=some outer
 mod:Mod K mg base
 bs:∀b o,base.get? b=some o→s.heap.get? b=some o∧H b=none
 bsz:base.objs.size≤s.heap.objs.size
 funs:s.heap.FunFrames base outer
 frf:∀b∈frs outer,H b=none
 hok:HOk P w H s.heap
 bare:AllBare s.gens
def CE(outer:List Env)(P:Program)(w:World)(H:Hp)(s:Shared)(Q:VK)(u:Value)(s':Shared):Prop :=
 ∃v H',s'.os=s.os∧AllBare s'.gens∧Un (frs outer) [] H H' s.heap s'.heap∧HOk P w H' s'.heap∧Zv v u∧Q v H'
def CR(CX:CXT)(outer:List Env)(P:Program)(w:World)(H:Hp)(s:Shared)(Q:VK)(E:XK)(r:Result)(s':Shared):Prop :=
 match r with
 | .ok (.ret u)=>CE outer P w H s Q u s'
 | .ok _=>False
 | .error e=>CX outer H s E e s'
structure Zcf (P:Program) (w:World) (K:PySem.W.Frag) (mg:Str→Option Value) (base:Heap) (CX:CXT) (k:Nat) (f:Addr) (fd:FuncData) (ps:List Str) (sp:Sp):Prop where
 len:∀vs H Q E,sp vs H Q E→vs.length=ps.length
 run:∀ (A:Around) (outer:List Env) (s:Shared) (H:Hp) (args:Args) (us:List Value) (vs:List V) (Q:VK) (E:XK),ZaE k A→Zhw P w K mg base A outer s H→BindsTo s fd args (ps.zip us)→Zl vs us→sp vs H Q E →
  codeAny (model P w) A (.call (.ref f) args) (CR CX outer P w H s Q E) s
section
variable {X:Cx} {pins:List (Addr×Obj)} {σ:St} {H:Hp} {s s':Shared}
theorem Inv.env0(I:Inv X pins σ H s):Zhw X.prog X.w X.K X.mg X.base X.A X.stack s H :=
 ⟨I.ok.frames,I.ok.mod,I.bs,Q9 I.ok.bsz I.sz,I.stack,I.stkFree,I.hok,I.bare⟩
theorem Inv.after{Q:VK}{u:Value}(I:Inv X pins σ H s)(h:CE X.stack X.prog X.w H s Q u s'):EP X pins σ Q u s':=by
 obtain⟨v,H',os,bare,un,hok,r,q⟩:=h
 obtain⟨hh,g,d,t,os'⟩:=s'
 obtain rfl:os'=s.os:=os
 exact⟨v,H',I.call (h':=hh) (g':=g) (d':=d) (t':=t) (ch:=[]) un hok bare (fun b z=>absurd z (by simp)),r,q⟩
end
def Zh6(sp:Sp)(dvs:List V)(E:XK)(t:TA):TE:=fun σ H Q=>t σ H fun vs H1=>sp (vs++dvs) H1 Q E
def Zbe(K:PySem.W.Frag)(fd:FuncData)(ps:List Str)(ds:List Value):Prop :=
 ∀ (s:Shared) (us:List Value),K.In s.heap→(us++ds).length=ps.length→BindsTo s fd ⟨us,[]⟩ (ps.zip (us++ds))
theorem Zbe.all{K:PySem.W.Frag}{fd:FuncData}{ps:List Str}(h:∀us:List Value,us.length=ps.length→bindArgs fd ⟨us,[]⟩=pure (ps.zip us)):Zbe K fd ps []:=fun s us _ hl=>by
 rw[Q3]at hl ⊢
 exact .of_eq (h us hl)
def ZeT(CX:CXT)(X:Cx)(E:XK):Prop:=∀ (pins:List (Addr×Obj)) (σ:St) (H:Hp) (s:Shared) (e:Value) (s':Shared),Inv X pins σ H s→CX X.stack H s E e s'→X.xe e s'
section
variable {X:Cx} {CX:CXT} {k:Nat} {f C:Addr} {fd:FuncData} {ps:List Str} {sp:Sp} {dvs:List V} {ds:List Value} {E:XK} {x m:Str} {p pos apos:Pos} {e o:Expr} {es:List Expr} {ta:TE} {t:TA}
theorem ZiA{pins:List (Addr×Obj)}{σ:St}{H:Hp}{s:Shared}{Q:VK}{us:List Value}{vs:List V}(F:Zcf X.prog X.w X.K X.mg X.base CX k f fd ps sp)(hr:ZaE k X.A)(hb:Zbe X.K fd ps ds)(hd:Zl dvs ds)(hx:ZeT CX X E)
  (I:Inv X pins σ H s) (r:Zl vs us) (h:sp (vs++dvs) H Q E):wpAny (model X.prog X.w) X.A (call (.ref f) us) (EP X pins σ Q) X.xe s:=by
 have r2:Zl (vs++dvs) (us++ds):=r.append hd
 have hl:(us++ds).length=ps.length:=by rw[← r2.length];exact F.len _ _ _ _ h
 refine wpAny_call (codeAny_mono (F.run X.A X.stack s H ⟨us,[]⟩ (us++ds) (vs++dvs) Q E hr I.env0 (hb s us I.kIn hl) r2 h) fun r s' hq=>?_)
 cases r with
 | error e=>exact hx pins σ H s e s' I hq
 | ok fl =>
  cases fl with
  | ret u=>exact I.after hq
  | next=>exact False.elim hq
  | brk=>exact False.elim hq
  | cont=>exact False.elim hq
theorem Zhb(F:Zcf X.prog X.w X.K X.mg X.base CX k f fd ps sp)(hr:ZaE k X.A)(hg:Gl X x)(hm:X.mg x=some (.ref f))(hk:PySem.W.keepIn X.K (.ref f)=true)(hb:Zbe X.K fd ps ds)(hd:Zl dvs ds)(hx:ZeT CX X E)
  (ha:PA X (e::es) t) (hdb:(x == ("__debug__" : Str))=false:=by decide) (he:starEach (e::es) X.env=(false,eval e X.env)::starEach es X.env:=by rfl) (hpl:(backTo pos (starEach es X.env)).any (·.1)=false:=by rfl) :
  PE X (.Call (.Name x p) (e::es) [] pos) (Zh6 sp dvs E t):=by
 intro pins s σ H Q I h
 refine wpAny_Call_Name_kw (ZhB I hg hm ?_ hdb)
 refine PySem.W.callWith_K (h₀:=X.base) I.ok.mod.kin hk (thn (ha pos pins s σ H _ I h) fun us s1 ⟨vs,H1,I1,r,q⟩=>⟨I1.kIn,?_⟩) he hpl
 exact ZiA F hr hb hd hx I1 r q
structure Mk (K:PySem.W.Frag) (C f:Addr):Prop where
 makes:PySem.W.makesIn K C=true
 init:PySem.W.findIn K (.ref C) "__init__" = some (some (.ref f))
 fn:PySem.W.isFn K (.ref f)=true
 kp:PySem.W.keepIn K (.ref C)=true
end
section
variable {X:Cx} {CX:CXT} {k:Nat} {f C:Addr} {fd:FuncData} {ps ks:List Str} {sp:Sp} {E:XK} {x m:Str} {p pos apos kpos:Pos} {e o:Expr} {es:List Expr} {kws:List Keyword} {te ta:TE} {t tk:TA} {nm:Option Str}
structure KBinds (K:PySem.W.Frag) (fd:FuncData) (ps ks:List Str) (g:List Value→List Value→List Value) (gV:List V→List V→List V):Prop where
 to:∀ (s:Shared) (us ws:List Value),K.In s.heap→(g us ws).length=ps.length→BindsTo s fd ⟨us,ks.zip ws⟩ (ps.zip (g us ws))
 rel:∀ {vs:List V} {us:List Value} {zs:List V} {ws:List Value},Zl vs us→Zl zs ws→Zl (gV vs zs) (g us ws)
variable {g:List Value→List Value→List Value} {gV:List V→List V→List V}
end
structure Zy (N P:List Str) (sc:Scope):Prop where
 kind:sc.kind=.function
 co:sc.isCoroutine=false
 gen:sc.isGenerator=false
 nd:N.Nodup
 pre:N.take P.length=P
 par:∀x∈P,sc.names.lookup x=some .local∨sc.names.lookup x=some .cell
 nofree:∀y∈sc.names,y.2≠.free
theorem Zc5{kindOf:Str→Option NameKind}{x:Str}:∀ {binds:List (Str×Value)} {m:Str→Option Value},(∀v,(x,v) ∉ binds)→bindL kindOf binds m x=m x
 | [],_,_=>rfl
 | (n,v)::r,m,h=>by
  unfold bindL
  rw[Zc5 fun w hw=>h w (Ql _ hw)]
  split
  ·have:x≠n:=by rintro rfl;exact h v Qv
   simp[this]
  ·rfl
theorem Zdr{kindOf:Str→Option NameKind}{x:Str}:∀ {binds:List (Str×Value)} {m:Str→Option Value},(∀v,(x,v) ∉ binds)→bindC kindOf binds m x=m x
 | [],_,_=>rfl
 | (n,v)::r,m,h=>by
  unfold bindC
  rw[Zdr fun w hw=>h w (Ql _ hw)]
  split
  ·rfl
  ·have:x≠n:=by rintro rfl;exact h v Qv
   simp[this]
theorem Zdl{kindOf:Str→Option NameKind}{x:Str}{v:Value}:∀ {P:List Str} {vs:List Value} {i:Nat} {m:Str→Option Value},P.Nodup→P[i]? = some x→vs[i]? = some v→kindOf x=some .local →
  bindL kindOf (P.zip vs) m x=some v
 | [],_,_,_,_,h,_,_=>by simp at h
 | _::_,[],_,_,_,_,h,_=>by simp at h
 | p::P,w::vs,0,m,nd,h1,h2,hk=>by
  simp at h1 h2;subst h1;subst h2
  show bindL kindOf ((p,w)::P.zip vs) m p=_
  unfold bindL
  rw[Zc5 fun v hv=>(QaO.mp nd).1 (List.of_mem_zip hv).1,if_pos hk]
  simp
 | p::P,w::vs,i+1,m,nd,h1,h2,hk=>by
  show bindL kindOf ((p,w)::P.zip vs) m x=_
  unfold bindL
  exact Zdl (i:=i) (QaO.mp nd).2 (by simpa using h1) (by simpa using h2) hk
theorem Zc4{kindOf:Str→Option NameKind}{x:Str}{v:Value}:∀ {P:List Str} {vs:List Value} {i:Nat} {m:Str→Option Value},P.Nodup→P[i]? = some x→vs[i]? = some v→kindOf x≠some .local →
  bindC kindOf (P.zip vs) m x=some v
 | [],_,_,_,_,h,_,_=>by simp at h
 | _::_,[],_,_,_,_,h,_=>by simp at h
 | p::P,w::vs,0,m,nd,h1,h2,hk=>by
  simp at h1 h2;subst h1;subst h2
  show bindC kindOf ((p,w)::P.zip vs) m p=_
  unfold bindC
  rw[Zdr fun v hv=>(QaO.mp nd).1 (List.of_mem_zip hv).1,if_neg hk]
  simp
 | p::P,w::vs,i+1,m,nd,h1,h2,hk=>by
  show bindC kindOf ((p,w)::P.zip vs) m x=_
  unfold bindC
  exact Zc4 (i:=i) (QaO.mp nd).2 (by simpa using h1) (by simpa using h2) hk
def ZbQ(N:List Str)(vs:List V):St:=vs.map some++List.replicate (N.length-vs.length) none
def ZeX(CX:CXT)(P:Program)(w:World)(K:PySem.W.Frag)(mg:Str→Option Value)(base:Heap)(N:List Str)(qual:Str)(scope:Scope)(f:Addr)(cd:Value)(A:Around)(outer:List Env)(s:Shared)(H:Hp)(E:XK):Cx where
 prog:=P
 w:=w
 K:=K
 mg:=mg
 base:=base
 A:=A.deeper (envOfC qual scope s.heap.objs.size f cd)
 N:=N
 s₀:=s
 H₀:=H
 env:=envOfC qual scope s.heap.objs.size f cd
 outer:=outer
 stack:=envOfC qual scope s.heap.objs.size f cd::outer
 ex:=[]
 calm:=true
 fn:=fun _=>true
 pn:=[]
 xe:=fun e s'=>wpAny (model P w) (A.deeper (envOfC qual scope s.heap.objs.size f cd)) (leaving (envOfC qual scope s.heap.objs.size f cd) e) (fun _ s''=>CX outer H s E e s'') (fun e' s''=>CX outer H s E e' s'') s'
theorem Zd9{sc:Scope}{n:Nat}{x:Str}(h:sc.names.lookup x=some .cell):∃c,(cellsFrom n sc.names []).lookup x=some c:=by
 have q:=PySem.W.cellsFrom_some sc.names n [] (.inl h)
 exact Option.isSome_iff_exists.mp q
theorem ZfA{CX:CXT}{P:Program}{w:World}{K:PySem.W.Frag}{mg:Str→Option Value}{base:Heap}{N ps:List Str}{qual:Str}{scope:Scope}{f:Addr}{cd:Value}{A:Around}{outer:List Env}{s s1:Shared}{H:Hp}{E:XK}{us:List Value}{vs:List V}
  (S:Zy N ps scope) (hd:A.handled=none) (e0:Zhw P w K mg base A outer s H) (hl:vs.length=ps.length) (r:Zl vs us)
  (x:InCallC s s.heap.objs.size (bindL (envOfC qual scope s.heap.objs.size f cd).kindOf (ps.zip us) fun _=>none) (cellsFrom (s.heap.objs.size+1) scope.names []) (bindC (envOfC qual scope s.heap.objs.size f cd).kindOf (ps.zip us) fun _=>none) s1) :
  Inv (ZeX CX P w K mg base N qual scope f cd A outer s H E) [] (ZbQ N vs) H s1:=by
 have hpl:ps.length≤N.length:=by have:=congrArg List.length S.pre;rw[QA]at this;omega
 obtain⟨h1,tk,rfl,hk⟩:=x.done
 have noA:∀b:Addr,b ∉ (ZeX CX P w K mg base N qual scope f cd A outer s H E).ex:=fun b z=>absurd (show b∈([]:List Addr) from z) (by simp)
 refine⟨⟨e0.mod,S.kind,rfl,rfl,Qj _,fun y z c h1 h2=>?_,fun y hy=>?_,fun y c _ h=>?_,fun _=>hd,Around.frames_deeper e0.frames,.inr ⟨rfl,rfl⟩,fun b z=>absurd z (noA b),e0.bs,e0.bsz,fun b _ _=>noA b,fun b z=>absurd z (noA b),e0.funs,e0.frf⟩,
  rfl,e0.bare,Un.kept hk,⟨_,x.toInCall.ns,fun i y v h1 h2 h3=>?_⟩,fun y c h=>⟨_,x.cell y c h⟩,e0.hok.fresh (Qj _),fun y c h=>?_,fun p hp=>absurd (show p∈([]:List (Addr×Obj)) from hp) (by simp),e0.hok.kept hk,?_⟩
 ·exact name_of_addr x.apart (Qai h1) (Qai h2)
 ·have hy:scope.names.lookup y=some .cell∨scope.names.lookup y=some .free:=hy
  rcases hy with hy|hy
  ·exact Zd9 hy
  ·exact absurd rfl (S.nofree _ (Qai hy))
 ·exact QaF (x.above y c (Qai h))
 ·have hi:i<vs.length:=by
   unfold ZbQ at h2
   by_cases hi:i<vs.length
   ·exact hi
   ·rw[QL (by simpa using hi)]at h2
    rw[List.getElem?_replicate]at h2
    split at h2<;>cases h2
  have ha:vs[i]? = some v:=by
   unfold ZbQ at h2
   rw[Qad (by simpa using hi),Qn]at h2
   cases e:vs[i]? with
   | none=>rw[e]at h2;cases h2
   | some a=>rw[e]at h2;cases h2;rfl
  obtain⟨u,hu,rv⟩:=r.get ha
  have hp:ps[i]? = some y:=by
   rw[← S.pre,List.getElem?_take_of_lt (by omega)];exact h1
  have ndP:ps.Nodup:=by rw[← S.pre];exact S.nd.sublist (List.take_sublist _ _)
  refine⟨u,rv,?_⟩
  rcases S.par y (QG hp) with k|k
  ·exact .inl ⟨k,Zdl ndP hp hu k⟩
  ·obtain⟨c,e⟩:=Zd9 (n:=s.heap.objs.size+1) k
   refine .inr ⟨.inl k,c,e,?_⟩
   have q:=x.cell y c e
   rw[Zc4 ndP hp hu (by show scope.names.lookup y≠_;rw[k];decide)]at q
   exact q
 ·exact e0.hok.fresh (QaF (x.above y c (Qai h)))
 ·unfold ZbQ
  show _=N.length
  rw[Qc,Qa,Qaw]
  omega
theorem Zjr{CX:CXT}{P:Program}{w:World}{K:PySem.W.Frag}{mg:Str→Option Value}{base:Heap}{k:Nat}{f:Addr}{name qual:Str}{params:Arguments}{body:List Stmt}{scope:Scope}{dV kV doc pm cdv ct oc:Value}{an od:Option Addr}
  {osl:Array (Option Value)} {N ps:List Str} {sp:Sp} (lk:K.lookup f=some ⟨oc,od,.func (PySem.W.fnOf name qual params body scope dV kV doc pm an cdv ct),osl⟩) (hcd:PySem.W.codeIn K cdv qual=true) (S:Zy N ps scope)
  (len:∀vs H Q E,sp vs H Q E→vs.length=ps.length)
  (hbody:∀ (A:Around) (outer:List Env) (s:Shared) (H:Hp) (vs:List V) (Q:VK) (E:XK),ZaE k (A.deeper (envOfC qual scope s.heap.objs.size f cdv))→sp vs H Q E →
   ∃t,PSs (ZeX CX P w K mg base N qual scope f cdv A outer s H E) body t∧t { nx:=fun _ H'=>Q .non H',rt:=Q } (ZbQ N vs) H) :
  Zcf P w K mg base CX (k+1) f (PySem.W.fnOf name qual params body scope dV kV doc pm an cdv ct) ps sp:=by
 refine⟨len,fun A outer s H args us vs Q E hr e0 hb r hsp=>?_⟩
 have hl:=len _ _ _ _ hsp
 have KX:K.In s.heap:=e0.mod.kin.keeps fun b o e=>(e0.bs b o e).1
 have lim:s.heap.NoLimit:=e0.mod.nolimit.keeps fun b o e=>(e0.bs b o e).1
 have hkind:∀y∈ps.zip us,scope.names.lookup y.1=some .local∨(scope.names.lookup y.1=some .cell∧((cellsFrom (s.heap.objs.size+1) scope.names []).lookup y.1).isSome=true):=fun ⟨n,v⟩ hy=>by
  rcases S.par n (List.of_mem_zip hy).1 with q|q
  ·exact .inl q
  ·exact .inr ⟨q,PySem.W.cellsFrom_some _ _ _ (.inl q)⟩
 refine codeAny_call_function hr.depth (KX _ _ lk) rfl S.co S.gen rfl (PySem.W.codeRec_of KX hcd) (hb _ _ _ _ ?_)
 refine wpAny_newFunctionEnv_cells S.kind hkind fun env he s1 x=>?_
 subst he
 refine⟨lim.keeps x.toInCall.keep,codeAny_func ?_⟩
 obtain⟨t,ht,hq⟩:=hbody A outer s H vs Q E (hr.deeper _) hsp
 have I:Inv (ZeX CX P w K mg base N qual scope f cdv A outer s H E) [] (ZbQ N vs) H s1:=ZfA S hr.hd e0 hl r x
 refine wpAny_mono (ht [] s1 (ZbQ N vs) H _ I hq) (fun fl s' hs=>?_) fun e s' hs=>hs
 have fin:∀ {σ':St} {H':Hp} {v:V} {u:Value},Inv (ZeX CX P w K mg base N qual scope f cdv A outer s H E) [] σ' H' s'→Zv v u→Q v H'→CE outer P w H s Q u s' :=
  fun {σ' H' v u} J rv q=>⟨v,H',J.os,J.bare,J.base,J.hok,rv,q⟩
 cases fl with
 | ret u =>
  obtain⟨v,σ',H',J,rv,q⟩:=hs
  exact fin J rv q
 | next =>
  obtain⟨σ',H',J,q⟩:=hs
  exact fin (v:=V.non) (u:=Value.none) J rfl q
 | brk =>
  obtain⟨_,_,_,q⟩:=hs
  exact False.elim q
 | cont =>
  obtain⟨_,_,_,q⟩:=hs
  exact False.elim q
section
variable {X:Cx} {x:Str} {p pos:Pos} {e:Expr} {es:List Expr} {t:TA} {id T:String} {r:List V→Hp→VK→Prop}
def tCB(r:List V→Hp→VK→Prop)(t:TA):TE:=fun σ H Q=>t σ H fun vs H1=>r vs H1 Q
theorem Zj(hc:ZX X (.builtin id) r)(hg:Gl X x)(hm:X.mg x=none)(hv:bootBuiltins x=some (.builtin id))(ha:PA X (e::es) t)(hn:x ≠ "__name__":=by decide)(hdb:(x == ("__debug__" : Str))=false:=by decide)
  (he:starEach (e::es) X.env=(false,eval e X.env)::starEach es X.env:=by rfl) (hpl:(backTo pos (starEach es X.env)).any (·.1)=false:=by rfl):PE X (.Call (.Name x p) (e::es) [] pos) (tCB r t):=by
 intro pins s σ H Q I h
 refine wpAny_Call_Name_kw (Zb4 I hg hm hv ?_ hn hdb)
 exact PyProof.Rows.callWith_builtin1 (thn (ha pos pins s σ H _ I h) fun us s1 ⟨vs,H1,I1,r1,q1⟩=>hc pins s1 σ H1 vs us Q I1 r1 q1) he hpl
theorem ZaU(hc:ZX X (.type T) r)(hg:Gl X x)(hm:X.mg x=none)(hv:bootBuiltins x=some (.type T))(ha:PA X (e::es) t)(hn:x ≠ "__name__":=by decide)(hdb:(x == ("__debug__" : Str))=false:=by decide)
  (he:starEach (e::es) X.env=(false,eval e X.env)::starEach es X.env:=by rfl) (hpl:(backTo pos (starEach es X.env)).any (·.1)=false:=by rfl):PE X (.Call (.Name x p) (e::es) [] pos) (tCB r t):=by
 intro pins s σ H Q I h
 refine wpAny_Call_Name_kw (Zb4 I hg hm hv ?_ hn hdb)
 exact Qak (thn (ha pos pins s σ H _ I h) fun us s1 ⟨vs,H1,I1,r1,q1⟩=>hc pins s1 σ H1 vs us Q I1 r1 q1) he hpl
end
end L2
namespace HT
open PySem PyProof.Rows
section
open PySem.SeqAt
open PySem.AutoSeq1 (wpAny_loadPart')
open PySem.MeetsSeq PySem.MeetsSeq2 PySem.MeetsSeq3
end
section
variable {prog:Program} {w:World} {A:Around} {E:Value→Shared→Prop} {s:Shared}
def sIx(n d:Nat):Option Int→Nat
 | none=>d
 | some v=>if v<0 then (v+(n:Int)).toNat else min v.toNat n
theorem sIx_nat(n d k:Nat):sIx n d (some (k:Int))=min k n:=by
 show (if (k:Int)<0 then ((k:Int)+(n:Int)).toNat else min (k:Int).toNat n)=min k n
 rw[if_neg (by omega),Q0]
end
end HT
namespace L2
open PySem PySem.Spec PyProof.Rows
abbrev TO:=St→Hp→(Option Int→Hp→Prop)→Prop
def PO(X:Cx)(e:Option Expr)(t:TO):Prop :=
 ∀ (pins:List (Addr×Obj)) (s:Shared) (σ:St) (H:Hp) (Q:Option Int→Hp→Prop),Inv X pins σ H s→t σ H Q →
  wpAny (model X.prog X.w) X.A (evalPart e X.env) (fun u s'=>∃o H',Inv X pins σ H' s'∧IsPart u o∧Q o H') X.xe s
def ZhG:TO:=fun _ H Q=>Q none H
def Zi6(t:TE):TO:=fun σ H Q=>t σ H fun x H1=>∃i,x=.int i∧Q (some i) H1
theorem ZbE{ns:List Int}:∀ {us:List Value},Zl (ns.map V.int) us→IntsAre us ns:=by
 induction ns with
 | nil=>intro us r;rw[Qar]at r;cases r;exact .nil
 | cons n ns ih =>
  intro us r
  rw[Qw]at r
  cases r with
  | cons r1 r2 =>
   obtain⟨t,e⟩:=r1
   subst e
   exact .cons n t (ih r2)
section
variable {X:Cx} {e:Expr} {te:TE} {lo hi:Option Expr} {tl th:TO} {pos p2:Pos}
theorem Zax:PO X none ZhG:=by
 intro pins s σ H Q I h
 rw[evalPart_none]
 exact wpAny_pure ⟨none,H,I,.none,h⟩
theorem Za8(h:PE X e te):PO X (some e) (Zi6 te):=by
 intro pins s σ H Q I hw
 rw[evalPart_some]
 refine thn (h pins s σ H _ I hw) ?_
 rintro u s1 ⟨x,H1,I1,r1,q1⟩
 obtain⟨i,rfl,q⟩:=q1
 obtain⟨t,rfl⟩:=r1
 exact⟨some i,H1,I1,.int i t,q⟩
def SlR(X:Cx)(r:V→Option Int→Option Int→Hp→VK→Prop):Prop :=
 ∀ (pins:List (Addr×Obj)) (s:Shared) (σ:St) (H:Hp) (x:V) (v vl vu:Value) (lo hi:Option Int) (sl:Addr) (Q:VK),Inv X pins σ H s→Zv x v→s.heap.IsSliceOf sl vl vu .none→IsPart vl lo→IsPart vu hi→r x lo hi H Q →
  ∃T id,typeLookup (.type T) "__getitem__" = pure (some (.builtin id))∧s.TypeIs v T∧wpAny (model X.prog X.w) X.A (getItem v (.ref sl)) (EP X pins σ Q) X.xe s
def tSl(r:V→Option Int→Option Int→Hp→VK→Prop)(te:TE)(tl th:TO):TE:=fun σ H Q=>te σ H fun x H1=>tl σ H1 fun l H2=>th σ H2 fun u H3=>r x l u H3 Q
theorem Zbf{r:V→Option Int→Option Int→Hp→VK→Prop}(hr:SlR X r)(he:PE X e te)(hl:PO X lo tl)(hu:PO X hi th):PE X (.Subscript e (.Slice lo hi none p2) pos) (tSl r te tl th):=by
 intro pins s σ H Q I h
 refine Subscript_ (thn (he pins s σ H _ I h) ?_)
 rintro v s1 ⟨x,H1,I1,r1,q1⟩
 refine wpAny_Slice (thn (hl pins s1 σ H1 _ I1 q1) fun vl s2 ⟨l,H2,I2,pl,q2⟩=>thn (hu pins s2 σ H2 _ I2 q2) ?_)
 rintro vu s3 ⟨u,H3,I3,pu,q3⟩
 rw[evalPart_none]
 refine wpAny_pure ?_
 have I4:Inv X pins σ H3 { s3 with heap:=s3.heap.push { cls:=.type "slice",data:=.fields #[vl,vu,.none] } }:=I3.kept (t':=s3.toks) fun b ob q=>Qb _ q
 obtain⟨T,id,hT,ht,hg⟩:=hr pins { s3 with heap:=s3.heap.push { cls:=.type "slice",data:=.fields #[vl,vu,.none] } } σ H3 x v vl vu l u s3.heap.objs.size Q I4 r1 (Heap.IsSliceOf.new ..) pl pu q3
 show wpAny (model X.prog X.w) X.A (subscriptTail e (.Slice lo hi none p2) v (.ref s3.heap.objs.size)) (EP X pins σ Q) X.xe { s3 with heap:=s3.heap.push { cls:=.type "slice",data:=.fields #[vl,vu,.none] } }
 exact tail_any (ops:=[.ref s3.heap.objs.size,v]) ht hT hg (by with_unfolding_all rfl)
def Zcc(xs:List V)(lo hi:Option Int):List V:=(xs.drop (HT.sIx xs.length 0 lo)).take (HT.sIx xs.length xs.length hi-HT.sIx xs.length 0 lo)
theorem Zef(xs:List V)(lo hi:Option Int):(Zcc xs lo hi).length≤xs.length:=by
 unfold Zcc
 rw[QA,QO]
 omega
end
def ixN(n:Nat)(i:Int):Option Nat:=if 0≤i then (if i<n then some i.toNat else none) else if -(n:Int)≤i then some (i+n).toNat else none
def atI{α:Type}(xs:List α)(i:Int):Option α:=(ixN xs.length i).bind fun j=>xs[j]?
theorem Ze5{n:Nat}{i:Int}{j:Nat}(h:ixN n i=some j):seqIndex? i n=some j∧j<n ∧ -(n:Int)≤i∧i<n:=by
 unfold ixN at h
 by_cases h0:0≤i
 ·rw[if_pos h0]at h
  by_cases h1:i<n
  ·rw[if_pos h1]at h
   have e:i.toNat=j:=QC h
   exact⟨by rw[seqIndex_of h0 h1,e],by omega,by omega,h1⟩
  ·rw[if_neg h1]at h;cases h
 ·rw[if_neg h0]at h
  by_cases h1:-(n:Int)≤i
  ·rw[if_pos h1]at h
   have e:(i+n).toNat=j:=QC h
   exact⟨by rw[seqIndex_neg (by omega) h1,e],by omega,h1,by omega⟩
  ·rw[if_neg h1]at h;cases h
theorem Zff{α:Type}{xs:List α}{i:Int}{v:α}(h:atI xs i=some v):∃j,seqIndex? i xs.length=some j∧xs[j]? = some v∧j<xs.length ∧ -(xs.length:Int)≤i∧i<xs.length:=by
 unfold atI at h
 cases e:ixN xs.length i with
 | none=>rw[e]at h;cases h
 | some j =>
  rw[e]at h
  obtain⟨h1,h2,h3,h4⟩:=Ze5 e
  exact⟨j,h1,h,h2,h3,h4⟩
theorem ZaH{α:Type}{xs:List α}{j:Nat}{v:α}(h:xs[j]? = some v):atI xs (j:Int)=some v:=by
 have hj:j<xs.length:=(Qp.mp h).1
 have e:ixN xs.length (j:Int)=some j:=by
  unfold ixN
  rw[if_pos (by omega),if_pos (by omega)];simp
 unfold atI;rw[e];exact h
def ZhR(b:Expr):Prop:=∀o i,subscripted b false o i=operate [o,i] (getItem o i)
def IxR(X:Cx)(r:R2):Prop :=
 ∀ (value slice:Expr) (pins:List (Addr×Obj)) (s:Shared) (σ:St) (H:Hp) (x y:V) (v u:Value) (Q:VK),Inv X pins σ H s→Zv x v→Zv y u→r x y H Q →
  subscripted slice false v u=operate [v,u] (getItem v u)→wpAny (model X.prog X.w) X.A (subscriptTail value slice v u) (EP X pins σ Q) X.xe s
def MtR(X:Cx)(id:String)(r:V→List V→Hp→VK→Prop):Prop :=
 ∀ (pins:List (Addr×Obj)) (s:Shared) (σ:St) (H:Hp) (x:V) (xs:List V) (v:Value) (us:List Value) (Q:VK),Inv X pins σ H s→Zv x v→Zl xs us→r x xs H Q →
  wpAny (model X.prog X.w) X.A (call (.builtin id) (v::us)) (EP X pins σ Q) X.xe s
section
variable {X:Cx} {a b:Expr} {ta tb:TE} {pos:Pos}
theorem ZZ{r:R2}(hr:IxR X r)(ha:PE X a ta)(hb:PE X b tb)(hs:ZhR b):PE X (.Subscript a b pos) (tOp r ta tb):=by
 intro pins s σ H Q I h
 exact Subscript_ (Zij ha hb I h fun v u s2 x y H2 I2 rx ry q=>hr a b pins s2 σ H2 x y v u Q I2 rx ry q (hs _ _))
def Zjd(K:PySem.W.Frag):R2:=fun x y H Q=>∃p xs i v,x=.ref p∧y=.int i∧SqL K H p xs∧atI xs i=some v∧Q v H
def ZjJ:R2:=fun x y H Q=>∃z i c,x=.str z∧y=.int i∧z.length≤sizeLine∧atI z.cps.toList i=some c∧Q (.str ⟨#[c]⟩) H
theorem Zhr:IxR X (Zjd X.K):=by
 intro value slice pins s σ H x y v u Q I rx ry h hs
 obtain⟨p,xs,i,z,rfl,rfl,hq,he,q⟩:=h
 cases rx
 obtain⟨t,rfl⟩:=ry
 obtain⟨its,r,pl,hz⟩:=I.list hq
 obtain⟨j,h1,h2,h3,h4,h5⟩:=Zff he
 obtain⟨w,ew,rw'⟩:=r.get h2
 have hl:=r.length
 have hn:=ZcK
 have fin:EP X pins σ Q w s:=⟨z,H,I,rw',q⟩
 by_cases h0:0≤i
 ·have hj:i.toNat=j:=by
   rw[seqIndex_of h0 h5]at h1
   exact QC h1
  exact item_listR pl.isList h0 (by omega) (by rw[hj];simpa using ew) fin hs
 ·have hj:(i+(its.toArray.size:Int)).toNat=j:=by
   rw[seqIndex_neg (by omega) h4]at h1
   rw[Qm,← hl]
   exact QC h1
  exact subscriptTail_builtinR (x:=w) pl.isList.typeIs slot_list_getitem.lookup
   (wpAny_getItem_list_neg (Q:=fun r s'=>r=w∧EP X pins σ Q r s') pl.isList (by omega) (by rw[Qm]<;>omega) (by omega) (by rw[hj];simpa using ew) ⟨rfl,fin⟩) hs
theorem Zcq:IxR X ZjJ:=by
 intro value slice pins s σ H x y v u Q I rx ry h hs
 obtain⟨z,i,c,rfl,rfl,hz,he,q⟩:=h
 obtain⟨t,rfl⟩:=rx
 obtain⟨t',rfl⟩:=ry
 obtain⟨j,h1,h2,h3,h4,h5⟩:=Zff he
 have hl:z.cps.toList.length=z.length:=by simp[Str.length]
 rw[hl]at h1 h4 h5
 have hn:=ZcK
 exact tail_any (typeIs_str s z t) slot_str_getitem.lookup (getItem_str (c:=c) (by
  have e1:decide (i < -(2 ^ 63:Int))=false:=decide_eq_false (by omega)
  have e2:decide (i≥2 ^ 63)=false:=decide_eq_false (by omega)
  rw[e1,e2,Bool.or_false]) (by rw[h1];simpa using h2) ⟨.str ⟨#[c]⟩,H,I.tok _,⟨_,rfl⟩,q⟩) hs
theorem ZeL(its:List Value)(n j:Nat)(u:Value):Obj.mapSeq (·.setIfInBounds j u) { cls:=.type "list",data:=.seq its.toArray n }={ cls:=.type "list",data:=.seq (its.set j u).toArray n }:=by
 simp[Obj.mapSeq]
theorem Inv.lst{pins:List (Addr×Obj)}{σ:St}{H:Hp}{s:Shared}{p:Addr}{xs:List V}(I:Inv X pins σ H s)(h:H p=some (.lst xs)) :
  ∃ (its:List Value) (n:Nat),Zl xs its∧s.heap.get? p=some { cls:=.type "list",data:=.seq its.toArray n }∧xs.length≤sizeLine:=by
 obtain⟨z,its,n,r,e⟩:=I.hok p _ h
 exact⟨its,n,r,e,z⟩
theorem Inv.lstUpd{pins:List (Addr×Obj)}{σ:St}{H:Hp}{s:Shared}{p:Addr}{xs ys:List V}{its its':List Value}{n n':Nat}{f:Obj→Obj}(I:Inv X pins σ H s)(h:H p=some (.lst xs))
  (ho:s.heap.get? p=some { cls:=.type "list",data:=.seq its.toArray n }) (hf:f { cls:=.type "list",data:=.seq its.toArray n }={ cls:=.type "list",data:=.seq its'.toArray n' }) (r:Zl ys its') (hz:ys.length≤sizeLine) (t:Nat) :
  Inv X pins σ (upd H p (.lst ys)) { s with heap:=s.heap.update p f,toks:=t }:=by
 have e:(s.heap.update p f).get? p=some { cls:=.type "list",data:=.seq its'.toArray n' }:=by
  rw[QY f ho (by rw[hf]<;>rfl),hf]
 refine I.write (x:=p) (e:=p) (by rw[h];trivial) (.inl rfl) (fun b u hb q=>(QW _ _ (Ne.symm hb)).trans q) ⟨_,e⟩ ?_
 exact⟨hz,its',n',r,e⟩
def ZiV:V→V→V→Hp→(Hp→Prop)→Prop:=fun o i v H Q=>∃p xs k j,o=.ref p∧i=.int k∧H p=some (.lst xs)∧ixN xs.length k=some j∧Q (upd H p (.lst (xs.set j v)))
theorem Zee:Zjl X ZiV:=by
 intro pins s σ H o i v ov iv u Q I ro ri rv h
 obtain⟨p,xs,k,j,rfl,rfl,hp,hj,q⟩:=h
 cases ro
 obtain⟨t,rfl⟩:=ri
 obtain⟨its,n,r,ho,hz⟩:=I.lst hp
 obtain⟨h1,h2,h3,h4⟩:=Ze5 hj
 have hl:=r.length
 have hn:=ZcK
 have I':Inv X pins σ (upd H p (.lst (xs.set j v))) { s with heap:=s.heap.update p (Obj.mapSeq (·.setIfInBounds j u)) } :=
  I.lstUpd hp ho (ZeL its n j u) (r.set rv j) (by rw[List.length_set];exact hz) s.toks
 by_cases h0:0≤k
 ·have hk:k.toNat=j:=by
   rw[seqIndex_of h0 h4]at h1
   exact QC h1
  exact PySem.W.ki_setAt ho h0 (by omega) (by rw[Qm,← hl];exact h4) (by rw[hk];exact⟨_,I',q⟩)
 ·have hk:(k+(its.toArray.size:Int)).toNat=j:=by
   rw[seqIndex_neg (by omega) h3]at h1
   rw[Qm,← hl]
   exact QC h1
  exact PySem.W.ki_setBack ho (by omega) (by rw[Qm,← hl];exact h3) (by omega) (by rw[hk];exact⟨_,I',q⟩)
theorem Zdy(lo hi:Option Int)(n:Nat):(sliceBounds lo hi none n).1=((HT.sIx n 0 lo:Nat):Int)∧(sliceBounds lo hi none n).2.1=((HT.sIx n n hi:Nat):Int)∧(sliceBounds lo hi none n).2.2=1:=by
 refine⟨?_,?_,rfl⟩
 ·cases lo with
  | none=>simp[sliceBounds,HT.sIx]
  | some i =>
   simp only[sliceBounds,HT.sIx,Option.getD_none,show (1:Int)>0 by decide,if_true]
   by_cases h:i<0
   ·simp only[h,if_true]<;>omega
   ·simp only[h,if_false]<;>omega
 ·cases hi with
  | none=>simp[sliceBounds,HT.sIx]
  | some i =>
   simp only[sliceBounds,HT.sIx,Option.getD_none,show (1:Int)>0 by decide,if_true]
   by_cases h:i<0
   ·simp only[h,if_true]<;>omega
   ·simp only[h,if_false]<;>omega
theorem ZcY(its:List Value)(lo hi:Option Int):slicePick its.toArray lo hi none=((its.drop (HT.sIx its.length 0 lo)).take (HT.sIx its.length its.length hi-HT.sIx its.length 0 lo)).toArray:=by
 obtain⟨h1,h2,h3⟩:=Zdy lo hi its.toArray.size
 unfold slicePick
 rw[h1,h2,h3]
 simp only[sliceRange_one,pick_run,List.size_toArray]<;>rfl
def ZiY(K:PySem.W.Frag):V→Option Int→Option Int→Hp→VK→Prop:=fun x lo hi H Q=>∃a xs,x=.ref a∧SqL K H a xs∧∀p,H p=none→Q (.ref p) (upd H p (.lst (Zcc xs lo hi)))
theorem ZhO:SlR X (ZiY X.K):=by
 intro pins s σ H x v vl vu lo hi sl Q I rx hs pl pu h
 obtain⟨a,xs,rfl,hx,q⟩:=h
 cases rx
 obtain⟨its,r,ht,hz⟩:=I.list hx
 have hlen:=r.length
 refine⟨"list",_,slot_list_getitem.lookup,ht.isList.typeIs,?_⟩
 refine wpAny_getItem_list_slice ht.isList hs pl pu .none (by simp) ?_ (by rw[Qm]<;>omega)
 rw[ZcY,← hlen]
 refine⟨.ref s.heap.objs.size,_,I.laid (t':=s.toks) (o:=.lst (Zcc xs lo hi)) (fun b ob q=>Qb _ q) (Qj _) ?_,rfl,q _ (I.hok.fresh (Qj _))⟩
 exact⟨Q9 (Zef xs lo hi) hz,_,0,(r.drop (HT.sIx xs.length 0 lo)).take (HT.sIx xs.length xs.length hi-HT.sIx xs.length 0 lo),Qq _ rfl⟩
theorem ZdA:ZX X (.builtin "len") (fun xs H Q=>∃p ys,xs=[.ref p]∧(SqL X.K H p ys∨SqT X.K H p ys)∧Q (.int ys.length) H):=by
 intro pins s σ H xs us Q I r h
 obtain⟨p,ys,rfl,hq,q⟩:=h
 obtain⟨u,rfl,rx⟩:=ZaK r
 cases rx
 have hn:=ZcK
 rcases hq with hq|hq
 ·obtain⟨its,r',pl,hz⟩:=I.list hq
  have hlen:=r'.length
  exact Calls.call_len_list pl.isList (by simp only[List.size_toArray]<;>omega) ⟨.int ys.length,H,I.tok _,⟨s.toks+1,by rw[Qm,hlen]⟩,q⟩
 ·obtain⟨its,r',pl,hz⟩:=I.tuple hq
  have hlen:=r'.length
  exact len_tuple pl (by simp only[List.size_toArray]<;>omega) ⟨.int ys.length,H,I.tok _,⟨s.toks+1,by rw[Qm,hlen]⟩,q⟩
theorem Z5:ZX X (.builtin "len") (fun xs H Q=>∃z,xs=[.str z]∧z.length≤sizeLine∧Q (.int z.length) H):=by
 intro pins s σ H xs us Q I r h
 obtain⟨z,rfl,hz,q⟩:=h
 obtain⟨u,rfl,t,rfl⟩:=ZaK r
 have hn:=ZcK
 exact len_str (by omega) ⟨.int z.length,H,I.tok _,⟨_,rfl⟩,q⟩
def tyV(K:PySem.W.Frag)(T:String)(x:V)(H:Hp):Prop:=match x with
 | .str _=>T = "str"
 | .int _=>T = "int"
 | .ref p=>(T = "list"∧∃xs,SqL K H p xs)∨(T = "tuple"∧∃o,K.lookup p=some o∧o.cls=.type "tuple"∧o.dict=none) ∨
   (T = "dict"∧((∃kvs,H p=some (.dK kvs))∨∃kvs,H p=some (.dT kvs)))∨(T = "set"∧∃S n,H p=some (.set S n))
 | _=>False
theorem Zio{pins:List (Addr×Obj)}{σ:St}{H:Hp}{s:Shared}{T:String}{x:V}{v:Value}(I:Inv X pins σ H s)(r:Zv x v)(ty:tyV X.K T x H) :
  s.TypeIs v T∧∀a,v=.ref a→∃ob,s.heap.get? a=some ob∧ob.dict=none:=by
 cases x with
 | str z =>
  obtain⟨t,rfl⟩:=r
  cases (show T = "str" from ty)
  exact⟨typeIs_str s z t,fun _ e=>nomatch e⟩
 | int i =>
  obtain⟨t,rfl⟩:=r
  cases (show T = "int" from ty)
  exact⟨typeIs_int s i t,fun _ e=>nomatch e⟩
 | ref p =>
  cases r
  rcases ty with⟨rfl,xs,hq⟩|⟨rfl,o,hk,hc,hd⟩|⟨rfl,hk⟩|⟨rfl,S,n,hk⟩
  ·obtain⟨its,_,pl,_⟩:=I.list hq
   refine⟨pl.isList.typeIs,fun a e=>?_⟩
   cases e
   obtain⟨o,n,e,c,hd,_⟩:=pl
   exact⟨o,e,hd⟩
  ·refine⟨⟨o,I.kIn p o hk,hc⟩,fun a e=>?_⟩
   cases e
   exact⟨o,I.kIn _ o hk,hd⟩
  ·have z:∃o,s.heap.get? p=some o∧o.ExactDict:=by
    rcases hk with⟨kvs,hk⟩|⟨kvs,hk⟩
    ·obtain⟨_,_,_,_,o,_,_,e,ex,_⟩:=I.hok p _ hk
     exact⟨o,e,ex⟩
    ·obtain⟨_,_,_,_,o,_,_,e,ex,_⟩:=I.hok p _ hk
     exact⟨o,e,ex⟩
   obtain⟨o,e,ex⟩:=z
   refine⟨⟨o,e,ex.1⟩,fun a e2=>?_⟩
   cases e2
   exact⟨o,e,ex.2.1⟩
  ·obtain⟨o,_,_,_,e,ex,_⟩:=I.hok p _ hk
   refine⟨⟨o,e,ex.1⟩,fun a e2=>?_⟩
   cases e2
   exact⟨o,e,ex.2.1⟩
 | _=>exact False.elim ty
def tBM(K:PySem.W.Frag)(T:String)(r:V→List V→Hp→VK→Prop)(to:TE)(t:TA):TE:=fun σ H Q=>to σ H fun x H1=>tyV K T x H1∧t σ H1 fun xs H2=>r x xs H2 Q
variable {o e:Expr} {es:List Expr} {to:TE} {t:TA} {name:Str} {apos cpos:Pos} {T id:String} {r:V→List V→Hp→VK→Prop}
theorem ZbN(pa:PlainAttrs T)(slot:Slot T name id)(hty:typeOf (.builtin id)=pure (.type "method_descriptor"))(hm:MtR X id r)(ho:PE X o to)(ha:PA X (e::es) t)
  (hbase:attributeBase o name X.env (eval o X.env)=eval o X.env:=by rfl)
  (hfew:((backTo cpos (starEach (e::es) X.env)).all (fun x=>!x.1)&&(backToKw cpos (keywordEach [] X.env)).all (fun x=>x.1.isSome)
   && decide ((e::es).length+([]:List Keyword).length+(if ([]:List Keyword).isEmpty then 0 else 1)<30))=true:=by rfl)
  (hline:(apos.endLine == cpos.line)=true:=by rfl) (hs:starEach (e::es) X.env=(false,eval e X.env)::starEach es X.env:=by rfl) (hplain:(backTo cpos (starEach es X.env)).any (·.1)=false:=by rfl) :
  PE X (.Call (.Attribute o name apos) (e::es) [] cpos) (tBM X.K T r to t):=by
 intro pins s σ H Q I h
 refine wpAny_Call_method_late hbase hfew hline rfl (thn (ho pins s σ H _ I h) ?_)
 rintro v s1 ⟨x,H1,I1,r1,ty,q1⟩
 obtain⟨h1,h2⟩:=Zio I1 r1 ty
 refine⟨T,id,pa,slot,hty,h1,h2,?_⟩
 have hA:=ha cpos pins s1 σ H1 _ I1 q1
 rw[hs]at hA ⊢
 refine Calls.callWith_builtin (by show (false||(backTo cpos (starEach es X.env)).any (·.1))=false;rw[hplain]<;>rfl) (Calls.evalArgs_plain ?_)
 exact thn hA fun us s2 ⟨vs,H2,I2,r2,q2⟩=>hm pins s2 σ H2 x vs v us Q I2 r1 r2 q2
end
def MtM(X:Cx)(id:String)(r:V→List V→Hp→VK→Prop):Prop :=
 ∀ (pins:List (Addr×Obj)) (s:Shared) (σ:St) (H:Hp) (x:V) (xs:List V) (v:Value) (us:List Value) (Q:VK),Inv X pins σ H s→Zv x v→Zl xs us→r x xs H Q →
  wpAny (model X.prog X.w) X.A (call (.builtin id) (v::us)) (EP X pins σ Q) X.xe s
theorem Zl.one:∀ {x:V} {us:List Value},Zl [x] us→∃u,us=[u]∧Zv x u
 | _,_,.cons r .nil=>⟨_,rfl,r⟩
theorem Zl.eraseIdx:∀ {xs:List V} {us:List Value} (i:Nat),Zl xs us→Zl (xs.eraseIdx i) (us.eraseIdx i)
 | _,_,_,.nil=>.nil
 | _,_,0,.cons _ t=>t
 | _,_,i+1,.cons r t=>.cons r (Zl.eraseIdx i t)
section
variable {X:Cx} {pins:List (Addr×Obj)} {σ:St} {H:Hp} {s:Shared} {l b:Addr} {xs ys zs:List V}
theorem Inv.lset{its its':List Value}{n:Nat}{f:Array Value→Array Value}{t':Nat}(I:Inv X pins σ H s)(hH:H l=some (.lst xs))
  (e:s.heap.get? l=some { cls:=.type "list",data:=.seq its.toArray n }) (hf:f its.toArray=its'.toArray) (hv:Zl ys its') (hz:ys.length≤sizeLine) :
  Inv X pins σ (upd H l (.lst ys)) { s with heap:=s.heap.update l (Obj.mapSeq f),toks:=t' }:=by
 have q:=PySem.IsL.update e f
 rw[hf]at q
 refine I.write (x:=l) (e:=l) (by rw[hH];exact trivial) (.inl rfl) (fun b' u hb hu=>(QW s.heap (Obj.mapSeq f) (Ne.symm hb)).trans hu) ⟨_,q⟩ ?_
 exact⟨hz,its',_,hv,q⟩
theorem Inv.lnew{its:List Value}{t':Nat}(I:Inv X pins σ H s)(hv:Zl ys its)(hz:ys.length≤sizeLine) :
  Inv X pins σ (upd H s.heap.objs.size (.lst ys)) { s with heap:=s.heap.push { cls:=.type "list",data:=.seq its.toArray },toks:=t' } :=
 I.laid (fun _ _ q=>Qb _ q) (Qj _) ⟨hz,its,0,hv,Qq _ rfl⟩
theorem Inv.fresh(I:Inv X pins σ H s):H s.heap.objs.size=none:=I.hok.fresh (Qj _)
theorem Inv.lstM(I:Inv X pins σ H s)(hH:H l=some (.lst xs)):xs.length≤sizeLine∧∃ (its:List Value) (n:Nat),Zl xs its∧xs.length=its.length∧s.heap.get? l=some { cls:=.type "list",data:=.seq its.toArray n }:=by
 obtain⟨z,its,n,r,e⟩:=I.hok l _ hH
 exact⟨z,its,n,r,r.length,e⟩
theorem ZgZ{n:Nat}(h:n≤sizeLine):Builtin.List.listTooLong n=false:=by
 unfold Builtin.List.listTooLong
 exact decide_eq_false (by omega)
end
section
variable {X:Cx}
def ZhA:V→List V→Hp→VK→Prop:=fun x vs H Q=>∃l xs y,x=.ref l∧vs=[y]∧H l=some (.lst xs)∧xs.length<sizeLine∧Q .non (upd H l (.lst (xs++[y])))
theorem Zao:MtM X "list.append" ZhA:=by
 intro pins s σ H x vs v us Q I rx rv h
 obtain⟨l,xs,y,rfl,rfl,hH,hz,q⟩:=h
 cases rx
 obtain⟨u,rfl,ru⟩:=rv.one
 obtain⟨z,its,n,r,hl,e⟩:=I.lstM hH
 refine call_meets F.slot_list_append ⟨_,e,rfl⟩ F.entry_list_append (F.args_list_append_2 _ _) (PySem.list_append l its.toArray n u (by rw[Qm];omega)) ⟨e,?_⟩
 refine⟨.non,_,I.lset (its':=its++[u]) hH e (by simp) (r.append (.cons ru .nil)) ?_,rfl,q⟩
 rw[Qc,Qo]
 omega
def Zhu:V→List V→Hp→VK→Prop:=fun x vs H Q=>∃l b xs zs,x=.ref l∧vs=[.ref b]∧H l=some (.lst xs)∧H b=some (.lst zs)∧xs.length+zs.length≤sizeLine∧Q .non (upd H l (.lst (xs++zs)))
theorem Zfy:MtM X "list.extend" Zhu:=by
 intro pins s σ H x vs v us Q I rx rv h
 obtain⟨l,b,xs,zs,rfl,rfl,hH,hB,hz,q⟩:=h
 cases rx
 obtain⟨u,rfl,ru⟩:=rv.one
 cases ru
 obtain⟨z,its,n,r,hl,e⟩:=I.lstM hH
 obtain⟨z2,its2,n2,r2,hl2,e2⟩:=I.lstM hB
 have hsz:its.toArray.size+its2.toArray.size≤sizeLine:=by rw[Qm,Qm];omega
 have hlong:¬ (!its.toArray.isEmpty&&Builtin.List.listTooLong (its.toArray.size+its2.toArray.size))=true:=by
  rw[ZgZ hsz,Bool.and_false]
  exact Qz
 refine call_meets F.slot_list_extend ⟨_,e,rfl⟩ F.entry_list_extend (F.args_list_extend_2 _ _)
  (AutoSeq1.list_extend_list_list_0 l its.toArray n b its2.toArray n2 hlong (by rw[Qm];omega) (by omega)) ⟨e,e2,?_⟩
 refine⟨.non,_,I.lset (its':=its++its2) hH e (by simp) (r.append r2) ?_,rfl,q⟩
 rw[Qc]
 omega
def Zjy:R2:=fun x y H Q=>∃l b xs zs,x=.ref l∧y=.ref b∧H l=some (.lst xs)∧H b=some (.lst zs)∧xs.length+zs.length≤sizeLine∧∀p,H p=none→Q (.ref p) (upd H p (.lst (xs++zs)))
theorem ZgV:OpR X (binaryOp .Add) Zjy:=by
 intro pins s σ H x y v u Q I rx ry h
 obtain⟨l,b,xs,zs,rfl,rfl,hH,hB,hz,q⟩:=h
 cases rx
 cases ry
 obtain⟨z,its,n,r,hl,e⟩:=I.lstM hH
 obtain⟨z2,its2,n2,r2,hl2,e2⟩:=I.lstM hB
 refine PySem.P.add_list e e2 ?_ (by rw[Qm,Qm];omega)
 have ea:its.toArray++its2.toArray=(its++its2).toArray:=by simp
 rw[ea]
 exact⟨.ref _,_,I.lnew (t':=s.toks) (r.append r2) (by rw[Qc];omega),rfl,q _ I.fresh⟩
end
section
variable {prog:Program} {w:World} {A:Around} {E:Value→Shared→Prop} {s:Shared}
end
section
variable {X:Cx}
end
end L2
namespace Att
open PySem PySem.W PySem.Calls PyProof.Rows
theorem Zce{P:Params}{h:Heap}:∀ (ns:List Int) (vs:List Value),WellAll P h vs (ns.map WData.int)→IntsAre vs ns:=by
 intro ns
 induction ns with
 | nil =>
  intro vs w
  rw[Qar]at w
  cases w
  exact .nil
 | cons n ns ih =>
  intro vs w
  rw[Qw]at w
  cases w with
  | cons a b =>
   cases a
   exact .cons _ _ (ih _ b)
theorem ZfM{l:OpenLaw}{n:Nat}(hn:l.most=some n){P:Params}{h:Heap}{args:List WData}{vals:List Value}
  (hpre:l.row.toRowW.claim.pre args=true) (hwl:WellAll P h vals args) :
  ∃a vs ns,vals=[Value.ref a]∧args=[WData.list (ns.map WData.int)]∧h.get? a=some { cls:=.type "list",data:=.seq vs.toArray }∧IntsAre vs ns∧ns.length≤n:=by
 have hsh:WShape.hasAll [] args [.list .int]=true:=(pre_splitW hpre).1
 have hc:l.pre.holds [] { args:=args }=true:=(pre_splitW hpre).2
 obtain⟨d,r,rfl,h1,h2⟩:=hasAllW_cons hsh
 obtain rfl:=hasAllW_nil h2
 obtain⟨xs,rfl,h3⟩:=hasW_list h1
 obtain⟨ns,rfl⟩:=items_int h3
 have hlen:ns.length≤n:=by
  unfold OpenLaw.pre at hc
  have h4:(WTm.not (.lt (.lit (.int (n:Int))) (.len (.arg 0)))).holds [] { args:=[.list (ns.map .int)] }=true:=by
   have h4:=(holds_andW hc).1
   rw[hn]at h4
   exact h4
  have h5:=condW_of h4 (w_not (w_lt w_lit (w_len_list (w_arg rfl))))
  rw[Qa]at h5
  refine Nat.le_of_not_lt fun q=>?_
  have q':(n:Int)<((ns.length:Nat):Int):=by omega
  first
   | (rw[decide_eq_true q']at h5;exact absurd h5 (by decide))
   | (simp at h5;omega)
 cases hwl with
 | cons w1 w2 =>
  cases w2
  cases w1 with
  | list ho hall=>exact⟨_,_,ns,rfl,rfl,ho,Zce ns _ hall,hlen⟩
theorem ZfR(l:OpenLaw)(args:List WData):l.row.toRowW.claim.post args (.bool true) args=true :=
 postW_of (r:=l.row.toRowW) (X:=(true == true))
  (show WShape.has [] (.bool true) .bool=true by first|rfl|decide|simp[WShape.has,WShape.arms,WShape.armsAll])
  (show (WTm.eq .res (.lit (.bool true))).value [] { args:=args,res:=some (.bool true),after:=args }=some (.bool (true == true)) from w_eq_bool (w_res rfl) w_lit) rfl
theorem attach_call{l:OpenLaw}{n:Nat}{q:Program}{loose:List Str}{XP:(Str→Option Value)→Heap→Prop}{YP:World→Heap→Prop}{d:DefRec}
  (hn:l.most=some n) (hdf:d.params.defaults=[])
  (call:∀ (w:World) (s₀ s₁:Shared) (mg mb:Str→Option Value) (fa:Addr) (o:Obj) (pm cd doc:Value) (a:Addr) (vs:List Value) (ns:List Int),
   Ground q loose [] XP w s₀ mg mb s₁.heap→YP w s₁.heap →
   s₁.heap.get? fa=some o→o.data=.func (docDef d.name d.params d.body d.scope pm cd doc)→s₁.heap.CodeRec cd d.name→mg d.name=some (.ref fa) →
   s₁.heap.get? a=some { cls:=.type "list",data:=.seq vs.toArray }→IntsAre vs ns→ns.length≤n→s₁.gens = #[] →
   codeAny (model l.prog w) callerA (.call (.ref fa) ⟨[.ref a],[]⟩) (fun r s'=>r=.ok (.ret (.bool true))∧OldK s₁.heap s'.heap∧s'.os=s₁.os∧AllBare s'.gens) s₁) :
  WalkO q loose XP YP l.row.toRowW d [] (fun f vs=>PySem.call f vs):=by
 intro w s₀ s₁ mg mb G Y fa o pm cd doc dV kV ho hd hcd hD hmg hg args vals as hpre hlay hrd hwl hlo
 obtain rfl:dV=.none:=Dflts.none hD hdf
 obtain rfl:kV=.none:=Dflts.noKw hD
 obtain⟨a,vs,ns,rfl,rfl,hobj,hints,hlen⟩:=ZfM hn hpre hwl
 refine enter_call (codeAny_mono (call w s₀ s₁ mg mb fa o pm cd doc a vs ns G Y ho (fd_plain hd) hcd hmg hobj hints hlen hg) fun r s' hq=>?_)
 obtain⟨rfl,h2,h3,h4⟩:=hq
 exact⟨.inl ⟨.bool true,.bool true,[],rfl,fun _=>rfl,.bool true,ZfR l _,fun _=>⟨List.Pairwise.nil,fun _ hm=>(nomatch hm)⟩⟩,h2,h3,h4⟩
section
variable {prog:Program} {w:World} {A:Around} {E:Value→Shared→Prop} {s:Shared} {K:Frag}
end
end Att
namespace L2
open PySem PySem.Spec PyProof.Rows
theorem ZbY:∀ {vs:List Value} {ns:List Int},IntsAre vs ns→Zl (ns.map V.int) vs
 | _,_,.nil=>.nil
 | _,_,.cons n t h=>.cons ⟨t,rfl⟩ (ZbY h)
def ZiK(H:Hp):Prop:=∀b,H b=none∨∃o xs,H b=some (.frz o (.lst xs))
theorem Zf4{P:Program}{w:World}{K:PySem.W.Frag}{mg mb:Str→Option Value}{CX:CXT}{k:Nat}{fa a:Addr}{fd:FuncData}{x:Str}{sp:Sp}{s₁:Shared}{vs:List Value}{ns:List Int}
  (KX:K.In s₁.heap) (hns:s₁.heap.Ns mainGlobals mg) (hb:s₁.heap.Ns builtinsNs mb) (hbb:∀x:Str,x ≠ "__name__"→mb x=bootBuiltins x) (hlim:s₁.heap.NoLimit) (hg:s₁.gens = #[])
  (ha:s₁.heap.get? a=some { cls:=.type "list",data:=.seq vs.toArray }) (hi:IntsAre vs ns) (hl:ns.length≤sizeLine) (hr:ZaE k callerA)
  (F:∀base:Heap,K.In base→base.Ns mainGlobals mg→Zcf P w K mg base CX k fa fd [x] sp) (hbind:∀ (s:Shared) (u:Value),BindsTo s fd ⟨[u],[]⟩ [(x,u)])
  (hsp:∀H:Hp,ZiK H→SqL K H a (ns.map V.int)→sp [.ref a] H (fun v _=>v=.bl true) fun _ _ _=>False)
  (hCX:∀H e s',CX [] H s₁ (fun _ _ _=>False) e s'→False) :
  codeAny (model P w) callerA (.call (.ref fa) ⟨[.ref a],[]⟩) (fun r s'=>r=.ok (.ret (.bool true))∧OldK s₁.heap s'.heap∧s'.os=s₁.os∧AllBare s'.gens) s₁:=by
 have rv:=ZbY hi
 have lenV:=hi.length
 have core:∀H:Hp,ZiK H→SqL K H a (ns.map V.int)→HOk P w H s₁.heap→(∀b,H b≠none→b=a)→(H a≠none→K.lookup a=none) →
   codeAny (model P w) callerA (.call (.ref fa) ⟨[.ref a],[]⟩) (fun r s'=>r=.ok (.ret (.bool true))∧OldK s₁.heap s'.heap∧s'.os=s₁.os∧AllBare s'.gens) s₁:=by
  intro H hO hS hok hA hK
  have base_of:∀ {b:Addr} {o:Obj},s₁.heap.get? b=some o→H b=none→(ZdF s₁.heap H).get? b=some o:=fun e n=>ZgI e n
  have noA:∀ {b:Addr} {o:Obj} {es:Array DictEntry} {ep:Nat},s₁.heap.get? b=some o→o.data=.dict es ep→H b=none:=fun {b o es ep} e d=>by
   cases q:H b with
   | none=>rfl
   | some u =>
    have e':b=a:=hA b (by rw[q];simp)
    subst e'
    rw[ha]at e;cases e
    have d':Data.seq vs.toArray _=Data.dict es ep:=d
    cases d'
  have nsK:∀ {b:Addr} {m:Str→Option Value},s₁.heap.Ns b m→(ZdF s₁.heap H).Ns b m:=fun {b m} ⟨o,es,ep,e,d,r⟩=>⟨o,es,ep,base_of e (noA e d),d,r⟩
  have hKb:K.In (ZdF s₁.heap H):=fun b o e=>base_of (KX b o e) (by
   cases q:H b with
   | none=>rfl
   | some u =>
    have e':b=a:=hA b (by rw[q];simp)
    subst e'
    rw[hK (by rw[q];simp)]at e;cases e)
  have hM:Mod K mg (ZdF s₁.heap H):=⟨hKb,nsK hns,⟨mb,nsK hb,hbb⟩,let ⟨mc,h1,h2⟩:=hlim;⟨mc,nsK h1,h2⟩⟩
  have e0:Zhw P w K mg (ZdF s₁.heap H) callerA [] s₁ H:=⟨rfl,hM,fun b o e=>ZhH e,Nat.le_of_eq (ZfS _ _),trivial,fun b hb=>absurd (show b∈([]:List Addr) from hb) (by simp),hok,.of_eq hg⟩
  refine codeAny_mono ((F _ hKb (nsK hns)).run callerA [] s₁ H ⟨[.ref a],[]⟩ [.ref a] [.ref a] _ _ hr e0 (hbind s₁ (.ref a)) (.cons rfl .nil) (hsp H hO hS)) fun r s' h=>?_
  cases r with
  | error e=>exact(hCX H e s' h).elim
  | ok fl =>
   cases fl with
   | next=>exact False.elim h
   | brk=>exact False.elim h
   | cont=>exact False.elim h
   | ret u =>
    obtain⟨v,H',os,bare,un,hok',r',q⟩:=h
    have q':v=.bl true:=q
    subst q'
    obtain rfl:u=Value.bool true:=r'
    refine⟨rfl,OldK.of_keep fun b o e=>?_,os,bare⟩
    cases q:H b with
    | none=>exact un.keep b o e q (by intro z;exact absurd (show b∈([]:List Addr) from z) (by simp)) (by simp)
    | some u =>
     rcases hO b with z|⟨ob,xs,z⟩
     ·rw[q]at z;cases z
     ·have z2:=un.frzs b ob _ z
      obtain⟨e1,_⟩:=hok b _ z
      obtain⟨e2,_⟩:=hok' b _ z2
      rw[e]at e1;cases e1
      exact e2
 cases hk:K.lookup a with
 | some o =>
  have e:=KX a o hk
  rw[ha]at e
  cases e
  refine core (fun _=>none) (fun _=>.inl rfl) (.inr ⟨_,vs.toArray,_,hk,rfl,rfl,rfl,by rw[Qm,lenV];exact hl,by simpa using rv⟩) (fun b u z=>by have z':(none:Option HO)=some u:=z;cases z') (fun b z=>absurd rfl z) fun z=>absurd rfl z
 | none =>
  refine core (fun b=>if b=a then some (.frz { cls:=.type "list",data:=.seq vs.toArray } (.lst (ns.map V.int))) else none) (fun b=>?_) (.inl (.inr ⟨{ cls:=.type "list",data:=.seq vs.toArray },if_pos rfl⟩)) (fun b u z=>?_) (fun b z=>?_) fun _=>hk
  ·by_cases hb:b=a
   ·exact .inr ⟨_,_,if_pos hb⟩
   ·exact .inl (if_neg hb)
  ·by_cases hb:b=a
   ·have z':=(if_pos hb).symm.trans z
    cases z'
    subst hb
    exact⟨ha,by rw[Qa];exact hl,vs,_,rv,ha⟩
   ·have z':=(if_neg hb).symm.trans z
    cases z'
  ·by_cases hb:b=a
   ·exact hb
   ·exact absurd (if_neg hb) z
theorem walk_of{l:PySem.W.OpenLaw}{n k:Nat}{q:Program}{loose:List Str}{XP:(Str→Option Value)→Heap→Prop}{YP:World→Heap→Prop}{d:DefRec}{K:Params→PySem.W.Frag}{CX:World→CXT}{sp:World→Sp}{x:Str}
  (hn:l.most=some n) (hn2:n≤sizeLine) (hdf:d.params.defaults=[]) (hr:ZaE k callerA)
  (hY:∀ (w:World) (h:Heap),YP w h→(K w.params).In h)
  (F:∀ (w:World) (mg:Str→Option Value) (fa:Addr) (h:Heap),(K w.params).In h→h.Ns mainGlobals mg→mg d.name=some (.ref fa) →
   ∃fd:FuncData,(∀ (s:Shared) (u:Value),BindsTo s fd ⟨[u],[]⟩ [(x,u)]) ∧
    ∀base:Heap,(K w.params).In base→base.Ns mainGlobals mg→Zcf l.prog w (K w.params) mg base (CX w) k fa fd [x] (sp w))
  (hsp:∀ (w:World) (H:Hp) (a:Addr) (ns:List Int),ns.length≤n→ZiK H→SqL (K w.params) H a (ns.map V.int)→sp w [.ref a] H (fun v _=>v=.bl true) fun _ _ _=>False)
  (hCX:∀ (w:World) (H:Hp) (s:Shared) (e:Value) (s':Shared),CX w [] H s (fun _ _ _=>False) e s'→False) :
  PySem.W.WalkO q loose XP YP l.row.toRowW d [] (fun f vs=>PySem.call f vs):=by
 refine Att.attach_call hn hdf fun w s₀ s₁ mg mb fa o pm cd doc a vs ns G Y ho hd hcd hmg hobj hints hlen hg=>?_
 have KX:=hY w _ Y
 obtain⟨fd,hb,hF⟩:=F w mg fa _ KX G.T.g hmg
 exact Zf4 KX G.T.g G.T.b G.T.builtins G.T.nolimit hg hobj hints (Q9 hlen hn2) hr hF hb (fun H hO hS=>hsp w H a ns hlen hO hS) fun H e s'=>hCX w H s₁ e s'
def Zr(s:Stmt):Arguments:=match s with
 | .FunctionDef _ a _ _ _ _ _ _ _ _=>a
 | _=>{ posonlyargs:=[],args:=[],vararg:=none,kwonlyargs:=[],kw_defaults:=[],kwarg:=none,defaults:=[] }
def Zo(s:Stmt):List Stmt:=match s with
 | .FunctionDef _ _ b _ _ _ _ _ _ _=>b
 | _=>[]
def Zg(s:Stmt):Scope:=match s with
 | .FunctionDef _ _ _ _ _ _ sc _ _ _=>sc
 | _=>{ kind:=.function,names:=[],isGenerator:=false,isCoroutine:=false }
abbrev CX0:CXT:=fun _ _ _ _ _ _=>False
abbrev E0:XK:=fun _ _ _=>False
theorem Zi9{X:Cx}:ZeT CX0 X E0:=fun _ _ _ _ _ _ _ h=>h.elim
structure Fun (K:PySem.W.Frag) (x qual:Str) (st:Stmt) (f:Addr) (fd:FuncData):Prop where
 ex:∃ (oc:Value) (od:Option Addr) (kV doc pm:Value) (an:Option Addr) (cdv ct:Value) (osl:Array (Option Value)),
  fd=PySem.W.fnOf x qual (Zr st) (Zo st) (Zg st) .none kV doc pm an cdv ct∧K.lookup f=some ⟨oc,od,.func fd,osl⟩∧PySem.W.codeIn K cdv qual=true
 kp:PySem.W.keepIn K (.ref f)=true
section
variable {P:Program} {w:World} {K:PySem.W.Frag} {mg:Str→Option Value} {base:Heap}
theorem Fun.ok{x qual:Str}{st:Stmt}{f:Addr}{fd:FuncData}{N ps:List Str}{k:Nat}{sp:Sp}(F:Fun K x qual st f fd)(S:Zy N ps (Zg st))(len:∀vs H Q E,sp vs H Q E→vs.length=ps.length)
  (hbody:∀ (cdv:Value) (A:Around) (outer:List Env) (s:Shared) (H:Hp) (vs:List V) (Q:VK) (E:XK),ZaE k (A.deeper (envOfC qual (Zg st) s.heap.objs.size f cdv))→sp vs H Q E →
   ∃t,PSs (ZeX CX0 P w K mg base N qual (Zg st) f cdv A outer s H E).nox (Zo st) t∧t { nx:=fun _ H'=>Q .non H',rt:=Q } (ZbQ N vs) H):Zcf P w K mg base CX0 (k+1) f fd ps sp:=by
 obtain⟨oc,od,kV,doc,pm,an,cdv,ct,osl,rfl,lk,hcd⟩:=F.ex
 refine Zjr lk hcd S len fun A outer s H vs Q E hr hsp=>?_
 obtain⟨t,h,q⟩:=hbody cdv A outer s H vs Q E hr hsp
 exact⟨t,h.nox,q⟩
theorem Fun.binds{x qual:Str}{st:Stmt}{f:Addr}{fd:FuncData}{ps:List Str}(F:Fun K x qual st f fd)
  (h:∀ (kV doc pm:Value) (an:Option Addr) (cdv ct:Value) (us:List Value),us.length=ps.length→bindArgs (PySem.W.fnOf x qual (Zr st) (Zo st) (Zg st) .none kV doc pm an cdv ct) ⟨us,[]⟩=pure (ps.zip us)):Zbe K fd ps []:=by
 obtain⟨oc,od,kV,doc,pm,an,cdv,ct,osl,rfl,lk,hcd⟩:=F.ex
 exact .all (h kV doc pm an cdv ct)
theorem ZeI{x qual:Str}{st:Stmt}{f:Addr}{oc:Value}{od an:Option Addr}{osl:Array (Option Value)}{kV doc pm cdv ct:Value}(l:K.lookup f=some ⟨oc,od,.func (PySem.W.fnOf x qual (Zr st) (Zo st) (Zg st) .none kV doc pm an cdv ct),osl⟩)
  (c:PySem.W.codeIn K cdv qual=true) (k:PySem.W.keepIn K (.ref f)=true):Fun K x qual st f (PySem.W.fnOf x qual (Zr st) (Zo st) (Zg st) .none kV doc pm an cdv ct):=⟨⟨oc,od,kV,doc,pm,an,cdv,ct,osl,rfl,l,c⟩,k⟩
end
theorem Zm{n:Nat}(h:n≤1000):n<sizeLine:=Nat.lt_of_le_of_lt h (by decide)
section
variable {X:Cx}
theorem pv(i:Nat){x:Str}{pos:Pos}(hN:X.N[i]? = some x:=by rfl)(hv:Vis X.env.scope x:=by first|exact Or.inl rfl|exact Or.inr (Or.inl rfl)|exact Or.inr (Or.inr rfl))(hd:(x == ("__debug__" : Str))=false:=by decide)
  (hcd:(x == ("__classdict__" : Str))=false:=by decide):PE X (.Name x pos) (Zhp i):=ZeN hN hv hd hcd
end
theorem Zbt{A B:Prop}(h:B):if false=true then A else B:=by
 rw[if_neg Qz]
 exact h
theorem ZgP{A B:Prop}(h:A):if true=true then A else B:=by
 rw[if_pos rfl]
 exact h
theorem Zbb{c A B:Prop}[Decidable c](h1:c→A)(h2:¬ c→B):if c then A else B:=by
 by_cases h:c
 ·rw[if_pos h]
  exact h1 h
 ·rw[if_neg h]
  exact h2 h
def ZH(H H':Hp):Prop:=∀b o,H b=some o→H' b=some o
theorem ZH.refl(H:Hp):ZH H H:=fun _ _ h=>h
theorem ZH.trans{H H1 H2:Hp}(a:ZH H H1)(b:ZH H1 H2):ZH H H2:=fun c o h=>b c o (a c o h)
theorem ZH.free{H H':Hp}(e:ZH H H'){l:Addr}(h:H' l=Option.none):H l=Option.none:=by
 cases q:H l with
 | none=>rfl
 | some o =>
  rw[e l o q]at h
  cases h
theorem ZH.seq{K:PySem.W.Frag}{H H':Hp}{a:Addr}{xs:List V}(e:ZH H H')(h:SqL K H a xs):SqL K H' a xs:=by
 rcases h with(h|⟨o,h⟩)|h
 ·exact .inl (.inl (e _ _ h))
 ·exact .inl (.inr ⟨o,e _ _ h⟩)
 ·exact .inr h
def ZT(cells:List (Str×Addr)):List (Str×NameKind)→List (Str×Addr)→List (Str×Addr)
 | [],acc=>acc
 | (n,k)::r,acc=>if k == .free then ZT cells r ((n,(cells.lookup n).getD 0)::acc) else ZT cells r acc
theorem ZcZ{sc:Scope}{env:Env}(h:∀y∈sc.names,y.2=.free→∃c,env.cells.lookup y.1=some c) :
  closureFor sc env=pure (ZT env.cells sc.names []):=by
 have go:∀ (names:List (Str×NameKind)) (acc:List (Str×Addr)),(∀y∈names,y.2=.free→∃c,env.cells.lookup y.1=some c) →
   (forIn names acc fun (x:Str×NameKind) (r:List (Str×Addr))=>if (x.2 == NameKind.free)=true then (do let c ← cellOf env x.1;pure (ForInStep.yield ((x.1,c)::r))) else pure (ForInStep.yield r):Sem (List (Str×Addr)))=pure (ZT env.cells names acc):=by
  intro names
  induction names with
  | nil=>intro acc _;rfl
  | cons y r ih =>
   intro acc hy
   obtain⟨n,k⟩:=y
   rw[List.forIn_cons]
   cases hk:(k == NameKind.free) with
   | false =>
    have e1:ZT env.cells ((n,k)::r) acc=ZT env.cells r acc:=by
     show (if (k == NameKind.free)=true then _ else _)=_
     rw[hk];rfl
    rw[e1,← ih acc fun z hz=>hy z (Ql _ hz)]
    simp only[hk,Bool.false_eq_true,if_false,pure_bind]
   | true =>
    have hk':k=.free:=by simpa using hk
    obtain⟨c,hc⟩:=hy (n,k) Qv hk'
    have e1:ZT env.cells ((n,k)::r) acc=ZT env.cells r ((n,c)::acc):=by
     show (if (k == NameKind.free)=true then _ else _)=_
     rw[hk,hc];rfl
    have e2:cellOf env n=pure c:=by
     unfold cellOf
     rw[hc]
    rw[e1,← ih ((n,c)::acc) fun z hz=>hy z (Ql _ hz)]
    simp only[hk,if_true,e2,pure_bind]
 have q:=go sc.names [] h
 unfold closureFor
 first
  | (rw[show (forIn sc.names ([]:List (Str×Addr)) _:Sem (List (Str×Addr)))=pure (ZT env.cells sc.names []) from q];rfl)
  | (simp only[bind_pure];exact q)
  | exact q
theorem Zbk(cells:List (Str×Addr)):∀ (names:List (Str×NameKind)) (acc:List (Str×Addr)) (x:Str) (c:Addr),(ZT cells names acc).lookup x=some c →
  (∃y∈names,y.1=x∧y.2=.free∧c=(cells.lookup x).getD 0)∨acc.lookup x=some c
 | [],acc,x,c,h=>.inr h
 | (n,k)::r,acc,x,c,h=>by
  by_cases hk:(k == NameKind.free)=true
  ·have e:ZT cells ((n,k)::r) acc=ZT cells r ((n,(cells.lookup n).getD 0)::acc):=by
    show (if (k == NameKind.free)=true then _ else _)=_
    rw[if_pos hk]
   rw[e]at h
   rcases Zbk cells r _ x c h with⟨y,hy,q⟩|q
   ·exact .inl ⟨y,Ql _ hy,q⟩
   ·rw[QaG]at q
    by_cases hx:(x == n)=true
    ·rw[hx]at q
     have hx':x=n:=by simpa using hx
     subst hx'
     exact .inl ⟨(x,k),Qv,rfl,by simpa using hk,(QC q).symm⟩
    ·have hx':(x == n)=false:=by simpa using hx
     rw[hx']at q
     exact .inr q
  ·have e:ZT cells ((n,k)::r) acc=ZT cells r acc:=by
    show (if (k == NameKind.free)=true then _ else _)=_
    rw[if_neg hk]
   rw[e]at h
   rcases Zbk cells r _ x c h with⟨y,hy,q⟩|q
   ·exact .inl ⟨y,Ql _ hy,q⟩
   ·exact .inr q
theorem ZcJ(cells:List (Str×Addr)):∀ (names:List (Str×NameKind)) (acc:List (Str×Addr)) (x:Str),((∃y∈names,y.1=x∧y.2=.free)∨∃c,acc.lookup x=some c) →
  ∃c,(ZT cells names acc).lookup x=some c
 | [],acc,x,h=>by
  rcases h with⟨y,hy,_⟩|h
  ·cases hy
  ·exact h
 | (n,k)::r,acc,x,h=>by
  by_cases hk:(k == NameKind.free)=true
  ·have e:ZT cells ((n,k)::r) acc=ZT cells r ((n,(cells.lookup n).getD 0)::acc):=by
    show (if (k == NameKind.free)=true then _ else _)=_
    rw[if_pos hk]
   rw[e]
   refine ZcJ cells r _ x ?_
   by_cases hx:(x == n)=true
   ·exact .inr ⟨_,by rw[QaG,hx]⟩
   ·have hx':(x == n)=false:=by simpa using hx
    rcases h with⟨y,hy,q⟩|⟨c,q⟩
    ·rcases Q6.mp hy with rfl|hy
     ·exact absurd (by simpa using q.1.symm) hx
     ·exact .inl ⟨y,hy,q⟩
    ·exact .inr ⟨c,by rw[QaG,hx'];exact q⟩
  ·have e:ZT cells ((n,k)::r) acc=ZT cells r acc:=by
    show (if (k == NameKind.free)=true then _ else _)=_
    rw[if_neg hk]
   rw[e]
   refine ZcJ cells r _ x ?_
   rcases h with⟨y,hy,q⟩|h
   ·rcases Q6.mp hy with rfl|hy
    ·exact absurd (by simpa using q.2) hk
    ·exact .inl ⟨y,hy,q⟩
   ·exact .inr h
structure ZM (N N':List Str) (o c:Scope):Prop where
 kind:c.kind=.function
 okind:o.kind=.function
 nocell:∀y∈c.names,y.2≠.cell
 loc:∀y∈c.names,y.2=.local→c.names.lookup y.1=some .local
 free:∀y∈c.names,y.2=.free→c.names.lookup y.1=some .free∧(o.names.lookup y.1=some .cell∨o.names.lookup y.1=some .free)
 len:N.length≤N'.length
 same:∀i∈List.range N.length,∀x∈N'[i]?,c.names.lookup x=some .local∨c.names.lookup x=some .free→c.names.lookup x=some .free∧N[i]? = some x
 nd:N'.Nodup
def ZS(X:Cx)(c:Scope)(N':List Str)(C:Addr)(s:Shared)(H:Hp)(fp:List Addr):Cx :=
 { X with N:=N',s₀:=s,H₀:=H,env:=compEnvC c (ZT X.env.cells c.names []) C X.env,outer:=X.stack,stack:=X.stack,ex:=fp,fn:=fun _=>false,pn:=[],xe:=fun _ _=>False }
theorem Zbd{env:Env}(hf:env.scope.kind=.function):∀ (names:List (Str×NameKind)) (x:Str),
  (names.map fun (p:Str×NameKind)=>if (p.2 == NameKind.free&&env.scope.kind == .function&&env.kindOf p.1 == some .cell)=true then (p.1,NameKind.cell) else (p.1,p.2)).lookup x =
   match names.lookup x with
   | some .free=>if env.kindOf x=some .cell then some .cell else some .free
   | k=>k
 | [],x=>rfl
 | (n,k)::r,x=>by
  have ih:=Zbd hf r x
  rw[Qw]
  by_cases hx:(x == n)=true
  ·have hx':x=n:=by simpa using hx
   subst hx'
   have e2:List.lookup x ((x,k)::r)=some k:=by rw[QaG];simp
   rw[e2]
   by_cases hk:k=.free
   ·subst hk
    by_cases hc:env.kindOf x=some .cell
    ·simp[List.lookup_cons,hf,hc]
    ·simp[List.lookup_cons,hf,hc]
   ·have hk':(k == NameKind.free)=false:=by simpa using hk
    rw[hk']
    simp only[Bool.false_and,Bool.false_eq_true,if_false,List.lookup_cons,beq_self_eq_true]
    all_goals (cases k<;>first|rfl|exact absurd rfl hk)
  ·have hx':(x == n)=false:=by simpa using hx
   have e2:List.lookup x ((n,k)::r)=List.lookup x r:=by rw[QaG,hx']
   rw[e2,← ih]
   by_cases hc:(k == NameKind.free&&env.scope.kind == .function&&env.kindOf n == some .cell)=true
   ·simp only[hc,if_true,List.lookup_cons,hx']
   ·simp only[hc,if_false,List.lookup_cons,hx',Bool.false_eq_true]
section
variable {X:Cx} {N N':List Str} {o c:Scope}
theorem ZaR(S:ZM N N' o c)(ho:X.env.scope=o)(cl:List (Str×Addr))(C:Addr)(x:Str):(compEnvC c cl C X.env).kindOf x =
  match c.names.lookup x with
  | some .free=>if X.env.kindOf x=some .cell then some .cell else some .free
  | k=>k:=Zbd (env:=X.env) (by rw[ho];exact S.okind) c.names x
theorem Za9{names:List (Str×NameKind)}{x:Str}{k:NameKind}(h:names.lookup x=some k):(x,k)∈names:=Qai h
theorem ZaA(S:ZM N N' o c)(ho:X.env.scope=o)(ok:X.Ok){x:Str}{a:Addr}(h:(ZT X.env.cells c.names []).lookup x=some a) :
  X.env.cells.lookup x=some a∧c.names.lookup x=some .free:=by
 rcases Zbk _ _ _ _ _ h with⟨y,hy,rfl,hf,e⟩|q
 ·have hk:=S.free y hy hf
  have hv:X.env.kindOf y.1=some .cell∨X.env.kindOf y.1=some .free:=by
   show X.env.scope.names.lookup y.1=_∨X.env.scope.names.lookup y.1=_
   rw[ho];exact hk.2
  obtain⟨b,hb⟩:=ok.has y.1 hv
  rw[hb]at e
  exact⟨by rw[hb,e];rfl,hk.1⟩
 ·cases q
theorem Zd1(S:ZM N N' o c)(ho:X.env.scope=o)(ok:X.Ok){x:Str}(h:c.names.lookup x=some .free):∃a,(ZT X.env.cells c.names []).lookup x=some a∧X.env.cells.lookup x=some a:=by
 obtain⟨a,ha⟩:=ZcJ X.env.cells c.names [] x (.inl ⟨(x,.free),Za9 h,rfl,rfl⟩)
 exact⟨a,ha,(ZaA S ho ok ha).1⟩
theorem Zg5(S:ZM N N' o c)(ho:X.env.scope=o){pins:List (Addr×Obj)}{σ:St}{H:Hp}{s:Shared}{fp:List Addr}(I:Inv X pins σ H s)
  (hf:∀b∈fp,Zct X pins H b) (ht:∀b∈fp,b<s.heap.objs.size):(ZS X c N' s.heap.objs.size s H fp).Ok where
 mod:=I.ok.mod
 kind:=S.kind
 glob:=I.ok.glob
 blt:=I.ok.blt
 above:=Qj _
 inj:=fun x y a h1 h2=>I.ok.inj x y a (ZaA S ho I.ok h1).1 (ZaA S ho I.ok h2).1
 has:=fun x hx=>by
  have e:=ZaR (X:=X) S ho (ZT X.env.cells c.names []) s.heap.objs.size x
  have hx':(compEnvC c (ZT X.env.cells c.names []) s.heap.objs.size X.env).kindOf x=some .cell∨(compEnvC c (ZT X.env.cells c.names []) s.heap.objs.size X.env).kindOf x=some .free:=hx
  rw[e]at hx'
  cases q:c.names.lookup x with
  | none=>rw[q]at hx';rcases hx' with z|z<;>cases z
  | some k =>
   by_cases hk:k=.free
   ·subst hk
    obtain⟨a,ha,_⟩:=Zd1 S ho I.ok q
    exact⟨a,ha⟩
   ·rw[q]at hx'
    have hc:k=.cell:=by
     cases k<;>first|rfl|exact absurd rfl hk|(rcases hx' with z|z<;>cases z)
    subst hc
    exact absurd rfl (S.nocell _ (Za9 q))
 cab:=fun x a h=>by cases (show false=true from h)
 hd:=I.ok.hd
 frames:=I.ok.frames
 stk:=.inl rfl
 exf:=fun b hb=>⟨Qs (ht b hb),fun x a h=>(hf b hb).2.2.2.2.1 x a (ZaA S ho I.ok h).1⟩
 bs:=fun b ob e=>I.bs b ob e
 bsz:=Q9 I.ok.bsz I.sz
 noex:=fun b ob e hb=>by
  rcases(hf b hb).2.2.2.1 with z|z
  ·exact I.ok.noex b ob e z
  ·exact absurd (Qy (Qk e) (Q9 I.ok.bsz z)) (Qav _)
 exfs:=fun b hb hb'=>by
  rcases Q6.mp (I.stkSub b hb') with z|z
  ·exact(hf b hb).2.1 z
  ·exact(hf b hb).2.2.1 z
 funs:=I.stack
 frf:=I.stkFree
theorem Zf6(S:ZM N N' o c)(hN:X.N=N)(ho:X.env.scope=o){pins:List (Addr×Obj)}{σ:St}{H:Hp}{s:Shared}{fp:List Addr}{h₁:Heap}{tk:Nat}{m₀:Str→Option Value}(I:Inv X pins σ H s)
  (hf:∀b∈fp,Zct X pins H b) (ht:∀b∈fp,b<s.heap.objs.size) (hns:h₁.Ns s.heap.objs.size m₀) (hk:∀b ob,s.heap.get? b=some ob→h₁.get? b=some ob) :
  Inv (ZS X c N' s.heap.objs.size s H fp) [] (σ++List.replicate (N'.length-N.length) none) H { s with heap:=h₁,toks:=tk } where
 ok:=Zg5 S ho I hf ht
 os:=rfl
 bare:=I.bare
 base:=Un.kept hk
 loc:=by
  refine⟨m₀,hns,fun i x v e1 e2 e3=>?_⟩
  obtain⟨m,hn,hl⟩:=I.loc
  have hlen:σ.length=N.length:=by rw[I.len,hN]
  have hi:i<σ.length:=by
   by_cases hi:i<σ.length
   ·exact hi
   ·rw[QL (by omega),List.getElem?_replicate]at e2
    split at e2<;>cases e2
  have e2':σ[i]? = some (some v):=by rw[Qad hi]at e2;exact e2
  have kd:=ZaR (X:=X) S ho (ZT X.env.cells c.names []) s.heap.objs.size x
  have vis:c.names.lookup x=some .local∨c.names.lookup x=some .free:=by
   have e3':(compEnvC c (ZT X.env.cells c.names []) s.heap.objs.size X.env).kindOf x=some .local∨(compEnvC c (ZT X.env.cells c.names []) s.heap.objs.size X.env).kindOf x=some .cell∨(compEnvC c (ZT X.env.cells c.names []) s.heap.objs.size X.env).kindOf x=some .free:=e3
   rw[kd]at e3'
   cases q:c.names.lookup x with
   | none=>rw[q]at e3';rcases e3' with z|z|z<;>cases z
   | some k =>
    cases k with
    | «local»=>exact .inl rfl
    | free=>exact .inr rfl
    | cell=>exact absurd rfl (S.nocell _ (Za9 q))
    | _=>rw[q]at e3';rcases e3' with z|z|z<;>cases z
  obtain⟨hfr,hNi⟩:=S.same i (Qam.mpr (by omega)) x (by rw[show N'[i]? = some x from e1];rfl) vis
  have hok:X.env.kindOf x=some .cell∨X.env.kindOf x=some .free:=by
   show X.env.scope.names.lookup x=_∨X.env.scope.names.lookup x=_
   rw[ho];exact(S.free _ (Za9 hfr) rfl).2
  obtain⟨u,r,l⟩:=hl i x v (by rw[hN];exact hNi) e2' (.inr hok)
  refine⟨u,r,.inr ⟨?_,?_⟩⟩
  ·show (compEnvC c (ZT X.env.cells c.names []) s.heap.objs.size X.env).kindOf x=some .cell∨(compEnvC c (ZT X.env.cells c.names []) s.heap.objs.size X.env).kindOf x=some .free
   rw[kd,hfr]
   show (if X.env.kindOf x=some .cell then some NameKind.cell else some NameKind.free)=some .cell∨(if X.env.kindOf x=some .cell then some NameKind.cell else some NameKind.free)=some .free
   by_cases q:X.env.kindOf x=some .cell
   ·rw[if_pos q];exact .inl rfl
   ·rw[if_neg q];exact .inr rfl
  ·obtain⟨a,ha,ha'⟩:=Zd1 S ho I.ok hfr
   refine⟨a,ha,?_⟩
   rcases l with⟨z,_⟩|⟨_,a',e,ob,hob,hd⟩
   ·rcases hok with q|q<;>rw[q]at z<;>cases z
   ·rw[ha']at e;cases e
    exact⟨ob,hk _ _ hob,hd⟩
 cell:=fun x a h=>by
  obtain⟨v,ob,e,d⟩:=I.cell x a (ZaA S ho I.ok h).1
  exact⟨v,ob,hk _ _ e,d⟩
 free:=I.hok.fresh (Qj _)
 freeC:=fun x a h=>I.freeC x a (ZaA S ho I.ok h).1
 pin:=fun p hp=>absurd (show p∈([]:List (Addr×Obj)) from hp) (by simp)
 hok:=I.hok.kept hk
 len:=by
  have hlen:σ.length=N.length:=by rw[I.len,hN]
  have:=S.len
  show (σ++List.replicate (N'.length-N.length) none).length=N'.length
  rw[Qc,Qaw]
  omega
end
abbrev Zfb(ifs:List Expr)(env:Env):Sem Bool :=
 forIn ifs true fun k r=>if r=true then do let ok ← isTrue k env (eval k env);pure (ForInStep.yield ok) else pure (ForInStep.yield r)
def PTs(X:Cx)(ifs:List Expr)(t:TT):Prop :=
 ∀ (pins:List (Addr×Obj)) (s:Shared) (σ:St) (H:Hp) (Q:Bool→Hp→Prop),Inv X pins σ H s→t σ H Q→wpAny (model X.prog X.w) X.A (Zfb ifs X.env) (TP X pins σ Q) X.xe s
def ZeB:TT:=fun _ H Q=>Q true H
theorem ZaG{X:Cx}:PTs X [] ZeB:=fun _ _ _ H _ I h=>wpAny_tests_nil ⟨H,I,h⟩
section
variable {prog:Program} {w:World} {A:Around} {R:Result→Shared→Prop} {s:Shared}
theorem ZdC{elt target iter:Expr}{ifs:List Expr}{scope:Scope}{pos:Pos}{it acc:Value}{env:Env}{E:Value→Shared→Prop}(I:Nat→Shared→Prop)
  (hE:∀e s',E e s'→False)
  (turn:∀n s,I n s→wpAny (model prog w) A (pyNext it) (fun r s₁=>match r with
   | none=>R (.ok .next) s₁
   | some v=>wpAny (model prog w) A (letOwnedTupleGo target it v) (fun _ s₀=>wpAny (model prog w) A (assign target env v) (fun _ s₂ =>
     wpAny (model prog w) A (Zfb ifs env) (fun ok s₃ =>
      if ok=true then wpAny (model prog w) A (eval elt env) (fun x s₄ =>
       wpAny (model prog w) A (call (.builtin "list.append") [acc,x]) (fun _ s₅=>∃m,m<n∧I m s₅) E s₄) E s₃
      else ∃m,m<n∧I m s₃) E s₂) E s₀) E s₁) E s)
  (n:Nat) (h:I n s):codeAny (model prog w) A (.compLoop (.ListComp elt [⟨target,iter,ifs,0⟩] scope pos) 0 it acc env) R s:=by
 have go:∀ {α:Type} {t:Sem α} {Q:α→Shared→Prop} {s:Shared},wpAny (model prog w) A t Q E s→wpAny (model prog w) A t Q (notedBy (model prog w) A env fun e s'=>R (.error e) s') s :=
  fun {α t Q s} q=>wpAny_mono q (fun _ _ z=>z) fun e s' z=>(hE e s' z).elim
 refine codeAny_loop rfl I (fun n s hI=>?_) n h
 show wpAny _ A ((compTurn (.ListComp elt [⟨target,iter,ifs,0⟩] scope pos) 0 it acc env).onRaise (fun x=>do noteFrame x env;theTreesLotGoes x)) _ _ s
 refine wpAny_noted ?_
 rw[compTurn_list]
 refine wpAny_bind (wpAny_standAt (wpAny_bind (thn (go (turn n s hI)) fun r s₁ h₁=>?_)))
 cases r with
 | none=>exact wpAny_pure h₁
 | some v =>
  refine wpAny_bind (thn (go h₁) fun _ s₀ h₀=>wpAny_bind (thn (go h₀) fun _ s₂ h₂=>wpAny_bind (thn (go h₂) fun ok s₃ h₃=>?_)))
  cases ok with
  | false=>exact wpAny_pure ⟨rfl,h₃⟩
  | true =>
   exact wpAny_bind (wpAny_bind (thn (go h₃) fun x s₄ h₄=>wpAny_bind (thn (go h₄) fun _ s₅ h₅=>wpAny_pure (wpAny_pure ⟨rfl,h₅⟩))))
end
def ZdE(J:It)(D:Addr)(k:Nat)(σ:St)(H1:Hp)(g:TG)(tc:TT)(te:TE)(Q:VK):Prop :=
 ∃W:Nat→Nat→List V→St→Hp→Prop,(∃m,W 0 m [] (σ++List.replicate k none) (upd H1 D (.lst []))) ∧
  ∀i m ys σ2 H2,W i m ys σ2 H2→(J.stop i H2∧Q (.ref D) H2) ∨
   (J.go i H2∧∃N:List V→St→Hp→Prop,(∀ys' σ' H',N ys' σ' H'→∃m',m'<m∧W (i+1) m' ys' σ' H')∧∀x H3,J.yld i H2 x H3→g x σ2 H3 fun σ4 H4=>tc σ4 H4 fun b H5 =>
    if b=true then te σ4 H5 fun y H6=>H6 D=some (.lst ys)∧ys.length<sizeLine∧N (ys++[y]) σ4 (upd H6 D (.lst (ys++[y]))) else N ys σ4 H5)
def Zf1(n:Nat)(wi:TI)(g:TG)(tc:TT)(te:TE):TE:=fun σ H Q=>wi σ H fun J H1=>∀D,H1 D=none→ZdE J D n σ H1 g tc te Q
section
variable {X:Cx} {N N':List Str} {o c:Scope}
theorem ZdY{elt tg iter:Expr}{ifs:List Expr}{pos pos':Pos}{wi:TI}{g:TG}{tc:TT}{te:TE}{use:Option (Value→Sem Unit)}{QQ:Value→Shared→Prop}(S:ZM N N' o c)(hN:X.N=N)(ho:X.env.scope=o)(hc:X.calm=true)
  (hi:PI X tg iter wi) (hg:∀C s H fp,PG (ZS X c N' C s H fp) tg g) (ht:∀C s H fp,PTs (ZS X c N' C s H fp) ifs tc) (he:∀C s H fp,PE (ZS X c N' C s H fp) elt te)
  (hs:∀x,foldedSetIterable iter X.env x=pure x) {pins:List (Addr×Obj)} {s:Shared} {σ:St} {H:Hp} {Q:VK} (I:Inv X pins σ H s) (h:Zf1 (N'.length-N.length) wi g tc te σ H Q)
  (post:∀ (D C:Addr) (s5:Shared) (H5:Hp) (m:Str→Option Value),Inv X pins σ H5 s5→H5 C=none→s5.heap.Ns C m→C≠X.env.locals→X.s₀.heap.objs.size≤C→(∀x a,X.env.cells.lookup x=some a→a≠C)→(∀p∈X.pn++pins,p.1≠C) →
   Q (.ref D) H5→compPost (model X.prog X.w) X.A X.xe use QQ (.ref D) C (.ok .next) s5) :
  wpAny (model X.prog X.w) X.A (comprehension (.ListComp elt [⟨tg,iter,ifs,0⟩] c pos) c X.env pos' (newList []) false (eval iter X.env) use) QQ X.xe s:=by
 have hclos:closureFor c X.env=pure (ZT X.env.cells c.names []):=ZcZ fun y hy hf=>by
  refine I.ok.has y.1 ?_
  show X.env.scope.names.lookup y.1=_∨X.env.scope.names.lookup y.1=_
  rw[ho];exact(S.free y hy hf).2
 refine wpAny_comprehension_free (use:=use) rfl hs hclos S.kind S.loc (thn (hi pins s σ H _ I h) fun v s1 h1=>thn h1 fun itv s2 h2=>?_)
 obtain⟨it,fp,tn,J,H2,e,I2,T,st2,f2,hR⟩:=h2
 subst e
 have hD:H2 s2.heap.objs.size=none:=I2.fresh
 have I3:Inv X pins σ (upd H2 s2.heap.objs.size (.lst [])) { s2 with heap:=s2.heap.push { cls:=.type "list",data:=.seq ([]:List Value).toArray } } :=
  I2.lnew (ys:=[]) (its:=[]) (t':=s2.toks) .nil (Qx _)
 have fpl:∀b∈fp,b<s2.heap.objs.size:=fun b hb=>by
  obtain⟨ob,e,_⟩:=T.obj 0 _ st2 b hb
  exact Qk e
 refine wpAny_newObj_type (wpAny_newFunctionEnv S.nocell (by intro y hy;simp at hy) (fun h₁ hns₁ hsb₁=>?_) S.kind)
 have e3:∃s3:Shared,s3={ s2 with heap:=s2.heap.push { cls:=.type "list",data:=.seq ([]:List Value).toArray } }:=⟨_,rfl⟩
 obtain⟨s3,hs3⟩:=e3
 have e3:s3.heap=s2.heap.push { cls:=.type "list",data:=.seq ([]:List Value).toArray }:=by rw[hs3]
 have sz3:s3.heap.objs.size=s2.heap.objs.size+1:=by rw[e3,Qan]
 have fpl3:∀b∈fp,b<s3.heap.objs.size:=fun b hb=>Qy (fpl b hb) (by rw[sz3];exact Qal _)
 have f3:∀b∈fp,Zct X pins (upd H2 s2.heap.objs.size (.lst [])) b:=fun b hb=>⟨by rw[Ze (Qs (fpl b hb))];exact(f2 b hb).1,(f2 b hb).2⟩
 have st3:tn 0 s3.heap:=T.keep 0 _ _ st2 fun b _ ob e=>by rw[e3];exact Qb _ e
 rw[← hs3]at I3
 show codeAny (model X.prog X.w) X.A (.compStart _ 0 (.ref it) (.ref s2.heap.objs.size) (compEnvC c (ZT X.env.cells c.names []) (s2.heap.push { cls:=.type "list",data:=.seq ([]:List Value).toArray }).objs.size X.env))
  (compPost (model X.prog X.w) X.A X.xe use QQ (.ref s2.heap.objs.size) (s2.heap.push { cls:=.type "list",data:=.seq ([]:List Value).toArray }).objs.size)
  { s2 with heap:=h₁,toks:=s2.toks+([]:List (Str×Value)).length }
 have hns:h₁.Ns s3.heap.objs.size (fun x=>([]:List (Str×Value)).reverse.lookup x):=by rw[e3];exact hns₁
 have hk1:∀b ob,s3.heap.get? b=some ob→h₁.get? b=some ob:=fun b ob e=>by
  rw[e3]at e
  exact hsb₁.extBut b ob (Qs (Qk e)) (Qb _ e)
 rw[← e3]
 have es4:({ s2 with heap:=h₁,toks:=s2.toks+([]:List (Str×Value)).length }:Shared)={ s3 with heap:=h₁,toks:=s2.toks }:=by rw[hs3];rfl
 rw[es4]
 obtain⟨W,⟨m0,w0⟩,turn⟩:=hR s2.heap.objs.size hD
 have I4:=Zf6 (tk:=s2.toks) S hN ho I3 f3 fpl3 hns hk1
 have st4:tn 0 h₁:=T.keep 0 _ _ st3 fun b _ ob e=>hk1 b ob e
 generalize hX:ZS X c N' s3.heap.objs.size s3 (upd H2 s2.heap.objs.size (.lst [])) fp=Y at I4
 have Yp:Y.prog=X.prog:=by rw[← hX];rfl
 have Yw:Y.w=X.w:=by rw[← hX];rfl
 have YK:Y.K=X.K:=by rw[← hX];rfl
 have Yc:Y.calm=true:=by rw[← hX];exact hc
 have YA:Y.A=X.A:=by rw[← hX];rfl
 have Yenv:Y.env=compEnvC c (ZT X.env.cells c.names []) s3.heap.objs.size X.env:=by rw[← hX];rfl
 have Yl:Y.env.locals=s3.heap.objs.size:=by rw[Yenv];rfl
 have Yxe:Y.xe=fun _ _=>False:=by rw[← hX];rfl
 have hg':=hg s3.heap.objs.size s3 (upd H2 s2.heap.objs.size (.lst [])) fp
 have ht':=ht s3.heap.objs.size s3 (upd H2 s2.heap.objs.size (.lst [])) fp
 have he':=he s3.heap.objs.size s3 (upd H2 s2.heap.objs.size (.lst [])) fp
 rw[hX]at hg' ht' he'
 have stat:∀ {H':Hp},(∀b∈fp,H' b=none)→∀b∈fp,Zct Y [] H' b:=fun {H'} hn b hb=>by
  obtain⟨_,q1,q2,q3,q4,_⟩:=f3 b hb
  have z1:=I4.ok.exf b (by rw[← hX];exact hb)
  refine⟨hn b hb,z1.1,I4.ok.exfs b (by rw[← hX];exact hb),.inl (by rw[← hX];exact hb),z1.2,fun p hp=>?_⟩
  have hp':p∈([]:List (Addr×Obj)):=by
   have:Y.pn=[]:=by rw[← hX];rfl
   rw[this]at hp;exact hp
  cases hp'
 have fin:∀ (s5:Shared) (σ5:St) (H5:Hp),Inv Y [] σ5 H5 s5→Q (.ref s2.heap.objs.size) H5→compPost (model X.prog X.w) X.A X.xe use QQ (.ref s2.heap.objs.size) s3.heap.objs.size (.ok .next) s5:=fun s5 σ5 H5 I5 q=>by
  obtain⟨m,hn,_⟩:=id I5.loc
  rw[Yl]at hn
  have hCn:H5 s3.heap.objs.size=none:=by have:=I5.free;rw[Yl]at this;exact this
  have un:Un (frs X.stack) fp (upd H2 s2.heap.objs.size (.lst [])) H5 s3.heap s5.heap:=by
   have:=I5.base
   rw[← hX]at this
   exact this
  have os5:s5.os=s3.os:=by have:=I5.os;rw[← hX]at this;exact this
  have hok5:HOk X.prog X.w H5 s5.heap:=by
   have:=I5.hok
   rw[Yp,Yw]at this
   exact this
  refine post _ _ s5 H5 m (I3.call' (s':=s5) (ch:=fp) os5 un hok5 I5.bare fun b hb=>?_) hCn hn (QaR I3.lt) I3.sz (fun x a e=>?_) (fun p hp=>?_) q
  ·obtain⟨_,q1,_,q3,q4,q5⟩:=f3 b hb
   exact⟨q3,q1,q4,q5⟩
  ·obtain⟨v,ob,e',_⟩:=I3.cell x a e
   exact Qs (Qk e')
  ·exact Qs (Qk (I3.pin p hp).1)
 have loop:codeAny (model X.prog X.w) X.A (.compLoop (.ListComp elt [⟨tg,iter,ifs,0⟩] c pos) 0 (.ref it) (.ref s2.heap.objs.size) (compEnvC c (ZT X.env.cells c.names []) s3.heap.objs.size X.env))
   (compPost (model X.prog X.w) X.A X.xe use QQ (.ref s2.heap.objs.size) s3.heap.objs.size) { s3 with heap:=h₁,toks:=s2.toks }:=by
  rw[← Yenv,← YA]
  refine ZdC (E:=fun _ _=>False) (fun n s'=>∃i ys σ' H',Inv Y [] σ' H' s'∧tn i s'.heap∧(∀b∈fp,H' b=none)∧W i n ys σ' H') (fun _ _ z=>z) ?_ m0
   ⟨0,[],_,_,I4,st4,fun b hb=>(f3 b hb).1,?_⟩
  ·rintro n s5 ⟨i,ys,σ5,H5,I5,st5,fr5,w5⟩
   rcases turn i n ys σ5 H5 w5 with⟨stop,qn⟩|⟨go,Nn,hNn,step⟩
   ·refine thn (T.done Y Yp Yw YK Yc i [] s5 σ5 H5 _ I5 (stat fr5) st5 stop) ?_
    rintro r s6 ⟨hr,I6⟩
    subst hr
    have fq:=fin s6 σ5 H5 I6 qn
    rw[← YA]at fq
    exact fq
   ·refine thn (T.item Y Yp Yw YK Yc i [] s5 σ5 H5 _ I5 (stat fr5) st5 go) ?_
    rintro r s6 ⟨u,hr,h6⟩
    subst hr
    refine thn h6 ?_
    rintro _ s7 ⟨x,H7,I7,r7,y7,st7,fr7⟩
    have I7':=I7.pinned (stat fr7) (T.obj _ _ st7)
    have back:∀ {σ9:St} {H9:Hp} {s9:Shared},Inv Y ([]++Zcy fp s7.heap) σ9 H9 s9→Inv Y [] σ9 H9 s9∧tn (i+1) s9.heap∧∀b∈fp,H9 b=none:=fun {σ9 H9 s9} I9=>by
     refine⟨I9.unpinned,T.keep _ _ _ st7 fun b hb ob e=>(I9.pin (b,ob) (Qi _ (Qi _ (Za4 hb e)))).1,fun b hb=>?_⟩
     obtain⟨ob,e,d⟩:=T.obj _ _ st7 b hb
     exact(I9.pin (b,ob) (Qi _ (Qi _ (Za4 hb e)))).2.1
    have P1:=hg' _ s7 σ5 H7 x u _ I7' r7 (step x H7 y7)
    rw[Yp,Yw,Yxe]at P1
    refine thn P1 ?_
    rintro _ s8 ⟨σ8,H8,I8,q8⟩
    have P2:=ht' _ s8 σ8 H8 _ I8 q8
    rw[Yp,Yw,Yxe]at P2
    refine thn P2 ?_
    rintro ok s9 ⟨H9,I9,q9⟩
    cases ok with
    | false =>
     rw[if_neg Qz]at q9
     rw[if_neg Qz]
     obtain⟨b1,b2,b3⟩:=back I9
     obtain⟨m',hm',w9⟩:=hNn _ _ _ q9
     exact⟨m',hm',i+1,ys,σ8,H9,b1,b2,b3,w9⟩
    | true =>
     rw[if_pos rfl]at q9
     rw[if_pos rfl]
     have P3:=he' _ s9 σ8 H9 _ I9 q9
     rw[Yp,Yw,Yxe]at P3
     refine thn P3 ?_
     rintro y s10 ⟨vy,H10,I10,r10,hDl,hsz,q10⟩
     have P4:=Zao (X:=Y) _ s10 σ8 H10 (.ref s2.heap.objs.size) [vy] (.ref s2.heap.objs.size) [y] (fun _ H'=>Nn (ys++[vy]) σ8 H') I10 rfl (.cons r10 .nil) ⟨_,ys,vy,rfl,rfl,hDl,hsz,q10⟩
     rw[Yp,Yw,Yxe]at P4
     refine thn P4 ?_
     rintro _ s11 ⟨_,H11,I11,_,q11⟩
     obtain⟨b1,b2,b3⟩:=back I11
     obtain⟨m',hm',w11⟩:=hNn _ _ _ q11
     exact⟨m',hm',i+1,ys++[vy],σ8,H11,b1,b2,b3,w11⟩
  ·exact w0
 have lp:=T.self X.A 0 { s3 with heap:=h₁,toks:=s2.toks } (fun it' s'=>codeAny (model X.prog X.w) X.A (.compLoop (.ListComp elt [⟨tg,iter,ifs,0⟩] c pos) 0 it' (.ref s2.heap.objs.size) (compEnvC c (ZT X.env.cells c.names []) s3.heap.objs.size X.env))
   (compPost (model X.prog X.w) X.A X.xe use QQ (.ref s2.heap.objs.size) s3.heap.objs.size) s') (fun _ _=>False) st4 loop
 exact codeAny_compStart_list loop (wpAny_mono lp (fun _ _ z=>z) fun _ _ z=>z.elim)
theorem Inv.let{pins:List (Addr×Obj)}{σ:St}{H:Hp}{s:Shared}{C:Addr}{h':Heap}(I:Inv X pins σ H s)(hn:H C=none)(hL:C≠X.env.locals)(h1:X.s₀.heap.objs.size≤C)
  (h2:∀x a,X.env.cells.lookup x=some a→a≠C) (h3:∀p∈X.pn++pins,p.1≠C) (hs:Heap.SameBut C s.heap h'):Inv X pins σ H { s with heap:=h' } :=
 I.turned (t':=s.toks) (fun b ob hb e=>hs.extBut b ob hb e) hn hL (.inr h1) h2 h3
theorem Zbr{elt tg iter:Expr}{ifs:List Expr}{pos:Pos}{wi:TI}{g:TG}{tc:TT}{te:TE}(S:ZM N N' o c)(hN:X.N=N)(ho:X.env.scope=o)(hc:X.calm=true)
  (hi:PI X tg iter wi) (hg:∀C s H fp,PG (ZS X c N' C s H fp) tg g) (ht:∀C s H fp,PTs (ZS X c N' C s H fp) ifs tc) (he:∀C s H fp,PE (ZS X c N' C s H fp) elt te)
  (hs:∀x,foldedSetIterable iter X.env x=pure x:=by intro _;rfl) :
  PE X (.ListComp elt [⟨tg,iter,ifs,0⟩] c pos) (Zf1 (N'.length-N.length) wi g tc te):=by
 intro pins s σ H Q I h
 rw[eval_ListComp]
 refine ZdY (use:=none) S hN ho hc hi hg ht he hs I h fun D C s5 H5 m I5 hCn hn n1 n2 n3 n4 q=>⟨m,hn,fun h' hsb=>?_⟩
 exact⟨.ref D,H5,I5.let hCn n1 n2 n3 n4 hsb,rfl,q⟩
theorem ZcB{i:Nat}{x:Str}{elt tg iter:Expr}{ifs:List Expr}{pos pos' spos:Pos}{wi:TI}{g:TG}{tc:TT}{te:TE}(hnd:X.N.Nodup)(hx:X.N[i]? = some x)(hl:Loc X.env.scope x)(S:ZM N N' o c)(hN:X.N=N)(ho:X.env.scope=o)(hc:X.calm=true)
  (hi:PI X tg iter wi) (hg:∀C s H fp,PG (ZS X c N' C s H fp) tg g) (ht:∀C s H fp,PTs (ZS X c N' C s H fp) ifs tc) (he:∀C s H fp,PE (ZS X c N' C s H fp) elt te)
  (hsw:swapsWith (.ListComp elt [⟨tg,iter,ifs,0⟩] c pos) (some (.Name x pos')) spos.line X.env=pure true)
  (hs:∀x,foldedSetIterable iter X.env x=pure x:=by intro _;rfl) (hf:X.fn x=true∨X.env.scope.names.lookup x=some .local:=by first|exact .inl rfl|exact .inr rfl|assumption) :
  PS X (.Assign [.Name x pos'] (.ListComp elt [⟨tg,iter,ifs,0⟩] c pos) spos) (ZiO (Zf1 (N'.length-N.length) wi g tc te) (Ze6 i)):=by
 intro pins s σ H D I h
 rw[exec_Assign_Name_used _ _ _ _ hsw]
 refine wpAny_bind (wpAny_standAt (wpAny_bind ?_))
 show wpAny _ X.A (do let _ ← comprehension (.ListComp elt [⟨tg,iter,ifs,0⟩] c pos) c X.env _ (newList []) false (eval iter X.env) (some (assign (.Name x pos') X.env))) _ _ s
 refine wpAny_bind (thn (ZdY (QQ:=fun _ s'=>SP X pins D .next s') (use:=some (assign (.Name x pos') X.env)) S hN ho hc hi hg ht he hs I h ?_) fun _ s' hq=>wpAny_pure (wpAny_pure hq))
 intro L C s5 H5 m I5 hCn hn n1 n2 n3 n4 q
 show wpAny _ X.A (assign (.Name x pos') X.env (.ref L)) _ _ _
 refine wpAny_assign_Name (Zdi (v:=.ref L) I5 hnd hx hl rfl (?_) hf)
 rintro s6 I6 ⟨a,hsb,ha⟩
 have nCa:C≠a:=by
  rcases ha with z|z
  ·rw[z];exact n1
  ·exact(n3 x a z).symm
 exact⟨m,hn.sameBut hsb nCa,fun h' hsb'=>⟨_,H5,I6.let hCn n1 n2 n3 n4 hsb',q⟩⟩
end
theorem Zby{ys:List Str}:∀ {us:List Value},Zl (ys.map V.str) us→StrsAre us ys:=by
 induction ys with
 | nil=>intro us r;rw[Qar]at r;cases r;exact .nil
 | cons y ys ih =>
  intro us r
  rw[Qw]at r
  cases r with
  | cons r1 r2 =>
   obtain⟨t,e⟩:=r1
   subst e
   exact .cons _ _ (ih r2)
theorem ZbX:∀ {vs:List Value} {ys:List Str},StrsAre vs ys→Zl (ys.map V.str) vs
 | _,_,.nil=>.nil
 | _,_,.cons _ t h=>.cons ⟨t,rfl⟩ (ZbX h)
section
variable {X:Cx}
theorem ZfX(hc:X.calm=true):ZX X (.builtin "all") (fun xs H Q=>∃ (p:Addr) (bs:List Bool),xs=[.ref p]∧SqL X.K H p (bs.map V.bl)∧Q (.bl (bs.all id)) H):=by
 intro pins s σ H xs us Q I r h
 obtain⟨p,bs,rfl,hq,q⟩:=h
 obtain⟨u,rfl,rx⟩:=ZaK r
 cases rx
 obtain⟨its,rv,pl,hz⟩:=I.list hq
 have hl:=pl.isList
 have hlt:p<s.heap.objs.size:=by obtain⟨_,e,_⟩:=hl;exact Qk e
 refine call_all_walk (wpAny_pyIter_list hl ?_)
 refine⟨s.heap.objs.size,[s.heap.objs.size,p],[s.heap.objs.size],its.toArray.size,_,_,fun i=>(bs[i]?).getD true,rfl,Walks.list (A:=X.A.in1) (I.ok.hd hc) _ p (Qs hlt) its.toArray,
  ⟨⟨_,Qq _ rfl,rfl,rfl⟩,hl.push _⟩,fun i v s' Q' E' hP hQ=>?_,fun h' tk hk=>?_⟩
 ·have hP':its[i]? = some v:=by simpa using hP
  have hi:i<its.length:=(Qp.mp hP').1
  have hlen:=rv.length
  have hb:(bs.map V.bl)[i]? = some (V.bl (bs[i]'(by rw[Qa]at hlen;omega))):=by
   rw[Qn,Qd (by rw[Qa]at hlen;omega)];rfl
  obtain⟨u',hu',ru'⟩:=rv.get hb
  rw[hP']at hu';cases hu'
  obtain rfl:v=Value.bool _:=ru'
  have hQ2:Q' ((bs[i]?).getD true) s':=hQ
  rw[Qd (by rw[Qa]at hlen;omega)]at hQ2
  exact wpAny_truthy_bool hQ2
 ·have e:((List.range its.toArray.size).all fun i=>(bs[i]?).getD true)=bs.all id:=by
   have hlen:=rv.length
   rw[Qa]at hlen
   rw[Qm,← hlen,QaN,List.all_eq_true,List.all_eq_true]
   constructor
   ·intro z b hb
    obtain⟨i,hi,rfl⟩:=Qag.mp hb
    have:=z i (Qam.mpr hi)
    rw[Qd hi]at this
    exact this
   ·intro z i hi
    have hi':=Qam.mp hi
    rw[Qd hi']
    exact z _ (QI hi')
  refine⟨.bl (bs.all id),H,I.kept fun b ob e'=>hk b ob (fun hm=>?_) (Qb _ e'),by rw[e];rfl,q⟩
  rw[Qe.mp hm]at e'
  exact Qav _ (Qk e')
theorem ZdR:ZX X (.builtin "sorted") (fun xs H Q=>∃ (p:Addr) (ns:List Int),xs=[.ref p]∧SqL X.K H p (ns.map V.int)∧ns.length<64 ∧
  ∀ (l:Addr) (ns':List Int),H l=none→ns'.Perm ns→ns'.Pairwise (·≤·)→Q (.ref l) (upd H l (.lst (ns'.map V.int)))):=by
 intro pins s σ H xs us Q I r h
 obtain⟨p,ns,rfl,hq,h64,q⟩:=h
 obtain⟨u,rfl,rx⟩:=ZaK r
 cases rx
 obtain⟨its,rv,pl,hz⟩:=I.list hq
 have hlen:=rv.length
 rw[Qa]at hlen hz
 refine sorted_ints pl.isList (ZbE rv) (by omega) fun out ns' a1 a2 a3=>?_
 obtain⟨e,he⟩:=sortedAll_at s.heap its out
 have hp:=a2.length_eq
 refine⟨.ref (s.heap.objs.size+1),_,I.laid (t':=s.toks) (o:=.lst (ns'.map V.int)) (fun _ _=>sortedAll_old) (Qal _) ⟨by rw[Qa];omega,out.toList,e,ZbY a1,by simpa using he⟩,rfl,q _ ns' (I.hok.fresh (Qal _)) a2 a3⟩
theorem ZdM:ZX X (.builtin "sorted") (fun xs H Q=>∃ (p:Addr) (ss:List Str),xs=[.ref p]∧SqL X.K H p (ss.map V.str)∧ss.length<64 ∧
  ∀ (l:Addr) (ss':List Str),H l=none→ss'.Perm ss→sortedS ss'=true→Q (.ref l) (upd H l (.lst (ss'.map V.str)))):=by
 intro pins s σ H xs us Q I r h
 obtain⟨p,ss,rfl,hq,h64,q⟩:=h
 obtain⟨u,rfl,rx⟩:=ZaK r
 cases rx
 obtain⟨its,rv,pl,hz⟩:=I.list hq
 have hlen:=rv.length
 rw[Qa]at hlen hz
 refine sorted_strs pl.isList (Zby rv) (by omega) fun out ss' a1 a2 a3=>?_
 obtain⟨e,he⟩:=sortedAll_at s.heap its out
 have hp:=a2.length_eq
 refine⟨.ref (s.heap.objs.size+1),_,I.laid (t':=s.toks) (o:=.lst (ss'.map V.str)) (fun _ _=>sortedAll_old) (Qal _) ⟨by rw[Qa];omega,out.toList,e,ZbX a1,by simpa using he⟩,rfl,q _ ss' (I.hok.fresh (Qal _)) a2 a3⟩
theorem ZhV:MtR X "str.join" (fun x vs H Q=>∃ (sep:Str) (p:Addr) (ys:List Str),x=.str sep∧vs=[.ref p]∧SqL X.K H p (ys.map V.str)∧(ys.map (·.length)).sum+ys.length*sep.length≤16777216∧Q (.str (Txt.join sep ys)) H):=by
 intro pins s σ H x vs v us Q I rx rv h
 obtain⟨sep,p,ys,rfl,rfl,hq,hz,q⟩:=h
 obtain⟨t,rfl⟩:=rx
 obtain⟨u,rfl,ru⟩:=rv.one
 cases ru
 obtain⟨its,r',pl,_⟩:=I.list hq
 exact join_list pl.isList (Zby r') hz fun t' k=>⟨.str _,H,I.tok _,⟨_,rfl⟩,q⟩
theorem ZhQ:OpR X (binaryOp .Mult) (fun x y H Q=>∃a n,x=.str a∧y=.int n∧0≤n∧n≤1000000∧(a.length:Int)*n≤1000000∧Q (.str (Txt.mul a n)) H):=by
 intro pins s σ H x y v u Q I rx ry h
 obtain⟨a,n,rfl,rfl,h0,h1,h2,q⟩:=h
 obtain⟨t,rfl⟩:=rx
 obtain⟨t',rfl⟩:=ry
 have h2':a.length*n.toNat≤1000000:=by
  have e:((a.length*n.toNat:Nat):Int)=(a.length:Int)*n:=by rw[Int.natCast_mul,Int.toNat_of_nonneg h0]
  omega
 refine PySem.P.mul_str ?_ (fun c1 c2=>?_) (fun c1 c2=>?_) ?_
 ·have e1:decide (n < -(2 ^ 63:Int))=false:=decide_eq_false (by omega)
  have e2:decide (n≥2 ^ 63)=false:=decide_eq_false (by omega)
  rw[e1,e2];rfl
 ·have hn:(1:Int)≤n:=by omega
  have q1:(a.length:Int)*1≤(a.length:Int)*n:=Int.mul_le_mul_of_nonneg_left hn (Int.natCast_nonneg _)
  have q2:(1000000:Int)≤(2 ^ 63-1) / n:=by
   rw[Int.le_ediv_iff_mul_le (by omega)]
   have:(1000000:Int)*n≤1000000*1000000:=Int.mul_le_mul_of_nonneg_left h1 (by decide)
   omega
  omega
 ·unfold Builtin.Str.tooLong
  have hl:sizeLine=16777216:=sizeLine_eq
  exact decide_eq_false (by omega)
 ·have e:Txt.mul a n=if n<1 then Str.empty else if (n == 1||a.length == 0)=true then a else ⟨(List.replicate n.toNat a.cps).foldl (·++·) #[]⟩:=rfl
  rw[e]at q
  by_cases c1:n<1
  ·rw[if_pos c1]at q ⊢
   exact⟨by decide,.str _,H,I.tok _,⟨_,rfl⟩,q⟩
  ·rw[if_neg c1]at q ⊢
   by_cases c2:(n == 1||a.length == 0)=true
   ·rw[if_pos c2]at q ⊢
    exact⟨.str _,H,I,⟨_,rfl⟩,q⟩
   ·rw[if_neg c2]at q ⊢
    refine⟨?_,.str _,H,I.tok _,⟨_,rfl⟩,q⟩
    have hfold:∀ (k:Nat) (acc:Array Nat),((List.replicate k a.cps).foldl (·++·) acc).size=acc.size+k*a.cps.size:=by
     intro k
     induction k with
     | zero=>intro acc;simp
     | succ k ih=>intro acc;rw[List.replicate_succ,List.foldl_cons,ih,Array.size_append,Nat.succ_mul];omega
    show ((List.replicate n.toNat a.cps).foldl (·++·) #[]).size≤sizeLine
    rw[hfold]
    have e2:a.cps.size=a.length:=rfl
    have:n.toNat*a.cps.size≤1000000:=by rw[e2,Nat.mul_comm];exact h2'
    have hl:sizeLine=16777216:=sizeLine_eq
    simp only[List.size_toArray,List.length_nil]
    omega
end
inductive Src where
 | l (a:Addr)|t (a:Addr)|s (z:Str)
def Src.val:Src→V
 | .l a=>.ref a
 | .t a=>.ref a
 | .s z=>.str z
def Zhd(c:Nat):V:=.str ⟨#[c]⟩
def Src.its(K:PySem.W.Frag)(H:Hp):Src→List V→Prop
 | .l a,xs=>SqL K H a xs
 | .t a,xs=>SqT K H a xs
 | .s z,xs=>xs=z.cps.toList.map Zhd
def Src.at(h:Heap)(i:Addr):Src→Nat→Prop
 | .l a,k=>h.IsListIter i a k
 | .t a,k=>h.IsTupleIter i a k
 | .s z,k=>∃tk,h.IsStrIter i (strIterType z) z tk k
def Src.many:Src→List Value→Nat
 | .l _,us=>us.length
 | .t _,us=>us.length
 | .s z,_=>z.cps.size
def Src.off:Src→Addr→Prop
 | .l a,b=>a≠b
 | .t a,b=>a≠b
 | .s _,_=>True
section
variable {prog:Program} {w:World} {A:Around} {E:Value→Shared→Prop} {s:Shared}
end
def Src.iter(tk:Tok):Src→Obj
 | .l a=>{ cls:=.type "list_iterator",data:=.fields #[.ref a,.int 0 0] }
 | .t a=>{ cls:=.type "tuple_iterator",data:=.fields #[.ref a,.int 0 0] }
 | .s z=>{ cls:=.type (strIterType z),data:=.fields #[.str z tk,.int 0 0] }
def Src.value(tk:Tok):Src→Value
 | .l a=>.ref a
 | .t a=>.ref a
 | .s z=>.str z tk
section
variable {prog:Program} {w:World} {A:Around} {E:Value→Shared→Prop} {s:Shared}
end
section
variable {X:Cx} {pins:List (Addr×Obj)} {σ:St} {H:Hp} {s:Shared}
theorem Inv.zipped{fp:List Addr}{h':Heap}{tk:Nat}{x y:V}{u v:Value}(I:Inv X pins σ H s)(hf:∀b∈fp,Zct X pins H b)(rx:Zv x u)(ry:Zv y v)
  (hp:IsPair h' s.heap.objs.size u v) (hfh:∀b∈fp,∃o,h'.get? b=some o) (hk:∀c o,c ∉ fp→s.heap.get? c=some o→h'.get? c=some o) :
  Inv X pins σ (upd H s.heap.objs.size (.tup [x,y])) { s with heap:=h',toks:=tk }:=by
 have hn:H s.heap.objs.size=none:=I.fresh
 have ne:∀b ob,s.heap.get? b=some ob→b≠s.heap.objs.size:=fun b ob e=>Qs (Qk e)
 have nt:∀b u,H b=some u→b≠s.heap.objs.size:=fun b u e=>Zb e hn
 have nfp:∀b u,H b=some u→b ∉ fp:=fun b u e hb=>by rw[(hf b hb).1]at e;cases e
 refine I.step (g':=s.gens) (d':=s.drawn) (ch:=fp) (fun b hb=>⟨(hf b hb).2.2.2.1,(hf b hb).2.1,(hf b hb).2.2.2.2.1,(hf b hb).2.2.2.2.2⟩)
  (fun b ob _ _ hc e _=>hk b ob hc e) (fun b ob _ _ hc e _=>⟨ob.slots,hk b ob hc e⟩) (fun b ob _ e n=>by rw[Ze (ne b ob e)];exact n) (fun b ob hc e=>⟨ob,hk b ob hc e⟩)
  (fun b xs e=>by rw[Ze (nt b _ e)];exact e) (fun b ob u e=>by rw[Ze (nt b _ e)];exact e) (fun b ps e=>⟨#[],by rw[Ze (nt b _ e),e];simp⟩) (fun m hm=>?_) (fun b ub e=>?_) I.bare
 ·obtain⟨ob,es,ep,ho,r⟩:=hm
  exact⟨ob,es,ep,hk _ ob (fun z=>(hf _ z).2.1 rfl) ho,r⟩
 ·by_cases hb:b=s.heap.objs.size
  ·subst hb
   rw[Zc]at e;cases e
   exact⟨by show 2≤sizeLine;decide,[u,v],.cons rx (.cons ry .nil),⟨_,hp,rfl,_,rfl⟩⟩
  ·rw[Ze hb]at e
   refine(I.hok b ub e).stay (fun c w' hc q=>hk c w' ?_ q) (fun c q=>by rw[Ze (nt c _ q)];exact q) fun c xs q=>by rw[Ze (nt c _ q)];exact q
   rcases hc with z|z
   ·rw[z];exact nfp b ub e
   ·exact nfp c _ z
end
section
variable {X:Cx} (K:PySem.W.Frag)
theorem ixL(h:X.K=K:=by rfl):IxR X (Zjd K):=by subst h;exact Zhr
theorem slL(h:X.K=K:=by rfl):SlR X (ZiY K):=by subst h;exact ZhO
def Zjn:List V→Hp→VK→Prop:=fun xs H Q=>∃p ys,xs=[.ref p]∧(SqL K H p ys∨SqT K H p ys)∧Q (.int ys.length) H
theorem ZbF(h:X.K=K:=by rfl):ZX X (.builtin "len") (Zjn K):=by subst h;exact ZdA
def Zjs:List V→Hp→VK→Prop:=fun xs H Q=>∃ (p:Addr) (bs:List Bool),xs=[.ref p]∧SqL K H p (bs.map V.bl)∧Q (.bl (bs.all id)) H
theorem Zi8(hc:X.calm=true:=by rfl)(h:X.K=K:=by rfl):ZX X (.builtin "all") (Zjs K):=by subst h;exact ZfX hc
def Zje:List V→Hp→VK→Prop:=fun xs H Q=>∃ (p:Addr) (ns:List Int),xs=[.ref p]∧SqL K H p (ns.map V.int)∧ns.length<64 ∧
  ∀ (l:Addr) (ns':List Int),H l=none→ns'.Perm ns→ns'.Pairwise (·≤·)→Q (.ref l) (upd H l (.lst (ns'.map V.int)))
theorem Zjz(h:X.K=K:=by rfl):ZX X (.builtin "sorted") (Zje K):=by subst h;exact ZdR
def ZiW:List V→Hp→VK→Prop:=fun xs H Q=>∃ (p:Addr) (ss:List Str),xs=[.ref p]∧SqL K H p (ss.map V.str)∧ss.length<64 ∧
  ∀ (l:Addr) (ss':List Str),H l=none→ss'.Perm ss→sortedS ss'=true→Q (.ref l) (upd H l (.lst (ss'.map V.str)))
theorem ZgF(h:X.K=K:=by rfl):ZX X (.builtin "sorted") (ZiW K):=by subst h;exact ZdM
def Zjg:V→List V→Hp→VK→Prop:=fun x vs H Q=>∃ (sep:Str) (p:Addr) (ys:List Str),x=.str sep∧vs=[.ref p]∧SqL K H p (ys.map V.str)∧(ys.map (·.length)).sum+ys.length*sep.length≤16777216∧Q (.str (Txt.join sep ys)) H
theorem ZiQ(h:X.K=K:=by rfl):MtR X "str.join" (Zjg K):=by subst h;exact ZhV
theorem iL{tg l:Expr}{tl:TE}(hl:PE X l tl)(h:X.K=K:=by rfl):PI X tg l (ZhZ K tl):=by subst h;exact ZhE hl
theorem gT{es:List Expr}{k:Nat}{t:TGs}{n:Nat}{pos:Pos}(h:PGs X es t)(hK:X.K=K:=by rfl)(hc:X.calm=true:=by rfl)
  (hn:(assignEach es X.env).length=n:=by rfl) (hst:(assignEach es X.env).findIdx? (·.1)=none:=by rfl):PG X (.Tuple es k pos) (Zjm K n t):=by subst hK;exact Ziu hc h hn hst
end
structure Df (P:Program) (w:World) (K:PySem.W.Frag) (mg:Str→Option Value) (base:Heap) (k:Nat) (x:Str) (ps:List Str) (sp:Sp):Prop where
 ex:∃f fd,Zcf P w K mg base CX0 k f fd ps sp∧mg x=some (.ref f)∧PySem.W.keepIn K (.ref f)=true∧Zbe K fd ps []
section
variable {P:Program} {w:World} {K:PySem.W.Frag} {mg:Str→Option Value} {base:Heap}
structure Top (K:PySem.W.Frag) (mg:Str→Option Value) (x:Str) (st:Stmt) (ps:List Str):Prop where
 ex:∃f fd,Fun K x x st f fd∧mg x=some (.ref f)∧Zbe K fd ps []
theorem Top.df{x:Str}{st:Stmt}{N ps:List Str}{k:Nat}{sp:Sp}(T:Top K mg x st ps)(S:Zy N ps (Zg st))(len:∀vs H Q E,sp vs H Q E→vs.length=ps.length)
  (hbody:∀ (cdv:Value) (f:Addr) (A:Around) (outer:List Env) (s:Shared) (H:Hp) (vs:List V) (Q:VK) (E:XK),ZaE k (A.deeper (envOfC x (Zg st) s.heap.objs.size f cdv))→sp vs H Q E →
   ∃t,PSs (ZeX CX0 P w K mg base N x (Zg st) f cdv A outer s H E).nox (Zo st) t∧t { nx:=fun _ H'=>Q .non H',rt:=Q } (ZbQ N vs) H):Df P w K mg base (k+1) x ps sp:=by
 obtain⟨f,fd,F,m,b⟩:=T.ex
 exact⟨f,fd,F.ok S len (fun cdv A outer s H vs Q E hr h=>hbody cdv f A outer s H vs Q E hr h),m,F.kp,b⟩
end
section
variable {X:Cx} {k j:Nat} {x:Str} {ps:List Str} {sp:Sp} {e:Expr} {es:List Expr} {t:TA} {p pos:Pos}
theorem Zx(F:Df X.prog X.w X.K X.mg X.base k x ps sp)(hr:ZaE j X.A)(ha:PA X (e::es) t)(hjk:k≤j:=by decide)(hg:Gl X x:=by rfl)(hdb:(x == ("__debug__" : Str))=false:=by decide)
  (he:starEach (e::es) X.env=(false,eval e X.env)::starEach es X.env:=by rfl) (hpl:(backTo pos (starEach es X.env)).any (·.1)=false:=by rfl) :
  PE X (.Call (.Name x p) (e::es) [] pos) (Zh6 sp [] E0 t):=by
 obtain⟨f,fd,F,m,kp,b⟩:=F.ex
 exact Zhb F (hr.mono hjk) hg m kp b .nil Zi9 ha hdb he hpl
end
theorem ZbB{lo:Int}{n k:Nat}{D:Addr}{σ:St}{H1:Hp}{g:TG}{te:TE}{Q:VK}(Pv:Nat→List V→St→Hp→Prop)(h0:Pv 0 [] (σ++List.replicate k none) (upd H1 D (.lst [])))
  (hs:∀i ys σ H,i<n→Pv i ys σ H→g (.int (lo+i)) σ H fun σ4 H4=>te σ4 H4 fun y H6=>H6 D=some (.lst ys)∧ys.length<sizeLine∧Pv (i+1) (ys++[y]) σ4 (upd H6 D (.lst (ys++[y]))))
  (hd:∀ys σ H,Pv n ys σ H→Q (.ref D) H):ZdE (Itr lo n) D k σ H1 g ZeB te Q:=by
 refine⟨fun i m ys σ H=>m=n-i∧i≤n∧Pv i ys σ H,⟨n,by simp,Qx _,h0⟩,?_⟩
 rintro i m ys σ H ⟨rfl,hi,p⟩
 by_cases hlt:i<n
 ·refine .inr ⟨hlt,Pv (i+1),fun ys' σ' H' p'=>⟨n-(i+1),by omega,rfl,hlt,p'⟩,fun x H' y=>?_⟩
  obtain⟨e,y⟩:=y
  subst e y
  simp only[ZeB,↓reduceIte]
  exact hs i ys σ _ hlt p
 ·have e:i=n:=by omega
  subst e
  exact .inl ⟨Qj _,hd ys σ H p⟩
section
variable {X:Cx} {N N':List Str} {o c:Scope} {x:Str} {pos:Pos} {C:Addr} {s:Shared} {H:Hp} {fp:List Addr}
theorem Zbx(S:ZM N N' o c)(ho:X.env.scope=o)(hl:c.names.lookup x=some .local):(ZS X c N' C s H fp).env.scope.names.lookup x=some .local:=by
 have e:=ZaR (X:=X) S ho (ZT X.env.cells c.names []) C x
 rw[hl]at e
 exact e
theorem Zbq(S:ZM N N' o c)(ho:X.env.scope=o)(hl:c.names.lookup x=some .globalImplicit):Gl (ZS X c N' C s H fp) x:=by
 have e:=ZaR (X:=X) S ho (ZT X.env.cells c.names []) C x
 rw[hl]at e
 exact e
theorem ZgQ(S:ZM N N' o c)(ho:X.env.scope=o)(hl:c.names.lookup x=some .free):Vis (ZS X c N' C s H fp).env.scope x:=by
 have e:=ZaR (X:=X) S ho (ZT X.env.cells c.names []) C x
 rw[hl]at e
 have e':(ZS X c N' C s H fp).env.scope.names.lookup x=if X.env.kindOf x=some .cell then some NameKind.cell else some NameKind.free:=e
 by_cases z:X.env.kindOf x=some .cell
 ·rw[if_pos z]at e';exact .inr (.inl e')
 ·rw[if_neg z]at e';exact .inr (.inr e')
theorem cv(i:Nat)(S:ZM N N' o c)(ho:X.env.scope=o)(hl:c.names.lookup x=some .free)(hN:N'[i]? = some x:=by rfl)(hd:(x == ("__debug__" : Str))=false:=by decide)(hcd:(x == ("__classdict__" : Str))=false:=by decide) :
  PE (ZS X c N' C s H fp) (.Name x pos) (Zhp i):=ZeN hN (ZgQ S ho hl) hd hcd
theorem cw(i:Nat)(S:ZM N N' o c)(ho:X.env.scope=o)(hl:c.names.lookup x=some .local)(hN:N'[i]? = some x:=by rfl)(hd:(x == ("__debug__" : Str))=false:=by decide)(hcd:(x == ("__classdict__" : Str))=false:=by decide) :
  PE (ZS X c N' C s H fp) (.Name x pos) (Zhp i):=ZeN hN (.inl (Zbx S ho hl)) hd hcd
theorem cg(i:Nat)(S:ZM N N' o c)(ho:X.env.scope=o)(hl:c.names.lookup x=some .local)(hi:N'[i]? = some x:=by rfl):PG (ZS X c N' C s H fp) (.Name x pos) (Ze6 i) :=
 Zay S.nd hi (.inl (Zbx S ho hl)) (.inr (Zbx S ho hl))
end
mutual
inductive DV (K:PySem.W.Frag) (H:Hp):V→PyData→Prop where
 | non:DV K H .non .none
 | bl (b:Bool):DV K H (.bl b) (.bool b)
 | int (i:Int):DV K H (.int i) (.int i)
 | str (s:Str):DV K H (.str s) (.str s)
 | lst {a:Addr} {xs:List V} {ds:List PyData}:SqL K H a xs→DVs K H xs ds→DV K H (.ref a) (.list ds)
 | tup {a:Addr} {xs:List V} {ds:List PyData}:SqT K H a xs→DVs K H xs ds→DV K H (.ref a) (.tuple ds)
inductive DVs (K:PySem.W.Frag) (H:Hp):List V→List PyData→Prop where
 | nil:DVs K H [] []
 | cons {x:V} {d:PyData} {xs:List V} {ds:List PyData}:DV K H x d→DVs K H xs ds→DVs K H (x::xs) (d::ds)
end
section
variable {X:Cx} {pins:List (Addr×Obj)} {σ:St} {H:Hp} {s:Shared}
mutual
theorem Inv.reads(I:Inv X pins σ H s):∀ {x:V} {d:PyData} {u:Value},DV X.K H x d→Zv x u→∃as,Reads s.heap u d as
 | _,_,_,.non,r=>by cases r;exact⟨_,.none⟩
 | _,_,_,.bl b,r=>by cases r;exact⟨_,.bool b⟩
 | _,_,_,.int i,r=>by obtain⟨t,rfl⟩:=r;exact⟨_,.int i t⟩
 | _,_,_,.str z,r=>by obtain⟨t,rfl⟩:=r;exact⟨_,.str z t⟩
 | _,_,_,.lst h hs,r=>by
  cases r
  obtain⟨its,rv,⟨o,n,e,hc,_,hd⟩,_⟩:=I.list h
  obtain⟨as,q⟩:=Inv.readsAll I hs rv
  exact⟨_,reads_list_at e hc hd (by simpa using q)⟩
 | _,_,_,.tup h hs,r=>by
  cases r
  obtain⟨its,rv,⟨o,e,hc,n,hd⟩,_⟩:=I.tuple h
  obtain⟨as,q⟩:=Inv.readsAll I hs rv
  exact⟨_,reads_tuple_at e hc hd (by simpa using q)⟩
theorem Inv.readsAll(I:Inv X pins σ H s):∀ {xs:List V} {ds:List PyData} {us:List Value},DVs X.K H xs ds→Zl xs us→∃as,ReadsAll s.heap us ds as
 | _,_,_,.nil,r=>by cases r;exact⟨_,.nil⟩
 | _,_,_,.cons h hs,r=>by
  cases r with
  | cons r1 r2 =>
   obtain⟨as,q1⟩:=Inv.reads I h r1
   obtain⟨bs,q2⟩:=Inv.readsAll I hs r2
   exact⟨_,.cons q1 q2⟩
end
def ZiP(K:PySem.W.Frag)(neg:Bool):R2:=fun x y H Q=>∃d e,DV K H x d∧DV K H y e∧SeqAt.shaped d=true∧SeqAt.shaped e=true∧Q (.bl (if neg then !PyData.eqv d e else PyData.eqv d e)) H
theorem Zii(hu:X.A.units+64<cLine):OpR X (compareOp .NotEq) (ZiP X.K true):=by
 intro pins s σ H x y v u Q I rx ry h
 obtain⟨d,e,h1,h2,s1,s2,q⟩:=h
 obtain⟨as,r1⟩:=I.reads h1 rx
 obtain⟨bs,r2⟩:=I.reads h2 ry
 exact ne_dataH r1 r2 s1 s2 hu ⟨.bl _,H,I,rfl,q⟩
end
theorem neD{X:Cx}(K:PySem.W.Frag){k:Nat}(hr:ZaE k X.A)(h:X.K=K:=by rfl):OpR X (compareOp .NotEq) (ZiP K true):=by subst h;exact Zii hr.units
mutual
theorem DV.mono{K:PySem.W.Frag}{H H':Hp}(s:ZH H H'):∀ {x:V} {d:PyData},DV K H x d→DV K H' x d
 | _,_,.non=>.non
 | _,_,.bl b=>.bl b
 | _,_,.int i=>.int i
 | _,_,.str z=>.str z
 | _,_,.lst h hs=>.lst (s.seq h) (DVs.mono s hs)
 | _,_,.tup h hs=>.tup (by
   rcases h with(h|⟨ob,h⟩)|h
   ·exact .inl (.inl (s _ _ h))
   ·exact .inl (.inr ⟨ob,s _ _ h⟩)
   ·exact .inr h) (DVs.mono s hs)
theorem DVs.mono{K:PySem.W.Frag}{H H':Hp}(s:ZH H H'):∀ {xs:List V} {ds:List PyData},DVs K H xs ds→DVs K H' xs ds
 | _,_,.nil=>.nil
 | _,_,.cons h hs=>.cons (DV.mono s h) (DVs.mono s hs)
end
def Ite(K:PySem.W.Frag)(a:Addr):It :=
 ⟨fun i H=>∃xs,SqL K H a xs∧i<xs.length,
  fun i H v H'=>∃p,H p=none∧v=.ref p∧∀xs,SqL K H a xs→∀x,xs[i]? = some x→H'=upd H p (.tup [.int i,x]),
  fun i H=>∃xs,SqL K H a xs∧xs.length≤i⟩
theorem Zfp{P:Program}{w:World}{K:PySem.W.Frag}{elts:List Expr}{x1:Nat}{tpos:Pos}{a e it:Addr}(hne:e≠it) :
  Zg8 P w K (.Tuple elts x1 tpos) (Ite K a) [e,it] e (fun i h=>(∃old,IsEnum h e it i old)∧h.IsListIter it a i) where
 mem:=by simp
 obj:=fun i h st b hb=>by
  obtain⟨⟨old,he⟩,o,hit,hc,hd⟩:=st
  simp only[List.mem_cons,List.not_mem_nil,or_false]at hb
  rcases hb with rfl|rfl
  ·exact⟨_,he,fun v z=>by cases z⟩
  ·exact⟨o,hit,fun v z=>by rw[hd]at z;cases z⟩
 keep:=fun i h h' st k=>by
  obtain⟨⟨old,he⟩,hit⟩:=st
  exact⟨⟨old,k e (by simp) _ he⟩,hit.at fun o q=>k it (by simp) o q⟩
 item:=by
  intro X hP hw hK hc i pins s σ H E I hf st hg
  subst hP hw hK
  obtain⟨⟨old,he⟩,hit⟩:=st
  obtain⟨xs,q1,l1⟩:=hg
  obtain⟨its,rv,pl,_⟩:=I.list q1
  obtain⟨u,hu,ru⟩:=rv.get (Qd l1)
  refine wpAny_pyNext_enum_item he hit pl.isList (x:=u) (by simpa using hu) hne fun h' a1 a2 a3 a4 a5=>?_
  have lt:∀ {b:Addr} {o:Obj},s.heap.get? b=some o→s.heap.objs.size≠b:=fun q=>QaR (Qk q)
  have hes:s.heap.objs.size≠e:=lt he
  refine⟨_,rfl,wpAny_letOwnedTupleGo_enum a1 fun h'' he'' hs''=>?_⟩
  have hs':Heap.SameBut e h' h'':=hs''
  have hit'':h''.IsListIter it a (i+1):=a2.extBut hs'.extBut hne.symm
  have I2:Inv X pins σ (upd H s.heap.objs.size (.tup [.int i,xs[i]])) { s with heap:=h'',toks:=s.toks+1 }:=by
   refine I.zipped (fp:=[e,it]) (u:=.int i s.toks) (v:=u) hf ⟨_,rfl⟩ ru (hs'.extBut _ _ hes a3) (fun b hb=>?_) fun c o hc q=>?_
   ·simp only[List.mem_cons,List.not_mem_nil,or_false]at hb
    rcases hb with rfl|rfl
    ·exact⟨_,he''⟩
    ·obtain⟨o,q,_⟩:=hit'';exact⟨o,q⟩
   ·simp only[List.mem_cons,List.not_mem_nil,or_false,not_or]at hc
    exact hs'.extBut _ _ hc.1 (a5 c o hc.1 hc.2 q)
  refine⟨.ref s.heap.objs.size,_,I2,rfl,⟨s.heap.objs.size,I.fresh,rfl,fun xs' w1 x' e1=>?_⟩,⟨⟨_,he''⟩,hit''⟩,fun b hb=>?_⟩
  ·have e3:=I.list_inj w1 q1
   subst e3
   rw[Qd l1]at e1
   cases e1
   rfl
  ·rw[Ze (fun z=>by
    obtain⟨o,q⟩:∃o,s.heap.get? b=some o:=by
     simp only[List.mem_cons,List.not_mem_nil,or_false]at hb
     rcases hb with rfl|rfl
     ·exact⟨_,he⟩
     ·obtain⟨o,q,_⟩:=hit;exact⟨o,q⟩
    exact lt q z.symm)]
   exact(hf b hb).1
 done:=by
  intro X hP hw hK hc i pins s σ H E I hf st hg
  subst hP hw hK
  obtain⟨⟨old,he⟩,hit⟩:=st
  obtain⟨xs,q1,l1⟩:=hg
  obtain⟨its,rv,pl,_⟩:=I.list q1
  obtain⟨f0,f1,f2,f3,f4,f5⟩:=hf it (by simp)
  have hl:=rv.length
  exact wpAny_pyNext_enum_end (I.ok.hd hc) he hit pl.isList (by rw[List.getElem?_toArray];exact Qao (by omega)) fun h' eb=>⟨rfl,I.turned (t':=s.toks) (fun b o hb q=>eb b o hb q) f0 f1 f3 f4 f5⟩
 self:=fun _ _ _ _ _ st h=>by obtain⟨⟨old,he⟩,_⟩:=st;exact wpAny_pyIter_enum he h
def Zib(K:PySem.W.Frag)(ta:TA):TI:=fun σ H R=>ta σ H fun vs H1=>∃a xs,vs=[V.ref a]∧SqL K H1 a xs∧R (Ite K a) H1
theorem ZhJ{X:Cx}{l:Expr}{ta:TA}{p pos:Pos}{elts:List Expr}{x1:Nat}{tpos:Pos}(hg:Gl X "enumerate")(hm:X.mg "enumerate" = none)(ha:PA X [l] ta)
  (hs:starEach [l] X.env=[(false,eval l X.env)]:=by rfl):PI X (.Tuple elts x1 tpos) (.Call (.Name "enumerate" p) [l] [] pos) (Zib X.K ta):=by
 intro pins s σ H R I h
 refine Call_ (Zb4 I hg hm boot_enumerate (Qak (thn (ha pos pins s σ H _ I h) ?_) hs rfl))
 rintro us s1 ⟨vs,H1,I1,r1,q1⟩
 obtain⟨a,xs,e,y1,q⟩:=q1
 subst e
 obtain⟨u,rfl,ru⟩:=r1.one
 cases ru
 obtain⟨its,rv,pl,_⟩:=I1.list y1
 refine call_enumerate_list pl.isList fun h' he hit hsz hk=>wpAny_pyIter_enum he ?_
 have I2:Inv X pins σ H1 { s1 with heap:=h' }:=I1.kept (t':=s1.toks) hk
 refine⟨_,_,_,_,H1,rfl,I2,Zfp (a:=a) (e:=s1.heap.objs.size+1) (it:=s1.heap.objs.size) (QaR (Qaq _)),⟨⟨_,he⟩,hit⟩,fun b hb=>?_,q⟩
 have hb':s1.heap.objs.size≤b:=by
  simp only[List.mem_cons,List.not_mem_nil,or_false]at hb
  rcases hb with rfl|rfl
  ·exact Nat.le_add_right _ 1
  ·exact Qj _
 exact I1.fpOk hb' (I1.hok.fresh hb')
theorem iE{X:Cx}(K:PySem.W.Frag){l:Expr}{ta:TA}{p pos:Pos}{elts:List Expr}{x1:Nat}{tpos:Pos}(hm:X.mg "enumerate" = none)(ha:PA X [l] ta)(hg:Gl X "enumerate":=by rfl)(hK:X.K=K:=by rfl)
  (hs:starEach [l] X.env=[(false,eval l X.env)]:=by rfl):PI X (.Tuple elts x1 tpos) (.Call (.Name "enumerate" p) [l] [] pos) (Zib K ta):=by subst hK;exact ZhJ hg hm ha hs
theorem ZgG{K:PySem.W.Frag}{a:Addr}{xs:List V}{g:TG}{tb:TS}{D:Zer}{σ:St}{H:Hp}(Pv:Nat→St→Hp→Prop)(h0:Pv 0 σ H)(hl:∀i σ H,Pv i σ H→SqL K H a xs)
  (hs:∀i x σ H p,xs[i]? = some x→Pv i σ H→H p=none→g (.ref p) σ (upd H p (.tup [.int i,x])) fun σ2 H2=>tb { D with nx:=Pv (i+1),ct:=Pv (i+1),bk:=D.nx } σ2 H2) (hd:∀σ H,Pv xs.length σ H→D.nx σ H) :
  ∃W:Nat→Nat→St→Hp→Prop,(∃m,W 0 m σ H)∧∀i m σ H,W i m σ H →
   ((Ite K a).stop i H∧D.nx σ H)∨((Ite K a).go i H∧∃N:St→Hp→Prop,(∀σ' H',N σ' H'→∃m',m'<m∧W (i+1) m' σ' H')∧∀x H',(Ite K a).yld i H x H'→g x σ H' fun σ2 H2=>tb { D with nx:=N,ct:=N,bk:=D.nx } σ2 H2):=by
 refine⟨fun i m σ H=>m=xs.length-i∧i≤xs.length∧Pv i σ H,⟨xs.length,by simp,Qx _,h0⟩,?_⟩
 rintro i m σ H ⟨rfl,hi,p⟩
 have q1:=hl i σ H p
 by_cases hlt:i<xs.length
 ·refine .inr ⟨⟨xs,q1,hlt⟩,Pv (i+1),fun σ' H' p'=>⟨xs.length-(i+1),by omega,rfl,hlt,p'⟩,fun x H' y=>?_⟩
  obtain⟨r,hr,rfl,e⟩:=y
  have e':=e xs q1 _ (Qd hlt)
  subst e'
  exact hs i _ σ H r (Qd hlt) p hr
 ·have e:i=xs.length:=by omega
  exact .inl ⟨⟨xs,q1,by omega⟩,hd σ H (e ▸ p)⟩
section
variable {prog:Program} {w:World} {A:Around} {E:Value→Shared→Prop} {s:Shared}
end
def Zdv(xs:List V)(lo hi:Option Int)(st:Int):List V :=
 (sliceRange (sliceBounds lo hi (some st) xs.length).1 (sliceBounds lo hi (some st) xs.length).2.1 (sliceBounds lo hi (some st) xs.length).2.2).filterMap fun i=>xs[i]?
theorem Zc7{xs:List V}{us:List Value}(r:Zl xs us):∀is:List Nat,Zl (is.filterMap fun i=>xs[i]?) (is.filterMap fun i=>us[i]?)
 | []=>.nil
 | i::is=>by
  have ih:=Zc7 r is
  by_cases hi:i<xs.length
  ·have e1:xs[i]? = some xs[i]:=Qd hi
   obtain⟨u,hu,ru⟩:=r.get e1
   rw[Q5,Q5,e1,hu]
   exact .cons ru ih
  ·have e1:xs[i]? = none:=Qao (by omega)
   have e2:us[i]? = none:=Qao (by rw[← r.length];omega)
   rw[Q5,Q5,e1,e2]
   exact ih
def ZiC(X:Cx)(r:V→Option Int→Option Int→Int→Hp→VK→Prop):Prop :=
 ∀ (pins:List (Addr×Obj)) (s:Shared) (σ:St) (H:Hp) (x:V) (v vl vu vs:Value) (lo hi:Option Int) (st:Int) (sl:Addr) (Q:VK),Inv X pins σ H s→Zv x v→s.heap.IsSliceOf sl vl vu vs→IsPart vl lo→IsPart vu hi→IsPart vs (some st)→r x lo hi st H Q →
  ∃T id,typeLookup (.type T) "__getitem__" = pure (some (.builtin id))∧s.TypeIs v T∧wpAny (model X.prog X.w) X.A (getItem v (.ref sl)) (EP X pins σ Q) X.xe s
def Zjt(r:V→Option Int→Option Int→Int→Hp→VK→Prop)(te:TE)(tl th ts:TO):TE:=fun σ H Q=>te σ H fun x H1=>tl σ H1 fun l H2=>th σ H2 fun u H3=>ts σ H3 fun k H4=>∃i,k=some i∧r x l u i H4 Q
section
variable {X:Cx} {e st:Expr} {te:TE} {lo hi:Option Expr} {tl th ts:TO} {pos p2:Pos}
theorem Zc2{r:V→Option Int→Option Int→Int→Hp→VK→Prop}(hr:ZiC X r)(he:PE X e te)(hl:PO X lo tl)(hu:PO X hi th)(hst:PO X (some st) ts):PE X (.Subscript e (.Slice lo hi (some st) p2) pos) (Zjt r te tl th ts):=by
 intro pins s σ H Q I h
 refine Subscript_ (thn (he pins s σ H _ I h) ?_)
 rintro v s1 ⟨x,H1,I1,r1,q1⟩
 refine wpAny_Slice (thn (hl pins s1 σ H1 _ I1 q1) fun vl s2 ⟨l,H2,I2,pl,q2⟩=>thn (hu pins s2 σ H2 _ I2 q2) fun vu s3 ⟨u,H3,I3,pu,q3⟩=>thn (hst pins s3 σ H3 _ I3 q3) ?_)
 rintro vs s4 ⟨k,H4,I4,pk,q4⟩
 obtain⟨i,rfl,q4⟩:=q4
 have I5:Inv X pins σ H4 { s4 with heap:=s4.heap.push { cls:=.type "slice",data:=.fields #[vl,vu,vs] } }:=I4.kept (t':=s4.toks) fun b ob q=>Qb _ q
 obtain⟨T,id,hT,ht,hg⟩:=hr pins { s4 with heap:=s4.heap.push { cls:=.type "slice",data:=.fields #[vl,vu,vs] } } σ H4 x v vl vu vs l u i s4.heap.objs.size Q I5 r1 (Heap.IsSliceOf.new ..) pl pu pk q4
 show wpAny (model X.prog X.w) X.A (subscriptTail e (.Slice lo hi (some st) p2) v (.ref s4.heap.objs.size)) (EP X pins σ Q) X.xe { s4 with heap:=s4.heap.push { cls:=.type "slice",data:=.fields #[vl,vu,vs] } }
 exact tail_any (ops:=[v,.ref s4.heap.objs.size]) ht hT hg (by with_unfolding_all rfl)
def Zh7(K:PySem.W.Frag):V→Option Int→Option Int→Int→Hp→VK→Prop:=fun x lo hi st H Q=>∃a xs,x=.ref a∧SqL K H a xs∧st≠0∧∀p,H p=none→Q (.ref p) (upd H p (.lst (Zdv xs lo hi st)))
theorem Zg2:ZiC X (Zh7 X.K):=by
 intro pins s σ H x v vl vu vs lo hi st sl Q I rx hs pl pu pk h
 obtain⟨a,xs,rfl,hx,hne,q⟩:=h
 cases rx
 obtain⟨its,r,ht,hz⟩:=I.list hx
 have hlen:=r.length
 refine⟨"list",_,slot_list_getitem.lookup,ht.isList.typeIs,?_⟩
 refine wpAny_getItem_list_slice ht.isList hs pl pu pk (by intro e;exact hne (QC e)) ?_ (by rw[Qm]<;>omega)
 have hsz:=slicePick_size_le its.toArray lo hi (some st)
 have hv:Zl (Zdv xs lo hi st) (slicePick its.toArray lo hi (some st)).toList:=by
  unfold slicePick Zdv
  simp only[List.size_toArray,← hlen]
  have:=Zc7 r (sliceRange (sliceBounds lo hi (some st) xs.length).1 (sliceBounds lo hi (some st) xs.length).2.1 (sliceBounds lo hi (some st) xs.length).2.2)
  simpa using this
 refine⟨.ref s.heap.objs.size,_,I.laid (t':=s.toks) (o:=.lst (Zdv xs lo hi st)) (fun b ob q=>Qb _ q) (Qj _) ?_,rfl,q _ (I.hok.fresh (Qj _))⟩
 refine⟨?_,(slicePick its.toArray lo hi (some st)).toList,0,hv,?_⟩
 ·have e1:its.toArray.size=xs.length:=by rw[Qm];exact hlen.symm
  rw[hv.length,Qh]
  exact Q9 hsz (by rw[e1];exact hz)
 ·simpa using Qq _ rfl
theorem Zjf(K:PySem.W.Frag)(h:X.K=K:=by rfl):ZiC X (Zh7 K):=by subst h;exact Zg2
end
theorem Zcd(n:Nat):sliceRange ((n:Int)-1) (-1) (-1)=(List.range n).map fun i=>n-1-i:=by
 unfold sliceRange
 have hc:(if (-1:Int)>0 then (if (n:Int)-1 < -1 then (-1-((n:Int)-1) + -1-1) / -1 else 0) else (if (n:Int)-1 > -1 then ((n:Int)-1 - -1 - -1-1) / (- -1) else 0)).toNat=n:=by
  rw[if_neg (by decide)]
  by_cases h:(n:Int)-1 > -1
  ·rw[if_pos h,show (- -1:Int)=1 by decide,Int.ediv_one];omega
  ·rw[if_neg h];omega
 simp only[]
 rw[hc]
 apply QaH
 intro k hk
 have:=Qam.mp hk
 omega
theorem ZcV{α:Type}(xs:List α):((List.range xs.length).map fun i=>xs.length-1-i).filterMap (fun i=>xs[i]?)=xs.reverse:=by
 rw[List.filterMap_map]
 have e:∀n,n≤xs.length→(List.range n).filterMap ((fun i=>xs[i]?) ∘ fun i=>xs.length-1-i)=xs.reverse.take n:=by
  intro n
  induction n with
  | zero=>intro _;rfl
  | succ n ih =>
   intro hn
   rw[QaP,List.filterMap_append,ih (by omega)]
   have h1:xs[xs.length-1-n]? = some xs[xs.length-1-n]:=Qd (by omega)
   rw[Q5]
   simp only[Function.comp,h1,List.filterMap_nil]
   rw[Qaa,List.getElem?_reverse (by omega),h1]
   rfl
 rw[e _ (Qj _)]
 exact QF (by simp)
theorem Zdu(xs:List V):Zdv xs none none (-1)=xs.reverse:=by
 have e:sliceRange (sliceBounds none none (some (-1)) xs.length).1 (sliceBounds none none (some (-1)) xs.length).2.1 (sliceBounds none none (some (-1)) xs.length).2.2=sliceRange ((xs.length:Int)-1) (-1) (-1):=rfl
 unfold Zdv
 rw[e,Zcd,ZcV]
section
variable {X:Cx}
end
section
variable {X:Cx} {tg:Expr}
end
end L2
namespace L2
open PySem PySem.Spec PyProof.Rows
theorem Ziz{P:Program}{w:World}{k:Key}{u:Value}(r:Zv (kV k) u):(ZE P w).is k u=true:=by
 rcases k with i|x
 ·obtain⟨t,e⟩:=(show ∃t,u=Value.int i t from r)
  rw[e]
  exact Zen P w i t
 ·obtain⟨t,e⟩:=(show ∃t,u=Value.str x t from r)
  rw[e]
  exact Zeo P w x t
theorem ZcA{P:Program}{w:World}:∀ (ks:List Key) (us:List Value),Zl (ks.map kV) us→ItemsAre (ZE P w) ks us:=by
 intro ks
 induction ks with
 | nil=>intro us r;cases (show Zl [] us from r);exact .nil
 | cons k ks ih =>
  intro us r
  cases (show Zl (kV k::ks.map kV) us from r) with
  | cons a b=>exact .cons (Ziz a) (ih _ b)
section
variable {X:Cx} {pins:List (Addr×Obj)} {σ:St} {H:Hp} {s:Shared}
theorem Inv.tkey{ks:List Key}{b:Addr}(I:Inv X pins σ H s)(e:H b=some (.tup (ks.map kV))):(tupleKind (ZE X.prog X.w)).is s.heap ks b:=by
 obtain⟨_,its,r,hb⟩:=I.hok b _ e
 obtain⟨o,h1,h2,n,h3⟩:=hb
 refine⟨o,its.toArray,n,h1,h2,h3,?_⟩
 have:=ZcA (P:=X.prog) (w:=X.w) ks its r
 simpa using this
end
def Zi7:List V→Hp→VK→Prop:=fun xs H Q=>∃j:Int,xs=[.int j]∧∀p,H p=none→Q (.ref p) (upd H p (.rng 0 j))
theorem ZiZ{X:Cx}:ZX X (.type "range") Zi7:=by
 intro pins s σ H xs us Q I r h
 obtain⟨j,rfl,q⟩:=h
 obtain⟨u,rfl,t,rfl⟩:=ZaK r
 refine call_range_1 ⟨.ref s.heap.objs.size,_,I.laid (a:=s.heap.objs.size) (o:=.rng 0 j) (fun b o e=>Qb _ e) (Qj _) ?_,rfl,q _ (I.hok.fresh (Qj _))⟩
 exact⟨_,_,_,Qq _ rfl⟩
def ZJ(lo:Int)(n:Nat):List Int:=(List.range n).map fun (k:Nat)=>lo+k
theorem Zcv(lo:Int)(n:Nat):(ZJ lo n).length=n:=by simp[ZJ]
theorem ZeP{lo:Int}:∀ (n:Nat) (us:List Value),us.length=n→(∀ (j:Nat) (v:Value),us[j]? = some v→∃t,v=Value.int (lo+j*1) t)→Zl ((ZJ lo n).map V.int) us:=by
 intro n us hl h
 subst hl
 induction us generalizing lo with
 | nil=>exact .nil
 | cons u r ih =>
  have e:ZJ lo (u::r).length=lo::ZJ (lo+1) r.length:=by
   unfold ZJ
   rw[QP,List.range_succ_eq_map,Qw,Qaf]
   refine congr (congrArg _ (by simp)) (QaH fun a _=>?_)
   simp only[Function.comp]
   omega
  rw[e,Qw]
  refine .cons ?_ (ih fun j v hv=>?_)
  ·obtain⟨t,e⟩:=h 0 u rfl
   exact⟨t,by rw[e];simp⟩
  ·obtain⟨t,e⟩:=h (j+1) v (by simpa using hv)
   exact⟨t,by rw[e];congr 1;omega⟩
def Zil:List V→Hp→VK→Prop:=fun xs H Q=>∃ (p:Addr) (lo hi:Int),xs=[.ref p]∧H p=some (.rng lo hi) ∧ -(2 ^ 62)≤lo∧lo<2 ^ 62 ∧ -(2 ^ 62)≤hi∧hi<2 ^ 62∧(hi-lo).toNat≤1000 ∧
 ∀l,H l=none→Q (.ref l) (upd H l (.lst ((ZJ lo (hi-lo).toNat).map V.int)))
theorem Zh5{X:Cx}(hc:X.calm=true:=by rfl):ZX X (.type "list") Zil:=by
 intro pins s σ H xs us Q I r h
 obtain⟨p,lo,hi,rfl,hp,h1,h2,h3,h4,h5,q⟩:=h
 obtain⟨u,rfl,rx⟩:=ZaK r
 cases rx
 obtain⟨t,u,v,e⟩:=I.hok _ _ hp
 have sz:Builtin.Range.rangeSize lo hi 1=(((hi-lo).toNat:Nat):Int):=by rw[rangeSize_one];split<;>omega
 refine call_list_range (I.ok.hd hc) e (small_one h1 h2 h3 h4) sz (by omega) fun h' tk acc' c' kp e' it=>?_
 refine⟨.ref s.heap.objs.size,_,I.laid (t':=tk) kp (Qj _) (show ZaY X.prog X.w _ h' _ (.lst ((ZJ lo (hi-lo).toNat).map V.int)) from⟨?_,acc'.toList,c',ZeP _ _ (by simpa using it.1) (fun j v hv=>it.2 j v (by simpa using hv)),by simpa using e'⟩),rfl,q _ (I.hok.fresh (Qj _))⟩
 rw[Qa,Zcv]
 exact QaF (Zm h5)
section
variable {prog:Program} {w:World} {A:Around} {E:Value→Shared→Prop} {s:Shared}
end
section
variable {X:Cx}
theorem ZV{prog:Program}{w:World}{A:Around}{E:Value→Shared→Prop}{s:Shared}{a:Addr}{o:Obj}{xs:Array Value}{n:Nat}{Q:Array Value→Shared→Prop}(ho:s.heap.get? a=some o)(hd:o.data=.seq xs n)(h:Q xs s):wpAny (model prog w) A (Builtin.List.listItems (.ref a)) Q E s:=by
 unfold Builtin.List.listItems
 exact wpAny_bind (wpAny_seqItems ho hd (wpAny_pure h))
theorem ZbP(ns:List Int):∀n,n≤ns.length→preSum (fun j=>ns.getD j 0) n=(ns.take n).sum
 | 0,_=>rfl
 | n+1,h=>by
  have ih:=ZbP ns n (by omega)
  have e:ns.take (n+1)=ns.take n++[ns.getD n 0]:=by
   rw[Qaa,Qd (by omega),QM,Qd (by omega)]
   rfl
  rw[e,List.sum_append,← ih]
  simp[preSum]
end
section
variable {prog:Program} {w:World} {A:Around} {E:Value→Shared→Prop} {s:Shared} {κ:PyProof.Rows.KeyKind} {k0:SortKind} {a₀:Array Keyed} {st:SortSt}
def ZaD(prog:Program)(w:World)(A:Around)(s:Shared)(k0:SortKind)(κ:PyProof.Rows.KeyKind):Prop :=
 ∀ (E:Value→Shared→Prop) (x y:Value) (a b:κ.α) (Q:Bool→Shared→Prop),κ.keyOf x=some a→κ.keyOf y=some b→Q (κ.blt a b) s→wpAny (model prog w) A (keyLt' k0 x y) Q E s
structure SB (k0:SortKind) (a₀:Array Keyed) (st:SortSt):Prop where
 perm:(arrOf st).Perm a₀
 kind:kindOf st=k0
 failed:failedOf st=none
 pend:pendingOf st = #[]
theorem SB.size(B:SB k0 a₀ st):(arrOf st).size=a₀.size:=B.perm.size_eq
theorem SB.at(B:SB k0 a₀ st)(hk:PyProof.Rows.KeysOf κ a₀){i:Nat}(hi:i<a₀.size):∃x p,(arrOf st)[i]? = some (x,p)∧κ.keyOf x=some (KK κ (arrOf st) i):=by
 have hs:=B.size
 have e:(arrOf st)[i]? = some (arrOf st)[i]:=QU (by omega)
 have hm:(arrOf st)[i]∈a₀.toList:=by
  have h1:(arrOf st)[i]∈arrOf st:=Array.getElem_mem (by omega)
  have h2:=(B.perm.mem_iff (a:=(arrOf st)[i])).mp h1
  simpa using h2
 obtain⟨a,ha⟩:=hk _ hm
 refine⟨(arrOf st)[i].1,(arrOf st)[i].2,e,?_⟩
 unfold KK
 rw[e]
 show _=some ((κ.keyOf (arrOf st)[i].1).getD κ.dflt)
 rw[ha]
 rfl
theorem SB.set(B:SB k0 a₀ st){xs:Array Keyed}(h:xs.Perm (arrOf st)):SB k0 a₀ (setArr st xs):=⟨h.trans B.perm,B.kind,B.failed,B.pend⟩
theorem w_elem{arr:Array Keyed}{i:Nat}{p:Keyed}{Q:Keyed→SortSt→Prop}(h:arr[i]? = some p)(q:Q p st):wpS (model prog w) A E s (elem' arr i) Q st:=by
 rw[elem'_eq,h]
 exact wpS_pure q
theorem w_lt(hL:ZaD prog w A s k0 κ)(hk:PyProof.Rows.KeysOf κ a₀)(B:SB k0 a₀ st){i j:Nat}(hi:i<a₀.size)(hj:j<a₀.size){Q:Option Bool→SortSt→Prop}(q:Q (some (κ.blt (KK κ (arrOf st) i) (KK κ (arrOf st) j))) st):wpS (model prog w) A E s (ltAt' i j) Q st:=by
 obtain⟨x,p,e1,k1⟩:=B.at hk hi
 obtain⟨y,p',e2,k2⟩:=B.at hk hj
 rw[ltAt'_eq]
 refine wpS_bind (wpS_get ?_)
 show wpS _ _ _ _ (elem' (arrOf st) i >>= _) _ _
 refine wpS_bind (w_elem e1 (wpS_bind (w_elem e2 ?_)))
 rw[lt'_eq]
 refine wpS_bind (wpS_get (wpS_bind (wpS_lift (wpAny_attempt ?_))))
 rw[B.kind]
 refine hL _ x y _ _ _ k1 k2 ⟨rfl,?_⟩
 exact wpS_pure q
theorem Zgy{xs:Array Keyed}{i:Nat}(h0:1≤i)(S:SortedToK κ xs i)(h:κ.kle (KK κ xs (i-1)) (KK κ xs i)):SortedToK κ xs (i+1):=by
 intro a b hab hb
 by_cases e:b<i
 ·exact S a b hab e
 ·have eb:b=i:=by omega
  subst eb
  by_cases ea:a=b
  ·subst ea;exact KeyOrd.kle_refl _
  ·exact KeyOrd.kle_trans (S a (b-1) (by omega) (by omega)) h
theorem w_asc(hL:ZaD prog w A s k0 κ)(hk:PyProof.Rows.KeysOf κ a₀){a nrem:Nat}(hn:nrem≤a₀.size)(h1:1≤a)(ha:a≤nrem)(B:SB k0 a₀ st)(S:SortedToK κ (arrOf st) a){Q:AscSt→SortSt→Prop}
  (q:∀n,a≤n→n≤nrem→SortedToK κ (arrOf st) n→(n=nrem∨κ.klt (KK κ (arrOf st) n) (KK κ (arrOf st) (n-1)))→Q (none,n) st):wpS (model prog w) A E s (ascLoop a nrem) Q st:=by
 unfold ascLoop
 refine wpS_forRange (fun i c st'=>st'=st∧c=(none,i)∧SortedToK κ (arrOf st) i) ?_ ?_ ⟨rfl,rfl,S⟩
 ·rintro i c st' hai hin ⟨rfl,rfl,S'⟩
  refine wpS_bind (w_lt hL hk B (by show i<_;omega) (by show i-1<_;omega) ?_)
  cases hb:κ.blt (KK κ (arrOf st') i) (KK κ (arrOf st') (i-1)) with
  | true=>exact wpS_pure (q i hai (by omega) S' (.inr hb))
  | false=>exact wpS_pure ⟨rfl,rfl,Zgy (by omega) S' hb⟩
 ·rintro c st' ⟨rfl,rfl,S'⟩
  rw[show max a nrem=nrem by omega]at S' ⊢
  exact q nrem ha (Qj _) S' (.inl rfl)
theorem w_rev{i j:Nat}{Q:Unit→SortSt→Prop}(q:Q () (setArr st (mirror (arrOf st) i j ((j-i) / 2)))):wpS (model prog w) A E s (reverseSlice' i j) Q st:=wpS_reverse q
theorem w_desc(hL:ZaD prog w A s k0 κ)(hk:PyProof.Rows.KeysOf κ a₀){n nrem:Nat}(hn:nrem≤a₀.size)(h1:1≤n)(hnn:n≤nrem)(B:SB k0 a₀ st)(S:NonIncK κ (arrOf st) n){Q:DescSt→SortSt→Prop}
  (q:∀ (m neq:Nat) (st':SortSt),SB k0 a₀ st'→n≤m→m≤nrem→NonIncK κ (arrOf st') m→neq+1≤m→(∀i,m-(neq+1)≤i→i<m→KK κ (arrOf st') i=KK κ (arrOf st') (m-1))→Q (none,m,neq) st'):wpS (model prog w) A E s (descLoop n nrem) Q st:=by
 unfold descLoop
 refine wpS_forRange (fun i c st'=>∃neq,c=(none,i,neq)∧SB k0 a₀ st'∧n≤i∧i≤nrem∧NonIncK κ (arrOf st') i∧neq+1≤i∧(∀k,i-(neq+1)≤k→k<i→KK κ (arrOf st') k=KK κ (arrOf st') (i-1))) ?_ ?_ ?_
 ·rintro i c st' hai hin ⟨neq,rfl,B',hi1,hi2,N',hq,heq⟩
  have more:∀ (st2:SortSt),SB k0 a₀ st2→(∀k,KK κ (arrOf st2) k=KK κ (arrOf st') k)→κ.kle (KK κ (arrOf st') i) (KK κ (arrOf st') (i-1))→NonIncK κ (arrOf st2) (i+1):=fun st2 B2 e hle a b hab hb=>by
   rw[e a,e b]
   by_cases hbi:b<i
   ·exact N' a b hab hbi
   ·have eb:b=i:=by omega
    subst eb
    by_cases ea:a=b
    ·subst ea;exact KeyOrd.kle_refl _
    ·exact KeyOrd.kle_trans hle (N' a (b-1) (by omega) (by omega))
  refine wpS_bind (w_lt hL hk B' (by show i<_;omega) (by show i-1<_;omega) ?_)
  cases hb:κ.blt (KK κ (arrOf st') i) (KK κ (arrOf st') (i-1)) with
  | true =>
   have hle:κ.kle (KK κ (arrOf st') i) (KK κ (arrOf st') (i-1)):=KeyOrd.kle_of_klt hb
   show wpS _ _ _ _ (if neq>0 then _ else _) _ _
   by_cases h0:neq>0
   ·rw[if_pos h0]
    refine wpS_bind (w_rev (wpS_pure ?_))
    have e:∀k,KK κ (mirror (arrOf st') (i-(neq+1)) i ((i-(i-(neq+1))) / 2)) k=KK κ (arrOf st') k:=KK_mirror_equal (by rw[B'.size];omega) (fun k h1 h2=>heq k h1 h2)
    refine⟨0,rfl,B'.set (mirror_perm _ _ _ _),by omega,by omega,more _ (B'.set (mirror_perm _ _ _ _)) e hle,by omega,fun k h1 h2=>?_⟩
    have:k=i:=by omega
    subst this
    rfl
   ·rw[if_neg h0]
    refine wpS_pure ⟨0,rfl,B',by omega,by omega,more _ B' (fun _=>rfl) hle,by omega,fun k h1 h2=>?_⟩
    have:k=i:=by omega
    subst this
    rfl
  | false =>
   refine wpS_bind (w_lt hL hk B' (by show i-1<_;omega) (by show i<_;omega) ?_)
   cases hb2:κ.blt (KK κ (arrOf st') (i-1)) (KK κ (arrOf st') i) with
   | true=>exact wpS_pure (q i neq st' B' hi1 hi2 N' hq heq)
   | false =>
    have ee:=κ.total _ _ hb hb2
    refine wpS_pure ⟨neq+1,rfl,B',by omega,by omega,more _ B' (fun _=>rfl) hb2,by omega,fun k h1 h2=>?_⟩
    show KK κ (arrOf st') k=KK κ (arrOf st') i
    by_cases hki:k=i
    ·rw[hki]
    ·rw[ee];exact heq k (by omega) (by omega)
 ·rintro c st' ⟨neq,rfl,B',hi1,hi2,N',hq,heq⟩
  rw[show max n nrem=nrem by omega]at *
  exact q nrem neq st' B' hi1 hi2 N' hq heq
 ·refine⟨0,rfl,B,Qj _,hnn,S,by omega,fun k h1 h2=>?_⟩
  have:k=n-1:=by omega
  rw[this]
theorem w_tail(hL:ZaD prog w A s k0 κ)(hk:PyProof.Rows.KeysOf κ a₀){n nrem:Nat}(hn:nrem≤a₀.size)(h1:1≤n)(hnn:n≤nrem)(B:SB k0 a₀ st)(N:NonIncK κ (arrOf st) n){Q:Option Nat→SortSt→Prop}
  (q:∀ (m:Nat) (st':SortSt),SB k0 a₀ st'→1≤m→m≤nrem→SortedToK κ (arrOf st') m→Q (some m) st'):wpS (model prog w) A E s (tail3 n nrem) Q st:=by
 unfold tail3
 refine wpS_bind (w_rev ?_)
 have B':=B.set (mirror_perm (arrOf st) 0 n ((n-0) / 2))
 have e:=KK_mirror (κ:=κ) (xs:=arrOf st) (i:=0) (j:=n) (by rw[B.size];omega)
 have S:SortedToK κ (mirror (arrOf st) 0 n ((n-0) / 2)) n:=fun a b hab hb=>by
  rw[e a,e b,if_pos ⟨by omega,by omega⟩,if_pos ⟨by omega,by omega⟩]
  exact N _ _ (by omega) (by omega)
 refine wpS_bind (w_asc hL hk hn h1 hnn B' S fun m hm1 hm2 S' _=>?_)
 exact wpS_pure (q m _ B' (by omega) hm2 S')
theorem w_part(hL:ZaD prog w A s k0 κ)(hk:PyProof.Rows.KeysOf κ a₀){n nrem:Nat}(hn:nrem≤a₀.size)(hnn:n+1≤nrem)(B:SB k0 a₀ st)(N:NonIncK κ (arrOf st) (n+1)){Q:Option Nat→SortSt→Prop}
  (q:∀ (m:Nat) (st':SortSt),SB k0 a₀ st'→1≤m→m≤nrem→SortedToK κ (arrOf st') m→Q (some m) st'):wpS (model prog w) A E s (descPart n nrem) Q st:=by
 unfold descPart
 refine wpS_bind (wpS_lift (wpAny_rule ⟨rfl,?_⟩))
 refine wpS_bind (w_desc hL hk hn (by omega) hnn B N fun m neq st' B' m1 m2 N' hq heq=>?_)
 show wpS _ _ _ _ (if neq>0 then _ else _) _ _
 by_cases h0:neq>0
 ·rw[if_pos h0]
  refine wpS_bind (w_rev ?_)
  have e:∀k,KK κ (mirror (arrOf st') (m-(neq+1)) m ((m-(m-(neq+1))) / 2)) k=KK κ (arrOf st') k:=KK_mirror_equal (by rw[B'.size];omega) (fun k h1 h2=>heq k h1 h2)
  exact w_tail hL hk hn (by omega) m2 (B'.set (mirror_perm _ _ _ _)) (fun a b hab hb=>by rw[e a,e b];exact N' a b hab hb) q
 ·rw[if_neg h0]
  exact w_tail hL hk hn (by omega) m2 B' N' q
theorem w_count(hL:ZaD prog w A s k0 κ)(hk:PyProof.Rows.KeysOf κ a₀){nrem:Nat}(hn:nrem≤a₀.size)(h1:1≤nrem)(B:SB k0 a₀ st){Q:Option Nat→SortSt→Prop}
  (q:∀ (m:Nat) (st':SortSt),SB k0 a₀ st'→1≤m→m≤nrem→SortedToK κ (arrOf st') m→Q (some m) st'):wpS (model prog w) A E s (countRun' 0 nrem) Q st:=by
 rw[countRun0_eq]
 refine wpS_bind (w_asc hL hk hn (Qj 1) h1 B (fun a b hab hb=>by obtain rfl:a=b:=(by omega);exact KeyOrd.kle_refl _) fun n n1 n2 S hor=>?_)
 show wpS _ _ _ _ (if (n == nrem)=true then _ else _) _ _
 by_cases hnn:n=nrem
 ·rw[if_pos (by rw[hnn];exact beq_self_eq_true _)]
  exact wpS_pure (q n st B n1 n2 S)
 ·rw[if_neg (by intro z;exact hnn (eq_of_beq z))]
  have hlt:=hor.resolve_left hnn
  have flat:(∀k,k<n→KK κ (arrOf st) k=KK κ (arrOf st) (n-1))→NonIncK κ (arrOf st) (n+1):=fun hf a b hab hb=>by
   by_cases hbn:b<n
   ·rw[hf a (by omega),hf b hbn];exact KeyOrd.kle_refl _
   ·have eb:b=n:=by omega
    subst eb
    by_cases ea:a=b
    ·subst ea;exact KeyOrd.kle_refl _
    ·rw[hf a (by omega)];exact KeyOrd.kle_of_klt hlt
  by_cases hn1:n>1
  ·rw[if_pos hn1]
   refine wpS_bind (w_lt hL hk B (by omega) (by omega) ?_)
   cases hb:κ.blt (KK κ (arrOf st) 0) (KK κ (arrOf st) (n-1)) with
   | true=>exact wpS_pure (q n st B n1 n2 S)
   | false =>
    have hf:∀k,k<n→KK κ (arrOf st) k=KK κ (arrOf st) (n-1):=fun k hkn=>by
     have a1:κ.kle (KK κ (arrOf st) k) (KK κ (arrOf st) (n-1)):=S k (n-1) (by omega) (by omega)
     have a2:κ.kle (KK κ (arrOf st) (n-1)) (KK κ (arrOf st) k):=KeyOrd.kle_trans (show κ.kle (KK κ (arrOf st) (n-1)) (KK κ (arrOf st) 0) from hb) (S 0 k (by omega) (by omega))
     exact KeyOrd.kle_antisymm a1 a2
    refine wpS_bind (w_rev ?_)
    have e:∀k,KK κ (mirror (arrOf st) 0 n ((n-0) / 2)) k=KK κ (arrOf st) k:=KK_mirror_equal (by rw[B.size];omega) (fun k _ h2=>hf k h2)
    exact w_part hL hk hn (by omega) (B.set (mirror_perm _ _ _ _)) (fun a b hab hb=>by rw[e a,e b];exact flat hf a b hab hb) q
  ·rw[if_neg hn1]
   exact w_part hL hk hn (by omega) B (flat fun k hkn=>by rw[show k=n-1 by omega]) q
theorem Ze7{xs:Array Keyed}{k l:Nat}(hk:k<xs.size)(hl:l≤k)(S':SortedToK κ xs k)(hlo:∀j,j<l→κ.kle (KK κ xs j) (KK κ xs k))(hhi:∀j,l≤j→j<k→κ.klt (KK κ xs k) (KK κ xs j)) :
  SortedToK κ (bubble xs (0+k) (0+k-(0+l))) (k+1):=by
 have eb:=KK_bubble (κ:=κ) (xs:=xs) (src:=0+k) (d:=0+k-(0+l)) (by omega) (by omega)
 intro a b hab hb
 rw[eb a,eb b]
 rw[show 0+k=k by omega,show 0+l=l by omega,show k-(k-l)=l by omega]
 by_cases ha:a=l
 ·rw[if_pos ha]
  by_cases hbl:b=l
  ·rw[if_pos hbl];exact KeyOrd.kle_refl _
  ·rw[if_neg hbl,if_pos ⟨by omega,by omega⟩]
   exact KeyOrd.kle_of_klt (hhi (b-1) (by omega) (by omega))
 ·rw[if_neg ha]
  by_cases hal:a<l
  ·rw[if_neg (by omega)]
   by_cases hbl:b=l
   ·rw[if_pos hbl];exact hlo a hal
   ·rw[if_neg hbl]
    by_cases hbb:l<b
    ·rw[if_pos ⟨hbb,by omega⟩];exact S' a (b-1) (by omega) (by omega)
    ·rw[if_neg (by omega)];exact S' a b hab (by omega)
  ·rw[if_pos ⟨by omega,by omega⟩,if_neg (by omega),if_pos ⟨by omega,by omega⟩]
   exact S' (a-1) (b-1) (by omega) (by omega)
theorem w_binary(hL:ZaD prog w A s k0 κ)(hk:PyProof.Rows.KeysOf κ a₀){n ok:Nat}(hn:n≤a₀.size)(h1:ok≤n)(h0:1≤ok)(B:SB k0 a₀ st)(S:SortedToK κ (arrOf st) ok){Q:Bool→SortSt→Prop}
  (q:∀ (st':SortSt),SB k0 a₀ st'→SortedToK κ (arrOf st') n→Q true st'):wpS (model prog w) A E s (binarySort' 0 n ok) Q st:=by
 rw[binarySort'_eq]
 refine wpS_bind ?_
 refine wpS_forRange (fun i c st'=>c=(none,())∧SB k0 a₀ st'∧SortedToK κ (arrOf st') i) ?_ ?_ ⟨rfl,B,by rw[show max ok 1=ok by omega];exact S⟩
 ·rintro k c st' hak hkn ⟨rfl,B',S'⟩
  have k1:1≤k:=by omega
  refine wpS_bind ?_
  refine wpS_forRange (fun i c st2=>∃l r,c=(none,l,r)∧st2=st'∧l≤r∧r≤k∧r-l≤k-i∧(∀j,j<l→κ.kle (KK κ (arrOf st') j) (KK κ (arrOf st') k))∧(∀j,r≤j→j<k→κ.klt (KK κ (arrOf st') k) (KK κ (arrOf st') j))) ?_ ?_ ⟨0,k,rfl,rfl,Qx _,Qj _,by omega,fun j h=>by omega,fun j h1 h2=>by omega⟩
  ·rintro i c st2 hi0 hik ⟨l,r,rfl,rfl,hlr,hrk,hm,hlo,hhi⟩
   show wpS _ _ _ _ (if l≥r then _ else _) _ _
   by_cases hge:l≥r
   ·rw[if_pos hge]
    refine wpS_pure ?_
    have elr:l=r:=by omega
    subst elr
    refine wpS_bind ?_
    rw[moveDown'_eq]
    refine wpS_modify (wpS_pure ?_)
    exact⟨rfl,B'.set (bubble_perm _ _ _),Ze7 (by rw[B'.size];omega) hrk S' hlo hhi⟩
   ·rw[if_neg hge]
    refine wpS_bind (w_lt hL hk B' (by show 0+k<_;omega) (by show 0+(l+r) / 2<_;omega) ?_)
    rw[show 0+k=k by omega,show 0+(l+r) / 2=(l+r) / 2 by omega]
    cases hb:κ.blt (KK κ (arrOf st2) k) (KK κ (arrOf st2) ((l+r) / 2)) with
    | true =>
     refine wpS_pure ⟨l,(l+r) / 2,rfl,rfl,by omega,by omega,by omega,hlo,fun j h1 h2=>?_⟩
     exact KeyOrd.klt_of_klt_of_kle hb (S' _ j h1 h2)
    | false =>
     refine wpS_pure ⟨(l+r) / 2+1,r,rfl,rfl,by omega,by omega,by omega,fun j h=>?_,hhi⟩
     exact KeyOrd.kle_trans (S' j ((l+r) / 2) (by omega) (by omega)) hb
  ·rintro c st2 ⟨l,r,rfl,rfl,hlr,hrk,hm,hlo,hhi⟩
   have elr:l=r:=by omega
   subst elr
   refine wpS_bind ?_
   rw[moveDown'_eq]
   refine wpS_modify (wpS_pure ?_)
   exact⟨rfl,B'.set (bubble_perm _ _ _),Ze7 (by rw[B'.size];omega) hrk S' hlo hhi⟩
 ·rintro c st' ⟨rfl,B',S'⟩
  rw[show max (max ok 1) n=n by omega]at S'
  exact wpS_pure (q st' B' S')
theorem w_runs(hL:ZaD prog w A s k0 κ)(hk:PyProof.Rows.KeysOf κ a₀)(B:SB k0 a₀ st)(h2:2≤a₀.size)(h64:a₀.size<64){Q:Unit→SortSt→Prop}
  (q:∀ (st':SortSt),(arrOf st').Perm a₀→failedOf st'=none→SortedToK κ (arrOf st') a₀.size→Q () st'):wpS (model prog w) A E s sortRuns' Q st:=by
 rw[sortRuns'_eq]
 refine wpS_bind (wpS_get ?_)
 have hsz:=B.size
 have hmin:minRun' (arrOf st).size (arrOf st).size 0=(arrOf st).size:=by
  obtain⟨f,hf⟩:∃f,(arrOf st).size=f+1:=⟨(arrOf st).size-1,by omega⟩
  rw[show minRun' (arrOf st).size (arrOf st).size 0=minRun' (f+1) (arrOf st).size 0 by rw[← hf],minRun'_succ,if_pos (by omega)]
  rfl
 refine wpS_bind ?_
 refine wpS_forRange (fun i c st'=>(i=0∧c=(none,0)∧st'=st)∨(i≠0∧c=(none,a₀.size)∧(arrOf st').Perm a₀∧failedOf st'=none∧(pendingOf st').size≤1∧SortedToK κ (arrOf st') a₀.size)) ?_ ?_ (.inl ⟨rfl,rfl,rfl⟩)
 ·rintro i c st' hi0 hi ⟨⟩
  ·rename_i h
   obtain⟨rfl,rfl,rfl⟩:=h
   show wpS _ _ _ _ (if 0≥(arrOf st').size then _ else _) _ _
   rw[if_neg (by omega)]
   refine wpS_bind ?_
   rw[show (arrOf st').size-0=a₀.size by omega]
   refine w_count hL hk (Qj _) (by omega) B fun m st2 B2 m1 m2 S2=>?_
   have push:∀ (st3:SortSt),SB k0 a₀ st3→SortedToK κ (arrOf st3) a₀.size→(arrOf (setPending st3 ((pendingOf st3).push (0,a₀.size,0)))).Perm a₀∧failedOf (setPending st3 ((pendingOf st3).push (0,a₀.size,0)))=none∧(pendingOf (setPending st3 ((pendingOf st3).push (0,a₀.size,0)))).size≤1∧SortedToK κ (arrOf (setPending st3 ((pendingOf st3).push (0,a₀.size,0)))) a₀.size:=fun st3 B3 S3 =>
    ⟨B3.perm,B3.failed,by show ((pendingOf st3).push (0,a₀.size,0)).size≤1;rw[B3.pend,Array.size_push];exact Qj _,S3⟩
   show wpS _ _ _ _ (if m<minRun' (arrOf st').size (arrOf st').size 0 then _ else _) _ _
   rw[hmin,hsz]
   by_cases hm:m<a₀.size
   ·rw[if_pos hm]
    refine wpS_bind (wpS_lift (wpAny_rule ⟨rfl,?_⟩))
    show wpS _ _ _ _ (binarySort' 0 (min a₀.size a₀.size) m >>= _) _ _
    rw[Nat.min_self]
    refine wpS_bind (w_binary hL hk (Qj _) (by omega) m1 B2 S2 fun st3 B3 S3=>?_)
    show wpS _ _ _ _ (get >>= _) _ _
    refine wpS_bind (wpS_get ?_)
    show wpS _ _ _ _ (match (pendingOf st3).back? with|some (s1,n1,snd)=>_|x=>_) _ _
    rw[show (pendingOf st3).back? = none by rw[B3.pend];rfl]
    show wpS _ _ _ _ (modify _ >>= _) _ _
    refine wpS_bind (wpS_modify (wpS_pure (.inr ⟨by omega,?_,push st3 B3 S3⟩)))
    show (none,0+a₀.size)=(none,a₀.size)
    rw[QaS]
   ·rw[if_neg hm]
    have em:m=a₀.size:=by omega
    subst em
    show wpS _ _ _ _ (get >>= _) _ _
    refine wpS_bind (wpS_get ?_)
    show wpS _ _ _ _ (match (pendingOf st2).back? with|some (s1,n1,snd)=>_|x=>_) _ _
    rw[show (pendingOf st2).back? = none by rw[B2.pend];rfl]
    show wpS _ _ _ _ (modify _ >>= _) _ _
    refine wpS_bind (wpS_modify (wpS_pure (.inr ⟨by omega,?_,push st2 B2 S2⟩)))
    show (none,0+a₀.size)=(none,a₀.size)
    rw[QaS]
  ·rename_i h
   obtain⟨hne,rfl,p1,p2,p3,p4⟩:=h
   show wpS _ _ _ _ (if a₀.size≥(arrOf st).size then _ else _) _ _
   rw[if_pos (by omega)]
   refine wpS_pure ?_
   show wpS _ _ _ _ (forIn [:(arrOf st).size] (none,()) _ >>= _) _ _
   refine wpS_bind ?_
   refine wpS_forRange (fun i c st2=>c=(none,())∧st2=st') ?_ ?_ ⟨rfl,rfl⟩
   ·rintro i c st2 _ _ ⟨rfl,rfl⟩
    show wpS _ _ _ _ (get >>= _) _ _
    refine wpS_bind (wpS_get ?_)
    show wpS _ _ _ _ (if (pendingOf st2).size≤1 then _ else _) _ _
    rw[if_pos p3]
    exact wpS_pure (wpS_pure (q _ p1 p2 p4))
   ·rintro c st2 ⟨rfl,rfl⟩
    exact wpS_pure (q _ p1 p2 p4)
 ·rintro c st' ⟨⟩
  ·rename_i h
   exact absurd h.1 (by omega)
  ·rename_i h
   obtain⟨hne,rfl,p1,p2,p3,p4⟩:=h
   show wpS _ _ _ _ (forIn [:(arrOf st).size] (none,()) _ >>= _) _ _
   refine wpS_bind ?_
   refine wpS_forRange (fun i c st2=>c=(none,())∧st2=st') ?_ ?_ ⟨rfl,rfl⟩
   ·rintro i c st2 _ _ ⟨rfl,rfl⟩
    show wpS _ _ _ _ (get >>= _) _ _
    refine wpS_bind (wpS_get ?_)
    show wpS _ _ _ _ (if (pendingOf st2).size≤1 then _ else _) _ _
    rw[if_pos p3]
    exact wpS_pure (wpS_pure (q _ p1 p2 p4))
   ·rintro c st2 ⟨rfl,rfl⟩
    exact wpS_pure (q _ p1 p2 p4)
end
section
variable {prog:Program} {w:World} {A:Around} {E:Value→Shared→Prop} {s:Shared} {κ:PyProof.Rows.KeyKind}
theorem w_sort{a:Addr}{vs:List Value}{n:Nat}{P:PySem.Fin→Shared→Prop}(ha:s.heap.get? a=some (seqObj "list" vs.toArray n))(hk:PyProof.Rows.KeysOf κ (pairsOf vs))(h2:2≤vs.length)(h64:vs.length<64)
  (hK:∀ (s':Shared),(∀b o,b≠a→s.heap.get? b=some o→s'.heap.get? b=some o)→∀ (E:Value→Shared→Prop) (Q:SortKind→Shared→Prop),(∀k0,ZaD prog w A s' k0 κ→Q k0 s')→wpAny (model prog w) A (keyKind' vs.toArray) Q E s')
  (q:∀ (st':SortSt),(arrOf st').Perm (pairsOf vs)→SortedToK κ (arrOf st') (pairsOf vs).size→P (Fin.done (Flow.ret Value.none)) { s with heap:=sortedHeap s.heap a vs ((arrOf st').map fun x=>x.snd) }) :
  wpAny (model prog w) A (Builtin.«list.sort» { pos:=[.ref a] }) P E s:=by
 have hz:vs.toArray.size≤sizeLine:=by rw[Qm,sizeLine_eq];omega
 rw[list_sort_plain]
 refine wpAny_bind (ZV ha rfl ?_)
 show wpAny _ _ (updateSeq a (fun x=>#[]) >>= _) _ _ _
 refine wpAny_bind (wpAny_updateSeq ha rfl ?_ hz (by show 0≤_;omega))
 have e1:=get?_update_seq ha (fun _=>#[])
 refine wpAny_bind (seqEpoch_at e1 rfl ?_)
 refine wpAny_bind (wpAny_newTuple ?_ (by simpa using hz))
 refine wpAny_bind (wpAny_newList ?_ (by show 0≤_;omega))
 refine wpAny_holding ?_
 have hn2:¬ vs.toArray.size<2:=by rw[Qm];omega
 have hps:(pairsOf vs).size=vs.length:=by unfold pairsOf;simp
 rw[if_neg hn2,if_neg hn2]
 have keep:∀b o,b≠a→s.heap.get? b=some o→(((s.heap.update a (Obj.mapSeq fun _=>#[])).push { cls:=.type "tuple",data:=.seq vs.toArray.toList.toArray }).push { cls:=.type "list",data:=.seq ([]:List Value).toArray }).get? b=some o:=fun b o hb h =>
  Qb _ (Qb _ (QX _ (Ne.symm hb) h))
 have e2:(((s.heap.update a (Obj.mapSeq fun _=>#[])).push { cls:=.type "tuple",data:=.seq vs.toArray.toList.toArray }).push { cls:=.type "list",data:=.seq ([]:List Value).toArray }).get? a=some (seqObj "list" #[] _):=Qb _ (Qb _ e1)
 refine wpAny_bind (hK _ keep _ _ fun k0 hL=>?_)
 refine wpAny_bind ?_
 have B:SB k0 (pairsOf vs) (SortSt.mk' k0 (vs.toArray.zip vs.toArray) #[] 7 none):=⟨Array.Perm.refl _,rfl,rfl,rfl⟩
 refine thn (w_runs (E:=E) hL hk B (by rw[hps];exact h2) (by rw[hps];exact h64) (Q:=fun _ st'=>(arrOf st').Perm (pairsOf vs)∧failedOf st'=none∧SortedToK κ (arrOf st') (pairsOf vs).size) (fun st' a b c=>⟨a,b,c⟩)) fun r s' hr=>?_
 obtain⟨⟨⟩,st'⟩:=r
 obtain⟨rfl,p1,p2,p3⟩:=hr
 refine wpAny_bind (seqEpoch_at e2 rfl ?_)
 have hsz:((arrOf st').map fun x=>x.snd).size=vs.length:=by rw[Array.size_map,p1.size_eq,hps]
 show wpAny _ _ (updateSeq a (fun x=>(arrOf st').map fun x=>x.snd) >>= _) _ _ _
 refine wpAny_bind (wpAny_updateSeq e2 rfl ?_ (by show 0≤_;omega) (by show ((arrOf st').map fun x=>x.snd).size≤_;rw[hsz];rw[Qm]at hz;omega))
 rw[p2]
 rw[if_neg (by simp)]
 exact wpAny_pure (q st' p1 p3)
theorem w_sorted{l:Addr}{vs:List Value}{Q:Value→Shared→Prop}(hl:s.heap.IsList l vs.toArray)(hk:PyProof.Rows.KeysOf κ (pairsOf vs))(h2:2≤vs.length)(h64:vs.length<64)
  (hK:∀ (A:Around) (s':Shared),(∀b o,s.heap.get? b=some o→s'.heap.get? b=some o)→∀ (E:Value→Shared→Prop) (Q:SortKind→Shared→Prop),(∀k0,ZaD prog w A s' k0 κ→Q k0 s')→wpAny (model prog w) A (keyKind' vs.toArray) Q E s')
  (q:∀ (st':SortSt),(arrOf st').Perm (pairsOf vs)→SortedToK κ (arrOf st') (pairsOf vs).size→Q (.ref (s.heap.objs.size+1)) { s with heap:=sortedAll s.heap vs ((arrOf st').map fun x=>x.snd) }) :
  wpAny (model prog w) A (call (.builtin "sorted") [.ref l]) Q E s:=by
 refine Calls.call_function_entry kind_sorted plain_sorted entry_sorted (args_sorted1 (.ref l)) ?_
 have hz:vs.length≤sizeLine:=by rw[sizeLine_eq];omega
 refine wpAny_bind (wpAny_pure (wpAny_bind (collect_list hl (wpAny_bind (wpAny_newList ?_ hz)) hz)))
 have hsz:((s.heap.push (seqObj "list" #[] 0)).update s.heap.objs.size (Obj.mapSeq fun x=>x++vs.toArray)).objs.size=s.heap.objs.size+1:=by rw[Heap.size_update,size_push']
 have hoL:((((s.heap.push (seqObj "list" #[] 0)).update s.heap.objs.size (Obj.mapSeq fun x=>x++vs.toArray)).push (seqObj "list" vs.toArray 0)).get? (s.heap.objs.size+1))=some (seqObj "list" vs.toArray 0):=by
  rw[← hsz];exact Qq _ rfl
 have keep:∀b o,s.heap.get? b=some o→(((s.heap.push (seqObj "list" #[] 0)).update s.heap.objs.size (Obj.mapSeq fun x=>x++vs.toArray)).push (seqObj "list" vs.toArray 0)).get? b=some o:=fun b o h =>
  Qb _ (QX _ (QaR (Qk h)) (Qb _ h))
 show wpAny _ _ (holding [.ref ((s.heap.push (seqObj "list" #[] 0)).update s.heap.objs.size (Obj.mapSeq fun x=>x++vs.toArray)).objs.size] (call (.builtin "list.sort") [.ref ((s.heap.push (seqObj "list" #[] 0)).update s.heap.objs.size (Obj.mapSeq fun x=>x++vs.toArray)).objs.size]) >>= fun _=>ret (.ref ((s.heap.push (seqObj "list" #[] 0)).update s.heap.objs.size (Obj.mapSeq fun x=>x++vs.toArray)).objs.size)) _ _ _
 rw[hsz]
 refine wpAny_bind (wpAny_holding (wpAny_call_entry slot_list_sort ⟨_,hoL,rfl⟩ entry_list_sort ?_ (args_list_sort _)))
 refine w_sort hoL hk h2 h64 (fun s' hk'=>hK _ s' fun b o h=>hk' b o (Qs (Qy (Qk h) (Qal _))) (keep b o h)) fun st' p1 p3=>?_
 exact⟨_,rfl,wpAny_pure ⟨_,rfl,q st' p1 p3⟩⟩
end
def kLt:Key→Key→Bool
 | .inl i,.inl j=>decide (i<j)
 | .inr x,.inr y=>decide (x.cps.toList<y.cps.toList)
 | .inl _,.inr _=>true
 | .inr _,.inl _=>false
theorem ZeM:∀a:Key,kLt a a=false
 | .inl i=>decide_eq_false (by omega)
 | .inr x=>decide_eq_false (List.lt_irrefl _)
theorem ZfG:∀a b c:Key,kLt a b=true→kLt b c=true→kLt a c=true
 | .inl i,.inl j,.inl k,h1,h2=>by have:=of_decide_eq_true h1;have:=of_decide_eq_true h2;exact decide_eq_true (by omega)
 | .inr x,.inr y,.inr z,h1,h2=>decide_eq_true (List.lt_trans (of_decide_eq_true h1) (of_decide_eq_true h2))
 | .inl _,.inl _,.inr _,_,_=>rfl
 | .inl _,.inr _,.inr _,_,_=>rfl
 | .inl _,.inr _,.inl _,_,h=>by cases h
 | .inr _,.inl _,_,h,_=>by cases h
 | .inr _,.inr _,.inl _,_,h=>by cases h
theorem ZfJ:∀a b:Key,kLt a b=false→kLt b a=false→a=b
 | .inl i,.inl j,h1,h2=>by have:=of_decide_eq_false h1;have:=of_decide_eq_false h2;congr 1;omega
 | .inr x,.inr y,h1,h2=>by
  have a1:¬ x.cps.toList<y.cps.toList:=of_decide_eq_false h1
  have a2:¬ y.cps.toList<x.cps.toList:=of_decide_eq_false h2
  have e:x.cps.toList=y.cps.toList:=List.le_antisymm a2 a1
  obtain⟨xs⟩:=x
  obtain⟨ys⟩:=y
  congr 2
  exact Array.toList_inj.mp e
 | .inl _,.inr _,h,_=>by cases h
 | .inr _,.inl _,_,h=>by cases h
def Zw:List Key→List Key→Bool
 | [],[]=>false
 | [],_::_=>true
 | _::_,[]=>false
 | x::xs,y::ys=>if x=y then Zw xs ys else kLt x y
theorem Zaz(x y:Key)(xs ys:List Key):Zw (x::xs) (y::ys)=if x=y then Zw xs ys else kLt x y:=rfl
theorem Zae:∀a:List Key,Zw a a=false
 | []=>rfl
 | x::r=>by unfold Zw;rw[if_pos rfl];exact Zae r
theorem Zap:∀a b c:List Key,Zw a b=true→Zw b c=true→Zw a c=true
 | [],[],_,h,_=>by cases h
 | [],_::_,[],_,h=>by cases h
 | [],_::_,_::_,_,_=>rfl
 | _::_,[],_,h,_=>by cases h
 | _::_,_::_,[],_,h=>by cases h
 | x::r,y::s,z::t,h1,h2=>by
  have ih:=Zap r s t
  unfold Zw at h1 h2 ⊢
  by_cases e1:x=y
  ·rw[if_pos e1]at h1
   by_cases e2:y=z
   ·rw[if_pos e2]at h2
    rw[if_pos (e1.trans e2)]
    exact ih h1 h2
   ·rw[if_neg e2]at h2
    rw[if_neg (fun e=>e2 (e1.symm.trans e)),e1]
    exact h2
  ·rw[if_neg e1]at h1
   by_cases e2:y=z
   ·rw[if_neg (fun e=>e1 (e.trans e2.symm)),← e2]
    exact h1
   ·rw[if_neg e2]at h2
    have h3:=ZfG _ _ _ h1 h2
    rw[if_neg (fun e=>by rw[e,ZeM]at h3;cases h3)]
    exact h3
theorem Z2:∀a b:List Key,Zw a b=false→Zw b a=false→a=b
 | [],[],_,_=>rfl
 | [],_::_,h,_=>by cases h
 | _::_,[],_,h=>by cases h
 | x::r,y::s,h1,h2=>by
  unfold Zw at h1 h2
  by_cases e:x=y
  ·rw[if_pos e]at h1
   rw[if_pos e.symm]at h2
   rw[e,Z2 r s h1 h2]
  ·rw[if_neg e]at h1
   rw[if_neg fun z=>e z.symm]at h2
   exact absurd (ZfJ _ _ h1 h2) e
theorem ZfW(a b c:List Key)(h:Zw a c=true):Zw a b=true∨Zw b c=true:=by
 by_cases h1:Zw a b=true
 ·exact .inl h1
 ·by_cases h2:Zw b a=true
  ·exact .inr (Zap _ _ _ h2 h)
  ·have e:=Z2 a b (by simpa using h1) (by simpa using h2)
   rw[← e];exact .inr h
def unV:V→Option Key
 | .int i=>some (.inl i)
 | .str x=>some (.inr x)
 | _=>none
def Zb9:List V→Option (List Key)
 | []=>some []
 | x::r=>(unV x).bind fun k=>(Zb9 r).map (k::·)
theorem ZiH(k:Key):unV (kV k)=some k:=by cases k<;>rfl
theorem Zd5:∀ks:List Key,Zb9 (ks.map kV)=some ks
 | []=>rfl
 | k::r=>by show (unV (kV k)).bind _=_;rw[ZiH,Zd5 r];rfl
theorem Zix:∀ {x:V} {k:Key},unV x=some k→x=kV k
 | .int i,k,h=>by cases h;rfl
 | .str z,k,h=>by cases h;rfl
 | .non,_,h=>by cases h
 | .bl _,_,h=>by cases h
 | .byt _,_,h=>by cases h
 | .flt _,_,h=>by cases h
 | .ref _,_,h=>by cases h
 | .ty _,_,h=>by cases h
theorem Zed:∀ {xs:List V} {ks:List Key},Zb9 xs=some ks→xs=ks.map kV
 | [],ks,h=>by cases h;rfl
 | x::r,ks,h=>by
  unfold Zb9 at h
  cases hu:unV x with
  | none=>rw[hu]at h;cases h
  | some k =>
   rw[hu]at h
   cases hr:Zb9 r with
   | none=>rw[hr]at h;cases h
   | some ms=>rw[hr]at h;cases h;rw[Zix hu,Zed hr];rfl
def ZK(ks:List Key):List Bool:=ks.map fun k=>k.isLeft
def Zde(H:Hp)(sh:List Bool):Value→Option (List Key)
 | .ref a=>match H a with
  | some (.tup xs)=>(Zb9 xs).bind fun ks=>if ZK ks=sh then some ks else none
  | _=>none
 | _=>none
theorem Zeu{H:Hp}{a:Addr}{ks:List Key}(h:H a=some (.tup (ks.map kV))):Zde H (ZK ks) (.ref a)=some ks:=by
 unfold Zde
 dsimp only
 rw[h]
 show (Zb9 (ks.map kV)).bind _=_
 rw[Zd5]
 show (if ZK ks=ZK ks then some ks else none)=_
 rw[if_pos rfl]
theorem Zet{H:Hp}{sh:List Bool}{v:Value}{ks:List Key}(h:Zde H sh v=some ks):∃a,v=.ref a∧H a=some (.tup (ks.map kV))∧ZK ks=sh:=by
 unfold Zde at h
 split at h
 ·rename_i a
  split at h
  ·rename_i xs hx
   cases hk:Zb9 xs with
   | none=>rw[hk]at h;cases h
   | some ms =>
    rw[hk]at h
    have h':(if ZK ms=sh then some ms else none)=some ks:=h
    by_cases e:ZK ms=sh
    ·rw[if_pos e]at h'
     cases h'
     exact⟨a,rfl,by rw[hx,Zed hk],e⟩
    ·rw[if_neg e]at h';cases h'
  ·cases h
 ·cases h
def ZdI(H:Hp)(sh:List Bool):PyProof.Rows.KeyKind:=⟨⟨List Key,Zw,Zae,Zap,fun a b c h=>ZfW a b c h,Z2⟩,Zde H sh,[]⟩
section
variable {prog:Program} {w:World} {A:Around} {E:Value→Shared→Prop} {s:Shared}
theorem Zim{k m:Key}{p q:Value}(hp:Zv (kV k) p)(hq:Zv (kV m) q)(hs:k.isLeft=m.isLeft){Q:Bool→Shared→Prop}(h:Q (decide (k=m)) s):wpAny (model prog w) A (eqBool p q) Q E s:=by
 cases k with
 | inl i =>
  cases m with
  | inl j =>
   obtain⟨t,rfl⟩:=hp
   obtain⟨u,rfl⟩:=hq
   refine wpAny_eqBool_int ?_
   have e:(i == j)=decide ((Sum.inl i:Key)=Sum.inl j):=by
    by_cases z:i=j
    ·rw[z];simp
    ·rw[decide_eq_false (fun e=>z (Sum.inl.inj e))];simpa using z
   rw[e];exact h
  | inr y=>cases hs
 | inr x =>
  cases m with
  | inl j=>cases hs
  | inr y =>
   obtain⟨t,rfl⟩:=hp
   obtain⟨u,rfl⟩:=hq
   refine wpAny_eqBool_str ?_
   have e:decide (x=y)=decide ((Sum.inr x:Key)=Sum.inr y):=decide_eq_decide.mpr ⟨fun z=>by rw[z],fun z=>Sum.inr.inj z⟩
   rw[e];exact h
theorem ZiF{c:Bool}{k m:Key}{p q:Value}(hp:Zv (kV k) p)(hq:Zv (kV m) q)(hs:k.isLeft=m.isLeft){Q:Bool→Shared→Prop}(h:Q (kLt k m) s):wpAny (model prog w) A (oneLt' c p q) Q E s:=by
 cases k with
 | inl i =>
  cases m with
  | inl j =>
   obtain⟨t,rfl⟩:=hp
   obtain⟨u,rfl⟩:=hq
   cases c with
   | true=>exact oneLt_int h
   | false =>
    rw[oneLt'_eq]
    show wpAny _ _ (richCompare .Lt (.int i t) (.int j u) >>= _) _ _ _
    refine wpAny_bind (show wpAny (model prog w) A (compareOp .Lt (.int i t) (.int j u)) _ _ _ from PyProof.Rows.lt_int ?_)
    exact wpAny_pure h
  | inr y=>cases hs
 | inr x =>
  cases m with
  | inl j=>cases hs
  | inr y =>
   obtain⟨t,rfl⟩:=hp
   obtain⟨u,rfl⟩:=hq
   cases c with
   | true=>exact oneLt_str h
   | false =>
    rw[oneLt'_eq]
    show wpAny _ _ (richCompare .Lt (.str x t) (.str y u) >>= _) _ _ _
    refine wpAny_bind (show wpAny (model prog w) A (compareOp .Lt (.str x t) (.str y u)) _ _ _ from PyProof.Rows.lt_str ?_)
    exact wpAny_pure h
theorem ZiN{b:Bool}{x y:Addr}{ks ms:List Key}{its its2:List Value}(hx:IsTup s.heap x its.toArray)(hy:IsTup s.heap y its2.toArray)(rx:Zl (ks.map kV) its)(ry:Zl (ms.map kV) its2)(hs:ZK ks=ZK ms){Q:Bool→Shared→Prop}
  (h:Q (Zw ks ms) s):wpAny (model prog w) A (keyLt' (tuples' b) (.ref x) (.ref y)) Q E s:=by
 obtain⟨o1,ho1,_,n1,hd1⟩:=hx
 obtain⟨o2,ho2,_,n2,hd2⟩:=hy
 show wpAny _ _ (Builtin.List.listItems (.ref x) >>= _) _ _ _
 refine wpAny_bind (ZV ho1 hd1 (wpAny_bind (ZV ho2 hd2 (wpAny_bind ?_))))
 have hl1:=rx.length
 have hl2:=ry.length
 have hl3:ks.length=ms.length:=by have:=congrArg List.length hs;simpa [ZK] using this
 rw[Qa]at hl1 hl2
 refine wpAny_forIn_list _ (fun rest c s'=>c=(none,())∧s'=s∧∃ (vs ws:List Value) (k:Nat) (ks' ms':List Key),rest=(vs.zip ws).zipIdx k∧Zl (ks'.map kV) vs∧Zl (ms'.map kV) ws∧ZK ks'=ZK ms'∧Zw ks ms=Zw ks' ms') _ ?_ ?_ _ _ ⟨rfl,rfl,its,its2,0,ks,ms,by simp,rx,ry,hs,rfl⟩
 ·rintro⟨⟨p,q⟩,i⟩ rest c s' ⟨rfl,rfl,vs,ws,k,ks',ms',hz,rv,rw',hs',he⟩
  cases ks' with
  | nil=>cases rv;cases hz
  | cons k1 kr =>
   cases ms' with
   | nil=>cases hs'
   | cons m1 mr =>
    cases rv with
    | cons r1 rr =>
     cases rw' with
     | cons r1' rr' =>
      rw[Qas,List.zipIdx_cons]at hz
      injection hz with h1 h2
      injection h1 with h3 h4
      injection h3 with h5 h6
      subst h4 h5 h6
      unfold ZK at hs'
      rw[Qw,Qw]at hs'
      injection hs' with s1 s2
      refine wpAny_bind (Zim r1 r1' s1 ?_)
      rw[Zaz]at he
      by_cases e:k1=m1
      ·rw[if_pos e]at he
       rw[decide_eq_true e]
       exact wpAny_pure ⟨rfl,rfl,_,_,_,kr,mr,h2,rr,rr',s2,he⟩
      ·rw[if_neg e]at he
       rw[decide_eq_false e]
       refine wpAny_bind (ZiF r1 r1' s1 (wpAny_pure ?_))
       refine wpAny_pure ?_
       rw[← he];exact h
 ·rintro c s' ⟨rfl,rfl,vs,ws,k,ks',ms',hz,rv,rw',hs',he⟩
  refine wpAny_pure ?_
  have e:Zw ks' ms'=false:=by
   cases ks' with
   | nil =>
    cases ms' with
    | nil=>rfl
    | cons _ _=>cases hs'
   | cons k1 kr =>
    cases ms' with
    | nil=>cases hs'
    | cons m1 mr =>
     cases rv with
     | cons r1 rr =>
      cases rw' with
      | cons r1' rr'=>rw[Qas,List.zipIdx_cons]at hz;cases hz
  rw[e]at he
  rw[he]at h
  have e2:decide (its.toArray.size<its2.toArray.size)=false:=decide_eq_false (by rw[Qm,Qm];omega)
  rw[e2];exact h
end
section
variable {prog:Program} {w:World} {A:Around} {E:Value→Shared→Prop} {s:Shared}
theorem w_mapM{M:Model}{α β:Type}{f:α→Sem β}(R:α→β→Prop):∀ (l:List α) {Q:List β→Shared→Prop},(∀v∈l,∃r,R v r∧∀ (Q':β→Shared→Prop),Q' r s→wpAny M A (f v) Q' E s)→(∀rs,rs.length=l.length→(∀r∈rs,∃v∈l,R v r)→Q rs s)→wpAny M A (List.mapM f l) Q E s
 | [],Q,_,q=>by rw[List.mapM_nil];exact wpAny_pure (q [] rfl (fun r h=>by cases h))
 | a::l,Q,h,q=>by
  rw[List.mapM_cons]
  obtain⟨r,hr,hw⟩:=h a (by simp)
  refine wpAny_bind (hw _ (wpAny_bind (w_mapM R l (fun v hv=>h v (Ql _ hv)) fun rs hl hrs=>wpAny_pure (q (r::rs) (by simp[hl]) fun z hz=>?_))))
  rcases Q6.mp hz with rfl|hz
  ·exact⟨a,by simp,hr⟩
  ·obtain⟨v,hv,hR⟩:=hrs z hz
   exact⟨v,Ql _ hv,hR⟩
theorem w_mapA{M:Model}{α β:Type}{f:α→Sem β}(R:α→β→Prop)(l:Array α){Q:Array β→Shared→Prop}(h:∀v∈l.toList,∃r,R v r∧∀ (Q':β→Shared→Prop),Q' r s→wpAny M A (f v) Q' E s)(q:∀rs:Array β,(∀r∈rs.toList,∃v∈l.toList,R v r)→Q rs s):wpAny M A (Array.mapM f l) Q E s:=by
 rw[Array.mapM_eq_mapM_toList,map_eq_pure_bind]
 exact wpAny_bind (w_mapM R l.toList h fun rs _ hr=>wpAny_pure (q rs.toArray (by simpa using hr)))
theorem Zfr{a:Addr}{its:List Value}(ht:IsTup s.heap a its.toArray){Q:Option Value→Shared→Prop}(q:Q its[0]? s):wpAny (model prog w) A (firstOfTuple' (.ref a)) Q E s:=by
 obtain⟨o,ho,hc,n,hd⟩:=id ht
 show wpAny _ _ (typeOf (.ref a) >>= _) _ _ _
 refine wpAny_bind (wpAny_typeOf ht.typeIs ?_)
 rw[if_neg (by decide)]
 refine wpAny_bind (ZV ho hd (wpAny_pure ?_))
 simpa using q
theorem Zgt{k:Key}{v:Value}(h:Zv (kV k) v){Q:Value→Shared→Prop}(q:Q (.type (if k.isLeft then "int" else "str")) s):wpAny (model prog w) A (typeOf v) Q E s:=by
 cases k with
 | inl i=>obtain⟨t,rfl⟩:=h;exact wpAny_typeOf (T := "int") rfl q
 | inr x=>obtain⟨t,rfl⟩:=h;exact wpAny_typeOf (T := "str") rfl q
theorem ZfY{vs:List Value}(h:∀v∈vs,∃ (a:Addr) (its:List Value) (k:Key) (v0:Value),v=.ref a∧IsTup s.heap a its.toArray∧its[0]? = some v0∧Zv (kV k) v0){Q:SortKind→Shared→Prop}(q:∀b,Q (tuples' b) s):wpAny (model prog w) A (keyKind' vs.toArray) Q E s:=by
 rw[keyKind'_eq]
 refine wpAny_bind (w_mapA (fun _ r=>∃ (k:Key) (v0:Value),r=some v0∧Zv (kV k) v0) _ (fun v hv=>?_) fun firsts hf=>?_)
 ·obtain⟨a,its,k,v0,rfl,ht,h0,hr⟩:=h v (by simpa using hv)
  exact⟨its[0]?,⟨k,v0,h0,hr⟩,fun Q' q'=>Zfr ht q'⟩
 ·have hall:(firsts.all fun x=>x.isSome)=true:=by
   rw[Array.all_eq_true]
   intro i hi
   obtain⟨v,_,k,v0,e,_⟩:=hf firsts[i] (by simp)
   rw[e];rfl
  rw[if_pos hall]
  refine wpAny_bind (wpAny_rule (wpAny_bind ?_))
  rw[oneTypeOnly'_eq]
  refine wpAny_bind (w_mapA (fun _ _=>True) _ (fun v hv=>?_) fun ts _=>?_)
  ·have hv':v∈(Array.filterMap id firsts).toList:=hv
   rw[Array.toList_filterMap]at hv'
   obtain⟨o,ho,eo⟩:=List.mem_filterMap.mp hv'
   obtain⟨_,_,k,v0,e,hr⟩:=hf o ho
   have e2:v0=v:=by
    have:o=some v:=eo
    rw[e]at this;exact QC this
   subst e2
   exact⟨_,trivial,fun Q' q'=>Zgt hr q'⟩
  ·split
   ·exact wpAny_pure (wpAny_pure (q _))
   ·exact wpAny_pure (wpAny_pure (q _))
theorem w_sort0{a:Addr}{vs:List Value}{n:Nat}{P:PySem.Fin→Shared→Prop}(ha:s.heap.get? a=some (seqObj "list" vs.toArray n))(h2:vs.length<2)
  (q:P (Fin.done (Flow.ret Value.none)) { s with heap:=sortedHeap s.heap a vs ((pairsOf vs).map fun x=>x.snd) }) :
  wpAny (model prog w) A (Builtin.«list.sort» { pos:=[.ref a] }) P E s:=by
 have hz:vs.toArray.size≤sizeLine:=by rw[Qm,sizeLine_eq];omega
 rw[list_sort_plain]
 refine wpAny_bind (ZV ha rfl ?_)
 show wpAny _ _ (updateSeq a (fun x=>#[]) >>= _) _ _ _
 refine wpAny_bind (wpAny_updateSeq ha rfl ?_ hz (by show 0≤_;omega))
 have e1:=get?_update_seq ha (fun _=>#[])
 refine wpAny_bind (seqEpoch_at e1 rfl ?_)
 refine wpAny_bind (wpAny_newTuple ?_ (by simpa using hz))
 refine wpAny_bind (wpAny_newList ?_ (by show 0≤_;omega))
 refine wpAny_holding ?_
 have hn2:vs.toArray.size<2:=by rw[Qm];omega
 have hps:(pairsOf vs).size=vs.length:=by unfold pairsOf;simp
 rw[if_pos hn2,if_pos hn2]
 have e2:(((s.heap.update a (Obj.mapSeq fun _=>#[])).push { cls:=.type "tuple",data:=.seq vs.toArray.toList.toArray }).push { cls:=.type "list",data:=.seq ([]:List Value).toArray }).get? a=some (seqObj "list" #[] _):=Qb _ (Qb _ e1)
 refine wpAny_bind (wpAny_pure ?_)
 show wpAny _ _ (pure ((),SortSt.mk' general' (vs.toArray.zip vs.toArray) #[] 7 none) >>= _) _ _ _
 refine wpAny_bind (wpAny_pure ?_)
 refine wpAny_bind (seqEpoch_at e2 rfl ?_)
 have hsz:((pairsOf vs).map fun x=>x.snd).size=vs.length:=by rw[Array.size_map,hps]
 show wpAny _ _ (updateSeq a (fun x=>(pairsOf vs).map fun x=>x.snd) >>= _) _ _ _
 refine wpAny_bind (wpAny_updateSeq e2 rfl ?_ (by show 0≤_;omega) (by show ((pairsOf vs).map fun x=>x.snd).size≤_;rw[hsz];rw[Qm]at hz;omega))
 show wpAny _ _ (if _ then _ else _) _ _ _
 rw[if_neg (by simp)]
 exact wpAny_pure q
theorem w_sorted0{l:Addr}{vs:List Value}{Q:Value→Shared→Prop}(hl:s.heap.IsList l vs.toArray)(h2:vs.length<2)
  (q:Q (.ref (s.heap.objs.size+1)) { s with heap:=sortedAll s.heap vs ((pairsOf vs).map fun x=>x.snd) }) :
  wpAny (model prog w) A (call (.builtin "sorted") [.ref l]) Q E s:=by
 refine Calls.call_function_entry kind_sorted plain_sorted entry_sorted (args_sorted1 (.ref l)) ?_
 have hz:vs.length≤sizeLine:=by rw[sizeLine_eq];omega
 refine wpAny_bind (wpAny_pure (wpAny_bind (collect_list hl (wpAny_bind (wpAny_newList ?_ hz)) hz)))
 have hsz:((s.heap.push (seqObj "list" #[] 0)).update s.heap.objs.size (Obj.mapSeq fun x=>x++vs.toArray)).objs.size=s.heap.objs.size+1:=by rw[Heap.size_update,size_push']
 have hoL:((((s.heap.push (seqObj "list" #[] 0)).update s.heap.objs.size (Obj.mapSeq fun x=>x++vs.toArray)).push (seqObj "list" vs.toArray 0)).get? (s.heap.objs.size+1))=some (seqObj "list" vs.toArray 0):=by
  rw[← hsz];exact Qq _ rfl
 show wpAny _ _ (holding [.ref ((s.heap.push (seqObj "list" #[] 0)).update s.heap.objs.size (Obj.mapSeq fun x=>x++vs.toArray)).objs.size] (call (.builtin "list.sort") [.ref ((s.heap.push (seqObj "list" #[] 0)).update s.heap.objs.size (Obj.mapSeq fun x=>x++vs.toArray)).objs.size]) >>= fun _=>ret (.ref ((s.heap.push (seqObj "list" #[] 0)).update s.heap.objs.size (Obj.mapSeq fun x=>x++vs.toArray)).objs.size)) _ _ _
 rw[hsz]
 refine wpAny_bind (wpAny_holding (wpAny_call_entry slot_list_sort ⟨_,hoL,rfl⟩ entry_list_sort ?_ (args_list_sort _)))
 exact w_sort0 hoL h2 ⟨_,rfl,wpAny_pure ⟨_,rfl,q⟩⟩
end
theorem Zeg{α β:Type}(f:α→β){l m:List β}(h:l.Perm m):∀ts:List α,m=ts.map f→∃ts':List α,ts'.Perm ts∧l=ts'.map f:=by
 induction h with
 | nil =>
  intro ts e
  have:ts=[]:=by cases ts with
   | nil=>rfl
   | cons _ _=>cases e
  subst this
  exact⟨[],.nil,rfl⟩
 | cons x _ ih =>
  intro ts e
  cases ts with
  | nil=>cases e
  | cons a r =>
   rw[Qw]at e
   injection e with e1 e2
   obtain⟨ts',p,e3⟩:=ih r e2
   exact⟨a::ts',p.cons a,by rw[Qw,e1,e3]⟩
 | swap x y l =>
  intro ts e
  cases ts with
  | nil=>cases e
  | cons a r =>
   cases r with
   | nil=>cases e
   | cons b r =>
    rw[Qw,Qw]at e
    injection e with e1 e2
    injection e2 with e2 e3
    exact⟨b::a::r,.swap a b r,by rw[Qw,Qw,e1,e2,e3]⟩
 | trans _ _ ih1 ih2 =>
  intro ts e
  obtain⟨ts2,p2,e2⟩:=ih2 ts e
  obtain⟨ts1,p1,e1⟩:=ih1 ts2 e2
  exact⟨ts1,p1.trans p2,e1⟩
theorem Zec{α:Type}:∀l:List α,l.zip l=l.map fun v=>(v,v)
 | []=>rfl
 | a::r=>by rw[Qas,Zec r];rfl
abbrev ZaQ:=List (Addr×List Key)
def ZB(ts:ZaQ):List V:=ts.map fun t=>V.ref t.1
def AtT(H:Hp)(ts:ZaQ):Prop:=∀t∈ts,H t.1=some (.tup (t.2.map kV))
theorem Zbm:∀ {ts:ZaQ} {us:List Value},Zl (ZB ts) us→us=ts.map fun t=>Value.ref t.1
 | [],_,h=>by cases h;rfl
 | t::r,_,h=>by
  cases h with
  | cons a b=>rw[Zbm b];cases a;rfl
theorem Zdo:∀ts:ZaQ,Zl (ZB ts) (ts.map fun t=>Value.ref t.1)
 | []=>.nil
 | t::r=>.cons rfl (Zdo r)
def Zh3(K:PySem.W.Frag):List V→Hp→VK→Prop:=fun xs H Q=>∃ (p:Addr) (ts:ZaQ) (sh:List Bool),xs=[.ref p]∧SqL K H p (ZB ts)∧AtT H ts∧sh≠[]∧(∀t∈ts,ZK t.2=sh)∧ts.length<64 ∧
 ∀ (l:Addr) (ts':ZaQ),H l=none→ts'.Perm ts→ts'.Pairwise (fun a b=>Zw b.2 a.2=false)→Q (.ref l) (upd H l (.lst (ZB ts')))
theorem ZdB{X:Cx}:ZX X (.builtin "sorted") (Zh3 X.K):=by
 intro pins s σ H xs us Q I r h
 obtain⟨p,ts,sh,rfl,hq,hat,hsh,hts,h64,q⟩:=h
 obtain⟨u,rfl,rx⟩:=ZaK r
 cases rx
 obtain⟨its,rv,pl,hz⟩:=I.list hq
 have ei:=Zbm rv
 subst ei
 have tupAt:∀t∈ts,∃its:List Value,Zl (t.2.map kV) its∧IsTup s.heap t.1 its.toArray:=fun t ht=>by
  obtain⟨i,v,q,_⟩:=I.tuple (SqT.of (K:=X.K) (hat t ht))
  exact⟨i,v,q⟩
 have eptl:(pairsOf (ts.map fun t=>Value.ref t.1)).toList=ts.map fun t=>(Value.ref t.1,Value.ref t.1):=by
  unfold pairsOf
  rw[Array.toList_zip,Zec,Qaf]
  rfl
 have fin:∀ (out:Array Value) (ts':ZaQ),ts'.Perm ts→ts'.Pairwise (fun a b=>Zw b.2 a.2=false)→out.toList=ts'.map (fun t=>Value.ref t.1)→EP X pins σ Q (.ref (s.heap.objs.size+1)) { s with heap:=sortedAll s.heap (ts.map fun t=>Value.ref t.1) out }:=fun out ts' pm pw eo=>by
  obtain⟨e,he⟩:=sortedAll_at s.heap (ts.map fun t=>Value.ref t.1) out
  refine⟨.ref (s.heap.objs.size+1),_,I.laid (t':=s.toks) (o:=.lst (ZB ts')) (fun _ _=>sortedAll_old) (Qal _) ⟨?_,out.toList,e,by rw[eo];exact Zdo ts',by simpa using he⟩,rfl,q _ ts' (I.hok.fresh (Qal _)) pm pw⟩
  unfold ZB
  rw[Qa,pm.length_eq,sizeLine_eq];omega
 by_cases h2:ts.length<2
 ·refine w_sorted0 pl.isList (by rw[Qa];exact h2) (fin _ ts (.refl _) ?_ ?_)
  ·cases ts with
   | nil=>exact .nil
   | cons t r =>
    have:r=[]:=Qt (by rw[QP]at h2;omega)
    subst this
    exact List.pairwise_singleton _ _
  ·rw[Array.toList_map,eptl,Qaf];rfl
 ·have hk:PyProof.Rows.KeysOf (ZdI H sh) (pairsOf (ts.map fun t=>Value.ref t.1)):=fun z hz'=>by
   rw[eptl]at hz'
   obtain⟨t,ht,rfl⟩:=Q1.mp hz'
   exact⟨t.2,by rw[← hts t ht];exact Zeu (hat t ht)⟩
  refine w_sorted (κ:=ZdI H sh) pl.isList hk (by rw[Qa];omega) (by rw[Qa];exact h64) (fun A' s' kp E' Q' q'=>?_) fun st' p1 p3=>?_
  ·have tup':∀ {a:Addr} {its:List Value},IsTup s.heap a its.toArray→IsTup s'.heap a its.toArray:=fun ⟨o,ho,hc⟩=>⟨o,kp _ _ ho,hc⟩
   refine ZfY (fun v hv=>?_) fun b=>q' _ fun E2 x y a c Q2 hx hy h2=>?_
   ·obtain⟨t,ht,rfl⟩:=Q1.mp hv
    obtain⟨i,v,qt⟩:=tupAt t ht
    have hs1:=hts t ht
    cases hk2:t.2 with
    | nil=>rw[hk2]at hs1;exact absurd hs1.symm hsh
    | cons k kr =>
     rw[hk2]at v
     cases v with
     | cons r1 rr=>exact⟨t.1,_,k,_,rfl,tup' qt,rfl,r1⟩
   ·obtain⟨a1,rfl,ha1,s1⟩:=Zet hx
    obtain⟨a2,rfl,ha2,s2⟩:=Zet hy
    obtain⟨i1,v1,t1,_⟩:=I.tuple (SqT.of (K:=X.K) ha1)
    obtain⟨i2,v2,t2,_⟩:=I.tuple (SqT.of (K:=X.K) ha2)
    exact ZiN (tup' t1) (tup' t2) v1 v2 (s1.trans s2.symm) h2
  ·have p1':=p1.toList
   obtain⟨ts',pm,e⟩:=Zeg (fun t:Addr×List Key=>(Value.ref t.1,Value.ref t.1)) p1' ts eptl
   refine fin _ ts' pm ?_ ?_
   ·rw[List.pairwise_iff_getElem]
    intro i j hi hj hij
    have hsz:(pairsOf (ts.map fun t=>Value.ref t.1)).size=ts'.length:=by rw[← Qh,eptl,Qa,pm.length_eq]
    have:=p3 i j (by omega) (by rw[hsz];exact hj)
    have key:∀k (hk':k<ts'.length),KK (ZdI H sh) (arrOf st') k=ts'[k].2:=fun k hk'=>by
     unfold KK
     have e1:(arrOf st')[k]? = some (Value.ref ts'[k].1,Value.ref ts'[k].1):=by
      rw[← QD,e,Qn,Qd hk'];rfl
     rw[e1]
     have hm:ts'[k]∈ts:=pm.mem_iff.mp (QI hk')
     show ((Zde H sh (.ref ts'[k].1)).getD _)=_
     rw[← hts _ hm,Zeu (hat _ hm)];rfl
    rw[key i hi,key j hj]at this
    exact this
   ·rw[Array.toList_map,e,Qaf];rfl
theorem ZjQ{X:Cx}(K:PySem.W.Frag)(h:X.K=K:=by rfl):ZX X (.builtin "sorted") (Zh3 K):=by subst h;exact ZdB
theorem ZgX(A:Around)(s:Shared){k m:Key}{p q:Value}(hp:Zv (kV k) p)(hq:Zv (kV m) q)(hs:k.isLeft=m.isLeft):∃e,SeqAt.EqAt A s p q e∧(e=true↔k=m):=by
 cases k with
 | inl i =>
  cases m with
  | inl j =>
   obtain⟨t,rfl⟩:=hp
   obtain⟨u,rfl⟩:=hq
   exact⟨_,SeqAt.EqAt.int_int i t j u,by simp⟩
  | inr y=>cases hs
 | inr x =>
  cases m with
  | inl j=>cases hs
  | inr y =>
   obtain⟨t,rfl⟩:=hp
   obtain⟨u,rfl⟩:=hq
   exact⟨_,SeqAt.EqAt.str_str x t y u,by simp⟩
theorem ZgS(A:Around)(s:Shared){k m:Key}{p q:Value}(hp:Zv (kV k) p)(hq:Zv (kV m) q)(hs:k.isLeft=m.isLeft)(prog:Program)(w:World)(E:Value→Shared→Prop)(Q:Value→Shared→Prop)(h:Q (.bool (kLt k m)) s) :
  wpAny (model prog w) A (richCompare .Lt p q) Q E s:=by
 cases k with
 | inl i =>
  cases m with
  | inl j =>
   obtain⟨t,rfl⟩:=hp
   obtain⟨u,rfl⟩:=hq
   exact(PyProof.Rows.lt_int h:wpAny (model prog w) A (compareOp .Lt (.int i t) (.int j u)) Q E s)
  | inr y=>cases hs
 | inr x =>
  cases m with
  | inl j=>cases hs
  | inr y =>
   obtain⟨t,rfl⟩:=hp
   obtain⟨u,rfl⟩:=hq
   exact(PyProof.Rows.lt_str h:wpAny (model prog w) A (compareOp .Lt (.str x t) (.str y u)) Q E s)
section
open PySem.SeqAt
open PySem.AutoSeq1 (wpAny_loadPart')
open PySem.MeetsSeq PySem.MeetsSeq2 PySem.MeetsSeq3
theorem ZcU(l b:Addr)(items items2:Array Value)(n n2:Nat)(dd dd2:Option Addr)(sl sl2:Array (Option Value))(ks ms:List Key)(hi:Zl (ks.map kV) items.toList)(hj:Zl (ms.map kV) items2.toList)(hs:ZK ks=ZK ms) :
  Meets (Builtin.«tuple.__lt__» ⟨[.ref l,.ref b],[]⟩)
   (fun _ R s=>s.heap.get? l=some { cls:=.type "tuple",dict:=dd,data:=.seq items n,slots:=sl }∧s.heap.get? b=some { cls:=.type "tuple",dict:=dd2,data:=.seq items2 n2,slots:=sl2 } ∧
    R (.ok (.ret (.bool (Zw ks ms)))) s) :=
 .of_wp fun prog w A R s h=>by
  obtain⟨hp,g,d,tk,os⟩:=s;obtain⟨hl,hb,h⟩:=h
  have f2:=AutoSeq1.sub_tuple_tuple
  have z1:items.size=ks.length:=by have:=hi.length;simpa using this.symm
  have z2:items2.size=ms.length:=by have:=hj.length;simpa using this.symm
  have z3:ks.length=ms.length:=by have:=congrArg List.length hs;simpa [ZK] using this
  wp_walk using wpAny_loadPart' hl,wpAny_loadPart' hb,wpAny_forIn_list _ (fun rest b s'=>b.1=none∧s'=⟨hp,g,d,tk,os⟩∧∃ (vs ws:List Value) (ks' ms':List Key),rest=vs.zip ws ∧
   Zl (ks'.map kV) vs∧Zl (ms'.map kV) ws∧ZK ks'=ZK ms'∧R (.ok (.ret (.bool (Zw ks' ms')))) ⟨hp,g,d,tk,os⟩) _
  case turn =>
   rintro⟨y,x⟩ rest b s' ⟨hb',rfl,vs,ws,ks',ms',hz,hvi,hwi,hsh,hR⟩
   cases ks' with
   | nil=>cases hvi;rw[List.zip_nil_left]at hz;cases hz
   | cons k1 kr =>
    cases ms' with
    | nil=>cases hsh
    | cons m1 mr =>
     cases hvi with
     | cons r1 rr =>
      cases hwi with
      | cons r1' rr' =>
       rw[Qas]at hz
       injection hz with hyx hrest
       injection hyx with hy hx
       subst hy hx
       rw[Zaz]at hR
       unfold ZK at hsh
       rw[Qw,Qw]at hsh
       injection hsh with s1 s2
       obtain⟨e,he,hiff⟩:=ZgX A.in1 ⟨hp,g,d,tk,os⟩ r1 r1' s1
       refine wpAny_bind (he prog w _ _ ?_)
       cases e with
       | true =>
        rw[if_pos (hiff.mp rfl)]at hR
        wp_walk
        exact⟨rfl,rfl,_,_,_,_,hrest,rr,rr',s2,hR⟩
       | false =>
        rw[if_neg (fun q=>absurd (hiff.mpr q) Qz)]at hR
        have hri:=ZgS A.in1 ⟨hp,g,d,tk,os⟩ r1 r1' s1 prog w
        wp_walk using hri
        exact⟨_,rfl,by simpa using hR⟩
  case fin =>
   rintro⟨b1,b2⟩ s' ⟨hb',rfl,vs,ws,ks',ms',hz,hvi,hwi,hsh,hR⟩
   simp only at hb'
   subst hb'
   have hv:Zw ks' ms'=decide (items.size<items2.size):=by
    rw[decide_eq_false (by omega)]
    cases ks' with
    | nil =>
     cases ms' with
     | nil=>rfl
     | cons _ _=>cases hsh
    | cons k1 kr =>
     cases ms' with
     | nil=>cases hsh
     | cons m1 mr =>
      cases hvi with
      | cons r1 rr =>
       cases hwi with
       | cons r1' rr'=>rw[Qas]at hz;cases hz
   rw[hv]at hR
   wp_walk
   exact⟨_,rfl,by simpa [Builtin.Tuple.tupleCompareSizes] using hR⟩
  case h =>
   exact⟨rfl,rfl,items.toList,items2.toList,ks,ms,rfl,hi,hj,hs,h⟩
end
section
variable {prog:Program} {w:World} {A:Around} {E:Value→Shared→Prop} {s:Shared}
theorem ZeJ{l b:Addr}{items items2:Array Value}{ks ms:List Key}{Q:Value→Shared→Prop}(hl:IsTup s.heap l items)(hb:IsTup s.heap b items2)(hi:Zl (ks.map kV) items.toList)(hj:Zl (ms.map kV) items2.toList)(hs:ZK ks=ZK ms)
  (hu:A.units<cLine) (h:Q (.bool (Zw ks ms)) s):wpAny (model prog w) A (richCompare .Lt (.ref l) (.ref b)) Q E s:=by
 obtain⟨⟨cls,dd,data,sl⟩,ho,hc,n,hd⟩:=id hl
 obtain⟨⟨cls2,dd2,data2,sl2⟩,ho2,hc2,n2,hd2⟩:=id hb
 simp only at hc hd hc2 hd2
 subst hc hd hc2 hd2
 exact richCompare_meets_room (op:=.Lt) ⟨_,ho,rfl⟩ ⟨_,ho2,rfl⟩ PySem.F.slot_tuple_lt PySem.F.entry_tuple_lt (PySem.F.args_tuple_lt_2 _ _) (ZcU l b items items2 n n2 dd dd2 sl sl2 ks ms hi hj hs)
  ⟨ho,ho2,show Value.bool (Zw ks ms)≠Value.notImplemented∧Q (.bool (Zw ks ms)) s from⟨(fun x=>nomatch x),h⟩⟩ hu
end
section
variable {prog:Program} {w:World}
theorem Zfq{A:Around}{a:Args}:(A.under (.builtin "min.loop" a)).units≤A.units+1:=by
 show A.units+(Code.builtin "min.loop" a).cUnits≤A.units+1
 first|exact Qj _|simp[Code.cUnits,Code.frames,Code.isFrame]
theorem ZcH{A:Around}{R:Result→Shared→Prop}{l I S:Addr}{ts:ZaQ}{sh:List Bool}{h0:Heap}{kw:List (Str×Value)}(hh:A.handled=none)(hu:A.units+4<cLine)(hlist:h0.IsList l (ts.map fun t=>Value.ref t.1).toArray)
  (hI:h0.get? I=none) (hS:h0.get? S=none) (hSI:S≠I) (htup:∀t∈ts,∃its:List Value,Zl (t.2.map kV) its∧IsTup h0 t.1 its.toArray) (hsh:∀t∈ts,ZK t.2=sh) (s0:Shared)
  (q:∀ (h':Heap) (t:Addr×List Key),(∀b o,h0.get? b=some o→h'.get? b=some o)→t∈ts→(∀u∈ts,Zw u.2 t.2=false)→R (.ok (.ret (.ref t.1))) { s0 with heap:=h' }) :
  ∀ (k j:Nat) (h:Heap) (t:Addr×List Key) (c:Nat),ts.length-j=k→j≤ts.length→(∀b o,h0.get? b=some o→h.get? b=some o)→h.IsListIter I l j→h.get? S=some { cls:=.type "list",data:=.seq #[.ref t.1,.ref t.1] c }→t∈ts →
   (∀u∈ts.take j,Zw u.2 t.2=false)→codeAny (model prog w) A (.builtin "min.loop" { pos:=[.ref I,.none,.ref S],kw:=kw }) R { s0 with heap:=h }
 | k,j,h,t,c,hk,hj,keep,hit,hst,htm,hbest=>by
  refine codeAny_builtin F.entry_min_loop ?_
  show wpAny _ _ (seqItems? (.ref S) >>= _) _ _ _
  refine wpAny_bind (wpAny_seqItems hst rfl ?_)
  have keepL:h.IsList l (ts.map fun t=>Value.ref t.1).toArray:=by
   obtain⟨o,ho,r⟩:=hlist
   exact⟨o,keep _ _ ho,r⟩
  by_cases hlt:j<ts.length
  ·have hx:((ts.map fun t=>Value.ref t.1).toArray)[j]? = some (Value.ref ts[j].1):=by simp[hlt]
   refine wpAny_bind (wpAny_tryCatch (wpAny_pyNext_list_item hit keepL hx fun h1 hit1 sb=>?_))
   have keep1:∀b o,h0.get? b=some o→h1.get? b=some o:=fun b o hb=>by
    have nb:b≠I:=fun e=>by rw[e,hI]at hb;cases hb
    rw[sb.2 b nb];exact keep b o hb
   have hst1:h1.get? S=some { cls:=.type "list",data:=.seq #[.ref t.1,.ref t.1] c }:=by rw[sb.2 S hSI];exact hst
   refine wpAny_bind (wpAny_pure ?_)
   have hjm:ts[j]∈ts:=QI hlt
   obtain⟨i1,v1,t1⟩:=htup _ hjm
   obtain⟨i2,v2,t2⟩:=htup _ htm
   have tup1:∀ {a:Addr} {its:List Value},IsTup h0 a its.toArray→IsTup h1 a its.toArray:=fun ⟨o,ho,hc⟩=>⟨o,keep1 _ _ ho,hc⟩
   have hsh1:ZK ts[j].2=ZK t.2:=(hsh _ hjm).trans (hsh _ htm).symm
   refine wpAny_bind (wpAny_tryCatch (wpAny_holding (wpAny_bind (ZeJ (tup1 t1) (tup1 t2) (by simpa using v1) (by simpa using v2) hsh1 (Nat.lt_of_le_of_lt Zfq (by omega)) (wpAny_bind (wpAny_holding (wpAny_truthy_bool (wpAny_bind (wpAny_letGo (wpAny_pure ?_))))))))))
   cases hb:Zw ts[j].2 t.2 with
   | true =>
    refine wpAny_bind (wpAny_updateSeq hst1 rfl ?_ (by show 2≤_;rw[sizeLine_eq];decide) (by show 2≤_;rw[sizeLine_eq];decide))
    refine wpAny_bind (wpAny_letGo (wpAny_pure ⟨rfl,?_⟩))
    refine ZcH hh hu hlist hI hS hSI htup hsh s0 q (k-1) (j+1) _ ts[j] c (by omega) (by omega) (fun b o hb'=>?_) ?_ ?_ hjm (fun u hu'=>?_)
    ·have nb:S≠b:=fun e=>by rw[← e,hS]at hb';cases hb'
     exact QX _ nb (keep1 b o hb')
    ·obtain⟨o,ho,r⟩:=hit1
     exact⟨o,QX _ hSI ho,r⟩
    ·have:=get?_update_seq (c := "list") hst1 (fun _=>#[.ref ts[j].1,.ref ts[j].1])
     simpa using this
    ·rw[Qaa,Qd hlt]at hu'
     rcases Qf.mp hu' with hu'|hu'
     ·have:=hbest u hu'
      cases hz:Zw u.2 ts[j].2 with
      | false=>rfl
      | true=>rw[Zap _ _ _ hz hb]at this;cases this
     ·have:u=ts[j]:=by simpa using hu'
      rw[this];exact Zae _
   | false =>
    refine wpAny_bind (wpAny_letGo (wpAny_pure ⟨rfl,?_⟩))
    refine ZcH hh hu hlist hI hS hSI htup hsh s0 q (k-1) (j+1) h1 t c (by omega) (by omega) keep1 hit1 hst1 htm (fun u hu'=>?_)
    rw[Qaa,Qd hlt]at hu'
    rcases Qf.mp hu' with hu'|hu'
    ·exact hbest u hu'
    ·have:u=ts[j]:=by simpa using hu'
     rw[this];exact hb
  ·have hx:((ts.map fun t=>Value.ref t.1).toArray)[j]? = none:=by simp;omega
   refine wpAny_bind (wpAny_tryCatch (wpAny_pyNext_list_end hh hit keepL hx fun h1 eb=>?_))
   have hst1:h1.get? S=some { cls:=.type "list",data:=.seq #[.ref t.1,.ref t.1] c }:=eb S _ hSI hst
   refine wpAny_bind (wpAny_updateSeq hst1 rfl ?_ (by show 2≤_;rw[sizeLine_eq];decide) (by show 0≤_;omega))
   refine wpAny_bind (wpAny_letGo (wpAny_pure ?_))
   refine q _ t (fun b o hb=>?_) htm (fun u hu'=>hbest u (by rw[QF (by omega)];exact hu'))
   have nb:S≠b:=fun e=>by rw[← e,hS]at hb;cases hb
   have nI:b≠I:=fun e=>by rw[e,hI]at hb;cases hb
   exact QX _ nb (eb b o nI (keep b o hb))
termination_by k=>k
theorem Zfo{A:Around}{R:Result→Shared→Prop}{l I S:Addr}{ts:ZaQ}{sh:List Bool}{h0 h:Heap}{c:Nat}{kw:List (Str×Value)}(hh:A.handled=none)(hu:A.units+4<cLine)(hlist:h0.IsList l (ts.map fun t=>Value.ref t.1).toArray)
  (hI:h0.get? I=none) (hS:h0.get? S=none) (hSI:S≠I) (htup:∀t∈ts,∃its:List Value,Zl (t.2.map kV) its∧IsTup h0 t.1 its.toArray) (hsh:∀t∈ts,ZK t.2=sh) (s0:Shared) (keep:∀b o,h0.get? b=some o→h.get? b=some o) (hit:h.IsListIter I l 0) (hst:h.get? S=some { cls:=.type "list",data:=.seq #[] c })
  (hne:ts≠[]∨∃n d kr,kw=(n,d)::kr∧∀h':Heap,(∀b o,h0.get? b=some o→h'.get? b=some o)→R (.ok (.ret d)) { s0 with heap:=h' })
  (q:∀ (h':Heap) (t:Addr×List Key),(∀b o,h0.get? b=some o→h'.get? b=some o)→t∈ts→(∀u∈ts,Zw u.2 t.2=false)→R (.ok (.ret (.ref t.1))) { s0 with heap:=h' }) :
  codeAny (model prog w) A (.builtin "min.loop" { pos:=[.ref I,.none,.ref S],kw:=kw }) R { s0 with heap:=h }:=by
 refine codeAny_builtin F.entry_min_loop ?_
 show wpAny _ _ (seqItems? (.ref S) >>= _) _ _ _
 refine wpAny_bind (wpAny_seqItems hst rfl ?_)
 have keepL:h.IsList l (ts.map fun t=>Value.ref t.1).toArray:=by
  obtain⟨o,ho,r⟩:=hlist
  exact⟨o,keep _ _ ho,r⟩
 cases ts with
 | nil =>
  obtain⟨n,d,kr,rfl,q0⟩:=hne.resolve_left (by simp)
  refine wpAny_bind (wpAny_tryCatch (wpAny_pyNext_list_end hh hit keepL (by simp) fun h1 eb=>?_))
  show wpAny _ _ (rule _ >>= _) _ _ _
  refine wpAny_bind (wpAny_rule (wpAny_pure ?_))
  refine q0 _ fun b o hb=>?_
  have nI:b≠I:=fun e=>by rw[e,hI]at hb;cases hb
  exact eb b o nI (keep b o hb)
 | cons t r =>
  refine wpAny_bind (wpAny_tryCatch (wpAny_pyNext_list_item hit keepL (x:=.ref t.1) (by simp) fun h1 hit1 sb=>?_))
  have keep1:∀b o,h0.get? b=some o→h1.get? b=some o:=fun b o hb=>by
   have nb:b≠I:=fun e=>by rw[e,hI]at hb;cases hb
   rw[sb.2 b nb];exact keep b o hb
  have hst1:h1.get? S=some { cls:=.type "list",data:=.seq #[] c }:=by rw[sb.2 S hSI];exact hst
  refine wpAny_bind (wpAny_pure ?_)
  show wpAny _ _ (updateSeq S _ >>= _) _ _ _
  refine wpAny_bind (wpAny_updateSeq hst1 rfl ?_ (by show 0≤_;omega) (by show 2≤_;rw[sizeLine_eq];decide))
  refine wpAny_pure ⟨rfl,?_⟩
  refine ZcH hh hu hlist hI hS hSI htup hsh s0 q _ 1 _ t (c+1) rfl (by simp) (fun b o hb'=>?_) ?_ ?_ (by simp) (fun u hu'=>?_)
  ·have nb:S≠b:=fun e=>by rw[← e,hS]at hb';cases hb'
   exact QX _ nb (keep1 b o hb')
  ·obtain⟨o,ho,r⟩:=hit1
   exact⟨o,QX _ hSI ho,r⟩
  ·have:=get?_update_seq (c := "list") hst1 (fun _=>#[.ref t.1,.ref t.1])
   simpa using this
  ·have:u=t:=by simpa using hu'
   rw[this];exact Zae _
end
section
variable {X:Cx}
def Zh1(K:PySem.W.Frag):List V→Hp→VK→Prop:=fun vs H Q=>∃ (p:Addr) (ts:ZaQ) (sh:List Bool),vs=[.ref p]∧SqL K H p (ZB ts)∧AtT H ts∧ts≠[]∧(∀t∈ts,ZK t.2=sh) ∧
 ∀t:Addr×List Key,t∈ts→(∀u∈ts,Zw u.2 t.2=false)→Q (.ref t.1) H
theorem ZgH{prog:Program}{w:World}{A:Around}{R:Result→Shared→Prop}{s:Shared}{l:Addr}{ts:ZaQ}{sh:List Bool}{kw:List (Str×Value)}{kw2:List (Str×Value)}(hh:A.handled=none)(hu:A.units+4<cLine)(hlist:s.heap.IsList l (ts.map fun t=>Value.ref t.1).toArray)
  (hkw:(kw=[]∧kw2=[])∨∃d,kw=[(Str.ofString "default",d)]∧kw2=[(Str.ofString "default",d)])
  (htup:∀t∈ts,∃its:List Value,Zl (t.2.map kV) its∧IsTup s.heap t.1 its.toArray) (hsh:∀t∈ts,ZK t.2=sh)
  (hne:ts≠[]∨∃n d kr,kw2=(n,d)::kr∧∀h':Heap,(∀b o,s.heap.get? b=some o→h'.get? b=some o)→R (.ok (.ret d)) { s with heap:=h' })
  (q:∀ (h':Heap) (t:Addr×List Key),(∀b o,s.heap.get? b=some o→h'.get? b=some o)→t∈ts→(∀u∈ts,Zw u.2 t.2=false)→R (.ok (.ret (.ref t.1))) { s with heap:=h' }) :
  codeAny (model prog w) A (.call (.builtin "min") { pos:=[.ref l],kw:=kw }) R s:=by
 refine codeAny_call_builtin_at rfl F.entry_min ?_
 have hc:checkBuiltinCall "min" { pos:=[.ref l],kw:=kw }=pure ():=by
  rcases hkw with⟨rfl,_⟩|⟨d,rfl,_⟩<;>rfl
 rw[hc]
 refine wpAny_pure ?_
 have go:∀ {A':Around},A'.handled=none→wpAny (model prog w) A' (pyIter (.ref l) >>= fun it=>newList [] >>= fun b=>again (.builtin "min.loop" { pos:=[it,.none,b],kw:=kw2 })) (fun fin s'=>match fin with
   | Fin.done f=>R (Except.ok f) s'
   | Fin.again c'=>c'.quiet=true∧codeAny (model prog w) A c' R s') (fun e s'=>R (Except.error e) s') s:=fun {A'} hA'=>by
  refine wpAny_bind (wpAny_pyIter_list hlist ?_)
  refine wpAny_bind (wpAny_newList ?_ (by show 0≤_;omega))
  refine wpAny_pure ⟨rfl,?_⟩
  have none_at:∀b,s.heap.objs.size≤b→s.heap.get? b=none:=fun b hb=>by
   cases e:s.heap.get? b with
   | none=>rfl
   | some o=>exact absurd (Qk e) (Nat.not_lt.mpr hb)
  have hsz:(s.heap.push { cls:=Value.type "list_iterator",data:=Data.fields #[Value.ref l,Value.int 0 0] }).objs.size=s.heap.objs.size+1:=size_push' _ _
  refine Zfo (h0:=s.heap) (c:=0) hh hu hlist (none_at _ (Qj _)) (none_at _ (by rw[hsz];exact Qal _)) (by rw[hsz];exact Nat.succ_ne_self _) htup hsh s (fun b o h=>Qb _ (Qb _ h)) ⟨_,Qb _ (Qq _ rfl),rfl,rfl⟩ (Qq _ rfl) hne q
 rcases hkw with⟨rfl,rfl⟩|⟨d,rfl,rfl⟩
 ·exact go hh
 ·exact go hh
theorem ZfF(hc:X.calm=true)(hu:X.A.units+64<cLine):ZX X (.builtin "min") (Zh1 X.K):=by
 intro pins s σ H vs us Q I r h
 obtain⟨p,ts,sh,rfl,hq,hat,hne,hsh,q⟩:=h
 obtain⟨u,rfl,rx⟩:=ZaK r
 cases rx
 obtain⟨its,rv,pl,hz⟩:=I.list hq
 have ei:=Zbm rv
 subst ei
 refine wpAny_call (ZgH (sh:=sh) (I.ok.hd hc) (by omega) pl.isList (.inl ⟨rfl,rfl⟩) (fun t ht=>?_) hsh (.inl hne) fun h' t kp ht hmin=>?_)
 ·obtain⟨i,v,q,_⟩:=I.tuple (SqT.of (K:=X.K) (hat t ht))
  exact⟨i,v,q⟩
 ·exact⟨.ref t.1,H,I.kept (t':=s.toks) kp,rfl,q t ht hmin⟩
theorem ZjP(K:PySem.W.Frag){k:Nat}(hr:ZaE k X.A)(hc:X.calm=true:=by rfl)(h:X.K=K:=by rfl):ZX X (.builtin "min") (Zh1 K):=by subst h;exact ZfF hc hr.units
end
theorem Zda{α β:Type}(f:α→β):∀ (l:List α) (i:Nat),(l.eraseIdx i).map f=(l.map f).eraseIdx i
 | [],_=>rfl
 | a::r,0=>rfl
 | a::r,i+1=>by simp[Zda f r i]
theorem Zfz{A:Around}{a:Args}:(A.under (.builtin "list.remove.loop" a)).units≤A.units+1:=by
 show A.units+(Code.builtin "list.remove.loop" a).cUnits≤A.units+1
 rw[plainId_units MeetsSeq.plain_remove_loop]
 exact Qj _
def EqS(s:Shared)(items:List Value)(v:Value)(e:Nat→Bool):Prop:=∀ (prog:Program) (w:World) (A:Around) (E:Value→Shared→Prop) (Q:Bool→Shared→Prop) (m:Nat) (x:Value),A.units+2<cLine→items[m]? = some x→Q (e m) s→wpAny (model prog w) A (eqBool x v) Q E s
theorem Zek{prog:Program}{w:World}{A:Around}{R:Result→Shared→Prop}{s:Shared}{l:Addr}{items:List Value}{n:Nat}{v:Value}{e:Nat→Bool}{j:Nat}(hl:s.heap.get? l=some { cls:=.type "list",data:=.seq items.toArray n })(hq:EqS s items v e)(hu:A.units+8<cLine)(hz:items.length≤1000)
  (hj:j<items.length) (h1:e j=true) (h0:∀m,m<j→e m=false) (q:R (.ok (.ret .none)) { s with heap:=s.heap.update l (Obj.mapSeq fun xs=>xs.eraseIdxIfInBounds j) }) :
  ∀ (k i:Nat),j-i=k→i≤j→codeAny (model prog w) A (.builtin "list.remove.loop" { pos:=[.ref l,v,rawInt (i:Int)] }) R s
 | k,i,hk,hi=>by
  refine codeAny_builtin MeetsSeq.entry_remove_loop ?_
  have hx:items.toArray[((i:Nat):Int).toNat]? = some items[i]:=by rw[Q0];simp
  show wpAny _ _ (Builtin.List.listItems (.ref l) >>= _) _ _ _
  refine wpAny_bind (ZV hl rfl ?_)
  show wpAny _ _ (match items.toArray[((i:Nat):Int).toNat]? with|none=>_|some x=>_) _ _ _
  rw[hx]
  refine wpAny_bind (hq prog w _ _ _ i _ (Nat.lt_of_le_of_lt (Nat.add_le_add_right Zfz 2) (by omega)) (by simp) ?_)
  by_cases e0:i=j
  ·subst e0
   rw[h1]
   show wpAny _ _ (updateSeq l _ >>= _) _ _ _
   refine wpAny_bind (wpAny_updateSeq hl rfl ?_ (by rw[Qm,sizeLine_eq];omega) ?_)
   ·rw[Q0]
    exact wpAny_pure q
   ·show (items.toArray.eraseIdxIfInBounds ((i:Nat):Int).toNat).size≤_
    rw[List.eraseIdxIfInBounds_toArray,Qm,sizeLine_eq]
    have:=List.length_eraseIdx_le items ((i:Nat):Int).toNat
    omega
  ·rw[h0 i (by omega)]
   refine wpAny_pure ⟨plainId_quiet MeetsSeq.plain_remove_loop _,?_⟩
   have:=Zek (prog:=prog) (w:=w) hl hq hu hz hj h1 h0 q (k-1) (i+1) (by omega) (by omega)
   rw[show ((i+1:Nat):Int)=(i:Int)+1 by omega]at this
   exact this
termination_by k=>k
theorem Zfw(l:Addr)(items:List Value)(n:Nat)(v:Value)(e:Nat→Bool)(j:Nat):Meets (Builtin.«list.remove» { pos:=[.ref l,v] }) (fun A R s=>s.heap.get? l=some { cls:=.type "list",data:=.seq items.toArray n }∧EqS s items v e∧A.units+8<cLine∧items.length≤1000∧j<items.length∧e j=true∧(∀m,m<j→e m=false) ∧
  R (.ok (.ret .none)) { s with heap:=s.heap.update l (Obj.mapSeq fun xs=>xs.eraseIdxIfInBounds j) }):=by
 intro prog w A R s ⟨hl,hq,hu,hz,hj,h1,h0,q⟩
 show wpAny _ _ (pure (Fin.again (.builtin "list.remove.loop" { pos:=[.ref l,v,rawInt 0] }))) _ _ _
 exact wpAny_pure ⟨plainId_quiet MeetsSeq.plain_remove_loop _,Zek hl hq hu hz hj h1 h0 q j 0 rfl (Qx _)⟩
section
variable {X:Cx}
def Zic:V→List V→Hp→VK→Prop:=fun x vs H Q=>∃ (l:Addr) (ts:ZaQ) (t:Addr×List Key),x=.ref l∧vs=[.ref t.1]∧H l=some (.lst (ZB ts))∧AtT H ts∧t∈ts∧ts.length≤1000∧∀ (i:Nat) (hi:i<ts.length),ts[i].2=t.2→Q .non (upd H l (.lst (ZB (ts.eraseIdx i))))
theorem ZhC(hu:X.A.units+64<cLine):MtM X "list.remove" Zic:=by
 intro pins s σ H x vs v us Q I rx rv h
 obtain⟨l,ts,t,rfl,rfl,hH,hat,ht,hz,q⟩:=h
 cases rx
 obtain⟨u,rfl,ru⟩:=rv.one
 cases ru
 obtain⟨z,its,n',r,hl,e⟩:=I.lstM hH
 have ei:=Zbm r
 subst ei
 have hj:ts.findIdx (fun u=>decide (u.2=t.2))<ts.length:=List.findIdx_lt_length.mpr ⟨t,ht,decide_eq_true rfl⟩
 have key:∀u∈ts,(tupleKind (ZE X.prog X.w)).is s.heap u.2 u.1:=fun u hu'=>I.tkey (hat u hu')
 have tup:∀u∈ts,∃i:List Value,Zl (u.2.map kV) i∧IsTup s.heap u.1 i.toArray:=fun u hu'=>by
  obtain⟨i,v,q,_⟩:=I.tuple (SqT.of (K:=X.K) (hat u hu'))
  exact⟨i,v,q⟩
 refine call_meets F.slot_list_remove ⟨_,e,rfl⟩ F.entry_list_remove (F.args_list_remove_2 _ _) (Zfw l _ n' _ (fun m=>match ts[m]? with|some u=>decide (u.2=t.2)|none=>false) (ts.findIdx (fun u=>decide (u.2=t.2)))) ⟨e,?_,by omega,by rw[Qa];omega,by rw[Qa];exact hj,?_,?_,?_⟩
 ·intro prog w A E Q' m x hA hx hQ
  rw[Qn]at hx
  cases hm:ts[m]? with
  | none=>rw[hm]at hx;cases hx
  | some u =>
   rw[hm]at hx
   cases hx
   simp only[hm]at hQ
   obtain⟨i1,v1,o1,g1,c1,n1,d1⟩:=tup u (QG hm)
   obtain⟨i2,v2,o2,g2,c2,n2,d2⟩:=tup t ht
   refine wpAny_eqBool_tuple (knd:=ZE prog w) (x:=u.2) (y:=t.2) (by omega) ⟨o1,_,n1,g1,c1,d1,?_⟩ ⟨o2,_,n2,g2,c2,d2,?_⟩ hQ
   ·simpa using ZcA u.2 i1 v1
   ·simpa using ZcA t.2 i2 v2
 ·simp only[List.getElem?_eq_getElem hj]
  exact List.findIdx_getElem (w:=hj)
 ·intro m hm
  have hml:m<ts.length:=by omega
  simp only[List.getElem?_eq_getElem hml]
  exact List.not_of_lt_findIdx (xs:=ts) (p:=fun u=>decide (u.2=t.2)) hm
 ·have hv:Zl (ZB (ts.eraseIdx (ts.findIdx fun u=>decide (u.2=t.2)))) ((ts.map fun t=>Value.ref t.1).eraseIdx (ts.findIdx fun u=>decide (u.2=t.2))):=by
   have:=r.eraseIdx (ts.findIdx fun u=>decide (u.2=t.2))
   unfold ZB at this ⊢
   rw[Zda]
   exact this
  refine⟨.non,_,I.lset (its':=(ts.map fun t=>Value.ref t.1).eraseIdx (ts.findIdx fun u=>decide (u.2=t.2))) hH e ?_ hv ?_,rfl,q _ hj (of_decide_eq_true (List.findIdx_getElem (w:=hj)))⟩
  ·show (ts.map fun t=>Value.ref t.1).toArray.eraseIdxIfInBounds _=_
   rw[List.eraseIdxIfInBounds_toArray]
  ·unfold ZB
   rw[Qa]
   have:=List.length_eraseIdx_le ts (ts.findIdx fun u=>decide (u.2=t.2))
   rw[sizeLine_eq];omega
theorem ZjU{k:Nat}(hr:ZaE k X.A):MtM X "list.remove" Zic:=ZhC hr.units
end
section
open PySem.SeqAt
open PySem.AutoSeq1 (wpAny_loadPart')
open PySem.MeetsSeq PySem.MeetsSeq2 PySem.MeetsSeq3
end
section
variable {prog:Program} {w:World} {A:Around} {E:Value→Shared→Prop} {s:Shared}
end
section
variable {X:Cx}
end
def Zh2(K:PySem.W.Frag):List V→Hp→VK→Prop:=fun vs H Q=>∃ (p:Addr) (ns:List Int),vs=[.ref p]∧SqL K H p (ns.map V.int)∧0<ns.length∧∀M,M∈ns→(∀a∈ns,a≤M)→Q (.int M) H
theorem ZfP{X:Cx}(hc:X.calm=true):ZX X (.builtin "max") (Zh2 X.K):=by
 intro pins s σ H vs us Q I r h
 obtain⟨p,ns,rfl,hq,hne,q⟩:=h
 obtain⟨u,rfl,rx⟩:=ZaK r
 cases rx
 obtain⟨its,rv,pl,_⟩:=I.list hq
 have hi:=ZbE rv
 obtain⟨xs,e⟩:=hi.allInts.items
 have hns:ns=xs.toList.map (·.1):=by rw[← hi.numsOf,← nums_intItems,← e]
 have hsz:0<xs.size:=by
  have h3:=hne
  rw[hns,Qa,Qh]at h3
  exact h3
 have hl:=pl.isList
 rw[e]at hl
 refine max_intList (I.ok.hd hc) hl hsz fun v h' tk hv hk=>?_
 obtain⟨t,rfl⟩:=intItems_at hv
 obtain⟨h1,h2⟩:=argBest_gt (numAt xs) (xs.size-1)
 refine⟨.int _,H,I.kept hk,⟨t,rfl⟩,q _ ?_ fun a ha=>?_⟩
 ·rw[hns,numAt_eq];exact getD_mem (by rw[Qa,Qh];omega)
 ·rw[hns]at ha
  obtain⟨j,hj,rfl⟩:=mem_getD ha
  rw[Qa,Qh]at hj
  rw[← numAt_eq];exact h2 j (by omega)
theorem ZjI{X:Cx}(K:PySem.W.Frag)(hc:X.calm=true:=by rfl)(h:X.K=K:=by rfl):ZX X (.builtin "max") (Zh2 K):=by subst h;exact ZfP hc
section
variable {X:Cx}
end
section
variable {X:Cx} {T name id:String} {r:V→List V→Hp→VK→Prop} {o e:Expr} {es:List Expr} {to:TE} {t:TA} {apos cpos:Pos}
end
section
variable {X:Cx}
def ZiX(K:PySem.W.Frag):R2:=fun x y H Q=>∃ (l:Addr) (xs:List V) (ds:List PyData) (d:PyData),y=.ref l∧SqL K H l xs∧DVs K H xs ds∧DV K H x d∧PyData.canLayAll0 ds=true∧SeqAt.shaped d=true∧d.depth≤60∧Q (.bl (ds.any fun e=>PyData.eqv e d)) H
theorem Ziy(hu:X.A.units+64<cLine):OpR X (compareOp .In) (ZiX X.K):=by
 intro pins s σ H x y v u Q I rx ry h
 obtain⟨l,xs,ds,d,rfl,hl,hds,hd,hc,hsd,hdep,q⟩:=h
 obtain⟨as,ra⟩:=I.reads (.lst hl hds) ry
 obtain⟨bs,rb⟩:=I.reads hd rx
 exact SeqAt.in_list_reads ra rb hc (SeqAt.canLay_of_shaped hsd) (by have:=QaW (PyData.depthAll ds) d.depth;omega) ⟨.bl _,H,I,rfl,q⟩
def ZhX(K:PySem.W.Frag):List V→Hp→VK→Prop:=fun vs H Q=>∃ (p:Addr) (ns:List Int),vs=[.ref p]∧SqL K H p (ns.map V.int)∧ns.length≤1000∧(∀n∈ns,0≤n∧n≤10000000000000)∧Q (.int ns.sum) H
theorem ZfH(hc:X.calm=true):ZX X (.builtin "sum") (ZhX X.K):=by
 intro pins s σ H vs us Q I r h
 obtain⟨p,ns,rfl,hq,hn,hb,q⟩:=h
 obtain⟨u,rfl,rx⟩:=ZaK r
 cases rx
 obtain⟨its,rv,pl,_⟩:=I.list hq
 have hi:=ZbE rv
 obtain⟨xs,e⟩:=hi.allInts.items
 have hns:ns=xs.toList.map (·.1):=by rw[← hi.numsOf,← nums_intItems,← e]
 have hsz:xs.size=ns.length:=by rw[hns,Qa,Qh]
 have hnum:numAt xs=fun j=>ns.getD j 0:=by funext j;rw[numAt_eq,hns]
 have hl:=pl.isList
 rw[e]at hl
 have bound:∀n,n≤ns.length→0≤(ns.take n).sum∧(ns.take n).sum≤10000000000000*n:=by
  intro n
  induction n with
  | zero=>intro _;exact⟨by simp,by simp⟩
  | succ n ih =>
   intro h
   have ih:=ih (by omega)
   have hm:=hb ns[n] (QI (by omega))
   have e2:ns.take (n+1)=ns.take n++[ns[n]]:=by rw[Qaa,Qd (by omega)];rfl
   rw[e2,List.sum_append]
   have e3:([ns[n]]:List Int).sum=ns[n]:=by simp
   rw[e3]
   omega
 refine sum_intList (I.ok.hd hc) hl (fun j hj=>?_) fun h' tk t' hk=>⟨.int _,H,I.kept hk,⟨t',rfl⟩,?_⟩
 ·rw[hnum]
  have hm:=hb ns[j] (QI (by omega))
  have hg:ns.getD j 0=ns[j]:=by rw[QM,Qd (by omega)];rfl
  have hp:=bound (j+1) (by omega)
  refine⟨⟨?_,?_⟩,⟨?_,?_⟩⟩
  ·show -(2 ^ 63)≤ns.getD j 0
   rw[hg];omega
  ·show ns.getD j 0<2 ^ 63
   rw[hg];omega
  ·rw[ZbP ns (j+1) (by omega)];omega
  ·rw[ZbP ns (j+1) (by omega)];omega
 ·rw[hnum,hsz,ZbP ns ns.length (Qj _),QF (Qj _)]
  exact q
theorem ZjC(K:PySem.W.Frag)(hc:X.calm=true:=by rfl)(h:X.K=K:=by rfl):ZX X (.builtin "sum") (ZhX K):=by subst h;exact ZfH hc
theorem inD{X:Cx}(K:PySem.W.Frag){k:Nat}(hr:ZaE k X.A)(h:X.K=K:=by rfl):OpR X (compareOp .In) (ZiX K):=by subst h;exact Ziy hr.units
end
section
variable {X:Cx}
end
section
variable {prog:Program} {w:World} {A:Around} {E:Value→Shared→Prop} {s:Shared}
end
section
variable {prog:Program} {w:World} {A:Around} {R:Result→Shared→Prop} {s:Shared}
end
section
variable {X:Cx} {N N':List Str} {o c:Scope}
end
end L2
namespace Hf
open L2
abbrev PW:=List (Int×Nat)
def val(P:PW):Int:=(P.map fun p=>p.1*(p.2:Int)).sum
def ws(P:PW):List Int:=P.map (·.1)
def ds(P:PW):List Nat:=P.map (·.2)
def zs(z:Nat):List Int:=List.replicate z 0
def kr(w E:Nat)(D:List Nat):Nat:=(D.map fun d=>w ^ (E-d)).sum
inductive Hu (w:Nat):List Int→Nat→Int→Prop
 | stop {e:Int} {m:Nat}:Hu w [e] m 0
 | step {E L:List Int} {m:Nat} {C:Int}:1<L.length→E.Perm L→L.Pairwise (·≤·)→Hu w (L.drop m++[(L.take m).sum]) w C→Hu w E m (C+(L.take m).sum)
def Fit(w n m:Nat):Prop:=n=1∨∃t,n=m+t*(w-1)
structure Fits (w n m:Nat):Prop where
 w2:2≤w
 m2:2≤m
 mw:m≤w
 ok:Fit w n m
end Hf
namespace L2
open PySem PySem.Spec PyProof.Rows
section
variable {prog:Program} {w:World} {A:Around} {R:Result→Shared→Prop} {s:Shared}
end
section
variable {X:Cx} {N N':List Str} {o c:Scope}
end
section
variable {κ:Type} [DecidableEq κ]
end
section
variable {P:Program} {w:World} {H:Hp} {h:Heap} {a:Addr}
end
section
variable {X:Cx} {pins:List (Addr×Obj)} {σ:St} {H:Hp} {s:Shared} {a:Addr} {y v:V} {u r:Value} {o:Option V} {A:Around} {E:Value→Shared→Prop}
end
section
variable {X:Cx} {pins:List (Addr×Obj)} {σ:St} {H:Hp} {s:Shared} {a:Addr} {kvs:List (Key×V)} {k:Key} {u:Value} {A:Around} {E:Value→Shared→Prop}
end
section
variable {X:Cx} {o i e value:Expr} {pos pos' tpos:Pos} {td ty tv:TE}
end
section
variable {X:Cx} {pos:Pos}
end
structure M1 (X:Cx) (o:Expr) (m:Str) (apos:Pos) (e:Expr) (cpos:Pos):Prop where
 base:attributeBase o m X.env (eval o X.env)=eval o X.env
 few:((backTo cpos (starEach [e] X.env)).all (fun x=>!x.1)&&(backToKw cpos (keywordEach [] X.env)).all (fun x=>x.1.isSome)
  && decide (([e]:List Expr).length+([]:List Keyword).length+(if ([]:List Keyword).isEmpty then 0 else 1)<30))=true
 line:(apos.endLine == cpos.line)=true
 trees:backTo cpos (starEach [e] X.env)=[(false,eval e X.env)]
structure M2 (X:Cx) (o:Expr) (m:Str) (apos:Pos) (e f:Expr) (cpos:Pos):Prop where
 base:attributeBase o m X.env (eval o X.env)=eval o X.env
 few:((backTo cpos (starEach [e,f] X.env)).all (fun x=>!x.1)&&(backToKw cpos (keywordEach [] X.env)).all (fun x=>x.1.isSome)
  && decide (([e,f]:List Expr).length+([]:List Keyword).length+(if ([]:List Keyword).isEmpty then 0 else 1)<30))=true
 line:(apos.endLine == cpos.line)=true
 trees:backTo cpos (starEach [e,f] X.env)=[(false,eval e X.env),(false,eval f X.env)]
def IsD(H:Hp)(a:Addr):Prop:=(∃kvs,Rd H a (.dK kvs))∨∃kvs,Rd H a (.dT kvs)
section
variable {X:Cx} {pins:List (Addr×Obj)} {σ:St} {H:Hp} {s:Shared} {a:Addr} {y d:V} {u r:Value} {o:Option V} {A:Around} {E:Value→Shared→Prop}
end
section
variable {X:Cx} {o e f:Expr} {apos cpos:Pos} {td ty tx:TE}
end
section
variable {X:Cx} {pins:List (Addr×Obj)} {σ:St} {H:Hp} {s:Shared} {a:Addr} {kvs:List (Key×V)} {A:Around} {E:Value→Shared→Prop}
end
section
variable {X:Cx} {pins:List (Addr×Obj)} {σ:St} {H:Hp} {s:Shared} {a:Addr} {y:V} {u:Value} {A:Around} {E:Value→Shared→Prop}
end
section
variable {X:Cx}
end
section
variable {κ:Type} [DecidableEq κ]
end
structure Mf (P:Program) (w:World) (K:PySem.W.Frag) (mg:Str→Option Value) (base:Heap) (k:Nat) (C:Addr) (m:Str) (ps:List Str) (sp:Sp):Prop where
 ex:∃f fd,Zcf P w K mg base CX0 k f fd ps sp∧Zjq K C m f∧Zbe K fd ps []
structure Cf (P:Program) (w:World) (K:PySem.W.Frag) (mg:Str→Option Value) (base:Heap) (k:Nat) (C:Addr) (x:Str) (ps:List Str) (sp:Sp):Prop where
 ex:∃f fd,Zcf P w K mg base CX0 k f fd ps sp∧Mk K C f∧Zbe K fd ps []∧mg x=some (.ref C)
structure TopM (K:PySem.W.Frag) (C:Addr) (m qual:Str) (st:Stmt) (ps:List Str):Prop where
 ex:∃f fd,Fun K m qual st f fd∧Zjq K C m f∧Zbe K fd ps []
structure TopI (K:PySem.W.Frag) (mg:Str→Option Value) (C:Addr) (x qual:Str) (st:Stmt) (ps:List Str):Prop where
 ex:∃f fd,Fun K "__init__" qual st f fd∧Mk K C f∧Zbe K fd ps []∧mg x=some (.ref C)
section
variable {P:Program} {w:World} {K:PySem.W.Frag} {mg:Str→Option Value} {base:Heap}
end
section
variable {X:Cx} {k j:Nat} {C:Addr} {m x:Str} {ps:List Str} {sp:Sp} {o e:Expr} {es:List Expr} {ta:TE} {t:TA} {p apos pos:Pos} {pl:Sem Bool}
end
section
variable {X:Cx} {pins:List (Addr×Obj)} {σ:St} {H:Hp} {s:Shared} {d:Addr} {o:Obj} {u:HO}
end
end L2
namespace L2
open PySem PySem.Spec PyProof.Rows
end L2
namespace L2
open PySem PySem.Spec PyProof.Rows
section
variable {X:Cx} {N N':List Str} {o c:Scope}
end
section
variable {X:Cx}
end
section
variable {prog:Program} {w:World} {A:Around} {R:Result→Shared→Prop} {I:Addr} {fp wr:List Addr} {G:Array GenState→Array GenState→Prop} {n:Nat} {P:Nat→Value→Prop} {St:Nat→Shared→Prop} {K:Type} [DecidableEq K] {knd:KeyKind prog w K}
end
section
variable {prog:Program} {w:World} {A:Around} {E:Value→Shared→Prop} {s:Shared} {K:Type} [DecidableEq K] {knd:KeyKind prog w K}
end
section
variable {X:Cx} {k:Nat}
end
mutual
inductive DH (H:Hp):V→PyData→Prop where
 | non:DH H .non .none
 | bl (b:Bool):DH H (.bl b) (.bool b)
 | int (i:Int):DH H (.int i) (.int i)
 | str (s:Str):DH H (.str s) (.str s)
 | lst {a:Addr} {xs:List V} {ds:List PyData}:H a=some (.lst xs)→DHs H xs ds→DH H (.ref a) (.list ds)
 | tup {a:Addr} {xs:List V} {ds:List PyData}:H a=some (.tup xs)→DHs H xs ds→DH H (.ref a) (.tuple ds)
inductive DHs (H:Hp):List V→List PyData→Prop where
 | nil:DHs H [] []
 | cons {x:V} {d:PyData} {xs:List V} {ds:List PyData}:DH H x d→DHs H xs ds→DHs H (x::xs) (d::ds)
end
mutual
theorem DH.mono{H H':Hp}(s:ZH H H'):∀ {x:V} {d:PyData},DH H x d→DH H' x d
 | _,_,.non=>.non
 | _,_,.bl b=>.bl b
 | _,_,.int i=>.int i
 | _,_,.str z=>.str z
 | _,_,.lst h hs=>.lst (s _ _ h) (DHs.mono s hs)
 | _,_,.tup h hs=>.tup (s _ _ h) (DHs.mono s hs)
theorem DHs.mono{H H':Hp}(s:ZH H H'):∀ {xs:List V} {ds:List PyData},DHs H xs ds→DHs H' xs ds
 | _,_,.nil=>.nil
 | _,_,.cons h hs=>.cons (DH.mono s h) (DHs.mono s hs)
end
mutual
theorem DH.dv{K:PySem.W.Frag}{H:Hp}:∀ {x:V} {d:PyData},DH H x d→DV K H x d
 | _,_,.non=>.non
 | _,_,.bl b=>.bl b
 | _,_,.int i=>.int i
 | _,_,.str z=>.str z
 | _,_,.lst h hs=>.lst (SqL.of h) (DHs.dv hs)
 | _,_,.tup h hs=>.tup (SqT.of h) (DHs.dv hs)
theorem DHs.dv{K:PySem.W.Frag}{H:Hp}:∀ {xs:List V} {ds:List PyData},DHs H xs ds→DVs K H xs ds
 | _,_,.nil=>.nil
 | _,_,.cons h hs=>.cons (DH.dv h) (DHs.dv hs)
end
section
open PySem.W
end
end L2
namespace L2
open PySem PySem.Spec PyProof.Rows
def off(p:Addr)(H:Hp):Hp:=fun b=>if b=p then none else H b
section
variable {prog:Program} {w:World} {A:Around} {R:Result→Shared→Prop} {I:Addr} {fp wr:List Addr} {G:Array GenState→Array GenState→Prop} {n:Nat} {P:Nat→Value→Prop} {St:Nat→Shared→Prop} {K:Type} [DecidableEq K] {knd:KeyKind prog w K}
end
end L2
namespace L2
open PySem PySem.Spec PyProof.Rows
section
variable {prog:Program} {w:World} {A:Around} {E:Value→Shared→Prop} {s:Shared} {l:Addr} {xs:Array (Int×Tok)}
end
section
variable {X:Cx}
end
section
variable {X:Cx}
end
def ZjB(t u:TS):TS:=fun D σ H=>∃M:St→Hp→Prop,t { D with nx:=M } σ H∧∀σ' H',M σ' H'→u D σ' H'
theorem Zhs{X:Cx}{st:Stmt}{rest:List Stmt}{t u:TS}(h1:PS X st t)(h2:PSs X rest u):PSs X (st::rest) (ZjB t u):=by
 intro pins s σ H D I h
 obtain⟨M,h,hm⟩:=h
 refine wpAny_execs_cons (thn (h1 pins s σ H { D with nx:=M } I h) fun f s1 q=>?_)
 cases f with
 | next =>
  obtain⟨σ',H',I',q⟩:=q
  exact h2 pins s1 σ' H' D I' (hm σ' H' q)
 | ret v=>exact q
 | brk=>exact q
 | cont=>exact q
section
variable {prog:Program} {w:World} {A:Around} {E:Value→Shared→Prop} {s:Shared} {K:Type} [DecidableEq K] {knd:KeyKind prog w K}
end
section
variable {prog:Program} {w:World} {A:Around} {E:Value→Shared→Prop} {s:Shared} {K:Type} [DecidableEq K] {knd:HeapKind prog w K}
end
def apart:List Int→Bool
 | []=>true
 | x::r=>r.all (fun y=>x != y)&&apart r
structure CompScC (N N':List Str) (o c:Scope):Prop where
 kind:c.kind=.function
 okind:o.kind=.function
 cel:∀y∈c.names,y.2=.cell→c.names.lookup y.1=some .cell
 loc:∀y∈c.names,y.2=.local→c.names.lookup y.1=some .local
 free:∀y∈c.names,y.2=.free→c.names.lookup y.1=some .free∧(o.names.lookup y.1=some .cell∨o.names.lookup y.1=some .free)
 len:N.length≤N'.length
 same:∀i∈List.range N.length,∀x∈N'[i]?,c.names.lookup x=some .local∨c.names.lookup x=some .free∨c.names.lookup x=some .cell→c.names.lookup x=some .free∧N[i]? = some x
 nd:N'.Nodup
section
variable {X:Cx} {N N':List Str} {o c:Scope}
variable {x:Str} {pos:Pos} {C:Addr} {s:Shared} {H:Hp} {fp:List Addr}
end
section
variable {prog:Program} {w:World} {A:Around} {E:Value→Shared→Prop} {s:Shared}
end
section
variable {prog:Program} {w:World} {A:Around} {R:Result→Shared→Prop} {I:Addr} {fp wr:List Addr} {G:Array GenState→Array GenState→Prop} {n:Nat} {P:Nat→Value→Prop} {St:Nat→Shared→Prop}
variable {K:Type} [DecidableEq K] {knd:KeyKind prog w K}
end
section
variable {prog:Program} {w:World} {A:Around} {E:Value→Shared→Prop} {s:Shared} {K:Type} [DecidableEq K] {knd:KeyKind prog w K}
end
end L2
namespace L2
open PySem PySem.Spec PyProof.Rows
def gallop':Bool→Keyed→Array Keyed→Nat→Nat→Nat→StateT SortSt Sem (Option Nat):=sortPriv% PySem.Builtin.gallop
def Has(κ:PyProof.Rows.KeyKind)(p:Keyed):Prop:=∃a,κ.keyOf p.1=some a
def kyd(κ:PyProof.Rows.KeyKind)(p:Keyed):κ.α:=(κ.keyOf p.1).getD κ.dflt
theorem ZgM{κ:PyProof.Rows.KeyKind}{xs:Array Keyed}{i:Nat}{p:Keyed}(h:xs[i]? = some p):KK κ xs i=kyd κ p:=by unfold KK kyd;rw[h]
def Zg4(left:Bool)(key:Keyed)(arr:Array Keyed)(base i:Nat):StateT SortSt Sem (Option Bool) :=
 elem' arr (base+i) >>= fun x=>if left=true then lt' x key else lt' key x >>= fun r=>pure (r.map (!·))
def gB(κ:PyProof.Rows.KeyKind)(left:Bool)(key p:Keyed):Bool:=if left then κ.blt (kyd κ p) (kyd κ key) else !κ.blt (kyd κ key) (kyd κ p)
section
variable {prog:Program} {w:World} {A:Around} {E:Value→Shared→Prop} {s:Shared} {κ:PyProof.Rows.KeyKind} {k0:SortKind} {a₀:Array Keyed} {st:SortSt}
theorem w_ltp(hL:ZaD prog w A s k0 κ)(hK:kindOf st=k0){p q:Keyed}(hp:Has κ p)(hq:Has κ q){Q:Option Bool→SortSt→Prop}(h:Q (some (κ.blt (kyd κ p) (kyd κ q))) st):wpS (model prog w) A E s (lt' p q) Q st:=by
 obtain⟨a,ha⟩:=hp
 obtain⟨b,hb⟩:=hq
 rw[lt'_eq]
 refine wpS_bind (wpS_get (wpS_bind (wpS_lift (wpAny_attempt ?_))))
 rw[hK]
 unfold kyd at h
 rw[ha,hb]at h
 exact hL _ p.1 q.1 _ _ _ ha hb ⟨rfl,wpS_pure h⟩
theorem w_ask(hL:ZaD prog w A s k0 κ)(hK:kindOf st=k0){left:Bool}{key p:Keyed}{arr:Array Keyed}{base i:Nat}(hkey:Has κ key)(hp:arr[base+i]? = some p)(hq:Has κ p){Q:Option Bool→SortSt→Prop}(q:Q (some (gB κ left key p)) st) :
  wpS (model prog w) A E s (Zg4 left key arr base i) Q st:=by
 unfold Zg4
 refine wpS_bind (w_elem hp ?_)
 cases left with
 | true=>rw[if_pos rfl];exact w_ltp hL hK hq hkey q
 | false=>rw[if_neg (by decide)];exact wpS_bind (w_ltp hL hK hkey hq (wpS_pure q))
theorem w_gallop(hL:ZaD prog w A s k0 κ)(hK:kindOf st=k0){left:Bool}{key:Keyed}{arr:Array Keyed}{base n hint:Nat}(hh:hint<n)(hkey:Has κ key){B:Nat→Bool}
  (hB:∀i,i<n→∃p,arr[base+i]? = some p∧Has κ p∧B i=gB κ left key p) (mono:∀i j,i≤j→j<n→B j=true→B i=true)
  {Q:Option Nat→SortSt→Prop} (q:∀h,h≤n→(∀i,i<h→B i=true)→(∀i,h≤i→i<n→B i=false)→Q (some h) st):wpS (model prog w) A E s (gallop' left key arr base n hint) Q st:=by
 have ask:∀ (i:Nat) (Q:Option Bool→SortSt→Prop),i<n→Q (some (B i)) st→wpS (model prog w) A E s (Zg4 left key arr base i) Q st:=fun i Q hi h=>by
  obtain⟨p,a,b,c⟩:=hB i hi
  rw[c]at h
  exact w_ask hL hK hkey a b h
 have no:∀i j,i≤j→j<n→B i=false→B j=false:=fun i j h1 h2 h=>by
  cases hb:B j with
  | true=>rw[mono i j h1 h2 hb]at h;cases h
  | false=>rfl
 show wpS _ _ _ _ (Zg4 left key arr base hint >>= _) _ _
 refine wpS_bind (ask hint _ hh ?_)
 cases hb:B hint with
 | true =>
  show wpS _ _ _ _ (forIn [:n] (none,0,1) _ >>= _) _ _
  refine wpS_bind (wpS_mono (wpS_forRange (fun i c st'=>∃l o,c=(none,l,o)∧st'=st∧l<o∧l<n-hint∧i+1≤o∧B (hint+l)=true) (Q:=fun c st'=>∃l o,c=(none,l,o)∧st'=st∧l<o∧l<n-hint∧B (hint+l)=true∧(n-hint≤o∨B (hint+o)=false)) ?_ ?_ ⟨0,1,rfl,rfl,by omega,by omega,by omega,hb⟩) ?_)
  ·rintro i c st' _ hi ⟨l,o,rfl,rfl,b1,b2,b3,b4⟩
   show wpS _ _ _ _ (if o≥n-hint then _ else _) _ _
   by_cases e:o≥n-hint
   ·rw[if_pos e]
    exact wpS_pure ⟨l,o,rfl,rfl,b1,b2,b4,.inl e⟩
   ·rw[if_neg e]
    refine wpS_bind (ask _ _ (show hint+o<n by omega) ?_)
    cases hb2:B (hint+o) with
    | true=>exact wpS_pure ⟨o,2*o+1,rfl,rfl,by omega,by omega,by omega,hb2⟩
    | false=>exact wpS_pure ⟨l,o,rfl,rfl,b1,b2,b4,.inr hb2⟩
  ·rintro c st' ⟨l,o,rfl,rfl,b1,b2,b3,b4⟩
   exact⟨l,o,rfl,rfl,b1,b2,b4,.inl (by omega)⟩
  ·rintro c s1 ⟨l,o,rfl,rfl,a1,a2,a3,a4⟩
   have c3:∀i,i<(hint+l+1)→B i=true:=fun i hi=>mono i (hint+l) (by omega) (by omega) a3
   have c4:∀i,(hint+min o (n-hint))≤i→i<n→B i=false:=fun i h1 h2=>a4.elim (fun a4=>by omega) fun a4=>no (hint+o) i (by omega) h2 a4
   show wpS _ _ _ _ (forIn [:n] (none,(hint+l+1),(hint+min o (n-hint))) _ >>= _) _ _
   refine wpS_bind (wpS_forRange (fun i c st'=>∃l h,c=(none,l,h)∧st'=s1∧l≤h∧h≤n∧h-l≤n-i∧(∀i,i<l→B i=true)∧(∀i,h≤i→i<n→B i=false)) ?_ ?_ ⟨_,_,rfl,rfl,by omega,by omega,by omega,c3,c4⟩)
   ·rintro i c st' _ hi ⟨l,h,rfl,rfl,b1,b2,b3,b4,b5⟩
    show wpS _ _ _ _ (if l≥h then _ else _) _ _
    by_cases e:l≥h
    ·rw[if_pos e]
     exact wpS_pure (wpS_pure (q h b2 (fun i hi=>b4 i (by omega)) b5))
    ·rw[if_neg e]
     refine wpS_bind (ask _ _ (show l+(h-l) / 2<n by omega) ?_)
     cases hb:B (l+(h-l) / 2) with
     | true=>exact wpS_pure ⟨l+(h-l) / 2+1,h,rfl,rfl,by omega,b2,by omega,fun i hi=>mono i (l+(h-l) / 2) (by omega) (by omega) hb,b5⟩
     | false=>exact wpS_pure ⟨l,l+(h-l) / 2,rfl,rfl,by omega,by omega,by omega,b4,fun i h1 h2=>no _ i h1 h2 hb⟩
   ·rintro c st' ⟨l,h,rfl,rfl,b1,b2,b3,b4,b5⟩
    exact wpS_pure (q h b2 (fun i hi=>b4 i (by omega)) b5)
 | false =>
  show wpS _ _ _ _ (forIn [:n] (none,0,1) _ >>= _) _ _
  refine wpS_bind (wpS_mono (wpS_forRange (fun i c st'=>∃l o,c=(none,l,o)∧st'=st∧l<o∧l<hint+1∧i+1≤o∧B (hint-l)=false) (Q:=fun c st'=>∃l o,c=(none,l,o)∧st'=st∧l<o∧l<hint+1∧B (hint-l)=false∧(hint+1≤o∨B (hint-o)=true)) ?_ ?_ ⟨0,1,rfl,rfl,by omega,by omega,by omega,hb⟩) ?_)
  ·rintro i c st' _ hi ⟨l,o,rfl,rfl,b1,b2,b3,b4⟩
   show wpS _ _ _ _ (if o≥hint+1 then _ else _) _ _
   by_cases e:o≥hint+1
   ·rw[if_pos e]
    exact wpS_pure ⟨l,o,rfl,rfl,b1,b2,b4,.inl e⟩
   ·rw[if_neg e]
    refine wpS_bind (ask _ _ (show hint-o<n by omega) ?_)
    cases hb2:B (hint-o) with
    | false=>exact wpS_pure ⟨o,2*o+1,rfl,rfl,by omega,by omega,by omega,hb2⟩
    | true=>exact wpS_pure ⟨l,o,rfl,rfl,b1,b2,b4,.inr hb2⟩
  ·rintro c st' ⟨l,o,rfl,rfl,b1,b2,b3,b4⟩
   exact⟨l,o,rfl,rfl,b1,b2,b4,.inl (by omega)⟩
  ·rintro c s1 ⟨l,o,rfl,rfl,a1,a2,a3,a4⟩
   have c3:∀i,i<(hint+1-min o (hint+1))→B i=true:=fun i hi=>a4.elim (fun a4=>by omega) fun a4=>mono i (hint-o) (by omega) (by omega) a4
   have c4:∀i,(hint-l)≤i→i<n→B i=false:=fun i h1 h2=>no (hint-l) i h1 h2 a3
   show wpS _ _ _ _ (forIn [:n] (none,(hint+1-min o (hint+1)),(hint-l)) _ >>= _) _ _
   refine wpS_bind (wpS_forRange (fun i c st'=>∃l h,c=(none,l,h)∧st'=s1∧l≤h∧h≤n∧h-l≤n-i∧(∀i,i<l→B i=true)∧(∀i,h≤i→i<n→B i=false)) ?_ ?_ ⟨_,_,rfl,rfl,by omega,by omega,by omega,c3,c4⟩)
   ·rintro i c st' _ hi ⟨l,h,rfl,rfl,b1,b2,b3,b4,b5⟩
    show wpS _ _ _ _ (if l≥h then _ else _) _ _
    by_cases e:l≥h
    ·rw[if_pos e]
     exact wpS_pure (wpS_pure (q h b2 (fun i hi=>b4 i (by omega)) b5))
    ·rw[if_neg e]
     refine wpS_bind (ask _ _ (show l+(h-l) / 2<n by omega) ?_)
     cases hb:B (l+(h-l) / 2) with
     | true=>exact wpS_pure ⟨l+(h-l) / 2+1,h,rfl,rfl,by omega,b2,by omega,fun i hi=>mono i (l+(h-l) / 2) (by omega) (by omega) hb,b5⟩
     | false=>exact wpS_pure ⟨l,l+(h-l) / 2,rfl,rfl,by omega,by omega,by omega,b4,fun i h1 h2=>no _ i h1 h2 hb⟩
   ·rintro c st' ⟨l,h,rfl,rfl,b1,b2,b3,b4,b5⟩
    exact wpS_pure (q h b2 (fun i hi=>b4 i (by omega)) b5)
end
section
variable {κ:PyProof.Rows.KeyKind}
def kS(κ:PyProof.Rows.KeyKind)(l:List Keyed):Prop:=l.Pairwise fun p q=>κ.kle (kyd κ p) (kyd κ q)
def kLe(κ:PyProof.Rows.KeyKind)(l m:List Keyed):Prop:=∀x∈l,∀y∈m,κ.kle (kyd κ x) (kyd κ y)
theorem ZaL{l m:List Keyed}(a:kS κ l)(b:kS κ m)(c:kLe κ l m):kS κ (l++m):=List.pairwise_append.mpr ⟨a,b,c⟩
theorem ZbL{l l' m:List Keyed}(a:kLe κ l m)(b:kLe κ l' m):kLe κ (l++l') m:=fun x hx y hy=>(Qf.mp hx).elim (fun h=>a x h y hy) fun h=>b x h y hy
theorem Zd6{l m m':List Keyed}(a:kLe κ l m)(b:kLe κ l m'):kLe κ l (m++m'):=fun x hx y hy=>(Qf.mp hy).elim (fun h=>a x hx y h) fun h=>b x hx y h
structure Mg (κ:PyProof.Rows.KeyKind) (all out l m:List Keyed):Prop where
 perm:(out++(l++m)).Perm all
 so:kS κ out
 sl:kS κ l
 sm:kS κ m
 ol:kLe κ out l
 om:kLe κ out m
theorem Mg.swap{all out l m:List Keyed}(M:Mg κ all out l m):Mg κ all out m l:=⟨(Qae _ Qax).trans M.perm,M.so,M.sm,M.sl,M.om,M.ol⟩
theorem Mg.put{all out x l m:List Keyed}(M:Mg κ all out (x++l) m)(h:kLe κ x m):Mg κ all (out++x) l m:=by
 have p:=List.pairwise_append.mp M.sl
 refine⟨?_,ZaL M.so p.1 fun a ha b hb=>M.ol a ha b (Qr _ hb),p.2.1,M.sm,ZbL (fun a ha b hb=>M.ol a ha b (Qi _ hb)) p.2.2,ZbL M.om h⟩
 have:=M.perm
 simpa [List.append_assoc] using this
theorem Mg.fin{all out l m:List Keyed}(M:Mg κ all out l m)(h:kLe κ l m):(out++l++m).Perm all∧kS κ (out++l++m) :=
 ⟨by rw[QE];exact M.perm,ZaL (ZaL M.so M.sl M.ol) M.sm (ZbL M.om h)⟩
structure Mh (κ:PyProof.Rows.KeyKind) (all l m out:List Keyed):Prop where
 perm:((l++m)++out).Perm all
 so:kS κ out
 sl:kS κ l
 sm:kS κ m
 lo:kLe κ l out
 mo:kLe κ m out
theorem Mh.swap{all out l m:List Keyed}(M:Mh κ all l m out):Mh κ all m l out:=⟨(QaT _ Qax).trans M.perm,M.so,M.sm,M.sl,M.mo,M.lo⟩
theorem Mh.put{all out x l m:List Keyed}(M:Mh κ all m (l++x) out)(h:kLe κ m x):Mh κ all m l (x++out):=by
 have p:=List.pairwise_append.mp M.sm
 refine⟨?_,ZaL p.2.1 M.so fun a ha b hb=>M.mo a (Qi _ ha) b hb,M.sl,p.1,Zd6 h M.lo,Zd6 p.2.2 fun a ha b hb=>M.mo a (Qr _ ha) b hb⟩
 have:=M.perm
 simpa [List.append_assoc] using this
theorem Mh.fin{all out l m:List Keyed}(M:Mh κ all l m out)(h:kLe κ l m):(l++m++out).Perm all∧kS κ (l++m++out) :=
 ⟨M.perm,ZaL (ZaL M.sl M.sm h) M.so (ZbL M.lo M.mo)⟩
theorem ZC{a:Array Keyed}{i:Nat}(h:i<a.size):a[i]? = some a[i]:=QU h
theorem Zz{a:Array Keyed}{i:Nat}(h:i<a.size):KK κ a i=kyd κ a[i]:=ZgM (ZC h)
theorem ZaT{a:Array Keyed}{i:Nat}{y:Keyed}(h:y∈a.toList.drop i):∃j,i≤j∧j<a.size∧kyd κ y=KK κ a j:=by
 obtain⟨j,hj,e⟩:=Qag.mp h
 rw[QO,Qh]at hj
 refine⟨i+j,by omega,by omega,?_⟩
 rw[Zz (by omega),← e,Qay,QT]
theorem Zdz{a:Array Keyed}{i k:Nat}{y:Keyed}(h:y∈(a.toList.drop i).take k):∃j,i≤j∧j<i+k∧j<a.size∧kyd κ y=KK κ a j:=by
 obtain⟨j,hj,e⟩:=Qag.mp h
 rw[QA,QO,Qh]at hj
 refine⟨i+j,by omega,by omega,by omega,?_⟩
 rw[Zz (by omega),← e,Qaz,Qay,QT]
theorem ZaB(a:Array Keyed)(i j:Nat):(a.extract i j).toList=(a.toList.drop i).take (j-i):=by
 rw[Array.toList_extract,List.extract_eq_take_drop]
theorem Zcg(a:Array Keyed)(i:Nat):(a.extract i a.size).toList=a.toList.drop i:=by
 rw[ZaB,QF (by rw[QO,Qh];exact Qj _)]
theorem ZdN(a:Array Keyed)(j:Nat):(a.extract 0 j).toList=a.toList.take j:=by rw[ZaB,List.drop_zero,Nat.sub_zero]
theorem Zcs{a:Array Keyed}(h:kS κ a.toList):SortedToK κ a a.size:=fun i j hij hj=>by
 rw[Zz (by omega),Zz hj]
 by_cases e:i=j
 ·subst e;exact KeyOrd.kle_refl _
 ·have:=QV.mp h i j (by rw[Qh];omega) (by rw[Qh];omega) (by omega)
  simpa using this
theorem Zep{a:Array Keyed}{i:Nat}(h:i<a.size):a.toList.drop i=[a[i]]++a.toList.drop (i+1):=by
 rw[List.drop_eq_getElem_cons (by rw[Qh];exact h),QT];rfl
theorem Zev{a:Array Keyed}{i:Nat}(h:i<a.size):a.toList.take (i+1)=a.toList.take i++[a[i]]:=by
 rw[List.take_succ_eq_append_getElem (by rw[Qh];exact h),QT]
theorem Ze1{a:Array Keyed}{i:Nat}(h:a.size≤i):a.toList.drop i=[]:=List.drop_eq_nil_of_le (by rw[Qh];exact h)
theorem Za3{a:Array Keyed}{i:Nat}{y:Keyed}(h:y∈a.toList.take i):∃j,j<i∧j<a.size∧kyd κ y=KK κ a j:=by
 obtain⟨j,hj,e⟩:=Qag.mp h
 rw[QA,Qh]at hj
 refine⟨j,by omega,by omega,?_⟩
 rw[Zz (by omega),← e,Qaz,QT]
structure ZbM (κ:PyProof.Rows.KeyKind) (a b:Array Keyed):Prop where
 ha:∀p∈a.toList,Has κ p
 hb:∀p∈b.toList,Has κ p
 sa:kS κ a.toList
 sb:kS κ b.toList
 a0:0<a.size
 b0:0<b.size
 fst:∀i,i<a.size→κ.kle (KK κ b 0) (KK κ a i)
 lst:∀i,i<b.size→κ.kle (KK κ b i) (KK κ a (a.size-1))
theorem ZbM.hasA{a b:Array Keyed}(L:ZbM κ a b){i:Nat}(h:i<a.size):Has κ a[i]:=L.ha _ (by rw[← QT];exact QI _)
theorem ZbM.hasB{a b:Array Keyed}(L:ZbM κ a b){i:Nat}(h:i<b.size):Has κ b[i]:=L.hb _ (by rw[← QT];exact QI _)
def Zbu(κ:PyProof.Rows.KeyKind)(a b r:Array Keyed):Prop:=r.toList.Perm (a.toList++b.toList)∧kS κ r.toList
def Lo(κ:PyProof.Rows.KeyKind)(a b out:Array Keyed)(ia ib:Nat):Prop:=Mg κ (a.toList++b.toList) out.toList (a.toList.drop ia) (b.toList.drop ib)
variable {a b out:Array Keyed} {ia ib:Nat}
theorem Lo.takeA(M:Lo κ a b out ia ib)(k:Nat)(h:∀i j,ia≤i→i<ia+k→i<a.size→ib≤j→j<b.size→κ.kle (KK κ a i) (KK κ b j)):Lo κ a b (out++a.extract ia (ia+k)) (ia+k) ib:=by
 unfold Lo at M ⊢
 rw[← QZ k (a.toList.drop ia),List.drop_drop]at M
 have:=M.put fun x hx y hy=>by
  obtain⟨i,i1,i2,i3,e⟩:=Zdz (κ:=κ) hx
  obtain⟨j,j1,j2,f⟩:=ZaT (κ:=κ) hy
  rw[e,f]
  exact h i j i1 i2 i3 j1 j2
 rw[QH,ZaB,show ia+k-ia=k by omega]
 exact this
theorem Lo.takeB(M:Lo κ a b out ia ib)(k:Nat)(h:∀i j,ib≤i→i<ib+k→i<b.size→ia≤j→j<a.size→κ.kle (KK κ b i) (KK κ a j)):Lo κ a b (out++b.extract ib (ib+k)) ia (ib+k):=by
 unfold Lo at M ⊢
 rw[← QZ k (b.toList.drop ib),List.drop_drop]at M
 have:=(M.swap.put fun x hx y hy=>by
  obtain⟨i,i1,i2,i3,e⟩:=Zdz (κ:=κ) hx
  obtain⟨j,j1,j2,f⟩:=ZaT (κ:=κ) hy
  rw[e,f]
  exact h i j i1 i2 i3 j1 j2).swap
 rw[QH,ZaB,show ib+k-ib=k by omega]
 exact this
theorem Lo.pushA(M:Lo κ a b out ia ib)(hi:ia<a.size)(h:∀j,ib≤j→j<b.size→κ.kle (KK κ a ia) (KK κ b j)):Lo κ a b (out.push a[ia]) (ia+1) ib:=by
 unfold Lo at M ⊢
 rw[Zep hi]at M
 rw[Qab]
 exact M.put fun x hx y hy=>by
  obtain⟨j,j1,j2,f⟩:=ZaT (κ:=κ) hy
  rw[Qe.mp hx,f,← Zz hi]
  exact h j j1 j2
theorem Lo.pushB(M:Lo κ a b out ia ib)(hi:ib<b.size)(h:∀j,ia≤j→j<a.size→κ.kle (KK κ b ib) (KK κ a j)):Lo κ a b (out.push b[ib]) ia (ib+1):=by
 unfold Lo at M ⊢
 rw[Zep hi]at M
 rw[Qab]
 exact(M.swap.put fun x hx y hy=>by
  obtain⟨j,j1,j2,f⟩:=ZaT (κ:=κ) hy
  rw[Qe.mp hx,f,← Zz hi]
  exact h j j1 j2).swap
theorem Lo.done(M:Lo κ a b out ia ib)(h:a.size≤ia∨b.size≤ib):Zbu κ a b (out++a.extract ia a.size++b.extract ib b.size):=by
 unfold Lo at M
 have e:(out++a.extract ia a.size++b.extract ib b.size).toList=out.toList++a.toList.drop ia++b.toList.drop ib:=by rw[QH,QH,Zcg,Zcg]
 unfold Zbu
 rw[e]
 refine M.fin fun x hx y hy=>?_
 rcases h with h|h
 ·rw[Ze1 h]at hx;cases hx
 ·rw[Ze1 h]at hy;cases hy
theorem Lo.last(M:Lo κ a b out ia ib)(L:ZbM κ a b)(h:ia+1=a.size):Zbu κ a b (out++b.extract ib b.size++a.extract ia a.size):=by
 unfold Lo at M
 have e:(out++b.extract ib b.size++a.extract ia a.size).toList=out.toList++b.toList.drop ib++a.toList.drop ia:=by rw[QH,QH,Zcg,Zcg]
 unfold Zbu
 rw[e]
 refine M.swap.fin fun x hx y hy=>?_
 obtain⟨i,i1,i2,e1⟩:=ZaT (κ:=κ) hx
 obtain⟨j,j1,j2,e2⟩:=ZaT (κ:=κ) hy
 rw[e1,e2,show j=a.size-1 by omega]
 exact L.lst i i2
def Hi(κ:PyProof.Rows.KeyKind)(a b out:Array Keyed)(na nb:Nat):Prop:=Mh κ (a.toList++b.toList) (a.toList.take na) (b.toList.take nb) out.toList.reverse
variable {na nb:Nat}
theorem Zei(a:Array Keyed){k n:Nat}(h:k≤n):a.toList.take n=a.toList.take k++(a.extract k n).toList:=by
 rw[ZaB,← List.drop_take]
 have:=QZ k (List.take n a.toList)
 rw[List.take_take,Nat.min_eq_left h]at this
 exact this.symm
theorem Zeb{a:Array Keyed}{i k:Nat}{y:Keyed}(h:y∈(a.extract i k).toList):∃j,i≤j∧j<k∧j<a.size∧kyd κ y=KK κ a j:=by
 rw[ZaB]at h
 obtain⟨j,j1,j2,j3,e⟩:=Zdz (κ:=κ) h
 exact⟨j,j1,by omega,j3,e⟩
theorem Hi.takeB(M:Hi κ a b out na nb)(k:Nat)(hk:k≤nb)(h:∀i j,i<na→i<a.size→k≤j→j<nb→j<b.size→κ.kle (KK κ a i) (KK κ b j)):Hi κ a b (out++(b.extract k nb).reverse) na k:=by
 unfold Hi at M ⊢
 rw[Zei b hk]at M
 have:=M.put fun x hx y hy=>by
  obtain⟨i,i1,i2,e⟩:=Za3 (κ:=κ) hx
  obtain⟨j,j1,j2,j3,f⟩:=Zeb (κ:=κ) hy
  rw[e,f]
  exact h i j i1 i2 j1 j2 j3
 rw[QH,QaB,QaI,List.reverse_reverse]
 exact this
theorem Hi.takeA(M:Hi κ a b out na nb)(k:Nat)(hk:k≤na)(h:∀i j,i<nb→i<b.size→k≤j→j<na→j<a.size→κ.kle (KK κ b i) (KK κ a j)):Hi κ a b (out++(a.extract k na).reverse) k nb:=by
 unfold Hi at M ⊢
 rw[Zei a hk]at M
 have:=(M.swap.put fun x hx y hy=>by
  obtain⟨i,i1,i2,e⟩:=Za3 (κ:=κ) hx
  obtain⟨j,j1,j2,j3,f⟩:=Zeb (κ:=κ) hy
  rw[e,f]
  exact h i j i1 i2 j1 j2 j3).swap
 rw[QH,QaB,QaI,List.reverse_reverse]
 exact this
theorem Hi.pushB(M:Hi κ a b out na (nb+1))(hb:nb<b.size)(h:∀i,i<na→i<a.size→κ.kle (KK κ a i) (KK κ b nb)):Hi κ a b (out.push b[nb]) na nb:=by
 unfold Hi at M ⊢
 rw[Zev hb]at M
 rw[Qab,QaI]
 exact M.put fun x hx y hy=>by
  obtain⟨i,i1,i2,e⟩:=Za3 (κ:=κ) hx
  rw[Qe.mp hy,e,← Zz hb]
  exact h i i1 i2
theorem Hi.pushA(M:Hi κ a b out (na+1) nb)(hb:na<a.size)(h:∀i,i<nb→i<b.size→κ.kle (KK κ b i) (KK κ a na)):Hi κ a b (out.push a[na]) na nb:=by
 unfold Hi at M ⊢
 rw[Zev hb]at M
 rw[Qab,QaI]
 exact(M.swap.put fun x hx y hy=>by
  obtain⟨i,i1,i2,e⟩:=Za3 (κ:=κ) hx
  rw[Qe.mp hy,e,← Zz hb]
  exact h i i1 i2).swap
theorem Hi.done(M:Hi κ a b out na nb)(h:na=0∨nb=0):Zbu κ a b (a.extract 0 na++b.extract 0 nb++out.reverse):=by
 unfold Hi at M
 have e:(a.extract 0 na++b.extract 0 nb++out.reverse).toList=a.toList.take na++b.toList.take nb++out.toList.reverse:=by rw[QH,QH,ZdN,ZdN,QaB]
 unfold Zbu
 rw[e]
 refine M.fin fun x hx y hy=>?_
 rcases h with h|h
 ·rw[h]at hx;cases hx
 ·rw[h]at hy;cases hy
theorem Hi.first(M:Hi κ a b out na nb)(L:ZbM κ a b)(h:nb=1):Zbu κ a b (b.extract 0 nb++a.extract 0 na++out.reverse):=by
 unfold Hi at M
 have e:(b.extract 0 nb++a.extract 0 na++out.reverse).toList=b.toList.take nb++a.toList.take na++out.toList.reverse:=by rw[QH,QH,ZdN,ZdN,QaB]
 unfold Zbu
 rw[e]
 refine M.swap.fin fun x hx y hy=>?_
 obtain⟨i,i1,i2,e1⟩:=Za3 (κ:=κ) hx
 obtain⟨j,j1,j2,e2⟩:=Za3 (κ:=κ) hy
 rw[e1,e2,show i=0 by omega]
 exact L.fst j j2
end
def mergeLo':Array Keyed→Array Keyed→StateT SortSt Sem (Array Keyed):=sortPriv% PySem.Builtin.mergeLo
def mergeHi':Array Keyed→Array Keyed→StateT SortSt Sem (Array Keyed):=sortPriv% PySem.Builtin.mergeHi
def Sm(st st':SortSt):Prop:=kindOf st'=kindOf st∧arrOf st'=arrOf st∧pendingOf st'=pendingOf st∧failedOf st'=failedOf st
theorem Sm.rfl{st:SortSt}:Sm st st:=⟨Eq.refl _,Eq.refl _,Eq.refl _,Eq.refl _⟩
theorem Sm.trans{a b c:SortSt}(h:Sm a b)(h':Sm b c):Sm a c:=⟨h'.1.trans h.1,h'.2.1.trans h.2.1,h'.2.2.1.trans h.2.2.1,h'.2.2.2.trans h.2.2.2⟩
section
variable {prog:Program} {w:World} {A:Around} {E:Value→Shared→Prop} {s:Shared} {κ:PyProof.Rows.KeyKind} {k0:SortKind} {st:SortSt} {α β γ:Type}
theorem w_jp{c:Prop}[Decidable c]{x:β}{y:γ}{X Y:β→γ→StateT SortSt Sem α}{Q:α→SortSt→Prop}(P:β→γ→Prop)(H:∀o i,P o i→wpS (model prog w) A E s (Y o i) Q st)
  (hX:(∀o i,P o i→wpS (model prog w) A E s (Y o i) Q st)→c→wpS (model prog w) A E s (X x y) Q st) (hY:¬ c→P x y):∀o,x=o→∀i,y=i→wpS (model prog w) A E s (if c then X o i else Y o i) Q st:=by
 rintro _ rfl _ rfl
 by_cases h:c
 ·rw[if_pos h];exact hX H h
 ·rw[if_neg h];exact H x y (hY h)
theorem w_jp1{X Y:Nat→StateT SortSt Sem α}{Q:α→SortSt→Prop}(e:∀g,X g=Y (g-1))(H:∀g,wpS (model prog w) A E s (Y g) Q st):∀g,wpS (model prog w) A E s (if g>1 then X g else Y g) Q st:=by
 intro g
 by_cases h:g>1
 ·rw[if_pos h,e];exact H _
 ·rw[if_neg h];exact H g
theorem w_mg{m:StateT SortSt Sem PUnit}{g:Nat}(hm:m=modify fun s=>SortSt.mk' (kindOf s) (arrOf s) (pendingOf s) g (failedOf s)){Q:PUnit→SortSt→Prop}(q:∀st',Sm st st'→Q ⟨⟩ st'):wpS (model prog w) A E s m Q st:=by
 rw[hm]
 exact wpS_modify (q _ ⟨rfl,rfl,rfl,rfl⟩)
theorem w_bq{x y:Nat}{X Y:StateT SortSt Sem α}{Q:α→SortSt→Prop}(hX:x=y→wpS (model prog w) A E s X Q st)(hY:x≠y→wpS (model prog w) A E s Y Q st):wpS (model prog w) A E s (if (x == y)=true then X else Y) Q st:=by
 by_cases h:x=y
 ·rw[if_pos (by rw[h];exact beq_self_eq_true _)];exact hX h
 ·rw[if_neg (by intro z;exact h (eq_of_beq z))];exact hY h
theorem w_if{c:Prop}[Decidable c]{X Y:StateT SortSt Sem α}{Q:α→SortSt→Prop}(hX:c→wpS (model prog w) A E s X Q st)(hY:¬ c→wpS (model prog w) A E s Y Q st):wpS (model prog w) A E s (if c then X else Y) Q st:=by
 by_cases h:c
 ·rw[if_pos h];exact hX h
 ·rw[if_neg h];exact hY h
def Zg0(κ:PyProof.Rows.KeyKind)(a b:Array Keyed)(t:Nat)(out:Array Keyed)(ia ib:Nat):Prop:=Lo κ a b out ia ib∧ia+1<a.size∧ib<b.size∧t≤ia+ib
theorem w_lo(hL:ZaD prog w A s k0 κ)(hK:kindOf st=k0){a b:Array Keyed}(L:ZbM κ a b){Q:Array Keyed→SortSt→Prop}(q:∀r st',Zbu κ a b r→Sm st st'→Q r st'):wpS (model prog w) A E s (mergeLo' a b) Q st:=by
 have sA:=Zcs L.sa
 have sB:=Zcs L.sb
 show wpS _ _ _ _ (liftM (rule _) >>= _) _ _
 refine wpS_bind (wpS_lift (wpAny_rule ⟨rfl,?_⟩))
 refine wpS_bind (w_elem (ZC L.b0) ?_)
 have M0:Lo κ a b #[b[0]'L.b0] 0 1:=by
  have h0:Lo κ a b #[] 0 0:=⟨by simp,List.Pairwise.nil,by simpa using L.sa,by simpa using L.sb,(fun x hx=>by cases hx),(fun x hx=>by cases hx)⟩
  exact h0.pushB L.b0 fun j _ hj=>L.fst j hj
 refine w_bq (fun h=>wpS_pure (q _ _ (M0.done (.inr (by omega))) Sm.rfl)) fun hb=>?_
 refine w_bq (fun h=>wpS_pure (q _ _ (M0.last L h) Sm.rfl)) fun ha=>?_
 have a0:=L.a0
 have b0:=L.b0
 refine wpS_bind (wpS_get ?_)
 refine wpS_bind (wpS_mono (wpS_forRange (fun i c st'=>∃out ia ib g,c=(none,out,ia,ib,g)∧Sm st st'∧Zg0 κ a b (i+1) out ia ib) (Q:=fun c st'=>∃r z,c=(some r,z)∧Zbu κ a b r∧Sm st st') ?_ ?_ ⟨_,0,1,_,rfl,Sm.rfl,M0,by omega,by omega,by omega⟩) ?_)
 ·rintro t c st1 _ ht ⟨out,ia,ib,g,rfl,S1,I1⟩
  dsimp only
  show wpS _ _ _ _ (forIn [:a.size+b.size] (none,out,ia,ib,0,0) _ >>= _) _ _
  refine wpS_bind (wpS_mono (wpS_forRange (fun i c st'=>∃out ia ib x y,c=(none,out,ia,ib,x,y)∧Sm st st'∧Zg0 κ a b (t+1+i) out ia ib)
   (Q:=fun c st'=>Sm st st'∧∃out ia ib x y,(∃r,c=(some r,out,ia,ib,x,y)∧Zbu κ a b r)∨(c=(none,out,ia,ib,x,y)∧Zg0 κ a b (t+2) out ia ib)) ?_ ?_ ⟨out,ia,ib,0,0,rfl,S1,I1⟩) ?_)
  ·rintro i c st2 _ hi ⟨out,ia,ib,x,y,rfl,S2,M,h1,h2,h3⟩
   dsimp only
   refine wpS_bind (w_elem (ZC h2) (wpS_bind (w_elem (ZC (show ia<a.size by omega)) (wpS_bind (w_ltp hL (S2.1.trans hK) (L.hasB h2) (L.hasA (by omega)) ?_)))))
   rw[← Zz,← Zz]
   cases hb:κ.blt (KK κ b ib) (KK κ a ia) with
   | true =>
    have M':=M.pushB h2 fun j j1 j2=>KeyOrd.kle_trans (KeyOrd.kle_of_klt hb) (sA ia j j1 j2)
    refine wpS_bind (w_elem (ZC h2) ?_)
    refine w_bq (fun h=>wpS_pure ⟨S2,_,_,_,_,_,.inl ⟨_,rfl,M'.done (.inr (by omega))⟩⟩) fun hne=>?_
    refine w_if (fun _=>wpS_pure ⟨S2,_,_,_,_,_,.inr ⟨rfl,M',by omega,by omega,by omega⟩⟩) fun _=>wpS_pure ⟨_,_,_,_,_,rfl,S2,M',by omega,by omega,by omega⟩
   | false =>
    have M':=M.pushA (by omega) fun j j1 j2=>KeyOrd.kle_trans (show κ.kle (KK κ a ia) (KK κ b ib) from hb) (sB ib j j1 j2)
    refine wpS_bind (w_elem (ZC (show ia<a.size by omega)) ?_)
    refine w_bq (fun h=>wpS_pure ⟨S2,_,_,_,_,_,.inl ⟨_,rfl,M'.last L h⟩⟩) fun hne=>?_
    refine w_if (fun _=>wpS_pure ⟨S2,_,_,_,_,_,.inr ⟨rfl,M',by omega,by omega,by omega⟩⟩) fun _=>wpS_pure ⟨_,_,_,_,_,rfl,S2,M',by omega,by omega,by omega⟩
  ·rintro c st2 ⟨out,ia,ib,x,y,rfl,S2,M,h1,h2,h3⟩
   exact⟨S2,_,_,_,_,_,.inr ⟨rfl,M,h1,h2,by omega⟩⟩
  ·rintro c st2 ⟨S2,out,ia,ib,x,y,⟨r,rfl,hr⟩|⟨rfl,I2⟩⟩
   ·exact wpS_pure ⟨r,_,rfl,hr,S2⟩
   dsimp only
   refine wpS_bind (wpS_lift (wpAny_rule ⟨rfl,?_⟩))
   show wpS _ _ _ _ (forIn [:a.size+b.size] (none,out,ia,ib,g+1,x,y) _ >>= _) _ _
   refine wpS_bind (wpS_mono (wpS_forRange (fun i c st'=>∃out ia ib g x y,c=(none,out,ia,ib,g,x,y)∧Sm st st'∧Zg0 κ a b (t+2) out ia ib)
    (Q:=fun c st'=>Sm st st'∧∃out ia ib g x y,(∃r,c=(some r,out,ia,ib,g,x,y)∧Zbu κ a b r)∨(c=(none,out,ia,ib,g,x,y)∧Zg0 κ a b (t+2) out ia ib)) ?_ ?_ ⟨out,ia,ib,g+1,x,y,rfl,S2,I2⟩) ?_)
   ·rintro i c st3 _ hi ⟨out,ia,ib,g,x,y,rfl,S3,M,h1,h2,h3⟩
    dsimp only
    revert g
    refine w_jp1 (fun _=>rfl) ?_
    rintro g
    refine wpS_bind (w_mg (g:=g) rfl fun st4 S4=>?_)
    have S4':=S3.trans S4
    refine wpS_bind (w_elem (ZC h2) (wpS_bind ?_))
    refine w_gallop hL (S4'.1.trans hK) (B:=fun i=>!κ.blt (KK κ b ib) (KK κ a (ia+i))) (by omega) (L.hasB h2) (fun i hi=>⟨a[ia+i]'(by omega),ZC (by omega),L.hasA (by omega),by rw[Zz h2,Zz (show ia+i<a.size by omega)];rfl⟩) (fun i j hij hj hB=>?_) fun k hk k1 k2=>?_
    ·have z:κ.kle (KK κ a (ia+j)) (KK κ b ib):=by simpa [KeyOrd.kle] using hB
     have:=KeyOrd.kle_trans (sA (ia+i) (ia+j) (by omega) (by omega)) z
     simpa [KeyOrd.kle] using this
    have k1':∀i,ia≤i→i<ia+k→κ.kle (KK κ a i) (KK κ b ib):=fun i i1 i2=>by
     have:=k1 (i-ia) (by omega)
     rw[show ia+(i-ia)=i by omega]at this
     simpa [KeyOrd.kle] using this
    have k2':∀i,ia+k≤i→i<a.size→κ.kle (KK κ b ib) (KK κ a i):=fun i i1 i2=>by
     have:=k2 (i-ia) (by omega) (by omega)
     rw[show ia+(i-ia)=i by omega]at this
     exact KeyOrd.kle_of_klt (show κ.blt _ _=true by simpa using this)
    generalize ho:out=o
    generalize hi:ia=i
    revert i hi
    revert o ho
    refine w_jp (fun out' ia'=>Lo κ a b out' ia' ib∧ia'+1<a.size∧ia≤ia'∧∀i,ia'≤i→i<a.size→κ.kle (KK κ b ib) (KK κ a i)) ?_ ?_ ?_
    ·rintro out' ia' ⟨M1,g1,g0,g2⟩
     show wpS _ _ _ _ (_ >>= _) _ _
     refine wpS_bind (w_elem (ZC h2) ?_)
     have M2:=M1.pushB h2 g2
     refine w_bq (fun h=>wpS_pure ⟨S4',_,_,_,_,_,_,.inl ⟨_,rfl,M2.done (.inr (by omega))⟩⟩) fun hne=>?_
     refine wpS_bind (w_elem (ZC (show ia'<a.size by omega)) (wpS_bind ?_))
     refine w_gallop hL (S4'.1.trans hK) (B:=fun i=>κ.blt (KK κ b (ib+1+i)) (KK κ a ia')) (by omega) (L.hasA (by omega)) (fun i hi=>⟨b[ib+1+i]'(by omega),ZC (by omega),L.hasB (by omega),by rw[Zz (show ia'<a.size by omega),Zz (show ib+1+i<b.size by omega)];rfl⟩) (fun i j hij hj hB=>KeyOrd.klt_of_kle_of_klt (sB _ _ (by omega) (by omega)) hB) fun m hm m1 m2=>?_
     have m2':∀i,ib+1+m≤i→i<b.size→κ.kle (KK κ a ia') (KK κ b i):=fun i i1 i2=>by
      have:=m2 (i-(ib+1)) (by omega) (by omega)
      rw[show ib+1+(i-(ib+1))=i by omega]at this
      exact this
     have e1:ib<ib+1:=Qaq _
     have e2:ib+1≤b.size:=h2
     generalize ho:out'.push b[ib]=o
     generalize hi:ib+1=i
     revert i hi
     revert o ho
     refine w_jp (fun o2 ib2=>Lo κ a b o2 ia' ib2∧ib2<b.size∧ib+1≤ib2∧∀i,ib2≤i→i<b.size→κ.kle (KK κ a ia') (KK κ b i)) ?_ ?_ ?_
     ·rintro o2 ib2 ⟨M3,n1,n0,n2⟩
      refine wpS_bind (w_elem (ZC (show ia'<a.size by omega)) ?_)
      have M4:=M3.pushA (by omega) n2
      refine w_bq (fun h=>wpS_pure ⟨S4',_,_,_,_,_,_,.inl ⟨_,rfl,M4.last L h⟩⟩) fun hne2=>?_
      exact w_if (fun _=>wpS_pure ⟨S4',_,_,_,_,_,_,.inr ⟨rfl,M4,by omega,by omega,by omega⟩⟩) fun _=>wpS_pure ⟨_,_,_,_,_,_,rfl,S4',M4,by omega,by omega,by omega⟩
     ·intro H hm0
      have M3:=M2.takeB m fun i j l1 l2 l3 j1 j2=>by
       have:=m1 (i-(ib+1)) (by omega)
       rw[show ib+1+(i-(ib+1))=i by omega]at this
       exact KeyOrd.kle_trans (KeyOrd.kle_of_klt this) (sA ia' j j1 j2)
      refine w_bq (fun h=>wpS_pure ⟨S4',_,_,_,_,_,_,.inl ⟨_,rfl,M3.done (.inr (by omega))⟩⟩) fun hne2=>?_
      exact H _ _ ⟨M3,by omega,by omega,fun i j1 j2=>m2' i j1 j2⟩
     ·exact fun hm0=>⟨M2,by omega,Qj _,fun i l1 l2=>m2' i (by omega) l2⟩
    ·intro H hk0
     have M1:=M.takeA k fun i j i1 i2 i3 j1 j2=>KeyOrd.kle_trans (k1' i i1 i2) (sB ib j j1 j2)
     refine w_bq (fun h=>wpS_pure ⟨S4',_,_,_,_,_,_,.inl ⟨_,rfl,M1.last L h⟩⟩) fun hne=>?_
     refine w_bq (fun h=>wpS_pure ⟨S4',_,_,_,_,_,_,.inl ⟨_,rfl,M1.done (.inl (by omega))⟩⟩) fun hne2=>?_
     exact H _ _ ⟨M1,by omega,by omega,fun i j1 j2=>k2' i j1 j2⟩
    ·exact fun hk0=>⟨M,h1,Qj _,fun i i1 i2=>k2' i (by omega) i2⟩
   ·rintro c st3 ⟨out,ia,ib,g,x,y,rfl,S3,I3⟩
    exact⟨S3,_,_,_,_,_,_,.inr ⟨rfl,I3⟩⟩
   ·rintro c st3 ⟨S3,out,ia,ib,g,x,y,⟨r,rfl,hr⟩|⟨rfl,I3⟩⟩
    ·exact wpS_pure ⟨r,_,rfl,hr,S3⟩
    ·dsimp only
     exact wpS_bind (w_mg (g:=g+1) rfl fun st4 S4=>wpS_pure ⟨_,_,_,_,rfl,S3.trans S4,I3⟩)
 ·rintro c st1 ⟨out,ia,ib,g,rfl,S1,M,h1,h2,h3⟩
  omega
 ·rintro c st1 ⟨r,z,rfl,hr,S1⟩
  exact wpS_pure (q r _ hr S1)
end
section
variable {prog:Program} {w:World} {A:Around} {E:Value→Shared→Prop} {s:Shared} {κ:PyProof.Rows.KeyKind} {k0:SortKind} {st:SortSt} {α β γ:Type} {a b out:Array Keyed} {na nb:Nat}
theorem Hi.putA(M:Hi κ a b out na nb)(h0:0<na)(ha:na-1<a.size)(h:∀i,i<nb→i<b.size→κ.kle (KK κ b i) (KK κ a (na-1))):Hi κ a b (out.push a[na-1]) (na-1) nb:=by
 obtain⟨n,rfl⟩:∃n,na=n+1:=⟨na-1,by omega⟩
 exact M.pushA ha h
theorem Hi.putB(M:Hi κ a b out na nb)(h0:0<nb)(hb:nb-1<b.size)(h:∀i,i<na→i<a.size→κ.kle (KK κ a i) (KK κ b (nb-1))):Hi κ a b (out.push b[nb-1]) na (nb-1):=by
 obtain⟨n,rfl⟩:∃n,nb=n+1:=⟨nb-1,by omega⟩
 exact M.pushB hb h
def ZgJ(κ:PyProof.Rows.KeyKind)(a b:Array Keyed)(t:Nat)(out:Array Keyed)(na nb:Nat):Prop:=Hi κ a b out na nb∧0<na∧1<nb∧na≤a.size∧nb≤b.size∧na+nb+t≤a.size+b.size
theorem w_hi(hL:ZaD prog w A s k0 κ)(hK:kindOf st=k0)(L:ZbM κ a b){Q:Array Keyed→SortSt→Prop}(q:∀r st',Zbu κ a b r→Sm st st'→Q r st'):wpS (model prog w) A E s (mergeHi' a b) Q st:=by
 have sA:=Zcs L.sa
 have sB:=Zcs L.sb
 have a0:=L.a0
 have b0:=L.b0
 show wpS _ _ _ _ (liftM (rule _) >>= _) _ _
 refine wpS_bind (wpS_lift (wpAny_rule ⟨rfl,?_⟩))
 refine wpS_bind (w_elem (ZC (show a.size-1<a.size by omega)) ?_)
 have M0:Hi κ a b #[a[a.size-1]] (a.size-1) b.size:=by
  have h0:Hi κ a b #[] a.size b.size:=⟨by simp[List.take_of_length_le],List.Pairwise.nil,by simpa [List.take_of_length_le] using L.sa,by simpa [List.take_of_length_le] using L.sb,(fun x _ y hy=>by cases hy),(fun x _ y hy=>by cases hy)⟩
  exact h0.putA a0 (by omega) fun i _ hi=>L.lst i hi
 refine w_bq (fun h=>wpS_pure (q _ _ (M0.done (.inl h)) Sm.rfl)) fun ha=>?_
 refine w_bq (fun h=>wpS_pure (q _ _ (M0.first L h) Sm.rfl)) fun hb=>?_
 refine wpS_bind (wpS_get ?_)
 refine wpS_bind (wpS_mono (wpS_forRange (fun i c st'=>∃na nb out g,c=(none,na,nb,out,g)∧Sm st st'∧ZgJ κ a b (i+1) out na nb) (Q:=fun c st'=>∃r z,c=(some r,z)∧Zbu κ a b r∧Sm st st') ?_ ?_ ⟨_,_,_,_,rfl,Sm.rfl,M0,by omega,by omega,by omega,by omega,by omega⟩) ?_)
 ·rintro t c st1 _ ht ⟨na,nb,out,g,rfl,S1,I1⟩
  dsimp only
  refine wpS_bind (wpS_mono (wpS_forRange (fun i c st'=>∃na nb out x y,c=(none,na,nb,out,x,y)∧Sm st st'∧ZgJ κ a b (t+1+i) out na nb)
   (Q:=fun c st'=>Sm st st'∧∃na nb out x y,(∃r,c=(some r,na,nb,out,x,y)∧Zbu κ a b r)∨(c=(none,na,nb,out,x,y)∧ZgJ κ a b (t+2) out na nb)) ?_ ?_ ⟨na,nb,out,0,0,rfl,S1,I1⟩) ?_)
  ·rintro i c st2 _ hi ⟨na,nb,out,x,y,rfl,S2,M,h1,h2,h3,h4,h5⟩
   dsimp only
   refine wpS_bind (w_elem (ZC (show nb-1<b.size by omega)) (wpS_bind (w_elem (ZC (show na-1<a.size by omega)) (wpS_bind (w_ltp hL (S2.1.trans hK) (L.hasB (by omega)) (L.hasA (by omega)) ?_)))))
   rw[← Zz,← Zz]
   cases hb:κ.blt (KK κ b (nb-1)) (KK κ a (na-1)) with
   | true =>
    have M':=M.putA h1 (by omega) fun i j1 j2=>KeyOrd.kle_trans (sB i (nb-1) (by omega) (by omega)) (KeyOrd.kle_of_klt hb)
    refine wpS_bind (w_elem (ZC (show na-1<a.size by omega)) ?_)
    refine w_bq (fun h=>wpS_pure ⟨S2,_,_,_,_,_,.inl ⟨_,rfl,M'.done (.inl h)⟩⟩) fun hne=>?_
    exact w_if (fun _=>wpS_pure ⟨S2,_,_,_,_,_,.inr ⟨rfl,M',by omega,by omega,by omega,by omega,by omega⟩⟩) fun _=>wpS_pure ⟨_,_,_,_,_,rfl,S2,M',by omega,by omega,by omega,by omega,by omega⟩
   | false =>
    have M':=M.putB (by omega) (by omega) fun i j1 j2=>KeyOrd.kle_trans (sA i (na-1) (by omega) (by omega)) (show κ.kle (KK κ a (na-1)) (KK κ b (nb-1)) from hb)
    refine wpS_bind (w_elem (ZC (show nb-1<b.size by omega)) ?_)
    refine w_bq (fun h=>wpS_pure ⟨S2,_,_,_,_,_,.inl ⟨_,rfl,M'.first L h⟩⟩) fun hne=>?_
    exact w_if (fun _=>wpS_pure ⟨S2,_,_,_,_,_,.inr ⟨rfl,M',by omega,by omega,by omega,by omega,by omega⟩⟩) fun _=>wpS_pure ⟨_,_,_,_,_,rfl,S2,M',by omega,by omega,by omega,by omega,by omega⟩
  ·rintro c st2 ⟨na,nb,out,x,y,rfl,S2,M,h1,h2,h3,h4,h5⟩
   exact⟨S2,_,_,_,_,_,.inr ⟨rfl,M,h1,h2,h3,h4,by omega⟩⟩
  ·rintro c st2 ⟨S2,na,nb,out,x,y,⟨r,rfl,hr⟩|⟨rfl,I2⟩⟩
   ·exact wpS_pure ⟨r,_,rfl,hr,S2⟩
   dsimp only
   refine wpS_bind (wpS_lift (wpAny_rule ⟨rfl,?_⟩))
   refine wpS_bind (wpS_mono (wpS_forRange (fun i c st'=>∃na nb out g x y,c=(none,na,nb,out,g,x,y)∧Sm st st'∧ZgJ κ a b (t+2) out na nb)
    (Q:=fun c st'=>Sm st st'∧∃na nb out g x y,(∃r,c=(some r,na,nb,out,g,x,y)∧Zbu κ a b r)∨(c=(none,na,nb,out,g,x,y)∧ZgJ κ a b (t+2) out na nb)) ?_ ?_ ⟨na,nb,out,g+1,x,y,rfl,S2,I2⟩) ?_)
   ·rintro i c st3 _ hi ⟨na,nb,out,g,x,y,rfl,S3,M,h1,h2,h3,h4,h5⟩
    dsimp only
    revert g
    refine w_jp1 (fun _=>rfl) ?_
    rintro g
    refine wpS_bind (w_mg (g:=g) rfl fun st4 S4=>?_)
    have S4':=S3.trans S4
    have hb1:nb-1<b.size:=by omega
    refine wpS_bind (w_elem (ZC hb1) (wpS_bind ?_))
    refine w_gallop hL (S4'.1.trans hK) (B:=fun i=>!κ.blt (KK κ b (nb-1)) (KK κ a (0+i))) (by omega) (L.hasB hb1) (fun i hi=>⟨a[0+i]'(by omega),ZC (by omega),L.hasA (by omega),by rw[Zz hb1,Zz (show 0+i<a.size by omega)];rfl⟩) (fun i j hij hj hB=>?_) fun f hf k1 k2=>?_
    ·have z:κ.kle (KK κ a (0+j)) (KK κ b (nb-1)):=by simpa [KeyOrd.kle] using hB
     have:=KeyOrd.kle_trans (sA (0+i) (0+j) (by omega) (by omega)) z
     simpa [KeyOrd.kle] using this
    have k1':∀i,i<f→κ.kle (KK κ a i) (KK κ b (nb-1)):=fun i i1=>by
     have:=k1 i i1
     rw[QaS]at this
     simpa [KeyOrd.kle] using this
    have k2':∀i,f≤i→i<na→κ.klt (KK κ b (nb-1)) (KK κ a i):=fun i i1 i2=>by
     have:=k2 i i1 i2
     rw[QaS]at this
     exact(show κ.blt _ _=true by simpa using this)
    dsimp only
    generalize hk:na-f=k
    generalize ho:na=o
    generalize hi:out=i
    revert i hi
    revert o ho
    refine w_jp (fun na' out'=>Hi κ a b out' na' nb∧0<na'∧na'≤na∧∀i,i<na'→κ.kle (KK κ a i) (KK κ b (nb-1))) ?_ ?_ ?_
    ·rintro na' out' ⟨M1,g1,g0,g2⟩
     refine wpS_bind (w_elem (ZC hb1) ?_)
     have M2:=M1.putB (by omega) hb1 fun i i1 _=>g2 i i1
     refine w_bq (fun h=>wpS_pure ⟨S4',_,_,_,_,_,_,.inl ⟨_,rfl,M2.first L h⟩⟩) fun hne=>?_
     have ha1:na'-1<a.size:=by omega
     refine wpS_bind (w_elem (ZC ha1) (wpS_bind ?_))
     refine w_gallop hL (S4'.1.trans hK) (B:=fun i=>κ.blt (KK κ b (0+i)) (KK κ a (na'-1))) (by omega) (L.hasA ha1) (fun i hi=>⟨b[0+i]'(by omega),ZC (by omega),L.hasB (by omega),by rw[Zz ha1,Zz (show 0+i<b.size by omega)];rfl⟩) (fun i j hij hj hB=>KeyOrd.klt_of_kle_of_klt (sB _ _ (by omega) (by omega)) hB) fun m hm m1 m2=>?_
     have m1':∀i,i<m→κ.kle (KK κ b i) (KK κ a (na'-1)):=fun i i1=>by
      have:=m1 i i1
      rw[QaS]at this
      exact KeyOrd.kle_of_klt this
     have m2':∀i,m≤i→i<nb-1→κ.kle (KK κ a (na'-1)) (KK κ b i):=fun i i1 i2=>by
      have:=m2 i i1 i2
      rw[QaS]at this
      exact this
     dsimp only
     generalize hk2:nb-1-m=k2
     generalize hi:out'.push b[nb-1]=i
     generalize ho:nb-1=o
     revert i hi
     revert o ho
     refine w_jp (fun nb2 o2=>Hi κ a b o2 na' nb2∧1<nb2∧nb2≤nb-1∧∀i,i<nb2→κ.kle (KK κ b i) (KK κ a (na'-1))) ?_ ?_ ?_
     ·rintro nb2 o2 ⟨M3,n1,n0,n2⟩
      refine wpS_bind (w_elem (ZC ha1) ?_)
      have M4:=M3.putA g1 ha1 fun i i1 _=>n2 i i1
      refine w_bq (fun h=>wpS_pure ⟨S4',_,_,_,_,_,_,.inl ⟨_,rfl,M4.done (.inl h)⟩⟩) fun hne2=>?_
      exact w_if (fun _=>wpS_pure ⟨S4',_,_,_,_,_,_,.inr ⟨rfl,M4,by omega,by omega,by omega,by omega,by omega⟩⟩) fun _=>wpS_pure ⟨_,_,_,_,_,_,rfl,S4',M4,by omega,by omega,by omega,by omega,by omega⟩
     ·intro H hm0
      have M3:=M2.takeB m hm fun i j i1 i2 j1 j2 j3=>KeyOrd.kle_trans (sA i (na'-1) (by omega) (by omega)) (m2' j j1 j2)
      refine w_bq (fun h=>wpS_pure ⟨S4',_,_,_,_,_,_,.inl ⟨_,rfl,M3.first L h⟩⟩) fun hne2=>?_
      refine w_bq (fun h=>wpS_pure ⟨S4',_,_,_,_,_,_,.inl ⟨_,rfl,M3.done (.inr h)⟩⟩) fun hne3=>?_
      exact H _ _ ⟨M3,by omega,hm,m1'⟩
     ·exact fun hm0=>⟨M2,by omega,Qj _,fun i l1=>m1' i (by omega)⟩
    ·intro H hk0
     have M1:=M.takeA f hf fun i j i1 i2 j1 j2 j3=>KeyOrd.kle_trans (sB i (nb-1) (by omega) (by omega)) (KeyOrd.kle_of_klt (k2' j j1 j2))
     refine w_bq (fun h=>wpS_pure ⟨S4',_,_,_,_,_,_,.inl ⟨_,rfl,M1.done (.inl h)⟩⟩) fun hne=>?_
     exact H _ _ ⟨M1,by omega,hf,k1'⟩
    ·exact fun hk0=>⟨M,h1,Qj _,fun i i1=>k1' i (by omega)⟩
   ·rintro c st3 ⟨na,nb,out,g,x,y,rfl,S3,I3⟩
    exact⟨S3,_,_,_,_,_,_,.inr ⟨rfl,I3⟩⟩
   ·rintro c st3 ⟨S3,na,nb,out,g,x,y,⟨r,rfl,hr⟩|⟨rfl,I3⟩⟩
    ·exact wpS_pure ⟨r,_,rfl,hr,S3⟩
    ·dsimp only
     exact wpS_bind (w_mg (g:=g+1) rfl fun st4 S4=>wpS_pure ⟨_,_,_,_,rfl,S3.trans S4,I3⟩)
 ·rintro c st1 ⟨na,nb,out,g,rfl,S1,M,h1,h2,h3,h4,h5⟩
  omega
 ·rintro c st1 ⟨r,z,rfl,hr,S1⟩
  exact wpS_pure (q r _ hr S1)
end
def Zb0:Nat→List (List Keyed)→List (Nat×Nat)
 | _,[]=>[]
 | o,r::rs=>(o,r.length)::Zb0 (o+r.length) rs
theorem ZbI:∀ (o:Nat) (l m:List (List Keyed)),Zb0 o (l++m)=Zb0 o l++Zb0 (o+l.flatten.length) m
 | o,[],m=>by simp[Zb0]
 | o,r::l,m=>by simp[Zb0,ZbI (o+r.length) l m,Nat.add_assoc]
theorem Zcr:∀ (o:Nat) (l:List (List Keyed)),(Zb0 o l).length=l.length
 | _,[]=>rfl
 | o,r::l=>by simp[Zb0,Zcr (o+r.length) l]
def ZaN(p:Nat×Nat×Nat):Nat×Nat:=(p.1,p.2.1)
section
variable {prog:Program} {w:World} {A:Around} {E:Value→Shared→Prop} {s:Shared} {κ:PyProof.Rows.KeyKind} {k0:SortKind} {st:SortSt} {a₀:Array Keyed}
structure Rn (κ:PyProof.Rows.KeyKind) (k0:SortKind) (a₀:Array Keyed) (st:SortSt) (rs:List (List Keyed)) (rest:List Keyed):Prop where
 kind:kindOf st=k0
 failed:failedOf st=none
 arr:(arrOf st).toList=rs.flatten++rest
 perm:(arrOf st).Perm a₀
 srt:∀r∈rs,kS κ r
 ne:∀r∈rs,r≠[]
 pend:(pendingOf st).toList.map ZaN=Zb0 0 rs
theorem Zex{sa:Nat}{R:List Keyed}:∀ (r S L:List Keyed) (n:Nat) (xs:Array Keyed),xs.toList=L++S++R→L.length=sa+n→S.length=r.length→((r.zipIdx n).foldl (fun a x=>a.setIfInBounds (sa+x.2) x.1) xs).toList=L++r++R
 | [],S,L,n,xs,h,_,h2=>by
  have:S=[]:=Qt h2
  subst this
  simpa using h
 | p::r,[],L,n,xs,h,_,h2=>by cases h2
 | p::r,q::S,L,n,xs,h,h1,h2=>by
  rw[List.zipIdx_cons,List.foldl_cons]
  have e:(xs.setIfInBounds (sa+n) p).toList=(L++[p])++S++R:=by
   rw[Array.toList_setIfInBounds,h,← h1]
   simp
  have:=Zex (sa:=sa) (R:=R) r S (L++[p]) (n+1) _ e (by simp;omega) (by simpa using h2)
  simpa using this
theorem ZdG{xs:Array Keyed}{L x R:List Keyed}(h:xs.toList=L++x++R){i:Nat}(hi:i<x.length):xs[L.length+i]? = some x[i]:=by
 rw[← QD,h,QE,QL (by omega),Nat.add_sub_cancel_left,Qad hi,Qd hi]
theorem Zhv{left:Bool}{key p q:Keyed}(h:κ.kle (kyd κ p) (kyd κ q))(hq:gB κ left key q=true):gB κ left key p=true:=by
 unfold gB at *
 cases left with
 | true=>exact KeyOrd.klt_of_kle_of_klt h (show κ.klt _ _ from hq)
 | false =>
  have z:κ.kle (kyd κ q) (kyd κ key):=by simpa [KeyOrd.kle] using hq
  simpa [KeyOrd.kle] using KeyOrd.kle_trans h z
theorem w_galL(hL:ZaD prog w A s k0 κ)(hK:kindOf st=k0){left:Bool}{key:Keyed}{xs:Array Keyed}{L x R:List Keyed}{base n hint:Nat}(e:xs.toList=L++x++R)(hb:base=L.length)(hn:n=x.length)(hh:hint<n)(hkey:Has κ key)(hx:∀p∈x,Has κ p)(sx:kS κ x)
  {Q:Option Nat→SortSt→Prop} (q:∀h,h≤n→(∀p∈x.take h,gB κ left key p=true)→(∀p∈x.drop h,gB κ left key p=false)→Q (some h) st):wpS (model prog w) A E s (gallop' left key xs base n hint) Q st:=by
 subst hb hn
 refine w_gallop hL hK (B:=fun i=>if h:i<x.length then gB κ left key x[i] else false) hh hkey (fun i hi=>⟨x[i],ZdG e hi,hx _ (QI hi),by rw[dif_pos hi]⟩) (fun i j hij hj hB=>?_) fun h hh k1 k2=>q h hh (fun p hp=>?_) fun p hp=>?_
 ·rw[dif_pos hj]at hB
  rw[dif_pos (by omega)]
  by_cases eq:i=j
  ·subst eq;exact hB
  ·exact Zhv (QV.mp sx i j (by omega) hj (by omega)) hB
 ·obtain⟨i,hi,rfl⟩:=Qag.mp hp
  rw[QA]at hi
  have:=k1 i (by omega)
  rw[dif_pos (by omega)]at this
  rw[Qaz]
  exact this
 ·obtain⟨i,hi,rfl⟩:=Qag.mp hp
  rw[QO]at hi
  have:=k2 (h+i) (by omega) (by omega)
  rw[dif_pos (by omega)]at this
  rw[Qay]
  exact this
theorem ZiT(a:List Keyed)(k:Nat)(b c:List Keyed):a++b++c=a++b.take k++b.drop k++c:=by rw[QE a (b.take k),QZ]
theorem ZjK(a:List Keyed)(k:Nat)(b c:List Keyed):a++b++c=a++b.take k++(b.drop k++c):=by rw[← QE,← ZiT]
theorem Zjo(k f:Nat)(b c:List Keyed):b.take k++(b.drop k++c.take f)++c.drop f=b++c:=by rw[← QE,QZ,QE,QZ]
theorem ZjH(a:List Keyed)(k f:Nat)(b c d:List Keyed):a++b++(c++d)=(a++b.take k)++(b.drop k++c.take f)++(c.drop f++d):=by
 have:=Zjo k f b c
 simp only[List.append_assoc]at this ⊢
 rw[← QE b,← this]
 simp only[List.append_assoc]
theorem Zfj{xs:Array Keyed}{L v R:List Keyed}{i j:Nat}(h:xs.toList=L++v++R)(hi:i=L.length)(hj:j=L.length+v.length):(xs.extract i j).toList=v:=by
 subst hi hj
 rw[ZaB,h,QE,List.drop_left,Nat.add_sub_cancel_left,List.take_left]
theorem ZdS{x y:List Keyed}(h:kS κ x)(s:y.Sublist x):kS κ y:=List.Pairwise.sublist s h
theorem ZhM{key p:Keyed}(h:gB κ false key p=true):κ.kle (kyd κ p) (kyd κ key):=by unfold gB at h;simpa [KeyOrd.kle] using h
theorem gB_f'{key p:Keyed}(h:gB κ false key p=false):κ.kle (kyd κ key) (kyd κ p):=by unfold gB at h;exact KeyOrd.kle_of_klt (show κ.blt _ _=true by simpa using h)
theorem Zjh{key p:Keyed}(h:gB κ true key p=true):κ.kle (kyd κ p) (kyd κ key):=KeyOrd.kle_of_klt (show κ.blt _ _=true from h)
theorem gB_t'{key p:Keyed}(h:gB κ true key p=false):κ.kle (kyd κ key) (kyd κ p):=h
theorem Zgr{p:Keyed}{x:List Keyed}(h:kS κ (p::x)):∀q∈p::x,κ.kle (kyd κ p) (kyd κ q):=fun q hq=>(Q6.mp hq).elim (fun e=>by rw[e];exact KeyOrd.kle_refl _) fun hq=>(List.pairwise_cons.mp h).1 q hq
theorem Zia{p:Keyed}{x:List Keyed}(h:kS κ (x++[p])):∀q∈x++[p],κ.kle (kyd κ q) (kyd κ p):=fun q hq=>(Qf.mp hq).elim (fun hq=>(List.pairwise_append.mp h).2.2 q hq p (List.mem_singleton.mpr rfl)) fun e=>by rw[Qe.mp e];exact KeyOrd.kle_refl _
theorem Rn.has{rs:List (List Keyed)}{rest:List Keyed}(R:Rn κ k0 a₀ st rs rest)(hk:PyProof.Rows.KeysOf κ a₀){p:Keyed}(h:p∈(arrOf st).toList):Has κ p:=hk p ((Array.perm_iff_toList_perm.mp R.perm).mem_iff.mp h)
theorem Rn.up{l:List (List Keyed)}{x y:List Keyed}{m:List (List Keyed)}{rest:List Keyed}(R:Rn κ k0 a₀ st (l++x::y::m) rest){st':SortSt}{z:List Keyed}(hk:kindOf st'=k0)(hf:failedOf st'=none)(ha:(arrOf st').toList=l.flatten++z++(m.flatten++rest))(hz:z.Perm (x++y))(sz:kS κ z)
  (hp:(pendingOf st').toList.map ZaN=Zb0 0 (l++z::m)):Rn κ k0 a₀ st' (l++z::m) rest:=by
 refine⟨hk,hf,by rw[ha];simp,?_,?_,?_,hp⟩
 ·refine Array.Perm.trans ?_ R.perm
  rw[Array.perm_iff_toList_perm,ha,R.arr]
  have:(l.flatten++z++(m.flatten++rest)).Perm (l.flatten++(x++y)++(m.flatten++rest)):=QaT _ (Qae _ hz)
  simpa [List.append_assoc] using this
 ·intro r hr
  rcases Qf.mp hr with h|h
  ·exact R.srt r (Qr _ h)
  ·rcases Q6.mp h with rfl|h
   ·exact sz
   ·exact R.srt r (Qi _ (Ql _ (Ql _ h)))
 ·intro r hr
  rcases Qf.mp hr with h|h
  ·exact R.ne r (Qr _ h)
  ·rcases Q6.mp h with rfl|h
   ·intro e
    rw[e]at hz
    have e2:=hz.nil_eq
    exact R.ne x (Qi _ (Qv ..)) (List.append_eq_nil_iff.mp e2.symm).1
   ·exact R.ne r (Qi _ (Ql _ (Ql _ h)))
theorem w_at(hL:ZaD prog w A s k0 κ)(hk:PyProof.Rows.KeysOf κ a₀){l:List (List Keyed)}{x y:List Keyed}{m:List (List Keyed)}{rest:List Keyed}(R:Rn κ k0 a₀ st (l++x::y::m) rest){Q:Bool→SortSt→Prop}
  (q:∀st' z,Rn κ k0 a₀ st' (l++z::m) rest→z.length=x.length+y.length→Q true st'):wpS (model prog w) A E s (mergeAt' l.length) Q st:=by
 have hx:x≠[]:=R.ne x (Qi _ (Qv ..))
 have hy:y≠[]:=R.ne y (Qi _ (Ql _ (Qv ..)))
 have sx:kS κ x:=R.srt x (Qi _ (Qv ..))
 have sy:kS κ y:=R.srt y (Qi _ (Ql _ (Qv ..)))
 have arr:(arrOf st).toList=l.flatten++x++(y++(m.flatten++rest)):=by rw[R.arr];simp
 have arr2:(arrOf st).toList=(l.flatten++x)++y++(m.flatten++rest):=by rw[R.arr];simp
 have hasx:∀p∈x,Has κ p:=fun p hp=>R.has hk (by rw[arr];exact Qr _ (Qi _ hp))
 have hasy:∀p∈y,Has κ p:=fun p hp=>R.has hk (by rw[arr2];exact Qr _ (Qi _ hp))
 have K1:∀P g,kindOf (SortSt.mk' (kindOf st) (arrOf st) P g (failedOf st))=k0:=fun _ _=>R.kind
 have hp:=R.pend
 rw[ZbI]at hp
 obtain⟨Pl,P2,eP,h1,h2⟩:=List.map_eq_append_iff.mp hp
 obtain⟨p1,P3,rfl,h3,h4⟩:=List.map_eq_cons_iff.mp h2
 obtain⟨p2,Pm,rfl,h5,h6⟩:=List.map_eq_cons_iff.mp h4
 have lP:Pl.length=l.length:=by have:=congrArg List.length h1;rw[Qa,Zcr]at this;exact this
 obtain⟨sa,na,pw⟩:=p1
 obtain⟨sb,nb,pw2⟩:=p2
 have esa:sa=l.flatten.length:=by have:=congrArg Prod.fst h3;simpa [ZaN] using this
 have ena:na=x.length:=by have:=congrArg Prod.snd h3;simpa [ZaN] using this
 have esb:sb=l.flatten.length+x.length:=by have:=congrArg Prod.fst h5;simpa [ZaN] using this
 have enb:nb=y.length:=by have:=congrArg Prod.snd h5;simpa [ZaN] using this
 have g1:(pendingOf st)[l.length]? = some (sa,na,pw):=by rw[← QD,eP,← lP];simp
 have g2:(pendingOf st)[l.length+1]? = some (sb,nb,pw2):=by
  rw[← QD,eP,← lP,QL (by omega),show Pl.length+1-Pl.length=1 by omega];rfl
 have npend:∀z:List Keyed,z.length=x.length+y.length→(((pendingOf st).setIfInBounds l.length (sa,na+nb,pw)).eraseIdxIfInBounds (l.length+1)).toList.map ZaN=Zb0 0 (l++z::m):=fun z hz=>by
  have e:(((pendingOf st).setIfInBounds l.length (sa,na+nb,pw)).eraseIdxIfInBounds (l.length+1)).toList=Pl++(sa,na+nb,pw)::Pm:=by
   rw[Array.toList_eraseIdxIfInBounds,Array.toList_setIfInBounds,eP,← lP]
   simp[List.eraseIdx_append_of_length_le]
  rw[e,ZbI,Qg,h1,Qw,h6]
  simp only[Zb0,ZaN,hz,esa,ena,enb,Nat.zero_add,Nat.add_assoc]
 obtain⟨y0,yt,rfl⟩:∃y0 yt,y=y0::yt:=by cases y with|nil=>exact absurd rfl hy|cons a b=>exact⟨a,b,rfl⟩
 obtain⟨xt,xl,rfl⟩:∃xt xl,x=xt++[xl]:=⟨x.dropLast,x.getLast hx,(List.dropLast_concat_getLast hx).symm⟩
 show wpS _ _ _ _ (get >>= _) _ _
 refine wpS_bind (wpS_get ?_)
 simp only[g1,g2]
 refine wpS_bind ?_
 show wpS _ _ _ _ (modify fun _=>SortSt.mk' (kindOf st) (arrOf st) (((pendingOf st).setIfInBounds l.length (sa,na+nb,pw)).eraseIdxIfInBounds (l.length+1)) (gallopOf st) (failedOf st)) _ _
 refine wpS_modify ?_
 refine wpS_bind (w_elem (p:=y0) ?_ ?_)
 ·have:=ZdG arr2 (i:=0) (by simp)
  rw[esb]
  simpa using this
 refine wpS_bind ?_
 refine w_galL hL (K1 _ _) (left:=false) (hint:=0) (L:=l.flatten) (x:=xt++[xl]) (R:=y0::yt++(m.flatten++rest)) (by rw[arr]) esa ena (by rw[ena];simp) (hasy y0 (Qv ..)) hasx sx fun k hk1 k1 k2=>?_
 dsimp only
 refine w_bq (fun h=>wpS_pure ?_) fun hk2=>?_
 ·refine q _ ((xt++[xl])++(y0::yt)) (R.up R.kind R.failed (by show (arrOf st).toList=_;rw[arr];simp) (List.Perm.refl _) (ZaL sx sy fun p hp r hr=>?_) (npend _ (Qc ..))) (Qc ..)
  exact KeyOrd.kle_trans (ZhM (k1 p (by rw[QF (by omega)];exact hp))) (Zgr sy r hr)
 refine wpS_bind (w_elem (p:=xl) ?_ ?_)
 ·have:=ZdG arr (i:=xt.length) (by simp)
  simp only[List.getElem_concat_length]at this
  rw[← this]
  congr 1
  simp at ena
  omega
 refine wpS_bind ?_
 refine w_galL hL (K1 _ _) (left:=true) (hint:=nb-1) (L:=l.flatten++(xt++[xl])) (x:=y0::yt) (R:=m.flatten++rest) (by rw[arr2]) (by rw[esb];simp) enb (by rw[enb];simp) (hasx xl (Qi _ (List.mem_singleton.mpr rfl))) hasy sy fun f hf f1 f2=>?_
 dsimp only
 refine w_bq (fun h=>wpS_pure ?_) fun hf2=>?_
 ·refine q _ ((xt++[xl])++(y0::yt)) (R.up R.kind R.failed (by show (arrOf st).toList=_;rw[arr];simp) (List.Perm.refl _) (ZaL sx sy fun p hp r hr=>?_) (npend _ (Qc ..))) (Qc ..)
  subst h
  exact KeyOrd.kle_trans (Zia sx p hp) (gB_t' (f2 r hr))
 have hk3:k≤xt.length:=by simp at ena;omega
 have hf3:f≤(y0::yt).length:=by omega
 have eX:((arrOf st).extract (sa+k) sb).toList=(xt++[xl]).drop k:=Zfj (L:=l.flatten++(xt++[xl]).take k) (R:=y0::yt++(m.flatten++rest)) (by rw[arr];exact ZiT _ k _ _) (by rw[esa,Qc,QA];simp;omega) (by rw[esb];simp;omega)
 have eY:((arrOf st).extract sb (sb+f)).toList=(y0::yt).take f:=Zfj (L:=l.flatten++(xt++[xl])) (R:=(y0::yt).drop f++(m.flatten++rest)) (by rw[arr2];exact ZjK _ f _ _) (by rw[esb];simp) (by rw[esb,QA];simp at hf3 ⊢;omega)
 have memX:∀i,i<((arrOf st).extract (sa+k) sb).size→∃p∈(xt++[xl]).drop k,KK κ ((arrOf st).extract (sa+k) sb) i=kyd κ p:=fun i hi=>⟨_,by rw[← eX];exact QaL hi,Zz hi⟩
 have memY:∀i,i<((arrOf st).extract sb (sb+f)).size→∃p∈(y0::yt).take f,KK κ ((arrOf st).extract sb (sb+f)) i=kyd κ p:=fun i hi=>⟨_,by rw[← eY];exact QaL hi,Zz hi⟩
 have LP:ZbM κ ((arrOf st).extract (sa+k) sb) ((arrOf st).extract sb (sb+f)):=by
  have szX:((arrOf st).extract (sa+k) sb).size=(xt++[xl]).length-k:=by rw[← Qh,eX,QO]
  have szY:((arrOf st).extract sb (sb+f)).size=f:=by rw[← Qh,eY,QA];omega
  refine⟨by rw[eX];exact fun p hp=>hasx p (QaC hp),by rw[eY];exact fun p hp=>hasy p (QaD hp),by rw[eX];exact ZdS sx (List.drop_sublist _ _),by rw[eY];exact ZdS sy (List.take_sublist _ _),by rw[szX];simp;omega,by rw[szY];omega,fun i hi=>?_,fun i hi=>?_⟩
  ·obtain⟨p,hp,e⟩:=memX i hi
   rw[e,ZgM (show ((arrOf st).extract sb (sb+f))[0]? = some y0 by rw[← QD,eY,List.getElem?_take_of_lt (by omega)];rfl)]
   exact gB_f' (k2 p hp)
  ·obtain⟨p,hp,e⟩:=memY i hi
   rw[e,szX,ZgM (show ((arrOf st).extract (sa+k) sb)[(xt++[xl]).length-k-1]? = some xl by rw[← QD,eX,List.drop_append_of_le_length hk3,QL (by rw[QO,Qc];simp;omega),QO,Qc,show xt.length+[xl].length-k-1-(xt.length-k)=0 by simp;omega];rfl)]
   exact Zjh (f1 p hp)
 refine w_if (fun h=>wpS_bind (w_lo hL (K1 _ _) LP fun r st2 hr S2=>?_)) fun h=>wpS_bind (w_hi hL (K1 _ _) LP fun r st2 hr S2=>?_)
 all_goals
  refine wpS_bind (wpS_modify ?_)
  refine wpS_bind (wpS_get ?_)
  have eF:failedOf st2=none:=S2.2.2.2.trans R.failed
  show wpS _ _ _ _ (pure (failedOf st2).isNone) _ _
  rw[eF]
  obtain⟨hr1,hr2⟩:=hr
  rw[eX,eY]at hr1
  have lr:r.toList.length=((xt++[xl]).drop k++(y0::yt).take f).length:=hr1.length_eq
  have pz:((xt++[xl]).take k++r.toList++(y0::yt).drop f).Perm ((xt++[xl])++(y0::yt)):=by
   have p1:=QaT ((y0::yt).drop f) (Qae ((xt++[xl]).take k) hr1)
   rw[Zjo]at p1
   exact p1
  refine wpS_pure (q _ ((xt++[xl]).take k++r.toList++(y0::yt).drop f) (R.up (S2.1.trans R.kind) eF ?_ pz ?_ ?_) (by rw[pz.length_eq,Qc]))
  ·have pb:=Zex (sa:=sa+k) (R:=(y0::yt).drop f++(m.flatten++rest)) r.toList ((xt++[xl]).drop k++(y0::yt).take f) (l.flatten++(xt++[xl]).take k) 0 (arrOf st2) (by
    rw[S2.2.1]
    show (arrOf st).toList=_
    rw[arr]
    exact ZjH _ k f _ _ _) (by rw[esa,Qc,QA];simp;omega) lr.symm
   refine Eq.trans pb ?_
   simp
  ·refine ZaL (ZaL (ZdS sx (List.take_sublist _ _)) hr2 fun p hp z hz=>?_) (ZdS sy (List.drop_sublist _ _)) (ZbL (fun p hp z hz=>?_) fun p hp z hz=>?_)
   ·rcases Qf.mp (hr1.mem_iff.mp hz) with hz|hz
    ·exact KeyOrd.kle_trans (ZhM (k1 p hp)) (gB_f' (k2 z hz))
    ·exact KeyOrd.kle_trans (ZhM (k1 p hp)) (Zgr sy z (QaD hz))
   ·exact KeyOrd.kle_trans (ZhM (k1 p hp)) (Zgr sy z (QaC hz))
   ·rcases Qf.mp (hr1.mem_iff.mp hp) with hp|hp
    ·exact KeyOrd.kle_trans (Zia sx p (QaC hp)) (gB_t' (f2 z hz))
    ·exact KeyOrd.kle_trans (Zjh (f1 p hp)) (gB_t' (f2 z hz))
  ·show (pendingOf st2).toList.map ZaN=_
   rw[S2.2.2.1]
   exact npend _ (by rw[pz.length_eq,Qc])
end
section
variable {prog:Program} {w:World} {A:Around} {E:Value→Shared→Prop} {s:Shared} {κ:PyProof.Rows.KeyKind} {k0:SortKind} {st st0:SortSt} {a₀:Array Keyed} {α:Type} {lo:Nat}
theorem w_jp0{c:Prop}[Decidable c]{X J:StateT SortSt Sem α}{Q:α→SortSt→Prop}(P:SortSt→Prop)(H:∀st',P st'→wpS (model prog w) A E s J Q st')(hX:(∀st',P st'→wpS (model prog w) A E s J Q st')→c→wpS (model prog w) A E s X Q st)(hY:¬ c→P st):wpS (model prog w) A E s (if c then X else J) Q st:=by
 by_cases h:c
 ·rw[if_pos h];exact hX H h
 ·rw[if_neg h];exact H st (hY h)
structure Ph (k0:SortKind) (a₀:Array Keyed) (lo:Nat) (st0 st:SortSt):Prop where
 kind:kindOf st=k0
 failed:failedOf st=none
 pend:pendingOf st=pendingOf st0
 perm:(arrOf st).Perm a₀
 pre:∀k,k<lo→(arrOf st)[k]? = (arrOf st0)[k]?
def SgK(κ:PyProof.Rows.KeyKind)(xs:Array Keyed)(lo n:Nat):Prop:=∀i j,lo≤i→i≤j→j<lo+n→κ.kle (KK κ xs i) (KK κ xs j)
def NiK(κ:PyProof.Rows.KeyKind)(xs:Array Keyed)(lo n:Nat):Prop:=∀i j,lo≤i→i≤j→j<lo+n→κ.kle (KK κ xs j) (KK κ xs i)
theorem Ph.size(B:Ph k0 a₀ lo st0 st):(arrOf st).size=a₀.size:=B.perm.size_eq
theorem Ph.rev(B:Ph k0 a₀ lo st0 st){i j:Nat}(hi:lo≤i)(hj:j≤a₀.size):Ph k0 a₀ lo st0 (setArr st (mirror (arrOf st) i j ((j-i) / 2))) :=
 ⟨B.kind,B.failed,B.pend,(mirror_perm _ _ _ _).trans B.perm,fun k hk=>by
  show (mirror (arrOf st) i j ((j-i) / 2))[k]? = _
  rw[getElem?_mirror_all (by rw[B.size];exact hj),if_neg (by omega)]
  exact B.pre k hk⟩
theorem Ph.dn(B:Ph k0 a₀ lo st0 st){src d:Nat}(hs:src<a₀.size)(hd:d≤src)(hi:lo≤src-d):Ph k0 a₀ lo st0 (setArr st (bubble (arrOf st) src d)) :=
 ⟨B.kind,B.failed,B.pend,(bubble_perm _ _ _).trans B.perm,fun k hk=>by
  show (bubble (arrOf st) src d)[k]? = _
  rw[getElem?_bubble (by rw[B.size];exact hs) d hd,if_neg (by omega),if_neg (by omega)]
  exact B.pre k hk⟩
theorem w_ltA(hL:ZaD prog w A s k0 κ)(hk:PyProof.Rows.KeysOf κ a₀)(B:Ph k0 a₀ lo st0 st){i j:Nat}(hi:i<a₀.size)(hj:j<a₀.size){Q:Option Bool→SortSt→Prop}(q:Q (some (κ.blt (KK κ (arrOf st) i) (KK κ (arrOf st) j))) st):wpS (model prog w) A E s (ltAt' i j) Q st:=by
 have hi':i<(arrOf st).size:=by rw[B.size];exact hi
 have hj':j<(arrOf st).size:=by rw[B.size];exact hj
 have has:∀n (h:n<(arrOf st).size),Has κ (arrOf st)[n]:=fun n h=>hk _ ((Array.perm_iff_toList_perm.mp B.perm).mem_iff.mp (QaL h))
 rw[ltAt'_eq]
 refine wpS_bind (wpS_get ?_)
 refine wpS_bind (w_elem (ZC hi') (wpS_bind (w_elem (ZC hj') ?_)))
 refine w_ltp hL B.kind (has i hi') (has j hj') ?_
 rw[← Zz hi',← Zz hj']
 exact q
theorem SgK.succ{xs:Array Keyed}{i:Nat}(h0:1≤i)(S:SgK κ xs lo i)(h:κ.kle (KK κ xs (lo+i-1)) (KK κ xs (lo+i))):SgK κ xs lo (i+1):=by
 intro a b ha hab hb
 by_cases e:b<lo+i
 ·exact S a b ha hab e
 ·have eb:b=lo+i:=by omega
  subst eb
  by_cases ea:a=lo+i
  ·subst ea;exact KeyOrd.kle_refl _
  ·exact KeyOrd.kle_trans (S a (lo+i-1) ha (by omega) (by omega)) h
theorem NiK.succ{xs:Array Keyed}{i:Nat}(h0:1≤i)(S:NiK κ xs lo i)(h:κ.kle (KK κ xs (lo+i)) (KK κ xs (lo+i-1))):NiK κ xs lo (i+1):=by
 intro a b ha hab hb
 by_cases e:b<lo+i
 ·exact S a b ha hab e
 ·have eb:b=lo+i:=by omega
  subst eb
  by_cases ea:a=lo+i
  ·subst ea;exact KeyOrd.kle_refl _
  ·exact KeyOrd.kle_trans h (S a (lo+i-1) ha (by omega) (by omega))
theorem w_countA(hL:ZaD prog w A s k0 κ)(hk:PyProof.Rows.KeysOf κ a₀){nrem:Nat}(hn:lo+nrem≤a₀.size)(h1:1≤nrem)(B:Ph k0 a₀ lo st0 st){Q:Option Nat→SortSt→Prop}
  (q:∀ (m:Nat) (st':SortSt),Ph k0 a₀ lo st0 st'→1≤m→m≤nrem→SgK κ (arrOf st') lo m→Q (some m) st'):wpS (model prog w) A E s (countRun' lo nrem) Q st:=by
 show wpS _ _ _ _ (forIn [1:nrem] (none,1) _ >>= _) _ _
 refine wpS_bind (wpS_mono (wpS_forRange (fun i c st'=>st'=st∧c=(none,i)∧SgK κ (arrOf st) lo i)
  (Q:=fun c st'=>st'=st∧∃n,c=(none,n)∧1≤n∧n≤nrem∧SgK κ (arrOf st) lo n∧(n=nrem∨κ.klt (KK κ (arrOf st) (lo+n)) (KK κ (arrOf st) (lo+n-1)))) ?_ ?_ ⟨rfl,rfl,fun i j a b c=>by obtain rfl:i=j:=(by omega);exact KeyOrd.kle_refl _⟩) ?_)
 ·rintro i c st' hi hi2 ⟨rfl,rfl,S⟩
  dsimp only
  refine wpS_bind (w_ltA hL hk B (by omega) (by omega) ?_)
  cases hb:κ.blt (KK κ (arrOf st') (lo+i)) (KK κ (arrOf st') (lo+i-1)) with
  | true=>exact wpS_pure ⟨rfl,i,rfl,by omega,by omega,S,.inr hb⟩
  | false=>exact wpS_pure ⟨rfl,rfl,S.succ (by omega) hb⟩
 ·rintro c st' ⟨rfl,rfl,S⟩
  rw[show max 1 nrem=nrem by omega]at S ⊢
  exact⟨rfl,nrem,rfl,by omega,by omega,S,.inl rfl⟩
 rintro c st' ⟨rfl,n,rfl,n1,n2,S,hor⟩
 dsimp only
 refine w_bq (fun _=>wpS_pure (q n _ B n1 n2 S)) fun hne=>?_
 have hlt:=hor.resolve_left hne
 refine w_jp0 (fun st1=>Ph k0 a₀ lo st0 st1∧NiK κ (arrOf st1) lo (n+1)) ?_ ?_ ?_
 ·rintro st1 ⟨B1,N1⟩
  refine wpS_bind (wpS_lift (wpAny_rule ⟨rfl,?_⟩))
  refine wpS_bind (wpS_mono (wpS_forRange (fun i c st2=>∃neq,c=(none,i,neq)∧Ph k0 a₀ lo st0 st2∧NiK κ (arrOf st2) lo i∧neq+1≤i∧(∀k,lo+i-(neq+1)≤k→k<lo+i→KK κ (arrOf st2) k=KK κ (arrOf st2) (lo+i-1)))
   (Q:=fun c st2=>∃i neq,c=(none,i,neq)∧Ph k0 a₀ lo st0 st2∧n+1≤i∧i≤nrem∧NiK κ (arrOf st2) lo i∧neq+1≤i∧(∀k,lo+i-(neq+1)≤k→k<lo+i→KK κ (arrOf st2) k=KK κ (arrOf st2) (lo+i-1))) ?_ ?_ ⟨0,rfl,B1,N1,by omega,fun k k1 k2=>by rw[show k=lo+(n+1)-1 by omega]⟩) ?_)
  ·rintro i c st2 hi hi2 ⟨neq,rfl,B2,N2,q2,e2⟩
   dsimp only
   refine wpS_bind (w_ltA hL hk B2 (by omega) (by omega) ?_)
   cases hb:κ.blt (KK κ (arrOf st2) (lo+i)) (KK κ (arrOf st2) (lo+i-1)) with
   | true =>
    show wpS _ _ _ _ (if neq>0 then _ else _) _ _
    refine w_jp0 (fun st3=>Ph k0 a₀ lo st0 st3∧NiK κ (arrOf st3) lo (i+1)) ?_ (fun H h0=>?_) fun _=>⟨B2,N2.succ (by omega) (KeyOrd.kle_of_klt hb)⟩
    ·rintro st3 ⟨B3,N3⟩
     exact wpS_pure ⟨0,rfl,B3,N3,by omega,fun k k1 k2=>by rw[show k=lo+(i+1)-1 by omega]⟩
    refine wpS_bind (w_rev (H _ ⟨B2.rev (by omega) (by omega),?_⟩))
    have e:=KK_mirror_equal (κ:=κ) (xs:=arrOf st2) (i:=lo+i-(neq+1)) (j:=lo+i) (by rw[B2.size];omega) e2
    intro x y hx hxy hy
    show κ.kle (KK κ (mirror _ _ _ _) y) (KK κ (mirror _ _ _ _) x)
    rw[e x,e y]
    exact N2.succ (by omega) (KeyOrd.kle_of_klt hb) x y hx hxy hy
   | false =>
    refine wpS_bind (w_ltA hL hk B2 (by omega) (by omega) ?_)
    cases hb2:κ.blt (KK κ (arrOf st2) (lo+i-1)) (KK κ (arrOf st2) (lo+i)) with
    | true=>exact wpS_pure ⟨i,neq,rfl,B2,by omega,by omega,N2,q2,e2⟩
    | false =>
     have ee:=κ.total _ _ hb hb2
     refine wpS_pure ⟨neq+1,rfl,B2,N2.succ (by omega) hb2,by omega,fun k k1 k2=>?_⟩
     rw[show lo+(i+1)-1=lo+i by omega,ee]
     by_cases hki:k=lo+i
     ·rw[hki,ee]
     ·exact e2 k (by omega) (by omega)
  ·rintro c st2 ⟨neq,rfl,B2,N2,q2,e2⟩
   rw[show max (n+1) nrem=nrem by omega]at *
   exact⟨nrem,neq,rfl,B2,by omega,by omega,N2,q2,e2⟩
  rintro c st2 ⟨i,neq,rfl,B2,i1,i2,N2,q2,e2⟩
  dsimp only
  refine w_jp0 (fun st3=>Ph k0 a₀ lo st0 st3∧NiK κ (arrOf st3) lo i) (fun st3 h3=>?_) (fun H h0=>?_) fun _=>⟨B2,N2⟩
  ·obtain⟨B3,N3⟩:=h3
   refine wpS_bind (w_rev ?_)
   have B4:=B3.rev (i:=lo) (j:=lo+i) (Qj _) (by omega)
   have e:=KK_mirror (κ:=κ) (xs:=arrOf st3) (i:=lo) (j:=lo+i) (by rw[B3.size];omega)
   have S4:SgK κ (mirror (arrOf st3) lo (lo+i) ((lo+i-lo) / 2)) lo i:=fun x y hx hxy hy=>by
    rw[e x,e y,if_pos ⟨by omega,by omega⟩,if_pos ⟨by omega,by omega⟩]
    exact N3 _ _ (by omega) (by omega) (by omega)
   refine wpS_bind (wpS_mono (wpS_forRange (fun j c st5=>st5=(setArr st3 (mirror (arrOf st3) lo (lo+i) ((lo+i-lo) / 2)))∧c=(none,j)∧SgK κ (mirror (arrOf st3) lo (lo+i) ((lo+i-lo) / 2)) lo j)
    (Q:=fun c st5=>st5=(setArr st3 (mirror (arrOf st3) lo (lo+i) ((lo+i-lo) / 2)))∧∃n,c=(none,n)∧1≤n∧n≤nrem∧SgK κ (mirror (arrOf st3) lo (lo+i) ((lo+i-lo) / 2)) lo n) ?_ ?_ ⟨rfl,rfl,S4⟩) ?_)
   ·rintro j c st5 hj hj2 ⟨rfl,rfl,S5⟩
    dsimp only
    refine wpS_bind (w_ltA hL hk B4 (by omega) (by omega) ?_)
    cases hb:κ.blt (KK κ (mirror (arrOf st3) lo (lo+i) ((lo+i-lo) / 2)) (lo+j)) (KK κ (mirror (arrOf st3) lo (lo+i) ((lo+i-lo) / 2)) (lo+j-1)) with
    | true=>exact wpS_pure ⟨rfl,j,rfl,by omega,by omega,S5⟩
    | false=>exact wpS_pure ⟨rfl,rfl,S5.succ (by omega) hb⟩
   ·rintro c st5 ⟨rfl,rfl,S5⟩
    rw[show max i nrem=nrem by omega]at S5 ⊢
    exact⟨rfl,nrem,rfl,by omega,by omega,S5⟩
   ·rintro c st5 ⟨rfl,m,rfl,m1,m2,S5⟩
    exact wpS_pure (q m _ B4 m1 m2 S5)
  ·refine wpS_bind (w_rev (H _ ⟨B2.rev (by omega) (by omega),?_⟩))
   have e:=KK_mirror_equal (κ:=κ) (xs:=arrOf st2) (i:=lo+i-(neq+1)) (j:=lo+i) (by rw[B2.size];omega) e2
   intro x y hx hxy hy
   show κ.kle (KK κ (mirror _ _ _ _) y) (KK κ (mirror _ _ _ _) x)
   rw[e x,e y]
   exact N2 x y hx hxy hy
 ·intro H h0
  refine wpS_bind (w_ltA hL hk B (by omega) (by omega) ?_)
  cases hb:κ.blt (KK κ (arrOf st') lo) (KK κ (arrOf st') (lo+n-1)) with
  | true=>exact wpS_pure (q n _ B n1 n2 S)
  | false =>
   have hf:∀k,lo≤k→k<lo+n→KK κ (arrOf st') k=KK κ (arrOf st') (lo+n-1):=fun k k1 k2 =>
    KeyOrd.kle_antisymm (S k (lo+n-1) k1 (by omega) (by omega)) (KeyOrd.kle_trans (show κ.kle (KK κ (arrOf st') (lo+n-1)) (KK κ (arrOf st') lo) from hb) (S lo k (by omega) k1 k2))
   refine wpS_bind (w_rev (H _ ⟨B.rev (Qj _) (by omega),?_⟩))
   have e:=KK_mirror_equal (κ:=κ) (xs:=arrOf st') (i:=lo) (j:=lo+n) (by rw[B.size];omega) hf
   intro x y hx hxy hy
   show κ.kle (KK κ (mirror _ _ _ _) y) (KK κ (mirror _ _ _ _) x)
   rw[e x,e y]
   refine NiK.succ n1 (fun a b ha hab hb=>?_) (KeyOrd.kle_of_klt hlt) x y hx hxy hy
   rw[hf a ha (by omega),hf b (by omega) hb]
   exact KeyOrd.kle_refl _
 ·intro h0
  refine⟨B,NiK.succ n1 (fun a b ha hab hb=>?_) (KeyOrd.kle_of_klt hlt)⟩
  obtain rfl:a=b:=by omega
  exact KeyOrd.kle_refl _
theorem w_binA(hL:ZaD prog w A s k0 κ)(hk:PyProof.Rows.KeysOf κ a₀){n ok:Nat}(hn:lo+n≤a₀.size)(h1:ok≤n)(h0:1≤ok)(B:Ph k0 a₀ lo st0 st)(S:SgK κ (arrOf st) lo ok){Q:Bool→SortSt→Prop}
  (q:∀ (st':SortSt),Ph k0 a₀ lo st0 st'→SgK κ (arrOf st') lo n→Q true st'):wpS (model prog w) A E s (binarySort' lo n ok) Q st:=by
 rw[binarySort'_eq]
 refine wpS_bind ?_
 refine wpS_forRange (fun i c st'=>c=(none,())∧Ph k0 a₀ lo st0 st'∧SgK κ (arrOf st') lo i) ?_ ?_ ⟨rfl,B,by rw[show max ok 1=ok by omega];exact S⟩
 ·rintro k c st' hak hkn ⟨rfl,B',S'⟩
  refine wpS_bind (wpS_mono (wpS_forRange (fun i c st2=>∃l r,c=(none,l,r)∧st2=st'∧l≤r∧r≤k∧r-l≤k-i∧(∀j,j<l→κ.kle (KK κ (arrOf st') (lo+j)) (KK κ (arrOf st') (lo+k)))∧(∀j,r≤j→j<k→κ.klt (KK κ (arrOf st') (lo+k)) (KK κ (arrOf st') (lo+j))))
   (Q:=fun c st2=>∃l,c=(none,l,l)∧st2=st'∧l≤k∧(∀j,j<l→κ.kle (KK κ (arrOf st') (lo+j)) (KK κ (arrOf st') (lo+k)))∧(∀j,l≤j→j<k→κ.klt (KK κ (arrOf st') (lo+k)) (KK κ (arrOf st') (lo+j)))) ?_ ?_ ⟨0,k,rfl,rfl,Qx _,Qj _,by omega,fun j h=>by omega,fun j h1 h2=>by omega⟩) ?_)
  ·rintro i c st2 hi0 hik ⟨l,r,rfl,rfl,hlr,hrk,hm,hlo,hhi⟩
   dsimp only
   refine w_if (fun hge=>?_) fun hge=>?_
   ·obtain rfl:l=r:=by omega
    exact wpS_pure ⟨l,rfl,rfl,hrk,hlo,hhi⟩
   ·refine wpS_bind (w_ltA hL hk B' (by omega) (by omega) ?_)
    cases hb:κ.blt (KK κ (arrOf st2) (lo+k)) (KK κ (arrOf st2) (lo+(l+r) / 2)) with
    | true=>exact wpS_pure ⟨l,(l+r) / 2,rfl,rfl,by omega,by omega,by omega,hlo,fun j j1 j2=>KeyOrd.klt_of_klt_of_kle hb (S' _ (lo+j) (by omega) (by omega) (by omega))⟩
    | false=>exact wpS_pure ⟨(l+r) / 2+1,r,rfl,rfl,by omega,by omega,by omega,fun j h=>KeyOrd.kle_trans (S' (lo+j) (lo+(l+r) / 2) (by omega) (by omega) (by omega)) hb,hhi⟩
  ·rintro c st2 ⟨l,r,rfl,rfl,hlr,hrk,hm,hlo,hhi⟩
   obtain rfl:l=r:=by omega
   exact⟨l,rfl,rfl,hrk,hlo,hhi⟩
  ·rintro c st2 ⟨l,rfl,rfl,hlk,hlo,hhi⟩
   refine wpS_bind ?_
   rw[moveDown'_eq]
   refine wpS_modify (wpS_pure ⟨rfl,B'.dn (by omega) (by omega) (by omega),?_⟩)
   have eb:=KK_bubble (κ:=κ) (xs:=arrOf st2) (src:=lo+k) (d:=lo+k-(lo+l)) (by rw[B'.size];omega) (by omega)
   have lo':∀j,lo≤j→j<lo+l→κ.kle (KK κ (arrOf st2) j) (KK κ (arrOf st2) (lo+k)):=fun j j1 j2=>by
    have:=hlo (j-lo) (by omega)
    rwa [show lo+(j-lo)=j by omega]at this
   have hi':∀j,lo+l≤j→j<lo+k→κ.klt (KK κ (arrOf st2) (lo+k)) (KK κ (arrOf st2) j):=fun j j1 j2=>by
    have:=hhi (j-lo) (by omega) (by omega)
    rwa [show lo+(j-lo)=j by omega]at this
   intro x y hx hxy hy
   show κ.kle (KK κ (bubble (arrOf st2) (lo+k) (lo+k-(lo+l))) x) (KK κ (bubble (arrOf st2) (lo+k) (lo+k-(lo+l))) y)
   rw[eb x,eb y,show lo+k-(lo+k-(lo+l))=lo+l by omega]
   repeat' split
   all_goals first
    | (exfalso;omega)
    | exact KeyOrd.kle_refl _
    | exact lo' _ (by omega) (by omega)
    | exact KeyOrd.kle_of_klt (hi' _ (by omega) (by omega))
    | exact S' _ _ (by omega) (by omega) (by omega)
 ·rintro c st' ⟨rfl,B',S'⟩
  rw[show max (max ok 1) n=n by omega]at S'
  exact wpS_pure (q st' B' S')
end
section
variable {prog:Program} {w:World} {A:Around} {E:Value→Shared→Prop} {s:Shared} {κ:PyProof.Rows.KeyKind} {k0:SortKind} {st st0:SortSt} {a₀:Array Keyed} {lo:Nat} {rs:List (List Keyed)} {rest:List Keyed}
theorem Ph.runs(R:Rn κ k0 a₀ st0 rs rest)(B:Ph k0 a₀ lo st0 st)(hlo:lo=rs.flatten.length):Rn κ k0 a₀ st rs ((arrOf st).toList.drop lo):=by
 refine⟨B.kind,B.failed,?_,B.perm,R.srt,R.ne,by rw[B.pend];exact R.pend⟩
 have e:(arrOf st).toList.take lo=rs.flatten:=by
  have e0:(arrOf st0).toList.take lo=rs.flatten:=by rw[R.arr,hlo,List.take_left]
  rw[← e0]
  apply List.ext_getElem?
  intro k
  rw[List.getElem?_take,List.getElem?_take]
  split
  ·rename_i h
   rw[QD,QD,B.pre k h]
  ·rfl
 rw[← e,QZ]
theorem SgK.list{xs:Array Keyed}{n:Nat}(S:SgK κ xs lo n):kS κ ((xs.toList.drop lo).take n):=by
 refine List.pairwise_iff_getElem.mpr fun i j hi hj hij=>?_
 rw[QA,QO,Qh]at hi hj
 have:=S (lo+i) (lo+j) (by omega) (by omega) (by omega)
 rw[Zz (show lo+i<xs.size by omega),Zz (show lo+j<xs.size by omega)]at this
 rw[Qaz,Qay,Qaz,Qay,QT,QT]
 exact this
theorem Rn.push(R:Rn κ k0 a₀ st rs rest){n:Nat}(h:kS κ (rest.take n))(h1:1≤n)(h2:n≤rest.length){st':SortSt}(hk:kindOf st'=kindOf st)(hf:failedOf st'=failedOf st)(ha:arrOf st'=arrOf st)(hp:(pendingOf st').toList.map ZaN=(pendingOf st).toList.map ZaN++[(rs.flatten.length,n)]):Rn κ k0 a₀ st' (rs++[rest.take n]) (rest.drop n):=by
 refine⟨hk.trans R.kind,hf.trans R.failed,by rw[ha,R.arr];simp,by rw[ha];exact R.perm,fun r hr=>?_,fun r hr=>?_,?_⟩
 ·rcases Qf.mp hr with hr|hr
  ·exact R.srt r hr
  ·rw[Qe.mp hr];exact h
 ·rcases Qf.mp hr with hr|hr
  ·exact R.ne r hr
  ·rw[Qe.mp hr]
   intro e
   have:=congrArg List.length e
   rw[QA,List.length_nil]at this
   omega
 ·rw[hp,R.pend,ZbI]
  simp[Zb0,List.length_take,Nat.min_eq_left h2]
theorem Rn.len(R:Rn κ k0 a₀ st rs rest):(pendingOf st).size=rs.length:=by
 have:=congrArg List.length R.pend
 rw[Qa,Zcr,Qh]at this
 exact this
theorem ZfT:∀ (rs:List (List Keyed)) (i:Nat),i+1<rs.length→∃l x y m,rs=l++x::y::m∧l.length=i
 | x::y::m,0,_=>⟨[],x,y,m,rfl,rfl⟩
 | x::r,i+1,h=>by
  obtain⟨l,a,b,m,e,hl⟩:=ZfT r i (by simp at h;omega)
  exact⟨x::l,a,b,m,by rw[e];rfl,by rw[QP,hl]⟩
theorem Ze8:∀ (rs:List (List Keyed)),(∀r∈rs,r≠[])→rs.length≤rs.flatten.length
 | [],_=>Qj _
 | r::rs,h=>by
  have:=Ze8 rs fun x hx=>h x (Ql _ hx)
  have h0:r.length≠0:=fun e=>h r (Qv ..) (Qt e)
  rw[Qah,Qc,QP]
  omega
theorem w_atJ(hL:ZaD prog w A s k0 κ)(hk:PyProof.Rows.KeysOf κ a₀)(R:Rn κ k0 a₀ st rs rest){j:Nat}{Q:Bool→SortSt→Prop}(q:∀st' rs',Rn κ k0 a₀ st' rs' rest→rs'.flatten.length=rs.flatten.length→rs'.length+1=rs.length→Q true st')(hj:j+1<rs.length):wpS (model prog w) A E s (mergeAt' j) Q st:=by
 obtain⟨l,a,b,m,rfl,rfl⟩:=ZfT rs j hj
 refine w_at hL hk R fun st3 z R3 hz=>q st3 _ R3 ?_ (by rw[Qc,Qc];rfl)
 rw[Qac,Qc,Qac,Qc,Qah,Qc,Qah,Qc,Qah,Qc]
 omega
theorem Rn.total(R:Rn κ k0 a₀ st rs rest):rs.flatten.length+rest.length=a₀.size:=by
 rw[← R.perm.size_eq,← Qh,R.arr,Qc]
theorem Zgo(l:List (Nat×Nat×Nat))(i:Nat){f:Nat×Nat×Nat→Nat×Nat×Nat}(h:∀x,ZaN (f x)=ZaN x):(l.modify i f).map ZaN=l.map ZaN:=by
 apply List.ext_getElem?
 intro j
 rw[Qn,Qn,List.getElem?_modify]
 cases l[j]? with
 | none=>rfl
 | some x =>
  show some (ZaN (if i=j then f x else x))=some (ZaN x)
  split
  ·rw[h]
  ·rfl
theorem w_jpS{α β:Type}{c:β→Prop}[∀i,Decidable (c i)]{y:β}{X Y:β→StateT SortSt Sem α}{Q:α→SortSt→Prop}(P:β→SortSt→Prop)(H:∀i st',P i st'→wpS (model prog w) A E s (Y i) Q st')(hX:(∀i st',P i st'→wpS (model prog w) A E s (Y i) Q st')→c y→wpS (model prog w) A E s (X y) Q st)(hY:¬ c y→P y st):∀i,y=i→wpS (model prog w) A E s (if c i then X i else Y i) Q st:=by
 rintro _ rfl
 by_cases h:c y
 ·rw[if_pos h];exact hX H h
 ·rw[if_neg h];exact H y st (hY h)
theorem w_runsA(hL:ZaD prog w A s k0 κ)(hk:PyProof.Rows.KeysOf κ a₀)(B:SB k0 a₀ st){Q:Unit→SortSt→Prop}
  (q:∀ (st':SortSt),(arrOf st').Perm a₀→failedOf st'=none→SortedToK κ (arrOf st') a₀.size→Q () st'):wpS (model prog w) A E s sortRuns' Q st:=by
 show wpS _ _ _ _ (get >>= _) _ _
 refine wpS_bind (wpS_get ?_)
 have hsz:(arrOf st).size=a₀.size:=B.size
 have R0:Rn κ k0 a₀ st [] (arrOf st).toList:=⟨B.kind,B.failed,rfl,B.perm,(fun r hr=>by cases hr),(fun r hr=>by cases hr),by rw[B.pend];rfl⟩
 show wpS _ _ _ _ (forIn [:(arrOf st).size] (none,0) _ >>= _) _ _
 generalize minRun' (arrOf st).size (arrOf st).size 0=mr
 rw[hsz]
 refine wpS_bind (wpS_mono (wpS_forRange (fun x c st1=>∃rs rest,c=(none,rs.flatten.length)∧Rn κ k0 a₀ st1 rs rest∧x≤rs.flatten.length) (Q:=fun c st1=>∃rs n,c=(none,n)∧Rn κ k0 a₀ st1 rs []) ?_ ?_ ⟨[],_,rfl,R0,Qj _⟩) ?_)
 ·rintro x c st1 _ hx ⟨rs,rest,rfl,R1,x1⟩
  have T1:=R1.total
  dsimp only
  refine w_if (fun hge=>?_) fun hge=>?_
  ·have:rest=[]:=Qt (by omega)
   subst this
   exact wpS_pure ⟨rs,_,rfl,R1⟩
  have B1:Ph k0 a₀ rs.flatten.length st1 st1:=⟨R1.kind,R1.failed,rfl,R1.perm,fun _ _=>rfl⟩
  refine wpS_bind (w_countA hL hk (by omega) (by omega) B1 fun n st2 B2 n1 n2 S2=>?_)
  dsimp only
  have key:∀ (n:Nat) (st3:SortSt),Ph k0 a₀ rs.flatten.length st1 st3→1≤n→n≤a₀.size-rs.flatten.length→SgK κ (arrOf st3) rs.flatten.length n→∃rest,Rn κ k0 a₀ st3 rs rest∧kS κ (rest.take n)∧1≤n∧n≤rest.length:=fun n st3 B3 m1 m2 S3=>by
   have R3:=Ph.runs R1 B3 rfl
   refine⟨_,R3,S3.list,m1,?_⟩
   have:=R3.total
   omega
  generalize hn:n=n'
  revert n' hn
  refine w_jpS (fun n st3=>∃rest,Rn κ k0 a₀ st3 rs rest∧kS κ (rest.take n)∧1≤n∧n≤rest.length) ?_ ?_ fun _=>key n st2 B2 n1 n2 S2
  ·rintro n st3 ⟨rest,R3,s3,l1,l2⟩
   have fin:∀ (rs':List (List Keyed)) (st5 st6:SortSt),Rn κ k0 a₀ st5 rs' rest→rs'.flatten.length=rs.flatten.length→kindOf st6=kindOf st5→failedOf st6=failedOf st5→arrOf st6=arrOf st5→(pendingOf st6).toList.map ZaN=(pendingOf st5).toList.map ZaN++[(rs.flatten.length,n)]→∃rs rest,Rn κ k0 a₀ st6 rs rest∧x+1≤rs.flatten.length∧(none,rs'.flatten.length+n)=((none:Option Unit),rs.flatten.length):=fun rs' st5 st6 R5 e5 a1 a2 a3 a4=>by
    refine⟨_,_,R5.push s3 l1 l2 a1 a2 a3 (by rw[a4,e5]),?_,?_⟩
    ·rw[Qac,Qc,Qah,List.flatten_nil,Q3,e5,QA]
     omega
    ·rw[Qac,Qc,Qah,List.flatten_nil,Q3,QA,Nat.min_eq_left l2]
   refine wpS_bind (wpS_get ?_)
   show wpS _ _ _ _ (match (pendingOf st3).back? with|some (s1,n1,snd)=>_|x=>_) _ _
   rcases hb:(pendingOf st3).back? with _|⟨s1,n1,p1⟩
   ·dsimp only
    refine wpS_bind (wpS_modify (wpS_pure ?_))
    obtain⟨rs2,rest2,R6,h6,e6⟩:=fin rs st3 (setPending st3 ((pendingOf st3).push (rs.flatten.length,n,0))) R3 rfl rfl rfl rfl (by show ((pendingOf st3).push _).toList.map ZaN=_;rw[Qab,Qg];rfl)
    exact⟨rs2,rest2,e6,R6,h6⟩
   ·dsimp only
    refine wpS_bind (wpS_mono (wpS_forRange (fun _ c st4=>∃rs',c=(none,())∧Rn κ k0 a₀ st4 rs' rest∧rs'.flatten.length=rs.flatten.length) (Q:=fun c st4=>∃rs',c=(none,())∧Rn κ k0 a₀ st4 rs' rest∧rs'.flatten.length=rs.flatten.length) ?_ (fun c st4 h=>h) ⟨rs,rfl,R3,rfl⟩) ?_)
    ·rintro y c st4 _ hy ⟨rs',rfl,R4,e4⟩
     refine wpS_bind (wpS_get ?_)
     show wpS _ _ _ _ (match (if (pendingOf st4).size>1 then (pendingOf st4)[(pendingOf st4).size-2]? else none) with|some (fst,fst_1,older)=>_|x=>_) _ _
     by_cases hs:(pendingOf st4).size>1
     ·rw[if_pos hs]
      rcases hp:(pendingOf st4)[(pendingOf st4).size-2]? with _|⟨u,v,older⟩
      ·exact wpS_pure ⟨rs',rfl,R4,e4⟩
      ·refine w_if (fun _=>wpS_pure ⟨rs',rfl,R4,e4⟩) fun _=>?_
       exact wpS_bind (w_atJ hL hk R4 (fun st5 rs5 R5 e5 _=>wpS_pure ⟨_,rfl,R5,e5.trans e4⟩) (by rw[R4.len]at *;omega))
     ·rw[if_neg hs]
      exact wpS_pure ⟨rs',rfl,R4,e4⟩
    ·rintro c st4 ⟨rs',rfl,R4,e4⟩
     dsimp only
     refine wpS_bind (wpS_modify ?_)
     refine wpS_bind (wpS_modify (wpS_pure ?_))
     obtain⟨rs2,rest2,R6,h6,e6⟩:=fin rs' st4 (SortSt.mk' (kindOf st4) (arrOf st4) (((pendingOf st4).modify ((pendingOf st4).size-1) fun x=>(x.1,x.2.1,power' a₀.size (2*s1+n1) (2*s1+n1+n1+n) a₀.size)).push (rs.flatten.length,n,0)) (gallopOf st4) (failedOf st4)) R4 e4 rfl rfl rfl (by
      show (Array.push _ _).toList.map ZaN=_
      rw[Qab,Qg,Array.toList_modify,Zgo]
      ·rfl
      ·exact fun _=>rfl)
     rw[e4]at e6
     exact⟨rs2,rest2,e6,R6,h6⟩
  ·intro H hlt
   refine wpS_bind (wpS_lift (wpAny_rule ⟨rfl,?_⟩))
   refine wpS_bind (w_binA hL hk (by omega) (by omega) n1 B2 S2 fun st3 B3 S3=>?_)
   exact H _ _ (key _ st3 B3 (by omega) (by omega) S3)
 ·rintro c st1 ⟨rs,rest,rfl,R1,x1⟩
  have T1:=R1.total
  have:rest=[]:=Qt (by omega)
  subst this
  exact⟨rs,_,rfl,R1⟩
 rintro c st1 ⟨rs,n,rfl,R1⟩
 dsimp only
 have T1:rs.flatten.length=a₀.size:=by have:=R1.total;simpa using this
 have L1:=Ze8 rs R1.ne
 refine wpS_bind (wpS_mono (wpS_forRange (fun x c st2=>∃rs,c=(none,())∧Rn κ k0 a₀ st2 rs []∧rs.length≤max 1 (a₀.size-x)) (Q:=fun c st2=>∃rs,c=(none,())∧Rn κ k0 a₀ st2 rs []∧rs.length≤1) ?_ ?_ ⟨rs,rfl,R1,by omega⟩) ?_)
 ·rintro x c st2 _ hx ⟨rs,rfl,R2,h2⟩
  refine wpS_bind (wpS_get ?_)
  have l2:=R2.len
  refine w_if (fun h=>wpS_pure ⟨rs,rfl,R2,by rw[← l2];exact h⟩) fun h=>?_
  have h':¬ (pendingOf st2).size≤1:=h
  refine wpS_bind (w_atJ hL hk R2 (fun st3 rs3 R3 _ e3=>wpS_pure ⟨_,rfl,R3,by omega⟩) ?_)
  have hj:∀ (c:Prop) [Decidable c],(if c then (pendingOf st2).size-2-1 else (pendingOf st2).size-2)+1<rs.length:=fun c _=>by split<;>omega
  exact hj _
 ·rintro c st2 ⟨rs,rfl,R2,h2⟩
  exact⟨rs,rfl,R2,by omega⟩
 ·rintro c st2 ⟨rs,rfl,R2,h2⟩
  refine wpS_pure (q _ R2.perm R2.failed ?_)
  rw[← R2.perm.size_eq]
  refine Zcs ?_
  rw[R2.arr]
  cases rs with
  | nil=>exact List.Pairwise.nil
  | cons r t =>
   have:t=[]:=Qt (by rw[QP]at h2;omega)
   subst this
   simpa using R2.srt r (Qv ..)
end
section
variable {prog:Program} {w:World} {A:Around} {E:Value→Shared→Prop} {s:Shared} {κ:PyProof.Rows.KeyKind}
theorem w_sortA{a:Addr}{vs:List Value}{n:Nat}{P:PySem.Fin→Shared→Prop}(ha:s.heap.get? a=some (seqObj "list" vs.toArray n))(hk:PyProof.Rows.KeysOf κ (pairsOf vs))(h2:2≤vs.length)(hz:vs.length≤sizeLine)
  (hK:∀ (s':Shared),(∀b o,b≠a→s.heap.get? b=some o→s'.heap.get? b=some o)→∀ (E:Value→Shared→Prop) (Q:SortKind→Shared→Prop),(∀k0,ZaD prog w A s' k0 κ→Q k0 s')→wpAny (model prog w) A (keyKind' vs.toArray) Q E s')
  (q:∀ (st':SortSt),(arrOf st').Perm (pairsOf vs)→SortedToK κ (arrOf st') (pairsOf vs).size→P (Fin.done (Flow.ret Value.none)) { s with heap:=sortedHeap s.heap a vs ((arrOf st').map fun x=>x.snd) }) :
  wpAny (model prog w) A (Builtin.«list.sort» { pos:=[.ref a] }) P E s:=by
 rw[← Qm]at hz
 rw[list_sort_plain]
 refine wpAny_bind (ZV ha rfl ?_)
 show wpAny _ _ (updateSeq a (fun x=>#[]) >>= _) _ _ _
 refine wpAny_bind (wpAny_updateSeq ha rfl ?_ hz (by show 0≤_;omega))
 have e1:=get?_update_seq ha (fun _=>#[])
 refine wpAny_bind (seqEpoch_at e1 rfl ?_)
 refine wpAny_bind (wpAny_newTuple ?_ (by simpa using hz))
 refine wpAny_bind (wpAny_newList ?_ (by show 0≤_;omega))
 refine wpAny_holding ?_
 have hn2:¬ vs.toArray.size<2:=by rw[Qm];omega
 have hps:(pairsOf vs).size=vs.length:=by unfold pairsOf;simp
 rw[if_neg hn2,if_neg hn2]
 have keep:∀b o,b≠a→s.heap.get? b=some o→(((s.heap.update a (Obj.mapSeq fun _=>#[])).push { cls:=.type "tuple",data:=.seq vs.toArray.toList.toArray }).push { cls:=.type "list",data:=.seq ([]:List Value).toArray }).get? b=some o:=fun b o hb h =>
  Qb _ (Qb _ (QX _ (Ne.symm hb) h))
 have e2:(((s.heap.update a (Obj.mapSeq fun _=>#[])).push { cls:=.type "tuple",data:=.seq vs.toArray.toList.toArray }).push { cls:=.type "list",data:=.seq ([]:List Value).toArray }).get? a=some (seqObj "list" #[] _):=Qb _ (Qb _ e1)
 refine wpAny_bind (hK _ keep _ _ fun k0 hL=>?_)
 refine wpAny_bind ?_
 have B:SB k0 (pairsOf vs) (SortSt.mk' k0 (vs.toArray.zip vs.toArray) #[] 7 none):=⟨Array.Perm.refl _,rfl,rfl,rfl⟩
 refine thn (w_runsA (E:=E) hL hk B (Q:=fun _ st'=>(arrOf st').Perm (pairsOf vs)∧failedOf st'=none∧SortedToK κ (arrOf st') (pairsOf vs).size) (fun st' a b c=>⟨a,b,c⟩)) fun r s' hr=>?_
 obtain⟨⟨⟩,st'⟩:=r
 obtain⟨rfl,p1,p2,p3⟩:=hr
 refine wpAny_bind (seqEpoch_at e2 rfl ?_)
 have hsz:((arrOf st').map fun x=>x.snd).size=vs.length:=by rw[Array.size_map,p1.size_eq,hps]
 show wpAny _ _ (updateSeq a (fun x=>(arrOf st').map fun x=>x.snd) >>= _) _ _ _
 refine wpAny_bind (wpAny_updateSeq e2 rfl ?_ (by show 0≤_;omega) (by show ((arrOf st').map fun x=>x.snd).size≤_;rw[hsz];rw[Qm]at hz;omega))
 rw[p2]
 rw[if_neg (by simp)]
 exact wpAny_pure (q st' p1 p3)
end
end L2
set_option maxHeartbeats 4000000
namespace L2
open PySem PySem.Spec PyProof.Rows
section
variable {X:Cx}
end
section
variable {prog:Program} {w:World} {A:Around} {E:Value→Shared→Prop} {s:Shared} {a kS:Addr} {vs:List Value} {kz:List Int} {keys:Array Value} {e e1:Nat} {P:PySem.Fin→Shared→Prop}
end
variable {X:Cx}
end L2
set_option maxHeartbeats 4000000
namespace L2
open PySem PySem.Spec PyProof.Rows
section
variable {X:Cx}
end
section
variable {prog:Program} {w:World} {A:Around} {E:Value→Shared→Prop} {s:Shared} {it d:Addr} {i ep:Nat} {es:Array DictEntry} {od:Obj} {ok ov:Value}
end
end L2
set_option maxHeartbeats 4000000
namespace L2
open PySem PySem.Spec PyProof.Rows
section
variable {prog:Program} {w:World} {A:Around} {E:Value→Shared→Prop} {s:Shared}
end
section
variable {X:Cx}
end
end L2
set_option maxHeartbeats 4000000
namespace L2
open PySem PySem.Spec PyProof.Rows
section
variable {prog:Program} {w:World} {A:Around} {E:Value→Shared→Prop} {s:Shared} {it d:Addr} {i ep:Nat} {es:Array DictEntry} {od:Obj}
end
section
variable {X:Cx}
end
@[reducible] def intKd:PyProof.Rows.KeyKind where
 α:=Int
 blt a b:=decide (a<b)
 irrefl a:=by simp
 trans a b c h1 h2:=by simp only[decide_eq_true_eq]at *;omega
 negTrans a b c h:=by
  simp only[decide_eq_true_eq]at *
  omega
 total a b h1 h2:=by simp only[decide_eq_false_iff_not]at *;omega
 keyOf v:=match v with|.int x _=>some x|_=>none
 dflt:=0
def rSrtIA(K:PySem.W.Frag):List V→Hp→VK→Prop:=fun xs H Q=>∃ (p:Addr) (ns:List Int),xs=[.ref p]∧SqL K H p (ns.map V.int)∧∀ (l:Addr) (ns':List Int),H l=none→ns'.Perm ns→ns'.Pairwise (·≤·)→Q (.ref l) (upd H l (.lst (ns'.map V.int)))
end L2
set_option maxHeartbeats 4000000
namespace L2
open PySem PySem.Spec PyProof.Rows
def txt:Value→Str
 | .str x _=>x
 | _ => ""
theorem ZeF(t:SetTable)(es:Array (Int×Value))(h:Int)(x:Value):(layNew t es h x).2.1.led=t.led:=by
 unfold layNew
 cases t.freeSlot h with
 | none=>rfl
 | some q =>
  obtain⟨slot,d⟩:=q
  dsimp only
  unfold SetTable.orStandIn
  split<;>rfl
theorem ZcF(t:SetTable)(es:Array (Int×Value))(n:Nat):(relayAll t es n).2.1.led=t.led∧(t.plain=false→(relayAll t es n).2.1.plain=false):=by
 unfold relayAll
 cases hr:t.relaid (es.map (·.1)) n with
 | none=>exact⟨rfl,fun _=>rfl⟩
 | some q =>
  obtain⟨t',order⟩:=q
  have h:t'.led=t.led∧t'.plain=t.plain:=by
   unfold SetTable.relaid SetTable.laid at hr
   cases hl:SetTable.layClean (SetTable.sizeAbove n-1) (es.map (·.1)) with
   | none=>rw[hl]at hr;cases hr
   | some ow=>rw[hl]at hr;cases hr;exact⟨rfl,rfl⟩
  dsimp only
  split
  ·exact⟨h.1,fun z=>by rw[h.2];exact z⟩
  ·exact⟨rfl,fun _=>rfl⟩
section
variable {prog:Program} {w:World} {A:Around} {E:Value→Shared→Prop} {s:Shared}
def Zd7(w:World)(es:Array (Int×Value)):Prop:=∀e∈es.toList,∃x u,e.2=.str x u∧e.1=ZiR w (.inr x)
def Zbz(es:Array (Int×Value)):List Str:=es.toList.map fun e=>txt e.2
structure Zaj (w:World) (L:Bool) (T:Str→Prop) (o:Obj) (es:Array (Int×Value)) (ep:Nat) (t:SetTable):Prop where
 ex:o.ExactSet
 da:o.data=.set es ep t
 el:Zd7 w es
 nd:(Zbz es).Nodup
 me:∀x,T x↔x∈Zbz es
 sz:es.size<scanBound
 ft:t.fits es.size=true
 ld:t.led=L
 pl:es.size≠0→t.plain=false
def ZbO(w:World)(h:Heap)(a:Addr)(L:Bool)(T:Str→Prop)(n:Nat):Prop:=∃o es ep t,h.get? a=some o∧Zaj w L T o es ep t∧es.size≤n
theorem Zd7.elems{es:Array (Int×Value)}(h:Zd7 w es):ElemsOf (ZE prog w) es.toList:=fun e he=>by
 obtain⟨x,u,e1,e2⟩:=h e he
 refine⟨⟨.inr x,?_,e2⟩,by rw[e1];rfl⟩
 rw[e1]
 exact ZaO x u
theorem Zfs{es es':Array (Int×Value)}(p:es'.toList.Perm es.toList):(Zbz es').Perm (Zbz es):=p.map _
theorem Zaj.store{L:Bool}{T T':Str→Prop}{a:Addr}{o:Obj}{es es':Array (Int×Value)}{ep:Nat}{t t':SetTable}(h:Zaj w L T o es ep t)(ho:s.heap.get? a=some o)(el:Zd7 w es')(nd:(Zbz es').Nodup)(me:∀x,T' x↔x∈Zbz es')(sz:es'.size<scanBound)(ft:t'.fits es'.size=true)(ld:t'.led=L)(pl:es'.size≠0→t'.plain=false) :
  ∃o',(s.heap.update a (Obj.putSet es' t')).get? a=some o'∧Zaj w L T' o' es' (ep+1) t':=by
 have hg:=QY (Obj.putSet es' t') ho (by rw[putSet_of es' t' h.da];rfl)
 rw[putSet_of es' t' h.da]at hg
 exact⟨_,hg,⟨h.ex,rfl,el,nd,me,sz,ft,ld,pl⟩⟩
theorem w_setAdd{a:Addr}{L:Bool}{T:Str→Prop}{n:Nat}{x:Str}{u:Tok}{Q:Bool→Shared→Prop}(hS:ZbO w s.heap a L T n)(hroom:n+1<scanBound)
  (q:∀ (b:Bool) h',Heap.SameBut a s.heap h'→ZbO w h' a L (fun y=>T y∨y=x) (n+1)→Q b { s with heap:=h' }) :
  wpAny (model prog w) A (setAddHashed a (.str x u) ((ZE prog w).hash (.inr x))) Q E s:=by
 obtain⟨o,es,ep,t,ho,H,hn⟩:=hS
 have hel:=H.el.elems (prog:=prog)
 have hkey:(ZE prog w).is (.inr x) (.str x u)=true:=ZaO x u
 unfold setAddHashed setAddHashedIn
 refine wpAny_holding (wpAny_bind (wpAny_setState_of ho H.da H.ft ?_))
 dsimp only
 rw[byScan_of rfl H.sz hel]
 simp only[↓reduceIte]
 unfold setAddByScan
 refine wpAny_bind (wpAny_bind (wpAny_rule (wpAny_bind (wpAny_setScan_of hkey ho H.da H.ft hel ?_))))
 have hat:∀e∈es.toList,(ZE prog w).is (.inr x) e.2=true↔txt e.2=x:=fun e he=>by
  obtain⟨y,v,e1,_⟩:=H.el e he
  rw[e1]
  show ZcC (.inr x) (.str y v)=true↔y=x
  constructor
  ·intro z
   rcases ZF z with⟨_,_,z1,_⟩|⟨_,_,z1,z2⟩
   ·cases z1
   ·cases z1;cases z2;rfl
  ·intro z;rw[z];exact ZaO x v
 cases hr:List.findIdx? (fun e=>(ZE prog w).is (.inr x) e.2) es.toList with
 | some j =>
  dsimp only
  obtain⟨hj,hpj,_⟩:=List.findIdx?_eq_some_iff_getElem.mp hr
  have hx:x∈Zbz es:=List.mem_map.mpr ⟨_,QI hj,(hat _ (QI hj)).mp hpj⟩
  refine wpAny_pure (wpAny_pure ?_)
  have e:s={ s with heap:=s.heap }:=by cases s;rfl
  rw[e]
  exact q false s.heap (Heap.SameBut.refl a s.heap) ⟨o,es,ep,t,ho,⟨H.ex,H.da,H.el,H.nd,fun y=>⟨fun z=>z.elim (H.me y).mp fun z=>by rw[z];exact hx,fun z=>.inl ((H.me y).mpr z)⟩,H.sz,H.ft,H.ld,H.pl⟩,by omega⟩
 | none =>
  dsimp only
  have hx:x ∉ Zbz es:=fun hx=>by
   obtain⟨e,he,z⟩:=Q1.mp hx
   have:=List.findIdx?_eq_none_iff.mp hr e he
   rw[(hat e he).mpr z]at this
   cases this
  have hgw:∀ (b:Bool) {s₁:Shared} {Q':Unit→Shared→Prop},Q' () s₁→wpAny (model prog w) A (match b with|true=>rule "set.scan.the-table-gave-way" | false=>pure ()) Q' E s₁:=fun b s₁ Q' hq=>by
   cases b<;>first|exact wpAny_pure hq|exact wpAny_rule hq
  have hperm:=layNew_perm t es ((ZE prog w).hash (.inr x)) (.str x u)
  have hfits:=layNew_fits t es ((ZE prog w).hash (.inr x)) (.str x u)
  have hled:=ZeF t es ((ZE prog w).hash (.inr x)) (.str x u)
  generalize layNew t es ((ZE prog w).hash (.inr x)) (.str x u)=Ln at hperm hfits hled ⊢
  obtain⟨es1,t1,dm,gv⟩:=Ln
  dsimp only at hperm hfits hled ⊢
  rw[Qab]at hperm
  have el1:Zd7 w es1:=fun e he=>by
   rcases Qf.mp (hperm.mem_iff.mp he) with he|he
   ·exact H.el e he
   ·rw[Qe.mp he];exact⟨x,u,rfl,rfl⟩
  have pm1:(Zbz es1).Perm (Zbz es++[x]):=by
   have:=hperm.map fun e:Int×Value=>txt e.2
   rw[Qg]at this
   exact this
  have nd1:(Zbz es1).Nodup:=pm1.nodup_iff.mpr (QJ.mpr ⟨H.nd,by simp,fun y hy z hz e=>by rw[Qe.mp hz]at e;rw[e]at hy;exact hx hy⟩)
  have me1:∀y,(T y∨y=x)↔y∈Zbz es1:=fun y=>by
   rw[pm1.mem_iff,List.mem_append,List.mem_singleton,H.me y]
  have sz1:es1.size=es.size+1:=by rw[← Qh,hperm.length_eq,Qc,Qh];rfl
  have sb1:es1.size<scanBound:=by omega
  have led1:t1.led=L:=hled.trans H.ld
  refine wpAny_bind (hgw _ ?_)
  have tail:∀t2:SetTable,t2.fits es1.size=true→t2.led=L→t2.plain=false→wpAny (model prog w) A (do
    storeSet a es1 t2
    if (!dm&&t2.tooFull)=true then do
      (match (relayAll t2 es1 (SetTable.grown es1.size)).2.2 with|true=>rule "set.scan.the-table-gave-way" | false=>pure ())
      storeSet a (relayAll t2 es1 (SetTable.grown es1.size)).1 (relayAll t2 es1 (SetTable.grown es1.size)).2.1
      pure (some true)
     else pure (some true)) (fun r s₁=>∃h',s₁={ s with heap:=h' }∧r=some true∧Heap.SameBut a s.heap h'∧ZbO w h' a L (fun y=>T y∨y=x) (n+1)) E s:=fun t2 ft2 ld2 pl2=>by
   refine wpAny_bind (wpAny_storeSet_of ho H.da ?_ (fits_of_scanBound sb1))
   obtain⟨o1,ho1,H1⟩:=H.store (s:=s) ho el1 nd1 me1 sb1 ft2 ld2 (fun _=>pl2)
   have b1:=QaJ s.heap a (Obj.putSet es1 t2)
   split
   ·have hp:=relayAll_perm t2 es1 (SetTable.grown es1.size)
    have hf:=relayAll_fits t2 es1 (SetTable.grown es1.size)
    obtain⟨hl,hpl⟩:=ZcF t2 es1 (SetTable.grown es1.size)
    generalize relayAll t2 es1 (SetTable.grown es1.size)=Rl at hp hf hl hpl ⊢
    obtain⟨es2,t3,g2⟩:=Rl
    dsimp only at hp hf hl hpl ⊢
    have sz2:es2.size=es1.size:=by rw[← Qh,hp.length_eq,Qh]
    have pm2:=Zfs hp
    refine wpAny_bind (hgw _ (wpAny_bind (wpAny_storeSet_of ho1 H1.da ?_ (fits_of_scanBound (by omega)))))
    obtain⟨o2,ho2,H2⟩:=H1.store (s:={ s with heap:=s.heap.update a (Obj.putSet es1 t2) }) ho1 (es':=es2) (t':=t3) (T':=fun y=>T y∨y=x) (fun e he=>el1 e (hp.mem_iff.mp he)) (pm2.nodup_iff.mpr nd1) (fun y=>(me1 y).trans pm2.mem_iff.symm) (by omega) hf (hl.trans ld2) (fun _=>hpl pl2)
    exact wpAny_pure ⟨_,rfl,rfl,b1.trans (QaJ _ a _),o2,es2,_,t3,ho2,H2,by omega⟩
   ·exact wpAny_pure ⟨_,rfl,rfl,b1,o1,es1,_,t2,ho1,H1,by omega⟩
  split
  ·refine wpAny_bind ?_
   rw[hashByValue_scannable 8 rfl]
   refine wpAny_pure ?_
   refine thn (tail { t1 with plain:=false } (SetTable.fits_plain_off hfits) led1 rfl) fun r s₁ hr=>?_
   obtain⟨h',rfl,rfl,b1,b2⟩:=hr
   exact wpAny_pure (q true h' b1 b2)
  ·rename_i hp
   refine wpAny_bind (wpAny_pure ?_)
   simp only[↓reduceIte]
   refine thn (tail t1 hfits led1 (by simpa using hp)) fun r s₁ hr=>?_
   obtain⟨h',rfl,rfl,b1,b2⟩:=hr
   exact wpAny_pure (q true h' b1 b2)
theorem ZbO.congr{h:Heap}{a:Addr}{L:Bool}{T T':Str→Prop}{n:Nat}(H:ZbO w h a L T n)(e:∀y,T y↔T' y):ZbO w h a L T' n:=by
 obtain⟨o,es,ep,t,ho,H,hn⟩:=H
 exact⟨o,es,ep,t,ho,⟨H.ex,H.da,H.el,H.nd,fun y=>(e y).symm.trans (H.me y),H.sz,H.ft,H.ld,H.pl⟩,hn⟩
theorem ZbO.kept{h h':Heap}{a:Addr}{L:Bool}{T:Str→Prop}{n:Nat}(H:ZbO w h a L T n)(e:∀o,h.get? a=some o→h'.get? a=some o):ZbO w h' a L T n:=by
 obtain⟨o,es,ep,t,ho,r⟩:=H
 exact⟨o,es,ep,t,e o ho,r⟩
end
section
variable {prog:Program} {w:World} {A:Around} {R:Result→Shared→Prop} {I:Addr} {fp wr:List Addr} {G:Array GenState→Array GenState→Prop} {n:Nat} {P:Nat→Value→Prop} {St:Nat→Shared→Prop}
theorem w_setLoop(W:WalksS prog w A.in1 I fp wr G n P St)(S:Addr)(hSf:S ∉ fp)(val:Nat→Str)(hval:∀i v,P i v→∃t,v=.str (val i) t)(hb:n+1<scanBound)(L:Bool) :
  ∀ (k i:Nat) (s:Shared),n-i=k→i≤n→St i s→ZbO w s.heap S L (fun y=>∃j,j<i∧y=val j) i →
   (∀s',Moved (S::wr) G s s'→ZbO w s'.heap S L (fun y=>∃j,j<n∧y=val j) n→R (.ok (.ret .none)) s') →
   codeAny (model prog w) A (.builtin "set.update.loop" ⟨[.ref S,.ref I],[]⟩) R s:=by
 have hSw:S ∉ wr:=fun h=>hSf (W.sub _ h)
 have hsub:∀b∈wr,b∈S::wr:=fun b hb=>Ql _ hb
 intro k
 induction k with
 | zero =>
  intro i s hk hi hst hS hR
  obtain rfl:i=n:=by omega
  refine codeAny_builtin PyProof.Rows.F.entry_set_update_loop ?_
  rw[Around.under_plainId Qaj _]
  show wpAny _ A.in1 (pyNext (.ref I) >>= _) _ _ s
  refine wpAny_bind (W.done s _ _ hst fun s' hm=>?_)
  show wpAny _ A.in1 (ret Value.none) _ _ s'
  exact wpAny_pure (hR s' (hm.mono hsub) (hS.kept fun o ho=>hm.heap S _ hSw ho))
 | succ k ih =>
  intro i s hk hi hst hS hR
  have hlt:i<n:=by omega
  refine codeAny_builtin PyProof.Rows.F.entry_set_update_loop ?_
  rw[Around.under_plainId Qaj _]
  show wpAny _ A.in1 (pyNext (.ref I) >>= _) _ _ s
  refine wpAny_bind (W.item i s _ _ hlt hst fun v s' hP hst' hm=>?_)
  obtain⟨t,rfl⟩:=hval i v hP
  have hS':=hS.kept fun o ho=>hm.heap S _ hSw ho
  show wpAny _ A.in1 (holding [Value.str (val i) t] (setAdd S (.str (val i) t)) >>= _) _ _ s'
  refine wpAny_bind (wpAny_holding ?_)
  unfold setAdd
  refine wpAny_holding (wpAny_bind ((ZE prog w).pyHash (k:=.inr (val i)) (ZaO (val i) t) ?_))
  refine w_setAdd (s:={ s' with toks:=s'.toks+1 }) hS' (by omega) fun b h' hsb hS2=>?_
  have hSi:ZbO w h' S L (fun y=>∃j,j<i+1∧y=val j) (i+1):=hS2.congr fun y=>⟨fun z=>z.elim (fun ⟨j,h1,h2⟩=>⟨j,by omega,h2⟩) fun z=>⟨i,by omega,z⟩,fun ⟨j,h1,h2⟩=>by
   by_cases e:j=i
   ·rw[e]at h2;exact .inr h2
   ·exact .inl ⟨j,by omega,h2⟩⟩
  refine wpAny_pure ⟨plainId_quiet Qaj _,ih (i+1) _ (by omega) hlt (W.frame _ s' _ _ hst' (Qal _) fun b hb o e=>?_) hSi fun s'' hm'' hS''=>?_⟩
  ·rw[hsb.2 b (fun h:b=S=>hSf (by rw[← h];exact hb))];exact e
  ·refine hR s'' (Moved.trans W.gtrans ((hm.mono hsub).then_heap (Qal _) fun b o hb e=>?_) hm'') hS''
   rw[hsb.2 b (fun h:b=S=>hb (by rw[h];exact Qv))];exact e
end
section
variable {prog:Program} {w:World} {A:Around} {E:Value→Shared→Prop} {s:Shared}
theorem ZeZ:∀ {vs:List Value} {ss:List Str},StrsAre vs ss→∀ (i:Nat) (v:Value),vs[i]? = some v→∃t,v=.str (ss.getD i "") t
 | _,_,.nil,i,v,h=>by simp at h
 | _,_,.cons n t hr,0,v,h=>by simp at h;exact⟨t,by rw[← h];rfl⟩
 | _,_,.cons n t hr,i+1,v,h=>by
  simp only[List.getElem?_cons_succ]at h
  obtain⟨t',e⟩:=ZeZ hr i v h
  exact⟨t',by rw[e];rfl⟩
theorem w_setNew(a:Value){Q:Value→Shared→Prop}(h:Q (.ref s.heap.objs.size) { s with heap:=s.heap.push { cls:=.type "set",dict:=none,data:=.set #[] 0 (.fresh 0 0 (!w.params.followText "set-order")) } }) :
  codeAny (model prog w) A (.call (.builtin "set.__new__") ⟨[.type "set",a],[]⟩) (wants Q E) s:=by
 refine codeAny_of_tree ?_
 show wpAny _ A.in1 (do checkBuiltinCall "set.__new__" ⟨[.type "set",a],[]⟩;again (.builtin "set.__new__" ⟨[.type "set",a],[]⟩)) _ _ s
 refine wpAny_bind (wpAny_of_eq (PySem.F.newCall_set_1 a) (wpAny_pure ⟨plainId_quiet PySem.F.plain_set_new _,codeAny_builtin PySem.F.entry_set_new ?_⟩))
 rw[Around.under_plainId PySem.F.plain_set_new _]
 unfold Builtin.«set.__new__» Builtin.Frozenset.newClass
 have hsub:=sub_set_self
 obtain⟨hp,g,d,tk,os⟩:=s
 dsimp only
 wp_walk
 refine wpAny_askSetting (wpAny_pure ?_)
 dsimp only
 simp only[newObj]
 exact wpAny_bind (wpAny_alloc (wpAny_pure (wpAny_pure h)))
theorem w_setOf{l:Addr}{items:Array Value}{ss:List Str}{Q:Value→Shared→Prop}(hh:A.handled=none)(hl:s.heap.IsList l items)(hi:StrsAre items.toList ss)(hb:items.size+1<scanBound)
  (h:∀ (h':Heap) (tk:Nat),ZbO w h' s.heap.objs.size (!w.params.followText "set-order") (fun y=>y∈ss) ss.length→(∀b o,b<s.heap.objs.size→s.heap.get? b=some o→h'.get? b=some o)→Q (.ref s.heap.objs.size) { s with heap:=h',toks:=tk }) :
  wpAny (model prog w) A (call (.type "set") [.ref l]) Q E s:=by
 obtain⟨c,tl,hmro⟩:=PySem.F.called_set.mro
 have hmade:=PySem.F.called_set.made
 have hsub:=PySem.F.called_set.sub
 refine wpAny_call (codeAny_of_tree ?_)
 show wpAny _ _ (callAny (.type "set") _) _ _ _
 refine wpAny_pure ⟨Code.quiet_builtin _ (by ac_rfl),codeAny_builtin PySem.F.entry_type_call ?_⟩
 rw[Around.under_plain (weight_type_call_type "set" [.ref l] []) rfl]
 have h1:=PySem.F.called_set.notType
 have h2:=PySem.F.called_set.canCreate
 have hct:=PySem.F.typeCall_set_1 (.ref l)
 repeat (any_goals (first|assumption|wp_step))
 refine codeAny_mono (w_setNew (.ref l) (E:=E) (Q:=fun obj s₁=>obj=.ref s.heap.objs.size∧s₁={ s with heap:=s.heap.push { cls:=.type "set",dict:=none,data:=.set #[] 0 (.fresh 0 0 (!w.params.followText "set-order")) } }) ⟨rfl,rfl⟩) fun r s₁ hr=>?_
 generalize (!w.params.followText "set-order")=led at h hr
 cases r with
 | error e=>exact hr
 | ok fl =>
  cases fl with
  | ret obj =>
   obtain⟨rfl,rfl⟩:=hr
   have hS:(s.heap.push { cls:=.type "set",dict:=none,data:=.set #[] 0 (.fresh 0 0 led) }).get? s.heap.objs.size=some { cls:=.type "set",dict:=none,data:=.set #[] 0 (.fresh 0 0 led) }:=Qq _ rfl
   have hT:Shared.TypeIs { s with heap:=s.heap.push { cls:=.type "set",dict:=none,data:=.set #[] 0 (.fresh 0 0 led) } } (.ref s.heap.objs.size) "set":=⟨_,hS,rfl⟩
   have hli:=PySem.F.called_set.init.lookup
   have hbi:=PySem.F.called_set.init.bind (.ref s.heap.objs.size)
   repeat (any_goals (first|assumption|wp_step))
   refine codeAny_mono (codeAny_call_builtin (R:=wants (fun r s₂=>r=.none∧∃h' tk,s₂={ s with heap:=h',toks:=tk }∧ZbO w h' s.heap.objs.size led (fun y=>y∈ss) ss.length∧(∀b o,b<s.heap.objs.size→s.heap.get? b=some o→h'.get? b=some o)) E) PySem.F.called_set.init.plain PySem.F.entry_set_init (check_set_init_1 hT ?_)) fun r₂ s₂ hr₂=>?_
   ·obtain⟨ol,hol,hcl,nl,hdl⟩:=hl
    obtain⟨ocls,odict,odata,oslots⟩:=ol
    simp only at hcl hdl
    subst hcl;subst hdl
    have hol':(s.heap.push { cls:=.type "set",dict:=none,data:=.set #[] 0 (.fresh 0 0 led) }).get? l=some { cls:=.type "list",dict:=odict,data:=.seq items nl,slots:=oslots }:=Qb _ hol
    have hsls:=PySem.F.sub_list_set
    have hslf:=PySem.F.sub_list_frozenset
    have hne:(Value.type "list" == Value.type "dict")=false:=by decide
    have hl1:(s.heap.push { cls:=.type "set",dict:=none,data:=.set #[] 0 (.fresh 0 0 led) }).IsList l items:=⟨_,hol',rfl,nl,rfl⟩
    unfold Builtin.«set.__init__» noKeywords Builtin.Frozenset.updateFrom
    generalize hPI:pyIter=PI
    wp_walk
    subst hPI
    refine wpAny_pyIter_list hl1 (wpAny_bind (wpAny_runValue ?_))
    have hlS:l<s.heap.objs.size:=Qk hol
    have hh3:A.in1.in1.in1.handled=none:=by simp[hh]
    have hneI:l≠(s.heap.push { cls:=.type "set",dict:=none,data:=.set #[] 0 (.fresh 0 0 led) }).objs.size:=by
     rw[Qan];exact Qs (QS hlS)
    have hSf:s.heap.objs.size ∉ [(s.heap.push { cls:=.type "set",dict:=none,data:=.set #[] 0 (.fresh 0 0 led) }).objs.size,l]:=by
     rw[Qan];simp only[List.mem_cons,List.mem_singleton,List.not_mem_nil,or_false,not_or]
     exact⟨Qs (Qaq _),QaR hlS⟩
    have hval:∀ (i:Nat) (v:Value),items[i]? = some v→∃t,v=.str (ss.getD i "") t:=fun i v hv=>ZeZ hi i v (by rw[QD];exact hv)
    have hsz:items.size=ss.length:=by rw[← Qh];exact hi.length
    refine w_setLoop ((Walks.list hh3 _ l hneI items).toS) s.heap.objs.size hSf (fun i=>ss.getD i "") hval hb led (items.size-0) 0 _ (by omega) (Qx _) ⟨⟨_,Qq _ rfl,rfl,rfl⟩,(hl1.push _)⟩ ?hS0 ?hR
    case hS0 =>
     have hget:((s.heap.push { cls:=.type "set",dict:=none,data:=.set #[] 0 (.fresh 0 0 led) }).push { cls:=.type "list_iterator",data:=.fields #[.ref l,.int 0 0] }).get? s.heap.objs.size=some { cls:=.type "set",dict:=none,data:=.set #[] 0 (.fresh 0 0 led) }:=Qb _ hS
     exact⟨_,#[],0,.fresh 0 0 led,hget,⟨⟨rfl,rfl,rfl⟩,rfl,(fun e he=>by cases he),List.nodup_nil,fun x=>⟨fun ⟨j,z,_⟩=>absurd z (Nat.not_lt_zero _),fun z=>by cases z⟩,by decide,rfl,rfl,fun z=>absurd rfl z⟩,Qx _⟩
    case hR =>
     intro s' hm hS'
     obtain⟨h',g',d',tk',os'⟩:=s'
     have eg:g'=s.gens:=hm.gens
     have ed:d'=s.drawn:=hm.drawn
     have eo:os'=s.os:=hm.os
     subst eg;subst ed;subst eo
     show wpAny _ _ _ _ _ _
     refine wpAny_pure ?_
     show wpAny _ _ (ret Value.none) _ _ _
     rw[hsz]at hS'
     refine wpAny_pure ⟨rfl,h',tk',rfl,hS'.congr fun y=>⟨fun ⟨j,h1,h2⟩=>?_,fun z=>?_⟩,fun b o hb e=>?_⟩
     ·rw[h2,QM,Qd h1];exact QI h1
     ·obtain⟨j,h1,h2⟩:=List.getElem_of_mem z
      exact⟨j,h1,by rw[QM,Qd h1,← h2];rfl⟩
     ·have hb1:b≠s.heap.objs.size:=Qs hb
      have hb2:b≠(s.heap.push { cls:=.type "set",dict:=none,data:=.set #[] 0 (.fresh 0 0 led) }).objs.size:=by
       rw[Qan];exact Qs (QS hb)
      exact hm.heap b o (by simp only[List.mem_cons,List.mem_singleton,List.not_mem_nil,or_false,not_or];exact⟨hb1,hb2⟩) (Qb _ (Qb _ e))
   ·cases r₂ with
    | error e=>exact hr₂
    | ok fl₂ =>
     cases fl₂ with
     | ret r =>
      obtain⟨rfl,h',tk,rfl,hS',hk'⟩:=hr₂
      repeat (any_goals (first|assumption|wp_step))
      exact h _ _ hS' hk'
     | next=>exact hr₂
     | brk=>exact hr₂
     | cont=>exact hr₂
  | next=>exact hr
  | brk=>exact hr
  | cont=>exact hr
end
end L2
set_option maxHeartbeats 4000000
namespace L2
open PySem PySem.Spec PyProof.Rows
theorem Zdf:Manifest.owners.lookup (String.ofList ['r','o','t','a','r','e','t','i','_','t','e','s'].reverse)=some Manifest.sig_set_iterator:=by kernel_rfl
theorem ZI:Slot "set_iterator" "__next__" "set_iterator.__next__" :=
 .of (owner := "set_iterator") (n := "__next__") (by rw[typeLookup_type,builtinLookup_eq_fast];kernel_rfl) (by ac_rfl) (by ac_rfl) (by ac_rfl) (by first|exact .inl (by ac_rfl)|exact .inr (by ac_rfl)) (by rw[isSubtype_type];kernel_rfl)
theorem ZaJ:entryFor table "set_iterator.__next__" = some Builtin.«set_iterator.__next__»:=entryFor_of_tree (by kernel_rfl)
theorem Za6(a:Value):argsOk "set_iterator.__next__" ⟨[a],[]⟩:=by
 unfold argsOk;rw[signature?_of (id := "set_iterator.__next__") (n:=['_','_','t','x','e','n','_','_']) (o:=['r','o','t','a','r','e','t','i','_','t','e','s']) (by kernel_rfl) Zdf];kernel_rfl
theorem ZcT:entryFor table "set.__iter__" = some Builtin.«frozenset.__iter__»:=entryFor_alias (id' := "frozenset.__iter__") (by kernel_rfl) rfl (by ac_rfl) (by kernel_rfl)
theorem Zhj:typeLookup (.type "set") "__len__" = pure (some (.builtin "set.__len__")):=by rw[typeLookup_type,builtinLookup_eq_fast];kernel_rfl
section
variable {prog:Program} {w:World} {A:Around} {E:Value→Shared→Prop} {s:Shared}
theorem w_choose{src:Source}{n:Nat}{Q:Nat→Shared→Prop}(hn:n≠0)(h:∀i d,i<n→Q i { s with drawn:=d }):wpAny (model prog w) A (choose src n) Q E s:=fun Γ p hΓ=>by
 unfold choose
 rw[Sem.wp_choose]
 exact⟨hn,h _ _ (Nat.mod_lt _ (by omega))⟩
theorem Zan{α:Type}:∀ (l:List α) (i:Nat) (h:i<l.length),(l[i]::l.eraseIdx i).Perm l
 | x::r,0,_=>.refl _
 | x::r,i+1,h=>by
  have ih:=Zan r i (by simp only[List.length_cons]at h;omega)
  show (r[i]'(by simp only[List.length_cons]at h;omega)::x::r.eraseIdx i).Perm (x::r)
  exact(List.Perm.swap ..).trans (ih.cons x)
theorem w_drawOrder{α:Type}:∀ (n:Nat) (xs:List α) (s:Shared) {Q:List α→Shared→Prop},xs.length≤n→(∀ys d,ys.Perm xs→Q ys { s with drawn:=d })→wpAny (model prog w) A (drawOrder n xs) Q E s
 | 0,xs,s,Q,hl,h=>by
  obtain rfl:xs=[]:=Qt (by omega)
  have:=h [] s.drawn (.refl _)
  exact wpAny_pure this
 | n+1,[],s,Q,hl,h=>by
  have:=h [] s.drawn (.refl _)
  exact wpAny_pure this
 | n+1,x::xs,s,Q,hl,h=>by
  unfold drawOrder
  refine wpAny_bind (w_choose (by simp) fun i d hi=>?_)
  rw[Qd hi]
  dsimp only
  refine wpAny_bind (w_drawOrder n ((x::xs).eraseIdx i) _ (by rw[List.length_eraseIdx_of_lt hi];simp only[List.length_cons]at hl ⊢;omega) fun ys d' hp=>?_)
  exact wpAny_pure (h _ d' ((hp.cons _).trans (Zan _ i hi)))
def Zab(h:Heap)(it S:Addr)(f:Value)(i n ep:Nat):Prop:=h.get? it=some { cls:=.type "set_iterator",data:=.fields #[f,.int i 0,.ref S,.int n 0,.int ep 0] }
theorem w_iterSet{S:Addr}{L:Bool}{T:Str→Prop}{o:Obj}{es:Array (Int×Value)}{ep:Nat}{t:SetTable}{Q:Value→Shared→Prop}(ho:s.heap.get? S=some o)(H:Zaj w L T o es ep t)
  (q1:(w.params.followText "set-order" = true∨es.size≤1)→Q (.ref s.heap.objs.size) { s with heap:=s.heap.push { cls:=.type "set_iterator",data:=.fields #[.int 0 0,.int 0 0,.ref S,.int es.size 0,.int ep 0] } })
  (q2:w.params.followText "set-order" = false→1<es.size→∀ (ys:List Nat) (d:Drawn),ys.Perm (List.range es.size)→Q (.ref (s.heap.objs.size+1)) { s with heap:=(s.heap.push { cls:=.type "tuple",data:=.seq (ys.map fun i:Nat=>rawInt (i:Int)).toArray }).push { cls:=.type "set_iterator",data:=.fields #[.ref s.heap.objs.size,.int 0 0,.ref S,.int es.size 0,.int ep 0] },drawn:=d }) :
  wpAny (model prog w) A (pyIter (.ref S)) Q E s:=by
 have ty:s.TypeIs (.ref S) "set":=⟨o,ho,H.ex.1⟩
 refine wpAny_pyIter_slot ty PySem.F.slot_set_iter (wpAny_call_entry PySem.F.slot_set_iter ty ZcT ?_ (PySem.F.args_set_iter_1 _))
 unfold Builtin.«frozenset.__iter__» Builtin.Frozenset.slot0 slotArgs
 simp only[List.isEmpty_nil,Bool.not_true,Bool.false_eq_true,↓reduceIte,bind_assoc,List.length_nil,bne_self_eq_false]
 unfold Builtin.Frozenset.addrOf Builtin.Frozenset.sizeOf
 refine wpAny_bind (wpAny_pure ?_)
 try dsimp only
 refine wpAny_bind (wpAny_pure ?_)
 refine wpAny_bind (wpAny_bind (wpAny_setEntries_of ho H.da H.ft (wpAny_pure ?_)))
 unfold setDrawn setsByText
 refine wpAny_bind (wpAny_bind (wpAny_setState_of ho H.da H.ft ?_))
 dsimp only
 refine wpAny_bind (wpAny_bind (wpAny_askSetting (wpAny_pure ?_)))
 show wpAny _ _ (pure (!w.params.followText "set-order"&&(!t.plain&&decide (es.size>1)))) _ _ s
 refine wpAny_pure ?_
 have plain:(w.params.followText "set-order" = true∨es.size≤1)→wpAny (model prog w) A.in1 (do
     let first ← pure (rawInt 0)
     let __do_lift ← setEpoch S
     let __do_lift ← newFields "set_iterator" [first,rawInt 0,Value.ref S,rawInt (es.size:Int),rawInt (__do_lift:Int)]
     ret __do_lift) (fun fin s'=>∃v,fin=Fin.done (Flow.ret v)∧∃T' r,s'.TypeIs v T'∧typeLookup (Value.type T') (Str.ofString "__next__")=pure (some r)∧Q v s') E s:=fun hc=>by
  refine wpAny_bind (wpAny_pure (wpAny_bind (wpAny_setEpoch_of ho H.da H.ft ?_)))
  exact wpAny_bind (wpAny_newObj_type (wpAny_pure ⟨_,rfl, "set_iterator",_,⟨_,Qq _ rfl,rfl⟩,ZI.lookup,q1 hc⟩))
 cases hb:w.params.followText "set-order" with
 | true=>exact plain (.inl hb)
 | false =>
  by_cases h1:es.size>1
  ·rw[H.pl (by omega),decide_eq_true h1]
   simp only[Bool.not_false,Bool.and_self,↓reduceIte]
   refine wpAny_bind (w_drawOrder _ _ _ (by simp) fun ys d hp=>?_)
   have hyl:ys.length=es.size:=by rw[hp.length_eq,QaA]
   refine wpAny_bind (wpAny_newTuple ?_ (by rw[Qa,hyl];exact fits_of_scanBound H.sz))
   refine wpAny_bind (wpAny_setEpoch_of (s:={ s with heap:=s.heap.push { cls:=.type "tuple",data:=.seq (ys.map fun i:Nat=>rawInt (i:Int)).toArray },drawn:=d }) (Qb _ ho) H.da H.ft ?_)
   refine wpAny_bind (wpAny_newObj_type (wpAny_pure ⟨_,rfl, "set_iterator",_,⟨_,Qq _ rfl,rfl⟩,ZI.lookup,?_⟩))
   have:=q2 hb h1 ys d hp
   rw[← Qan s.heap { cls:=.type "tuple",data:=.seq (ys.map fun i:Nat=>rawInt (i:Int)).toArray }]at this
   exact this
  ·rw[decide_eq_false h1,Bool.and_false,Bool.and_false]
   exact plain (.inr (by omega))
end
end L2
set_option maxHeartbeats 4000000
namespace L2
open PySem PySem.Spec PyProof.Rows
theorem Zfd{α:Type}(next:Nat→Nat):∀ (n k:Nat) (left:List α) (out:Array α),left.length=n→(pickOrder.go next n k left out).toList.Perm (out.toList++left)
 | 0,k,left,out,h=>by
  obtain rfl:=Qt h
  unfold pickOrder.go
  rw[Q3]
 | n+1,k,left,out,h=>by
  unfold pickOrder.go
  have hi:next k % left.length<left.length:=Nat.mod_lt _ (by omega)
  rw[Qd hi]
  dsimp only
  have ih:=Zfd next n (k+1) (left.eraseIdx (next k % left.length)) (out.push left[next k % left.length]) (by rw[List.length_eraseIdx_of_lt hi];omega)
  rw[Qab,QE]at ih
  exact ih.trans (Qae _ (Zan _ _ hi))
theorem Zbo{α:Type}(next:Nat→Nat)(xs:Array α):(pickOrder next xs).toList.Perm xs.toList:=by
 have:=Zfd next xs.size 0 xs.toList #[] (by simp)
 simpa [pickOrder] using this
section
variable {prog:Program} {w:World} {A:Around} {E:Value→Shared→Prop} {s:Shared} {it S:Addr} {i n ep:Nat} {f:Value} {L:Bool} {T:Str→Prop} {o:Obj} {es:Array (Int×Value)} {t:SetTable}
theorem Zdd{Q:Option Value→Shared→Prop}{sl nx:Nat}{x:Value}(hit:Zab s.heap it S (.int sl 0) i es.size ep)(ho:s.heap.get? S=some o)(H:Zaj w L T o es ep t)
  (hsn:∀ {A':Around} {E':Value→Shared→Prop} {Q':Option (Value×Nat)→Shared→Prop},Q' (some (x,nx)) s→wpAny (model prog w) A' (setNext S sl i ep) Q' E' s)
  (hQ:∀h',Zab h' it S (.int nx 0) (i+1) es.size ep→Heap.SameBut it s.heap h'→Q (some x) { s with heap:=h' }):wpAny (model prog w) A (pyNext (.ref it)) Q E s:=by
 have ty:s.TypeIs (.ref it) "set_iterator":=⟨_,hit,rfl⟩
 unfold pyNext
 refine wpAny_bind (wpAny_attempt (wpAny_callSpecial?_slot (name:=Str.ofString "__next__") ty ZI (wpAny_call_entry ZI ty ZaJ ?_ (Za6 _))))
 unfold Builtin.«set_iterator.__next__»
 refine wpAny_bind (wpAny_pure (wpAny_bind (wpAny_fieldsOf hit rfl ?_)))
 dsimp only
 refine wpAny_bind (wpAny_setEntries_of ho H.da H.ft ?_)
 rw[if_neg (by simp)]
 simp only[Int.toNat_natCast]
 refine wpAny_bind (hsn ?_)
 dsimp only
 refine wpAny_bind (wpAny_setField_rec hit (by simp) fun h1 e1 s1=>?_)
 replace s1:Heap.SameBut it s.heap h1:=s1
 replace e1:Zab h1 it S (.int nx 0) i es.size ep:=by unfold Zab;simpa [rawInt] using e1
 refine wpAny_bind (wpAny_setField_rec e1 (by simp) fun h2 e2 s2=>?_)
 replace s2:Heap.SameBut it h1 h2:=s2
 replace e2:Zab h2 it S (.int nx 0) (i+1) es.size ep:=by unfold Zab;simpa [rawInt] using e2
 exact wpAny_pure ⟨_,rfl,wpAny_pure (hQ h2 e2 (s1.trans s2))⟩
theorem Zdt{Q:Option Value→Shared→Prop}{sl:Nat}(hh:A.handled=none)(hit:Zab s.heap it S (.int sl 0) i es.size ep)(ho:s.heap.get? S=some o)(H:Zaj w L T o es ep t)
  (hsn:∀ {A':Around} {E':Value→Shared→Prop} {Q':Option (Value×Nat)→Shared→Prop},Q' none s→wpAny (model prog w) A' (setNext S sl i ep) Q' E' s)
  (hQ:∀h',Heap.ExtBut it s.heap h'→Q none { s with heap:=h' }):wpAny (model prog w) A (pyNext (.ref it)) Q E s:=by
 have ty:s.TypeIs (.ref it) "set_iterator":=⟨_,hit,rfl⟩
 unfold pyNext
 refine wpAny_bind (wpAny_attempt (wpAny_callSpecial?_slot (name:=Str.ofString "__next__") ty ZI (wpAny_call_entry ZI ty ZaJ ?_ (Za6 _))))
 unfold Builtin.«set_iterator.__next__»
 refine wpAny_bind (wpAny_pure (wpAny_bind (wpAny_fieldsOf hit rfl ?_)))
 dsimp only
 refine wpAny_bind (wpAny_setEntries_of ho H.da H.ft ?_)
 rw[if_neg (by simp)]
 simp only[Int.toNat_natCast]
 refine wpAny_bind (hsn ?_)
 dsimp only
 show wpAny _ _ (setField (.ref it) 2 .none >>= _) _ _ s
 refine wpAny_bind (wpAny_setField hit rfl (by simp) ?_)
 refine wpAny_bind ?_
 simp only[newExc,newTuple]
 refine wpAny_bind (wpAny_newObj_type ?_ (by size_fits))
 refine wpAny_bind (m:=firstArgMember _ _) (wpAny_of_eq (a:=Value.none) (by first|rfl|(simp only[firstArgMember];rfl)) ?_)
 refine wpAny_newObj_type ?_ (by size_fits)
 simp only[raiseNew]
 refine wpAny_bind (wpAny_handled ?_)
 rw[show A.in1.handled=none from hh]
 refine wpAny_bind (wpAny_pure (wpAny_throw ?_))
 refine wpAny_bind (wpAny_isInstance (T := "StopIteration") (b:=true) ⟨_,Qq _ rfl,rfl⟩ isSubtype_stop ?_)
 exact wpAny_pure (hQ _ (((QaJ ..).extBut.push _).push _))
theorem ZeO{Q:Option Value→Shared→Prop}{pl pn:Nat}{op:Obj}{ps:Array Value}{m:Nat}{h0:Int}{x:Value}(hit:Zab s.heap it S (.ref pl) i es.size ep)(ho:s.heap.get? S=some o)(H:Zaj w L T o es ep t)(hp:s.heap.get? pl=some op)(hpd:op.data=.seq ps m)(hpi:ps[i]? = some (rawInt (pn:Int)))(hx:es[pn]? = some (h0,x))
  (hQ:∀h',Zab h' it S (.ref pl) (i+1) es.size ep→Heap.SameBut it s.heap h'→Q (some x) { s with heap:=h' }):wpAny (model prog w) A (pyNext (.ref it)) Q E s:=by
 have ty:s.TypeIs (.ref it) "set_iterator":=⟨_,hit,rfl⟩
 unfold pyNext
 refine wpAny_bind (wpAny_attempt (wpAny_callSpecial?_slot (name:=Str.ofString "__next__") ty ZI (wpAny_call_entry ZI ty ZaJ ?_ (Za6 _))))
 unfold Builtin.«set_iterator.__next__»
 refine wpAny_bind (wpAny_pure (wpAny_bind (wpAny_fieldsOf hit rfl ?_)))
 dsimp only
 refine wpAny_bind (wpAny_setEntries_of ho H.da H.ft ?_)
 rw[if_neg (by simp)]
 refine wpAny_bind (wpAny_seqItems hp hpd ?_)
 simp only[Int.toNat_natCast]
 rw[hpi]
 dsimp only[rawInt]
 simp only[Int.toNat_natCast]
 refine wpAny_bind ?_
 unfold setNextDrawn
 refine wpAny_bind (wpAny_setState_of ho H.da H.ft ?_)
 dsimp only
 rw[if_neg (by simp),hx]
 dsimp only
 refine wpAny_pure ?_
 refine wpAny_bind (wpAny_setField_rec hit (by simp) fun h2 e2 s2=>?_)
 replace s2:Heap.SameBut it s.heap h2:=s2
 replace e2:Zab h2 it S (.ref pl) (i+1) es.size ep:=by unfold Zab;simpa [rawInt] using e2
 exact wpAny_pure ⟨_,rfl,wpAny_pure (hQ h2 e2 s2)⟩
theorem ZeD{Q:Option Value→Shared→Prop}{pl:Nat}{op:Obj}{ps:Array Value}{m:Nat}(hh:A.handled=none)(hit:Zab s.heap it S (.ref pl) i es.size ep)(ho:s.heap.get? S=some o)(H:Zaj w L T o es ep t)(hp:s.heap.get? pl=some op)(hpd:op.data=.seq ps m)(hpi:ps[i]? = none)
  (hQ:∀h',Heap.ExtBut it s.heap h'→Q none { s with heap:=h' }):wpAny (model prog w) A (pyNext (.ref it)) Q E s:=by
 have ty:s.TypeIs (.ref it) "set_iterator":=⟨_,hit,rfl⟩
 unfold pyNext
 refine wpAny_bind (wpAny_attempt (wpAny_callSpecial?_slot (name:=Str.ofString "__next__") ty ZI (wpAny_call_entry ZI ty ZaJ ?_ (Za6 _))))
 unfold Builtin.«set_iterator.__next__»
 refine wpAny_bind (wpAny_pure (wpAny_bind (wpAny_fieldsOf hit rfl ?_)))
 dsimp only
 refine wpAny_bind (wpAny_setEntries_of ho H.da H.ft ?_)
 rw[if_neg (by simp)]
 refine wpAny_bind (wpAny_seqItems hp hpd ?_)
 simp only[Int.toNat_natCast]
 rw[hpi]
 dsimp only
 refine wpAny_bind (wpAny_setField_rec hit (by simp) fun h1 e1 s1=>?_)
 replace s1:Heap.SameBut it s.heap h1:=s1
 refine wpAny_bind (wpAny_setField e1 rfl (by simp) ?_)
 refine wpAny_bind ?_
 simp only[newExc,newTuple]
 refine wpAny_bind (wpAny_newObj_type ?_ (by size_fits))
 refine wpAny_bind (m:=firstArgMember _ _) (wpAny_of_eq (a:=Value.none) (by first|rfl|(simp only[firstArgMember];rfl)) ?_)
 refine wpAny_newObj_type ?_ (by size_fits)
 simp only[raiseNew]
 refine wpAny_bind (wpAny_handled ?_)
 rw[show A.in1.handled=none from hh]
 refine wpAny_bind (wpAny_pure (wpAny_throw ?_))
 refine wpAny_bind (wpAny_isInstance (T := "StopIteration") (b:=true) ⟨_,Qq _ rfl,rfl⟩ isSubtype_stop ?_)
 exact wpAny_pure (hQ _ ((((s1.trans (QaJ ..))).extBut.push _).push _))
end
end L2
set_option maxHeartbeats 4000000
namespace L2
open PySem PySem.Spec PyProof.Rows
theorem Zb8:Slot "set_iterator" "__iter__" "set_iterator.__iter__" :=
 .of (owner := "set_iterator") (n := "__iter__") (by rw[typeLookup_type,builtinLookup_eq_fast];kernel_rfl) (by ac_rfl) (by ac_rfl) (by ac_rfl) (by first|exact .inl (by ac_rfl)|exact .inr (by ac_rfl)) (by rw[isSubtype_type];kernel_rfl)
theorem ZdD:entryFor table "set_iterator.__iter__" = some Builtin.«dict_keyiterator.__iter__»:=entryFor_alias (id' := "dict_keyiterator.__iter__") (by kernel_rfl) rfl (by ac_rfl) (by kernel_rfl)
theorem ZdU(a:Value):argsOk "set_iterator.__iter__" ⟨[a],[]⟩:=by
 unfold argsOk;rw[signature?_of (id := "set_iterator.__iter__") (n:=['_','_','r','e','t','i','_','_']) (o:=['r','o','t','a','r','e','t','i','_','t','e','s']) (by kernel_rfl) Zdf];kernel_rfl
section
variable {prog:Program} {w:World} {A:Around} {E:Value→Shared→Prop} {s:Shared} {it S:Addr} {i n ep:Nat} {f:Value} {L:Bool} {T:Str→Prop} {o:Obj} {es:Array (Int×Value)} {t:SetTable}
theorem ZbH{Q:Value→Shared→Prop}(hit:Zab s.heap it S f i n ep)(h:Q (.ref it) s):wpAny (model prog w) A (pyIter (.ref it)) Q E s:=by
 have ty:s.TypeIs (.ref it) "set_iterator":=⟨_,hit,rfl⟩
 refine wpAny_pyIter_slot ty Zb8 (wpAny_call_entry Zb8 ty ZdD ?_ (ZdU _))
 show wpAny _ _ (ret (.ref it)) _ _ s
 exact wpAny_pure ⟨_,rfl, "set_iterator",_,ty,ZI.lookup,h⟩
theorem Zcb{Q:Option (Value×Nat)→Shared→Prop}{sl:Nat}(hb:w.params.followText "set-order" = true)(ho:s.heap.get? S=some o)(H:Zaj w L T o es ep t)(h:Q (((pickOrder (w.params.setOrder S ep) es)[i]?).map fun e=>(e.2,sl)) s):wpAny (model prog w) A (setNext S sl i ep) Q E s:=by
 unfold setNext setsByText
 refine wpAny_bind (wpAny_setState_of ho H.da H.ft ?_)
 dsimp only
 refine wpAny_bind (wpAny_bind (wpAny_askSetting (wpAny_pure ?_)))
 show wpAny _ _ (if w.params.followText "set-order" = true then _ else _) _ _ s
 rw[if_pos hb,if_neg (by simp)]
 unfold setWalk setsByText
 refine wpAny_bind (wpAny_bind (wpAny_setState_of ho H.da H.ft ?_))
 dsimp only
 refine wpAny_bind (wpAny_bind (wpAny_askSetting (wpAny_pure ?_)))
 show wpAny _ _ (if w.params.followText "set-order" = true then _ else _) _ _ s
 rw[if_pos hb]
 refine wpAny_bind (wpAny_askSetting (wpAny_pure ?_))
 exact wpAny_pure h
theorem Zca{Q:Option (Value×Nat)→Shared→Prop}{sl:Nat}(hb:w.params.followText "set-order" = false)(h1:es.size≤1)(ho:s.heap.get? S=some o)(H:Zaj w true T o es ep t)(h:Q (match es[SetTable.below t.place sl]?,t.place[SetTable.below t.place sl]? with|some (_,x),some j=>some (x,j+1)|_,_=>none) s):wpAny (model prog w) A (setNext S sl i ep) Q E s:=by
 unfold setNext setsByText
 refine wpAny_bind (wpAny_setState_of ho H.da H.ft ?_)
 dsimp only
 refine wpAny_bind (wpAny_bind (wpAny_askSetting (wpAny_pure ?_)))
 show wpAny _ _ (if w.params.followText "set-order" = true then _ else _) _ _ s
 rw[if_neg (by rw[hb];exact Qz)]
 show wpAny _ _ (if (!t.plain&&decide (es.size>1))=true then _ else _) _ _ s
 rw[if_neg (by rw[decide_eq_false (by omega),Bool.and_false];exact Qz)]
 refine wpAny_bind ?_
 show wpAny _ _ (if (!t.led&&!es.isEmpty)=true then _ else _) _ _ s
 rw[if_neg (by rw[H.ld];simp)]
 exact wpAny_pure (wpAny_pure h)
end
end L2
set_option maxHeartbeats 4000000
namespace L2
open PySem PySem.Spec PyProof.Rows
section
variable {prog:Program} {w:World} {A:Around} {I S:Addr} {ep:Nat} {L:Bool} {T:Str→Prop} {o:Obj} {es:Array (Int×Value)} {t:SetTable}
theorem Zg1(hh:A.handled=none)(hne:S≠I)(hb:w.params.followText "set-order" = true)(H:Zaj w L T o es ep t) :
  Walks prog w A I [I,S] [I] es.size (fun i v=>((pickOrder (w.params.setOrder S ep) es).toList.map (·.2))[i]? = some v) (fun i h=>Zab h I S (.int 0 0) i es.size ep∧h.get? S=some o) where
 sub:=fun b hb=>by simp at hb;simp[hb]
 frame:=fun i h h' st hk=>⟨hk I (by simp) _ st.1,hk S (by simp) _ st.2⟩
 item:=fun i s Q E hi st hQ=>by
  have hl:(pickOrder (w.params.setOrder S ep) es).size=es.size:=by rw[← Qh,(Zbo _ es).length_eq,Qh]
  obtain⟨e,he⟩:∃e,(pickOrder (w.params.setOrder S ep) es)[i]? = some e:=⟨_,QU (by omega)⟩
  refine Zdd (sl:=0) (nx:=0) (x:=e.2) st.1 st.2 H (fun h=>Zcb hb st.2 H (by rw[he];exact h)) fun h' hit hs=>?_
  exact hQ _ h' s.toks (by rw[Qn,QD,he];rfl) ⟨hit,(hs.2 S hne).trans st.2⟩ fun b o hb e=>(hs.2 b (fun z=>hb (by simp[z]))).trans e
 done:=fun s Q E st hQ=>by
  have hl:(pickOrder (w.params.setOrder S ep) es).size=es.size:=by rw[← Qh,(Zbo _ es).length_eq,Qh]
  refine Zdt (sl:=0) hh st.1 st.2 H (fun h=>Zcb hb st.2 H (by rw[Qat (by omega)];exact h)) fun h' he=>?_
  exact hQ h' s.toks fun b o hb e=>he b o (fun z=>hb (by simp[z])) e
 self:=fun i s Q E st h=>ZbH st.1 h
theorem ZcG(H:Zaj w L T o es ep t):t.place.size=es.size:=by
 have:=H.ft
 simp only[SetTable.fits,Bool.and_eq_true,beq_iff_eq]at this
 exact this.1
theorem Zgg(hh:A.handled=none)(hne:S≠I)(hb:w.params.followText "set-order" = false)(h1:es.size≤1)(H:Zaj w true T o es ep t) :
  Walks prog w A I [I,S] [I] es.size (fun i v=>(es.toList.map (·.2))[i]? = some v) (fun i h=>(∃sl:Nat,Zab h I S (.int sl 0) i es.size ep∧((i=0∧sl=0)∨(i=1∧∃j,t.place[0]? = some j∧sl=j+1)))∧h.get? S=some o) where
 sub:=fun b hb=>by simp at hb;simp[hb]
 frame:=fun i h h' st hk=>by
  obtain⟨⟨sl,a1,a2⟩,a3⟩:=st
  exact⟨⟨sl,hk I (by simp) _ a1,a2⟩,hk S (by simp) _ a3⟩
 item:=fun i s Q E hi st hQ=>by
  obtain⟨⟨sl,a1,a2⟩,a3⟩:=st
  have hp:=ZcG H
  obtain rfl:i=0:=by omega
  obtain rfl:sl=0:=by rcases a2 with⟨_,z⟩|⟨z,_⟩<;>omega
  have hpl:∃j,t.place = #[j]:=by
   have:t.place.size=1:=by omega
   match hq:t.place,this with
   | ⟨[j]⟩,_=>exact⟨j,rfl⟩
  obtain⟨j,hj⟩:=hpl
  obtain⟨⟨h0,x⟩,he⟩:∃e,es[0]? = some e:=⟨_,QU (by omega)⟩
  have hbl:SetTable.below t.place 0=0:=by rw[hj];rfl
  refine Zdd (sl:=0) (nx:=j+1) (x:=x) a1 a3 H (fun h=>Zca hb h1 a3 H (by rw[hbl,he,hj];exact h)) fun h' hit hs=>?_
  exact hQ _ h' s.toks (by rw[Qn,QD,he];rfl) ⟨⟨j+1,hit,.inr ⟨rfl,j,by rw[hj];rfl,rfl⟩⟩,(hs.2 S hne).trans a3⟩ fun b o hb e=>(hs.2 b (fun z=>hb (by simp[z]))).trans e
 done:=fun s Q E st hQ=>by
  obtain⟨⟨sl,a1,a2⟩,a3⟩:=st
  have hp:=ZcG H
  have hno:es[SetTable.below t.place sl]? = none:=by
   by_cases z:es.size=0
   ·exact Qat (by omega)
   ·have z1:es.size=1:=by omega
    rcases a2 with⟨y,_⟩|⟨_,j,h2,h3⟩
    ·omega
    ·have hq:t.place = #[j]:=by
      have:t.place.size=1:=by omega
      match hq:t.place,this with
      | ⟨[k]⟩,_ =>
       rw[hq]at h2
       have:some k=some j:=h2
       injection this with this
       rw[this]
     rw[hq,h3]
     have:SetTable.below #[j] (j+1)=1:=by simp[SetTable.below,SetTable.below.go]
     rw[this]
     exact Qat (by omega)
  refine Zdt hh a1 a3 H (fun h=>Zca hb h1 a3 H (by rw[hno];exact h)) fun h' he=>?_
  exact hQ h' s.toks fun b o hb e=>he b o (fun z=>hb (by simp[z])) e
 self:=fun i s Q E st h=>by
  obtain⟨⟨sl,a1,a2⟩,a3⟩:=st
  exact ZbH a1 h
theorem Zez{pl:Addr}{op:Obj}{m:Nat}{ys:List Nat}(hh:A.handled=none)(hne:S≠I)(hnp:pl≠I)(H:Zaj w L T o es ep t)(hpd:op.data=.seq (ys.map fun i:Nat=>rawInt (i:Int)).toArray m)(hp:ys.Perm (List.range es.size)) :
  Walks prog w A I [I,S,pl] [I] es.size (fun i v=>(ys.map fun k=>(es[k]?.map (·.2)).getD .none)[i]? = some v) (fun i h=>Zab h I S (.ref pl) i es.size ep∧h.get? S=some o∧h.get? pl=some op) where
 sub:=fun b hb=>by simp at hb;simp[hb]
 frame:=fun i h h' st hk=>⟨hk I (by simp) _ st.1,hk S (by simp) _ st.2.1,hk pl (by simp) _ st.2.2⟩
 item:=fun i s Q E hi st hQ=>by
  have hl:ys.length=es.size:=by rw[hp.length_eq,QaA]
  obtain⟨pn,hpn⟩:∃pn,ys[i]? = some pn:=⟨_,Qd (by omega)⟩
  have hpl:pn<es.size:=Qam.mp (hp.mem_iff.mp (QG hpn))
  obtain⟨⟨h0,x⟩,he⟩:∃e,es[pn]? = some e:=⟨_,QU hpl⟩
  refine ZeO (pn:=pn) (x:=x) (h0:=h0) st.1 st.2.1 H st.2.2 hpd (by rw[List.getElem?_toArray,Qn,hpn];rfl) he fun h' hit hs=>?_
  exact hQ _ h' s.toks (by rw[Qn,hpn];show some ((es[pn]?.map (·.2)).getD .none)=_;rw[he];rfl) ⟨hit,(hs.2 S hne).trans st.2.1,(hs.2 pl hnp).trans st.2.2⟩ fun b o hb e=>(hs.2 b (fun z=>hb (by simp[z]))).trans e
 done:=fun s Q E st hQ=>by
  have hl:ys.length=es.size:=by rw[hp.length_eq,QaA]
  refine ZeD hh st.1 st.2.1 H st.2.2 hpd (by rw[List.getElem?_toArray,Qn,Qao (by omega)];rfl) fun h' he=>?_
  exact hQ h' s.toks fun b o hb e=>he b o (fun z=>hb (by simp[z])) e
 self:=fun i s Q E st h=>ZbH st.1 h
end
end L2
set_option maxHeartbeats 4000000
namespace L2
open PySem PySem.Spec PyProof.Rows
theorem ZeG:isSubtype (.type "set") (.type "set")=pure true:=by rw[isSubtype_type];kernel_rfl
section
variable {prog:Program} {w:World} {A:Around} {E:Value→Shared→Prop} {s:Shared} {S:Addr} {ep:Nat} {T:Str→Prop} {o:Obj} {es:Array (Int×Value)} {t:SetTable}
theorem ZcD{Q:Bool→Shared→Prop}{r:Addr}(hT:s.TypeIs (.ref r) "set")(h:Q false s):wpAny (model prog w) A (Builtin.List.listLengthHint (.ref r)) Q E s:=by
 unfold Builtin.List.listLengthHint
 refine wpAny_bind (wpAny_specialOf hT Zhj ?_)
 generalize hid:("set.__len__" : String)=id0
 wp_delta
 rw[show splitId id0=some ("set", "__len__") from by subst hid;ac_rfl]
 subst hid
 refine wpAny_bind (wpAny_isInstance (T := "set") (b:=true) hT ZeG ?_)
 refine wpAny_ite_split (fun hab=>absurd hab (by decide)) (fun _=>?_)
 refine wpAny_ite_split (fun _=>?_) (fun hab=>absurd (by ac_rfl) hab)
 exact wpAny_bind (wpAny_typeOf hT (wpAny_pure h))
theorem ZcN{xs:List Value}{acc:Array Value}{n:Nat}(hl:xs.length=n)(h:ItemsOf (fun i v=>xs[i]? = some v) acc n):acc.toList=xs:=by
 obtain⟨h1,h2⟩:=h
 refine List.ext_getElem? fun i=>?_
 rw[QD]
 by_cases hi:i<n
 ·have e:acc[i]? = some acc[i]:=QU (by omega)
  rw[e,h2 i _ e]
 ·rw[Qat (by omega),Qao (by omega)]
theorem ZfQ(es:Array (Int×Value)):((List.range es.size).map fun k=>(es[k]?.map (·.2)).getD Value.none)=es.toList.map (·.2):=by
 refine List.ext_getElem (by simp) fun i h1 h2=>?_
 have hi:i<es.size:=by simpa using h1
 rw[List.getElem_map,List.getElem_map,List.getElem_range,QU hi]
 rfl
def Zfu(h h':Heap):Prop:=∀b o,h.get? b=some o→h'.get? b=some o
theorem w_collectSet{Q:List Value→Shared→Prop}(hh:A.handled=none)(ho:s.heap.get? S=some o)(H:Zaj w (!w.params.followText "set-order") T o es ep t)
  (q:∀ (vs:List Value) (h':Heap) (d:Drawn) (tk:Nat),vs.Perm (es.toList.map (·.2))→Zfu s.heap h'→s.heap.objs.size<h'.objs.size→Q vs { s with heap:=h',drawn:=d,toks:=tk }):wpAny (model prog w) A (collect (.ref S)) Q E s:=by
 have hsz:=fits_of_scanBound H.sz
 have hSl:S<s.heap.objs.size:=Qk ho
 unfold collect
 refine wpAny_bind (wpAny_runValue (codeAny_builtin PySem.F.entry_proto_collect ?_))
 rw[Around.under_plainId PySem.F.plain_proto_collect _]
 show wpAny _ A.in1 (newList [] >>= fun l=>again (.builtin "list.__iadd__" ⟨[l,.ref S],[]⟩)) _ _ s
 refine wpAny_bind (wpAny_newObj_type ?_)
 refine wpAny_pure ⟨plainId_quiet PySem.F.plain_list_iadd _,codeAny_builtin PySem.F.entry_list_iadd ?_⟩
 rw[Around.under_plainId PySem.F.plain_list_iadd _]
 show wpAny _ A.in1 (Builtin.List.listExtendWith (.ref s.heap.objs.size) (.ref S) (.ref s.heap.objs.size)) _ _ _
 have ho1:(s.heap.push { cls:=.type "list",data:=.seq ([]:List Value).toArray }).get? S=some o:=Qb _ ho
 have hl1:(s.heap.push { cls:=.type "list",data:=.seq ([]:List Value).toArray }).get? s.heap.objs.size=some { cls:=.type "list",data:=.seq ([]:List Value).toArray }:=Qq _ rfl
 have k1:Zfu s.heap (s.heap.push { cls:=.type "list",data:=.seq ([]:List Value).toArray }):=fun b o e=>Qb _ e
 have sz1:(s.heap.push { cls:=.type "list",data:=.seq ([]:List Value).toArray }).objs.size=s.heap.objs.size+1:=Qan _ _
 generalize s.heap.push { cls:=.type "list",data:=.seq ([]:List Value).toArray }=h1 at ho1 hl1 k1 sz1 ⊢
 unfold Builtin.List.listExtendWith
 have ty1:Shared.TypeIs { s with heap:=h1 } (.ref S) "set":=⟨o,ho1,H.ex.1⟩
 refine wpAny_bind (wpAny_typeOf ty1 ?_)
 have e1:Builtin.List.listSameRef (.ref s.heap.objs.size) (.ref S)=false:=by simp[Builtin.List.listSameRef,Nat.ne_of_gt hSl]
 have e2:(Value.type "set" == Value.type "list")=false:=by decide
 have e3:(Value.type "set" == Value.type "tuple")=false:=by decide
 simp only[e1,e2,e3,Bool.or_false,Bool.false_eq_true,if_false]
 have nSl:S≠s.heap.objs.size:=Qs hSl
 have hne1:S≠h1.objs.size:=by rw[sz1];exact Qs (QS hSl)
 have nl1:s.heap.objs.size≠h1.objs.size:=by rw[sz1];exact Qs (Qaq _)
 refine wpAny_bind (w_iterSet (s:={ s with heap:=h1 }) ho1 H (fun hc=>?_) fun hb hsz2 ys d hp=>?_)
 ·have ho2:(h1.push ({ cls:=.type "set_iterator",data:=.fields #[.int 0 0,.int 0 0,.ref S,.int es.size 0,.int ep 0] }:Obj)).get? S=some o:=Qb _ ho1
  have hl2:(h1.push ({ cls:=.type "set_iterator",data:=.fields #[.int 0 0,.int 0 0,.ref S,.int es.size 0,.int ep 0] }:Obj)).get? s.heap.objs.size=some { cls:=.type "list",data:=.seq ([]:List Value).toArray }:=Qb _ hl1
  have hit:Zab (h1.push ({ cls:=.type "set_iterator",data:=.fields #[.int 0 0,.int 0 0,.ref S,.int es.size 0,.int ep 0] }:Obj)) h1.objs.size S (.int 0 0) 0 es.size ep:=Qq _ rfl
  have k2:Zfu s.heap (h1.push ({ cls:=.type "set_iterator",data:=.fields #[.int 0 0,.int 0 0,.ref S,.int es.size 0,.int ep 0] }:Obj)):=fun b o e=>Qb _ (k1 b o e)
  show wpAny (model prog w) _ _ _ _ { s with heap:=h1.push ({ cls:=.type "set_iterator",data:=.fields #[.int 0 0,.int 0 0,.ref S,.int es.size 0,.int ep 0] }:Obj) }
  generalize h1.push ({ cls:=.type "set_iterator",data:=.fields #[.int 0 0,.int 0 0,.ref S,.int es.size 0,.int ep 0] }:Obj)=h2 at ho2 hl2 hit k2 ⊢
  cases hb:w.params.followText "set-order" with
  | true =>
   refine wpAny_bind (wpAny_holding (ZcD ⟨o,ho2,H.ex.1⟩ ?_))
   have key:∀ (h:Heap) (c₁ tk:Nat),(Zab h h1.objs.size S (.int 0 0) 0 es.size ep∧h.get? S=some o)→(∀b o,b≠s.heap.objs.size→h2.get? b=some o→h.get? b=some o)→h.get? s.heap.objs.size=some { cls:=.type "list",data:=.seq #[] c₁ }→codeAny (model prog w) A (.builtin "list.extend.loop" ⟨[.ref s.heap.objs.size,.ref h1.objs.size,.ref s.heap.objs.size],[]⟩) (fun r s'=>match r with
          | Except.ok (Flow.ret v)=>wpAny (model prog w) A (match v with
            | Value.ref a=>do
             let __do_lift ← load a
             match __do_lift.data with
              | Data.seq xs epoch=>pure xs.toList
              | x=>unsupported "internal:collect"
            | x=>unsupported "internal:collect") Q E s'
          | Except.ok a=>False
          | Except.error e=>E e s') { s with heap:=h,drawn:=s.drawn,toks:=tk }:=fun h c₁ tk hst hk hS₁=>by
    refine codeAny_extend_loopS (Zg1 (A:=A.in1) hh hne1 hb H).toS hsz _ (by simp only[List.mem_cons,List.not_mem_nil,or_false,not_or];exact⟨nl1,nSl.symm⟩) _ es.size 0 _ #[] c₁ rfl (Qx _) hst hS₁ (ItemsOf.nil _) fun s' acc' c' hm hS' hacc=>?_
    rw[Moved.eq_with hm]
    show wpAny _ A (load s.heap.objs.size >>= _) _ _ _
    refine wpAny_bind (wpAny_load (show Heap.get? _ _=_ from hS') (wpAny_pure ?_))
    refine q acc'.toList s'.heap s.drawn s'.toks ?_ (fun b o e=>?_) (Qk hS')
    ·rw[ZcN (by rw[Qa,(Zbo _ es).length_eq,Qh]) hacc]
     exact(Zbo _ es).map _
    ·have hb:b<s.heap.objs.size:=Qk e
     refine hm.heap b o (by simp only[List.mem_cons,List.not_mem_nil,or_false,not_or];exact⟨Qs hb,by rw[sz1];exact Qs (QS hb)⟩) (hk b o (Qs hb) (k2 b o e))
   refine wpAny_ite_split (fun _=>?_) (fun _=>wpAny_pure ⟨plainId_quiet Q4 _,key _ 0 _ ⟨hit,ho2⟩ (fun b o _ e=>e) hl2⟩)
   refine wpAny_bind (wpAny_rule (wpAny_bind ?_))
   show wpAny _ _ (updateSeq s.heap.objs.size (·.push .none) >>= fun _=>updateSeq s.heap.objs.size (·.pop)) _ _ _
   refine wpAny_bind (wpAny_updateSeq hl2 rfl ?_)
   have l2:=QY (Obj.mapSeq (·.push Value.none)) hl2 rfl
   refine wpAny_updateSeq (hz:=by seq_fits) l2 rfl ?_
   have l3:=QY (Obj.mapSeq (·.pop)) l2 rfl
   have oth:∀b o,b≠s.heap.objs.size→h2.get? b=some o→((h2.update s.heap.objs.size (Obj.mapSeq (·.push Value.none))).update s.heap.objs.size (Obj.mapSeq (·.pop))).get? b=some o:=fun b o hb e=>(QW _ _ (Ne.symm hb)).trans ((QW _ _ (Ne.symm hb)).trans e)
   exact wpAny_pure ⟨plainId_quiet Q4 _,key _ _ _ (⟨oth _ _ nl1.symm hit,oth _ _ nSl ho2⟩) oth l3⟩
  | false =>
   have h1':es.size≤1:=hc.resolve_left (by rw[hb];exact Qz)
   have H':Zaj w true T o es ep t:=by rw[hb]at H;exact H
   refine wpAny_bind (wpAny_holding (ZcD ⟨o,ho2,H.ex.1⟩ ?_))
   have key:∀ (h:Heap) (c₁ tk:Nat),((∃sl:Nat,Zab h h1.objs.size S (.int sl 0) 0 es.size ep∧(((0:Nat)=0∧sl=0)∨((0:Nat)=1∧∃j,t.place[0]? = some j∧sl=j+1)))∧h.get? S=some o)→(∀b o,b≠s.heap.objs.size→h2.get? b=some o→h.get? b=some o)→h.get? s.heap.objs.size=some { cls:=.type "list",data:=.seq #[] c₁ }→codeAny (model prog w) A (.builtin "list.extend.loop" ⟨[.ref s.heap.objs.size,.ref h1.objs.size,.ref s.heap.objs.size],[]⟩) (fun r s'=>match r with
          | Except.ok (Flow.ret v)=>wpAny (model prog w) A (match v with
            | Value.ref a=>do
             let __do_lift ← load a
             match __do_lift.data with
              | Data.seq xs epoch=>pure xs.toList
              | x=>unsupported "internal:collect"
            | x=>unsupported "internal:collect") Q E s'
          | Except.ok a=>False
          | Except.error e=>E e s') { s with heap:=h,drawn:=s.drawn,toks:=tk }:=fun h c₁ tk hst hk hS₁=>by
    refine codeAny_extend_loopS (Zgg (A:=A.in1) hh hne1 hb h1' H').toS hsz _ (by simp only[List.mem_cons,List.not_mem_nil,or_false,not_or];exact⟨nl1,nSl.symm⟩) _ es.size 0 _ #[] c₁ rfl (Qx _) hst hS₁ (ItemsOf.nil _) fun s' acc' c' hm hS' hacc=>?_
    rw[Moved.eq_with hm]
    show wpAny _ A (load s.heap.objs.size >>= _) _ _ _
    refine wpAny_bind (wpAny_load (show Heap.get? _ _=_ from hS') (wpAny_pure ?_))
    refine q acc'.toList s'.heap s.drawn s'.toks ?_ (fun b o e=>?_) (Qk hS')
    ·rw[ZcN (by rw[Qa,Qh]) hacc]
    ·have hb:b<s.heap.objs.size:=Qk e
     refine hm.heap b o (by simp only[List.mem_cons,List.not_mem_nil,or_false,not_or];exact⟨Qs hb,by rw[sz1];exact Qs (QS hb)⟩) (hk b o (Qs hb) (k2 b o e))
   refine wpAny_ite_split (fun _=>?_) (fun _=>wpAny_pure ⟨plainId_quiet Q4 _,key _ 0 _ ⟨⟨0,hit,.inl ⟨rfl,rfl⟩⟩,ho2⟩ (fun b o _ e=>e) hl2⟩)
   refine wpAny_bind (wpAny_rule (wpAny_bind ?_))
   show wpAny _ _ (updateSeq s.heap.objs.size (·.push .none) >>= fun _=>updateSeq s.heap.objs.size (·.pop)) _ _ _
   refine wpAny_bind (wpAny_updateSeq hl2 rfl ?_)
   have l2:=QY (Obj.mapSeq (·.push Value.none)) hl2 rfl
   refine wpAny_updateSeq (hz:=by seq_fits) l2 rfl ?_
   have l3:=QY (Obj.mapSeq (·.pop)) l2 rfl
   have oth:∀b o,b≠s.heap.objs.size→h2.get? b=some o→((h2.update s.heap.objs.size (Obj.mapSeq (·.push Value.none))).update s.heap.objs.size (Obj.mapSeq (·.pop))).get? b=some o:=fun b o hb e=>(QW _ _ (Ne.symm hb)).trans ((QW _ _ (Ne.symm hb)).trans e)
   exact wpAny_pure ⟨plainId_quiet Q4 _,key _ _ _ (⟨⟨0,oth _ _ nl1.symm hit,.inl ⟨rfl,rfl⟩⟩,oth _ _ nSl ho2⟩) oth l3⟩
 ·have ho2:((h1.push ({ cls:=.type "tuple",data:=.seq (ys.map fun i:Nat=>rawInt (i:Int)).toArray }:Obj)).push ({ cls:=.type "set_iterator",data:=.fields #[.ref h1.objs.size,.int 0 0,.ref S,.int es.size 0,.int ep 0] }:Obj)).get? S=some o:=Qb _ (Qb _ ho1)
  have hl2:((h1.push ({ cls:=.type "tuple",data:=.seq (ys.map fun i:Nat=>rawInt (i:Int)).toArray }:Obj)).push ({ cls:=.type "set_iterator",data:=.fields #[.ref h1.objs.size,.int 0 0,.ref S,.int es.size 0,.int ep 0] }:Obj)).get? s.heap.objs.size=some { cls:=.type "list",data:=.seq ([]:List Value).toArray }:=Qb _ (Qb _ hl1)
  have hp2:((h1.push ({ cls:=.type "tuple",data:=.seq (ys.map fun i:Nat=>rawInt (i:Int)).toArray }:Obj)).push ({ cls:=.type "set_iterator",data:=.fields #[.ref h1.objs.size,.int 0 0,.ref S,.int es.size 0,.int ep 0] }:Obj)).get? h1.objs.size=some ({ cls:=.type "tuple",data:=.seq (ys.map fun i:Nat=>rawInt (i:Int)).toArray }:Obj):=Qb _ (Qq _ rfl)
  have hit:Zab ((h1.push ({ cls:=.type "tuple",data:=.seq (ys.map fun i:Nat=>rawInt (i:Int)).toArray }:Obj)).push ({ cls:=.type "set_iterator",data:=.fields #[.ref h1.objs.size,.int 0 0,.ref S,.int es.size 0,.int ep 0] }:Obj)) (h1.objs.size+1) S (.ref h1.objs.size) 0 es.size ep:=by
   have:=Qq (h1.push ({ cls:=.type "tuple",data:=.seq (ys.map fun i:Nat=>rawInt (i:Int)).toArray }:Obj)) (o:=({ cls:=.type "set_iterator",data:=.fields #[.ref h1.objs.size,.int 0 0,.ref S,.int es.size 0,.int ep 0] }:Obj)) rfl
   rw[Qan]at this
   exact this
  have k2:Zfu s.heap ((h1.push ({ cls:=.type "tuple",data:=.seq (ys.map fun i:Nat=>rawInt (i:Int)).toArray }:Obj)).push ({ cls:=.type "set_iterator",data:=.fields #[.ref h1.objs.size,.int 0 0,.ref S,.int es.size 0,.int ep 0] }:Obj)):=fun b o e=>Qb _ (Qb _ (k1 b o e))
  have nS2:S≠h1.objs.size+1:=by rw[sz1];exact Qs (QS (QS hSl))
  have nl2:s.heap.objs.size≠h1.objs.size+1:=by rw[sz1];exact Qs (QS (Qaq _))
  show wpAny (model prog w) _ _ _ _ { s with heap:=((h1.push ({ cls:=.type "tuple",data:=.seq (ys.map fun i:Nat=>rawInt (i:Int)).toArray }:Obj)).push ({ cls:=.type "set_iterator",data:=.fields #[.ref h1.objs.size,.int 0 0,.ref S,.int es.size 0,.int ep 0] }:Obj)),drawn:=d }
  generalize ((h1.push ({ cls:=.type "tuple",data:=.seq (ys.map fun i:Nat=>rawInt (i:Int)).toArray }:Obj)).push ({ cls:=.type "set_iterator",data:=.fields #[.ref h1.objs.size,.int 0 0,.ref S,.int es.size 0,.int ep 0] }:Obj))=h2 at ho2 hl2 hit hp2 k2 ⊢
  refine wpAny_bind (wpAny_holding (ZcD ⟨o,ho2,H.ex.1⟩ ?_))
  have key:∀ (h:Heap) (c₁ tk:Nat),(Zab h (h1.objs.size+1) S (.ref h1.objs.size) 0 es.size ep∧h.get? S=some o∧h.get? h1.objs.size=some ({ cls:=.type "tuple",data:=.seq (ys.map fun i:Nat=>rawInt (i:Int)).toArray }:Obj))→(∀b o,b≠s.heap.objs.size→h2.get? b=some o→h.get? b=some o)→h.get? s.heap.objs.size=some { cls:=.type "list",data:=.seq #[] c₁ }→codeAny (model prog w) A (.builtin "list.extend.loop" ⟨[.ref s.heap.objs.size,.ref (h1.objs.size+1),.ref s.heap.objs.size],[]⟩) (fun r s'=>match r with
         | Except.ok (Flow.ret v)=>wpAny (model prog w) A (match v with
           | Value.ref a=>do
            let __do_lift ← load a
            match __do_lift.data with
             | Data.seq xs epoch=>pure xs.toList
             | x=>unsupported "internal:collect"
           | x=>unsupported "internal:collect") Q E s'
         | Except.ok a=>False
         | Except.error e=>E e s') { s with heap:=h,drawn:=d,toks:=tk }:=fun h c₁ tk hst hk hS₁=>by
   refine codeAny_extend_loopS (Zez (A:=A.in1) (m:=0) (ys:=ys) hh nS2 (Qs (Qaq _)) H rfl hp).toS hsz _ (by simp only[List.mem_cons,List.not_mem_nil,or_false,not_or];exact⟨nl2,nSl.symm,nl1⟩) _ es.size 0 _ #[] c₁ rfl (Qx _) hst hS₁ (ItemsOf.nil _) fun s' acc' c' hm hS' hacc=>?_
   rw[Moved.eq_with hm]
   show wpAny _ A (load s.heap.objs.size >>= _) _ _ _
   refine wpAny_bind (wpAny_load (show Heap.get? _ _=_ from hS') (wpAny_pure ?_))
   refine q acc'.toList s'.heap d s'.toks ?_ (fun b o e=>?_) (Qk hS')
   ·rw[ZcN (by rw[Qa,hp.length_eq,QaA]) hacc]
    exact(hp.map _).trans (by rw[ZfQ])
   ·have hb:b<s.heap.objs.size:=Qk e
    refine hm.heap b o (by simp only[List.mem_cons,List.not_mem_nil,or_false,not_or];exact⟨Qs hb,by rw[sz1];exact Qs (QS (QS hb))⟩) (hk b o (Qs hb) (k2 b o e))
  refine wpAny_ite_split (fun _=>?_) (fun _=>wpAny_pure ⟨plainId_quiet Q4 _,key _ 0 _ ⟨hit,ho2,hp2⟩ (fun b o _ e=>e) hl2⟩)
  refine wpAny_bind (wpAny_rule (wpAny_bind ?_))
  show wpAny _ _ (updateSeq s.heap.objs.size (·.push .none) >>= fun _=>updateSeq s.heap.objs.size (·.pop)) _ _ _
  refine wpAny_bind (wpAny_updateSeq hl2 rfl ?_)
  have l2:=QY (Obj.mapSeq (·.push Value.none)) hl2 rfl
  refine wpAny_updateSeq (hz:=by seq_fits) l2 rfl ?_
  have l3:=QY (Obj.mapSeq (·.pop)) l2 rfl
  have oth:∀b o,b≠s.heap.objs.size→h2.get? b=some o→((h2.update s.heap.objs.size (Obj.mapSeq (·.push Value.none))).update s.heap.objs.size (Obj.mapSeq (·.pop))).get? b=some o:=fun b o hb e=>(QW _ _ (Ne.symm hb)).trans ((QW _ _ (Ne.symm hb)).trans e)
  exact wpAny_pure ⟨plainId_quiet Q4 _,key _ _ _ (⟨oth _ _ nl2.symm hit,oth _ _ nSl ho2,oth _ _ nl1.symm hp2⟩) oth l3⟩
end
end L2
set_option maxHeartbeats 4000000
namespace L2
open PySem PySem.Spec PyProof.Rows
theorem Zem:∀ {vs:List Value},(∀v∈vs,∃x u,v=.str x u)→StrsAre vs (vs.map txt)
 | [],_=>.nil
 | v::r,h=>by
  obtain⟨x,u,rfl⟩:=h v (Qv ..)
  exact .cons x u (Zem fun z hz=>h z (Ql _ hz))
section
variable {prog:Program} {w:World} {A:Around} {E:Value→Shared→Prop} {s:Shared} {S:Addr} {ep:Nat} {T:Str→Prop} {o:Obj} {es:Array (Int×Value)} {t:SetTable}
theorem w_sortedSet{Q:Value→Shared→Prop}(hh:A.handled=none)(ho:s.heap.get? S=some o)(H:Zaj w (!w.params.followText "set-order") T o es ep t)
  (q:∀ (ss':List Str) (out:Array Value) (e:Nat) (l:Addr) (h':Heap) (d:Drawn) (tk:Nat),s.heap.objs.size≤l→h'.get? l=some (seqObj "list" out e)→StrsAre out.toList ss'→ss'.Perm (Zbz es)→sortedS ss'=true→Zfu s.heap h'→Q (.ref l) { s with heap:=h',drawn:=d,toks:=tk }) :
  wpAny (model prog w) A (call (.builtin "sorted") [.ref S]) Q E s:=by
 refine Calls.call_function_entry kind_sorted plain_sorted entry_sorted (args_sorted1 (.ref S)) ?_
 refine wpAny_bind (wpAny_pure (wpAny_bind (w_collectSet hh ho H fun vs h1 d tk hp hk hlt=>?_)))
 have hsv:StrsAre vs (vs.map txt):=Zem fun v hv=>by
  obtain⟨e,he,rfl⟩:=Q1.mp (hp.mem_iff.mp hv)
  obtain⟨x,u,e1,_⟩:=H.el e he
  exact⟨x,u,e1⟩
 have hpt:(vs.map txt).Perm (Zbz es):=by
  have:=hp.map txt
  rw[Qaf]at this
  exact this
 have hvl:vs.length=es.size:=by rw[hp.length_eq,Qa,Qh]
 have hvz:vs.length≤sizeLine:=by rw[hvl];exact fits_of_scanBound H.sz
 have hge:s.heap.objs.size≤h1.objs.size:=QaF hlt
 refine wpAny_bind (wpAny_newList ?_ hvz)
 have hoL:(h1.push (seqObj "list" vs.toArray 0)).get? h1.objs.size=some (seqObj "list" vs.toArray 0):=Qq _ rfl
 have hsz:(h1.push (seqObj "list" vs.toArray 0)).objs.size=h1.objs.size+1:=Qan _ _
 have keep:∀ (out:Array Value),Zfu s.heap (sortedHeap (h1.push (seqObj "list" vs.toArray 0)) h1.objs.size vs out):=fun out b o e=>by
  have e1:=hk b o e
  have hb:=Qk e1
  rw[sortedHeap_old (Qs hb) (by rw[hsz];exact QS hb)]
  exact Qb _ e1
 show wpAny _ _ (holding [.ref h1.objs.size] (call (.builtin "list.sort") [.ref h1.objs.size]) >>= fun _=>ret (.ref h1.objs.size)) _ _ _
 refine wpAny_bind (wpAny_holding (wpAny_call_entry slot_list_sort ⟨_,hoL,rfl⟩ entry_list_sort ?_ (args_list_sort _)))
 by_cases h2:vs.length<2
 ·refine w_sort0 hoL h2 ⟨_,rfl,wpAny_pure ⟨_,rfl,?_⟩⟩
  obtain⟨e,he⟩:=sortedHeap_at (vs:=vs) (out:=(pairsOf vs).map fun x=>x.snd) (n:=0) hoL
  refine q (vs.map txt) _ e _ _ d tk hge he ?_ hpt ?_ (keep _)
  ·rw[Array.toList_map,pairsOf_toList,List.map_snd_zip (Qj _)];exact hsv
  ·cases vs with
   | nil=>rfl
   | cons a r =>
    obtain rfl:r=[]:=Qt (by simp only[List.length_cons]at h2;omega)
    rfl
 ·refine w_sortA (κ:=strKind) hoL hsv.keysOf (by omega) hvz (fun s' hk' E' Q' q'=>?_) fun st' p1 p3=>?_
  ·obtain⟨v1,v2,r,rfl⟩:∃v1 v2 r,vs=v1::v2::r:=by
    cases vs with
    | nil=>exact absurd (by simp) h2
    | cons a b=>cases b with
     | nil=>exact absurd (by simp) h2
     | cons c d=>exact⟨a,c,d,rfl⟩
   rw[keyKind_strs hsv]
   refine wpAny_pure (q' _ fun E2 x y a b Q2 hx hy hh=>?_)
   rw[keyLt'_oneType]
   exact strKind_oneLt _ _ _ _ _ x y a b hx hy hh
  ·obtain⟨ss',a1,a2,a3⟩:=sorted_out_str hsv p1 p3
   obtain⟨e,he⟩:=sortedHeap_at (vs:=vs) (out:=(arrOf st').map fun x=>x.snd) (n:=0) hoL
   exact⟨_,rfl,wpAny_pure ⟨_,rfl,q ss' _ e _ _ d tk hge he a1 (a2.trans hpt) a3 (keep _)⟩⟩
end
end L2
set_option maxHeartbeats 4000000
namespace L2
open PySem PySem.Spec PyProof.Rows
theorem Zgw:bootBuiltins "set" = some (.type "set"):=by rfl
def Zg7(K:PySem.W.Frag)(te:TE):TE:=fun σ H Q=>te σ H fun x H1=>∃ (a:Addr) (ss:List Str),x=.ref a∧SqL K H1 a (ss.map V.str)∧ss.length≤1000 ∧
 ∀ (l:Addr) (ss':List Str),H1 l=none→ss'.Nodup→(∀y,y∈ss'↔y∈ss)→sortedS ss'=true→Q (.ref l) (upd H1 l (.lst (ss'.map V.str)))
theorem ZfE{X:Cx}{e:Expr}{te:TE}{p1 p2 q1 q2:Pos}(K:PySem.W.Frag)(hc:X.calm=true)(hg:Gl X "sorted")(hm:X.mg "sorted" = none)(hg2:Gl X "set")(hm2:X.mg "set" = none)(hpe:PE X e te)(hK:X.K=K:=by rfl)
  (he:starEach [.Call (.Name "set" p2) [e] [] q2] X.env=[(false,eval (.Call (.Name "set" p2) [e] [] q2) X.env)]:=by rfl) (he2:starEach [e] X.env=[(false,eval e X.env)]:=by rfl) :
  PE X (.Call (.Name "sorted" p1) [.Call (.Name "set" p2) [e] [] q2] [] q1) (Zg7 K te):=by
 subst hK
 intro pins s σ H Q I h
 refine wpAny_Call_Name_kw (Zb4 I hg hm boot_sorted ?_ (by decide) (by decide))
 refine PyProof.Rows.callWith_builtin1 (e:=.Call (.Name "set" p2) [e] [] q2) (rest:=[]) ?_ he rfl
 rw[he]
 refine Calls.spliced_cons ?_
 refine wpAny_Call_Name_kw (Zb4 I hg2 hm2 Zgw ?_ (by decide) (by decide))
 refine Qak (e:=e) (rest:=[]) ?_ he2 rfl
 rw[he2]
 refine Calls.spliced_cons (thn (hpe pins s σ H _ I h) ?_)
 rintro v s1 ⟨x,H1,I1,r1,q1⟩
 refine Calls.spliced_nil ?_
 obtain⟨a,ss,rfl,hq,hn,q⟩:=q1
 cases r1
 obtain⟨its,rv,pl,hz⟩:=I1.list hq
 have hlen:=rv.length
 rw[Qa]at hlen
 refine w_setOf (I1.ok.hd hc) pl.isList (Zby rv) (by rw[Qm];show its.length+1<4096;omega) fun h' tk hS hk=>?_
 refine Calls.spliced_nil ?_
 obtain⟨o,es,ep,t,ho,HS,_⟩:=hS
 refine w_sortedSet (s:={ s1 with heap:=h',toks:=tk }) (I1.ok.hd hc) ho HS fun ss' out e l h2 d tk2 hge hl hst hperm hsrt hk2=>?_
 have hgl:s1.heap.objs.size≤l:=Q9 (QaF (Qk ho)) hge
 have hsl:ss'.length≤sizeLine:=by
  rw[hperm.length_eq]
  unfold Zbz
  rw[Qa,Qh]
  exact fits_of_scanBound HS.sz
 have I2:=I1.laid (a:=l) (o:=.lst (ss'.map V.str)) (h':=h2) (t':=tk2) (fun b o e=>hk2 b o (hk b o (Qk e) e)) hgl ⟨by rw[Qa];exact hsl,out.toList,e,ZbX hst,by simpa using hl⟩
 exact⟨.ref l,_,⟨I2.ok,I2.os,I2.bare,I2.base,I2.loc,I2.cell,I2.free,I2.freeC,I2.pin,I2.hok,I2.len⟩,rfl,q l ss' (I1.hok.fresh hgl) (hperm.nodup_iff.mpr HS.nd) (fun y=>hperm.mem_iff.trans (HS.me y).symm) hsrt⟩
end L2
set_option maxHeartbeats 4000000
namespace My
open PySem L2 PyProof.Rows
abbrev Ztl:=@List.tail Stmt
abbrev Zt2(x:List Stmt):=Ztl (Ztl x)
abbrev Zt4(x:List Stmt):=Zt2 (Zt2 x)
abbrev Zt8(x:List Stmt):=Zt4 (Zt4 x)
abbrev Zt16(x:List Stmt):=Zt8 (Zt8 x)
abbrev Zt32(x:List Stmt):=Zt16 (Zt16 x)
local macro_rules|`(‹$i:num›)=>`(@pv _ $i _ _ (by rfl) (Or.inl rfl) (by decide) (by decide))
local macro_rules|`(tactic|trivial)=>`(tactic|first|exact .inl rfl|exact .inr rfl|decide|exact Nat.le_refl _|omega)
local macro_rules
|`(#[Xns,$a,$b,$c])=>`(PySem.W.nsIn $a mainGlobals $b=some (some (.ref $c)))
|`(#[Xlk,$z,$a,$b,$c,$d,$e,$f,$g,$h,$i,$j,$k,$l,$m])=>`(($z).lookup $a=some ⟨$b,$c,.func (PySem.W.fnOf $d $e (Zr $f) (Zo $f) (Zg $f) .none $g $h $i $j $k $l),$m⟩)
|`(#[Xci,$a,$b,$c])=>`(PySem.W.codeIn $a $b $c=true)
|`(#[Xki,$a,$b])=>`(PySem.W.keepIn $a (.ref $b)=true)
|`(#[Zi,$a,$b])=>`(@Zi _ _ _ _ _ $a $b)
|`(#[ZL,$a,$b,$c,$d])=>`(@ZL _ _ $a _ _ _ _ $b rfl $c $d (by rfl) (by trivial))
|`(#[ZD,$a,$b,$c])=>`(@ZD _ _ _ _ _ _ _ _ $a $b $c)
|`(#[Zh])=>`(@Zh _ _ _ _)
|`(#[Zk,$a])=>`(@Zk _ _ _ $a)
|`(#[Zu,$a])=>`(@Zu _ _ _ _ $a)
|`(#[Zn,$a,$b,$c,$d])=>`(@Zn _ _ _ _ _ _ _ _ $a $b $c $d)
|`(#[Zj,$a,$b,$c,$d,$e])=>`(@Zj _ _ _ _ _ _ _ _ _ $a $b $c $d $e (by decide) (by decide) (by rfl) (by rfl))
|`(#[Za,$a,$b])=>`(@Za _ _ _ _ _ $a $b (by rfl))
|`(#[Zd])=>`(@Zd _)
|`(#[ZZ,$a,$b,$c])=>`(@ZZ _ _ _ _ _ _ _ $a $b $c (fun _ _=>rfl))
|`(#[Z4,$a])=>`(@Z4 _ _ _ _ $a)
|`(#[ZaU,$a,$b,$c,$d])=>`(@ZaU _ _ _ _ _ _ _ _ _ $a (by rfl) $b $c $d (by decide) (by decide) (by rfl) (by rfl))
|`(#[ZeR,$a,$b])=>`(@ZeR _ _ _ _ _ _ $a $b (by rfl) (by rfl) (by rfl))
|`(#[ZaC,$a,$b,$c])=>`(@ZaC _ _ _ _ _ _ _ _ $a $b $c)
|`(#[Zx,$a,$b,$c,$d])=>`(@Zx _ _ _ _ _ _ _ _ _ _ _ $a $b $c (by trivial) $d (by decide) (by rfl) (by rfl))
|`(#[Zah])=>`(@Zah _ _ _ _)
|`(#[Zbr,$a,$b,$c,$d,$e])=>`(@Zbr _ _ _ _ _ _ _ _ _ _ _ _ _ _ $a rfl rfl rfl $b $c $d $e (by intro _;rfl))
|`(#[ZaW,$a,$b])=>`(@ZaW _ _ _ _ _ _ rfl $a $b (by rfl))
|`(#[pv,$a,$b])=>`(@pv _ $a _ _ (by rfl) $b (by decide) (by decide))
|`(#[cg,$a,$b])=>`(@cg _ _ _ _ _ _ _ _ _ _ _ $a $b rfl (by ac_rfl) (by rfl))
|`(#[cv,$a,$b])=>`(@cv _ _ _ _ _ _ _ _ _ _ _ $a $b rfl (by ac_rfl) (by rfl) (by decide) (by decide))
|`(#[ZbN,$a,$b,$c,$d,$e,$f])=>`(@ZbN _ _ _ _ _ _ _ _ _ _ _ _ $a $b $c $d $e $f (by rfl) (by rfl) (by rfl) (by rfl) (by rfl))
|`(#[Zbw,$a,$b])=>`(@Zbw _ _ _ _ _ _ _ $a $b)
|`(#[Zcw,$a,$b])=>`(@Zcw _ _ _ _ _ _ $a $b)
|`(#[Zdx,$a,$b,$c,$d])=>`(@Zdx _ _ _ _ _ _ _ _ $a rfl $b $c $d (by intro _;rfl))
|`(#[Zay,$a,$b])=>`(@Zay _ _ $a _ $b rfl (Or.inl rfl) (by trivial))
|`(#[neD,$a,$b])=>`(@neD _ $a _ $b (by rfl))
|`(#[ZaI,$a])=>`(@ZaI _ _ _ _ $a (by rfl))
|`(#[Zbf,$a,$b,$c,$d])=>`(@Zbf _ _ _ _ _ _ _ _ _ _ $a $b $c $d)
|`(#[gT,$a,$b,$c])=>`(@gT _ $a _ _ _ $b _ $c (by rfl) (by rfl) (by rfl) (by rfl))
|`(#[Zaf,$a,$b])=>`(@Zaf _ _ _ _ _ $a $b (by rfl))
|`(#[ZcB,$a,$b,$c,$d,$e,$f,$g])=>`(@ZcB _ _ _ _ _ $a _ _ _ _ _ _ _ _ _ _ _ _ $b rfl (Or.inl rfl) $c rfl rfl rfl $d $e $f $g (by rfl) (by intro _;rfl) (by trivial))
|`(#[cw,$a,$b])=>`(@cw _ _ _ _ _ _ _ _ _ _ _ $a $b rfl (by ac_rfl) (by rfl) (by decide) (by decide))
|`(#[iL,$a,$b])=>`(@iL _ $a _ _ _ $b (by rfl))
def hdS:List Stmt→Stmt
 | a::_=>a
 | []=>.Pass ⟨0,0,0,0⟩
abbrev Zai:List Stmt:=PySem.Challenge.pw_mergetree_k32_how_long_runs_are.main.body
abbrev Zbi:Stmt:=hdS (Ztl Zai)
abbrev Zbj:Stmt:=hdS (Zt2 Zai)
abbrev Zaa:Stmt:=hdS (Zt2 (Ztl Zai))
abbrev Zat:Stmt:=hdS (Zt4 Zai)
abbrev Zag:Stmt:=hdS (Zt4 (Zt2 Zai))
abbrev Zar:Stmt:=hdS (Zt4 (Zt2 (Ztl Zai)))
abbrev Z9:Stmt:=hdS (Zt8 Zai)
abbrev Zbg:Stmt:=hdS (Zt8 (Zt2 Zai))
abbrev ZaX:Stmt:=hdS (Zt8 (Zt2 (Ztl Zai)))
abbrev ZaV:Stmt:=hdS (Zt8 (Zt4 Zai))
abbrev Zal:Stmt:=hdS (Zt8 (Zt4 (Ztl Zai)))
abbrev ZaS:Stmt:=hdS (Zt8 (Zt4 (Zt2 Zai)))
abbrev Zav:Stmt:=hdS (Zt8 (Zt4 (Zt2 (Ztl Zai))))
abbrev Za2:Stmt:=hdS (Zt16 Zai)
abbrev ZP:Stmt:=hdS (Zt16 (Ztl Zai))
abbrev ZA:Stmt:=hdS (Zt16 (Zt2 Zai))
abbrev Zs:Stmt:=hdS (Zt16 (Zt2 (Ztl Zai)))
abbrev Za7:Stmt:=hdS (Zt16 (Zt4 Zai))
theorem ZdX:Zy ["_law_cell", "_law_k", "_law_m"] ["_law_cell", "_law_k"] (Zg Zbg):=⟨rfl,rfl,rfl,by ac_rfl,rfl,by ac_rfl,by ac_rfl⟩
theorem Zds:Zy ["_law_script", "_law_k", "_law_cell"] ["_law_script", "_law_k"] (Zg ZaX):=⟨rfl,rfl,rfl,by ac_rfl,rfl,by ac_rfl,by ac_rfl⟩
theorem Zc8:Zy ["_law_left_here", "_law_many", "_law_digit"] ["_law_left_here", "_law_many"] (Zg ZaV):=⟨rfl,rfl,rfl,by ac_rfl,rfl,by ac_rfl,by ac_rfl⟩
theorem Zcm:Zy ["_law_left_here", "_law_some"] ["_law_left_here"] (Zg Zal):=⟨rfl,rfl,rfl,by ac_rfl,rfl,by ac_rfl,by ac_rfl⟩
theorem Zel:Zy ["_law_left_here", "_law_stems_here", "_law_tail"] ["_law_left_here", "_law_stems_here"] (Zg ZaS):=⟨rfl,rfl,rfl,by ac_rfl,rfl,by ac_rfl,by ac_rfl⟩
theorem ZaM:Zy ["one", "other", "far", "at"] ["one", "other", "far"] (Zg Zaa):=⟨rfl,rfl,rfl,by ac_rfl,rfl,by ac_rfl,by ac_rfl⟩
theorem Zgb:Zy ["one", "other"] ["one", "other"] (Zg Zbi):=⟨rfl,rfl,rfl,by ac_rfl,rfl,by ac_rfl,by ac_rfl⟩
theorem Zd3:Zy ["one", "other", "at"] ["one", "other", "at"] (Zg Zat):=⟨rfl,rfl,rfl,by ac_rfl,rfl,by ac_rfl,by ac_rfl⟩
theorem Zf2:Zy ["one", "other"] ["one", "other"] (Zg Zbj):=⟨rfl,rfl,rfl,by ac_rfl,rfl,by ac_rfl,by ac_rfl⟩
theorem ZN:Zy ["_law_left_here", "_law_stems_here", "_law_many", "_law_found", "_law_k", "_law_key_here", "_law_way", "_law_cut"] ["_law_left_here"] (Zg Zav):=⟨rfl,rfl,rfl,by ac_rfl,rfl,by ac_rfl,by ac_rfl⟩
theorem Zaw:Zy ["things", "runs", "number", "key"] ["things"] (Zg Zag):=⟨rfl,rfl,rfl,by ac_rfl,rfl,by ac_rfl,by ac_rfl⟩
theorem Zfn:Zy ["_law_left_here"] ["_law_left_here"] (Zg Za2):=⟨rfl,rfl,rfl,by ac_rfl,rfl,by ac_rfl,by ac_rfl⟩
theorem Zc0:Zy ["run", "key", "comer"] ["run", "key", "comer"] (Zg Z9):=⟨rfl,rfl,rfl,by ac_rfl,rfl,by ac_rfl,by ac_rfl⟩
theorem ZW:Zy ["things", "room", "inside", "next_in", "runs", "goer", "run", "key", "number"] ["things", "room"] (Zg Zar):=⟨rfl,rfl,rfl,by ac_rfl,rfl,by ac_rfl,by ac_rfl⟩
theorem ZcX:Zy ["_law_things_here"] ["_law_things_here"] (Zg ZP):=⟨rfl,rfl,rfl,by ac_rfl,rfl,by ac_rfl,by ac_rfl⟩
theorem ZU:Zy ["_law_things_here", "_law_room_here", "_law_found", "_law_numbers", "_law_part"] ["_law_things_here", "_law_room_here"] (Zg ZA):=⟨rfl,rfl,rfl,by ac_rfl,rfl,by ac_rfl,by ac_rfl⟩
theorem Zac:Zy ["_law_things_here", "_law_room_here", "_law_falling", "_law_found"] ["_law_things_here", "_law_room_here"] (Zg Zs):=⟨rfl,rfl,rfl,by ac_rfl,rfl,by ac_rfl,by ac_rfl⟩
theorem ZcI:Zy ["_law_script", "_law_k", "_law_left_here", "_law_things_here", "_law_room_here", "_law_few"] ["_law_script"] (Zg Za7):=⟨rfl,rfl,rfl,by ac_rfl,rfl,by ac_rfl,by ac_rfl⟩
abbrev zsc(l:List (Str×NameKind)):Scope:={ kind:=.function,names:=l,isGenerator:=false,isCoroutine:=false,more:=[] }
def ZhU:Scope:=zsc [(".0",.«local»),("_law_k",.«local»),("_law_pick",.globalImplicit),("_law_left_here",.free),("_law_some",.free)]
theorem Zgc:ZM ["_law_left_here", "_law_some"] ["_law_left_here", "_law_some", "_law_k"] (Zg Zal) ZhU:=⟨rfl,rfl,by ac_rfl,by ac_rfl,by ac_rfl,by decide,by ac_rfl,by ac_rfl⟩
def Zhe:Scope:=zsc [(".0",.«local»),("_law_k",.«local»),("_law_pick",.globalImplicit),("_law_left_here",.free)]
theorem Zhx:ZM ["_law_left_here", "_law_stems_here", "_law_tail"] ["_law_left_here", "_law_stems_here", "_law_tail", "_law_k"] (Zg ZaS) Zhe:=⟨rfl,rfl,by ac_rfl,by ac_rfl,by ac_rfl,by decide,by ac_rfl,by ac_rfl⟩
def ZhK:Scope:=zsc [(".0",.«local»),("number",.«local»),("things",.free)]
theorem ZgE:ZM ["things", "room", "inside", "next_in", "runs", "goer", "run", "key", "number"] ["things", "room", "inside", "next_in", "runs", "goer", "run", "key", "?number", "number"] (Zg Zar) ZhK:=⟨rfl,rfl,by ac_rfl,by ac_rfl,by ac_rfl,by decide,by ac_rfl,by ac_rfl⟩
def Zhk:Scope:=zsc [(".0",.«local»),("_law_key_here",.«local»),("_law_number",.«local»)]
theorem Zhy:ZM ["_law_things_here"] ["_law_things_here", "_law_key_here", "_law_number"] (Zg ZP) Zhk:=⟨rfl,rfl,by ac_rfl,by ac_rfl,by ac_rfl,by decide,by ac_rfl,by ac_rfl⟩
def ZhW:Scope:=zsc [(".0",.«local»),("_law_number",.«local»),("_law_key_here",.«local»)]
theorem ZgL:ZM ["_law_things_here"] ["_law_things_here", "_law_number", "_law_key_here"] (Zg ZP) ZhW:=⟨rfl,rfl,by ac_rfl,by ac_rfl,by ac_rfl,by decide,by ac_rfl,by ac_rfl⟩
def Zho:Scope:=zsc [(".0",.«local»),("_law_part",.«local»),("len",.globalImplicit),("_law_room_here",.free)]
theorem Zgp:ZM ["_law_things_here", "_law_room_here", "_law_found", "_law_numbers", "_law_part"] ["_law_things_here", "_law_room_here", "_law_found", "_law_numbers", "?_law_part", "_law_part"] (Zg ZA) Zho:=⟨rfl,rfl,by ac_rfl,by ac_rfl,by ac_rfl,by decide,by ac_rfl,by ac_rfl⟩
def Zhn:Scope:=zsc [(".0",.«local»),("_law_part",.«local»),("len",.globalImplicit)]
theorem ZhF:ZM ["_law_things_here", "_law_room_here", "_law_falling", "_law_found"] ["_law_things_here", "_law_room_here", "_law_falling", "_law_found", "_law_part"] (Zg Zs) Zhn:=⟨rfl,rfl,by ac_rfl,by ac_rfl,by ac_rfl,by decide,by ac_rfl,by ac_rfl⟩
def Zg6:Scope:=zsc [(".0",.«local»),("_law_size",.«local»),("_law_room_here",.free)]
theorem Zhc:ZM ["_law_things_here", "_law_room_here", "_law_falling", "_law_found"] ["_law_things_here", "_law_room_here", "_law_falling", "_law_found", "_law_size"] (Zg Zs) Zg6:=⟨rfl,rfl,by ac_rfl,by ac_rfl,by ac_rfl,by decide,by ac_rfl,by ac_rfl⟩
structure Bt (mg:Str→Option Value):Prop where
 n_abs:mg "abs" = none
 n_all:mg "all" = none
 n_enumerate:mg "enumerate" = none
 n_int:mg "int" = none
 n_len:mg "len" = none
 n_list:mg "list" = none
 n_max:mg "max" = none
 n_min:mg "min" = none
 n_range:mg "range" = none
 n_set:mg "set" = none
 n_sorted:mg "sorted" = none
 n_sum:mg "sum" = none
structure Zba (K:PySem.W.Frag) (mg:Str→Option Value):Prop where
 b:Bt mg
 t_alike:Top K mg "alike" Zbi ["one", "other"]
 t_liken:Top K mg "liken" Zbj ["one", "other"]
 t_alike_from:Top K mg "alike_from" Zaa ["one", "other", "far"]
 t_order_at:Top K mg "order_at" Zat ["one", "other", "at"]
 t_stretches:Top K mg "stretches" Zag ["things"]
 t_runs_of:Top K mg "runs_of" Zar ["things", "room"]
 t_run_behind:Top K mg "run_behind" Z9 ["run", "key", "comer"]
 t_l_mix:Top K mg "_law_mix" Zbg ["_law_cell", "_law_k"]
 t_l_left:Top K mg "_law_left" ZaX ["_law_script", "_law_k"]
 t_l_pick:Top K mg "_law_pick" ZaV ["_law_left_here", "_law_many"]
 t_l_stems:Top K mg "_law_stems" Zal ["_law_left_here"]
 t_l_key:Top K mg "_law_key" ZaS ["_law_left_here", "_law_stems_here"]
 t_l_things:Top K mg "_law_things" Zav ["_law_left_here"]
 t_l_room:Top K mg "_law_room" Za2 ["_law_left_here"]
 t_l_in_order:Top K mg "_law_in_order" ZP ["_law_things_here"]
 t_l_lengths_right:Top K mg "_law_lengths_right" ZA ["_law_things_here", "_law_room_here"]
 t_l_falling_right:Top K mg "_law_falling_right" Zs ["_law_things_here", "_law_room_here"]
def Z7(H:Hp)(p:Addr)(c:Int):Prop:=∃a b:Int,H p=some (.lst [.int a,.int b,.int c])∧0≤c
def But(p:Addr)(H H':Hp):Prop:=∀b o,H b=some o→b≠p→H' b=some o
theorem But.trans{p:Addr}{H H1 H2:Hp}(a:But p H H1)(b:But p H1 H2):But p H H2:=fun c o h n=>b c o (a c o h n) n
theorem But.same{p:Addr}{H H1:Hp}(a:ZH H H1):But p H H1:=fun c o h _=>a c o h
theorem Zf{H:Hp}{p:Addr}(h:H p=none)(o:HO):ZH H (upd H p o):=fun b u q=>by rw[Ze (Zb q h)];exact q
theorem ZaP{n:Nat}(h:n≤1000):n≤sizeLine:=QaF (Zm h)
def ZgY:Sp:=fun vs H Q _=>∃a k:Int,vs=[.int a,.int k] ∧ -(2 ^ 62)<k∧k<2 ^ 62∧∀r:Int,0≤r→r<2000000000→Q (.int r) H
def Zgu(K:PySem.W.Frag):Sp:=fun vs H Q _=>∃ (a:Addr) (ns:List Int) (k:Int),vs=[.ref a,.int k]∧SqL K H a (ns.map V.int)∧ns.length≤63∧0≤k∧k<100 ∧
 ∀ (p:Addr) (H':Hp),H p=none→Z7 H' p 0→ZH H H'→Q (.ref p) H'
def Zb3:Sp:=fun vs H Q _=>∃ (p:Addr) (c m:Int),vs=[.ref p,.int m]∧Z7 H p c∧c<2 ^ 60∧0<m∧m<1000000 ∧
 ∀ (r:Int) (H':Hp),0≤r→r<m→Z7 H' p (c+1)→But p H H'→Q (.int r) H'
theorem Zir{ns:List Int}{k:Int}(h0:0≤k)(h:k<(ns.length:Int)):∃v:Int,atI (ns.map V.int) k=some (.int v):=by
 have hk:k.toNat<ns.length:=by omega
 have ek:k=((k.toNat:Nat):Int):=by omega
 have q:atI (ns.map V.int) ((k.toNat:Nat):Int)=some (.int ns[k.toNat]):=ZaH (by rw[Qn,Qd hk]<;>rfl)
 rw[← ek]at q
 exact⟨_,q⟩
theorem ZeK{ss:List Str}{k:Int}(h0:0≤k)(h:k<(ss.length:Int)):∃s∈ss,atI (ss.map V.str) k=some (.str s):=by
 have hk:k.toNat<ss.length:=by omega
 have ek:k=((k.toNat:Nat):Int):=by omega
 have q:atI (ss.map V.str) ((k.toNat:Nat):Int)=some (.str ss[k.toNat]):=ZaH (by rw[Qn,Qd hk]<;>rfl)
 rw[← ek]at q
 exact⟨_,QI hk,q⟩
theorem ZhY(b:Bool):-(2 ^ 64)<(if b=true then (1:Int) else 0)∧(if b=true then (1:Int) else 0)<2 ^ 64:=by cases b<;>decide
theorem ZbT{z:Str}{k:Int}(h0:0≤k)(h:k<(z.length:Int)):∃c:Nat,z.cps.toList[k.toNat]? = some c∧atI z.cps.toList k=some c:=by
 have hl:z.cps.toList.length=z.length:=by simp[Str.length]
 have hk:k.toNat<z.cps.toList.length:=by omega
 have ek:k=((k.toNat:Nat):Int):=by omega
 have q:atI z.cps.toList ((k.toNat:Nat):Int)=some z.cps.toList[k.toNat]:=ZaH (Qd hk)
 rw[← ek]at q
 exact⟨_,Qd hk,q⟩
theorem Zgl(sep:Str)(ys:List Str):(Txt.join sep ys).length≤(ys.map (·.length)).sum+ys.length*sep.length:=by
 have e:Txt.join sep ys=Str.join sep ys:=by simpa using join_plain_closes sep ys
 rw[e]
 exact StrLaws.join_length_le sep ys
theorem Zes:∀ss:List Str,(∀s∈ss,s.length≤1)→(ss.map (·.length)).sum≤ss.length
 | [],_=>Qj _
 | s::r,h=>by
  have h1:=h s Qv
  have h2:=Zes r fun x hx=>h x (Ql _ hx)
  rw[Qw,List.sum_cons,QP]
  omega
def lcp:List Nat→List Nat→Nat
 | a::r,b::s=>if a=b then lcp r s+1 else 0
 | _,_=>0
theorem ZdH:∀ (x y:List Nat),lcp x y≤x.length∧lcp x y≤y.length
 | [],_=>⟨Qx _,Qx _⟩
 | _::_,[]=>⟨Qx _,Qx _⟩
 | a::r,b::s=>by
  have h:=ZdH r s
  unfold lcp
  split
  ·exact⟨Nat.succ_le_succ h.1,Nat.succ_le_succ h.2⟩
  ·exact⟨Qx _,Qx _⟩
theorem Zf7:∀ (x y:List Nat) (k:Nat),k≤lcp x y→∀a,x[k]? = some a→y[k]? = some a→k+1≤lcp x y
 | [],_,k,_,a,h,_=>by simp at h
 | _::_,[],k,_,a,_,h=>by simp at h
 | a::r,b::s,0,_,c,h1,h2=>by
  simp at h1 h2
  unfold lcp
  rw[if_pos (by rw[h1,h2])]
  omega
 | a::r,b::s,k+1,h,c,h1,h2=>by
  unfold lcp at h ⊢
  by_cases e:a=b
  ·rw[if_pos e]at h ⊢
   have:=Zf7 r s k (by omega) c (by simpa using h1) (by simpa using h2)
   omega
  ·rw[if_neg e]at h;omega
theorem ZgB:∀ (x y:List Nat) (k:Nat),k<lcp x y→x[k]? = y[k]?
 | [],_,k,h=>by unfold lcp at h;omega
 | _::_,[],k,h=>by unfold lcp at h;omega
 | a::r,b::s,0,h=>by
  unfold lcp at h
  by_cases e:a=b
  ·simp[e]
  ·rw[if_neg e]at h;omega
 | a::r,b::s,k+1,h=>by
  unfold lcp at h
  by_cases e:a=b
  ·rw[if_pos e]at h
   simpa using ZgB r s k (by omega)
  ·rw[if_neg e]at h;omega
theorem ZdL(x y:List Nat)(k:Nat)(h:k≤lcp x y)(n:x.length≤k∨y.length≤k∨∃a b,x[k]? = some a∧y[k]? = some b∧a≠b):lcp x y=k:=by
 have l:=ZdH x y
 rcases n with n|n|⟨a,b,h1,h2,ne⟩
 ·omega
 ·omega
 ·by_cases q:k<lcp x y
  ·have:=ZgB x y k q
   rw[h1,h2]at this
   exact absurd (QC this) ne
  ·omega
abbrev cds(z:Str):List Nat:=z.cps.toList
def AZ(z:Str):Prop:=∀c∈cds z,97≤c∧c≤122
theorem ZhL(x y:Str):cds (x++y)=cds x++cds y:=by
 show (x++y).cps.toList=_
 rw[PySem.Str.cps_append]
 simp
theorem AZ.app{x y:Str}(a:AZ x)(b:AZ y):AZ (x++y):=fun c h=>by
 rw[ZhL]at h
 exact(Qf.mp h).elim (a c) (b c)
theorem AZ.nil:AZ "":=by unfold AZ cds;ac_rfl
theorem AZ.join:∀ys:List Str,(∀s∈ys,AZ s)→AZ (Str.join "" ys)
 | [],_=>fun c h=>by cases (show c∈([]:List Nat) from h)
 | [x],h=>h x (by simp)
 | x::y::r,h=>((h x (by simp)).app AZ.nil).app (AZ.join (y::r) fun s hs=>h s (Ql _ hs))
theorem AZ.joinT(ys:List Str)(h:∀s∈ys,AZ s):AZ (Txt.join "" ys):=by
 have e:Txt.join "" ys=Str.join "" ys:=by simpa using join_plain_closes "" ys
 rw[e]
 exact AZ.join ys h
theorem AZ.one{z:Str}(a:AZ z){k:Nat}{c:Nat}(h:z.cps.toList[k]? = some c):AZ ⟨#[c]⟩:=fun d hd=>by
 have e:d=c:=by simpa using hd
 rw[e]
 exact a c (QG h)
theorem AZ.ok{z:Str}(a:AZ z):PyData.strOk z=true:=by
 unfold PyData.strOk
 rw[Array.all_eq_true]
 intro i hi
 have:=a z.cps[i] (by simp)
 exact decide_eq_true (by omega)
theorem Zid:AZ "ababcz":=by unfold AZ cds;ac_rfl
def Zfk:Sp:=fun vs H Q _=>∃x y:Str,vs=[.str x,.str y]∧x.length≤1000∧y.length≤1000∧Q (.int (lcp (cds x) (cds y))) H
def Zb5:Sp:=fun vs H Q _=>∃ (x y:Str) (far:Nat),vs=[.str x,.str y,.int far]∧x.length≤1000∧y.length≤1000∧far≤lcp (cds x) (cds y)∧Q (.int (lcp (cds x) (cds y))) H
def IsD(H:Hp):Nat→V→V→Prop
 | 0,_,_=>False
 | n+1,x,y=>(x=y∧(x=.non∨(∃b,x=.bl b)∨(∃i,x=.int i)∨∃s,x=.str s)) ∨
   (∃ (p q:Addr) (xs ys:List V),x=.ref p∧y=.ref q∧((H p=some (.lst xs)∧H q=some (.lst ys))∨(H p=some (.tup xs)∧H q=some (.tup ys)))∧xs.length=ys.length∧xs.length≤1000∧∀ (i:Nat) (x y:V),xs[i]? = some x→ys[i]? = some y→IsD H n x y)
section
variable (K:PySem.W.Frag)
open PySem.W
end
section
variable {P:Program} {w:World} {K:PySem.W.Frag} {mg:Str→Option Value} {base:Heap}
theorem ZiD(T:Zba K mg):Df P w K mg base 1 "_law_mix" ["_law_cell", "_law_k"] ZgY:=by
 refine T.t_l_mix.df ZdX (fun vs H Q E h=>?_) (fun cdv f A outer s H vs Q E hr h=>?_)
 ·obtain⟨a,k,rfl,_⟩:=h
  rfl
 obtain⟨a,k,rfl,k1,k2,q⟩:=h
 refine⟨_,#[Zi,#[ZL,2,ZdX.nd,(Or.inl rfl),#[ZD,ZcQ,#[ZD,ZbU,#[ZD,Zak,#[ZD,Zak,#[ZD,ZcQ,‹0›,#[Zh]],#[ZD,ZbU,#[ZD,ZbU,‹1›,‹1›],#[Zh]]],#[Zh]],#[Zh]],#[Zh]]],#[Zk,#[Zu,#[ZD,ZcQ,#[ZD,ZbU,‹2›,‹2›],#[Zh]]]]],?_⟩
 refine⟨_,rfl,_,_,rfl,rfl,(by show (0:Int)<_;decide),_,rfl,_,rfl,_,_,rfl,rfl,.inl ⟨by omega,by omega⟩,_,_,rfl,rfl,.inr ⟨by decide,by decide⟩,_,_,rfl,rfl,_,_,rfl,rfl,_,_,rfl,rfl,.inr ⟨by decide,by decide⟩,_,_,rfl,rfl,(by show (0:Int)<_;decide),?_⟩
 have m0:=Int.emod_nonneg ((a % 2147483629+k*k*7919+11)*48271) (show (2147483647:Int)≠0 by decide)
 have m1:=QaQ ((a % 2147483629+k*k*7919+11)*48271) (show (0:Int)<2147483647 by decide)
 refine⟨_,rfl,_,rfl,_,_,rfl,rfl,.inl ⟨by omega,by omega⟩,_,_,rfl,rfl,(by show (0:Int)<_;decide),?_⟩
 exact q _ (Int.emod_nonneg _ (by decide)) (Int.lt_trans (QaQ _ (by decide)) (by decide))
theorem Zha(T:Zba K mg):Df P w K mg base 1 "_law_left" ["_law_script", "_law_k"] (Zgu K):=by
 refine T.t_l_left.df Zds (fun vs H Q E h=>?_) (fun cdv f A outer s H vs Q E hr h=>?_)
 ·obtain⟨a,ns,k,rfl,_⟩:=h
  rfl
 obtain⟨a,ns,k,rfl,hS,h63,k0,k1,q⟩:=h
 refine⟨_,#[Zi,#[ZL,2,Zds.nd,(Or.inl rfl),(@ZcL _ _ _ _ _ _ _ _ #[Zn,Zfe,‹1›,#[Zj,(ZbF K),(by rfl),T.b.n_len,QB,#[Za,‹0›,#[Zd]]],(Zq _)] #[ZZ,(ixL K),‹0›,‹1›] #[Zh])],#[Zk,#[Zu,#[Z4,#[Za,#[ZD,ZbU,#[Zj,ZdV,(by rfl),T.b.n_abs,boot_abs,#[Za,‹2›,#[Zd]]],#[ZaU,Zfv,T.b.n_int,boot_int,#[Za,(@ZbS _ _ _ _ _ _ _ _ ZfU #[Zj,ZdV,(by rfl),T.b.n_abs,boot_abs,#[Za,‹2›,#[Zd]]] #[ZD,ZiJ,#[Zh],#[Zh]] (Zq _)),#[Zd]]]],#[Za,#[ZD,Zak,‹2›,#[ZD,ZbU,#[Zh],‹1›]],#[Za,#[Zh],#[Zd]]]]]]]],?_⟩
 have hl:(ns.map V.int).length=ns.length:=Qa _
 have pw:Zi0 10 18:=⟨by decide,by decide,by decide⟩
 refine⟨_,rfl,_,rfl,a,_,rfl,.inl hS,_,_,rfl,rfl,_,rfl,?_⟩
 refine Zbb (fun c=>?_) (fun c=>?_)
 ·have c':k<(((ns.map V.int).length:Nat):Int):=of_decide_eq_true c
  rw[hl]at c'
  obtain⟨v,hv⟩:=Zir (ns:=ns) k0 c'
  refine⟨_,rfl,_,rfl,a,_,_,_,rfl,rfl,hS,hv,?_⟩
  refine⟨_,rfl,_,rfl,_,rfl,_,rfl,_,_,rfl,rfl,pw,_,_,rfl,rfl,.inr ⟨_,rfl,_,_,rfl,rfl,.inr (ZhY _),_,rfl,_,rfl,_,_,rfl,rfl,.inl ⟨by decide,by decide⟩,_,_,rfl,rfl,(by show 3≤sizeLine;decide),fun p hp=>?_⟩⟩
  exact q p _ hp ⟨_,_,Zc,Int.le_refl _⟩ (Zf hp _)
 ·refine⟨_,rfl,_,rfl,_,rfl,_,rfl,_,_,rfl,rfl,pw,_,_,rfl,rfl,.inr ⟨_,rfl,_,_,rfl,rfl,.inr (ZhY _),_,rfl,_,rfl,_,_,rfl,rfl,.inl ⟨by decide,by decide⟩,_,_,rfl,rfl,(by show 3≤sizeLine;decide),fun p hp=>?_⟩⟩
  exact q p _ hp ⟨_,_,Zc,Int.le_refl _⟩ (Zf hp _)
theorem Zhg(T:Zba K mg)(f_l_mix:Df P w K mg base 1 "_law_mix" ["_law_cell", "_law_k"] ZgY):Df P w K mg base 2 "_law_pick" ["_law_left_here", "_law_many"] Zb3:=by
 refine T.t_l_pick.df Zc8 (fun vs H Q E h=>?_) (fun cdv f A outer s H vs Q E hr h=>?_)
 ·obtain⟨p,c,m,rfl,_⟩:=h
  rfl
 obtain⟨p,c,m,rfl,⟨a,b,hp,c0⟩,c1,m0,m1,q⟩:=h
 refine⟨_,#[Zi,#[ZeR,#[ZD,Zak,#[ZZ,(ixL K),‹0›,#[Zh]],#[Zh]],(@Zgj _ _ _ _ _ _ _ ‹0› #[Zh] Zee (by intro _;rfl))],#[Zi,#[ZaC,#[Zn,Zf8,#[ZZ,(ixL K),‹0›,#[Zh]],#[Zh],(Zq _)],#[Zi,#[ZL,2,Zc8.nd,(Or.inl rfl),#[ZD,ZcQ,#[ZZ,(ixL K),‹0›,#[Zh]],‹1›]],#[Zi,#[ZeR,#[ZD,ZdP,#[ZZ,(ixL K),‹0›,#[Zh]],‹1›],(@Zgj _ _ _ _ _ _ _ ‹0› #[Zh] Zee (by intro _;rfl))],#[Zk,#[Zu,‹2›]]]],(@ZY _)],#[Zk,#[Zu,#[ZD,ZcQ,#[ZD,ZdP,#[Zx,f_l_mix,hr,#[Za,#[Zx,f_l_mix,hr,#[Za,#[ZZ,(ixL K),‹0›,#[Zh]],#[Za,#[ZZ,(ixL K),‹0›,#[Zh]],#[Zd]]],(by rfl)],#[Za,#[ZD,Zak,#[ZZ,(ixL K),‹0›,#[Zh]],#[Zh]],#[Zd]]],(by rfl)],#[Zh]],‹1›]]]]],?_⟩
 have u1:(upd H p (.lst [.int a,.int b,.int (c+1)])) p=some (.lst [.int a,.int b,.int (c+1)]):=Zc
 refine⟨_,rfl,p,_,_,_,rfl,rfl,SqL.of hp,rfl,_,_,rfl,rfl,_,rfl,p,_,_,2,rfl,rfl,hp,rfl,?_⟩
 refine⟨_,rfl,p,_,_,_,rfl,rfl,SqL.of u1,rfl,_,_,rfl,rfl,_,rfl,?_⟩
 refine Zbb (fun d=>?_) (fun d=>?_)
 ·refine⟨_,rfl,p,_,_,_,rfl,rfl,SqL.of u1,rfl,_,rfl,_,_,rfl,rfl,m0,?_⟩
  refine⟨_,rfl,p,_,_,_,rfl,rfl,SqL.of u1,rfl,_,rfl,_,_,rfl,rfl,⟨m0,by omega⟩,_,rfl,p,_,_,0,rfl,rfl,u1,rfl,?_⟩
  refine⟨_,rfl,?_⟩
  refine q _ _ (Int.emod_nonneg _ (by omega)) (QaQ _ m0) ⟨a / m,b,Zc,by omega⟩ fun e o h n=>?_
  rw[Ze n,Ze n]
  exact h
 ·refine⟨_,rfl,p,_,_,_,rfl,rfl,SqL.of u1,rfl,_,rfl,p,_,_,_,rfl,rfl,SqL.of u1,rfl,_,_,rfl,by omega,by omega,fun r r0 r1=>?_⟩
  refine⟨_,rfl,p,_,_,_,rfl,rfl,SqL.of u1,rfl,_,_,rfl,rfl,_,_,rfl,by omega,by omega,fun r' r0' r1'=>?_⟩
  refine⟨_,_,rfl,rfl,⟨by decide,by decide⟩,_,rfl,_,_,rfl,rfl,m0,?_⟩
  refine q _ _ (Int.emod_nonneg _ (by omega)) (QaQ _ m0) ⟨a,b,Zc,by omega⟩ fun e o h n=>?_
  rw[Ze n]
  exact h
def Zas:List Str:=["", "a", "ab", "aba", "abab", "b", "zebra", "aaaaaaaa", "knowswho", "z", "abababababab",Txt.mul "a" 24]
theorem Zey:∀s∈Zas,s.length≤24:=by ac_rfl
theorem ZeS:∀s∈Zas,AZ s:=by unfold AZ cds;ac_rfl
def Zdw:Sp:=fun vs H Q _=>∃ (p:Addr) (c:Int),vs=[.ref p]∧Z7 H p c∧c<2 ^ 50 ∧
 ∀ (l:Addr) (ss:List Str) (c':Int) (H':Hp),H l=none→H' l=some (.lst (ss.map V.str))→1≤ss.length→ss.length≤4→(∀s∈ss,s.length≤24∧AZ s)→Z7 H' p c'→c≤c'→c'≤c+5→But p H H'→Q (.ref l) H'
def Zf0:Sp:=fun vs H Q _=>∃ (p l:Addr) (c:Int) (ss:List Str),vs=[.ref p,.ref l]∧Z7 H p c∧c<2 ^ 50∧H l=some (.lst (ss.map V.str))∧1≤ss.length∧ss.length≤4∧(∀s∈ss,s.length≤24∧AZ s) ∧
 ∀ (z:Str) (c':Int) (H':Hp),z.length≤28→AZ z→Z7 H' p c'→c≤c'→c'≤c+6→But p H H'→Q (.str z) H'
theorem Zgq(T:Zba K mg)(f_l_pick:Df P w K mg base 2 "_law_pick" ["_law_left_here", "_law_many"] Zb3):Df P w K mg base 3 "_law_stems" ["_law_left_here"] Zdw:=by
 refine T.t_l_stems.df Zcm (fun vs H Q E h=>?_) (fun cdv f A outer s H vs Q E hr h=>?_)
 ·obtain⟨p,c,rfl,_⟩:=h
  rfl
 obtain⟨p,c,rfl,hL,c1,q⟩:=h
 refine⟨_,#[Zi,#[ZL,1,Zcm.nd,(Or.inr rfl),#[Z4,#[Za,#[Zah],#[Za,#[Zah],#[Za,#[Zah],#[Za,#[Zah],#[Za,#[Zah],#[Za,#[Zah],#[Za,#[Zah],#[Za,#[Zah],#[Za,#[Zah],#[Za,#[Zah],#[Za,#[Zah],#[Za,#[ZD,ZhQ,#[Zah],#[Zh]],#[Zd]]]]]]]]]]]]]]],#[Zk,#[Zu,#[Zbr,Zgc,#[ZaW,T.b.n_range,#[Za,#[ZD,Zak,#[Zh],#[Zx,f_l_pick,hr,#[Za,#[pv,0,(Or.inr (Or.inl rfl))],#[Za,#[Zh],#[Zd]]],(by rfl)]],#[Zd]]],(fun _ _ _ _=>#[cg,2,Zgc]),(fun _ _ _ _=>(@ZaG _)),(fun _ _ _ _=>#[ZZ,(ixL K),#[cv,1,Zgc],#[Zx,f_l_pick,hr,#[Za,#[cv,0,Zgc],#[Za,#[Zh],#[Zd]]],(Zbq Zgc rfl (by ac_rfl))]])]]]],?_⟩
 refine⟨_,_,rfl,rfl,by decide,by decide,by decide,(by show 12≤sizeLine;decide),fun l hl=>?_⟩
 have npl:p≠l:=by obtain⟨a,b,hp,_⟩:=hL;exact Zb hp hl
 have hL1:Z7 (upd H l (.lst (Zas.map V.str))) p c:=by obtain⟨a,b,hp,c0⟩:=hL;exact⟨a,b,by rw[Ze npl];exact hp,c0⟩
 refine⟨_,rfl,p,c,_,rfl,hL1,by omega,by decide,by decide,fun r H1 r0 r1 L1 B1=>?_⟩
 refine⟨_,_,rfl,rfl,_,rfl,by omega,by omega,fun D hD=>?_⟩
 have c0:0≤c:=by obtain⟨a,b,hp,c0⟩:=hL;exact c0
 have h1l:H1 l=some (.lst (Zas.map V.str)):=B1 l _ Zc npl.symm
 have npD:p≠D:=by obtain⟨a,b,hp,_⟩:=L1;exact Zb hp hD
 have nlD:l≠D:=Zb h1l hD
 refine ZbB (fun i ys σ H2=>∃ (ss:List Str) (v:Option V) (c2:Int),σ=[some (.ref p),some (.ref l),v]∧ys=ss.map V.str∧ss.length=i∧(∀s∈ss,s.length≤24∧AZ s)∧Z7 H2 p c2∧c+1≤c2∧c2≤c+1+i ∧
   H2 l=some (.lst (Zas.map V.str))∧H2 D=some (.lst ys)∧But p H H2) ?_ ?_ ?_
 ·refine⟨[],none,c+1,rfl,rfl,rfl,(fun s hs=>by cases hs),?_,by omega,by omega,?_,Zc,?_⟩
  ·obtain⟨a,b,hp,q0⟩:=L1
   exact⟨a,b,by rw[Ze npD];exact hp,q0⟩
  ·rw[Ze nlD];exact h1l
  ·intro b o e n
   have e1:(upd H l (.lst (Zas.map V.str))) b=some o:=by rw[Ze (Zb e hl)];exact e
   have e2:=B1 b o e1 n
   rw[Ze (Zb e2 hD)]
   exact e2
 ·rintro i ys σ H2 hi ⟨ss,v,c2,rfl,rfl,hn,hs,L2',b1,b2,hl2,hD2,B2⟩
  refine⟨_,rfl,_,rfl,p,c2,_,rfl,L2',by omega,by decide,by decide,fun r' H3 r0' r1' L3 B3=>?_⟩
  obtain⟨s,hs1,hs2⟩:=ZeK (ss:=Zas) r0' r1'
  have hD3:H3 D=some (.lst (ss.map V.str)):=B3 D _ hD2 npD.symm
  have hl3:H3 l=some (.lst (Zas.map V.str)):=B3 l _ hl2 npl.symm
  refine⟨l,_,_,_,rfl,rfl,SqL.of hl3,hs2,hD3,(by rw[Qa,hn];exact Zm (by omega)),ss++[s],_,c2+1,rfl,?_,?_,?_,?_,by omega,by omega,?_,Zc,?_⟩
  ·rw[Qg];rfl
  ·rw[Qc,hn];rfl
  ·intro x hx
   rcases Qf.mp hx with hx|hx
   ·exact hs x hx
   ·rw[Qe.mp hx];exact⟨Zey s hs1,ZeS s hs1⟩
  ·obtain⟨a,b,hp,q0⟩:=L3
   exact⟨a,b,by rw[Ze npD];exact hp,q0⟩
  ·rw[Ze nlD];exact hl3
  ·intro b o e n
   have e2:=B3 b o (B2 b o e n) n
   have e3:H D=none:=by
    cases w':H D with
    | none=>rfl
    | some u =>
     have nDp:D≠p:=npD.symm
     have z1:(upd H l (.lst (Zas.map V.str))) D=some u:=by rw[Ze nlD.symm];exact w'
     rw[B1 D u z1 nDp]at hD
     cases hD
   rw[Ze (Zb e e3)]
   exact e2
 ·rintro ys σ H2 ⟨ss,v,c2,rfl,rfl,hn,hs,L2',b1,b2,hl2,hD2,B2⟩
  have e3:H D=none:=by
   cases w':H D with
   | none=>rfl
   | some u =>
    have z1:(upd H l (.lst (Zas.map V.str))) D=some u:=by rw[Ze nlD.symm];exact w'
    rw[B1 D u z1 npD.symm]at hD
    cases hD
  exact q D ss c2 H2 e3 hD2 (by omega) (by omega) hs L2' (by omega) (by omega) B2
theorem ZiI(T:Zba K mg)(f_l_pick:Df P w K mg base 2 "_law_pick" ["_law_left_here", "_law_many"] Zb3):Df P w K mg base 3 "_law_key" ["_law_left_here", "_law_stems_here"] Zf0:=by
 refine T.t_l_key.df Zel (fun vs H Q E h=>?_) (fun cdv f A outer s H vs Q E hr h=>?_)
 ·obtain⟨p,l,c,ss,rfl,_⟩:=h
  rfl
 obtain⟨p,l,c,ss,rfl,hL,c1,hl,n1,n4,h24,q⟩:=h
 refine⟨_,#[Zi,#[ZL,2,Zel.nd,(Or.inl rfl),#[ZbN,PySem.F.plainAttrs_str,PySem.F.slot_str_join,PySem.F.type_str_join,(ZiQ K),#[Zah],#[Za,#[Zbr,Zhx,#[ZaW,T.b.n_range,#[Za,#[Zx,f_l_pick,hr,#[Za,#[pv,0,(Or.inr (Or.inl rfl))],#[Za,#[Zh],#[Zd]]],(by rfl)],#[Zd]]],(fun _ _ _ _=>#[cg,3,Zhx]),(fun _ _ _ _=>(@ZaG _)),(fun _ _ _ _=>#[ZZ,Zcq,#[Zah],#[Zx,f_l_pick,hr,#[Za,#[cv,0,Zhx],#[Za,#[Zh],#[Zd]]],(Zbq Zhx rfl (by ac_rfl))]])],#[Zd]]]],#[Zk,#[Zu,#[ZD,ZeA,#[ZZ,(ixL K),‹1›,#[Zx,f_l_pick,hr,#[Za,#[pv,0,(Or.inr (Or.inl rfl))],#[Za,#[Zj,(ZbF K),(by rfl),T.b.n_len,QB,#[Za,‹1›,#[Zd]]],#[Zd]]],(by rfl)]],‹2›]]]],?_⟩
 have c0:0≤c:=by obtain⟨a,b,hp,c0⟩:=hL;exact c0
 have npl:p≠l:=by
  obtain⟨a,b,hp,_⟩:=hL
  refine Zi4 hp hl fun e=>?_
  have e1:=congrArg List.length (HO.lst.inj e)
  cases ss with
  | nil=>cases e1
  | cons x r=>exact absurd (HO.lst.inj e) (by intro z;cases z)
 refine⟨rfl,_,rfl,p,c,_,rfl,hL,by omega,by decide,by decide,fun r H1 r0 r1 L1 B1=>?_⟩
 refine⟨_,rfl,by omega,by omega,fun D hD=>?_⟩
 have npD:p≠D:=by obtain⟨a,b,hp,_⟩:=L1;exact Zb hp hD
 have h1l:=B1 l _ hl npl.symm
 have nlD:l≠D:=Zb h1l hD
 have hDn:H D=none:=by
  cases w':H D with
  | none=>rfl
  | some u=>rw[B1 D u w' npD.symm]at hD;cases hD
 refine ZbB (fun i ys σ H2=>∃ (ts:List Str) (v:Option V) (c2:Int),σ=[some (.ref p),some (.ref l),none,v]∧ys=ts.map V.str∧ts.length=i∧(∀s∈ts,s.length≤1∧AZ s)∧Z7 H2 p c2∧c+1≤c2∧c2≤c+1+i ∧
   H2 D=some (.lst ys)∧But p H H2) ?_ ?_ ?_
 ·refine⟨[],none,c+1,rfl,rfl,rfl,(fun s hs=>by cases hs),?_,by omega,by omega,Zc,?_⟩
  ·obtain⟨a,b,hp,q0⟩:=L1
   exact⟨a,b,by rw[Ze npD];exact hp,q0⟩
  ·intro b o e n
   rw[Ze (Zb e hDn)]
   exact B1 b o e n
 ·rintro i ys σ H2 hi ⟨ts,v,c2,rfl,rfl,hn,hs,L2',b1,b2,hD2,B2⟩
  refine⟨_,rfl,p,c2,_,rfl,L2',by omega,by decide,by decide,fun r' H3 r0' r1' L3 B3=>?_⟩
  obtain⟨ch,hcm,hch⟩:=ZbT (z := "ababcz") r0' r1'
  have hD3:H3 D=some (.lst (ts.map V.str)):=B3 D _ hD2 npD.symm
  refine⟨_,_,_,rfl,rfl,(by ac_rfl),hch,hD3,(by rw[Qa,hn];exact Zm (by omega)),ts++[⟨#[ch]⟩],_,c2+1,rfl,?_,?_,?_,?_,by omega,by omega,Zc,?_⟩
  ·rw[Qg];rfl
  ·rw[Qc,hn];rfl
  ·intro x hx
   rcases Qf.mp hx with hx|hx
   ·exact hs x hx
   ·rw[Qe.mp hx];exact⟨Qj 1,Zid.one hcm⟩
  ·obtain⟨a,b,hp,q0⟩:=L3
   exact⟨a,b,by rw[Ze npD];exact hp,q0⟩
  ·intro b o e n
   rw[Ze (Zb e hDn)]
   exact B3 b o (B2 b o e n) n
 ·rintro ys σ H2 ⟨ts,v,c2,rfl,rfl,hn,hs,L2',b1,b2,hD2,B2⟩
  have hsum:=Zes ts fun s h=>(hs s h).1
  have hjl:=Zgl "" ts
  have e0:("" : Str).length=0:=by ac_rfl
  rw[e0]at hjl
  have hl2:=B2 l _ hl npl.symm
  refine⟨_,D,ts,rfl,rfl,SqL.of hD2,(by rw[e0];omega),?_⟩
  have hlen:(((ss.map V.str).length:Nat):Int)=(ss.length:Int):=by rw[Qa]
  refine⟨_,rfl,_,rfl,_,rfl,l,_,rfl,.inl (SqL.of hl2),p,c2,_,rfl,L2',by omega,by omega,by omega,fun r' H3 r0' r1' L3 B3=>?_⟩
  obtain⟨st,hs1,hs2⟩:=ZeK (ss:=ss) r0' (by omega)
  have hst:=(h24 st hs1).1
  refine⟨l,_,_,_,rfl,rfl,SqL.of (B3 l _ hl2 npl.symm),hs2,_,rfl,_,_,rfl,rfl,ZaP (by omega),?_⟩
  refine q _ (c2+1) H3 ?_ ((h24 st hs1).2.app (AZ.joinT ts fun s h=>(hs s h).2)) L3 (by omega) (by omega) (B2.trans B3)
  rw[PySem.Str.length_append]
  omega
theorem ZcS(T:Zba K mg):Df P w K mg base 1 "alike_from" ["one", "other", "far"] Zb5:=by
 refine T.t_alike_from.df ZaM (fun vs H Q E h=>?_) (fun cdv f A outer s H vs Q E hr h=>?_)
 ·obtain⟨x,y,far,rfl,_⟩:=h
  rfl
 obtain⟨x,y,far,rfl,hx,hy,hf,q⟩:=h
 refine⟨_,#[Zi,#[ZL,3,ZaM.nd,(Or.inl rfl),‹2›],#[Zi,(@Zeq _ _ _ _ _ _ PassesOwn.never (@PW.pt _ _ _ #[Zbw,#[Zn,Zfe,‹3›,#[Zj,Z5,(by rfl),T.b.n_len,QB,#[Za,‹0›,#[Zd]]],(Zq _)],#[Zbw,#[Zn,Zfe,‹3›,#[Zj,Z5,(by rfl),T.b.n_len,QB,#[Za,‹1›,#[Zd]]],(Zq _)],(@Zbn _ _ _ _ #[Zn,Zbc,#[ZZ,Zcq,‹0›,‹3›],#[ZZ,Zcq,‹1›,‹3›],(Zq _)])]]) #[Zk,(@Zgh _ _ 3 _ _ _ _ _ _ ZaM.nd rfl (Or.inl rfl) #[Zh] Zf9 (by trivial))]),#[Zk,#[Zu,‹3›]]]],?_⟩
 refine⟨_,rfl,?_⟩
 have lx:(cds x).length=x.length:=by simp[Str.length]
 have ly:(cds y).length=y.length:=by simp[Str.length]
 have ll:=ZdH (cds x) (cds y)
 refine⟨fun m σ H2=>∃k:Nat,σ=[some (.str x),some (.str y),some (.int far),some (.int k)]∧H2=H∧k≤lcp (cds x) (cds y)∧m=lcp (cds x) (cds y)-k,⟨_,far,rfl,rfl,hf,rfl⟩,?_⟩
 rintro m σ H2 ⟨k,rfl,rfl,hk,rfl⟩
 refine⟨_,rfl,_,rfl,x,rfl,ZaP hx,_,_,rfl,rfl,_,rfl,?_⟩
 refine Zbb (fun d1=>?_) (fun d1=>?_)
 ·have d1':(k:Int)<(x.length:Int):=of_decide_eq_true d1
  refine⟨_,rfl,_,rfl,y,rfl,ZaP hy,_,_,rfl,rfl,_,rfl,?_⟩
  refine Zbb (fun d2=>?_) (fun d2=>?_)
  ·have d2':(k:Int)<(y.length:Int):=of_decide_eq_true d2
   obtain⟨a,ha,ha'⟩:=ZbT (z:=x) (k:=k) (by omega) d1'
   obtain⟨b,hb,hb'⟩:=ZbT (z:=y) (k:=k) (by omega) d2'
   rw[Q0]at ha hb
   refine⟨_,rfl,_,rfl,x,_,a,rfl,rfl,ZaP hx,ha',_,rfl,_,rfl,y,_,b,rfl,rfl,ZaP hy,hb',rfl,_,rfl,?_⟩
   refine Zbb (fun d3=>?_) (fun d3=>?_)
   ·have d3':a=b:=by
     have:=of_decide_eq_true d3
     injection this with e
     injection e with e
     simpa using e
    subst d3'
    have:=Zf7 _ _ k hk a ha hb
    refine⟨fun σ' H'=>σ'=[some (.str x),some (.str y),some (.int far),some (.int ((k+1:Nat):Int))]∧H'=H2,fun σ' H' ⟨e1,e2⟩=>⟨_,?_,k+1,e1,e2,this,rfl⟩,?_⟩
    ·omega
    ·exact⟨_,rfl,_,_,rfl,rfl,rfl,rfl⟩
   ·refine⟨_,rfl,?_⟩
    have e:=ZdL _ _ k hk (.inr (.inr ⟨a,b,ha,hb,fun e=>d3 (by subst e;exact decide_eq_true rfl)⟩))
    rw[e]at q
    exact q
  ·refine Zbt ⟨_,rfl,?_⟩
   have d2':¬ (k:Int)<(y.length:Int):=of_decide_eq_false (Bool.eq_false_iff.mpr d2)
   have e:=ZdL _ _ k hk (.inr (.inl (by omega)))
   rw[e]at q
   exact q
 ·refine Zbt ⟨_,rfl,?_⟩
  have d1':¬ (k:Int)<(x.length:Int):=of_decide_eq_false (Bool.eq_false_iff.mpr d1)
  have e:=ZdL _ _ k hk (.inl (by omega))
  rw[e]at q
  exact q
theorem ZgN(T:Zba K mg)(f_alike_from:Df P w K mg base 1 "alike_from" ["one", "other", "far"] Zb5):Df P w K mg base 2 "alike" ["one", "other"] Zfk:=by
 refine T.t_alike.df Zgb (fun vs H Q E h=>?_) (fun cdv f A outer s H vs Q E hr h=>?_)
 ·obtain⟨x,y,rfl,_⟩:=h
  rfl
 obtain⟨x,y,rfl,hx,hy,q⟩:=h
 refine⟨_,#[Zk,#[Zu,#[Zx,f_alike_from,hr,#[Za,‹0›,#[Za,‹1›,#[Za,#[Zh],#[Zd]]]],(by rfl)]]],?_⟩
 exact⟨_,rfl,_,rfl,x,y,0,rfl,hx,hy,Qx _,q⟩
theorem Zjb{c A B:Prop}[Decidable c](hc:c)(h:A):if decide c=true then A else B:=by
 rw[if_pos (decide_eq_true hc)]
 exact h
theorem Zh8{c A B:Prop}[Decidable c](hc:¬ c)(h:B):if decide c=true then A else B:=by
 rw[if_neg (by rw[decide_eq_false hc];exact Qz)]
 exact h
theorem Z7.new{H:Hp}{p l:Addr}{c:Int}{o:HO}(h:Z7 H p c)(n:H l=none):Z7 (upd H l o) p c:=by
 obtain⟨a,b,hp,c0⟩:=h
 exact⟨a,b,by rw[Ze (Zb hp n)];exact hp,c0⟩
theorem Z7.ge{H:Hp}{p:Addr}{c:Int}(h:Z7 H p c):0≤c:=by obtain⟨a,b,hp,c0⟩:=h;exact c0
theorem Z7.here{H:Hp}{p:Addr}{c:Int}(h:Z7 H p c):∃o,H p=some o:=by obtain⟨a,b,hp,c0⟩:=h;exact⟨_,hp⟩
theorem Z7.at{H:Hp}{p l:Addr}{c:Int}{o:HO}(h:Z7 H p c)(n:p≠l):Z7 (upd H l o) p c:=by
 obtain⟨a,b,hp,c0⟩:=h
 exact⟨a,b,by rw[Ze n];exact hp,c0⟩
theorem Zd2:∀ss:List Str,(∀s∈ss,AZ s)→PyData.canLayAll0 (ss.map PyData.str)=true
 | [],_=>rfl
 | x::r,h=>by simp[PyData.canLayAll0,PyData.canLay0,(h x (by simp)).ok,Zd2 r fun s hs=>h s (List.mem_cons_of_mem _ hs)]
theorem ZcP:∀ss:List Str,PyData.depthAll (ss.map PyData.str)=0
 | []=>rfl
 | _::r=>by simp[PyData.depthAll,PyData.depth,ZcP r]
theorem Zbh(ss:List Str)(h:∀s∈ss,AZ s):SeqAt.shaped (.list (ss.map PyData.str))=true:=by simp[SeqAt.shaped,PyData.canLay0,PyData.depth,Zd2 ss h,ZcP]
theorem Zcj{K:PySem.W.Frag}{H:Hp}:∀ss:List Str,DVs K H (ss.map V.str) (ss.map PyData.str)
 | []=>.nil
 | s::r=>.cons (.str s) (Zcj r)
def ZQ:List Nat→List Nat→Int
 | [],[]=>0
 | [],_::_ =>-1
 | _::_,[]=>1
 | a::r,b::s=>if a=b then ZQ r s else if a<b then -1 else 1
theorem Ze9:∀ (x y:List Nat),(lcp x y=x.length→lcp x y=y.length→ZQ x y=0)∧(lcp x y=x.length→lcp x y≠y.length→ZQ x y = -1)∧(lcp x y≠x.length→lcp x y=y.length→ZQ x y=1) ∧
  ∀a b,x[lcp x y]? = some a→y[lcp x y]? = some b→ZQ x y=if a<b then -1 else 1
 | [],[]=>⟨fun _ _=>rfl,fun _ h=>absurd rfl h,fun h _=>absurd rfl h,fun a b h _=>by simp at h⟩
 | [],_::_=>⟨fun _ h=>by unfold lcp at h;simp at h,fun _ _=>rfl,fun h _=>absurd rfl h,fun a b h _=>by simp at h⟩
 | _::_,[]=>⟨fun h _=>by unfold lcp at h;simp at h,fun h _=>by unfold lcp at h;simp at h,fun _ _=>rfl,fun a b _ h=>by simp at h⟩
 | a::r,b::s=>by
  obtain⟨h1,h2,h3,h4⟩:=Ze9 r s
  unfold lcp ZQ
  by_cases e:a=b
  ·rw[if_pos e,if_pos e]
   simp only[List.length_cons,List.getElem?_cons_succ]
   exact⟨fun p q=>h1 (by omega) (by omega),fun p q=>h2 (by omega) (by omega),fun p q=>h3 (by omega) (by omega),h4⟩
  ·rw[if_neg e,if_neg e]
   simp only[List.length_cons,List.getElem?_cons_zero]
   refine⟨fun p=>by omega,fun p=>by omega,fun _ p=>by omega,fun c d p q=>?_⟩
   cases p;cases q
   rfl
theorem Zcz:∀ (x y:List Nat),ZQ y x =-ZQ x y
 | [],[]=>rfl
 | [],_::_=>rfl
 | _::_,[]=>rfl
 | a::r,b::s=>by
  have ih:=Zcz r s
  unfold ZQ
  by_cases e:a=b
  ·rw[if_pos e,if_pos e.symm,ih]
  ·rw[if_neg e,if_neg fun z=>e z.symm]
   by_cases l:a<b
   ·rw[if_pos l,if_neg (by omega)];rfl
   ·rw[if_neg l,if_pos (by omega)]
theorem ZiM(a b:Nat):decide ((⟨#[a]⟩:Str).cps.toList<(⟨#[b]⟩:Str).cps.toList)=decide (a<b):=by
 have e:([a]:List Nat)<[b]↔a<b:=by
  constructor
  ·intro h
   cases h with
   | rel h=>exact h
   | cons h=>cases h
  ·exact fun h=>List.Lex.rel h
 exact decide_eq_decide.mpr e
theorem Zc1:∀ (x y:List Nat),Spec.ltCps y x=false→ZQ x y≤0
 | [],[],_=>by unfold ZQ;omega
 | [],_::_,_=>by unfold ZQ;omega
 | _::_,[],h=>by unfold Spec.ltCps at h;cases h
 | a::r,b::s,h=>by
  have ih:=Zc1 r s
  unfold Spec.ltCps at h
  unfold ZQ
  rw[Bool.or_eq_false_iff,Bool.and_eq_false_iff]at h
  obtain⟨h1,h2⟩:=h
  have h1':¬ b<a:=of_decide_eq_false h1
  by_cases e:a=b
  ·rw[if_pos e]
   rcases h2 with z|z
   ·rw[e]at z;simp at z
   ·exact ih z
  ·rw[if_neg e,if_pos (by omega)]
   omega
theorem Zdp:∀ (x y:List Nat),ZQ x y=0→x=y
 | [],[],_=>rfl
 | [],_::_,h=>by unfold ZQ at h;omega
 | _::_,[],h=>by unfold ZQ at h;omega
 | a::r,b::s,h=>by
  unfold ZQ at h
  by_cases e:a=b
  ·rw[if_pos e]at h
   rw[e,Zdp r s h]
  ·rw[if_neg e]at h
   split at h<;>omega
theorem ZcR:∀ (x y z:List Nat),ZQ x y≤0→ZQ y z≤0→ZQ x z≤0
 | [],_,[],_,_=>by unfold ZQ;omega
 | [],_,_::_,_,_=>by unfold ZQ;omega
 | _::_,[],_,h,_=>by unfold ZQ at h;omega
 | _::_,_::_,[],_,h=>by unfold ZQ at h;omega
 | a::r,b::s,c::t,h1,h2=>by
  unfold ZQ at h1 h2 ⊢
  have ih:=ZcR r s t
  by_cases e1:a=b
  ·rw[if_pos e1]at h1
   by_cases e2:b=c
   ·rw[if_pos e2]at h2
    rw[if_pos (e1.trans e2)]
    exact ih h1 h2
   ·rw[if_neg e2]at h2
    rw[if_neg (fun e=>e2 (e1.symm.trans e))]
    split at h2
    ·rw[if_pos (by omega)];omega
    ·omega
  ·rw[if_neg e1]at h1
   split at h1
   ·by_cases e2:b=c
    ·rw[if_neg (fun e=>e1 (e.trans e2.symm)),if_pos (by omega)];omega
    ·rw[if_neg e2]at h2
     split at h2
     ·rw[if_neg (by omega),if_pos (by omega)];omega
     ·omega
   ·omega
theorem Ze2(z:Str):(cds z).length=z.length:=by simp[Str.length]
def Zch:Sp:=fun vs H Q _=>∃x y:Str,vs=[.str x,.str y]∧x.length≤1000∧y.length≤1000∧Q (.int (ZQ (cds x) (cds y))) H
def Ze3:Sp:=fun vs H Q _=>∃x y:Str,vs=[.str x,.str y,.int (lcp (cds x) (cds y):Nat)]∧x.length≤1000∧y.length≤1000∧Q (.int (ZQ (cds x) (cds y))) H
theorem Zge(T:Zba K mg):Df P w K mg base 1 "order_at" ["one", "other", "at"] Ze3:=by
 refine T.t_order_at.df Zd3 (fun vs H Q E h=>?_) (fun cdv f A outer s H vs Q E hr h=>?_)
 ·obtain⟨x,y,rfl,_⟩:=h
  rfl
 obtain⟨x,y,rfl,hx,hy,q⟩:=h
 refine⟨_,#[Zi,#[ZaC,(@PW.pt _ _ _ #[Zbw,#[Zn,Zbc,‹2›,#[Zj,Z5,(by rfl),T.b.n_len,QB,#[Za,‹0›,#[Zd]]],(Zq _)],(@Zbn _ _ _ _ #[Zn,Zbc,‹2›,#[Zj,Z5,(by rfl),T.b.n_len,QB,#[Za,‹1›,#[Zd]]],(Zq _)])]),#[Zk,#[Zu,#[Zh]]],(@ZY _)],#[Zi,#[ZaC,#[Zn,Zbc,‹2›,#[Zj,Z5,(by rfl),T.b.n_len,QB,#[Za,‹0›,#[Zd]]],(Zq _)],#[Zk,#[Zu,#[Zcw,ZbA,#[Zh]]]],(@ZY _)],#[Zi,#[ZaC,#[Zn,Zbc,‹2›,#[Zj,Z5,(by rfl),T.b.n_len,QB,#[Za,‹1›,#[Zd]]],(Zq _)],#[Zk,#[Zu,#[Zh]]],(@ZY _)],#[Zk,#[Zu,(@ZcL _ _ _ _ _ _ _ _ #[Zn,ZfK,#[ZZ,Zcq,‹0›,‹2›],#[ZZ,Zcq,‹1›,‹2›],(Zq _)] #[Zcw,ZbA,#[Zh]] #[Zh])]]]]],?_⟩
 obtain⟨o1,o2,o3,o4⟩:=Ze9 (cds x) (cds y)
 have ll:=ZdH (cds x) (cds y)
 have lx:=Ze2 x
 have ly:=Ze2 y
 have inj:∀ {m n:Nat},V.int (m:Int)=V.int (n:Int)→m=n:=fun {m n} e=>by injection e with e;omega
 refine⟨_,rfl,_,rfl,x,rfl,ZaP hx,rfl,_,rfl,Zbb (fun d=>?_) (fun d=>?_)⟩
 ·have d1:=inj (of_decide_eq_true d)
  refine⟨_,rfl,_,rfl,y,rfl,ZaP hy,rfl,_,rfl,Zbb (fun d2=>?_) (fun d2=>?_)⟩
  ·have d2':=inj (of_decide_eq_true d2)
   rw[o1 (by omega) (by omega)]at q
   exact q
  ·have d2':¬ lcp (cds x) (cds y)=y.length:=fun e=>d2 (by rw[e];exact decide_eq_true rfl)
   refine⟨_,rfl,_,rfl,x,rfl,ZaP hx,rfl,_,rfl,Zjb (by rw[d1]) ?_⟩
   rw[o2 (by omega) (by omega)]at q
   exact⟨_,rfl,q⟩
 ·have d1:¬ lcp (cds x) (cds y)=x.length:=fun e=>d (by rw[e];exact decide_eq_true rfl)
  refine Zbt ⟨_,rfl,_,rfl,x,rfl,ZaP hx,rfl,_,rfl,Zh8 (fun e=>d1 (inj e)) ?_⟩
  refine⟨_,rfl,_,rfl,y,rfl,ZaP hy,rfl,_,rfl,Zbb (fun d2=>?_) (fun d2=>?_)⟩
  ·have d2':=inj (of_decide_eq_true d2)
   rw[o3 (by omega) (by omega)]at q
   exact q
  ·have d2':¬ lcp (cds x) (cds y)=y.length:=fun e=>d2 (by rw[e];exact decide_eq_true rfl)
   obtain⟨a,ha,ha'⟩:=ZbT (z:=x) (k:=(lcp (cds x) (cds y):Nat)) (by omega) (by omega)
   obtain⟨b,hb,hb'⟩:=ZbT (z:=y) (k:=(lcp (cds x) (cds y):Nat)) (by omega) (by omega)
   rw[Q0]at ha hb
   refine⟨_,rfl,_,rfl,x,_,a,rfl,rfl,ZaP hx,ha',_,rfl,_,rfl,y,_,b,rfl,rfl,ZaP hy,hb',_,_,rfl,rfl,_,rfl,?_⟩
   rw[ZiM]
   rw[o4 a b ha hb]at q
   refine Zbb (fun e=>?_) (fun e=>?_)
   ·rw[if_pos (of_decide_eq_true e)]at q
    exact⟨_,rfl,q⟩
   ·rw[if_neg (fun z=>e (decide_eq_true z))]at q
    exact q
theorem Zgf(T:Zba K mg)(f_alike:Df P w K mg base 2 "alike" ["one", "other"] Zfk)(f_order_at:Df P w K mg base 1 "order_at" ["one", "other", "at"] Ze3):Df P w K mg base 3 "liken" ["one", "other"] Zch:=by
 refine T.t_liken.df Zf2 (fun vs H Q E h=>?_) (fun cdv f A outer s H vs Q E hr h=>?_)
 ·obtain⟨x,y,rfl,_⟩:=h
  rfl
 obtain⟨x,y,rfl,hx,hy,q⟩:=h
 refine⟨_,#[Zk,#[Zu,#[Zx,f_order_at,hr,#[Za,‹0›,#[Za,‹1›,#[Za,#[Zx,f_alike,hr,#[Za,‹0›,#[Za,‹1›,#[Zd]]],(by rfl)],#[Zd]]]],(by rfl)]]],?_⟩
 exact⟨_,rfl,_,rfl,_,rfl,_,rfl,x,y,rfl,hx,hy,x,y,rfl,hx,hy,q⟩
theorem ZhD{ss:List Str}{k:Nat}(h:k<ss.length):atI (ss.map V.str) (k:Int)=some (.str ss[k]):=ZaH (by rw[Qn,Qd h]<;>rfl)
theorem Z7.same{H H':Hp}{p:Addr}{c:Int}(h:Z7 H p c)(s:ZH H H'):Z7 H' p c:=by obtain⟨b1,b2,hb,c0⟩:=h;exact⟨b1,b2,s _ _ hb,c0⟩
theorem Zck{p:Addr}{H H1:Hp}{l:Addr}(B:But p H H1)(n:p≠l)(h:H1 l=none):H l=none:=by
 cases w':H l with
 | none=>rfl
 | some u=>rw[B l u w' n.symm]at h;cases h
def Rd(H:Hp):List Addr→List (List Int)→Prop
 | [],[]=>True
 | l::ls,d::ds=>H l=some (.lst (d.map V.int))∧Rd H ls ds
 | _,_=>False
theorem Rd.len{H:Hp}:∀ {ls:List Addr} {ds:List (List Int)},Rd H ls ds→ls.length=ds.length
 | [],[],_=>rfl
 | [],_::_,h=>h.elim
 | _::_,[],h=>h.elim
 | _::ls,_::ds,h=>by rw[QP,QP,Rd.len h.2]
theorem Rd.mono{H H':Hp}:∀ {ls:List Addr} {ds:List (List Int)},(∀l∈ls,∀o,H l=some o→H' l=some o)→Rd H ls ds→Rd H' ls ds
 | [],[],_,_=>trivial
 | [],_::_,_,h=>h.elim
 | _::_,[],_,h=>h.elim
 | l::ls,_::ds,k,h=>⟨k l (by simp) _ h.1,Rd.mono (fun x hx=>k x (Ql _ hx)) h.2⟩
theorem Rd.app{H:Hp}:∀ {ls:List Addr} {ds:List (List Int)} {ms:List Addr} {es:List (List Int)},Rd H ls ds→Rd H ms es→Rd H (ls++ms) (ds++es)
 | [],[],_,_,_,h=>h
 | [],_::_,_,_,h,_=>h.elim
 | _::_,[],_,_,h,_=>h.elim
 | _::ls,_::ds,_,_,h,g=>⟨h.1,Rd.app h.2 g⟩
theorem Rd.at{H:Hp}:∀ {ls:List Addr} {ds:List (List Int)} {i:Nat} {l:Addr},Rd H ls ds→ls[i]? = some l→∃d,ds[i]? = some d∧H l=some (.lst (d.map V.int))
 | [],_,i,l,_,h=>by simp at h
 | _::_,[],_,_,h,_=>h.elim
 | l::ls,d::ds,0,x,h,e=>⟨d,rfl,by simp at e;subst e;exact h.1⟩
 | l::ls,d::ds,i+1,x,h,e=>by simpa using Rd.at (i:=i) h.2 (by simpa using e)
theorem Zfg{ns:List Int}{k:Int}(h0:0≤k)(h:k<(ns.length:Int)):∃v∈ns,atI (ns.map V.int) k=some (.int v):=by
 have hk:k.toNat<ns.length:=by omega
 have ek:k=((k.toNat:Nat):Int):=by omega
 have q:atI (ns.map V.int) ((k.toNat:Nat):Int)=some (.int ns[k.toNat]):=ZaH (by rw[Qn,Qd hk]<;>rfl)
 rw[← ek]at q
 exact⟨_,QI hk,q⟩
theorem Zcn:∀ns:List Int,PyData.canLayAll0 (ns.map PyData.int)=true
 | []=>rfl
 | x::r=>by simp[PyData.canLayAll0,PyData.canLay0,Zcn r]
theorem ZbC:∀ns:List Int,PyData.depthAll (ns.map PyData.int)=0
 | []=>rfl
 | _::r=>by simp[PyData.depthAll,PyData.depth,ZbC r]
theorem Zb6(ns:List Int):SeqAt.shaped (.list (ns.map PyData.int))=true:=by simp[SeqAt.shaped,PyData.canLay0,PyData.depth,Zcn ns,ZbC]
theorem Zcl{K:PySem.W.Frag}{H:Hp}:∀ns:List Int,DVs K H (ns.map V.int) (ns.map PyData.int)
 | []=>.nil
 | s::r=>.cons (.int s) (Zcl r)
theorem ZbW:∀x y:List Nat,x<y↔ZQ x y<0
 | [],[]=>by unfold ZQ;exact⟨fun h=>absurd h (by simp),fun h=>absurd h (by omega)⟩
 | [],_::_=>by unfold ZQ;exact⟨fun _=>by omega,fun _=>List.nil_lt_cons _ _⟩
 | _::_,[]=>by unfold ZQ;exact⟨fun h=>absurd h (List.not_lt_nil _),fun h=>absurd h (by omega)⟩
 | a::r,b::s=>by
  have ih:=ZbW r s
  unfold ZQ
  rw[List.cons_lt_cons_iff]
  by_cases e:a=b
  ·rw[if_pos e,← ih]
   exact⟨fun h=>h.elim (fun z=>by omega) (fun z=>z.2),fun h=>.inr ⟨e,h⟩⟩
  ·rw[if_neg e]
   by_cases l:a<b
   ·rw[if_pos l];exact⟨fun _=>by omega,fun _=>.inl l⟩
   ·rw[if_neg l];exact⟨fun h=>h.elim (fun z=>absurd z l) (fun z=>absurd z.1 e),fun h=>absurd h (by omega)⟩
def Zad(ss:List Str)(i:Nat):Bool:=decide (0<ZQ (cds (ss.getD (i-1) "")) (cds (ss.getD i "")))
theorem Zbs{ss:List Str}{k:Nat}(hk:k<ss.length):ss.getD k "" = ss[k]:=by rw[QM,Qd hk];rfl
def Zam(b:Nat→Bool)(m:Nat):List Nat:=((List.range m).map (·+1)).filter b
theorem Zb7(b:Nat→Bool)(m:Nat):Zam b (m+1)=Zam b m++(if b (m+1)=true then [m+1] else []):=by
 unfold Zam
 rw[QaP,Qg,List.filter_append,Qw,Qar]
 congr 1
 by_cases h:b (m+1)=true
 ·rw[if_pos h];simp[h]
 ·rw[if_neg h];simp[h]
theorem Zdk(b:Nat→Bool)(m:Nat):∀x∈Zam b m,1≤x∧x≤m:=by
 intro x hx
 unfold Zam at hx
 obtain⟨h1,_⟩:=List.mem_filter.mp hx
 obtain⟨k,hk,rfl⟩:=Q1.mp h1
 have:=Qam.mp hk
 omega
theorem ZeH(b:Nat→Bool)(m:Nat):(Zam b m).length≤m:=by
 unfold Zam
 have:=List.length_filter_le b ((List.range m).map (·+1))
 rw[Qa,QaA]at this
 exact this
def pr:Nat→List Nat→List (List Int)
 | _,[]=>[]
 | a,x::r=>ZJ a (x-a)::pr x r
theorem Zgd:∀ (a:Nat) (xs:List Nat),(pr a xs).length=xs.length
 | _,[]=>rfl
 | a,x::r=>by unfold pr;rw[QP,QP,Zgd x r]
theorem Zgv:∀ (a:Nat) (xs:List Nat) (x y:Nat),pr a (xs++[x]++[y])=pr a (xs++[x])++[ZJ x (y-x)]
 | a,[],x,y=>rfl
 | a,z::r,x,y=>by
  show ZJ a (z-a)::pr z (r++[x]++[y])=(ZJ a (z-a)::pr z (r++[x]))++[ZJ x (y-x)]
  rw[Zgv z r x y]
  rfl
theorem Zdm(a n:Nat):ZJ a (n+1)=ZJ a n++[((a+n:Nat):Int)]:=by
 unfold ZJ
 rw[QaP,Qg,Qw,Qar]
 congr 2
theorem Zfa:∀ (a:Nat) (xs:List Nat) (y:Nat),a≤y→(∀x∈xs,x≤y)→∃ds d,pr a (xs++[y])=ds++[d]∧pr a (xs++[y+1])=ds++[d++[(y:Int)]]
 | a,[],y,h,_=>by
  refine⟨[],ZJ a (y-a),rfl,?_⟩
  show [ZJ a (y+1-a)]=[ZJ a (y-a)++[(y:Int)]]
  rw[show y+1-a=(y-a)+1 by omega,Zdm,show a+(y-a)=y by omega]
 | a,z::r,y,_,h=>by
  obtain⟨ds,d,e1,e2⟩:=Zfa z r y (h z (by simp)) fun x hx=>h x (Ql _ hx)
  exact⟨ZJ a (z-a)::ds,d,by show ZJ a (z-a)::pr z (r++[y])=_;rw[e1];rfl,by show ZJ a (z-a)::pr z (r++[y+1])=_;rw[e2];rfl⟩
theorem Zea(n:Nat):∀ (a:Nat) (xs:List Nat),(∀x∈xs,x≤n)→∀d∈pr a xs,d.length≤n
 | _,[],_,d,h=>by cases h
 | a,x::r,h,d,hd=>by
  rcases Q6.mp hd with rfl|hd
  ·rw[Zcv];have:=h x (by simp);omega
  ·exact Zea n x r (fun y hy=>h y (Ql _ hy)) d hd
def Z0(b:Nat→Bool):Nat→List (List Int)
 | 0=>[]
 | m+1=>pr 0 (Zam b m++[m+1])
theorem ZeU(b:Nat→Bool)(n:Nat):(Z0 b n).length≤n:=by
 cases n with
 | zero=>exact Qj _
 | succ m=>unfold Z0;rw[Zgd,Qc];have:=ZeH b m;simp;exact this
theorem ZdJ(b:Nat→Bool)(n:Nat):∀d∈Z0 b n,d.length≤n:=by
 cases n with
 | zero=>intro d h;cases h
 | succ m =>
  unfold Z0
  refine Zea _ _ _ fun x hx=>?_
  rcases Qf.mp hx with hx|hx
  ·have:=Zdk b m x hx;omega
  ·rw[Qe.mp hx];exact Qj _
theorem ZbD(b:Nat→Bool)(i:Nat)(h:i=0∨b i=true):Z0 b (i+1)=Z0 b i++[[(i:Int)]]:=by
 cases i with
 | zero=>rfl
 | succ m =>
  have hb:b (m+1)=true:=h.elim (fun z=>by omega) id
  show pr 0 (Zam b (m+1)++[m+1+1])=pr 0 (Zam b m++[m+1])++_
  rw[Zb7,if_pos hb,Zgv,show m+1+1-(m+1)=0+1 by omega,Zdm]
  rfl
theorem Zdh(b:Nat→Bool)(i:Nat)(h0:i≠0)(h:b i=false):∃ds d,Z0 b i=ds++[d]∧Z0 b (i+1)=ds++[d++[(i:Int)]]:=by
 cases i with
 | zero=>exact absurd rfl h0
 | succ m =>
  show ∃ds d,pr 0 (Zam b m++[m+1])=_∧pr 0 (Zam b (m+1)++[m+1+1])=_
  rw[Zb7,if_neg (by rw[h];exact Qz),Q3]
  exact Zfa 0 (Zam b m) (m+1) (by omega) fun x hx=>by have:=Zdk b m x hx;omega
theorem Zg3(ss:List Str)(m:Nat)(h:m≤ss.length):Zcc (ss.map V.str) none (some (m:Int))=(ss.take m).map V.str∧Zcc (ss.map V.str) (some (m:Int)) none=(ss.drop m).map V.str:=by
 have e:∀d:Nat,HT.sIx (ss.map V.str).length d (some (m:Int))=m:=fun d=>by
  unfold HT.sIx
  simp only[List.length_map]
  rw[if_neg (by omega)]
  omega
 have e0:∀d:Nat,HT.sIx (ss.map V.str).length d none=d:=fun d=>rfl
 constructor
 ·unfold Zcc
  rw[e,e0,List.drop_zero,Nat.sub_zero,List.map_take]
 ·unfold Zcc
  rw[e,e0,← List.map_drop,← List.map_take,QF (by rw[QO,Qa];omega)]
def Zej:Sp:=fun vs H Q _=>∃ (p:Addr) (c:Int),vs=[.ref p]∧Z7 H p c∧c<2 ^ 30 ∧
 ∀ (r:Addr) (ts:List Str) (c':Int) (H':Hp),H r=none→H' r=some (.lst (ts.map V.str))→ts.length≤60→(∀s∈ts,s.length≤28∧AZ s)→Z7 H' p c'→c≤c'→c'≤c+700→But p H H'→Q (.ref r) H'
theorem ZfB(T:Zba K mg)(f_l_pick:Df P w K mg base 2 "_law_pick" ["_law_left_here", "_law_many"] Zb3)(f_l_stems:Df P w K mg base 3 "_law_stems" ["_law_left_here"] Zdw)(f_l_key:Df P w K mg base 3 "_law_key" ["_law_left_here", "_law_stems_here"] Zf0):Df P w K mg base 4 "_law_things" ["_law_left_here"] Zej:=by
 refine T.t_l_things.df ZN (fun vs H Q E h=>?_) (fun cdv f A outer s H vs Q E hr h=>?_)
 ·obtain⟨p,c,rfl,_⟩:=h
  rfl
 obtain⟨p,c,rfl,hL,c1,q⟩:=h
 refine⟨_,#[Zi,#[ZL,1,ZN.nd,(Or.inl rfl),#[Zx,f_l_stems,hr,#[Za,‹0›,#[Zd]],(by rfl)]],#[Zi,#[ZL,2,ZN.nd,(Or.inl rfl),#[Z4,#[Za,#[Zx,f_l_pick,hr,#[Za,‹0›,#[Za,#[Zh],#[Zd]]],(by rfl)],#[Za,#[Zh],#[Za,#[Zh],#[Za,#[Zh],#[Za,#[Zh],#[Za,#[ZD,Zak,#[Zh],#[Zx,f_l_pick,hr,#[Za,‹0›,#[Za,#[Zh],#[Zd]]],(by rfl)]],#[Za,#[ZD,Zak,#[Zh],#[Zx,f_l_pick,hr,#[Za,‹0›,#[Za,#[Zh],#[Zd]]],(by rfl)]],#[Za,#[ZD,Zak,#[Zh],#[Zx,f_l_pick,hr,#[Za,‹0›,#[Za,#[Zh],#[Zd]]],(by rfl)]],#[Zd]]]]]]]]]]],#[Zi,#[ZL,3,ZN.nd,(Or.inl rfl),#[Z4,#[Zd]]],#[Zi,#[Zdx,PassesOwn.never,#[ZaW,T.b.n_range,#[Za,#[ZZ,(ixL K),‹2›,#[Zx,f_l_pick,hr,#[Za,‹0›,#[Za,#[Zh],#[Zd]]],(by rfl)]],#[Zd]]],#[Zay,4,ZN.nd],#[Zi,#[ZL,5,ZN.nd,(Or.inl rfl),#[Zx,f_l_key,hr,#[Za,‹0›,#[Za,‹1›,#[Zd]]],(by rfl)]],#[Zi,#[ZaC,(@PW.pt _ _ _ #[Zbw,#[Zn,#[neD,K,hr],‹3›,#[Z4,#[Zd]],(Zq _)],(@Zbn _ _ _ _ #[Zn,Zbc,#[Zx,f_l_pick,hr,#[Za,‹0›,#[Za,#[Zh],#[Zd]]],(by rfl)],#[Zh],(Zq _)])]),#[Zk,#[ZL,5,ZN.nd,(Or.inl rfl),#[ZZ,(ixL K),‹3›,#[Zx,f_l_pick,hr,#[Za,‹0›,#[Za,#[Zj,(ZbF K),(by rfl),T.b.n_len,QB,#[Za,‹3›,#[Zd]]],#[Zd]]],(by rfl)]]]],(@ZY _)],#[Zk,#[ZaI,#[ZbN,QR,Q7,Q8,Zao,‹3›,#[Za,‹5›,#[Zd]]]]]]]],#[Zi,#[ZL,6,ZN.nd,(Or.inl rfl),#[Zx,f_l_pick,hr,#[Za,‹0›,#[Za,#[Zh],#[Zd]]],(by rfl)]],#[Zi,#[ZL,7,ZN.nd,(Or.inl rfl),#[ZD,ZdP,#[Zj,(ZbF K),(by rfl),T.b.n_len,QB,#[Za,‹3›,#[Zd]]],#[Zh]]],#[Zi,#[ZaC,#[Zn,Zbc,‹6›,#[Zh],(Zq _)],#[Zk,#[Zu,#[Zj,(ZgF K),(by rfl),T.b.n_sorted,boot_sorted,#[Za,‹3›,#[Zd]]]]],(@ZY _)],#[Zi,#[ZaC,#[Zn,Zbc,‹6›,#[Zh],(Zq _)],#[Zk,#[Zu,(@Zc2 _ _ _ _ _ _ _ _ _ _ _ _ (Zjf K) #[Zj,(ZgF K),(by rfl),T.b.n_sorted,boot_sorted,#[Za,‹3›,#[Zd]]] (@Zax _) (@Zax _) (@Za8 _ _ _ #[Zcw,ZbA,#[Zh]]))]],(@ZY _)],#[Zi,#[ZaC,#[Zn,Zbc,‹6›,#[Zh],(Zq _)],#[Zk,#[Zu,#[ZD,ZgV,#[Zj,(ZgF K),(by rfl),T.b.n_sorted,boot_sorted,#[Za,#[Zbf,(slL K),‹3›,(@Zax _),(@Za8 _ _ _ ‹7›)],#[Zd]]],#[Zj,(ZgF K),(by rfl),T.b.n_sorted,boot_sorted,#[Za,#[Zbf,(slL K),‹3›,(@Za8 _ _ _ ‹7›),(@Zax _)],#[Zd]]]]]],(@ZY _)],#[Zk,#[Zu,‹3›]]]]]]]]]]],?_⟩
 have c0:=hL.ge
 refine⟨_,rfl,p,c,rfl,hL,by omega,fun l ss c5 H5 hl0 hl5 n1 n4 h24 L5 a1 a2 B5=>?_⟩
 have npl:p≠l:=by
  obtain⟨o,ho⟩:=hL.here
  exact Zb ho hl0
 refine⟨_,rfl,p,c5,_,rfl,L5,by omega,by decide,by decide,fun d1 H6 d10 d11 L6 B6=>?_⟩
 refine⟨_,rfl,p,c5+1,_,rfl,L6,by omega,by decide,by decide,fun d2 H7 d20 d21 L7 B7=>⟨_,_,rfl,rfl,?_⟩⟩
 refine⟨_,rfl,p,c5+1+1,_,rfl,L7,by omega,by decide,by decide,fun d3 H8 d30 d31 L8 B8=>⟨_,_,rfl,rfl,?_⟩⟩
 refine⟨_,rfl,p,c5+1+1+1,_,rfl,L8,by omega,by decide,by decide,fun d4 H9 d40 d41 L9 B9=>⟨_,_,rfl,rfl,?_⟩⟩
 refine⟨(by show 8≤sizeLine;decide),fun m hm=>?_⟩
 have npm:p≠m:=by obtain⟨o,ho⟩:=L9.here;exact Zb ho hm
 have B59:But p H5 H9:=((B6.trans B7).trans B8).trans B9
 have hl9:=B59 l _ hl5 npl.symm
 have nlm:l≠m:=Zb hl9 hm
 refine⟨(by show 0≤sizeLine;decide),fun r hr0=>?_⟩
 have L10:Z7 (upd H9 m (.lst (([d1,4,5,6,8,3+d2,7+d3,20+d4]:List Int).map V.int))) p (c5+1+1+1+1):=L9.new hm
 have hm10:(upd H9 m (.lst (([d1,4,5,6,8,3+d2,7+d3,20+d4]:List Int).map V.int))) m=some (.lst (([d1,4,5,6,8,3+d2,7+d3,20+d4]:List Int).map V.int)):=Zc
 have hl10:(upd H9 m (.lst (([d1,4,5,6,8,3+d2,7+d3,20+d4]:List Int).map V.int))) l=some (.lst (ss.map V.str)):=by rw[Ze nlm];exact hl9
 have B010:But p H (upd H9 m (.lst (([d1,4,5,6,8,3+d2,7+d3,20+d4]:List Int).map V.int))):=(B5.trans B59).trans (But.same (Zf hm _))
 change (upd H9 m (.lst (([d1,4,5,6,8,3+d2,7+d3,20+d4]:List Int).map V.int))) r=none at hr0
 have npr:p≠r:=by obtain⟨o,ho⟩:=L10.here;exact Zb ho hr0
 have nlr:l≠r:=Zb hl10 hr0
 have nmr:m≠r:=Zb hm10 hr0
 have hrn:H r=none:=Zck B010 npr hr0
 refine⟨_,rfl,_,rfl,p,c5+1+1+1+1,_,rfl,L10.new hr0,by omega,by decide,by decide,fun ix H11 ix0 ix1 L11 B11=>?_⟩
 have hm11:H11 m=some (.lst (([d1,4,5,6,8,3+d2,7+d3,20+d4]:List Int).map V.int)):=B11 m _ (by rw[Ze nmr];exact hm10) npm.symm
 obtain⟨many,hmm,hat⟩:=Zfg (ns:=[d1,4,5,6,8,3+d2,7+d3,20+d4]) ix0 ix1
 have hm1:0≤many∧many≤60:=by
  simp only[List.mem_cons,List.not_mem_nil,or_false]at hmm
  omega
 refine⟨m,_,_,_,rfl,rfl,SqL.of hm11,hat,_,rfl,by omega,by omega,?_⟩
 have hr11:H11 r=some (.lst (([]:List Str).map V.str)):=B11 r _ Zc npr.symm
 have hl11:H11 l=some (.lst (ss.map V.str)):=B11 l _ (by rw[Ze nlr];exact hl10) npl.symm
 have B011:But p H H11:=(B010.trans (But.same (Zf hr0 _))).trans B11
 refine Zdg (fun i σ H2=>∃ (ts:List Str) (v1 v2:Option V) (c2:Int),σ=[some (.ref p),some (.ref l),some (.ref m),some (.ref r),v1,v2,none,none]∧H2 r=some (.lst (ts.map V.str))∧H2 l=some (.lst (ss.map V.str))∧ts.length=i∧(∀s∈ts,s.length≤28∧AZ s)∧Z7 H2 p c2∧c5+5≤c2∧c2≤c5+5+8*i∧(∀b o,H b=some o→b≠p→H2 b=some o)) ⟨[],none,none,c5+1+1+1+1+1,rfl,hr11,hl11,rfl,(fun s hs=>by cases hs),L11,by omega,by omega,B011⟩ ?_ ?_
 ·rintro i σ H2 hi ⟨ts,v1,v2,c2,rfl,hr2,hl2,hn,h28,L2,a1',a2',B2⟩
  have hi60:(i:Int)<61:=by omega
  refine⟨_,rfl,_,rfl,p,l,c2,ss,rfl,L2,by omega,hl2,n1,n4,h24,fun key c3 H3 hkey hkaz L3 a3 a4 B3=>?_⟩
  have hr3:=B3 r _ hr2 npr.symm
  have hl3:=B3 l _ hl2 npl.symm
  have fin:∀ (k2:Str) (c4:Int) (H4:Hp),k2.length≤28∧AZ k2→Z7 H4 p c4→c2≤c4→c4≤c2+8→H4 r=some (.lst (ts.map V.str))→H4 l=some (.lst (ss.map V.str))→(∀b o,H b=some o→b≠p→H4 b=some o) →
    ∃ (ts':List Str) (v1 v2:Option V) (c5':Int),[some (V.ref p),some (V.ref l),some (V.ref m),some (V.ref r),some (V.int (0+(i:Int))),some (V.str k2),none,none]=[some (.ref p),some (.ref l),some (.ref m),some (.ref r),v1,v2,none,none] ∧
     (upd H4 r (.lst (ts.map V.str++[.str k2]))) r=some (.lst (ts'.map V.str))∧(upd H4 r (.lst (ts.map V.str++[.str k2]))) l=some (.lst (ss.map V.str))∧ts'.length=i+1∧(∀s∈ts',s.length≤28∧AZ s)∧Z7 (upd H4 r (.lst (ts.map V.str++[.str k2]))) p c5'∧c5+5≤c5'∧c5'≤c5+5+8*((i+1:Nat):Int) ∧
     (∀b o,H b=some o→b≠p→(upd H4 r (.lst (ts.map V.str++[.str k2]))) b=some o):=fun k2 c4 H4 hk L4 b1 b2 hr4 hl4 B4=>by
   refine⟨ts++[k2],_,_,c4,rfl,?_,?_,by rw[Qc,hn];rfl,?_,L4.at npr,by omega,by omega,fun b o e n=>?_⟩
   ·rw[Zc,Qg];rfl
   ·rw[Ze nlr];exact hl4
   ·intro x hx
    rcases Qf.mp hx with hx|hx
    ·exact h28 x hx
    ·rw[Qe.mp hx];exact hk
   ·rw[Ze (Zb e hrn)]
    exact B4 b o e n
  have hlt:(ts.map V.str).length<sizeLine:=by rw[Qa,hn];exact Zm (by omega)
  refine⟨_,rfl,(by show 0≤sizeLine;decide),fun e he=>?_⟩
  have hr3':(upd H3 e (.lst [])) r=some (.lst (ts.map V.str)):=by rw[Ze (Zb hr3 he)];exact hr3
  have hl3':(upd H3 e (.lst [])) l=some (.lst (ss.map V.str)):=by rw[Ze (Zb hl3 he)];exact hl3
  refine⟨.list (ts.map PyData.str),.list [],.lst (SqL.of hr3') (Zcj ts),.lst (SqL.of Zc) .nil,Zbh ts (fun s h=>(h28 s h).2),(by ac_rfl),_,rfl,?_⟩
  have B3':∀b o,H b=some o→b≠p→(upd H3 e (.lst [])) b=some o:=fun b o z n=>Zf he _ b o (B3 b o (B2 b o z n) n)
  cases ts with
  | nil =>
   have ev:(if true=true then !PyData.eqv (.list (([]:List Str).map PyData.str)) (.list []) else PyData.eqv (.list (([]:List Str).map PyData.str)) (.list []))=false:=by ac_rfl
   rw[ev]
   refine Zbt (Zbt ?_)
   refine⟨_,rfl,.inl ⟨rfl,_,SqL.of hr3'⟩,_,rfl,r,_,_,rfl,rfl,hr3',hlt,?_⟩
   exact fin key c3 _ ⟨hkey,hkaz⟩ (L3.new he) (by omega) (by omega) hr3' hl3' B3'
  | cons t0 tr =>
   have ev:(if true=true then !PyData.eqv (.list ((t0::tr).map PyData.str)) (.list []) else PyData.eqv (.list ((t0::tr).map PyData.str)) (.list []))=true:=by simp[PyData.eqv,PyData.eqvAll]
   rw[ev]
   refine ZgP ⟨_,rfl,p,c3,_,rfl,L3.new he,by omega,by decide,by decide,fun d H5' d0 d1' L5' B5'=>?_⟩
   have hr5:=B5' r _ hr3' npr.symm
   have hl5':=B5' l _ hl3' npl.symm
   refine⟨rfl,_,rfl,Zbb (fun _=>?_) (fun _=>?_)⟩
   ·have hlen:((((t0::tr).map V.str).length:Nat):Int)=((t0::tr).length:Int):=by rw[Qa]
    have hpos:(0:Int)<((t0::tr).length:Int):=by simp
    refine⟨_,rfl,_,rfl,_,rfl,r,_,rfl,.inl (SqL.of hr5),p,c3+1,_,rfl,L5',by omega,by omega,by omega,fun d' H6' d0' d1'' L6' B6'=>?_⟩
    obtain⟨st,hs1,hs2⟩:=ZeK (ss:=t0::tr) d0' (by omega)
    have hr6:=B6' r _ hr5 npr.symm
    refine⟨r,_,_,_,rfl,rfl,SqL.of hr6,hs2,?_⟩
    refine⟨_,rfl,.inl ⟨rfl,_,SqL.of hr6⟩,_,rfl,r,_,_,rfl,rfl,hr6,hlt,?_⟩
    exact fin st _ _ (h28 st hs1) L6' (by omega) (by omega) hr6 (B6' l _ hl5' npl.symm) fun b o z n=>B6' b o (B5' b o (B3' b o z n) n) n
   ·refine⟨_,rfl,.inl ⟨rfl,_,SqL.of hr5⟩,_,rfl,r,_,_,rfl,rfl,hr5,hlt,?_⟩
    exact fin key _ _ ⟨hkey,hkaz⟩ L5' (by omega) (by omega) hr5 hl5' fun b o z n=>B5' b o (B3' b o z n) n
 ·rintro σ H2 ⟨ts,v1,v2,c2,rfl,hr2,hl2,hn,h28,L2,a1',a2',B2⟩
  have hn60:ts.length≤60:=by omega
  refine⟨_,rfl,p,c2,_,rfl,L2,by omega,by decide,by decide,fun wy H3 w0 w1 L3 B3=>?_⟩
  have hr3:=B3 r _ hr2 npr.symm
  have B03:But p H H3:=fun b o h n=>B3 b o (B2 b o h n) n
  refine⟨_,rfl,r,_,rfl,.inl (SqL.of hr3),_,_,rfl,rfl,⟨by decide,by decide⟩,?_⟩
  refine⟨_,rfl,rfl,_,rfl,Zbb (fun _=>?_) (fun _=>?_)⟩
  ·refine⟨_,rfl,r,ts,rfl,SqL.of hr3,by omega,fun x rs hx perm srt=>?_⟩
   have npx:p≠x:=by obtain⟨o,ho⟩:=L3.here;exact Zb ho hx
   exact q x rs _ _ (Zck B03 npx hx) Zc (by rw[perm.length_eq];omega) (fun s hs=>h28 s (perm.mem_iff.mp hs)) (L3.new hx) (by omega) (by omega) (B03.trans (But.same (Zf hx _)))
  refine⟨_,rfl,rfl,_,rfl,Zbb (fun _=>?_) (fun _=>?_)⟩
  ·refine⟨_,rfl,r,ts,rfl,SqL.of hr3,by omega,fun x rs hx perm srt=>?_⟩
   refine⟨_,rfl,_,rfl,_,rfl,x,_,rfl,SqL.of Zc,by decide,fun y hy=>?_⟩
   have B04:=B03.trans (But.same (Zf hx (.lst (rs.map V.str))))
   have L4:Z7 (upd H3 x (.lst (rs.map V.str))) p (c2+1):=L3.new hx
   have npy:p≠y:=by obtain⟨o,ho⟩:=L4.here;exact Zb ho hy
   exact q y rs.reverse _ _ (Zck B04 npy hy) (by rw[Zc,Zdu,List.map_reverse]) (by rw[QaK,perm.length_eq];omega) (fun s hs=>h28 s (perm.mem_iff.mp (List.mem_reverse.mp hs))) (L4.new hy) (by omega) (by omega) (B04.trans (But.same (Zf hy _)))
  refine⟨_,rfl,rfl,_,rfl,Zbb (fun _=>?_) (fun _=>?_)⟩
  ·have hcut:((((ts.map V.str).length:Nat):Int) / 2)=((ts.length / 2:Nat):Int):=by rw[Qa];omega
   simp only[hcut]
   obtain⟨e1,e2⟩:=Zg3 ts (ts.length / 2) (by omega)
   refine⟨_,rfl,_,rfl,_,rfl,r,_,rfl,SqL.of hr3,fun y hy=>?_⟩
   rw[e1]
   refine⟨y,ts.take (ts.length / 2),rfl,SqL.of Zc,by rw[QA];omega,fun x rs hx perm srt=>?_⟩
   have S5:ZH H3 (upd (upd H3 y (.lst ((ts.take (ts.length / 2)).map V.str))) x (.lst (rs.map V.str))):=(Zf hy _).trans (Zf hx _)
   have hx5:(upd (upd H3 y (.lst ((ts.take (ts.length / 2)).map V.str))) x (.lst (rs.map V.str))) x=some (.lst (rs.map V.str)):=Zc
   generalize upd (upd H3 y (.lst ((ts.take (ts.length / 2)).map V.str))) x (.lst (rs.map V.str))=H5x at S5 hx5 ⊢
   refine⟨_,rfl,_,rfl,_,rfl,r,_,rfl,SqL.of (S5 _ _ hr3),fun y2 hy2=>?_⟩
   rw[e2]
   refine⟨y2,ts.drop (ts.length / 2),rfl,SqL.of Zc,by rw[QO];omega,fun x2 rs2 hx2 perm2 srt2=>?_⟩
   have S6:ZH H5x (upd (upd H5x y2 (.lst ((ts.drop (ts.length / 2)).map V.str))) x2 (.lst (rs2.map V.str))):=(Zf hy2 _).trans (Zf hx2 _)
   have hx6:(upd (upd H5x y2 (.lst ((ts.drop (ts.length / 2)).map V.str))) x2 (.lst (rs2.map V.str))) x2=some (.lst (rs2.map V.str)):=Zc
   generalize upd (upd H5x y2 (.lst ((ts.drop (ts.length / 2)).map V.str))) x2 (.lst (rs2.map V.str))=H6x at S6 hx6 ⊢
   have l1:=perm.length_eq
   have l2:=perm2.length_eq
   rw[QA]at l1
   rw[QO]at l2
   refine⟨x,x2,_,_,rfl,rfl,S6 _ _ hx5,hx6,(by rw[Qa,Qa];exact ZaP (by omega)),fun z hz=>?_⟩
   have L6x:=(L3.same S5).same S6
   have npz:p≠z:=by obtain⟨o,ho⟩:=L6x.here;exact Zb ho hz
   have B06:But p H H6x:=B03.trans (But.same (S5.trans S6))
   refine q z (rs++rs2) _ _ (Zck B06 npz hz) (by rw[Zc,Qg]) (by rw[Qc];omega) (fun s hs=>?_) (L6x.new hz) (by omega) (by omega) (B06.trans (But.same (Zf hz _)))
   rcases Qf.mp hs with hs|hs
   ·exact h28 s (QaD (perm.mem_iff.mp hs))
   ·exact h28 s (QaC (perm2.mem_iff.mp hs))
  ·exact⟨_,rfl,q r ts _ H3 hrn hr3 (by omega) h28 L3 (by omega) (by omega) B03⟩
theorem Rd.out{H:Hp}{ls:List Addr}{ds:List (List Int)}(h:Rd H ls ds){l:Addr}(hl:H l=none):l ∉ ls:=fun hm=>by
 obtain⟨i,hi⟩:=List.mem_iff_getElem?.mp hm
 obtain⟨d,_,hd⟩:=h.at hi
 rw[hl]at hd;cases hd
theorem ZgC{ls:List Addr}{l:Addr}:atI ((ls++[l]).map V.ref) (-1)=some (.ref l):=by
 have e:ixN ((ls++[l]).map V.ref).length (-1)=some ls.length:=by
  unfold ixN
  rw[Qa,Qc,Qo,if_neg (by decide),if_pos (by omega)]
  congr 1
  omega
 unfold atI
 rw[e,Option.bind_some,Qn]
 simp
theorem Rd.split{H:Hp}:∀ {ls:List Addr} {ds:List (List Int)} {d:List Int},Rd H ls (ds++[d])→∃ms l,ls=ms++[l]∧Rd H ms ds∧H l=some (.lst (d.map V.int))
 | [],[],d,h=>h.elim
 | [],_::_,d,h=>h.elim
 | [l],[],d,h=>⟨[],l,rfl,trivial,h.1⟩
 | l::m::ls,[],d,h=>h.2.elim
 | l::ls,e::ds,d,h=>by
  obtain⟨ms,x,e1,e2,e3⟩:=Rd.split (ls:=ls) (ds:=ds) h.2
  exact⟨l::ms,x,by rw[e1];rfl,⟨h.1,e2⟩,e3⟩
def Zh0(K:PySem.W.Frag):Sp:=fun vs H Q _=>∃ (a:Addr) (ss:List Str),vs=[.ref a]∧SqL K H a (ss.map V.str)∧ss.length≤100∧(∀s∈ss,s.length≤1000) ∧
 ∀ (r:Addr) (ls:List Addr) (H':Hp),H r=none→H' r=some (.lst (ls.map V.ref))→r ∉ ls→(∀l∈ls,H l=none)→Rd H' ls (Z0 (Zad ss) ss.length)→ZH H H'→Q (.ref r) H'
theorem ZdT(T:Zba K mg)(f_liken:Df P w K mg base 3 "liken" ["one", "other"] Zch):Df P w K mg base 4 "stretches" ["things"] (Zh0 K):=by
 refine T.t_stretches.df Zaw (fun vs H Q E h=>?_) (fun cdv f A outer s H vs Q E hr h=>?_)
 ·obtain⟨a,ss,rfl,_⟩:=h
  rfl
 obtain⟨a,ss,rfl,hS,hn,hlen,q⟩:=h
 refine⟨_,#[Zi,#[ZL,1,Zaw.nd,(Or.inl rfl),#[Z4,#[Zd]]],#[Zi,#[Zdx,PassesOwn.never,(@iE _ K _ _ _ _ _ _ _ T.b.n_enumerate #[Za,‹0›,#[Zd]] (by rfl) (by rfl) (by rfl)),#[gT,K,2,#[Zaf,#[Zay,2,Zaw.nd],#[Zaf,#[Zay,3,Zaw.nd],(@Zci _)]]],#[Zk,#[ZaC,(@PW.pt _ _ _ #[Zbw,#[Zn,Zf8,‹2›,#[Zh],(Zq _)],(@Zbn _ _ _ _ #[Zn,Zh4,#[Zx,f_liken,hr,#[Za,#[ZZ,(ixL K),‹0›,#[ZD,Zip,‹2›,#[Zh]]],#[Za,‹3›,#[Zd]]],(by rfl)],#[Zh],(Zq _)])]),#[Zk,#[ZaI,#[ZbN,QR,Q7,Q8,Zao,#[ZZ,(ixL K),‹1›,#[Zcw,ZbA,#[Zh]]],#[Za,‹2›,#[Zd]]]]],#[Zk,#[ZaI,#[ZbN,QR,Q7,Q8,Zao,‹1›,#[Za,#[Z4,#[Za,‹2›,#[Zd]]],#[Zd]]]]]]]],#[Zk,#[Zu,‹1›]]]],?_⟩
 refine⟨(by show 0≤sizeLine;decide),fun r hr0=>?_⟩
 have s1:ZH H (upd H r (.lst [])):=Zf hr0 _
 refine⟨_,rfl,a,ss.map V.str,rfl,s1.seq hS,?_⟩
 refine ZgG (K:=K) (a:=a) (xs:=ss.map V.str) (fun i σ H2=>∃ (v1 v2:Option V) (ls:List Addr),σ=[some (.ref a),some (.ref r),v1,v2]∧H2 r=some (.lst (ls.map V.ref))∧r ∉ ls∧ls.Nodup∧(∀l∈ls,H l=none)∧Rd H2 ls (Z0 (Zad ss) i)∧ZH H H2∧i≤ss.length)
  ⟨none,none,[],rfl,Zc,(fun h=>by cases h),List.nodup_nil,(fun l h=>by cases h),trivial,s1,Qx _⟩ (fun _ _ _ ⟨_,_,_,_,_,_,_,_,_,s2,_⟩=>s2.seq hS) ?_ ?_
 ·rintro i x σ H2 p hx ⟨v1,v2,ls,rfl,hr2,hrl,hnd,hfr,rd2,s2,hi⟩ hp
  rw[Qn]at hx
  cases hy:ss[i]? with
  | none=>rw[hy]at hx;cases hx
  | some y =>
   rw[hy]at hx
   cases hx
   have hil:i<ss.length:=(Qp.mp hy).1
   have s3:ZH H (upd H2 p (.tup [.int i,.str y])):=s2.trans (Zf hp _)
   have hr3:(upd H2 p (.tup [.int i,.str y])) r=some (.lst (ls.map V.ref)):=Zf hp _ _ _ hr2
   have rd3:Rd (upd H2 p (.tup [.int i,.str y])) ls (Z0 (Zad ss) i):=Rd.mono (fun l _ u hu=>Zf hp _ _ _ hu) rd2
   have hp3:(upd H2 p (.tup [.int i,.str y])) p=some (.tup [.int i,.str y]):=Zc
   generalize upd H2 p (.tup [.int i,.str y])=H3 at s3 hr3 rd3 hp3 ⊢
   have hll:ls.length≤i:=by rw[rd3.len];exact ZeU _ _
   have hlt:(ls.map V.ref).length<sizeLine:=by rw[Qa];exact Zm (by omega)
   have new:(i=0∨Zad ss i=true)→∀n,H3 n=none→∃ (v1 v2:Option V) (ls':List Addr),[some (V.ref a),some (V.ref r),some (V.int i),some (V.str y)]=[some (.ref a),some (.ref r),v1,v2]∧(upd (upd H3 n (.lst [.int i])) r (.lst (ls.map V.ref++[.ref n]))) r=some (.lst (ls'.map V.ref))∧r ∉ ls'∧ls'.Nodup∧(∀l∈ls',H l=none)∧Rd (upd (upd H3 n (.lst [.int i])) r (.lst (ls.map V.ref++[.ref n]))) ls' (Z0 (Zad ss) (i+1))∧ZH H (upd (upd H3 n (.lst [.int i])) r (.lst (ls.map V.ref++[.ref n])))∧i+1≤ss.length:=fun hb n hn0=>by
    have nrn:r≠n:=Zb hr3 hn0
    have hnl:n ∉ ls:=rd3.out hn0
    refine⟨_,_,ls++[n],rfl,by rw[Zc,Qg];rfl,fun h=>?_,?_,fun l h=>?_,?_,fun b o h=>?_,hil⟩
    ·rcases Qf.mp h with h|h
     ·exact hrl h
     ·exact nrn (Qe.mp h)
    ·rw[List.nodup_append]
     exact⟨hnd,by simp,fun x hx y hy e=>hnl (by rw[← Qe.mp hy,← e];exact hx)⟩
    ·rcases Qf.mp h with h|h
     ·exact hfr l h
     ·rw[Qe.mp h];exact s3.free hn0
    ·rw[ZbD _ _ hb]
     refine Rd.app (Rd.mono (fun l hl u hu=>?_) rd3) ⟨?_,trivial⟩
     ·rw[Ze (fun e:l=r=>hrl (e ▸ hl)),Ze (fun e:l=n=>hnl (e ▸ hl))];exact hu
     ·rw[Ze nrn.symm,Zc];rfl
    ·rw[Ze (Zb h hr0),Ze (Zb h (s3.free hn0))];exact s3 b o h
   refine⟨p,_,rfl,SqT.of hp3,rfl,_,_,rfl,_,_,rfl,rfl,?_⟩
   refine⟨_,rfl,_,_,rfl,rfl,_,rfl,Zbb (fun d1=>?_) (fun d1=>Zbt ?_)⟩
   ·have d1':(0:Int)<(i:Int):=of_decide_eq_true d1
    have hprev:i-1<ss.length:=by omega
    have ei:((i:Int)-1)=((i-1:Nat):Int):=by omega
    have hb:Zad ss i=decide (0<ZQ (cds ss[i-1]) (cds y)):=by
     unfold Zad
     rw[Zbs hprev,Zbs hil,(Qp.mp hy).2]
    refine⟨_,rfl,_,rfl,_,_,rfl,rfl,a,_,_,_,rfl,rfl,s3.seq hS,(by rw[ei];exact ZhD hprev),_,rfl,ss[i-1],y,rfl,hlen _ (QI hprev),hlen _ (QG hy),_,_,rfl,rfl,_,rfl,Zbb (fun d2=>?_) (fun d2=>?_)⟩
    ·have d2':ZQ (cds ss[i-1]) (cds y)≤0:=of_decide_eq_true d2
     have hbf:Zad ss i=false:=by rw[hb];exact decide_eq_false (by omega)
     obtain⟨ds,d,e1,e2⟩:=Zdh (Zad ss) i (by omega) hbf
     rw[e1]at rd3
     obtain⟨ms,l,rfl,rd4,hl⟩:=rd3.split
     have hdl:d.length≤i:=ZdJ (Zad ss) i d (by rw[e1];simp)
     have nd2:=QJ.mp hnd
     have hlms:l ∉ ms:=fun h=>nd2.2.2 l h l (by simp) rfl
     have nrl:r≠l:=fun e=>hrl (by rw[e];simp)
     refine⟨_,rfl,_,rfl,r,_,_,_,rfl,rfl,SqL.of hr3,ZgC,(show L2.tyV K "list" (.ref l) H3 from .inl ⟨rfl,_,SqL.of hl⟩),_,rfl,l,_,_,rfl,rfl,hl,(by rw[Qa];exact Zm (by omega)),?_⟩
     refine⟨_,_,ms++[l],rfl,by rw[Ze nrl];exact hr3,hrl,hnd,hfr,?_,fun b o h=>?_,hil⟩
     ·rw[e2]
      refine Rd.app (Rd.mono (fun l' hl' u hu=>?_) rd4) ⟨?_,trivial⟩
      ·rw[Ze (fun e:l'=l=>hlms (e ▸ hl'))];exact hu
      ·rw[Zc,Qg];rfl
     ·rw[Ze (Zb h (hfr l (by simp)))];exact s3 b o h
    ·have d2':¬ ZQ (cds ss[i-1]) (cds y)≤0:=fun z=>d2 (decide_eq_true z)
     have hbt:Zad ss i=true:=by rw[hb];exact decide_eq_true (by omega)
     refine⟨_,rfl,.inl ⟨rfl,_,SqL.of hr3⟩,_,rfl,(by show 1≤sizeLine;decide),fun n hn0=>⟨r,_,_,rfl,rfl,Zf hn0 _ _ _ hr3,hlt,new (.inr hbt) n hn0⟩⟩
   ·have d1':¬ (0:Int)<(i:Int):=fun z=>d1 (decide_eq_true z)
    refine⟨_,rfl,.inl ⟨rfl,_,SqL.of hr3⟩,_,rfl,(by show 1≤sizeLine;decide),fun n hn0=>⟨r,_,_,rfl,rfl,Zf hn0 _ _ _ hr3,hlt,new (.inl (by omega)) n hn0⟩⟩
 ·rintro σ H2 ⟨v1,v2,ls,rfl,hr2,hrl,hnd,hfr,rd2,s2,hi⟩
  rw[Qa]at rd2
  exact⟨_,rfl,q r ls H2 hr0 hr2 hrl hfr rd2 s2⟩
theorem Zbp{K:PySem.W.Frag}{a:Addr}{xs:List V}{k:Nat}{D:Addr}{σ:L2.St}{H1:Hp}{g:TG}{te:TE}{Q:VK}(Pv:Nat→List V→L2.St→Hp→Prop)(h0:Pv 0 [] (σ++List.replicate k none) (upd H1 D (.lst [])))
  (hl:∀i ys σ H,Pv i ys σ H→SqL K H a xs)
  (hs:∀i x ys σ H,xs[i]? = some x→Pv i ys σ H→g x σ H fun σ4 H4=>te σ4 H4 fun y H6=>H6 D=some (.lst ys)∧ys.length<sizeLine∧Pv (i+1) (ys++[y]) σ4 (upd H6 D (.lst (ys++[y]))))
  (hd:∀ys σ H,Pv xs.length ys σ H→Q (.ref D) H):ZdE (Itl K a) D k σ H1 g ZeB te Q:=by
 refine⟨fun i m ys σ H=>m=xs.length-i∧i≤xs.length∧Pv i ys σ H,⟨xs.length,by simp,Qx _,h0⟩,?_⟩
 rintro i m ys σ H ⟨rfl,hi,p⟩
 have q1:=hl i ys σ H p
 by_cases hlt:i<xs.length
 ·refine .inr ⟨⟨xs,xs[i],q1,Qd hlt⟩,Pv (i+1),fun ys' σ' H' p'=>⟨xs.length-(i+1),by omega,rfl,hlt,p'⟩,fun x H' y=>?_⟩
  obtain⟨rfl,e⟩:=y
  simp only[ZeB,↓reduceIte]
  exact hs i x ys σ _ (e xs q1) p
 ·have e:i=xs.length:=by omega
  exact .inl ⟨⟨xs,q1,by omega⟩,hd ys σ H (e ▸ p)⟩
def kk(e:Str×Int):List Key:=[.inr e.1,.inl e.2]
def Ord(E:List (Str×Int)):Prop:=E.Pairwise fun a b=>Zw (kk b) (kk a)=false
theorem ZeC{ts' ts:ZaQ}{E:List (Str×Int)}(hE:ts.map (·.2)=E.map kk)(pm:ts'.Perm ts)(pw:ts'.Pairwise (fun a b=>Zw b.2 a.2=false)):∃E',E'.Perm E∧ts'.map (·.2)=E'.map kk∧Ord E':=by
 obtain⟨E',p,e⟩:=Zeg kk (pm.map (·.2)) E hE
 refine⟨E',p,e,?_⟩
 have:(ts'.map (·.2)).Pairwise (fun a b=>Zw b a=false):=List.pairwise_map.mpr pw
 rw[e]at this
 exact List.pairwise_map.mp this
def ks(ss:List Str)(n:Int):Str×Int:=(ss.getD n.toNat "",n)
def ZbR(ss:List Str)(A:List Int)(n:Int):Prop:=n∈A∧∀m∈A,Zw (kk (ks ss m)) (kk (ks ss n))=false
theorem ZcM{e f:Str×Int}(h:kk e=kk f):e=f:=by
 obtain⟨a,b⟩:=e
 obtain⟨c,d⟩:=f
 unfold kk at h
 injection h with h1 h2
 injection h2 with h2 _
 have e1:a=c:=Sum.inr.inj h1
 have e2:b=d:=Sum.inl.inj h2
 rw[e1,e2]
theorem Za0{ss:List Str}{A:List Int}{n m:Int}(h:ZbR ss A n)(g:ZbR ss A m):n=m:=by
 have:=ZcM (Z2 _ _ (g.2 n h.1) (h.2 m g.1))
 exact congrArg Prod.snd this
def ltK(ss:List Str)(c n:Int):Prop:=cds (ss.getD c.toNat "")<cds (ss.getD n.toNat "")
inductive Res (ss:List Str):List Int→List Int→Nat→List Int→List (List Int)→List (List Int)→Prop where
 | stop0 {c:Nat} {done:List (List Int)}:Res ss [] [] c [] done done
 | stop {c:Nat} {g:Int} {gone:List Int} {done:List (List Int)}:Res ss [] [] c (g::gone) done (done++[g::gone])
 | switch {b:Int} {B:List Int} {c:Nat} {gone:List Int} {done R:List (List Int)}:Res ss (b::B) [] c [] (done++[gone]) R→Res ss [] (b::B) c gone done R
 | stepN {A B:List Int} {c:Nat} {gone:List Int} {done R:List (List Int)} {n:Int}:ZbR ss A n→¬ c<ss.length→Res ss (A.erase n) B c (gone++[n]) done R→Res ss A B c gone done R
 | stepA {A B:List Int} {c:Nat} {gone:List Int} {done R:List (List Int)} {n:Int}:ZbR ss A n→c<ss.length→¬ ltK ss c n→Res ss (A.erase n++[(c:Int)]) B (c+1) (gone++[n]) done R→Res ss A B c gone done R
 | stepB {A B:List Int} {c:Nat} {gone:List Int} {done R:List (List Int)} {n:Int}:ZbR ss A n→c<ss.length→ltK ss c n→Res ss (A.erase n) (B++[(c:Int)]) (c+1) (gone++[n]) done R→Res ss A B c gone done R
theorem Zp{ss:List Str}{n:Int}(h:ZbR ss [] n):False:=by cases h.1
theorem Zfm{ss:List Str}{A B:List Int}{c:Nat}{gone:List Int}{done R:List (List Int)}(h:Res ss A B c gone done R):∀R',Res ss A B c gone done R'→R=R':=by
 induction h with
 | stop0=>intro R' g;cases g with
  | stop0=>rfl
  | stepN l _ _=>exact(Zp l).elim
  | stepA l _ _ _=>exact(Zp l).elim
  | stepB l _ _ _=>exact(Zp l).elim
 | stop=>intro R' g;cases g with
  | stop=>rfl
  | stepN l _ _=>exact(Zp l).elim
  | stepA l _ _ _=>exact(Zp l).elim
  | stepB l _ _ _=>exact(Zp l).elim
 | switch _ ih=>intro R' g;cases g with
  | switch g=>exact ih _ g
  | stepN l _ _=>exact(Zp l).elim
  | stepA l _ _ _=>exact(Zp l).elim
  | stepB l _ _ _=>exact(Zp l).elim
 | stepN l hc _ ih=>intro R' g;cases g with
  | stop0=>exact(Zp l).elim
  | stop=>exact(Zp l).elim
  | switch _=>exact(Zp l).elim
  | stepN l' _ g=>rw[Za0 l' l]at g;exact ih _ g
  | stepA _ h _ _=>exact absurd h hc
  | stepB _ h _ _=>exact absurd h hc
 | stepA l hc hn _ ih=>intro R' g;cases g with
  | stop0=>exact(Zp l).elim
  | stop=>exact(Zp l).elim
  | switch _=>exact(Zp l).elim
  | stepN _ h _=>exact absurd hc h
  | stepA l' _ _ g=>rw[Za0 l' l]at g;exact ih _ g
  | stepB l' _ h _=>rw[Za0 l' l]at h;exact absurd h hn
 | stepB l hc hn _ ih=>intro R' g;cases g with
  | stop0=>exact(Zp l).elim
  | stop=>exact(Zp l).elim
  | switch _=>exact(Zp l).elim
  | stepN _ h _=>exact absurd hc h
  | stepA l' _ h _=>rw[Za0 l' l]at h;exact absurd hn h
  | stepB l' _ _ g=>rw[Za0 l' l]at g;exact ih _ g
def kt(ss:List Str)(r:Int)(n:Int):List Key:=[.inl r,.inr (ss.getD n.toNat ""),.inl n]
theorem Ziw{ss:List Str}{r n m:Int}:Zw (kt ss r n) (kt ss r m)=Zw (kk (ks ss n)) (kk (ks ss m)):=by
 unfold kt
 rw[Zaz,if_pos rfl]
 rfl
theorem Zi3{ss:List Str}{r n m:Int}:Zw (kt ss r n) (kt ss (r+1) m)=true:=by
 unfold kt
 rw[Zaz,if_neg (by intro z;have:=Sum.inl.inj z;omega)]
 exact decide_eq_true (by omega)
def ZR(ss:List Str)(r:Int)(A B:List Int):List (List Key):=A.map (kt ss r)++B.map (kt ss (r+1))
theorem Zig{ss:List Str}{r:Int}{A B:List Int}{M:List (List Key)}(hp:M.Perm (ZR ss r A B))(hA:A≠[]){t:List Key}(ht:t∈M)(hm:∀u∈M,Zw u t=false):∃n,t=kt ss r n∧ZbR ss A n:=by
 have h1:=hp.mem_iff.mp ht
 rcases Qf.mp h1 with h1|h1
 ·obtain⟨n,hn,rfl⟩:=Q1.mp h1
  refine⟨n,rfl,hn,fun m hm'=>?_⟩
  rw[← Ziw (r:=r)]
  exact hm _ (hp.mem_iff.mpr (Qr _ (Qap hm')))
 ·obtain⟨m,_,rfl⟩:=Q1.mp h1
  cases A with
  | nil=>exact absurd rfl hA
  | cons a A =>
   have:=hm _ (hp.mem_iff.mpr (Qr _ (Qap (Qv (a:=a)))))
   rw[Zi3]at this;cases this
theorem ZgD{ss:List Str}{r:Int}{A B:List Int}{M M':List (List Key)}{n:Int}(hp:M.Perm (ZR ss r A B))(hn:n∈A)(he:M.Perm (kt ss r n::M')):M'.Perm (ZR ss r (A.erase n) B):=by
 have h1:(kt ss r n::M').Perm (ZR ss r A B):=he.symm.trans hp
 have h3:(ZR ss r A B).Perm (kt ss r n::ZR ss r (A.erase n) B):=by
  unfold ZR
  exact((QaE hn).map (kt ss r)).append_right _
 exact(h1.trans h3).cons_inv
theorem Zgx{K:PySem.W.Frag}{H:Hp}{a:Addr}{xs:List V}(h:H a=some (.lst xs)):L2.tyV K "list" (.ref a) H:=.inl ⟨rfl,_,SqL.of h⟩
def ZgR:Sp:=fun vs H Q _=>∃ (p:Addr) (c:Int),vs=[.ref p]∧Z7 H p c∧c<2 ^ 40∧∀ (v c':Int) (H':Hp),1≤v→v≤16→Z7 H' p c'→c≤c'→c'≤c+2→But p H H'→Q (.int v) H'
theorem Zhi(T:Zba K mg)(f_l_pick:Df P w K mg base 2 "_law_pick" ["_law_left_here", "_law_many"] Zb3):Df P w K mg base 3 "_law_room" ["_law_left_here"] ZgR:=by
 refine T.t_l_room.df Zfn (fun vs H Q E h=>?_) (fun cdv f A outer s H vs Q E hr h=>?_)
 ·obtain⟨p,c,rfl,_⟩:=h
  rfl
 obtain⟨p,c,rfl,hL,c1,q⟩:=h
 refine⟨_,#[Zk,#[Zu,#[ZZ,(ixL K),#[Z4,#[Za,#[Zh],#[Za,#[Zh],#[Za,#[Zh],#[Za,#[Zh],#[Za,#[Zh],#[Za,#[Zh],#[Za,#[Zh],#[Za,#[ZD,Zak,#[Zh],#[Zx,f_l_pick,hr,#[Za,‹0›,#[Za,#[Zh],#[Zd]]],(by rfl)]],#[Zd]]]]]]]]]],#[Zx,f_l_pick,hr,#[Za,‹0›,#[Za,#[Zh],#[Zd]]],(by rfl)]]]],?_⟩
 have c0:=hL.ge
 refine⟨_,rfl,p,c,_,rfl,hL,by omega,by decide,by decide,fun d H1 d0 d1 L1 B1=>⟨_,_,rfl,rfl,(by show 8≤sizeLine;decide),fun e he=>?_⟩⟩
 have npe:p≠e:=by obtain⟨o,ho⟩:=L1.here;exact Zb ho he
 refine⟨_,rfl,p,c+1,_,rfl,L1.new he,by omega,by decide,by decide,fun i H2 i0 i1 L2 B2=>?_⟩
 obtain⟨v,hv,hat⟩:=Zfg (ns:=[1,2,3,4,5,2,3,1+d]) i0 i1
 have he2:H2 e=some (.lst (([1,2,3,4,5,2,3,1+d]:List Int).map V.int)):=B2 e _ Zc npe.symm
 have hv1:1≤v∧v≤16:=by
  simp only[List.mem_cons,List.not_mem_nil,or_false]at hv
  omega
 exact⟨e,_,_,_,rfl,rfl,SqL.of he2,hat,q v _ _ hv1.1 hv1.2 L2 (by omega) (by omega) ((B1.trans (But.same (Zf he _))).trans B2)⟩
def ZcO:Sp:=fun vs H Q _=>∃ (r:Int) (x y:Str),vs=[.int r,.str x,.str y]∧x.length≤1000∧y.length≤1000∧(¬ cds y<cds x→Q (.int r) H)∧(cds y<cds x→Q (.int (r+1)) H)
theorem Zfx(T:Zba K mg)(f_liken:Df P w K mg base 3 "liken" ["one", "other"] Zch):Df P w K mg base 4 "run_behind" ["run", "key", "comer"] ZcO:=by
 refine T.t_run_behind.df Zc0 (fun vs H Q E h=>?_) (fun cdv f A outer s H vs Q E hr h=>?_)
 ·obtain⟨r,x,y,rfl,_⟩:=h
  rfl
 obtain⟨r,x,y,rfl,hx,hy,q1,q2⟩:=h
 refine⟨_,#[Zk,#[Zu,(@ZcL _ _ _ _ _ _ _ _ #[Zn,ZfU,#[Zx,f_liken,hr,#[Za,‹2›,#[Za,‹1›,#[Zd]]],(by rfl)],#[Zh],(Zq _)] ‹0› #[ZD,Zak,‹0›,#[Zh]])]],?_⟩
 refine⟨_,rfl,_,rfl,y,x,rfl,hy,hx,_,_,rfl,rfl,_,rfl,Zbb (fun d=>?_) (fun d=>?_)⟩
 ·have d':(0:Int)≤ZQ (cds y) (cds x):=of_decide_eq_true d
  exact⟨_,rfl,q1 (fun z=>by have:=(ZbW _ _).mp z;omega)⟩
 ·have d':¬ (0:Int)≤ZQ (cds y) (cds x):=fun z=>d (decide_eq_true z)
  exact⟨_,rfl,_,_,rfl,rfl,q2 ((ZbW _ _).mpr (by omega))⟩
def first(k:Nat):List Int:=ZJ 0 k
def ZdO(K:PySem.W.Frag):Sp:=fun vs H Q _=>∃ (a:Addr) (ss:List Str) (room:Nat),vs=[.ref a,.int room]∧SqL K H a (ss.map V.str)∧ss.length≤60∧(∀s∈ss,s.length≤1000)∧room≤100 ∧
 ∀ (r:Addr) (ls:List Addr) (R:List (List Int)) (H':Hp),H r=none→H' r=some (.lst (ls.map V.ref))→r ∉ ls→(∀l∈ls,H l=none)→Rd H' ls R→Res ss (first (min room ss.length)) [] (min room ss.length) [] [] R→R.length≤100→(∀d∈R,d.length≤100)→ZH H H'→Q (.ref r) H'
theorem Za1{k:Nat}{n:Int}(h:n∈first k):0≤n∧n<k:=by
 unfold first ZJ at h
 obtain⟨m,hm,rfl⟩:=Q1.mp h
 have:=Qam.mp hm
 omega
theorem ZeV{ss:List Str}{n:Int}(h0:0≤n)(h:n<ss.length):atI (ss.map V.str) n=some (.str (ss.getD n.toNat "")):=by
 have hk:n.toNat<ss.length:=by omega
 have ek:n=((n.toNat:Nat):Int):=by omega
 have q:atI (ss.map V.str) ((n.toNat:Nat):Int)=some (.str ss[n.toNat]):=ZaH (by rw[Qn,Qd hk]<;>rfl)
 rw[← ek]at q
 rw[q,QM,Qd hk];rfl
theorem Za5{ss:List Str}(h:∀s∈ss,s.length≤1000)(n:Nat):(ss.getD n "").length≤1000:=by
 rw[QM]
 cases hx:ss[n]? with
 | none=>decide
 | some z=>exact h z (QG hx)
theorem AtT.mono{H H':Hp}{ts:ZaQ}(h:AtT H ts)(s:ZH H H'):AtT H' ts:=fun x hx=>s _ _ (h x hx)
theorem Z1{H:Hp}{D:Addr}{ys:List V}(h:H D=some (.lst ys))(o:HO):∀a xs,H a=some (.tup xs)→(upd H D o) a=some (.tup xs):=fun a xs e=>by
 have nb:a≠D:=by intro z;rw[z,h]at e;cases e
 rw[Ze nb];exact e
def ZaF(gone:List Int)(done:List (List Int)):List (List Int):=if gone=[] then done else done++[gone]
structure At (ss:List Str) (k:Nat) (H0 H:Hp) (ia ru:Addr) (ts:ZaQ) (ls:List Addr) (A B:List Int) (c:Nat) (gone:List Int) (done:List (List Int)):Prop where
 ins:H ia=some (.lst (ZB ts))
 att:AtT H ts
 per:(ts.map (·.2)).Perm (ZR ss (done.length:Int) A B)
 run:H ru=some (.lst (ls.map V.ref))
 rd:Rd H ls (ZaF gone done)
 rul:ru ∉ ls
 nd:ls.Nodup
 fr:∀l∈ls,H0 l=none
 ne:ia≠ru
 nil:ia ∉ ls
 sm:ZH H0 H
 i0:H0 ia=none
 r0:H0 ru=none
 hc:c≤ss.length
 mem:∀n∈A++B,0≤n∧n<c
 cnt:((ZaF gone done).map List.length).sum+A.length+B.length+(ss.length-c)=ss.length
 nem:∀d∈done,d≠[]
 go:B≠[]→A=[]→gone≠[]
 res:∀R,Res ss A B c gone done R→Res ss (first k) [] k [] [] R
theorem Zan{α:Type}:∀ (l:List α) (i:Nat) (h:i<l.length),(l[i]::l.eraseIdx i).Perm l
 | [],i,h=>by simp at h
 | a::r,0,h=>.refl _
 | a::r,i+1,h=>by
  rw[List.getElem_cons_succ,List.eraseIdx_cons_succ]
  exact(List.Perm.swap a _ _).trans ((Zan r i (by simpa using h)).cons a)
theorem ZbJ:∀D:List (List Int),(∀d∈D,d≠[])→D.length≤(D.map List.length).sum∧∀d∈D,d.length≤(D.map List.length).sum
 | [],_=>⟨Qj _,fun d h=>by cases h⟩
 | x::r,h=>by
  obtain⟨a,b⟩:=ZbJ r fun d hd=>h d (Ql _ hd)
  have hx:x.length≠0:=fun z=>h x (by simp) (Qt z)
  rw[Qw,List.sum_cons,QP]
  refine⟨by omega,fun d hd=>?_⟩
  rcases Q6.mp hd with rfl|hd
  ·omega
  ·have:=b d hd;omega
theorem Ze4{gone:List Int}{done:List (List Int)}(h:∀d∈done,d≠[]):∀d∈ZaF gone done,d≠[]:=fun d hd=>by
 unfold ZaF at hd
 by_cases hg:gone=[]
 ·rw[if_pos hg]at hd;exact h d hd
 ·rw[if_neg hg]at hd
  rcases Qf.mp hd with hd|hd
  ·exact h d hd
  ·rw[Qe.mp hd];exact hg
theorem ZaZ(gone:List Int)(done:List (List Int))(n:Int):ZaF (gone++[n]) done=done++[gone++[n]]:=by unfold ZaF;rw[if_neg (by simp)]
theorem Zau(gone:List Int)(done:List (List Int)):((ZaF gone done).map List.length).sum=(done.map List.length).sum+gone.length:=by
 unfold ZaF
 by_cases hg:gone=[]
 ·rw[if_pos hg,hg];rfl
 ·rw[if_neg hg,Qg,List.sum_append];simp
theorem At.switch{ss:List Str}{k:Nat}{H0 H:Hp}{ia ru:Addr}{ts:ZaQ}{ls:List Addr}{b:Int}{B:List Int}{c:Nat}{gone:List Int}{done:List (List Int)}(h:At ss k H0 H ia ru ts ls [] (b::B) c gone done):At ss k H0 H ia ru ts ls (b::B) [] c [] (done++[gone]):=by
 have hg:=h.go (by simp) rfl
 have e:ZaF [] (done++[gone])=ZaF gone done:=by unfold ZaF;rw[if_pos rfl,if_neg hg]
 refine⟨h.ins,h.att,?_,h.run,by rw[e];exact h.rd,h.rul,h.nd,h.fr,h.ne,h.nil,h.sm,h.i0,h.r0,h.hc,fun n hn=>h.mem n (by simpa using hn),?_,fun d hd=>?_,fun hb=>absurd rfl hb,fun R hR=>h.res R (.switch hR)⟩
 ·have:=h.per
  unfold ZR at this ⊢
  rw[Qar,List.nil_append]at this
  rw[Qar,Q3,Qc,Qo]
  exact this
 ·rw[e];have:=h.cnt;simpa using this
 ·rcases Qf.mp hd with hd|hd
  ·exact h.nem d hd
  ·rw[Qe.mp hd];exact hg
theorem ZG(k:Nat):(first k).length=k:=Zcv 0 k
theorem Zf5{ss:List Str}{r:Int}{A B:List Int}{ts:ZaQ}(hp:(ts.map (·.2)).Perm (ZR ss r A B)):∀t∈ts,ZK t.2=[true,false,true]:=fun t ht=>by
 have:=hp.mem_iff.mp (Qap (f:=fun t:Addr×List Key=>t.2) ht)
 rcases Qf.mp this with h|h
 ·obtain⟨n,_,e⟩:=Q1.mp h;rw[← e];rfl
 ·obtain⟨n,_,e⟩:=Q1.mp h;rw[← e];rfl
theorem ZhS(T:Zba K mg)(f_run_behind:Df P w K mg base 4 "run_behind" ["run", "key", "comer"] ZcO):Df P w K mg base 5 "runs_of" ["things", "room"] (ZdO K):=by
 refine T.t_runs_of.df ZW (fun vs H Q E h=>?_) (fun cdv f A outer s H vs Q E hr h=>?_)
 ·obtain⟨a,ss,room,rfl,_⟩:=h
  rfl
 obtain⟨a,ss,room,rfl,hS,h60,hlen,hroom,q⟩:=h
 refine⟨_,#[Zi,#[ZcB,2,ZW.nd,ZgE,#[ZaW,T.b.n_range,#[Za,#[Zj,(Zdb rfl),(by rfl),T.b.n_min,boot_min,#[Za,‹1›,#[Za,#[Zj,(ZbF K),(by rfl),T.b.n_len,QB,#[Za,#[pv,0,(Or.inr (Or.inl rfl))],#[Zd]]],#[Zd]]]],#[Zd]]],(fun _ _ _ _=>#[cg,9,ZgE]),(fun _ _ _ _=>(@ZaG _)),(fun _ _ _ _=>(@ZeY _ _ _ _ _ #[Za,#[Zh],#[Za,#[ZZ,(ixL K),#[cv,0,ZgE],#[cw,9,ZgE]],#[Za,#[cw,9,ZgE],#[Zd]]]]))],#[Zi,#[ZL,3,ZW.nd,(Or.inl rfl),#[Zj,(ZbF K),(by rfl),T.b.n_len,QB,#[Za,‹2›,#[Zd]]]],#[Zi,#[ZL,4,ZW.nd,(Or.inl rfl),#[Z4,#[Zd]]],#[Zi,(@Zeq _ _ _ _ _ _ PassesOwn.never #[Zn,Zf8,#[Zj,(ZbF K),(by rfl),T.b.n_len,QB,#[Za,‹2›,#[Zd]]],#[Zh],(Zq _)] #[Zi,#[ZL,5,ZW.nd,(Or.inl rfl),#[Zj,(ZjP K hr),(by rfl),T.b.n_min,boot_min,#[Za,‹2›,#[Zd]]]],#[Zi,#[ZaI,#[ZbN,QR,PySem.F.slot_list_remove,PySem.F.type_list_remove,(ZjU hr),‹2›,#[Za,‹5›,#[Zd]]]],#[Zi,#[ZeR,‹5›,#[gT,K,3,#[Zaf,#[Zay,6,ZW.nd],#[Zaf,#[Zay,7,ZW.nd],#[Zaf,#[Zay,8,ZW.nd],(@Zci _)]]]]],#[Zi,#[ZaC,#[Zn,Zbc,‹6›,#[Zj,(ZbF K),(by rfl),T.b.n_len,QB,#[Za,‹4›,#[Zd]]],(Zq _)],#[Zk,#[ZaI,#[ZbN,QR,Q7,Q8,Zao,‹4›,#[Za,#[Z4,#[Zd]],#[Zd]]]]],(@ZY _)],#[Zi,#[ZaI,#[ZbN,QR,Q7,Q8,Zao,#[ZZ,(ixL K),‹4›,‹6›],#[Za,‹8›,#[Zd]]]],#[Zk,#[ZaC,#[Zn,Zfe,‹3›,#[Zj,(ZbF K),(by rfl),T.b.n_len,QB,#[Za,#[pv,0,(Or.inr (Or.inl rfl))],#[Zd]]],(Zq _)],#[Zi,#[ZaI,#[ZbN,QR,Q7,Q8,Zao,‹2›,#[Za,(@ZeY _ _ _ _ _ #[Za,#[Zx,f_run_behind,hr,#[Za,‹6›,#[Za,‹7›,#[Za,#[ZZ,(ixL K),#[pv,0,(Or.inr (Or.inl rfl))],‹3›],#[Zd]]]],(by rfl)],#[Za,#[ZZ,(ixL K),#[pv,0,(Or.inr (Or.inl rfl))],‹3›],#[Za,‹3›,#[Zd]]]]),#[Zd]]]],#[Zk,(@Zgh _ _ 3 _ _ _ _ _ _ ZW.nd rfl (Or.inl rfl) #[Zh] Zf9 (by trivial))]],(@ZY _)]]]]]]]),#[Zk,#[Zu,‹4›]]]]]],?_⟩
 have hl:(((ss.map V.str).length:Nat):Int)=(ss.length:Int):=by rw[Qa]
 have hmin:(if (((ss.map V.str).length:Nat):Int)<(room:Int) then (((ss.map V.str).length:Nat):Int) else (room:Int))=((min room ss.length:Nat):Int):=by split<;>omega
 refine⟨_,rfl,_,rfl,a,_,rfl,.inl hS,_,_,rfl,?_⟩
 simp only[hmin]
 refine⟨_,rfl,by omega,by omega,fun D hD=>?_⟩
 rw[Q0]
 refine ZbB (fun i zs σ H2=>(∃v:Option V,σ=[some (.ref a),some (.int room),none,none,none,none,none,none,none,v])∧(∃ts:ZaQ,zs=ZB ts∧AtT H2 ts∧ts.map (·.2)=(first i).map (kt ss 0))∧i≤min room ss.length∧H2 D=some (.lst zs)∧ZH H H2) ?_ ?_ ?_
 ·exact⟨⟨none,rfl⟩,⟨[],rfl,(fun t h=>by cases h),rfl⟩,Qx _,Zc,Zf hD _⟩
 ·rintro i zs σ H2 hi ⟨⟨v,rfl⟩,⟨ts,rfl,hat,hE⟩,hi',hD2,s2⟩
  have hil:i<ss.length:=by omega
  have e0:(0+(i:Int))=((i:Nat):Int):=by omega
  have hkey:atI (ss.map V.str) (0+(i:Int))=some (.str (ss.getD (0+(i:Int)).toNat "")):=ZeV (by omega) (by omega)
  refine⟨_,rfl,_,rfl,a,_,_,_,rfl,rfl,s2.seq hS,hkey,_,rfl,(by show 3≤sizeLine;decide),fun n hn0=>?_⟩
  have sn:=Zf hn0 (.tup [.int 0,.str (ss.getD (0+(i:Int)).toNat ""),.int (0+(i:Int))])
  have hD3:=sn _ _ hD2
  have nDn:D≠n:=Zb hD2 hn0
  have htl:ts.length=i:=by have:=congrArg List.length hE;rw[Qa,Qa,ZG]at this;exact this
  refine⟨hD3,(by unfold ZB;rw[Qa,htl];exact Zm (by omega)),⟨_,rfl⟩,⟨ts++[(n,kt ss 0 (0+(i:Int)))],by unfold ZB;rw[Qg];rfl,fun t ht=>?_,?_⟩,by omega,Zc,fun b o hb=>?_⟩
  ·rcases Qf.mp ht with ht|ht
   ·exact Z1 hD3 _ _ _ (sn _ _ (hat t ht))
   ·rw[Qe.mp ht,Ze nDn.symm];exact Zc
  ·rw[Qg,hE]
   unfold first ZJ
   rw[QaP,Qg,Qg]
   rfl
  ·rw[Ze (Zb hb hD)];exact sn _ _ (s2 b o hb)
 rintro zs σ H2 ⟨⟨v,rfl⟩,⟨ts0,rfl,hat0,hE0⟩,_,hD2,s2⟩
 have htl0:ts0.length=min room ss.length:=by have:=congrArg List.length hE0;rw[Qa,Qa,ZG]at this;exact this
 have hrl0:(((ZB ts0).length:Nat):Int)=((min room ss.length:Nat):Int):=by unfold ZB;rw[Qa,htl0]
 refine⟨_,rfl,D,_,rfl,.inl (SqL.of hD2),?_⟩
 simp only[hrl0]
 refine⟨(by show 0≤sizeLine;decide),fun ru hru=>?_⟩
 have nDr:D≠ru:=Zb hD2 hru
 have s3:=s2.trans (Zf hru (.lst []))
 have at0:At ss (min room ss.length) H (upd H2 ru (.lst [])) D ru ts0 [] (first (min room ss.length)) [] (min room ss.length) [] []:=by
  refine⟨Zf hru _ _ _ hD2,AtT.mono hat0 (Zf hru _),?_,Zc,by unfold ZaF;rw[if_pos rfl];trivial,(fun h=>by cases h),List.nodup_nil,(fun l h=>by cases h),nDr,(fun h=>by cases h),s3,hD,s2.free hru,by omega,fun n hn=>?_,?_,(fun d h=>by cases h),fun h=>absurd rfl h,fun R h=>h⟩
  ·rw[hE0];unfold ZR;rw[Qar,Q3];exact .refl _
  ·rw[Q3]at hn;exact Za1 hn
  ·unfold ZaF;rw[if_pos rfl,ZG];simp;omega
 generalize upd H2 ru (.lst [])=H3 at at0 ⊢
 refine⟨fun m σ H4=>∃ (ts:ZaQ) (ls:List Addr) (A B:List Int) (c:Nat) (gone:List Int) (done:List (List Int)) (v5 v6 v7 v8:Option V),σ=[some (.ref a),some (.int room),some (.ref D),some (.int c),some (.ref ru),v5,v6,v7,v8]∧At ss (min room ss.length) H H4 D ru ts ls A B c gone done∧m=A.length+B.length+(ss.length-c),⟨_,ts0,[],first (min room ss.length),[],min room ss.length,[],[],none,none,none,none,rfl,at0,rfl⟩,?_⟩
 rintro m σ H4 ⟨ts,ls,A',B',c,gone',done',v5,v6,v7,v8,rfl,hAt',rfl⟩
 have htsl:ts.length=A'.length+B'.length:=by have:=hAt'.per.length_eq;unfold ZR at this;rw[Qa,Qc,Qa,Qa]at this;exact this
 refine⟨_,rfl,D,_,rfl,.inl (SqL.of hAt'.ins),_,_,rfl,rfl,_,rfl,Zbb (fun d=>?_) (fun d=>?_)⟩
 ·have d':(0:Int)<(((ZB ts).length:Nat):Int):=of_decide_eq_true d
  have hpos:0<ts.length:=by unfold ZB at d';rw[Qa]at d';omega
  obtain⟨A,B,gone,done,hAt,hAne,hm⟩:∃A B gone done,At ss (min room ss.length) H H4 D ru ts ls A B c gone done∧A≠[]∧A'.length+B'.length=A.length+B.length:=by
   by_cases hA:A'=[]
   ·subst hA
    cases B' with
    | nil=>exact absurd hpos (by rw[htsl];decide)
    | cons b B=>exact⟨_,_,_,_,hAt'.switch,by simp,by simp⟩
   ·exact⟨A',B',gone',done',hAt',hA,rfl⟩
  refine⟨_,fun σ' H' h=>h,?_⟩
  have hcnt:=hAt.cnt
  rw[Zau]at hcnt
  have hdl:=(ZbJ done hAt.nem).1
  have tsne:ts≠[]:=fun z=>by rw[z]at hpos;simp at hpos
  refine⟨_,rfl,D,ts,[true,false,true],rfl,SqL.of hAt.ins,hAt.att,tsne,Zf5 hAt.per,fun t ht hmin'=>?_⟩
  obtain⟨n,et,hleast⟩:=Zig hAt.per hAne (Qap (f:=fun t:Addr×List Key=>t.2) ht) (fun u hu=>by
   obtain⟨t',ht',rfl⟩:=Q1.mp hu
   exact hmin' t' ht')
  have et':t.2=kt ss (done.length:Int) n:=et
  have hnA:=hleast.1
  have hn:=hAt.mem n (Qr _ hnA)
  have hcl:=hAt.hc
  refine⟨_,rfl,.inl ⟨rfl,_,SqL.of hAt.ins⟩,_,rfl,D,ts,t,rfl,rfl,hAt.ins,hAt.att,ht,by omega,fun i hi heq=>?_⟩
  have ttup:=hAt.att t ht
  rw[et']at ttup
  have ttup1:(upd H4 D (.lst (ZB (ts.eraseIdx i)))) t.1=some (.tup [.int (done.length:Int),.str (ss.getD n.toNat ""),.int n]):=Z1 hAt.ins _ _ _ ttup
  have ins1:(upd H4 D (.lst (ZB (ts.eraseIdx i)))) D=some (.lst (ZB (ts.eraseIdx i))):=Zc
  have att1:AtT (upd H4 D (.lst (ZB (ts.eraseIdx i)))) (ts.eraseIdx i):=fun u hu=>Z1 hAt.ins _ _ _ (hAt.att u (List.mem_of_mem_eraseIdx hu))
  have run1:(upd H4 D (.lst (ZB (ts.eraseIdx i)))) ru=some (.lst (ls.map V.ref)):=by rw[Ze hAt.ne.symm];exact hAt.run
  have rd1:Rd (upd H4 D (.lst (ZB (ts.eraseIdx i)))) ls (ZaF gone done):=Rd.mono (fun l hl' u hu=>by rw[Ze (fun z:l=D=>hAt.nil (z ▸ hl'))];exact hu) hAt.rd
  have sm1:ZH H (upd H4 D (.lst (ZB (ts.eraseIdx i)))):=fun b o hb=>by rw[Ze (Zb hb hAt.i0)];exact hAt.sm b o hb
  have per1:((ts.eraseIdx i).map (·.2)).Perm (ZR ss (done.length:Int) (A.erase n) B):=by
   refine ZgD hAt.per hnA ?_
   have:=(Zan ts i hi).symm.map (fun t:Addr×List Key=>t.2)
   rw[Qw,heq,et']at this
   exact this
  have hel:(A.erase n).length+1=A.length:=by
   have:=QaM hnA
   have:0<A.length:=QaU hnA
   omega
  have htl1:(ts.eraseIdx i).length≤60:=by
   have:=per1.length_eq
   unfold ZR at this
   rw[Qa,Qc,Qa,Qa]at this
   omega
  generalize upd H4 D (.lst (ZB (ts.eraseIdx i)))=H5 at ttup1 ins1 att1 run1 rd1 sm1 ⊢
  generalize ts.eraseIdx i=ts1 at ins1 att1 per1 htl1 ⊢
  refine⟨_,rfl,t.1,_,rfl,SqT.of ttup1,rfl,_,_,rfl,_,_,rfl,_,_,rfl,rfl,?_⟩
  have hlsl:ls.length=(ZaF gone done).length:=hAt.rd.len
  have hls60:ls.length≤60:=by have:=(ZbJ _ (Ze4 (gone:=gone) hAt.nem)).1;rw[Zau]at this;omega
  have hll:(((ls.map V.ref).length:Nat):Int)=(ls.length:Int):=by rw[Qa]
  refine⟨_,rfl,_,rfl,ru,_,rfl,.inl (SqL.of run1),rfl,_,rfl,?_⟩
  by_cases hg:gone=[]
  ·have hlen2:ls.length=done.length:=by rw[hlsl,hg];unfold ZaF;rw[if_pos rfl]
   refine Zjb (by rw[hll,hlen2]) ?_
   refine⟨_,rfl,.inl ⟨rfl,_,SqL.of run1⟩,(by show 0≤sizeLine;decide),fun nl hnl=>⟨ru,_,_,rfl,rfl,Zf hnl _ _ _ run1,(by rw[Qa];exact Zm (by omega)),?_⟩⟩
   have snl:=Zf hnl (.lst [])
   have nrn:ru≠nl:=Zb run1 hnl
   have nDn:D≠nl:=Zb ins1 hnl
   have hnll:nl ∉ ls:=rd1.out hnl
   have ins2:(upd (upd H5 nl (.lst [])) ru (.lst (ls.map V.ref++[.ref nl]))) D=some (.lst (ZB ts1)):=by rw[Ze hAt.ne];exact snl _ _ ins1
   have att2:AtT (upd (upd H5 nl (.lst [])) ru (.lst (ls.map V.ref++[.ref nl]))) ts1:=fun u hu=>Z1 (snl _ _ run1) _ _ _ (snl _ _ (att1 u hu))
   have run2:(upd (upd H5 nl (.lst [])) ru (.lst (ls.map V.ref++[.ref nl]))) ru=some (.lst ((ls++[nl]).map V.ref)):=by rw[Zc,Qg];rfl
   have rd2:Rd (upd (upd H5 nl (.lst [])) ru (.lst (ls.map V.ref++[.ref nl]))) ls done:=by
    have:ZaF gone done=done:=by unfold ZaF;rw[if_pos hg]
    rw[this]at rd1
    exact Rd.mono (fun l hl' u hu=>by rw[Ze (fun z:l=ru=>hAt.rul (z ▸ hl'))];exact snl _ _ hu) rd1
   have hl2:(upd (upd H5 nl (.lst [])) ru (.lst (ls.map V.ref++[.ref nl]))) nl=some (.lst (gone.map V.int)):=by rw[Ze nrn.symm,hg];exact Zc
   have sm2:ZH H (upd (upd H5 nl (.lst [])) ru (.lst (ls.map V.ref++[.ref nl]))):=fun b o hb=>by rw[Ze (Zb hb hAt.r0)];exact snl _ _ (sm1 b o hb)
   have rul2:ru ∉ ls++[nl]:=fun hm=>by
    rcases Qf.mp hm with hm|hm
    ·exact hAt.rul hm
    ·exact nrn (Qe.mp hm)
   have nil2:D ∉ ls++[nl]:=fun hm=>by
    rcases Qf.mp hm with hm|hm
    ·exact hAt.nil hm
    ·exact nDn (Qe.mp hm)
   have nd2:(ls++[nl]).Nodup:=by
    rw[List.nodup_append]
    exact⟨hAt.nd,by simp,fun x hx y hy e=>hnll (by rw[← Qe.mp hy,← e];exact hx)⟩
   have fr2:∀l∈ls++[nl],H l=none:=fun l hl'=>by
    rcases Qf.mp hl' with hl'|hl'
    ·exact hAt.fr l hl'
    ·rw[Qe.mp hl'];exact sm1.free hnl
   generalize upd (upd H5 nl (.lst [])) ru (.lst (ls.map V.ref++[.ref nl]))=H6 at ins2 att2 run2 rd2 hl2 sm2 ⊢
   have hms:ls.length=done.length:=hlen2
   have hnd:=QJ.mp nd2
   have hlms:nl ∉ ls:=fun h=>hnd.2.2 nl h nl (by simp) rfl
   have nrl:ru≠nl:=fun z=>rul2 (by rw[z];simp)
   have nDl:D≠nl:=fun z=>nil2 (by rw[z];simp)
   have hat3:atI ((ls++[nl]).map V.ref) (done.length:Int)=some (.ref nl):=ZaH (by rw[Qn,QL (by omega),show done.length-ls.length=0 by omega];rfl)
   refine⟨_,rfl,_,rfl,ru,_,_,_,rfl,rfl,SqL.of run2,hat3,Zgx hl2,_,rfl,nl,_,_,rfl,rfl,hl2,(by rw[Qa];exact Zm (by omega)),?_⟩
   have ins3:(upd H6 nl (.lst (gone.map V.int++[.int n]))) D=some (.lst (ZB ts1)):=by rw[Ze nDl];exact ins2
   have att3:AtT (upd H6 nl (.lst (gone.map V.int++[.int n]))) ts1:=fun u hu=>Z1 hl2 _ _ _ (att2 u hu)
   have run3:(upd H6 nl (.lst (gone.map V.int++[.int n]))) ru=some (.lst ((ls++[nl]).map V.ref)):=by rw[Ze nrl];exact run2
   have rd3:Rd (upd H6 nl (.lst (gone.map V.int++[.int n]))) (ls++[nl]) (done++[gone++[n]]):=by
    refine Rd.app (Rd.mono (fun l hl' u hu=>?_) rd2) ⟨?_,trivial⟩
    ·rw[Ze (fun z:l=nl=>hlms (z ▸ hl'))];exact hu
    ·rw[Zc,Qg];rfl
   have sm3:ZH H (upd H6 nl (.lst (gone.map V.int++[.int n]))):=fun b o hb=>by rw[Ze (Zb hb (fr2 nl (by simp)))];exact sm2 b o hb
   generalize upd H6 nl (.lst (gone.map V.int++[.int n]))=H7 at ins3 att3 run3 rd3 sm3 ⊢
   refine⟨_,rfl,_,rfl,a,_,rfl,.inl (sm3.seq hS),_,_,rfl,rfl,_,rfl,Zbb (fun d2=>?_) (fun d2=>?_)⟩
   ·have hcN:c<ss.length:=by have:=of_decide_eq_true d2;omega
    have hkc:atI (ss.map V.str) (c:Int)=some (.str (ss.getD (c:Int).toNat "")):=ZeV (by omega) (by omega)
    refine⟨_,rfl,.inl ⟨rfl,_,SqL.of ins3⟩,_,rfl,_,rfl,_,rfl,_,rfl,a,_,_,_,rfl,rfl,sm3.seq hS,hkc,(done.length:Int),ss.getD n.toNat "",ss.getD (c:Int).toNat "",rfl,Za5 hlen _,Za5 hlen _,fun hlt=>?_,fun hlt=>?_⟩
    ·refine⟨_,rfl,_,rfl,a,_,_,_,rfl,rfl,sm3.seq hS,hkc,_,rfl,(by show 3≤sizeLine;decide),fun tn htn=>⟨D,_,_,rfl,rfl,Zf htn _ _ _ ins3,(by unfold ZB;rw[Qa];exact Zm (by omega)),?_⟩⟩
     have stn:=Zf htn (.tup [.int (done.length:Int),.str (ss.getD (c:Int).toNat ""),.int (c:Int)])
     have nDt:D≠tn:=Zb ins3 htn
     have per4:((ts1++[(tn,kt ss (done.length:Int) (c:Int))]).map (·.2)).Perm (ZR ss (done.length:Int) (A.erase n++[(c:Int)]) (B)):=by
      rw[Qg]
      unfold ZR
      refine(per1.append_right _).trans ?_
      unfold ZR
      rw[Qg,QE,QE]
      exact Qae _ Qax
     refine⟨_,rfl,_,_,rfl,rfl,?_⟩
     have hcc:((c:Int)+1)=((c+1:Nat):Int):=by omega
     simp only[hcc]
     refine⟨_,by simp only[List.length_append,List.length_singleton];omega,ts1++[(tn,kt ss (done.length:Int) (c:Int))],ls++[nl],A.erase n++[(c:Int)],B,c+1,gone++[n],done,_,_,_,_,rfl,⟨by rw[Zc];unfold ZB;rw[Qg];rfl,fun u hu=>by
      rcases Qf.mp hu with hu|hu
      ·exact Z1 (stn _ _ ins3) _ _ _ (stn _ _ (att3 u hu))
      ·rw[Qe.mp hu,Ze nDt.symm];exact Zc,per4,by rw[Ze hAt.ne.symm];exact stn _ _ run3,by rw[ZaZ];exact Rd.mono (fun l hl' u hu=>by rw[Ze (fun z:l=D=>nil2 (z ▸ hl'))];exact stn _ _ hu) rd3,rul2,nd2,fr2,hAt.ne,nil2,fun b o hb=>by rw[Ze (Zb hb hAt.i0)];exact stn _ _ (sm3 b o hb),hAt.i0,hAt.r0,by omega,fun z hz=>by
      have:z∈A++B∨z=(c:Int):=by
       simp only[List.mem_append,List.mem_singleton]at hz ⊢
       rcases hz with hz|hz
       ·rcases hz with hz|hz
        ·exact .inl (.inl (Qu hz))
        ·exact .inr hz
       ·exact .inl (.inr hz)
      rcases this with h|h
      ·have:=hAt.mem z h;omega
      ·omega,by rw[Zau,Qc,Qo];simp only[List.length_append,List.length_singleton];omega,hAt.nem,fun _ _=>by simp,fun R hR=>hAt.res R (.stepA hleast hcN hlt hR)⟩,rfl⟩
    ·refine⟨_,rfl,_,rfl,a,_,_,_,rfl,rfl,sm3.seq hS,hkc,_,rfl,(by show 3≤sizeLine;decide),fun tn htn=>⟨D,_,_,rfl,rfl,Zf htn _ _ _ ins3,(by unfold ZB;rw[Qa];exact Zm (by omega)),?_⟩⟩
     have stn:=Zf htn (.tup [.int ((done.length:Int)+1),.str (ss.getD (c:Int).toNat ""),.int (c:Int)])
     have nDt:D≠tn:=Zb ins3 htn
     have per4:((ts1++[(tn,kt ss ((done.length:Int)+1) (c:Int))]).map (·.2)).Perm (ZR ss (done.length:Int) (A.erase n) (B++[(c:Int)])):=by
      rw[Qg]
      unfold ZR
      refine(per1.append_right _).trans ?_
      unfold ZR
      rw[Qg,QE]
      exact .refl _
     refine⟨_,rfl,_,_,rfl,rfl,?_⟩
     have hcc:((c:Int)+1)=((c+1:Nat):Int):=by omega
     simp only[hcc]
     refine⟨_,by simp only[List.length_append,List.length_singleton];omega,ts1++[(tn,kt ss ((done.length:Int)+1) (c:Int))],ls++[nl],A.erase n,B++[(c:Int)],c+1,gone++[n],done,_,_,_,_,rfl,⟨by rw[Zc];unfold ZB;rw[Qg];rfl,fun u hu=>by
      rcases Qf.mp hu with hu|hu
      ·exact Z1 (stn _ _ ins3) _ _ _ (stn _ _ (att3 u hu))
      ·rw[Qe.mp hu,Ze nDt.symm];exact Zc,per4,by rw[Ze hAt.ne.symm];exact stn _ _ run3,by rw[ZaZ];exact Rd.mono (fun l hl' u hu=>by rw[Ze (fun z:l=D=>nil2 (z ▸ hl'))];exact stn _ _ hu) rd3,rul2,nd2,fr2,hAt.ne,nil2,fun b o hb=>by rw[Ze (Zb hb hAt.i0)];exact stn _ _ (sm3 b o hb),hAt.i0,hAt.r0,by omega,fun z hz=>by
      have:z∈A++B∨z=(c:Int):=by
       simp only[List.mem_append,List.mem_singleton]at hz ⊢
       rcases hz with hz|hz
       ·exact .inl (.inl (Qu hz))
       ·rcases hz with hz|hz
        ·exact .inl (.inr hz)
        ·exact .inr hz
      rcases this with h|h
      ·have:=hAt.mem z h;omega
      ·omega,by rw[Zau,Qc,Qo];simp only[List.length_append,List.length_singleton];omega,hAt.nem,fun _ _=>by simp,fun R hR=>hAt.res R (.stepB hleast hcN hlt hR)⟩,rfl⟩
   ·have hcN:¬ c<ss.length:=fun z=>d2 (decide_eq_true (by omega))
    refine⟨_,by omega,ts1,ls++[nl],A.erase n,B,c,gone++[n],done,_,_,_,_,rfl,⟨ins3,att3,per1,run3,by rw[ZaZ];exact rd3,rul2,nd2,fr2,hAt.ne,nil2,sm3,hAt.i0,hAt.r0,by omega,fun z hz=>hAt.mem z (by
     rcases Qf.mp hz with hz|hz
     ·exact Qr _ (Qu hz)
     ·exact Qi _ hz),by rw[Zau,Qc,Qo];omega,hAt.nem,fun _ _=>by simp,fun R hR=>hAt.res R (.stepN hleast hcN hR)⟩,rfl⟩
  ·have et2:ZaF gone done=done++[gone]:=by unfold ZaF;rw[if_neg hg]
   have hlen2:ls.length=done.length+1:=by rw[hlsl,et2,Qc];rfl
   refine Zh8 (fun z=>by have z':=V.int.inj z;rw[hll,hlen2]at z';omega) ?_
   rw[et2]at rd1
   obtain⟨ms,nl,rfl,rd2,hl2⟩:=rd1.split
   have ins2:=ins1
   have att2:=att1
   have run2:=run1
   have sm2:=sm1
   have rul2:=hAt.rul
   have nil2:=hAt.nil
   have nd2:=hAt.nd
   have fr2:=hAt.fr
   have hms:ms.length=done.length:=by rw[Qc,Qo]at hlen2;omega
   have hnd:=QJ.mp nd2
   have hlms:nl ∉ ms:=fun h=>hnd.2.2 nl h nl (by simp) rfl
   have nrl:ru≠nl:=fun z=>rul2 (by rw[z];simp)
   have nDl:D≠nl:=fun z=>nil2 (by rw[z];simp)
   have hat3:atI ((ms++[nl]).map V.ref) (done.length:Int)=some (.ref nl):=ZaH (by rw[Qn,QL (by omega),show done.length-ms.length=0 by omega];rfl)
   refine⟨_,rfl,_,rfl,ru,_,_,_,rfl,rfl,SqL.of run2,hat3,Zgx hl2,_,rfl,nl,_,_,rfl,rfl,hl2,(by rw[Qa];exact Zm (by omega)),?_⟩
   have ins3:(upd H5 nl (.lst (gone.map V.int++[.int n]))) D=some (.lst (ZB ts1)):=by rw[Ze nDl];exact ins2
   have att3:AtT (upd H5 nl (.lst (gone.map V.int++[.int n]))) ts1:=fun u hu=>Z1 hl2 _ _ _ (att2 u hu)
   have run3:(upd H5 nl (.lst (gone.map V.int++[.int n]))) ru=some (.lst ((ms++[nl]).map V.ref)):=by rw[Ze nrl];exact run2
   have rd3:Rd (upd H5 nl (.lst (gone.map V.int++[.int n]))) (ms++[nl]) (done++[gone++[n]]):=by
    refine Rd.app (Rd.mono (fun l hl' u hu=>?_) rd2) ⟨?_,trivial⟩
    ·rw[Ze (fun z:l=nl=>hlms (z ▸ hl'))];exact hu
    ·rw[Zc,Qg];rfl
   have sm3:ZH H (upd H5 nl (.lst (gone.map V.int++[.int n]))):=fun b o hb=>by rw[Ze (Zb hb (fr2 nl (by simp)))];exact sm2 b o hb
   generalize upd H5 nl (.lst (gone.map V.int++[.int n]))=H7 at ins3 att3 run3 rd3 sm3 ⊢
   refine⟨_,rfl,_,rfl,a,_,rfl,.inl (sm3.seq hS),_,_,rfl,rfl,_,rfl,Zbb (fun d2=>?_) (fun d2=>?_)⟩
   ·have hcN:c<ss.length:=by have:=of_decide_eq_true d2;omega
    have hkc:atI (ss.map V.str) (c:Int)=some (.str (ss.getD (c:Int).toNat "")):=ZeV (by omega) (by omega)
    refine⟨_,rfl,.inl ⟨rfl,_,SqL.of ins3⟩,_,rfl,_,rfl,_,rfl,_,rfl,a,_,_,_,rfl,rfl,sm3.seq hS,hkc,(done.length:Int),ss.getD n.toNat "",ss.getD (c:Int).toNat "",rfl,Za5 hlen _,Za5 hlen _,fun hlt=>?_,fun hlt=>?_⟩
    ·refine⟨_,rfl,_,rfl,a,_,_,_,rfl,rfl,sm3.seq hS,hkc,_,rfl,(by show 3≤sizeLine;decide),fun tn htn=>⟨D,_,_,rfl,rfl,Zf htn _ _ _ ins3,(by unfold ZB;rw[Qa];exact Zm (by omega)),?_⟩⟩
     have stn:=Zf htn (.tup [.int (done.length:Int),.str (ss.getD (c:Int).toNat ""),.int (c:Int)])
     have nDt:D≠tn:=Zb ins3 htn
     have per4:((ts1++[(tn,kt ss (done.length:Int) (c:Int))]).map (·.2)).Perm (ZR ss (done.length:Int) (A.erase n++[(c:Int)]) (B)):=by
      rw[Qg]
      unfold ZR
      refine(per1.append_right _).trans ?_
      unfold ZR
      rw[Qg,QE,QE]
      exact Qae _ Qax
     refine⟨_,rfl,_,_,rfl,rfl,?_⟩
     have hcc:((c:Int)+1)=((c+1:Nat):Int):=by omega
     simp only[hcc]
     refine⟨_,by simp only[List.length_append,List.length_singleton];omega,ts1++[(tn,kt ss (done.length:Int) (c:Int))],ms++[nl],A.erase n++[(c:Int)],B,c+1,gone++[n],done,_,_,_,_,rfl,⟨by rw[Zc];unfold ZB;rw[Qg];rfl,fun u hu=>by
      rcases Qf.mp hu with hu|hu
      ·exact Z1 (stn _ _ ins3) _ _ _ (stn _ _ (att3 u hu))
      ·rw[Qe.mp hu,Ze nDt.symm];exact Zc,per4,by rw[Ze hAt.ne.symm];exact stn _ _ run3,by rw[ZaZ];exact Rd.mono (fun l hl' u hu=>by rw[Ze (fun z:l=D=>nil2 (z ▸ hl'))];exact stn _ _ hu) rd3,rul2,nd2,fr2,hAt.ne,nil2,fun b o hb=>by rw[Ze (Zb hb hAt.i0)];exact stn _ _ (sm3 b o hb),hAt.i0,hAt.r0,by omega,fun z hz=>by
      have:z∈A++B∨z=(c:Int):=by
       simp only[List.mem_append,List.mem_singleton]at hz ⊢
       rcases hz with hz|hz
       ·rcases hz with hz|hz
        ·exact .inl (.inl (Qu hz))
        ·exact .inr hz
       ·exact .inl (.inr hz)
      rcases this with h|h
      ·have:=hAt.mem z h;omega
      ·omega,by rw[Zau,Qc,Qo];simp only[List.length_append,List.length_singleton];omega,hAt.nem,fun _ _=>by simp,fun R hR=>hAt.res R (.stepA hleast hcN hlt hR)⟩,rfl⟩
    ·refine⟨_,rfl,_,rfl,a,_,_,_,rfl,rfl,sm3.seq hS,hkc,_,rfl,(by show 3≤sizeLine;decide),fun tn htn=>⟨D,_,_,rfl,rfl,Zf htn _ _ _ ins3,(by unfold ZB;rw[Qa];exact Zm (by omega)),?_⟩⟩
     have stn:=Zf htn (.tup [.int ((done.length:Int)+1),.str (ss.getD (c:Int).toNat ""),.int (c:Int)])
     have nDt:D≠tn:=Zb ins3 htn
     have per4:((ts1++[(tn,kt ss ((done.length:Int)+1) (c:Int))]).map (·.2)).Perm (ZR ss (done.length:Int) (A.erase n) (B++[(c:Int)])):=by
      rw[Qg]
      unfold ZR
      refine(per1.append_right _).trans ?_
      unfold ZR
      rw[Qg,QE]
      exact .refl _
     refine⟨_,rfl,_,_,rfl,rfl,?_⟩
     have hcc:((c:Int)+1)=((c+1:Nat):Int):=by omega
     simp only[hcc]
     refine⟨_,by simp only[List.length_append,List.length_singleton];omega,ts1++[(tn,kt ss ((done.length:Int)+1) (c:Int))],ms++[nl],A.erase n,B++[(c:Int)],c+1,gone++[n],done,_,_,_,_,rfl,⟨by rw[Zc];unfold ZB;rw[Qg];rfl,fun u hu=>by
      rcases Qf.mp hu with hu|hu
      ·exact Z1 (stn _ _ ins3) _ _ _ (stn _ _ (att3 u hu))
      ·rw[Qe.mp hu,Ze nDt.symm];exact Zc,per4,by rw[Ze hAt.ne.symm];exact stn _ _ run3,by rw[ZaZ];exact Rd.mono (fun l hl' u hu=>by rw[Ze (fun z:l=D=>nil2 (z ▸ hl'))];exact stn _ _ hu) rd3,rul2,nd2,fr2,hAt.ne,nil2,fun b o hb=>by rw[Ze (Zb hb hAt.i0)];exact stn _ _ (sm3 b o hb),hAt.i0,hAt.r0,by omega,fun z hz=>by
      have:z∈A++B∨z=(c:Int):=by
       simp only[List.mem_append,List.mem_singleton]at hz ⊢
       rcases hz with hz|hz
       ·exact .inl (.inl (Qu hz))
       ·rcases hz with hz|hz
        ·exact .inl (.inr hz)
        ·exact .inr hz
      rcases this with h|h
      ·have:=hAt.mem z h;omega
      ·omega,by rw[Zau,Qc,Qo];simp only[List.length_append,List.length_singleton];omega,hAt.nem,fun _ _=>by simp,fun R hR=>hAt.res R (.stepB hleast hcN hlt hR)⟩,rfl⟩
   ·have hcN:¬ c<ss.length:=fun z=>d2 (decide_eq_true (by omega))
    refine⟨_,by omega,ts1,ms++[nl],A.erase n,B,c,gone++[n],done,_,_,_,_,rfl,⟨ins3,att3,per1,run3,by rw[ZaZ];exact rd3,rul2,nd2,fr2,hAt.ne,nil2,sm3,hAt.i0,hAt.r0,by omega,fun z hz=>hAt.mem z (by
     rcases Qf.mp hz with hz|hz
     ·exact Qr _ (Qu hz)
     ·exact Qi _ hz),by rw[Zau,Qc,Qo];omega,hAt.nem,fun _ _=>by simp,fun R hR=>hAt.res R (.stepN hleast hcN hR)⟩,rfl⟩
 ·have d':¬ (0:Int)<(((ZB ts).length:Nat):Int):=fun z=>d (decide_eq_true z)
  have h0:ts.length=0:=by unfold ZB at d';rw[Qa]at d';omega
  have hA0:A'=[]:=Qt (by omega)
  have hB0:B'=[]:=Qt (by omega)
  subst hA0 hB0
  have hcnt:=hAt'.cnt
  obtain⟨b1,b2⟩:=ZbJ _ (Ze4 (gone:=gone') hAt'.nem)
  refine⟨_,rfl,q ru ls (ZaF gone' done') H4 hAt'.r0 hAt'.run hAt'.rul hAt'.fr hAt'.rd (hAt'.res _ ?_) (by omega) (fun d hd=>by have:=b2 d hd;omega) hAt'.sm⟩
  unfold ZaF
  cases gone' with
  | nil=>rw[if_pos rfl];exact .stop0
  | cons g gr=>rw[if_neg (by simp)];exact .stop
theorem Zgs{ss:List Str}{c:Nat}{gone:List Int}{done:List (List Int)}(h:gone≠[]):Res ss [] [] c gone done (done++[gone]):=by
 cases gone with
 | nil=>exact absurd rfl h
 | cons g r=>exact .stop
theorem ZbG(ss:List Str)(n:Int):ZbR ss [n] n:=⟨by simp,fun m hm=>by rw[Qe.mp hm];exact Zae _⟩
theorem Zgk(ss:List Str)(c:Nat)(h:1≤c):Zad ss c=true↔ltK ss (c:Int) ((c:Int)-1):=by
 unfold Zad ltK
 rw[show ((c:Int)-1).toNat=c-1 by omega,show ((c:Int)).toNat=c by omega,ZbW,decide_eq_true_iff]
 have:=Zcz (cds (ss.getD (c-1) "")) (cds (ss.getD c ""))
 omega
theorem Zb1(ss:List Str):∀ (k c:Nat) (gone:List Int) (done:List (List Int)),c+k=ss.length→1≤c→done++[gone++[(c:Int)-1]]=Z0 (Zad ss) c→Res ss [(c:Int)-1] [] c gone done (Z0 (Zad ss) ss.length)
 | 0,c,gone,done,hk,h1,e=>by
  refine .stepN (ZbG ss _) (by omega) ?_
  rw[List.erase_cons_head,show ss.length=c by omega,← e]
  exact Zgs (by simp)
 | k+1,c,gone,done,hk,h1,e=>by
  have ec:(((c+1:Nat):Int)-1)=(c:Int):=by omega
  by_cases hb:Zad ss c=true
  ·refine .stepB (ZbG ss _) (by omega) ((Zgk ss c h1).mp hb) ?_
   rw[List.erase_cons_head]
   refine .switch ?_
   have:=Zb1 ss k (c+1) [] (done++[gone++[(c:Int)-1]]) (by omega) (by omega) (by rw[e,ec,ZbD _ _ (.inr hb)];rfl)
   rw[ec]at this
   exact this
  ·refine .stepA (ZbG ss _) (by omega) (fun z=>hb ((Zgk ss c h1).mpr z)) ?_
   rw[List.erase_cons_head]
   obtain⟨ds,d,e1,e2⟩:=Zdh (Zad ss) c (by omega) (by simpa using hb)
   rw[e1]at e
   obtain⟨rfl,e3⟩:=List.append_inj' e rfl
   injection e3 with e3 _
   have:=Zb1 ss k (c+1) (gone++[(c:Int)-1]) done (by omega) (by omega) (by rw[ec,e2,e3])
   rw[ec]at this
   exact this
theorem Zbv(ss:List Str):Res ss (first (min 1 ss.length)) [] (min 1 ss.length) [] [] (Z0 (Zad ss) ss.length):=by
 by_cases h:ss.length=0
 ·rw[h];exact .stop0
 ·rw[show min 1 ss.length=1 by omega]
  have:=Zb1 ss (ss.length-1) 1 [] [] (by omega) (by omega) (by rw[ZbD _ 0 (.inl rfl)];rfl)
  exact this
theorem ZfC{K:PySem.W.Frag}{a:Addr}{xs:List V}{k:Nat}{D:Addr}{σ:L2.St}{H1:Hp}{g:TG}{te:TE}{Q:VK}(Pv:Nat→List V→L2.St→Hp→Prop)(h0:Pv 0 [] (σ++List.replicate k none) (upd H1 D (.lst [])))
  (hl:∀i zs σ H,Pv i zs σ H→SqL K H a xs)
  (hs:∀i zs σ H x p,xs[i]? = some x→Pv i zs σ H→H p=none→g (.ref p) σ (upd H p (.tup [.int i,x])) fun σ4 H4=>te σ4 H4 fun z H6=>H6 D=some (.lst zs)∧zs.length<sizeLine∧Pv (i+1) (zs++[z]) σ4 (upd H6 D (.lst (zs++[z]))))
  (hd:∀zs σ H,Pv xs.length zs σ H→Q (.ref D) H):ZdE (Ite K a) D k σ H1 g ZeB te Q:=by
 refine⟨fun i m zs σ H=>m=xs.length-i∧i≤xs.length∧Pv i zs σ H,⟨xs.length,by simp,Qx _,h0⟩,?_⟩
 rintro i m zs σ H ⟨rfl,hi,p⟩
 have q1:=hl i zs σ H p
 by_cases hlt:i<xs.length
 ·refine .inr ⟨⟨xs,q1,hlt⟩,Pv (i+1),fun ys' σ' H' p'=>⟨xs.length-(i+1),by omega,rfl,hlt,p'⟩,fun x H' y=>?_⟩
  obtain⟨r,hr,rfl,e⟩:=y
  have e':=e xs q1 _ (Qd hlt)
  subst e'
  simp only[ZeB,↓reduceIte]
  exact hs i zs σ H _ r (Qd hlt) p hr
 ·have e:i=xs.length:=by omega
  exact .inl ⟨⟨xs,q1,by omega⟩,hd zs σ H (e ▸ p)⟩
def Ris(ss:List Str)(ns:List Int):Prop:=∀ (p:Nat) (x y:Int),ns[p]? = some x→ns[p+1]? = some y→Zw (kk (ks ss x)) (kk (ks ss y))=true
theorem Zew(ss:List Str)(n:Nat):((first n).map (ks ss)).Nodup:=by
 unfold first ZJ
 rw[Qaf]
 refine List.Pairwise.map _ (fun a b h=>?_) List.nodup_range
 intro z
 have:=congrArg Prod.snd z
 exact h (by simp only[Function.comp_apply,ks]at this;omega)
theorem Ziv{ss:List Str}{n:Nat}{E:List (Str×Int)}(hp:E.Perm ((first n).map (ks ss)))(ho:Ord E):Ris ss (E.map (·.2))∧(∀m∈E.map (·.2),(0:Int)≤m∧m<(n:Int))∧E.length=n:=by
 have he:∀e∈E,e=ks ss e.2∧(0:Int)≤e.2∧e.2<(n:Int):=fun e h=>by
  obtain⟨m,hm,rfl⟩:=Q1.mp (hp.mem_iff.mp h)
  exact⟨rfl,Za1 hm⟩
 refine⟨fun p x y hx hy=>?_,fun m hm=>?_,?_⟩
 ·rw[Qn]at hx hy
  cases h1:E[p]? with
  | none=>rw[h1]at hx;cases hx
  | some e =>
   cases h2:E[p+1]? with
   | none=>rw[h2]at hy;cases hy
   | some f =>
    rw[h1]at hx
    rw[h2]at hy
    cases hx
    cases hy
    obtain⟨l1,g1⟩:=Qp.mp h1
    obtain⟨l2,g2⟩:=Qp.mp h2
    have o:=QV.mp ho p (p+1) l1 l2 (by omega)
    have nd:=QV.mp (hp.nodup_iff.mpr (Zew ss n)) p (p+1) l1 l2 (by omega)
    rw[g1,g2]at o nd
    rw[← (he e (QG h1)).1,← (he f (QG h2)).1]
    cases hb:Zw (kk e) (kk f) with
    | true=>rfl
    | false=>exact absurd (ZcM (Z2 _ _ hb o)) nd
 ·obtain⟨e,h,rfl⟩:=Q1.mp hm
  exact(he e h).2
 ·rw[hp.length_eq,Qa,ZG]
def Zdj(K:PySem.W.Frag):Sp:=fun vs H Q _=>∃ (a:Addr) (ss:List Str),vs=[.ref a]∧SqL K H a (ss.map V.str)∧ss.length≤60 ∧
 ∀ (r:Addr) (ns:List Int) (H':Hp),H r=none→H' r=some (.lst (ns.map V.int))→ns.length≤60→(∀n∈ns,0≤n∧n<ss.length)→Ris ss ns→ns.Perm (first ss.length)→ZH H H'→Q (.ref r) H'
theorem Zeh(T:Zba K mg):Df P w K mg base 1 "_law_in_order" ["_law_things_here"] (Zdj K):=by
 refine T.t_l_in_order.df ZcX (fun vs H Q E h=>?_) (fun cdv f A outer s H vs Q E hr h=>?_)
 ·obtain⟨a,ss,rfl,_⟩:=h
  rfl
 obtain⟨a,ss,rfl,hS,h60,q⟩:=h
 refine⟨_,#[Zk,#[Zu,#[Zbr,Zhy,#[iL,K,#[Zj,(ZjQ K),(by rfl),T.b.n_sorted,boot_sorted,#[Za,#[Zbr,ZgL,(@iE _ K _ _ _ _ _ _ _ T.b.n_enumerate #[Za,‹0›,#[Zd]] (by rfl) (by rfl) (by rfl)),(fun _ _ _ _=>#[gT,K,2,#[Zaf,#[cg,1,ZgL],#[Zaf,#[cg,2,ZgL],(@Zci _)]]]),(fun _ _ _ _=>(@ZaG _)),(fun _ _ _ _=>(@ZeY _ _ _ _ _ #[Za,#[cw,2,ZgL],#[Za,#[cw,1,ZgL],#[Zd]]]))],#[Zd]]]],(fun _ _ _ _=>#[gT,K,2,#[Zaf,#[cg,1,Zhy],#[Zaf,#[cg,2,Zhy],(@Zci _)]]]),(fun _ _ _ _=>(@ZaG _)),(fun _ _ _ _=>#[cw,2,Zhy])]]],?_⟩
 refine⟨_,rfl,a,ss.map V.str,rfl,hS,fun D hD=>?_⟩
 refine ZfC (K:=K) (a:=a) (xs:=ss.map V.str) (fun i zs σ H2=>(∃v1 v2:Option V,σ=[some (.ref a),v1,v2])∧(∃ts:ZaQ,zs=ZB ts∧AtT H2 ts∧ts.length=i∧ts.map (·.2)=((first i).map (ks ss)).map kk)∧i≤ss.length∧H2 D=some (.lst zs)∧ZH H H2) ?_ (fun _ _ _ _ h=>h.2.2.2.2.seq hS) ?_ ?_
 ·exact⟨⟨none,none,rfl⟩,⟨[],rfl,(fun t h=>by cases h),rfl,rfl⟩,Qx _,Zc,Zf hD _⟩
 ·rintro i zs σ H2 x p hx ⟨⟨v1,v2,rfl⟩,⟨ts,rfl,hat,htl,hE⟩,hi',hD2,s2⟩ hp
  rw[Qn]at hx
  cases hy:ss[i]? with
  | none=>rw[hy]at hx;cases hx
  | some y =>
   rw[hy]at hx
   cases hx
   have hil:i<ss.length:=(Qp.mp hy).1
   have sp:=Zf hp (.tup [.int i,.str y])
   have hp3:(upd H2 p (.tup [.int i,.str y])) p=some (.tup [.int i,.str y]):=Zc
   have hD3:=sp _ _ hD2
   have hat3:=AtT.mono hat sp
   have s3:=s2.trans sp
   generalize upd H2 p (.tup [.int i,.str y])=H3 at hp3 hD3 hat3 s3 ⊢
   refine⟨p,_,rfl,SqT.of hp3,rfl,_,_,rfl,_,_,rfl,rfl,?_⟩
   refine⟨_,rfl,_,rfl,(by show 2≤sizeLine;decide),fun n hn0=>?_⟩
   have sn:=Zf hn0 (.tup [.str y,.int i])
   have hD4:=sn _ _ hD3
   have nDn:D≠n:=Zb hD3 hn0
   refine⟨hD4,(by unfold ZB;rw[Qa,htl];exact Zm (by omega)),⟨_,_,rfl⟩,⟨ts++[(n,kk (ks ss (i:Int)))],by unfold ZB;rw[Qg];rfl,fun t ht=>?_,by rw[Qc,Qo];omega,?_⟩,by omega,Zc,fun b o hb=>?_⟩
   ·rcases Qf.mp ht with ht|ht
    ·exact Z1 hD4 _ _ _ (sn _ _ (hat3 t ht))
    ·rw[Qe.mp ht,Ze nDn.symm]
     have ey:ss.getD i "" = y:=by rw[QM,hy];rfl
     show (upd H3 n _) n=_
     rw[Zc,← ey]
     rfl
   ·rw[Qg,hE]
    unfold first ZJ
    rw[QaP,Qg,Qg,Qg]
    simp
   ·rw[Ze (Zb hb hD)];exact sn _ _ (s3 b o hb)
 rintro zs σ H2 ⟨⟨v1,v2,rfl⟩,⟨ts,rfl,hat,htl,hE⟩,_,hD2,s2⟩
 rw[Qa]at hE htl
 have hsh:∀t∈ts,ZK t.2=[false,true]:=fun t ht=>by
  have:t.2∈((first ss.length).map (ks ss)).map kk:=by rw[← hE];exact Qap (f:=fun t:Addr×List Key=>t.2) ht
  obtain⟨m,_,e⟩:=Q1.mp this
  rw[← e];rfl
 refine⟨D,ts,[false,true],rfl,SqL.of hD2,hat,by simp,hsh,by omega,fun l ts' hl pm pw=>?_⟩
 obtain⟨E',pE,eE,oE⟩:=ZeC hE pm pw
 obtain⟨hris,hmem,hEl⟩:=Ziv pE oE
 have hprm:(E'.map (·.2)).Perm (first ss.length):=by
  have:=pE.map (·.2)
  rw[Qaf]at this
  simpa [ks,Function.comp_def] using this
 have s3:=s2.trans (Zf hl (.lst (ZB ts')))
 have hl3:(upd H2 l (.lst (ZB ts'))) l=some (.lst (ZB ts')):=Zc
 have hat3:AtT (upd H2 l (.lst (ZB ts'))) ts':=fun t ht=>Zf hl _ _ _ (hat t (pm.mem_iff.mp ht))
 generalize upd H2 l (.lst (ZB ts'))=H3 at s3 hl3 hat3 ⊢
 have htl':ts'.length=ss.length:=by rw[pm.length_eq];exact htl
 refine⟨l,rfl,⟨_,SqL.of hl3⟩,fun D3 hD3=>?_⟩
 refine Zbp (K:=K) (a:=l) (xs:=ZB ts') (fun i zs σ H4=>(∃v1 v2:Option V,σ=[some (.ref a),v1,v2])∧zs=((E'.take i).map (·.2)).map V.int∧i≤ts'.length∧H4 D3=some (.lst zs)∧ZH H3 H4) ?_ (fun _ _ _ _ h=>SqL.of (h.2.2.2.2 _ _ hl3)) ?_ ?_
 ·exact⟨⟨none,none,rfl⟩,rfl,Qx _,Zc,Zf hD3 _⟩
 ·rintro i x zs σ H4 hx ⟨⟨v1,v2,rfl⟩,rfl,hi3,hD4,s4⟩
  unfold ZB at hx
  rw[Qn]at hx
  cases ht:ts'[i]? with
  | none=>rw[ht]at hx;cases hx
  | some t =>
   rw[ht]at hx
   cases hx
   have hil:i<ts'.length:=(Qp.mp ht).1
   have hEi:E'[i]? = some E'[i]:=Qd (by omega)
   have e5:t.2=kk E'[i]:=by
    have:=congrArg (fun z=>z[i]?) eE
    simp only[List.getElem?_map,ht,hEi,Option.map_some]at this
    exact QC this
   have hH:=s4 _ _ (hat3 t (QG ht))
   rw[e5]at hH
   refine⟨t.1,_,rfl,SqT.of hH,rfl,_,_,rfl,_,_,rfl,rfl,?_⟩
   refine⟨_,rfl,hD4,(by rw[Qa,Qa,QA];exact Zm (by omega)),⟨_,_,rfl⟩,?_,hil,Zc,fun b o hb=>?_⟩
   ·rw[Qaa,hEi,Qg,Qg];rfl
   ·rw[Ze (Zb hb hD3)];exact s4 b o hb
 rintro zs σ H4 ⟨⟨v1,v2,rfl⟩,rfl,hi3,hD4,s4⟩
 rw[show (ZB ts').length=ts'.length from Qa _,QF (by omega)]at hD4
 exact q D3 _ H4 (s3.free hD3) hD4 (by rw[Qa];omega) hmem hris hprm (s3.trans s4)
theorem Zcu{ss:List Str}{g:List Int}{n:Int}(h:Ris ss g)(hl:∀x,g.getLast? = some x→Zw (kk (ks ss x)) (kk (ks ss n))=true):Ris ss (g++[n]):=fun p x y hx hy=>by
 have hpl:=(Qp.mp hy).1
 rw[Qc,Qo]at hpl
 rw[Qad (by omega)]at hx
 by_cases e:p+1<g.length
 ·rw[Qad e]at hy
  exact h p x y hx hy
 ·rw[QL (by omega),show p+1-g.length=0 by omega]at hy
  cases hy
  refine hl x ?_
  rw[List.getLast?_eq_getElem?,show g.length-1=p by omega]
  exact hx
theorem Zdq{ss:List Str}{n:Int}{c:Nat}(hn:n<c)(h:¬ ltK ss (c:Int) n):Zw (kk (ks ss n)) (kk (ks ss (c:Int)))=true:=by
 cases hb:Zw (kk (ks ss n)) (kk (ks ss (c:Int))) with
 | true=>rfl
 | false =>
  have h2:Zw (kk (ks ss (c:Int))) (kk (ks ss n))=false:=by
   unfold kk
   rw[Zaz]
   by_cases e:(Sum.inr (ks ss (c:Int)).1:Key)=Sum.inr (ks ss n).1
   ·rw[if_pos e,Zaz,if_neg (by intro z;have:=Sum.inl.inj z;show False;simp only[ks]at this;omega)]
    exact decide_eq_false (by show ¬ ((c:Int)<n);omega)
   ·rw[if_neg e]
    exact decide_eq_false h
  have:=ZcM (Z2 _ _ hb h2)
  have:=congrArg Prod.snd this
  simp only[ks]at this
  omega
def ZdK(ss:List Str)(d:List Int):Prop:=d≠[]∧Ris ss d∧∀n∈d,0≤n∧n<ss.length
theorem Zcp{ss:List Str}{A B:List Int}{n:Int}(hl:ZbR ss A n)(nd:(A++B).Nodup):∀a∈A.erase n,Zw (kk (ks ss n)) (kk (ks ss a))=true:=fun a ha=>by
 have hA:=(QJ.mp nd).1
 have hne:a≠n:=((List.Nodup.mem_erase_iff hA).mp ha).1
 cases hb:Zw (kk (ks ss n)) (kk (ks ss a)) with
 | true=>rfl
 | false=>exact absurd (congrArg Prod.snd (ZcM (Z2 _ _ (hl.2 a (Qu ha)) hb))) hne
theorem Zco{A B:List Int}{n:Int}(nd:(A++B).Nodup):(A.erase n++B).Nodup:=by
 have h:=QJ.mp nd
 exact QJ.mpr ⟨h.1.erase n,h.2.1,fun x hx y hy=>h.2.2 x (Qu hx) y hy⟩
theorem Zgz{ss:List Str}{A B:List Int}{c:Nat}{gone:List Int}{done R:List (List Int)}(h:Res ss A B c gone done R):(A++B).Nodup→(∀n∈A++B,0≤n∧n<(c:Int))→c≤ss.length→(∀d∈done,ZdK ss d)→Ris ss gone→(∀n∈gone,0≤n∧n<ss.length)→(∀x,gone.getLast? = some x→∀a∈A,Zw (kk (ks ss x)) (kk (ks ss a))=true)→(A=[]→B≠[]→gone≠[])→∀d∈R,ZdK ss d:=by
 induction h with
 | stop0=>intro _ _ _ hd _ _ _ _;exact hd
 | stop =>
  intro _ _ _ hd hr hm _ _ d hdm
  rcases Qf.mp hdm with h|h
  ·exact hd d h
  ·rw[Qe.mp h];exact⟨by simp,hr,hm⟩
 | switch _ ih =>
  intro nd mem hc hd hr hm _ go
  refine ih (by simpa using nd) (by simpa using mem) hc (fun d hdm=>?_) (fun p x y hx=>by simp at hx) (fun n hn=>by cases hn) (fun x hx=>by simp at hx) (fun z=>by cases z)
  rcases Qf.mp hdm with h|h
  ·exact hd d h
  ·rw[Qe.mp h];exact⟨go rfl (by simp),hr,hm⟩
 | stepN l hcN _ ih =>
  intro nd mem hc hd hr hm last go
  have hn:=mem _ (Qr _ l.1)
  refine ih (Zco nd) (fun m hm'=>mem m ?_) hc hd (Zcu hr (fun x hx=>last x hx _ l.1)) (fun m hm'=>?_) (fun x hx=>?_) (fun _ _=>by simp)
  ·rcases Qf.mp hm' with h|h
   ·exact Qr _ (Qu h)
   ·exact Qi _ h
  ·rcases Qf.mp hm' with h|h
   ·exact hm m h
   ·rw[Qe.mp h];omega
  ·rw[List.getLast?_concat]at hx
   cases hx
   exact Zcp l nd
 | @stepA A B c gone done R n l hcN hlt _ ih =>
  intro nd mem hc hd hr hm last go
  have hn:=mem _ (Qr _ l.1)
  refine ih ?_ (fun m hm'=>?_) hcN hd (Zcu hr (fun x hx=>last x hx _ l.1)) (fun m hm'=>?_) (fun x hx=>?_) (fun _ _=>by simp)
  ·have e:=QJ.mp (Zco (n:=n) nd)
   refine QJ.mpr ⟨QJ.mpr ⟨e.1,by simp,fun x hx y hy=>?_⟩,e.2.1,fun x hx y hy=>?_⟩
   ·have:=mem x (Qr _ (Qu hx));rw[Qe.mp hy];omega
   ·rcases Qf.mp hx with hx|hx
    ·exact e.2.2 x hx y hy
    ·have:=mem y (Qi _ hy);rw[Qe.mp hx];omega
  ·have:m∈A++B∨m=(c:Int):=by
    simp only[List.mem_append,List.mem_singleton]at hm' ⊢
    rcases hm' with(h|h)|h
    ·exact .inl (.inl (Qu h))
    ·exact .inr h
    ·exact .inl (.inr h)
   rcases this with h|h
   ·have:=mem m h;omega
   ·omega
  ·rcases Qf.mp hm' with h|h
   ·exact hm m h
   ·rw[Qe.mp h];omega
  ·rw[List.getLast?_concat]at hx
   cases hx
   intro a ha
   rcases Qf.mp ha with ha|ha
   ·exact Zcp l nd a ha
   ·rw[Qe.mp ha];exact Zdq hn.2 hlt
 | @stepB A B c gone done R n l hcN hlt _ ih =>
  intro nd mem hc hd hr hm last go
  have hn:=mem _ (Qr _ l.1)
  refine ih ?_ (fun m hm'=>?_) hcN hd (Zcu hr (fun x hx=>last x hx _ l.1)) (fun m hm'=>?_) (fun x hx=>?_) (fun _ _=>by simp)
  ·have e:=QJ.mp (Zco (n:=n) nd)
   refine QJ.mpr ⟨e.1,QJ.mpr ⟨e.2.1,by simp,fun x hx y hy=>?_⟩,fun x hx y hy=>?_⟩
   ·have:=mem x (Qi _ hx);rw[Qe.mp hy];omega
   ·rcases Qf.mp hy with hy|hy
    ·exact e.2.2 x hx y hy
    ·have:=mem x (Qr _ (Qu hx));rw[Qe.mp hy];omega
  ·have:m∈A++B∨m=(c:Int):=by
    simp only[List.mem_append,List.mem_singleton]at hm' ⊢
    rcases hm' with h|h|h
    ·exact .inl (.inl (Qu h))
    ·exact .inl (.inr h)
    ·exact .inr h
   rcases this with h|h
   ·have:=mem m h;omega
   ·omega
  ·rcases Qf.mp hm' with h|h
   ·exact hm m h
   ·rw[Qe.mp h];omega
  ·rw[List.getLast?_concat]at hx
   cases hx
   exact Zcp l nd
theorem ZgT(n:Nat):(first n).Nodup:=by
 unfold first ZJ
 refine List.Pairwise.map _ (fun a b h=>?_) List.nodup_range
 intro z
 exact h (by omega)
theorem Zc9{ss:List Str}{k:Nat}(hk:k≤ss.length){R:List (List Int)}(h:Res ss (first k) [] k [] [] R):∀d∈R,ZdK ss d :=
 Zgz h (by rw[Q3];exact ZgT k) (by rw[Q3];exact fun n hn=>Za1 hn) hk (fun d h=>by cases h) (fun p x y hx=>by simp at hx) (fun n h=>by cases h) (fun x hx=>by simp at hx) (fun _ z=>absurd rfl z)
theorem Ris.far{ss:List Str}{ns:List Int}(h:Ris ss ns):∀ (d p:Nat) (x y:Int),ns[p]? = some x→ns[p+d+1]? = some y→Zw (kk (ks ss x)) (kk (ks ss y))=true
 | 0,p,x,y,hx,hy=>h p x y hx hy
 | d+1,p,x,y,hx,hy=>by
  have hl:p+d+1<ns.length:=by have:=(Qp.mp hy).1;omega
  have hz:=Qd hl
  exact Zap _ _ _ (h.far d p x _ hx hz) (h (p+d+1) _ _ hz hy)
theorem Ris.pw{ss:List Str}{ns:List Int}(h:Ris ss ns):ns.Pairwise fun x y=>Zw (kk (ks ss x)) (kk (ks ss y))=true:=by
 refine List.pairwise_iff_getElem.mpr fun i j hi hj hij=>?_
 exact h.far (j-i-1) i _ _ (Qd hi) (by rw[show i+(j-i-1)+1=j by omega];exact Qd hj)
theorem ZeW{a b:List Key}(h:Zw a b=true):Zw b a=false:=by
 cases hb:Zw b a with
 | false=>rfl
 | true=>have:=Zap _ _ _ h hb;rw[Zae]at this;cases this
theorem Ris.ord{ss:List Str}{ns:List Int}(h:Ris ss ns):Ord (ns.map (ks ss)):=List.pairwise_map.mpr (h.pw.imp fun h=>ZeW h)
theorem ZhP{E F:List (Str×Int)}(h1:Ord E)(h2:Ord F)(p:E.Perm F):E=F:=List.Perm.eq_of_pairwise (fun a b _ _ ha hb=>ZcM (Z2 _ _ hb ha)) h1 h2 p
theorem Zaq{A:List Int}{n:Int}(h:n∈A):(A.erase n).length+1=A.length:=by
 have:=QaM h
 have:=QaU h
 omega
theorem ZfV{ss:List Str}{room:Nat}{A B:List Int}{c:Nat}{gone:List Int}{done R:List (List Int)}(h:Res ss A B c gone done R):(c<ss.length→A.length+B.length=room)→(room≤gone.length+A.length∨(¬ c<ss.length∧B=[]))→(∀d∈done,room≤d.length)→∀d∈R.dropLast,room≤d.length:=by
 induction h with
 | stop0=>intro _ _ hd d h;exact hd d (List.dropLast_subset _ h)
 | stop=>intro _ _ hd d h;rw[List.dropLast_concat]at h;exact hd d h
 | switch _ ih =>
  intro f g hd
  refine ih (by simpa using f) ?_ fun d h=>?_
  ·rename_i c _ _ _ _
   by_cases hc:c<ss.length
   ·exact .inl (by have:=f hc;simp at this ⊢;omega)
   ·exact .inr ⟨hc,rfl⟩
  ·rcases Qf.mp h with h|h
   ·exact hd d h
   ·rw[Qe.mp h]
    rcases g with g|⟨_,z⟩
    ·simpa using g
    ·cases z
 | stepN l hc _ ih =>
  intro f g hd
  have:=Zaq l.1
  refine ih (fun z=>absurd z hc) ?_ hd
  rcases g with g|g
  ·exact .inl (by rw[Qc,Qo];omega)
  ·exact .inr g
 | stepA l hc _ _ ih =>
  intro f g hd
  have:=Zaq l.1
  have f':=f hc
  refine ih (fun _=>by rw[Qc,Qo];omega) ?_ hd
  rcases g with g|g
  ·exact .inl (by rw[Qc,Qc,Qo];simp;omega)
  ·exact absurd hc g.1
 | stepB l hc _ _ ih =>
  intro f g hd
  have:=Zaq l.1
  have f':=f hc
  refine ih (fun _=>by rw[Qc,Qo];omega) ?_ hd
  rcases g with g|g
  ·exact .inl (by rw[Qc,Qo];omega)
  ·exact absurd hc g.1
theorem Zdn{ss:List Str}{room:Nat}{R:List (List Int)}(h:Res ss (first (min room ss.length)) [] (min room ss.length) [] [] R):∀d∈R.dropLast,room≤d.length:=by
 refine ZfV h (fun z=>by rw[ZG];simp;omega) ?_ (fun d h=>by cases h)
 rw[ZG]
 by_cases hc:min room ss.length<ss.length
 ·exact .inl (by simp;omega)
 ·exact .inr ⟨hc,rfl⟩
theorem Zhz{ss:List Str}{A B:List Int}{c:Nat}{gone:List Int}{done R:List (List Int)}(h:Res ss A B c gone done R):B=[]→¬ c<ss.length→done=[]→R.length≤1:=by
 induction h with
 | stop0=>intro _ _ h;rw[h];exact Qx _
 | stop=>intro _ _ h;rw[h];exact Qj _
 | switch _ _=>intro z;cases z
 | stepN _ _ _ ih=>intro a b c;exact ih a b c
 | stepA _ hc _ _ _=>intro _ z;exact absurd hc z
 | stepB _ hc _ _ _=>intro _ z;exact absurd hc z
def Srt(ss:List Str):Prop:=ss.Pairwise fun x y=>ZQ (cds x) (cds y)≤0
theorem ZdW:∀ (ss:List Str) (p:Str),risingS p ss=true→Srt (p::ss)
 | [],p,_=>List.pairwise_singleton _ _
 | z::r,p,h=>by
  unfold risingS at h
  rw[Bool.and_eq_true]at h
  have ih:=ZdW r z h.2
  have hpz:ZQ (cds p) (cds z)≤0:=Zc1 _ _ (by simpa using h.1)
  refine List.pairwise_cons.mpr ⟨fun x hx=>?_,ih⟩
  rcases Q6.mp hx with rfl|hx
  ·exact hpz
  ·exact ZcR _ _ _ hpz ((List.pairwise_cons.mp ih).1 x hx)
theorem ZcE{ss:List Str}(h:sortedS ss=true):Srt ss:=by
 cases ss with
 | nil=>exact List.Pairwise.nil
 | cons p r=>exact ZdW r p h
theorem Zhm{x y:Str}(h:cds x=cds y):x=y:=by
 obtain⟨x⟩:=x
 obtain⟨y⟩:=y
 have e:x=y:=by simpa using h
 rw[e]
theorem Zd4{c n:Nat}(h:c<n):ZJ c (n-c)=[(c:Int)]++ZJ ((c+1:Nat):Int) (n-(c+1)):=by
 obtain⟨k,rfl⟩:∃k,n=c+1+k:=⟨n-(c+1),by omega⟩
 rw[show c+1+k-c=k+1 by omega,show c+1+k-(c+1)=k by omega]
 unfold ZJ
 rw[List.range_succ_eq_map,Qw,Qaf]
 simp only[List.singleton_append]
 congr 1
 refine QaH fun i _=>?_
 show (c:Int)+((i+1:Nat):Int)=((c+1:Nat):Int)+(i:Int)
 omega
theorem Zgn{ss:List Str}{room:Nat}(hr:1≤room){A B:List Int}{c:Nat}{gone:List Int}{done R:List (List Int)}(h:Res ss A B c gone done R):(c<ss.length→A.length+B.length=room)→c≤ss.length→∀a:Int,R.flatten.count a=done.flatten.count a+gone.count a+A.count a+B.count a+(ZJ c (ss.length-c)).count a:=by
 induction h with
 | @stop0 c done =>
  intro f hc a
  have:c=ss.length:=by
   by_cases z:c<ss.length
   ·have:=f z;simp at this;omega
   ·omega
  rw[this,Nat.sub_self]
  simp[ZJ]
 | @stop c g gone done =>
  intro f hc a
  have:c=ss.length:=by
   by_cases z:c<ss.length
   ·have:=f z;simp at this;omega
   ·omega
  rw[this,Nat.sub_self,Qac,QK]
  simp[ZJ]
 | @switch b B c gone done R _ ih =>
  intro f hc a
  rw[ih (by simpa using f) hc a,Qac,QK]
  simp
 | @stepN A B c gone done R n l hc _ ih =>
  intro f h a
  have e:=(QaE l.1).count_eq a
  rw[show n::A.erase n=[n]++A.erase n from rfl,QK]at e
  rw[ih (fun z=>absurd z hc) h a,QK]
  omega
 | @stepA A B c gone done R n l hc _ _ ih =>
  intro f h a
  have e:=(QaE l.1).count_eq a
  rw[show n::A.erase n=[n]++A.erase n from rfl,QK]at e
  have e3:=Zaq l.1
  have f':=f hc
  rw[ih (fun _=>by rw[Qc,Qo];omega) (by omega) a,QK,QK,Zd4 hc,QK]
  omega
 | @stepB A B c gone done R n l hc _ _ ih =>
  intro f h a
  have e:=(QaE l.1).count_eq a
  rw[show n::A.erase n=[n]++A.erase n from rfl,QK]at e
  have e3:=Zaq l.1
  have f':=f hc
  rw[ih (fun _=>by rw[Qc,Qo];omega) (by omega) a,QK,QK,Zd4 hc,QK]
  omega
theorem ZbZ{ss:List Str}{room:Nat}(hr:1≤room){R:List (List Int)}(h:Res ss (first (min room ss.length)) [] (min room ss.length) [] [] R):R.flatten.Perm (first ss.length):=by
 refine List.perm_iff_count.mpr fun a=>?_
 rw[Zgn hr h (fun z=>by rw[ZG];simp;omega) (QaW _ _) a]
 have e:first ss.length=first (min room ss.length)++ZJ ((min room ss.length:Nat):Int) (ss.length-min room ss.length):=by
  generalize hm:min room ss.length=m
  have hm':m≤ss.length:=by omega
  obtain⟨k,hk⟩:∃k,ss.length=m+k:=⟨ss.length-m,by omega⟩
  rw[hk,show m+k-m=k by omega]
  unfold first ZJ
  rw[List.range_add,Qg,Qaf]
  congr 1
  refine QaH fun i _=>?_
  show (0:Int)+((m+i:Nat):Int)=(m:Int)+(i:Int)
  omega
 rw[e,QK]
 simp
theorem Zf3{ss:List Str}{room:Nat}(hf:∀c:Nat,c<ss.length→∀n:Int,0≤n→n<c→ltK ss c n){A B:List Int}{c:Nat}{gone:List Int}{done R:List (List Int)}(h:Res ss A B c gone done R):(∀n∈A++B,0≤n∧n<(c:Int))→A.length+B.length≤room→gone.length+A.length≤room→(∀d∈done,d.length≤room)→∀d∈R,d.length≤room:=by
 induction h with
 | stop0=>intro _ _ _ hd;exact hd
 | stop =>
  intro _ _ g hd d h
  rcases Qf.mp h with h|h
  ·exact hd d h
  ·rw[Qe.mp h];simpa using g
 | switch _ ih =>
  intro m f g hd
  refine ih (by simpa using m) (by simpa using f) (by simpa using f) fun d h=>?_
  rcases Qf.mp h with h|h
  ·exact hd d h
  ·rw[Qe.mp h];simpa using g
 | stepN l hc _ ih =>
  intro m f g hd
  have:=Zaq l.1
  refine ih (fun x hx=>m x ?_) (by omega) (by rw[Qc,Qo];omega) hd
  rcases Qf.mp hx with hx|hx
  ·exact Qr _ (Qu hx)
  ·exact Qi _ hx
 | @stepA A B c gone done R n l hc hn _ ih =>
  intro m
  have:=m n (Qr _ l.1)
  exact absurd (hf c hc n this.1 this.2) hn
 | @stepB A B c gone done R n l hc hn _ ih =>
  intro m f g hd
  have:=Zaq l.1
  refine ih (fun x hx=>?_) (by rw[Qc,Qo];omega) (by rw[Qc,Qo];omega) hd
  rcases Qf.mp hx with hx|hx
  ·have:=m x (Qr _ (Qu hx));omega
  ·rcases Qf.mp hx with hx|hx
   ·have:=m x (Qi _ hx);omega
   ·rw[Qe.mp hx];omega
theorem Zga{ss:List Str}(hf:∀c:Nat,c<ss.length→∀n:Int,0≤n→n<c→¬ ltK ss c n){A B:List Int}{c:Nat}{gone:List Int}{done R:List (List Int)}(h:Res ss A B c gone done R):(∀n∈A,0≤n∧n<(c:Int))→B=[]→done=[]→R.length≤1:=by
 induction h with
 | stop0=>intro _ _ h;rw[h];exact Qx _
 | stop=>intro _ _ h;rw[h];exact Qj _
 | switch _ _=>intro _ z;cases z
 | stepN l _ _ ih=>intro m a b;exact ih (fun x hx=>m x (Qu hx)) a b
 | @stepA A B c gone done R n l hc hn _ ih =>
  intro m a b
  refine ih (fun x hx=>?_) a b
  rcases Qf.mp hx with hx|hx
  ·have:=m x (Qu hx);omega
  ·rw[Qe.mp hx];omega
 | @stepB A B c gone done R n l hc hn _ ih =>
  intro m
  have:=m n l.1
  exact absurd hn (hf c hc n this.1 this.2)
theorem Ze0{ss:List Str}{d e:List Int}(h1:Ris ss d)(h2:Ris ss e)(p:d.Perm e):d=e:=by
 have:=ZhP h1.ord h2.ord (p.map _)
 have:=congrArg (List.map (·.2)) this
 rw[Qaf,Qaf]at this
 simpa [ks,Function.comp_def] using this
theorem Zfl{ss:List Str}{room:Nat}(hr:1≤room)(hn:ss≠[]){R:List (List Int)}(h:Res ss (first (min room ss.length)) [] (min room ss.length) [] [] R)(h1:R.length≤1):∃d,R=[d]∧d.Perm (first ss.length)∧Ris ss d:=by
 have hp:=ZbZ hr h
 have hg:=Zc9 (QaW _ _) h
 match R,h1 with
 | [],_ =>
  have:=hp.length_eq
  rw[ZG]at this
  have:ss.length=0:=by simpa using this.symm
  exact absurd (Qt this) hn
 | [d],_ =>
  refine⟨d,rfl,by simpa using hp,(hg d (Qv ..)).2.1⟩
theorem Zfc{ss:List Str}(h:Srt ss):∀c:Nat,c<ss.length→∀n:Int,0≤n→n<c→¬ ltK ss c n:=fun c hc n h0 hn=>by
 obtain⟨k,rfl⟩:∃k:Nat,n=k:=⟨n.toNat,by omega⟩
 have hk:k<c:=by omega
 have:=QV.mp h k c (by omega) hc hk
 unfold ltK
 rw[Q0,Q0,Zbs hc,Zbs (by omega),ZbW,Zcz]
 omega
theorem ZhI{ss:List Str}(h:Srt ss)(nd:ss.Nodup):∀c:Nat,c<ss.reverse.length→∀n:Int,0≤n→n<c→ltK ss.reverse c n:=fun c hc n h0 hn=>by
 obtain⟨k,rfl⟩:∃k:Nat,n=k:=⟨n.toNat,by omega⟩
 have hk:k<c:=by omega
 have hl:ss.reverse.length=ss.length:=QaK
 unfold ltK
 rw[Q0,Q0,Zbs hc,Zbs (by omega),List.getElem_reverse,List.getElem_reverse,ZbW]
 have h1:=QV.mp h (ss.length-1-c) (ss.length-1-k) (by omega) (by omega) (by omega)
 have h2:=QV.mp nd (ss.length-1-c) (ss.length-1-k) (by omega) (by omega) (by omega)
 rcases Int.lt_or_eq_of_le h1 with z|z
 ·exact z
 ·exact absurd (Zhm (Zdp _ _ z)) h2
theorem ZfO{ss:List Str}(h:Srt ss):Ris ss (first ss.length):=fun p x y hx hy=>by
 have hl:=(Qp.mp hy).1
 rw[ZG]at hl
 have ex:x=(p:Int):=by
  have:(first ss.length)[p]? = some ((p:Nat):Int):=by unfold first ZJ;rw[Qn,List.getElem?_range (by omega)];simp
  rw[this]at hx;exact(QC hx).symm
 have ey:y=((p+1:Nat):Int):=by
  have:(first ss.length)[p+1]? = some ((p+1:Nat):Int):=by unfold first ZJ;rw[Qn,List.getElem?_range (by omega)];simp
  rw[this]at hy;exact(QC hy).symm
 rw[ex,ey]
 exact Zdq (by omega) (Zfc h (p+1) hl p (by omega) (by omega))
theorem Zgi{K:PySem.W.Frag}:∀ {R:List (List Int)},(∀d∈R,d≠[])→((R.map fun d=>PyData.list (d.map PyData.int)).any fun e=>PyData.eqv e (.list []))=false
 | [],_=>rfl
 | d::r,h=>by
  rw[Qw,List.any_cons,Zgi (K:=K) fun x hx=>h x (Ql _ hx),Bool.or_false]
  cases d with
  | nil=>exact absurd rfl (h [] (Qv ..))
  | cons a d=>simp[PyData.eqv,PyData.eqvAll]
theorem ZfN{ms:List Int}{n:Nat}(p:ms.Perm (first n))(h:ms.Pairwise (·≤·)):ms=first n:=by
 have nd0:(first n).Pairwise (·≤·):=by
  unfold first ZJ
  exact List.pairwise_map.mpr (List.pairwise_lt_range.imp fun h=>by omega)
 exact List.Perm.eq_of_pairwise (fun a b _ _ h1 h2=>Int.le_antisymm h1 h2) h nd0 p
theorem Z8{K:PySem.W.Frag}{H:Hp}:∀ {ls:List Addr} {R:List (List Int)},Rd H ls R→DVs K H (ls.map V.ref) (R.map fun d=>PyData.list (d.map PyData.int))
 | [],[],_=>.nil
 | [],_::_,h=>h.elim
 | _::_,[],h=>h.elim
 | l::ls,d::R,h=>.cons (.lst (SqL.of h.1) (Zcl d)) (Z8 h.2)
theorem ZbV:∀R:List (List Int),PyData.canLayAll0 (R.map fun d=>PyData.list (d.map PyData.int))=true∧PyData.depthAll (R.map fun d=>PyData.list (d.map PyData.int))≤1
 | []=>⟨rfl,Qx _⟩
 | d::r=>by
  obtain⟨a,b⟩:=ZbV r
  have h1:=Zcn d
  have h2:=ZbC d
  refine⟨?_,?_⟩
  ·rw[Qw]
   simp only[PyData.canLayAll0,PyData.canLay0,a,h1,Bool.and_self]
  ·rw[Qw]
   show max (PyData.depthAll (d.map PyData.int)+1) (PyData.depthAll (r.map fun d=>PyData.list (d.map PyData.int)))≤1
   omega
theorem ZO(R:List (List Int)):SeqAt.shaped (.list (R.map fun d=>PyData.list (d.map PyData.int)))=true:=by
 obtain⟨a,b⟩:=ZbV R
 simp[SeqAt.shaped,PyData.canLay0,PyData.depth,a]
 omega
theorem Zb2:∀l m:List Int,(PyData.eqv (.list (l.map PyData.int)) (.list (m.map PyData.int))=true↔l=m)
 | [],[]=>⟨fun _=>rfl,fun _=>by ac_rfl⟩
 | [],_::_=>⟨fun z=>by simp[PyData.eqv,PyData.eqvAll]at z,fun z=>by cases z⟩
 | _::_,[]=>⟨fun z=>by simp[PyData.eqv,PyData.eqvAll]at z,fun z=>by cases z⟩
 | i::r,j::r'=>by
  have ih:=Zb2 r r'
  simp[PyData.eqv,PyData.eqvAll]at ih ⊢
  rw[ih]
  exact fun _=>Iff.rfl
theorem Zc6:∀R S:List (List Int),PyData.eqvAll (R.map fun d=>PyData.list (d.map PyData.int)) (S.map fun d=>PyData.list (d.map PyData.int))=true↔R=S
 | [],[]=>⟨fun _=>rfl,fun _=>by simp[PyData.eqvAll]⟩
 | [],_::_=>⟨fun z=>by simp[PyData.eqvAll]at z,fun z=>by cases z⟩
 | _::_,[]=>⟨fun z=>by simp[PyData.eqvAll]at z,fun z=>by cases z⟩
 | d::r,e::s=>by
  have ih:=Zc6 r s
  have h:=Zb2 d e
  rw[Qw,Qw]
  simp only[PyData.eqvAll,Bool.and_eq_true]
  rw[ih,h,List.cons.injEq]
theorem Zdc{R:List (List Int)}{j:Nat}{d:List Int}(h:R[j]? = some d):(R.take (j+1)).flatten=(R.take j).flatten++d:=by
 rw[Qaa,h,Qac];simp
theorem Zc3(xs:List V):Zcc xs none (some (-1))=xs.dropLast:=by
 have e:HT.sIx xs.length xs.length (some (-1))=xs.length-1:=by
  unfold HT.sIx
  simp
  omega
 unfold Zcc
 rw[e,List.dropLast_eq_take]
 simp[HT.sIx]
def ZdQ(K:PySem.W.Frag):Sp:=fun vs H Q _=>∃ (a:Addr) (ss:List Str) (room:Nat),vs=[.ref a,.int room]∧H a=some (.lst (ss.map V.str))∧ss.length≤60∧(∀s∈ss,s.length≤1000)∧1≤room∧room≤100∧∀H',ZH H H'→Q (.bl true) H'
theorem ZhN(T:Zba K mg)(f_runs_of:Df P w K mg base 5 "runs_of" ["things", "room"] (ZdO K)):Df P w K mg base 6 "_law_lengths_right" ["_law_things_here", "_law_room_here"] (ZdQ K):=by
 refine T.t_l_lengths_right.df ZU (fun vs H Q E h=>?_) (fun cdv f A outer s H vs Q E hr h=>?_)
 ·obtain⟨a,ss,room,rfl,_⟩:=h
  rfl
 obtain⟨a,ss,room,rfl,hS,h60,hs,r1,r100,q⟩:=h
 refine⟨_,#[Zi,#[ZL,2,ZU.nd,(Or.inl rfl),#[Zx,f_runs_of,hr,#[Za,‹0›,#[Za,#[pv,1,(Or.inr (Or.inl rfl))],#[Zd]]],(by rfl)]],#[Zi,#[ZL,3,ZU.nd,(Or.inl rfl),#[Z4,#[Zd]]],#[Zi,#[Zdx,PassesOwn.never,#[iL,K,‹2›],#[Zay,4,ZU.nd],#[Zk,#[ZaI,#[ZbN,QR,PySem.F.slot_list_extend,PySem.F.type_list_extend,Zfy,‹3›,#[Za,‹4›,#[Zd]]]]]],#[Zi,#[ZaC,(@PW.pt _ _ _ (@ZgK _ _ _ _ _ _ _ #[Zn,#[neD,K,hr],#[Zj,(Zjz K),(by rfl),T.b.n_sorted,boot_sorted,#[Za,‹3›,#[Zd]]],#[ZaU,Zh5,T.b.n_list,boot_list,#[Za,#[ZaU,ZiZ,T.b.n_range,boot_range,#[Za,#[Zj,(ZbF K),(by rfl),T.b.n_len,QB,#[Za,‹0›,#[Zd]]],#[Zd]]],#[Zd]]],(Zq _)] (@ZeE _ _ _ _ #[Zn,(inD K hr),#[Z4,#[Zd]],‹2›,(by with_unfolding_all rfl)]))),#[Zk,#[Zu,(@ZdZ _ _ _ _)]],(@ZY _)],#[Zk,#[Zu,#[Zj,(Zi8 K),(by rfl),T.b.n_all,boot_all,#[Za,#[Zbr,Zgp,#[iL,K,#[Zbf,(slL K),‹2›,(@Zax _),(@Za8 _ _ _ #[Zcw,ZbA,#[Zh]])]],(fun _ _ _ _=>#[cg,5,Zgp]),(fun _ _ _ _=>(@ZaG _)),(fun _ _ _ _=>(@ZbS _ _ _ _ _ _ _ _ ZfU #[Zj,(ZbF K),(Zbq Zgp rfl (by ac_rfl)),T.b.n_len,QB,#[Za,#[cw,5,Zgp],#[Zd]]] #[cv,1,Zgp] (Zq _)))],#[Zd]]]]]]]]],?_⟩
 refine⟨_,rfl,_,rfl,a,ss,room,rfl,SqL.of hS,h60,hs,r100,fun r ls R H1 hr0 hr1 hrl hln hrd hres hRl hdl s1=>?_⟩
 have hp:=ZbZ r1 hres
 have hg:=Zc9 (QaW _ _) hres
 have hlen:=Zdn hres
 have hfl:R.flatten.length=ss.length:=by rw[hp.length_eq,ZG]
 have hll:=hrd.len
 refine⟨(by show 0≤sizeLine;decide),fun nu hnu=>?_⟩
 have s2:=Zf hnu (.lst [])
 have f2:(upd H1 nu (.lst [])) nu=some (.lst (([]:List Int).map V.int)):=Zc
 have nur:nu ∉ ls:=hrd.out hnu
 generalize upd H1 nu (.lst [])=H2 at s2 f2 ⊢
 have hr2:=s2 _ _ hr1
 have nru:r≠nu:=fun z=>by rw[← z,hr1]at hnu;cases hnu
 refine⟨_,rfl,r,rfl,⟨_,SqL.of hr2⟩,?_⟩
 refine Zgm (K:=K) (a:=r) (xs:=ls.map V.ref) (fun j σ H3=>(∃v:Option V,σ=[some (.ref a),some (.int room),some (.ref r),some (.ref nu),v])∧H3 nu=some (.lst ((R.take j).flatten.map V.int))∧j≤ls.length∧∀b o,H1 b=some o→H3 b=some o) ⟨⟨_,rfl⟩,f2,Qx _,s2⟩ (fun _ _ _ _ h=>SqL.of (h.2.2.2 _ _ hr1)) ?_ ?_
 ·rintro j x σ H3 hx ⟨⟨v,rfl⟩,hn3,hj,k3⟩
  rw[Qn]at hx
  cases hlj:ls[j]? with
  | none=>rw[hlj]at hx;cases hx
  | some l =>
  rw[hlj]at hx
  cases hx
  obtain⟨d,hd,hl⟩:=hrd.at hlj
  have hjl:=(Qp.mp hlj).1
  have hsz:(R.take j).flatten.length+d.length≤60:=by
   have e:=Zdc hd
   have e2:=congrArg (fun l:List (List Int)=>l.flatten.length) (QZ (j+1) R)
   simp only[List.flatten_append,List.length_append]at e2
   have e3:=congrArg List.length e
   rw[Qc]at e3
   omega
  refine⟨_,rfl,.inl ⟨rfl,_,SqL.of hn3⟩,_,rfl,nu,l,_,_,rfl,rfl,hn3,k3 _ _ hl,(by rw[Qa,Qa,sizeLine_eq];omega),⟨_,rfl⟩,(by rw[Zc,Zdc hd,Qg]),hjl,fun b o hb=>?_⟩
  rw[Ze (Zb hb hnu)];exact k3 b o hb
 ·rintro σ H3 ⟨⟨v1,rfl⟩,hn3,hj,k3⟩
  rw[Qa,QF (by omega)]at hn3
  have s3:ZH H H3:=fun b o hb=>k3 _ _ (s1 b o hb)
  refine⟨_,rfl,nu,R.flatten,rfl,SqL.of hn3,by omega,fun so ms hso pm pw=>?_⟩
  have s4:=Zf hso (.lst (ms.map V.int))
  have f4:(upd H3 so (.lst (ms.map V.int))) so=some (.lst (ms.map V.int)):=Zc
  generalize upd H3 so (.lst (ms.map V.int))=H4 at s4 f4 ⊢
  have em:ms=first ss.length:=ZfN (pm.trans hp) pw
  subst em
  refine⟨_,rfl,a,_,rfl,.inl (SqL.of ((s3.trans s4) _ _ hS)),_,rfl,fun rg hrg=>?_⟩
  have hls:(((ss.map V.str).length:Nat):Int)=(ss.length:Int):=by rw[Qa]
  have s5:=Zf hrg (.rng 0 (((ss.map V.str).length:Nat):Int))
  refine⟨rg,0,_,rfl,Zc,by omega,by omega,by rw[hls];omega,by rw[hls];omega,by rw[hls];omega,fun l hl'=>?_⟩
  have s6:=Zf hl' (.lst ((ZJ 0 ((((ss.map V.str).length:Nat):Int)-0).toNat).map V.int))
  have f6:(upd (upd H4 rg (.rng 0 (((ss.map V.str).length:Nat):Int))) l (.lst ((ZJ 0 ((((ss.map V.str).length:Nat):Int)-0).toNat).map V.int))) l=some (.lst ((ZJ 0 ((((ss.map V.str).length:Nat):Int)-0).toNat).map V.int)):=Zc
  have s46:=s5.trans s6
  generalize upd (upd H4 rg (.rng 0 (((ss.map V.str).length:Nat):Int))) l (.lst ((ZJ 0 ((((ss.map V.str).length:Nat):Int)-0).toNat).map V.int))=H6 at f6 s46 ⊢
  rw[show ((((ss.map V.str).length:Nat):Int)-0).toNat=ss.length by rw[hls];omega]at f6
  refine⟨.list ((first ss.length).map PyData.int),.list ((first ss.length).map PyData.int),.lst (SqL.of (s46 _ _ f4)) (Zcl _),.lst (SqL.of f6) (Zcl _),Zb6 _,Zb6 _,_,rfl,?_⟩
  rw[if_pos rfl,(Zb2 _ _).mpr rfl]
  refine Zbt ?_
  have s36:=s4.trans s46
  have k6:∀b o,H1 b=some o→H6 b=some o:=fun b o hb=>s36 _ _ (k3 b o hb)
  have hrd6:Rd H6 ls R:=Rd.mono (fun c _ o ho=>k6 _ _ ho) hrd
  refine⟨(by show 0≤sizeLine;decide),fun e he=>?_⟩
  have s7:=Zf he (.lst [])
  have f7:(upd H6 e (.lst [])) e=some (.lst []):=Zc
  generalize upd H6 e (.lst [])=H7 at s7 f7 ⊢
  have k7:∀b o,H1 b=some o→H7 b=some o:=fun b o hb=>s7 _ _ (k6 b o hb)
  have hrd7:Rd H7 ls R:=Rd.mono (fun c _ o ho=>k7 _ _ ho) hrd
  refine⟨_,rfl,r,_,_,.list [],rfl,SqL.of (k7 _ _ hr1),Z8 hrd7,.lst (SqL.of f7) .nil,(ZbV R).1,(by ac_rfl),(by decide),_,rfl,?_⟩
  rw[Zgi (K:=K) fun d hd=>(hg d hd).1]
  refine Zbt ?_
  refine⟨_,rfl,_,rfl,_,rfl,r,_,rfl,SqL.of (k7 _ _ hr1),fun sl hsl=>?_⟩
  rw[Zc3,← List.map_dropLast]
  have s8:=Zf hsl (.lst (ls.dropLast.map V.ref))
  have f8:(upd H7 sl (.lst (ls.dropLast.map V.ref))) sl=some (.lst (ls.dropLast.map V.ref)):=Zc
  generalize upd H7 sl (.lst (ls.dropLast.map V.ref))=H8 at s8 f8 ⊢
  have k8:∀b o,H1 b=some o→H8 b=some o:=fun b o hb=>s8 _ _ (k7 b o hb)
  refine⟨sl,rfl,⟨_,SqL.of f8⟩,fun D hD=>?_⟩
  refine Zbp (K:=K) (a:=sl) (xs:=ls.dropLast.map V.ref) (fun j ys σ H9=>(∃v:Option V,σ=[some (.ref a),some (.int room),some (.ref r),some (.ref nu),v1,v])∧ys=(List.replicate j true).map V.bl∧j≤ls.length∧H9 D=some (.lst ys)∧ZH H8 H9) ⟨⟨_,rfl⟩,rfl,Qx _,Zc,Zf hD _⟩ (fun _ _ _ _ h=>SqL.of (h.2.2.2.2 _ _ f8)) ?_ ?_
  ·rintro j x ys σ H9 hx ⟨⟨v',rfl⟩,rfl,_,hD9,s9⟩
   rw[Qn]at hx
   cases hlj:ls.dropLast[j]? with
   | none=>rw[hlj]at hx;cases hx
   | some l =>
   rw[hlj]at hx
   cases hx
   have hj1:j<ls.length-1:=by have:=(Qp.mp hlj).1;rw[List.length_dropLast]at this;exact this
   have hlj':ls[j]? = some l:=by rw[Qau,if_pos hj1]at hlj;exact hlj
   obtain⟨d,hd,hl⟩:=hrd.at hlj'
   have hdd:d∈R.dropLast:=QG (i:=j) (by rw[Qau,if_pos (by omega)];exact hd)
   have hdr:=hlen d hdd
   refine⟨_,rfl,l,_,rfl,.inl (SqL.of (s9 _ _ (k8 _ _ hl))),_,rfl,_,_,rfl,rfl,hD9,(by rw[Qa,Qaw];exact Zm (by omega)),⟨_,rfl⟩,?_,by omega,Zc,fun b o hb=>?_⟩
   ·show List.map V.bl (List.replicate j true)++[V.bl (decide ((room:Int)≤(((d.map V.int).length:Nat):Int)))]=_
    rw[decide_eq_true (by rw[Qa];omega),List.replicate_succ',Qg];rfl
   ·rw[Ze (Zb hb hD)];exact s9 b o hb
  ·rintro ys σ H9 ⟨⟨v',rfl⟩,rfl,_,hD9,s9⟩
   refine⟨D,List.replicate _ true,rfl,SqL.of hD9,?_⟩
   rw[show (List.replicate (ls.dropLast.map V.ref).length true).all id=true by simp]
   exact q H9 (fun b o hb=>s9 _ _ (k8 _ _ (s1 b o hb)))
theorem ZfZ{α:Type}[DecidableEq α]:∀ {xs ys:List α},xs.Nodup→(∀y∈xs,y∈ys)→xs.length≤ys.length
 | [],_,_,_=>Qx _
 | x::xs,ys,nd,h=>by
  obtain⟨h1,h2⟩:=QaO.mp nd
  have hx:=h x (Qv ..)
  have ih:=ZfZ (xs:=xs) (ys:=ys.erase x) h2 fun y hy=>(List.mem_erase_of_ne fun e=>h1 (by rw[← e];exact hy)).mpr (h y (Ql _ hy))
  have e:=QaM hx
  have p:=QaU hx
  rw[QP]
  omega
theorem Zd8:∀R:List (List Int),(R.map fun d=>((d.length:Nat):Int)).sum=((R.flatten.length:Nat):Int)
 | []=>rfl
 | d::r=>by
  rw[Qw,List.sum_cons,Zd8 r,Qah,Qc]
  omega
def lnI(R:List (List Int)):List Int:=R.map fun d=>((d.length:Nat):Int)
theorem Zg9(T:Zba K mg)(f_runs_of:Df P w K mg base 5 "runs_of" ["things", "room"] (ZdO K)):Df P w K mg base 6 "_law_falling_right" ["_law_things_here", "_law_room_here"] (ZdQ K):=by
 refine T.t_l_falling_right.df Zac (fun vs H Q E h=>?_) (fun cdv f A outer s H vs Q E hr h=>?_)
 ·obtain⟨a,ss,room,rfl,_⟩:=h
  rfl
 obtain⟨a,ss,room,rfl,hS,h60,hs,r1,r100,q⟩:=h
 refine⟨_,#[Zi,#[ZL,2,Zac.nd,(Or.inl rfl),(@Zc2 _ _ _ _ _ _ _ _ _ _ _ _ (Zjf K) (@ZfE _ _ _ _ _ _ _ K rfl (by rfl) T.b.n_sorted (by rfl) T.b.n_set ‹0› (by rfl) (by rfl) (by rfl)) (@Zax _) (@Zax _) (@Za8 _ _ _ #[Zcw,ZbA,#[Zh]]))],#[Zi,#[ZcB,3,Zac.nd,ZhF,#[iL,K,#[Zx,f_runs_of,hr,#[Za,‹2›,#[Za,#[pv,1,(Or.inr (Or.inl rfl))],#[Zd]]],(by rfl)]],(fun _ _ _ _=>#[cg,4,ZhF]),(fun _ _ _ _=>(@ZaG _)),(fun _ _ _ _=>#[Zj,(ZbF K),(Zbq ZhF rfl (by ac_rfl)),T.b.n_len,QB,#[Za,#[cw,4,ZhF],#[Zd]]])],#[Zk,#[Zu,(@ZgA _ _ _ _ _ _ _ #[Zj,(Zi8 K),(by rfl),T.b.n_all,boot_all,#[Za,#[Zbr,Zhc,#[iL,K,#[Zbf,(slL K),‹3›,(@Zax _),(@Za8 _ _ _ #[Zcw,ZbA,#[Zh]])]],(fun _ _ _ _=>#[cg,4,Zhc]),(fun _ _ _ _=>(@ZaG _)),(fun _ _ _ _=>(@ZbS _ _ _ _ _ _ _ _ Zbc #[cw,4,Zhc] #[cv,1,Zhc] (Zq _)))],#[Zd]]] (@ZgA _ _ _ _ _ _ _ (@ZbS _ _ _ _ _ _ _ _ Zbc #[Zj,(ZjC K),(by rfl),T.b.n_sum,boot_sum,#[Za,‹3›,#[Zd]]] #[Zj,(ZbF K),(by rfl),T.b.n_len,QB,#[Za,‹2›,#[Zd]]] (Zq _)) (@ZiG _ _ _ _ _ (@ZbS _ _ _ _ _ _ _ _ Zh4 #[Zj,(ZjI K),(by rfl),T.b.n_max,boot_max,#[Za,#[ZD,ZgV,‹3›,#[Z4,#[Za,#[Zh],#[Zd]]]],#[Zd]]] #[pv,1,(Or.inr (Or.inl rfl))] (Zq _)))))]]]],?_⟩
 refine⟨_,rfl,a,ss,rfl,SqL.of hS,by omega,fun so ss' hso nd me srt=>?_⟩
 have hl60:ss'.length≤60:=Q9 (ZfZ nd fun y hy=>(me y).mp hy) h60
 have s1:=Zf hso (.lst (ss'.map V.str))
 have f1:(upd H so (.lst (ss'.map V.str))) so=some (.lst (ss'.map V.str)):=Zc
 generalize upd H so (.lst (ss'.map V.str))=H1 at s1 f1 ⊢
 refine⟨_,rfl,_,rfl,_,rfl,so,_,rfl,SqL.of f1,by decide,fun fa hfa=>?_⟩
 rw[Zdu,← List.map_reverse]
 have s2:=Zf hfa (.lst (ss'.reverse.map V.str))
 have f2:(upd H1 fa (.lst (ss'.reverse.map V.str))) fa=some (.lst (ss'.reverse.map V.str)):=Zc
 generalize upd H1 fa (.lst (ss'.reverse.map V.str))=H2 at s2 f2 ⊢
 have hsl:ss'.reverse.length=ss'.length:=QaK
 have fl:=ZhI (ZcE srt) nd
 refine⟨_,rfl,_,rfl,fa,ss'.reverse,room,rfl,SqL.of f2,by omega,(fun x hx=>hs x ((me x).mp (List.mem_reverse.mp hx))),r100,fun r ls R H3 hr0 hr1 hrl hln hrd hres hRl hdl s3=>?_⟩
 have hp:=ZbZ r1 hres
 have hlen:=Zdn hres
 have hle:∀d∈R,d.length≤room:=Zf3 fl hres (by rw[Q3];exact fun n hn=>Za1 hn) (by rw[ZG];simp;omega) (by rw[ZG];simp;omega) (fun d h=>by cases h)
 have hfl:R.flatten.length=ss'.length:=by rw[hp.length_eq,ZG];exact hsl
 have hll:=hrd.len
 refine⟨r,rfl,⟨_,SqL.of hr1⟩,fun D hD=>?_⟩
 refine Zbp (K:=K) (a:=r) (xs:=ls.map V.ref) (fun j ys σ H4=>(∃v:Option V,σ=[some (.ref a),some (.int room),some (.ref fa),none,v])∧ys=(lnI (R.take j)).map V.int∧j≤ls.length∧H4 D=some (.lst ys)∧ZH H3 H4) ⟨⟨_,rfl⟩,rfl,Qx _,Zc,Zf hD _⟩ (fun _ _ _ _ h=>SqL.of (h.2.2.2.2 _ _ hr1)) ?_ ?_
 ·rintro j x ys σ H4 hx ⟨⟨v,rfl⟩,rfl,_,hD4,s4⟩
  rw[Qn]at hx
  cases hlj:ls[j]? with
  | none=>rw[hlj]at hx;cases hx
  | some l =>
  rw[hlj]at hx
  cases hx
  obtain⟨d,hd,hl⟩:=hrd.at hlj
  have hjl:=(Qp.mp hlj).1
  refine⟨_,rfl,l,_,rfl,.inl (SqL.of (s4 _ _ hl)),hD4,(by unfold lnI;rw[Qa,Qa,QA];exact Zm (by omega)),⟨_,rfl⟩,?_,hjl,Zc,fun b o hb=>?_⟩
  ·unfold lnI
   rw[Qa,Qaa,hd,Qg,Qg];rfl
  ·rw[Ze (Zb hb hD)];exact s4 b o hb
 rintro ys σ H4 ⟨⟨v,rfl⟩,rfl,_,hD4,s4⟩
 rw[Qa,QF (by omega)]at hD4
 have lnl:(lnI R).length=R.length:=Qa ..
 have hmem:∀n∈lnI R,0≤n∧n≤(room:Int):=fun n hn=>by
  obtain⟨d,hd,rfl⟩:=Q1.mp hn
  have:=hle d hd
  omega
 have s04:ZH H H4:=((s1.trans s2).trans s3).trans s4
 refine⟨_,rfl,_,rfl,_,rfl,D,_,rfl,SqL.of hD4,fun sl hsl=>?_⟩
 rw[Zc3,← List.map_dropLast]
 have s5:=Zf hsl (.lst ((lnI R).dropLast.map V.int))
 have f5:(upd H4 sl (.lst ((lnI R).dropLast.map V.int))) sl=some (.lst ((lnI R).dropLast.map V.int)):=Zc
 generalize upd H4 sl (.lst ((lnI R).dropLast.map V.int))=H5 at s5 f5 ⊢
 refine⟨sl,rfl,⟨_,SqL.of f5⟩,fun D2 hD2=>?_⟩
 refine Zbp (K:=K) (a:=sl) (xs:=(lnI R).dropLast.map V.int) (fun j ys σ H6=>(∃v:Option V,σ=[some (.ref a),some (.int room),some (.ref fa),some (.ref D),v])∧ys=(List.replicate j true).map V.bl∧j≤R.length∧H6 D2=some (.lst ys)∧ZH H5 H6) ⟨⟨_,rfl⟩,rfl,Qx _,Zc,Zf hD2 _⟩ (fun _ _ _ _ h=>SqL.of (h.2.2.2.2 _ _ f5)) ?_ ?_
 ·rintro j x ys σ H6 hx ⟨⟨v',rfl⟩,rfl,_,hD6,s6⟩
  have hjl:j<R.length-1:=by have:=(Qp.mp hx).1;rw[Qa,List.length_dropLast,lnl]at this;exact this
  obtain⟨d,hd⟩:∃d,R[j]? = some d:=⟨_,Qd (by omega)⟩
  have ex:x=.int ((d.length:Nat):Int):=by
   rw[Qn,Qau,if_pos (by omega)]at hx
   unfold lnI at hx
   rw[Qn,hd]at hx
   exact(QC hx).symm
  have hdd:d∈R.dropLast:=QG (i:=j) (by rw[Qau,if_pos (by omega)];exact hd)
  have e1:=hlen d hdd
  have e2:=hle d (QG hd)
  have e3:d.length=room:=by omega
  rw[ex,e3]
  refine⟨_,rfl,_,rfl,rfl,hD6,(by rw[Qa,Qaw];exact Zm (by omega)),⟨_,rfl⟩,?_,by omega,Zc,fun b o hb=>?_⟩
  ·rw[List.replicate_succ',Qg]
   show _++[V.bl (decide (V.int (room:Int)=V.int (room:Int)))]=_
   rw[decide_eq_true rfl];rfl
  ·rw[Ze (Zb hb hD2)];exact s6 b o hb
 rintro ys σ H6 ⟨⟨v',rfl⟩,rfl,_,hD6,s6⟩
 refine⟨D2,List.replicate _ true,rfl,SqL.of hD6,?_⟩
 rw[show (List.replicate ((lnI R).dropLast.map V.int).length true).all id=true by simp]
 have s46:=s5.trans s6
 have hD6':=s46 _ _ hD4
 refine⟨_,rfl,ZgP ?_⟩
 have s26:=(s3.trans s4).trans s46
 have es:(lnI R).sum=(((ss'.reverse.map V.str).length:Nat):Int):=by
  unfold lnI
  rw[Zd8,hfl,Qa,QaK]
 refine⟨_,rfl,D,lnI R,rfl,SqL.of hD6',by omega,(fun n hn=>by have:=hmem n hn;omega),_,rfl,fa,_,rfl,.inl (SqL.of (s26 _ _ f2)),rfl,_,rfl,?_⟩
 rw[decide_eq_true (by rw[es])]
 refine ZgP ⟨_,rfl,(by show 1≤sizeLine;decide),fun l0 hl0=>?_⟩
 have s7:=Zf hl0 (.lst [.int 0])
 have f7:(upd H6 l0 (.lst [.int 0])) l0=some (.lst [.int 0]):=Zc
 generalize upd H6 l0 (.lst [.int 0])=H7 at s7 f7 ⊢
 refine⟨D,l0,_,_,rfl,rfl,s7 _ _ hD6',f7,(by rw[Qa,lnl,Qo,sizeLine_eq];omega),fun c hc=>?_⟩
 have ec:(lnI R).map V.int++[V.int 0]=(lnI R++[0]).map V.int:=by rw[Qg];rfl
 rw[ec]
 have s8:=Zf hc (.lst ((lnI R++[0]).map V.int))
 have f8:(upd H7 c (.lst ((lnI R++[0]).map V.int))) c=some (.lst ((lnI R++[0]).map V.int)):=Zc
 generalize upd H7 c (.lst ((lnI R++[0]).map V.int))=H8 at s8 f8 ⊢
 refine⟨c,lnI R++[0],rfl,SqL.of f8,by simp,fun M hM hle=>?_⟩
 have hMr:M≤(room:Int):=by
  rcases Qf.mp hM with hM|hM
  ·exact(hmem M hM).2
  ·rw[Qe.mp hM];omega
 refine⟨_,rfl,_,_,rfl,rfl,?_⟩
 have:Q (.bl (decide (M≤(room:Int)))) H8:=by rw[decide_eq_true hMr];exact q H8 (((s04.trans s46).trans s7).trans s8)
 exact this
theorem Zfh(l:List Str):(if true=true then !PyData.eqv (.list (l.map PyData.str)) (.list []) else PyData.eqv (.list (l.map PyData.str)) (.list [])) = !l.isEmpty:=by
 cases l with
 | nil=>ac_rfl
 | cons t r=>simp[PyData.eqv,PyData.eqvAll]
theorem ZbK(R:List (List Int)):PyData.eqv (.list (R.map fun d=>PyData.list (d.map PyData.int))) (.list (R.map fun d=>PyData.list (d.map PyData.int)))=true:=by
 have:=(Zc6 R R).mpr rfl
 simpa [PyData.eqv] using this
theorem Zhq(ss:List Str)(d:Nat):Zcc (ss.map V.str) none (some (d:Int))=(ss.take d).map V.str:=by
 unfold Zcc
 rw[HT.sIx_nat,Qa]
 show List.take (min d ss.length-0) (List.drop 0 (ss.map V.str))=_
 rw[List.drop_zero,Nat.sub_zero,List.map_take]
 rcases Nat.le_total d ss.length with h|h
 ·rw[Nat.min_eq_left h]
 ·rw[Nat.min_eq_right h,QF (by rw[Qa];exact Qj _),QF (by rw[Qa];exact h)]
def Zfi(K:PySem.W.Frag):Sp:=fun vs H Q _=>∃ (a:Addr) (ns:List Int),vs=[.ref a]∧SqL K H a (ns.map V.int)∧ns.length≤63∧∀H',Q (.bl true) H'
theorem Zie{f:Addr}{fd:FuncData}(F:Fun K "law" "law" Za7 f fd)(T:Zba K mg):Zcf P w K mg base CX0 8 f fd ["_law_script"] (Zfi K):=by
 have f_l_mix:Df P w K mg base 1 "_law_mix" ["_law_cell", "_law_k"] ZgY:=ZiD T
 have f_l_left:Df P w K mg base 1 "_law_left" ["_law_script", "_law_k"] (Zgu K):=Zha T
 have f_l_pick:Df P w K mg base 2 "_law_pick" ["_law_left_here", "_law_many"] Zb3:=Zhg T f_l_mix
 have f_l_stems:Df P w K mg base 3 "_law_stems" ["_law_left_here"] Zdw:=Zgq T f_l_pick
 have f_l_key:Df P w K mg base 3 "_law_key" ["_law_left_here", "_law_stems_here"] Zf0:=ZiI T f_l_pick
 have f_l_things:Df P w K mg base 4 "_law_things" ["_law_left_here"] Zej:=ZfB T f_l_pick f_l_stems f_l_key
 have f_l_room:Df P w K mg base 3 "_law_room" ["_law_left_here"] ZgR:=Zhi T f_l_pick
 have f_liken:Df P w K mg base 3 "liken" ["one", "other"] Zch:=Zgf T (ZgN T (ZcS T)) (Zge T)
 have f_run_behind:Df P w K mg base 4 "run_behind" ["run", "key", "comer"] ZcO:=Zfx T f_liken
 have f_runs_of:Df P w K mg base 5 "runs_of" ["things", "room"] (ZdO K):=ZhS T f_run_behind
 have f_stretches:Df P w K mg base 4 "stretches" ["things"] (Zh0 K):=ZdT T f_liken
 have f_l_in_order:Df P w K mg base 1 "_law_in_order" ["_law_things_here"] (Zdj K):=Zeh T
 have f_l_lengths_right:Df P w K mg base 6 "_law_lengths_right" ["_law_things_here", "_law_room_here"] (ZdQ K):=ZhN T f_runs_of
 have f_l_falling_right:Df P w K mg base 6 "_law_falling_right" ["_law_things_here", "_law_room_here"] (ZdQ K):=Zg9 T f_runs_of
 refine F.ok ZcI (fun vs H Q E h=>?_) (fun cdv A outer s H vs Q E hr h=>?_)
 ·obtain⟨a,ns,rfl,_⟩:=h
  rfl
 obtain⟨a,ns,rfl,hS,h63,q⟩:=h
 refine⟨_,#[Zi,#[Zdx,PassesOwn.never,#[ZaW,T.b.n_range,#[Za,#[ZD,Zak,#[Zh],#[Zj,(Zdb rfl),(by rfl),T.b.n_min,boot_min,#[Za,#[Zh],#[Za,#[Zj,(ZbF K),(by rfl),T.b.n_len,QB,#[Za,‹0›,#[Zd]]],#[Zd]]]]],#[Zd]]],#[Zay,1,ZcI.nd],#[Zi,#[ZL,2,ZcI.nd,(Or.inl rfl),#[Zx,f_l_left,hr,#[Za,‹0›,#[Za,‹1›,#[Zd]]],(by rfl)]],#[Zi,(@ZiE _ _ 3 4 _ _ _ _ _ _ _ _ _ _ _ rfl ZcI.nd rfl rfl (by decide) rfl rfl #[Za,#[Zx,f_l_things,hr,#[Za,‹2›,#[Zd]],(by rfl)],#[Za,#[Zx,f_l_room,hr,#[Za,‹2›,#[Zd]],(by rfl)],#[Zd]]] rfl (by rfl)),#[Zi,#[ZaC,(@PW.pt _ _ _ (@ZgK _ _ _ _ _ _ _ (@ZgW _ _ _ _ (@ZgO _ _ _ #[Zx,f_l_lengths_right,hr,#[Za,‹3›,#[Za,‹4›,#[Zd]]],(by rfl)] (by intro _;rfl))) (@ZeE _ _ _ _ (@ZgW _ _ _ _ (@ZgO _ _ _ #[Zx,f_l_falling_right,hr,#[Za,‹3›,#[Za,‹4›,#[Zd]]],(by rfl)] (by intro _;rfl)))))),#[Zk,#[Zu,(@ZdZ _ _ _ _)]],(@ZY _)],(@Zhs _ _ _ _ _ #[ZaC,(@PW.pt _ _ _ #[Zbw,#[Zn,#[neD,K,hr],‹3›,#[Z4,#[Zd]],(Zq _)],(@Zbn _ _ _ _ #[Zn,#[neD,K,hr],#[Zx,f_runs_of,hr,#[Za,#[Zj,(ZgF K),(by rfl),T.b.n_sorted,boot_sorted,#[Za,‹3›,#[Zd]]],#[Za,‹4›,#[Zd]]],(by rfl)],#[Z4,#[Za,#[ZaU,Zh5,T.b.n_list,boot_list,#[Za,#[ZaU,ZiZ,T.b.n_range,boot_range,#[Za,#[Zj,(ZbF K),(by rfl),T.b.n_len,QB,#[Za,‹3›,#[Zd]]],#[Zd]]],#[Zd]]],#[Zd]]],(Zq _)])]),#[Zk,#[Zu,(@ZdZ _ _ _ _)]],(@ZY _)] #[Zi,#[ZL,5,ZcI.nd,(Or.inl rfl),#[Zbf,(slL K),‹3›,(@Zax _),(@Za8 _ _ _ #[ZD,Zak,#[Zh],#[Zx,f_l_pick,hr,#[Za,‹2›,#[Za,#[Zh],#[Zd]]],(by rfl)]])]],#[Zk,#[ZaC,(@PW.pt _ _ _ (@ZgK _ _ _ _ _ _ _ (@PW.pt _ _ _ #[Zbw,#[Zn,#[neD,K,hr],‹5›,#[Z4,#[Zd]],(Zq _)],(@Zbn _ _ _ _ #[Zn,#[neD,K,hr],#[Zx,f_runs_of,hr,#[Za,‹5›,#[Za,#[Zh],#[Zd]]],(by rfl)],#[Z4,#[Za,#[Zx,f_l_in_order,hr,#[Za,‹5›,#[Zd]],(by rfl)],#[Zd]]],(Zq _)])]) (@ZeE _ _ _ _ #[Zn,#[neD,K,hr],#[Zx,f_runs_of,hr,#[Za,‹3›,#[Za,#[Zh],#[Zd]]],(by rfl)],#[Zx,f_stretches,hr,#[Za,‹3›,#[Zd]],(by rfl)],(Zq _)]))),#[Zk,#[Zu,(@ZdZ _ _ _ _)]],(@ZY _)]]])]]]],#[Zk,#[Zu,(@ZdZ _ _ _ _)]]],?_⟩
 have hlen:(((ns.map V.int).length:Nat):Int)=(ns.length:Int):=by rw[Qa]
 refine⟨_,rfl,a,_,rfl,.inl hS,_,_,rfl,_,_,rfl,rfl,_,rfl,?_,?_,?_⟩
 ·split<;>omega
 ·split<;>omega
 refine Zdg (fun i σ H2=>∃v1 v2 v3 v4 v5:Option V,σ=[some (.ref a),v1,v2,v3,v4,v5]∧ZH H H2) ⟨_,_,_,_,_,rfl,ZH.refl H⟩ ?_ ?_
 ·rintro i σ H2 hi ⟨v1,v2,v3,v4,v5,rfl,s2⟩
  have hi9:(i:Int)<100:=by
   have:(i:Int)<(1+(if (((ns.map V.int).length:Nat):Int)<8 then (((ns.map V.int).length:Nat):Int) else 8)).toNat:=by omega
   split at this<;>omega
  refine⟨_,rfl,_,rfl,a,ns,_,rfl,s2.seq hS,h63,by omega,by omega,fun p H3 hp L3 s3=>?_⟩
  have nHp:H p=none:=s2.free hp
  have keep:∀ {H5 H6:Hp},ZH H H5→But p H5 H6→ZH H H6:=fun {H5 H6} s b x o e=>b x o (s x o e) (Zb e nHp)
  refine⟨_,rfl,p,0,rfl,L3,by omega,fun t ss c5 H5 ht0 ht5 hn h28 L5 a1 a2 B5=>?_⟩
  have s5:=keep (s2.trans s3) B5
  have h1000:∀s∈ss,s.length≤1000:=fun s hs=>by have:=(h28 s hs).1;omega
  have haz:∀s∈ss,AZ s:=fun s hs=>(h28 s hs).2
  have npt:t≠p:=by obtain⟨o,ho⟩:=L3.here;exact(Zb ho ht0).symm
  refine⟨_,rfl,p,c5,rfl,L5,by omega,fun rv c6 H6 rv1 rv2 L6 a3 a4 B6=>⟨_,_,rfl,?_⟩⟩
  have ht6:=B6 _ _ ht5 npt
  have s6:=keep s5 B6
  obtain⟨room,rfl⟩:∃room:Nat,rv=room:=⟨rv.toNat,by omega⟩
  refine⟨_,rfl,_,rfl,t,ss,room,rfl,ht6,hn,h1000,by omega,by omega,fun H7 s7=>⟨_,rfl,Zbt ?_⟩⟩
  refine⟨_,rfl,_,rfl,t,ss,room,rfl,s7 _ _ ht6,hn,h1000,by omega,by omega,fun H8 s8=>⟨_,rfl,Zbt ?_⟩⟩
  have s68:=s7.trans s8
  refine⟨fun σ H9=>σ=[some (.ref a),some (.int (0+(i:Int))),some (.ref p),some (.ref t),some (.int room),v5]∧ZH H6 H9,?_,?_⟩
  ·refine⟨_,rfl,(by show 0≤sizeLine;decide),fun e he=>?_⟩
   have se:=Zf he (.lst [])
   have fe:(upd H8 e (.lst [])) e=some (.lst []):=Zc
   generalize upd H8 e (.lst [])=H9 at se fe ⊢
   have s69:=s68.trans se
   refine⟨.list (ss.map PyData.str),.list [],.lst (SqL.of (s69 _ _ ht6)) (Zcj ss),.lst (SqL.of fe) .nil,Zbh ss haz,(by ac_rfl),_,rfl,?_⟩
   rw[Zfh]
   cases hE:ss.isEmpty with
   | true=>exact Zbt ⟨rfl,s69⟩
   | false =>
    have hne:ss≠[]:=fun z=>by rw[z]at hE;cases hE
    refine ZgP ⟨_,rfl,t,ss,rfl,SqL.of (s69 _ _ ht6),by omega,fun so ss2 hso pm srt=>?_⟩
    have l2:ss2.length=ss.length:=pm.length_eq
    have sA:=Zf hso (.lst (ss2.map V.str))
    have fA:(upd H9 so (.lst (ss2.map V.str))) so=some (.lst (ss2.map V.str)):=Zc
    generalize upd H9 so (.lst (ss2.map V.str))=HA at sA fA ⊢
    refine⟨_,rfl,so,ss2,room,rfl,SqL.of fA,by omega,(fun x hx=>h1000 x (pm.mem_iff.mp hx)),by omega,fun r ls R HB hr0 hr1 hrl hln hrd hres hRl hdl sB=>?_⟩
    have hss:=ZcE srt
    obtain⟨d,rfl,hdp,hdr⟩:=Zfl (by omega) (fun z=>hne (Qt (by rw[← l2,z];rfl))) hres (Zga (Zfc hss) hres (fun n hn=>Za1 hn) rfl rfl)
    obtain rfl:d=first ss2.length:=Ze0 hdr (ZfO hss) hdp
    have s6B:=(s69.trans sA).trans sB
    refine⟨_,rfl,t,_,rfl,.inl (SqL.of (s6B _ _ ht6)),_,rfl,fun rg hrg=>?_⟩
    have hls:(((ss.map V.str).length:Nat):Int)=(ss.length:Int):=by rw[Qa]
    have s5:=Zf hrg (.rng 0 (((ss.map V.str).length:Nat):Int))
    refine⟨rg,0,_,rfl,Zc,by omega,by omega,by rw[hls];omega,by rw[hls];omega,by rw[hls];omega,fun l hl'=>?_⟩
    have s6':=Zf hl' (.lst ((ZJ 0 ((((ss.map V.str).length:Nat):Int)-0).toNat).map V.int))
    have f6:(upd (upd HB rg (.rng 0 (((ss.map V.str).length:Nat):Int))) l (.lst ((ZJ 0 ((((ss.map V.str).length:Nat):Int)-0).toNat).map V.int))) l=some (.lst ((ZJ 0 ((((ss.map V.str).length:Nat):Int)-0).toNat).map V.int)):=Zc
    have sC:=s5.trans s6'
    generalize upd (upd HB rg (.rng 0 (((ss.map V.str).length:Nat):Int))) l (.lst ((ZJ 0 ((((ss.map V.str).length:Nat):Int)-0).toNat).map V.int))=HC at f6 sC ⊢
    rw[show ((((ss.map V.str).length:Nat):Int)-0).toNat=ss2.length by rw[hls];omega]at f6
    refine⟨(by show 1≤sizeLine;decide),fun l1 hl1=>?_⟩
    have sD:=Zf hl1 (.lst [.ref l])
    have fD:(upd HC l1 (.lst [.ref l])) l1=some (.lst [.ref l]):=Zc
    generalize upd HC l1 (.lst [.ref l])=HD at sD fD ⊢
    have hrdD:Rd HD ls [first ss2.length]:=Rd.mono (fun c _ o ho=>sD _ _ (sC _ _ ho)) hrd
    have hrd2:Rd HD [l] [first ss2.length]:=⟨sD _ _ f6,True.intro⟩
    refine⟨.list ([first ss2.length].map fun d=>PyData.list (d.map PyData.int)),.list ([first ss2.length].map fun d=>PyData.list (d.map PyData.int)),.lst (SqL.of (sD _ _ (sC _ _ hr1))) (Z8 hrdD),.lst (SqL.of fD) (Z8 hrd2),ZO _,ZO _,_,rfl,?_⟩
    rw[if_pos rfl,ZbK]
    exact Zbt ⟨rfl,s6B.trans (sC.trans sD)⟩
  rintro σ H9 ⟨rfl,s69⟩
  refine⟨_,rfl,_,rfl,p,c6,16,rfl,L6.same s69,by omega,by decide,by decide,fun k HA k0 k1 LA BA=>⟨_,_,rfl,rfl,_,rfl,?_⟩⟩
  have htA:=BA _ _ (s69 _ _ ht6) npt
  have s6A:ZH H HA:=keep (s6.trans s69) BA
  refine⟨t,_,rfl,SqL.of htA,fun fw hfw=>?_⟩
  obtain⟨k,rfl⟩:∃m:Nat,k=m:=⟨k.toNat,by omega⟩
  rw[show (1+(k:Int))=((k+1:Nat):Int) by omega,Zhq]
  have sB:=Zf hfw (.lst ((ss.take (k+1)).map V.str))
  have fB:(upd HA fw (.lst ((ss.take (k+1)).map V.str))) fw=some (.lst ((ss.take (k+1)).map V.str)):=Zc
  generalize upd HA fw (.lst ((ss.take (k+1)).map V.str))=HB at sB fB ⊢
  have hfl:(ss.take (k+1)).length≤16:=by rw[QA];omega
  have hfm:∀x∈ss.take (k+1),x∈ss:=fun x hx=>QaD hx
  generalize ss.take (k+1)=fs at fB hfl hfm
  refine⟨_,rfl,(by show 0≤sizeLine;decide),fun e he=>?_⟩
  have se:=Zf he (.lst [])
  have fe:(upd HB e (.lst [])) e=some (.lst []):=Zc
  generalize upd HB e (.lst [])=HC at se fe ⊢
  have sAC:=sB.trans se
  refine⟨.list (fs.map PyData.str),.list [],.lst (SqL.of (se _ _ fB)) (Zcj fs),.lst (SqL.of fe) .nil,Zbh fs (fun x hx=>haz x (hfm x hx)),(by ac_rfl),_,rfl,?_⟩
  rw[Zfh]
  cases hE:fs.isEmpty with
  | true =>
   refine Zbt ?_
   have T8:=sAC
   refine⟨_,rfl,t,ss,1,rfl,SqL.of (T8 _ _ htA),hn,h1000,by decide,fun r2 ls2 R2 HA hr20 hr2 hrl2 hln2 hrd2 hres2 hRl2 hdl2 sA=>?_⟩
   refine⟨_,rfl,t,ss,rfl,SqL.of ((T8.trans sA) _ _ htA),by omega,h1000,fun r3 ls3 HB hr30 hr3 hrl3 hln3 hrd3 sB=>?_⟩
   have eR:R2=Z0 (Zad ss) ss.length:=Zfm hres2 _ (Zbv ss)
   refine⟨.list (R2.map fun d=>PyData.list (d.map PyData.int)),.list (R2.map fun d=>PyData.list (d.map PyData.int)),.lst (SqL.of (sB _ _ hr2)) (Z8 (Rd.mono (fun c _ o ho=>sB _ _ ho) hrd2)),.lst (SqL.of hr3) (by rw[eR];exact Z8 hrd3),ZO _,ZO _,_,rfl,?_⟩
   rw[if_pos rfl,ZbK]
   exact Zbt ⟨_,_,_,_,_,rfl,(s6A.trans T8).trans (sA.trans sB)⟩
  | false =>
   have hne:fs≠[]:=fun z=>by rw[z]at hE;cases hE
   refine ZgP ⟨_,rfl,fw,fs,16,rfl,SqL.of (se _ _ fB),by omega,(fun x hx=>h1000 x (hfm x hx)),by decide,fun r ls R HD hr0 hr1 hrl hln hrd hres hRl hdl sD=>?_⟩
   have hmin:min 16 fs.length=fs.length:=by omega
   obtain⟨d,rfl,hdp,hdr⟩:=Zfl (room:=16) (by decide) hne hres (Zhz hres rfl (by rw[hmin];omega) rfl)
   have fD:=sD _ _ (se _ _ fB)
   refine⟨_,rfl,fw,fs,rfl,SqL.of fD,by omega,fun rr ns' HE hrr0 hrr hnl hnm hris hprm sE=>?_⟩
   obtain rfl:d=ns':=Ze0 hdr hris (hdp.trans hprm.symm)
   refine⟨(by show 1≤sizeLine;decide),fun l1 hl1=>?_⟩
   have sF:=Zf hl1 (.lst [.ref rr])
   have fF:(upd HE l1 (.lst [.ref rr])) l1=some (.lst [.ref rr]):=Zc
   generalize upd HE l1 (.lst [.ref rr])=HF at sF fF ⊢
   have hrdF:Rd HF ls [d]:=Rd.mono (fun c _ o ho=>sF _ _ (sE _ _ ho)) hrd
   have hrd2:Rd HF [rr] [d]:=⟨sF _ _ hrr,True.intro⟩
   refine⟨.list ([d].map fun d=>PyData.list (d.map PyData.int)),.list ([d].map fun d=>PyData.list (d.map PyData.int)),.lst (SqL.of (sF _ _ (sE _ _ hr1))) (Z8 hrdF),.lst (SqL.of fF) (Z8 hrd2),ZO _,ZO _,_,rfl,?_⟩
   rw[if_pos rfl,ZbK]
   refine Zbt ?_
   have T8:=sAC.trans (sD.trans (sE.trans sF))
   refine⟨_,rfl,t,ss,1,rfl,SqL.of (T8 _ _ htA),hn,h1000,by decide,fun r2 ls2 R2 HA hr20 hr2 hrl2 hln2 hrd2 hres2 hRl2 hdl2 sA=>?_⟩
   refine⟨_,rfl,t,ss,rfl,SqL.of ((T8.trans sA) _ _ htA),by omega,h1000,fun r3 ls3 HB hr30 hr3 hrl3 hln3 hrd3 sB=>?_⟩
   have eR:R2=Z0 (Zad ss) ss.length:=Zfm hres2 _ (Zbv ss)
   refine⟨.list (R2.map fun d=>PyData.list (d.map PyData.int)),.list (R2.map fun d=>PyData.list (d.map PyData.int)),.lst (SqL.of (sB _ _ hr2)) (Z8 (Rd.mono (fun c _ o ho=>sB _ _ ho) hrd2)),.lst (SqL.of hr3) (by rw[eR];exact Z8 hrd3),ZO _,ZO _,_,rfl,?_⟩
   rw[if_pos rfl,ZbK]
   exact Zbt ⟨_,_,_,_,_,rfl,(s6A.trans T8).trans (sA.trans sB)⟩
 ·rintro σ H2 ⟨v1,v2,v3,v4,v5,rfl,s2⟩
  exact q H2
end
theorem Z3{K:PySem.W.Frag}{h:Heap}{mg:Str→Option Value}{x:Str}{st:Stmt}{ps:List Str}{f:Addr}{od an:Option Addr}{sl:Array (Option Value)}{oc kV dc pm cd ct:Value}(X:K.In h)(G:h.Ns mainGlobals mg)
  (a:PySem.W.nsIn K mainGlobals x=some (some (.ref f))) (l:K.lookup f=some ⟨oc,od,.func (PySem.W.fnOf x x (Zr st) (Zo st) (Zg st) .none kV dc pm an cd ct),sl⟩) (c:PySem.W.codeIn K cd x=true) (k:PySem.W.keepIn K (.ref f)=true)
  (hb:∀ (kV doc pm:Value) (an:Option Addr) (cdv ct:Value) (us:List Value),us.length=ps.length→bindArgs (PySem.W.fnOf x x (Zr st) (Zo st) (Zg st) .none kV doc pm an cdv ct) ⟨us,[]⟩=pure (ps.zip us)):Top K mg x st ps :=
 ⟨_,_,ZeI (st:=st) l c k,PySem.W.mg_of X G a,(ZeI (st:=st) l c k).binds hb⟩
theorem Zjk{n:Nat}{us:List Value}(h:us.length=n+1):∃a r,us=a::r∧r.length=n:=by
 obtain⟨a,r,rfl⟩:=List.exists_cons_of_length_eq_add_one h
 exact⟨a,r,rfl,Nat.succ.inj h⟩
theorem ZfL(us:List Value)(h:us.length=1):∃a0,us=[a0]:=List.length_eq_one_iff.mp h
theorem ZcW(us:List Value)(h:us.length=2):∃a0 a1,us=[a0,a1]:=by
 obtain⟨a,r,rfl,g⟩:=Zjk h
 obtain⟨b0,rfl⟩:=ZfL r g
 exact⟨a,b0,rfl⟩
theorem Ziq(us:List Value)(h:us.length=3):∃a0 a1 a2,us=[a0,a1,a2]:=by
 obtain⟨a,r,rfl,g⟩:=Zjk h
 obtain⟨b0,b1,rfl⟩:=ZcW r g
 exact⟨a,b0,b1,rfl⟩
theorem all_mk{l:PySem.W.OpenLaw}{w:World}{K:PySem.W.Frag}{h:Heap}{mg:Str→Option Value}{fa:Addr}(X:K.In h)(G:h.Ns mainGlobals mg)(hfa:mg "law" = some (.ref fa))
  (a0:#[Xns,K,"alike",f0]) (l0:#[Xlk,K,f0,oc0,od0,"alike","alike",Zbi,kV0,dc0,pm0,an0,cd0,ct0,sl0]) (c0:#[Xci,K,cd0,"alike"]) (k0:#[Xki,K,f0])
  (a1:#[Xns,K,"liken",f1]) (l1:#[Xlk,K,f1,oc1,od1,"liken","liken",Zbj,kV1,dc1,pm1,an1,cd1,ct1,sl1]) (c1:#[Xci,K,cd1,"liken"]) (k1:#[Xki,K,f1])
  (a2:#[Xns,K,"alike_from",f2]) (l2:#[Xlk,K,f2,oc2,od2,"alike_from","alike_from",Zaa,kV2,dc2,pm2,an2,cd2,ct2,sl2]) (c2:#[Xci,K,cd2,"alike_from"]) (k2:#[Xki,K,f2])
  (a3:#[Xns,K,"order_at",f3]) (l3:#[Xlk,K,f3,oc3,od3,"order_at","order_at",Zat,kV3,dc3,pm3,an3,cd3,ct3,sl3]) (c3:#[Xci,K,cd3,"order_at"]) (k3:#[Xki,K,f3])
  (a4:#[Xns,K,"stretches",f4]) (l4:#[Xlk,K,f4,oc4,od4,"stretches","stretches",Zag,kV4,dc4,pm4,an4,cd4,ct4,sl4]) (c4:#[Xci,K,cd4,"stretches"]) (k4:#[Xki,K,f4])
  (a5:#[Xns,K,"runs_of",f5]) (l5:#[Xlk,K,f5,oc5,od5,"runs_of","runs_of",Zar,kV5,dc5,pm5,an5,cd5,ct5,sl5]) (c5:#[Xci,K,cd5,"runs_of"]) (k5:#[Xki,K,f5])
  (a6:#[Xns,K,"run_behind",f6]) (l6:#[Xlk,K,f6,oc6,od6,"run_behind","run_behind",Z9,kV6,dc6,pm6,an6,cd6,ct6,sl6]) (c6:#[Xci,K,cd6,"run_behind"]) (k6:#[Xki,K,f6])
  (a7:#[Xns,K,"_law_mix",f7]) (l7:#[Xlk,K,f7,oc7,od7,"_law_mix","_law_mix",Zbg,kV7,dc7,pm7,an7,cd7,ct7,sl7]) (c7:#[Xci,K,cd7,"_law_mix"]) (k7:#[Xki,K,f7])
  (a8:#[Xns,K,"_law_left",f8]) (l8:#[Xlk,K,f8,oc8,od8,"_law_left","_law_left",ZaX,kV8,dc8,pm8,an8,cd8,ct8,sl8]) (c8:#[Xci,K,cd8,"_law_left"]) (k8:#[Xki,K,f8])
  (a9:#[Xns,K,"_law_pick",f9]) (l9:#[Xlk,K,f9,oc9,od9,"_law_pick","_law_pick",ZaV,kV9,dc9,pm9,an9,cd9,ct9,sl9]) (c9:#[Xci,K,cd9,"_law_pick"]) (k9:#[Xki,K,f9])
  (a10:#[Xns,K,"_law_stems",f10]) (l10:#[Xlk,K,f10,oc10,od10,"_law_stems","_law_stems",Zal,kV10,dc10,pm10,an10,cd10,ct10,sl10]) (c10:#[Xci,K,cd10,"_law_stems"]) (k10:#[Xki,K,f10])
  (a11:#[Xns,K,"_law_key",f11]) (l11:#[Xlk,K,f11,oc11,od11,"_law_key","_law_key",ZaS,kV11,dc11,pm11,an11,cd11,ct11,sl11]) (c11:#[Xci,K,cd11,"_law_key"]) (k11:#[Xki,K,f11])
  (a12:#[Xns,K,"_law_things",f12]) (l12:#[Xlk,K,f12,oc12,od12,"_law_things","_law_things",Zav,kV12,dc12,pm12,an12,cd12,ct12,sl12]) (c12:#[Xci,K,cd12,"_law_things"]) (k12:#[Xki,K,f12])
  (a13:#[Xns,K,"_law_room",f13]) (l13:#[Xlk,K,f13,oc13,od13,"_law_room","_law_room",Za2,kV13,dc13,pm13,an13,cd13,ct13,sl13]) (c13:#[Xci,K,cd13,"_law_room"]) (k13:#[Xki,K,f13])
  (a14:#[Xns,K,"_law_in_order",f14]) (l14:#[Xlk,K,f14,oc14,od14,"_law_in_order","_law_in_order",ZP,kV14,dc14,pm14,an14,cd14,ct14,sl14]) (c14:#[Xci,K,cd14,"_law_in_order"]) (k14:#[Xki,K,f14])
  (a15:#[Xns,K,"_law_lengths_right",f15]) (l15:#[Xlk,K,f15,oc15,od15,"_law_lengths_right","_law_lengths_right",ZA,kV15,dc15,pm15,an15,cd15,ct15,sl15]) (c15:#[Xci,K,cd15,"_law_lengths_right"]) (k15:#[Xki,K,f15])
  (a16:#[Xns,K,"_law_falling_right",f16]) (l16:#[Xlk,K,f16,oc16,od16,"_law_falling_right","_law_falling_right",Zs,kV16,dc16,pm16,an16,cd16,ct16,sl16]) (c16:#[Xci,K,cd16,"_law_falling_right"]) (k16:#[Xki,K,f16])
  (a17:#[Xns,K,"law",f17]) (l17:#[Xlk,K,f17,oc17,od17,"law","law",Za7,kV17,dc17,pm17,an17,cd17,ct17,sl17]) (c17:#[Xci,K,cd17,"law"]) (k17:#[Xki,K,f17])
  (z0:PySem.W.nsIn K mainGlobals "abs" = some none) (z1:PySem.W.nsIn K mainGlobals "all" = some none) (z2:PySem.W.nsIn K mainGlobals "enumerate" = some none) (z3:PySem.W.nsIn K mainGlobals "int" = some none) (z4:PySem.W.nsIn K mainGlobals "len" = some none) (z5:PySem.W.nsIn K mainGlobals "list" = some none) (z6:PySem.W.nsIn K mainGlobals "max" = some none) (z7:PySem.W.nsIn K mainGlobals "min" = some none) (z8:PySem.W.nsIn K mainGlobals "range" = some none) (z9:PySem.W.nsIn K mainGlobals "set" = some none) (z10:PySem.W.nsIn K mainGlobals "sorted" = some none) (z11:PySem.W.nsIn K mainGlobals "sum" = some none) :
  ∃fd:FuncData,(∀ (s:Shared) (v:Value),BindsTo s fd ⟨[v],[]⟩ [("_law_script",v)])∧∀base:Heap,K.In base→base.Ns mainGlobals mg→Zcf l.prog w K mg base CX0 8 fa fd ["_law_script"] (Zfi K):=by
 have e:=hfa.symm.trans (PySem.W.mg_of X G a17)
 cases e
 have T:Zba K mg:=⟨⟨QN X G z0,QN X G z1,QN X G z2,QN X G z3,QN X G z4,QN X G z5,QN X G z6,QN X G z7,QN X G z8,QN X G z9,QN X G z10,QN X G z11⟩,Z3 X G a0 l0 c0 k0 (fun _ _ _ _ _ _ us hl=>by obtain⟨_,_,rfl⟩:=ZcW us hl;exact rfl),Z3 X G a1 l1 c1 k1 (fun _ _ _ _ _ _ us hl=>by obtain⟨_,_,rfl⟩:=ZcW us hl;exact rfl),Z3 X G a2 l2 c2 k2 (fun _ _ _ _ _ _ us hl=>by obtain⟨_,_,_,rfl⟩:=Ziq us hl;exact rfl),Z3 X G a3 l3 c3 k3 (fun _ _ _ _ _ _ us hl=>by obtain⟨_,_,_,rfl⟩:=Ziq us hl;exact rfl),Z3 X G a4 l4 c4 k4 (fun _ _ _ _ _ _ us hl=>by obtain⟨_,rfl⟩:=ZfL us hl;exact rfl),Z3 X G a5 l5 c5 k5 (fun _ _ _ _ _ _ us hl=>by obtain⟨_,_,rfl⟩:=ZcW us hl;exact rfl),Z3 X G a6 l6 c6 k6 (fun _ _ _ _ _ _ us hl=>by obtain⟨_,_,_,rfl⟩:=Ziq us hl;exact rfl),Z3 X G a7 l7 c7 k7 (fun _ _ _ _ _ _ us hl=>by obtain⟨_,_,rfl⟩:=ZcW us hl;exact rfl),Z3 X G a8 l8 c8 k8 (fun _ _ _ _ _ _ us hl=>by obtain⟨_,_,rfl⟩:=ZcW us hl;exact rfl),Z3 X G a9 l9 c9 k9 (fun _ _ _ _ _ _ us hl=>by obtain⟨_,_,rfl⟩:=ZcW us hl;exact rfl),Z3 X G a10 l10 c10 k10 (fun _ _ _ _ _ _ us hl=>by obtain⟨_,rfl⟩:=ZfL us hl;exact rfl),Z3 X G a11 l11 c11 k11 (fun _ _ _ _ _ _ us hl=>by obtain⟨_,_,rfl⟩:=ZcW us hl;exact rfl),Z3 X G a12 l12 c12 k12 (fun _ _ _ _ _ _ us hl=>by obtain⟨_,rfl⟩:=ZfL us hl;exact rfl),Z3 X G a13 l13 c13 k13 (fun _ _ _ _ _ _ us hl=>by obtain⟨_,rfl⟩:=ZfL us hl;exact rfl),Z3 X G a14 l14 c14 k14 (fun _ _ _ _ _ _ us hl=>by obtain⟨_,rfl⟩:=ZfL us hl;exact rfl),Z3 X G a15 l15 c15 k15 (fun _ _ _ _ _ _ us hl=>by obtain⟨_,_,rfl⟩:=ZcW us hl;exact rfl),Z3 X G a16 l16 c16 k16 (fun _ _ _ _ _ _ us hl=>by obtain⟨_,_,rfl⟩:=ZcW us hl;exact rfl)⟩
 exact⟨PySem.W.fnOf "law" "law" (Zr Za7) (Zo Za7) (Zg Za7) .none kV17 dc17 pm17 an17 cd17 ct17,fun s v=>.of_eq rfl,fun base _ _=>Zie (ZeI (st:=Za7) l17 c17 k17) T⟩
theorem walk{l:PySem.W.OpenLaw}{q:Program}{loose:List Str}{XP:(Str→Option Value)→Heap→Prop}{YP:World→Heap→Prop}{d:DefRec}{K:Params→PySem.W.Frag}(hn:l.most=some 63)(hdf:d.params.defaults=[])
  (hY:∀ (w:World) (h:Heap),YP w h→(K w.params).In h)
  (F:∀ (w:World) (mg:Str→Option Value) (fa:Addr) (h:Heap),(K w.params).In h→h.Ns mainGlobals mg→mg d.name=some (.ref fa) →
   ∃fd:FuncData,(∀ (s:Shared) (u:Value),BindsTo s fd ⟨[u],[]⟩ [("_law_script",u)])∧∀base:Heap,(K w.params).In base→base.Ns mainGlobals mg→Zcf l.prog w (K w.params) mg base CX0 8 fa fd ["_law_script"] (Zfi (K w.params))) :
  PySem.W.WalkO q loose XP YP l.row.toRowW d [] (fun f vs=>PySem.call f vs) :=
 L2.walk_of (n:=63) (k:=8) (x := "_law_script") (CX:=fun _=>CX0) (sp:=fun w=>Zfi (K w.params)) hn (by decide) hdf ⟨rfl,by decide,by decide,rfl⟩ hY F (fun _ _ a ns hl _ hS=>⟨a,ns,rfl,hS,hl,fun _=>rfl⟩) fun _ _ _ _ _ z=>z
end My
open PySem PySem.W PyProof.Rows
namespace PySem.W.Fast
def tw6826732326453713604:=0
def tw13769576977570394838:=0
def tw12200265728813527949:=0
def tw2732351990306795156:=0
def tw9294729735385345606:=0
def tw18132634475707360561:=0
def tw16105486597661979820:=0
def tw13135259745180866892:=0
def tw17801153300479601202:=0
def tw387225830995178481:=0
def tw11883388243994015141:=0
def tw3429520199046352592:=0
def tw1339803815489054562:=0
def tw12531554837713693985:=0
def tw14335625801960107420:=0
def tw2544825248461782498:=0
def tw17728860635984127561:=0
def tw7537471299952557582:=0
def tw5637657082543866597:=0
def tw54534127200237719:=0
def tw11743292195957656596:=0
def tw10391521619206725505:=0
def tw5216583783239357224:=0
def tw2072571632513586862:=0
def tw6988785938776840103:=0
def tw9938131999756507453:=0
def tw1057488620171296276:=0
def tw826378281001440578:=0
def tw14470593175142029028:=0
def tw17416392038146495538:=0
def tw17522423539551742580:=0
def tw6779624413372153292:=0
def tw6371594454076408289:=0
def tw16913478749653432595:=0
def tw18226991024055972723:=0
def tw13217491852617497661:=0
def tw4401911107684078698:=0
def tw6858453240954561054:=0
def tw13665658661351128105:=0
def tw9208983539548682739:=0
def tw15046447897341999399:=0
def tw6887777281062028903:=0
def tw18403097600649274224:=0
def tw2820709791433544873:=0
def tw16856500835436967854:=0
def tw14507721497751626148:=0
def tw13558966122853231226:=0
def tw15264514702500156644:=0
def tw8277498671569789783:=0
def tw17065181355796190969:=0
def tw15713827450245942354:=0
def tw12403130728147482561:=0
def tw16425205597976208997:=0
def tw265765568383866624:=0
def tw6100601011190391424:=0
def tw2829807920959007552:=0
def tw9937675979903817499:=0
def tw4082906312883560292:=0
def tw14866212207552765658:=0
def tw8979745666256021810:=0
def tw10692735620120323007:=0
def tw1771927384915387623:=0
def tw6555549586061698633:=0
def tw10447628693887070438:=0
def tw15469750106754248917:=0
def tw6511129289788047993:=0
def tw11193526059732036915:=0
def tw5075670912224070598:=0
def tw6308597817718741299:=0
def tw3556533166285296200:=0
def tw9446509257034010712:=0
def tw16723934326666880032:=0
def tw6535879792775682029:=0
def tw17052250816862555352:=0
def tw18074951464192235465:=0
def tw6837194816938069624:=0
def tw6978142466396798455:=0
def tw15978612659733846681:=0
def tw8616337966567083852:=0
def tw2103093055761477916:=0
def tw2004237560801747874:=0
def tw11614632101895905564:=0
def tw17596113949573335553:=0
def tw6518051468778318017:=0
def tw16473341031045689127:=0
def tw5309285119532767248:=0
def tw15502069771229093882:=0
def tw3238147732103878585:=0
def tw3797408756536562151:=0
def tw8505070710385926105:=0
def tw3969634922866197077:=0
def tw7970413046161389754:=0
def tw6848372725286697144:=0
def tw8255142144694171660:=0
def tw2012438207450275791:=0
def tw1606942323774070615:=0
def tw5959501330915793220:=0
def tw4551498929423621699:=0
def tw3761865299320133051:=0
def tw17588992496186956729:=0
def tw16658423243737363148:=0
def tw3547414666688887235:=0
def tw12525034103431067588:=0
def tw2707699649807273449:=0
def tw16525297253369184414:=0
def tw10755450020960806751:=0
def tw3720799370392173991:=0
def tw1973196516535282343:=0
def tw9181271978002844050:=0
def tw14129250555268506584:=0
def tw9690066978996406053:=0
end PySem.W.Fast
set_option maxRecDepth 100000 in
set_option maxHeartbeats 0 in
theorem PySem.Challenge.cw_mergetree_k32_how_long_runs_are_holds : PySem.Challenge.rw_mergetree_k32_how_long_runs_are.Holds := by
 w_on;o_law;k_head;(case hw=>w_witness2)
 k_fill
 refine My.walk (l:=PySem.Challenge.rw_mergetree_k32_how_long_runs_are) rfl rfl (fun w h Y=>PySem.W.kIn_of Y) ?F
 case F =>
  intro w mg fa h KX G hmg
  refine' My.all_mk KX G hmg ?a0 ?l0 ?c0 ?k0 ?a1 ?l1 ?c1 ?k1 ?a2 ?l2 ?c2 ?k2 ?a3 ?l3 ?c3 ?k3 ?a4 ?l4 ?c4 ?k4 ?a5 ?l5 ?c5 ?k5 ?a6 ?l6 ?c6 ?k6 ?a7 ?l7 ?c7 ?k7 ?a8 ?l8 ?c8 ?k8 ?a9 ?l9 ?c9 ?k9 ?a10 ?l10 ?c10 ?k10 ?a11 ?l11 ?c11 ?k11 ?a12 ?l12 ?c12 ?k12 ?a13 ?l13 ?c13 ?k13 ?a14 ?l14 ?c14 ?k14 ?a15 ?l15 ?c15 ?k15 ?a16 ?l16 ?c16 ?k16 ?a17 ?l17 ?c17 ?k17 ?z0 ?z1 ?z2 ?z3 ?z4 ?z5 ?z6 ?z7 ?z8 ?z9 ?z10 ?z11
  (case a0|l0|c0|k0=>k_is)
  (case a1|l1|c1|k1=>k_is)
  (case a2|l2|c2|k2=>k_is)
  (case a3|l3|c3|k3=>k_is)
  (case a4|l4|c4|k4=>k_is)
  (case a5|l5|c5|k5=>k_is)
  (case a6|l6|c6|k6=>k_is)
  (case a7|l7|c7|k7=>k_is)
  (case a8|l8|c8|k8=>k_is)
  (case a9|l9|c9|k9=>k_is)
  (case a10|l10|c10|k10=>k_is)
  (case a11|l11|c11|k11=>k_is)
  (case a12|l12|c12|k12=>k_is)
  (case a13|l13|c13|k13=>k_is)
  (case a14|l14|c14|k14=>k_is)
  (case a15|l15|c15|k15=>k_is)
  (case a16|l16|c16|k16=>k_is)
  (case a17|l17|c17|k17=>k_is)
  (case z0=>k_is)
  (case z1=>k_is)
  (case z2=>k_is)
  (case z3=>k_is)
  (case z4=>k_is)
  (case z5=>k_is)
  (case z6=>k_is)
  (case z7=>k_is)
  (case z8=>k_is)
  (case z9=>k_is)
  (case z10=>k_is)
  (case z11=>k_is)
