import PyProof.Rows.All
import Wide.All
import OpenK.AllK
import Wide.FinOn
import Lean
import PyProof.EqAt
import PyProof.EqKinds
import PyProof.TupleCall
import PyProof.AttrMissHeap
import KE.KEqDict
import KE.KItemsList
import PyProof.WalksMore
import PySem.Challenge.RW_mergetree_k60_whole_merges_walked
set_option maxHeartbeats 4000000
set_option maxRecDepth 100000
set_option Elab.async false
set_option linter.all false
abbrev Qa:=@List.length_map
abbrev Qb:=@List.getElem?_eq_getElem
abbrev Qc:=@PySem.Heap.get?_push_of_some
abbrev Qd:=@List.mem_map_of_mem
abbrev Qe:=@List.map_append
abbrev Qf:=@List.length_append
abbrev Qg:=@List.getElem?_eq_some_iff
abbrev Qh:=@Nat.le_refl
abbrev Qi:=@List.map_map
abbrev Qj:=@List.map_cons
abbrev Qk:=@Bool.false_ne_true
abbrev Ql:=@Option.some.inj
abbrev Qm:=@List.mem_append
abbrev Qn:=@List.mem_map
abbrev Qo:=@List.mem_singleton
abbrev Qp:=@List.getElem?_map
abbrev Qq:=@PySem.Heap.get?_push_size
abbrev Qr:=@PySem.Heap.lt_size
abbrev Qs:=@PySem.boot_len
abbrev Qt:=@List.length_singleton
abbrev Qu:=@List.take_of_length_le
abbrev Qv:=@List.mem_cons_of_mem
abbrev Qw:=@Nat.zero_le
abbrev Qx:=@List.mem_of_getElem?
abbrev Qy:=@Nat.le_trans
abbrev Qz:=@List.length_take
abbrev QA:=@List.map_congr_left
abbrev QB:=@List.mem_append_right
abbrev QC:=@Nat.lt_of_lt_of_le
abbrev QD:=@Nat.ne_of_lt
abbrev QE:=@List.size_toArray
abbrev QF:=@List.getD_eq_getElem?_getD
abbrev QG:=@PySem.W.mg_none_of
abbrev QH:=@List.take_add_one
abbrev QI:=@List.mem_cons
abbrev QJ:=@List.mem_append_left
abbrev QK:=@List.length_cons
abbrev QL:=@List.getElem?_eq_none
abbrev QM:=@List.getElem?_append_left
abbrev QN:=@List.getElem?_append_right
abbrev QO:=@PySem.F.plainAttrs_list
abbrev QP:=@Int.add_zero
abbrev QR:=@List.nodup_cons
abbrev QS:=@PySem.F.slot_list_append
abbrev QT:=@PySem.F.type_list_append
abbrev QU:=@PyProof.Rows.callWith_type1
abbrev QV:=@PySem.F.plainAttrs_dict
abbrev QW:=@List.mem_of_mem_take
abbrev QX:=@PySem.W.kia_one
abbrev QY:=@PySem.W.kia_tup
abbrev QZ:=@List.length_drop
abbrev Q0:=@List.filterMap_cons
abbrev Q1:=@Bool.and_eq_true
abbrev Q2:=@List.getElem_mem
abbrev Q3:=@Nat.ne_of_gt
abbrev Q4:=@PySem.Heap.size_push
abbrev Q5:=@List.find?_cons
abbrev Q6:=@List.getElem?_eq_none_iff
abbrev Q7:=@List.length_filter_le
abbrev Q8:=@Nat.add_sub_cancel
abbrev Q9:=@Nat.lt_irrefl
abbrev Qaa:=@List.mem_of_mem_drop
abbrev Qab:=@Bool.eq_false_iff
abbrev Qac:=@List.mem_filter
abbrev Qad:=@PySem.mem_of_lookup
abbrev Qae:=@Nat.add_lt_add_left
abbrev Qaf:=@List.filter_sublist
abbrev Qag:=@PySem.Heap.get?_update_of_ne
abbrev Qah:=@List.mem_range
abbrev Qai:=@List.mem_cons_self
abbrev Qaj:=@List.getElem?_toArray
abbrev Qak:=@List.mem_of_find?_eq_some
abbrev Qal:=@List.getLastD_eq_getLast?
abbrev Qam:=@Nat.le_of_lt
abbrev Qan:=@Array.length_toList
abbrev Qao:=@Nat.lt_add_of_pos_right
abbrev Qap:=@PySem.F.slot_dict_items
abbrev Qaq:=@List.any_eq_true
abbrev Qar:=@List.find?_cons_of_neg
abbrev Qas:=@Nat.min_eq_left
abbrev Qat:=@List.filter_map
abbrev Qau:=@List.sum_cons
abbrev Qav:=@List.length_replicate
abbrev Qaw:=@List.filterMap_append
abbrev Qax:=@PySem.F.slot_dict_pop
abbrev Qay:=@List.mem_iff_getElem?
abbrev Qaz:=@List.cons_lt_cons_iff
abbrev QaA:=@List.reverse_cons
abbrev QaB:=@List.lookup_cons
abbrev QaC:=@Nat.le_add_right
abbrev QaD:=@PySem.evalArgs_none
abbrev QaE:=@List.length_reverse
abbrev QaF:=@List.any_cons
abbrev QaG:=@List.getLast?_eq_getLast
abbrev QaH:=@Bool.eq_iff_iff
abbrev QaI:=@List.append_nil
abbrev QaJ:=@List.range_succ
abbrev QaK:=@Int.emod_lt_of_pos
abbrev QaL:=@PySem.Str.length_append
abbrev QaM:=@PySem.W.kitx_list
abbrev QaN:=@PySem.W.kitx_dict
abbrev QaO:=@Int.toNat_natCast
abbrev QaP:=@List.map_nil
abbrev QaQ:=@Option.map_eq_some_iff
abbrev QaR:=@List.append_assoc
abbrev QaS:=@List.Pairwise.map
abbrev QaT:=@Nat.pow_succ
abbrev QaU:=@Nat.sub_self
abbrev QaV:=@List.nodup_append
abbrev QaW:=@List.length_eq_one_iff
abbrev QaX:=@List.length_pos_of_mem
abbrev Qa1:=@List.all_eq_true
abbrev Qa2:=@List.Sublist.map
abbrev Qa3:=@PySem.W.mg_of
abbrev Qa4:=@Nat.le_succ
namespace L2
open PySem PySem.Spec PyProof.Rows
abbrev Key:=Sum Int Str
def ZgA:Key→Value→Bool
 | .inl k,v=>Value.isInt k v
 | .inr x,v=>Value.isStrOf x v
def Zsx(w:World):Key→Int
 | .inl k=>hashInt k
 | .inr x=>hashStr w x
theorem ZaA:∀ {k:Key} {v:Value},ZgA k v=true→(∃i t,k=Sum.inl i∧v=Value.int i t)∨(∃x t,k=Sum.inr x∧v=Value.str x t)
 | .inl i,v,h=>by
  obtain⟨t,e⟩:=Value.isInt_shape (k:=i) (v:=v) h
  exact .inl ⟨i,t,rfl,e⟩
 | .inr x,v,h=>by
  obtain⟨t,e⟩:=Value.isStrOf_shape (x:=x) (v:=v) h
  exact .inr ⟨x,t,rfl,e⟩
theorem ZlQ(i:Int)(t:Tok):ZgA (.inl i) (.int i t)=true:=by simp[ZgA,Value.isInt]
theorem ZlC(x:Str)(t:Tok):ZgA (.inr x) (.str x t)=true:=by simp[ZgA,Value.isStrOf]
theorem Zqq(a b:Int):decide ((Sum.inl a:Key)=Sum.inl b)=(a == b):=by
 by_cases e:a=b
 ·subst e;simp
 ·have h:¬ (Sum.inl a:Key)=Sum.inl b:=fun q=>e (Sum.inl.inj q)
  rw[decide_eq_false h]
  exact(beq_eq_false_iff_ne.mpr e).symm
theorem Zp4(a b:Str):decide ((Sum.inr a:Key)=Sum.inr b)=decide (a=b):=by
 by_cases e:a=b
 ·subst e;simp
 ·have h:¬ (Sum.inr a:Key)=Sum.inr b:=fun q=>e (Sum.inr.inj q)
  rw[decide_eq_false h,decide_eq_false e]
theorem Zp7(a:Int)(b:Str):decide ((Sum.inl a:Key)=Sum.inr b)=false:=decide_eq_false (fun q=>nomatch q)
theorem Zqd(a:Str)(b:Int):decide ((Sum.inr a:Key)=Sum.inl b)=false:=decide_eq_false (fun q=>nomatch q)
def ZM(prog:Program)(w:World):PySem.KeyKind prog w Key where
 is:=ZgA
 hash:=Zsx w
 inj:=fun v a b ha hb=>by
  rcases ZaA ha with⟨i,t,rfl,rfl⟩|⟨x,t,rfl,rfl⟩
  ·rcases ZaA hb with⟨j,u,rfl,e⟩|⟨y,u,rfl,e⟩
   ·injection e with e1 _;rw[e1]
   ·exact nomatch e
  ·rcases ZaA hb with⟨j,u,rfl,e⟩|⟨y,u,rfl,e⟩
   ·exact nomatch e
   ·injection e with e1 _;rw[e1]
 byValue:=fun k v h=>by
  rcases ZaA h with⟨i,t,rfl,rfl⟩|⟨x,t,rfl,rfl⟩<;>rfl
 pyHash:=fun hv h=>by
  rcases ZaA hv with⟨i,t,rfl,rfl⟩|⟨x,t,rfl,rfl⟩
  ·exact wpAny_pyHash_int h
  ·exact wpAny_pyHash_str h
 eqBool:=fun hu hv h=>by
  rcases ZaA hu with⟨i,t,rfl,rfl⟩|⟨x,t,rfl,rfl⟩
  ·rcases ZaA hv with⟨j,u,rfl,rfl⟩|⟨y,u,rfl,rfl⟩
   ·rw[Zqq]at h;exact wpAny_eqBool_int h
   ·rw[Zp7]at h;exact SeqAt.EqAt.int_str i t y u _ _ _ _ h
  ·rcases ZaA hv with⟨j,u,rfl,rfl⟩|⟨y,u,rfl,rfl⟩
   ·rw[Zqd]at h;exact SeqAt.EqAt.str_int x t j u _ _ _ _ h
   ·rw[Zp4]at h;exact wpAny_eqBool_str h
 «strs»:=fun k x t v h=>by
  rcases ZaA h with⟨i,u,rfl,e⟩|⟨y,u,rfl,e⟩
  ·exact nomatch e
  ·injection e with e1 _
   subst e1
   cases v<;>rfl
theorem Zkn(prog:Program)(w:World)(k:Key)(v:Value):(ZM prog w).is k v=ZgA k v:=rfl
theorem Zjv(prog:Program)(w:World)(i:Int)(t:Tok):(ZM prog w).is (.inl i) (.int i t)=true:=ZlQ i t
theorem ZjU(prog:Program)(w:World)(x:Str)(t:Tok):(ZM prog w).is (.inr x) (.str x t)=true:=ZlC x t
inductive V where
 | non|bl (b:Bool)|int (i:Int)|str (x:Str)|byt (b:Array UInt8)|flt (b:UInt64)|ref (a:Addr)|ty (n:String)
 deriving DecidableEq
def ZI:V→Value→Prop
 | .non,u=>u=Value.none
 | .bl b,u=>u=Value.bool b
 | .int i,u=>∃t,u=Value.int i t
 | .str x,u=>∃t,u=Value.str x t
 | .byt b,u=>∃t,u=Value.bytes b t
 | .flt b,u=>∃t,u=Value.float b t
 | .ref a,u=>u=Value.ref a
 | .ty n,u=>u=Value.type n
abbrev ZH:List V→List Value→Prop:=Paired ZI
theorem ZH.length{xs:List V}{us:List Value}(r:ZH xs us):xs.length=us.length:=Paired.length r
theorem ZH.get:∀ {xs:List V} {us:List Value} {i:Nat} {x:V},ZH xs us→xs[i]? = some x→∃u,us[i]? = some u∧ZI x u
 | _,_,_,_,.nil,e=>by simp at e
 | _,_,0,_,.cons r _,e=>by simp at e;subst e;exact⟨_,rfl,r⟩
 | _,_,i+1,x,.cons _ t,e=>by
  obtain⟨u,h1,h2⟩:=ZH.get (i:=i) (x:=x) t (by simpa using e)
  exact⟨u,by simpa using h1,h2⟩
theorem ZH.set{x:V}{u:Value}(r:ZI x u):∀ {xs:List V} {us:List Value} (i:Nat),ZH xs us→ZH (xs.set i x) (us.set i u)
 | _,_,_,.nil=>.nil
 | _,_,0,.cons _ t=>.cons r t
 | _,_,i+1,.cons q t=>.cons q (ZH.set r i t)
theorem ZH.append:∀ {xs ys:List V} {us ws:List Value},ZH xs us→ZH ys ws→ZH (xs++ys) (us++ws)
 | _,_,_,_,.nil,s=>s
 | _,_,_,_,.cons r t,s=>.cons r (ZH.append t s)
theorem ZH.take:∀ {xs:List V} {us:List Value} (n:Nat),ZH xs us→ZH (xs.take n) (us.take n)
 | _,_,0,_=>.nil
 | _,_,_+1,.nil=>.nil
 | _,_,n+1,.cons r t=>.cons r (ZH.take n t)
theorem ZH.drop:∀ {xs:List V} {us:List Value} (n:Nat),ZH xs us→ZH (xs.drop n) (us.drop n)
 | _,_,0,r=>r
 | _,_,_+1,.nil=>.nil
 | _,_,n+1,.cons _ t=>ZH.drop n t
def Zdz:Option V→Option Value→Prop
 | some v,some u=>ZI v u
 | none,none=>True
 | _,_=>False
def KV{κ:Type}:List (κ×V)→List (κ×Value)→Prop:=Paired fun (p:κ×V) (q:κ×Value)=>p.1=q.1∧ZI p.2 q.2
def kV:Key→V
 | .inl i=>.int i
 | .inr x=>.str x
inductive HO where
 /-- a list -/
 | lst (xs:List V)
 /-- a tuple (never changes) -/
 | tup (xs:List V)
 /-- a dict whose keys are ints and texts;one whose keys are tuples of ints and texts (the empty one is both) -/
 | dK (kvs:List (Key×V))|dT (kvs:List (List Key×V))
 /-- a set of ints: its members,its size -/
 | set (S:Int→Bool) (n:Nat)
 /-- an instance of the class at C,its dict at dx,its attributes -/
 | ins (C dx:Addr) (fs:List (Str×V))
 /-- the dict of the instance at x -/
 | own (x:Addr)
 /-- the dict of an exception -/
 | xd (fs:List (Str×V))
 /-- a bound method,f of x -/
 | met (f x:Addr)
 /-- a range object lo,lo+1,.. below hi -/
 | rng (lo hi:Int)
 /-- a thing that is known to the object (the script;a dict while a loop walks it): read,never written while it is so -/
 | frz (o:Obj) (u:HO)
 /-- a code object's table -/
 | tbl (ps:Array Value)
 /-- any other thing,by what is true of its one object (a def of one's own: SetO a S n:=HO.ext fun h=>..) -/
 | ext (φ:Heap→Prop)
abbrev Hp:=Addr→Option HO
def upd(H:Hp)(a:Addr)(o:HO):Hp:=fun b=>if b=a then some o else H b
theorem Zd{H:Hp}{a:Addr}{o:HO}:upd H a o a=some o:=by unfold upd;rw[if_pos rfl]
theorem Zb{H:Hp}{a b:Addr}{o:HO}(h:b≠a):upd H a o b=H b:=by unfold upd;rw[if_neg h]
theorem ZoX{H:Hp}{a:Addr}{o u:HO}:upd (upd H a o) a u=upd H a u:=by
 funext b;unfold upd;split<;>rfl
theorem Zoa{H:Hp}{a b:Addr}{o u:HO}(h:H a=some o)(h':H b=some u)(d:o≠u):a≠b:=by
 intro e;subst e;rw[h]at h';exact d (Ql h')
theorem Zc{H:Hp}{a b:Addr}{o:HO}(h:H a=some o)(h':H b=none):a≠b:=by
 intro e;subst e;rw[h]at h';cases h'
section
variable (P:Program) (w:World)
def Z7(H:Hp)(h:Heap)(a:Addr):HO→Prop
 | .lst xs=>xs.length≤sizeLine∧∃ (its:List Value) (n:Nat),ZH xs its∧h.get? a=some { cls:=.type "list",data:=.seq its.toArray n }
 | .tup xs=>xs.length≤sizeLine∧∃its:List Value,ZH xs its∧IsTup h a its.toArray
 | .dK kvs=>kvs.length≤sizeLine∧(a == sysModules)=false∧∃vs,KV kvs vs∧h.DictOf (ZM P w) a vs
 | .dT kvs=>kvs.length≤sizeLine∧(a == sysModules)=false∧∃xs:List (List Key×Addr×Value),
   Paired (fun (p:List Key×V) (q:List Key×Addr×Value)=>p.1=q.1∧H q.2.1=some (.tup (p.1.map kV))∧ZI p.2 q.2.2) kvs xs ∧
   ∃o es ep,h.get? a=some o∧o.ExactDict∧o.data=.dict es ep∧es.toList=xs.map (entryOfKey (tupleKind (ZM P w)))∧(xs.map (·.1)).Nodup
 | .set S n=>h.SetOf (intKind P w) a S n
 | .ins C dx fs=>H dx=some (.own a)∧fs.length≤1000∧dx≠a∧h.get? a=some (PySem.W.instObj C dx) ∧
   ∃mA,h.Ns1 dx mA∧(∀f,Zdz (fs.lookup f) (mA f))∧PySem.Within mA (fs.map (·.1))
 | .own _=>∃o,h.get? a=some o
 | .xd fs=>∃mA,h.Ns1 a mA∧∀f,Zdz (fs.lookup f) (mA f)
 | .rng lo hi=>∃t u v,h.get? a=some { cls:=.type "range",data:=.fields #[.int lo t,.int hi u,.int 1 v] }
 | .frz o u=>h.get? a=some o∧Z7 H h a u
 | .tbl ps=>h.get? a=some { cls:=.none,data:=.fields ps }
 | .met f x=>h.get? a=some (PySem.W.methodObj (.ref f) (.ref x))
 | .ext φ=>φ h∧(∃o,h.get? a=some o)∧∀h1 h2:Heap,φ h1→(∀o,h1.get? a=some o→h2.get? a=some o)→φ h2
def HOk(H:Hp)(h:Heap):Prop:=∀a o,H a=some o→Z7 P w H h a o
end
section
variable {P:Program} {w:World} {H H':Hp} {h h':Heap} {a:Addr} {o:HO}
theorem Z7.lt(x:Z7 P w H h a o):a<h.objs.size:=by
 cases o with
 | lst xs=>obtain⟨_,_,_,_,e⟩:=x;exact Qr e
 | tup xs=>obtain⟨_,_,_,p⟩:=x;exact p.lt
 | dK kvs=>obtain⟨_,_,_,_,o,_,_,e,_⟩:=x;exact Qr e
 | dT kvs=>obtain⟨_,_,_,_,o,_,_,e,_⟩:=x;exact Qr e
 | set S n=>obtain⟨o,_,_,_,e,_⟩:=x;exact Qr e
 | ins C dx fs=>obtain⟨_,_,_,e,_⟩:=x;exact Qr e
 | own y=>obtain⟨_,e⟩:=x;exact Qr e
 | xd fs=>obtain⟨_,⟨_,_,_,e,_⟩,_⟩:=x;exact Qr e
 | rng lo hi=>obtain⟨_,_,_,e⟩:=x;exact Qr e
 | frz ob u=>obtain⟨e,_⟩:=x;exact Qr e
 | tbl ps=>exact Qr (show h.get? a=some _ from x)
 | met f y=>exact Qr (show h.get? a=some _ from x)
 | ext φ=>obtain⟨_,⟨_,e⟩,_⟩:=x;exact Qr e
theorem Paired.mapP{α β:Type}{F G:α→β→Prop}:∀ {l₁:List α} {l₂:List β},Paired F l₁ l₂→(∀a b,F a b→G a b)→Paired G l₁ l₂
 | _,_,.nil,_=>.nil
 | _,_,.cons r t,f=>.cons (f _ _ r) (Paired.mapP t f)
theorem Z7.stay(x:Z7 P w H h a o)(k:∀b u,(b=a∨H b=some (.own a))→h.get? b=some u→h'.get? b=some u)
  (ho:∀b,H b=some (.own a)→H' b=some (.own a)) (ht:∀b xs,H b=some (.tup xs)→H' b=some (.tup xs)):Z7 P w H' h' a o:=by
 induction o with
 | lst xs=>obtain⟨z,its,n,r,e⟩:=x;exact⟨z,its,n,r,k _ _ (.inl rfl) e⟩
 | tup xs=>obtain⟨z,its,r,ob,e,c⟩:=x;exact⟨z,its,r,ob,k _ _ (.inl rfl) e,c⟩
 | dK kvs=>obtain⟨z,y,vs,r,ob,es,ep,e,c⟩:=x;exact⟨z,y,vs,r,ob,es,ep,k _ _ (.inl rfl) e,c⟩
 | dT kvs =>
  obtain⟨z,y,xs,r,ob,es,ep,e,c⟩:=x
  exact⟨z,y,xs,Paired.mapP r fun p q z=>⟨z.1,ht _ _ z.2.1,z.2.2⟩,ob,es,ep,k _ _ (.inl rfl) e,c⟩
 | set S n=>obtain⟨ob,es,ep,t,e,c⟩:=x;exact⟨ob,es,ep,t,k _ _ (.inl rfl) e,c⟩
 | ins C dx fs =>
  obtain⟨d,z,ne,e,mA,⟨od,es,ep,e2,c⟩,r⟩:=x
  exact⟨ho _ d,z,ne,k _ _ (.inl rfl) e,mA,⟨od,es,ep,k _ _ (.inr d) e2,c⟩,r⟩
 | own y=>obtain⟨ob,e⟩:=x;exact⟨ob,k _ _ (.inl rfl) e⟩
 | xd fs=>obtain⟨mA,⟨od,es,ep,e,c⟩,r⟩:=x;exact⟨mA,⟨od,es,ep,k _ _ (.inl rfl) e,c⟩,r⟩
 | rng lo hi=>obtain⟨t,u,v,e⟩:=x;exact⟨t,u,v,k _ _ (.inl rfl) e⟩
 | frz ob u ih=>obtain⟨e,q⟩:=x;exact⟨k _ _ (.inl rfl) e,ih q⟩
 | tbl ps =>
  have e:h.get? a=some { cls:=.none,data:=.fields ps }:=x
  show h'.get? a=some { cls:=.none,data:=.fields ps }
  exact k a _ (.inl rfl) e
 | met f y =>
  have e:h.get? a=some (PySem.W.methodObj (.ref f) (.ref y)):=x
  show h'.get? a=some (PySem.W.methodObj (.ref f) (.ref y))
  exact k a _ (.inl rfl) e
 | ext φ=>obtain⟨p,⟨o,e⟩,st⟩:=x;exact⟨st _ _ p fun o q=>k _ _ (.inl rfl) q,⟨o,k _ _ (.inl rfl) e⟩,st⟩
theorem HOk.lt(x:HOk P w H h)(e:H a=some o):a<h.objs.size:=(x a o e).lt
theorem HOk.fresh(x:HOk P w H h)(e:h.objs.size≤a):H a=none:=by
 cases q:H a with
 | none=>rfl
 | some u=>exact absurd (QC (x.lt q) e) (Q9 _)
theorem HOk.kept(x:HOk P w H h)(k:∀b u,h.get? b=some u→h'.get? b=some u):HOk P w H h':=fun a o e =>
 (x a o e).stay (fun b u _ q=>k b u q) (fun _ q=>q) fun _ _ q=>q
theorem HOk.laid(x:HOk P w H h)(k:∀b u,h.get? b=some u→h'.get? b=some u)(hp:h.objs.size≤a)(new:Z7 P w (upd H a o) h' a o):HOk P w (upd H a o) h':=fun b u e=>by
 have hn:=x.fresh hp
 by_cases hb:b=a
 ·subst hb;rw[Zd]at e;cases e;exact new
 ·rw[Zb hb]at e
  exact(x b u e).stay (fun c v _ q=>k c v q) (fun c q=>by rw[Zb (Zc q hn)];exact q) fun c xs q=>by rw[Zb (Zc q hn)];exact q
end
def Rd(H:Hp)(a:Addr)(u:HO):Prop:=H a=some u∨∃o,H a=some (.frz o u)
theorem Rd.ok{P:Program}{w:World}{H:Hp}{h:Heap}{a:Addr}{u:HO}(r:Rd H a u)(x:HOk P w H h):Z7 P w H h a u:=by
 rcases r with r|⟨o,r⟩
 ·exact x a u r
 ·obtain⟨_,q⟩:=x a _ r
  exact q
def Mut:Option HO→Prop
 | some (.lst _)=>True
 | some (.dK _)=>True
 | some (.dT _)=>True
 | some (.set _ _)=>True
 | some (.ins _ _ _)=>True
 | some (.ext _)=>True
 | _=>False
section
variable {P:Program} {w:World} {H:Hp} {h h':Heap} {x e:Addr} {o':HO}
theorem HOk.write(ok:HOk P w H h)(mu:Mut (H x))(he:e=x∨H e=some (.own x))(k:∀b u,b≠e→h.get? b=some u→h'.get? b=some u)(heo:∃u,h'.get? e=some u)
  (new:Z7 P w (upd H x o') h' x o'):HOk P w (upd H x o') h':=fun b u q=>by
 have nown:∀c y,H c=some (.own y)→c≠x:=fun c y r z=>by subst z;rw[r]at mu;exact mu
 have ntup:∀c xs,H c=some (.tup xs)→c≠x:=fun c xs r z=>by subst z;rw[r]at mu;exact mu
 by_cases hb:b=x
 ·subst hb;rw[Zd]at q;cases q;exact new
 ·rw[Zb hb]at q
  by_cases hbe:b=e
  ·have q':H b=some (.own x):=by
    rcases he with z|z
    ·exact absurd (hbe.trans z) hb
    ·rw[hbe];exact z
   rw[q]at q';cases q'
   obtain⟨v,hv⟩:=heo
   exact⟨v,by rw[hbe];exact hv⟩
  ·refine(ok b u q).stay (fun c v hc r=>k c v ?_ r) (fun c r=>by rw[Zb (nown c b r)];exact r) fun c xs r=>by rw[Zb (ntup c xs r)];exact r
   rcases hc with rfl|hc
   ·exact hbe
   ·rintro rfl
    rcases he with z|z
    ·exact nown c b hc z
    ·rw[hc]at z;cases z;exact hb rfl
end
structure Un (fs ex:List Addr) (H H':Hp) (h h':Heap):Prop where
 keep:∀b o,h.get? b=some o→H b=none→b ∉ fs→b ∉ ex→h'.get? b=some o
 slot:∀b o,h.get? b=some o→H b=none→b∈fs→b ∉ ex→∃sl,h'.get? b=some { o with slots:=sl }
 free:∀b o,h.get? b=some o→H b=none→b ∉ ex→H' b=none
 there:∀b o,h.get? b=some o→b ∉ ex→∃o',h'.get? b=some o'
 tups:∀b xs,H b=some (.tup xs)→H' b=some (.tup xs)
 frzs:∀b o u,H b=some (.frz o u)→H' b=some (.frz o u)
 tbls:∀b ps,H b=some (.tbl ps)→∃more,H' b=some (.tbl (ps++more))
section
variable {fs fs' ex ex':List Addr} {H H1 H2:Hp} {h h1 h2 h':Heap} {a x e:Addr} {o:HO}
theorem Un.any(u:Un fs ex H H1 h h1){b:Addr}{ob:Obj}(q:h.get? b=some ob)(n:H b=none)(hx:b ∉ ex):∃sl,h1.get? b=some { ob with slots:=sl }:=by
 by_cases hb:b∈fs
 ·exact u.slot b ob q n hb hx
 ·exact⟨ob.slots,u.keep b ob q n hb hx⟩
theorem Un.kept(k:∀b u,h.get? b=some u→h'.get? b=some u):Un fs ex H H h h' :=
 ⟨fun b ob q _ _ _=>k b ob q,fun b ob q _ _ _=>⟨ob.slots,k b ob q⟩,fun _ _ _ n _=>n,fun b ob q _=>⟨ob,k b ob q⟩,fun _ _ q=>q,fun _ _ _ q=>q,fun _ ps q=>⟨#[],by rw[q];simp⟩⟩
theorem Un.refl:Un fs ex H H h h:=Un.kept fun _ _ q=>q
theorem Un.laid(k:∀b u,h.get? b=some u→h'.get? b=some u)(hp:h.objs.size≤a)(hn:H a=none):Un fs ex H (upd H a o) h h' where
 keep:=fun b u q _ _ _=>k b u q
 slot:=fun b u q _ _ _=>⟨u.slots,k b u q⟩
 free:=fun b u q n _=>by rw[Zb (QD (QC (Qr q) hp))];exact n
 there:=fun b u q _=>⟨u,k b u q⟩
 tups:=fun b xs q=>by rw[Zb (Zc q hn)];exact q
 frzs:=fun b u xs q=>by rw[Zb (Zc q hn)];exact q
 tbls:=fun b ps q=>⟨#[],by rw[Zb (Zc q hn),q];simp⟩
theorem Un.write(mu:Mut (H x))(he:e=x∨H e=some (.own x))(k:∀b u,b≠e→h.get? b=some u→h'.get? b=some u)(heo:∃u,h'.get? e=some u):Un fs ex H (upd H x o) h h':=by
 have hx:∀b,H b=none→b≠x:=fun b n z=>by subst z;rw[n]at mu;exact mu
 have hb:∀b,H b=none→b≠e:=fun b n z=>by
  subst z
  rcases he with r|r
  ·exact hx b n r
  ·rw[n]at r;cases r
 have hm:∀b u,H b=some u→¬ Mut (some u)→b≠x:=fun b u q nm z=>by subst z;rw[q]at mu;exact nm mu
 refine⟨fun b u q n _ _=>k b u (hb b n) q,fun b u q n _ _=>⟨u.slots,k b u (hb b n) q⟩,fun b u q n _=>by rw[Zb (hx b n)];exact n,fun b u q _=>?_,
  fun b xs q=>by rw[Zb (hm b _ q fun z=>z)];exact q,fun b u xs q=>by rw[Zb (hm b _ q fun z=>z)];exact q,fun b ps q=>⟨#[],by rw[Zb (hm b _ q fun z=>z),q];simp⟩⟩
 by_cases hbe:b=e
 ·subst hbe;exact heo
 ·exact⟨u,k b u hbe q⟩
end
def trk(h:Heap)(H:Hp):List Addr:=(List.range h.objs.size).filter fun a=>(H a).isSome
def Ziu(h:Heap)(H:Hp):Heap:=PySem.W.hideAll h (trk h H)
theorem ZlY(h:Heap)(H:Hp):(Ziu h H).objs.size=h.objs.size:=PySem.W.hideAll_size _ _
theorem ZnU{h:Heap}{H:Hp}{b:Addr}{o:Obj}(e:h.get? b=some o)(n:H b=none):(Ziu h H).get? b=some o :=
 PySem.W.hideAll_get _ e fun hm=>by
  have q:(H b).isSome=true:=(Qac.mp hm).2
  rw[n]at q;simp at q
theorem Zoq{h:Heap}{H:Hp}{b:Addr}{o:Obj}(e:(Ziu h H).get? b=some o):h.get? b=some o∧H b=none:=by
 have e':h.get? b=some o:=PySem.W.of_hideAll (trk h H) e
 refine⟨e',?_⟩
 cases q:H b with
 | none=>rfl
 | some x =>
  have hm:b∈trk h H:=List.mem_filter.mpr ⟨Qah.mpr (Qr e'),by simp[q]⟩
  have z:(Ziu h H).get? b=none:=PySem.W.hideAll_none (trk h H) hm
  rw[z]at e;cases e
def Zpm(g h:Heap)(L:Addr):List (Addr×Obj):=(List.range h.objs.size).filterMap fun a=>if a=L∨(g.get? a).isSome=true then none else (h.get? a).map fun o=>(a,o)
def rest(g h:Heap)(L d:Addr):List (Addr×Obj):=(Zpm g h L).filter fun p=>decide (p.1≠d)
structure Mod (K:PySem.W.Frag) (mg:Str→Option Value) (base:Heap):Prop where
 kin:K.In base
 glob:base.Ns mainGlobals mg
 blt:∃mb,base.Ns builtinsNs mb∧∀x:Str,x ≠ "__name__"→mb x=bootBuiltins x
 nolimit:base.NoLimit
structure Cx where
 prog:Program
 w:World
 K:PySem.W.Frag
 mg:Str→Option Value
 base:Heap
 A:Around
 N:List Str
 s₀:Shared
 H₀:Hp
 env:Env
 outer:List Env
 stack:List Env
 ex:List Addr
 fn:Str→Bool
 calm:Bool
 pn:List (Addr×Obj)
 xe:Value→Shared→Prop
def frs(l:List Env):List Addr:=l.filterMap (·.frame)
abbrev Cx.fs(X:Cx):List Addr:=frs X.outer
def Vis(sc:Scope)(x:Str):Prop:=sc.names.lookup x=some .local∨sc.names.lookup x=some .cell∨sc.names.lookup x=some .free
def Loc(sc:Scope)(x:Str):Prop:=sc.names.lookup x=some .local∨sc.names.lookup x=some .cell
def ZsR(env:Env)(h:Heap)(m:Str→Option Value)(x:Str)(u:Value):Prop :=
 (env.kindOf x=some .local∧m x=some u)∨((env.kindOf x=some .cell∨env.kindOf x=some .free)∧∃c,env.cells.lookup x=some c∧h.IsCell c (some u))
structure Cx.Ok (X:Cx):Prop where
 mod:Mod X.K X.mg X.base
 kind:X.env.scope.kind=.function
 glob:X.env.globals=mainGlobals
 blt:X.env.builtins=builtinsNs
 above:X.s₀.heap.objs.size≤X.env.locals
 inj:∀x y c,X.env.cells.lookup x=some c→X.env.cells.lookup y=some c→x=y
 has:∀x,(X.env.kindOf x=some .cell∨X.env.kindOf x=some .free)→∃c,X.env.cells.lookup x=some c
 cab:∀x c,X.fn x=true→X.env.cells.lookup x=some c→X.s₀.heap.objs.size≤c
 hd:X.calm=true→X.A.handled=none
 frames:X.A.frames=some X.stack
 stk:X.stack=X.outer∨(X.stack=X.env::X.outer∧X.env.frame=some X.env.locals)
 exf:∀b∈X.ex,b≠X.env.locals∧∀x c,X.env.cells.lookup x=some c→c≠b
 bs:∀b o,X.base.get? b=some o→X.s₀.heap.get? b=some o∧X.H₀ b=none
 bsz:X.base.objs.size≤X.s₀.heap.objs.size
 noex:∀b o,X.base.get? b=some o→b ∉ X.ex
 exfs:∀b∈X.ex,b ∉ X.fs
 funs:X.s₀.heap.FunFrames X.base X.outer
 frf:∀b∈X.fs,X.H₀ b=none
structure Inv (X:Cx) (pins:List (Addr×Obj)) (σ:List (Option V)) (H:Hp) (s:Shared):Prop where
 ok:X.Ok
 os:s.os=X.s₀.os
 bare:AllBare s.gens
 base:Un X.fs X.ex X.H₀ H X.s₀.heap s.heap
 loc:∃m,s.heap.Ns X.env.locals m∧∀ (i:Nat) (x:Str) (v:V),X.N[i]? = some x→σ[i]? = some (some v)→Vis X.env.scope x→∃u,ZI v u∧ZsR X.env s.heap m x u
 cell:∀x c,X.env.cells.lookup x=some c→∃v,s.heap.IsCell c v
 free:H X.env.locals=none
 freeC:∀x c,X.env.cells.lookup x=some c→H c=none
 pin:∀p∈X.pn++pins,s.heap.get? p.1=some p.2∧H p.1=none∧p.1≠X.env.locals∧p.1 ∉ X.fs∧∀v,p.2.data≠.cell v
 hok:HOk X.prog X.w H s.heap
 len:σ.length=X.N.length
section
variable {X:Cx} {pins:List (Addr×Obj)} {σ:List (Option V)} {H H':Hp} {s:Shared} {h':Heap}
theorem Cx.Ok.nofr(ok:X.Ok){b:Addr}{o:Obj}(e:X.base.get? b=some o):b ∉ X.fs:=fun hb=>by
 have:=(ok.funs.mem hb).1
 rw[e]at this;cases this
theorem Inv.bs(I:Inv X pins σ H s):∀b o,X.base.get? b=some o→s.heap.get? b=some o∧H b=none:=fun b o e =>
 ⟨I.base.keep b o (I.ok.bs b o e).1 (I.ok.bs b o e).2 (I.ok.nofr e) (I.ok.noex b o e),I.base.free b o (I.ok.bs b o e).1 (I.ok.bs b o e).2 (I.ok.noex b o e)⟩
theorem Inv.bk(I:Inv X pins σ H s):∀b o,X.base.get? b=some o→s.heap.get? b=some o:=fun b o e=>(I.bs b o e).1
theorem Inv.mod(I:Inv X pins σ H s):Mod X.K X.mg X.base:=I.ok.mod
theorem Inv.kIn(I:Inv X pins σ H s):X.K.In s.heap:=I.ok.mod.kin.keeps I.bk
theorem Inv.lt(I:Inv X pins σ H s):X.env.locals<s.heap.objs.size:=let ⟨_,hn,_⟩:=I.loc;hn.lt
theorem Inv.sz(I:Inv X pins σ H s):X.s₀.heap.objs.size≤s.heap.objs.size:=Qy I.ok.above (Qam I.lt)
theorem Inv.nofs(I:Inv X pins σ H s){a:Addr}(h:s.heap.objs.size≤a):a ∉ X.fs:=fun hb=>by
 obtain⟨_,o,ho,_⟩:=I.ok.funs.mem hb
 exact absurd (QC (Qr ho) (Qy I.sz h)) (Q9 _)
theorem Inv.cne(I:Inv X pins σ H s):∀x c,X.env.cells.lookup x=some c→c≠X.env.locals:=fun x c e z=>by
 obtain⟨v,o,ho,hd⟩:=I.cell x c e
 obtain⟨m,⟨o',es,ep,ho',hd',_⟩,_⟩:=I.loc
 rw[z,ho']at ho;cases ho;rw[hd']at hd;cases hd
theorem Inv.funs(I:Inv X pins σ H s):s.heap.FunFrames X.base X.outer:=by
 have all:∀ (l:List Env),(∀b∈frs l,b∈X.fs)→X.s₀.heap.FunFrames X.base l→s.heap.FunFrames X.base l:=by
  intro l
  induction l with
  | nil=>intro _ _;trivial
  | cons env r ih =>
   intro hs hl
   obtain⟨hk,⟨L,o,hf,hn,ho,hd⟩,hr⟩:=hl
   have hL:L∈X.fs:=hs L (by unfold frs;rw[Q0,hf];exact Qai)
   obtain⟨sl,e⟩:=I.base.slot L o ho (I.ok.frf L hL) hL fun z=>I.ok.exfs L z hL
   exact⟨hk,⟨L,_,hf,hn,e,hd⟩,ih (fun b hb=>hs b (by unfold frs;rw[Q0,hf];exact Qv _ hb)) hr⟩
 exact all X.outer (fun _ hb=>hb) I.ok.funs
theorem Inv.stack(I:Inv X pins σ H s):s.heap.FunFrames X.base X.stack:=by
 rcases I.ok.stk with e|⟨e,hf⟩
 ·rw[e];exact I.funs
 ·rw[e]
  obtain⟨m,hn,_⟩:=I.loc
  refine .cons (by rw[I.ok.kind];decide) hf hn ?_ I.funs
  exact Heap.get?_none_of_le (Qy I.ok.bsz I.ok.above)
theorem Inv.stkSub(I:Inv X pins σ H s):∀b∈frs X.stack,b∈X.env.locals::X.fs:=fun b hb=>by
 rcases I.ok.stk with e|⟨e,hf⟩
 ·rw[e]at hb;exact Qv _ hb
 ·rw[e]at hb
  unfold frs at hb
  rw[Q0,hf]at hb
  exact hb
theorem Inv.stkFree(I:Inv X pins σ H s):∀b∈frs X.stack,H b=none:=fun b hb=>by
 rcases QI.mp (I.stkSub b hb) with e|hb
 ·rw[e];exact I.free
 ·obtain⟨_,o,ho,_⟩:=I.ok.funs.mem hb
  exact I.base.free b o ho (I.ok.frf b hb) fun z=>I.ok.exfs b z hb
theorem Inv.step{g':Array GenState}{t':Nat}{d':Drawn}{ch:List Addr}(I:Inv X pins σ H s)
  (hch:∀b∈ch,(b∈X.ex∨X.s₀.heap.objs.size≤b)∧b≠X.env.locals∧(∀x c,X.env.cells.lookup x=some c→c≠b)∧∀p∈X.pn++pins,p.1≠b)
  (keep:∀b o,b≠X.env.locals→b ∉ X.fs→b ∉ ch→s.heap.get? b=some o→H b=none→h'.get? b=some o)
  (slot:∀b o,b≠X.env.locals→b∈X.fs→b ∉ ch→s.heap.get? b=some o→H b=none→∃sl,h'.get? b=some { o with slots:=sl }) (free:∀b o,b ∉ ch→s.heap.get? b=some o→H b=none→H' b=none)
  (there:∀b o,b ∉ ch→s.heap.get? b=some o→∃o',h'.get? b=some o')
  (tups:∀b xs,H b=some (.tup xs)→H' b=some (.tup xs)) (frzs:∀b o u,H b=some (.frz o u)→H' b=some (.frz o u)) (tbls:∀b ps,H b=some (.tbl ps)→∃more,H' b=some (.tbl (ps++more)))
  (ns:∀m,s.heap.Ns X.env.locals m→h'.Ns X.env.locals m) (hok:HOk X.prog X.w H' h') (hg:AllBare g') :
  Inv X pins σ H' { s with heap:=h',gens:=g',drawn:=d',toks:=t' }:=by
 have neL:∀b o,X.s₀.heap.get? b=some o→b≠X.env.locals:=fun b o e=>QD (QC (Qr e) I.ok.above)
 have neC:∀b o,X.s₀.heap.get? b=some o→b ∉ X.ex→b ∉ ch:=fun b o e hx hb=>by
  rcases(hch b hb).1 with z|z
  ·exact hx z
  ·exact absurd (QC (Qr e) z) (Q9 _)
 have cellK:∀x c,X.env.cells.lookup x=some c→∀v,s.heap.IsCell c v→h'.IsCell c v:=fun x c e v ⟨o,ho,hd⟩=>by
  have nch:c ∉ ch:=fun z=>(hch c z).2.2.1 x c e rfl
  by_cases hc:c∈X.fs
  ·obtain⟨sl,q⟩:=slot c o (I.cne x c e) hc nch ho (I.freeC x c e)
   exact⟨_,q,hd⟩
  ·exact⟨o,keep c o (I.cne x c e) hc nch ho (I.freeC x c e),hd⟩
 refine⟨I.ok,I.os,hg,⟨fun b o e n hb hx=>?_,fun b o e n hb hx=>?_,fun b o e n hx=>?_,fun b o e hx=>?_,fun b xs e=>tups b xs (I.base.tups b xs e),fun b o xs e=>frzs b o xs (I.base.frzs b o xs e),fun b ps e=>?_⟩,?_,fun x c e=>?_,?_,fun x c e=>?_,fun p hp=>?_,hok,I.len⟩
 ·exact keep b o (neL b o e) hb (neC b o e hx) (I.base.keep b o e n hb hx) (I.base.free b o e n hx)
 ·obtain⟨sl,e1⟩:=I.base.slot b o e n hb hx
  obtain⟨sl',e2⟩:=slot b _ (neL b o e) hb (neC b o e hx) e1 (I.base.free b o e n hx)
  exact⟨sl',e2⟩
 ·obtain⟨o',e1⟩:=I.base.there b o e hx
  exact free b o' (neC b o e hx) e1 (I.base.free b o e n hx)
 ·obtain⟨o',e1⟩:=I.base.there b o e hx
  exact there b o' (neC b o e hx) e1
 ·obtain⟨m1,e1⟩:=I.base.tbls b ps e
  obtain⟨m2,e2⟩:=tbls b _ e1
  exact⟨m1++m2,by rw[e2,Array.append_assoc]⟩
 ·obtain⟨m,hn,hl⟩:=I.loc
  refine⟨m,ns m hn,fun i x v e1 e2 e3=>?_⟩
  obtain⟨u,r,l⟩:=hl i x v e1 e2 e3
  refine⟨u,r,?_⟩
  rcases l with l|⟨k,c,e,z⟩
  ·exact .inl l
  ·exact .inr ⟨k,c,e,cellK x c e _ z⟩
 ·obtain⟨v,z⟩:=I.cell x c e
  exact⟨v,cellK x c e v z⟩
 ·obtain⟨m,⟨o,_,_,ho,_⟩,_⟩:=I.loc
  exact free _ o (fun z=>(hch _ z).2.1 rfl) ho I.free
 ·obtain⟨v,o,ho,hd⟩:=I.cell x c e
  exact free c o (fun z=>(hch c z).2.2.1 x c e rfl) ho (I.freeC x c e)
 ·obtain⟨e,n,ne,nf,d⟩:=I.pin p hp
  have nch:p.1 ∉ ch:=fun z=>(hch p.1 z).2.2.2 p hp rfl
  exact⟨keep p.1 p.2 ne nf nch e n,free p.1 p.2 nch e n,ne,nf,d⟩
theorem Inv.un{t':Nat}(I:Inv X pins σ H s)(u:Un X.fs [] H H' s.heap h')(hok:HOk X.prog X.w H' h'):Inv X pins σ H' { s with heap:=h',toks:=t' }:=by
 obtain⟨m,⟨o,es,ep,ho,r⟩,_⟩:=id I.loc
 obtain⟨sl,hL⟩:=u.any ho I.free (by simp)
 exact I.step (g':=s.gens) (d':=s.drawn) (ch:=[]) (fun _ z=>nomatch z) (fun b o _ hb _ e n=>u.keep b o e n hb (by simp)) (fun b o _ hb _ e n=>u.slot b o e n hb (by simp)) (fun b o _ e n=>u.free b o e n (by simp)) (fun b o _ e=>u.there b o e (by simp)) u.tups u.frzs u.tbls (fun m' hm=>by
  obtain⟨o',es',ep',ho',r'⟩:=hm
  rw[ho]at ho';cases ho'
  exact⟨_,es',ep',hL,r'⟩) hok I.bare
theorem Inv.call{g':Array GenState}{t':Nat}{d':Drawn}{ch:List Addr}(I:Inv X pins σ H s)(u:Un (frs X.stack) ch H H' s.heap h')(hok:HOk X.prog X.w H' h')(hg:AllBare g')
  (hch:∀b∈ch,(b∈X.ex∨X.s₀.heap.objs.size≤b)∧b≠X.env.locals∧(∀x c,X.env.cells.lookup x=some c→c≠b)∧∀p∈X.pn++pins,p.1≠b) :
  Inv X pins σ H' { s with heap:=h',gens:=g',drawn:=d',toks:=t' }:=by
 obtain⟨m,⟨o,es,ep,ho,r⟩,_⟩:=id I.loc
 obtain⟨sl,hL⟩:=u.any ho I.free fun z=>(hch _ z).2.1 rfl
 exact I.step (ch:=ch) hch (fun b o hL hb hc e n=>u.keep b o e n (fun z=>(QI.mp (I.stkSub b z)).elim hL hb) hc) (fun b o _ _ hc e n=>u.any e n hc) (fun b o hc e n=>u.free b o e n hc) (fun b o hc e=>u.there b o e hc) u.tups u.frzs u.tbls (fun m' hm=>by
  obtain⟨o',es',ep',ho',r'⟩:=hm
  rw[ho]at ho';cases ho'
  exact⟨_,es',ep',hL,r'⟩) hok hg
theorem Inv.turned{t':Nat}{it:Addr}(I:Inv X pins σ H s)(k:∀b o,b≠it→s.heap.get? b=some o→h'.get? b=some o)(hn:H it=none)(hL:it≠X.env.locals)
  (h1:it∈X.ex∨X.s₀.heap.objs.size≤it) (h2:∀x c,X.env.cells.lookup x=some c→c≠it) (h3:∀p∈X.pn++pins,p.1≠it):Inv X pins σ H { s with heap:=h',toks:=t' }:=by
 have nit:∀b u,H b=some u→b≠it:=fun b u e z=>by rw[z,hn]at e;cases e
 refine I.step (g':=s.gens) (d':=s.drawn) (ch:=[it]) (fun b hb=>?_) (fun b o _ _ hc e _=>k b o (fun z=>hc (by simp[z])) e) (fun b o _ _ hc e _=>⟨o.slots,k b o (fun z=>hc (by simp[z])) e⟩) (fun _ _ _ _ n=>n)
  (fun b o hc e=>⟨o,k b o (fun z=>hc (by simp[z])) e⟩) (fun _ _ e=>e) (fun _ _ _ e=>e) (fun b ps e=>⟨#[],by rw[e];simp⟩) (fun m hm=>?_) (fun b u e=>?_) I.bare
 ·have e:b=it:=by simpa using hb
  subst e
  exact⟨h1,hL,h2,h3⟩
 ·obtain⟨o,es,ep,ho,r⟩:=hm
  exact⟨o,es,ep,k _ o (Ne.symm hL) ho,r⟩
 ·refine(I.hok b u e).stay (fun c v hc q=>k c v ?_ q) (fun _ q=>q) fun _ _ q=>q
  rcases hc with z|z
  ·rw[z];exact nit b u e
  ·exact nit c _ z
theorem Inv.tok(I:Inv X pins σ H s)(t:Nat):Inv X pins σ H { s with toks:=t }:=I.un (h':=s.heap) (t':=t) Un.refl I.hok
theorem Inv.kept{t':Nat}(I:Inv X pins σ H s)(k:∀b u,s.heap.get? b=some u→h'.get? b=some u):Inv X pins σ H { s with heap:=h',toks:=t' }:=I.un (Un.kept k) (I.hok.kept k)
theorem Inv.laid{a:Addr}{o:HO}{t':Nat}(I:Inv X pins σ H s)(k:∀b u,s.heap.get? b=some u→h'.get? b=some u)(hp:s.heap.objs.size≤a)(new:Z7 X.prog X.w (upd H a o) h' a o) :
  Inv X pins σ (upd H a o) { s with heap:=h',toks:=t' }:=I.un (Un.laid k hp (I.hok.fresh hp)) (I.hok.laid k hp new)
theorem Inv.write{x e:Addr}{o:HO}{t':Nat}(I:Inv X pins σ H s)(mu:Mut (H x))(he:e=x∨H e=some (.own x))(k:∀b u,b≠e→s.heap.get? b=some u→h'.get? b=some u)(heo:∃u,h'.get? e=some u)
  (new:Z7 X.prog X.w (upd H x o) h' x o):Inv X pins σ (upd H x o) { s with heap:=h',toks:=t' }:=I.un (Un.write mu he k heo) (I.hok.write mu he k heo new)
theorem Inv.pins_of{pins':List (Addr×Obj)}(I:Inv X pins σ H s)(h:∀p∈pins',s.heap.get? p.1=some p.2∧H p.1=none∧p.1≠X.env.locals∧p.1 ∉ X.fs∧∀v,p.2.data≠.cell v):Inv X pins' σ H s :=
 ⟨I.ok,I.os,I.bare,I.base,I.loc,I.cell,I.free,I.freeC,fun p hp=>(Qm.mp hp).elim (fun z=>I.pin p (QJ _ z)) (h p),I.hok,I.len⟩
theorem ZjW{N:List Str}(hN:N.Nodup){i j:Nat}{x:Str}(a:N[i]? = some x)(b:N[j]? = some x):i=j:=by
 obtain⟨h1,e1⟩:=Qg.mp a
 obtain⟨h2,e2⟩:=Qg.mp b
 exact(List.getElem_inj hN).mp (e1.trans e2.symm)
theorem ZhA{M:Model}{A:Around}{E:Value→Shared→Prop}{i:Nat}{x:Str}{v:V}{u:Value}{Q:Unit→Shared→Prop}(I:Inv X pins σ H s)(hN:X.N.Nodup)(hi:X.N[i]? = some x)(hx:Loc X.env.scope x)(r:ZI v u)
  (h:∀s',Inv X pins (σ.set i (some v)) H s'→(∃a,Heap.SameBut a s.heap s'.heap∧(a=X.env.locals∨X.env.cells.lookup x=some a))→Q () s') (hf:X.fn x=true∨X.env.scope.names.lookup x=some .local:=by first|exact .inl rfl|exact .inr rfl|assumption):wpAny M A (storeName X.env x u) Q E s:=by
 obtain⟨m,hn,hl⟩:=id I.loc
 have hcls:(X.env.scope.kind == .class||(X.env.scope.kind == .module&&X.env.locals != X.env.globals))=false:=by rw[I.ok.kind];rfl
 have hiσ:i<σ.length:=by rw[I.len];exact(Qg.mp hi).1
 have cne:=I.cne
 have tracked:∀ {a:Addr} {h':Heap},(∃o,s.heap.get? a=some o∧H a=none)→Heap.SameBut a s.heap h'→HOk X.prog X.w H h':=fun {a h'} ha hs b ob e=>by
  obtain⟨_,_,hfree⟩:=ha
  refine(I.hok b ob e).stay (fun c w' hc q=>(hs.2 c ?_).trans q) (fun _ q=>q) fun _ _ q=>q
  rintro rfl
  rcases hc with rfl|hc
  ·rw[hfree]at e;cases e
  ·rw[hfree]at hc;cases hc
 rcases hx with hk|hk
 ·refine wpAny_storeName_local hk hn (fun h' hn' hs=>?_) hcls
  obtain⟨oL,_,_,hoL,_⟩:=id hn
  refine h _ ⟨I.ok,I.os,I.bare,⟨fun b o e n hb hx=>?_,fun b o e n hb hx=>?_,I.base.free,fun b o e hx=>?_,I.base.tups,I.base.frzs,I.base.tbls⟩,⟨_,hn',fun j y v' e1 e2 e3=>?_⟩,fun y c e=>?_,I.free,I.freeC,fun p hp=>?_,tracked ⟨oL,hoL,I.free⟩ hs,by simpa using I.len⟩ ⟨_,hs,.inl rfl⟩
  ·exact(hs.2 b (QD (QC (Qr e) I.ok.above))).trans (I.base.keep b o e n hb hx)
  ·obtain⟨sl,e1⟩:=I.base.slot b o e n hb hx
   exact⟨sl,(hs.2 b (QD (QC (Qr e) I.ok.above))).trans e1⟩
  ·obtain⟨o',e1⟩:=I.base.there b o e hx
   exact⟨o',(hs.2 b (QD (QC (Qr e) I.ok.above))).trans e1⟩
  ·by_cases hj:j=i
   ·subst hj
    rw[hi]at e1;cases e1
    rw[List.getElem?_set_self hiσ]at e2
    cases e2
    exact⟨u,r,.inl ⟨hk,by simp⟩⟩
   ·rw[List.getElem?_set_ne (Ne.symm hj)]at e2
    obtain⟨u',r',q⟩:=hl j y v' e1 e2 e3
    refine⟨u',r',?_⟩
    rcases q with⟨k,e⟩|⟨k,c,e,z⟩
    ·refine .inl ⟨k,?_⟩
     have:y≠x:=fun e=>hj (ZjW hN e1 (e ▸ hi))
     simp[this,e]
    ·exact .inr ⟨k,c,e,z.sameBut hs (cne y c e)⟩
  ·obtain⟨w',z⟩:=I.cell y c e
   exact⟨w',z.sameBut hs (cne y c e)⟩
  ·obtain⟨e,n,ne,nf,d⟩:=I.pin p hp
   exact⟨(hs.2 p.1 ne).trans e,n,ne,nf,d⟩
 ·have hfn:X.fn x=true:=by
   rcases hf with z|z
   ·exact z
   ·rw[z]at hk;cases hk
  obtain⟨c,hc⟩:=I.ok.has x (.inl hk)
  obtain⟨w',z⟩:=I.cell x c hc
  refine wpAny_storeName_cell I.ok.kind hk hc z (fun h' hc' hs=>?_)
  obtain⟨oc,hoc,hocd⟩:=id z
  refine h { s with heap:=h' } ⟨I.ok,I.os,I.bare,⟨fun b o e n hb hx=>?_,fun b o e n hb hx=>?_,I.base.free,fun b o e hx=>?_,I.base.tups,I.base.frzs,I.base.tbls⟩,⟨m,hn.sameBut hs (Ne.symm (cne x c hc)),fun j y v' e1 e2 e3=>?_⟩,fun y c' e=>?_,I.free,I.freeC,fun p hp=>?_,tracked ⟨oc,hoc,I.freeC x c hc⟩ hs,by simpa using I.len⟩ ⟨c,hs,.inr hc⟩
  ·exact(hs.2 b (QD (QC (Qr e) (I.ok.cab x c hfn hc)))).trans (I.base.keep b o e n hb hx)
  ·obtain⟨sl,e1⟩:=I.base.slot b o e n hb hx
   exact⟨sl,(hs.2 b (QD (QC (Qr e) (I.ok.cab x c hfn hc)))).trans e1⟩
  ·obtain⟨o',e1⟩:=I.base.there b o e hx
   exact⟨o',(hs.2 b (QD (QC (Qr e) (I.ok.cab x c hfn hc)))).trans e1⟩
  ·by_cases hj:j=i
   ·subst hj
    rw[hi]at e1;cases e1
    rw[List.getElem?_set_self hiσ]at e2
    cases e2
    exact⟨u,r,.inr ⟨.inl hk,c,hc,hc'⟩⟩
   ·rw[List.getElem?_set_ne (Ne.symm hj)]at e2
    obtain⟨u',r',q⟩:=hl j y v' e1 e2 e3
    refine⟨u',r',?_⟩
    rcases q with q|⟨k,c',e,z'⟩
    ·exact .inl q
    ·refine .inr ⟨k,c',e,z'.sameBut hs ?_⟩
     rintro rfl
     exact hj (ZjW hN e1 (I.ok.inj _ _ _ e hc ▸ hi))
  ·by_cases hcc:c'=c
   ·subst hcc;exact⟨_,hc'⟩
   ·obtain⟨w2,z2⟩:=I.cell y c' e
    exact⟨w2,z2.sameBut hs hcc⟩
  ·obtain⟨e,n,ne,nf,d⟩:=I.pin p hp
   refine⟨(hs.2 p.1 ?_).trans e,n,ne,nf,d⟩
   intro q
   rw[q,hoc]at e
   have q':oc=p.2:=Ql e
   exact d w' (by rw[← q'];exact hocd)
theorem Zec{M:Model}{A:Around}{E:Value→Shared→Prop}{i:Nat}{x:Str}{v:V}{u:Value}{Q:Unit→Shared→Prop}(I:Inv X pins σ H s)(hN:X.N.Nodup)(hi:X.N[i]? = some x)(hx:Loc X.env.scope x)(r:ZI v u)
  (h:∀s',Inv X pins (σ.set i (some v)) H s'→Q () s') (hf:X.fn x=true∨X.env.scope.names.lookup x=some .local:=by first|exact .inl rfl|exact .inr rfl|assumption):wpAny M A (storeName X.env x u) Q E s :=
 ZhA I hN hi hx r (fun s' I' _=>h s' I') hf
theorem Inv.call'{s':Shared}{ch:List Addr}(I:Inv X pins σ H s)(ho:s'.os=s.os)(u:Un (frs X.stack) ch H H' s.heap s'.heap)(hok:HOk X.prog X.w H' s'.heap)(hg:AllBare s'.gens)
  (hch:∀b∈ch,(b∈X.ex∨X.s₀.heap.objs.size≤b)∧b≠X.env.locals∧(∀x c,X.env.cells.lookup x=some c→c≠b)∧∀p∈X.pn++pins,p.1≠b):Inv X pins σ H' s':=by
 obtain⟨h',g',d',t',o'⟩:=s'
 have e:o'=s.os:=ho
 subst e
 exact I.call (g':=g') (t':=t') (d':=d') u hok hg hch
end
abbrev XK:=Value→Option Addr→Hp→Prop
abbrev St:=List (Option V)
abbrev VK:=V→Hp→Prop
abbrev TE:=St→Hp→VK→Prop
abbrev TT:=St→Hp→(Bool→Hp→Prop)→Prop
abbrev TA:=St→Hp→(List V→Hp→Prop)→Prop
structure ZfX where
 nx:St→Hp→Prop
 rt:VK
 bk:St→Hp→Prop:=fun _ _=>False
 ct:St→Hp→Prop:=fun _ _=>False
abbrev TS:=ZfX→St→Hp→Prop
def EP(X:Cx)(pins:List (Addr×Obj))(σ:St)(Q:VK)(u:Value)(s':Shared):Prop:=∃v H',Inv X pins σ H' s'∧ZI v u∧Q v H'
def TP(X:Cx)(pins:List (Addr×Obj))(σ:St)(Q:Bool→Hp→Prop)(b:Bool)(s':Shared):Prop:=∃H',Inv X pins σ H' s'∧Q b H'
def AP(X:Cx)(pins:List (Addr×Obj))(σ:St)(Q:List V→Hp→Prop)(us:List Value)(s':Shared):Prop:=∃vs H',Inv X pins σ H' s'∧ZH vs us∧Q vs H'
def SP(X:Cx)(pins:List (Addr×Obj))(D:ZfX)(f:Flow)(s':Shared):Prop :=
 match f with
 | .next=>∃σ' H',Inv X pins σ' H' s'∧D.nx σ' H'
 | .brk=>∃σ' H',Inv X pins σ' H' s'∧D.bk σ' H'
 | .cont=>∃σ' H',Inv X pins σ' H' s'∧D.ct σ' H'
 | .ret u=>∃v σ' H',Inv X pins σ' H' s'∧ZI v u∧D.rt v H'
def PE(X:Cx)(e:Expr)(t:TE):Prop :=
 ∀ (pins:List (Addr×Obj)) (s:Shared) (σ:St) (H:Hp) (Q:VK),Inv X pins σ H s→t σ H Q→wpAny (model X.prog X.w) X.A (eval e X.env) (EP X pins σ Q) X.xe s
def PT(X:Cx)(e:Expr)(t:TT):Prop :=
 ∀ (pins:List (Addr×Obj)) (s:Shared) (σ:St) (H:Hp) (Q:Bool→Hp→Prop),Inv X pins σ H s→t σ H Q→wpAny (model X.prog X.w) X.A (isTrue e X.env (eval e X.env)) (TP X pins σ Q) X.xe s
def PW(X:Cx)(e:Expr)(t:TT):Prop :=
 ∀ (whole:Sem Value) (pins:List (Addr×Obj)) (s:Shared) (σ:St) (H:Hp) (Q:Bool→Hp→Prop),Inv X pins σ H s→t σ H Q→wpAny (model X.prog X.w) X.A (isTrue e X.env whole) (TP X pins σ Q) X.xe s
theorem PW.pt{X:Cx}{e:Expr}{t:TT}(h:PW X e t):PT X e t:=h _
def PA(X:Cx)(es:List Expr)(t:TA):Prop :=
 ∀ (pos:Pos) (pins:List (Addr×Obj)) (s:Shared) (σ:St) (H:Hp) (Q:List V→Hp→Prop),Inv X pins σ H s→t σ H Q→wpAny (model X.prog X.w) X.A (spliced (backTo pos (starEach es X.env))) (AP X pins σ Q) X.xe s
def PS(X:Cx)(st:Stmt)(t:TS):Prop :=
 ∀ (pins:List (Addr×Obj)) (s:Shared) (σ:St) (H:Hp) (D:ZfX),Inv X pins σ H s→t D σ H→wpAny (model X.prog X.w) X.A (exec st X.env) (SP X pins D) X.xe s
def PSs(X:Cx)(st:List Stmt)(t:TS):Prop :=
 ∀ (pins:List (Addr×Obj)) (s:Shared) (σ:St) (H:Hp) (D:ZfX),Inv X pins σ H s→t D σ H→wpAny (model X.prog X.w) X.A (execs st X.env) (SP X pins D) X.xe s
theorem thn{α:Type}{t:Sem α}{Q Q':α→Shared→Prop}{M:Model}{A:Around}{E:Value→Shared→Prop}{s:Shared}(h:wpAny M A t Q E s)(hQ:∀a s,Q a s→Q' a s):wpAny M A t Q' E s:=wpAny_mono h hQ fun _ _ x=>x
section
variable {X:Cx}
def Zpg(i:Nat):TE:=fun σ H Q=>∃v,σ[i]? = some (some v)∧Q v H
def tC(v:V):TE:=fun _ H Q=>Q v H
theorem Zj2{i:Nat}{x:Str}{pos:Pos}(hN:X.N[i]? = some x)(hv:Vis X.env.scope x)(hd:(x == ("__debug__" : Str))=false:=by decide)(hcd:(x == ("__classdict__" : Str))=false:=by decide):PE X (.Name x pos) (Zpg i):=by
 intro pins s σ H Q I h
 obtain⟨v,e,h⟩:=h
 obtain⟨m,hn,hl⟩:=I.loc
 obtain⟨u,r,l⟩:=hl i x v hN e hv
 have fin:EP X pins σ Q u s:=⟨v,H,I,r,h⟩
 rcases l with⟨hk,hm⟩|⟨hk,c,hc,hcell⟩
 ·exact wpAny_Name (wpAny_loadName_local I.ok.kind hk hn hm fin) hd
 ·rcases hk with hk|hk
  ·exact wpAny_Name (wpAny_loadName_cell I.ok.kind hk hc hcell fin) hd
  ·exact wpAny_Name (wpAny_loadName_free I.ok.kind hk hc hcell fin hcd) hd
theorem Zi{i j pos}:PE X (.Constant (.int i) j pos) (tC (.int i)):=fun _ _ _ H _ I h=>wpAny_Constant_int ⟨.int i,H,I.tok _,⟨_,rfl⟩,h⟩
theorem Zhd{b j pos}:PE X (.Constant (.bool b) j pos) (tC (.bl b)):=fun _ _ _ H _ I h=>Constant_bool ⟨.bl b,H,I,rfl,h⟩
theorem ZW{j pos}:PE X (.Constant .none j pos) (tC .non):=fun _ _ _ H _ I h=>Constant_none ⟨.non,H,I,rfl,h⟩
theorem ZA{x j pos}:PE X (.Constant (.str x) j pos) (tC (.str x)):=fun _ _ _ H _ I h=>Calls.Constant_str ⟨.str x,H,I.tok _,⟨_,rfl⟩,h⟩
def Gl(X:Cx)(x:Str):Prop:=X.env.kindOf x=some .globalImplicit
theorem ZiC{E:Value→Shared→Prop}{pins:List (Addr×Obj)}{s:Shared}{σ:St}{H:Hp}{x:Str}{u:Value}{pos:Pos}{Q:Value→Shared→Prop}(I:Inv X pins σ H s)(hg:Gl X x)(hm:X.mg x=some u)(h:Q u s)
  (hd:(x == ("__debug__" : Str))=false:=by decide):wpAny (model X.prog X.w) X.A (eval (.Name x pos) X.env) Q E s :=
 Calls.Name_function_global I.ok.kind hg (Calls.loadGlobal_global (by rw[I.ok.glob];exact I.mod.glob.keeps I.bk) hm h) hd
theorem ZdP{E:Value→Shared→Prop}{pins:List (Addr×Obj)}{s:Shared}{σ:St}{H:Hp}{x:Str}{u:Value}{pos:Pos}{Q:Value→Shared→Prop}(I:Inv X pins σ H s)(hg:Gl X x)(hm:X.mg x=none)(hv:bootBuiltins x=some u)(h:Q u s)
  (hn:x ≠ "__name__":=by decide) (hd:(x == ("__debug__" : Str))=false:=by decide):wpAny (model X.prog X.w) X.A (eval (.Name x pos) X.env) Q E s:=by
 obtain⟨mb,h1,h2⟩:=I.mod.blt
 exact Calls.Name_function_global I.ok.kind hg (Calls.loadGlobal_builtin (by rw[I.ok.glob];exact I.mod.glob.keeps I.bk) hm (by rw[I.ok.blt];exact h1.keeps I.bk) ((h2 x hn).trans hv) h) hd
theorem Zpc{x:Str}{v:V}{u:Value}{pos:Pos}(hg:Gl X x)(hm:X.mg x=some u)(r:ZI v u)(hd:(x == ("__debug__" : Str))=false:=by decide):PE X (.Name x pos) (tC v) :=
 fun _ _ _ H _ I h=>ZiC I hg hm ⟨v,H,I,r,h⟩ hd
theorem Zot{x:Str}{v:V}{u:Value}{pos:Pos}(hg:Gl X x)(hm:X.mg x=none)(hv:bootBuiltins x=some u)(r:ZI v u)(hn:x ≠ "__name__":=by decide)(hd:(x == ("__debug__" : Str))=false:=by decide):PE X (.Name x pos) (tC v) :=
 fun _ _ _ H _ I h=>ZdP I hg hm hv ⟨v,H,I,r,h⟩ hn hd
def t2I(ta tb:TE)(k:Int→Int→Hp→Prop):St→Hp→Prop:=fun σ H=>ta σ H fun x H1=>tb σ H1 fun y H2=>∃i j,x=.int i∧y=.int j∧k i j H2
def tAdd(ta tb:TE):TE:=fun σ H Q=>t2I ta tb (fun i j H2=>Q (.int (i+j)) H2) σ H
def tSub(ta tb:TE):TE:=fun σ H Q=>t2I ta tb (fun i j H2=>Q (.int (i-j)) H2) σ H
def tMul(ta tb:TE):TE:=fun σ H Q=>t2I ta tb (fun i j H2=>(-(2 ^ 64)<i∧i<2 ^ 64)∧Q (.int (i*j)) H2) σ H
variable {a b:Expr} {ta tb:TE} {pos:Pos}
def PC(X:Cx)(op:CmpOp)(a b:Expr)(t:TE):Prop :=
 ∀ (pins:List (Addr×Obj)) (s:Shared) (σ:St) (H:Hp) (Q:VK),Inv X pins σ H s→t σ H Q →
  wpAny (model X.prog X.w) X.A (eval a X.env) (fun v s₁=>wpAny (model X.prog X.w) X.A (eval b X.env) (fun u s₂=>wpAny (model X.prog X.w) X.A (compareOp op v u) (EP X pins σ Q) X.xe s₂) X.xe s₁) X.xe s
def Zl5(p:Int→Int→Bool)(ta tb:TE):TE:=fun σ H Q=>t2I ta tb (fun i j H2=>Q (.bl (p i j)) H2) σ H
abbrev tLt:TE→TE→TE:=Zl5 fun i j=>decide (i<j)
abbrev tLe:TE→TE→TE:=Zl5 fun i j=>decide (i≤j)
abbrev tGt:TE→TE→TE:=Zl5 fun i j=>decide (j<i)
abbrev tGe:TE→TE→TE:=Zl5 fun i j=>decide (j≤i)
abbrev tEqI:TE→TE→TE:=Zl5 fun i j=>decide (i=j)
abbrev tNeI:TE→TE→TE:=Zl5 fun i j=>!decide (i=j)
def tIsN(ta:TE):TE:=fun σ H Q=>ta σ H fun x H1=>Q (.bl (decide (x=.non))) H1
def tNotN(ta:TE):TE:=fun σ H Q=>ta σ H fun x H1=>Q (.bl (!decide (x=.non))) H1
def tB(t:TE):TT:=fun σ H Q=>t σ H fun x H1=>∃c,x=.bl c∧Q c H1
theorem ZcV{e:Expr}{t:TE}(h:PE X e t)(he:∀whole,isTrue e X.env whole=(do let v ← whole;standAt e.pos;holding [v] (truthy v)):=by intro _;rfl):PT X e (tB t):=by
 intro pins s σ H Q I hw
 refine isTrue_plain (thn (h pins s σ H _ I hw) fun v s1 ⟨x,H1,I1,r1,q1⟩=>?_) (he _)
 obtain⟨d,rfl,q⟩:=q1
 cases r1
 exact wpAny_truthy_bool ⟨H1,I1,q⟩
variable {tA tB':TT} {rest:List Expr}
def ZsQ(t u:TT):TT:=fun σ H Q=>t σ H fun c H1=>if c=true then u σ H1 Q else Q false H1
def tOr(t u:TT):TT:=fun σ H Q=>t σ H fun c H1=>if c=true then Q true H1 else u σ H1 Q
def ZsK(t:TT):TT:=fun σ H Q=>t σ H fun c H1=>Q (!c) H1
theorem Zbz(ha:PT X a tA):PW X (.BoolOp .And [a] pos) tA:=by
 intro wh pins s σ H Q I h
 refine isTrue_and (thn (ha pins s σ H Q I h) fun c s1 e=>?_)
 cases c with
 | true=>exact isTrue_and_nil e
 | false=>exact e
theorem ZgP(ha:PT X a tA):PW X (.BoolOp .Or [a] pos) tA:=by
 intro wh pins s σ H Q I h
 refine isTrue_or (thn (ha pins s σ H Q I h) fun c s1 e=>?_)
 cases c with
 | false=>exact isTrue_or_nil e
 | true=>exact e
theorem ZbC(ha:PT X a tA)(hb:PW X (.BoolOp .And (b::rest) pos) tB'):PW X (.BoolOp .And (a::b::rest) pos) (ZsQ tA tB'):=by
 intro wh pins s σ H Q I h
 refine isTrue_and (thn (ha pins s σ H _ I h) fun c s1 ⟨H1,I1,q1⟩=>?_)
 cases c with
 | true=>exact hb wh pins s1 σ H1 Q I1 q1
 | false=>exact⟨H1,I1,q1⟩
theorem Zjq(ha:PT X a tA)(hb:PW X (.BoolOp .Or (b::rest) pos) tB'):PW X (.BoolOp .Or (a::b::rest) pos) (tOr tA tB'):=by
 intro wh pins s σ H Q I h
 refine isTrue_or (thn (ha pins s σ H _ I h) fun c s1 ⟨H1,I1,q1⟩=>?_)
 cases c with
 | true=>exact⟨H1,I1,q1⟩
 | false=>exact hb wh pins s1 σ H1 Q I1 q1
theorem ZgZ(ha:PT X a tA):PT X (.UnaryOp .Not a pos) (ZsK tA):=by
 intro pins s σ H Q I h
 exact isTrue_not (ha pins s σ H (fun c H1=>Q (!c) H1) I h)
def Zrw(ta tb:TE):TE:=fun σ H Q=>ta σ H fun x H1=>∃c,x=.bl c∧if c=true then tb σ H1 Q else Q (.bl false) H1
def tOrV(ta tb:TE):TE:=fun σ H Q=>ta σ H fun x H1=>∃c,x=.bl c∧if c=true then Q (.bl true) H1 else tb σ H1 Q
def ZrN(ta:TE):TE:=fun σ H Q=>ta σ H fun x H1=>∃c,x=.bl c∧Q (.bl (!c)) H1
theorem Zfp{op}{t:TE}(h:PE X a t):PE X (.BoolOp op [a] pos) t:=fun pins s σ H Q I hw=>BoolOp_one (h pins s σ H Q I hw)
theorem ZeQ(ha:PE X a ta)(hb:PE X (.BoolOp .And (b::rest) pos) tb):PE X (.BoolOp .And (a::b::rest) pos) (Zrw ta tb):=by
 intro pins s σ H Q I h
 refine BoolOp_and (thn (ha pins s σ H _ I h) fun v s1 ⟨x,H1,I1,r1,q1⟩=>?_)
 obtain⟨c,rfl,q1⟩:=q1
 cases r1
 refine wpAny_truthy_bool ?_
 cases c with
 | true=>exact hb pins s1 σ H1 Q I1 q1
 | false=>exact⟨.bl false,H1,I1,rfl,q1⟩
theorem Zqz(ha:PE X a ta):PE X (.UnaryOp .Not a pos) (ZrN ta):=by
 intro pins s σ H Q I h
 refine UnaryOp_ (thn (ha pins s σ H _ I h) fun v s1 ⟨x,H1,I1,r1,q1⟩=>?_)
 obtain⟨c,rfl,q1⟩:=q1
 cases r1
 exact not_of (wpAny_truthy_bool ⟨.bl (!c),H1,I1,rfl,q1⟩)
def tIf(t:TT)(ta tb:TE):TE:=fun σ H Q=>t σ H fun c H1=>if c=true then ta σ H1 Q else tb σ H1 Q
theorem Zbo{c:Expr}(hc:PT X c tA)(ha:PE X a ta)(hb:PE X b tb):PE X (.IfExp c a b pos) (tIf tA ta tb):=by
 intro pins s σ H Q I h
 refine wpAny_IfExp (thn (hc pins s σ H _ I h) fun d s1 ⟨H1,I1,q1⟩=>?_)
 cases d with
 | true=>exact ha pins s1 σ H1 Q I1 q1
 | false=>exact hb pins s1 σ H1 Q I1 q1
end
def SqL(K:PySem.W.Frag)(H:Hp)(a:Addr)(xs:List V):Prop :=
 Rd H a (.lst xs) ∨
  ∃ (o:Obj) (its:Array Value) (n:Nat),K.lookup a=some o∧o.cls=.type "list"∧o.dict=none∧o.data=.seq its n∧its.size≤sizeLine∧ZH xs its.toList
def SqT(K:PySem.W.Frag)(H:Hp)(a:Addr)(xs:List V):Prop :=
 Rd H a (.tup xs) ∨
  ∃ (o:Obj) (its:Array Value) (n:Nat),K.lookup a=some o∧o.cls=.type "tuple"∧o.data=.seq its n∧its.size≤sizeLine∧ZH xs its.toList
def ZsP:Value→Option V
 | .none=>some .non
 | .bool b=>some (.bl b)
 | .int i _=>some (.int i)
 | .str x _=>some (.str x)
 | .bytes b _=>some (.byt b)
 | .float b _=>some (.flt b)
 | .ref a=>some (.ref a)
 | .type n=>some (.ty n)
 | _=>none
theorem ZI.abs{x:V}{u:Value}(r:ZI x u):ZsP u=some x:=by
 cases x with
 | non=>cases r;rfl
 | bl _=>cases r;rfl
 | int _=>obtain⟨t,rfl⟩:=r;rfl
 | str _=>obtain⟨t,rfl⟩:=r;rfl
 | byt _=>obtain⟨t,rfl⟩:=r;rfl
 | flt _=>obtain⟨t,rfl⟩:=r;rfl
 | ref _=>cases r;rfl
 | ty _=>cases r;rfl
theorem ZI.inj{x y:V}{u:Value}(r:ZI x u)(q:ZI y u):x=y:=Ql (r.abs.symm.trans q.abs)
theorem ZH.inj:∀ {xs ys:List V} {us:List Value},ZH xs us→ZH ys us→xs=ys
 | _,_,_,.nil,.nil=>rfl
 | _,_,_,.cons r t,.cons r' t'=>by rw[r.inj r',ZH.inj t t']
section
variable {X:Cx} {pins:List (Addr×Obj)} {σ:St} {H:Hp} {s:Shared} {a:Addr} {xs ys:List V}
theorem SqL.of{K:PySem.W.Frag}(h:H a=some (.lst xs)):SqL K H a xs:=.inl (.inl h)
theorem SqT.of{K:PySem.W.Frag}(h:H a=some (.tup xs)):SqT K H a xs:=.inl (.inl h)
theorem Inv.list(I:Inv X pins σ H s)(h:SqL X.K H a xs):∃its:List Value,ZH xs its∧PlainL s.heap a its.toArray∧xs.length≤sizeLine:=by
 rcases h with h|⟨o,its,n,hk,hc,hd,hs,hz,r⟩
 ·obtain⟨z,its,n,r,e⟩:=h.ok I.hok
  exact⟨its,r,⟨_,n,e,rfl,rfl,rfl⟩,z⟩
 ·refine⟨its.toList,r,⟨o,n,I.kIn a o hk,hc,hd,by simpa using hs⟩,?_⟩
  have e:=r.length
  simp only[Array.length_toList]at e
  omega
theorem Inv.tuple(I:Inv X pins σ H s)(h:SqT X.K H a xs):∃its:List Value,ZH xs its∧IsTup s.heap a its.toArray∧xs.length≤sizeLine:=by
 rcases h with h|⟨o,its,n,hk,hc,hs,hz,r⟩
 ·obtain⟨z,its,r,p⟩:=h.ok I.hok
  exact⟨its,r,p,z⟩
 ·refine⟨its.toList,r,⟨o,I.kIn a o hk,hc,n,by simpa using hs⟩,?_⟩
  have e:=r.length
  simp only[Array.length_toList]at e
  omega
theorem Inv.list_inj(I:Inv X pins σ H s)(h:SqL X.K H a xs)(h':SqL X.K H a ys):xs=ys:=by
 obtain⟨its,r,⟨o,n,e,_,_,d⟩,_⟩:=I.list h
 obtain⟨its',r',⟨o',n',e',_,_,d'⟩,_⟩:=I.list h'
 rw[e]at e';cases e'
 rw[d]at d'
 injection d' with d1 _
 have:its=its':=by simpa using congrArg Array.toList d1
 subst this
 exact r.inj r'
theorem Inv.tuple_inj(I:Inv X pins σ H s)(h:SqT X.K H a xs)(h':SqT X.K H a ys):xs=ys:=by
 obtain⟨its,r,⟨o,e,_,n,d⟩,_⟩:=I.tuple h
 obtain⟨its',r',⟨o',e',_,n',d'⟩,_⟩:=I.tuple h'
 rw[e]at e';cases e'
 rw[d]at d'
 injection d' with d1 _
 have:its=its':=by simpa using congrArg Array.toList d1
 subst this
 exact r.inj r'
end
abbrev Cx.wish(X:Cx)(E:Value→Shared→Prop):Cx:={ X with xe:=E }
abbrev Cx.nox(X:Cx):Cx:=X.wish fun _ _=>False
theorem Cx.Ok.wish{X:Cx}(ok:X.Ok)(E:Value→Shared→Prop):(X.wish E).Ok :=
 ⟨ok.mod,ok.kind,ok.glob,ok.blt,ok.above,ok.inj,ok.has,ok.cab,ok.hd,ok.frames,ok.stk,ok.exf,ok.bs,ok.bsz,ok.noex,ok.exfs,ok.funs,ok.frf⟩
theorem Cx.Ok.unwish{X:Cx}{E:Value→Shared→Prop}(ok:(X.wish E).Ok):X.Ok :=
 ⟨ok.mod,ok.kind,ok.glob,ok.blt,ok.above,ok.inj,ok.has,ok.cab,ok.hd,ok.frames,ok.stk,ok.exf,ok.bs,ok.bsz,ok.noex,ok.exfs,ok.funs,ok.frf⟩
section
variable {X:Cx} {pins:List (Addr×Obj)} {σ:St} {H:Hp} {s:Shared} {E:Value→Shared→Prop}
theorem Inv.wish(I:Inv X pins σ H s)(E:Value→Shared→Prop):Inv (X.wish E) pins σ H s:=⟨I.ok.wish E,I.os,I.bare,I.base,I.loc,I.cell,I.free,I.freeC,I.pin,I.hok,I.len⟩
theorem Inv.unwish(I:Inv (X.wish E) pins σ H s):Inv X pins σ H s:=⟨I.ok.unwish,I.os,I.bare,I.base,I.loc,I.cell,I.free,I.freeC,I.pin,I.hok,I.len⟩
theorem SP.unwish{D:ZfX}{f:Flow}{s':Shared}(h:SP (X.wish E) pins D f s'):SP X pins D f s':=by
 cases f with
 | next=>obtain⟨σ',H',I,q⟩:=h;exact⟨σ',H',I.unwish,q⟩
 | brk=>obtain⟨σ',H',I,q⟩:=h;exact⟨σ',H',I.unwish,q⟩
 | cont=>obtain⟨σ',H',I,q⟩:=h;exact⟨σ',H',I.unwish,q⟩
 | ret u=>obtain⟨v,σ',H',I,r,q⟩:=h;exact⟨v,σ',H',I.unwish,r,q⟩
theorem PSs.nox{st:List Stmt}{t:TS}(h:PSs X.nox st t):PSs X st t:=fun pins s σ H D I hw =>
 wpAny_mono (h pins s σ H D (I.wish _) hw) (fun _ _ q=>q.unwish) fun _ _ z=>False.elim z
end
section
variable {X:Cx} {st:Stmt} {rest:List Stmt} {t u:TS} {e:Expr} {te:TE} {pos:Pos}
def ZrC:TS:=fun D σ H=>D.nx σ H
def ZsM(t u:TS):TS:=fun D σ H=>t { D with nx:=u D } σ H
theorem ZE:PSs X [] ZrC:=fun _ _ σ H _ I h=>wpAny_execs_nil ⟨σ,H,I,h⟩
theorem Zf(h1:PS X st t)(h2:PSs X rest u):PSs X (st::rest) (ZsM t u):=by
 intro pins s σ H D I h
 refine wpAny_execs_cons (thn (h1 pins s σ H { D with nx:=u D } I h) fun f s1 q=>?_)
 cases f with
 | next =>
  obtain⟨σ',H',I',q⟩:=q
  exact h2 pins s1 σ' H' D I' q
 | ret v=>exact q
 | brk=>exact q
 | cont=>exact q
theorem Zj(h1:PS X st t):PSs X [st] t:=by
 intro pins s σ H D I h
 refine wpAny_execs_cons (thn (h1 pins s σ H D I h) fun f s1 q=>?_)
 cases f with
 | next=>exact wpAny_execs_nil q
 | ret v=>exact q
 | brk=>exact q
 | cont=>exact q
def tBreak:TS:=fun D σ H=>D.bk σ H
def tCont:TS:=fun D σ H=>D.ct σ H
theorem Inv.quiet{pins:List (Addr×Obj)}{σ:St}{H:Hp}{s:Shared}(I:Inv X pins σ H s):interactive X.env=false:=by simp[interactive,I.ok.kind]
def ZrP(te:TE):TS:=fun D σ H=>te σ H fun _ H1=>D.nx σ H1
theorem Zab(he:PE X e te)(hs:swapsWith e none pos.line X.env=pure false:=by rfl):PS X (.Expr e pos) (ZrP te):=by
 intro pins s σ H D I h
 exact wpAny_Expr_any (thn (he pins s σ H _ I h) fun v s1 ⟨x,H1,I1,r1,q1⟩=>⟨σ,H1,I1,q1⟩) I.quiet hs
def ZsX(te:TE):TS:=fun D σ H=>te σ H D.rt
theorem Zs(he:PE X e te):PS X (.Return (some e) pos) (ZsX te):=by
 intro pins s σ H D I h
 exact wpAny_Return_some (thn (he pins s σ H _ I h) fun v s1 ⟨x,H1,I1,r1,q1⟩=>⟨x,σ,H1,I1,r1,q1⟩)
def tRetN:TS:=fun D _ H=>D.rt .non H
def Zsk(c:TT)(t u:TS):TS:=fun D σ H=>c σ H fun b H1=>if b=true then t D σ H1 else u D σ H1
theorem ZZ{c:Expr}{a b:List Stmt}{tc:TT}(hc:PT X c tc)(ha:PSs X a t)(hb:PSs X b u):PS X (.If c a b pos) (Zsk tc t u):=by
 intro pins s σ H D I h
 refine wpAny_If (thn (hc pins s σ H _ I h) fun d s1 ⟨H1,I1,q1⟩=>?_)
 cases d with
 | true=>exact ha pins s1 σ H1 D I1 q1
 | false=>exact hb pins s1 σ H1 D I1 q1
def tNever:TS:=fun _ _ _=>False
end
abbrev TG:=V→St→Hp→(St→Hp→Prop)→Prop
abbrev TGs:=List V→St→Hp→(St→Hp→Prop)→Prop
def PG(X:Cx)(target:Expr)(t:TG):Prop :=
 ∀ (pins:List (Addr×Obj)) (s:Shared) (σ:St) (H:Hp) (v:V) (u:Value) (Q:St→Hp→Prop),Inv X pins σ H s→ZI v u→t v σ H Q →
  wpAny (model X.prog X.w) X.A (assign target X.env u) (fun _ s'=>∃σ' H',Inv X pins σ' H' s'∧Q σ' H') X.xe s
def PGs(X:Cx)(ts:List Expr)(t:TGs):Prop :=
 ∀ (pins:List (Addr×Obj)) (s:Shared) (σ:St) (H:Hp) (vs:List V) (us:List Value) (Q:St→Hp→Prop),Inv X pins σ H s→ZH vs us→t vs σ H Q →
  wpAny (model X.prog X.w) X.A (assignInOrder ((assignEach ts X.env).map (·.2)) us) (fun _ s'=>∃σ' H',Inv X pins σ' H' s'∧Q σ' H') X.xe s
abbrev Zmk:=V→V→V→Hp→(Hp→Prop)→Prop
def Zq5(X:Cx)(t:Zmk):Prop :=
 ∀ (pins:List (Addr×Obj)) (s:Shared) (σ:St) (H:Hp) (o i v:V) (ov iv u:Value) (Q:Hp→Prop),Inv X pins σ H s→ZI o ov→ZI i iv→ZI v u→t o i v H Q →
  wpAny (model X.prog X.w) X.A (setItem ov iv u) (fun _ s'=>∃H',Inv X pins σ H' s'∧Q H') X.xe s
abbrev TIp:=V→V→Hp→VK→Prop
def PIp(X:Cx)(op:Operator)(t:TIp):Prop :=
 ∀ (pins:List (Addr×Obj)) (s:Shared) (σ:St) (H:Hp) (x y:V) (v u:Value) (Q:VK),Inv X pins σ H s→ZI x v→ZI y u→t x y H Q →
  wpAny (model X.prog X.w) X.A (inplaceOp op v u) (EP X pins σ Q) X.xe s
section
variable {X:Cx} {pos:Pos}
def Zle(i:Nat):TG:=fun v σ H Q=>Q (σ.set i (some v)) H
theorem ZD{i:Nat}{x:Str}(hN:X.N.Nodup)(hi:X.N[i]? = some x)(hx:Loc X.env.scope x)(hf:X.fn x=true∨X.env.scope.names.lookup x=some .local:=by first|exact .inl rfl|exact .inr rfl|assumption):PG X (.Name x pos) (Zle i):=by
 intro pins s σ H v u Q I r h
 exact wpAny_assign_Name (Zec I hN hi hx r (fun s' I'=>⟨_,H,I',h⟩) hf)
def ZsL:TGs:=fun vs σ H Q=>vs=[]∧Q σ H
def ZrS(t:TG)(u:TGs):TGs:=fun vs σ H Q=>∃v r,vs=v::r∧t v σ H fun σ' H'=>u r σ' H' Q
theorem ZaG:PGs X [] ZsL:=by
 intro pins s σ H vs us Q I r h
 obtain⟨e,h⟩:=h
 subst e
 cases r
 exact assignInOrder_nil ⟨σ,H,I,h⟩
theorem ZB{e:Expr}{es:List Expr}{t:TG}{u:TGs}(h1:PG X e t)(h2:PGs X es u)
  (hs:(assignEach (e::es) X.env).map (·.2)=assign e X.env::(assignEach es X.env).map (·.2):=by rfl):PGs X (e::es) (ZrS t u):=by
 intro pins s σ H vs us Q I r h
 obtain⟨v,vr,e1,h⟩:=h
 subst e1
 cases r with
 | cons r rr =>
  rw[hs]
  refine assignInOrder_cons (thn (h1 pins s σ H _ _ _ I r h) fun _ s1 ⟨σ1,H1,I1,q1⟩=>?_)
  exact h2 pins s1 σ1 H1 _ _ Q I1 rr q1
def Zr0(K:PySem.W.Frag)(n:Nat)(t:TGs):TG:=fun v σ H Q=>∃a xs,v=.ref a∧SqT K H a xs∧xs.length=n∧t xs σ H Q
theorem ZqI{es:List Expr}{k:Nat}{t:TGs}{n:Nat}(hc:X.calm=true)(h:PGs X es t)
  (hn:(assignEach es X.env).length=n:=by rfl) (hst:(assignEach es X.env).findIdx? (·.1)=none:=by rfl):PG X (.Tuple es k pos) (Zr0 X.K n t):=by
 intro pins s σ H v u Q I r hw
 obtain⟨a,xs,e1,hq,hl,hw⟩:=hw
 subst e1
 cases r
 obtain⟨its,rv,ht,hz⟩:=I.tuple hq
 refine assign_Tuple_tuple (I.ok.hd hc) ht (by simp[hn,← hl,rv.length]) hst fun h' hx=>?_
 have I1:Inv X pins σ H { s with heap:=h' }:=I.kept (t':=s.toks) fun b o e=>hx b o (QD (Qr e)) e
 exact h pins _ σ H xs _ Q I1 (by simpa using rv) hw
def ZsI(to ti:TE)(t:Zmk):TG:=fun v σ H Q=>to σ H fun o H1=>ti σ H1 fun i H2=>t o i v H2 fun H3=>Q σ H3
theorem ZaQ{o i:Expr}{to ti:TE}{t:Zmk}(ho:PE X o to)(hi:PE X i ti)(hs:Zq5 X t)
  (ha:∀v,assign (.Subscript o i pos) X.env v=(do
   let ov ← holding [v] (eval o X.env)
   let iv ← holding [v,ov] (eval i X.env)
   standAt pos
   holding [v,ov,iv] (setItem ov iv v)
   release [v,ov,iv] []):=by intro _;rfl):PG X (.Subscript o i pos) (ZsI to ti t):=by
 intro pins s σ H v u Q I r h
 rw[ha]
 refine wpAny_bind (wpAny_holding (thn (ho pins s σ H _ I h) fun ov s1 ⟨x,H1,I1,r1,q1⟩=>?_))
 refine wpAny_bind (wpAny_holding (thn (hi pins s1 σ H1 _ I1 q1) fun iv s2 ⟨y,H2,I2,r2,q2⟩=>?_))
 refine wpAny_bind (wpAny_standAt (wpAny_bind (wpAny_holding (thn (hs pins s2 σ H2 x y v ov iv u _ I2 r1 r2 r q2) fun _ s3 ⟨H3,I3,q3⟩=>?_))))
 exact wpAny_release ⟨σ,H3,I3,q3⟩
def Zp2(te:TE)(g:TG):TS:=fun D σ H=>te σ H fun x H1=>g x σ H1 D.nx
theorem Z3{tg e:Expr}{te:TE}{g:TG}(he:PE X e te)(hg:PG X tg g)(hs:swapsWithSole [tg] e pos.line X.env=pure false:=by rfl)(hw:swappedStores [tg] e X.env=pure none:=by rfl)
  (h1:(assignEach [tg] X.env).map (·.2)=[assign tg X.env]:=by rfl):PS X (.Assign [tg] e pos) (Zp2 te g):=by
 intro pins s σ H D I h
 refine wpAny_Assign_stores (thn (he pins s σ H _ I h) fun v s1 ⟨x,H1,I1,r1,q1⟩=>?_) hs hw
 rw[h1]
 exact thn (hg pins s1 σ H1 x v _ I1 r1 q1) fun _ s2 q=>q
theorem Zw{i:Nat}{x:Str}{e:Expr}{te:TE}{pos':Pos}(hN:X.N.Nodup)(hi:X.N[i]? = some x)(hx:Loc X.env.scope x)(he:PE X e te)(hs:swapsWith e (some (.Name x pos')) pos.line X.env=pure false:=by rfl)(hf:X.fn x=true∨X.env.scope.names.lookup x=some .local:=by first|exact .inl rfl|exact .inr rfl|assumption) :
  PS X (.Assign [.Name x pos'] e pos) (Zp2 te (Zle i)):=by
 intro pins s σ H D I h
 refine wpAny_Assign_Name (thn (he pins s σ H _ I h) fun v s1 ⟨y,H1,I1,r1,q1⟩=>?_) hs
 exact Zec I1 hN hi hx r1 (fun s2 I2=>⟨_,H1,I2,q1⟩) hf
def ZsU(i j:Nat)(ta:TA):TS:=fun D σ H=>ta σ H fun vs H1=>∃v w,vs=[v,w]∧D.nx ((σ.set i (some v)).set j (some w)) H1
theorem ZfP{i j:Nat}{x y:Str}{a b:Expr}{ta:TA}{px py pt:Pos}{kt k2 pt2}(hc:X.calm=true)(hN:X.N.Nodup)(hi:X.N[i]? = some x)(hj:X.N[j]? = some y)(hij:i≠j)
  (hx:X.env.scope.names.lookup x=some .local) (hy:X.env.scope.names.lookup y=some .local) (ha:PA X [a,b] ta)
  (hw:swappedStores [.Tuple [.Name x px,.Name y py] kt pt] (.Tuple [a,b] k2 pt2) X.env=pure (some [x,y]))
  (hs:swapsWithSole [.Tuple [.Name x px,.Name y py] kt pt] (.Tuple [a,b] k2 pt2) pos.line X.env=pure false:=by rfl) :
  PS X (.Assign [.Tuple [.Name x px,.Name y py] kt pt] (.Tuple [a,b] k2 pt2) pos) (ZsU i j ta):=by
 intro pins s σ H D I h
 rw[exec_Assign_arm]
 refine wpAny_bind (wpAny_standAt ?_)
 rw[hs]
 refine wpAny_bind (wpAny_pure ?_)
 rw[if_neg (by decide)]
 refine wpAny_bind (Tuple_ (thn (ha _ pins s σ H _ I h) fun us s1 ⟨vs,H1,I1,r1,q1⟩=>?_))
 obtain⟨v,w,e1,q1⟩:=q1
 subst e1
 obtain⟨u1,u2,rfl,rv,rw'⟩:∃u1 u2,us=[u1,u2]∧ZI v u1∧ZI w u2:=by
  cases r1 with
  | cons p q =>
   cases q with
   | cons p' q' =>
    cases q'
    exact⟨_,_,rfl,p,p'⟩
 refine wpAny_newObj_type ?_ (by show 2≤sizeLine;decide)
 have I2:Inv X pins σ H1 { s1 with heap:=s1.heap.push { cls:=.type "tuple",data:=.seq [u1,u2].toArray } }:=I1.kept (t':=s1.toks) fun b o e=>Qc _ e
 rw[hw]
 refine wpAny_bind (wpAny_pure ?_)
 show wpAny (model X.prog X.w) X.A (do rule "assign.swapped-stores";let items ← unpackItems (.ref s1.heap.objs.size) 2 none;assignInOrder [fun v=>bindName X.env y v,fun v=>bindName X.env x v] items.reverse;pure Flow.next) _ _ _
 refine wpAny_bind (wpAny_rule (wpAny_bind (unpackItems_tuple (items:=#[u1,u2]) (I.ok.hd hc) (IsTup.new s1.heap _) fun h' hx'=>?_)))
 have I3:=I2.kept (h':=h') (t':=s1.toks) fun b o e=>hx' b o (QD (Qr e)) e
 show wpAny _ _ (assignInOrder [fun v=>bindName X.env y v,fun v=>bindName X.env x v] [u2,u1] >>= fun _=>pure Flow.next) _ _ _
 refine wpAny_bind (assignInOrder_cons (wpAny_bindName (Zec I3 hN hj (.inl hy) rw' (fun s2 I4=>?_) (.inr hy))))
 refine assignInOrder_cons (wpAny_bindName (Zec I4 hN hi (.inl hx) rv (fun s3 I5=>assignInOrder_nil (wpAny_pure ?_)) (.inr hx)))
 rw[List.set_comm _ _ (Ne.symm hij)]at I5
 exact⟨_,H1,I5,q1⟩
def Zso(i:Nat)(te:TE)(ti:TIp):TS:=fun D σ H=>∃x,σ[i]? = some (some x)∧te σ H fun y H1=>ti x y H1 fun z H2=>D.nx (σ.set i (some z)) H2
theorem Zqf{i:Nat}{x:Str}{e:Expr}{te:TE}{op:Operator}{ti:TIp}{pos':Pos}(hN:X.N.Nodup)(hi:X.N[i]? = some x)(hx:Loc X.env.scope x)(he:PE X e te)(ho:PIp X op ti)(hf:X.fn x=true∨X.env.scope.names.lookup x=some .local:=by first|exact .inl rfl|exact .inr rfl|assumption) :
  PS X (.AugAssign (.Name x pos') op e pos) (Zso i te ti):=by
 intro pins s σ H D I h
 obtain⟨v,e1,h⟩:=h
 obtain⟨m,hn,hl⟩:=I.loc
 have vis:Vis X.env.scope x:=by rcases hx with k|k;exact .inl k;exact .inr (.inl k)
 obtain⟨u,r,l⟩:=hl i x v hi e1 vis
 refine wpAny_AugAssign_Name ?_
 have go:wpAny (model X.prog X.w) X.A (eval e X.env) (fun w s₂=>wpAny (model X.prog X.w) X.A (inplaceOp op u w) (fun r s₃=>wpAny (model X.prog X.w) X.A (storeName X.env x r) (fun _=>SP X pins D .next) X.xe s₃) X.xe s₂) X.xe s:=by
  refine thn (he pins s σ H _ I h) fun w s1 ⟨y,H1,I1,r1,q1⟩=>?_
  refine thn (ho pins s1 σ H1 v y u w _ I1 r r1 q1) fun z s2 ⟨zv,H2,I2,r2,q2⟩=>?_
  exact Zec I2 hN hi hx r2 (fun s3 I3=>⟨_,H2,I3,q2⟩) hf
 rcases l with⟨hk,hm⟩|⟨hk,c,hc,hcell⟩
 ·exact wpAny_loadName_local I.ok.kind hk hn hm go
 ·rcases hk with hk|hk
  ·exact wpAny_loadName_cell I.ok.kind hk hc hcell go
  ·rcases hx with k|k
   ·have:X.env.scope.names.lookup x=some .free:=hk
    rw[k]at this;cases this
   ·have:X.env.scope.names.lookup x=some .free:=hk
    rw[k]at this;cases this
def tAugS(to ti te:TE)(tget:V→V→Hp→VK→Prop)(tip:TIp)(tset:Zmk):TS:=fun D σ H=>to σ H fun o H1=>ti σ H1 fun i H2=>tget o i H2 fun x H3=>te σ H3 fun y H4=>tip x y H4 fun z H5=>tset o i z H5 fun H6=>D.nx σ H6
def PGet(X:Cx)(t:V→V→Hp→VK→Prop):Prop :=
 ∀ (pins:List (Addr×Obj)) (s:Shared) (σ:St) (H:Hp) (o i:V) (ov iv:Value) (Q:VK),Inv X pins σ H s→ZI o ov→ZI i iv→t o i H Q →
  wpAny (model X.prog X.w) X.A (getItem ov iv) (EP X pins σ Q) X.xe s
def ipI(f:Int→Int→Int):TIp:=fun x y H Q=>∃i j,x=.int i∧y=.int j∧Q (.int (f i j)) H
theorem ZqE:PIp X .Add (ipI fun i j=>i+j):=by
 intro pins s σ H x y v u Q I r1 r2 h
 obtain⟨i,j,e1,e2,q⟩:=h
 subst e1;subst e2
 obtain⟨t,rfl⟩:=r1
 obtain⟨t',rfl⟩:=r2
 exact iadd_int ⟨.int _,H,I.tok _,⟨_,rfl⟩,q⟩
end
section
variable {X:Cx} {pos:Pos}
def Zp8(c:TT)(tb:TS):TS:=fun D σ H=>∃W:Nat→St→Hp→Prop,(∃m,W m σ H)∧∀m σ H,W m σ H →
 c σ H fun b H1=>if b=true then ∃N:St→Hp→Prop,(∀σ' H',N σ' H'→∃m',m'<m∧W m' σ' H')∧tb { D with nx:=N,ct:=N,bk:=D.nx } σ H1 else D.nx σ H1
theorem ZdR{c:Expr}{body:List Stmt}{tc:TT}{tb:TS}(hp:PassesOwn (model X.prog X.w) X.A X.env X.xe)(hc:PT X c tc)(hb:PSs X body tb):PS X (.While c body [] pos) (Zp8 tc tb):=by
 intro pins s σ H D I h
 obtain⟨W,⟨m0,w0⟩,turn⟩:=h
 refine wpAny_While (codeAny_whileLoop (fun n s'=>∃σ' H',Inv X pins σ' H' s'∧W n σ' H') ?_ m0 ⟨σ,H,I,w0⟩)
 rintro n s1 ⟨σ1,H1,I1,w1⟩
 refine wpAny_passesOwn hp (thn (hc pins s1 σ1 H1 _ I1 (turn n σ1 H1 w1)) fun b s2 ⟨H2,I2,q2⟩=>?_)
 cases b with
 | true =>
  obtain⟨N,hN,q2⟩:=q2
  rw[if_pos rfl]
  refine wpAny_passesOwn hp (thn (hb pins s2 σ1 H2 _ I2 q2) fun f s3 q3=>?_)
  cases f with
  | next =>
   obtain⟨σ3,H3,I3,n3⟩:=q3
   obtain⟨m',hm,w3⟩:=hN σ3 H3 n3
   exact⟨m',hm,σ3,H3,I3,w3⟩
  | cont =>
   obtain⟨σ3,H3,I3,n3⟩:=q3
   obtain⟨m',hm,w3⟩:=hN σ3 H3 n3
   exact⟨m',hm,σ3,H3,I3,w3⟩
  | brk=>exact q3
  | ret v=>exact q3
 | false =>
  rw[if_neg Qk]
  exact wpAny_execs_nil ⟨σ1,H2,I2,q2⟩
end
structure It where
 go:Nat→Hp→Prop
 yld:Nat→Hp→V→Hp→Prop
 stop:Nat→Hp→Prop
def Zf2(X:Cx)(pins:List (Addr×Obj))(H:Hp)(b:Addr):Prop :=
 H b=none∧b≠X.env.locals∧b ∉ X.fs∧(b∈X.ex∨X.s₀.heap.objs.size≤b)∧(∀x c,X.env.cells.lookup x=some c→c≠b)∧∀p∈X.pn++pins,p.1≠b
theorem Inv.fpOk{X:Cx}{pins:List (Addr×Obj)}{σ:St}{H H':Hp}{s:Shared}{b:Addr}(I:Inv X pins σ H s)(hb:s.heap.objs.size≤b)(hn:H' b=none):Zf2 X pins H' b:=by
 refine⟨hn,Q3 (QC I.lt hb),I.nofs hb,.inr (Qy I.sz hb),fun x c e z=>?_,fun p hp z=>?_⟩
 ·obtain⟨v,q⟩:=I.cell x c e
  exact absurd (QC q.lt (by rw[z];exact hb)) (Q9 _)
 ·exact absurd (QC (Qr (I.pin p hp).1) (by rw[z];exact hb)) (Q9 _)
structure Zjt (P:Program) (w:World) (K:PySem.W.Frag) (tg:Expr) (J:It) (fp:List Addr) (it:Addr) (tn:Nat→Heap→Prop):Prop where
 mem:it∈fp
 obj:∀i h,tn i h→∀b∈fp,∃o,h.get? b=some o∧∀v,o.data≠.cell v
 keep:∀i h h',tn i h→(∀b∈fp,∀o,h.get? b=some o→h'.get? b=some o)→tn i h'
 item:∀ (X:Cx),X.prog=P→X.w=w→X.K=K→X.calm=true→∀ (i:Nat) (pins:List (Addr×Obj)) (s:Shared) (σ:St) (H:Hp) (E:Value→Shared→Prop),Inv X pins σ H s→(∀b∈fp,Zf2 X pins H b)→tn i s.heap→J.go i H →
  wpAny (model P w) X.A (pyNext (.ref it)) (fun r s1=>∃u,r=some u ∧
   wpAny (model P w) X.A (letOwnedTupleGo tg (.ref it) u) (fun _ s2=>∃x H',Inv X pins σ H' s2∧ZI x u∧J.yld i H x H'∧tn (i+1) s2.heap∧∀b∈fp,H' b=none) E s1) E s
 done:∀ (X:Cx),X.prog=P→X.w=w→X.K=K→X.calm=true→∀ (i:Nat) (pins:List (Addr×Obj)) (s:Shared) (σ:St) (H:Hp) (E:Value→Shared→Prop),Inv X pins σ H s→(∀b∈fp,Zf2 X pins H b)→tn i s.heap→J.stop i H →
  wpAny (model P w) X.A (pyNext (.ref it)) (fun r s1=>r=none∧Inv X pins σ H s1) E s
 self:∀ (A:Around) (i:Nat) (s:Shared) (Q:Value→Shared→Prop) (E:Value→Shared→Prop),tn i s.heap→Q (.ref it) s→wpAny (model P w) A (pyIter (.ref it)) Q E s
abbrev TI:=St→Hp→(It→Hp→Prop)→Prop
def PIE(X:Cx)(pins:List (Addr×Obj))(σ:St)(tg:Expr)(R:It→Hp→Prop)(itv:Value)(s2:Shared):Prop :=
 ∃ (it:Addr) (fp:List Addr) (tn:Nat→Heap→Prop) (J:It) (H':Hp),itv=.ref it∧Inv X pins σ H' s2∧Zjt X.prog X.w X.K tg J fp it tn∧tn 0 s2.heap∧(∀b∈fp,Zf2 X pins H' b)∧R J H'
def PI(X:Cx)(tg iter:Expr)(wi:TI):Prop :=
 ∀ (pins:List (Addr×Obj)) (s:Shared) (σ:St) (H:Hp) (R:It→Hp→Prop),Inv X pins σ H s→wi σ H R →
  wpAny (model X.prog X.w) X.A (eval iter X.env) (fun v s1=>wpAny (model X.prog X.w) X.A (pyIter v) (PIE X pins σ tg R) X.xe s1) X.xe s
theorem ZkV{M:Model}{A:Around}{E:Value→Shared→Prop}{s:Shared}{tg:Expr}{it:Addr}{u:Value}{o:Obj}{n:String}{vs:Array Value}{Q:Unit→Shared→Prop}(ho:s.heap.get? it=some o)(hc:o.cls=.type n)(hd:o.data=.fields vs)
  (hn:["enumerate", "zip", "dict_itemiterator", "dict_reverseitemiterator", "odict_iterator", "itertools.zip_longest", "itertools.pairwise"].contains n=false) (hQ:Q () s):wpAny M A (letOwnedTupleGo tg (.ref it) u) Q E s:=by
 unfold letOwnedTupleGo
 cases tg<;>first
  | exact wpAny_pure hQ
  | (cases u<;>first
    | exact wpAny_pure hQ
    | (refine wpAny_bind (wpAny_load ho ?_);rw[hc,hd];show wpAny M A (if (["enumerate", "zip", "dict_itemiterator", "dict_reverseitemiterator", "odict_iterator", "itertools.zip_longest", "itertools.pairwise"].contains n&&vs[0]? == some (rawInt _))=true then _ else _) Q E s;rw[if_neg (by intro h;rw[hn,Bool.false_and]at h;cases h)];exact wpAny_pure hQ))
def Itl(K:PySem.W.Frag)(a:Addr):It :=
 ⟨fun i H=>∃xs x,SqL K H a xs∧xs[i]? = some x,fun i H x H'=>H'=H∧∀xs,SqL K H a xs→xs[i]? = some x,fun i H=>∃xs,SqL K H a xs∧xs.length≤i⟩
def Itt(K:PySem.W.Frag)(a:Addr):It :=
 ⟨fun i H=>∃xs x,SqT K H a xs∧xs[i]? = some x,fun i H x H'=>H'=H∧∀xs,SqT K H a xs→xs[i]? = some x,fun i H=>∃xs,SqT K H a xs∧xs.length≤i⟩
def Itr(lo:Int)(n:Nat):It:=⟨fun i _=>i<n,fun i H x H'=>H'=H∧x=.int (lo+i),fun i _=>n≤i⟩
theorem ZlK{P:Program}{w:World}{K:PySem.W.Frag}{tg:Expr}(a it:Addr):Zjt P w K tg (Itl K a) [it] it (fun i h=>h.IsListIter it a i) where
 mem:=by simp
 obj:=fun i h st b hb=>by
  have e:b=it:=by simpa using hb
  subst e
  obtain⟨o,e,c,d⟩:=st
  exact⟨o,e,fun v z=>by rw[d]at z;cases z⟩
 keep:=fun i h h' st k=>st.at fun o e=>k it (by simp) o e
 item:=by
  intro X hP hw hK hc i pins s σ H E I hf st hg
  subst hP hw hK
  obtain⟨xs,x,hq,hx⟩:=hg
  obtain⟨its,rv,p,hz⟩:=I.list hq
  obtain⟨u,hu,ru⟩:=rv.get hx
  obtain⟨f0,f1,f2,f3,f4,f5⟩:=hf it (by simp)
  refine wpAny_pyNext_list_item st p.isList (x:=u) (by simpa using hu) fun h' st' sb=>?_
  have I1:Inv X pins σ H { s with heap:=h' }:=I.turned (t':=s.toks) (fun b o hb e=>(sb.2 b hb).trans e) f0 f1 f3 f4 f5
  obtain⟨o,e,c,d⟩:=id st'
  exact⟨u,rfl,ZkV (s:={ s with heap:=h' }) e c d (by decide) ⟨x,H,I1,ru,⟨rfl,fun ys hy=>by rw[I.list_inj hy hq];exact hx⟩,st',fun b hb=>(hf b hb).1⟩⟩
 done:=by
  intro X hP hw hK hc i pins s σ H E I hf st hg
  subst hP hw hK
  obtain⟨xs,hq,hx⟩:=hg
  obtain⟨its,rv,p,hz⟩:=I.list hq
  obtain⟨f0,f1,f2,f3,f4,f5⟩:=hf it (by simp)
  have hl:=rv.length
  exact wpAny_pyNext_list_end (I.ok.hd hc) st p.isList (by simp;omega) fun h' eb=>⟨rfl,I.turned (t':=s.toks) (fun b o hb e=>eb b o hb e) f0 f1 f3 f4 f5⟩
 self:=fun _ _ _ _ _ st h=>wpAny_pyIter_listiter st h
theorem Zks{P:Program}{w:World}{K:PySem.W.Frag}{tg:Expr}(it:Addr)(lo:Int)(n:Nat):Zjt P w K tg (Itr lo n) [it] it (fun i h=>IsRangeIter h it (lo+(i:Nat)*1) ((n:Int)-(i:Nat)) 1) where
 mem:=by simp
 obj:=fun i h st b hb=>by
  have e:b=it:=by simpa using hb
  subst e
  exact⟨_,st,fun v z=>by
   have z':Data.fields _=Data.cell v:=z
   cases z'⟩
 keep:=fun i h h' st k=>k it (by simp) _ st
 item:=by
  intro X hP hw hK hc i pins s σ H E I hf st hg
  subst hP hw hK
  obtain⟨f0,f1,f2,f3,f4,f5⟩:=hf it (by simp)
  have W:=Walks.range (prog:=X.prog) (w:=X.w) (I.ok.hd hc) it lo 1 n
  refine W.item i s _ _ hg st fun v h' tk hv st' kk=>?_
  obtain⟨t,rfl⟩:=hv
  have I1:Inv X pins σ H { s with heap:=h',toks:=tk }:=I.turned (fun b o hb e=>kk b o (by simpa using hb) e) f0 f1 f3 f4 f5
  refine⟨_,rfl,ZkV (s:={ s with heap:=h',toks:=tk }) (n := "range_iterator") st' rfl rfl (by decide) ⟨.int (lo+i),H,I1,⟨t,?_⟩,⟨rfl,rfl⟩,st',fun b hb=>(hf b hb).1⟩⟩
  rw[Int.mul_one]
 done:=by
  intro X hP hw hK hc i pins s σ H E I hf st hg
  subst hP hw hK
  obtain⟨f0,f1,f2,f3,f4,f5⟩:=hf it (by simp)
  exact wpAny_pyNext_range_end (I.ok.hd hc) st (by have:n≤i:=hg;omega) fun h' eb=>⟨rfl,I.turned (t':=s.toks) (fun b o hb e=>eb b o hb e) f0 f1 f3 f4 f5⟩
 self:=fun _ _ _ _ _ st h=>wpAny_pyIter_rangeiter st h
section
variable {X:Cx} {tg:Expr}
def ZpQ(K:PySem.W.Frag)(tl:TE):TI:=fun σ H R=>tl σ H fun x H1=>∃a,x=.ref a∧(∃xs,SqL K H1 a xs)∧R (Itl K a) H1
def iTup(K:PySem.W.Frag)(tl:TE):TI:=fun σ H R=>tl σ H fun x H1=>∃a,x=.ref a∧(∃xs,SqT K H1 a xs)∧R (Itt K a) H1
theorem Zo3{l:Expr}{tl:TE}(hl:PE X l tl):PI X tg l (ZpQ X.K tl):=by
 intro pins s σ H R I h
 refine thn (hl pins s σ H _ I h) fun v s1 ⟨x,H1,I1,r1,q1⟩=>?_
 obtain⟨a,e,⟨xs,hq⟩,q⟩:=q1
 subst e
 cases r1
 obtain⟨its,rv,p,hz⟩:=I1.list hq
 refine wpAny_pyIter_list p.isList ?_
 refine⟨s1.heap.objs.size,[s1.heap.objs.size],_,_,H1,rfl,I1.kept (t':=s1.toks) fun b o e=>Qc _ e,ZlK a _,⟨_,Qq _ rfl,rfl,rfl⟩,fun b hb=>?_,q⟩
 have e:b=s1.heap.objs.size:=by simpa using hb
 subst e
 exact I1.fpOk (Qh _) (I1.hok.fresh (Qh _))
theorem Zi4{pins:List (Addr×Obj)}{σ:St}{H:Hp}{s:Shared}{R:It→Hp→Prop}{E:Value→Shared→Prop}{lo hi:Int}{t u v:Tok}{tk:Nat}(I:Inv X pins σ H s)(h1:-(2 ^ 62)≤lo)(h2:lo<2 ^ 62)(h3:-(2 ^ 62)≤hi)(h4:hi<2 ^ 62)
  (q:R (Itr lo (hi-lo).toNat) H):wpAny (model X.prog X.w) X.A (pyIter (.ref s.heap.objs.size)) (PIE X pins σ tg R) E { s with heap:=s.heap.push { cls:=.type "range",data:=.fields #[.int lo t,.int hi u,.int 1 v] },toks:=tk }:=by
 refine wpAny_pyIter_range (IsRange.new ..) (small_one h1 h2 h3 h4) ?_
 have I1:Inv X pins σ H { s with heap:=s.heap.push { cls:=.type "range",data:=.fields #[.int lo t,.int hi u,.int 1 v] },toks:=tk }:=I.kept fun b o e=>Qc _ e
 refine⟨(s.heap.push { cls:=.type "range",data:=.fields #[.int lo t,.int hi u,.int 1 v] }).objs.size,[(s.heap.push { cls:=.type "range",data:=.fields #[.int lo t,.int hi u,.int 1 v] }).objs.size],_,_,H,rfl,
  I1.kept (t':=tk) fun b o e=>Qc _ e,Zks _ lo (hi-lo).toNat,?_,fun b hb=>?_,q⟩
 ·have e1:lo+((0:Nat):Int)*1=lo:=by simp
  have e2:(((hi-lo).toNat:Nat):Int)-((0:Nat):Int)=Builtin.Range.rangeSize lo hi 1:=by rw[rangeSize_one];split<;>omega
  show IsRangeIter _ _ (lo+((0:Nat):Int)*1) ((((hi-lo).toNat:Nat):Int)-((0:Nat):Int)) 1
  rw[e1,e2]
  exact Qq _ rfl
 ·have e:b=(s.heap.push { cls:=.type "range",data:=.fields #[.int lo t,.int hi u,.int 1 v] }).objs.size:=by simpa using hb
  subst e
  exact I1.fpOk (Qh _) (I1.hok.fresh (Qh _))
def ZrD(ta:TA):TI:=fun σ H R=>ta σ H fun vs H1=>∃j:Int,vs=[.int j] ∧ -(2 ^ 62)≤j∧j<2 ^ 62∧R (Itr 0 j.toNat) H1
def Zrh(ta:TA):TI:=fun σ H R=>ta σ H fun vs H1=>∃i j:Int,vs=[.int i,.int j]∧(-(2 ^ 62)≤i∧i<2 ^ 62 ∧ -(2 ^ 62)≤j∧j<2 ^ 62)∧R (Itr i (j-i).toNat) H1
theorem ZbL{a:Expr}{ta:TA}{p pos:Pos}(hg:Gl X "range")(hm:X.mg "range" = none)(ha:PA X [a] ta)(hs:starEach [a] X.env=[(false,eval a X.env)]:=by rfl):PI X tg (.Call (.Name "range" p) [a] [] pos) (ZrD ta):=by
 intro pins s σ H R I h
 refine Call_ (ZdP I hg hm boot_range (QU (thn (ha pos pins s σ H _ I h) fun us s1 ⟨vs,H1,I1,r1,q1⟩=>?_) hs rfl))
 obtain⟨j,e,q1,q2,q⟩:=q1
 subst e
 cases r1 with
 | cons r rr =>
  cases rr
  obtain⟨t,rfl⟩:=r
  exact call_range_1 (Zi4 I1 (by omega) (by omega) q1 q2 (by simpa using q))
theorem Zlu{a b:Expr}{ta:TA}{p pos:Pos}(hg:Gl X "range")(hm:X.mg "range" = none)(ha:PA X [a,b] ta)(hs:starEach [a,b] X.env=[(false,eval a X.env),(false,eval b X.env)]:=by rfl)(hs2:starEach [b] X.env=[(false,eval b X.env)]:=by rfl) :
  PI X tg (.Call (.Name "range" p) [a,b] [] pos) (Zrh ta):=by
 intro pins s σ H R I h
 refine Call_ (ZdP I hg hm boot_range (QU (thn (ha pos pins s σ H _ I h) fun us s1 ⟨vs,H1,I1,r1,q1⟩=>?_) (by rw[hs,hs2]) (by rw[hs2];rfl)))
 obtain⟨i,j,e,⟨q1,q2,q3,q4⟩,q⟩:=q1
 subst e
 cases r1 with
 | cons r rr =>
  cases rr with
  | cons r' rr =>
   cases rr
   obtain⟨t,rfl⟩:=r
   obtain⟨t',rfl⟩:=r'
   exact call_range_2 (Zi4 I1 q1 q2 q3 q4 q)
def ZsF(wi:TI)(g:TG)(tb:TS):TS:=fun D σ H=>wi σ H fun J H1=>∃W:Nat→Nat→St→Hp→Prop,(∃m,W 0 m σ H1)∧∀i m σ H,W i m σ H →
 (J.stop i H∧D.nx σ H)∨(J.go i H∧∃N:St→Hp→Prop,(∀σ' H',N σ' H'→∃m',m'<m∧W (i+1) m' σ' H')∧∀x H',J.yld i H x H'→g x σ H' fun σ2 H2=>tb { D with nx:=N,ct:=N,bk:=D.nx } σ2 H2)
def Zg3(fp:List Addr)(h:Heap):List (Addr×Obj):=fp.filterMap fun b=>(h.get? b).map fun o=>(b,o)
theorem Zdw{fp:List Addr}{h:Heap}{b:Addr}{o:Obj}(hb:b∈fp)(e:h.get? b=some o):(b,o)∈Zg3 fp h:=List.mem_filterMap.mpr ⟨b,hb,by rw[e];rfl⟩
theorem Zmf{fp:List Addr}{h:Heap}{p:Addr×Obj}(hp:p∈Zg3 fp h):p.1∈fp∧h.get? p.1=some p.2:=by
 obtain⟨b,hb,e⟩:=List.mem_filterMap.mp hp
 cases q:h.get? b with
 | none=>rw[q]at e;cases e
 | some o =>
  rw[q]at e
  have e':(b,o)=p:=Ql e
  subst e'
  exact⟨hb,q⟩
theorem Inv.pinned{pins:List (Addr×Obj)}{σ:St}{H:Hp}{s:Shared}{fp:List Addr}(I:Inv X pins σ H s)(hf:∀b∈fp,Zf2 X pins H b)(ho:∀b∈fp,∃o,s.heap.get? b=some o∧∀v,o.data≠.cell v):Inv X (pins++Zg3 fp s.heap) σ H s :=
 I.pins_of fun p hp=>(Qm.mp hp).elim (fun z=>I.pin p (QB _ z)) fun z=>by
  obtain⟨hb,e⟩:=Zmf z
  obtain⟨f0,f1,f2,_⟩:=hf p.1 hb
  obtain⟨o,e',d⟩:=ho p.1 hb
  rw[e]at e';cases e'
  exact⟨e,f0,f1,f2,d⟩
theorem Inv.unpinned{pins pl:List (Addr×Obj)}{σ:St}{H:Hp}{s:Shared}(I:Inv X (pins++pl) σ H s):Inv X pins σ H s:=I.pins_of fun p hp=>I.pin p (QB _ (QJ _ hp))
theorem Zcv{iter:Expr}{body:List Stmt}{wi:TI}{g:TG}{tb:TS}{pos:Pos}(hp:PassesOwn (model X.prog X.w) X.A X.env X.xe)(hc:X.calm=true)(hi:PI X tg iter wi)(hg:PG X tg g)(hb:PSs X body tb)
  (hs:∀x,foldedSetIterable iter X.env x=pure x:=by intro _;rfl):PS X (.For tg iter body [] pos) (ZsF wi g tb):=by
 intro pins s σ H D I h
 refine wpAny_For (thn (hi pins s σ H _ I h) fun v s1 h1=>thn h1 fun itv s2 h2=>?_) hs
 obtain⟨it,fp,tn,J,H2,e,I2,T,st2,f2,W,⟨m0,w0⟩,turn⟩:=h2
 subst e
 have stat:∀ {H':Hp},(∀b∈fp,H' b=none)→∀b∈fp,Zf2 X pins H' b:=fun hn b hb=>⟨hn b hb,(f2 b hb).2⟩
 refine codeAny_forLoop_any (fun n s'=>∃i σ' H',Inv X pins σ' H' s'∧tn i s'.heap∧(∀b∈fp,H' b=none)∧W i n σ' H') ?_ m0 ⟨0,σ,H2,I2,st2,fun b hb=>(f2 b hb).1,w0⟩
 rintro n s3 ⟨i,σ3,H3,I3,st3,fr3,w3⟩
 rcases turn i n σ3 H3 w3 with⟨stop,qn⟩|⟨go,N,hN,step⟩
 ·refine wpAny_passesOwn hp (thn (T.done X rfl rfl rfl hc i pins s3 σ3 H3 X.xe I3 (stat fr3) st3 stop) fun r s4 ⟨hr,I4⟩=>?_)
  subst hr
  exact wpAny_execs_nil ⟨σ3,H3,I4,qn⟩
 ·refine wpAny_passesOwn hp (thn (T.item X rfl rfl rfl hc i pins s3 σ3 H3 X.xe I3 (stat fr3) st3 go) fun r s4 ⟨u,hr,h4⟩=>?_)
  subst hr
  refine wpAny_passesOwn hp (thn h4 fun _ s5 ⟨x,H5,I5,r5,y5,st5,fr5⟩=>?_)
  have I5':=I5.pinned (stat fr5) (T.obj _ _ st5)
  refine wpAny_passesOwn hp (thn (hg _ s5 σ3 H5 x u _ I5' r5 (step x H5 y5)) fun _ s6 ⟨σ6,H6,I6,q6⟩=>?_)
  refine wpAny_passesOwn hp (thn (hb _ s6 σ6 H6 _ I6 q6) fun f s7 q7=>?_)
  have again:∀ {σ7:St} {H7:Hp},Inv X (pins++Zg3 fp s5.heap) σ7 H7 s7→N σ7 H7→∃m,m<n∧∃i σ' H',Inv X pins σ' H' s7∧tn i s7.heap∧(∀b∈fp,H' b=none)∧W i m σ' H':=fun {σ7 H7} I7 n7=>by
   obtain⟨m',hm,w7⟩:=hN σ7 H7 n7
   refine⟨m',hm,i+1,σ7,H7,I7.unpinned,T.keep _ _ _ st5 fun b hb o e=>(I7.pin (b,o) (QB _ (QB _ (Zdw hb e)))).1,fun b hb=>?_,w7⟩
   obtain⟨o,e,d⟩:=T.obj _ _ st5 b hb
   exact(I7.pin (b,o) (QB _ (QB _ (Zdw hb e)))).2.1
  cases f with
  | next=>obtain⟨σ7,H7,I7,n7⟩:=q7;exact again I7 n7
  | cont=>obtain⟨σ7,H7,I7,n7⟩:=q7;exact again I7 n7
  | brk=>obtain⟨σ7,H7,I7,q7⟩:=q7;exact⟨σ7,H7,I7.unpinned,q7⟩
  | ret v=>obtain⟨x7,σ7,H7,I7,r7,q7⟩:=q7;exact⟨x7,σ7,H7,I7.unpinned,r7,q7⟩
end
theorem Zfb{K:PySem.W.Frag}{a:Addr}{xs:List V}{g:TG}{tb:TS}{D:ZfX}{σ:St}{H:Hp}(Pv:Nat→St→Hp→Prop)(h0:Pv 0 σ H)(hl:∀i σ H,i≤xs.length→Pv i σ H→SqL K H a xs)
  (hs:∀i x σ H,xs[i]? = some x→Pv i σ H→g x σ H fun σ2 H2=>tb { D with nx:=Pv (i+1),ct:=Pv (i+1),bk:=D.nx } σ2 H2) (hd:∀σ H,Pv xs.length σ H→D.nx σ H) :
  ∃W:Nat→Nat→St→Hp→Prop,(∃m,W 0 m σ H)∧∀i m σ H,W i m σ H →
   ((Itl K a).stop i H∧D.nx σ H)∨((Itl K a).go i H∧∃N:St→Hp→Prop,(∀σ' H',N σ' H'→∃m',m'<m∧W (i+1) m' σ' H')∧∀x H',(Itl K a).yld i H x H'→g x σ H' fun σ2 H2=>tb { D with nx:=N,ct:=N,bk:=D.nx } σ2 H2):=by
 refine⟨fun i m σ H=>m=xs.length-i∧i≤xs.length∧Pv i σ H,⟨xs.length,by simp,Qw _,h0⟩,?_⟩
 rintro i m σ H ⟨rfl,hi,p⟩
 have q:=hl i σ H hi p
 by_cases hlt:i<xs.length
 ·refine .inr ⟨⟨xs,xs[i],q,by simp[hlt]⟩,Pv (i+1),fun σ' H' p'=>⟨xs.length-(i+1),by omega,rfl,hlt,p'⟩,fun x H' y=>?_⟩
  obtain⟨e,y⟩:=y
  subst e
  exact hs i x σ _ (y xs q) p
 ·have e:i=xs.length:=by omega
  subst e
  exact .inl ⟨⟨xs,q,Qh _⟩,hd σ H p⟩
theorem Zep{lo:Int}{n:Nat}{g:TG}{tb:TS}{D:ZfX}{σ:St}{H:Hp}(Pv:Nat→St→Hp→Prop)(h0:Pv 0 σ H)
  (hs:∀i σ H,i<n→Pv i σ H→g (.int (lo+i)) σ H fun σ2 H2=>tb { D with nx:=Pv (i+1),ct:=Pv (i+1),bk:=D.nx } σ2 H2) (hd:∀σ H,Pv n σ H→D.nx σ H) :
  ∃W:Nat→Nat→St→Hp→Prop,(∃m,W 0 m σ H)∧∀i m σ H,W i m σ H →
   ((Itr lo n).stop i H∧D.nx σ H)∨((Itr lo n).go i H∧∃N:St→Hp→Prop,(∀σ' H',N σ' H'→∃m',m'<m∧W (i+1) m' σ' H')∧∀x H',(Itr lo n).yld i H x H'→g x σ H' fun σ2 H2=>tb { D with nx:=N,ct:=N,bk:=D.nx } σ2 H2):=by
 refine⟨fun i m σ H=>m=n-i∧i≤n∧Pv i σ H,⟨n,by simp,Qw _,h0⟩,?_⟩
 rintro i m σ H ⟨rfl,hi,p⟩
 by_cases hlt:i<n
 ·refine .inr ⟨hlt,Pv (i+1),fun σ' H' p'=>⟨n-(i+1),by omega,rfl,hlt,p'⟩,fun x H' y=>?_⟩
  obtain⟨e,y⟩:=y
  subst e y
  exact hs i σ _ hlt p
 ·have e:i=n:=by omega
  subst e
  exact .inl ⟨Qh _,hd σ H p⟩
abbrev R2:=V→V→Hp→VK→Prop
def OpR(X:Cx)(f:Value→Value→Sem Value)(r:R2):Prop :=
 ∀ (pins:List (Addr×Obj)) (s:Shared) (σ:St) (H:Hp) (x y:V) (v u:Value) (Q:VK),Inv X pins σ H s→ZI x v→ZI y u→r x y H Q →
  wpAny (model X.prog X.w) X.A (f v u) (EP X pins σ Q) X.xe s
def UnR(X:Cx)(f:Value→Sem Value)(r:V→Hp→VK→Prop):Prop :=
 ∀ (pins:List (Addr×Obj)) (s:Shared) (σ:St) (H:Hp) (x:V) (v:Value) (Q:VK),Inv X pins σ H s→ZI x v→r x H Q →
  wpAny (model X.prog X.w) X.A (f v) (EP X pins σ Q) X.xe s
def ZaF(X:Cx)(f:Value)(r:List V→Hp→VK→Prop):Prop :=
 ∀ (pins:List (Addr×Obj)) (s:Shared) (σ:St) (H:Hp) (xs:List V) (us:List Value) (Q:VK),Inv X pins σ H s→ZH xs us→r xs H Q →
  wpAny (model X.prog X.w) X.A (call f us) (EP X pins σ Q) X.xe s
def TruR(X:Cx)(r:V→Hp→(Bool→Hp→Prop)→Prop):Prop :=
 ∀ (pins:List (Addr×Obj)) (s:Shared) (σ:St) (H:Hp) (x:V) (v:Value) (Q:Bool→Hp→Prop),Inv X pins σ H s→ZI x v→r x H Q →
  wpAny (model X.prog X.w) X.A (truthy v) (TP X pins σ Q) X.xe s
def tOp(r:R2)(ta tb:TE):TE:=fun σ H Q=>ta σ H fun x H1=>tb σ H1 fun y H2=>r x y H2 Q
def tUn(r:V→Hp→VK→Prop)(ta:TE):TE:=fun σ H Q=>ta σ H fun x H1=>r x H1 Q
def rI(C:Int→Int→Prop)(g:Int→Int→V):R2:=fun x y H Q=>∃i j,x=.int i∧y=.int j∧C i j∧Q (g i j) H
def rI0(g:Int→Int→V):R2:=fun x y H Q=>∃i j,x=.int i∧y=.int j∧Q (g i j) H
def rU(g:Int→V):V→Hp→VK→Prop:=fun x H Q=>∃i,x=.int i∧Q (g i) H
section
variable {X:Cx} {a b c:Expr} {ta tb tc:TE} {pos:Pos}
theorem ZqY(ha:PE X a ta)(hb:PE X b tb){pins:List (Addr×Obj)}{s:Shared}{σ:St}{H:Hp}{R:V→V→Hp→Prop}(I:Inv X pins σ H s)
  (h:ta σ H fun x H1=>tb σ H1 fun y H2=>R x y H2) {Q:Value→Shared→Prop} {f:Value→Value→Sem Value}
  (hf:∀v u s2 x y H2,Inv X pins σ H2 s2→ZI x v→ZI y u→R x y H2→wpAny (model X.prog X.w) X.A (f v u) Q X.xe s2) :
  wpAny (model X.prog X.w) X.A (eval a X.env) (fun v s₁=>wpAny (model X.prog X.w) X.A (eval b X.env) (fun u s₂=>wpAny (model X.prog X.w) X.A (f v u) Q X.xe s₂) X.xe s₁) X.xe s:=by
 refine thn (ha pins s σ H _ I h) fun v s1 ⟨x,H1,I1,r1,q1⟩=>?_
 refine thn (hb pins s1 σ H1 _ I1 q1) fun u s2 ⟨y,H2,I2,r2,q2⟩=>?_
 exact hf v u s2 x y H2 I2 r1 r2 q2
theorem ZG{op:Operator}{r:R2}(ho:OpR X (binaryOp op) r)(ha:PE X a ta)(hb:PE X b tb):PE X (.BinOp a op b pos) (tOp r ta tb):=by
 intro pins s σ H Q I h
 exact wpAny_BinOp (ZqY ha hb I h fun v u s2 x y H2 I2 rx ry q=>ho pins s2 σ H2 x y v u Q I2 rx ry q)
theorem Zia{op:UnaryOp}{r:V→Hp→VK→Prop}(ho:UnR X (unaryOp op) r)(ha:PE X a ta):PE X (.UnaryOp op a pos) (tUn r ta):=by
 intro pins s σ H Q I h
 exact UnaryOp_ (thn (ha pins s σ H _ I h) fun v s1 ⟨x,H1,I1,r1,q1⟩=>ho pins s1 σ H1 x v Q I1 r1 q1)
theorem opI{f:Value→Value→Sem Value}{C:Int→Int→Prop}{g:Int→Int→Int}
  (rule:∀ (i j:Int) (t u:Tok) (s:Shared) (Q:Value→Shared→Prop) (E:Value→Shared→Prop),C i j→Q (.int (g i j) s.toks) { s with toks:=s.toks+1 }→wpAny (model X.prog X.w) X.A (f (.int i t) (.int j u)) Q E s) :
  OpR X f (rI C fun i j=>.int (g i j)):=by
 intro pins s σ H x y v u Q I rx ry h
 obtain⟨i,j,rfl,rfl,hc,q⟩:=h
 obtain⟨t,rfl⟩:=rx
 obtain⟨t',rfl⟩:=ry
 exact rule i j t t' s _ _ hc ⟨.int (g i j),H,I.tok _,⟨_,rfl⟩,q⟩
theorem Zrx{f:Value→Value→Sem Value}{g:Int→Int→Int}
  (rule:∀ (i j:Int) (t u:Tok) (s:Shared) (Q:Value→Shared→Prop) (E:Value→Shared→Prop),Q (.int (g i j) s.toks) { s with toks:=s.toks+1 }→wpAny (model X.prog X.w) X.A (f (.int i t) (.int j u)) Q E s) :
  OpR X f (rI0 fun i j=>.int (g i j)):=by
 intro pins s σ H x y v u Q I rx ry h
 obtain⟨i,j,rfl,rfl,q⟩:=h
 obtain⟨t,rfl⟩:=rx
 obtain⟨t',rfl⟩:=ry
 exact rule i j t t' s _ _ ⟨.int (g i j),H,I.tok _,⟨_,rfl⟩,q⟩
theorem Zql{f:Value→Value→Sem Value}{g:Int→Int→Bool}
  (rule:∀ (i j:Int) (t u:Tok) (s:Shared) (Q:Value→Shared→Prop) (E:Value→Shared→Prop),Q (.bool (g i j)) s→wpAny (model X.prog X.w) X.A (f (.int i t) (.int j u)) Q E s) :
  OpR X f (rI0 fun i j=>.bl (g i j)):=by
 intro pins s σ H x y v u Q I rx ry h
 obtain⟨i,j,rfl,rfl,q⟩:=h
 obtain⟨t,rfl⟩:=rx
 obtain⟨t',rfl⟩:=ry
 exact rule i j t t' s _ _ ⟨.bl (g i j),H,I,rfl,q⟩
def ZsD(i j:Int):Prop:=0<j∧j<1073741824
def CDivN(i j:Int):Prop:=j≠0∧j.natAbs<1073741824
def ZrJ(i j:Int):Prop:=0≤j∧j≤1000000∧i.natAbs<2 ^ 64
def Zp1(i j:Int):Prop:=(-(2 ^ 64)<i∧i<2 ^ 64)∨(-(2 ^ 64)<j∧j<2 ^ 64)
theorem Zp1.ok{i j:Int}(h:Zp1 i j):IntMulOk i j:=by
 rcases h with⟨h1,h2⟩|⟨h1,h2⟩
 ·exact .of_left (intBits_le_64 h1 h2)
 ·exact .of_right (intBits_le_64 h1 h2)
theorem Z8:OpR X (binaryOp .Add) (rI0 fun i j=>.int (i+j)):=Zrx fun _ _ _ _ _ _ _ q=>add_int q
theorem Zey:OpR X (binaryOp .Sub) (rI0 fun i j=>.int (i-j)):=Zrx fun _ _ _ _ _ _ _ q=>sub_int q
theorem ZeB:OpR X (binaryOp .Mult) (rI Zp1 fun i j=>.int (i*j)):=opI fun _ _ _ _ _ _ _ hc q=>mul_int q hc.ok
theorem Zf8:OpR X (binaryOp .FloorDiv) (rI ZsD fun i j=>.int (i / j)):=opI fun i j _ _ _ _ _ hc q=>by
 have h1:(0:Int)<j:=hc.1
 have h2:j<1073741824:=hc.2
 exact floordiv_int (by omega) (by rw[Int.fdiv_eq_ediv_of_nonneg i (by omega)];exact q) (.inl (PyProof.noPylong_small (by omega)))
theorem ZfD:OpR X (binaryOp .Mod) (rI (fun _ j=>0<j) fun i j=>.int (i % j)):=opI fun i j _ _ _ _ _ hc q=>by
 have h1:(0:Int)<j:=hc
 exact mod_int' (by omega) (by rw[Int.fmod_eq_emod_of_nonneg i (by omega)];exact q)
theorem Zqc:OpR X (binaryOp .Pow) (rI ZrJ fun i j=>.int (i ^ j.toNat)):=opI fun _ _ _ _ _ _ _ hc q=>pow_int_small hc.1 hc.2.1 hc.2.2 q
theorem unI{f:Value→Sem Value}{g:Int→Int}
  (rule:∀ (i:Int) (t:Tok) (s:Shared) (Q:Value→Shared→Prop) (E:Value→Shared→Prop),Q (.int (g i) s.toks) { s with toks:=s.toks+1 }→wpAny (model X.prog X.w) X.A (f (.int i t)) Q E s) :
  UnR X f (rU fun i=>.int (g i)):=by
 intro pins s σ H x v Q I rx h
 obtain⟨i,rfl,q⟩:=h
 obtain⟨t,rfl⟩:=rx
 exact rule i t s _ _ ⟨.int (g i),H,I.tok _,⟨_,rfl⟩,q⟩
theorem ZfG:UnR X (unaryOp .USub) (rU fun i=>.int (-i)):=unI fun _ _ _ _ _ q=>neg_int q
end
def Zsg:V→V→Bool
 | .non,.non=>true|.non,.int _=>true|.int _,.non=>true|.non,.bl _=>true|.bl _,.non=>true|.non,.str _=>true|.str _,.non=>true
 | .int _,.int _=>true|.bl _,.bl _=>true|.str _,.str _=>true|.byt _,.byt _=>true
 | .int _,.str _=>true|.str _,.int _=>true|.bl _,.str _=>true|.str _,.bl _=>true
 | _,_=>false
def rEq:R2:=fun x y H Q=>Zsg x y=true∧Q (.bl (decide (x=y))) H
def rNe:R2:=fun x y H Q=>Zsg x y=true∧Q (.bl (!decide (x=y))) H
theorem ZkY{i j:Int}:decide (V.int i=V.int j)=(i == j):=by
 rw[QaH]
 simp
theorem ZmF{i j:Bool}:decide (V.bl i=V.bl j)=(i == j):=by
 rw[QaH]
 simp
theorem Zll{i j:Str}:decide (V.str i=V.str j)=(i == j):=by
 rw[QaH]
 simp
theorem Zk1{i j:Array UInt8}:decide (V.byt i=V.byt j)=(i.toList == j.toList):=by
 rw[QaH]
 cases i
 cases j
 simp
section
variable {X:Cx} {a b c:Expr} {ta tb tc:TE} {pos:Pos}
theorem ZX{pins:List (Addr×Obj)}{σ:St}{H:Hp}{s:Shared}{Q:VK}{k k':Bool}(I:Inv X pins σ H s)(q:Q (.bl k) H)(e:k=k'):EP X pins σ Q (.bool k') s:=by
 subst e
 exact⟨.bl k,H,I,rfl,q⟩
theorem Za1:OpR X (compareOp .Eq) rEq:=by
 intro pins s σ H x y v u Q I rx ry h
 obtain⟨hs,q⟩:=h
 cases x with
 | non =>
  cases rx
  cases y with
  | non=>cases ry;exact PySem.EqNone.eq_none_none (ZX I q (by simp))
  | bl j=>cases ry;exact PySem.EqNone.eq_none_bool (ZX I q (by simp))
  | int j=>obtain⟨t',rfl⟩:=ry;exact PySem.EqNone.eq_none_int (ZX I q (by simp))
  | str j=>obtain⟨t',rfl⟩:=ry;exact PySem.EqNone.eq_none_str (ZX I q (by simp))
  | _=>exact absurd (show false=true from hs) Qk
 | bl i =>
  cases rx
  cases y with
  | non=>cases ry;exact PySem.EqNone.eq_bool_none (ZX I q (by simp))
  | bl j=>cases ry;exact eq_bool (ZX I q ZmF)
  | str j=>obtain⟨t',rfl⟩:=ry;exact PySem.EqMixed.eq_bool_str (ZX I q (by simp))
  | _=>exact absurd (show false=true from hs) Qk
 | int i =>
  obtain⟨t,rfl⟩:=rx
  cases y with
  | non=>cases ry;exact PySem.EqNone.eq_int_none (ZX I q (by simp))
  | int j=>obtain⟨t',rfl⟩:=ry;exact eq_int (ZX I q ZkY)
  | str j=>obtain⟨t',rfl⟩:=ry;exact PySem.EqMixed.eq_int_str (ZX I q (by simp))
  | _=>exact absurd (show false=true from hs) Qk
 | str i =>
  obtain⟨t,rfl⟩:=rx
  cases y with
  | non=>cases ry;exact PySem.EqNone.eq_str_none (ZX I q (by simp))
  | bl j=>cases ry;exact PySem.EqMixed.eq_str_bool (ZX I q (by simp))
  | int j=>obtain⟨t',rfl⟩:=ry;exact PySem.EqMixed.eq_str_int (ZX I q (by simp))
  | str j=>obtain⟨t',rfl⟩:=ry;exact eq_str (ZX I q Zll)
  | _=>exact absurd (show false=true from hs) Qk
 | byt i =>
  obtain⟨t,rfl⟩:=rx
  cases y with
  | byt j=>obtain⟨t',rfl⟩:=ry;exact PySem.W.eq_bytes (ZX I q Zk1)
  | _=>exact absurd (show false=true from hs) Qk
 | _=>cases y<;>exact absurd (show false=true from hs) Qk
theorem ZpO:OpR X (compareOp .NotEq) rNe:=by
 intro pins s σ H x y v u Q I rx ry h
 obtain⟨hs,q⟩:=h
 cases x with
 | non =>
  cases rx
  cases y with
  | non=>cases ry;exact PySem.EqNone.ne_none_none (ZX I q (by simp))
  | bl j=>cases ry;exact PySem.EqNone.ne_none_bool (ZX I q (by simp))
  | int j=>obtain⟨t',rfl⟩:=ry;exact PySem.EqNone.ne_none_int (ZX I q (by simp))
  | str j=>obtain⟨t',rfl⟩:=ry;exact PySem.EqNone.ne_none_str (ZX I q (by simp))
  | _=>exact absurd (show false=true from hs) Qk
 | bl i =>
  cases rx
  cases y with
  | non=>cases ry;exact PySem.EqNone.ne_bool_none (ZX I q (by simp))
  | bl j=>cases ry;exact ne_bool (ZX I q (congrArg not ZmF))
  | str j=>obtain⟨t',rfl⟩:=ry;exact PySem.EqMixed.ne_bool_str (ZX I q (by simp))
  | _=>exact absurd (show false=true from hs) Qk
 | int i =>
  obtain⟨t,rfl⟩:=rx
  cases y with
  | non=>cases ry;exact PySem.EqNone.ne_int_none (ZX I q (by simp))
  | int j=>obtain⟨t',rfl⟩:=ry;exact ne_int (ZX I q (congrArg not ZkY))
  | str j=>obtain⟨t',rfl⟩:=ry;exact PySem.EqMixed.ne_int_str (ZX I q (by simp))
  | _=>exact absurd (show false=true from hs) Qk
 | str i =>
  obtain⟨t,rfl⟩:=rx
  cases y with
  | non=>cases ry;exact PySem.EqNone.ne_str_none (ZX I q (by simp))
  | bl j=>cases ry;exact PySem.EqMixed.ne_str_bool (ZX I q (by simp))
  | int j=>obtain⟨t',rfl⟩:=ry;exact PySem.EqMixed.ne_str_int (ZX I q (by simp))
  | str j=>obtain⟨t',rfl⟩:=ry;exact ne_str (ZX I q (congrArg not Zll))
  | _=>exact absurd (show false=true from hs) Qk
 | byt i =>
  obtain⟨t,rfl⟩:=rx
  cases y with
  | byt j=>obtain⟨t',rfl⟩:=ry;exact PySem.W.ne_bytes (ZX I q (congrArg not Zk1))
  | _=>exact absurd (show false=true from hs) Qk
 | _=>cases y<;>exact absurd (show false=true from hs) Qk
theorem Zcu:OpR X (compareOp .Lt) (rI0 fun i j=>.bl (decide (i<j))):=Zql fun _ _ _ _ _ _ _ q=>lt_int q
theorem ZgM:OpR X (compareOp .Gt) (rI0 fun i j=>.bl (decide (j<i))):=Zql fun _ _ _ _ _ _ _ q=>gt_int q
theorem ZpY:OpR X (compareOp .GtE) (rI0 fun i j=>.bl (decide (j≤i))):=Zql fun _ _ _ _ _ _ _ q=>ge_int q
theorem Zma:OpR X (compareOp .Lt) (fun x y H Q=>∃i j,x=.str i∧y=.str j∧Q (.bl (decide (i.cps.toList<j.cps.toList))) H):=by
 intro pins s σ H x y v u Q I rx ry h
 obtain⟨i,j,rfl,rfl,q⟩:=h
 obtain⟨t,rfl⟩:=rx
 obtain⟨t',rfl⟩:=ry
 exact lt_str (ZX I q rfl)
theorem Zbq:OpR X (compareOp .Is) (fun x y H Q=>y=.non∧Q (.bl (decide (x=.non))) H):=by
 intro pins s σ H x y v u Q I rx ry h
 obtain⟨rfl,q⟩:=h
 cases ry
 refine is_none_gen (ZX I q ?_)
 cases x<;>first
  | (cases rx;rfl)
  | (obtain⟨t,rfl⟩:=rx;rfl)
theorem Zej:OpR X (compareOp .IsNot) (fun x y H Q=>y=.non∧Q (.bl (!decide (x=.non))) H):=by
 intro pins s σ H x y v u Q I rx ry h
 obtain⟨rfl,q⟩:=h
 cases ry
 refine isnot_none_gen (ZX I q ?_)
 cases x<;>first
  | (cases rx;rfl)
  | (obtain⟨t,rfl⟩:=rx;rfl)
def isObj:HO→Bool
 | .lst _=>true
 | .ins _ _ _=>true
 | _=>false
theorem Zp(b:Expr){op:CmpOp}(h:op≠.In:=by decide)(h2:op≠.NotIn:=by decide):behindInMarks op b=false:=by
 have e1:(op == CmpOp.In)=false:=by cases op<;>first|rfl|exact absurd rfl h
 have e2:(op == CmpOp.NotIn)=false:=by cases op<;>first|rfl|exact absurd rfl h2
 cases b<;>simp[behindInMarks,e1,e2]
theorem Zbf{op:CmpOp}{r:R2}(ho:OpR X (compareOp op) r)(ha:PE X a ta)(hb:PE X b tb)(hm:behindInMarks op b=false):PE X (.Compare a [op] [b] pos) (tOp r ta tb):=by
 intro pins s σ H Q I h
 exact wpAny_Compare1 (ZqY ha hb I h fun v u s2 x y H2 I2 rx ry q=>ho pins s2 σ H2 x y v u Q I2 rx ry q) hm
def ZrG(t:TE):TT:=fun σ H Q=>t σ H fun x H'=>∃k,x=.bl k∧Q k H'
theorem Zm{op:CmpOp}{r:R2}(ho:OpR X (compareOp op) r)(ha:PE X a ta)(hb:PE X b tb)(hm:behindInMarks op b=false):PT X (.Compare a [op] [b] pos) (ZrG (tOp r ta tb)):=by
 intro pins s σ H Q I h
 refine wpAny_isTrue_Compare1 (thn (ha pins s σ H _ I h) fun v s1 ⟨x,H1,I1,r1,q1⟩=>thn (hb pins s1 σ H1 _ I1 q1) fun u s2 ⟨y,H2,I2,r2,q2⟩=>
  thn (ho pins s2 σ H2 x y v u _ I2 r1 r2 q2) fun c s3 ⟨z,H3,I3,r3,k,e,q3⟩=>?_) hm
 subst e
 cases r3
 exact wpAny_truthy_bool ⟨H3,I3,q3⟩
def tChain(r r':R2)(ta tb tc:TE):TE:=fun σ H Q=>ta σ H fun x H1=>tb σ H1 fun y H2=>r x y H2 fun z H3=>∃k,z=.bl k ∧
 (if k=true then tc σ H3 fun w' H4=>r' y w' H4 Q else Q (.bl false) H3)
def Zsm(K:PySem.W.Frag)(x:V)(H:Hp)(k:Bool):Prop :=
 match x with
 | .non=>k=false
 | .bl b=>k=b
 | .int i=>k=(i != 0)
 | .str y=>y.length≤sizeLine∧k=((y.length:Int) != 0)
 | .byt y=>y.size≤sizeLine∧k=((y.size:Int) != 0)
 | .ref p=>(∃xs,SqL K H p xs∧k = !xs.isEmpty)∨(∃xs,SqT K H p xs∧k = !xs.isEmpty)∨∃kvs,H p=some (.dK kvs)∧k = !kvs.isEmpty
 | _=>False
theorem ZfI:(sizeLine:Nat)<2 ^ 63:=by rw[sizeLine_eq];decide
theorem ZeL:OpR X (binaryOp .Add) (fun x y H Q=>∃i j,x=.str i∧y=.str j∧i.length+j.length≤sizeLine∧Q (.str (i++j)) H):=by
 intro pins s σ H x y v u Q I rx ry h
 obtain⟨i,j,rfl,rfl,hz,q⟩:=h
 obtain⟨t,rfl⟩:=rx
 obtain⟨t',rfl⟩:=ry
 exact add_str (fun t' tk=>⟨.str (i++j),H,I.tok _,⟨_,rfl⟩,q⟩) hz
def PlainIxT(b:Expr):Prop:=∀o i,subscripted b false o i=operate [o,i] (getItem o i)
theorem ZcX{x:V}{us:List Value}(r:ZH [x] us):∃u,us=[u]∧ZI x u:=by
 cases r with
 | cons r1 r2=>cases r2;exact⟨_,rfl,r1⟩
theorem ZkQ{x y:V}{us:List Value}(r:ZH [x,y] us):∃u w',us=[u,w']∧ZI x u∧ZI y w':=by
 cases r with
 | cons r1 r2 =>
  cases r2 with
  | cons r3 r4=>cases r4;exact⟨_,_,rfl,r1,r3⟩
theorem Zjl:ZaF X (.builtin "abs") (fun xs H Q=>∃i,xs=[.int i]∧Q (.int (if i<0 then -i else i)) H):=by
 intro pins s σ H xs us Q I r h
 obtain⟨i,rfl,q⟩:=h
 obtain⟨u,rfl,t,rfl⟩:=ZcX r
 exact call_abs_int fun u tk=>⟨.int (if i<0 then -i else i),H,I.tok _,⟨_,rfl⟩,q⟩
theorem ZlZ(hc:X.calm=true):ZaF X (.builtin "max") (fun xs H Q=>∃i j,xs=[.int i,.int j]∧Q (.int (if j>i then j else i)) H):=by
 intro pins s σ H xs us Q I r h
 obtain⟨i,j,rfl,q⟩:=h
 obtain⟨u,w',rfl,⟨t,rfl⟩,⟨t',rfl⟩⟩:=ZkQ r
 refine max_two_ints (I.ok.hd hc) fun h' tk k=>⟨_,H,I.kept k,?_,q⟩
 by_cases hj:j>i
 ·rw[if_pos hj,if_pos hj];exact⟨_,rfl⟩
 ·rw[if_neg hj,if_neg hj];exact⟨_,rfl⟩
theorem ZhQ(hc:X.calm=true):ZaF X (.builtin "min") (fun xs H Q=>∃i j,xs=[.int i,.int j]∧Q (.int (if j<i then j else i)) H):=by
 intro pins s σ H xs us Q I r h
 obtain⟨i,j,rfl,q⟩:=h
 obtain⟨u,w',rfl,⟨t,rfl⟩,⟨t',rfl⟩⟩:=ZkQ r
 refine min_two_ints (I.ok.hd hc) fun h' tk k=>⟨_,H,I.kept k,?_,q⟩
 by_cases hj:j<i
 ·rw[if_pos hj,if_pos hj];exact⟨_,rfl⟩
 ·rw[if_neg hj,if_neg hj];exact⟨_,rfl⟩
theorem Zft:ZaF X (.type "int") (fun xs H Q=>(∃i,xs=[.int i]∧Q (.int i) H)∨∃k,xs=[.bl k]∧Q (.int (if k then 1 else 0)) H):=by
 intro pins s σ H xs us Q I r h
 rcases h with⟨i,rfl,q⟩|⟨k,rfl,q⟩
 ·obtain⟨u,rfl,t,rfl⟩:=ZcX r
  exact call_int_int ⟨.int i,H,I,⟨_,rfl⟩,q⟩
 ·obtain⟨u,rfl,r1⟩:=ZcX r
  cases r1
  exact call_int_bool ⟨.int (if k then 1 else 0),H,I.tok _,⟨_,rfl⟩,q⟩
def LenV(K:PySem.W.Frag)(x:V)(H:Hp)(n:Nat):Prop :=
 match x with
 | .str y=>y.length≤sizeLine∧n=y.length
 | .byt y=>y.size≤sizeLine∧n=y.size
 | .ref p=>(∃xs,SqL K H p xs∧n=xs.length)∨∃xs,SqT K H p xs∧n=xs.length
 | _=>False
end
structure Zj5 (h:Heap) (x dx C:Addr) (mA:Str→Option Value):Prop where
 obj:h.get? x=some (PySem.W.instObj C dx)
 ns:h.Ns1 dx mA
 ne:dx≠x
theorem Zlp{h:Heap}{dx:Addr}{mA:Str→Option Value}(n:h.Ns1 dx mA):∃od,h.get? dx=some od∧∀name,PySem.W.lookIn name od=some (mA name):=by
 obtain⟨o,es,ep,ho,hd,hk,_,hm⟩:=n
 refine⟨o,ho,fun name=>?_⟩
 have e:=hm name
 unfold nsFind findBy at e
 rw[← Array.find?_toList]at e
 unfold PySem.W.lookIn
 rw[hd]
 dsimp only
 split
 ·rename_i y q
  rw[q]at e
  exact congrArg some e
 ·rename_i q
  rw[q]at e
  have a:es.toList.any (·.refKey)=false:=by
   rw[List.any_eq_false]
   intro y hy
   obtain⟨z,t,hkey⟩:=hk y (Array.mem_toList_iff.mp hy)
   simp[DictEntry.refKey,hkey]
  have a':¬ es.toList.any (·.refKey)=true:=by rw[a];exact Qk
  rw[if_neg a']
  exact congrArg some e
theorem Zj5.look{h:Heap}{x dx C:Addr}{mA:Str→Option Value}(I:Zj5 h x dx C mA):∃od,PySem.W.InstAt h x (PySem.W.instObj C dx) C (some od)∧∀name,PySem.W.lookIn name od=some (mA name) :=
 let ⟨od,ho,hl⟩:=Zlp I.ns
 ⟨od,⟨I.obj,rfl,rfl,ho⟩,hl⟩
section
variable {prog:Program} {w:World} {A:Around} {E:Value→Shared→Prop} {s:Shared} {K:PySem.W.Frag} {x dx C f:Addr} {mA:Str→Option Value} {name:Str} {v:Value}
theorem Zo8{expr:Bool}{Q:Value→Shared→Prop}(X:K.In s.heap)(I:Zj5 s.heap x dx C mA)(hg:PySem.W.plainGet K C name=true)(hh:PySem.W.hasDictIn K C=true)
  (ha:PySem.W.findIn K (.ref C) name=some none) (hv:mA name=some v) (hv':PySem.W.handedIn v=true) (h:Q v { s with toks:=s.toks+1 }) :
  wpAny (model prog w) A (getAttr (.ref x) name expr) Q E s:=by
 obtain⟨od,J,hl⟩:=I.look
 exact PySem.W.get_value X J (PySem.W.plainGet_of hg).1 (PySem.W.findObj_own hh ha rfl (by rw[hl,hv])) hv' h
theorem ZnW{pl:Sem Bool}{Q:Value×List Value→Shared→Prop}(X:K.In s.heap)(I:Zj5 s.heap x dx C mA)(hg:PySem.W.plainGet K C name=true)
  (hf:PySem.W.findIn K (.ref C) name=some (some (.ref f))) (ht:PySem.W.isFn K (.ref f)=true) (hv:mA name=none) (h:Q (.ref f,[.ref x]) s) :
  wpAny (model prog w) A (getMethod (.ref x) name pl) Q E s:=by
 obtain⟨od,J,hl⟩:=I.look
 exact PySem.W.method_fn X J (PySem.W.plainGet_of hg).1 (PySem.W.plainGet_of hg).2 hf (beq_iff_eq.mp ht) (by show (PySem.W.lookIn name od).map (·.isSome)=some false;rw[hl,hv];rfl) h
theorem Zpt{ns:List Str}{Q:Unit→Shared→Prop}(X:K.In s.heap)(I:Zj5 s.heap x dx C mA)
  (hs:PySem.W.findIn K (.ref C) "__setattr__" = some (some (.builtin "object.__setattr__"))) (hp:PySem.W.plainOver K C=true) (ht:PySem.W.takerIn K C name=some none) (hh:PySem.W.hasDictIn K C=true)
  (hw:PySem.Within mA ns) (hsz:ns.length≤sizeLine)
  (h:∀h',Zj5 h' x dx C (fun y=>if y=name then some v else mA y)→Heap.SameBut dx s.heap h'→Q () { s with heap:=h',toks:=s.toks+2 }) :
  wpAny (model prog w) A (setAttr (.ref x) name v) Q E s:=by
 obtain⟨od,J,hl⟩:=I.look
 refine PySem.W.set_plain X J hs (PySem.W.osa_open (s:={ s with toks:=s.toks+1 }) (r:=none) X J hp ht fun b=>?_)
 obtain⟨cd,hc,hd'⟩:=PySem.W.any_some hh
 have hx:s.heap.get? x=some ⟨.ref C,some dx,.plain,#[]⟩:=I.obj
 refine wpAny_bind (wpAny_pure (wpAny_bind (wpAny_bind (wpAny_loadPart hx (wpAny_bind (PySem.W.Looks.here (s:={ s with toks:=s.toks+1 }) (PySem.W.looks_clsIn X hc) ?_))))))
 rw[hd']
 refine wpAny_pure (a:=some dx) (wpAny_bind (wpAny_pure (wpAny_bind ?_)))
 refine wpAny_nsSet1 (s:={ s with toks:=s.toks+1 }) I.ns fun h' hn2 hs2=>?_
 obtain⟨oD,esD,epD,hoD,hdD,hcD⟩:=hn2.count (PySem.Within.cons name v hw)
 refine wpAny_bind (wpAny_lookBehind hoD (by rw[hdD];exact pastItsLine_dict (Qy hcD (by rw[QK];omega))) ?_)
 exact wpAny_pure (h _ ⟨(hs2.2 _ (Ne.symm I.ne)).trans I.obj,hn2,I.ne⟩ hs2)
theorem Zmu{R:Result→Shared→Prop}{vs:List Value}{kw:List (Str×Value)}(X:K.In s.heap)(hm:PySem.W.makesIn K C=true)
  (hi:PySem.W.findIn K (.ref C) "__init__" = some (some (.ref f))) (hf:PySem.W.typeIn K (.ref f)=some (.type "function"))
  (h:codeAny (model prog w) (A.under (.builtin "type.__call__" ⟨.ref C::vs,kw⟩)) (.call (.ref f) ⟨.ref (s.heap.objs.size+1)::vs,kw⟩) (PySem.W.InitBack (s.heap.objs.size+1) R)
   { s with heap:=(s.heap.push PySem.W.emptyDict).push (PySem.W.instObj C s.heap.objs.size) }) :
  codeAny (model prog w) A (.call (.ref C) ⟨vs,kw⟩) R s:=by
 obtain⟨hh,g,d,t,os⟩:=s
 exact PySem.W.make_core (PySem.W.makes_of X hm) (PySem.W.looks_findIn X hi) (fun self=>PySem.W.bind_fn X self hf) (.inl rfl) h
end
def Zt(f:Str)(v:V):List (Str×V)→List (Str×V)
 | []=>[(f,v)]
 | (g,x)::r=>if g=f then (g,v)::r else (g,x)::Zt f v r
theorem Zl(f g:Str)(v:V):∀fs:List (Str×V),(Zt f v fs).lookup g=if g=f then some v else fs.lookup g
 | []=>by
  show List.lookup g [(f,v)]=_
  by_cases h:g=f
  ·have hb:(g == f)=true:=beq_iff_eq.mpr h
   simp only[List.lookup,hb,if_pos h]
  ·have hb:(g == f)=false:=beq_eq_false_iff_ne.mpr h
   simp only[List.lookup,hb,if_neg h]
 | (k,x)::r=>by
  have ih:=Zl f g v r
  rw[show Zt f v ((k,x)::r)=(if k=f then (k,v)::r else (k,x)::Zt f v r) from rfl]
  by_cases hk:k=f
  ·rw[if_pos hk]
   by_cases h:g=k
   ·have hb:(g == k)=true:=beq_iff_eq.mpr h
    simp only[List.lookup,hb,if_pos (h.trans hk)]
   ·have hb:(g == k)=false:=beq_eq_false_iff_ne.mpr h
    simp only[List.lookup,hb,if_neg (fun e:g=f=>h (e.trans hk.symm))]
  ·rw[if_neg hk]
   by_cases h:g=k
   ·have hb:(g == k)=true:=beq_iff_eq.mpr h
    simp only[List.lookup,hb,if_neg (fun e:g=f=>hk (h.symm.trans e))]
   ·have hb:(g == k)=false:=beq_eq_false_iff_ne.mpr h
    simp only[List.lookup,hb]
    exact ih
theorem Zfy(f:Str)(v:V):∀fs:List (Str×V),f∈(Zt f v fs).map (·.1)∧∀g,g∈fs.map (·.1)→g∈(Zt f v fs).map (·.1)
 | []=>⟨by simp[Zt],fun g h=>by simp at h⟩
 | (k,x)::r=>by
  obtain⟨i1,i2⟩:=Zfy f v r
  rw[show Zt f v ((k,x)::r)=(if k=f then (k,v)::r else (k,x)::Zt f v r) from rfl]
  by_cases hk:k=f
  ·rw[if_pos hk]
   subst hk
   exact⟨by simp,fun g h=>by simpa using h⟩
  ·rw[if_neg hk]
   refine⟨?_,fun g h=>?_⟩
   ·rw[Qj]
    exact Qv _ i1
   ·rw[Qj]at h ⊢
    rcases QI.mp h with e|e
    ·exact List.mem_cons.mpr (.inl e)
    ·exact Qv _ (i2 g e)
theorem ZfU(f:Str)(v:V):∀fs:List (Str×V),(Zt f v fs).length≤fs.length+1
 | []=>by simp[Zt]
 | (k,x)::r=>by
  have ih:=ZfU f v r
  rw[show Zt f v ((k,x)::r)=(if k=f then (k,v)::r else (k,x)::Zt f v r) from rfl]
  by_cases hk:k=f
  ·rw[if_pos hk,QK,QK];omega
  ·rw[if_neg hk,QK,QK];omega
theorem Zdz.some_of{v:V}{o:Option Value}(r:Zdz (some v) o):∃u,o=some u∧ZI v u:=by
 cases o with
 | none=>exact(show False from r).elim
 | some u=>exact⟨u,rfl,r⟩
theorem Zdz.none_of{o:Option Value}(r:Zdz none o):o=none:=by
 cases o with
 | none=>rfl
 | some u=>exact(show False from r).elim
theorem ZlR{v:V}{u:Value}(r:ZI v u):PySem.W.handedIn u=true:=by
 cases v with
 | non=>cases (show u=Value.none from r);rfl
 | bl b=>cases (show u=Value.bool b from r);rfl
 | int i=>obtain⟨t,e⟩:=(show ∃t,u=Value.int i t from r);cases e;rfl
 | str x=>obtain⟨t,e⟩:=(show ∃t,u=Value.str x t from r);cases e;rfl
 | byt b=>obtain⟨t,e⟩:=(show ∃t,u=Value.bytes b t from r);cases e;rfl
 | flt b=>obtain⟨t,e⟩:=(show ∃t,u=Value.float b t from r);cases e;rfl
 | ref a=>cases (show u=Value.ref a from r);rfl
 | ty n=>cases (show u=Value.type n from r);rfl
section
variable {P:Program} {w:World} {H H':Hp} {h h':Heap} {a C dx:Addr} {fs fs':List (Str×V)}
theorem Zfc(hok:HOk P w H h)(e:H a=some (.ins C dx fs)):∃mA,Zj5 h a dx C mA∧(∀f,Zdz (fs.lookup f) (mA f))∧PySem.Within mA (fs.map (·.1))∧fs.length≤1000∧H dx=some (.own a):=by
 obtain⟨d,z,ne,ob,mA,n,r,q⟩:=(show Z7 P w H h a (.ins C dx fs) from hok a _ e)
 exact⟨mA,⟨ob,n,ne⟩,r,q,z,d⟩
end
structure Cls (K:PySem.W.Frag) (C:Addr):Prop where
 pg:PySem.W.plainGet K C Str.empty=true
 hd:PySem.W.hasDictIn K C=true
 po:PySem.W.plainOver K C=true
 sa:PySem.W.findIn K (.ref C) "__setattr__" = some (some (.builtin "object.__setattr__"))
theorem Cls.get{K:PySem.W.Frag}{C:Addr}(c:Cls K C)(f:Str):PySem.W.plainGet K C f=true:=c.pg
def Zbj(K:PySem.W.Frag)(C:Addr)(f:Str):Prop:=PySem.W.findIn K (.ref C) f=some none
theorem Zbj.taker{K:PySem.W.Frag}{C:Addr}{f:Str}(n:Zbj K C f):PySem.W.takerIn K C f=some none:=by
 unfold PySem.W.takerIn
 rw[show PySem.W.findIn K (.ref C) f=some none from n]
 rfl
structure Con (K:PySem.W.Frag) (C:Addr) (f:Str) (v:V) (u:Value):Prop where
 at_:PySem.W.findIn K (.ref C) f=some (some u)
 rel:ZI v u
 get:PySem.W.specialIn K u "__get__" = some none
 cp:PySem.W.copiedNames.contains f=false
structure Zmz (K:PySem.W.Frag) (C:Addr) (m:Str) (f:Addr):Prop where
 at_:PySem.W.findIn K (.ref C) m=some (some (.ref f))
 fn:PySem.W.isFn K (.ref f)=true
 kp:PySem.W.keepIn K (.ref f)=true
section
variable {X:Cx} {pins:List (Addr×Obj)} {σ:St} {H:Hp} {s:Shared} {a C dx:Addr} {fs:List (Str×V)} {f:Str} {v:V} {A:Around} {E:Value→Shared→Prop}
theorem ZgW{b:Bool}{Q:Value→Shared→Prop}(I:Inv X pins σ H s)(e:H a=some (.ins C dx fs))(c:Cls X.K C)(n:Zbj X.K C f)(l:fs.lookup f=some v)
  (h:∀u s',Inv X pins σ H s'→ZI v u→Q u s'):wpAny (model X.prog X.w) A (getAttr (.ref a) f b) Q E s:=by
 obtain⟨mA,O,r,_,_,_⟩:=Zfc I.hok e
 obtain⟨u,hu,ru⟩:=Zdz.some_of (v:=v) (o:=mA f) (by rw[← l];exact r f)
 exact Zo8 I.kIn O (c.get f) c.hd n hu (ZlR ru) (h u _ (I.tok _) ru)
theorem Zhe{m:Str}{g:Addr}{pl:Sem Bool}{Q:Value×List Value→Shared→Prop}(I:Inv X pins σ H s)(e:H a=some (.ins C dx fs))(c:Cls X.K C)(k:Zmz X.K C m g)(l:fs.lookup m=none)
  (h:Q (.ref g,[.ref a]) s):wpAny (model X.prog X.w) A (getMethod (.ref a) m pl) Q E s:=by
 obtain⟨mA,O,r,_,_,_⟩:=Zfc I.hok e
 have hn:mA m=none:=Zdz.none_of (by rw[← l];exact r m)
 exact ZnW I.kIn O (c.get m) k.at_ k.fn hn h
theorem Zhf{y:V}{u:Value}{Q:Unit→Shared→Prop}(I:Inv X pins σ H s)(e:H a=some (.ins C dx fs))(c:Cls X.K C)(n:Zbj X.K C f)(hl:fs.length<1000)(ry:ZI y u)
  (h:∀s',Inv X pins σ (upd H a (.ins C dx (Zt f y fs))) s'→Q () s'):wpAny (model X.prog X.w) A (setAttr (.ref a) f u) Q E s:=by
 obtain⟨mA,O,r,wi,_,ho⟩:=Zfc I.hok e
 have hz:(fs.map (·.1)).length≤sizeLine:=by rw[Qa,sizeLine_eq];omega
 refine Zpt I.kIn O c.sa c.po n.taker c.hd wi hz fun h' O' sb=>h _ ?_
 have hd:∃o,h'.get? dx=some o:=let ⟨o,_,_,e',_⟩:=O'.ns;⟨o,e'⟩
 refine I.write (x:=a) (e:=dx) (by rw[e];exact True.intro) (.inr ho) (fun b q hb z=>(sb.2 b hb).trans z) hd ?_
 refine⟨by rw[Zb O.ne];exact ho,?_,O.ne,O'.obj,_,O'.ns,fun g=>?_,fun g hg=>?_⟩
 ·have:=ZfU f y fs;omega
 ·show Zdz ((Zt f y fs).lookup g) (if g=f then some u else mA g)
  rw[Zl]
  by_cases q:g=f
  ·rw[if_pos q,if_pos q];exact ry
  ·rw[if_neg q,if_neg q];exact r g
 ·by_cases q:g=f
  ·rw[q];exact(Zfy f y fs).1
  ·refine(Zfy f y fs).2 g (wi g fun z=>hg ?_)
   show (if g=f then some u else mA g)=none
   rw[if_neg q];exact z
theorem Inv.made(I:Inv X pins σ H s):Inv X pins σ (upd (upd H s.heap.objs.size (.own (s.heap.objs.size+1))) (s.heap.objs.size+1) (.ins C s.heap.objs.size []))
  { s with heap:=(s.heap.push PySem.W.emptyDict).push (PySem.W.instObj C s.heap.objs.size) }:=by
 have e1:(s.heap.push PySem.W.emptyDict).get? s.heap.objs.size=some PySem.W.emptyDict:=Qq s.heap rfl
 have e2:((s.heap.push PySem.W.emptyDict).push (PySem.W.instObj C s.heap.objs.size)).get? (s.heap.objs.size+1)=some (PySem.W.instObj C s.heap.objs.size):=by
  have:=Qq (s.heap.push PySem.W.emptyDict) (o:=PySem.W.instObj C s.heap.objs.size) rfl
  rwa [Q4]at this
 have e3:(s.heap.push PySem.W.emptyDict).Ns s.heap.objs.size (fun _=>none):=⟨PySem.W.emptyDict,#[],_,e1,rfl,(fun e he=>absurd he (by simp)),fun _=>rfl⟩
 have I1:=I.laid (a:=s.heap.objs.size) (o:=.own (s.heap.objs.size+1)) (h':=s.heap.push PySem.W.emptyDict) (t':=s.toks) (fun b u q=>Qc _ q) (Qh _) ⟨_,e1⟩
 refine I1.laid (a:=s.heap.objs.size+1) (o:=.ins C s.heap.objs.size []) (t':=s.toks) (fun b u q=>Qc _ q) (Nat.le_of_eq (Q4 _ _)) ?_
 have ne:s.heap.objs.size≠s.heap.objs.size+1:=QD (Nat.lt_succ_self _)
 refine⟨by rw[Zb ne,Zd],Qw _,ne,e2,fun _=>none,(Heap.Ns1.of_empty e3).at fun o q=>Qc _ q,fun _=>True.intro,fun y hy=>absurd rfl hy⟩
theorem ZpB{prog:Program}{w:World}{env:Env}{e:Expr}{f:Str}{pos:Pos}{s:Shared}{Q:Value→Shared→Prop}(hb:attributeBase e f env (eval e env)=eval e env)
  (h:wpAny (model prog w) A (eval e env) (fun o s₁=>wpAny (model prog w) A (getAttr o f true) Q E s₁) E s):wpAny (model prog w) A (eval (.Attribute e f pos) env) Q E s :=
 Attribute_any_ h (by rw[arm_eval_Attribute,hb])
end
def ZsS(K:PySem.W.Frag)(ta:TE)(f:Str):TE:=fun σ H Q=>ta σ H fun x H1=>∃a C dx fs v,x=.ref a∧H1 a=some (.ins C dx fs)∧Cls K C∧Zbj K C f∧fs.lookup f=some v∧Q v H1
def tCon(K:PySem.W.Frag)(ta:TE)(f:Str):TE:=fun σ H Q=>ta σ H fun x H1=>∃a C dx fs v u,x=.ref a∧H1 a=some (.ins C dx fs)∧Cls K C∧Con K C f v u∧fs.lookup f=none∧Q v H1
def ZsC(K:PySem.W.Frag)(ta tv:TE)(f:Str):TS:=fun D σ H=>tv σ H fun y H1=>ta σ H1 fun x H2=>∃a C dx fs,x=.ref a∧H2 a=some (.ins C dx fs)∧Cls K C∧Zbj K C f∧fs.length<1000 ∧
 D.nx σ (upd H2 a (.ins C dx (Zt f y fs)))
def Zrv(X:Cx)(op:Operator)(rd:V→V→Hp→VK→Prop):Prop :=
 ∀ (pins:List (Addr×Obj)) (s:Shared) (σ:St) (H:Hp) (x y:V) (u v:Value) (Q:VK),Inv X pins σ H s→ZI x u→ZI y v→rd x y H Q→wpAny (model X.prog X.w) X.A (inplaceOp op u v) (EP X pins σ Q) X.xe s
def Zop(K:PySem.W.Frag)(ta tv:TE)(rd:V→V→Hp→VK→Prop)(f:Str):TS:=fun D σ H=>ta σ H fun x H1=>∃a C dx fs v,x=.ref a∧H1 a=some (.ins C dx fs)∧Cls K C∧Zbj K C f∧fs.lookup f=some v ∧
 tv σ H1 fun y H2=>rd v y H2 fun z H3=>∃dx' fs',H3 a=some (.ins C dx' fs')∧fs'.length<1000∧D.nx σ (upd H3 a (.ins C dx' (Zt f z fs')))
section
variable {X:Cx} {o e value:Expr} {f:Str} {pos pos' tpos:Pos} {ta tv:TE}
theorem ZO(he:PE X e ta)(hb:attributeBase e f X.env (eval e X.env)=eval e X.env):PE X (.Attribute e f pos) (ZsS X.K ta f):=by
 intro pins s σ H Q I h
 refine ZpB hb (thn (he pins s σ H _ I h) fun u s1 ⟨x,H1,I1,rx,a,C,dx,fs,v,ex,ea,c,n,l,q⟩=>?_)
 subst ex
 obtain rfl:u=Value.ref a:=rx
 exact ZgW I1 ea c n l fun u' s2 I2 ru=>⟨v,H1,I2,ru,q⟩
theorem ZbB(ha:PE X o ta)(hv:PE X value tv)(hs:swapsWith value (some (.Attribute o f pos')) pos.line X.env=pure false):PS X (.Assign [.Attribute o f pos'] value pos) (ZsC X.K ta tv f):=by
 intro pins s σ H D I h
 refine plainObj_wpAny_Assign_Attribute (thn (hv pins s σ H _ I h) fun u s1 ⟨y,H1,I1,ry,q⟩=>thn (ha pins s1 σ H1 _ I1 q) fun ov s2 ⟨x,H2,I2,rx,a,C,dx,fs,ex,ea,c,n,l,q2⟩=>?_) hs
 subst ex
 obtain rfl:ov=Value.ref a:=rx
 exact Zhf I2 ea c n l ry fun s3 I3=>⟨σ,_,I3,q2⟩
theorem Zde{op:Operator}{rd:V→V→Hp→VK→Prop}(ha:PE X o ta)(hv:PE X value tv)(hop:Zrv X op rd):PS X (.AugAssign (.Attribute o f tpos) op value pos) (Zop X.K ta tv rd f):=by
 intro pins s σ H D I h
 refine wpAny_AugAssign_AttributeAny (thn (ha pins s σ H _ I h) fun ov s1 ⟨x,H1,I1,rx,a,C,dx,fs,v,ex,ea,c,n,l,q⟩=>?_)
 subst ex
 obtain rfl:ov=Value.ref a:=rx
 refine ZgW I1 ea c n l fun u s2 I2 ru=>thn (hv pins s2 σ H1 _ I2 q) fun w3 s3 ⟨y,H2,I3,ry,q3⟩=>thn (hop pins s3 σ H2 v y u w3 _ I3 ru ry q3) fun w4 s4 ⟨z,H3,I4,rz,dx',fs',ea',l',q4⟩=>?_
 exact Zhf I4 ea' c n l' rz fun s5 I5=>⟨σ,_,I5,q4⟩
def Zst:V→V→Hp→VK→Prop:=fun x y H Q=>∃i j,x=.int i∧y=.int j∧Q (.int (i+j)) H
def rSub:V→V→Hp→VK→Prop:=fun x y H Q=>∃i j,x=.int i∧y=.int j∧Q (.int (i-j)) H
theorem Zgp:Zrv X .Add Zst:=by
 rintro pins s σ H x y u v Q I rx ry ⟨i,j,rfl,rfl,q⟩
 obtain⟨t,rfl⟩:=(show ∃t,u=Value.int i t from rx)
 obtain⟨t',rfl⟩:=(show ∃t',v=Value.int j t' from ry)
 exact PyProof.Rows.iadd_int ⟨.int (i+j),H,I.tok _,⟨_,rfl⟩,q⟩
end
section
variable {X:Cx} {pins:List (Addr×Obj)} {σ:St} {H:Hp} {s:Shared} {A:Around} {E:Value→Shared→Prop} {Q:Value→Shared→Prop} {c:Value} {b:Bool}
inductive ZeS (K:PySem.W.Frag) (H:Hp):V→Value→Prop where
 | non:ZeS K H .non (.type "NoneType")
 | bl (x:Bool):ZeS K H (.bl x) (.type "bool")
 | int (i:Int):ZeS K H (.int i) (.type "int")
 | str (x:Str):ZeS K H (.str x) (.type "str")
 | flt (x:UInt64):ZeS K H (.flt x) (.type "float")
 | lst {a:Addr} {xs:List V} (e:H a=some (.lst xs)):ZeS K H (.ref a) (.type "list")
 | frz {a:Addr} {o:Obj} {xs:List V} (e:H a=some (.frz o (.lst xs))):ZeS K H (.ref a) (.type "list")
 | tup {a:Addr} {xs:List V} (e:H a=some (.tup xs)):ZeS K H (.ref a) (.type "tuple")
 | dK {a:Addr} {kvs:List (Key×V)} (e:H a=some (.dK kvs)):ZeS K H (.ref a) (.type "dict")
 | dT {a:Addr} {kvs:List (List Key×V)} (e:H a=some (.dT kvs)):ZeS K H (.ref a) (.type "dict")
 | ins {a C dx:Addr} {fs:List (Str×V)} (e:H a=some (.ins C dx fs)) (cl:Cls K C) (ha:PySem.W.findIn K (.ref C) "__class__" = some (some (.builtin "object.__class__")))
   (hn:PySem.W.specialIn K (.builtin "object.__class__") "__get__" = some (some (.builtin "getset_descriptor.__get__"))) (htk:PySem.W.takesIn K (.builtin "object.__class__")=some true)
   (hm:PySem.W.mroIn K C (.type "object")=some true):ZeS K H (.ref a) (.ref C)
theorem ZlO{x:V}{u t:Value}(I:Inv X pins σ H s)(rx:ZI x u)(ty:ZeS X.K H x t)(e:PySem.W.kitOne X.K t c=some b)(h:∀tk,Q (.bool b) { s with toks:=tk }) :
  wpAny (model X.prog X.w) A (call (.builtin "isinstance") [u,c]) Q E s:=by
 cases ty with
 | non=>cases (show u=Value.none from rx);exact QX PySem.W.kitx_none I.kIn True.intro e (fun z=>nomatch z) h
 | bl y=>cases (show u=Value.bool y from rx);exact QX PySem.W.kitx_bool I.kIn True.intro e (fun z=>nomatch z) h
 | int i=>obtain⟨t,q⟩:=(show ∃t,u=Value.int i t from rx);cases q;exact QX PySem.W.kitx_int I.kIn True.intro e (fun z=>nomatch z) h
 | str y=>obtain⟨t,q⟩:=(show ∃t,u=Value.str y t from rx);cases q;exact QX PySem.W.kitx_str I.kIn True.intro e (fun z=>nomatch z) h
 | flt y=>obtain⟨t,q⟩:=(show ∃t,u=Value.float y t from rx);cases q;exact QX PySem.W.kitx_float I.kIn True.intro e (fun z=>nomatch z) h
 | @lst a xs ea =>
  cases (show u=Value.ref a from rx)
  obtain⟨_,_,n,_,h1⟩:=(show Z7 X.prog X.w H s.heap a (.lst xs) from I.hok a _ ea)
  exact QX QaM I.kIn ⟨_,h1,rfl⟩ e (fun z=>nomatch z) h
 | @frz a ob xs ea =>
  cases (show u=Value.ref a from rx)
  obtain⟨_,_,_,n,_,h1⟩:=(show Z7 X.prog X.w H s.heap a (.frz ob (.lst xs)) from I.hok a _ ea)
  exact QX QaM I.kIn ⟨_,h1,rfl⟩ e (fun z=>nomatch z) h
 | @tup a xs ea =>
  cases (show u=Value.ref a from rx)
  obtain⟨_,_,_,p⟩:=(show Z7 X.prog X.w H s.heap a (.tup xs) from I.hok a _ ea)
  obtain⟨o,h1,h2,_⟩:=p
  exact QX PySem.W.kitx_tuple I.kIn ⟨o,h1,h2⟩ e (fun z=>nomatch z) h
 | @dK a kvs ea =>
  cases (show u=Value.ref a from rx)
  obtain⟨_,_,vs,_,p⟩:=(show Z7 X.prog X.w H s.heap a (.dK kvs) from I.hok a _ ea)
  obtain⟨o,es,ep,h1,h2,_⟩:=p
  exact QX QaN I.kIn ⟨o,h1,h2.1⟩ e (fun z=>nomatch z) h
 | @dT a kvs ea =>
  cases (show u=Value.ref a from rx)
  obtain⟨_,_,xs,_,o,es,ep,h1,h2,_⟩:=(show Z7 X.prog X.w H s.heap a (.dT kvs) from I.hok a _ ea)
  exact QX QaN I.kIn ⟨o,h1,h2.1⟩ e (fun z=>nomatch z) h
 | @ins a C dx fs ea cl ha hn htk hm =>
  cases (show u=Value.ref a from rx)
  obtain⟨mA,O,_⟩:=Zfc I.hok ea
  obtain⟨od,J,_⟩:=O.look
  exact QX (PySem.W.kitx_own (cl.get _) cl.hd ha hn htk hm) I.kIn J e (fun z=>nomatch z) h
end
structure ZaV (k:Nat) (A:Around):Prop where
 hd:A.handled=none
 dp:A.depth+3*k+5<recursionLimit
 un:A.units+16*k+200<cLine
 gd:A.guards=some []
theorem ZaV.mono{j k:Nat}{A:Around}(r:ZaV k A)(h:j≤k):ZaV j A:=⟨r.hd,by have:=r.dp;omega,by have:=r.un;omega,r.gd⟩
theorem ZaV.deeper{k:Nat}{A:Around}(r:ZaV (k+1) A)(env:Env):ZaV k (A.deeper env) :=
 ⟨r.hd,by have:=r.dp;show A.depth+1+3*k+5<_;omega,by have:=r.un;show A.units+3+16*k+200<_;omega,r.gd⟩
theorem Zj7{A:Around}{C:Addr}{us:List Value}{kw:List (Str×Value)}:(A.under (.builtin "type.__call__" ⟨.ref C::us,kw⟩)).depth=A.depth+1:=by
 first|rfl|simp[Around.under,Code.weight,Code.isCreation,Code.isGuard,Code.isCaller,Code.frames,Code.isFrame,guardIds]
theorem ZkA{A:Around}{C:Addr}{us:List Value}{kw:List (Str×Value)}:(A.under (.builtin "type.__call__" ⟨.ref C::us,kw⟩)).units=A.units+1:=by
 first|rfl|simp[Around.under,Code.cUnits,Code.frames,Code.isFrame]
theorem ZaV.make{k:Nat}{A:Around}(r:ZaV (k+1) A)(C:Addr)(us:List Value)(kw:List (Str×Value)):ZaV k (A.under (.builtin "type.__call__" ⟨.ref C::us,kw⟩)) :=
 ⟨r.hd,by have:=r.dp;rw[Zj7];omega,by have:=r.un;rw[ZkA];omega,by rw[show (A.under (.builtin "type.__call__" ⟨.ref C::us,kw⟩)).guards=A.guards from by first|rfl|simp[Around.under,pushGuards,Code.guards,Code.isGuard,guardIds]];exact r.gd⟩
theorem ZaV.depth{k:Nat}{A:Around}(r:ZaV k A):A.depth<recursionLimit:=by have:=r.dp;omega
theorem ZaV.units{k:Nat}{A:Around}(r:ZaV k A):A.units+64<cLine:=by have:=r.un;omega
def ZqL:TA:=fun _ H Q=>Q [] H
def ZrX(ta:TE)(tr:TA):TA:=fun σ H Q=>ta σ H fun x H1=>tr σ H1 fun xs H2=>Q (x::xs) H2
section
variable {X:Cx} {e:Expr} {es:List Expr} {te:TE} {t:TA} {pos:Pos}
theorem Ze:PA X [] ZqL:=fun _ _ _ _ H Q I h=>Calls.spliced_nil ⟨[],H,I,.nil,h⟩
theorem Za(ha:PE X e te)(hr:PA X es t)(hs:starEach (e::es) X.env=(false,eval e X.env)::starEach es X.env:=by rfl):PA X (e::es) (ZrX te t):=by
 intro pos pins s σ H Q I h
 rw[hs]
 show wpAny _ _ (spliced ((false,eval e X.env)::backTo pos (starEach es X.env))) _ _ s
 refine Calls.spliced_cons (thn (ha pins s σ H _ I h) fun u s1 ⟨x,H1,I1,r1,q1⟩=>?_)
 exact thn (hr pos pins s1 σ H1 _ I1 q1) fun us s2 ⟨xs,H2,I2,r2,q2⟩=>⟨x::xs,H2,I2,.cons r1 r2,q2⟩
def ZsA(t:TA):TE:=fun σ H Q=>t σ H fun xs H1=>xs.length≤sizeLine∧∀p,H1 p=none→Q (.ref p) (upd H1 p (.tup xs))
def Zsv(t:TA):TE:=fun σ H Q=>t σ H fun xs H1=>xs.length≤sizeLine∧∀p,H1 p=none→Q (.ref p) (upd H1 p (.lst xs))
theorem ZaC{x1}(h:PA X es t):PE X (.Tuple es x1 pos) (ZsA t):=by
 intro pins s σ H Q I hq
 refine wpAny_Tuple_spliced (thn (h pos pins s σ H _ I hq) fun us s1 ⟨xs,H1,I1,r,z,q⟩=>⟨by rw[← r.length];exact z,?_⟩)
 have hf:H1 s1.heap.objs.size=none:=I1.hok.fresh (Qh _)
 refine⟨.ref s1.heap.objs.size,upd H1 s1.heap.objs.size (.tup xs),I1.laid (t':=s1.toks) (fun b u e=>Qc _ e) (Qh _) ?_,rfl,q _ hf⟩
 exact⟨z,us,r,⟨_,Qq _ rfl,rfl,_,rfl⟩⟩
theorem Zax(h:PA X es t):PE X (.List es pos) (Zsv t):=by
 intro pins s σ H Q I hq
 refine wpAny_List_spliced (thn (h pos pins s σ H _ I hq) fun us s1 ⟨xs,H1,I1,r,z,q⟩=>⟨by rw[← r.length];exact z,?_⟩)
 have hf:H1 s1.heap.objs.size=none:=I1.hok.fresh (Qh _)
 refine⟨.ref s1.heap.objs.size,upd H1 s1.heap.objs.size (.lst xs),I1.laid (t':=s1.toks) (fun b u e=>Qc _ e) (Qh _) ?_,rfl,q _ hf⟩
 exact⟨z,us,0,r,Qq _ rfl⟩
end
abbrev Sp:=List V→Hp→VK→XK→Prop
abbrev CXT:=List Env→Hp→Shared→XK→Value→Shared→Prop
structure ZkG (P:Program) (w:World) (K:PySem.W.Frag) (mg:Str→Option Value) (base:Heap) (A:Around) (outer:List Env) (s:Shared) (H:Hp):Prop where
 frames:A.frames=some outer
 mod:Mod K mg base
 bs:∀b o,base.get? b=some o→s.heap.get? b=some o∧H b=none
 bsz:base.objs.size≤s.heap.objs.size
 funs:s.heap.FunFrames base outer
 frf:∀b∈frs outer,H b=none
 hok:HOk P w H s.heap
 bare:AllBare s.gens
def CE(outer:List Env)(P:Program)(w:World)(H:Hp)(s:Shared)(Q:VK)(u:Value)(s':Shared):Prop :=
 ∃v H',s'.os=s.os∧AllBare s'.gens∧Un (frs outer) [] H H' s.heap s'.heap∧HOk P w H' s'.heap∧ZI v u∧Q v H'
def CR(CX:CXT)(outer:List Env)(P:Program)(w:World)(H:Hp)(s:Shared)(Q:VK)(E:XK)(r:Result)(s':Shared):Prop :=
 match r with
 | .ok (.ret u)=>CE outer P w H s Q u s'
 | .ok _=>False
 | .error e=>CX outer H s E e s'
structure Zer (P:Program) (w:World) (K:PySem.W.Frag) (mg:Str→Option Value) (base:Heap) (CX:CXT) (k:Nat) (f:Addr) (fd:FuncData) (ps:List Str) (sp:Sp):Prop where
 len:∀vs H Q E,sp vs H Q E→vs.length=ps.length
 run:∀ (A:Around) (outer:List Env) (s:Shared) (H:Hp) (args:Args) (us:List Value) (vs:List V) (Q:VK) (E:XK),ZaV k A→ZkG P w K mg base A outer s H→BindsTo s fd args (ps.zip us)→ZH vs us→sp vs H Q E →
  codeAny (model P w) A (.call (.ref f) args) (CR CX outer P w H s Q E) s
theorem ZkG.make{P:Program}{w:World}{K:PySem.W.Frag}{mg:Str→Option Value}{base:Heap}{A:Around}{outer:List Env}{s:Shared}{H:Hp}(e:ZkG P w K mg base A outer s H)(C:Addr)(us:List Value)(kw:List (Str×Value)) :
  ZkG P w K mg base (A.under (.builtin "type.__call__" ⟨.ref C::us,kw⟩)) outer s H:=⟨by first|exact e.frames|(simpa [Around.under,Code.envs,Code.isFrame,pushEnvs] using e.frames),e.mod,e.bs,e.bsz,e.funs,e.frf,e.hok,e.bare⟩
section
variable {X:Cx} {pins:List (Addr×Obj)} {σ:St} {H:Hp} {s s':Shared}
theorem Inv.env0(I:Inv X pins σ H s):ZkG X.prog X.w X.K X.mg X.base X.A X.stack s H :=
 ⟨I.ok.frames,I.ok.mod,I.bs,Qy I.ok.bsz I.sz,I.stack,I.stkFree,I.hok,I.bare⟩
theorem Inv.after{Q:VK}{u:Value}(I:Inv X pins σ H s)(h:CE X.stack X.prog X.w H s Q u s'):EP X pins σ Q u s':=by
 obtain⟨v,H',os,bare,un,hok,r,q⟩:=h
 obtain⟨hh,g,d,t,os'⟩:=s'
 obtain rfl:os'=s.os:=os
 exact⟨v,H',I.call (h':=hh) (g':=g) (d':=d) (t':=t) (ch:=[]) un hok bare (fun b z=>absurd z (by simp)),r,q⟩
end
def ZpJ(sp:Sp)(dvs:List V)(E:XK)(t:TA):TE:=fun σ H Q=>t σ H fun vs H1=>sp (vs++dvs) H1 Q E
def Zk5(C:Addr)(m:Str)(sp:Sp)(dvs:List V)(E:XK)(ta:TE)(t:TA):TE:=fun σ H Q=>ta σ H fun x H1=>∃a dx fs,x=.ref a∧H1 a=some (.ins C dx fs)∧fs.lookup m=none ∧
 t σ H1 fun vs H2=>sp (x::(vs++dvs)) H2 Q E
def ZpW(C:Addr)(sp:Sp)(dvs:List V)(E:XK)(t:TA):TE:=fun σ H Q=>t σ H fun vs H1=>∀x dx,H1 x=none→H1 dx=none→dx≠x →
 sp (.ref x::(vs++dvs)) (upd (upd H1 dx (.own x)) x (.ins C dx [])) (fun v H2=>v=.non∧Q (.ref x) H2) E
def ZcB(K:PySem.W.Frag)(fd:FuncData)(ps:List Str)(ds:List Value):Prop :=
 ∀ (s:Shared) (us:List Value),K.In s.heap→(us++ds).length=ps.length→BindsTo s fd ⟨us,[]⟩ (ps.zip (us++ds))
theorem ZcB.all{K:PySem.W.Frag}{fd:FuncData}{ps:List Str}(h:∀us:List Value,us.length=ps.length→bindArgs fd ⟨us,[]⟩=pure (ps.zip us)):ZcB K fd ps []:=fun s us _ hl=>by
 rw[QaI]at hl ⊢
 exact .of_eq (h us hl)
def ZeF(CX:CXT)(X:Cx)(E:XK):Prop:=∀ (pins:List (Addr×Obj)) (σ:St) (H:Hp) (s:Shared) (e:Value) (s':Shared),Inv X pins σ H s→CX X.stack H s E e s'→X.xe e s'
section
variable {X:Cx} {CX:CXT} {k:Nat} {f C:Addr} {fd:FuncData} {ps:List Str} {sp:Sp} {dvs:List V} {ds:List Value} {E:XK} {x m:Str} {p pos apos:Pos} {e o:Expr} {es:List Expr} {ta:TE} {t:TA}
theorem ZkJ{pins:List (Addr×Obj)}{σ:St}{H:Hp}{s:Shared}{Q:VK}{us:List Value}{vs:List V}(F:Zer X.prog X.w X.K X.mg X.base CX k f fd ps sp)(hr:ZaV k X.A)(hb:ZcB X.K fd ps ds)(hd:ZH dvs ds)(hx:ZeF CX X E)
  (I:Inv X pins σ H s) (r:ZH vs us) (h:sp (vs++dvs) H Q E):wpAny (model X.prog X.w) X.A (call (.ref f) us) (EP X pins σ Q) X.xe s:=by
 have r2:ZH (vs++dvs) (us++ds):=r.append hd
 have hl:(us++ds).length=ps.length:=by rw[← r2.length];exact F.len _ _ _ _ h
 refine wpAny_call (codeAny_mono (F.run X.A X.stack s H ⟨us,[]⟩ (us++ds) (vs++dvs) Q E hr I.env0 (hb s us I.kIn hl) r2 h) fun r s' hq=>?_)
 cases r with
 | error e=>exact hx pins σ H s e s' I hq
 | ok fl =>
  cases fl with
  | ret u=>exact I.after hq
  | next=>exact False.elim hq
  | brk=>exact False.elim hq
  | cont=>exact False.elim hq
theorem Zpn(F:Zer X.prog X.w X.K X.mg X.base CX k f fd ps sp)(hr:ZaV k X.A)(hg:Gl X x)(hm:X.mg x=some (.ref f))(hk:PySem.W.keepIn X.K (.ref f)=true)(hb:ZcB X.K fd ps ds)(hd:ZH dvs ds)(hx:ZeF CX X E)
  (ha:PA X (e::es) t) (hdb:(x == ("__debug__" : Str))=false:=by decide) (he:starEach (e::es) X.env=(false,eval e X.env)::starEach es X.env:=by rfl) (hpl:(backTo pos (starEach es X.env)).any (·.1)=false:=by rfl) :
  PE X (.Call (.Name x p) (e::es) [] pos) (ZpJ sp dvs E t):=by
 intro pins s σ H Q I h
 refine wpAny_Call_Name_kw (ZiC I hg hm ?_ hdb)
 refine PySem.W.callWith_K (h₀:=X.base) I.ok.mod.kin hk (thn (ha pos pins s σ H _ I h) fun us s1 ⟨vs,H1,I1,r,q⟩=>⟨I1.kIn,?_⟩) he hpl
 exact ZkJ F hr hb hd hx I1 r q
theorem Zpf{pl:Sem Bool}(he:PE X o ta)(c:Cls X.K C)(hm:Zmz X.K C m f)(F:Zer X.prog X.w X.K X.mg X.base CX k f fd ps sp)(hr:ZaV k X.A)(hb:ZcB X.K fd ps ds)(hd:ZH dvs ds)(hx:ZeF CX X E)(ha:PA X (e::es) t)
  (hst:starEach (e::es) X.env=(false,eval e X.env)::starEach es X.env:=by rfl) (hpl:(backTo pos (starEach es X.env)).any (·.1)=false:=by rfl)
  (ht:eval (.Call (.Attribute o m apos) (e::es) [] pos) X.env=(do
   let ov ← eval o X.env
   standAt apos.atName
   let (f,first) ← holding [ov] (getMethod ov m pl)
   callWith pos f first (backTo pos (starEach (e::es) X.env)) (backToKw pos (keywordEach [] X.env))):=by rfl) :
  PE X (.Call (.Attribute o m apos) (e::es) [] pos) (Zk5 C m sp dvs E ta t):=by
 intro pins s σ H Q I h
 refine PySem.W.methodCall_KW (pl:=pl) (thn (he pins s σ H _ I h) fun u s1 ⟨x,H1,I1,rx,a,dx,fs,ex,ea,l,q⟩=>?_) ht
 subst ex
 obtain rfl:u=Value.ref a:=rx
 refine Zhe I1 ea c hm l ?_
 refine PySem.W.callWith_K (first:=[.ref a]) (h₀:=X.base) I.ok.mod.kin hm.kp (thn (ha pos pins s1 σ H1 _ I1 q) fun us s2 ⟨vs,H2,I2,r,q2⟩=>⟨I2.kIn,?_⟩) hst hpl
 exact ZkJ (us:=.ref a::us) (vs:=.ref a::vs) F hr hb hd hx I2 (.cons rfl r) q2
theorem Znu{pl:Sem Bool}(he:PE X o ta)(c:Cls X.K C)(hm:Zmz X.K C m f)(F:Zer X.prog X.w X.K X.mg X.base CX k f fd ps sp)(hr:ZaV k X.A)(hb:ZcB X.K fd ps ds)(hd:ZH dvs ds)(hx:ZeF CX X E)
  (ht:eval (.Call (.Attribute o m apos) [] [] pos) X.env=(do
   let ov ← eval o X.env
   standAt apos.atName
   let (f,first) ← holding [ov] (getMethod ov m pl)
   callWith pos f first (backTo pos (starEach [] X.env)) (backToKw pos (keywordEach [] X.env))):=by rfl) :
  PE X (.Call (.Attribute o m apos) [] [] pos) (Zk5 C m sp dvs E ta ZqL):=by
 intro pins s σ H Q I h
 refine PySem.W.methodCall_KW (pl:=pl) (thn (he pins s σ H _ I h) fun u s1 ⟨x,H1,I1,rx,a,dx,fs,ex,ea,l,q⟩=>?_) ht
 subst ex
 obtain rfl:u=Value.ref a:=rx
 refine Zhe I1 ea c hm l ?_
 exact PySem.W.callWith_K0 (first:=[.ref a]) I1.kIn hm.kp (ZkJ (us:=[.ref a]) (vs:=[.ref a]) F hr hb hd hx I1 (.cons rfl .nil) q)
structure Mk (K:PySem.W.Frag) (C f:Addr):Prop where
 makes:PySem.W.makesIn K C=true
 init:PySem.W.findIn K (.ref C) "__init__" = some (some (.ref f))
 fn:PySem.W.isFn K (.ref f)=true
 kp:PySem.W.keepIn K (.ref C)=true
theorem Zna{pins:List (Addr×Obj)}{σ:St}{H:Hp}{s:Shared}{Q:VK}{us:List Value}{vs:List V}(M:Mk X.K C f)(F:Zer X.prog X.w X.K X.mg X.base CX k f fd ps sp)(hr:ZaV (k+1) X.A)(hb:ZcB X.K fd ps ds)(hd:ZH dvs ds)
  (hx:ZeF CX X E) (I:Inv X pins σ H s) (r:ZH vs us)
  (h:∀x dx,H x=none→H dx=none→dx≠x→sp (.ref x::(vs++dvs)) (upd (upd H dx (.own x)) x (.ins C dx [])) (fun v H2=>v=.non∧Q (.ref x) H2) E) :
  wpAny (model X.prog X.w) X.A (call (.ref C) us) (EP X pins σ Q) X.xe s:=by
 have hq:=h (s.heap.objs.size+1) s.heap.objs.size (I.hok.fresh (Qa4 _)) (I.hok.fresh (Qh _)) (QD (Nat.lt_succ_self _))
 have I2:=Inv.made (C:=C) I
 have r2:ZH (V.ref (s.heap.objs.size+1)::(vs++dvs)) (Value.ref (s.heap.objs.size+1)::(us++ds)):=.cons rfl (r.append hd)
 have hl:(Value.ref (s.heap.objs.size+1)::us++ds).length=ps.length:=by
  have e:=r2.length
  rw[F.len _ _ _ _ hq]at e
  exact e.symm
 refine wpAny_call (Zmu (f:=f) I.kIn M.makes M.init (beq_iff_eq.mp M.fn) (codeAny_mono (F.run _ X.stack _ _ ⟨Value.ref (s.heap.objs.size+1)::us,[]⟩ (Value.ref (s.heap.objs.size+1)::(us++ds)) _ _ E (hr.make C us [])
  (I2.env0.make C us []) (hb _ (Value.ref (s.heap.objs.size+1)::us) I2.kIn hl) r2 hq) fun r s' hq'=>?_))
 cases r with
 | error e=>exact hx pins σ _ _ e s' I2 hq'
 | ok fl =>
  cases fl with
  | ret u =>
   obtain⟨v,H',I3,rv,ev,q3⟩:=I2.after hq'
   subst ev
   exact⟨rv,⟨V.ref (s.heap.objs.size+1),H',I3,rfl,q3⟩⟩
  | next=>exact False.elim hq'
  | brk=>exact False.elim hq'
  | cont=>exact False.elim hq'
theorem ZoI(M:Mk X.K C f)(F:Zer X.prog X.w X.K X.mg X.base CX k f fd ps sp)(hr:ZaV (k+1) X.A)(hg:Gl X x)(hm:X.mg x=some (.ref C))(hb:ZcB X.K fd ps ds)(hd:ZH dvs ds)(hx:ZeF CX X E)
  (ha:PA X (e::es) t) (hdb:(x == ("__debug__" : Str))=false:=by decide) (he:starEach (e::es) X.env=(false,eval e X.env)::starEach es X.env:=by rfl) (hpl:(backTo pos (starEach es X.env)).any (·.1)=false:=by rfl) :
  PE X (.Call (.Name x p) (e::es) [] pos) (ZpW C sp dvs E t):=by
 intro pins s σ H Q I h
 refine wpAny_Call_Name_kw (ZiC I hg hm ?_ hdb)
 refine PySem.W.callWith_K (h₀:=X.base) I.ok.mod.kin M.kp (thn (ha pos pins s σ H _ I h) fun us s1 ⟨vs,H1,I1,r,q⟩=>⟨I1.kIn,?_⟩) he hpl
 exact Zna M F hr hb hd hx I1 r q
end
def PK(X:Cx)(kws:List Keyword)(t:TA):Prop :=
 ∀ (pos:Pos) (pins:List (Addr×Obj)) (s:Shared) (σ:St) (H:Hp) (Q:List V→Hp→Prop),Inv X pins σ H s→t σ H Q→wpAny (model X.prog X.w) X.A (evalAll ((backToKw pos (keywordEach kws X.env)).map (·.2))) (AP X pins σ Q) X.xe s
section
variable {X:Cx} {CX:CXT} {k:Nat} {f C:Addr} {fd:FuncData} {ps ks:List Str} {sp:Sp} {E:XK} {x m:Str} {p pos apos kpos:Pos} {e o:Expr} {es:List Expr} {kws:List Keyword} {te ta:TE} {t tk:TA} {nm:Option Str}
structure KBinds (K:PySem.W.Frag) (fd:FuncData) (ps ks:List Str) (g:List Value→List Value→List Value) (gV:List V→List V→List V):Prop where
 to:∀ (s:Shared) (us ws:List Value),K.In s.heap→(g us ws).length=ps.length→BindsTo s fd ⟨us,ks.zip ws⟩ (ps.zip (g us ws))
 rel:∀ {vs:List V} {us:List Value} {zs:List V} {ws:List Value},ZH vs us→ZH zs ws→ZH (gV vs zs) (g us ws)
def tCallK(sp:Sp)(gV:List V→List V→List V)(E:XK)(t tk:TA):TE:=fun σ H Q=>t σ H fun vs H1=>tk σ H1 fun zs H2=>sp (gV vs zs) H2 Q E
variable {g:List Value→List Value→List Value} {gV:List V→List V→List V}
end
structure Zr (N P:List Str) (sc:Scope):Prop where
 kind:sc.kind=.function
 co:sc.isCoroutine=false
 gen:sc.isGenerator=false
 nd:N.Nodup
 pre:N.take P.length=P
 par:∀x∈P,sc.names.lookup x=some .local∨sc.names.lookup x=some .cell
 nofree:∀y∈sc.names,y.2≠.free
theorem Zh5{kindOf:Str→Option NameKind}{x:Str}:∀ {binds:List (Str×Value)} {m:Str→Option Value},(∀v,(x,v) ∉ binds)→bindL kindOf binds m x=m x
 | [],_,_=>rfl
 | (n,v)::r,m,h=>by
  unfold bindL
  rw[Zh5 fun w hw=>h w (Qv _ hw)]
  split
  ·have:x≠n:=by rintro rfl;exact h v Qai
   simp[this]
  ·rfl
theorem Zh0{kindOf:Str→Option NameKind}{x:Str}:∀ {binds:List (Str×Value)} {m:Str→Option Value},(∀v,(x,v) ∉ binds)→bindC kindOf binds m x=m x
 | [],_,_=>rfl
 | (n,v)::r,m,h=>by
  unfold bindC
  rw[Zh0 fun w hw=>h w (Qv _ hw)]
  split
  ·rfl
  ·have:x≠n:=by rintro rfl;exact h v Qai
   simp[this]
theorem Zhx{kindOf:Str→Option NameKind}{x:Str}{v:Value}:∀ {P:List Str} {vs:List Value} {i:Nat} {m:Str→Option Value},P.Nodup→P[i]? = some x→vs[i]? = some v→kindOf x=some .local →
  bindL kindOf (P.zip vs) m x=some v
 | [],_,_,_,_,h,_,_=>by simp at h
 | _::_,[],_,_,_,_,h,_=>by simp at h
 | p::P,w::vs,0,m,nd,h1,h2,hk=>by
  simp at h1 h2;subst h1;subst h2
  show bindL kindOf ((p,w)::P.zip vs) m p=_
  unfold bindL
  rw[Zh5 fun v hv=>(QR.mp nd).1 (List.of_mem_zip hv).1,if_pos hk]
  simp
 | p::P,w::vs,i+1,m,nd,h1,h2,hk=>by
  show bindL kindOf ((p,w)::P.zip vs) m x=_
  unfold bindL
  exact Zhx (i:=i) (QR.mp nd).2 (by simpa using h1) (by simpa using h2) hk
theorem ZhX{kindOf:Str→Option NameKind}{x:Str}{v:Value}:∀ {P:List Str} {vs:List Value} {i:Nat} {m:Str→Option Value},P.Nodup→P[i]? = some x→vs[i]? = some v→kindOf x≠some .local →
  bindC kindOf (P.zip vs) m x=some v
 | [],_,_,_,_,h,_,_=>by simp at h
 | _::_,[],_,_,_,_,h,_=>by simp at h
 | p::P,w::vs,0,m,nd,h1,h2,hk=>by
  simp at h1 h2;subst h1;subst h2
  show bindC kindOf ((p,w)::P.zip vs) m p=_
  unfold bindC
  rw[Zh0 fun v hv=>(QR.mp nd).1 (List.of_mem_zip hv).1,if_neg hk]
  simp
 | p::P,w::vs,i+1,m,nd,h1,h2,hk=>by
  show bindC kindOf ((p,w)::P.zip vs) m x=_
  unfold bindC
  exact ZhX (i:=i) (QR.mp nd).2 (by simpa using h1) (by simpa using h2) hk
def Zea(N:List Str)(vs:List V):St:=vs.map some++List.replicate (N.length-vs.length) none
def ZiB(CX:CXT)(P:Program)(w:World)(K:PySem.W.Frag)(mg:Str→Option Value)(base:Heap)(N:List Str)(qual:Str)(scope:Scope)(f:Addr)(cd:Value)(A:Around)(outer:List Env)(s:Shared)(H:Hp)(E:XK):Cx where
 prog:=P
 w:=w
 K:=K
 mg:=mg
 base:=base
 A:=A.deeper (envOfC qual scope s.heap.objs.size f cd)
 N:=N
 s₀:=s
 H₀:=H
 env:=envOfC qual scope s.heap.objs.size f cd
 outer:=outer
 stack:=envOfC qual scope s.heap.objs.size f cd::outer
 ex:=[]
 calm:=true
 fn:=fun _=>true
 pn:=[]
 xe:=fun e s'=>wpAny (model P w) (A.deeper (envOfC qual scope s.heap.objs.size f cd)) (leaving (envOfC qual scope s.heap.objs.size f cd) e) (fun _ s''=>CX outer H s E e s'') (fun e' s''=>CX outer H s E e' s'') s'
theorem Zjj{sc:Scope}{n:Nat}{x:Str}(h:sc.names.lookup x=some .cell):∃c,(cellsFrom n sc.names []).lookup x=some c:=by
 have q:=PySem.W.cellsFrom_some sc.names n [] (.inl h)
 exact Option.isSome_iff_exists.mp q
theorem ZlS{CX:CXT}{P:Program}{w:World}{K:PySem.W.Frag}{mg:Str→Option Value}{base:Heap}{N ps:List Str}{qual:Str}{scope:Scope}{f:Addr}{cd:Value}{A:Around}{outer:List Env}{s s1:Shared}{H:Hp}{E:XK}{us:List Value}{vs:List V}
  (S:Zr N ps scope) (hd:A.handled=none) (e0:ZkG P w K mg base A outer s H) (hl:vs.length=ps.length) (r:ZH vs us)
  (x:InCallC s s.heap.objs.size (bindL (envOfC qual scope s.heap.objs.size f cd).kindOf (ps.zip us) fun _=>none) (cellsFrom (s.heap.objs.size+1) scope.names []) (bindC (envOfC qual scope s.heap.objs.size f cd).kindOf (ps.zip us) fun _=>none) s1) :
  Inv (ZiB CX P w K mg base N qual scope f cd A outer s H E) [] (Zea N vs) H s1:=by
 have hpl:ps.length≤N.length:=by have:=congrArg List.length S.pre;rw[Qz]at this;omega
 obtain⟨h1,tk,rfl,hk⟩:=x.done
 have noA:∀b:Addr,b ∉ (ZiB CX P w K mg base N qual scope f cd A outer s H E).ex:=fun b z=>absurd (show b∈([]:List Addr) from z) (by simp)
 refine⟨⟨e0.mod,S.kind,rfl,rfl,Qh _,fun y z c h1 h2=>?_,fun y hy=>?_,fun y c _ h=>?_,fun _=>hd,Around.frames_deeper e0.frames,.inr ⟨rfl,rfl⟩,fun b z=>absurd z (noA b),e0.bs,e0.bsz,fun b _ _=>noA b,fun b z=>absurd z (noA b),e0.funs,e0.frf⟩,
  rfl,e0.bare,Un.kept hk,⟨_,x.toInCall.ns,fun i y v h1 h2 h3=>?_⟩,fun y c h=>⟨_,x.cell y c h⟩,e0.hok.fresh (Qh _),fun y c h=>?_,fun p hp=>absurd (show p∈([]:List (Addr×Obj)) from hp) (by simp),e0.hok.kept hk,?_⟩
 ·exact name_of_addr x.apart (Qad h1) (Qad h2)
 ·have hy:scope.names.lookup y=some .cell∨scope.names.lookup y=some .free:=hy
  rcases hy with hy|hy
  ·exact Zjj hy
  ·exact absurd rfl (S.nofree _ (Qad hy))
 ·exact Qam (x.above y c (Qad h))
 ·have hi:i<vs.length:=by
   unfold Zea at h2
   by_cases hi:i<vs.length
   ·exact hi
   ·rw[QN (by simpa using hi)]at h2
    rw[List.getElem?_replicate]at h2
    split at h2<;>cases h2
  have ha:vs[i]? = some v:=by
   unfold Zea at h2
   rw[QM (by simpa using hi),Qp]at h2
   cases e:vs[i]? with
   | none=>rw[e]at h2;cases h2
   | some a=>rw[e]at h2;cases h2;rfl
  obtain⟨u,hu,rv⟩:=r.get ha
  have hp:ps[i]? = some y:=by
   rw[← S.pre,List.getElem?_take_of_lt (by omega)];exact h1
  have ndP:ps.Nodup:=by rw[← S.pre];exact S.nd.sublist (List.take_sublist _ _)
  refine⟨u,rv,?_⟩
  rcases S.par y (Qx hp) with k|k
  ·exact .inl ⟨k,Zhx ndP hp hu k⟩
  ·obtain⟨c,e⟩:=Zjj (n:=s.heap.objs.size+1) k
   refine .inr ⟨.inl k,c,e,?_⟩
   have q:=x.cell y c e
   rw[ZhX ndP hp hu (by show scope.names.lookup y≠_;rw[k];decide)]at q
   exact q
 ·exact e0.hok.fresh (Qam (x.above y c (Qad h)))
 ·unfold Zea
  show _=N.length
  rw[Qf,Qa,Qav]
  omega
theorem Zsh{CX:CXT}{P:Program}{w:World}{K:PySem.W.Frag}{mg:Str→Option Value}{base:Heap}{k:Nat}{f:Addr}{name qual:Str}{params:Arguments}{body:List Stmt}{scope:Scope}{dV kV doc pm cdv ct oc:Value}{an od:Option Addr}
  {osl:Array (Option Value)} {N ps:List Str} {sp:Sp} (lk:K.lookup f=some ⟨oc,od,.func (PySem.W.fnOf name qual params body scope dV kV doc pm an cdv ct),osl⟩) (hcd:PySem.W.codeIn K cdv qual=true) (S:Zr N ps scope)
  (len:∀vs H Q E,sp vs H Q E→vs.length=ps.length)
  (hbody:∀ (A:Around) (outer:List Env) (s:Shared) (H:Hp) (vs:List V) (Q:VK) (E:XK),ZaV k (A.deeper (envOfC qual scope s.heap.objs.size f cdv))→sp vs H Q E →
   ∃t,PSs (ZiB CX P w K mg base N qual scope f cdv A outer s H E) body t∧t { nx:=fun _ H'=>Q .non H',rt:=Q } (Zea N vs) H) :
  Zer P w K mg base CX (k+1) f (PySem.W.fnOf name qual params body scope dV kV doc pm an cdv ct) ps sp:=by
 refine⟨len,fun A outer s H args us vs Q E hr e0 hb r hsp=>?_⟩
 have hl:=len _ _ _ _ hsp
 have KX:K.In s.heap:=e0.mod.kin.keeps fun b o e=>(e0.bs b o e).1
 have lim:s.heap.NoLimit:=e0.mod.nolimit.keeps fun b o e=>(e0.bs b o e).1
 have hkind:∀y∈ps.zip us,scope.names.lookup y.1=some .local∨(scope.names.lookup y.1=some .cell∧((cellsFrom (s.heap.objs.size+1) scope.names []).lookup y.1).isSome=true):=fun ⟨n,v⟩ hy=>by
  rcases S.par n (List.of_mem_zip hy).1 with q|q
  ·exact .inl q
  ·exact .inr ⟨q,PySem.W.cellsFrom_some _ _ _ (.inl q)⟩
 refine codeAny_call_function hr.depth (KX _ _ lk) rfl S.co S.gen rfl (PySem.W.codeRec_of KX hcd) (hb _ _ _ _ ?_)
 refine wpAny_newFunctionEnv_cells S.kind hkind fun env he s1 x=>?_
 subst he
 refine⟨lim.keeps x.toInCall.keep,codeAny_func ?_⟩
 obtain⟨t,ht,hq⟩:=hbody A outer s H vs Q E (hr.deeper _) hsp
 have I:Inv (ZiB CX P w K mg base N qual scope f cdv A outer s H E) [] (Zea N vs) H s1:=ZlS S hr.hd e0 hl r x
 refine wpAny_mono (ht [] s1 (Zea N vs) H _ I hq) (fun fl s' hs=>?_) fun e s' hs=>hs
 have fin:∀ {σ':St} {H':Hp} {v:V} {u:Value},Inv (ZiB CX P w K mg base N qual scope f cdv A outer s H E) [] σ' H' s'→ZI v u→Q v H'→CE outer P w H s Q u s' :=
  fun {σ' H' v u} J rv q=>⟨v,H',J.os,J.bare,J.base,J.hok,rv,q⟩
 cases fl with
 | ret u =>
  obtain⟨v,σ',H',J,rv,q⟩:=hs
  exact fin J rv q
 | next =>
  obtain⟨σ',H',J,q⟩:=hs
  exact fin (v:=V.non) (u:=Value.none) J rfl q
 | brk =>
  obtain⟨_,_,_,q⟩:=hs
  exact False.elim q
 | cont =>
  obtain⟨_,_,_,q⟩:=hs
  exact False.elim q
section
variable {X:Cx} {x:Str} {p pos:Pos} {e:Expr} {es:List Expr} {t:TA} {id T:String} {r:List V→Hp→VK→Prop}
def tCB(r:List V→Hp→VK→Prop)(t:TA):TE:=fun σ H Q=>t σ H fun vs H1=>r vs H1 Q
theorem Zk(hc:ZaF X (.builtin id) r)(hg:Gl X x)(hm:X.mg x=none)(hv:bootBuiltins x=some (.builtin id))(ha:PA X (e::es) t)(hn:x ≠ "__name__":=by decide)(hdb:(x == ("__debug__" : Str))=false:=by decide)
  (he:starEach (e::es) X.env=(false,eval e X.env)::starEach es X.env:=by rfl) (hpl:(backTo pos (starEach es X.env)).any (·.1)=false:=by rfl):PE X (.Call (.Name x p) (e::es) [] pos) (tCB r t):=by
 intro pins s σ H Q I h
 refine wpAny_Call_Name_kw (ZdP I hg hm hv ?_ hn hdb)
 exact PyProof.Rows.callWith_builtin1 (thn (ha pos pins s σ H _ I h) fun us s1 ⟨vs,H1,I1,r1,q1⟩=>hc pins s1 σ H1 vs us Q I1 r1 q1) he hpl
theorem ZaR(hc:ZaF X (.type T) r)(hg:Gl X x)(hm:X.mg x=none)(hv:bootBuiltins x=some (.type T))(ha:PA X (e::es) t)(hn:x ≠ "__name__":=by decide)(hdb:(x == ("__debug__" : Str))=false:=by decide)
  (he:starEach (e::es) X.env=(false,eval e X.env)::starEach es X.env:=by rfl) (hpl:(backTo pos (starEach es X.env)).any (·.1)=false:=by rfl):PE X (.Call (.Name x p) (e::es) [] pos) (tCB r t):=by
 intro pins s σ H Q I h
 refine wpAny_Call_Name_kw (ZdP I hg hm hv ?_ hn hdb)
 exact QU (thn (ha pos pins s σ H _ I h) fun us s1 ⟨vs,H1,I1,r1,q1⟩=>hc pins s1 σ H1 vs us Q I1 r1 q1) he hpl
end
end L2
namespace HT
open PySem PyProof.Rows
def lexLt:List Int→List Int→Bool
 | [],[]=>false
 | [],_::_=>true
 | _::_,[]=>false
 | x::xs,y::ys=>if x=y then lexLt xs ys else decide (x<y)
theorem Zq8(x y:Int)(xs ys:List Int):lexLt (x::xs) (y::ys)=if x=y then lexLt xs ys else decide (x<y):=rfl
theorem Zoj:lexLt [] []=false:=rfl
theorem Znv(y:Int)(ys:List Int):lexLt [] (y::ys)=true:=rfl
theorem Znh(x:Int)(xs:List Int):lexLt (x::xs) []=false:=rfl
section
open PySem.SeqAt
open PySem.AutoSeq1 (wpAny_loadPart')
open PySem.MeetsSeq PySem.MeetsSeq2 PySem.MeetsSeq3
end
section
variable {prog:Program} {w:World} {A:Around} {E:Value→Shared→Prop} {s:Shared}
def sIx(n d:Nat):Option Int→Nat
 | none=>d
 | some v=>if v<0 then (v+(n:Int)).toNat else min v.toNat n
theorem ZrT(n d:Nat):sIx n d none=d:=rfl
theorem sIx_nat(n d k:Nat):sIx n d (some (k:Int))=min k n:=by
 show (if (k:Int)<0 then ((k:Int)+(n:Int)).toNat else min (k:Int).toNat n)=min k n
 rw[if_neg (by omega),QaO]
end
end HT
namespace L2
open PySem PySem.Spec PyProof.Rows
abbrev TO:=St→Hp→(Option Int→Hp→Prop)→Prop
def PO(X:Cx)(e:Option Expr)(t:TO):Prop :=
 ∀ (pins:List (Addr×Obj)) (s:Shared) (σ:St) (H:Hp) (Q:Option Int→Hp→Prop),Inv X pins σ H s→t σ H Q →
  wpAny (model X.prog X.w) X.A (evalPart e X.env) (fun u s'=>∃o H',Inv X pins σ H' s'∧IsPart u o∧Q o H') X.xe s
def Zpj:TO:=fun _ H Q=>Q none H
def Zri(t:TE):TO:=fun σ H Q=>t σ H fun x H1=>∃i,x=.int i∧Q (some i) H1
theorem Zg1{ns:List Int}:∀ {us:List Value},ZH (ns.map V.int) us→IntsAre us ns:=by
 induction ns with
 | nil=>intro us r;rw[QaP]at r;cases r;exact .nil
 | cons n ns ih =>
  intro us r
  rw[Qj]at r
  cases r with
  | cons r1 r2 =>
   obtain⟨t,e⟩:=r1
   subst e
   exact .cons n t (ih r2)
section
variable {X:Cx} {e:Expr} {te:TE} {lo hi:Option Expr} {tl th:TO} {pos p2:Pos}
theorem ZbM:PO X none Zpj:=by
 intro pins s σ H Q I h
 rw[evalPart_none]
 exact wpAny_pure ⟨none,H,I,.none,h⟩
theorem Zcc(h:PE X e te):PO X (some e) (Zri te):=by
 intro pins s σ H Q I hw
 rw[evalPart_some]
 refine thn (h pins s σ H _ I hw) fun u s1 ⟨x,H1,I1,r1,q1⟩=>?_
 obtain⟨i,rfl,q⟩:=q1
 obtain⟨t,rfl⟩:=r1
 exact⟨some i,H1,I1,.int i t,q⟩
def SlR(X:Cx)(r:V→Option Int→Option Int→Hp→VK→Prop):Prop :=
 ∀ (pins:List (Addr×Obj)) (s:Shared) (σ:St) (H:Hp) (x:V) (v vl vu:Value) (lo hi:Option Int) (sl:Addr) (Q:VK),Inv X pins σ H s→ZI x v→s.heap.IsSliceOf sl vl vu .none→IsPart vl lo→IsPart vu hi→r x lo hi H Q →
  ∃T id,typeLookup (.type T) "__getitem__" = pure (some (.builtin id))∧s.TypeIs v T∧wpAny (model X.prog X.w) X.A (getItem v (.ref sl)) (EP X pins σ Q) X.xe s
def tSl(r:V→Option Int→Option Int→Hp→VK→Prop)(te:TE)(tl th:TO):TE:=fun σ H Q=>te σ H fun x H1=>tl σ H1 fun l H2=>th σ H2 fun u H3=>r x l u H3 Q
theorem ZbT{r:V→Option Int→Option Int→Hp→VK→Prop}(hr:SlR X r)(he:PE X e te)(hl:PO X lo tl)(hu:PO X hi th):PE X (.Subscript e (.Slice lo hi none p2) pos) (tSl r te tl th):=by
 intro pins s σ H Q I h
 refine Subscript_ (thn (he pins s σ H _ I h) fun v s1 ⟨x,H1,I1,r1,q1⟩=>?_)
 refine wpAny_Slice (thn (hl pins s1 σ H1 _ I1 q1) fun vl s2 ⟨l,H2,I2,pl,q2⟩=>thn (hu pins s2 σ H2 _ I2 q2) fun vu s3 ⟨u,H3,I3,pu,q3⟩=>?_)
 rw[evalPart_none]
 refine wpAny_pure ?_
 have I4:Inv X pins σ H3 { s3 with heap:=s3.heap.push { cls:=.type "slice",data:=.fields #[vl,vu,.none] } }:=I3.kept (t':=s3.toks) fun b ob q=>Qc _ q
 obtain⟨T,id,hT,ht,hg⟩:=hr pins { s3 with heap:=s3.heap.push { cls:=.type "slice",data:=.fields #[vl,vu,.none] } } σ H3 x v vl vu l u s3.heap.objs.size Q I4 r1 (Heap.IsSliceOf.new ..) pl pu q3
 show wpAny (model X.prog X.w) X.A (subscriptTail e (.Slice lo hi none p2) v (.ref s3.heap.objs.size)) (EP X pins σ Q) X.xe { s3 with heap:=s3.heap.push { cls:=.type "slice",data:=.fields #[vl,vu,.none] } }
 exact tail_any (ops:=[.ref s3.heap.objs.size,v]) ht hT hg (by with_unfolding_all rfl)
def Zf3(xs:List V)(lo hi:Option Int):List V:=(xs.drop (HT.sIx xs.length 0 lo)).take (HT.sIx xs.length xs.length hi-HT.sIx xs.length 0 lo)
theorem ZfV(xs:List V)(lo hi:Option Int):(Zf3 xs lo hi).length≤xs.length:=by
 unfold Zf3
 rw[Qz,QZ]
 omega
def rSlT(K:PySem.W.Frag):V→Option Int→Option Int→Hp→VK→Prop:=fun x lo hi H Q=>∃a xs,x=.ref a∧SqT K H a xs ∧
 ¬ (HT.sIx xs.length 0 lo=0∧HT.sIx xs.length xs.length hi=xs.length)∧∀p,H p=none→Q (.ref p) (upd H p (.tup (Zf3 xs lo hi)))
def rLtT(K:PySem.W.Frag):R2:=fun x y H Q=>∃a b ns ms,x=.ref a∧y=.ref b∧SqT K H a (ns.map V.int)∧SqT K H b (ms.map V.int)∧Q (.bl (HT.lexLt ns ms)) H
def rCatT(K:PySem.W.Frag):R2:=fun x y H Q=>∃a b xs ys,x=.ref a∧y=.ref b∧SqT K H a xs∧SqT K H b ys∧xs≠[]∧xs.length+ys.length≤sizeLine ∧
 (ys=[]→Q (.ref a) H)∧(ys≠[]→∀p,H p=none→Q (.ref p) (upd H p (.tup (xs++ys))))
end
def ixN(n:Nat)(i:Int):Option Nat:=if 0≤i then (if i<n then some i.toNat else none) else if -(n:Int)≤i then some (i+n).toNat else none
def atI{α:Type}(xs:List α)(i:Int):Option α:=(ixN xs.length i).bind fun j=>xs[j]?
theorem Zk6{n:Nat}{i:Int}{j:Nat}(h:ixN n i=some j):seqIndex? i n=some j∧j<n ∧ -(n:Int)≤i∧i<n:=by
 unfold ixN at h
 by_cases h0:0≤i
 ·rw[if_pos h0]at h
  by_cases h1:i<n
  ·rw[if_pos h1]at h
   have e:i.toNat=j:=Ql h
   exact⟨by rw[seqIndex_of h0 h1,e],by omega,by omega,h1⟩
  ·rw[if_neg h1]at h;cases h
 ·rw[if_neg h0]at h
  by_cases h1:-(n:Int)≤i
  ·rw[if_pos h1]at h
   have e:(i+n).toNat=j:=Ql h
   exact⟨by rw[seqIndex_neg (by omega) h1,e],by omega,h1,by omega⟩
  ·rw[if_neg h1]at h;cases h
theorem Ziz{α:Type}{xs:List α}{i:Int}{v:α}(h:atI xs i=some v):∃j,seqIndex? i xs.length=some j∧xs[j]? = some v∧j<xs.length ∧ -(xs.length:Int)≤i∧i<xs.length:=by
 unfold atI at h
 cases e:ixN xs.length i with
 | none=>rw[e]at h;cases h
 | some j =>
  rw[e]at h
  obtain⟨h1,h2,h3,h4⟩:=Zk6 e
  exact⟨j,h1,h,h2,h3,h4⟩
theorem Zal{α:Type}{xs:List α}{j:Nat}{v:α}(h:xs[j]? = some v):atI xs (j:Int)=some v:=by
 have hj:j<xs.length:=(Qg.mp h).1
 have e:ixN xs.length (j:Int)=some j:=by
  unfold ixN
  rw[if_pos (by omega),if_pos (by omega)];simp
 unfold atI;rw[e];exact h
theorem Zm2{α:Type}(xs:List α)(v:α):atI (xs++[v]) (-1)=some v:=by
 have hl:(xs++[v]).length=xs.length+1:=by simp
 have e:ixN (xs++[v]).length (-1)=some xs.length:=by
  unfold ixN
  rw[hl,if_neg (by decide),if_pos (by omega)]
  congr 1
  omega
 unfold atI
 rw[e]
 show (xs++[v])[xs.length]? = some v
 simp
def ZpG(b:Expr):Prop:=∀o i,subscripted b false o i=operate [o,i] (getItem o i)
def IxR(X:Cx)(r:R2):Prop :=
 ∀ (value slice:Expr) (pins:List (Addr×Obj)) (s:Shared) (σ:St) (H:Hp) (x y:V) (v u:Value) (Q:VK),Inv X pins σ H s→ZI x v→ZI y u→r x y H Q →
  subscripted slice false v u=operate [v,u] (getItem v u)→wpAny (model X.prog X.w) X.A (subscriptTail value slice v u) (EP X pins σ Q) X.xe s
def MtR(X:Cx)(id:String)(r:V→List V→Hp→VK→Prop):Prop :=
 ∀ (pins:List (Addr×Obj)) (s:Shared) (σ:St) (H:Hp) (x:V) (xs:List V) (v:Value) (us:List Value) (Q:VK),Inv X pins σ H s→ZI x v→ZH xs us→r x xs H Q →
  wpAny (model X.prog X.w) X.A (call (.builtin id) (v::us)) (EP X pins σ Q) X.xe s
section
variable {X:Cx} {a b:Expr} {ta tb:TE} {pos:Pos}
theorem Zo{r:R2}(hr:IxR X r)(ha:PE X a ta)(hb:PE X b tb)(hs:ZpG b):PE X (.Subscript a b pos) (tOp r ta tb):=by
 intro pins s σ H Q I h
 exact Subscript_ (ZqY ha hb I h fun v u s2 x y H2 I2 rx ry q=>hr a b pins s2 σ H2 x y v u Q I2 rx ry q (hs _ _))
def Zqa(K:PySem.W.Frag):R2:=fun x y H Q=>∃p xs i v,x=.ref p∧y=.int i∧SqL K H p xs∧atI xs i=some v∧Q v H
def ZqM(K:PySem.W.Frag):R2:=fun x y H Q=>∃p xs i v,x=.ref p∧y=.int i∧SqT K H p xs∧atI xs i=some v∧Q v H
def Zr7:R2:=fun x y H Q=>∃z i c,x=.str z∧y=.int i∧z.length≤sizeLine∧atI z.cps.toList i=some c∧Q (.str ⟨#[c]⟩) H
theorem ZoR:IxR X (Zqa X.K):=by
 intro value slice pins s σ H x y v u Q I rx ry h hs
 obtain⟨p,xs,i,z,rfl,rfl,hq,he,q⟩:=h
 cases rx
 obtain⟨t,rfl⟩:=ry
 obtain⟨its,r,pl,hz⟩:=I.list hq
 obtain⟨j,h1,h2,h3,h4,h5⟩:=Ziz he
 obtain⟨w,ew,rw'⟩:=r.get h2
 have hl:=r.length
 have hn:=ZfI
 have fin:EP X pins σ Q w s:=⟨z,H,I,rw',q⟩
 by_cases h0:0≤i
 ·have hj:i.toNat=j:=by
   rw[seqIndex_of h0 h5]at h1
   exact Ql h1
  exact item_listR pl.isList h0 (by omega) (by rw[hj];simpa using ew) fin hs
 ·have hj:(i+(its.toArray.size:Int)).toNat=j:=by
   rw[seqIndex_neg (by omega) h4]at h1
   rw[QE,← hl]
   exact Ql h1
  exact subscriptTail_builtinR (x:=w) pl.isList.typeIs slot_list_getitem.lookup
   (wpAny_getItem_list_neg (Q:=fun r s'=>r=w∧EP X pins σ Q r s') pl.isList (by omega) (by rw[QE]<;>omega) (by omega) (by rw[hj];simpa using ew) ⟨rfl,fin⟩) hs
theorem Zqe:IxR X (ZqM X.K):=by
 intro value slice pins s σ H x y v u Q I rx ry h hs
 obtain⟨p,xs,i,z,rfl,rfl,hq,he,q⟩:=h
 cases rx
 obtain⟨t,rfl⟩:=ry
 obtain⟨its,r,pl,hz⟩:=I.tuple hq
 obtain⟨j,h1,h2,h3,h4,h5⟩:=Ziz he
 obtain⟨w,ew,rw'⟩:=r.get h2
 have hl:=r.length
 have hn:=ZfI
 have fin:EP X pins σ Q w s:=⟨z,H,I,rw',q⟩
 exact subscriptTail_builtinR (x:=w) pl.typeIs slot_tuple_getitem.lookup
  (getItem_tuple (j:=j) (Q:=fun r s'=>r=w∧EP X pins σ Q r s') pl (by omega) (by omega) (by rw[QE,← hl];exact h1) (by simpa using ew) ⟨rfl,fin⟩) hs
theorem ZeM:IxR X Zr7:=by
 intro value slice pins s σ H x y v u Q I rx ry h hs
 obtain⟨z,i,c,rfl,rfl,hz,he,q⟩:=h
 obtain⟨t,rfl⟩:=rx
 obtain⟨t',rfl⟩:=ry
 obtain⟨j,h1,h2,h3,h4,h5⟩:=Ziz he
 have hl:z.cps.toList.length=z.length:=by simp[Str.length]
 rw[hl]at h1 h4 h5
 have hn:=ZfI
 exact tail_any (typeIs_str s z t) slot_str_getitem.lookup (getItem_str (c:=c) (by
  have e1:decide (i < -(2 ^ 63:Int))=false:=decide_eq_false (by omega)
  have e2:decide (i≥2 ^ 63)=false:=decide_eq_false (by omega)
  rw[e1,e2,Bool.or_false]) (by rw[h1];simpa using h2) ⟨.str ⟨#[c]⟩,H,I.tok _,⟨_,rfl⟩,q⟩) hs
def rIx(K:PySem.W.Frag):R2:=fun x y H Q=>Zqa K x y H Q∨ZqM K x y H Q∨Zr7 x y H Q
theorem Zke(its:List Value)(n j:Nat)(u:Value):Obj.mapSeq (·.setIfInBounds j u) { cls:=.type "list",data:=.seq its.toArray n }={ cls:=.type "list",data:=.seq (its.set j u).toArray n }:=by
 simp[Obj.mapSeq]
theorem Inv.lst{pins:List (Addr×Obj)}{σ:St}{H:Hp}{s:Shared}{p:Addr}{xs:List V}(I:Inv X pins σ H s)(h:H p=some (.lst xs)) :
  ∃ (its:List Value) (n:Nat),ZH xs its∧s.heap.get? p=some { cls:=.type "list",data:=.seq its.toArray n }∧xs.length≤sizeLine:=by
 obtain⟨z,its,n,r,e⟩:=I.hok p _ h
 exact⟨its,n,r,e,z⟩
theorem Inv.lstUpd{pins:List (Addr×Obj)}{σ:St}{H:Hp}{s:Shared}{p:Addr}{xs ys:List V}{its its':List Value}{n n':Nat}{f:Obj→Obj}(I:Inv X pins σ H s)(h:H p=some (.lst xs))
  (ho:s.heap.get? p=some { cls:=.type "list",data:=.seq its.toArray n }) (hf:f { cls:=.type "list",data:=.seq its.toArray n }={ cls:=.type "list",data:=.seq its'.toArray n' }) (r:ZH ys its') (hz:ys.length≤sizeLine) (t:Nat) :
  Inv X pins σ (upd H p (.lst ys)) { s with heap:=s.heap.update p f,toks:=t }:=by
 have e:(s.heap.update p f).get? p=some { cls:=.type "list",data:=.seq its'.toArray n' }:=by
  rw[Heap.get?_update_self f ho (by rw[hf]<;>rfl),hf]
 refine I.write (x:=p) (e:=p) (by rw[h];trivial) (.inl rfl) (fun b u hb q=>(Heap.get?_update_other _ _ (Ne.symm hb)).trans q) ⟨_,e⟩ ?_
 exact⟨hz,its',n',r,e⟩
def ZrR:V→V→V→Hp→(Hp→Prop)→Prop:=fun o i v H Q=>∃p xs k j,o=.ref p∧i=.int k∧H p=some (.lst xs)∧ixN xs.length k=some j∧Q (upd H p (.lst (xs.set j v)))
theorem ZjG:Zq5 X ZrR:=by
 intro pins s σ H o i v ov iv u Q I ro ri rv h
 obtain⟨p,xs,k,j,rfl,rfl,hp,hj,q⟩:=h
 cases ro
 obtain⟨t,rfl⟩:=ri
 obtain⟨its,n,r,ho,hz⟩:=I.lst hp
 obtain⟨h1,h2,h3,h4⟩:=Zk6 hj
 have hl:=r.length
 have hn:=ZfI
 have I':Inv X pins σ (upd H p (.lst (xs.set j v))) { s with heap:=s.heap.update p (Obj.mapSeq (·.setIfInBounds j u)) } :=
  I.lstUpd hp ho (Zke its n j u) (r.set rv j) (by rw[List.length_set];exact hz) s.toks
 by_cases h0:0≤k
 ·have hk:k.toNat=j:=by
   rw[seqIndex_of h0 h4]at h1
   exact Ql h1
  exact PySem.W.ki_setAt ho h0 (by omega) (by rw[QE,← hl];exact h4) (by rw[hk];exact⟨_,I',q⟩)
 ·have hk:(k+(its.toArray.size:Int)).toNat=j:=by
   rw[seqIndex_neg (by omega) h3]at h1
   rw[QE,← hl]
   exact Ql h1
  exact PySem.W.ki_setBack ho (by omega) (by rw[QE,← hl];exact h3) (by omega) (by rw[hk];exact⟨_,I',q⟩)
theorem ZiY(lo hi:Option Int)(n:Nat):(sliceBounds lo hi none n).1=((HT.sIx n 0 lo:Nat):Int)∧(sliceBounds lo hi none n).2.1=((HT.sIx n n hi:Nat):Int)∧(sliceBounds lo hi none n).2.2=1:=by
 refine⟨?_,?_,rfl⟩
 ·cases lo with
  | none=>simp[sliceBounds,HT.sIx]
  | some i =>
   simp only[sliceBounds,HT.sIx,Option.getD_none,show (1:Int)>0 by decide,if_true]
   by_cases h:i<0
   ·simp only[h,if_true]<;>omega
   ·simp only[h,if_false]<;>omega
 ·cases hi with
  | none=>simp[sliceBounds,HT.sIx]
  | some i =>
   simp only[sliceBounds,HT.sIx,Option.getD_none,show (1:Int)>0 by decide,if_true]
   by_cases h:i<0
   ·simp only[h,if_true]<;>omega
   ·simp only[h,if_false]<;>omega
theorem Zhg(its:List Value)(lo hi:Option Int):slicePick its.toArray lo hi none=((its.drop (HT.sIx its.length 0 lo)).take (HT.sIx its.length its.length hi-HT.sIx its.length 0 lo)).toArray:=by
 obtain⟨h1,h2,h3⟩:=ZiY lo hi its.toArray.size
 unfold slicePick
 rw[h1,h2,h3]
 simp only[sliceRange_one,pick_run,List.size_toArray]<;>rfl
def Zrs(K:PySem.W.Frag):V→Option Int→Option Int→Hp→VK→Prop:=fun x lo hi H Q=>∃a xs,x=.ref a∧SqL K H a xs∧∀p,H p=none→Q (.ref p) (upd H p (.lst (Zf3 xs lo hi)))
theorem ZoM:SlR X (Zrs X.K):=by
 intro pins s σ H x v vl vu lo hi sl Q I rx hs pl pu h
 obtain⟨a,xs,rfl,hx,q⟩:=h
 cases rx
 obtain⟨its,r,ht,hz⟩:=I.list hx
 have hlen:=r.length
 refine⟨"list",_,slot_list_getitem.lookup,ht.isList.typeIs,?_⟩
 refine wpAny_getItem_list_slice ht.isList hs pl pu .none (by simp) ?_ (by rw[QE]<;>omega)
 rw[Zhg,← hlen]
 refine⟨.ref s.heap.objs.size,_,I.laid (t':=s.toks) (o:=.lst (Zf3 xs lo hi)) (fun b ob q=>Qc _ q) (Qh _) ?_,rfl,q _ (I.hok.fresh (Qh _))⟩
 exact⟨Qy (ZfV xs lo hi) hz,_,0,(r.drop (HT.sIx xs.length 0 lo)).take (HT.sIx xs.length xs.length hi-HT.sIx xs.length 0 lo),Qq _ rfl⟩
def ZeT:V→Bool
 | .non=>true
 | .bl _=>true
 | .int _=>true
 | .str _=>true
 | _=>false
def eqV:V→V→Bool
 | .non,.non=>true
 | .bl a,.bl b=>a == b
 | .bl a,.int b=>(if a then 1 else 0) == b
 | .int a,.bl b=>a == (if b then 1 else 0)
 | .int a,.int b=>a == b
 | .str a,.str b=>a == b
 | _,_=>false
theorem Zq7{A:Around}{s:Shared}{y x:V}{u v:Value}(ry:ZI y u)(rx:ZI x v)(fy:ZeT y=true)(fx:ZeT x=true):SeqAt.EqAt A s u v (eqV y x):=by
 cases y with
 | non =>
  cases ry
  cases x with
  | non=>cases rx;exact SeqAt.EqAt.same _
  | bl b=>cases rx;exact SeqAt.EqAt.none_bool b
  | int b=>obtain⟨t,rfl⟩:=rx;exact SeqAt.EqAt.none_int b t
  | str b=>obtain⟨t,rfl⟩:=rx;exact SeqAt.EqAt.none_str b t
  | _=>exact absurd (show false=true from fx) Qk
 | bl a =>
  cases ry
  cases x with
  | non=>cases rx;exact SeqAt.EqAt.bool_none a
  | bl b=>cases rx;exact SeqAt.EqAt.bool_bool a b
  | int b=>obtain⟨t,rfl⟩:=rx;exact SeqAt.EqAt.bool_int a b t
  | str b=>obtain⟨t,rfl⟩:=rx;exact SeqAt.EqAt.bool_str a b t
  | _=>exact absurd (show false=true from fx) Qk
 | int a =>
  obtain⟨t',rfl⟩:=ry
  cases x with
  | non=>cases rx;exact SeqAt.EqAt.int_none a t'
  | bl b=>cases rx;exact SeqAt.EqAt.int_bool a t' b
  | int b=>obtain⟨t,rfl⟩:=rx;exact SeqAt.EqAt.int_int a t' b t
  | str b=>obtain⟨t,rfl⟩:=rx;exact SeqAt.EqAt.int_str a t' b t
  | _=>exact absurd (show false=true from fx) Qk
 | str a =>
  obtain⟨t',rfl⟩:=ry
  cases x with
  | non=>cases rx;exact SeqAt.EqAt.str_none a t'
  | bl b=>cases rx;exact SeqAt.EqAt.str_bool a t' b
  | int b=>obtain⟨t,rfl⟩:=rx;exact SeqAt.EqAt.str_int a t' b t
  | str b=>obtain⟨t,rfl⟩:=rx;exact SeqAt.EqAt.str_str a t' b t
  | _=>exact absurd (show false=true from fx) Qk
 | _=>exact absurd (show false=true from fy) Qk
def eqU(x:V)(u:Value):Bool:=match u with
 | .none=>eqV .non x
 | .bool b=>eqV (.bl b) x
 | .int i _=>eqV (.int i) x
 | .str z _=>eqV (.str z) x
 | _=>false
theorem Znd{x y:V}{u:Value}(r:ZI y u)(f:ZeT y=true):eqU x u=eqV y x:=by
 cases y with
 | non=>cases r;rfl
 | bl b=>cases r;rfl
 | int i=>obtain⟨t,rfl⟩:=r;rfl
 | str z=>obtain⟨t,rfl⟩:=r;rfl
 | _=>exact absurd (show false=true from f) Qk
theorem Zis{x:V}:∀ {xs:List V} {us:List Value},ZH xs us→xs.all ZeT=true→us.any (eqU x)=xs.any fun y=>eqV y x
 | _,_,.nil,_=>rfl
 | y::xs,u::us,.cons r t,f=>by
  rw[List.all_cons,Q1]at f
  rw[QaF,QaF,Znd r f.1,Zis t f.2]
theorem Zhb{A:Around}{s:Shared}{x:V}{v:Value}(rx:ZI x v)(fx:ZeT x=true):∀ {xs:List V} {us:List Value},ZH xs us→xs.all ZeT=true→∀u∈us,SeqAt.EqAt A s u v (eqU x u)
 | _,_,.nil,_=>fun u hu=>by cases hu
 | y::xs,u::us,.cons r t,f=>fun u' hu=>by
  rw[List.all_cons,Q1]at f
  rcases QI.mp hu with rfl|hu
  ·rw[Znd r f.1];exact Zq7 r rx f.1 fx
  ·exact Zhb rx fx t f.2 u' hu
def inV(x:V)(xs:List V):Bool:=xs.any fun y=>eqV y x
def rIn(K:PySem.W.Frag)(neg:Bool):R2:=fun x y H Q=>∃p xs,y=.ref p∧(SqL K H p xs∨SqT K H p xs)∧ZeT x=true∧xs.all ZeT=true∧Q (.bl (if neg then !inV x xs else inV x xs)) H
theorem Zmd:OpR X (compareOp .In) (rIn X.K false):=by
 intro pins s σ H x y v u Q I rx ry h
 obtain⟨p,xs,rfl,hq,fx,fs,q⟩:=h
 cases ry
 rcases hq with hq|hq
 ·obtain⟨its,r,pl,hz⟩:=I.list hq
  refine SeqAt.in_listAt (eqU x) pl.isList (fun w hw=>Zhb rx fx r fs w (by simpa using hw)) ⟨.bl _,H,I,rfl,?_⟩
  rw[show its.toArray.any (eqU x)=its.any (eqU x) by simp,Zis r fs]
  exact q
 ·obtain⟨its,r,pl,hz⟩:=I.tuple hq
  refine SeqAt.in_tupleAt (eqU x) pl (fun w hw=>Zhb rx fx r fs w (by simpa using hw)) ⟨.bl _,H,I,rfl,?_⟩
  rw[show its.toArray.any (eqU x)=its.any (eqU x) by simp,Zis r fs]
  exact q
theorem Zil:ZaF X (.builtin "len") (fun xs H Q=>∃p ys,xs=[.ref p]∧(SqL X.K H p ys∨SqT X.K H p ys)∧Q (.int ys.length) H):=by
 intro pins s σ H xs us Q I r h
 obtain⟨p,ys,rfl,hq,q⟩:=h
 obtain⟨u,rfl,rx⟩:=ZcX r
 cases rx
 have hn:=ZfI
 rcases hq with hq|hq
 ·obtain⟨its,r',pl,hz⟩:=I.list hq
  have hlen:=r'.length
  exact Calls.call_len_list pl.isList (by simp only[List.size_toArray]<;>omega) ⟨.int ys.length,H,I.tok _,⟨s.toks+1,by rw[QE,hlen]⟩,q⟩
 ·obtain⟨its,r',pl,hz⟩:=I.tuple hq
  have hlen:=r'.length
  exact len_tuple pl (by simp only[List.size_toArray]<;>omega) ⟨.int ys.length,H,I.tok _,⟨s.toks+1,by rw[QE,hlen]⟩,q⟩
theorem Zaw:ZaF X (.builtin "len") (fun xs H Q=>∃z,xs=[.str z]∧z.length≤sizeLine∧Q (.int z.length) H):=by
 intro pins s σ H xs us Q I r h
 obtain⟨z,rfl,hz,q⟩:=h
 obtain⟨u,rfl,t,rfl⟩:=ZcX r
 have hn:=ZfI
 exact len_str (by omega) ⟨.int z.length,H,I.tok _,⟨_,rfl⟩,q⟩
theorem ZiM:ZaF X (.type "list") (fun xs H Q=>∃p ys,xs=[.ref p]∧(SqL X.K H p ys∨SqT X.K H p ys)∧∀l,H l=none→Q (.ref l) (upd H l (.lst ys))):=by
 intro pins s σ H xs us Q I r h
 obtain⟨p,ys,rfl,hq,q⟩:=h
 obtain⟨u,rfl,rx⟩:=ZcX r
 cases rx
 have fin:∀ (its:List Value),ZH ys its→ys.length≤sizeLine→∀ (h':Heap) (c':Nat),(∀b o',s.heap.get? b=some o'→h'.get? b=some o') →
   h'.get? s.heap.objs.size=some { cls:=.type "list",dict:=none,data:=.seq its.toArray c',slots:=#[] }→EP X pins σ Q (.ref s.heap.objs.size) { s with heap:=h' }:=fun its r' hz h' c' kp e =>
  ⟨.ref s.heap.objs.size,_,I.laid (t':=s.toks) kp (Qh _) (show Z7 X.prog X.w _ h' _ (.lst ys) from⟨hz,its,c',r',e⟩),rfl,q _ (I.hok.fresh (Qh _))⟩
 rcases hq with hq|hq
 ·obtain⟨its,r',pl,hz⟩:=I.list hq
  have hlen:=r'.length
  obtain⟨o,ho,hc,n,hd⟩:=pl.isList
  exact call_list_seq p (.inl rfl) ho hc hd (fun h' c' kp e=>fin its r' hz h' c' kp e) (by simp only[List.size_toArray]<;>omega)
 ·obtain⟨its,r',pl,hz⟩:=I.tuple hq
  have hlen:=r'.length
  obtain⟨o,ho,hc,n,hd⟩:=pl
  exact call_list_seq p (.inr rfl) ho hc hd (fun h' c' kp e=>fin its r' hz h' c' kp e) (by simp only[List.size_toArray]<;>omega)
def tyV(K:PySem.W.Frag)(T:String)(x:V)(H:Hp):Prop:=match x with
 | .str _=>T = "str"
 | .int _=>T = "int"
 | .ref p=>(T = "list"∧∃xs,SqL K H p xs)∨(T = "tuple"∧∃o,K.lookup p=some o∧o.cls=.type "tuple"∧o.dict=none) ∨
   (T = "dict"∧((∃kvs,H p=some (.dK kvs))∨∃kvs,H p=some (.dT kvs)))∨(T = "set"∧∃S n,H p=some (.set S n))
 | _=>False
theorem ZnO{pins:List (Addr×Obj)}{σ:St}{H:Hp}{s:Shared}{T:String}{x:V}{v:Value}(I:Inv X pins σ H s)(r:ZI x v)(ty:tyV X.K T x H) :
  s.TypeIs v T∧∀a,v=.ref a→∃ob,s.heap.get? a=some ob∧ob.dict=none:=by
 cases x with
 | str z =>
  obtain⟨t,rfl⟩:=r
  cases (show T = "str" from ty)
  exact⟨typeIs_str s z t,fun _ e=>nomatch e⟩
 | int i =>
  obtain⟨t,rfl⟩:=r
  cases (show T = "int" from ty)
  exact⟨typeIs_int s i t,fun _ e=>nomatch e⟩
 | ref p =>
  cases r
  rcases ty with⟨rfl,xs,hq⟩|⟨rfl,o,hk,hc,hd⟩|⟨rfl,hk⟩|⟨rfl,S,n,hk⟩
  ·obtain⟨its,_,pl,_⟩:=I.list hq
   refine⟨pl.isList.typeIs,fun a e=>?_⟩
   cases e
   obtain⟨o,n,e,c,hd,_⟩:=pl
   exact⟨o,e,hd⟩
  ·refine⟨⟨o,I.kIn p o hk,hc⟩,fun a e=>?_⟩
   cases e
   exact⟨o,I.kIn _ o hk,hd⟩
  ·have z:∃o,s.heap.get? p=some o∧o.ExactDict:=by
    rcases hk with⟨kvs,hk⟩|⟨kvs,hk⟩
    ·obtain⟨_,_,_,_,o,_,_,e,ex,_⟩:=I.hok p _ hk
     exact⟨o,e,ex⟩
    ·obtain⟨_,_,_,_,o,_,_,e,ex,_⟩:=I.hok p _ hk
     exact⟨o,e,ex⟩
   obtain⟨o,e,ex⟩:=z
   refine⟨⟨o,e,ex.1⟩,fun a e2=>?_⟩
   cases e2
   exact⟨o,e,ex.2.1⟩
  ·obtain⟨o,_,_,_,e,ex,_⟩:=I.hok p _ hk
   refine⟨⟨o,e,ex.1⟩,fun a e2=>?_⟩
   cases e2
   exact⟨o,e,ex.2.1⟩
 | _=>exact False.elim ty
def ZsN(K:PySem.W.Frag)(T:String)(r:V→List V→Hp→VK→Prop)(to:TE):TE:=fun σ H Q=>to σ H fun x H1=>tyV K T x H1∧r x [] H1 Q
def tBM(K:PySem.W.Frag)(T:String)(r:V→List V→Hp→VK→Prop)(to:TE)(t:TA):TE:=fun σ H Q=>to σ H fun x H1=>tyV K T x H1∧t σ H1 fun xs H2=>r x xs H2 Q
variable {o e:Expr} {es:List Expr} {to:TE} {t:TA} {name:Str} {apos cpos:Pos} {T id:String} {r:V→List V→Hp→VK→Prop}
theorem Znz(pa:PlainAttrs T)(slot:Slot T name id)(hty:typeOf (.builtin id)=pure (.type "method_descriptor"))(hm:MtR X id r)(ho:PE X o to)
  (hbase:attributeBase o name X.env (eval o X.env)=eval o X.env:=by rfl) (hline:(apos.endLine == cpos.line)=true:=by rfl):PE X (.Call (.Attribute o name apos) [] [] cpos) (ZsN X.K T r to):=by
 intro pins s σ H Q I h
 refine wpAny_Call_method0_late hbase hline (thn (ho pins s σ H _ I h) fun v s1 ⟨x,H1,I1,r1,ty,q1⟩=>?_)
 obtain⟨h1,h2⟩:=ZnO I1 r1 ty
 exact⟨T,id,pa,slot,hty,h1,h2,Calls.callWith_builtin rfl (QaD (hm pins s1 σ H1 x [] v [] Q I1 r1 .nil q1))⟩
theorem Zd7(pa:PlainAttrs T)(slot:Slot T name id)(hty:typeOf (.builtin id)=pure (.type "method_descriptor"))(hm:MtR X id r)(ho:PE X o to)(ha:PA X (e::es) t)
  (hbase:attributeBase o name X.env (eval o X.env)=eval o X.env:=by rfl)
  (hfew:((backTo cpos (starEach (e::es) X.env)).all (fun x=>!x.1)&&(backToKw cpos (keywordEach [] X.env)).all (fun x=>x.1.isSome)
   && decide ((e::es).length+([]:List Keyword).length+(if ([]:List Keyword).isEmpty then 0 else 1)<30))=true:=by rfl)
  (hline:(apos.endLine == cpos.line)=true:=by rfl) (hs:starEach (e::es) X.env=(false,eval e X.env)::starEach es X.env:=by rfl) (hplain:(backTo cpos (starEach es X.env)).any (·.1)=false:=by rfl) :
  PE X (.Call (.Attribute o name apos) (e::es) [] cpos) (tBM X.K T r to t):=by
 intro pins s σ H Q I h
 refine wpAny_Call_method_late hbase hfew hline rfl (thn (ho pins s σ H _ I h) fun v s1 ⟨x,H1,I1,r1,ty,q1⟩=>?_)
 obtain⟨h1,h2⟩:=ZnO I1 r1 ty
 refine⟨T,id,pa,slot,hty,h1,h2,?_⟩
 have hA:=ha cpos pins s1 σ H1 _ I1 q1
 rw[hs]at hA ⊢
 refine Calls.callWith_builtin (by show (false||(backTo cpos (starEach es X.env)).any (·.1))=false;rw[hplain]<;>rfl) (Calls.evalArgs_plain ?_)
 exact thn hA fun us s2 ⟨vs,H2,I2,r2,q2⟩=>hm pins s2 σ H2 x vs v us Q I2 r1 r2 q2
end
def MtM(X:Cx)(id:String)(r:V→List V→Hp→VK→Prop):Prop :=
 ∀ (pins:List (Addr×Obj)) (s:Shared) (σ:St) (H:Hp) (x:V) (xs:List V) (v:Value) (us:List Value) (Q:VK),Inv X pins σ H s→ZI x v→ZH xs us→r x xs H Q →
  wpAny (model X.prog X.w) X.A (call (.builtin id) (v::us)) (EP X pins σ Q) X.xe s
theorem ZH.one:∀ {x:V} {us:List Value},ZH [x] us→∃u,us=[u]∧ZI x u
 | _,_,.cons r .nil=>⟨_,rfl,r⟩
theorem ZH.two:∀ {x y:V} {us:List Value},ZH [x,y] us→∃u v,us=[u,v]∧ZI x u∧ZI y v
 | _,_,_,.cons r (.cons q .nil)=>⟨_,_,rfl,r,q⟩
theorem ZH.zero:∀ {us:List Value},ZH [] us→us=[]
 | _,.nil=>rfl
theorem ZH.reverse{xs:List V}{us:List Value}(h:ZH xs us):ZH xs.reverse us.reverse:=by
 induction h with
 | nil=>exact .nil
 | cons r t ih=>rw[QaA,QaA];exact ZH.append ih (.cons r .nil)
section
variable {X:Cx} {pins:List (Addr×Obj)} {σ:St} {H:Hp} {s:Shared} {l b:Addr} {xs ys zs:List V}
theorem Inv.lset{its its':List Value}{n:Nat}{f:Array Value→Array Value}{t':Nat}(I:Inv X pins σ H s)(hH:H l=some (.lst xs))
  (e:s.heap.get? l=some { cls:=.type "list",data:=.seq its.toArray n }) (hf:f its.toArray=its'.toArray) (hv:ZH ys its') (hz:ys.length≤sizeLine) :
  Inv X pins σ (upd H l (.lst ys)) { s with heap:=s.heap.update l (Obj.mapSeq f),toks:=t' }:=by
 have q:=PySem.IsL.update e f
 rw[hf]at q
 refine I.write (x:=l) (e:=l) (by rw[hH];exact trivial) (.inl rfl) (fun b' u hb hu=>(Heap.get?_update_other s.heap (Obj.mapSeq f) (Ne.symm hb)).trans hu) ⟨_,q⟩ ?_
 exact⟨hz,its',_,hv,q⟩
theorem Inv.lnew{its:List Value}{t':Nat}(I:Inv X pins σ H s)(hv:ZH ys its)(hz:ys.length≤sizeLine) :
  Inv X pins σ (upd H s.heap.objs.size (.lst ys)) { s with heap:=s.heap.push { cls:=.type "list",data:=.seq its.toArray },toks:=t' } :=
 I.laid (fun _ _ q=>Qc _ q) (Qh _) ⟨hz,its,0,hv,Qq _ rfl⟩
theorem Inv.fresh(I:Inv X pins σ H s):H s.heap.objs.size=none:=I.hok.fresh (Qh _)
theorem Inv.lstM(I:Inv X pins σ H s)(hH:H l=some (.lst xs)):xs.length≤sizeLine∧∃ (its:List Value) (n:Nat),ZH xs its∧xs.length=its.length∧s.heap.get? l=some { cls:=.type "list",data:=.seq its.toArray n }:=by
 obtain⟨z,its,n,r,e⟩:=I.hok l _ hH
 exact⟨z,its,n,r,r.length,e⟩
end
section
variable {X:Cx}
def Zpl:V→List V→Hp→VK→Prop:=fun x vs H Q=>∃l xs y,x=.ref l∧vs=[y]∧H l=some (.lst xs)∧xs.length<sizeLine∧Q .non (upd H l (.lst (xs++[y])))
theorem Zbv:MtM X "list.append" Zpl:=by
 intro pins s σ H x vs v us Q I rx rv h
 obtain⟨l,xs,y,rfl,rfl,hH,hz,q⟩:=h
 cases rx
 obtain⟨u,rfl,ru⟩:=rv.one
 obtain⟨z,its,n,r,hl,e⟩:=I.lstM hH
 refine call_meets F.slot_list_append ⟨_,e,rfl⟩ F.entry_list_append (F.args_list_append_2 _ _) (PySem.list_append l its.toArray n u (by rw[QE];omega)) ⟨e,?_⟩
 refine⟨.non,_,I.lset (its':=its++[u]) hH e (by simp) (r.append (.cons ru .nil)) ?_,rfl,q⟩
 rw[Qf,Qt]
 omega
def rExtend:V→List V→Hp→VK→Prop:=fun x vs H Q=>∃l b xs zs,x=.ref l∧vs=[.ref b]∧H l=some (.lst xs)∧H b=some (.lst zs)∧xs.length+zs.length≤sizeLine∧Q .non (upd H l (.lst (xs++zs)))
def rPop:V→List V→Hp→VK→Prop:=fun x vs H Q=>∃l xs y,x=.ref l∧vs=[]∧H l=some (.lst xs)∧xs[xs.length-1]? = some y∧Q y (upd H l (.lst xs.dropLast))
def rPopAt:V→List V→Hp→VK→Prop:=fun x vs H Q=>∃l xs i k y,x=.ref l∧vs=[.int i]∧H l=some (.lst xs) ∧ -(2 ^ 63)≤i∧i<2 ^ 63∧seqIndex? i xs.length=some k∧xs[k]? = some y∧Q y (upd H l (.lst (xs.eraseIdx k)))
def ZnS:V→List V→Hp→VK→Prop:=fun x vs H Q=>∃l xs,x=.ref l∧vs=[]∧H l=some (.lst xs)∧Q .non (upd H l (.lst xs.reverse))
theorem ZkD:MtM X "list.reverse" ZnS:=by
 intro pins s σ H x vs v us Q I rx rv h
 obtain⟨l,xs,rfl,rfl,hH,q⟩:=h
 cases rx
 have hus:=rv.zero
 subst hus
 obtain⟨z,its,n,r,hl,e⟩:=I.lstM hH
 refine call_meets F.slot_list_reverse ⟨_,e,rfl⟩ F.entry_list_reverse (F.args_list_reverse_1 _) (AutoSeq1.list_reverse_list_0 l its.toArray n (by rw[QE];omega)) ⟨e,?_⟩
 refine⟨.non,_,I.lset (its':=its.reverse) hH e (by simp) r.reverse ?_,rfl,q⟩
 rw[QaE]
 omega
def Zqs:V→List V→Hp→VK→Prop:=fun x vs H Q=>∃l xs,x=.ref l∧vs=[]∧H l=some (.lst xs)∧Q .non (upd H l (.lst []))
theorem Zm0:MtM X "list.clear" Zqs:=by
 intro pins s σ H x vs v us Q I rx rv h
 obtain⟨l,xs,rfl,rfl,hH,q⟩:=h
 cases rx
 have hus:=rv.zero
 subst hus
 obtain⟨z,its,n,r,hl,e⟩:=I.lstM hH
 refine call_meets F.slot_list_clear ⟨_,e,rfl⟩ F.entry_list_clear (F.args_list_clear_1 _) (AutoSeq1.list_clear_list_0 l its.toArray n (by rw[QE];omega)) ⟨e,?_⟩
 exact⟨.non,_,I.lset (its':=[]) (ys:=[]) hH e rfl .nil (Qw _),rfl,q⟩
def Zsq:R2:=fun x y H Q=>∃l b xs zs,x=.ref l∧y=.ref b∧H l=some (.lst xs)∧H b=some (.lst zs)∧xs.length+zs.length≤sizeLine∧∀p,H p=none→Q (.ref p) (upd H p (.lst (xs++zs)))
theorem ZeG:OpR X (binaryOp .Add) Zsq:=by
 intro pins s σ H x y v u Q I rx ry h
 obtain⟨l,b,xs,zs,rfl,rfl,hH,hB,hz,q⟩:=h
 cases rx
 cases ry
 obtain⟨z,its,n,r,hl,e⟩:=I.lstM hH
 obtain⟨z2,its2,n2,r2,hl2,e2⟩:=I.lstM hB
 refine PySem.P.add_list e e2 ?_ (by rw[QE,QE];omega)
 have ea:its.toArray++its2.toArray=(its++its2).toArray:=by simp
 rw[ea]
 exact⟨.ref _,_,I.lnew (t':=s.toks) (r.append r2) (by rw[Qf];omega),rfl,q _ I.fresh⟩
def rRep:R2:=fun x y H Q=>∃l k xs,x=.ref l∧y=.int k∧H l=some (.lst xs) ∧ -(2 ^ 63)≤k∧k<2 ^ 63∧xs.length*k.toNat≤sizeLine ∧
 ∀p,H p=none→Q (.ref p) (upd H p (.lst (List.replicate k.toNat xs).flatten))
end
section
variable {prog:Program} {w:World} {A:Around} {E:Value→Shared→Prop} {s:Shared}
end
section
variable {X:Cx}
end
end L2
namespace Att
open PySem PySem.W PySem.Calls PyProof.Rows
theorem ZfZ{P:Params}{h:Heap}:∀ (ns:List Int) (vs:List Value),WellAll P h vs (ns.map WData.int)→IntsAre vs ns:=by
 intro ns
 induction ns with
 | nil =>
  intro vs w
  rw[QaP]at w
  cases w
  exact .nil
 | cons n ns ih =>
  intro vs w
  rw[Qj]at w
  cases w with
  | cons a b =>
   cases a
   exact .cons _ _ (ih _ b)
theorem ZlU{l:OpenLaw}{n:Nat}(hn:l.most=some n){P:Params}{h:Heap}{args:List WData}{vals:List Value}
  (hpre:l.row.toRowW.claim.pre args=true) (hwl:WellAll P h vals args) :
  ∃a vs ns,vals=[Value.ref a]∧args=[WData.list (ns.map WData.int)]∧h.get? a=some { cls:=.type "list",data:=.seq vs.toArray }∧IntsAre vs ns∧ns.length≤n:=by
 have hsh:WShape.hasAll [] args [.list .int]=true:=(pre_splitW hpre).1
 have hc:l.pre.holds [] { args:=args }=true:=(pre_splitW hpre).2
 obtain⟨d,r,rfl,h1,h2⟩:=hasAllW_cons hsh
 obtain rfl:=hasAllW_nil h2
 obtain⟨xs,rfl,h3⟩:=hasW_list h1
 obtain⟨ns,rfl⟩:=items_int h3
 have hlen:ns.length≤n:=by
  unfold OpenLaw.pre at hc
  have h4:(WTm.not (.lt (.lit (.int (n:Int))) (.len (.arg 0)))).holds [] { args:=[.list (ns.map .int)] }=true:=by
   have h4:=(holds_andW hc).1
   rw[hn]at h4
   exact h4
  have h5:=condW_of h4 (w_not (w_lt w_lit (w_len_list (w_arg rfl))))
  rw[Qa]at h5
  refine Nat.le_of_not_lt fun q=>?_
  have q':(n:Int)<((ns.length:Nat):Int):=by omega
  first
   | (rw[decide_eq_true q']at h5;exact absurd h5 (by decide))
   | (simp at h5;omega)
 cases hwl with
 | cons w1 w2 =>
  cases w2
  cases w1 with
  | list ho hall=>exact⟨_,_,ns,rfl,rfl,ho,ZfZ ns _ hall,hlen⟩
theorem ZlT(l:OpenLaw)(args:List WData):l.row.toRowW.claim.post args (.bool true) args=true :=
 postW_of (r:=l.row.toRowW) (X:=(true == true))
  (show WShape.has [] (.bool true) .bool=true by first|rfl|decide|simp[WShape.has,WShape.arms,WShape.armsAll])
  (show (WTm.eq .res (.lit (.bool true))).value [] { args:=args,res:=some (.bool true),after:=args }=some (.bool (true == true)) from w_eq_bool (w_res rfl) w_lit) rfl
theorem attach_call{l:OpenLaw}{n:Nat}{q:Program}{loose:List Str}{XP:(Str→Option Value)→Heap→Prop}{YP:World→Heap→Prop}{d:DefRec}
  (hn:l.most=some n) (hdf:d.params.defaults=[])
  (call:∀ (w:World) (s₀ s₁:Shared) (mg mb:Str→Option Value) (fa:Addr) (o:Obj) (pm cd doc:Value) (a:Addr) (vs:List Value) (ns:List Int),
   Ground q loose [] XP w s₀ mg mb s₁.heap→YP w s₁.heap →
   s₁.heap.get? fa=some o→o.data=.func (docDef d.name d.params d.body d.scope pm cd doc)→s₁.heap.CodeRec cd d.name→mg d.name=some (.ref fa) →
   s₁.heap.get? a=some { cls:=.type "list",data:=.seq vs.toArray }→IntsAre vs ns→ns.length≤n→s₁.gens = #[] →
   codeAny (model l.prog w) callerA (.call (.ref fa) ⟨[.ref a],[]⟩) (fun r s'=>r=.ok (.ret (.bool true))∧OldK s₁.heap s'.heap∧s'.os=s₁.os∧AllBare s'.gens) s₁) :
  WalkO q loose XP YP l.row.toRowW d [] (fun f vs=>PySem.call f vs):=by
 intro w s₀ s₁ mg mb G Y fa o pm cd doc dV kV ho hd hcd hD hmg hg args vals as hpre hlay hrd hwl hlo
 obtain rfl:dV=.none:=Dflts.none hD hdf
 obtain rfl:kV=.none:=Dflts.noKw hD
 obtain⟨a,vs,ns,rfl,rfl,hobj,hints,hlen⟩:=ZlU hn hpre hwl
 refine enter_call (codeAny_mono (call w s₀ s₁ mg mb fa o pm cd doc a vs ns G Y ho (fd_plain hd) hcd hmg hobj hints hlen hg) fun r s' hq=>?_)
 obtain⟨rfl,h2,h3,h4⟩:=hq
 exact⟨.inl ⟨.bool true,.bool true,[],rfl,fun _=>rfl,.bool true,ZlT l _,fun _=>⟨List.Pairwise.nil,fun _ hm=>(nomatch hm)⟩⟩,h2,h3,h4⟩
section
variable {prog:Program} {w:World} {A:Around} {E:Value→Shared→Prop} {s:Shared} {K:Frag}
def noObjs(h:Heap):Heap:={ h with objs:=#[] }
def ledger(h:Heap)(L d:Addr):List (Addr×Obj):=(List.range h.objs.size).filterMap fun a=>if a=L∨a=d then none else (h.get? a).map fun o=>(a,o)
end
end Att
namespace L2
open PySem PySem.Spec PyProof.Rows
theorem ZfC:∀ {vs:List Value} {ns:List Int},IntsAre vs ns→ZH (ns.map V.int) vs
 | _,_,.nil=>.nil
 | _,_,.cons n t h=>.cons ⟨t,rfl⟩ (ZfC h)
def Zq9(H:Hp):Prop:=∀b,H b=none∨∃o xs,H b=some (.frz o (.lst xs))
theorem Znm{P:Program}{w:World}{K:PySem.W.Frag}{mg mb:Str→Option Value}{CX:CXT}{k:Nat}{fa a:Addr}{fd:FuncData}{x:Str}{sp:Sp}{s₁:Shared}{vs:List Value}{ns:List Int}
  (KX:K.In s₁.heap) (hns:s₁.heap.Ns mainGlobals mg) (hb:s₁.heap.Ns builtinsNs mb) (hbb:∀x:Str,x ≠ "__name__"→mb x=bootBuiltins x) (hlim:s₁.heap.NoLimit) (hg:s₁.gens = #[])
  (ha:s₁.heap.get? a=some { cls:=.type "list",data:=.seq vs.toArray }) (hi:IntsAre vs ns) (hl:ns.length≤sizeLine) (hr:ZaV k callerA)
  (F:∀base:Heap,K.In base→base.Ns mainGlobals mg→Zer P w K mg base CX k fa fd [x] sp) (hbind:∀ (s:Shared) (u:Value),BindsTo s fd ⟨[u],[]⟩ [(x,u)])
  (hsp:∀H:Hp,Zq9 H→SqL K H a (ns.map V.int)→sp [.ref a] H (fun v _=>v=.bl true) fun _ _ _=>False)
  (hCX:∀H e s',CX [] H s₁ (fun _ _ _=>False) e s'→False) :
  codeAny (model P w) callerA (.call (.ref fa) ⟨[.ref a],[]⟩) (fun r s'=>r=.ok (.ret (.bool true))∧OldK s₁.heap s'.heap∧s'.os=s₁.os∧AllBare s'.gens) s₁:=by
 have rv:=ZfC hi
 have lenV:=hi.length
 have core:∀H:Hp,Zq9 H→SqL K H a (ns.map V.int)→HOk P w H s₁.heap→(∀b,H b≠none→b=a)→(H a≠none→K.lookup a=none) →
   codeAny (model P w) callerA (.call (.ref fa) ⟨[.ref a],[]⟩) (fun r s'=>r=.ok (.ret (.bool true))∧OldK s₁.heap s'.heap∧s'.os=s₁.os∧AllBare s'.gens) s₁:=by
  intro H hO hS hok hA hK
  have base_of:∀ {b:Addr} {o:Obj},s₁.heap.get? b=some o→H b=none→(Ziu s₁.heap H).get? b=some o:=fun e n=>ZnU e n
  have noA:∀ {b:Addr} {o:Obj} {es:Array DictEntry} {ep:Nat},s₁.heap.get? b=some o→o.data=.dict es ep→H b=none:=fun {b o es ep} e d=>by
   cases q:H b with
   | none=>rfl
   | some u =>
    have e':b=a:=hA b (by rw[q];simp)
    subst e'
    rw[ha]at e;cases e
    have d':Data.seq vs.toArray _=Data.dict es ep:=d
    cases d'
  have nsK:∀ {b:Addr} {m:Str→Option Value},s₁.heap.Ns b m→(Ziu s₁.heap H).Ns b m:=fun {b m} ⟨o,es,ep,e,d,r⟩=>⟨o,es,ep,base_of e (noA e d),d,r⟩
  have hKb:K.In (Ziu s₁.heap H):=fun b o e=>base_of (KX b o e) (by
   cases q:H b with
   | none=>rfl
   | some u =>
    have e':b=a:=hA b (by rw[q];simp)
    subst e'
    rw[hK (by rw[q];simp)]at e;cases e)
  have hM:Mod K mg (Ziu s₁.heap H):=⟨hKb,nsK hns,⟨mb,nsK hb,hbb⟩,let ⟨mc,h1,h2⟩:=hlim;⟨mc,nsK h1,h2⟩⟩
  have e0:ZkG P w K mg (Ziu s₁.heap H) callerA [] s₁ H:=⟨rfl,hM,fun b o e=>Zoq e,Nat.le_of_eq (ZlY _ _),trivial,fun b hb=>absurd (show b∈([]:List Addr) from hb) (by simp),hok,.of_eq hg⟩
  refine codeAny_mono ((F _ hKb (nsK hns)).run callerA [] s₁ H ⟨[.ref a],[]⟩ [.ref a] [.ref a] _ _ hr e0 (hbind s₁ (.ref a)) (.cons rfl .nil) (hsp H hO hS)) fun r s' h=>?_
  cases r with
  | error e=>exact(hCX H e s' h).elim
  | ok fl =>
   cases fl with
   | next=>exact False.elim h
   | brk=>exact False.elim h
   | cont=>exact False.elim h
   | ret u =>
    obtain⟨v,H',os,bare,un,hok',r',q⟩:=h
    have q':v=.bl true:=q
    subst q'
    obtain rfl:u=Value.bool true:=r'
    refine⟨rfl,OldK.of_keep fun b o e=>?_,os,bare⟩
    cases q:H b with
    | none=>exact un.keep b o e q (by intro z;exact absurd (show b∈([]:List Addr) from z) (by simp)) (by simp)
    | some u =>
     rcases hO b with z|⟨ob,xs,z⟩
     ·rw[q]at z;cases z
     ·have z2:=un.frzs b ob _ z
      obtain⟨e1,_⟩:=hok b _ z
      obtain⟨e2,_⟩:=hok' b _ z2
      rw[e]at e1;cases e1
      exact e2
 cases hk:K.lookup a with
 | some o =>
  have e:=KX a o hk
  rw[ha]at e
  cases e
  refine core (fun _=>none) (fun _=>.inl rfl) (.inr ⟨_,vs.toArray,_,hk,rfl,rfl,rfl,by rw[QE,lenV];exact hl,by simpa using rv⟩) (fun b u z=>by have z':(none:Option HO)=some u:=z;cases z') (fun b z=>absurd rfl z) fun z=>absurd rfl z
 | none =>
  refine core (fun b=>if b=a then some (.frz { cls:=.type "list",data:=.seq vs.toArray } (.lst (ns.map V.int))) else none) (fun b=>?_) (.inl (.inr ⟨{ cls:=.type "list",data:=.seq vs.toArray },if_pos rfl⟩)) (fun b u z=>?_) (fun b z=>?_) fun _=>hk
  ·by_cases hb:b=a
   ·exact .inr ⟨_,_,if_pos hb⟩
   ·exact .inl (if_neg hb)
  ·by_cases hb:b=a
   ·have z':=(if_pos hb).symm.trans z
    cases z'
    subst hb
    exact⟨ha,by rw[Qa];exact hl,vs,_,rv,ha⟩
   ·have z':=(if_neg hb).symm.trans z
    cases z'
  ·by_cases hb:b=a
   ·exact hb
   ·exact absurd (if_neg hb) z
abbrev KOf{K:PySem.W.Frag}{h:Heap}(_:K.In h):PySem.W.Frag:=K
theorem walk_of{l:PySem.W.OpenLaw}{n k:Nat}{q:Program}{loose:List Str}{XP:(Str→Option Value)→Heap→Prop}{YP:World→Heap→Prop}{d:DefRec}{K:Params→PySem.W.Frag}{CX:World→CXT}{sp:World→Sp}{x:Str}
  (hn:l.most=some n) (hn2:n≤sizeLine) (hdf:d.params.defaults=[]) (hr:ZaV k callerA)
  (hY:∀ (w:World) (h:Heap),YP w h→(K w.params).In h)
  (F:∀ (w:World) (mg:Str→Option Value) (fa:Addr) (h:Heap),(K w.params).In h→h.Ns mainGlobals mg→mg d.name=some (.ref fa) →
   ∃fd:FuncData,(∀ (s:Shared) (u:Value),BindsTo s fd ⟨[u],[]⟩ [(x,u)]) ∧
    ∀base:Heap,(K w.params).In base→base.Ns mainGlobals mg→Zer l.prog w (K w.params) mg base (CX w) k fa fd [x] (sp w))
  (hsp:∀ (w:World) (H:Hp) (a:Addr) (ns:List Int),ns.length≤n→Zq9 H→SqL (K w.params) H a (ns.map V.int)→sp w [.ref a] H (fun v _=>v=.bl true) fun _ _ _=>False)
  (hCX:∀ (w:World) (H:Hp) (s:Shared) (e:Value) (s':Shared),CX w [] H s (fun _ _ _=>False) e s'→False) :
  PySem.W.WalkO q loose XP YP l.row.toRowW d [] (fun f vs=>PySem.call f vs):=by
 refine Att.attach_call hn hdf fun w s₀ s₁ mg mb fa o pm cd doc a vs ns G Y ho hd hcd hmg hobj hints hlen hg=>?_
 have KX:=hY w _ Y
 obtain⟨fd,hb,hF⟩:=F w mg fa _ KX G.T.g hmg
 exact Znm KX G.T.g G.T.b G.T.builtins G.T.nolimit hg hobj hints (Qy hlen hn2) hr hF hb (fun H hO hS=>hsp w H a ns hlen hO hS) fun H e s'=>hCX w H s₁ e s'
def Z6(s:Stmt)(j:Nat):Stmt:=match s with
 | .ClassDef _ _ _ body _ _ _ _ _ _ _=>body.getD j (.Pass ⟨0,0,0,0⟩)
 | _=>.Pass ⟨0,0,0,0⟩
def Zq(s:Stmt):Arguments:=match s with
 | .FunctionDef _ a _ _ _ _ _ _ _ _=>a
 | _=>{ posonlyargs:=[],args:=[],vararg:=none,kwonlyargs:=[],kw_defaults:=[],kwarg:=none,defaults:=[] }
def Zn(s:Stmt):List Stmt:=match s with
 | .FunctionDef _ _ b _ _ _ _ _ _ _=>b
 | _=>[]
def Zg(s:Stmt):Scope:=match s with
 | .FunctionDef _ _ _ _ _ _ sc _ _ _=>sc
 | _=>{ kind:=.function,names:=[],isGenerator:=false,isCoroutine:=false }
abbrev CX0:CXT:=fun _ _ _ _ _ _=>False
abbrev E0:XK:=fun _ _ _=>False
theorem ZkS{X:Cx}:ZeF CX0 X E0:=fun _ _ _ _ _ _ _ h=>h.elim
structure Fun (K:PySem.W.Frag) (x qual:Str) (st:Stmt) (f:Addr) (fd:FuncData):Prop where
 ex:∃ (oc:Value) (od:Option Addr) (kV doc pm:Value) (an:Option Addr) (cdv ct:Value) (osl:Array (Option Value)),
  fd=PySem.W.fnOf x qual (Zq st) (Zn st) (Zg st) .none kV doc pm an cdv ct∧K.lookup f=some ⟨oc,od,.func fd,osl⟩∧PySem.W.codeIn K cdv qual=true
 kp:PySem.W.keepIn K (.ref f)=true
section
variable {P:Program} {w:World} {K:PySem.W.Frag} {mg:Str→Option Value} {base:Heap}
theorem Fun.ok{x qual:Str}{st:Stmt}{f:Addr}{fd:FuncData}{N ps:List Str}{k:Nat}{sp:Sp}(F:Fun K x qual st f fd)(S:Zr N ps (Zg st))(len:∀vs H Q E,sp vs H Q E→vs.length=ps.length)
  (hbody:∀ (cdv:Value) (A:Around) (outer:List Env) (s:Shared) (H:Hp) (vs:List V) (Q:VK) (E:XK),ZaV k (A.deeper (envOfC qual (Zg st) s.heap.objs.size f cdv))→sp vs H Q E →
   ∃t,PSs (ZiB CX0 P w K mg base N qual (Zg st) f cdv A outer s H E).nox (Zn st) t∧t { nx:=fun _ H'=>Q .non H',rt:=Q } (Zea N vs) H):Zer P w K mg base CX0 (k+1) f fd ps sp:=by
 obtain⟨oc,od,kV,doc,pm,an,cdv,ct,osl,rfl,lk,hcd⟩:=F.ex
 refine Zsh lk hcd S len fun A outer s H vs Q E hr hsp=>?_
 obtain⟨t,h,q⟩:=hbody cdv A outer s H vs Q E hr hsp
 exact⟨t,h.nox,q⟩
theorem Fun.binds{x qual:Str}{st:Stmt}{f:Addr}{fd:FuncData}{ps:List Str}(F:Fun K x qual st f fd)
  (h:∀ (kV doc pm:Value) (an:Option Addr) (cdv ct:Value) (us:List Value),us.length=ps.length→bindArgs (PySem.W.fnOf x qual (Zq st) (Zn st) (Zg st) .none kV doc pm an cdv ct) ⟨us,[]⟩=pure (ps.zip us)):ZcB K fd ps []:=by
 obtain⟨oc,od,kV,doc,pm,an,cdv,ct,osl,rfl,lk,hcd⟩:=F.ex
 exact .all (h kV doc pm an cdv ct)
theorem ZJ{x qual:Str}{st:Stmt}{f:Addr}{oc:Value}{od an:Option Addr}{osl:Array (Option Value)}{kV doc pm cdv ct:Value}(l:K.lookup f=some ⟨oc,od,.func (PySem.W.fnOf x qual (Zq st) (Zn st) (Zg st) .none kV doc pm an cdv ct),osl⟩)
  (c:PySem.W.codeIn K cdv qual=true) (k:PySem.W.keepIn K (.ref f)=true):Fun K x qual st f (PySem.W.fnOf x qual (Zq st) (Zn st) (Zg st) .none kV doc pm an cdv ct):=⟨⟨oc,od,kV,doc,pm,an,cdv,ct,osl,rfl,l,c⟩,k⟩
end
theorem ZkT{A:Around}{k:Nat}(hr:ZaV k A):A.units+1<cLine:=Nat.lt_of_le_of_lt (Nat.add_le_add_left (by decide:1≤64) _) hr.units
theorem ZC{n:Nat}(h:n≤1000):n<sizeLine:=Nat.lt_of_le_of_lt h (by decide)
section
variable {X:Cx}
theorem pv(i:Nat){x:Str}{pos:Pos}(hN:X.N[i]? = some x:=by rfl)(hv:Vis X.env.scope x:=by first|exact Or.inl rfl|exact Or.inr (Or.inl rfl)|exact Or.inr (Or.inr rfl))(hd:(x == ("__debug__" : Str))=false:=by decide)
  (hcd:(x == ("__classdict__" : Str))=false:=by decide):PE X (.Name x pos) (Zpg i):=Zj2 hN hv hd hcd
end
theorem ZbE{A B:Prop}(h:B):if false=true then A else B:=by
 rw[if_neg Qk]
 exact h
theorem Zfx{A B:Prop}(h:A):if true=true then A else B:=by
 rw[if_pos rfl]
 exact h
theorem ZaY{c A B:Prop}[Decidable c](h1:c→A)(h2:¬ c→B):if c then A else B:=by
 by_cases h:c
 ·rw[if_pos h]
  exact h1 h
 ·rw[if_neg h]
  exact h2 h
theorem ZeX{c A B:Prop}[Decidable c](hc:c)(h:B):if (!decide c)=true then A else B:=by
 rw[decide_eq_true hc]
 exact ZbE h
def ZF(H H':Hp):Prop:=∀b o,H b=some o→H' b=some o
theorem ZF.refl(H:Hp):ZF H H:=fun _ _ h=>h
theorem ZF.trans{H H1 H2:Hp}(a:ZF H H1)(b:ZF H1 H2):ZF H H2:=fun c o h=>b c o (a c o h)
theorem ZF.free{H H':Hp}(e:ZF H H'){l:Addr}(h:H' l=Option.none):H l=Option.none:=by
 cases q:H l with
 | none=>rfl
 | some o =>
  rw[e l o q]at h
  cases h
theorem ZF.seq{K:PySem.W.Frag}{H H':Hp}{a:Addr}{xs:List V}(e:ZF H H')(h:SqL K H a xs):SqL K H' a xs:=by
 rcases h with(h|⟨o,h⟩)|h
 ·exact .inl (.inl (e _ _ h))
 ·exact .inl (.inr ⟨o,e _ _ h⟩)
 ·exact .inr h
def ZaT(cells:List (Str×Addr)):List (Str×NameKind)→List (Str×Addr)→List (Str×Addr)
 | [],acc=>acc
 | (n,k)::r,acc=>if k == .free then ZaT cells r ((n,(cells.lookup n).getD 0)::acc) else ZaT cells r acc
theorem Zhh{sc:Scope}{env:Env}(h:∀y∈sc.names,y.2=.free→∃c,env.cells.lookup y.1=some c) :
  closureFor sc env=pure (ZaT env.cells sc.names []):=by
 have go:∀ (names:List (Str×NameKind)) (acc:List (Str×Addr)),(∀y∈names,y.2=.free→∃c,env.cells.lookup y.1=some c) →
   (forIn names acc fun (x:Str×NameKind) (r:List (Str×Addr))=>if (x.2 == NameKind.free)=true then (do let c ← cellOf env x.1;pure (ForInStep.yield ((x.1,c)::r))) else pure (ForInStep.yield r):Sem (List (Str×Addr)))=pure (ZaT env.cells names acc):=by
  intro names
  induction names with
  | nil=>intro acc _;rfl
  | cons y r ih =>
   intro acc hy
   obtain⟨n,k⟩:=y
   rw[List.forIn_cons]
   cases hk:(k == NameKind.free) with
   | false =>
    have e1:ZaT env.cells ((n,k)::r) acc=ZaT env.cells r acc:=by
     show (if (k == NameKind.free)=true then _ else _)=_
     rw[hk];rfl
    rw[e1,← ih acc fun z hz=>hy z (Qv _ hz)]
    simp only[hk,Bool.false_eq_true,if_false,pure_bind]
   | true =>
    have hk':k=.free:=by simpa using hk
    obtain⟨c,hc⟩:=hy (n,k) Qai hk'
    have e1:ZaT env.cells ((n,k)::r) acc=ZaT env.cells r ((n,c)::acc):=by
     show (if (k == NameKind.free)=true then _ else _)=_
     rw[hk,hc];rfl
    have e2:cellOf env n=pure c:=by
     unfold cellOf
     rw[hc]
    rw[e1,← ih ((n,c)::acc) fun z hz=>hy z (Qv _ hz)]
    simp only[hk,if_true,e2,pure_bind]
 have q:=go sc.names [] h
 unfold closureFor
 first
  | (rw[show (forIn sc.names ([]:List (Str×Addr)) _:Sem (List (Str×Addr)))=pure (ZaT env.cells sc.names []) from q];rfl)
  | (simp only[bind_pure];exact q)
  | exact q
theorem ZdZ(cells:List (Str×Addr)):∀ (names:List (Str×NameKind)) (acc:List (Str×Addr)) (x:Str) (c:Addr),(ZaT cells names acc).lookup x=some c →
  (∃y∈names,y.1=x∧y.2=.free∧c=(cells.lookup x).getD 0)∨acc.lookup x=some c
 | [],acc,x,c,h=>.inr h
 | (n,k)::r,acc,x,c,h=>by
  by_cases hk:(k == NameKind.free)=true
  ·have e:ZaT cells ((n,k)::r) acc=ZaT cells r ((n,(cells.lookup n).getD 0)::acc):=by
    show (if (k == NameKind.free)=true then _ else _)=_
    rw[if_pos hk]
   rw[e]at h
   rcases ZdZ cells r _ x c h with⟨y,hy,q⟩|q
   ·exact .inl ⟨y,Qv _ hy,q⟩
   ·rw[QaB]at q
    by_cases hx:(x == n)=true
    ·rw[hx]at q
     have hx':x=n:=by simpa using hx
     subst hx'
     exact .inl ⟨(x,k),Qai,rfl,by simpa using hk,(Ql q).symm⟩
    ·have hx':(x == n)=false:=by simpa using hx
     rw[hx']at q
     exact .inr q
  ·have e:ZaT cells ((n,k)::r) acc=ZaT cells r acc:=by
    show (if (k == NameKind.free)=true then _ else _)=_
    rw[if_neg hk]
   rw[e]at h
   rcases ZdZ cells r _ x c h with⟨y,hy,q⟩|q
   ·exact .inl ⟨y,Qv _ hy,q⟩
   ·exact .inr q
theorem ZgJ(cells:List (Str×Addr)):∀ (names:List (Str×NameKind)) (acc:List (Str×Addr)) (x:Str),((∃y∈names,y.1=x∧y.2=.free)∨∃c,acc.lookup x=some c) →
  ∃c,(ZaT cells names acc).lookup x=some c
 | [],acc,x,h=>by
  rcases h with⟨y,hy,_⟩|h
  ·cases hy
  ·exact h
 | (n,k)::r,acc,x,h=>by
  by_cases hk:(k == NameKind.free)=true
  ·have e:ZaT cells ((n,k)::r) acc=ZaT cells r ((n,(cells.lookup n).getD 0)::acc):=by
    show (if (k == NameKind.free)=true then _ else _)=_
    rw[if_pos hk]
   rw[e]
   refine ZgJ cells r _ x ?_
   by_cases hx:(x == n)=true
   ·exact .inr ⟨_,by rw[QaB,hx]⟩
   ·have hx':(x == n)=false:=by simpa using hx
    rcases h with⟨y,hy,q⟩|⟨c,q⟩
    ·rcases QI.mp hy with rfl|hy
     ·exact absurd (by simpa using q.1.symm) hx
     ·exact .inl ⟨y,hy,q⟩
    ·exact .inr ⟨c,by rw[QaB,hx'];exact q⟩
  ·have e:ZaT cells ((n,k)::r) acc=ZaT cells r acc:=by
    show (if (k == NameKind.free)=true then _ else _)=_
    rw[if_neg hk]
   rw[e]
   refine ZgJ cells r _ x ?_
   rcases h with⟨y,hy,q⟩|h
   ·rcases QI.mp hy with rfl|hy
    ·exact absurd (by simpa using q.2) hk
    ·exact .inl ⟨y,hy,q⟩
   ·exact .inr h
structure Zan (N N':List Str) (o c:Scope):Prop where
 kind:c.kind=.function
 okind:o.kind=.function
 nocell:∀y∈c.names,y.2≠.cell
 loc:∀y∈c.names,y.2=.local→c.names.lookup y.1=some .local
 free:∀y∈c.names,y.2=.free→c.names.lookup y.1=some .free∧(o.names.lookup y.1=some .cell∨o.names.lookup y.1=some .free)
 len:N.length≤N'.length
 same:∀i∈List.range N.length,∀x∈N'[i]?,c.names.lookup x=some .local∨c.names.lookup x=some .free→c.names.lookup x=some .free∧N[i]? = some x
 nd:N'.Nodup
def ZaU(X:Cx)(c:Scope)(N':List Str)(C:Addr)(s:Shared)(H:Hp)(fp:List Addr):Cx :=
 { X with N:=N',s₀:=s,H₀:=H,env:=compEnvC c (ZaT X.env.cells c.names []) C X.env,outer:=X.stack,stack:=X.stack,ex:=fp,fn:=fun _=>false,pn:=[],xe:=fun _ _=>False }
theorem Zd9{env:Env}(hf:env.scope.kind=.function):∀ (names:List (Str×NameKind)) (x:Str),
  (names.map fun (p:Str×NameKind)=>if (p.2 == NameKind.free&&env.scope.kind == .function&&env.kindOf p.1 == some .cell)=true then (p.1,NameKind.cell) else (p.1,p.2)).lookup x =
   match names.lookup x with
   | some .free=>if env.kindOf x=some .cell then some .cell else some .free
   | k=>k
 | [],x=>rfl
 | (n,k)::r,x=>by
  have ih:=Zd9 hf r x
  rw[Qj]
  by_cases hx:(x == n)=true
  ·have hx':x=n:=by simpa using hx
   subst hx'
   have e2:List.lookup x ((x,k)::r)=some k:=by rw[QaB];simp
   rw[e2]
   by_cases hk:k=.free
   ·subst hk
    by_cases hc:env.kindOf x=some .cell
    ·simp[List.lookup_cons,hf,hc]
    ·simp[List.lookup_cons,hf,hc]
   ·have hk':(k == NameKind.free)=false:=by simpa using hk
    rw[hk']
    simp only[Bool.false_and,Bool.false_eq_true,if_false,List.lookup_cons,beq_self_eq_true]
    all_goals (cases k<;>first|rfl|exact absurd rfl hk)
  ·have hx':(x == n)=false:=by simpa using hx
   have e2:List.lookup x ((n,k)::r)=List.lookup x r:=by rw[QaB,hx']
   rw[e2,← ih]
   by_cases hc:(k == NameKind.free&&env.scope.kind == .function&&env.kindOf n == some .cell)=true
   ·simp only[hc,if_true,List.lookup_cons,hx']
   ·simp only[hc,if_false,List.lookup_cons,hx',Bool.false_eq_true]
section
variable {X:Cx} {N N':List Str} {o c:Scope}
theorem Zdg(S:Zan N N' o c)(ho:X.env.scope=o)(cl:List (Str×Addr))(C:Addr)(x:Str):(compEnvC c cl C X.env).kindOf x =
  match c.names.lookup x with
  | some .free=>if X.env.kindOf x=some .cell then some .cell else some .free
  | k=>k:=Zd9 (env:=X.env) (by rw[ho];exact S.okind) c.names x
theorem ZdD{names:List (Str×NameKind)}{x:Str}{k:NameKind}(h:names.lookup x=some k):(x,k)∈names:=Qad h
theorem Zcn(S:Zan N N' o c)(ho:X.env.scope=o)(ok:X.Ok){x:Str}{a:Addr}(h:(ZaT X.env.cells c.names []).lookup x=some a) :
  X.env.cells.lookup x=some a∧c.names.lookup x=some .free:=by
 rcases ZdZ _ _ _ _ _ h with⟨y,hy,rfl,hf,e⟩|q
 ·have hk:=S.free y hy hf
  have hv:X.env.kindOf y.1=some .cell∨X.env.kindOf y.1=some .free:=by
   show X.env.scope.names.lookup y.1=_∨X.env.scope.names.lookup y.1=_
   rw[ho];exact hk.2
  obtain⟨b,hb⟩:=ok.has y.1 hv
  rw[hb]at e
  exact⟨by rw[hb,e];rfl,hk.1⟩
 ·cases q
theorem ZjF(S:Zan N N' o c)(ho:X.env.scope=o)(ok:X.Ok){x:Str}(h:c.names.lookup x=some .free):∃a,(ZaT X.env.cells c.names []).lookup x=some a∧X.env.cells.lookup x=some a:=by
 obtain⟨a,ha⟩:=ZgJ X.env.cells c.names [] x (.inl ⟨(x,.free),ZdD h,rfl,rfl⟩)
 exact⟨a,ha,(Zcn S ho ok ha).1⟩
theorem Zpr(S:Zan N N' o c)(ho:X.env.scope=o){pins:List (Addr×Obj)}{σ:St}{H:Hp}{s:Shared}{fp:List Addr}(I:Inv X pins σ H s)
  (hf:∀b∈fp,Zf2 X pins H b) (ht:∀b∈fp,b<s.heap.objs.size):(ZaU X c N' s.heap.objs.size s H fp).Ok where
 mod:=I.ok.mod
 kind:=S.kind
 glob:=I.ok.glob
 blt:=I.ok.blt
 above:=Qh _
 inj:=fun x y a h1 h2=>I.ok.inj x y a (Zcn S ho I.ok h1).1 (Zcn S ho I.ok h2).1
 has:=fun x hx=>by
  have e:=Zdg (X:=X) S ho (ZaT X.env.cells c.names []) s.heap.objs.size x
  have hx':(compEnvC c (ZaT X.env.cells c.names []) s.heap.objs.size X.env).kindOf x=some .cell∨(compEnvC c (ZaT X.env.cells c.names []) s.heap.objs.size X.env).kindOf x=some .free:=hx
  rw[e]at hx'
  cases q:c.names.lookup x with
  | none=>rw[q]at hx';rcases hx' with z|z<;>cases z
  | some k =>
   by_cases hk:k=.free
   ·subst hk
    obtain⟨a,ha,_⟩:=ZjF S ho I.ok q
    exact⟨a,ha⟩
   ·rw[q]at hx'
    have hc:k=.cell:=by
     cases k<;>first|rfl|exact absurd rfl hk|(rcases hx' with z|z<;>cases z)
    subst hc
    exact absurd rfl (S.nocell _ (ZdD q))
 cab:=fun x a h=>by cases (show false=true from h)
 hd:=I.ok.hd
 frames:=I.ok.frames
 stk:=.inl rfl
 exf:=fun b hb=>⟨QD (ht b hb),fun x a h=>(hf b hb).2.2.2.2.1 x a (Zcn S ho I.ok h).1⟩
 bs:=fun b ob e=>I.bs b ob e
 bsz:=Qy I.ok.bsz I.sz
 noex:=fun b ob e hb=>by
  rcases(hf b hb).2.2.2.1 with z|z
  ·exact I.ok.noex b ob e z
  ·exact absurd (QC (Qr e) (Qy I.ok.bsz z)) (Q9 _)
 exfs:=fun b hb hb'=>by
  rcases QI.mp (I.stkSub b hb') with z|z
  ·exact(hf b hb).2.1 z
  ·exact(hf b hb).2.2.1 z
 funs:=I.stack
 frf:=I.stkFree
theorem ZmH(S:Zan N N' o c)(hN:X.N=N)(ho:X.env.scope=o){pins:List (Addr×Obj)}{σ:St}{H:Hp}{s:Shared}{fp:List Addr}{h₁:Heap}{tk:Nat}{m₀:Str→Option Value}(I:Inv X pins σ H s)
  (hf:∀b∈fp,Zf2 X pins H b) (ht:∀b∈fp,b<s.heap.objs.size) (hns:h₁.Ns s.heap.objs.size m₀) (hk:∀b ob,s.heap.get? b=some ob→h₁.get? b=some ob) :
  Inv (ZaU X c N' s.heap.objs.size s H fp) [] (σ++List.replicate (N'.length-N.length) none) H { s with heap:=h₁,toks:=tk } where
 ok:=Zpr S ho I hf ht
 os:=rfl
 bare:=I.bare
 base:=Un.kept hk
 loc:=by
  refine⟨m₀,hns,fun i x v e1 e2 e3=>?_⟩
  obtain⟨m,hn,hl⟩:=I.loc
  have hlen:σ.length=N.length:=by rw[I.len,hN]
  have hi:i<σ.length:=by
   by_cases hi:i<σ.length
   ·exact hi
   ·rw[QN (by omega),List.getElem?_replicate]at e2
    split at e2<;>cases e2
  have e2':σ[i]? = some (some v):=by rw[QM hi]at e2;exact e2
  have kd:=Zdg (X:=X) S ho (ZaT X.env.cells c.names []) s.heap.objs.size x
  have vis:c.names.lookup x=some .local∨c.names.lookup x=some .free:=by
   have e3':(compEnvC c (ZaT X.env.cells c.names []) s.heap.objs.size X.env).kindOf x=some .local∨(compEnvC c (ZaT X.env.cells c.names []) s.heap.objs.size X.env).kindOf x=some .cell∨(compEnvC c (ZaT X.env.cells c.names []) s.heap.objs.size X.env).kindOf x=some .free:=e3
   rw[kd]at e3'
   cases q:c.names.lookup x with
   | none=>rw[q]at e3';rcases e3' with z|z|z<;>cases z
   | some k =>
    cases k with
    | «local»=>exact .inl rfl
    | free=>exact .inr rfl
    | cell=>exact absurd rfl (S.nocell _ (ZdD q))
    | _=>rw[q]at e3';rcases e3' with z|z|z<;>cases z
  obtain⟨hfr,hNi⟩:=S.same i (Qah.mpr (by omega)) x (by rw[show N'[i]? = some x from e1];rfl) vis
  have hok:X.env.kindOf x=some .cell∨X.env.kindOf x=some .free:=by
   show X.env.scope.names.lookup x=_∨X.env.scope.names.lookup x=_
   rw[ho];exact(S.free _ (ZdD hfr) rfl).2
  obtain⟨u,r,l⟩:=hl i x v (by rw[hN];exact hNi) e2' (.inr hok)
  refine⟨u,r,.inr ⟨?_,?_⟩⟩
  ·show (compEnvC c (ZaT X.env.cells c.names []) s.heap.objs.size X.env).kindOf x=some .cell∨(compEnvC c (ZaT X.env.cells c.names []) s.heap.objs.size X.env).kindOf x=some .free
   rw[kd,hfr]
   show (if X.env.kindOf x=some .cell then some NameKind.cell else some NameKind.free)=some .cell∨(if X.env.kindOf x=some .cell then some NameKind.cell else some NameKind.free)=some .free
   by_cases q:X.env.kindOf x=some .cell
   ·rw[if_pos q];exact .inl rfl
   ·rw[if_neg q];exact .inr rfl
  ·obtain⟨a,ha,ha'⟩:=ZjF S ho I.ok hfr
   refine⟨a,ha,?_⟩
   rcases l with⟨z,_⟩|⟨_,a',e,ob,hob,hd⟩
   ·rcases hok with q|q<;>rw[q]at z<;>cases z
   ·rw[ha']at e;cases e
    exact⟨ob,hk _ _ hob,hd⟩
 cell:=fun x a h=>by
  obtain⟨v,ob,e,d⟩:=I.cell x a (Zcn S ho I.ok h).1
  exact⟨v,ob,hk _ _ e,d⟩
 free:=I.hok.fresh (Qh _)
 freeC:=fun x a h=>I.freeC x a (Zcn S ho I.ok h).1
 pin:=fun p hp=>absurd (show p∈([]:List (Addr×Obj)) from hp) (by simp)
 hok:=I.hok.kept hk
 len:=by
  have hlen:σ.length=N.length:=by rw[I.len,hN]
  have:=S.len
  show (σ++List.replicate (N'.length-N.length) none).length=N'.length
  rw[Qf,Qav]
  omega
end
abbrev ZkP(ifs:List Expr)(env:Env):Sem Bool :=
 forIn ifs true fun k r=>if r=true then do let ok ← isTrue k env (eval k env);pure (ForInStep.yield ok) else pure (ForInStep.yield r)
def PTs(X:Cx)(ifs:List Expr)(t:TT):Prop :=
 ∀ (pins:List (Addr×Obj)) (s:Shared) (σ:St) (H:Hp) (Q:Bool→Hp→Prop),Inv X pins σ H s→t σ H Q→wpAny (model X.prog X.w) X.A (ZkP ifs X.env) (TP X pins σ Q) X.xe s
def Znw:TT:=fun _ H Q=>Q true H
theorem Zcb{X:Cx}:PTs X [] Znw:=fun _ _ _ H _ I h=>wpAny_tests_nil ⟨H,I,h⟩
theorem ZiZ{X:Cx}{e:Expr}{t:TT}(h:PT X e t):PTs X [e] t:=fun pins s σ H Q I q=>wpAny_tests_one (h pins s σ H Q I q)
section
variable {prog:Program} {w:World} {A:Around} {R:Result→Shared→Prop} {s:Shared}
theorem Zim{elt target iter:Expr}{ifs:List Expr}{scope:Scope}{pos:Pos}{it acc:Value}{env:Env}{E:Value→Shared→Prop}(I:Nat→Shared→Prop)
  (hE:∀e s',E e s'→False)
  (turn:∀n s,I n s→wpAny (model prog w) A (pyNext it) (fun r s₁=>match r with
   | none=>R (.ok .next) s₁
   | some v=>wpAny (model prog w) A (letOwnedTupleGo target it v) (fun _ s₀=>wpAny (model prog w) A (assign target env v) (fun _ s₂ =>
     wpAny (model prog w) A (ZkP ifs env) (fun ok s₃ =>
      if ok=true then wpAny (model prog w) A (eval elt env) (fun x s₄ =>
       wpAny (model prog w) A (call (.builtin "list.append") [acc,x]) (fun _ s₅=>∃m,m<n∧I m s₅) E s₄) E s₃
      else ∃m,m<n∧I m s₃) E s₂) E s₀) E s₁) E s)
  (n:Nat) (h:I n s):codeAny (model prog w) A (.compLoop (.ListComp elt [⟨target,iter,ifs,0⟩] scope pos) 0 it acc env) R s:=by
 have go:∀ {α:Type} {t:Sem α} {Q:α→Shared→Prop} {s:Shared},wpAny (model prog w) A t Q E s→wpAny (model prog w) A t Q (notedBy (model prog w) A env fun e s'=>R (.error e) s') s :=
  fun {α t Q s} q=>wpAny_mono q (fun _ _ z=>z) fun e s' z=>(hE e s' z).elim
 refine codeAny_loop rfl I (fun n s hI=>?_) n h
 show wpAny _ A ((compTurn (.ListComp elt [⟨target,iter,ifs,0⟩] scope pos) 0 it acc env).onRaise (fun x=>do noteFrame x env;theTreesLotGoes x)) _ _ s
 refine wpAny_noted ?_
 rw[compTurn_list]
 refine wpAny_bind (wpAny_standAt (wpAny_bind (thn (go (turn n s hI)) fun r s₁ h₁=>?_)))
 cases r with
 | none=>exact wpAny_pure h₁
 | some v =>
  refine wpAny_bind (thn (go h₁) fun _ s₀ h₀=>wpAny_bind (thn (go h₀) fun _ s₂ h₂=>wpAny_bind (thn (go h₂) fun ok s₃ h₃=>?_)))
  cases ok with
  | false=>exact wpAny_pure ⟨rfl,h₃⟩
  | true =>
   exact wpAny_bind (wpAny_bind (thn (go h₃) fun x s₄ h₄=>wpAny_bind (thn (go h₄) fun _ s₅ h₅=>wpAny_pure (wpAny_pure ⟨rfl,h₅⟩))))
end
def ZdM(J:It)(D:Addr)(k:Nat)(σ:St)(H1:Hp)(g:TG)(tc:TT)(te:TE)(Q:VK):Prop :=
 ∃W:Nat→Nat→List V→St→Hp→Prop,(∃m,W 0 m [] (σ++List.replicate k none) (upd H1 D (.lst []))) ∧
  ∀i m ys σ2 H2,W i m ys σ2 H2→(J.stop i H2∧Q (.ref D) H2) ∨
   (J.go i H2∧∃N:List V→St→Hp→Prop,(∀ys' σ' H',N ys' σ' H'→∃m',m'<m∧W (i+1) m' ys' σ' H')∧∀x H3,J.yld i H2 x H3→g x σ2 H3 fun σ4 H4=>tc σ4 H4 fun b H5 =>
    if b=true then te σ4 H5 fun y H6=>H6 D=some (.lst ys)∧ys.length<sizeLine∧N (ys++[y]) σ4 (upd H6 D (.lst (ys++[y]))) else N ys σ4 H5)
def Zmq(n:Nat)(wi:TI)(g:TG)(tc:TT)(te:TE):TE:=fun σ H Q=>wi σ H fun J H1=>∀D,H1 D=none→ZdM J D n σ H1 g tc te Q
section
variable {X:Cx} {N N':List Str} {o c:Scope}
theorem ZjD{elt tg iter:Expr}{ifs:List Expr}{pos pos':Pos}{wi:TI}{g:TG}{tc:TT}{te:TE}{use:Option (Value→Sem Unit)}{QQ:Value→Shared→Prop}(S:Zan N N' o c)(hN:X.N=N)(ho:X.env.scope=o)(hc:X.calm=true)
  (hi:PI X tg iter wi) (hg:∀C s H fp,PG (ZaU X c N' C s H fp) tg g) (ht:∀C s H fp,PTs (ZaU X c N' C s H fp) ifs tc) (he:∀C s H fp,PE (ZaU X c N' C s H fp) elt te)
  (hs:∀x,foldedSetIterable iter X.env x=pure x) {pins:List (Addr×Obj)} {s:Shared} {σ:St} {H:Hp} {Q:VK} (I:Inv X pins σ H s) (h:Zmq (N'.length-N.length) wi g tc te σ H Q)
  (post:∀ (D C:Addr) (s5:Shared) (H5:Hp) (m:Str→Option Value),Inv X pins σ H5 s5→H5 C=none→s5.heap.Ns C m→C≠X.env.locals→X.s₀.heap.objs.size≤C→(∀x a,X.env.cells.lookup x=some a→a≠C)→(∀p∈X.pn++pins,p.1≠C) →
   Q (.ref D) H5→compPost (model X.prog X.w) X.A X.xe use QQ (.ref D) C (.ok .next) s5) :
  wpAny (model X.prog X.w) X.A (comprehension (.ListComp elt [⟨tg,iter,ifs,0⟩] c pos) c X.env pos' (newList []) false (eval iter X.env) use) QQ X.xe s:=by
 have hclos:closureFor c X.env=pure (ZaT X.env.cells c.names []):=Zhh fun y hy hf=>by
  refine I.ok.has y.1 ?_
  show X.env.scope.names.lookup y.1=_∨X.env.scope.names.lookup y.1=_
  rw[ho];exact(S.free y hy hf).2
 refine wpAny_comprehension_free (use:=use) rfl hs hclos S.kind S.loc (thn (hi pins s σ H _ I h) fun v s1 h1=>thn h1 fun itv s2 h2=>?_)
 obtain⟨it,fp,tn,J,H2,e,I2,T,st2,f2,hR⟩:=h2
 subst e
 have hD:H2 s2.heap.objs.size=none:=I2.fresh
 have I3:Inv X pins σ (upd H2 s2.heap.objs.size (.lst [])) { s2 with heap:=s2.heap.push { cls:=.type "list",data:=.seq ([]:List Value).toArray } } :=
  I2.lnew (ys:=[]) (its:=[]) (t':=s2.toks) .nil (Qw _)
 have fpl:∀b∈fp,b<s2.heap.objs.size:=fun b hb=>by
  obtain⟨ob,e,_⟩:=T.obj 0 _ st2 b hb
  exact Qr e
 refine wpAny_newObj_type (wpAny_newFunctionEnv S.nocell (by intro y hy;simp at hy) (fun h₁ hns₁ hsb₁=>?_) S.kind)
 have e3:∃s3:Shared,s3={ s2 with heap:=s2.heap.push { cls:=.type "list",data:=.seq ([]:List Value).toArray } }:=⟨_,rfl⟩
 obtain⟨s3,hs3⟩:=e3
 have e3:s3.heap=s2.heap.push { cls:=.type "list",data:=.seq ([]:List Value).toArray }:=by rw[hs3]
 have sz3:s3.heap.objs.size=s2.heap.objs.size+1:=by rw[e3,Q4]
 have fpl3:∀b∈fp,b<s3.heap.objs.size:=fun b hb=>QC (fpl b hb) (by rw[sz3];exact Qa4 _)
 have f3:∀b∈fp,Zf2 X pins (upd H2 s2.heap.objs.size (.lst [])) b:=fun b hb=>⟨by rw[Zb (QD (fpl b hb))];exact(f2 b hb).1,(f2 b hb).2⟩
 have st3:tn 0 s3.heap:=T.keep 0 _ _ st2 fun b _ ob e=>by rw[e3];exact Qc _ e
 rw[← hs3]at I3
 show codeAny (model X.prog X.w) X.A (.compStart _ 0 (.ref it) (.ref s2.heap.objs.size) (compEnvC c (ZaT X.env.cells c.names []) (s2.heap.push { cls:=.type "list",data:=.seq ([]:List Value).toArray }).objs.size X.env))
  (compPost (model X.prog X.w) X.A X.xe use QQ (.ref s2.heap.objs.size) (s2.heap.push { cls:=.type "list",data:=.seq ([]:List Value).toArray }).objs.size)
  { s2 with heap:=h₁,toks:=s2.toks+([]:List (Str×Value)).length }
 have hns:h₁.Ns s3.heap.objs.size (fun x=>([]:List (Str×Value)).reverse.lookup x):=by rw[e3];exact hns₁
 have hk1:∀b ob,s3.heap.get? b=some ob→h₁.get? b=some ob:=fun b ob e=>by
  rw[e3]at e
  exact hsb₁.extBut b ob (QD (Qr e)) (Qc _ e)
 rw[← e3]
 have es4:({ s2 with heap:=h₁,toks:=s2.toks+([]:List (Str×Value)).length }:Shared)={ s3 with heap:=h₁,toks:=s2.toks }:=by rw[hs3];rfl
 rw[es4]
 obtain⟨W,⟨m0,w0⟩,turn⟩:=hR s2.heap.objs.size hD
 have I4:=ZmH (tk:=s2.toks) S hN ho I3 f3 fpl3 hns hk1
 have st4:tn 0 h₁:=T.keep 0 _ _ st3 fun b _ ob e=>hk1 b ob e
 generalize hX:ZaU X c N' s3.heap.objs.size s3 (upd H2 s2.heap.objs.size (.lst [])) fp=Y at I4
 have Yp:Y.prog=X.prog:=by rw[← hX];rfl
 have Yw:Y.w=X.w:=by rw[← hX];rfl
 have YK:Y.K=X.K:=by rw[← hX];rfl
 have Yc:Y.calm=true:=by rw[← hX];exact hc
 have YA:Y.A=X.A:=by rw[← hX];rfl
 have Yenv:Y.env=compEnvC c (ZaT X.env.cells c.names []) s3.heap.objs.size X.env:=by rw[← hX];rfl
 have Yl:Y.env.locals=s3.heap.objs.size:=by rw[Yenv];rfl
 have Yxe:Y.xe=fun _ _=>False:=by rw[← hX];rfl
 have hg':=hg s3.heap.objs.size s3 (upd H2 s2.heap.objs.size (.lst [])) fp
 have ht':=ht s3.heap.objs.size s3 (upd H2 s2.heap.objs.size (.lst [])) fp
 have he':=he s3.heap.objs.size s3 (upd H2 s2.heap.objs.size (.lst [])) fp
 rw[hX]at hg' ht' he'
 have stat:∀ {H':Hp},(∀b∈fp,H' b=none)→∀b∈fp,Zf2 Y [] H' b:=fun {H'} hn b hb=>by
  obtain⟨_,q1,q2,q3,q4,_⟩:=f3 b hb
  have z1:=I4.ok.exf b (by rw[← hX];exact hb)
  refine⟨hn b hb,z1.1,I4.ok.exfs b (by rw[← hX];exact hb),.inl (by rw[← hX];exact hb),z1.2,fun p hp=>?_⟩
  have hp':p∈([]:List (Addr×Obj)):=by
   have:Y.pn=[]:=by rw[← hX];rfl
   rw[this]at hp;exact hp
  cases hp'
 have fin:∀ (s5:Shared) (σ5:St) (H5:Hp),Inv Y [] σ5 H5 s5→Q (.ref s2.heap.objs.size) H5→compPost (model X.prog X.w) X.A X.xe use QQ (.ref s2.heap.objs.size) s3.heap.objs.size (.ok .next) s5:=fun s5 σ5 H5 I5 q=>by
  obtain⟨m,hn,_⟩:=id I5.loc
  rw[Yl]at hn
  have hCn:H5 s3.heap.objs.size=none:=by have:=I5.free;rw[Yl]at this;exact this
  have un:Un (frs X.stack) fp (upd H2 s2.heap.objs.size (.lst [])) H5 s3.heap s5.heap:=by
   have:=I5.base
   rw[← hX]at this
   exact this
  have os5:s5.os=s3.os:=by have:=I5.os;rw[← hX]at this;exact this
  have hok5:HOk X.prog X.w H5 s5.heap:=by
   have:=I5.hok
   rw[Yp,Yw]at this
   exact this
  refine post _ _ s5 H5 m (I3.call' (s':=s5) (ch:=fp) os5 un hok5 I5.bare fun b hb=>?_) hCn hn (Q3 I3.lt) I3.sz (fun x a e=>?_) (fun p hp=>?_) q
  ·obtain⟨_,q1,_,q3,q4,q5⟩:=f3 b hb
   exact⟨q3,q1,q4,q5⟩
  ·obtain⟨v,ob,e',_⟩:=I3.cell x a e
   exact QD (Qr e')
  ·exact QD (Qr (I3.pin p hp).1)
 have loop:codeAny (model X.prog X.w) X.A (.compLoop (.ListComp elt [⟨tg,iter,ifs,0⟩] c pos) 0 (.ref it) (.ref s2.heap.objs.size) (compEnvC c (ZaT X.env.cells c.names []) s3.heap.objs.size X.env))
   (compPost (model X.prog X.w) X.A X.xe use QQ (.ref s2.heap.objs.size) s3.heap.objs.size) { s3 with heap:=h₁,toks:=s2.toks }:=by
  rw[← Yenv,← YA]
  refine Zim (E:=fun _ _=>False) (fun n s'=>∃i ys σ' H',Inv Y [] σ' H' s'∧tn i s'.heap∧(∀b∈fp,H' b=none)∧W i n ys σ' H') (fun _ _ z=>z) ?_ m0
   ⟨0,[],_,_,I4,st4,fun b hb=>(f3 b hb).1,?_⟩
  ·rintro n s5 ⟨i,ys,σ5,H5,I5,st5,fr5,w5⟩
   rcases turn i n ys σ5 H5 w5 with⟨stop,qn⟩|⟨go,Nn,hNn,step⟩
   ·refine thn (T.done Y Yp Yw YK Yc i [] s5 σ5 H5 _ I5 (stat fr5) st5 stop) fun r s6 ⟨hr,I6⟩=>?_
    subst hr
    have fq:=fin s6 σ5 H5 I6 qn
    rw[← YA]at fq
    exact fq
   ·refine thn (T.item Y Yp Yw YK Yc i [] s5 σ5 H5 _ I5 (stat fr5) st5 go) fun r s6 ⟨u,hr,h6⟩=>?_
    subst hr
    refine thn h6 fun _ s7 ⟨x,H7,I7,r7,y7,st7,fr7⟩=>?_
    have I7':=I7.pinned (stat fr7) (T.obj _ _ st7)
    have back:∀ {σ9:St} {H9:Hp} {s9:Shared},Inv Y ([]++Zg3 fp s7.heap) σ9 H9 s9→Inv Y [] σ9 H9 s9∧tn (i+1) s9.heap∧∀b∈fp,H9 b=none:=fun {σ9 H9 s9} I9=>by
     refine⟨I9.unpinned,T.keep _ _ _ st7 fun b hb ob e=>(I9.pin (b,ob) (QB _ (QB _ (Zdw hb e)))).1,fun b hb=>?_⟩
     obtain⟨ob,e,d⟩:=T.obj _ _ st7 b hb
     exact(I9.pin (b,ob) (QB _ (QB _ (Zdw hb e)))).2.1
    have P1:=hg' _ s7 σ5 H7 x u _ I7' r7 (step x H7 y7)
    rw[Yp,Yw,Yxe]at P1
    refine thn P1 fun _ s8 ⟨σ8,H8,I8,q8⟩=>?_
    have P2:=ht' _ s8 σ8 H8 _ I8 q8
    rw[Yp,Yw,Yxe]at P2
    refine thn P2 fun ok s9 ⟨H9,I9,q9⟩=>?_
    cases ok with
    | false =>
     rw[if_neg Qk]at q9
     rw[if_neg Qk]
     obtain⟨b1,b2,b3⟩:=back I9
     obtain⟨m',hm',w9⟩:=hNn _ _ _ q9
     exact⟨m',hm',i+1,ys,σ8,H9,b1,b2,b3,w9⟩
    | true =>
     rw[if_pos rfl]at q9
     rw[if_pos rfl]
     have P3:=he' _ s9 σ8 H9 _ I9 q9
     rw[Yp,Yw,Yxe]at P3
     refine thn P3 fun y s10 ⟨vy,H10,I10,r10,hDl,hsz,q10⟩=>?_
     have P4:=Zbv (X:=Y) _ s10 σ8 H10 (.ref s2.heap.objs.size) [vy] (.ref s2.heap.objs.size) [y] (fun _ H'=>Nn (ys++[vy]) σ8 H') I10 rfl (.cons r10 .nil) ⟨_,ys,vy,rfl,rfl,hDl,hsz,q10⟩
     rw[Yp,Yw,Yxe]at P4
     refine thn P4 fun _ s11 ⟨_,H11,I11,_,q11⟩=>?_
     obtain⟨b1,b2,b3⟩:=back I11
     obtain⟨m',hm',w11⟩:=hNn _ _ _ q11
     exact⟨m',hm',i+1,ys++[vy],σ8,H11,b1,b2,b3,w11⟩
  ·exact w0
 have lp:=T.self X.A 0 { s3 with heap:=h₁,toks:=s2.toks } (fun it' s'=>codeAny (model X.prog X.w) X.A (.compLoop (.ListComp elt [⟨tg,iter,ifs,0⟩] c pos) 0 it' (.ref s2.heap.objs.size) (compEnvC c (ZaT X.env.cells c.names []) s3.heap.objs.size X.env))
   (compPost (model X.prog X.w) X.A X.xe use QQ (.ref s2.heap.objs.size) s3.heap.objs.size) s') (fun _ _=>False) st4 loop
 exact codeAny_compStart_list loop (wpAny_mono lp (fun _ _ z=>z) fun _ _ z=>z.elim)
theorem Inv.let{pins:List (Addr×Obj)}{σ:St}{H:Hp}{s:Shared}{C:Addr}{h':Heap}(I:Inv X pins σ H s)(hn:H C=none)(hL:C≠X.env.locals)(h1:X.s₀.heap.objs.size≤C)
  (h2:∀x a,X.env.cells.lookup x=some a→a≠C) (h3:∀p∈X.pn++pins,p.1≠C) (hs:Heap.SameBut C s.heap h'):Inv X pins σ H { s with heap:=h' } :=
 I.turned (t':=s.toks) (fun b ob hb e=>hs.extBut b ob hb e) hn hL (.inr h1) h2 h3
theorem Zci{elt tg iter:Expr}{ifs:List Expr}{pos:Pos}{wi:TI}{g:TG}{tc:TT}{te:TE}(S:Zan N N' o c)(hN:X.N=N)(ho:X.env.scope=o)(hc:X.calm=true)
  (hi:PI X tg iter wi) (hg:∀C s H fp,PG (ZaU X c N' C s H fp) tg g) (ht:∀C s H fp,PTs (ZaU X c N' C s H fp) ifs tc) (he:∀C s H fp,PE (ZaU X c N' C s H fp) elt te)
  (hs:∀x,foldedSetIterable iter X.env x=pure x:=by intro _;rfl) :
  PE X (.ListComp elt [⟨tg,iter,ifs,0⟩] c pos) (Zmq (N'.length-N.length) wi g tc te):=by
 intro pins s σ H Q I h
 rw[eval_ListComp]
 refine ZjD (use:=none) S hN ho hc hi hg ht he hs I h fun D C s5 H5 m I5 hCn hn n1 n2 n3 n4 q=>⟨m,hn,fun h' hsb=>?_⟩
 exact⟨.ref D,H5,I5.let hCn n1 n2 n3 n4 hsb,rfl,q⟩
theorem ZeN{i:Nat}{x:Str}{elt tg iter:Expr}{ifs:List Expr}{pos pos' spos:Pos}{wi:TI}{g:TG}{tc:TT}{te:TE}(hnd:X.N.Nodup)(hx:X.N[i]? = some x)(hl:Loc X.env.scope x)(S:Zan N N' o c)(hN:X.N=N)(ho:X.env.scope=o)(hc:X.calm=true)
  (hi:PI X tg iter wi) (hg:∀C s H fp,PG (ZaU X c N' C s H fp) tg g) (ht:∀C s H fp,PTs (ZaU X c N' C s H fp) ifs tc) (he:∀C s H fp,PE (ZaU X c N' C s H fp) elt te)
  (hsw:swapsWith (.ListComp elt [⟨tg,iter,ifs,0⟩] c pos) (some (.Name x pos')) spos.line X.env=pure true)
  (hs:∀x,foldedSetIterable iter X.env x=pure x:=by intro _;rfl) (hf:X.fn x=true∨X.env.scope.names.lookup x=some .local:=by first|exact .inl rfl|exact .inr rfl|assumption) :
  PS X (.Assign [.Name x pos'] (.ListComp elt [⟨tg,iter,ifs,0⟩] c pos) spos) (Zp2 (Zmq (N'.length-N.length) wi g tc te) (Zle i)):=by
 intro pins s σ H D I h
 rw[exec_Assign_Name_used _ _ _ _ hsw]
 refine wpAny_bind (wpAny_standAt (wpAny_bind ?_))
 show wpAny _ X.A (do let _ ← comprehension (.ListComp elt [⟨tg,iter,ifs,0⟩] c pos) c X.env _ (newList []) false (eval iter X.env) (some (assign (.Name x pos') X.env))) _ _ s
 refine wpAny_bind (thn (ZjD (QQ:=fun _ s'=>SP X pins D .next s') (use:=some (assign (.Name x pos') X.env)) S hN ho hc hi hg ht he hs I h ?_) fun _ s' hq=>wpAny_pure (wpAny_pure hq))
 intro L C s5 H5 m I5 hCn hn n1 n2 n3 n4 q
 show wpAny _ X.A (assign (.Name x pos') X.env (.ref L)) _ _ _
 refine wpAny_assign_Name (ZhA (v:=.ref L) I5 hnd hx hl rfl (fun s6 I6 ⟨a,hsb,ha⟩=>?_) hf)
 have nCa:C≠a:=by
  rcases ha with z|z
  ·rw[z];exact n1
  ·exact(n3 x a z).symm
 exact⟨m,hn.sameBut hsb nCa,fun h' hsb'=>⟨_,H5,I6.let hCn n1 n2 n3 n4 hsb',q⟩⟩
end
theorem Zg6{ys:List Str}:∀ {us:List Value},ZH (ys.map V.str) us→StrsAre us ys:=by
 induction ys with
 | nil=>intro us r;rw[QaP]at r;cases r;exact .nil
 | cons y ys ih =>
  intro us r
  rw[Qj]at r
  cases r with
  | cons r1 r2 =>
   obtain⟨t,e⟩:=r1
   subst e
   exact .cons _ _ (ih r2)
theorem Zh6:∀ {vs:List Value} {ys:List Str},StrsAre vs ys→ZH (ys.map V.str) vs
 | _,_,.nil=>.nil
 | _,_,.cons _ t h=>.cons ⟨t,rfl⟩ (Zh6 h)
section
variable {X:Cx}
def Zr4(K:PySem.W.Frag):List V→Hp→VK→Prop:=fun xs H Q=>∃x c t b,xs=[x,.ty c]∧ZeS K H x t∧PySem.W.kitOne K t (.type c)=some b∧Q (.bl b) H
theorem ZnB:ZaF X (.builtin "isinstance") (Zr4 X.K):=by
 intro pins s σ H xs us Q I r h
 obtain⟨x,c,t,b,rfl,ty,e,q⟩:=h
 obtain⟨u,w',rfl,rx,rc⟩:=ZkQ r
 cases rc
 exact ZlO I rx ty e fun tk=>⟨.bl b,H,I.tok _,rfl,q⟩
def ZpM(K:PySem.W.Frag):List V→Hp→VK→Prop:=fun xs H Q=>∃ (x:V) (tp:Addr) (cs:List String) (t:Value) (b:Bool),xs=[x,.ref tp]∧H tp=some (.tup (cs.map V.ty))∧ZeS K H x t∧PySem.W.kitAny K t (cs.map Value.type)=some b∧Q (.bl b) H
theorem ZoJ{cs:List String}:∀ {us:List Value},ZH (cs.map V.ty) us→us=cs.map Value.type:=by
 induction cs with
 | nil=>intro us r;rw[QaP]at r;cases r;rfl
 | cons y ys ih =>
  intro us r
  rw[Qj]at r
  cases r with
  | cons r1 r2=>rw[show _=Value.type y from r1,ih r2];rfl
theorem Zl2:ZaF X (.builtin "isinstance") (ZpM X.K):=by
 intro pins s σ H xs us Q I r h
 obtain⟨x,tp,cs,t,b,rfl,ht,ty,e,q⟩:=h
 obtain⟨u,w',rfl,rx,rc⟩:=ZkQ r
 cases rc
 obtain⟨_,its,rv,⟨ot,e1,e2,n,e3⟩⟩:=I.hok tp _ ht
 have ei:=ZoJ rv
 subst ei
 obtain⟨oc,od,dt,sl⟩:=ot
 have e2':oc=Value.type "tuple":=e2
 have e3':dt=Data.seq (cs.map Value.type).toArray n:=e3
 subst e2';subst e3'
 have fin:∀tk,EP X pins σ Q (.bool b) { s with toks:=tk }:=fun tk=>⟨.bl b,H,I.tok _,rfl,q⟩
 cases ty with
 | non=>cases (show u=Value.none from rx);exact QY PySem.W.kitx_none I.kIn True.intro e1 e (fun z=>nomatch z) fin
 | bl y=>cases (show u=Value.bool y from rx);exact QY PySem.W.kitx_bool I.kIn True.intro e1 e (fun z=>nomatch z) fin
 | int i=>obtain⟨t,q⟩:=(show ∃t,u=Value.int i t from rx);cases q;exact QY PySem.W.kitx_int I.kIn True.intro e1 e (fun z=>nomatch z) fin
 | str y=>obtain⟨t,q⟩:=(show ∃t,u=Value.str y t from rx);cases q;exact QY PySem.W.kitx_str I.kIn True.intro e1 e (fun z=>nomatch z) fin
 | flt y=>obtain⟨t,q⟩:=(show ∃t,u=Value.float y t from rx);cases q;exact QY PySem.W.kitx_float I.kIn True.intro e1 e (fun z=>nomatch z) fin
 | @lst a xs ea =>
  cases (show u=Value.ref a from rx)
  obtain⟨_,_,n,_,h1⟩:=(show Z7 X.prog X.w H s.heap a (.lst xs) from I.hok a _ ea)
  exact QY QaM I.kIn ⟨_,h1,rfl⟩ e1 e (fun z=>nomatch z) fin
 | @frz a ob xs ea =>
  cases (show u=Value.ref a from rx)
  obtain⟨_,_,_,n,_,h1⟩:=(show Z7 X.prog X.w H s.heap a (.frz ob (.lst xs)) from I.hok a _ ea)
  exact QY QaM I.kIn ⟨_,h1,rfl⟩ e1 e (fun z=>nomatch z) fin
 | @tup a xs ea =>
  cases (show u=Value.ref a from rx)
  obtain⟨_,_,_,p⟩:=(show Z7 X.prog X.w H s.heap a (.tup xs) from I.hok a _ ea)
  obtain⟨o,h1,h2,_⟩:=p
  exact QY PySem.W.kitx_tuple I.kIn ⟨o,h1,h2⟩ e1 e (fun z=>nomatch z) fin
 | @dK a kvs ea =>
  cases (show u=Value.ref a from rx)
  obtain⟨_,_,vs,_,p⟩:=(show Z7 X.prog X.w H s.heap a (.dK kvs) from I.hok a _ ea)
  obtain⟨o,es,ep,h1,h2,_⟩:=p
  exact QY QaN I.kIn ⟨o,h1,h2.1⟩ e1 e (fun z=>nomatch z) fin
 | @dT a kvs ea =>
  cases (show u=Value.ref a from rx)
  obtain⟨_,_,xs,_,o,es,ep,h1,h2,_⟩:=(show Z7 X.prog X.w H s.heap a (.dT kvs) from I.hok a _ ea)
  exact QY QaN I.kIn ⟨o,h1,h2.1⟩ e1 e (fun z=>nomatch z) fin
 | @ins a C dx fs ea cl ha hn htk hm =>
  cases (show u=Value.ref a from rx)
  obtain⟨mA,O,_⟩:=Zfc I.hok ea
  obtain⟨od,J,_⟩:=O.look
  exact QY (PySem.W.kitx_own (cl.get _) cl.hd ha hn htk hm) I.kIn J e1 e (fun z=>nomatch z) fin
theorem Zne(hc:X.calm=true):ZaF X (.builtin "all") (fun xs H Q=>∃ (p:Addr) (bs:List Bool),xs=[.ref p]∧SqL X.K H p (bs.map V.bl)∧Q (.bl (bs.all id)) H):=by
 intro pins s σ H xs us Q I r h
 obtain⟨p,bs,rfl,hq,q⟩:=h
 obtain⟨u,rfl,rx⟩:=ZcX r
 cases rx
 obtain⟨its,rv,pl,hz⟩:=I.list hq
 have hl:=pl.isList
 have hlt:p<s.heap.objs.size:=by obtain⟨_,e,_⟩:=hl;exact Qr e
 refine call_all_walk (wpAny_pyIter_list hl ?_)
 refine⟨s.heap.objs.size,[s.heap.objs.size,p],[s.heap.objs.size],its.toArray.size,_,_,fun i=>(bs[i]?).getD true,rfl,Walks.list (A:=X.A.in1) (I.ok.hd hc) _ p (QD hlt) its.toArray,
  ⟨⟨_,Qq _ rfl,rfl,rfl⟩,hl.push _⟩,fun i v s' Q' E' hP hQ=>?_,fun h' tk hk=>?_⟩
 ·have hP':its[i]? = some v:=by simpa using hP
  have hi:i<its.length:=(Qg.mp hP').1
  have hlen:=rv.length
  have hb:(bs.map V.bl)[i]? = some (V.bl (bs[i]'(by rw[Qa]at hlen;omega))):=by
   rw[Qp,Qb (by rw[Qa]at hlen;omega)];rfl
  obtain⟨u',hu',ru'⟩:=rv.get hb
  rw[hP']at hu';cases hu'
  obtain rfl:v=Value.bool _:=ru'
  have hQ2:Q' ((bs[i]?).getD true) s':=hQ
  rw[Qb (by rw[Qa]at hlen;omega)]at hQ2
  exact wpAny_truthy_bool hQ2
 ·have e:((List.range its.toArray.size).all fun i=>(bs[i]?).getD true)=bs.all id:=by
   have hlen:=rv.length
   rw[Qa]at hlen
   rw[QE,← hlen,QaH,Qa1,Qa1]
   constructor
   ·intro z b hb
    obtain⟨i,hi,rfl⟩:=List.mem_iff_getElem.mp hb
    have:=z i (Qah.mpr hi)
    rw[Qb hi]at this
    exact this
   ·intro z i hi
    have hi':=Qah.mp hi
    rw[Qb hi']
    exact z _ (Q2 hi')
  refine⟨.bl (bs.all id),H,I.kept fun b ob e'=>hk b ob (fun hm=>?_) (Qc _ e'),by rw[e];rfl,q⟩
  rw[Qo.mp hm]at e'
  exact Q9 _ (Qr e')
theorem Zit:ZaF X (.builtin "sorted") (fun xs H Q=>∃ (p:Addr) (ss:List Str),xs=[.ref p]∧SqL X.K H p (ss.map V.str)∧ss.length<64 ∧
  ∀ (l:Addr) (ss':List Str),H l=none→ss'.Perm ss→sortedS ss'=true→Q (.ref l) (upd H l (.lst (ss'.map V.str)))):=by
 intro pins s σ H xs us Q I r h
 obtain⟨p,ss,rfl,hq,h64,q⟩:=h
 obtain⟨u,rfl,rx⟩:=ZcX r
 cases rx
 obtain⟨its,rv,pl,hz⟩:=I.list hq
 have hlen:=rv.length
 rw[Qa]at hlen hz
 refine sorted_strs pl.isList (Zg6 rv) (by omega) fun out ss' a1 a2 a3=>?_
 obtain⟨e,he⟩:=sortedAll_at s.heap its out
 have hp:=a2.length_eq
 refine⟨.ref (s.heap.objs.size+1),_,I.laid (t':=s.toks) (o:=.lst (ss'.map V.str)) (fun _ _=>sortedAll_old) (Qa4 _) ⟨by rw[Qa];omega,out.toList,e,Zh6 a1,by simpa using he⟩,rfl,q _ ss' (I.hok.fresh (Qa4 _)) a2 a3⟩
theorem Zpv:MtR X "str.join" (fun x vs H Q=>∃ (sep:Str) (p:Addr) (ys:List Str),x=.str sep∧vs=[.ref p]∧SqL X.K H p (ys.map V.str)∧(ys.map (·.length)).sum+ys.length*sep.length≤16777216∧Q (.str (Txt.join sep ys)) H):=by
 intro pins s σ H x vs v us Q I rx rv h
 obtain⟨sep,p,ys,rfl,rfl,hq,hz,q⟩:=h
 obtain⟨t,rfl⟩:=rx
 obtain⟨u,rfl,ru⟩:=rv.one
 cases ru
 obtain⟨its,r',pl,_⟩:=I.list hq
 exact join_list pl.isList (Zg6 r') hz fun t' k=>⟨.str _,H,I.tok _,⟨_,rfl⟩,q⟩
theorem ZoO:OpR X (binaryOp .Mult) (fun x y H Q=>∃a n,x=.str a∧y=.int n∧0≤n∧n≤1000000∧(a.length:Int)*n≤1000000∧Q (.str (Txt.mul a n)) H):=by
 intro pins s σ H x y v u Q I rx ry h
 obtain⟨a,n,rfl,rfl,h0,h1,h2,q⟩:=h
 obtain⟨t,rfl⟩:=rx
 obtain⟨t',rfl⟩:=ry
 have h2':a.length*n.toNat≤1000000:=by
  have e:((a.length*n.toNat:Nat):Int)=(a.length:Int)*n:=by rw[Int.natCast_mul,Int.toNat_of_nonneg h0]
  omega
 refine PySem.P.mul_str ?_ (fun c1 c2=>?_) (fun c1 c2=>?_) ?_
 ·have e1:decide (n < -(2 ^ 63:Int))=false:=decide_eq_false (by omega)
  have e2:decide (n≥2 ^ 63)=false:=decide_eq_false (by omega)
  rw[e1,e2];rfl
 ·have hn:(1:Int)≤n:=by omega
  have q1:(a.length:Int)*1≤(a.length:Int)*n:=Int.mul_le_mul_of_nonneg_left hn (Int.natCast_nonneg _)
  have q2:(1000000:Int)≤(2 ^ 63-1) / n:=by
   rw[Int.le_ediv_iff_mul_le (by omega)]
   have:(1000000:Int)*n≤1000000*1000000:=Int.mul_le_mul_of_nonneg_left h1 (by decide)
   omega
  omega
 ·unfold Builtin.Str.tooLong
  have hl:sizeLine=16777216:=sizeLine_eq
  exact decide_eq_false (by omega)
 ·have e:Txt.mul a n=if n<1 then Str.empty else if (n == 1||a.length == 0)=true then a else ⟨(List.replicate n.toNat a.cps).foldl (·++·) #[]⟩:=rfl
  rw[e]at q
  by_cases c1:n<1
  ·rw[if_pos c1]at q ⊢
   exact⟨by decide,.str _,H,I.tok _,⟨_,rfl⟩,q⟩
  ·rw[if_neg c1]at q ⊢
   by_cases c2:(n == 1||a.length == 0)=true
   ·rw[if_pos c2]at q ⊢
    exact⟨.str _,H,I,⟨_,rfl⟩,q⟩
   ·rw[if_neg c2]at q ⊢
    refine⟨?_,.str _,H,I.tok _,⟨_,rfl⟩,q⟩
    have hfold:∀ (k:Nat) (acc:Array Nat),((List.replicate k a.cps).foldl (·++·) acc).size=acc.size+k*a.cps.size:=by
     intro k
     induction k with
     | zero=>intro acc;simp
     | succ k ih=>intro acc;rw[List.replicate_succ,List.foldl_cons,ih,Array.size_append,Nat.succ_mul];omega
    show ((List.replicate n.toNat a.cps).foldl (·++·) #[]).size≤sizeLine
    rw[hfold]
    have e2:a.cps.size=a.length:=rfl
    have:n.toNat*a.cps.size≤1000000:=by rw[e2,Nat.mul_comm];exact h2'
    have hl:sizeLine=16777216:=sizeLine_eq
    simp only[List.size_toArray,List.length_nil]
    omega
def Zsl:V→Option Int→Option Int→Hp→VK→Prop:=fun x lo hi H Q=>∃z,x=.str z∧z.length≤sizeLine∧Q (.str (Txt.slice z lo hi)) H
theorem ZnP:SlR X Zsl:=by
 intro pins s σ H x v vl vu lo hi sl Q I rx hs pl pu h
 obtain⟨z,rfl,hz,q⟩:=h
 obtain⟨t,rfl⟩:=rx
 have fin:∀t' k,EP X pins σ Q (.str (Txt.slice z lo hi) t') { s with toks:=k }:=fun t' k=>⟨.str _,H,I.tok _,⟨_,rfl⟩,q⟩
 refine⟨"str",_,PySem.F.slot_str_getitem.lookup,typeIs_str _ _ _,?_⟩
 cases pl with
 | none =>
  cases pu with
  | none=>exact wpAny_getItem_str_slice (l:=none) (u:=none) (st:=none) hs rfl (post_val_or_str ⟨Qy (Txt.slice_le z _ _) hz,fin⟩)
  | int j uj=>exact wpAny_getItem_str_slice (l:=none) (u:=some (j,uj)) (st:=none) hs rfl (post_val_or_str ⟨Qy (Txt.slice_le z _ _) hz,fin⟩)
 | int i ui =>
  cases pu with
  | none=>exact wpAny_getItem_str_slice (l:=some (i,ui)) (u:=none) (st:=none) hs rfl (post_val_or_str ⟨Qy (Txt.slice_le z _ _) hz,fin⟩)
  | int j uj=>exact wpAny_getItem_str_slice (l:=some (i,ui)) (u:=some (j,uj)) (st:=none) hs rfl (post_val_or_str ⟨Qy (Txt.slice_le z _ _) hz,fin⟩)
end
inductive Src where
 | l (a:Addr)|t (a:Addr)|s (z:Str)
def Src.val:Src→V
 | .l a=>.ref a
 | .t a=>.ref a
 | .s z=>.str z
def ZoD(c:Nat):V:=.str ⟨#[c]⟩
def Src.its(K:PySem.W.Frag)(H:Hp):Src→List V→Prop
 | .l a,xs=>SqL K H a xs
 | .t a,xs=>SqT K H a xs
 | .s z,xs=>xs=z.cps.toList.map ZoD
def Src.at(h:Heap)(i:Addr):Src→Nat→Prop
 | .l a,k=>h.IsListIter i a k
 | .t a,k=>h.IsTupleIter i a k
 | .s z,k=>∃tk,h.IsStrIter i (strIterType z) z tk k
def Src.raw(h:Heap):Src→List Value→Prop
 | .l a,us=>h.IsList a us.toArray
 | .t a,us=>h.IsTuple a us.toArray
 | .s _,_=>True
def Src.fit:Src→List Value→Nat→Value→Prop
 | .l _,us,k,u=>us[k]? = some u
 | .t _,us,k,u=>us[k]? = some u
 | .s z,_,k,u=>∃c tk,z.cps[k]? = some c∧u=.str ⟨#[c]⟩ tk
def Src.many:Src→List Value→Nat
 | .l _,us=>us.length
 | .t _,us=>us.length
 | .s z,_=>z.cps.size
def Src.off:Src→Addr→Prop
 | .l a,b=>a≠b
 | .t a,b=>a≠b
 | .s _,_=>True
theorem Src.at_obj{h:Heap}{i:Addr}:∀ {S:Src} {k:Nat},S.at h i k→∃o vs,h.get? i=some o∧o.data=.fields vs
 | .l _,_,⟨o,e,_,d⟩=>⟨o,_,e,d⟩
 | .t _,_,⟨o,e,_,d⟩=>⟨o,_,e,d⟩
 | .s _,_,⟨_,o,e,_,d⟩=>⟨o,_,e,d⟩
theorem Src.at_keep{h h':Heap}{i:Addr}(k':∀o,h.get? i=some o→h'.get? i=some o):∀ {S:Src} {k:Nat},S.at h i k→S.at h' i k
 | .l _,_,⟨o,e,d⟩=>⟨o,k' o e,d⟩
 | .t _,_,⟨o,e,d⟩=>⟨o,k' o e,d⟩
 | .s _,_,⟨tk,o,e,d⟩=>⟨tk,o,k' o e,d⟩
theorem Src.raw_keep{h h':Heap}{b:Addr}(k':∀c o,c≠b→h.get? c=some o→h'.get? c=some o):∀ {S:Src} {us:List Value},S.off b→S.raw h us→S.raw h' us
 | .l _,_,f,⟨o,e,d⟩=>⟨o,k' _ o f e,d⟩
 | .t _,_,f,⟨o,e,d⟩=>⟨o,k' _ o f e,d⟩
 | .s _,_,_,_=>trivial
section
variable {prog:Program} {w:World} {A:Around} {E:Value→Shared→Prop} {s:Shared}
theorem Zi0{it t:Addr}{i:Nat}{items:Array Value}{x:Value}{Q:Value→Shared→Prop}(hit:s.heap.IsTupleIter it t i)(ht:s.heap.IsTuple t items)(hx:items[i]? = some x)
  (hQ:∀h',h'.IsTupleIter it t (i+1)→Heap.SameBut it s.heap h'→Q x { s with heap:=h' }):wpAny (model prog w) A (Builtin.SmallTypes.nextOf (.ref it)) Q E s:=by
 obtain⟨o,ho,hc,hd⟩:=id hit
 obtain⟨ol,hol,_,nl,hdl⟩:=ht
 unfold Builtin.SmallTypes.nextOf
 refine wpAny_bind (wpAny_callSpecial?_slot (name:=Str.ofString "__next__") hit.typeIs F.slot_tuple_iterator_next
  (wpAny_call_entry F.slot_tuple_iterator_next hit.typeIs F.entry_tuple_iterator_next ?_ (F.args_tuple_iterator_next_1 _)))
 show wpAny _ _ (field (.ref it) 0 >>= _) _ _ s
 refine wpAny_bind (wpAny_field ho hd (x:=.ref t) rfl ?_)
 show wpAny _ _ (if (Value.ref t == Value.none)=true then _ else _) _ _ s
 rw[if_neg (show ¬ ((Value.ref t == Value.none)=true) from Qk)]
 show wpAny _ _ (field (.ref it) 1 >>= _) _ _ s
 refine wpAny_bind (wpAny_field ho hd (x:=.int i 0) rfl ?_)
 show wpAny _ _ (seqItems? (.ref t) >>= _) _ _ s
 refine wpAny_bind (wpAny_seqItems hol hdl ?_)
 simp only[Int.toNat_natCast,hx]
 refine wpAny_bind (wpAny_setField ho hd (by simp) (wpAny_pure ⟨x,rfl,wpAny_pure (hQ _ ?_ (Heap.SameBut.update ..))⟩))
 exact⟨_,Heap.get?_update_self _ ho (Obj.isFreed_of_fields (Obj.data_mapFields hd _)),(Obj.cls_mapFields ..).trans hc,by
  rw[Obj.data_mapFields hd];simp[rawInt]⟩
theorem ZdU{i:Addr}{k:Nat}{us:List Value}{Q:Value→Shared→Prop}:∀ {S:Src},S.at s.heap i k→S.raw s.heap us→k<S.many us →
  (∀h' tk u,S.fit us k u→S.at h' i (k+1)→Heap.SameBut i s.heap h'→Q u { s with heap:=h',toks:=tk })→wpAny (model prog w) A (Builtin.SmallTypes.nextOf (.ref i)) Q E s
 | .l a,h1,h2,h3,hQ=>wpAny_nextOf_list_item h1 h2 (x:=us[k]'h3) (by rw[Qaj];exact Qb h3) fun h' q1 q2=>hQ h' s.toks _ (Qb h3) q1 q2
 | .t a,h1,h2,h3,hQ=>Zi0 h1 h2 (x:=us[k]'h3) (by rw[Qaj];exact Qb h3) fun h' q1 q2=>hQ h' s.toks _ (Qb h3) q1 q2
 | .s z,⟨tk,h1⟩,h2,h3,hQ=>by
  have hx:z.cps[k]? = some z.cps[k]:=Array.getElem?_eq_getElem h3
  by_cases ha:z.cps.all (·<128)=true
  ·have e:strIterType z = "str_ascii_iterator":=by unfold strIterType;rw[if_pos ha]
   rw[e]at h1
   exact wpAny_nextOf_ascii_item h1 hx fun h' q1 q2=>hQ h' _ _ ⟨_,_,hx,rfl⟩ ⟨tk,by rw[e];exact q1⟩ q2
  ·have e:strIterType z = "str_iterator":=by unfold strIterType;rw[if_neg ha]
   rw[e]at h1
   exact wpAny_nextOf_wide_item h1 hx fun h' q1 q2=>hQ h' _ _ ⟨_,_,hx,rfl⟩ ⟨tk,by rw[e];exact q1⟩ q2
theorem Zfk{it t:Addr}{i:Nat}{items:Array Value}{Q:Value→Shared→Prop}(hh:A.handled=none)(hit:s.heap.IsTupleIter it t i)(ht:s.heap.IsTuple t items)(hx:items[i]? = none)
  (hE:∀h' e,Heap.ExtBut it s.heap h'→(∃o,h'.get? e=some o∧o.cls=.type "StopIteration")→E (.ref e) { s with heap:=h' }):wpAny (model prog w) A (Builtin.SmallTypes.nextOf (.ref it)) Q E s:=by
 obtain⟨o,ho,hc,hd⟩:=id hit
 obtain⟨ol,hol,_,nl,hdl⟩:=ht
 unfold Builtin.SmallTypes.nextOf
 refine wpAny_bind (wpAny_callSpecial?_slot (name:=Str.ofString "__next__") hit.typeIs F.slot_tuple_iterator_next
  (wpAny_call_entry F.slot_tuple_iterator_next hit.typeIs F.entry_tuple_iterator_next ?_ (F.args_tuple_iterator_next_1 _)))
 show wpAny _ _ (field (.ref it) 0 >>= _) _ _ s
 refine wpAny_bind (wpAny_field ho hd (x:=.ref t) rfl ?_)
 show wpAny _ _ (if (Value.ref t == Value.none)=true then _ else _) _ _ s
 rw[if_neg (show ¬ ((Value.ref t == Value.none)=true) from Qk)]
 show wpAny _ _ (field (.ref it) 1 >>= _) _ _ s
 refine wpAny_bind (wpAny_field ho hd (x:=.int i 0) rfl ?_)
 show wpAny _ _ (seqItems? (.ref t) >>= _) _ _ s
 refine wpAny_bind (wpAny_seqItems hol hdl ?_)
 simp only[Int.toNat_natCast,hx]
 refine wpAny_bind (wpAny_rule (wpAny_bind (wpAny_setField ho hd (by simp) ?_)))
 show wpAny _ _ (newExc (.type "StopIteration") [] >>= _) _ _ _
 refine wpAny_bind ?_
 simp only[newExc,newTuple]
 refine wpAny_bind (wpAny_newObj_type ?_ (by size_fits))
 refine wpAny_bind (m:=firstArgMember _ _) (wpAny_of_eq (a:=Value.none) (by first|rfl|(simp only[firstArgMember];rfl)) ?_)
 refine wpAny_newObj_type ?_ (by size_fits)
 simp only[raiseNew]
 refine wpAny_bind (wpAny_handled ?_)
 first|rw[show A.in1.handled=none from hh]|rw[hh]
 refine wpAny_bind (wpAny_pure (wpAny_throw ?_))
 exact hE _ _ (((Heap.SameBut.update ..).extBut.push _).push _) ⟨_,Qq _ rfl,rfl⟩
theorem Zg9{i:Addr}{k:Nat}{us:List Value}{Q:Value→Shared→Prop}(hh:A.handled=none):∀ {S:Src},S.at s.heap i k→S.raw s.heap us→S.many us≤k →
  (∀h' e,Heap.ExtBut i s.heap h'→(∃o,h'.get? e=some o∧o.cls=.type "StopIteration")→E (.ref e) { s with heap:=h' })→wpAny (model prog w) A (Builtin.SmallTypes.nextOf (.ref i)) Q E s
 | .l a,h1,h2,h3,hE=>wpAny_nextOf_list_end hh h1 h2 (by rw[Qaj];exact QL h3) hE
 | .t a,h1,h2,h3,hE=>Zfk hh h1 h2 (by rw[Qaj];exact QL h3) hE
 | .s z,⟨tk,h1⟩,h2,h3,hE=>by
  have hx:z.cps[k]? = none:=Array.getElem?_eq_none h3
  by_cases ha:z.cps.all (·<128)=true
  ·have e:strIterType z = "str_ascii_iterator":=by unfold strIterType;rw[if_pos ha]
   rw[e]at h1
   exact wpAny_nextOf_ascii_end hh h1 hx hE
  ·have e:strIterType z = "str_iterator":=by unfold strIterType;rw[if_neg ha]
   rw[e]at h1
   exact wpAny_nextOf_wide_end hh h1 hx hE
structure ZiU (z TI TO i1 i2:Addr) (S1 S2:Src):Prop where
 TIz:TI≠z
 TOz:TO≠z
 i1z:i1≠z
 i2z:i2≠z
 TITO:TI≠TO
 TIi1:TI≠i1
 TIi2:TI≠i2
 TOi1:TO≠i1
 TOi2:TO≠i2
 i12:i1≠i2
 s1z:S1.off z
 s1TO:S1.off TO
 s1i1:S1.off i1
 s1i2:S1.off i2
 s2z:S2.off z
 s2TO:S2.off TO
 s2i1:S2.off i1
 s2i2:S2.off i2
theorem Zn4{z TI TO i1 i2:Addr}{S1 S2:Src}{k:Nat}{us1 us2:List Value}{a b:Value}{Q:Option Value→Shared→Prop}(D:ZiU z TI TO i1 i2 S1 S2)
  (hz:IsZip s.heap z TI TO .none) (hTI:IsPair s.heap TI (.ref i1) (.ref i2)) (hTO:IsPair s.heap TO a b)
  (h1:S1.at s.heap i1 k) (h2:S2.at s.heap i2 k) (r1:S1.raw s.heap us1) (r2:S2.raw s.heap us2) (m1:k<S1.many us1) (m2:k<S2.many us2)
  (hQ:∀h' tk x y,S1.fit us1 k x→S2.fit us2 k y→IsZip h' z TI TO (rawInt s.heap.objs.size)→IsPair h' TO x y→S1.at h' i1 (k+1)→S2.at h' i2 (k+1)→IsPair h' s.heap.objs.size x y→h'.objs.size=s.heap.objs.size+1 →
   (∀c o,c≠z→c≠TO→c≠i1→c≠i2→s.heap.get? c=some o→h'.get? c=some o)→Q (some (.ref s.heap.objs.size)) { s with heap:=h',toks:=tk }) :
  wpAny (model prog w) A (pyNext (.ref z)) Q E s:=by
 have hT:s.TypeIs (.ref z) "zip":=⟨_,hz,rfl⟩
 unfold pyNext
 refine wpAny_bind (wpAny_attempt (wpAny_callSpecial?_slot (name:=Str.ofString "__next__") hT F.slot_zip_next (wpAny_call_entry F.slot_zip_next hT F.entry_zip_next ?_ (F.args_zip_next_1 _))))
 show wpAny _ _ (field (.ref z) 2 >>= _) _ _ _
 refine wpAny_bind (wpAny_field hz rfl (x:=.bool false) rfl ?_)
 show wpAny _ _ (field (.ref z) 3 >>= _) _ _ _
 refine wpAny_bind (wpAny_field hz rfl (x:=.ref TI) rfl (wpAny_bind (wpAny_seqItems hTI rfl ?_)))
 show wpAny _ _ (Builtin.SmallTypes.ownedTupleIsFree (.ref z) >>= _) _ _ _
 unfold Builtin.SmallTypes.ownedTupleIsFree
 refine wpAny_bind (wpAny_bind (wpAny_field hz rfl (x:=.none) rfl (wpAny_pure ?_)))
 simp only[if_true]
 refine wpAny_bind (wpAny_rule (wpAny_bind (wpAny_field hz rfl (x:=.ref TO) rfl (wpAny_bind (wpAny_setField_rec hz (by simp) fun h₁ hz₁ hs₁=>?_)))))
 replace hz₁:IsZip h₁ z TI TO .ellipsis:=hz₁
 refine wpAny_bind ?_
 simp only[List.zipIdx_cons,List.zipIdx_nil,List.forIn_cons,List.forIn_nil]
 refine wpAny_bind (wpAny_bind (wpAny_onRaise ?_))
 show wpAny _ _ (Builtin.SmallTypes.nextOf (.ref i1) >>= _) _ _ _
 refine wpAny_bind (ZdU (S:=S1) (us:=us1) (k:=k) (S1.at_keep (fun o e=>hs₁.extBut _ o D.i1z e) h1) (S1.raw_keep (fun c o n e=>hs₁.extBut c o n e) D.s1z r1) m1 fun h₂ tk₂ x fx h1₂ hs₂=>wpAny_pure ?_)
 have hs₂':Heap.SameBut i1 h₁ h₂:=hs₂
 have hTO₂:IsPair h₂ TO a b:=hs₂'.extBut _ _ D.TOi1 (hs₁.extBut _ _ D.TOz hTO)
 refine wpAny_bind (wpAny_seqItems hTO₂ rfl (wpAny_bind (wpAny_updateSeq_pair hTO₂ fun h₃ hTO₃ hs₃=>wpAny_bind (wpAny_letGo (wpAny_pure ?_)))))
 replace hTO₃:IsPair h₃ TO x b:=hTO₃
 have hs₃':Heap.SameBut TO h₂ h₃:=hs₃
 refine wpAny_bind (wpAny_bind (wpAny_onRaise ?_))
 show wpAny _ _ (Builtin.SmallTypes.nextOf (.ref i2) >>= _) _ _ _
 refine wpAny_bind (ZdU (S:=S2) (us:=us2) (k:=k)
  (S2.at_keep (fun o e=>hs₃'.extBut _ o D.TOi2.symm (hs₂'.extBut _ o D.i12.symm (hs₁.extBut _ o D.i2z e))) h2)
  (S2.raw_keep (fun c o n e=>hs₃'.extBut c o n e) D.s2TO (S2.raw_keep (fun c o n e=>hs₂'.extBut c o n e) D.s2i1 (S2.raw_keep (fun c o n e=>hs₁.extBut c o n e) D.s2z r2))) m2 fun h₄ tk₄ y fy h2₄ hs₄=>wpAny_pure ?_)
 have hs₄':Heap.SameBut i2 h₃ h₄:=hs₄
 have hTO₄:IsPair h₄ TO x b:=hs₄'.extBut _ _ D.TOi2 hTO₃
 refine wpAny_bind (wpAny_seqItems hTO₄ rfl (wpAny_bind (wpAny_updateSeq_pair hTO₄ fun h₅ hTO₅ hs₅=>wpAny_bind (wpAny_letGo (wpAny_pure (wpAny_pure ?_))))))
 replace hTO₅:IsPair h₅ TO x y:=hTO₅
 have hs₅':Heap.SameBut TO h₄ h₅:=hs₅
 refine wpAny_bind (wpAny_seqItems hTO₅ rfl (wpAny_bind (wpAny_newTuple ?_)))
 have hsz:h₅.objs.size=s.heap.objs.size:=by rw[hs₅'.1,hs₄'.1,hs₃'.1,hs₂'.1,hs₁.1]
 have hz₅:IsZip h₅ z TI TO .ellipsis:=hs₅'.extBut _ _ D.TOz.symm (hs₄'.extBut _ _ D.i2z.symm (hs₃'.extBut _ _ D.TOz.symm (hs₂'.extBut _ _ D.i1z.symm hz₁)))
 have hk₅:∀c o,c≠z→c≠TO→c≠i1→c≠i2→s.heap.get? c=some o→h₅.get? c=some o:=fun c o c1 c2 c3 c4 e =>
  hs₅'.extBut _ _ c2 (hs₄'.extBut _ _ c4 (hs₃'.extBut _ _ c2 (hs₂'.extBut _ _ c3 (hs₁.extBut _ _ c1 e))))
 have h1₅:S1.at h₅ i1 (k+1):=S1.at_keep (fun o e=>hs₅'.extBut _ o D.TOi1.symm (hs₄'.extBut _ o D.i12 (hs₃'.extBut _ o D.TOi1.symm e))) h1₂
 have h2₅:S2.at h₅ i2 (k+1):=S2.at_keep (fun o e=>hs₅'.extBut _ o D.TOi2.symm e) h2₄
 have hzlt:z<h₅.objs.size:=Qr hz₅
 show wpAny _ _ (Builtin.SmallTypes.ownedTupleHandOut (.ref z) (.ref h₅.objs.size) >>= _) _ _ _
 refine wpAny_bind ?_
 unfold Builtin.SmallTypes.ownedTupleHandOut
 have hz₆:IsZip (h₅.push { cls:=.type "tuple",data:=.seq #[x,y] }) z TI TO .ellipsis:=Qc _ hz₅
 refine wpAny_bind (wpAny_setField_rec hz₆ (by simp) fun h₇ hz₇ hs₇=>?_)
 replace hz₇:IsZip h₇ z TI TO (rawInt h₅.objs.size):=hz₇
 refine wpAny_setField_rec hz₇ (by simp) fun h₈ hz₈ hs₈=>?_
 replace hz₈:IsZip h₈ z TI TO (rawInt h₅.objs.size):=hz₈
 have up:∀c o,c≠z→h₅.get? c=some o→h₈.get? c=some o:=fun c o c1 e=>hs₈.extBut _ _ c1 (hs₇.extBut _ _ c1 (Qc _ e))
 have hT₈:IsPair h₈ h₅.objs.size x y:=hs₈.extBut _ _ (Q3 hzlt) (hs₇.extBut _ _ (Q3 hzlt) (Qq _ rfl))
 have hz8:h₈.objs.size=h₅.objs.size+1:=by rw[hs₈.1,hs₇.1,Q4]
 rw[hsz]at hz₈ hT₈ hz8
 refine wpAny_pure ⟨_,rfl,wpAny_pure ?_⟩
 show Q (some (.ref h₅.objs.size)) _
 rw[hsz]
 exact hQ h₈ tk₄ x y fx fy hz₈ (up _ _ D.TOz hTO₅) (S1.at_keep (fun o e=>up _ o D.i1z e) h1₅) (S2.at_keep (fun o e=>up _ o D.i2z e) h2₅) hT₈ hz8 fun c o c1 c2 c3 c4 e=>up c o c1 (hk₅ c o c1 c2 c3 c4 e)
theorem Zn2{z TI TO i1 i2:Addr}{S1 S2:Src}{k:Nat}{us1 us2:List Value}{a b:Value}{Q:Option Value→Shared→Prop}(hh:A.handled=none)(D:ZiU z TI TO i1 i2 S1 S2)
  (hz:IsZip s.heap z TI TO .none) (hTI:IsPair s.heap TI (.ref i1) (.ref i2)) (hTO:IsPair s.heap TO a b)
  (h1:S1.at s.heap i1 k) (h2:S2.at s.heap i2 k) (r1:S1.raw s.heap us1) (r2:S2.raw s.heap us2) (hend:S1.many us1≤k∨S2.many us2≤k)
  (hQ:∀h' tk,(∀c o,c≠z→c≠TO→c≠i1→c≠i2→s.heap.get? c=some o→h'.get? c=some o)→Q none { s with heap:=h',toks:=tk }) :
  wpAny (model prog w) A (pyNext (.ref z)) Q E s:=by
 have hT:s.TypeIs (.ref z) "zip":=⟨_,hz,rfl⟩
 unfold pyNext
 have done:∀ (h':Heap) (tk:Nat) (e:Addr),(∀c o,c≠z→c≠TO→c≠i1→c≠i2→s.heap.get? c=some o→h'.get? c=some o)→(∃o,h'.get? e=some o∧o.cls=.type "StopIteration") →
   wpAny (model prog w) A (do if (← isInstance (.ref e) (.type "StopIteration")) then pure none else throw (.ref e):Sem (Option Value)) Q E { s with heap:=h',toks:=tk }:=fun h' tk e hk ⟨o,ho,hc⟩=>
  wpAny_bind (wpAny_isInstance (T := "StopIteration") (b:=true) ⟨o,ho,hc⟩ isSubtype_stop (wpAny_pure (hQ h' tk hk)))
 refine wpAny_bind (wpAny_attempt (wpAny_callSpecial?_slot (name:=Str.ofString "__next__") hT F.slot_zip_next (wpAny_call_entry F.slot_zip_next hT F.entry_zip_next ?_ (F.args_zip_next_1 _))))
 show wpAny _ _ (field (.ref z) 2 >>= _) _ _ _
 refine wpAny_bind (wpAny_field hz rfl (x:=.bool false) rfl ?_)
 show wpAny _ _ (field (.ref z) 3 >>= _) _ _ _
 refine wpAny_bind (wpAny_field hz rfl (x:=.ref TI) rfl (wpAny_bind (wpAny_seqItems hTI rfl ?_)))
 show wpAny _ _ (Builtin.SmallTypes.ownedTupleIsFree (.ref z) >>= _) _ _ _
 unfold Builtin.SmallTypes.ownedTupleIsFree
 refine wpAny_bind (wpAny_bind (wpAny_field hz rfl (x:=.none) rfl (wpAny_pure ?_)))
 simp only[if_true]
 refine wpAny_bind (wpAny_rule (wpAny_bind (wpAny_field hz rfl (x:=.ref TO) rfl (wpAny_bind (wpAny_setField_rec hz (by simp) fun h₁ hz₁ hs₁=>?_)))))
 replace hz₁:IsZip h₁ z TI TO .ellipsis:=hz₁
 refine wpAny_bind ?_
 simp only[List.zipIdx_cons,List.zipIdx_nil,List.forIn_cons,List.forIn_nil]
 refine wpAny_bind (wpAny_bind (wpAny_onRaise ?_))
 show wpAny _ _ (Builtin.SmallTypes.nextOf (.ref i1) >>= _) _ _ _
 by_cases m1:k<S1.many us1
 ·have m2:S2.many us2≤k:=by rcases hend with z'|z';omega;exact z'
  refine wpAny_bind (ZdU (S:=S1) (us:=us1) (k:=k) (S1.at_keep (fun o e=>hs₁.extBut _ o D.i1z e) h1) (S1.raw_keep (fun c o n e=>hs₁.extBut c o n e) D.s1z r1) m1 fun h₂ tk₂ x fx h1₂ hs₂=>wpAny_pure ?_)
  have hs₂':Heap.SameBut i1 h₁ h₂:=hs₂
  have hTO₂:IsPair h₂ TO a b:=hs₂'.extBut _ _ D.TOi1 (hs₁.extBut _ _ D.TOz hTO)
  refine wpAny_bind (wpAny_seqItems hTO₂ rfl (wpAny_bind (wpAny_updateSeq_pair hTO₂ fun h₃ hTO₃ hs₃=>wpAny_bind (wpAny_letGo (wpAny_pure ?_)))))
  have hs₃':Heap.SameBut TO h₂ h₃:=hs₃
  refine wpAny_bind (wpAny_bind (wpAny_onRaise ?_))
  show wpAny _ _ (Builtin.SmallTypes.nextOf (.ref i2) >>= _) _ _ _
  refine wpAny_bind (Zg9 (S:=S2) (us:=us2) (k:=k) hh
   (S2.at_keep (fun o e=>hs₃'.extBut _ o D.TOi2.symm (hs₂'.extBut _ o D.i12.symm (hs₁.extBut _ o D.i2z e))) h2)
   (S2.raw_keep (fun c o n e=>hs₃'.extBut c o n e) D.s2TO (S2.raw_keep (fun c o n e=>hs₂'.extBut c o n e) D.s2i1 (S2.raw_keep (fun c o n e=>hs₁.extBut c o n e) D.s2z r2))) m2 fun h₄ e hs₄ he=>?_)
  obtain⟨oe,hoe,hce⟩:=he
  have hz₄:IsZip h₄ z TI TO .ellipsis:=hs₄ _ _ D.i2z.symm (hs₃'.extBut _ _ D.TOz.symm (hs₂'.extBut _ _ D.i1z.symm hz₁))
  have hez:e≠z:=fun x=>by subst x;rw[hz₄]at hoe;cases hoe;simp at hce
  exact wpAny_setField_rec hz₄ (by simp) fun h₅ _ hs₅=>done h₅ _ e (fun c o c1 c2 c3 c4 x=>hs₅.extBut _ _ c1 (hs₄ _ _ c4 (hs₃'.extBut _ _ c2 (hs₂'.extBut _ _ c3 (hs₁.extBut _ _ c1 x))))) ⟨oe,hs₅.extBut _ _ hez hoe,hce⟩
 ·refine wpAny_bind (Zg9 (S:=S1) (us:=us1) (k:=k) hh (S1.at_keep (fun o e=>hs₁.extBut _ o D.i1z e) h1) (S1.raw_keep (fun c o n e=>hs₁.extBut c o n e) D.s1z r1) (by omega) fun h₂ e hs₂ he=>?_)
  obtain⟨oe,hoe,hce⟩:=he
  have hz₂:IsZip h₂ z TI TO .ellipsis:=hs₂ _ _ D.i1z.symm hz₁
  have hez:e≠z:=fun x=>by subst x;rw[hz₂]at hoe;cases hoe;simp at hce
  exact wpAny_setField_rec hz₂ (by simp) fun h₃ _ hs₃=>done h₃ _ e (fun c o c1 _ c3 _ x=>hs₃.extBut _ _ c1 (hs₂ _ _ c3 (hs₁.extBut _ _ c1 x))) ⟨oe,hs₃.extBut _ _ hez hoe,hce⟩
end
def Src.iter(tk:Tok):Src→Obj
 | .l a=>{ cls:=.type "list_iterator",data:=.fields #[.ref a,.int 0 0] }
 | .t a=>{ cls:=.type "tuple_iterator",data:=.fields #[.ref a,.int 0 0] }
 | .s z=>{ cls:=.type (strIterType z),data:=.fields #[.str z tk,.int 0 0] }
def Src.value(tk:Tok):Src→Value
 | .l a=>.ref a
 | .t a=>.ref a
 | .s z=>.str z tk
theorem Src.iter_at{h:Heap}{i:Addr}{tk:Tok}:∀ {S:Src},h.get? i=some (S.iter tk)→S.at h i 0
 | .l _,e=>⟨_,e,rfl,rfl⟩
 | .t _,e=>⟨_,e,rfl,rfl⟩
 | .s _,e=>⟨tk,_,e,rfl,rfl⟩
theorem Src.pyIter{prog:Program}{w:World}{A:Around}{E:Value→Shared→Prop}{s:Shared}{tk:Tok}{us:List Value}{Q:Value→Shared→Prop}:∀ {S:Src},S.raw s.heap us →
  Q (.ref s.heap.objs.size) { s with heap:=s.heap.push (S.iter tk) }→wpAny (model prog w) A (pyIter (S.value tk)) Q E s
 | .l _,r,q=>wpAny_pyIter_list r q
 | .t _,r,q=>wpAny_pyIter_tuple r q
 | .s _,_,q=>wpAny_pyIter_strU q
theorem Src.raw_push{h:Heap}{ob:Obj}:∀ {S:Src} {us:List Value},S.raw h us→S.raw (h.push ob) us
 | .l _,_,⟨o,e,d⟩=>⟨o,Qc _ e,d⟩
 | .t _,_,⟨o,e,d⟩=>⟨o,Qc _ e,d⟩
 | .s _,_,_=>trivial
abbrev zH1(h:Heap)(S1:Src)(t1:Tok):Heap:=h.push (S1.iter t1)
abbrev zH2(h:Heap)(S1 S2:Src)(t1 t2:Tok):Heap:=(zH1 h S1 t1).push (S2.iter t2)
abbrev zH3(h:Heap)(S1 S2:Src)(t1 t2:Tok):Heap:=(zH2 h S1 S2 t1 t2).push { cls:=.type "tuple",data:=.seq #[.ref h.objs.size,.ref (zH1 h S1 t1).objs.size] }
abbrev zH4(h:Heap)(S1 S2:Src)(t1 t2:Tok):Heap:=(zH3 h S1 S2 t1 t2).push { cls:=.type "tuple",data:=.seq #[.none,.none] }
abbrev zH5(h:Heap)(S1 S2:Src)(t1 t2:Tok):Heap:=(zH4 h S1 S2 t1 t2).push { cls:=.type "zip",data:=.fields #[.none,.bool false,.bool false,.ref (zH2 h S1 S2 t1 t2).objs.size,.ref (zH3 h S1 S2 t1 t2).objs.size] }
theorem ZoY(S1 S2:Src)(t1 t2:Tok)(us1 us2:List Value) :
  Meets (Builtin.«zip.__new__» ⟨[.type "zip",S1.value t1,S2.value t2],[]⟩) (fun _ R s=>S1.raw s.heap us1∧S2.raw s.heap us2 ∧
   R (.ok (.ret (.ref (zH4 s.heap S1 S2 t1 t2).objs.size))) { s with heap:=zH5 s.heap S1 S2 t1 t2 }) :=
 .of_wp fun prog w A R s h=>by
  obtain⟨hp,g,d,tk,os⟩:=s;obtain⟨r1,r2,h⟩:=h
  have hsub:=sub_zip
  have q1:∀ {A:Around} {E:Value→Shared→Prop} {Q:Value→Shared→Prop},Q (.ref hp.objs.size) ⟨zH1 hp S1 t1,g,d,tk,os⟩→wpAny (model prog w) A (pyIter (S1.value t1)) Q E ⟨hp,g,d,tk,os⟩:=
   fun {A E Q} q=>Src.pyIter (s:=⟨hp,g,d,tk,os⟩) (us:=us1) r1 q
  have q2:∀ {A:Around} {E:Value→Shared→Prop} {Q:Value→Shared→Prop},Q (.ref (zH1 hp S1 t1).objs.size) ⟨zH2 hp S1 S2 t1 t2,g,d,tk,os⟩→wpAny (model prog w) A (pyIter (S2.value t2)) Q E ⟨zH1 hp S1 t1,g,d,tk,os⟩:=
   fun {A E Q} q=>Src.pyIter (s:=⟨zH1 hp S1 t1,g,d,tk,os⟩) (us:=us2) (S2.raw_push r2) q
  generalize S1.value t1=v1 at q1 ⊢
  generalize S2.value t2=v2 at q2 ⊢
  wp_walk using q1,q2
  exact⟨_,rfl,h⟩
section
variable {prog:Program} {w:World} {A:Around} {E:Value→Shared→Prop} {s:Shared}
theorem ZnK{S1 S2:Src}{t1 t2:Tok}{us1 us2:List Value}{Q:Value→Shared→Prop}(r1:S1.raw s.heap us1)(r2:S2.raw s.heap us2)
  (h:∀h',IsZip h' (s.heap.objs.size+4) (s.heap.objs.size+2) (s.heap.objs.size+3) .none→IsPair h' (s.heap.objs.size+2) (.ref s.heap.objs.size) (.ref (s.heap.objs.size+1)) →
   IsPair h' (s.heap.objs.size+3) .none .none→S1.at h' s.heap.objs.size 0→S2.at h' (s.heap.objs.size+1) 0→h'.objs.size=s.heap.objs.size+5 →
   (∀c o,s.heap.get? c=some o→h'.get? c=some o)→Q (.ref (s.heap.objs.size+4)) { s with heap:=h' }) :
  wpAny (model prog w) A (call (.type "zip") [S1.value t1,S2.value t2]) Q E s:=by
 refine callType_new F.called_zip (by decide) (F.typeCall_zip_2 _ _) (F.newCall_zip_2 _ _) (fun obj=>F.args_object_init_3 obj _ _) F.entry_zip_new (ZoY S1 S2 t1 t2 us1 us2) ⟨r1,r2,?_⟩
 have z1:(zH1 s.heap S1 t1).objs.size=s.heap.objs.size+1:=Q4 ..
 have z2:(zH2 s.heap S1 S2 t1 t2).objs.size=s.heap.objs.size+2:=by rw[Q4,z1]
 have z3:(zH3 s.heap S1 S2 t1 t2).objs.size=s.heap.objs.size+3:=by rw[Q4,z2]
 have z4:(zH4 s.heap S1 S2 t1 t2).objs.size=s.heap.objs.size+4:=by rw[Q4,z3]
 have z5:(zH5 s.heap S1 S2 t1 t2).objs.size=s.heap.objs.size+5:=by rw[Q4,z4]
 have fr:∀ (tk:Tok) (S:Src),(S.iter tk).isFreed=false:=fun tk S=>by cases S<;>rfl
 have g5:(zH5 s.heap S1 S2 t1 t2).get? (zH4 s.heap S1 S2 t1 t2).objs.size=some _:=Qq _ rfl
 have g4:(zH5 s.heap S1 S2 t1 t2).get? (zH3 s.heap S1 S2 t1 t2).objs.size=some _:=Qc _ (Qq _ rfl)
 have g3:(zH5 s.heap S1 S2 t1 t2).get? (zH2 s.heap S1 S2 t1 t2).objs.size=some _:=Qc _ (Qc _ (Qq _ rfl))
 have g2:(zH5 s.heap S1 S2 t1 t2).get? (zH1 s.heap S1 t1).objs.size=some (S2.iter t2):=Qc _ (Qc _ (Qc _ (Qq _ (fr _ _))))
 have g1:(zH5 s.heap S1 S2 t1 t2).get? s.heap.objs.size=some (S1.iter t1):=Qc _ (Qc _ (Qc _ (Qc _ (Qq _ (fr _ _)))))
 show _∧_
 rw[z2,z3,z4]at g5
 rw[z1,z2]at g3
 rw[z3]at g4
 rw[z1]at g2
 rw[z4]
 exact⟨⟨_,g5,rfl⟩,h _ g5 g3 g4 (Src.iter_at g1) (Src.iter_at g2) z5 fun c o x =>
  Qc _ (Qc _ (Qc _ (Qc _ (Qc _ x))))⟩
end
def Itz(K:PySem.W.Frag)(S1 S2:Src):It :=
 ⟨fun i H=>∃xs ys,S1.its K H xs∧S2.its K H ys∧i<xs.length∧i<ys.length,
  fun i H v H'=>∃p,H p=none∧v=.ref p∧∀xs ys,S1.its K H xs→S2.its K H ys→∀x y,xs[i]? = some x→ys[i]? = some y→H'=upd H p (.tup [x,y]),
  fun i H=>∃xs ys,S1.its K H xs∧S2.its K H ys∧(xs.length≤i∨ys.length≤i)⟩
section
variable {X:Cx} {pins:List (Addr×Obj)} {σ:St} {H:Hp} {s:Shared}
theorem Inv.src(I:Inv X pins σ H s):∀ {S:Src} {xs:List V},S.its X.K H xs→∃us,S.raw s.heap us∧S.many us=xs.length∧∀k u x,S.fit us k u→xs[k]? = some x→ZI x u
 | .l a,xs,h=>by
  obtain⟨its,rv,pl,_⟩:=I.list h
  refine⟨its,pl.isList,rv.length.symm,fun k u x e1 e2=>?_⟩
  obtain⟨u',e3,r⟩:=rv.get e2
  rw[show its[k]? = some u from e1]at e3;cases e3
  exact r
 | .t a,xs,h=>by
  obtain⟨its,rv,pl,_⟩:=I.tuple h
  refine⟨its,pl,rv.length.symm,fun k u x e1 e2=>?_⟩
  obtain⟨u',e3,r⟩:=rv.get e2
  rw[show its[k]? = some u from e1]at e3;cases e3
  exact r
 | .s z,xs,h=>by
  refine⟨[],trivial,?_,fun k u x e1 e2=>?_⟩
  ·rw[show xs=_ from h,Qa];simp[Src.many]
  ·obtain⟨c,tk,e3,e4⟩:=e1
   subst e4
   rw[show xs=_ from h,Qp]at e2
   have e5:z.cps.toList[k]? = some c:=by simpa using e3
   rw[e5]at e2
   cases e2
   exact⟨tk,rfl⟩
theorem Inv.src_off(I:Inv X pins σ H s){b:Addr}(hb:Zf2 X pins H b):∀ {S:Src} {xs:List V},S.its X.K H xs→S.off b
 | .l a,xs,h=>by
  rcases h with(h|⟨ob,h⟩)|⟨o,its,n,hk,_⟩
  ·exact Zc h hb.1
  ·exact Zc h hb.1
  ·rintro rfl
   have e:=I.ok.mod.kin a o hk
   rcases hb.2.2.2.1 with z|z
   ·exact I.ok.noex a o e z
   ·exact absurd (QC (Qr e) (Qy I.ok.bsz z)) (Q9 _)
 | .t a,xs,h=>by
  rcases h with(h|⟨ob,h⟩)|⟨o,its,n,hk,_⟩
  ·exact Zc h hb.1
  ·exact Zc h hb.1
  ·rintro rfl
   have e:=I.ok.mod.kin a o hk
   rcases hb.2.2.2.1 with z|z
   ·exact I.ok.noex a o e z
   ·exact absurd (QC (Qr e) (Qy I.ok.bsz z)) (Q9 _)
 | .s z,xs,h=>trivial
theorem Inv.zipped{fp:List Addr}{h':Heap}{tk:Nat}{x y:V}{u v:Value}(I:Inv X pins σ H s)(hf:∀b∈fp,Zf2 X pins H b)(rx:ZI x u)(ry:ZI y v)
  (hp:IsPair h' s.heap.objs.size u v) (hfh:∀b∈fp,∃o,h'.get? b=some o) (hk:∀c o,c ∉ fp→s.heap.get? c=some o→h'.get? c=some o) :
  Inv X pins σ (upd H s.heap.objs.size (.tup [x,y])) { s with heap:=h',toks:=tk }:=by
 have hn:H s.heap.objs.size=none:=I.fresh
 have ne:∀b ob,s.heap.get? b=some ob→b≠s.heap.objs.size:=fun b ob e=>QD (Qr e)
 have nt:∀b u,H b=some u→b≠s.heap.objs.size:=fun b u e=>Zc e hn
 have nfp:∀b u,H b=some u→b ∉ fp:=fun b u e hb=>by rw[(hf b hb).1]at e;cases e
 refine I.step (g':=s.gens) (d':=s.drawn) (ch:=fp) (fun b hb=>⟨(hf b hb).2.2.2.1,(hf b hb).2.1,(hf b hb).2.2.2.2.1,(hf b hb).2.2.2.2.2⟩)
  (fun b ob _ _ hc e _=>hk b ob hc e) (fun b ob _ _ hc e _=>⟨ob.slots,hk b ob hc e⟩) (fun b ob _ e n=>by rw[Zb (ne b ob e)];exact n) (fun b ob hc e=>⟨ob,hk b ob hc e⟩)
  (fun b xs e=>by rw[Zb (nt b _ e)];exact e) (fun b ob u e=>by rw[Zb (nt b _ e)];exact e) (fun b ps e=>⟨#[],by rw[Zb (nt b _ e),e];simp⟩) (fun m hm=>?_) (fun b ub e=>?_) I.bare
 ·obtain⟨ob,es,ep,ho,r⟩:=hm
  exact⟨ob,es,ep,hk _ ob (fun z=>(hf _ z).2.1 rfl) ho,r⟩
 ·by_cases hb:b=s.heap.objs.size
  ·subst hb
   rw[Zd]at e;cases e
   exact⟨by show 2≤sizeLine;decide,[u,v],.cons rx (.cons ry .nil),⟨_,hp,rfl,_,rfl⟩⟩
  ·rw[Zb hb]at e
   refine(I.hok b ub e).stay (fun c w' hc q=>hk c w' ?_ q) (fun c q=>by rw[Zb (nt c _ q)];exact q) fun c xs q=>by rw[Zb (nt c _ q)];exact q
   rcases hc with z|z
   ·rw[z];exact nfp b ub e
   ·exact nfp c _ z
end
theorem ZmZ{P:Program}{w:World}{K:PySem.W.Frag}{elts:List Expr}{x1:Nat}{tpos:Pos}{S1 S2:Src}{z TI TO i1 i2:Addr}
  (d1:TI≠z) (d2:TO≠z) (d3:i1≠z) (d4:i2≠z) (d5:TI≠TO) (d6:TI≠i1) (d7:TI≠i2) (d8:TO≠i1) (d9:TO≠i2) (d10:i1≠i2) :
  Zjt P w K (.Tuple elts x1 tpos) (Itz K S1 S2) [z,TI,TO,i1,i2] z
   (fun i h=>IsZip h z TI TO .none∧IsPair h TI (.ref i1) (.ref i2)∧(∃a b,IsPair h TO a b)∧S1.at h i1 i∧S2.at h i2 i) where
 mem:=by simp
 obj:=fun i h st b hb=>by
  obtain⟨hz,hTI,⟨a,b',hTO⟩,h1,h2⟩:=st
  have nf:∀ {o:Obj} {vs:Array Value},o.data=.fields vs→∀v,o.data≠.cell v:=fun d v e=>by rw[d]at e;cases e
  simp only[List.mem_cons,List.not_mem_nil,or_false]at hb
  rcases hb with rfl|rfl|rfl|rfl|rfl
  ·exact⟨_,hz,nf rfl⟩
  ·exact⟨_,hTI,fun v e=>by cases e⟩
  ·exact⟨_,hTO,fun v e=>by cases e⟩
  ·obtain⟨o,vs,e,d⟩:=Src.at_obj h1;exact⟨o,e,nf d⟩
  ·obtain⟨o,vs,e,d⟩:=Src.at_obj h2;exact⟨o,e,nf d⟩
 keep:=fun i h h' st k=>by
  obtain⟨hz,hTI,⟨a,b',hTO⟩,h1,h2⟩:=st
  exact⟨k z (by simp) _ hz,k TI (by simp) _ hTI,⟨a,b',k TO (by simp) _ hTO⟩,Src.at_keep (fun o e=>k i1 (by simp) o e) h1,Src.at_keep (fun o e=>k i2 (by simp) o e) h2⟩
 item:=by
  intro X hP hw hK hc i pins s σ H E I hf st hg
  subst hP hw hK
  obtain⟨hz,hTI,⟨a,b',hTO⟩,h1,h2⟩:=st
  obtain⟨xs,ys,q1,q2,l1,l2⟩:=hg
  obtain⟨us1,r1,m1,f1⟩:=I.src q1
  obtain⟨us2,r2,m2,f2⟩:=I.src q2
  have hfz:=hf z (by simp)
  have D:ZiU z TI TO i1 i2 S1 S2:=⟨d1,d2,d3,d4,d5,d6,d7,d8,d9,d10,I.src_off hfz q1,I.src_off (hf TO (by simp)) q1,I.src_off (hf i1 (by simp)) q1,I.src_off (hf i2 (by simp)) q1,
   I.src_off hfz q2,I.src_off (hf TO (by simp)) q2,I.src_off (hf i1 (by simp)) q2,I.src_off (hf i2 (by simp)) q2⟩
  refine Zn4 D hz hTI hTO h1 h2 r1 r2 (by omega) (by omega) fun h' tk x y fx fy a1 a2 a3 a4 a5 a6 a7=>?_
  have rx:=f1 i x _ fx (Qb l1)
  have ry:=f2 i y _ fy (Qb l2)
  refine⟨_,rfl,wpAny_letOwnedTupleGo_zip a1 fun h'' hz'' hs''=>?_⟩
  have hs':Heap.SameBut z h' h'':=hs''
  have hTI':IsPair h' TI (.ref i1) (.ref i2):=a7 _ _ d1 d5 d6 d7 hTI
  have lt:∀ {b:Addr} {o:Obj},s.heap.get? b=some o→s.heap.objs.size≠b:=fun e=>Q3 (Qr e)
  have hzs:s.heap.objs.size≠z:=lt hz
  have I2:Inv X pins σ (upd H s.heap.objs.size (.tup [xs[i],ys[i]])) { s with heap:=h'',toks:=tk }:=by
   refine I.zipped (fp:=[z,TI,TO,i1,i2]) hf rx ry (hs'.extBut _ _ hzs a5) (fun b hb=>?_) fun c o hc e=>?_
   ·simp only[List.mem_cons,List.not_mem_nil,or_false]at hb
    rcases hb with rfl|rfl|rfl|rfl|rfl
    ·exact⟨_,hz''⟩
    ·exact⟨_,hs'.extBut _ _ d1 hTI'⟩
    ·exact⟨_,hs'.extBut _ _ d2 a2⟩
    ·obtain⟨o,vs,e,_⟩:=Src.at_obj a3;exact⟨o,hs'.extBut _ _ d3 e⟩
    ·obtain⟨o,vs,e,_⟩:=Src.at_obj a4;exact⟨o,hs'.extBut _ _ d4 e⟩
   ·simp only[List.mem_cons,List.not_mem_nil,or_false,not_or]at hc
    exact hs'.extBut _ _ hc.1 (a7 c o hc.1 hc.2.2.1 hc.2.2.2.1 hc.2.2.2.2 e)
  refine⟨.ref s.heap.objs.size,_,I2,rfl,⟨s.heap.objs.size,I.fresh,rfl,fun xs' ys' w1 w2 x' y' e1 e2=>?_⟩,⟨hz'',hs'.extBut _ _ d1 hTI',⟨_,_,hs'.extBut _ _ d2 a2⟩,Src.at_keep (fun o e=>hs'.extBut _ o d3 e) a3,Src.at_keep (fun o e=>hs'.extBut _ o d4 e) a4⟩,fun b hb=>?_⟩
  ·have same:∀ {S:Src} {us vs:List V},S.its X.K H us→S.its X.K H vs→us=vs:=fun {S us vs} p q=>by
    cases S with
    | l a=>exact I.list_inj p q
    | t a=>exact I.tuple_inj p q
    | s z=>rw[show us=_ from p,show vs=_ from q]
   have e3:=same w1 q1
   have e4:=same w2 q2
   subst e3;subst e4
   rw[Qb l1]at e1
   rw[Qb l2]at e2
   cases e1;cases e2
   rfl
  ·rw[Zb (fun e=>by
    obtain⟨o,e1,_⟩:∃o,s.heap.get? b=some o∧True:=by
     simp only[List.mem_cons,List.not_mem_nil,or_false]at hb
     rcases hb with rfl|rfl|rfl|rfl|rfl
     ·exact⟨_,hz,trivial⟩
     ·exact⟨_,hTI,trivial⟩
     ·exact⟨_,hTO,trivial⟩
     ·obtain⟨o,vs,e,_⟩:=Src.at_obj h1;exact⟨o,e,trivial⟩
     ·obtain⟨o,vs,e,_⟩:=Src.at_obj h2;exact⟨o,e,trivial⟩
    exact lt e1 e.symm)]
   exact(hf b hb).1
 done:=by
  intro X hP hw hK hc i pins s σ H E I hf st hg
  subst hP hw hK
  obtain⟨hz,hTI,⟨a,b',hTO⟩,h1,h2⟩:=st
  obtain⟨xs,ys,q1,q2,l⟩:=hg
  obtain⟨us1,r1,m1,f1⟩:=I.src q1
  obtain⟨us2,r2,m2,f2⟩:=I.src q2
  have hfz:=hf z (by simp)
  have D:ZiU z TI TO i1 i2 S1 S2:=⟨d1,d2,d3,d4,d5,d6,d7,d8,d9,d10,I.src_off hfz q1,I.src_off (hf TO (by simp)) q1,I.src_off (hf i1 (by simp)) q1,I.src_off (hf i2 (by simp)) q1,
   I.src_off hfz q2,I.src_off (hf TO (by simp)) q2,I.src_off (hf i1 (by simp)) q2,I.src_off (hf i2 (by simp)) q2⟩
  refine Zn2 (I.ok.hd hc) D hz hTI hTO h1 h2 r1 r2 (by omega) fun h' tk hk=>⟨rfl,?_⟩
  have kf:∀c o,c ∉ [z,TI,TO,i1,i2]→s.heap.get? c=some o→h'.get? c=some o:=fun c o hc e=>by
   simp only[List.mem_cons,List.not_mem_nil,or_false,not_or]at hc
   exact hk c o hc.1 hc.2.2.1 hc.2.2.2.1 hc.2.2.2.2 e
  have nfp:∀b u,H b=some u→b ∉ [z,TI,TO,i1,i2]:=fun b u e hb=>by rw[(hf b hb).1]at e;cases e
  refine I.step (g':=s.gens) (d':=s.drawn) (ch:=[z,TI,TO,i1,i2]) (fun b hb=>⟨(hf b hb).2.2.2.1,(hf b hb).2.1,(hf b hb).2.2.2.2.1,(hf b hb).2.2.2.2.2⟩)
   (fun b ob _ _ hc e _=>kf b ob hc e) (fun b ob _ _ hc e _=>⟨ob.slots,kf b ob hc e⟩) (fun b ob _ e n=>n) (fun b ob hc e=>⟨ob,kf b ob hc e⟩)
   (fun b xs e=>e) (fun b ob u e=>e) (fun b ps e=>⟨#[],by rw[e];simp⟩) (fun m hm=>?_) (fun b ub e=>?_) I.bare
  ·obtain⟨ob,es,ep,ho,r⟩:=hm
   exact⟨ob,es,ep,kf _ ob (fun z=>(hf _ z).2.1 rfl) ho,r⟩
  ·refine(I.hok b ub e).stay (fun c w' hc q=>kf c w' ?_ q) (fun c q=>q) fun c xs q=>q
   rcases hc with z'|z'
   ·rw[z'];exact nfp b ub e
   ·exact nfp c _ z'
 self:=fun _ _ _ _ _ st h=>wpAny_pyIter_zip st.1 h
def Zrr(K:PySem.W.Frag)(ta:TA):TI:=fun σ H R=>ta σ H fun vs H1=>∃S1 S2 xs ys,vs=[Src.val S1,Src.val S2]∧S1.its K H1 xs∧S2.its K H1 ys∧R (Itz K S1 S2) H1
theorem ZqR{X:Cx}{a b:Expr}{ta:TA}{p pos:Pos}{elts:List Expr}{x1:Nat}{tpos:Pos}(hg:Gl X "zip")(hm:X.mg "zip" = none)(ha:PA X [a,b] ta)
  (hs:starEach [a,b] X.env=[(false,eval a X.env),(false,eval b X.env)]:=by rfl) (hs2:starEach [b] X.env=[(false,eval b X.env)]:=by rfl) :
  PI X (.Tuple elts x1 tpos) (.Call (.Name "zip" p) [a,b] [] pos) (Zrr X.K ta):=by
 intro pins s σ H R I h
 refine Call_ (ZdP I hg hm boot_zip (QU (thn (ha pos pins s σ H _ I h) fun us s1 ⟨vs,H1,I1,r1,q1⟩=>?_) (by rw[hs,hs2]) (by rw[hs2];rfl)))
 obtain⟨S1,S2,xs,ys,e,y1,y2,q⟩:=q1
 subst e
 obtain⟨u1,u2,rfl,w1,w2⟩:=r1.two
 have vo:∀ {S:Src} {u:Value},ZI S.val u→∃tk,u=S.value tk:=fun {S u} r=>by
  cases S with
  | l a=>exact⟨0,r⟩
  | t a=>exact⟨0,r⟩
  | s z=>obtain⟨tk,e⟩:=r;exact⟨tk,e⟩
 obtain⟨t1,rfl⟩:=vo w1
 obtain⟨t2,rfl⟩:=vo w2
 obtain⟨us1,r1,m1,f1⟩:=I1.src y1
 obtain⟨us2,r2,m2,f2⟩:=I1.src y2
 refine ZnK r1 r2 fun h' hz hTI hTO a1 a2 a3 hk=>wpAny_pyIter_zip hz ?_
 have I2:Inv X pins σ H1 { s1 with heap:=h' }:=I1.kept (t':=s1.toks) hk
 have n:=s1.heap.objs.size
 refine⟨_,_,_,_,H1,rfl,I2,ZmZ (S1:=S1) (S2:=S2) (z:=s1.heap.objs.size+4) (TI:=s1.heap.objs.size+2) (TO:=s1.heap.objs.size+3) (i1:=s1.heap.objs.size) (i2:=s1.heap.objs.size+1)
  (QD (Qae (by decide) _)) (QD (Qae (by decide) _)) (QD (Qao (by decide))) (QD (Qae (by decide) _))
  (QD (Qae (by decide) _)) (Q3 (Qao (by decide))) (Q3 (Qae (by decide) _)) (Q3 (Qao (by decide)))
  (Q3 (Qae (by decide) _)) (QD (Qao (by decide))),⟨hz,hTI,⟨_,_,hTO⟩,a1,a2⟩,fun b hb=>?_,q⟩
 have hb':s1.heap.objs.size≤b:=by
  simp only[List.mem_cons,List.not_mem_nil,or_false]at hb
  rcases hb with rfl|rfl|rfl|rfl|rfl
  ·exact QaC _ 4
  ·exact QaC _ 2
  ·exact QaC _ 3
  ·exact Qh _
  ·exact QaC _ 1
 exact I1.fpOk hb' (I1.hok.fresh hb')
section
variable {X:Cx} (K:PySem.W.Frag)
theorem ixL(h:X.K=K:=by rfl):IxR X (Zqa K):=by subst h;exact ZoR
theorem ixT(h:X.K=K:=by rfl):IxR X (ZqM K):=by subst h;exact Zqe
theorem slL(h:X.K=K:=by rfl):SlR X (Zrs K):=by subst h;exact ZoM
def Zr5:List V→Hp→VK→Prop:=fun xs H Q=>∃p ys,xs=[.ref p]∧(SqL K H p ys∨SqT K H p ys)∧Q (.int ys.length) H
theorem Zcj(h:X.K=K:=by rfl):ZaF X (.builtin "len") (Zr5 K):=by subst h;exact Zil
theorem Zgl(h:X.K=K:=by rfl):ZaF X (.builtin "isinstance") (Zr4 K):=by subst h;exact ZnB
theorem Zrf(h:X.K=K:=by rfl):ZaF X (.builtin "isinstance") (ZpM K):=by subst h;exact Zl2
def Zse:List V→Hp→VK→Prop:=fun xs H Q=>∃ (p:Addr) (bs:List Bool),xs=[.ref p]∧SqL K H p (bs.map V.bl)∧Q (.bl (bs.all id)) H
theorem Zss(hc:X.calm=true:=by rfl)(h:X.K=K:=by rfl):ZaF X (.builtin "all") (Zse K):=by subst h;exact Zne hc
def rSrtI:List V→Hp→VK→Prop:=fun xs H Q=>∃ (p:Addr) (ns:List Int),xs=[.ref p]∧SqL K H p (ns.map V.int)∧ns.length<64 ∧
  ∀ (l:Addr) (ns':List Int),H l=none→ns'.Perm ns→ns'.Pairwise (·≤·)→Q (.ref l) (upd H l (.lst (ns'.map V.int)))
def Zrj:List V→Hp→VK→Prop:=fun xs H Q=>∃ (p:Addr) (ss:List Str),xs=[.ref p]∧SqL K H p (ss.map V.str)∧ss.length<64 ∧
  ∀ (l:Addr) (ss':List Str),H l=none→ss'.Perm ss→sortedS ss'=true→Q (.ref l) (upd H l (.lst (ss'.map V.str)))
theorem Zqp(h:X.K=K:=by rfl):ZaF X (.builtin "sorted") (Zrj K):=by subst h;exact Zit
def ZrV:V→List V→Hp→VK→Prop:=fun x vs H Q=>∃ (sep:Str) (p:Addr) (ys:List Str),x=.str sep∧vs=[.ref p]∧SqL K H p (ys.map V.str)∧(ys.map (·.length)).sum+ys.length*sep.length≤16777216∧Q (.str (Txt.join sep ys)) H
theorem ZrO(h:X.K=K:=by rfl):MtR X "str.join" (ZrV K):=by subst h;exact Zpv
theorem iL{tg l:Expr}{tl:TE}(hl:PE X l tl)(h:X.K=K:=by rfl):PI X tg l (ZpQ K tl):=by subst h;exact Zo3 hl
theorem gT{es:List Expr}{k:Nat}{t:TGs}{n:Nat}{pos:Pos}(h:PGs X es t)(hK:X.K=K:=by rfl)(hc:X.calm=true:=by rfl)
  (hn:(assignEach es X.env).length=n:=by rfl) (hst:(assignEach es X.env).findIdx? (·.1)=none:=by rfl):PG X (.Tuple es k pos) (Zr0 K n t):=by subst hK;exact ZqI hc h hn hst
theorem iZ{a b:Expr}{ta:TA}{p pos:Pos}{elts:List Expr}{x1:Nat}{tpos:Pos}(hm:X.mg "zip" = none)(ha:PA X [a,b] ta)(hg:Gl X "zip":=by rfl)(hK:X.K=K:=by rfl)
  (hs:starEach [a,b] X.env=[(false,eval a X.env),(false,eval b X.env)]:=by rfl) (hs2:starEach [b] X.env=[(false,eval b X.env)]:=by rfl) :
  PI X (.Tuple elts x1 tpos) (.Call (.Name "zip" p) [a,b] [] pos) (Zrr K ta):=by subst hK;exact ZqR hg hm ha hs hs2
end
structure Df (P:Program) (w:World) (K:PySem.W.Frag) (mg:Str→Option Value) (base:Heap) (k:Nat) (x:Str) (ps:List Str) (sp:Sp):Prop where
 ex:∃f fd,Zer P w K mg base CX0 k f fd ps sp∧mg x=some (.ref f)∧PySem.W.keepIn K (.ref f)=true∧ZcB K fd ps []
section
variable {P:Program} {w:World} {K:PySem.W.Frag} {mg:Str→Option Value} {base:Heap}
structure Top (K:PySem.W.Frag) (mg:Str→Option Value) (x:Str) (st:Stmt) (ps:List Str):Prop where
 ex:∃f fd,Fun K x x st f fd∧mg x=some (.ref f)∧ZcB K fd ps []
theorem Top.df{x:Str}{st:Stmt}{N ps:List Str}{k:Nat}{sp:Sp}(T:Top K mg x st ps)(S:Zr N ps (Zg st))(len:∀vs H Q E,sp vs H Q E→vs.length=ps.length)
  (hbody:∀ (cdv:Value) (f:Addr) (A:Around) (outer:List Env) (s:Shared) (H:Hp) (vs:List V) (Q:VK) (E:XK),ZaV k (A.deeper (envOfC x (Zg st) s.heap.objs.size f cdv))→sp vs H Q E →
   ∃t,PSs (ZiB CX0 P w K mg base N x (Zg st) f cdv A outer s H E).nox (Zn st) t∧t { nx:=fun _ H'=>Q .non H',rt:=Q } (Zea N vs) H):Df P w K mg base (k+1) x ps sp:=by
 obtain⟨f,fd,F,m,b⟩:=T.ex
 exact⟨f,fd,F.ok S len (fun cdv A outer s H vs Q E hr h=>hbody cdv f A outer s H vs Q E hr h),m,F.kp,b⟩
end
section
variable {X:Cx} {k j:Nat} {x:Str} {ps:List Str} {sp:Sp} {e:Expr} {es:List Expr} {t:TA} {p pos:Pos}
theorem Zy(F:Df X.prog X.w X.K X.mg X.base k x ps sp)(hr:ZaV j X.A)(ha:PA X (e::es) t)(hjk:k≤j:=by decide)(hg:Gl X x:=by rfl)(hdb:(x == ("__debug__" : Str))=false:=by decide)
  (he:starEach (e::es) X.env=(false,eval e X.env)::starEach es X.env:=by rfl) (hpl:(backTo pos (starEach es X.env)).any (·.1)=false:=by rfl) :
  PE X (.Call (.Name x p) (e::es) [] pos) (ZpJ sp [] E0 t):=by
 obtain⟨f,fd,F,m,kp,b⟩:=F.ex
 exact Zpn F (hr.mono hjk) hg m kp b .nil ZkS ha hdb he hpl
theorem Zda{T:String}(hm:X.mg x=none)(hv:bootBuiltins x=some (.type T))(hg:Gl X x:=by rfl)(hn:x ≠ "__name__":=by decide)(hd:(x == ("__debug__" : Str))=false:=by decide):PE X (.Name x pos) (tC (.ty T)) :=
 Zot hg hm hv rfl hn hd
end
theorem Zds{lo:Int}{n k:Nat}{D:Addr}{σ:St}{H1:Hp}{g:TG}{te:TE}{Q:VK}(Pv:Nat→List V→St→Hp→Prop)(h0:Pv 0 [] (σ++List.replicate k none) (upd H1 D (.lst [])))
  (hs:∀i ys σ H,i<n→Pv i ys σ H→g (.int (lo+i)) σ H fun σ4 H4=>te σ4 H4 fun y H6=>H6 D=some (.lst ys)∧ys.length<sizeLine∧Pv (i+1) (ys++[y]) σ4 (upd H6 D (.lst (ys++[y]))))
  (hd:∀ys σ H,Pv n ys σ H→Q (.ref D) H):ZdM (Itr lo n) D k σ H1 g Znw te Q:=by
 refine⟨fun i m ys σ H=>m=n-i∧i≤n∧Pv i ys σ H,⟨n,by simp,Qw _,h0⟩,?_⟩
 rintro i m ys σ H ⟨rfl,hi,p⟩
 by_cases hlt:i<n
 ·refine .inr ⟨hlt,Pv (i+1),fun ys' σ' H' p'=>⟨n-(i+1),by omega,rfl,hlt,p'⟩,fun x H' y=>?_⟩
  obtain⟨e,y⟩:=y
  subst e y
  simp only[Znw,↓reduceIte]
  exact hs i ys σ _ hlt p
 ·have e:i=n:=by omega
  subst e
  exact .inl ⟨Qh _,hd ys σ H p⟩
theorem Zjw{K:PySem.W.Frag}{S1 S2:Src}{xs ys:List V}{k:Nat}{D:Addr}{σ:St}{H1:Hp}{g:TG}{te:TE}{Q:VK}(Pv:Nat→List V→St→Hp→Prop)(h0:Pv 0 [] (σ++List.replicate k none) (upd H1 D (.lst [])))
  (hl:∀i zs σ H,Pv i zs σ H→S1.its K H xs∧S2.its K H ys)
  (hs:∀i zs σ H x y p,xs[i]? = some x→ys[i]? = some y→Pv i zs σ H→H p=none→g (.ref p) σ (upd H p (.tup [x,y])) fun σ4 H4=>te σ4 H4 fun z H6=>H6 D=some (.lst zs)∧zs.length<sizeLine∧Pv (i+1) (zs++[z]) σ4 (upd H6 D (.lst (zs++[z]))))
  (hd:∀zs σ H,Pv (min xs.length ys.length) zs σ H→Q (.ref D) H):ZdM (Itz K S1 S2) D k σ H1 g Znw te Q:=by
 refine⟨fun i m zs σ H=>m=min xs.length ys.length-i∧i≤min xs.length ys.length∧Pv i zs σ H,⟨min xs.length ys.length,by simp,Qw _,h0⟩,?_⟩
 rintro i m zs σ H ⟨rfl,hi,p⟩
 obtain⟨q1,q2⟩:=hl i zs σ H p
 by_cases hlt:i<min xs.length ys.length
 ·have l1:i<xs.length:=by omega
  have l2:i<ys.length:=by omega
  refine .inr ⟨⟨xs,ys,q1,q2,l1,l2⟩,Pv (i+1),fun ys' σ' H' p'=>⟨min xs.length ys.length-(i+1),by omega,rfl,hlt,p'⟩,fun x H' y=>?_⟩
  obtain⟨r,hr,rfl,e⟩:=y
  have e':=e xs ys q1 q2 _ _ (Qb l1) (Qb l2)
  subst e'
  simp only[Znw,↓reduceIte]
  exact hs i zs σ H _ _ r (Qb l1) (Qb l2) p hr
 ·have e:i=min xs.length ys.length:=by omega
  refine .inl ⟨⟨xs,ys,q1,q2,by omega⟩,hd zs σ H (e ▸ p)⟩
section
variable {X:Cx} {N N':List Str} {o c:Scope} {x:Str} {pos:Pos} {C:Addr} {s:Shared} {H:Hp} {fp:List Addr}
theorem ZeD(S:Zan N N' o c)(ho:X.env.scope=o)(hl:c.names.lookup x=some .local):(ZaU X c N' C s H fp).env.scope.names.lookup x=some .local:=by
 have e:=Zdg (X:=X) S ho (ZaT X.env.cells c.names []) C x
 rw[hl]at e
 exact e
theorem ZbK(S:Zan N N' o c)(ho:X.env.scope=o)(hl:c.names.lookup x=some .globalImplicit):Gl (ZaU X c N' C s H fp) x:=by
 have e:=Zdg (X:=X) S ho (ZaT X.env.cells c.names []) C x
 rw[hl]at e
 exact e
theorem ZmD(S:Zan N N' o c)(ho:X.env.scope=o)(hl:c.names.lookup x=some .free):Vis (ZaU X c N' C s H fp).env.scope x:=by
 have e:=Zdg (X:=X) S ho (ZaT X.env.cells c.names []) C x
 rw[hl]at e
 have e':(ZaU X c N' C s H fp).env.scope.names.lookup x=if X.env.kindOf x=some .cell then some NameKind.cell else some NameKind.free:=e
 by_cases z:X.env.kindOf x=some .cell
 ·rw[if_pos z]at e';exact .inr (.inl e')
 ·rw[if_neg z]at e';exact .inr (.inr e')
theorem cv(i:Nat)(S:Zan N N' o c)(ho:X.env.scope=o)(hl:c.names.lookup x=some .free)(hN:N'[i]? = some x:=by rfl)(hd:(x == ("__debug__" : Str))=false:=by decide)(hcd:(x == ("__classdict__" : Str))=false:=by decide) :
  PE (ZaU X c N' C s H fp) (.Name x pos) (Zpg i):=Zj2 hN (ZmD S ho hl) hd hcd
theorem cw(i:Nat)(S:Zan N N' o c)(ho:X.env.scope=o)(hl:c.names.lookup x=some .local)(hN:N'[i]? = some x:=by rfl)(hd:(x == ("__debug__" : Str))=false:=by decide)(hcd:(x == ("__classdict__" : Str))=false:=by decide) :
  PE (ZaU X c N' C s H fp) (.Name x pos) (Zpg i):=Zj2 hN (.inl (ZeD S ho hl)) hd hcd
theorem cg(i:Nat)(S:Zan N N' o c)(ho:X.env.scope=o)(hl:c.names.lookup x=some .local)(hi:N'[i]? = some x:=by rfl):PG (ZaU X c N' C s H fp) (.Name x pos) (Zle i) :=
 ZD S.nd hi (.inl (ZeD S ho hl)) (.inr (ZeD S ho hl))
end
mutual
inductive DV (K:PySem.W.Frag) (H:Hp):V→PyData→Prop where
 | non:DV K H .non .none
 | bl (b:Bool):DV K H (.bl b) (.bool b)
 | int (i:Int):DV K H (.int i) (.int i)
 | str (s:Str):DV K H (.str s) (.str s)
 | lst {a:Addr} {xs:List V} {ds:List PyData}:SqL K H a xs→DVs K H xs ds→DV K H (.ref a) (.list ds)
 | tup {a:Addr} {xs:List V} {ds:List PyData}:SqT K H a xs→DVs K H xs ds→DV K H (.ref a) (.tuple ds)
inductive DVs (K:PySem.W.Frag) (H:Hp):List V→List PyData→Prop where
 | nil:DVs K H [] []
 | cons {x:V} {d:PyData} {xs:List V} {ds:List PyData}:DV K H x d→DVs K H xs ds→DVs K H (x::xs) (d::ds)
end
section
variable {X:Cx} {pins:List (Addr×Obj)} {σ:St} {H:Hp} {s:Shared}
mutual
theorem Inv.reads(I:Inv X pins σ H s):∀ {x:V} {d:PyData} {u:Value},DV X.K H x d→ZI x u→∃as,Reads s.heap u d as
 | _,_,_,.non,r=>by cases r;exact⟨_,.none⟩
 | _,_,_,.bl b,r=>by cases r;exact⟨_,.bool b⟩
 | _,_,_,.int i,r=>by obtain⟨t,rfl⟩:=r;exact⟨_,.int i t⟩
 | _,_,_,.str z,r=>by obtain⟨t,rfl⟩:=r;exact⟨_,.str z t⟩
 | _,_,_,.lst h hs,r=>by
  cases r
  obtain⟨its,rv,⟨o,n,e,hc,_,hd⟩,_⟩:=I.list h
  obtain⟨as,q⟩:=Inv.readsAll I hs rv
  exact⟨_,reads_list_at e hc hd (by simpa using q)⟩
 | _,_,_,.tup h hs,r=>by
  cases r
  obtain⟨its,rv,⟨o,e,hc,n,hd⟩,_⟩:=I.tuple h
  obtain⟨as,q⟩:=Inv.readsAll I hs rv
  exact⟨_,reads_tuple_at e hc hd (by simpa using q)⟩
theorem Inv.readsAll(I:Inv X pins σ H s):∀ {xs:List V} {ds:List PyData} {us:List Value},DVs X.K H xs ds→ZH xs us→∃as,ReadsAll s.heap us ds as
 | _,_,_,.nil,r=>by cases r;exact⟨_,.nil⟩
 | _,_,_,.cons h hs,r=>by
  cases r with
  | cons r1 r2 =>
   obtain⟨as,q1⟩:=Inv.reads I h r1
   obtain⟨bs,q2⟩:=Inv.readsAll I hs r2
   exact⟨_,.cons q1 q2⟩
end
def ZoZ(K:PySem.W.Frag)(neg:Bool):R2:=fun x y H Q=>∃d e,DV K H x d∧DV K H y e∧SeqAt.shaped d=true∧SeqAt.shaped e=true∧Q (.bl (if neg then !PyData.eqv d e else PyData.eqv d e)) H
theorem Zq4(hu:X.A.units+64<cLine):OpR X (compareOp .Eq) (ZoZ X.K false):=by
 intro pins s σ H x y v u Q I rx ry h
 obtain⟨d,e,h1,h2,s1,s2,q⟩:=h
 obtain⟨as,r1⟩:=I.reads h1 rx
 obtain⟨bs,r2⟩:=I.reads h2 ry
 exact eq_dataH r1 r2 s1 s2 hu ⟨.bl _,H,I,rfl,q⟩
theorem Zqw(hu:X.A.units+64<cLine):OpR X (compareOp .NotEq) (ZoZ X.K true):=by
 intro pins s σ H x y v u Q I rx ry h
 obtain⟨d,e,h1,h2,s1,s2,q⟩:=h
 obtain⟨as,r1⟩:=I.reads h1 rx
 obtain⟨bs,r2⟩:=I.reads h2 ry
 exact ne_dataH r1 r2 s1 s2 hu ⟨.bl _,H,I,rfl,q⟩
end
theorem eqD{X:Cx}(K:PySem.W.Frag){k:Nat}(hr:ZaV k X.A)(h:X.K=K:=by rfl):OpR X (compareOp .Eq) (ZoZ K false):=by subst h;exact Zq4 hr.units
theorem neD{X:Cx}(K:PySem.W.Frag){k:Nat}(hr:ZaV k X.A)(h:X.K=K:=by rfl):OpR X (compareOp .NotEq) (ZoZ K true):=by subst h;exact Zqw hr.units
mutual
theorem DV.mono{K:PySem.W.Frag}{H H':Hp}(s:ZF H H'):∀ {x:V} {d:PyData},DV K H x d→DV K H' x d
 | _,_,.non=>.non
 | _,_,.bl b=>.bl b
 | _,_,.int i=>.int i
 | _,_,.str z=>.str z
 | _,_,.lst h hs=>.lst (s.seq h) (DVs.mono s hs)
 | _,_,.tup h hs=>.tup (by
   rcases h with(h|⟨ob,h⟩)|h
   ·exact .inl (.inl (s _ _ h))
   ·exact .inl (.inr ⟨ob,s _ _ h⟩)
   ·exact .inr h) (DVs.mono s hs)
theorem DVs.mono{K:PySem.W.Frag}{H H':Hp}(s:ZF H H'):∀ {xs:List V} {ds:List PyData},DVs K H xs ds→DVs K H' xs ds
 | _,_,.nil=>.nil
 | _,_,.cons h hs=>.cons (DV.mono s h) (DVs.mono s hs)
end
def Ite(K:PySem.W.Frag)(a:Addr):It :=
 ⟨fun i H=>∃xs,SqL K H a xs∧i<xs.length,
  fun i H v H'=>∃p,H p=none∧v=.ref p∧∀xs,SqL K H a xs→∀x,xs[i]? = some x→H'=upd H p (.tup [.int i,x]),
  fun i H=>∃xs,SqL K H a xs∧xs.length≤i⟩
theorem Zl7{P:Program}{w:World}{K:PySem.W.Frag}{elts:List Expr}{x1:Nat}{tpos:Pos}{a e it:Addr}(hne:e≠it) :
  Zjt P w K (.Tuple elts x1 tpos) (Ite K a) [e,it] e (fun i h=>(∃old,IsEnum h e it i old)∧h.IsListIter it a i) where
 mem:=by simp
 obj:=fun i h st b hb=>by
  obtain⟨⟨old,he⟩,o,hit,hc,hd⟩:=st
  simp only[List.mem_cons,List.not_mem_nil,or_false]at hb
  rcases hb with rfl|rfl
  ·exact⟨_,he,fun v z=>by cases z⟩
  ·exact⟨o,hit,fun v z=>by rw[hd]at z;cases z⟩
 keep:=fun i h h' st k=>by
  obtain⟨⟨old,he⟩,hit⟩:=st
  exact⟨⟨old,k e (by simp) _ he⟩,hit.at fun o q=>k it (by simp) o q⟩
 item:=by
  intro X hP hw hK hc i pins s σ H E I hf st hg
  subst hP hw hK
  obtain⟨⟨old,he⟩,hit⟩:=st
  obtain⟨xs,q1,l1⟩:=hg
  obtain⟨its,rv,pl,_⟩:=I.list q1
  obtain⟨u,hu,ru⟩:=rv.get (Qb l1)
  refine wpAny_pyNext_enum_item he hit pl.isList (x:=u) (by simpa using hu) hne fun h' a1 a2 a3 a4 a5=>?_
  have lt:∀ {b:Addr} {o:Obj},s.heap.get? b=some o→s.heap.objs.size≠b:=fun q=>Q3 (Qr q)
  have hes:s.heap.objs.size≠e:=lt he
  refine⟨_,rfl,wpAny_letOwnedTupleGo_enum a1 fun h'' he'' hs''=>?_⟩
  have hs':Heap.SameBut e h' h'':=hs''
  have hit'':h''.IsListIter it a (i+1):=a2.extBut hs'.extBut hne.symm
  have I2:Inv X pins σ (upd H s.heap.objs.size (.tup [.int i,xs[i]])) { s with heap:=h'',toks:=s.toks+1 }:=by
   refine I.zipped (fp:=[e,it]) (u:=.int i s.toks) (v:=u) hf ⟨_,rfl⟩ ru (hs'.extBut _ _ hes a3) (fun b hb=>?_) fun c o hc q=>?_
   ·simp only[List.mem_cons,List.not_mem_nil,or_false]at hb
    rcases hb with rfl|rfl
    ·exact⟨_,he''⟩
    ·obtain⟨o,q,_⟩:=hit'';exact⟨o,q⟩
   ·simp only[List.mem_cons,List.not_mem_nil,or_false,not_or]at hc
    exact hs'.extBut _ _ hc.1 (a5 c o hc.1 hc.2 q)
  refine⟨.ref s.heap.objs.size,_,I2,rfl,⟨s.heap.objs.size,I.fresh,rfl,fun xs' w1 x' e1=>?_⟩,⟨⟨_,he''⟩,hit''⟩,fun b hb=>?_⟩
  ·have e3:=I.list_inj w1 q1
   subst e3
   rw[Qb l1]at e1
   cases e1
   rfl
  ·rw[Zb (fun z=>by
    obtain⟨o,q⟩:∃o,s.heap.get? b=some o:=by
     simp only[List.mem_cons,List.not_mem_nil,or_false]at hb
     rcases hb with rfl|rfl
     ·exact⟨_,he⟩
     ·obtain⟨o,q,_⟩:=hit;exact⟨o,q⟩
    exact lt q z.symm)]
   exact(hf b hb).1
 done:=by
  intro X hP hw hK hc i pins s σ H E I hf st hg
  subst hP hw hK
  obtain⟨⟨old,he⟩,hit⟩:=st
  obtain⟨xs,q1,l1⟩:=hg
  obtain⟨its,rv,pl,_⟩:=I.list q1
  obtain⟨f0,f1,f2,f3,f4,f5⟩:=hf it (by simp)
  have hl:=rv.length
  exact wpAny_pyNext_enum_end (I.ok.hd hc) he hit pl.isList (by rw[Qaj];exact QL (by omega)) fun h' eb=>⟨rfl,I.turned (t':=s.toks) (fun b o hb q=>eb b o hb q) f0 f1 f3 f4 f5⟩
 self:=fun _ _ _ _ _ st h=>by obtain⟨⟨old,he⟩,_⟩:=st;exact wpAny_pyIter_enum he h
def ZpL(K:PySem.W.Frag)(ta:TA):TI:=fun σ H R=>ta σ H fun vs H1=>∃a xs,vs=[V.ref a]∧SqL K H1 a xs∧R (Ite K a) H1
theorem Zos{X:Cx}{l:Expr}{ta:TA}{p pos:Pos}{elts:List Expr}{x1:Nat}{tpos:Pos}(hg:Gl X "enumerate")(hm:X.mg "enumerate" = none)(ha:PA X [l] ta)
  (hs:starEach [l] X.env=[(false,eval l X.env)]:=by rfl):PI X (.Tuple elts x1 tpos) (.Call (.Name "enumerate" p) [l] [] pos) (ZpL X.K ta):=by
 intro pins s σ H R I h
 refine Call_ (ZdP I hg hm boot_enumerate (QU (thn (ha pos pins s σ H _ I h) fun us s1 ⟨vs,H1,I1,r1,q1⟩=>?_) hs rfl))
 obtain⟨a,xs,e,y1,q⟩:=q1
 subst e
 obtain⟨u,rfl,ru⟩:=r1.one
 cases ru
 obtain⟨its,rv,pl,_⟩:=I1.list y1
 refine call_enumerate_list pl.isList fun h' he hit hsz hk=>wpAny_pyIter_enum he ?_
 have I2:Inv X pins σ H1 { s1 with heap:=h' }:=I1.kept (t':=s1.toks) hk
 refine⟨_,_,_,_,H1,rfl,I2,Zl7 (a:=a) (e:=s1.heap.objs.size+1) (it:=s1.heap.objs.size) (Q3 (Nat.lt_succ_self _)),⟨⟨_,he⟩,hit⟩,fun b hb=>?_,q⟩
 have hb':s1.heap.objs.size≤b:=by
  simp only[List.mem_cons,List.not_mem_nil,or_false]at hb
  rcases hb with rfl|rfl
  ·exact QaC _ 1
  ·exact Qh _
 exact I1.fpOk hb' (I1.hok.fresh hb')
theorem iE{X:Cx}(K:PySem.W.Frag){l:Expr}{ta:TA}{p pos:Pos}{elts:List Expr}{x1:Nat}{tpos:Pos}(hm:X.mg "enumerate" = none)(ha:PA X [l] ta)(hg:Gl X "enumerate":=by rfl)(hK:X.K=K:=by rfl)
  (hs:starEach [l] X.env=[(false,eval l X.env)]:=by rfl):PI X (.Tuple elts x1 tpos) (.Call (.Name "enumerate" p) [l] [] pos) (ZpL K ta):=by subst hK;exact Zos hg hm ha hs
theorem ZgS{K:PySem.W.Frag}{a:Addr}{xs:List V}{g:TG}{tb:TS}{D:ZfX}{σ:St}{H:Hp}(Pv:Nat→St→Hp→Prop)(h0:Pv 0 σ H)(hl:∀i σ H,Pv i σ H→SqL K H a xs)
  (hs:∀i x σ H p,xs[i]? = some x→Pv i σ H→H p=none→g (.ref p) σ (upd H p (.tup [.int i,x])) fun σ2 H2=>tb { D with nx:=Pv (i+1),ct:=Pv (i+1),bk:=D.nx } σ2 H2) (hd:∀σ H,Pv xs.length σ H→D.nx σ H) :
  ∃W:Nat→Nat→St→Hp→Prop,(∃m,W 0 m σ H)∧∀i m σ H,W i m σ H →
   ((Ite K a).stop i H∧D.nx σ H)∨((Ite K a).go i H∧∃N:St→Hp→Prop,(∀σ' H',N σ' H'→∃m',m'<m∧W (i+1) m' σ' H')∧∀x H',(Ite K a).yld i H x H'→g x σ H' fun σ2 H2=>tb { D with nx:=N,ct:=N,bk:=D.nx } σ2 H2):=by
 refine⟨fun i m σ H=>m=xs.length-i∧i≤xs.length∧Pv i σ H,⟨xs.length,by simp,Qw _,h0⟩,?_⟩
 rintro i m σ H ⟨rfl,hi,p⟩
 have q1:=hl i σ H p
 by_cases hlt:i<xs.length
 ·refine .inr ⟨⟨xs,q1,hlt⟩,Pv (i+1),fun σ' H' p'=>⟨xs.length-(i+1),by omega,rfl,hlt,p'⟩,fun x H' y=>?_⟩
  obtain⟨r,hr,rfl,e⟩:=y
  have e':=e xs q1 _ (Qb hlt)
  subst e'
  exact hs i _ σ H r (Qb hlt) p hr
 ·have e:i=xs.length:=by omega
  exact .inl ⟨⟨xs,q1,by omega⟩,hd σ H (e ▸ p)⟩
def rMinL(K:PySem.W.Frag):List V→Hp→VK→Prop:=fun vs H Q=>∃ (p:Addr) (ns:List Int),vs=[.ref p]∧SqL K H p (ns.map V.int)∧0<ns.length∧∀M,M∈ns→(∀a∈ns,M≤a)→Q (.int M) H
def Zq3(K:PySem.W.Frag):List V→Hp→VK→Prop:=fun xs H Q=>∃p ys,xs=[.ref p]∧(SqL K H p ys∨SqT K H p ys)∧∀l,H l=none→Q (.ref l) (upd H l (.lst ys))
theorem Zh9{X:Cx}(K:PySem.W.Frag)(h:X.K=K:=by rfl):ZaF X (.type "list") (Zq3 K):=by subst h;exact ZiM
section
variable {prog:Program} {w:World} {A:Around} {E:Value→Shared→Prop} {s:Shared}
theorem ZhK{it t:Addr}{items:Array Value}(hne:t≠it):∀ (n i:Nat) (s:Shared) (Q:List Value→Shared→Prop),s.heap.IsListIter it t i→s.heap.IsList t items→i+n≤items.size →
  (∀h',h'.IsListIter it t (i+n)→Heap.SameBut it s.heap h'→Q ((items.toList.drop i).take n) { s with heap:=h' })→wpAny (model prog w) A (draw (.ref it) n) Q E s
 | 0,i,s,Q,hit,_,_,hQ=>by
  show wpAny _ _ (pure []) Q E s
  exact wpAny_pure (by simpa using hQ s.heap hit (Heap.SameBut.refl ..))
 | n+1,i,s,Q,hit,ht,hle,hQ=>by
  have hlt:i<items.size:=by omega
  show wpAny _ _ (pyNext (.ref it) >>= _) Q E s
  refine wpAny_bind (wpAny_pyNext_list_item hit ht (x:=items[i]) (by simp[hlt]) fun h₁ hit₁ hs₁=>?_)
  refine wpAny_bind (wpAny_holding (ZhK hne n (i+1) _ _ hit₁ (ht.extBut hs₁.extBut hne) (by omega) fun h₂ hit₂ hs₂=>wpAny_pure ?_))
  have hd:items.toList.drop i=items[i]::items.toList.drop (i+1):=by simp[List.drop_eq_getElem_cons,hlt]
  have:=hQ h₂ (by rw[show i+(n+1)=i+1+n by omega];exact hit₂) (hs₁.trans hs₂)
  rw[hd,List.take_succ_cons]at this
  exact this
theorem Zfm{t:Addr}{items:Array Value}{Q:List Value→Shared→Prop}(hh:A.handled=none)(ht:s.heap.IsList t items)
  (hQ:∀h',Heap.ExtBut s.heap.objs.size s.heap h'→Q items.toList { s with heap:=h' }):wpAny (model prog w) A (unpackItems (.ref t) items.size none) Q E s:=by
 have hlt:t≠s.heap.objs.size:=by obtain⟨o,ho,_⟩:=ht;exact QD (Qr ho)
 unfold unpackItems
 refine wpAny_bind ?_
 ·unfold notIterableAtAll
  refine wpAny_bind (wpAny_specialOf ht.typeIs slot_list_iter.lookup ?_)
  refine wpAny_pure ?_
  simp only[Bool.false_eq_true,if_false]
  refine wpAny_bind (wpAny_holding (wpAny_pyIter_list ht ?_))
  refine wpAny_bind (wpAny_holding (ZhK hlt items.size 0 _ _ ⟨_,Qq _ rfl,rfl,rfl⟩ (ht.push _) (by omega) fun h₁ hit₁ hs₁=>?_))
  have hall:List.take items.size (List.drop 0 items.toList)=items.toList:=by
   rw[List.drop_zero];exact Qu (by simp)
  rw[hall]
  rw[if_neg (by simp)]
  have ht₁:h₁.IsList t items:=(ht.push _).extBut hs₁.extBut hlt
  refine wpAny_bind (wpAny_holding (wpAny_pyNext_list_end hh hit₁ ht₁ (by simp) fun h₂ he₂=>?_))
  simp only[Option.isSome_none,Bool.false_eq_true,if_false]
  refine wpAny_pure (hQ h₂ fun b o hb e=>he₂ b o hb (hs₁.extBut b o hb (Qc _ e)))
theorem Zi3{t:Addr}{items:Array Value}{targets:List (Bool×(Value→Sem Unit))}{Q:Unit→Shared→Prop}(hh:A.handled=none)(ht:s.heap.IsList t items)
  (hn:targets.length=items.size) (hstar:targets.findIdx? (·.1)=none)
  (h:∀h',Heap.ExtBut s.heap.objs.size s.heap h'→wpAny (model prog w) A (assignInOrder (targets.map (·.2)) items.toList) Q E { s with heap:=h' }) :
  wpAny (model prog w) A (unpack (.ref t) targets) Q E s:=by
 unfold unpack
 rw[hn,hstar]
 exact wpAny_bind (wpAny_holding (Zfm hh ht h))
theorem Ze0{env:Env}{elts:List Expr}{x1}{pos:Pos}{t:Addr}{items:Array Value}{Q:Unit→Shared→Prop}(hh:A.handled=none)(ht:s.heap.IsList t items)
  (hn:(assignEach elts env).length=items.size) (hstar:(assignEach elts env).findIdx? (·.1)=none)
  (h:∀h',Heap.ExtBut s.heap.objs.size s.heap h'→wpAny (model prog w) A (assignInOrder ((assignEach elts env).map (·.2)) items.toList) Q E { s with heap:=h' }) :
  wpAny (model prog w) A (assign (.Tuple elts x1 pos) env (.ref t)) Q E s:=by
 rw[assign_Tuple]
 exact wpAny_bind (wpAny_standAt (Zi3 hh ht hn hstar h))
end
def Zsw(K:PySem.W.Frag)(n:Nat)(t:TGs):TG:=fun v σ H Q=>∃a xs,v=.ref a∧SqL K H a xs∧xs.length=n∧t xs σ H Q
theorem gL{X:Cx}(K:PySem.W.Frag){es:List Expr}{k:Nat}{t:TGs}{n:Nat}{pos:Pos}(h:PGs X es t)(hK:X.K=K:=by rfl)(hc:X.calm=true:=by rfl)
  (hn:(assignEach es X.env).length=n:=by rfl) (hst:(assignEach es X.env).findIdx? (·.1)=none:=by rfl):PG X (.Tuple es k pos) (Zsw K n t):=by
 subst hK
 intro pins s σ H v u Q I r hw
 obtain⟨a,xs,e1,hq,hl,hw⟩:=hw
 subst e1
 cases r
 obtain⟨its,rv,ht,hz⟩:=I.list hq
 refine Ze0 (I.ok.hd hc) ht.isList (by simp[hn,← hl,rv.length]) hst fun h' hx=>?_
 have I1:Inv X pins σ H { s with heap:=h' }:=I.kept (t':=s.toks) fun b o e=>hx b o (QD (Qr e)) e
 exact h pins _ σ H xs _ Q I1 (by simpa using rv) hw
def ZhM(xs:List V)(lo hi:Option Int)(st:Int):List V :=
 (sliceRange (sliceBounds lo hi (some st) xs.length).1 (sliceBounds lo hi (some st) xs.length).2.1 (sliceBounds lo hi (some st) xs.length).2.2).filterMap fun i=>xs[i]?
theorem Zif{xs:List V}{us:List Value}(r:ZH xs us):∀is:List Nat,ZH (is.filterMap fun i=>xs[i]?) (is.filterMap fun i=>us[i]?)
 | []=>.nil
 | i::is=>by
  have ih:=Zif r is
  by_cases hi:i<xs.length
  ·have e1:xs[i]? = some xs[i]:=Qb hi
   obtain⟨u,hu,ru⟩:=r.get e1
   rw[Q0,Q0,e1,hu]
   exact .cons ru ih
  ·have e1:xs[i]? = none:=QL (by omega)
   have e2:us[i]? = none:=QL (by rw[← r.length];omega)
   rw[Q0,Q0,e1,e2]
   exact ih
def ZqD(X:Cx)(r:V→Option Int→Option Int→Int→Hp→VK→Prop):Prop :=
 ∀ (pins:List (Addr×Obj)) (s:Shared) (σ:St) (H:Hp) (x:V) (v vl vu vs:Value) (lo hi:Option Int) (st:Int) (sl:Addr) (Q:VK),Inv X pins σ H s→ZI x v→s.heap.IsSliceOf sl vl vu vs→IsPart vl lo→IsPart vu hi→IsPart vs (some st)→r x lo hi st H Q →
  ∃T id,typeLookup (.type T) "__getitem__" = pure (some (.builtin id))∧s.TypeIs v T∧wpAny (model X.prog X.w) X.A (getItem v (.ref sl)) (EP X pins σ Q) X.xe s
def ZsT(r:V→Option Int→Option Int→Int→Hp→VK→Prop)(te:TE)(tl th ts:TO):TE:=fun σ H Q=>te σ H fun x H1=>tl σ H1 fun l H2=>th σ H2 fun u H3=>ts σ H3 fun k H4=>∃i,k=some i∧r x l u i H4 Q
section
variable {X:Cx} {e st:Expr} {te:TE} {lo hi:Option Expr} {tl th ts:TO} {pos p2:Pos}
theorem ZlM{r:V→Option Int→Option Int→Int→Hp→VK→Prop}(hr:ZqD X r)(he:PE X e te)(hl:PO X lo tl)(hu:PO X hi th)(hst:PO X (some st) ts):PE X (.Subscript e (.Slice lo hi (some st) p2) pos) (ZsT r te tl th ts):=by
 intro pins s σ H Q I h
 refine Subscript_ (thn (he pins s σ H _ I h) fun v s1 ⟨x,H1,I1,r1,q1⟩=>?_)
 refine wpAny_Slice (thn (hl pins s1 σ H1 _ I1 q1) fun vl s2 ⟨l,H2,I2,pl,q2⟩=>thn (hu pins s2 σ H2 _ I2 q2) fun vu s3 ⟨u,H3,I3,pu,q3⟩=>thn (hst pins s3 σ H3 _ I3 q3) fun vs s4 ⟨k,H4,I4,pk,q4⟩=>?_)
 obtain⟨i,rfl,q4⟩:=q4
 have I5:Inv X pins σ H4 { s4 with heap:=s4.heap.push { cls:=.type "slice",data:=.fields #[vl,vu,vs] } }:=I4.kept (t':=s4.toks) fun b ob q=>Qc _ q
 obtain⟨T,id,hT,ht,hg⟩:=hr pins { s4 with heap:=s4.heap.push { cls:=.type "slice",data:=.fields #[vl,vu,vs] } } σ H4 x v vl vu vs l u i s4.heap.objs.size Q I5 r1 (Heap.IsSliceOf.new ..) pl pu pk q4
 show wpAny (model X.prog X.w) X.A (subscriptTail e (.Slice lo hi (some st) p2) v (.ref s4.heap.objs.size)) (EP X pins σ Q) X.xe { s4 with heap:=s4.heap.push { cls:=.type "slice",data:=.fields #[vl,vu,vs] } }
 exact tail_any (ops:=[v,.ref s4.heap.objs.size]) ht hT hg (by with_unfolding_all rfl)
def ZpU(K:PySem.W.Frag):V→Option Int→Option Int→Int→Hp→VK→Prop:=fun x lo hi st H Q=>∃a xs,x=.ref a∧SqL K H a xs∧st≠0∧∀p,H p=none→Q (.ref p) (upd H p (.lst (ZhM xs lo hi st)))
theorem Znr:ZqD X (ZpU X.K):=by
 intro pins s σ H x v vl vu vs lo hi st sl Q I rx hs pl pu pk h
 obtain⟨a,xs,rfl,hx,hne,q⟩:=h
 cases rx
 obtain⟨its,r,ht,hz⟩:=I.list hx
 have hlen:=r.length
 refine⟨"list",_,slot_list_getitem.lookup,ht.isList.typeIs,?_⟩
 refine wpAny_getItem_list_slice ht.isList hs pl pu pk (by intro e;exact hne (Ql e)) ?_ (by rw[QE]<;>omega)
 have hsz:=slicePick_size_le its.toArray lo hi (some st)
 have hv:ZH (ZhM xs lo hi st) (slicePick its.toArray lo hi (some st)).toList:=by
  unfold slicePick ZhM
  simp only[List.size_toArray,← hlen]
  have:=Zif r (sliceRange (sliceBounds lo hi (some st) xs.length).1 (sliceBounds lo hi (some st) xs.length).2.1 (sliceBounds lo hi (some st) xs.length).2.2)
  simpa using this
 refine⟨.ref s.heap.objs.size,_,I.laid (t':=s.toks) (o:=.lst (ZhM xs lo hi st)) (fun b ob q=>Qc _ q) (Qh _) ?_,rfl,q _ (I.hok.fresh (Qh _))⟩
 refine⟨?_,(slicePick its.toArray lo hi (some st)).toList,0,hv,?_⟩
 ·have e1:its.toArray.size=xs.length:=by rw[QE];exact hlen.symm
  rw[hv.length,Qan]
  exact Qy hsz (by rw[e1];exact hz)
 ·simpa using Qq _ rfl
theorem ZsJ(K:PySem.W.Frag)(h:X.K=K:=by rfl):ZqD X (ZpU K):=by subst h;exact Znr
end
theorem Zf4(n:Nat):sliceRange ((n:Int)-1) (-1) (-1)=(List.range n).map fun i=>n-1-i:=by
 unfold sliceRange
 have hc:(if (-1:Int)>0 then (if (n:Int)-1 < -1 then (-1-((n:Int)-1) + -1-1) / -1 else 0) else (if (n:Int)-1 > -1 then ((n:Int)-1 - -1 - -1-1) / (- -1) else 0)).toNat=n:=by
  rw[if_neg (by decide)]
  by_cases h:(n:Int)-1 > -1
  ·rw[if_pos h,show (- -1:Int)=1 by decide,Int.ediv_one];omega
  ·rw[if_neg h];omega
 simp only[]
 rw[hc]
 apply QA
 intro k hk
 have:=Qah.mp hk
 omega
theorem Zhn{α:Type}(xs:List α):((List.range xs.length).map fun i=>xs.length-1-i).filterMap (fun i=>xs[i]?)=xs.reverse:=by
 rw[List.filterMap_map]
 have e:∀n,n≤xs.length→(List.range n).filterMap ((fun i=>xs[i]?) ∘ fun i=>xs.length-1-i)=xs.reverse.take n:=by
  intro n
  induction n with
  | zero=>intro _;rfl
  | succ n ih =>
   intro hn
   rw[QaJ,Qaw,ih (by omega)]
   have h1:xs[xs.length-1-n]? = some xs[xs.length-1-n]:=Qb (by omega)
   rw[Q0]
   simp only[Function.comp,h1,List.filterMap_nil]
   rw[QH,List.getElem?_reverse (by omega),h1]
   rfl
 rw[e _ (Qh _)]
 exact Qu (by simp)
theorem Zl9(xs:List V):ZhM xs none none (-1)=xs.reverse:=by
 have e:sliceRange (sliceBounds none none (some (-1)) xs.length).1 (sliceBounds none none (some (-1)) xs.length).2.1 (sliceBounds none none (some (-1)) xs.length).2.2=sliceRange ((xs.length:Int)-1) (-1) (-1):=rfl
 unfold ZhM
 rw[e,Zf4,Zhn]
section
variable {X:Cx}
def rInsert:V→List V→Hp→VK→Prop:=fun x vs H Q=>∃l xs i y,x=.ref l∧vs=[.int i,y]∧H l=some (.lst xs)∧0≤i∧i≤xs.length∧xs.length<sizeLine∧Q .non (upd H l (.lst (xs.take i.toNat++y::xs.drop i.toNat)))
def rBits:V→List V→Hp→VK→Prop:=fun x vs H Q=>∃i,x=.int i∧vs=[]∧Q (.int (Builtin.Int.intBits i:Nat)) H
theorem inQ(K:PySem.W.Frag)(h:X.K=K:=by rfl):OpR X (compareOp .In) (rIn K false):=by subst h;exact Zmd
def rTupQ(K:PySem.W.Frag):List V→Hp→VK→Prop:=fun xs H Q=>∃p ys,xs=[.ref p]∧((SqL K H p ys∧∀l,H l=none→Q (.ref l) (upd H l (.tup ys)))∨(SqT K H p ys∧Q (.ref p) H))
end
def Its(z:Str):It:=⟨fun i _=>i<z.cps.size,fun i H v H'=>H'=H∧∃c,z.cps[i]? = some c∧v=.str ⟨#[c]⟩,fun i _=>z.cps.size≤i⟩
section
variable {X:Cx} {tg:Expr}
def iStr(tl:TE):TI:=fun σ H R=>tl σ H fun x H1=>∃z,x=.str z∧R (Its z) H1
end
def ZsH:PyData→Str
 | .str z=>z
 | d=>d.shown
def rStrD(K:PySem.W.Frag):List V→Hp→VK→Prop:=fun xs H Q=>∃x d,xs=[x]∧DV K H x d∧PyData.layable0 d=true∧d.intsShort 13=true∧d.showable=true∧Q (.str (ZsH d)) H
def ZjN(kvs:List (List Key×V))(k:List Key):Option V:=(kvs.find? fun kv=>decide (kv.1=k)).map (·.2)
abbrev PairT(H:Hp):List (List Key×V)→List (List Key×Addr×Value)→Prop:=Paired fun (p:List Key×V) (q:List Key×Addr×Value)=>p.1=q.1∧H q.2.1=some (.tup (p.1.map kV))∧ZI p.2 q.2.2
section
variable {X:Cx} {pins:List (Addr×Obj)} {σ:St} {H:Hp} {s:Shared}
def ZrB:TE:=fun _ H Q=>∀p,H p=none→Q (.ref p) (upd H p (.dT []))
theorem Zk2{pos:Pos}:PE X (.Dict [] [] pos) ZrB:=by
 intro pins s σ H Q I h
 have hb:sysModules<s.heap.objs.size:=Nat.lt_trans (by decide) (show mainGlobals<s.heap.objs.size from(I.mod.glob.keeps I.bk).lt)
 refine wpAny_Dict_empty ⟨.ref s.heap.objs.size,upd H s.heap.objs.size (.dT []),?_,rfl,h _ (I.hok.fresh (Qh _))⟩
 refine I.laid (t':=s.toks) (fun _ _ q=>Qc _ q) (Qh _) ?_
 refine⟨Qw _,?_,[],.nil,_,#[],0,Qq _ rfl,⟨rfl,rfl,rfl⟩,rfl,rfl,List.nodup_nil⟩
 exact beq_eq_false_iff_ne.mpr fun z=>Q9 _ (z ▸ hb)
end
def rSetDef:V→List V→Hp→VK→Prop:=fun x vs H Q=>∃d kvs b ks y,x=.ref d∧vs=[.ref b,y]∧H d=some (.dT kvs)∧H b=some (.tup (ks.map kV))∧kvs.length<sizeLine ∧
 (∀v,ZjN kvs ks=some v→Q v H)∧(ZjN kvs ks=none→Q y (upd H d (.dT (kvs++[(ks,y)]))))
def ZsY:List V→Hp→VK→Prop:=fun xs H Q=>∃j:Int,xs=[.int j]∧∀p,H p=none→Q (.ref p) (upd H p (.rng 0 j))
def ZsZ:List V→Hp→VK→Prop:=fun xs H Q=>∃i j:Int,xs=[.int i,.int j]∧∀p,H p=none→Q (.ref p) (upd H p (.rng i j))
def Zet(lo:Int)(n:Nat):List Int:=(List.range n).map fun (k:Nat)=>lo+k
theorem Zfg(lo:Int)(n:Nat):(Zet lo n).length=n:=by simp[Zet]
def rListR:List V→Hp→VK→Prop:=fun xs H Q=>∃ (p:Addr) (lo hi:Int),xs=[.ref p]∧H p=some (.rng lo hi) ∧ -(2 ^ 62)≤lo∧lo<2 ^ 62 ∧ -(2 ^ 62)≤hi∧hi<2 ^ 62∧(hi-lo).toNat≤1000 ∧
 ∀l,H l=none→Q (.ref l) (upd H l (.lst ((Zet lo (hi-lo).toNat).map V.int)))
section
variable {prog:Program} {w:World} {A:Around} {E:Value→Shared→Prop} {s:Shared}
end
section
variable {X:Cx}
def rSlTS(K:PySem.W.Frag):V→Option Int→Option Int→Int→Hp→VK→Prop:=fun x lo hi st H Q=>∃a xs,x=.ref a∧SqT K H a xs∧lo=none∧hi=none∧st = -1∧∀p,H p=none→Q (.ref p) (upd H p (.tup xs.reverse))
def rExtendT(K:PySem.W.Frag):V→List V→Hp→VK→Prop:=fun x vs H Q=>∃l b xs zs,x=.ref l∧vs=[.ref b]∧H l=some (.lst xs)∧H b=some (.tup zs)∧xs.length+zs.length≤sizeLine∧Q .non (upd H l (.lst (xs++zs)))
def gSlice(to:TE)(tl th:TO):TG:=fun v σ H Q=>to σ H fun o H1=>tl σ H1 fun l H2=>th σ H2 fun u H3=>∃ (p b:Addr) (xs ys:List V) (a c:Int),o=.ref p∧v=.ref b∧l=some a∧u=some c∧H3 p=some (.lst xs)∧H3 b=some (.lst ys)∧p≠b∧0≤a∧a≤c∧c≤xs.length∧xs.length+ys.length≤sizeLine ∧
 Q σ (upd H3 p (.lst (xs.take a.toNat++ys++xs.drop c.toNat)))
def rSumB(K:PySem.W.Frag):List V→Hp→VK→Prop:=fun vs H Q=>∃ (p:Addr) (ns:List Int),vs=[.ref p]∧SqL K H p (ns.map V.int)∧ns.length≤1000∧(∀n∈ns,0≤n∧n≤10000000000)∧Q (.int ns.sum) H
theorem Ze3(ns:List Int):∀n,n≤ns.length→preSum (fun j=>ns.getD j 0) n=(ns.take n).sum
 | 0,_=>rfl
 | n+1,h=>by
  have ih:=Ze3 ns n (by omega)
  have e:ns.take (n+1)=ns.take n++[ns.getD n 0]:=by
   rw[QH,Qb (by omega),QF,Qb (by omega)]
   rfl
  rw[e,List.sum_append,← ih]
  simp[preSum]
end
section
variable {prog:Program} {w:World} {A:Around} {E:Value→Shared→Prop} {s:Shared} {κ:PyProof.Rows.KeyKind} {k0:SortKind} {a₀:Array Keyed} {st:SortSt}
def LtAt(prog:Program)(w:World)(A:Around)(s:Shared)(k0:SortKind)(κ:PyProof.Rows.KeyKind):Prop :=
 ∀ (E:Value→Shared→Prop) (x y:Value) (a b:κ.α) (Q:Bool→Shared→Prop),κ.keyOf x=some a→κ.keyOf y=some b→Q (κ.blt a b) s→wpAny (model prog w) A (keyLt' k0 x y) Q E s
structure SB (k0:SortKind) (a₀:Array Keyed) (st:SortSt):Prop where
 perm:(arrOf st).Perm a₀
 kind:kindOf st=k0
 failed:failedOf st=none
 pend:pendingOf st = #[]
theorem Zsi(st:SortSt)(xs:Array Keyed):arrOf (setArr st xs)=xs:=rfl
end
section
variable {prog:Program} {w:World} {A:Around} {E:Value→Shared→Prop} {s:Shared} {κ:PyProof.Rows.KeyKind}
end
def kLt:Key→Key→Bool
 | .inl i,.inl j=>decide (i<j)
 | .inr x,.inr y=>decide (x.cps.toList<y.cps.toList)
 | .inl _,.inr _=>true
 | .inr _,.inl _=>false
theorem Zkf:∀a:Key,kLt a a=false
 | .inl i=>decide_eq_false (by omega)
 | .inr x=>decide_eq_false (List.lt_irrefl _)
theorem Zmb:∀a b c:Key,kLt a b=true→kLt b c=true→kLt a c=true
 | .inl i,.inl j,.inl k,h1,h2=>by have:=of_decide_eq_true h1;have:=of_decide_eq_true h2;exact decide_eq_true (by omega)
 | .inr x,.inr y,.inr z,h1,h2=>decide_eq_true (List.lt_trans (of_decide_eq_true h1) (of_decide_eq_true h2))
 | .inl _,.inl _,.inr _,_,_=>rfl
 | .inl _,.inr _,.inr _,_,_=>rfl
 | .inl _,.inr _,.inl _,_,h=>by cases h
 | .inr _,.inl _,_,h,_=>by cases h
 | .inr _,.inr _,.inl _,_,h=>by cases h
theorem ZlH:∀a b:Key,kLt a b=false→kLt b a=false→a=b
 | .inl i,.inl j,h1,h2=>by have:=of_decide_eq_false h1;have:=of_decide_eq_false h2;congr 1;omega
 | .inr x,.inr y,h1,h2=>by
  have a1:¬ x.cps.toList<y.cps.toList:=of_decide_eq_false h1
  have a2:¬ y.cps.toList<x.cps.toList:=of_decide_eq_false h2
  have e:x.cps.toList=y.cps.toList:=List.le_antisymm a2 a1
  obtain⟨xs⟩:=x
  obtain⟨ys⟩:=y
  congr 2
  exact Array.toList_inj.mp e
 | .inl _,.inr _,h,_=>by cases h
 | .inr _,.inl _,_,h=>by cases h
def Za5:List Key→List Key→Bool
 | [],[]=>false
 | [],_::_=>true
 | _::_,[]=>false
 | x::xs,y::ys=>if x=y then Za5 xs ys else kLt x y
theorem ZfJ(x y:Key)(xs ys:List Key):Za5 (x::xs) (y::ys)=if x=y then Za5 xs ys else kLt x y:=rfl
theorem ZcN:∀a:List Key,Za5 a a=false
 | []=>rfl
 | x::r=>by unfold Za5;rw[if_pos rfl];exact ZcN r
theorem Zdy:∀a b c:List Key,Za5 a b=true→Za5 b c=true→Za5 a c=true
 | [],[],_,h,_=>by cases h
 | [],_::_,[],_,h=>by cases h
 | [],_::_,_::_,_,_=>rfl
 | _::_,[],_,h,_=>by cases h
 | _::_,_::_,[],_,h=>by cases h
 | x::r,y::s,z::t,h1,h2=>by
  have ih:=Zdy r s t
  unfold Za5 at h1 h2 ⊢
  by_cases e1:x=y
  ·rw[if_pos e1]at h1
   by_cases e2:y=z
   ·rw[if_pos e2]at h2
    rw[if_pos (e1.trans e2)]
    exact ih h1 h2
   ·rw[if_neg e2]at h2
    rw[if_neg (fun e=>e2 (e1.symm.trans e)),e1]
    exact h2
  ·rw[if_neg e1]at h1
   by_cases e2:y=z
   ·rw[if_neg (fun e=>e1 (e.trans e2.symm)),← e2]
    exact h1
   ·rw[if_neg e2]at h2
    have h3:=Zmb _ _ _ h1 h2
    rw[if_neg (fun e=>by rw[e,Zkf]at h3;cases h3)]
    exact h3
theorem ZeE:∀a b:List Key,Za5 a b=false→Za5 b a=false→a=b
 | [],[],_,_=>rfl
 | [],_::_,h,_=>by cases h
 | _::_,[],_,h=>by cases h
 | x::r,y::s,h1,h2=>by
  unfold Za5 at h1 h2
  by_cases e:x=y
  ·rw[if_pos e]at h1
   rw[if_pos e.symm]at h2
   rw[e,ZeE r s h1 h2]
  ·rw[if_neg e]at h1
   rw[if_neg fun z=>e z.symm]at h2
   exact absurd (ZlH _ _ h1 h2) e
theorem Zny(a b c:List Key)(h:Za5 a c=true):Za5 a b=true∨Za5 b c=true:=by
 by_cases h1:Za5 a b=true
 ·exact .inl h1
 ·by_cases h2:Za5 b a=true
  ·exact .inr (Zdy _ _ _ h2 h)
  ·have e:=ZeE a b (by simpa using h1) (by simpa using h2)
   rw[← e];exact .inr h
def unV:V→Option Key
 | .int i=>some (.inl i)
 | .str x=>some (.inr x)
 | _=>none
def ZpR:List V→Option (List Key)
 | []=>some []
 | x::r=>(unV x).bind fun k=>(ZpR r).map (k::·)
def ZbD(ks:List Key):List Bool:=ks.map fun k=>k.isLeft
def ZrW(H:Hp)(sh:List Bool):Value→Option (List Key)
 | .ref a=>match H a with
  | some (.tup xs)=>(ZpR xs).bind fun ks=>if ZbD ks=sh then some ks else none
  | _=>none
 | _=>none
def tupKind(H:Hp)(sh:List Bool):PyProof.Rows.KeyKind:=⟨⟨List Key,Za5,ZcN,Zdy,fun a b c h=>Zny a b c h,ZeE⟩,ZrW H sh,[]⟩
section
variable {prog:Program} {w:World} {A:Around} {E:Value→Shared→Prop} {s:Shared}
end
section
variable {prog:Program} {w:World} {A:Around} {E:Value→Shared→Prop} {s:Shared}
end
abbrev ZfO:=List (Addr×List Key)
def Zf0(ts:ZfO):List V:=ts.map fun t=>V.ref t.1
def AtT(H:Hp)(ts:ZfO):Prop:=∀t∈ts,H t.1=some (.tup (t.2.map kV))
theorem ZhE:∀ {ts:ZfO} {us:List Value},ZH (Zf0 ts) us→us=ts.map fun t=>Value.ref t.1
 | [],_,h=>by cases h;rfl
 | t::r,_,h=>by
  cases h with
  | cons a b=>rw[ZhE b];cases a;rfl
def rSrtT(K:PySem.W.Frag):List V→Hp→VK→Prop:=fun xs H Q=>∃ (p:Addr) (ts:ZfO) (sh:List Bool),xs=[.ref p]∧SqL K H p (Zf0 ts)∧AtT H ts∧sh≠[]∧(∀t∈ts,ZbD t.2=sh)∧ts.length<64 ∧
 ∀ (l:Addr) (ts':ZfO),H l=none→ts'.Perm ts→ts'.Pairwise (fun a b=>Za5 b.2 a.2=false)→Q (.ref l) (upd H l (.lst (Zf0 ts')))
theorem ZmK(A:Around)(s:Shared){k m:Key}{p q:Value}(hp:ZI (kV k) p)(hq:ZI (kV m) q)(hs:k.isLeft=m.isLeft):∃e,SeqAt.EqAt A s p q e∧(e=true↔k=m):=by
 cases k with
 | inl i =>
  cases m with
  | inl j =>
   obtain⟨t,rfl⟩:=hp
   obtain⟨u,rfl⟩:=hq
   exact⟨_,SeqAt.EqAt.int_int i t j u,by simp⟩
  | inr y=>cases hs
 | inr x =>
  cases m with
  | inl j=>cases hs
  | inr y =>
   obtain⟨t,rfl⟩:=hp
   obtain⟨u,rfl⟩:=hq
   exact⟨_,SeqAt.EqAt.str_str x t y u,by simp⟩
theorem Znx(A:Around)(s:Shared){k m:Key}{p q:Value}(hp:ZI (kV k) p)(hq:ZI (kV m) q)(hs:k.isLeft=m.isLeft)(prog:Program)(w:World)(E:Value→Shared→Prop)(Q:Value→Shared→Prop)(h:Q (.bool (kLt k m)) s) :
  wpAny (model prog w) A (richCompare .Lt p q) Q E s:=by
 cases k with
 | inl i =>
  cases m with
  | inl j =>
   obtain⟨t,rfl⟩:=hp
   obtain⟨u,rfl⟩:=hq
   exact(PyProof.Rows.lt_int h:wpAny (model prog w) A (compareOp .Lt (.int i t) (.int j u)) Q E s)
  | inr y=>cases hs
 | inr x =>
  cases m with
  | inl j=>cases hs
  | inr y =>
   obtain⟨t,rfl⟩:=hp
   obtain⟨u,rfl⟩:=hq
   exact(PyProof.Rows.lt_str h:wpAny (model prog w) A (compareOp .Lt (.str x t) (.str y u)) Q E s)
section
open PySem.SeqAt
open PySem.AutoSeq1 (wpAny_loadPart')
open PySem.MeetsSeq PySem.MeetsSeq2 PySem.MeetsSeq3
theorem Zhp(l b:Addr)(items items2:Array Value)(n n2:Nat)(dd dd2:Option Addr)(sl sl2:Array (Option Value))(ks ms:List Key)(hi:ZH (ks.map kV) items.toList)(hj:ZH (ms.map kV) items2.toList)(hs:ZbD ks=ZbD ms) :
  Meets (Builtin.«tuple.__lt__» ⟨[.ref l,.ref b],[]⟩)
   (fun _ R s=>s.heap.get? l=some { cls:=.type "tuple",dict:=dd,data:=.seq items n,slots:=sl }∧s.heap.get? b=some { cls:=.type "tuple",dict:=dd2,data:=.seq items2 n2,slots:=sl2 } ∧
    R (.ok (.ret (.bool (Za5 ks ms)))) s) :=
 .of_wp fun prog w A R s h=>by
  obtain⟨hp,g,d,tk,os⟩:=s;obtain⟨hl,hb,h⟩:=h
  have f2:=AutoSeq1.sub_tuple_tuple
  have z1:items.size=ks.length:=by have:=hi.length;simpa using this.symm
  have z2:items2.size=ms.length:=by have:=hj.length;simpa using this.symm
  have z3:ks.length=ms.length:=by have:=congrArg List.length hs;simpa [ZbD] using this
  wp_walk using wpAny_loadPart' hl,wpAny_loadPart' hb,wpAny_forIn_list _ (fun rest b s'=>b.1=none∧s'=⟨hp,g,d,tk,os⟩∧∃ (vs ws:List Value) (ks' ms':List Key),rest=vs.zip ws ∧
   ZH (ks'.map kV) vs∧ZH (ms'.map kV) ws∧ZbD ks'=ZbD ms'∧R (.ok (.ret (.bool (Za5 ks' ms')))) ⟨hp,g,d,tk,os⟩) _
  case turn =>
   rintro⟨y,x⟩ rest b s' ⟨hb',rfl,vs,ws,ks',ms',hz,hvi,hwi,hsh,hR⟩
   cases ks' with
   | nil=>cases hvi;rw[List.zip_nil_left]at hz;cases hz
   | cons k1 kr =>
    cases ms' with
    | nil=>cases hsh
    | cons m1 mr =>
     cases hvi with
     | cons r1 rr =>
      cases hwi with
      | cons r1' rr' =>
       rw[List.zip_cons_cons]at hz
       injection hz with hyx hrest
       injection hyx with hy hx
       subst hy hx
       rw[ZfJ]at hR
       unfold ZbD at hsh
       rw[Qj,Qj]at hsh
       injection hsh with s1 s2
       obtain⟨e,he,hiff⟩:=ZmK A.in1 ⟨hp,g,d,tk,os⟩ r1 r1' s1
       refine wpAny_bind (he prog w _ _ ?_)
       cases e with
       | true =>
        rw[if_pos (hiff.mp rfl)]at hR
        wp_walk
        exact⟨rfl,rfl,_,_,_,_,hrest,rr,rr',s2,hR⟩
       | false =>
        rw[if_neg (fun q=>absurd (hiff.mpr q) Qk)]at hR
        have hri:=Znx A.in1 ⟨hp,g,d,tk,os⟩ r1 r1' s1 prog w
        wp_walk using hri
        exact⟨_,rfl,by simpa using hR⟩
  case fin =>
   rintro⟨b1,b2⟩ s' ⟨hb',rfl,vs,ws,ks',ms',hz,hvi,hwi,hsh,hR⟩
   simp only at hb'
   subst hb'
   have hv:Za5 ks' ms'=decide (items.size<items2.size):=by
    rw[decide_eq_false (by omega)]
    cases ks' with
    | nil =>
     cases ms' with
     | nil=>rfl
     | cons _ _=>cases hsh
    | cons k1 kr =>
     cases ms' with
     | nil=>cases hsh
     | cons m1 mr =>
      cases hvi with
      | cons r1 rr =>
       cases hwi with
       | cons r1' rr'=>rw[List.zip_cons_cons]at hz;cases hz
   rw[hv]at hR
   wp_walk
   exact⟨_,rfl,by simpa [Builtin.Tuple.tupleCompareSizes] using hR⟩
  case h =>
   exact⟨rfl,rfl,items.toList,items2.toList,ks,ms,rfl,hi,hj,hs,h⟩
end
section
variable {prog:Program} {w:World} {A:Around} {E:Value→Shared→Prop} {s:Shared}
theorem Zkj{l b:Addr}{items items2:Array Value}{ks ms:List Key}{Q:Value→Shared→Prop}(hl:IsTup s.heap l items)(hb:IsTup s.heap b items2)(hi:ZH (ks.map kV) items.toList)(hj:ZH (ms.map kV) items2.toList)(hs:ZbD ks=ZbD ms)
  (hu:A.units<cLine) (h:Q (.bool (Za5 ks ms)) s):wpAny (model prog w) A (richCompare .Lt (.ref l) (.ref b)) Q E s:=by
 obtain⟨⟨cls,dd,data,sl⟩,ho,hc,n,hd⟩:=id hl
 obtain⟨⟨cls2,dd2,data2,sl2⟩,ho2,hc2,n2,hd2⟩:=id hb
 simp only at hc hd hc2 hd2
 subst hc hd hc2 hd2
 exact richCompare_meets_room (op:=.Lt) ⟨_,ho,rfl⟩ ⟨_,ho2,rfl⟩ PySem.F.slot_tuple_lt PySem.F.entry_tuple_lt (PySem.F.args_tuple_lt_2 _ _) (Zhp l b items items2 n n2 dd dd2 sl sl2 ks ms hi hj hs)
  ⟨ho,ho2,show Value.bool (Za5 ks ms)≠Value.notImplemented∧Q (.bool (Za5 ks ms)) s from⟨(fun x=>nomatch x),h⟩⟩ hu
end
section
variable {prog:Program} {w:World}
theorem Zl8{A:Around}{a:Args}:(A.under (.builtin "min.loop" a)).units≤A.units+1:=by
 show A.units+(Code.builtin "min.loop" a).cUnits≤A.units+1
 first|exact Qh _|simp[Code.cUnits,Code.frames,Code.isFrame]
theorem Zgr{A:Around}{R:Result→Shared→Prop}{l I S:Addr}{ts:ZfO}{sh:List Bool}{h0:Heap}{kw:List (Str×Value)}(hh:A.handled=none)(hu:A.units+4<cLine)(hlist:h0.IsList l (ts.map fun t=>Value.ref t.1).toArray)
  (hI:h0.get? I=none) (hS:h0.get? S=none) (hSI:S≠I) (htup:∀t∈ts,∃its:List Value,ZH (t.2.map kV) its∧IsTup h0 t.1 its.toArray) (hsh:∀t∈ts,ZbD t.2=sh) (s0:Shared)
  (q:∀ (h':Heap) (t:Addr×List Key),(∀b o,h0.get? b=some o→h'.get? b=some o)→t∈ts→(∀u∈ts,Za5 u.2 t.2=false)→R (.ok (.ret (.ref t.1))) { s0 with heap:=h' }) :
  ∀ (k j:Nat) (h:Heap) (t:Addr×List Key) (c:Nat),ts.length-j=k→j≤ts.length→(∀b o,h0.get? b=some o→h.get? b=some o)→h.IsListIter I l j→h.get? S=some { cls:=.type "list",data:=.seq #[.ref t.1,.ref t.1] c }→t∈ts →
   (∀u∈ts.take j,Za5 u.2 t.2=false)→codeAny (model prog w) A (.builtin "min.loop" { pos:=[.ref I,.none,.ref S],kw:=kw }) R { s0 with heap:=h }
 | k,j,h,t,c,hk,hj,keep,hit,hst,htm,hbest=>by
  refine codeAny_builtin F.entry_min_loop ?_
  show wpAny _ _ (seqItems? (.ref S) >>= _) _ _ _
  refine wpAny_bind (wpAny_seqItems hst rfl ?_)
  have keepL:h.IsList l (ts.map fun t=>Value.ref t.1).toArray:=by
   obtain⟨o,ho,r⟩:=hlist
   exact⟨o,keep _ _ ho,r⟩
  by_cases hlt:j<ts.length
  ·have hx:((ts.map fun t=>Value.ref t.1).toArray)[j]? = some (Value.ref ts[j].1):=by simp[hlt]
   refine wpAny_bind (wpAny_tryCatch (wpAny_pyNext_list_item hit keepL hx fun h1 hit1 sb=>?_))
   have keep1:∀b o,h0.get? b=some o→h1.get? b=some o:=fun b o hb=>by
    have nb:b≠I:=fun e=>by rw[e,hI]at hb;cases hb
    rw[sb.2 b nb];exact keep b o hb
   have hst1:h1.get? S=some { cls:=.type "list",data:=.seq #[.ref t.1,.ref t.1] c }:=by rw[sb.2 S hSI];exact hst
   refine wpAny_bind (wpAny_pure ?_)
   have hjm:ts[j]∈ts:=Q2 hlt
   obtain⟨i1,v1,t1⟩:=htup _ hjm
   obtain⟨i2,v2,t2⟩:=htup _ htm
   have tup1:∀ {a:Addr} {its:List Value},IsTup h0 a its.toArray→IsTup h1 a its.toArray:=fun ⟨o,ho,hc⟩=>⟨o,keep1 _ _ ho,hc⟩
   have hsh1:ZbD ts[j].2=ZbD t.2:=(hsh _ hjm).trans (hsh _ htm).symm
   refine wpAny_bind (wpAny_tryCatch (wpAny_holding (wpAny_bind (Zkj (tup1 t1) (tup1 t2) (by simpa using v1) (by simpa using v2) hsh1 (Nat.lt_of_le_of_lt Zl8 (by omega)) (wpAny_bind (wpAny_holding (wpAny_truthy_bool (wpAny_bind (wpAny_letGo (wpAny_pure ?_))))))))))
   cases hb:Za5 ts[j].2 t.2 with
   | true =>
    refine wpAny_bind (wpAny_updateSeq hst1 rfl ?_ (by show 2≤_;rw[sizeLine_eq];decide) (by show 2≤_;rw[sizeLine_eq];decide))
    refine wpAny_bind (wpAny_letGo (wpAny_pure ⟨rfl,?_⟩))
    refine Zgr hh hu hlist hI hS hSI htup hsh s0 q (k-1) (j+1) _ ts[j] c (by omega) (by omega) (fun b o hb'=>?_) ?_ ?_ hjm (fun u hu'=>?_)
    ·have nb:S≠b:=fun e=>by rw[← e,hS]at hb';cases hb'
     exact Qag _ nb (keep1 b o hb')
    ·obtain⟨o,ho,r⟩:=hit1
     exact⟨o,Qag _ hSI ho,r⟩
    ·have:=get?_update_seq (c := "list") hst1 (fun _=>#[.ref ts[j].1,.ref ts[j].1])
     simpa using this
    ·rw[QH,Qb hlt]at hu'
     rcases Qm.mp hu' with hu'|hu'
     ·have:=hbest u hu'
      cases hz:Za5 u.2 ts[j].2 with
      | false=>rfl
      | true=>rw[Zdy _ _ _ hz hb]at this;cases this
     ·have:u=ts[j]:=by simpa using hu'
      rw[this];exact ZcN _
   | false =>
    refine wpAny_bind (wpAny_letGo (wpAny_pure ⟨rfl,?_⟩))
    refine Zgr hh hu hlist hI hS hSI htup hsh s0 q (k-1) (j+1) h1 t c (by omega) (by omega) keep1 hit1 hst1 htm (fun u hu'=>?_)
    rw[QH,Qb hlt]at hu'
    rcases Qm.mp hu' with hu'|hu'
    ·exact hbest u hu'
    ·have:u=ts[j]:=by simpa using hu'
     rw[this];exact hb
  ·have hx:((ts.map fun t=>Value.ref t.1).toArray)[j]? = none:=by simp;omega
   refine wpAny_bind (wpAny_tryCatch (wpAny_pyNext_list_end hh hit keepL hx fun h1 eb=>?_))
   have hst1:h1.get? S=some { cls:=.type "list",data:=.seq #[.ref t.1,.ref t.1] c }:=eb S _ hSI hst
   refine wpAny_bind (wpAny_updateSeq hst1 rfl ?_ (by show 2≤_;rw[sizeLine_eq];decide) (by show 0≤_;omega))
   refine wpAny_bind (wpAny_letGo (wpAny_pure ?_))
   refine q _ t (fun b o hb=>?_) htm (fun u hu'=>hbest u (by rw[Qu (by omega)];exact hu'))
   have nb:S≠b:=fun e=>by rw[← e,hS]at hb;cases hb
   have nI:b≠I:=fun e=>by rw[e,hI]at hb;cases hb
   exact Qag _ nb (eb b o nI (keep b o hb))
termination_by k=>k
theorem Zlq{A:Around}{R:Result→Shared→Prop}{l I S:Addr}{ts:ZfO}{sh:List Bool}{h0 h:Heap}{c:Nat}{kw:List (Str×Value)}(hh:A.handled=none)(hu:A.units+4<cLine)(hlist:h0.IsList l (ts.map fun t=>Value.ref t.1).toArray)
  (hI:h0.get? I=none) (hS:h0.get? S=none) (hSI:S≠I) (htup:∀t∈ts,∃its:List Value,ZH (t.2.map kV) its∧IsTup h0 t.1 its.toArray) (hsh:∀t∈ts,ZbD t.2=sh) (s0:Shared) (keep:∀b o,h0.get? b=some o→h.get? b=some o) (hit:h.IsListIter I l 0) (hst:h.get? S=some { cls:=.type "list",data:=.seq #[] c })
  (hne:ts≠[]∨∃n d kr,kw=(n,d)::kr∧∀h':Heap,(∀b o,h0.get? b=some o→h'.get? b=some o)→R (.ok (.ret d)) { s0 with heap:=h' })
  (q:∀ (h':Heap) (t:Addr×List Key),(∀b o,h0.get? b=some o→h'.get? b=some o)→t∈ts→(∀u∈ts,Za5 u.2 t.2=false)→R (.ok (.ret (.ref t.1))) { s0 with heap:=h' }) :
  codeAny (model prog w) A (.builtin "min.loop" { pos:=[.ref I,.none,.ref S],kw:=kw }) R { s0 with heap:=h }:=by
 refine codeAny_builtin F.entry_min_loop ?_
 show wpAny _ _ (seqItems? (.ref S) >>= _) _ _ _
 refine wpAny_bind (wpAny_seqItems hst rfl ?_)
 have keepL:h.IsList l (ts.map fun t=>Value.ref t.1).toArray:=by
  obtain⟨o,ho,r⟩:=hlist
  exact⟨o,keep _ _ ho,r⟩
 cases ts with
 | nil =>
  obtain⟨n,d,kr,rfl,q0⟩:=hne.resolve_left (by simp)
  refine wpAny_bind (wpAny_tryCatch (wpAny_pyNext_list_end hh hit keepL (by simp) fun h1 eb=>?_))
  show wpAny _ _ (rule _ >>= _) _ _ _
  refine wpAny_bind (wpAny_rule (wpAny_pure ?_))
  refine q0 _ fun b o hb=>?_
  have nI:b≠I:=fun e=>by rw[e,hI]at hb;cases hb
  exact eb b o nI (keep b o hb)
 | cons t r =>
  refine wpAny_bind (wpAny_tryCatch (wpAny_pyNext_list_item hit keepL (x:=.ref t.1) (by simp) fun h1 hit1 sb=>?_))
  have keep1:∀b o,h0.get? b=some o→h1.get? b=some o:=fun b o hb=>by
   have nb:b≠I:=fun e=>by rw[e,hI]at hb;cases hb
   rw[sb.2 b nb];exact keep b o hb
  have hst1:h1.get? S=some { cls:=.type "list",data:=.seq #[] c }:=by rw[sb.2 S hSI];exact hst
  refine wpAny_bind (wpAny_pure ?_)
  show wpAny _ _ (updateSeq S _ >>= _) _ _ _
  refine wpAny_bind (wpAny_updateSeq hst1 rfl ?_ (by show 0≤_;omega) (by show 2≤_;rw[sizeLine_eq];decide))
  refine wpAny_pure ⟨rfl,?_⟩
  refine Zgr hh hu hlist hI hS hSI htup hsh s0 q _ 1 _ t (c+1) rfl (by simp) (fun b o hb'=>?_) ?_ ?_ (by simp) (fun u hu'=>?_)
  ·have nb:S≠b:=fun e=>by rw[← e,hS]at hb';cases hb'
   exact Qag _ nb (keep1 b o hb')
  ·obtain⟨o,ho,r⟩:=hit1
   exact⟨o,Qag _ hSI ho,r⟩
  ·have:=get?_update_seq (c := "list") hst1 (fun _=>#[.ref t.1,.ref t.1])
   simpa using this
  ·have:u=t:=by simpa using hu'
   rw[this];exact ZcN _
end
section
variable {X:Cx}
def ZpT(K:PySem.W.Frag):List V→Hp→VK→Prop:=fun vs H Q=>∃ (p:Addr) (ts:ZfO) (sh:List Bool),vs=[.ref p]∧SqL K H p (Zf0 ts)∧AtT H ts∧ts≠[]∧(∀t∈ts,ZbD t.2=sh) ∧
 ∀t:Addr×List Key,t∈ts→(∀u∈ts,Za5 u.2 t.2=false)→Q (.ref t.1) H
theorem Zoe{prog:Program}{w:World}{A:Around}{R:Result→Shared→Prop}{s:Shared}{l:Addr}{ts:ZfO}{sh:List Bool}{kw:List (Str×Value)}{kw2:List (Str×Value)}(hh:A.handled=none)(hu:A.units+4<cLine)(hlist:s.heap.IsList l (ts.map fun t=>Value.ref t.1).toArray)
  (hkw:(kw=[]∧kw2=[])∨∃d,kw=[(Str.ofString "default",d)]∧kw2=[(Str.ofString "default",d)])
  (htup:∀t∈ts,∃its:List Value,ZH (t.2.map kV) its∧IsTup s.heap t.1 its.toArray) (hsh:∀t∈ts,ZbD t.2=sh)
  (hne:ts≠[]∨∃n d kr,kw2=(n,d)::kr∧∀h':Heap,(∀b o,s.heap.get? b=some o→h'.get? b=some o)→R (.ok (.ret d)) { s with heap:=h' })
  (q:∀ (h':Heap) (t:Addr×List Key),(∀b o,s.heap.get? b=some o→h'.get? b=some o)→t∈ts→(∀u∈ts,Za5 u.2 t.2=false)→R (.ok (.ret (.ref t.1))) { s with heap:=h' }) :
  codeAny (model prog w) A (.call (.builtin "min") { pos:=[.ref l],kw:=kw }) R s:=by
 refine codeAny_call_builtin_at rfl F.entry_min ?_
 have hc:checkBuiltinCall "min" { pos:=[.ref l],kw:=kw }=pure ():=by
  rcases hkw with⟨rfl,_⟩|⟨d,rfl,_⟩<;>rfl
 rw[hc]
 refine wpAny_pure ?_
 have go:∀ {A':Around},A'.handled=none→wpAny (model prog w) A' (pyIter (.ref l) >>= fun it=>newList [] >>= fun b=>again (.builtin "min.loop" { pos:=[it,.none,b],kw:=kw2 })) (fun fin s'=>match fin with
   | Fin.done f=>R (Except.ok f) s'
   | Fin.again c'=>c'.quiet=true∧codeAny (model prog w) A c' R s') (fun e s'=>R (Except.error e) s') s:=fun {A'} hA'=>by
  refine wpAny_bind (wpAny_pyIter_list hlist ?_)
  refine wpAny_bind (wpAny_newList ?_ (by show 0≤_;omega))
  refine wpAny_pure ⟨rfl,?_⟩
  have none_at:∀b,s.heap.objs.size≤b→s.heap.get? b=none:=fun b hb=>by
   cases e:s.heap.get? b with
   | none=>rfl
   | some o=>exact absurd (Qr e) (Nat.not_lt.mpr hb)
  have hsz:(s.heap.push { cls:=Value.type "list_iterator",data:=Data.fields #[Value.ref l,Value.int 0 0] }).objs.size=s.heap.objs.size+1:=size_push' _ _
  refine Zlq (h0:=s.heap) (c:=0) hh hu hlist (none_at _ (Qh _)) (none_at _ (by rw[hsz];exact Qa4 _)) (by rw[hsz];exact Nat.succ_ne_self _) htup hsh s (fun b o h=>Qc _ (Qc _ h)) ⟨_,Qc _ (Qq _ rfl),rfl,rfl⟩ (Qq _ rfl) hne q
 rcases hkw with⟨rfl,rfl⟩|⟨d,rfl,rfl⟩
 ·exact go hh
 ·exact go hh
theorem ZlD(hc:X.calm=true)(hu:X.A.units+64<cLine):ZaF X (.builtin "min") (ZpT X.K):=by
 intro pins s σ H vs us Q I r h
 obtain⟨p,ts,sh,rfl,hq,hat,hne,hsh,q⟩:=h
 obtain⟨u,rfl,rx⟩:=ZcX r
 cases rx
 obtain⟨its,rv,pl,hz⟩:=I.list hq
 have ei:=ZhE rv
 subst ei
 refine wpAny_call (Zoe (sh:=sh) (I.ok.hd hc) (by omega) pl.isList (.inl ⟨rfl,rfl⟩) (fun t ht=>?_) hsh (.inl hne) fun h' t kp ht hmin=>?_)
 ·obtain⟨i,v,q,_⟩:=I.tuple (SqT.of (K:=X.K) (hat t ht))
  exact⟨i,v,q⟩
 ·exact⟨.ref t.1,H,I.kept (t':=s.toks) kp,rfl,q t ht hmin⟩
theorem Zsy(K:PySem.W.Frag){k:Nat}(hr:ZaV k X.A)(hc:X.calm=true:=by rfl)(h:X.K=K:=by rfl):ZaF X (.builtin "min") (ZpT K):=by subst h;exact ZlD hc hr.units
def tMinD(K:PySem.W.Frag)(te:TA):TE:=fun σ H Q=>te σ H fun vs H1=>∃ (p:Addr) (ts:ZfO) (sh:List Bool),vs=[.ref p]∧SqL K H1 p (Zf0 ts)∧AtT H1 ts∧(∀t∈ts,ZbD t.2=sh)∧(ts=[]→Q .non H1) ∧
 ∀t:Addr×List Key,t∈ts→(∀u∈ts,Za5 u.2 t.2=false)→Q (.ref t.1) H1
end
def EqS(s:Shared)(items:List Value)(v:Value)(e:Nat→Bool):Prop:=∀ (prog:Program) (w:World) (A:Around) (E:Value→Shared→Prop) (Q:Bool→Shared→Prop) (m:Nat) (x:Value),A.units+2<cLine→items[m]? = some x→Q (e m) s→wpAny (model prog w) A (eqBool x v) Q E s
section
variable {X:Cx}
def rRemI:V→List V→Hp→VK→Prop:=fun x vs H Q=>∃ (l:Addr) (ns:List Int) (n:Int),x=.ref l∧vs=[.int n]∧H l=some (.lst (ns.map V.int))∧n∈ns∧ns.length≤1000∧Q .non (upd H l (.lst ((ns.erase n).map V.int)))
def rRemT:V→List V→Hp→VK→Prop:=fun x vs H Q=>∃ (l:Addr) (ts:ZfO) (t:Addr×List Key),x=.ref l∧vs=[.ref t.1]∧H l=some (.lst (Zf0 ts))∧AtT H ts∧t∈ts∧ts.length≤1000∧∀ (i:Nat) (hi:i<ts.length),ts[i].2=t.2→Q .non (upd H l (.lst (Zf0 (ts.eraseIdx i))))
end
section
open PySem.SeqAt
open PySem.AutoSeq1 (wpAny_loadPart')
open PySem.MeetsSeq PySem.MeetsSeq2 PySem.MeetsSeq3
end
section
variable {prog:Program} {w:World} {A:Around} {E:Value→Shared→Prop} {s:Shared}
end
section
variable {X:Cx}
def rGeK(K:PySem.W.Frag):R2:=fun x y H Q=>∃ (a b:Addr) (ks ms:List Key),x=.ref a∧y=.ref b∧SqT K H a (ks.map kV)∧SqT K H b (ms.map kV)∧ZbD ks=ZbD ms∧Q (.bl (!Za5 ks ms)) H
end
def rMaxL(K:PySem.W.Frag):List V→Hp→VK→Prop:=fun vs H Q=>∃ (p:Addr) (ns:List Int),vs=[.ref p]∧SqL K H p (ns.map V.int)∧0<ns.length∧∀M,M∈ns→(∀a∈ns,a≤M)→Q (.int M) H
def isNum(n:Int):Value→Bool
 | .int a _=>a == n
 | _=>false
section
variable {X:Cx}
def rCountI:V→List V→Hp→VK→Prop:=fun x vs H Q=>∃ (l:Addr) (ns:List Int) (n:Int),x=.ref l∧vs=[.int n]∧H l=some (.lst (ns.map V.int))∧Q (.int ((ns.count n:Nat):Int)) H
end
section
variable {X:Cx} {T name id:String} {r:V→List V→Hp→VK→Prop} {o e:Expr} {es:List Expr} {to:TE} {t:TA} {apos cpos:Pos}
end
def Zs0(s:Shared)(items:List Value)(v:Value)(e:Nat→Bool):Prop:=∀ (prog:Program) (w:World) (A:Around) (E:Value→Shared→Prop) (Q:Bool→Shared→Prop) (m:Nat) (x:Value),A.units+60<cLine→items[m]? = some x→Q (e m) s→wpAny (model prog w) A (eqBool x v) Q E s
section
variable {X:Cx}
def rRemD(K:PySem.W.Frag):V→List V→Hp→VK→Prop:=fun x vs H Q=>∃ (l:Addr) (xs:List V) (ds:List PyData) (y:V) (d:PyData) (i:Nat),x=.ref l∧vs=[y]∧H l=some (.lst xs)∧DVs K H xs ds∧DV K H y d∧(∀e∈ds,e.canLay0=true)∧d.canLay0=true∧d.depth≤56∧xs.length≤1000 ∧
 i<ds.length∧(∀e,ds[i]? = some e→PyData.eqv e d=true)∧(∀m e,m<i→ds[m]? = some e→PyData.eqv e d=false)∧Q .non (upd H l (.lst (xs.eraseIdx i)))
def rInD(K:PySem.W.Frag):R2:=fun x y H Q=>∃ (l:Addr) (xs:List V) (ds:List PyData) (d:PyData),y=.ref l∧SqL K H l xs∧DVs K H xs ds∧DV K H x d∧PyData.canLayAll0 ds=true∧SeqAt.shaped d=true∧d.depth≤60∧Q (.bl (ds.any fun e=>PyData.eqv e d)) H
def ZpK(K:PySem.W.Frag):List V→Hp→VK→Prop:=fun vs H Q=>∃ (p:Addr) (ns:List Int),vs=[.ref p]∧SqL K H p (ns.map V.int)∧ns.length≤1000∧(∀n∈ns,0≤n∧n≤10000000000000)∧Q (.int ns.sum) H
theorem Zlo(hc:X.calm=true):ZaF X (.builtin "sum") (ZpK X.K):=by
 intro pins s σ H vs us Q I r h
 obtain⟨p,ns,rfl,hq,hn,hb,q⟩:=h
 obtain⟨u,rfl,rx⟩:=ZcX r
 cases rx
 obtain⟨its,rv,pl,_⟩:=I.list hq
 have hi:=Zg1 rv
 obtain⟨xs,e⟩:=hi.allInts.items
 have hns:ns=xs.toList.map (·.1):=by rw[← hi.numsOf,← nums_intItems,← e]
 have hsz:xs.size=ns.length:=by rw[hns,Qa,Qan]
 have hnum:numAt xs=fun j=>ns.getD j 0:=by funext j;rw[numAt_eq,hns]
 have hl:=pl.isList
 rw[e]at hl
 have bound:∀n,n≤ns.length→0≤(ns.take n).sum∧(ns.take n).sum≤10000000000000*n:=by
  intro n
  induction n with
  | zero=>intro _;exact⟨by simp,by simp⟩
  | succ n ih =>
   intro h
   have ih:=ih (by omega)
   have hm:=hb ns[n] (Q2 (by omega))
   have e2:ns.take (n+1)=ns.take n++[ns[n]]:=by rw[QH,Qb (by omega)];rfl
   rw[e2,List.sum_append]
   have e3:([ns[n]]:List Int).sum=ns[n]:=by simp
   rw[e3]
   omega
 refine sum_intList (I.ok.hd hc) hl (fun j hj=>?_) fun h' tk t' hk=>⟨.int _,H,I.kept hk,⟨t',rfl⟩,?_⟩
 ·rw[hnum]
  have hm:=hb ns[j] (Q2 (by omega))
  have hg:ns.getD j 0=ns[j]:=by rw[QF,Qb (by omega)];rfl
  have hp:=bound (j+1) (by omega)
  refine⟨⟨?_,?_⟩,⟨?_,?_⟩⟩
  ·show -(2 ^ 63)≤ns.getD j 0
   rw[hg];omega
  ·show ns.getD j 0<2 ^ 63
   rw[hg];omega
  ·rw[Ze3 ns (j+1) (by omega)];omega
  ·rw[Ze3 ns (j+1) (by omega)];omega
 ·rw[hnum,hsz,Ze3 ns ns.length (Qh _),Qu (Qh _)]
  exact q
theorem Zsc(K:PySem.W.Frag)(hc:X.calm=true:=by rfl)(h:X.K=K:=by rfl):ZaF X (.builtin "sum") (ZpK K):=by subst h;exact Zlo hc
end
section
variable {X:Cx}
def rIxD:R2:=fun x y H Q=>∃d kvs b ks v,x=.ref d∧y=.ref b∧H d=some (.dT kvs)∧H b=some (.tup (ks.map kV))∧ZjN kvs ks=some v∧Q v H
def rSetDT:Zmk:=fun o i v H Q=>∃d kvs b ks,o=.ref d∧i=.ref b∧H d=some (.dT kvs)∧H b=some (.tup (ks.map kV))∧ZjN kvs ks=none∧kvs.length<sizeLine∧Q (upd H d (.dT (kvs++[(ks,v)])))
end
abbrev IsZipG(h:Heap)(z TI TO:Addr)(f0:Value)(fl:Bool):Prop :=
 h.get? z=some { cls:=.type "zip",dict:=none,data:=.fields #[f0,.bool fl,.bool false,.ref TI,.ref TO],slots:=#[] }
section
variable {prog:Program} {w:World} {A:Around} {E:Value→Shared→Prop} {s:Shared}
end
section
variable {prog:Program} {w:World} {A:Around} {R:Result→Shared→Prop} {s:Shared}
end
def ZoW(J:It)(D:Addr)(ys:List V)(σ:St)(H:Hp)(g:TG)(te:TE)(N:List V→St→Hp→Prop):Prop :=
 ∃W:Nat→Nat→List V→St→Hp→Prop,(∃m,W 0 m ys σ H) ∧
  ∀i m ys σ2 H2,W i m ys σ2 H2→(J.stop i H2∧N ys σ2 H2) ∨
   (J.go i H2∧∃N2:List V→St→Hp→Prop,(∀ys' σ' H',N2 ys' σ' H'→∃m',m'<m∧W (i+1) m' ys' σ' H')∧∀x H3,J.yld i H2 x H3→g x σ2 H3 fun σ4 H4 =>
    te σ4 H4 fun y H6=>H6 D=some (.lst ys)∧ys.length<sizeLine∧N2 (ys++[y]) σ4 (upd H6 D (.lst (ys++[y]))))
def ZoF(J:It)(D:Addr)(k:Nat)(σ:St)(H1:Hp)(g:TG)(wi2:TI)(g2:TG)(te:TE)(Q:VK):Prop :=
 ∃W:Nat→Nat→List V→St→Hp→Prop,(∃m,W 0 m [] (σ++List.replicate k none) (upd H1 D (.lst []))) ∧
  ∀i m ys σ2 H2,W i m ys σ2 H2→(J.stop i H2∧Q (.ref D) H2) ∨
   (J.go i H2∧∃N:List V→St→Hp→Prop,(∀ys' σ' H',N ys' σ' H'→∃m',m'<m∧W (i+1) m' ys' σ' H')∧∀x H3,J.yld i H2 x H3→g x σ2 H3 fun σ4 H4=>wi2 σ4 H4 fun J2 H5=>ZoW J2 D ys σ4 H5 g2 te N)
def Zsp(n:Nat)(wi:TI)(g:TG)(wi2:TI)(g2:TG)(te:TE):TE:=fun σ H Q=>wi σ H fun J H1=>∀D,H1 D=none→ZoF J D n σ H1 g wi2 g2 te Q
section
variable {X:Cx} {N N':List Str} {o c:Scope}
end
end L2
namespace Hf
open L2
abbrev PW:=List (Int×Nat)
def val(P:PW):Int:=(P.map fun p=>p.1*(p.2:Int)).sum
def ws(P:PW):List Int:=P.map (·.1)
def ds(P:PW):List Nat:=P.map (·.2)
def zs(z:Nat):List Int:=List.replicate z 0
def kr(w E:Nat)(D:List Nat):Nat:=(D.map fun d=>w ^ (E-d)).sum
def Kr(w:Nat)(D:List Nat):Prop:=∃E,(∀d∈D,d≤E)∧kr w E D=w ^ E
inductive Hu (w:Nat):List Int→Nat→Int→Prop
 | stop {e:Int} {m:Nat}:Hu w [e] m 0
 | step {E L:List Int} {m:Nat} {C:Int}:1<L.length→E.Perm L→L.Pairwise (·≤·)→Hu w (L.drop m++[(L.take m).sum]) w C→Hu w E m (C+(L.take m).sum)
def Fit(w n m:Nat):Prop:=n=1∨∃t,n=m+t*(w-1)
structure Fits (w n m:Nat):Prop where
 w2:2≤w
 m2:2≤m
 mw:m≤w
 ok:Fit w n m
end Hf
namespace L2
open PySem PySem.Spec PyProof.Rows
section
variable {prog:Program} {w:World} {A:Around} {R:Result→Shared→Prop} {s:Shared}
end
def Zp0(J:It)(D:Addr)(k:Nat)(σ:St)(H1:Hp)(g:TG)(tc:TT)(tk te:TE)(Q:VK):Prop :=
 ∃W:Nat→Nat→List (List Key×V)→St→Hp→Prop,(∃m,W 0 m [] (σ++List.replicate k none) (upd H1 D (.dT []))) ∧
  ∀i m ys σ2 H2,W i m ys σ2 H2→(J.stop i H2∧Q (.ref D) H2) ∨
   (J.go i H2∧∃N:List (List Key×V)→St→Hp→Prop,(∀ys' σ' H',N ys' σ' H'→∃m',m'<m∧W (i+1) m' ys' σ' H')∧∀x H3,J.yld i H2 x H3→g x σ2 H3 fun σ4 H4=>tc σ4 H4 fun b H5 =>
    if b=true then tk σ4 H5 fun kv H6=>te σ4 H6 fun y H7=>∃ (b:Addr) (ks:List Key),kv=.ref b∧H7 D=some (.dT ys)∧H7 b=some (.tup (ks.map kV))∧ZjN ys ks=none∧ys.length<sizeLine∧N (ys++[(ks,y)]) σ4 (upd H7 D (.dT (ys++[(ks,y)]))) else N ys σ4 H5)
def tDComp(n:Nat)(wi:TI)(g:TG)(tc:TT)(tk te:TE):TE:=fun σ H Q=>wi σ H fun J H1=>∀D,H1 D=none→Zp0 J D n σ H1 g tc tk te Q
section
variable {X:Cx} {N N':List Str} {o c:Scope}
end
section
variable {κ:Type} [DecidableEq κ]
def Z2(kvs:List (κ×V))(k:κ):Option V:=(kvs.find? fun kv=>decide (kv.1=k)).map (·.2)
def Zbi(kvs:List (κ×V))(k:κ)(v:V):List (κ×V) :=
 if (kvs.any fun kv=>decide (kv.1=k))=true then kvs.map (fun kv=>if kv.1=k then (kv.1,v) else kv) else kvs++[(k,v)]
def ZcJ(kvs:List (κ×V))(k:κ):List (κ×V):=kvs.filter fun kv=>decide (kv.1≠k)
theorem Zro{k:κ}:Z2 ([]:List (κ×V)) k=none:=rfl
theorem Zc0{p:κ×V}{r:List (κ×V)}{k:κ}(e:p.1=k):Z2 (p::r) k=some p.2:=by simp[Z2,List.find?_cons,e]
theorem Zdb{p:κ×V}{r:List (κ×V)}{k:κ}(e:¬ p.1=k):Z2 (p::r) k=Z2 r k:=by simp[Z2,List.find?_cons,e]
theorem Zfd(k:κ):∀kvs:List (κ×V),(kvs.any fun kv=>decide (kv.1=k))=(Z2 kvs k).isSome
 | []=>rfl
 | p::r=>by
  rw[QaF]
  by_cases e:p.1=k
  ·simp only[Zc0 e,decide_eq_true e,Bool.true_or,Option.isSome_some]
  ·rw[Zdb e,decide_eq_false e,Bool.false_or];exact Zfd k r
theorem Zd5(kvs:List (κ×V))(k:κ)(v:V):(Zbi kvs k v).length≤kvs.length+1:=by
 unfold Zbi
 split
 ·rw[Qa];omega
 ·rw[Qf,QK,List.length_nil];omega
theorem ZbV{kvs:List (κ×V)}{k:κ}(v:V)(h:Z2 kvs k=none):Zbi kvs k v=kvs++[(k,v)]:=by
 unfold Zbi
 rw[Zfd,h]
 exact if_neg (by decide)
theorem Zdz.isSome_eq{o:Option V}{u:Option Value}(r:Zdz o u):o.isSome=u.isSome:=by
 cases o with
 | none=>cases u with
  | none=>rfl
  | some _=>exact(show False from r).elim
 | some _=>cases u with
  | none=>exact(show False from r).elim
  | some _=>rfl
theorem Zdz.getD{o:Option V}{u:Option Value}{d:V}{d':Value}(r:Zdz o u)(rd:ZI d d'):ZI (o.getD d) (u.getD d'):=by
 cases o with
 | none=>cases u with
  | none=>exact rd
  | some _=>exact(show False from r).elim
 | some _=>cases u with
  | none=>exact(show False from r).elim
  | some _=>exact r
theorem KV.val{kvs:List (κ×V)}{vs:List (κ×Value)}(r:KV kvs vs)(k:κ):Zdz (Z2 kvs k) (valueAt vs k):=by
 unfold KV at r
 induction r with
 | nil=>exact True.intro
 | @cons p q ps qs h t ih =>
  obtain⟨h1,h2⟩:=h
  by_cases e:p.1=k
  ·have e':q.1=k:=h1.symm.trans e
   have b:valueAt (q::qs) k=some q.2:=by simp[valueAt,List.find?_cons,e']
   rw[Zc0 e,b];exact h2
  ·have e':¬ q.1=k:=fun z=>e (h1.trans z)
   have b:valueAt (q::qs) k=valueAt qs k:=by simp[valueAt,List.find?_cons,e']
   rw[Zdb e,b];exact ih
theorem KV.any{kvs:List (κ×V)}{vs:List (κ×Value)}(r:KV kvs vs)(k:κ):(kvs.any fun kv=>decide (kv.1=k))=vs.any fun kv=>decide (kv.1=k):=by
 unfold KV at r
 induction r with
 | nil=>rfl
 | cons h t ih=>rw[QaF,QaF,ih,h.1]
theorem KV.repl{kvs:List (κ×V)}{vs:List (κ×Value)}(r:KV kvs vs)(k:κ){y:V}{u:Value}(ry:ZI y u) :
  KV (kvs.map fun kv=>if kv.1=k then (kv.1,y) else kv) (vs.map fun kv=>if kv.1=k then (kv.1,u) else kv):=by
 unfold KV at r ⊢
 induction r with
 | nil=>exact .nil
 | @cons p q ps qs h t ih =>
  rw[Qj,Qj]
  refine .cons ?_ ih
  obtain⟨h1,h2⟩:=h
  by_cases e:p.1=k
  ·rw[if_pos e,if_pos (h1.symm.trans e)];exact⟨h1,ry⟩
  ·rw[if_neg e,if_neg (fun z=>e (h1.trans z))];exact⟨h1,h2⟩
theorem KV.put{kvs:List (κ×V)}{vs:List (κ×Value)}(r:KV kvs vs)(k:κ){y:V}{u:Value}(ry:ZI y u):KV (Zbi kvs k y) (stored vs k u):=by
 unfold Zbi stored
 rw[r.any k]
 by_cases e:(vs.any fun kv=>decide (kv.1=k))=true
 ·rw[if_pos e,if_pos e];exact r.repl k ry
 ·rw[if_neg e,if_neg e];exact Paired.snoc r ⟨rfl,ry⟩
theorem KV.drop{kvs:List (κ×V)}{vs:List (κ×Value)}(r:KV kvs vs)(k:κ):KV (ZcJ kvs k) (without vs k):=by
 unfold KV at r ⊢
 unfold ZcJ without
 induction r with
 | nil=>exact .nil
 | @cons p q ps qs h t ih =>
  obtain⟨h1,h2⟩:=h
  rw[List.filter_cons,List.filter_cons]
  by_cases e:p.1=k
  ·have a:¬ decide (p.1≠k)=true:=by simp[e]
   have b:¬ decide (q.1≠k)=true:=by simp[h1.symm.trans e]
   rw[if_neg a,if_neg b];exact ih
  ·have e':¬ q.1=k:=fun z=>e (h1.trans z)
   have a:decide (p.1≠k)=true:=by simp[e]
   have b:decide (q.1≠k)=true:=by simp[e']
   rw[if_pos a,if_pos b];exact .cons ⟨h1,h2⟩ ih
theorem KV.length{kvs:List (κ×V)}{vs:List (κ×Value)}(r:KV kvs vs):kvs.length=vs.length:=Paired.length r
theorem ZnN(kvs:List (κ×V))(k:κ):(ZcJ kvs k).length≤kvs.length:=Q7 _ _
end
theorem ZgT{P:Program}{w:World}{k:Key}{u:Value}(r:ZI (kV k) u):(ZM P w).is k u=true:=by
 cases k with
 | inl i=>obtain⟨t,e⟩:=(show ∃t,u=Value.int i t from r);subst e;exact Zjv P w i t
 | inr x=>obtain⟨t,e⟩:=(show ∃t,u=Value.str x t from r);subst e;exact ZjU P w x t
theorem ZhN{P:Program}{w:World}:∀ {ks:List Key} {us:List Value},ZH (ks.map kV) us→ItemsAre (ZM P w) ks us
 | [],_,r=>by rw[QaP]at r;cases r;exact .nil
 | k::ks,_,r=>by
  rw[Qj]at r
  cases r with
  | cons h t=>exact .cons (ZgT h) (ZhN t)
abbrev KT(H:Hp):List (List Key×V)→List (List Key×Addr×Value)→Prop:=Paired fun p q=>p.1=q.1∧H q.2.1=some (.tup (p.1.map kV))∧ZI p.2 q.2.2
theorem KT.val{H:Hp}{kvs:List (List Key×V)}{xs:List (List Key×Addr×Value)}(r:KT H kvs xs)(k:List Key):Zdz (Z2 kvs k) ((atKey xs k).map (·.2)):=by
 induction r with
 | nil=>exact True.intro
 | @cons p q ps qs h t ih =>
  obtain⟨h1,_,h2⟩:=h
  by_cases e:p.1=k
  ·have e':q.1=k:=h1.symm.trans e
   have b:atKey (q::qs) k=some q.2:=by simp[atKey,List.find?_cons,e']
   rw[Zc0 e,b];exact h2
  ·have e':¬ q.1=k:=fun z=>e (h1.trans z)
   have b:atKey (q::qs) k=atKey qs k:=by simp[atKey,List.find?_cons,e']
   rw[Zdb e,b];exact ih
theorem KT.repl{H:Hp}{kvs:List (List Key×V)}{xs:List (List Key×Addr×Value)}(r:KT H kvs xs)(k:List Key){y:V}{u:Value}(ry:ZI y u) :
  KT H (kvs.map fun kv=>if kv.1=k then (kv.1,y) else kv) (xs.map (putAt k u)):=by
 induction r with
 | nil=>exact .nil
 | @cons p q ps qs h t ih =>
  rw[Qj,Qj]
  refine .cons ?_ ih
  obtain⟨h1,h2,h3⟩:=h
  unfold putAt
  by_cases e:p.1=k
  ·rw[if_pos e,if_pos (h1.symm.trans e)];exact⟨h1,h2,ry⟩
  ·rw[if_neg e,if_neg (fun z=>e (h1.trans z))];exact⟨h1,h2,h3⟩
theorem KT.put{H:Hp}{kvs:List (List Key×V)}{xs:List (List Key×Addr×Value)}(r:KT H kvs xs)(k:List Key){b:Addr}{y:V}{u:Value}(hb:H b=some (.tup (k.map kV)))(ry:ZI y u) :
  KT H (Zbi kvs k y) (storedH xs k b u):=by
 have e:(kvs.any fun kv=>decide (kv.1=k))=(atKey xs k).isSome:=by
  rw[Zfd,(r.val k).isSome_eq,Option.isSome_map]
 unfold Zbi storedH
 rw[e]
 by_cases q:(atKey xs k).isSome=true
 ·rw[if_pos q,if_pos q];exact r.repl k ry
 ·rw[if_neg q,if_neg q];exact Paired.snoc r ⟨rfl,hb,ry⟩
theorem KT.keeps{H H':Hp}{kvs:List (List Key×V)}{xs:List (List Key×Addr×Value)}(r:KT H kvs xs)(ht:∀b ys,H b=some (.tup ys)→H' b=some (.tup ys)):KT H' kvs xs :=
 Paired.mapP r fun _ _ z=>⟨z.1,ht _ _ z.2.1,z.2.2⟩
section
variable {P:Program} {w:World} {H:Hp} {h:Heap} {a:Addr}
theorem ZpZ{u:HO}(ok:HOk P w H h)(e:Rd H a u):Z7 P w H h a u:=e.ok ok
theorem ZgB{kvs:List (Key×V)}(ok:HOk P w H h)(e:Rd H a (.dK kvs)):kvs.length≤sizeLine∧(a == sysModules)=false∧∃vs,KV kvs vs∧h.DictOf (ZM P w) a vs :=
 show Z7 P w H h a (.dK kvs) from ZpZ ok e
theorem Zm7{kvs:List (Key×V)}(ok:HOk P w H h)(e:H a=some (.dK kvs)):kvs.length≤sizeLine∧(a == sysModules)=false∧∃vs,KV kvs vs∧h.DictOf (ZM P w) a vs:=ZgB ok (.inl e)
theorem Zgu{ks:List Key}(ok:HOk P w H h)(e:H a=some (.tup (ks.map kV))):(tupleKind (ZM P w)).is h ks a:=by
 obtain⟨_,its,r,o,h1,h2,n,h3⟩:=(show Z7 P w H h a (.tup (ks.map kV)) from ok a _ e)
 exact⟨o,its.toArray,n,h1,h2,h3,by simpa using ZhN r⟩
theorem ZhS{kvs:List (List Key×V)}(ok:HOk P w H h)(e:Rd H a (.dT kvs)):kvs.length≤sizeLine∧(a == sysModules)=false ∧
  ∃xs,KT H kvs xs∧h.DictOfH (tupleKind (ZM P w)) a xs:=by
 obtain⟨z,y,xs,r,o,es,ep,h1,h2,h3,h4,h5⟩:=(show Z7 P w H h a (.dT kvs) from ZpZ ok e)
 refine⟨z,y,xs,r,o,es,ep,h1,h2,h3,h4,fun x hx=>?_,h5⟩
 have all:∀ {l:List (List Key×V)} {m:List (List Key×Addr×Value)},KT H l m→∀x∈m,(tupleKind (ZM P w)).is h x.1 x.2.1:=by
  intro l m q
  induction q with
  | nil=>intro x hx;exact nomatch hx
  | @cons p q ps qs hq t ih =>
   intro x hx
   rcases QI.mp hx with e|hx
   ·subst e
    exact Zgu ok (by rw[← hq.1];exact hq.2.1)
   ·exact ih x hx
 exact all r x hx
theorem Zr3{kvs:List (List Key×V)}(ok:HOk P w H h)(e:H a=some (.dT kvs)):kvs.length≤sizeLine∧(a == sysModules)=false ∧
  ∃xs,KT H kvs xs∧h.DictOfH (tupleKind (ZM P w)) a xs:=ZhS ok (.inl e)
end
def ZN(H:Hp)(a:Addr)(y:V)(r:Option V):Prop :=
 (∃kvs k,Rd H a (.dK kvs)∧y=kV k∧r=Z2 kvs k)∨∃kvs k b,Rd H a (.dT kvs)∧y=.ref b∧H b=some (.tup (k.map kV))∧r=Z2 kvs k
def ZbW(H:Hp)(a:Addr)(y v:V)(H':Hp):Prop :=
 (∃kvs k,H a=some (.dK kvs)∧y=kV k∧kvs.length<sizeLine∧H'=upd H a (.dK (Zbi kvs k v))) ∨
 ∃kvs k b,H a=some (.dT kvs)∧y=.ref b∧H b=some (.tup (k.map kV))∧kvs.length<sizeLine∧H'=upd H a (.dT (Zbi kvs k v))
theorem ZN.k{H:Hp}{a:Addr}{kvs:List (Key×V)}{k:Key}(e:H a=some (.dK kvs)):ZN H a (kV k) (Z2 kvs k):=.inl ⟨kvs,k,.inl e,rfl,rfl⟩
theorem ZN.t{H:Hp}{a b:Addr}{kvs:List (List Key×V)}{k:List Key}(e:H a=some (.dT kvs))(eb:H b=some (.tup (k.map kV))):ZN H a (.ref b) (Z2 kvs k):=.inr ⟨kvs,k,b,.inl e,rfl,eb,rfl⟩
theorem ZbW.k{H:Hp}{a:Addr}{kvs:List (Key×V)}{k:Key}{v:V}(e:H a=some (.dK kvs))(hl:kvs.length<sizeLine):ZbW H a (kV k) v (upd H a (.dK (Zbi kvs k v))):=.inl ⟨kvs,k,e,rfl,hl,rfl⟩
theorem ZbW.t{H:Hp}{a b:Addr}{kvs:List (List Key×V)}{k:List Key}{v:V}(e:H a=some (.dT kvs))(eb:H b=some (.tup (k.map kV)))(hl:kvs.length<sizeLine) :
  ZbW H a (.ref b) v (upd H a (.dT (Zbi kvs k v))):=.inr ⟨kvs,k,b,e,rfl,eb,hl,rfl⟩
section
variable {X:Cx} {pins:List (Addr×Obj)} {σ:St} {H:Hp} {s:Shared} {a:Addr} {y v:V} {u r:Value} {o:Option V} {A:Around} {E:Value→Shared→Prop}
theorem Inv.big(I:Inv X pins σ H s):sysModules<s.heap.objs.size:=by
 have h:mainGlobals<s.heap.objs.size:=(I.mod.glob.keeps I.bk).lt
 exact Nat.lt_trans (by decide) h
theorem Zly{Q:Value→Shared→Prop}(hu:A.units+1<cLine)(I:Inv X pins σ H s)(g:ZN H a y (some v))(ry:ZI y u)(h:∀w' s',Inv X pins σ H s'→ZI v w'→Q w' s') :
  wpAny (model X.prog X.w) A (getItem (.ref a) u) Q E s:=by
 rcases g with⟨kvs,k,e,ey,l⟩|⟨kvs,k,b,e,ey,eb,l⟩
 ·subst ey
  obtain⟨z,hd,vs,rel,dd⟩:=ZgB I.hok e
  obtain⟨w',hw,rw'⟩:=Zdz.some_of (v:=v) (o:=valueAt vs k) (by rw[l];exact rel.val k)
  exact wpAny_getItem_of (ZgT ry) dd.mapOf hw (h w' _ (I.tok _) rw')
 ·subst ey
  cases (show u=Value.ref b from ry)
  obtain⟨z,hd,xs,rel,dd⟩:=ZhS I.hok e
  obtain⟨w',hw,rw'⟩:=Zdz.some_of (v:=v) (o:=(atKey xs k).map (·.2)) (by rw[l];exact rel.val k)
  obtain⟨p,hp,hp2⟩:=QaQ.mp hw
  refine wpAny_getItem_heap (tupleKind_room_in1 hu) (Zgu I.hok eb) dd hp ?_
  rw[hp2]
  exact h w' _ (I.tok _) rw'
theorem ZpI{Q:Value→Shared→Prop}(hu:A.units+1<cLine)(I:Inv X pins σ H s)(g:ZN H a y o)(ry:ZI y u)(h:∀s',Inv X pins σ H s'→Q (.bool (!o.isSome)) s') :
  wpAny (model X.prog X.w) A (compareOp .NotIn u (.ref a)) Q E s:=by
 rcases g with⟨kvs,k,e,ey,l⟩|⟨kvs,k,b,e,ey,eb,l⟩
 ·subst ey
  obtain⟨z,hd,vs,rel,dd⟩:=ZgB I.hok e
  refine wpAny_notIn_of (ZgT ry) hd dd.mapOf ?_
  rw[← (rel.val k).isSome_eq,← l]
  exact h _ (I.tok _)
 ·subst ey
  cases (show u=Value.ref b from ry)
  obtain⟨z,hd,xs,rel,dd⟩:=ZhS I.hok e
  refine wpAny_notIn_heap (tupleKind_room_in1 hu) (Zgu I.hok eb) hd dd ?_
  have q:=(rel.val k).isSome_eq
  rw[Option.isSome_map]at q
  rw[← q,← l]
  exact h _ (I.tok _)
theorem Zgc{h':Heap}{t':Nat}{ob:HO}(I:Inv X pins σ H s)(mu:Mut (H a))(hs:Heap.SameBut a s.heap h')(he:∃q,h'.get? a=some q)(new:Z7 X.prog X.w (upd H a ob) h' a ob) :
  Inv X pins σ (upd H a ob) { s with heap:=h',toks:=t' } :=
 I.write (x:=a) (e:=a) mu (.inl rfl) (fun b q hb z=>(hs.2 b hb).trans z) he new
theorem Zkl{P:Program}{w:World}{H':Hp}{h':Heap}{kvs:List (Key×V)}{vs:List (Key×Value)}(z:kvs.length≤sizeLine)(hd:(a == sysModules)=false)(rel:KV kvs vs)(dd:h'.DictOf (ZM P w) a vs) :
  Z7 P w H' h' a (.dK kvs):=⟨z,hd,vs,rel,dd⟩
theorem Zlw{H':Hp}{Q:Unit→Shared→Prop}(hu:A.units+1<cLine)(I:Inv X pins σ H s)(g:ZbW H a y v H')(ry:ZI y u)(rv:ZI v r)(h:∀s',Inv X pins σ H' s'→Q () s') :
  wpAny (model X.prog X.w) A (setItem (.ref a) u r) Q E s:=by
 rcases g with⟨kvs,k,e,ey,l,eH⟩|⟨kvs,k,b,e,ey,eb,l,eH⟩
 ·subst ey eH
  obtain⟨z,hd,vs,rel,dd⟩:=Zm7 I.hok e
  have hz:vs.length≤sizeLine:=by rw[← rel.length];exact z
  have hl:(Zbi kvs k v).length≤sizeLine:=by have:=Zd5 kvs k v;omega
  refine wpAny_setItem_pairs (hsz:=hz) (ZgT ry) dd fun h' dd' hs=>h _ ?_
  have he:∃q,h'.get? a=some q:=let ⟨q,_,_,hq,_⟩:=dd';⟨q,hq⟩
  exact Zgc I (by rw[e];exact True.intro) hs he (Zkl hl hd (rel.put k rv) dd')
 ·subst ey eH
  cases (show u=Value.ref b from ry)
  obtain⟨z,hd,xs,rel,dd⟩:=Zr3 I.hok e
  have hz:xs.length≤sizeLine:=by rw[← Paired.length rel];exact z
  have hl:(Zbi kvs k v).length≤sizeLine:=by have:=Zd5 kvs k v;omega
  refine wpAny_setItem_heap (hsz:=hz) (tupleKind_room_in1 hu) (Zgu I.hok eb) dd fun h' dd' hs=>h _ ?_
  obtain⟨q,es,ep,hq,h2,h3,h4,_,h5⟩:=dd'
  refine Zgc I (by rw[e];exact True.intro) hs ⟨q,hq⟩ ⟨hl,hd,_,(rel.put k eb rv).keeps fun c ys ec=>?_,q,es,ep,hq,h2,h3,h4,h5⟩
  rw[Zb (Zoa ec e (fun z=>nomatch z))]
  exact ec
end
section
variable {X:Cx} {pins:List (Addr×Obj)} {σ:St} {H:Hp} {s:Shared} {a:Addr} {kvs:List (Key×V)} {k:Key} {u:Value} {A:Around} {E:Value→Shared→Prop}
theorem ZrY{v:V}{more:List Value}{Q:Value→Shared→Prop}(I:Inv X pins σ H s)(e:H a=some (.dK kvs))(ry:ZI (kV k) u)(l:Z2 kvs k=some v)(hm:more=[]∨∃x,more=[x])
  (h:∀w' s',Inv X pins σ (upd H a (.dK (ZcJ kvs k))) s'→ZI v w'→Q w' s'):wpAny (model X.prog X.w) A (call (.builtin "dict.pop") (.ref a::u::more)) Q E s:=by
 obtain⟨z,hd,vs,rel,dd⟩:=Zm7 I.hok e
 obtain⟨w',hw,rw'⟩:=Zdz.some_of (v:=v) (o:=valueAt vs k) (by rw[← l];exact rel.val k)
 have hp:(keyPart u).isSome=true:=by
  cases k with
  | inl i=>obtain⟨t,q⟩:=(show ∃t,u=Value.int i t from ry);subst q;rfl
  | inr x=>obtain⟨t,q⟩:=(show ∃t,u=Value.str x t from ry);subst q;rfl
 have ha:argsOk "dict.pop" ⟨.ref a::u::more,[]⟩:=by
  rcases hm with q|⟨x,q⟩
  ·subst q;exact PySem.F.args_dict_pop_2 _ _
  ·subst q;exact PySem.F.args_dict_pop_3 _ _ _
 refine call_meetsIn Qax dd.typeIs PySem.F.entry_dict_pop ha (meets_dict_pop_there (ZM X.prog X.w) a (ZgT ry) more hm hp)
  ⟨vs,w',dd,by rw[← rel.length];exact z,hw,fun h' dd' hs=>h w' _ ?_ rw'⟩
 have he:∃q,h'.get? a=some q:=let ⟨q,_,_,hq,_⟩:=dd';⟨q,hq⟩
 exact Zgc I (by rw[e];exact True.intro) hs he (Zkl (Qy (ZnN kvs k) z) hd (rel.drop k) dd')
theorem Zr8{Q:Value→Shared→Prop}(I:Inv X pins σ H s)(e:Rd H a (.dK kvs))(h:∀t s',Inv X pins σ H s'→Q (.int kvs.length t) s'):wpAny (model X.prog X.w) A (call (.builtin "len") [.ref a]) Q E s:=by
 obtain⟨z,hd,vs,rel,dd⟩:=ZgB I.hok e
 refine call_len_dict hd dd (by rw[← rel.length];rw[sizeLine_eq]at z;omega) ?_
 rw[← rel.length]
 exact h _ _ (I.tok _)
end
def NoSl(i:Expr):Prop:=∀ov iv,subscripted i false ov iv=operate [ov,iv] (getItem ov iv)
theorem ZjT{X:Cx}{pins:List (Addr×Obj)}{σ:St}{H:Hp}{s:Shared}{a:Addr}{y:V}{o:Option V}(I:Inv X pins σ H s)(g:ZN H a y o):s.TypeIs (.ref a) "dict":=by
 rcases g with⟨kvs,k,e,_,_⟩|⟨kvs,k,b,e,_,_,_⟩
 ·obtain⟨_,_,vs,_,dd⟩:=ZgB I.hok e
  exact dd.typeIs
 ·obtain⟨_,_,xs,_,dd⟩:=ZhS I.hok e
  exact dd.typeIs
def tDGet(td ty:TE):TE:=fun σ H Q=>td σ H fun x H1=>ty σ H1 fun y H2=>∃a v,x=.ref a∧ZN H2 a y (some v)∧Q v H2
def tDIn(ty td:TE):TE:=fun σ H Q=>ty σ H fun y H1=>td σ H1 fun x H2=>∃a o,x=.ref a∧ZN H2 a y o∧Q (.bl o.isSome) H2
def tDNotIn(ty td:TE):TE:=fun σ H Q=>ty σ H fun y H1=>td σ H1 fun x H2=>∃a o,x=.ref a∧ZN H2 a y o∧Q (.bl (!o.isSome)) H2
def sDPut(td ty tv:TE):TS:=fun D σ H=>tv σ H fun v H1=>td σ H1 fun x H2=>ty σ H2 fun y H3=>∃a H4,x=.ref a∧ZbW H3 a y v H4∧D.nx σ H4
def sDAug(td ty tv:TE)(rd:V→V→Hp→VK→Prop):TS:=fun D σ H=>td σ H fun x H1=>ty σ H1 fun y H2=>∃a v,x=.ref a∧ZN H2 a y (some v) ∧
 tv σ H2 fun y2 H3=>rd v y2 H3 fun z H4=>∃H5,ZbW H4 a y z H5∧D.nx σ H5
def sDDel(td ty:TE):TS:=fun D σ H=>td σ H fun x H1=>ty σ H1 fun y H2=>∃a kvs k,x=.ref a∧H2 a=some (.dK kvs)∧y=kV k∧(Z2 kvs k).isSome=true∧D.nx σ (upd H2 a (.dK (ZcJ kvs k)))
section
variable {X:Cx} {o i e value:Expr} {pos pos' tpos:Pos} {td ty tv:TE}
end
theorem Zjc{P:Program}{w:World}{H:Hp}(h:Heap)(hb:sysModules<h.objs.size):Z7 P w H (h.push { cls:=.type "dict",data:=.dict #[] }) h.objs.size (.dK []) :=
 ⟨Qw _,beq_eq_false_iff_ne.mpr (Ne.symm (QD hb)),[],.nil,Heap.DictOf.new h⟩
def ZqS:TE:=fun _ H Q=>∀p,H p=none→Q (.ref p) (upd H p (.dK []))
def tDNewT:TE:=fun _ H Q=>∀p,H p=none→Q (.ref p) (upd H p (.dT []))
section
variable {X:Cx} {pos:Pos}
theorem Ze4:PE X (.Dict [] [] pos) ZqS:=fun pins s σ H Q I h =>
 wpAny_Dict_empty ⟨.ref s.heap.objs.size,_,I.laid (a:=s.heap.objs.size) (o:=.dK []) (t':=s.toks) (fun _ _ q=>Qc _ q) (Qh _) (Zjc s.heap I.big),rfl,h _ (I.hok.fresh (Qh _))⟩
end
def Zkx:List (TE×TE)→St→Hp→(List (V×V)→Hp→Prop)→Prop
 | [],_,H,Q=>Q [] H
 | (tk,tv)::r,σ,H,Q=>tk σ H fun x H1=>tv σ H1 fun y H2=>Zkx r σ H2 fun ps H3=>Q ((x,y)::ps) H3
abbrev VV:List (V×V)→List (Value×Value)→Prop:=Paired fun p q=>ZI p.1 q.1∧ZI p.2 q.2
def PPs(X:Cx)(pos:Pos)(keys:List (Option Expr))(values:List Expr)(trs:List (TE×TE)):Prop :=
 ∀ (pins:List (Addr×Obj)) (s:Shared) (σ:St) (H:Hp) (Q:List (V×V)→Hp→Prop),Inv X pins σ H s→Zkx trs σ H Q →
  wpAny (model X.prog X.w) X.A (evalPairs (pairTrees keys values X.env pos)) (fun vs s'=>∃ps H',Inv X pins σ H' s'∧VV ps vs∧Q ps H') X.xe s
theorem Zol{X:Cx}{pos:Pos}:PPs X pos [] [] []:=fun pins s σ H Q I h=>pairTrees_nil_walk ⟨[],H,I,.nil,h⟩
theorem ZdQ{X:Cx}{pos:Pos}{k v:Expr}{ks:List (Option Expr)}{vs:List Expr}{tk tv:TE}{trs:List (TE×TE)}(hk:PE X k tk)(hv:PE X v tv)(hr:PPs X pos ks vs trs) :
  PPs X pos (some k::ks) (v::vs) ((tk,tv)::trs):=fun pins s σ H Q I h =>
 pairTrees_cons_walk (thn (hk pins s σ H _ I h) fun u s1 ⟨x,H1,I1,rx,q1⟩=>thn (hv pins s1 σ H1 _ I1 q1) fun w2 s2 ⟨y,H2,I2,ry,q2⟩=>
  thn (hr pins s2 σ H2 _ I2 q2) fun ws s3 ⟨ps,H3,I3,rel,q3⟩=>⟨(x,y)::ps,H3,I3,.cons ⟨rx,ry⟩ rel,q3⟩)
def ZcS(kvs more:List (Key×V)):List (Key×V):=more.foldl (fun acc kv=>Zbi acc kv.1 kv.2) kvs
theorem KV.merge:∀ {more:List (Key×V)} {rs:List (Key×Value)} {kvs:List (Key×V)} {vs:List (Key×Value)},KV more rs→KV kvs vs→KV (ZcS kvs more) (merged vs rs):=by
 intro more rs kvs vs r
 unfold KV at r
 induction r generalizing kvs vs with
 | nil=>intro q;exact q
 | @cons p q ps qs h t ih =>
  intro r0
  have e:KV (Zbi kvs p.1 p.2) (stored vs q.1 q.2):=by
   have:=r0.put p.1 h.2
   rw[← h.1];exact this
  exact ih e
theorem Zex:∀ (more kvs:List (Key×V)),(ZcS kvs more).length≤kvs.length+more.length
 | [],kvs=>by show kvs.length≤kvs.length+0;omega
 | p::r,kvs=>by
  have h1:=Zex r (Zbi kvs p.1 p.2)
  have h2:=Zd5 kvs p.1 p.2
  show (ZcS (Zbi kvs p.1 p.2) r).length≤_
  rw[QK];omega
theorem ZgU{P:Program}{w:World}:∀ {kvs:List (Key×V)} {ws:List (Value×Value)},VV (kvs.map fun kv=>(kV kv.1,kv.2)) ws→∃rs,Carries (ZM P w) ws rs∧KV kvs rs
 | [],_,r=>by rw[QaP]at r;cases r;exact⟨[],True.intro,.nil⟩
 | p::kvs,_,r=>by
  rw[Qj]at r
  cases r with
  | @cons a b as bs h t =>
   obtain⟨rs,c,q⟩:=ZgU (P:=P) (w:=w) t
   obtain⟨b1,b2⟩:=b
   exact⟨(p.1,b2)::rs,⟨ZgT h.1,rfl,c⟩,.cons ⟨rfl,h.2⟩ q⟩
def Zsa(trs:List (TE×TE)):TE:=fun σ H Q=>∀p,H p=none→Zkx trs σ (upd H p (.dK [])) fun ps H2=>H2 p=some (.dK [])∧∃kvs:List (Key×V),ps=kvs.map (fun kv=>(kV kv.1,kv.2))∧kvs.length≤15∧Q (.ref p) (upd H2 p (.dK (ZcS [] kvs)))
theorem Zo2{X:Cx}{pos:Pos}{keys:List (Option Expr)}{values:List Expr}{trs:List (TE×TE)}(h:PPs X pos keys values trs)(hall:keys.all (·.isSome)=true)(hl:keys.length=values.length)(h0:keys≠[])
  (h15:keys.length≤15):PE X (.Dict keys values pos) (Zsa trs):=by
 intro pins s σ H Q I q
 have hn:=I.hok.fresh (Qh s.heap.objs.size)
 have I1:=I.laid (a:=s.heap.objs.size) (o:=.dK []) (h':=s.heap.push { cls:=.type "dict",data:=.dict #[] }) (t':=s.toks) (fun _ _ q=>Qc _ q) (Qh _) (Zjc s.heap I.big)
 refine wpAny_Dict_walk (knd:=ZM X.prog X.w) hall hl h0 h15 (thn (h pins _ σ _ _ I1 (q _ hn)) fun ws s2 ⟨ps,H2,I2,rel,e,kvs,ep,lk,q2⟩=>?_)
 subst ep
 obtain⟨rs,c,rk⟩:=ZgU (P:=X.prog) (w:=X.w) rel
 obtain⟨z,hd,vs0,r0,dd⟩:=Zm7 I2.hok e
 cases r0
 refine⟨rs,c,dd,fun h' dd' hs=>⟨.ref s.heap.objs.size,_,?_,rfl,q2⟩⟩
 have hz:(ZcS [] kvs).length≤sizeLine:=by
  have h1:=Zex kvs []
  rw[List.length_nil]at h1
  rw[sizeLine_eq];omega
 have he:∃q,h'.get? s.heap.objs.size=some q:=let ⟨q,_,_,hq,_⟩:=dd';⟨q,hq⟩
 exact Zgc I2 (by rw[e];exact True.intro) hs he (Zkl hz hd (rk.merge .nil) dd')
structure M1 (X:Cx) (o:Expr) (m:Str) (apos:Pos) (e:Expr) (cpos:Pos):Prop where
 base:attributeBase o m X.env (eval o X.env)=eval o X.env
 few:((backTo cpos (starEach [e] X.env)).all (fun x=>!x.1)&&(backToKw cpos (keywordEach [] X.env)).all (fun x=>x.1.isSome)
  && decide (([e]:List Expr).length+([]:List Keyword).length+(if ([]:List Keyword).isEmpty then 0 else 1)<30))=true
 line:(apos.endLine == cpos.line)=true
 trees:backTo cpos (starEach [e] X.env)=[(false,eval e X.env)]
structure M2 (X:Cx) (o:Expr) (m:Str) (apos:Pos) (e f:Expr) (cpos:Pos):Prop where
 base:attributeBase o m X.env (eval o X.env)=eval o X.env
 few:((backTo cpos (starEach [e,f] X.env)).all (fun x=>!x.1)&&(backToKw cpos (keywordEach [] X.env)).all (fun x=>x.1.isSome)
  && decide (([e,f]:List Expr).length+([]:List Keyword).length+(if ([]:List Keyword).isEmpty then 0 else 1)<30))=true
 line:(apos.endLine == cpos.line)=true
 trees:backTo cpos (starEach [e,f] X.env)=[(false,eval e X.env),(false,eval f X.env)]
def IsD(H:Hp)(a:Addr):Prop:=(∃kvs,Rd H a (.dK kvs))∨∃kvs,Rd H a (.dT kvs)
theorem ZqG{X:Cx}{pins:List (Addr×Obj)}{σ:St}{H:Hp}{s:Shared}{a:Addr}(I:Inv X pins σ H s)(d:IsD H a) :
  s.TypeIs (.ref a) "dict"∧(∀b,Value.ref a=.ref b→∃ob,s.heap.get? b=some ob∧ob.dict=none)∧(a == sysModules)=false:=by
 rcases d with⟨kvs,e⟩|⟨kvs,e⟩
 ·obtain⟨_,hd,vs,_,dd⟩:=ZgB I.hok e
  refine⟨dd.typeIs,fun b q=>?_,hd⟩
  cases q
  obtain⟨ob,_,_,h1,h2,_⟩:=dd
  exact⟨ob,h1,h2.2.1⟩
 ·obtain⟨_,hd,xs,_,dd⟩:=ZhS I.hok e
  refine⟨dd.typeIs,fun b q=>?_,hd⟩
  cases q
  obtain⟨ob,_,_,h1,h2,_⟩:=dd
  exact⟨ob,h1,h2.2.1⟩
section
variable {X:Cx} {pins:List (Addr×Obj)} {σ:St} {H:Hp} {s:Shared} {a:Addr} {y d:V} {u r:Value} {o:Option V} {A:Around} {E:Value→Shared→Prop}
theorem ZqH{Q:Value→Shared→Prop}(hu:A.units+1<cLine)(I:Inv X pins σ H s)(g:ZN H a y o)(ry:ZI y u)(h:∀w' s',Inv X pins σ H s'→ZI (o.getD .non) w'→Q w' s') :
  wpAny (model X.prog X.w) A (call (.builtin "dict.get") [.ref a,u]) Q E s:=by
 rcases g with⟨kvs,k,e,ey,l⟩|⟨kvs,k,b,e,ey,eb,l⟩
 ·subst ey
  obtain⟨z,hd,vs,rel,dd⟩:=ZgB I.hok e
  refine call_meetsIn PySem.F.slot_dict_get dd.typeIs PySem.F.entry_dict_get (PySem.F.args_dict_get_2 _ _) (meets_dict_get (ZM X.prog X.w) a (ZgT ry) hd) ⟨_,dd.mapOf,h _ _ (I.tok _) ?_⟩
  rw[l]
  exact(rel.val k).getD rfl
 ·subst ey
  cases (show u=Value.ref b from ry)
  obtain⟨z,hd,xs,rel,dd⟩:=ZhS I.hok e
  refine call_meetsIn PySem.F.slot_dict_get dd.typeIs PySem.F.entry_dict_get (PySem.F.args_dict_get_2 _ _) (meetsH_dict_get (tupleKind (ZM X.prog X.w)) a b hd) ⟨tupleKind_room_in1 hu,k,xs,Zgu I.hok eb,dd,h _ _ (I.tok _) ?_⟩
  rw[l]
  exact(rel.val k).getD rfl
end
def ZmC(td ty:TE):TE:=fun σ H Q=>td σ H fun x H1=>∃a,x=.ref a∧IsD H1 a∧ty σ H1 fun y H2=>∃o,ZN H2 a y o∧Q (o.getD .non) H2
def ZsE(td ty tx:TE):TE:=fun σ H Q=>td σ H fun x H1=>∃a,x=.ref a∧IsD H1 a∧ty σ H1 fun y H2=>tx σ H2 fun z H3=>∃o,ZN H3 a y o∧Q (o.getD z) H3
def Zsn(td ty:TE):TE:=fun σ H Q=>td σ H fun x H1=>∃a,x=.ref a∧IsD H1 a∧ty σ H1 fun y H2=>∃kvs k v,H2 a=some (.dK kvs)∧y=kV k∧Z2 kvs k=some v∧Q v (upd H2 a (.dK (ZcJ kvs k)))
def Zsr(td ty tx:TE):TE:=fun σ H Q=>td σ H fun x H1=>∃a,x=.ref a∧IsD H1 a∧ty σ H1 fun y H2=>tx σ H2 fun z H3=>∃kvs k,H3 a=some (.dK kvs)∧y=kV k ∧
 (∀v,Z2 kvs k=some v→Q v (upd H3 a (.dK (ZcJ kvs k))))∧(Z2 kvs k=none→Q z H3)
section
variable {X:Cx} {o e f:Expr} {apos cpos:Pos} {td ty tx:TE}
theorem Zm6(hu:X.A.units+1<cLine)(ho:PE X o td)(he:PE X e ty)(m:M1 X o "get" apos e cpos):PE X (.Call (.Attribute o "get" apos) [e] [] cpos) (ZmC td ty):=by
 intro pins s σ H Q I h
 refine wpAny_Call_method m.base m.few m.line QV PySem.F.slot_dict_get PySem.F.type_dict_get (thn (ho pins s σ H _ I h) fun u s1 ⟨x,H1,I1,rx,a,ex,d,q1⟩=>?_)
 subst ex
 obtain rfl:u=Value.ref a:=rx
 obtain⟨t1,t2,_⟩:=ZqG I1 d
 refine⟨t1,t2,?_⟩
 rw[m.trees]
 refine Calls.callWith_builtin rfl (Calls.evalArgs_plain (Calls.spliced_cons (thn (he pins s1 σ H1 _ I1 q1) fun iv s2 ⟨y,H2,I2,ry,ov,g,q2⟩=>Calls.spliced_nil ?_)))
 exact ZqH hu I2 g ry fun w' s3 I3 rw'=>⟨_,H2,I3,rw',q2⟩
end
section
variable {X:Cx} {pins:List (Addr×Obj)} {σ:St} {H:Hp} {s:Shared} {a:Addr} {kvs:List (Key×V)} {A:Around} {E:Value→Shared→Prop}
end
section
variable {X:Cx} {pins:List (Addr×Obj)} {σ:St} {H:Hp} {s:Shared} {a:Addr} {y:V} {u:Value} {A:Around} {E:Value→Shared→Prop}
end
section
variable {X:Cx}
theorem ZlE:ZaF X (.builtin "len") (fun xs H Q=>∃a kvs,xs=[V.ref a]∧H a=some (.dK kvs)∧Q (.int kvs.length) H):=by
 intro pins s σ H xs us Q I r h
 obtain⟨a,kvs,rfl,ha,q⟩:=h
 obtain⟨u,rfl,ru⟩:=ZcX r
 cases ru
 exact Zr8 I (.inl ha) fun t s' I'=>⟨.int kvs.length,H,I',⟨t,rfl⟩,q⟩
end
section
variable {κ:Type} [DecidableEq κ]
theorem Zpd{kvs:List (κ×V)}{k:κ}{v:V}(h:Z2 kvs k=some v):k∈kvs.map (·.1):=by
 have q:(kvs.any fun kv=>decide (kv.1=k))=true:=by
  rw[Zfd,h]
  all_goals rfl
 obtain⟨p,hp,e⟩:=List.any_eq_true.mp q
 exact List.mem_map.mpr ⟨p,hp,of_decide_eq_true e⟩
end
structure Mf (P:Program) (w:World) (K:PySem.W.Frag) (mg:Str→Option Value) (base:Heap) (k:Nat) (C:Addr) (m:Str) (ps:List Str) (sp:Sp):Prop where
 ex:∃f fd,Zer P w K mg base CX0 k f fd ps sp∧Zmz K C m f∧ZcB K fd ps []
structure Cf (P:Program) (w:World) (K:PySem.W.Frag) (mg:Str→Option Value) (base:Heap) (k:Nat) (C:Addr) (x:Str) (ps:List Str) (sp:Sp):Prop where
 ex:∃f fd,Zer P w K mg base CX0 k f fd ps sp∧Mk K C f∧ZcB K fd ps []∧mg x=some (.ref C)
structure ZcR (K:PySem.W.Frag) (C:Addr) (m qual:Str) (st:Stmt) (ps:List Str):Prop where
 ex:∃f fd,Fun K m qual st f fd∧Zmz K C m f∧ZcB K fd ps []
structure Zpa (K:PySem.W.Frag) (mg:Str→Option Value) (C:Addr) (x qual:Str) (st:Stmt) (ps:List Str):Prop where
 ex:∃f fd,Fun K "__init__" qual st f fd∧Mk K C f∧ZcB K fd ps []∧mg x=some (.ref C)
section
variable {P:Program} {w:World} {K:PySem.W.Frag} {mg:Str→Option Value} {base:Heap}
theorem ZcR.mf{C:Addr}{m qual:Str}{st:Stmt}{N ps:List Str}{k:Nat}{sp:Sp}(T:ZcR K C m qual st ps)(S:Zr N ps (Zg st))(len:∀vs H Q E,sp vs H Q E→vs.length=ps.length)
  (hbody:∀ (cdv:Value) (f:Addr) (A:Around) (outer:List Env) (s:Shared) (H:Hp) (vs:List V) (Q:VK) (E:XK),ZaV k (A.deeper (envOfC qual (Zg st) s.heap.objs.size f cdv))→sp vs H Q E →
   ∃t,PSs (ZiB CX0 P w K mg base N qual (Zg st) f cdv A outer s H E).nox (Zn st) t∧t { nx:=fun _ H'=>Q .non H',rt:=Q } (Zea N vs) H):Mf P w K mg base (k+1) C m ps sp:=by
 obtain⟨f,fd,F,m,b⟩:=T.ex
 exact⟨f,fd,F.ok S len (fun cdv A outer s H vs Q E hr h=>hbody cdv f A outer s H vs Q E hr h),m,b⟩
theorem Zpa.cf{C:Addr}{x qual:Str}{st:Stmt}{N ps:List Str}{k:Nat}{sp:Sp}(T:Zpa K mg C x qual st ps)(S:Zr N ps (Zg st))(len:∀vs H Q E,sp vs H Q E→vs.length=ps.length)
  (hbody:∀ (cdv:Value) (f:Addr) (A:Around) (outer:List Env) (s:Shared) (H:Hp) (vs:List V) (Q:VK) (E:XK),ZaV k (A.deeper (envOfC qual (Zg st) s.heap.objs.size f cdv))→sp vs H Q E →
   ∃t,PSs (ZiB CX0 P w K mg base N qual (Zg st) f cdv A outer s H E).nox (Zn st) t∧t { nx:=fun _ H'=>Q .non H',rt:=Q } (Zea N vs) H):Cf P w K mg base (k+1) C x ps sp:=by
 obtain⟨f,fd,F,m,b,g⟩:=T.ex
 exact⟨f,fd,F.ok S len (fun cdv A outer s H vs Q E hr h=>hbody cdv f A outer s H vs Q E hr h),m,b,g⟩
end
section
variable {X:Cx} {k j:Nat} {C:Addr} {m x:Str} {ps:List Str} {sp:Sp} {o e:Expr} {es:List Expr} {ta:TE} {t:TA} {p apos pos:Pos} {pl:Sem Bool}
theorem ZcM(F:Mf X.prog X.w X.K X.mg X.base k C m ps sp)(c:Cls X.K C)(hr:ZaV j X.A)(he:PE X o ta)(ha:PA X (e::es) t)(hjk:k≤j:=by decide)
  (hst:starEach (e::es) X.env=(false,eval e X.env)::starEach es X.env:=by rfl) (hpl:(backTo pos (starEach es X.env)).any (·.1)=false:=by rfl)
  (ht:eval (.Call (.Attribute o m apos) (e::es) [] pos) X.env=(do
   let ov ← eval o X.env
   standAt apos.atName
   let (f,first) ← holding [ov] (getMethod ov m pl)
   callWith pos f first (backTo pos (starEach (e::es) X.env)) (backToKw pos (keywordEach [] X.env))):=by rfl) :
  PE X (.Call (.Attribute o m apos) (e::es) [] pos) (Zk5 C m sp [] E0 ta t):=by
 obtain⟨f,fd,F,g,b⟩:=F.ex
 exact Zpf he c g F (hr.mono hjk) b .nil ZkS ha hst hpl ht
theorem Zay(F:Mf X.prog X.w X.K X.mg X.base k C m ps sp)(c:Cls X.K C)(hr:ZaV j X.A)(he:PE X o ta)(hjk:k≤j:=by decide)
  (ht:eval (.Call (.Attribute o m apos) [] [] pos) X.env=(do
   let ov ← eval o X.env
   standAt apos.atName
   let (f,first) ← holding [ov] (getMethod ov m pl)
   callWith pos f first (backTo pos (starEach [] X.env)) (backToKw pos (keywordEach [] X.env))):=by rfl) :
  PE X (.Call (.Attribute o m apos) [] [] pos) (Zk5 C m sp [] E0 ta ZqL):=by
 obtain⟨f,fd,F,g,b⟩:=F.ex
 exact Znu he c g F (hr.mono hjk) b .nil ZkS ht
theorem ZnT(F:Cf X.prog X.w X.K X.mg X.base k C x ps sp)(hr:ZaV j X.A)(ha:PA X (e::es) t)(hjk:k+1≤j:=by decide)(hg:Gl X x:=by rfl)(hdb:(x == ("__debug__" : Str))=false:=by decide)
  (he:starEach (e::es) X.env=(false,eval e X.env)::starEach es X.env:=by rfl) (hpl:(backTo pos (starEach es X.env)).any (·.1)=false:=by rfl) :
  PE X (.Call (.Name x p) (e::es) [] pos) (ZpW C sp [] E0 t):=by
 obtain⟨f,fd,F,g,b,gm⟩:=F.ex
 exact ZoI g F (hr.mono hjk) hg gm b .nil ZkS ha hdb he hpl
end
section
variable {X:Cx} {pins:List (Addr×Obj)} {σ:St} {H:Hp} {s:Shared} {d:Addr} {o:Obj} {u:HO}
theorem Inv.freeze(I:Inv X pins σ H s)(e:H d=some u)(mu:Mut (some u))(ho:s.heap.get? d=some o):Inv X pins σ (upd H d (.frz o u)) s:=by
 have h:=I.write (x:=d) (e:=d) (o:=.frz o u) (t':=s.toks) (h':=s.heap) (by rw[e];exact mu) (.inl rfl) (fun b v _ q=>q) ⟨o,ho⟩ ?_
 ·exact h
 ·refine⟨ho,(I.hok d u e).stay (fun b v _ q=>q) (fun b q=>?_) (fun b xs q=>?_)⟩
  ·rw[Zb (fun z=>by rw[z,e]at q;cases q;exact mu)];exact q
  ·rw[Zb (fun z=>by rw[z,e]at q;cases q;exact mu)];exact q
theorem Inv.nofrz(I:Inv X pins σ H s)(e:H d=some u)(mu:Mut (some u)):∀o' u',X.H₀ d≠some (.frz o' u'):=fun o' u' z=>by
 have:=I.base.frzs d o' u' z
 rw[e]at this
 cases this
 exact mu
theorem Inv.thaw(I:Inv X pins σ H s)(e:H d=some (.frz o u))(mu:Mut (some u))(n:∀o' u',X.H₀ d≠some (.frz o' u')):Inv X pins σ (upd H d u) s:=by
 have hne:∀b,H b=none→b≠d:=fun b z=>Zc (H:=H) e z |>.symm
 refine⟨I.ok,I.os,I.bare,⟨I.base.keep,I.base.slot,fun b v a1 a2 a3=>?_,I.base.there,fun b xs q=>?_,fun b o' u' q=>?_,fun b ps q=>?_⟩,I.loc,I.cell,?_,fun x c q=>?_,fun p hp=>?_,?_,I.len⟩
 ·have:=I.base.free b v a1 a2 a3
  rw[Zb (hne b this)];exact this
 ·have:=I.base.tups b xs q
  rw[Zb (fun z=>by rw[z,e]at this;cases this)];exact this
 ·have:=I.base.frzs b o' u' q
  rw[Zb (fun z=>by rw[z]at q;exact n o' u' q)];exact this
 ·obtain⟨more,this⟩:=I.base.tbls b ps q
  refine⟨more,?_⟩
  rw[Zb (fun z=>by rw[z,e]at this;cases this)];exact this
 ·rw[Zb (hne _ I.free)];exact I.free
 ·rw[Zb (hne _ (I.freeC x c q))];exact I.freeC x c q
 ·obtain⟨a1,a2,a3⟩:=I.pin p hp
  exact⟨a1,by rw[Zb (hne _ a2)];exact a2,a3⟩
 ·intro b v q
  have own:∀c a,H c=some (.own a)→(upd H d u) c=some (.own a):=fun c a q=>by rw[Zb (fun z=>by rw[z,e]at q;cases q)];exact q
  have tup:∀c xs,H c=some (.tup xs)→(upd H d u) c=some (.tup xs):=fun c xs q=>by rw[Zb (fun z=>by rw[z,e]at q;cases q)];exact q
  by_cases hb:b=d
  ·subst hb
   rw[Zd]at q
   cases q
   obtain⟨_,h2⟩:=(show Z7 X.prog X.w H s.heap b (.frz o u) from I.hok b _ e)
   exact h2.stay (fun c v _ q=>q) (fun c q=>own c b q) tup
  ·rw[Zb hb]at q
   exact(I.hok b v q).stay (fun c v _ q=>q) (fun c q=>own c b q) tup
end
def Zrn(t:TE):TE:=fun σ H Q=>∃d u,H d=some u∧Mut (some u)∧t σ H fun v H'=>∃o,H' d=some (.frz o u)∧Q v (upd H' d u)
theorem ZiT{X:Cx}{e:Expr}{t:TE}(h:PE X e t):PE X e (Zrn t):=by
 intro pins s σ H Q I q
 obtain⟨d,u,e1,mu,q⟩:=q
 have n:=I.nofrz e1 mu
 refine thn (h pins s σ H _ I q) fun v s1 ⟨x,H1,I1,r1,o,e2,q1⟩=>?_
 exact⟨x,_,I1.thaw e2 mu n,r1,q1⟩
theorem Zgh{P:Program}{w:World}{k:Key}{v:Value}(h:(ZM P w).is k v=true):ZI (kV k) v:=by
 rw[Zkn]at h
 rcases ZaA h with⟨i,t,rfl,rfl⟩|⟨x,t,rfl,rfl⟩
 ·exact⟨t,rfl⟩
 ·exact⟨t,rfl⟩
def Zmn:List V→Hp→VK→Prop:=fun xs H Q=>∃d kvs,xs=[.ref d]∧H d=some (.dK kvs)∧∀l,H l=none→Q (.ref l) (upd H l (.lst (kvs.map fun kv=>kV kv.1)))
theorem ZhG{P:Program}{w:World}:∀ (kvs:List (Key×V)) (vs:List (Key×Value)) (us:List Value),KV kvs vs→us.length=vs.length→(∀ (j:Nat) (v:Value),us[j]? = some v→∃k x,vs[j]? = some (k,x)∧(ZM P w).is k v=true)→ZH (kvs.map fun kv=>kV kv.1) us:=by
 intro kvs vs us r
 unfold KV at r
 induction r generalizing us with
 | nil =>
  intro hl _
  cases us with
  | nil=>exact .nil
  | cons a b=>simp at hl
 | @cons p q ps qs h t ih =>
  intro hl hp
  cases us with
  | nil=>simp at hl
  | cons a b =>
   obtain⟨k,x,e,hk⟩:=hp 0 a rfl
   have e':q=(k,x):=by simpa using e
   rw[Qj]
   refine .cons ?_ (ih b (by simpa using hl) fun j v hv=>?_)
   ·rw[h.1,e'];exact Zgh hk
   ·simpa using hp (j+1) v (by simpa using hv)
theorem Zkb{X:Cx}(hc:X.calm=true):ZaF X (.type "list") Zmn:=by
 intro pins s σ H xs us Q I r h
 obtain⟨d,kvs,rfl,hd,q⟩:=h
 obtain⟨u,rfl,ru⟩:=ZcX r
 cases ru
 obtain⟨z,lo,vs,rel,dd⟩:=(show Z7 X.prog X.w H s.heap d (.dK kvs) from I.hok d _ hd)
 obtain⟨ep,da⟩:=dd.dictAt
 have hl:kvs.length=vs.length:=rel.length
 refine PySem.W.kdl_call (PySem.W.kdl_dict lo) (I.ok.hd hc) da (by omega) fun h' tk acc c hk hD hacc=>?_
 have hv:ZH (kvs.map fun kv=>kV kv.1) acc.toList:=ZhG (P:=X.prog) (w:=X.w) kvs vs acc.toList rel (by rw[Qan];exact hacc.1) fun j v e=>hacc.2 j v (by rw[← Array.getElem?_toList];exact e)
 refine⟨.ref s.heap.objs.size,_,I.laid (a:=s.heap.objs.size) (o:=.lst (kvs.map fun kv=>kV kv.1)) (t':=tk) hk (Qh _) ?_,rfl,q _ (I.hok.fresh (Qh _))⟩
 exact⟨by rw[Qa];exact z,acc.toList,c,hv,by simpa using hD⟩
theorem Inv.dictF{X:Cx}{pins:List (Addr×Obj)}{σ:St}{H:Hp}{s:Shared}{d:Addr}{o:Obj}{kvs:List (Key×V)}{es:Array DictEntry}{ep:Nat}(I:Inv X pins σ H s)(e:H d=some (.frz o (.dK kvs)))(hd:o.data=.dict es ep) :
  ∃vs,KV kvs vs∧s.heap.DictAt (ZM X.prog X.w) d vs ep:=by
 obtain⟨ho,_,_,vs,rel,o',es',ep',h1,h2,h3,h4⟩:=(show Z7 X.prog X.w H s.heap d (.frz o (.dK kvs)) from I.hok d _ e)
 rw[ho]at h1
 cases h1
 rw[hd]at h3
 cases h3
 exact⟨vs,rel,o,es,ho,h2,hd,h4⟩
theorem ZiO{kvs:List (Key×V)}{vs:List (Key×Value)}(r:KV kvs vs):∀ (i:Nat) (k:Key) (x:V),kvs[i]? = some (k,x)→∃u,vs[i]? = some (k,u)∧ZI x u:=by
 unfold KV at r
 induction r with
 | nil=>intro i k x h;simp at h
 | @cons p q ps qs h t ih =>
  intro i k x hx
  cases i with
  | zero =>
   have e:p=(k,x):=by simpa using hx
   refine⟨q.2,?_,?_⟩
   ·have:q=(k,q.2):=by rw[show k=q.1 by rw[← h.1,e]]
    simpa using this
   ·have:=h.2;rw[e]at this;exact this
  | succ i=>simpa using ih i k x (by simpa using hx)
def Itv(d:Addr)(o:Obj)(kvs:List (Key×V)):It :=
 ⟨fun i H=>H d=some (.frz o (.dK kvs))∧i<kvs.length,fun i H v H'=>H'=H∧∃k,kvs[i]? = some (k,v),fun i H=>H d=some (.frz o (.dK kvs))∧kvs.length≤i⟩
def Itk(d:Addr)(o:Obj)(kvs:List (Key×V)):It :=
 ⟨fun i H=>H d=some (.frz o (.dK kvs))∧i<kvs.length,fun i H v H'=>H'=H∧∃k x,kvs[i]? = some (k,x)∧v=kV k,fun i H=>H d=some (.frz o (.dK kvs))∧kvs.length≤i⟩
theorem Zlx{P:Program}{w:World}{K:PySem.W.Frag}{tg:Expr}{d it:Addr}{o:Obj}{kvs:List (Key×V)}{es:Array DictEntry}{ep:Nat}(hd:o.data=.dict es ep):Zjt P w K tg (Itv d o kvs) [it] it (fun i h=>h.IsValIter it d i kvs.length ep) where
 mem:=by simp
 obj:=fun i h st b hb=>by
  have e:b=it:=by simpa using hb
  subst e
  obtain⟨o,e,c,d⟩:=st
  exact⟨o,e,fun v z=>by rw[d]at z;cases z⟩
 keep:=fun i h h' st k=>by
  obtain⟨o,e,r⟩:=st
  exact⟨o,k it (by simp) o e,r⟩
 item:=by
  intro X hP hw hK hc i pins s σ H E I hf st hg
  subst hP hw hK
  obtain⟨f0,f1,f2,f3,f4,f5⟩:=hf it (by simp)
  obtain⟨hfz,hi⟩:=hg
  obtain⟨vs,rel,da⟩:=I.dictF hfz hd
  have hl:kvs.length=vs.length:=rel.length
  obtain⟨u,hu,ru⟩:=ZiO rel i kvs[i].1 kvs[i].2 (Qb hi)
  refine wpAny_pyNext_values_item (by rw[← hl];exact st) da hu fun h' st' sb=>?_
  rw[← hl]at st'
  have I1:Inv X pins σ H { s with heap:=h' }:=I.turned (t':=s.toks) (fun b o hb e=>(sb.2 b hb).trans e) f0 f1 f3 f4 f5
  obtain⟨o1,e1,c1,d1⟩:=id st'
  exact⟨_,rfl,ZkV (s:={ s with heap:=h' }) e1 c1 d1 (by decide) ⟨kvs[i].2,H,I1,ru,⟨rfl,kvs[i].1,Qb hi⟩,st',fun b hb=>(hf b hb).1⟩⟩
 done:=by
  intro X hP hw hK hc i pins s σ H E I hf st hg
  subst hP hw hK
  obtain⟨f0,f1,f2,f3,f4,f5⟩:=hf it (by simp)
  obtain⟨hfz,hi⟩:=hg
  obtain⟨vs,rel,da⟩:=I.dictF hfz hd
  have hl:kvs.length=vs.length:=rel.length
  exact wpAny_pyNext_values_end (I.ok.hd hc) (by rw[← hl];exact st) da (QL (by omega)) fun h' eb=>⟨rfl,I.turned (t':=s.toks) (fun b o hb e=>eb b o hb e) f0 f1 f3 f4 f5⟩
 self:=fun _ _ _ _ _ st h=>wpAny_pyIter_valiter st h
theorem Zl6{P:Program}{w:World}{K:PySem.W.Frag}{tg:Expr}{d it:Addr}{o:Obj}{kvs:List (Key×V)}{es:Array DictEntry}{ep:Nat}(hd:o.data=.dict es ep):Zjt P w K tg (Itk d o kvs) [it] it (fun i h=>h.IsKeyIter it d i kvs.length ep) where
 mem:=by simp
 obj:=fun i h st b hb=>by
  have e:b=it:=by simpa using hb
  subst e
  obtain⟨o,e,c,d⟩:=st
  exact⟨o,e,fun v z=>by rw[d]at z;cases z⟩
 keep:=fun i h h' st k=>by
  obtain⟨o,e,r⟩:=st
  exact⟨o,k it (by simp) o e,r⟩
 item:=by
  intro X hP hw hK hc i pins s σ H E I hf st hg
  subst hP hw hK
  obtain⟨f0,f1,f2,f3,f4,f5⟩:=hf it (by simp)
  obtain⟨hfz,hi⟩:=hg
  obtain⟨vs,rel,da⟩:=I.dictF hfz hd
  have hl:kvs.length=vs.length:=rel.length
  obtain⟨u,hu,ru⟩:=ZiO rel i kvs[i].1 kvs[i].2 (Qb hi)
  refine wpAny_pyNext_dict_item (by rw[← hl];exact st) da hu fun key h' hkey st' sb=>?_
  rw[← hl]at st'
  have I1:Inv X pins σ H { s with heap:=h' }:=I.turned (t':=s.toks) (fun b o hb e=>(sb.2 b hb).trans e) f0 f1 f3 f4 f5
  obtain⟨o1,e1,c1,d1⟩:=id st'
  exact⟨_,rfl,ZkV (s:={ s with heap:=h' }) e1 c1 d1 (by decide) ⟨kV kvs[i].1,H,I1,Zgh hkey,⟨rfl,kvs[i].1,kvs[i].2,Qb hi,rfl⟩,st',fun b hb=>(hf b hb).1⟩⟩
 done:=by
  intro X hP hw hK hc i pins s σ H E I hf st hg
  subst hP hw hK
  obtain⟨f0,f1,f2,f3,f4,f5⟩:=hf it (by simp)
  obtain⟨hfz,hi⟩:=hg
  obtain⟨vs,rel,da⟩:=I.dictF hfz hd
  have hl:kvs.length=vs.length:=rel.length
  exact wpAny_pyNext_dict_end (I.ok.hd hc) (by rw[← hl];exact st) da (QL (by omega)) fun h' eb=>⟨rfl,I.turned (t':=s.toks) (fun b o hb e=>eb b o hb e) f0 f1 f3 f4 f5⟩
 self:=fun _ _ _ _ _ st h=>wpAny_pyIter_keyiter st h
def Zr1(tl:TE):TI:=fun σ H R=>tl σ H fun x H1=>∃d kvs,x=.ref d∧H1 d=some (.dK kvs)∧∀o,R (Itk d o kvs) (upd H1 d (.frz o (.dK kvs)))
theorem Zpq{X:Cx}{tg l:Expr}{tl:TE}(hl:PE X l tl):PI X tg l (Zr1 tl):=by
 intro pins s σ H R I h
 refine thn (hl pins s σ H _ I h) fun v s1 ⟨x,H1,I1,r1,q1⟩=>?_
 obtain⟨d,kvs,e,hd,q⟩:=q1
 subst e
 cases r1
 obtain⟨z,lo,vs,rel,o,es,ep,h1,h2,h3,h4⟩:=(show Z7 X.prog X.w H1 s1.heap d (.dK kvs) from I1.hok d _ hd)
 have hlen:kvs.length=vs.length:=rel.length
 have I2:=I1.freeze hd True.intro h1
 refine wpAny_pyIter_dict (knd:=ZM X.prog X.w) (kvs:=vs) (ep:=ep) lo ⟨o,es,h1,h2,h3,h4⟩ ?_
 rw[← hlen]
 refine⟨s1.heap.objs.size,[s1.heap.objs.size],_,Itk d o kvs,upd H1 d (.frz o (.dK kvs)),rfl,I2.kept (t':=s1.toks) fun b o e=>Qc _ e,Zl6 h3,⟨_,Qq _ rfl,rfl,rfl⟩,fun b hb=>?_,q o⟩
 have e:b=s1.heap.objs.size:=by simpa using hb
 subst e
 exact I2.fpOk (Qh _) (I2.hok.fresh (Qh _))
def ZjA:List V→Hp→VK→Prop:=fun xs H Q=>∃d kvs ns,xs=[.ref d]∧H d=some (.dK kvs)∧kvs.map (·.1)=ns.map Sum.inl∧ns.length<64 ∧
 ∀ (l:Addr) (ns':List Int),H l=none→ns'.Perm ns→ns'.Pairwise (·≤·)→Q (.ref l) (upd H l (.lst (ns'.map V.int)))
theorem Ziw{X:Cx}(hc:X.calm=true):ZaF X (.builtin "sorted") ZjA:=by
 intro pins s σ H xs us Q I r h
 obtain⟨d,kvs,ns,rfl,hd,hks,h64,q⟩:=h
 obtain⟨u,rfl,ru⟩:=ZcX r
 cases ru
 obtain⟨z,lo,vs,rel,dd⟩:=(show Z7 X.prog X.w H s.heap d (.dK kvs) from I.hok d _ hd)
 obtain⟨ep,da⟩:=dd.dictAt
 have hl:kvs.length=vs.length:=rel.length
 have hln:kvs.length=ns.length:=by have:=congrArg List.length hks;simpa using this
 refine Calls.call_function_entry kind_sorted plain_sorted entry_sorted (args_sorted1 _) ?_
 unfold Builtin.«sorted»
 refine wpAny_bind (m:=checkCount "sorted" 1 1 _) (wpAny_pure ?_)
 refine wpAny_bind (PySem.W.kdu_collect (PySem.W.kdl_dict (knd:=ZM X.prog X.w) lo) (I.ok.hd hc) da (by omega) fun h' tk acc hk hacc=>?_)
 have hv:ZH (kvs.map fun kv=>kV kv.1) acc.toList:=ZhG (P:=X.prog) (w:=X.w) kvs vs acc.toList rel (by rw[Qan];exact hacc.1) fun j v e=>hacc.2 j v (by rw[← Array.getElem?_toList];exact e)
 have ek:(kvs.map fun kv=>kV kv.1)=ns.map V.int:=by
  have:(kvs.map fun kv=>kV kv.1)=(kvs.map (·.1)).map kV:=by rw[Qi];rfl
  rw[this,hks,Qi];rfl
 rw[ek]at hv
 have hal:acc.toList.length=ns.length:=by rw[← hv.length,Qa]
 refine wpAny_bind (wpAny_newList ?_ (by rw[hal];exact Qam (QC h64 (by rw[sizeLine_eq];decide))))
 have hoL:(h'.push (seqObj "list" acc.toList.toArray 0)).get? h'.objs.size=some (seqObj "list" acc.toList.toArray 0):=Qq _ rfl
 show wpAny _ _ _ _ _ { s with heap:=h'.push (seqObj "list" acc.toList.toArray 0),toks:=tk }
 refine wpAny_bind (wpAny_holding (wpAny_call_entry slot_list_sort ⟨_,hoL,rfl⟩ entry_list_sort (list_sort_tree hoL (Zg1 hv) (by omega) fun out ns' a1 a2 a3=>⟨_,rfl,?_⟩) (args_list_sort _)))
 refine wpAny_pure ⟨_,rfl,?_⟩
 obtain⟨e,he⟩:=sortedHeap_at (out:=out) hoL
 have I1:Inv X pins σ H { s with heap:=h',toks:=tk }:=I.kept (t':=tk) hk
 have old:∀b o,h'.get? b=some o→(sortedHeap (h'.push (seqObj "list" acc.toList.toArray 0)) h'.objs.size acc.toList out).get? b=some o:=fun b o h1=>by
  have h2:=Qr h1
  rw[sortedHeap_old (QD h2) (by rw[size_push'];exact Nat.lt_succ_of_lt h2)]
  exact Qc _ h1
 refine⟨.ref h'.objs.size,_,I1.laid (a:=h'.objs.size) (o:=.lst (ns'.map V.int)) (t':=tk) old (Qh _) ?_,rfl,q _ ns' (I1.hok.fresh (Qh _)) a2 a3⟩
 have hp:=a2.length_eq
 exact⟨by rw[Qa,hp];exact Qam (QC h64 (by rw[sizeLine_eq];decide)),out.toList,e,ZfC a1,by simpa using he⟩
def rSumL(K:PySem.W.Frag):List V→Hp→VK→Prop:=fun vs H Q=>∃ (p:Addr) (ns:List Int),vs=[.ref p]∧SqL K H p (ns.map V.int)∧ns.length≤1000∧(∀n∈ns,0≤n∧n≤1000000)∧Q (.int ns.sum) H
def ZrQ(tl:TE):TI:=fun σ H R=>tl σ H fun x H1=>∃d kvs,x=.ref d∧H1 d=some (.dK kvs)∧∀o,R (Itv d o kvs) (upd H1 d (.frz o (.dK kvs)))
theorem ZpA{X:Cx}{tg o:Expr}{to:TE}{apos cpos:Pos}(ho:PE X o to)(hbase:attributeBase o "values" X.env (eval o X.env)=eval o X.env:=by rfl)(hline:(apos.endLine == cpos.line)=true:=by rfl) :
  PI X tg (.Call (.Attribute o "values" apos) [] [] cpos) (ZrQ to):=by
 intro pins s σ H R I h
 refine wpAny_Call_method0_late hbase hline (thn (ho pins s σ H _ I h) fun v s1 ⟨x,H1,I1,r1,q1⟩=>?_)
 obtain⟨d,kvs,e,hd,q⟩:=q1
 subst e
 cases r1
 obtain⟨z,lo,vs,rel,ob,es,ep,h1,h2,h3,h4⟩:=(show Z7 X.prog X.w H1 s1.heap d (.dK kvs) from I1.hok d _ hd)
 have hlen:kvs.length=vs.length:=rel.length
 have I2:=I1.freeze hd True.intro h1
 have dd:s1.heap.DictOf (ZM X.prog X.w) d vs:=⟨ob,es,ep,h1,h2,h3,h4⟩
 refine⟨"dict", "dict.values",QV,PySem.F.slot_dict_values,PySem.F.type_dict_values,dd.typeIs,fun a e=>?_,?_⟩
 ·cases e;exact⟨ob,h1,h2.2.1⟩
 refine Calls.callWith_builtin rfl (QaD ?_)
 refine call_meetsIn PySem.F.slot_dict_values dd.typeIs PySem.F.entry_dict_values (PySem.F.args_dict_values_1 _) (meets_dict_values (ZM X.prog X.w) d lo) ⟨⟨vs,dd⟩,?_⟩
 have hv:(s1.heap.push { cls:=.type "dict_values",data:=.fields #[.ref d] }).IsValuesView s1.heap.objs.size d:=⟨_,Qq _ rfl,rfl,rfl⟩
 have da:(s1.heap.push { cls:=.type "dict_values",data:=.fields #[.ref d] }).DictAt (ZM X.prog X.w) d vs ep:=⟨ob,es,Qc _ h1,h2,h3,h4⟩
 refine wpAny_pyIter_values (s:={ s1 with heap:=s1.heap.push { cls:=.type "dict_values",data:=.fields #[.ref d] } }) hv da ?_
 rw[← hlen]
 have I3:Inv X pins σ (upd H1 d (.frz ob (.dK kvs))) { s1 with heap:=s1.heap.push { cls:=.type "dict_values",data:=.fields #[.ref d] } }:=I2.kept (t':=s1.toks) fun b o e=>Qc _ e
 refine⟨_,[_],_,Itv d ob kvs,upd H1 d (.frz ob (.dK kvs)),rfl,I3.kept (t':=s1.toks) fun b o e=>Qc _ e,Zlx h3,⟨_,Qq _ rfl,rfl,rfl⟩,fun b hb=>?_,q ob⟩
 have e:=Qo.mp hb
 rw[e]
 exact I3.fpOk (Qh _) (I3.hok.fresh (Qh _))
def Iti(d:Addr)(o:Obj)(kvs:List (Key×V)):It :=
 ⟨fun i H=>H d=some (.frz o (.dK kvs))∧i<kvs.length,
  fun i H v H'=>∃p k x,H p=none∧v=.ref p∧kvs[i]? = some (k,x)∧H'=upd H p (.tup [kV k,x]),
  fun i H=>H d=some (.frz o (.dK kvs))∧kvs.length≤i⟩
theorem Zky{P:Program}{w:World}{K:PySem.W.Frag}{elts:List Expr}{x1:Nat}{tpos:Pos}{d it:Addr}{o:Obj}{kvs:List (Key×V)}{es:Array DictEntry}{ep:Nat}(hd:o.data=.dict es ep) :
  Zjt P w K (.Tuple elts x1 tpos) (Iti d o kvs) [it] it (fun i h=>∃ok ov,IsItemIter h it d i kvs.length ep ok ov) where
 mem:=by simp
 obj:=fun i h st b hb=>by
  have e:b=it:=by simpa using hb
  subst e
  obtain⟨ok,ov,he⟩:=st
  exact⟨_,he,fun v z=>by cases z⟩
 keep:=fun i h h' st k=>by
  obtain⟨ok,ov,he⟩:=st
  exact⟨ok,ov,k it (by simp) _ he⟩
 item:=by
  intro X hP hw hK hc i pins s σ H E I hf st hg
  subst hP hw hK
  obtain⟨ok,ov,he⟩:=st
  obtain⟨hfz,hi⟩:=hg
  obtain⟨vs,rel,da⟩:=I.dictF hfz hd
  have hl:kvs.length=vs.length:=rel.length
  obtain⟨u,hu,ru⟩:=ZiO rel i kvs[i].1 kvs[i].2 (Qb hi)
  refine wpAny_pyNext_items_item (by rw[← hl];exact he) da hu fun key h' hkey a1 a2 a3 a4=>?_
  rw[← hl]at a1
  have lt:∀ {b:Addr} {o:Obj},s.heap.get? b=some o→s.heap.objs.size≠b:=fun q=>Q3 (Qr q)
  have hes:s.heap.objs.size≠it:=lt he
  refine⟨_,rfl,wpAny_letOwnedTupleGo_items a1 fun h'' he'' hs''=>?_⟩
  have hs':Heap.SameBut it h' h'':=hs''
  have I2:Inv X pins σ (upd H s.heap.objs.size (.tup [kV kvs[i].1,kvs[i].2])) { s with heap:=h'',toks:=s.toks }:=by
   refine I.zipped (fp:=[it]) (u:=key) (v:=u) hf (Zgh hkey) ru (hs'.extBut _ _ hes a2) (fun b hb=>?_) fun c o hc q=>?_
   ·have e:=Qo.mp hb
    subst e
    exact⟨_,he''⟩
   ·have hc':c≠it:=fun z=>hc (by rw[z];simp)
    exact hs'.extBut _ _ hc' (a4 c o hc' q)
  refine⟨.ref s.heap.objs.size,_,I2,rfl,⟨s.heap.objs.size,kvs[i].1,kvs[i].2,I.fresh,rfl,Qb hi,rfl⟩,⟨_,_,he''⟩,fun b hb=>?_⟩
  have e:=Qo.mp hb
  subst e
  rw[Zb hes.symm]
  exact(hf _ hb).1
 done:=by
  intro X hP hw hK hc i pins s σ H E I hf st hg
  subst hP hw hK
  obtain⟨ok,ov,he⟩:=st
  obtain⟨f0,f1,f2,f3,f4,f5⟩:=hf it (by simp)
  obtain⟨hfz,hi⟩:=hg
  obtain⟨vs,rel,da⟩:=I.dictF hfz hd
  have hl:kvs.length=vs.length:=rel.length
  exact wpAny_pyNext_items_end (I.ok.hd hc) (by rw[← hl];exact he) da (QL (by omega)) fun h' eb=>⟨rfl,I.turned (t':=s.toks) (fun b o hb e=>eb b o hb e) f0 f1 f3 f4 f5⟩
 self:=fun _ _ _ _ _ st h=>by obtain⟨ok,ov,he⟩:=st;exact PySem.W.kcp_self he h
def ZqU(tl:TE):TI:=fun σ H R=>tl σ H fun x H1=>∃d kvs,x=.ref d∧H1 d=some (.dK kvs)∧∀o,R (Iti d o kvs) (upd H1 d (.frz o (.dK kvs)))
theorem ZnD{X:Cx}{elts:List Expr}{x1:Nat}{tpos:Pos}{o:Expr}{to:TE}{apos cpos:Pos}(ho:PE X o to)(hbase:attributeBase o "items" X.env (eval o X.env)=eval o X.env:=by rfl)(hline:(apos.endLine == cpos.line)=true:=by rfl) :
  PI X (.Tuple elts x1 tpos) (.Call (.Attribute o "items" apos) [] [] cpos) (ZqU to):=by
 intro pins s σ H R I h
 refine wpAny_Call_method0_late hbase hline (thn (ho pins s σ H _ I h) fun v s1 ⟨x,H1,I1,r1,q1⟩=>?_)
 obtain⟨d,kvs,e,hd,q⟩:=q1
 subst e
 cases r1
 obtain⟨z,lo,vs,rel,ob,es,ep,h1,h2,h3,h4⟩:=(show Z7 X.prog X.w H1 s1.heap d (.dK kvs) from I1.hok d _ hd)
 have hlen:kvs.length=vs.length:=rel.length
 have I2:=I1.freeze hd True.intro h1
 have dd:s1.heap.DictOf (ZM X.prog X.w) d vs:=⟨ob,es,ep,h1,h2,h3,h4⟩
 refine⟨"dict", "dict.items",QV,Qap,PySem.F.type_dict_items,dd.typeIs,fun a e=>?_,?_⟩
 ·cases e;exact⟨ob,h1,h2.2.1⟩
 refine Calls.callWith_builtin rfl (QaD ?_)
 refine call_meetsIn Qap dd.typeIs PySem.F.entry_dict_items (PySem.F.args_dict_items_1 _) (meets_dict_items (ZM X.prog X.w) d lo) ⟨⟨vs,dd⟩,?_⟩
 have hv:(s1.heap.push { cls:=.type "dict_items",data:=.fields #[.ref d] }).IsItemsView s1.heap.objs.size d:=⟨_,Qq _ rfl,rfl,rfl⟩
 have da:(s1.heap.push { cls:=.type "dict_items",data:=.fields #[.ref d] }).DictAt (ZM X.prog X.w) d vs ep:=⟨ob,es,Qc _ h1,h2,h3,h4⟩
 refine wpAny_pyIter_items (s:={ s1 with heap:=s1.heap.push { cls:=.type "dict_items",data:=.fields #[.ref d] } }) hv da ?_
 rw[← hlen]
 have I3:Inv X pins σ (upd H1 d (.frz ob (.dK kvs))) { s1 with heap:=s1.heap.push { cls:=.type "dict_items",data:=.fields #[.ref d] } }:=I2.kept (t':=s1.toks) fun b o e=>Qc _ e
 refine⟨_,[_],_,Iti d ob kvs,upd H1 d (.frz ob (.dK kvs)),rfl,I3.kept (t':=s1.toks) fun b o e=>Qc _ e,Zky h3,⟨_,_,Qq _ rfl⟩,fun b hb=>?_,q ob⟩
 have e:=Qo.mp hb
 rw[e]
 exact I3.fpOk (Qh _) (I3.hok.fresh (Qh _))
def ZoV(J:It)(D:Addr)(k:Nat)(σ:St)(H1:Hp)(g:TG)(tc:TT)(tk te:TE)(Q:VK):Prop :=
 ∃W:Nat→Nat→List (Key×V)→St→Hp→Prop,(∃m,W 0 m [] (σ++List.replicate k none) (upd H1 D (.dK []))) ∧
  ∀i m ys σ2 H2,W i m ys σ2 H2→(J.stop i H2∧Q (.ref D) H2) ∨
   (J.go i H2∧∃N:List (Key×V)→St→Hp→Prop,(∀ys' σ' H',N ys' σ' H'→∃m',m'<m∧W (i+1) m' ys' σ' H')∧∀x H3,J.yld i H2 x H3→g x σ2 H3 fun σ4 H4=>tc σ4 H4 fun b H5 =>
    if b=true then tk σ4 H5 fun kv H6=>te σ4 H6 fun y H7=>∃k:Key,kv=kV k∧H7 D=some (.dK ys)∧ys.length<sizeLine∧N (Zbi ys k y) σ4 (upd H7 D (.dK (Zbi ys k y))) else N ys σ4 H5)
def tKComp(n:Nat)(wi:TI)(g:TG)(tc:TT)(tk te:TE):TE:=fun σ H Q=>wi σ H fun J H1=>∀D,H1 D=none→ZoV J D n σ H1 g tc tk te Q
section
variable {X:Cx} {N N':List Str} {o c:Scope}
end
section
variable {X:Cx}
def rIxK:R2:=fun x y H Q=>∃d kvs k v,x=.ref d∧y=kV k∧H d=some (.dK kvs)∧Z2 kvs k=some v∧Q v H
end
section
variable {prog:Program} {w:World} {A:Around} {R:Result→Shared→Prop} {I:Addr} {fp wr:List Addr} {G:Array GenState→Array GenState→Prop} {n:Nat} {P:Nat→Value→Prop} {St:Nat→Shared→Prop} {K:Type} [DecidableEq K] {knd:KeyKind prog w K}
end
section
variable {prog:Program} {w:World} {A:Around} {E:Value→Shared→Prop} {s:Shared} {K:Type} [DecidableEq K] {knd:KeyKind prog w K}
end
def rDictP(K:PySem.W.Frag):List V→Hp→VK→Prop:=fun xs H Q=>∃ (a:Addr) (ts:List (Addr×Key×V)),xs=[.ref a]∧SqL K H a (ts.map fun t=>V.ref t.1)∧(∀t∈ts,H t.1=some (.tup [kV t.2.1,t.2.2]))∧ts.length≤1000 ∧
 ∀D,H D=none→Q (.ref D) (upd H D (.dK (ZcS [] (ts.map (·.2)))))
def rInG:R2:=fun y x H Q=>∃a o,x=.ref a∧ZN H a y o∧Q (.bl o.isSome) H
def ZoK:R2:=fun y x H Q=>∃a o,x=.ref a∧ZN H a y o∧Q (.bl (!o.isSome)) H
def Zsu:R2:=fun x y H Q=>∃a v,x=.ref a∧ZN H a y (some v)∧Q v H
section
variable {X:Cx} {k:Nat}
theorem ZqW(hr:ZaV k X.A):OpR X (compareOp .NotIn) ZoK:=by
 intro pins s σ H x y v u Q I rx ry h
 obtain⟨a,o,rfl,g,q⟩:=h
 cases ry
 exact ZpI (ZkT hr) I g rx fun s3 I3=>⟨.bl (!o.isSome),H,I3,rfl,q⟩
def Zry:Zmk:=fun o i v H Q=>∃a H',o=.ref a∧ZbW H a i v H'∧Q H'
theorem ZdK(hr:ZaV k X.A):Zq5 X Zry:=by
 intro pins s σ H o i v ov iv u Q I ro ri rv h
 obtain⟨a,H',rfl,g,q⟩:=h
 cases ro
 exact Zlw (ZkT hr) I g ri rv fun s4 I4=>⟨H',I4,q⟩
theorem ZkH{prog:Program}{w:World}{A:Around}{E:Value→Shared→Prop}{s:Shared}{value slice:Expr}{o i:Value}{T id:String}{Q:Value→Shared→Prop}(hT:s.TypeIs o T)
  (hl:typeLookup (.type T) "__getitem__" = pure (some (.builtin id))) (hs:subscripted slice false o i=operate [o,i] (getItem o i)) (h:wpAny (model prog w) A (getItem o i) Q E s) :
  wpAny (model prog w) A (subscriptTail value slice o i) Q E s:=by
 unfold subscriptTail
 refine wpAny_bind ?_
 rw[getitemInPython_of_ne hT.not_modules]
 refine wpAny_bind (wpAny_specialOf hT hl ?_)
 have fin:wpAny (model prog w) A (subscripted slice false o i) (fun r s₃=>wpAny (model prog w) A (letTemporaryGo value o r >>= fun _=>pure r) Q E s₃) E s:=by
  rw[hs]
  exact wpAny_operating (wpAny_mono h (fun r s₃ h₃=>wpAny_bind (wpAny_letTemporaryGo (wpAny_pure h₃))) fun _ _ x=>x)
 first
  | exact wpAny_pure (wpAny_bind fin)
  | exact wpAny_bind (wpAny_pure (wpAny_bind fin))
  | exact wpAny_bind fin
theorem ixG(hr:ZaV k X.A):IxR X Zsu:=by
 intro value slice pins s σ H x y v u Q I rx ry h hs
 obtain⟨a,z,rfl,g,q⟩:=h
 cases rx
 exact ZkH (ZjT I g) PySem.F.slot_dict_getitem.lookup hs (Zly (ZkT hr) I g ry fun w' s' I' rw'=>⟨z,H,I',rw',q⟩)
def rEqE(neg:Bool):R2:=fun x y H Q=>∃a b kvs,x=.ref a∧y=.ref b∧H a=some (.dK kvs)∧H b=some (.dK [])∧Q (.bl (if neg then !kvs.isEmpty else kvs.isEmpty)) H
theorem Zsb:ZaF X (.builtin "len") (fun xs H Q=>∃a kvs,xs=[V.ref a]∧H a=some (.dK kvs)∧Q (.int kvs.length) H):=ZlE
theorem ZmW(hc:X.calm=true:=by rfl):ZaF X (.builtin "sorted") ZjA:=Ziw hc
theorem Zrq(hc:X.calm=true:=by rfl):ZaF X (.type "list") Zmn:=Zkb hc
end
mutual
inductive DH (H:Hp):V→PyData→Prop where
 | non:DH H .non .none
 | bl (b:Bool):DH H (.bl b) (.bool b)
 | int (i:Int):DH H (.int i) (.int i)
 | str (s:Str):DH H (.str s) (.str s)
 | lst {a:Addr} {xs:List V} {ds:List PyData}:H a=some (.lst xs)→DHs H xs ds→DH H (.ref a) (.list ds)
 | tup {a:Addr} {xs:List V} {ds:List PyData}:H a=some (.tup xs)→DHs H xs ds→DH H (.ref a) (.tuple ds)
inductive DHs (H:Hp):List V→List PyData→Prop where
 | nil:DHs H [] []
 | cons {x:V} {d:PyData} {xs:List V} {ds:List PyData}:DH H x d→DHs H xs ds→DHs H (x::xs) (d::ds)
end
mutual
theorem DH.mono{H H':Hp}(s:ZF H H'):∀ {x:V} {d:PyData},DH H x d→DH H' x d
 | _,_,.non=>.non
 | _,_,.bl b=>.bl b
 | _,_,.int i=>.int i
 | _,_,.str z=>.str z
 | _,_,.lst h hs=>.lst (s _ _ h) (DHs.mono s hs)
 | _,_,.tup h hs=>.tup (s _ _ h) (DHs.mono s hs)
theorem DHs.mono{H H':Hp}(s:ZF H H'):∀ {xs:List V} {ds:List PyData},DHs H xs ds→DHs H' xs ds
 | _,_,.nil=>.nil
 | _,_,.cons h hs=>.cons (DH.mono s h) (DHs.mono s hs)
end
mutual
theorem DH.dv{K:PySem.W.Frag}{H:Hp}:∀ {x:V} {d:PyData},DH H x d→DV K H x d
 | _,_,.non=>.non
 | _,_,.bl b=>.bl b
 | _,_,.int i=>.int i
 | _,_,.str z=>.str z
 | _,_,.lst h hs=>.lst (SqL.of h) (DHs.dv hs)
 | _,_,.tup h hs=>.tup (SqT.of h) (DHs.dv hs)
theorem DHs.dv{K:PySem.W.Frag}{H:Hp}:∀ {xs:List V} {ds:List PyData},DHs H xs ds→DVs K H xs ds
 | _,_,.nil=>.nil
 | _,_,.cons h hs=>.cons (DH.dv h) (DHs.dv hs)
end
def tyD:PyData→String
 | .none => "NoneType"
 | .bool _ => "bool"
 | .int _ => "int"
 | .str _ => "str"
 | .tuple _ => "tuple"
 | _ => "list"
def isIntD:PyData→Bool
 | .int _=>true
 | _=>false
def isBoolD:PyData→Bool
 | .bool _=>true
 | _=>false
def isLstD:PyData→Bool
 | .list _=>true
 | _=>false
def isTupD:PyData→Bool
 | .tuple _=>true
 | _=>false
def isStrD:PyData→Bool
 | .str _=>true
 | _=>false
section
open PySem.W
end
theorem Zie:∀ (more acc:List (Key×V)),((acc++more).map (·.1)).Nodup→ZcS acc more=acc++more
 | [],acc,_=>by show acc=_;rw[QaI]
 | x::r,acc,h=>by
  have hx:Z2 acc x.1=none:=by
   cases hv:Z2 acc x.1 with
   | none=>rfl
   | some v =>
    have:=Zpd hv
    rw[Qe,Qj]at h
    have:=(List.nodup_append.mp h).2.2 x.1 this x.1 (by simp)
    exact absurd rfl this
  show ZcS (Zbi acc x.1 x.2) r=_
  rw[ZbV _ hx,Zie r (acc++[x]) (by rw[QaR];exact h),QaR];rfl
theorem ZcC{kvs:List (Key×V)}{k:Key}{v:V}(h:Z2 kvs k=some v):(k,v)∈kvs:=by
 unfold Z2 at h
 obtain⟨p,hp,rfl⟩:=QaQ.mp h
 have h1:=List.find?_some hp
 have h2:=Qak hp
 have:p.1=k:=by simpa using h1
 rw[← this];exact h2
theorem ZcK{kvs:List (Key×V)}(hn:(kvs.map (·.1)).Nodup){k:Key}{v:V}(h:(k,v)∈kvs):Z2 kvs k=some v:=by
 induction kvs with
 | nil=>cases h
 | cons p r ih =>
  obtain⟨n1,n2⟩:=QR.mp (by simpa using hn:(p.1::r.map (·.1)).Nodup)
  rcases QI.mp h with rfl|h
  ·exact Zc0 rfl
  ·rw[Zdb fun e=>n1 (e ▸ Qd (f:=(·.1)) h)]
   exact ih n2 h
theorem Zk4{α:Type}(xs:List α):∀n,n≤xs.length→((List.range n).filterMap fun i=>xs[i]?)=xs.take n
 | 0,_=>by simp
 | n+1,h=>by
  have hn:n<xs.length:=by omega
  rw[QaJ,Qaw,Zk4 xs n (by omega),QH]
  simp[List.getElem?_eq_getElem hn]
theorem Ze9(x:Str)(n:Nat):(Txt.slice x none (some (n:Int))).cps.toList=x.cps.toList.take n:=by
 have hl:x.cps.toList.length=x.length:=by simp[Str.length]
 have e:Builtin.Str.strSliceIndices none (some (n:Int)) 1 x.length=List.range (min n x.length):=by
  unfold Builtin.Str.strSliceIndices sliceRange
  have hn:¬ ((n:Int)<0):=by omega
  simp only[show (1:Int)>0 by decide,if_true,hn,if_false]
  have e1:max 0 (min (n:Int) (x.length:Int))=((min n x.length:Nat):Int):=by omega
  rw[e1]
  split
  ·have e2:((((min n x.length:Nat):Int)-0+1-1) / 1).toNat=min n x.length:=by rw[Int.ediv_one];omega
   rw[e2]
   have:((fun (k:Nat)=>((0:Int)+1*(k:Int)).toNat))=id:=by funext k;simp
   rw[this,List.map_id]
  ·have e2:min n x.length=0:=by omega
   rw[e2];rfl
 unfold Txt.slice
 rw[e]
 split
 ·rename_i h
  have:min n x.length=x.length:=by simpa using h
  rw[Qu (by omega)]
 ·show List.filterMap _ _=_
  have:=Zk4 x.cps.toList (min n x.length) (by omega)
  simp only[Array.getElem?_toList]at this
  rw[this]
  rcases Nat.le_total n x.length with h|h
  ·rw[Qas h]
  ·rw[Nat.min_eq_right h,Qu (by omega),Qu (by omega)]
def tOrK(K:PySem.W.Frag)(ta tb:TE):TE:=fun σ H Q=>ta σ H fun x H1=>∃k,Zsm K x H1 k∧if k=true then Q x H1 else tb σ H1 Q
theorem ZN.fz{H:Hp}{a:Addr}{o:Obj}{kvs:List (Key×V)}{k:Key}{r:Option V}(e:H a=some (.frz o (.dK kvs)))(h:Z2 kvs k=r):ZN H a (kV k) r:=.inl ⟨kvs,k,.inr ⟨o,e⟩,rfl,h.symm⟩
theorem ZoC{d:Addr}{o:Obj}{kvs:List (Key×V)}{k:Nat}{D:Addr}{σ:L2.St}{H1:Hp}{g:TG}{tc:TT}{te:TE}{Q:VK}(Pv:Nat→List V→L2.St→Hp→Prop)(h0:Pv 0 [] (σ++List.replicate k none) (upd H1 D (.lst [])))
  (hl:∀i ys σ H,Pv i ys σ H→H d=some (.frz o (.dK kvs)))
  (hs:∀i k x ys σ H,kvs[i]? = some (k,x)→Pv i ys σ H→g (kV k) σ H fun σ4 H4=>tc σ4 H4 fun b H5=>if b=true then te σ4 H5 fun y H6=>H6 D=some (.lst ys)∧ys.length<sizeLine∧Pv (i+1) (ys++[y]) σ4 (upd H6 D (.lst (ys++[y]))) else Pv (i+1) ys σ4 H5)
  (hd:∀ys σ H,Pv kvs.length ys σ H→Q (.ref D) H):ZdM (Itk d o kvs) D k σ H1 g tc te Q:=by
 refine⟨fun i m ys σ H=>m=kvs.length-i∧i≤kvs.length∧Pv i ys σ H,⟨kvs.length,by simp,Qw _,h0⟩,?_⟩
 rintro i m ys σ H ⟨rfl,hi,p⟩
 have q1:=hl i ys σ H p
 by_cases hlt:i<kvs.length
 ·refine .inr ⟨⟨q1,hlt⟩,Pv (i+1),fun ys' σ' H' p'=>⟨kvs.length-(i+1),by omega,rfl,hlt,p'⟩,fun x H' y=>?_⟩
  obtain⟨rfl,k',x',e,rfl⟩:=y
  exact hs i k' x' ys σ _ e p
 ·have e:i=kvs.length:=by omega
  exact .inl ⟨⟨q1,by omega⟩,hd ys σ H (e ▸ p)⟩
theorem ZoL{d:Addr}{o:Obj}{kvs:List (Key×V)}{k:Nat}{D:Addr}{σ:L2.St}{H1:Hp}{g:TG}{tc:TT}{te:TE}{Q:VK}(Pv:Nat→List V→L2.St→Hp→Prop)(h0:Pv 0 [] (σ++List.replicate k none) (upd H1 D (.lst [])))
  (hl:∀i ys σ H,Pv i ys σ H→H d=some (.frz o (.dK kvs)))
  (hs:∀i k x ys σ H,kvs[i]? = some (k,x)→Pv i ys σ H→g x σ H fun σ4 H4=>tc σ4 H4 fun b H5=>if b=true then te σ4 H5 fun y H6=>H6 D=some (.lst ys)∧ys.length<sizeLine∧Pv (i+1) (ys++[y]) σ4 (upd H6 D (.lst (ys++[y]))) else Pv (i+1) ys σ4 H5)
  (hd:∀ys σ H,Pv kvs.length ys σ H→Q (.ref D) H):ZdM (Itv d o kvs) D k σ H1 g tc te Q:=by
 refine⟨fun i m ys σ H=>m=kvs.length-i∧i≤kvs.length∧Pv i ys σ H,⟨kvs.length,by simp,Qw _,h0⟩,?_⟩
 rintro i m ys σ H ⟨rfl,hi,p⟩
 have q1:=hl i ys σ H p
 by_cases hlt:i<kvs.length
 ·refine .inr ⟨⟨q1,hlt⟩,Pv (i+1),fun ys' σ' H' p'=>⟨kvs.length-(i+1),by omega,rfl,hlt,p'⟩,fun x H' y=>?_⟩
  obtain⟨rfl,k',e⟩:=y
  exact hs i k' x ys σ _ e p
 ·have e:i=kvs.length:=by omega
  exact .inl ⟨⟨q1,by omega⟩,hd ys σ H (e ▸ p)⟩
theorem Zo4{d:Addr}{o:Obj}{kvs:List (Key×V)}{k:Nat}{D:Addr}{σ:L2.St}{H1:Hp}{g:TG}{tc:TT}{te:TE}{Q:VK}(Pv:Nat→List V→L2.St→Hp→Prop)(h0:Pv 0 [] (σ++List.replicate k none) (upd H1 D (.lst [])))
  (hl:∀i ys σ H,Pv i ys σ H→H d=some (.frz o (.dK kvs)))
  (hs:∀i k x ys σ H p,kvs[i]? = some (k,x)→Pv i ys σ H→H p=none→g (.ref p) σ (upd H p (.tup [kV k,x])) fun σ4 H4=>tc σ4 H4 fun b H5=>if b=true then te σ4 H5 fun y H6=>H6 D=some (.lst ys)∧ys.length<sizeLine∧Pv (i+1) (ys++[y]) σ4 (upd H6 D (.lst (ys++[y]))) else Pv (i+1) ys σ4 H5)
  (hd:∀ys σ H,Pv kvs.length ys σ H→Q (.ref D) H):ZdM (Iti d o kvs) D k σ H1 g tc te Q:=by
 refine⟨fun i m ys σ H=>m=kvs.length-i∧i≤kvs.length∧Pv i ys σ H,⟨kvs.length,by simp,Qw _,h0⟩,?_⟩
 rintro i m ys σ H ⟨rfl,hi,p⟩
 have q1:=hl i ys σ H p
 by_cases hlt:i<kvs.length
 ·refine .inr ⟨⟨q1,hlt⟩,Pv (i+1),fun ys' σ' H' p'=>⟨kvs.length-(i+1),by omega,rfl,hlt,p'⟩,fun x H' y=>?_⟩
  obtain⟨r,k',x',hr,rfl,e,rfl⟩:=y
  exact hs i k' x' ys σ H r e p hr
 ·have e:i=kvs.length:=by omega
  exact .inl ⟨⟨q1,by omega⟩,hd ys σ H (e ▸ p)⟩
def off(p:Addr)(H:Hp):Hp:=fun b=>if b=p then none else H b
section
variable {prog:Program} {w:World} {A:Around} {R:Result→Shared→Prop} {I:Addr} {fp wr:List Addr} {G:Array GenState→Array GenState→Prop} {n:Nat} {P:Nat→Value→Prop} {St:Nat→Shared→Prop} {K:Type} [DecidableEq K] {knd:KeyKind prog w K}
end
def Zsd:V→List V→Hp→VK→Prop:=fun x vs H Q=>∃a kvs k v,x=.ref a∧vs=[kV k]∧H a=some (.dK kvs)∧Z2 kvs k=some v∧Q v (upd H a (.dK (ZcJ kvs k)))
theorem ZiG{X:Cx}:MtM X "dict.pop" Zsd:=by
 intro pins s σ H x vs v us Q I rx rv h
 obtain⟨a,kvs,k,y,rfl,rfl,hH,hv,q⟩:=h
 cases rx
 obtain⟨u,rfl,ru⟩:=rv.one
 exact ZrY I hH ru hv (.inl rfl) fun w' s' I' r'=>⟨y,_,I',r',q⟩
def rDUpd(K:PySem.W.Frag):V→List V→Hp→VK→Prop:=fun x vs H Q=>∃ (D a:Addr) (kvs:List (Key×V)) (ts:List (Addr×Key×V)),x=.ref D∧vs=[.ref a]∧H D=some (.dK kvs)∧H a=some (.lst (ts.map fun t=>V.ref t.1))∧(∀t∈ts,H t.1=some (.tup [kV t.2.1,t.2.2]))∧ts.length≤1000∧kvs.length≤100000 ∧
 Q .non (upd H D (.dK (ZcS kvs (ts.map (·.2)))))
theorem ZiP{X:Cx}{s:Stmt}:PS X s (fun _ _ _=>False):=fun pins s' σ H D I h=>h.elim
theorem Inv.laidMany{X:Cx}{pins:List (Addr×Obj)}{σ:St}{H H':Hp}{s:Shared}{h':Heap}{t':Nat}(I:Inv X pins σ H s)(k:∀b u,s.heap.get? b=some u→h'.get? b=some u)
  (same:∀b o,H b=some o→H' b=some o) (low:∀b,b<s.heap.objs.size→H' b=H b) (new:∀b o,H b=none→H' b=some o→Z7 X.prog X.w H' h' b o):Inv X pins σ H' { s with heap:=h',toks:=t' }:=by
 refine I.un (t':=t') ⟨fun b u q _ _ _=>k b u q,fun b u q _ _ _=>⟨u.slots,k b u q⟩,fun b u q n _=>by rw[low b (Qr q)];exact n,fun b u q _=>⟨u,k b u q⟩,fun b xs q=>same b _ q,fun b u xs q=>same b _ q,fun b ps q=>⟨#[],by rw[same b _ q];simp⟩⟩ fun b u e=>?_
 cases hb:H b with
 | none=>exact new b u hb e
 | some v =>
  have:=same b v hb
  rw[this]at e
  cases e
  exact(I.hok b _ hb).stay (fun c x _ q=>k c x q) (fun c q=>same c _ q) fun c xs q=>same c _ q
def ZdA(ts:List (Addr×Key×V))(l:Addr)(H:Hp):Hp:=fun b=>if b=l then some (.lst (ts.map fun t=>V.ref t.1)) else
 match ts.find? fun t=>decide (t.1=b) with
 | some t=>some (.tup [kV t.2.1,t.2.2])
 | none=>H b
theorem Zh3(ts:List (Addr×Key×V))(l:Addr)(H:Hp):ZdA ts l H l=some (.lst (ts.map fun t=>V.ref t.1)):=by unfold ZdA;rw[if_pos rfl]
theorem ZpC{ts:List (Addr×Key×V)}(nd:(ts.map (·.1)).Nodup){t:Addr×Key×V}(h:t∈ts):(ts.find? fun x=>decide (x.1=t.1))=some t:=by
 induction ts with
 | nil=>cases h
 | cons x r ih =>
  rw[Qj,QR]at nd
  rw[Q5]
  rcases QI.mp h with rfl|h
  ·rw[decide_eq_true rfl]
  ·rw[decide_eq_false (fun z:x.1=t.1=>nd.1 (by rw[z];exact Qd (f:=fun x:Addr×Key×V=>x.1) h))]
   exact ih nd.2 h
theorem ZhU{ts:List (Addr×Key×V)}{l:Addr}{H:Hp}(nd:(ts.map (·.1)).Nodup)(hl:l ∉ ts.map (·.1)){t:Addr×Key×V}(h:t∈ts):ZdA ts l H t.1=some (.tup [kV t.2.1,t.2.2]):=by
 unfold ZdA
 rw[if_neg (fun z:t.1=l=>hl (by rw[← z];exact Qd (f:=fun x:Addr×Key×V=>x.1) h)),ZpC nd h]
theorem Zei{ts:List (Addr×Key×V)}{l:Addr}{H:Hp}{b:Addr}(hl:b≠l)(h:b ∉ ts.map (·.1)):ZdA ts l H b=H b:=by
 unfold ZdA
 rw[if_neg hl]
 cases e:ts.find? fun t=>decide (t.1=b) with
 | none=>rfl
 | some t =>
  have h1:=List.find?_some e
  have h2:=Qak e
  have h3:t.1=b:=of_decide_eq_true h1
  exact absurd (by rw[← h3];exact Qd (f:=fun x:Addr×Key×V=>x.1) h2) h
def Zmi(to:TE):TE:=fun σ H Q=>to σ H fun x H1=>∃d kvs,x=.ref d∧H1 d=some (.dK kvs) ∧
 ∀ (l:Addr) (ts:List (Addr×Key×V)) (H2:Hp),H1 l=none→ts.map (·.2)=kvs→(∀t∈ts,H1 t.1=none∧H2 t.1=some (.tup [kV t.2.1,t.2.2]))→(∀b o,H1 b=some o→H2 b=some o)→H2 l=some (.lst (ts.map fun t=>V.ref t.1))→Q (.ref l) H2
theorem Zi6{X:Cx}{o:Expr}{to:TE}{apos cpos pos p:Pos}(hc:X.calm=true)(hg:Gl X "list")(hm:X.mg "list" = none)(ho:PE X o to)(hbase:attributeBase o "items" X.env (eval o X.env)=eval o X.env:=by rfl)(hline:(apos.endLine == cpos.line)=true:=by rfl)
  (he:starEach [.Call (.Attribute o "items" apos) [] [] cpos] X.env=[(false,eval (.Call (.Attribute o "items" apos) [] [] cpos) X.env)]:=by rfl) :
  PE X (.Call (.Name "list" p) [.Call (.Attribute o "items" apos) [] [] cpos] [] pos) (Zmi to):=by
 intro pins s σ H Q I h
 refine wpAny_Call_Name_kw (ZdP I hg hm boot_list ?_ (by decide) (by decide))
 refine QU (e:=.Call (.Attribute o "items" apos) [] [] cpos) (rest:=[]) ?_ he rfl
 rw[he]
 refine Calls.spliced_cons ?_
 refine wpAny_Call_method0_late hbase hline (thn (ho pins s σ H _ I h) fun v s1 ⟨x,H1,I1,r1,q1⟩=>?_)
 obtain⟨d,kvs,e,hd,q⟩:=q1
 subst e
 cases r1
 obtain⟨z,lo,vs,rel,ob,es,ep,h1,h2,h3,h4⟩:=(show Z7 X.prog X.w H1 s1.heap d (.dK kvs) from I1.hok d _ hd)
 have hlen:kvs.length=vs.length:=rel.length
 have dd:s1.heap.DictOf (ZM X.prog X.w) d vs:=⟨ob,es,ep,h1,h2,h3,h4⟩
 refine⟨"dict", "dict.items",QV,Qap,PySem.F.type_dict_items,dd.typeIs,fun a e=>?_,?_⟩
 ·cases e;exact⟨ob,h1,h2.2.1⟩
 refine Calls.callWith_builtin rfl (QaD ?_)
 refine call_meetsIn Qap dd.typeIs PySem.F.entry_dict_items (PySem.F.args_dict_items_1 _) (meets_dict_items (ZM X.prog X.w) d lo) ⟨⟨vs,dd⟩,?_⟩
 have hv:(s1.heap.push { cls:=.type "dict_items",data:=.fields #[.ref d] }).IsItemsView s1.heap.objs.size d:=⟨_,Qq _ rfl,rfl,rfl⟩
 have da:(s1.heap.push { cls:=.type "dict_items",data:=.fields #[.ref d] }).DictAt (ZM X.prog X.w) d vs ep:=⟨ob,es,Qc _ h1,h2,h3,h4⟩
 refine Calls.spliced_nil ?_
 refine PySem.W.kdx_call (s:={ s1 with heap:=s1.heap.push { cls:=.type "dict_items",data:=.fields #[.ref d] } }) (I1.ok.hd hc) hv da (by omega) fun h' tk acc c as k hL hla hG hacc=>?_
 have hps:(s1.heap.push { cls:=.type "dict_items",data:=.fields #[.ref d] }).objs.size=s1.heap.objs.size+1:=Q4 _ _
 have hlk:as.length=kvs.length:=by omega
 obtain⟨ts,e1,e2⟩:∃ts:List (Addr×Key×V),ts.map (·.1)=as∧ts.map (·.2)=kvs:=⟨as.zip kvs,by rw[List.map_fst_zip (by omega)],by rw[List.map_snd_zip (by omega)]⟩
 have hlo:∀a∈as,s1.heap.objs.size+1<a:=fun a ha=>by have:=hG.above a ha;rw[hps]at this;exact this
 have nda:(ts.map (·.1)).Nodup:=by rw[e1];exact hG.rise.imp fun h=>QD h
 have hnl:(s1.heap.push { cls:=.type "dict_items",data:=.fields #[.ref d] }).objs.size ∉ ts.map (·.1):=by rw[e1];intro z;have:=hlo _ z;omega
 have fr:∀b,s1.heap.objs.size≤b→H1 b=none:=fun b hb=>I1.hok.fresh hb
 have tup:∀t∈ts,∃key u,ZI (kV t.2.1) key∧ZI t.2.2 u∧h'.get? t.1=some { cls:=.type "tuple",data:=.seq #[key,u] }:=fun t ht=>by
  obtain⟨j,hj⟩:=Qay.mp ht
  have ja:as[j]? = some t.1:=by rw[← e1,Qp,hj];rfl
  have jk:kvs[j]? = some (t.2.1,t.2.2):=by rw[← e2,Qp,hj];rfl
  obtain⟨key,k',x,hv',hk',hg⟩:=hG.pairs j t.1 ja
  obtain⟨u,hu,ru⟩:=ZiO rel j t.2.1 t.2.2 jk
  rw[hv']at hu
  cases hu
  exact⟨key,_,Zgh hk',ru,hg⟩
 refine⟨.ref (s1.heap.push { cls:=.type "dict_items",data:=.fields #[.ref d] }).objs.size,ZdA ts (s1.heap.push { cls:=.type "dict_items",data:=.fields #[.ref d] }).objs.size H1,?_,rfl,q _ ts _ (fr _ (by omega)) e2 (fun t ht=>⟨fr _ ?_,ZhU nda hnl ht⟩) (fun b o hb=>?_) (Zh3 _ _ _)⟩
 ·refine I1.laidMany (h':=h') (t':=tk) (fun b u e=>k b u (Qc _ e)) (fun b o hb=>?_) (fun b hb=>?_) (fun b o hn hb=>?_)
  ·rw[Zei (fun z=>by rw[z,fr _ (by omega)]at hb;cases hb) (fun z=>by rw[e1]at z;rw[fr b (by have:=hlo b z;omega)]at hb;cases hb)]
   exact hb
  ·exact Zei (by rw[hps];exact QD (Nat.lt_succ_of_lt hb)) (fun z=>by rw[e1]at z;have:=hlo b z;omega)
  ·by_cases h5:b=(s1.heap.push { cls:=.type "dict_items",data:=.fields #[.ref d] }).objs.size
   ·subst h5
    rw[Zh3]at hb
    cases hb
    refine⟨by have:=congrArg List.length e2;rw[Qa]at this ⊢;omega,acc.toList,c,?_,by simpa using hL⟩
    rw[hacc,← e1,Qi]
    clear e1 e2 nda hnl tup
    induction ts with
    | nil=>exact .nil
    | cons t r ih=>exact .cons rfl ih
   ·by_cases h6:b∈ts.map (·.1)
    ·obtain⟨t,ht,rfl⟩:=Qn.mp h6
     rw[ZhU nda hnl ht]at hb
     cases hb
     obtain⟨key,u,rk,ru,hg⟩:=tup t ht
     exact⟨by show 2≤sizeLine;decide,[key,u],.cons rk (.cons ru .nil),_,hg,rfl,_,rfl⟩
    ·rw[Zei h5 h6,hn]at hb
     cases hb
 ·have:=hlo t.1 (by rw[← e1];exact Qd (f:=fun x:Addr×Key×V=>x.1) ht)
  omega
 ·rw[Zei (fun z=>by rw[z,fr _ (by omega)]at hb;cases hb) (fun z=>by rw[e1]at z;rw[fr b (by have:=hlo b z;omega)]at hb;cases hb)]
  exact hb
theorem Zp9{X:Cx}{k:Nat}{o e:Expr}{td ty:TE}{apos cpos:Pos}(hr:ZaV k X.A)(ho:PE X o td)(he:PE X e ty)(hb:attributeBase o "get" X.env (eval o X.env)=eval o X.env:=by rfl)
  (hl:(apos.endLine == cpos.line)=true:=by rfl) (ht:backTo cpos (starEach [e] X.env)=[(false,eval e X.env)]:=by rfl):PE X (.Call (.Attribute o "get" apos) [e] [] cpos) (ZmC td ty):=by
 refine Zm6 (ZkT hr) ho he ⟨hb,?_,hl,ht⟩
 rw[ht];rfl
section
variable {prog:Program} {w:World} {A:Around} {E:Value→Shared→Prop} {s:Shared} {l:Addr} {xs:Array (Int×Tok)}
end
def rMinQ(K:PySem.W.Frag):List V→Hp→VK→Prop:=fun vs H Q=>∃ (p:Addr) (ns:List Int),vs=[.ref p]∧SqT K H p (ns.map V.int)∧0<ns.length∧∀M,M∈ns→(∀a∈ns,M≤a)→Q (.int M) H
section
variable {X:Cx}
theorem ZoE{x:Str}{n:Int}{pos:Pos}(hm:∃tk,X.mg x=some (.int n tk))(hg:Gl X x:=by rfl)(hd:(x == ("__debug__" : Str))=false:=by decide):PE X (.Name x pos) (tC (.int n)):=by
 obtain⟨tk,h⟩:=hm
 exact Zpc hg h ⟨tk,rfl⟩ hd
end
section
variable {X:Cx}
theorem Zih:OpR X (compareOp .GtE) (fun x y H Q=>∃i j,x=.str i∧y=.str j∧Q (.bl (!decide (i.cps.toList<j.cps.toList))) H):=by
 intro pins s σ H x y v u Q I rx ry h
 obtain⟨i,j,rfl,rfl,q⟩:=h
 obtain⟨t,rfl⟩:=rx
 obtain⟨t',rfl⟩:=ry
 exact PySem.P.ge_str (ZX I q rfl)
end
def tThawS(t:TS):TS:=fun D σ H=>∃d u,H d=some u∧Mut (some u)∧t ⟨fun σ' H'=>∃o,H' d=some (.frz o u)∧D.nx σ' (upd H' d u),fun _ _=>False,fun _ _=>False,fun _ _=>False⟩ σ H
def ZsW(t u:TS):TS:=fun D σ H=>∃M:St→Hp→Prop,t { D with nx:=M } σ H∧∀σ' H',M σ' H'→u D σ' H'
theorem Zff{X:Cx}{st:Stmt}{rest:List Stmt}{t u:TS}(h1:PS X st t)(h2:PSs X rest u):PSs X (st::rest) (ZsW t u):=by
 intro pins s σ H D I h
 obtain⟨M,h,hm⟩:=h
 refine wpAny_execs_cons (thn (h1 pins s σ H { D with nx:=M } I h) fun f s1 q=>?_)
 cases f with
 | next =>
  obtain⟨σ',H',I',q⟩:=q
  exact h2 pins s1 σ' H' D I' (hm σ' H' q)
 | ret v=>exact q
 | brk=>exact q
 | cont=>exact q
end L2
set_option maxHeartbeats 1000000
namespace My
open PySem L2 PyProof.Rows
abbrev Ztl:=@List.tail Stmt
abbrev Zt2(x:List Stmt):=Ztl (Ztl x)
abbrev Zt4(x:List Stmt):=Zt2 (Zt2 x)
abbrev Zt8(x:List Stmt):=Zt4 (Zt4 x)
abbrev Zt16(x:List Stmt):=Zt8 (Zt8 x)
abbrev Zt32(x:List Stmt):=Zt16 (Zt16 x)
local macro_rules|`(‹$i:num›)=>`(@pv _ $i _ _ (by rfl) (Or.inl rfl) (by decide) (by decide))
local macro_rules|`(tactic|trivial)=>`(tactic|first|exact .inl rfl|exact .inr rfl|decide|exact Nat.le_refl _|omega)
local macro_rules
|`(#[Xns,$a,$b,$c])=>`(PySem.W.nsIn $a mainGlobals $b=some (some (.ref $c)))
|`(#[Xfi,$a,$b,$c,$d])=>`(PySem.W.findIn $a (.ref $b) $c=some (some (.ref $d)))
|`(#[Xlk,$z,$a,$b,$c,$d,$e,$f,$g,$h,$i,$j,$k,$l,$m])=>`(($z).lookup $a=some ⟨$b,$c,.func (PySem.W.fnOf $d $e (Zq $f) (Zn $f) (Zg $f) .none $g $h $i $j $k $l),$m⟩)
|`(#[Zf,$a,$b])=>`(@Zf _ _ _ _ _ $a $b)
|`(#[Zw,$a,$b,$c,$d])=>`(@Zw _ _ $a _ _ _ _ $b rfl $c $d (by rfl) (by trivial))
|`(#[ZG,$a,$b,$c])=>`(@ZG _ _ _ _ _ _ _ _ $a $b $c)
|`(#[Zi])=>`(@Zi _ _ _ _)
|`(#[Zj,$a])=>`(@Zj _ _ _ $a)
|`(#[Zs,$a])=>`(@Zs _ _ _ _ $a)
|`(#[Zbo,$a,$b,$c])=>`(@Zbo _ _ _ _ _ _ _ _ $a $b $c)
|`(#[Zm,$a,$b,$c,$d])=>`(@Zm _ _ _ _ _ _ _ _ $a $b $c $d)
|`(#[Zk,$a,$b,$c,$d,$e])=>`(@Zk _ _ _ _ _ _ _ _ _ $a $b $c $d $e (by decide) (by decide) (by rfl) (by rfl))
|`(#[Za,$a,$b])=>`(@Za _ _ _ _ _ $a $b (by rfl))
|`(#[Ze])=>`(@Ze _)
|`(#[Zo,$a,$b,$c])=>`(@Zo _ _ _ _ _ _ _ $a $b $c (fun _ _=>rfl))
|`(#[Zax,$a])=>`(@Zax _ _ _ _ $a)
|`(#[ZaR,$a,$b,$c,$d])=>`(@ZaR _ _ _ _ _ _ _ _ _ $a (by rfl) $b $c $d (by decide) (by decide) (by rfl) (by rfl))
|`(#[Zbf,$a,$b,$c,$d])=>`(@Zbf _ _ _ _ _ _ _ _ $a $b $c $d)
|`(#[Z3,$a,$b])=>`(@Z3 _ _ _ _ _ _ $a $b (by rfl) (by rfl) (by rfl))
|`(#[ZaQ,$a,$b,$c])=>`(@ZaQ _ _ _ _ _ _ _ $a $b $c (by intro _;rfl))
|`(#[ZZ,$a,$b,$c])=>`(@ZZ _ _ _ _ _ _ _ _ $a $b $c)
|`(#[ZE])=>`(@ZE _)
|`(#[Zy,$a,$b,$c,$d])=>`(@Zy _ _ _ _ _ _ _ _ _ _ _ $a $b $c (by trivial) $d (by decide) (by rfl) (by rfl))
|`(#[ZA])=>`(@ZA _ _ _ _)
|`(#[Zci,$a,$b,$c,$d,$e])=>`(@Zci _ _ _ _ _ _ _ _ _ _ _ _ _ _ $a rfl rfl rfl $b $c $d $e (by intro _;rfl))
|`(#[ZbL,$a,$b])=>`(@ZbL _ _ _ _ _ _ rfl $a $b (by rfl))
|`(#[pv,$a,$b])=>`(@pv _ $a _ _ (by rfl) $b (by decide) (by decide))
|`(#[cg,$a,$b])=>`(@cg _ _ _ _ _ _ _ _ _ _ _ $a $b rfl (by decide +kernel) (by rfl))
|`(#[cv,$a,$b])=>`(@cv _ _ _ _ _ _ _ _ _ _ _ $a $b rfl (by decide +kernel) (by rfl) (by decide) (by decide))
|`(#[Zd7,$a,$b,$c,$d,$e,$f])=>`(@Zd7 _ _ _ _ _ _ _ _ _ _ _ _ $a $b $c $d $e $f (by rfl) (by rfl) (by rfl) (by rfl) (by rfl))
|`(#[ZbC,$a,$b])=>`(@ZbC _ _ _ _ _ _ _ $a $b)
|`(#[Zbz,$a])=>`(@Zbz _ _ _ _ $a)
|`(#[ZcV,$a])=>`(@ZcV _ _ _ $a (by intro _;rfl))
|`(#[ZaC,$a])=>`(@ZaC _ _ _ _ _ $a)
|`(#[Zda,$a,$b])=>`(@Zda _ _ _ _ $a $b (by rfl) (by decide) (by decide))
|`(#[ZeQ,$a,$b])=>`(@ZeQ _ _ _ _ _ _ _ $a $b)
|`(#[gT,$a,$b,$c])=>`(@gT _ $a _ _ _ $b _ $c (by rfl) (by rfl) (by rfl) (by rfl))
|`(#[ZB,$a,$b])=>`(@ZB _ _ _ _ _ $a $b (by rfl))
|`(#[cw,$a,$b])=>`(@cw _ _ _ _ _ _ _ _ _ _ _ $a $b rfl (by decide +kernel) (by rfl) (by decide) (by decide))
|`(#[ZW])=>`(@ZW _ _ _)
|`(#[Zcv,$a,$b,$c,$d])=>`(@Zcv _ _ _ _ _ _ _ _ $a rfl $b $c $d (by intro _;rfl))
|`(#[ZD,$a,$b,$c])=>`(@ZD _ _ $a _ $b rfl $c (by trivial))
|`(#[Zab,$a])=>`(@Zab _ _ _ _ $a (by rfl))
|`(#[iE,$a,$b,$c])=>`(@iE _ $a _ _ _ _ _ _ _ $b $c (by rfl) (by rfl) (by rfl))
|`(#[ZbT,$a,$b,$c,$d])=>`(@ZbT _ _ _ _ _ _ _ _ _ _ $a $b $c $d)
|`(#[ZO,$a])=>`(@ZO _ _ _ _ _ $a (by rfl))
|`(#[Zay,$a,$b,$c,$d])=>`(@Zay _ _ _ _ _ _ _ _ _ _ _ _ $a $b $c $d (by trivial) (by rfl))
|`(#[ZbB,$a,$b])=>`(@ZbB _ _ _ _ _ _ _ _ $a $b (by rfl))
|`(#[ZeN,$a,$b,$c,$d,$e,$f,$g])=>`(@ZeN _ _ _ _ _ $a _ _ _ _ _ _ _ _ _ _ _ _ $b rfl (Or.inl rfl) $c rfl rfl rfl $d $e $f $g (by rfl) (by intro _;rfl) (by trivial))
|`(#[iL,$a,$b])=>`(@iL _ $a _ _ _ $b (by rfl))
|`(#[ZfP,$a,$b,$c,$d])=>`(@ZfP _ _ $a $b _ _ _ _ _ _ _ _ _ _ _ rfl $c rfl rfl (by decide) rfl rfl $d rfl (by rfl))
|`(#[ZdQ,$a,$b,$c])=>`(@ZdQ _ _ _ _ _ _ _ _ _ $a $b $c)
|`(#[Zde,$a,$b,$c])=>`(@Zde _ _ _ _ _ _ _ _ _ _ $a $b $c)
|`(#[ZcM,$a,$b,$c,$d,$e])=>`(@ZcM _ _ _ _ _ _ _ _ _ _ _ _ _ _ _ $a $b $c $d $e (by trivial) (by rfl) (by rfl) (by rfl))
|`(#[ZnT,$a,$b,$c])=>`(@ZnT _ _ _ _ _ _ _ _ _ _ _ _ $a $b $c (by trivial) (by rfl) (by decide) (by rfl) (by rfl))
def hdS:List Stmt→Stmt
 | a::_=>a
 | []=>.Pass ⟨0,0,0,0⟩
abbrev Z1:List Stmt:=PySem.Challenge.pw_mergetree_k60_whole_merges_walked.main.body
abbrev Zog:Stmt:=hdS (Zt2 Z1)
abbrev Zsj:Stmt:=hdS (Zt2 (Ztl Z1))
abbrev ZrH:Stmt:=hdS (Zt4 Z1)
abbrev Zho:Stmt:=hdS (Zt4 (Ztl Z1))
abbrev ZgH:Stmt:=hdS (Zt16 (Zt4 Z1))
abbrev Zah:Stmt:=hdS (Zt16 (Zt4 (Ztl Z1)))
abbrev Zru:Stmt:=hdS Z1
abbrev Zdl:Stmt:=hdS (Zt4 (Zt2 (Ztl Z1)))
abbrev Zc4:Stmt:=hdS (Zt8 Z1)
abbrev Zd3:Stmt:=hdS (Zt8 (Zt2 Z1))
abbrev Zed:Stmt:=hdS (Zt8 (Zt2 (Ztl Z1)))
abbrev Zbk:Stmt:=hdS (Zt8 (Zt4 Z1))
abbrev Zbm:Stmt:=hdS (Zt8 (Zt4 (Ztl Z1)))
abbrev ZbS:Stmt:=hdS (Zt8 (Zt4 (Zt2 Z1)))
abbrev Zbb:Stmt:=hdS (Zt16 Z1)
abbrev Zc3:Stmt:=hdS (Zt16 (Ztl Z1))
abbrev ZaZ:Stmt:=hdS (Zt16 (Zt4 (Zt2 Z1)))
abbrev Zbp:Stmt:=hdS (Zt16 (Zt4 (Zt2 (Ztl Z1))))
abbrev ZdO:Stmt:=hdS (Zt16 (Zt8 (Ztl Z1)))
abbrev Zdq:Stmt:=hdS (Zt16 (Zt8 (Zt2 Z1)))
abbrev Zdj:Stmt:=hdS (Zt16 (Zt8 (Zt2 (Ztl Z1))))
abbrev ZbG:Stmt:=hdS (Zt16 (Zt8 (Zt4 Z1)))
abbrev Zc8:Stmt:=hdS (Zt16 (Zt8 (Zt4 (Ztl Z1))))
abbrev Zdf:Stmt:=hdS (Zt16 (Zt8 (Zt4 (Zt2 Z1))))
abbrev Zd0:Stmt:=hdS (Zt16 (Zt8 (Zt4 (Zt2 (Ztl Z1)))))
abbrev Zdn:Stmt:=hdS (Zt32 Z1)
abbrev Zcp:Stmt:=hdS (Zt32 (Ztl Z1))
abbrev Zcs:Stmt:=hdS (Zt32 (Zt2 Z1))
abbrev Zb5:Stmt:=hdS (Zt32 (Zt2 (Ztl Z1)))
abbrev ZbI:Stmt:=hdS (Zt32 (Zt4 Z1))
abbrev Zco:Stmt:=hdS (Zt32 (Zt4 (Ztl Z1)))
abbrev ZcE:Stmt:=hdS (Zt32 (Zt4 (Zt2 Z1)))
abbrev ZcD:Stmt:=hdS (Zt32 (Zt4 (Zt2 (Ztl Z1))))
abbrev ZaX:Stmt:=hdS (Zt32 (Zt8 Z1))
abbrev Zdc:Stmt:=hdS (Zt32 (Zt8 (Ztl Z1)))
abbrev Zd2:Stmt:=hdS (Zt32 (Zt8 (Zt2 Z1)))
abbrev Zb2:Stmt:=hdS (Zt32 (Zt8 (Zt2 (Ztl Z1))))
abbrev Zcr:Stmt:=hdS (Zt32 (Zt8 (Zt4 Z1)))
abbrev Zbe:Stmt:=hdS (Zt32 (Zt8 (Zt4 (Ztl Z1))))
abbrev Zb4:Stmt:=hdS (Zt32 (Zt8 (Zt4 (Zt2 Z1))))
abbrev Zbu:Stmt:=hdS (Zt32 (Zt8 (Zt4 (Zt2 (Ztl Z1)))))
abbrev Zc2:Stmt:=hdS (Zt32 (Zt16 Z1))
abbrev ZcT:Stmt:=hdS (Zt32 (Zt16 (Ztl Z1)))
abbrev Zj6:Stmt:=Z6 Zho 0
abbrev Za7:Stmt:=Z6 ZgH 0
abbrev Zoi:Stmt:=Z6 ZgH 1
abbrev ZaW:Stmt:=Z6 ZgH 2
abbrev Za9:Stmt:=Z6 ZgH 3
abbrev Zaq:Stmt:=Z6 ZgH 4
abbrev ZaL:Stmt:=Z6 Zah 0
abbrev Zas:Stmt:=Z6 Zah 1
abbrev ZaK:Stmt:=Z6 Zah 2
abbrev Zac:Stmt:=Z6 Zah 3
abbrev Zaz:Stmt:=Z6 Zah 4
abbrev Zao:Stmt:=Z6 Zah 5
abbrev Z4:Stmt:=Z6 Zah 6
abbrev ZaD:Stmt:=Z6 Zah 7
abbrev Zoh:Stmt:=Z6 Zah 8
abbrev Zai:Stmt:=Z6 Zah 9
abbrev Zaa:Stmt:=Z6 Zah 10
abbrev ZaO:Stmt:=Z6 Zah 11
abbrev Zar:Stmt:=Z6 Zah 12
abbrev Z9:Stmt:=Z6 Zah 13
abbrev ZaJ:Stmt:=Z6 Zah 14
abbrev Zad:Stmt:=Z6 Zah 15
abbrev ZY:Stmt:=Z6 Zah 16
abbrev ZaI:Stmt:=Z6 Zah 17
theorem ZjQ:Zr ["_law_cell", "_law_k", "_law_m"] ["_law_cell", "_law_k"] (Zg ZdO):=⟨rfl,rfl,rfl,by decide +kernel,rfl,by decide +kernel,by decide +kernel⟩
theorem ZhW:Zr ["_law_script", "_law_k", "_law_cell"] ["_law_script", "_law_k"] (Zg Zdq):=⟨rfl,rfl,rfl,by decide +kernel,rfl,by decide +kernel,by decide +kernel⟩
theorem ZhR:Zr ["_law_left_here", "_law_many_here", "_law_digit"] ["_law_left_here", "_law_many_here"] (Zg Zdj):=⟨rfl,rfl,rfl,by decide +kernel,rfl,by decide +kernel,by decide +kernel⟩
theorem ZgD:Zr ["_law_left_here", "_law_some"] ["_law_left_here"] (Zg ZbG):=⟨rfl,rfl,rfl,by decide +kernel,rfl,by decide +kernel,by decide +kernel⟩
theorem Zgm:Zr ["_law_left_here", "_law_stems_here", "_law_letters", "_law_tail"] ["_law_left_here", "_law_stems_here"] (Zg Zc8):=⟨rfl,rfl,rfl,by decide +kernel,rfl,by decide +kernel,by decide +kernel⟩
theorem ZcQ:Zr ["one", "other", "far", "at"] ["one", "other", "far"] (Zg Zbm):=⟨rfl,rfl,rfl,by decide +kernel,rfl,by decide +kernel,by decide +kernel⟩
theorem ZmR:Zr ["one", "other"] ["one", "other"] (Zg Zd3):=⟨rfl,rfl,rfl,by decide +kernel,rfl,by decide +kernel,by decide +kernel⟩
theorem ZeO:Zr ["_law_one", "_law_other", "_law_far"] ["_law_one", "_law_other"] (Zg Zcs):=⟨rfl,rfl,rfl,by decide +kernel,rfl,by decide +kernel,by decide +kernel⟩
theorem ZhV:Zr ["_law_found", "_law_due"] ["_law_found", "_law_due"] (Zg Zco):=⟨rfl,rfl,rfl,by decide +kernel,rfl,by decide +kernel,by decide +kernel⟩
theorem Zdo:Zr ["_law_left_here", "_law_stems_here", "_law_most", "_law_found", "_law_k", "_law_key_here"] ["_law_left_here", "_law_stems_here", "_law_most"] (Zg Zdf):=⟨rfl,rfl,rfl,by decide +kernel,rfl,by decide +kernel,by decide +kernel⟩
theorem Zen:Zr ["row", "told", "place", "key"] ["row"] (Zg Zc3):=⟨rfl,rfl,rfl,by decide +kernel,rfl,by decide +kernel,by decide +kernel⟩
theorem ZjZ:Zr ["one", "other", "at"] ["one", "other", "at"] (Zg ZbS):=⟨rfl,rfl,rfl,by decide +kernel,rfl,by decide +kernel,by decide +kernel⟩
theorem Zof:Zr ["one", "other"] ["one", "other"] (Zg Zed):=⟨rfl,rfl,rfl,by decide +kernel,rfl,by decide +kernel,by decide +kernel⟩
theorem Zeu:Zr ["one", "other", "far", "at"] ["one", "other", "far"] (Zg Zbk):=⟨rfl,rfl,rfl,by decide +kernel,rfl,by decide +kernel,by decide +kernel⟩
theorem ZdS:Zr ["keys", "place"] ["keys"] (Zg Zbb):=⟨rfl,rfl,rfl,by decide +kernel,rfl,by decide +kernel,by decide +kernel⟩
theorem ZhY:Zr ["numbers", "middle"] ["numbers"] (Zg Zdl):=⟨rfl,rfl,rfl,by decide +kernel,rfl,by decide +kernel,by decide +kernel⟩
theorem ZfT:Zr ["_law_numbers", "_law_cut"] ["_law_numbers"] (Zg Zb5):=⟨rfl,rfl,rfl,by decide +kernel,rfl,by decide +kernel,by decide +kernel⟩
theorem Zic:Zr ["_law_left_here", "_law_way_here"] ["_law_left_here"] (Zg Zdn):=⟨rfl,rfl,rfl,by decide +kernel,rfl,by decide +kernel,by decide +kernel⟩
theorem Ziy:Zr ["self"] ["self"] (Zg ZaW):=⟨rfl,rfl,rfl,by decide +kernel,rfl,by decide +kernel,by decide +kernel⟩
theorem ZjB:Zr ["self"] ["self"] (Zg Za9):=⟨rfl,rfl,rfl,by decide +kernel,rfl,by decide +kernel,by decide +kernel⟩
theorem Zj0:Zr ["self", "keys"] ["self", "keys"] (Zg Za7):=⟨rfl,rfl,rfl,by decide +kernel,rfl,by decide +kernel,by decide +kernel⟩
theorem ZcW:Zr ["self", "rows", "number", "keys"] ["self", "rows"] (Zg ZaL):=⟨rfl,rfl,rfl,by decide +kernel,rfl,by decide +kernel,by decide +kernel⟩
theorem ZdE:Zr ["self", "row"] ["self"] (Zg Zas):=⟨rfl,rfl,rfl,by decide +kernel,rfl,by decide +kernel,by decide +kernel⟩
theorem Zhr:Zr ["self"] ["self"] (Zg Zaz):=⟨rfl,rfl,rfl,by decide +kernel,rfl,by decide +kernel,by decide +kernel⟩
theorem Zgq:Zr ["self"] ["self"] (Zg Zao):=⟨rfl,rfl,rfl,by decide +kernel,rfl,by decide +kernel,by decide +kernel⟩
theorem ZeK:Zr ["self"] ["self"] (Zg Z4):=⟨rfl,rfl,rfl,by decide +kernel,rfl,by decide +kernel,by decide +kernel⟩
theorem ZgQ:Zr ["self"] ["self"] (Zg ZaD):=⟨rfl,rfl,rfl,by decide +kernel,rfl,by decide +kernel,by decide +kernel⟩
theorem ZeZ:Zr ["self"] ["self"] (Zg Z9):=⟨rfl,rfl,rfl,by decide +kernel,rfl,by decide +kernel,by decide +kernel⟩
theorem Zam:Zr ["self", "numbers", "first_side", "other_side", "one", "other", "winner", "loser", "far"] ["self", "numbers"] (Zg ZaJ):=⟨rfl,rfl,rfl,by decide +kernel,rfl,by decide +kernel,by decide +kernel⟩
theorem ZbO:Zr ["self", "one", "other", "far", "order", "alike_far", "seen"] ["self", "one", "other", "far"] (Zg ZaI):=⟨rfl,rfl,rfl,by decide +kernel,rfl,by decide +kernel,by decide +kernel⟩
theorem ZdF:Zr ["number", "keys", "place"] ["number", "keys"] (Zg ZaZ):=⟨rfl,rfl,rfl,by decide +kernel,rfl,by decide +kernel,by decide +kernel⟩
theorem ZmU:Zr ["_law_left_here", "_law_stems_here", "_law_most"] ["_law_left_here", "_law_stems_here", "_law_most"] (Zg Zd0):=⟨rfl,rfl,rfl,by decide +kernel,rfl,by decide +kernel,by decide +kernel⟩
theorem ZfM:Zr ["_law_left_here", "_law_stems_here", "_law_most"] ["_law_left_here"] (Zg Zcp):=⟨rfl,rfl,rfl,by decide +kernel,rfl,by decide +kernel,by decide +kernel⟩
theorem ZgV:Zr ["_law_heads_here", "_law_numbers", "_law_some"] ["_law_heads_here", "_law_numbers"] (Zg ZbI):=⟨rfl,rfl,rfl,by decide +kernel,rfl,by decide +kernel,by decide +kernel⟩
theorem Zdt:Zr ["_law_rows_here", "_law_own", "_law_n", "_law_row_here"] ["_law_rows_here"] (Zg ZcE):=⟨rfl,rfl,rfl,by decide +kernel,rfl,by decide +kernel,by decide +kernel⟩
theorem Zez:Zr ["_law_own", "_law_heads_here", "_law_n"] ["_law_own"] (Zg ZcD):=⟨rfl,rfl,rfl,by decide +kernel,rfl,by decide +kernel,by decide +kernel⟩
theorem ZaE:Zr ["_law_heads_here", "_law_numbers", "_law_one", "_law_other", "_law_here", "_law_there", "_law_a", "_law_b"] ["_law_heads_here", "_law_numbers"] (Zg ZaX):=⟨rfl,rfl,rfl,by decide +kernel,rfl,by decide +kernel,by decide +kernel⟩
theorem Zeg:Zr ["_law_own", "_law_heads_here", "_law_likenings", "_law_looks"] ["_law_own"] (Zg Zdc):=⟨rfl,rfl,rfl,by decide +kernel,rfl,by decide +kernel,by decide +kernel⟩
theorem Zd4:Zr ["_law_own", "_law_heads_here", "_law_n"] ["_law_own"] (Zg Zb2):=⟨rfl,rfl,rfl,by decide +kernel,rfl,by decide +kernel,by decide +kernel⟩
theorem ZiR:Zr ["_law_own"] ["_law_own"] (Zg Zbe):=⟨rfl,rfl,rfl,by decide +kernel,rfl,by decide +kernel,by decide +kernel⟩
theorem ZcO:Zr ["_law_merge", "_law_own", "_law_heads_here", "_law_so_far", "_law_told"] ["_law_merge", "_law_own"] (Zg Zb4):=⟨rfl,rfl,rfl,by decide +kernel,rfl,by decide +kernel,by decide +kernel⟩
theorem Zev:Zr ["self", "thing"] ["self"] (Zg ZaK):=⟨rfl,rfl,rfl,by decide +kernel,rfl,by decide +kernel,by decide +kernel⟩
theorem ZcI:Zr ["self", "many", "things"] ["self", "many"] (Zg Zac):=⟨rfl,rfl,rfl,by decide +kernel,rfl,by decide +kernel,by decide +kernel⟩
theorem ZaH:Zr ["self", "number", "row", "comer", "meeting"] ["self", "number"] (Zg Zad):=⟨rfl,rfl,rfl,by decide +kernel,rfl,by decide +kernel,by decide +kernel⟩
theorem Zau:Zr ["self", "meeting", "comer", "stayer", "winner", "loser", "far"] ["self", "meeting", "comer"] (Zg ZY):=⟨rfl,rfl,rfl,by decide +kernel,rfl,by decide +kernel,by decide +kernel⟩
theorem ZaM:Zr ["numbers", "n", "matches", "least", "greatest", "others"] ["numbers", "n"] (Zg Zbp):=⟨rfl,rfl,rfl,by decide +kernel,rfl,by decide +kernel,by decide +kernel⟩
theorem ZbJ:Zr ["numbers", "n", "others", "side", "first", "rest"] ["numbers", "n"] (Zg Zc4):=⟨rfl,rfl,rfl,by decide +kernel,rfl,by decide +kernel,by decide +kernel⟩
theorem Zdi:Zr ["_law_numbers", "_law_n", "_law_some", "_law_way_here", "_law_one", "_law_other"] ["_law_numbers", "_law_n"] (Zg Zd2):=⟨rfl,rfl,rfl,by decide +kernel,rfl,by decide +kernel,by decide +kernel⟩
theorem ZaN:Zr ["_law_own", "_law_thing", "_law_n", "_law_place", "_law_key_here", "_law_heads_here", "_law_here", "_law_there", "_law_a", "_law_b", "_law_far"] ["_law_own"] (Zg Zcr):=⟨rfl,rfl,rfl,by decide +kernel,rfl,by decide +kernel,by decide +kernel⟩
theorem Zc6:Zr ["self", "row", "number"] ["self", "row"] (Zg Zai):=⟨rfl,rfl,rfl,by decide +kernel,rfl,by decide +kernel,by decide +kernel⟩
theorem ZfW:Zr ["self", "keys"] ["self", "keys"] (Zg Zaq):=⟨rfl,rfl,rfl,by decide +kernel,rfl,by decide +kernel,by decide +kernel⟩
theorem Zf1:Zr ["self", "n"] ["self", "n"] (Zg Zar):=⟨rfl,rfl,rfl,by decide +kernel,rfl,by decide +kernel,by decide +kernel⟩
theorem ZcG:Zr ["self", "n", "many"] ["self", "n"] (Zg Zaa):=⟨rfl,rfl,rfl,by decide +kernel,rfl,by decide +kernel,by decide +kernel⟩
theorem ZcU:Zr ["self", "n", "keys", "row", "sent_nothing"] ["self", "n", "keys"] (Zg ZaO):=⟨rfl,rfl,rfl,by decide +kernel,rfl,by decide +kernel,by decide +kernel⟩
theorem Zbd:Zr ["_law_left_here", "_law_own", "_law_stems_here", "_law_numbers", "_law_way_here", "_law_n", "_law_least_here", "_law_keys_here", "_law_most"] ["_law_left_here", "_law_own", "_law_stems_here"] (Zg Zbu):=⟨rfl,rfl,rfl,by decide +kernel,rfl,by decide +kernel,by decide +kernel⟩
theorem ZbH:Zr ["_law_merge", "_law_own", "_law_deed", "_law_word", "_law_n", "_law_keys_here", "_law_kept", "_law_many_here", "_law_sent_none"] ["_law_merge", "_law_own", "_law_deed"] (Zg Zc2):=⟨rfl,rfl,rfl,by decide +kernel,rfl,by decide +kernel,by decide +kernel⟩
theorem ZcA:Zr ["_law_script", "_law_k", "_law_left_here", "_law_rows_here", "_law_stems_here", "_law_own", "_law_merge", "_law_turn", "_law_way_here", "_law_many_here", "_law_due", "_law_deed"] ["_law_script"] (Zg ZcT):=⟨rfl,rfl,rfl,by decide +kernel,rfl,by decide +kernel,by decide +kernel⟩
def ZpF:Scope:={ kind:=.function,names:=[(Str.ofString ".0",.«local»),(Str.ofString "_law_k",.«local»),(Str.ofString "_law_pick",.globalImplicit),(Str.ofString "_law_left_here",.free),(Str.ofString "_law_some",.free)],isGenerator:=false,isCoroutine:=false,more:=[] }
theorem ZmL:Zan ["_law_left_here", "_law_some"] ["_law_left_here", "_law_some", "_law_k"] (Zg ZbG) ZpF:=⟨rfl,rfl,by decide +kernel,by decide +kernel,by decide +kernel,by decide,by decide +kernel,by decide +kernel⟩
def ZrE:Scope:={ kind:=.function,names:=[(Str.ofString ".0",.«local»),(Str.ofString "_law_k",.«local»),(Str.ofString "_law_pick",.globalImplicit),(Str.ofString "_law_left_here",.cell),(Str.ofString "_law_some",.cell)],isGenerator:=false,isCoroutine:=false,more:=[] }
def ZpH:Scope:={ kind:=.function,names:=[(Str.ofString ".0",.«local»),(Str.ofString "_law_k",.«local»),(Str.ofString "_law_pick",.globalImplicit),(Str.ofString "len",.globalImplicit),(Str.ofString "_law_left_here",.free),(Str.ofString "_law_letters",.free)],isGenerator:=false,isCoroutine:=false,more:=[] }
theorem Zkk:Zan ["_law_left_here", "_law_stems_here", "_law_letters", "_law_tail"] ["_law_left_here", "_law_stems_here", "_law_letters", "_law_tail", "_law_k"] (Zg Zc8) ZpH:=⟨rfl,rfl,by decide +kernel,by decide +kernel,by decide +kernel,by decide,by decide +kernel,by decide +kernel⟩
def ZrM:Scope:={ kind:=.function,names:=[(Str.ofString ".0",.«local»),(Str.ofString "_law_k",.«local»),(Str.ofString "_law_pick",.globalImplicit),(Str.ofString "len",.globalImplicit),(Str.ofString "_law_left_here",.cell),(Str.ofString "_law_letters",.cell)],isGenerator:=false,isCoroutine:=false,more:=[] }
def Zom:Scope:={ kind:=.function,names:=[(Str.ofString ".0",.«local»),(Str.ofString "_law_one",.«local»),(Str.ofString "_law_other",.«local»),(Str.ofString "_law_same",.globalImplicit)],isGenerator:=false,isCoroutine:=false,more:=[] }
theorem ZlA:Zan ["_law_found", "_law_due"] ["_law_found", "_law_due", "_law_one", "_law_other"] (Zg Zco) Zom:=⟨rfl,rfl,by decide +kernel,by decide +kernel,by decide +kernel,by decide,by decide +kernel,by decide +kernel⟩
def Zrp:Scope:={ kind:=.function,names:=[(Str.ofString ".0",.«local»),(Str.ofString "_law_one",.«local»),(Str.ofString "_law_other",.«local»),(Str.ofString "_law_same",.globalImplicit)],isGenerator:=false,isCoroutine:=false,more:=[] }
def Zpi:Scope:={ kind:=.function,names:=[(Str.ofString ".0",.«local»),(Str.ofString "row",.«local»)],isGenerator:=false,isCoroutine:=false,more:=[] }
theorem Zqr:Zan ["self"] ["self", "row"] (Zg Zaz) Zpi:=⟨rfl,rfl,by decide +kernel,by decide +kernel,by decide +kernel,by decide,by decide +kernel,by decide +kernel⟩
def Zrt:Scope:={ kind:=.function,names:=[(Str.ofString ".0",.«local»),(Str.ofString "row",.«local»)],isGenerator:=false,isCoroutine:=false,more:=[] }
def ZoT:Scope:={ kind:=.function,names:=[(Str.ofString ".0",.«local»),(Str.ofString "number",.«local»),(Str.ofString "row",.«local»)],isGenerator:=false,isCoroutine:=false,more:=[] }
theorem Zn9:Zan ["self"] ["self", "number", "row"] (Zg Zao) ZoT:=⟨rfl,rfl,by decide +kernel,by decide +kernel,by decide +kernel,by decide,by decide +kernel,by decide +kernel⟩
def Zrc:Scope:={ kind:=.function,names:=[(Str.ofString ".0",.«local»),(Str.ofString "number",.«local»),(Str.ofString "row",.«local»)],isGenerator:=false,isCoroutine:=false,more:=[] }
def Zpe:Scope:={ kind:=.function,names:=[(Str.ofString ".0",.«local»),(Str.ofString "_law_k",.«local»),(Str.ofString "_law_row",.globalImplicit),(Str.ofString "_law_left_here",.free),(Str.ofString "_law_most",.free),(Str.ofString "_law_stems_here",.free)],isGenerator:=false,isCoroutine:=false,more:=[] }
theorem ZlX:Zan ["_law_left_here", "_law_stems_here", "_law_most"] ["_law_left_here", "_law_stems_here", "_law_most", "_law_k"] (Zg Zcp) Zpe:=⟨rfl,rfl,by decide +kernel,by decide +kernel,by decide +kernel,by decide,by decide +kernel,by decide +kernel⟩
def ZrU:Scope:={ kind:=.function,names:=[(Str.ofString ".0",.«local»),(Str.ofString "_law_k",.«local»),(Str.ofString "_law_row",.globalImplicit),(Str.ofString "_law_left_here",.cell),(Str.ofString "_law_most",.cell),(Str.ofString "_law_stems_here",.cell)],isGenerator:=false,isCoroutine:=false,more:=[] }
def Zow:Scope:={ kind:=.function,names:=[(Str.ofString ".0",.«local»),(Str.ofString "_law_n",.«local»),(Str.ofString "_law_heads_here",.free)],isGenerator:=false,isCoroutine:=false,more:=[] }
theorem Zkp:Zan ["_law_heads_here", "_law_numbers", "_law_some"] ["_law_heads_here", "_law_numbers", "_law_some", "_law_n"] (Zg ZbI) Zow:=⟨rfl,rfl,by decide +kernel,by decide +kernel,by decide +kernel,by decide,by decide +kernel,by decide +kernel⟩
def Zr6:Scope:={ kind:=.function,names:=[(Str.ofString ".0",.«local»),(Str.ofString "_law_n",.«local»),(Str.ofString "_law_heads_here",.cell)],isGenerator:=false,isCoroutine:=false,more:=[] }
def Zpw:Scope:={ kind:=.function,names:=[(Str.ofString ".0",.«local»),(Str.ofString "_law_n",.«local»),(Str.ofString "len",.globalImplicit),(Str.ofString "_law_own",.free)],isGenerator:=false,isCoroutine:=false,more:=[] }
theorem ZkI:Zan ["_law_own"] ["_law_own", "_law_n"] (Zg Zbe) Zpw:=⟨rfl,rfl,by decide +kernel,by decide +kernel,by decide +kernel,by decide,by decide +kernel,by decide +kernel⟩
def Zr9:Scope:={ kind:=.function,names:=[(Str.ofString ".0",.«local»),(Str.ofString "_law_n",.«local»),(Str.ofString "len",.globalImplicit),(Str.ofString "_law_own",.cell)],isGenerator:=false,isCoroutine:=false,more:=[] }
def Zoy:Scope:={ kind:=.function,names:=[(Str.ofString ".0",.«local»),(Str.ofString "_law_key_here",.«local»),(Str.ofString "_law_least_here",.free)],isGenerator:=false,isCoroutine:=false,more:=[] }
theorem Zmm:Zan ["_law_left_here", "_law_own", "_law_stems_here", "_law_numbers", "_law_way_here", "_law_n", "_law_least_here", "_law_keys_here", "_law_most"] ["_law_left_here", "_law_own", "_law_stems_here", "_law_numbers", "_law_way_here", "_law_n", "_law_least_here", "_law_keys_here", "_law_most", "_law_key_here"] (Zg Zbu) Zoy:=⟨rfl,rfl,by decide +kernel,by decide +kernel,by decide +kernel,by decide,by decide +kernel,by decide +kernel⟩
def Zre:Scope:={ kind:=.function,names:=[(Str.ofString ".0",.«local»),(Str.ofString "_law_key_here",.«local»),(Str.ofString "_law_least_here",.cell)],isGenerator:=false,isCoroutine:=false,more:=[] }
def Zov:Scope:={ kind:=.function,names:=[(Str.ofString ".0",.«local»),(Str.ofString "_law_key_here",.«local»),(Str.ofString "_law_least_here",.free)],isGenerator:=false,isCoroutine:=false,more:=[] }
theorem Zpz:Zan ["_law_left_here", "_law_own", "_law_stems_here", "_law_numbers", "_law_way_here", "_law_n", "_law_least_here", "_law_keys_here", "_law_most"] ["_law_left_here", "_law_own", "_law_stems_here", "_law_numbers", "_law_way_here", "_law_n", "_law_least_here", "_law_keys_here", "_law_most", "_law_key_here"] (Zg Zbu) Zov:=⟨rfl,rfl,by decide +kernel,by decide +kernel,by decide +kernel,by decide,by decide +kernel,by decide +kernel⟩
def Zrk:Scope:={ kind:=.function,names:=[(Str.ofString ".0",.«local»),(Str.ofString "_law_key_here",.«local»),(Str.ofString "_law_least_here",.cell)],isGenerator:=false,isCoroutine:=false,more:=[] }
def ZmQ:Scope:={ kind:=.function,names:=[(Str.ofString ".0",.«local»),(Str.ofString "_law_key_here",.«local»),(Str.ofString "_law_least_here",.free)],isGenerator:=false,isCoroutine:=false,more:=[] }
theorem Zjb:Zan ["_law_left_here", "_law_own", "_law_stems_here", "_law_numbers", "_law_way_here", "_law_n", "_law_least_here", "_law_keys_here", "_law_most"] ["_law_left_here", "_law_own", "_law_stems_here", "_law_numbers", "_law_way_here", "_law_n", "_law_least_here", "_law_keys_here", "_law_most", "_law_key_here"] (Zg Zbu) ZmQ:=⟨rfl,rfl,by decide +kernel,by decide +kernel,by decide +kernel,by decide,by decide +kernel,by decide +kernel⟩
def Zrb:Scope:={ kind:=.function,names:=[(Str.ofString ".0",.«local»),(Str.ofString "_law_key_here",.«local»),(Str.ofString "_law_least_here",.cell)],isGenerator:=false,isCoroutine:=false,more:=[] }
def Znf:Scope:={ kind:=.function,names:=[(Str.ofString ".0",.«local»),(Str.ofString "_law_again",.«local»),(Str.ofString "_law_taken",.globalImplicit),(Str.ofString "_law_own",.free)],isGenerator:=false,isCoroutine:=false,more:=[] }
theorem Zlj:Zan ["_law_script", "_law_k", "_law_left_here", "_law_rows_here", "_law_stems_here", "_law_own", "_law_merge", "_law_turn", "_law_way_here", "_law_many_here", "_law_due", "_law_deed"] ["_law_script", "_law_k", "_law_left_here", "_law_rows_here", "_law_stems_here", "_law_own", "_law_merge", "_law_turn", "_law_way_here", "_law_many_here", "_law_due", "_law_deed", "_law_again"] (Zg ZcT) Znf:=⟨rfl,rfl,by decide +kernel,by decide +kernel,by decide +kernel,by decide,by decide +kernel,by decide +kernel⟩
def Zra:Scope:={ kind:=.function,names:=[(Str.ofString ".0",.«local»),(Str.ofString "_law_again",.«local»),(Str.ofString "_law_taken",.globalImplicit),(Str.ofString "_law_own",.cell)],isGenerator:=false,isCoroutine:=false,more:=[] }
structure Bt (mg:Str→Option Value):Prop where
 n_abs:mg "abs" = none
 n_all:mg "all" = none
 n_bool:mg "bool" = none
 n_enumerate:mg "enumerate" = none
 n_int:mg "int" = none
 n_isinstance:mg "isinstance" = none
 n_len:mg "len" = none
 n_list:mg "list" = none
 n_max:mg "max" = none
 n_min:mg "min" = none
 n_range:mg "range" = none
 n_sorted:mg "sorted" = none
 n_str:mg "str" = none
 n_sum:mg "sum" = none
 n_tuple:mg "tuple" = none
 n_zip:mg "zip" = none
structure Zaf (K:PySem.W.Frag) (mg:Str→Option Value) (cRow:Addr) (cMerge:Addr):Prop where
 b:Bt mg
 t_halves:Top K mg "halves" Zdl ["numbers"]
 t_way_up:Top K mg "way_up" Zc4 ["numbers", "n"]
 t_alike:Top K mg "alike" Zd3 ["one", "other"]
 t_liken:Top K mg "liken" Zed ["one", "other"]
 t_liken_from:Top K mg "liken_from" Zbk ["one", "other", "far"]
 t_alike_from:Top K mg "alike_from" Zbm ["one", "other", "far"]
 t_order_at:Top K mg "order_at" ZbS ["one", "other", "at"]
 t_first_break:Top K mg "first_break" Zbb ["keys"]
 t_alikes:Top K mg "alikes" Zc3 ["row"]
 t_refuse_break:Top K mg "refuse_break" ZaZ ["number", "keys"]
 t_matches_up:Top K mg "matches_up" Zbp ["numbers", "n"]
 t_l_mix:Top K mg "_law_mix" ZdO ["_law_cell", "_law_k"]
 t_l_left:Top K mg "_law_left" Zdq ["_law_script", "_law_k"]
 t_l_pick:Top K mg "_law_pick" Zdj ["_law_left_here", "_law_many_here"]
 t_l_stems:Top K mg "_law_stems" ZbG ["_law_left_here"]
 t_l_key:Top K mg "_law_key" Zc8 ["_law_left_here", "_law_stems_here"]
 t_l_keys:Top K mg "_law_keys" Zdf ["_law_left_here", "_law_stems_here", "_law_most"]
 t_l_row:Top K mg "_law_row" Zd0 ["_law_left_here", "_law_stems_here", "_law_most"]
 t_l_many:Top K mg "_law_many" Zdn ["_law_left_here"]
 t_l_rows:Top K mg "_law_rows" Zcp ["_law_left_here"]
 t_l_alike:Top K mg "_law_alike" Zcs ["_law_one", "_law_other"]
 t_l_halves:Top K mg "_law_halves" Zb5 ["_law_numbers"]
 t_l_least:Top K mg "_law_least" ZbI ["_law_heads_here", "_law_numbers"]
 t_l_same:Top K mg "_law_same" Zco ["_law_found", "_law_due"]
 t_l_world:Top K mg "_law_world" ZcE ["_law_rows_here"]
 t_l_heads:Top K mg "_law_heads" ZcD ["_law_own"]
 t_l_first_play:Top K mg "_law_first_play" ZaX ["_law_heads_here", "_law_numbers"]
 t_l_play:Top K mg "_law_play" Zdc ["_law_own"]
 t_l_way:Top K mg "_law_way" Zd2 ["_law_numbers", "_law_n"]
 t_l_coming:Top K mg "_law_coming" Zb2 ["_law_own"]
 t_l_taken:Top K mg "_law_taken" Zcr ["_law_own"]
 t_l_left_of:Top K mg "_law_left_of" Zbe ["_law_own"]
 t_l_stands:Top K mg "_law_stands" Zb4 ["_law_merge", "_law_own"]
 t_l_late:Top K mg "_law_late" Zbu ["_law_left_here", "_law_own", "_law_stems_here"]
 t_l_done:Top K mg "_law_done" Zc2 ["_law_merge", "_law_own", "_law_deed"]
 t_Row_init:Zpa K mg cRow "Row" "Row.__init__" Za7 ["self", "keys"]
 t_Row_to_go:ZcR K cRow "to_go" "Row.to_go" ZaW ["self"]
 t_Row_head:ZcR K cRow "head" "Row.head" Za9 ["self"]
 t_Row_lengthen:ZcR K cRow "lengthen" "Row.lengthen" Zaq ["self", "keys"]
 t_Merge_init:Zpa K mg cMerge "Merge" "Merge.__init__" ZaL ["self", "rows"]
 t_Merge_coming:ZcR K cMerge "coming" "Merge.coming" Zas ["self"]
 t_Merge_take:ZcR K cMerge "take" "Merge.take" ZaK ["self"]
 t_Merge_take_few:ZcR K cMerge "take_few" "Merge.take_few" Zac ["self", "many"]
 t_Merge_left:ZcR K cMerge "left" "Merge.left" Zaz ["self"]
 t_Merge_heads:ZcR K cMerge "heads" "Merge.heads" Zao ["self"]
 t_Merge_likenings:ZcR K cMerge "likenings" "Merge.likenings" Z4 ["self"]
 t_Merge_looks:ZcR K cMerge "looks" "Merge.looks" ZaD ["self"]
 t_Merge_add_row:ZcR K cMerge "add_row" "Merge.add_row" Zai ["self", "row"]
 t_Merge_drop_row:ZcR K cMerge "drop_row" "Merge.drop_row" Zaa ["self", "n"]
 t_Merge_grow:ZcR K cMerge "grow" "Merge.grow" ZaO ["self", "n", "keys"]
 t_Merge_row_of:ZcR K cMerge "row_of" "Merge.row_of" Zar ["self", "n"]
 t_Merge_play_all:ZcR K cMerge "play_all" "Merge.play_all" Z9 ["self"]
 t_Merge_play:ZcR K cMerge "play" "Merge.play" ZaJ ["self", "numbers"]
 t_Merge_send_out:ZcR K cMerge "send_out" "Merge.send_out" Zad ["self", "number"]
 t_Merge_play_again:ZcR K cMerge "play_again" "Merge.play_again" ZY ["self", "meeting", "comer"]
 t_Merge_meet:ZcR K cMerge "meet" "Merge.meet" ZaI ["self", "one", "other", "far"]
 cl_Row:Cls K cRow
 na_Row_all_keys:Zbj K cRow "all_keys"
 na_Row_fars:Zbj K cRow "fars"
 na_Row_gone:Zbj K cRow "gone"
 cl_Merge:Cls K cMerge
 na_Merge_best:Zbj K cMerge "best"
 na_Merge_likened:Zbj K cMerge "likened"
 na_Merge_looked:Zbj K cMerge "looked"
 na_Merge_next_number:Zbj K cMerge "next_number"
 na_Merge_rows:Zbj K cMerge "rows"
 na_Merge_stays:Zbj K cMerge "stays"
 g_MOST_ROWS:∃tk,mg "MOST_ROWS" = some (.int 16 tk)
def Zap(H:Hp)(p:Addr)(c:Int):Prop:=∃a b:Int,H p=some (.lst [.int a,.int b,.int c])∧0≤c
def But(p:Addr)(H H':Hp):Prop:=∀b o,H b=some o→b≠p→H' b=some o
theorem But.trans{p:Addr}{H H1 H2:Hp}(a:But p H H1)(b:But p H1 H2):But p H H2:=fun c o h n=>b c o (a c o h n) n
theorem But.same{p:Addr}{H H1:Hp}(a:ZF H H1):But p H H1:=fun c o h _=>a c o h
theorem Zh{H:Hp}{p:Addr}(h:H p=none)(o:HO):ZF H (upd H p o):=fun b u q=>by rw[Zb (Zc q h)];exact q
theorem Za6{n:Nat}(h:n≤1000):n≤sizeLine:=Qam (ZC h)
def ZnH:Sp:=fun vs H Q _=>∃a k:Int,vs=[.int a,.int k] ∧ -(2 ^ 62)<k∧k<2 ^ 62∧∀r:Int,0≤r→r<2000000000→Q (.int r) H
def Zm4(K:PySem.W.Frag):Sp:=fun vs H Q _=>∃ (a:Addr) (ns:List Int) (k:Int),vs=[.ref a,.int k]∧SqL K H a (ns.map V.int)∧ns.length≤63∧0≤k∧k<100 ∧
 ∀ (p:Addr) (H':Hp),H p=none→Zap H' p 0→ZF H H'→Q (.ref p) H'
def Zeb:Sp:=fun vs H Q _=>∃ (p:Addr) (c m:Int),vs=[.ref p,.int m]∧Zap H p c∧c<2 ^ 60∧0<m∧m<1000000 ∧
 ∀ (r:Int) (H':Hp),0≤r→r<m→Zap H' p (c+1)→But p H H'→Q (.int r) H'
theorem ZqZ{ns:List Int}{k:Int}(h0:0≤k)(h:k<(ns.length:Int)):∃v:Int,atI (ns.map V.int) k=some (.int v):=by
 have hk:k.toNat<ns.length:=by omega
 have ek:k=((k.toNat:Nat):Int):=by omega
 have q:atI (ns.map V.int) ((k.toNat:Nat):Int)=some (.int ns[k.toNat]):=Zal (by rw[Qp,Qb hk]<;>rfl)
 rw[← ek]at q
 exact⟨_,q⟩
theorem Zkg{ss:List Str}{k:Int}(h0:0≤k)(h:k<(ss.length:Int)):∃s∈ss,atI (ss.map V.str) k=some (.str s):=by
 have hk:k.toNat<ss.length:=by omega
 have ek:k=((k.toNat:Nat):Int):=by omega
 have q:atI (ss.map V.str) ((k.toNat:Nat):Int)=some (.str ss[k.toNat]):=Zal (by rw[Qp,Qb hk]<;>rfl)
 rw[← ek]at q
 exact⟨_,Q2 hk,q⟩
theorem ZpN(b:Bool):-(2 ^ 64)<(if b=true then (1:Int) else 0)∧(if b=true then (1:Int) else 0)<2 ^ 64:=by cases b<;>decide
theorem Zdv{z:Str}{k:Int}(h0:0≤k)(h:k<(z.length:Int)):∃c:Nat,z.cps.toList[k.toNat]? = some c∧atI z.cps.toList k=some c:=by
 have hl:z.cps.toList.length=z.length:=by simp[Str.length]
 have hk:k.toNat<z.cps.toList.length:=by omega
 have ek:k=((k.toNat:Nat):Int):=by omega
 have q:atI z.cps.toList ((k.toNat:Nat):Int)=some z.cps.toList[k.toNat]:=Zal (Qb hk)
 rw[← ek]at q
 exact⟨_,Qb hk,q⟩
theorem Zno(sep:Str)(ys:List Str):(Txt.join sep ys).length≤(ys.map (·.length)).sum+ys.length*sep.length:=by
 have e:Txt.join sep ys=Str.join sep ys:=by simpa using join_plain_closes sep ys
 rw[e]
 exact StrLaws.join_length_le sep ys
theorem Zi5:∀ss:List Str,(∀s∈ss,s.length≤1)→(ss.map (·.length)).sum≤ss.length
 | [],_=>Qh _
 | s::r,h=>by
  have h1:=h s Qai
  have h2:=Zi5 r fun x hx=>h x (Qv _ hx)
  rw[Qj,Qau,QK]
  omega
def lcp:List Nat→List Nat→Nat
 | a::r,b::s=>if a=b then lcp r s+1 else 0
 | _,_=>0
theorem Zfz:∀ (x y:List Nat),lcp x y≤x.length∧lcp x y≤y.length
 | [],_=>⟨Qw _,Qw _⟩
 | _::_,[]=>⟨Qw _,Qw _⟩
 | a::r,b::s=>by
  have h:=Zfz r s
  unfold lcp
  split
  ·exact⟨Nat.succ_le_succ h.1,Nat.succ_le_succ h.2⟩
  ·exact⟨Qw _,Qw _⟩
theorem Zcz:∀ (x y:List Nat),lcp x y=lcp y x
 | [],[]=>rfl
 | [],_::_=>rfl
 | _::_,[]=>rfl
 | a::r,b::s=>by
  unfold lcp
  by_cases h:a=b
  ·rw[if_pos h,if_pos h.symm,Zcz r s]
  ·rw[if_neg h,if_neg fun e=>h e.symm]
theorem ZjH:∀x:List Nat,lcp x x=x.length
 | []=>rfl
 | a::r=>by unfold lcp;rw[if_pos rfl,ZjH r];rfl
theorem Zee(x:List Nat):lcp x []=0:=by cases x<;>rfl
theorem lcp_nil'(x:List Nat):lcp [] x=0:=by cases x<;>rfl
theorem ZkE:∀ (x y:List Nat) (k:Nat),k≤lcp x y→∀a,x[k]? = some a→y[k]? = some a→k+1≤lcp x y
 | [],_,k,_,a,h,_=>by simp at h
 | _::_,[],k,_,a,_,h=>by simp at h
 | a::r,b::s,0,_,c,h1,h2=>by
  simp at h1 h2
  unfold lcp
  rw[if_pos (by rw[h1,h2])]
  omega
 | a::r,b::s,k+1,h,c,h1,h2=>by
  unfold lcp at h ⊢
  by_cases e:a=b
  ·rw[if_pos e]at h ⊢
   have:=ZkE r s k (by omega) c (by simpa using h1) (by simpa using h2)
   omega
  ·rw[if_neg e]at h;omega
theorem ZnZ:∀ (x y:List Nat) (k:Nat),k<lcp x y→x[k]? = y[k]?
 | [],_,k,h=>by unfold lcp at h;omega
 | _::_,[],k,h=>by unfold lcp at h;omega
 | a::r,b::s,0,h=>by
  unfold lcp at h
  by_cases e:a=b
  ·simp[e]
  ·rw[if_neg e]at h;omega
 | a::r,b::s,k+1,h=>by
  unfold lcp at h
  by_cases e:a=b
  ·rw[if_pos e]at h
   simpa using ZnZ r s k (by omega)
  ·rw[if_neg e]at h;omega
theorem Zeh(x y:List Nat)(k:Nat)(h:k≤lcp x y)(n:x.length≤k∨y.length≤k∨∃a b,x[k]? = some a∧y[k]? = some b∧a≠b):lcp x y=k:=by
 have l:=Zfz x y
 rcases n with n|n|⟨a,b,h1,h2,ne⟩
 ·omega
 ·omega
 ·by_cases q:k<lcp x y
  ·have:=ZnZ x y k q
   rw[h1,h2]at this
   exact absurd (Ql this) ne
  ·omega
theorem Zfv:∀ (x y z:List Nat),(lcp x y≤lcp x z∧lcp y z=lcp x y)∨(lcp x y≤lcp y z∧lcp x z=lcp x y)∨(lcp x z≤lcp x y∧lcp y z=lcp x z)
 | [],y,z=>.inr (.inl ⟨by rw[lcp_nil'];exact Qw _,by rw[lcp_nil',lcp_nil']⟩)
 | x,[],z=>.inl ⟨by rw[Zee];exact Qw _,by rw[Zee,lcp_nil']⟩
 | x,y,[]=>.inr (.inr ⟨by rw[Zee];exact Qw _,by rw[Zee,Zee]⟩)
 | a::r,b::s,c::t=>by
  have ih:=Zfv r s t
  unfold lcp
  by_cases h1:a=b
  ·by_cases h2:b=c
   ·rw[if_pos h1,if_pos h2,if_pos (h1.trans h2)]
    omega
   ·rw[if_pos h1,if_neg h2,if_neg fun e=>h2 (h1.symm.trans e)]
    omega
  ·rw[if_neg h1]
   by_cases h2:b=c
   ·rw[if_pos h2,if_neg fun e=>h1 (e.trans h2.symm)]
    omega
   ·rw[if_neg h2]
    omega
abbrev cds(z:Str):List Nat:=z.cps.toList
def AZ(z:Str):Prop:=∀c∈cds z,97≤c∧c≤122
theorem Zps(x y:Str):cds (x++y)=cds x++cds y:=by
 show (x++y).cps.toList=_
 rw[PySem.Str.cps_append]
 simp
theorem AZ.app{x y:Str}(a:AZ x)(b:AZ y):AZ (x++y):=fun c h=>by
 rw[Zps]at h
 exact(Qm.mp h).elim (a c) (b c)
theorem AZ.nil:AZ "":=by unfold AZ cds;decide +kernel
theorem AZ.join:∀ys:List Str,(∀s∈ys,AZ s)→AZ (Str.join "" ys)
 | [],_=>fun c h=>by cases (show c∈([]:List Nat) from h)
 | [x],h=>h x (by simp)
 | x::y::r,h=>((h x (by simp)).app AZ.nil).app (AZ.join (y::r) fun s hs=>h s (Qv _ hs))
theorem AZ.joinT(ys:List Str)(h:∀s∈ys,AZ s):AZ (Txt.join "" ys):=by
 have e:Txt.join "" ys=Str.join "" ys:=by simpa using join_plain_closes "" ys
 rw[e]
 exact AZ.join ys h
theorem AZ.one{z:Str}(a:AZ z){k:Nat}{c:Nat}(h:z.cps.toList[k]? = some c):AZ ⟨#[c]⟩:=fun d hd=>by
 have e:d=c:=by simpa using hd
 rw[e]
 exact a c (Qx h)
theorem AZ.ok{z:Str}(a:AZ z):PyData.strOk z=true:=by
 unfold PyData.strOk
 rw[Array.all_eq_true]
 intro i hi
 have:=a z.cps[i] (by simp)
 exact decide_eq_true (by omega)
def ZcL:Sp:=fun vs H Q _=>∃x y:Str,vs=[.str x,.str y]∧x.length≤1000∧y.length≤1000∧Q (.int (lcp (cds x) (cds y))) H
def ZcH:Sp:=fun vs H Q _=>∃ (x y:Str) (far:Nat),vs=[.str x,.str y,.int far]∧x.length≤1000∧y.length≤1000∧far≤lcp (cds x) (cds y)∧Q (.int (lcp (cds x) (cds y))) H
def IsD(H:Hp):Nat→V→V→Prop
 | 0,_,_=>False
 | n+1,x,y=>(x=y∧(x=.non∨(∃b,x=.bl b)∨(∃i,x=.int i)∨∃s,x=.str s)) ∨
   (∃ (p q:Addr) (xs ys:List V),x=.ref p∧y=.ref q∧((H p=some (.lst xs)∧H q=some (.lst ys))∨(H p=some (.tup xs)∧H q=some (.tup ys)))∧xs.length=ys.length∧xs.length≤1000∧∀ (i:Nat) (x y:V),xs[i]? = some x→ys[i]? = some y→IsD H n x y)
theorem IsD.mono{H H':Hp}(s:ZF H H'):∀ {n:Nat} {x y:V},IsD H n x y→IsD H' n x y
 | 0,_,_,h=>h.elim
 | n+1,x,y,h=>by
  rcases h with h|⟨p,q,xs,ys,e1,e2,h,hl,hz,hi⟩
  ·exact .inl h
  ·refine .inr ⟨p,q,xs,ys,e1,e2,?_,hl,hz,fun i x y a b=>(hi i x y a b).mono s⟩
   rcases h with⟨a,b⟩|⟨a,b⟩
   ·exact .inl ⟨s _ _ a,s _ _ b⟩
   ·exact .inr ⟨s _ _ a,s _ _ b⟩
def Zio(n:Nat):Sp:=fun vs H Q _=>∃x y:V,vs=[x,y]∧IsD H n x y∧∀H',ZF H H'→Q (.bl true) H'
section
variable (K:PySem.W.Frag)
open PySem.W
theorem ZlL:kitAny K (.type "int") (["list", "tuple"].map Value.type)=some false:=by unfold kitAny kitOne kitCls;rfl
theorem Zoc:kitAny K (.type "bool") (["list", "tuple"].map Value.type)=some false:=by unfold kitAny kitOne kitCls;rfl
theorem Zlr:kitAny K (.type "str") (["list", "tuple"].map Value.type)=some false:=by unfold kitAny kitOne kitCls;rfl
theorem Zln:kitAny K (.type "NoneType") (["list", "tuple"].map Value.type)=some false:=by unfold kitAny kitOne kitCls;rfl
theorem Zmc:kitAny K (.type "list") (["list", "tuple"].map Value.type)=some true:=by unfold kitAny kitOne kitCls;rfl
theorem Zlv:kitAny K (.type "tuple") (["list", "tuple"].map Value.type)=some true:=by unfold kitAny kitOne kitCls;rfl
theorem ZhJ:kitOne K (.type "list") (.type "list")=some true:=by unfold kitOne kitCls;rfl
theorem ZhB:kitOne K (.type "list") (.type "tuple")=some false:=by unfold kitOne kitCls;rfl
theorem Zh1:kitOne K (.type "tuple") (.type "list")=some false:=by unfold kitOne kitCls;rfl
theorem ZhP:kitOne K (.type "tuple") (.type "tuple")=some true:=by unfold kitOne kitCls;rfl
theorem ZlI:kitOne K (.type "int") (.type "str")=some false:=by unfold kitOne kitCls;rfl
theorem Zjk:kitOne K (.type "int") (.type "bool")=some false:=by unfold kitOne kitCls;rfl
theorem ZlV:kitOne K (.type "int") (.type "int")=some true:=by unfold kitOne kitCls;rfl
theorem Zfl:kitOne K (.type "str") (.type "str")=some true:=by unfold kitOne kitCls;rfl
theorem ZhD:kitOne K (.type "NoneType") (.type "str")=some false:=by unfold kitOne kitCls;rfl
theorem ZmE:kitOne K (.type "bool") (.type "str")=some false:=by unfold kitOne kitCls;rfl
theorem Zk3:kitOne K (.type "bool") (.type "bool")=some true:=by unfold kitOne kitCls;rfl
end
section
variable {P:Program} {w:World} {K:PySem.W.Frag} {mg:Str→Option Value} {base:Heap} {cRow cMerge:Addr}
theorem ZqN(T:Zaf K mg cRow cMerge):Df P w K mg base 1 "_law_mix" ["_law_cell", "_law_k"] ZnH:=by
 refine T.t_l_mix.df ZjQ (fun vs H Q E h=>?_) (fun cdv f A outer s H vs Q E hr h=>?_)
 ·obtain⟨a,k,rfl,_⟩:=h
  rfl
 obtain⟨a,k,rfl,k1,k2,q⟩:=h
 refine⟨_,#[Zf,#[Zw,2,ZjQ.nd,(Or.inl rfl),#[ZG,ZfD,#[ZG,ZeB,#[ZG,Z8,#[ZG,Z8,#[ZG,ZfD,‹0›,#[Zi]],#[ZG,ZeB,#[ZG,ZeB,‹1›,‹1›],#[Zi]]],#[Zi]],#[Zi]],#[Zi]]],#[Zj,#[Zs,#[ZG,ZfD,#[ZG,ZeB,‹2›,‹2›],#[Zi]]]]],?_⟩
 refine⟨_,rfl,_,_,rfl,rfl,(by show (0:Int)<_;decide),_,rfl,_,rfl,_,_,rfl,rfl,.inl ⟨by omega,by omega⟩,_,_,rfl,rfl,.inr ⟨by decide,by decide⟩,_,_,rfl,rfl,_,_,rfl,rfl,_,_,rfl,rfl,.inr ⟨by decide,by decide⟩,_,_,rfl,rfl,(by show (0:Int)<_;decide),?_⟩
 have m0:=Int.emod_nonneg ((a % 2147483629+k*k*7919+11)*48271) (show (2147483647:Int)≠0 by decide)
 have m1:=QaK ((a % 2147483629+k*k*7919+11)*48271) (show (0:Int)<2147483647 by decide)
 refine⟨_,rfl,_,rfl,_,_,rfl,rfl,.inl ⟨by omega,by omega⟩,_,_,rfl,rfl,(by show (0:Int)<_;decide),?_⟩
 exact q _ (Int.emod_nonneg _ (by decide)) (Int.lt_trans (QaK _ (by decide)) (by decide))
theorem Zo7(T:Zaf K mg cRow cMerge):Df P w K mg base 1 "_law_left" ["_law_script", "_law_k"] (Zm4 K):=by
 refine T.t_l_left.df ZhW (fun vs H Q E h=>?_) (fun cdv f A outer s H vs Q E hr h=>?_)
 ·obtain⟨a,ns,k,rfl,_⟩:=h
  rfl
 obtain⟨a,ns,k,rfl,hS,h63,k0,k1,q⟩:=h
 refine⟨_,#[Zf,#[Zw,2,ZhW.nd,(Or.inl rfl),#[Zbo,#[Zm,Zcu,‹1›,#[Zk,(Zcj K),(by rfl),T.b.n_len,Qs,#[Za,‹0›,#[Ze]]],(Zp _)],#[Zo,(ixL K),‹0›,‹1›],#[Zi]]],#[Zj,#[Zs,#[Zax,#[Za,#[ZG,ZeB,#[Zk,Zjl,(by rfl),T.b.n_abs,boot_abs,#[Za,‹2›,#[Ze]]],#[ZaR,Zft,T.b.n_int,boot_int,#[Za,#[Zbf,ZpY,#[Zk,Zjl,(by rfl),T.b.n_abs,boot_abs,#[Za,‹2›,#[Ze]]],#[ZG,Zqc,#[Zi],#[Zi]],(Zp _)],#[Ze]]]],#[Za,#[ZG,Z8,‹2›,#[ZG,ZeB,#[Zi],‹1›]],#[Za,#[Zi],#[Ze]]]]]]]],?_⟩
 have hl:(ns.map V.int).length=ns.length:=Qa _
 have pw:ZrJ 10 18:=⟨by decide,by decide,by decide⟩
 refine⟨_,rfl,_,rfl,a,_,rfl,.inl hS,_,_,rfl,rfl,_,rfl,?_⟩
 refine ZaY (fun c=>?_) (fun c=>?_)
 ·have c':k<(((ns.map V.int).length:Nat):Int):=of_decide_eq_true c
  rw[hl]at c'
  obtain⟨v,hv⟩:=ZqZ (ns:=ns) k0 c'
  refine⟨_,rfl,_,rfl,a,_,_,_,rfl,rfl,hS,hv,?_⟩
  refine⟨_,rfl,_,rfl,_,rfl,_,rfl,_,_,rfl,rfl,pw,_,_,rfl,rfl,.inr ⟨_,rfl,_,_,rfl,rfl,.inr (ZpN _),_,rfl,_,rfl,_,_,rfl,rfl,.inl ⟨by decide,by decide⟩,_,_,rfl,rfl,(by show 3≤sizeLine;decide),fun p hp=>?_⟩⟩
  exact q p _ hp ⟨_,_,Zd,Int.le_refl _⟩ (Zh hp _)
 ·refine⟨_,rfl,_,rfl,_,rfl,_,rfl,_,_,rfl,rfl,pw,_,_,rfl,rfl,.inr ⟨_,rfl,_,_,rfl,rfl,.inr (ZpN _),_,rfl,_,rfl,_,_,rfl,rfl,.inl ⟨by decide,by decide⟩,_,_,rfl,rfl,(by show 3≤sizeLine;decide),fun p hp=>?_⟩⟩
  exact q p _ hp ⟨_,_,Zd,Int.le_refl _⟩ (Zh hp _)
theorem Zo9(T:Zaf K mg cRow cMerge)(f_l_mix:Df P w K mg base 1 "_law_mix" ["_law_cell", "_law_k"] ZnH):Df P w K mg base 2 "_law_pick" ["_law_left_here", "_law_many_here"] Zeb:=by
 refine T.t_l_pick.df ZhR (fun vs H Q E h=>?_) (fun cdv f A outer s H vs Q E hr h=>?_)
 ·obtain⟨p,c,m,rfl,_⟩:=h
  rfl
 obtain⟨p,c,m,rfl,⟨a,b,hp,c0⟩,c1,m0,m1,q⟩:=h
 refine⟨_,#[Zf,#[Z3,#[ZG,Z8,#[Zo,(ixL K),‹0›,#[Zi]],#[Zi]],#[ZaQ,‹0›,#[Zi],ZjG]],#[Zf,#[ZZ,#[Zm,ZgM,#[Zo,(ixL K),‹0›,#[Zi]],#[Zi],(Zp _)],#[Zf,#[Zw,2,ZhR.nd,(Or.inl rfl),#[ZG,ZfD,#[Zo,(ixL K),‹0›,#[Zi]],‹1›]],#[Zf,#[Z3,#[ZG,Zf8,#[Zo,(ixL K),‹0›,#[Zi]],‹1›],#[ZaQ,‹0›,#[Zi],ZjG]],#[Zj,#[Zs,‹2›]]]],#[ZE]],#[Zj,#[Zs,#[ZG,ZfD,#[ZG,Zf8,#[Zy,f_l_mix,hr,#[Za,#[Zy,f_l_mix,hr,#[Za,#[Zo,(ixL K),‹0›,#[Zi]],#[Za,#[Zo,(ixL K),‹0›,#[Zi]],#[Ze]]],(by rfl)],#[Za,#[ZG,Z8,#[Zo,(ixL K),‹0›,#[Zi]],#[Zi]],#[Ze]]],(by rfl)],#[Zi]],‹1›]]]]],?_⟩
 have u1:(upd H p (.lst [.int a,.int b,.int (c+1)])) p=some (.lst [.int a,.int b,.int (c+1)]):=Zd
 refine⟨_,rfl,p,_,_,_,rfl,rfl,SqL.of hp,rfl,_,_,rfl,rfl,_,rfl,p,_,_,2,rfl,rfl,hp,rfl,?_⟩
 refine⟨_,rfl,p,_,_,_,rfl,rfl,SqL.of u1,rfl,_,_,rfl,rfl,_,rfl,?_⟩
 refine ZaY (fun d=>?_) (fun d=>?_)
 ·refine⟨_,rfl,p,_,_,_,rfl,rfl,SqL.of u1,rfl,_,rfl,_,_,rfl,rfl,m0,?_⟩
  refine⟨_,rfl,p,_,_,_,rfl,rfl,SqL.of u1,rfl,_,rfl,_,_,rfl,rfl,⟨m0,by omega⟩,_,rfl,p,_,_,0,rfl,rfl,u1,rfl,?_⟩
  refine⟨_,rfl,?_⟩
  refine q _ _ (Int.emod_nonneg _ (by omega)) (QaK _ m0) ⟨a / m,b,Zd,by omega⟩ fun e o h n=>?_
  rw[Zb n,Zb n]
  exact h
 ·refine⟨_,rfl,p,_,_,_,rfl,rfl,SqL.of u1,rfl,_,rfl,p,_,_,_,rfl,rfl,SqL.of u1,rfl,_,_,rfl,by omega,by omega,fun r r0 r1=>?_⟩
  refine⟨_,rfl,p,_,_,_,rfl,rfl,SqL.of u1,rfl,_,_,rfl,rfl,_,_,rfl,by omega,by omega,fun r' r0' r1'=>?_⟩
  refine⟨_,_,rfl,rfl,⟨by decide,by decide⟩,_,rfl,_,_,rfl,rfl,m0,?_⟩
  refine q _ _ (Int.emod_nonneg _ (by omega)) (QaK _ m0) ⟨a,b,Zd,by omega⟩ fun e o h n=>?_
  rw[Zb n]
  exact h
def ZbN:List Str:=["", "a", "ab", "aba", "abab", "b", "zebra", "aaaaaaaa", "knowswho", "z", "abababababab",Txt.mul "a" 34]
theorem ZjJ:∀s∈ZbN,s.length≤34:=by decide +kernel
theorem Zj1:∀s∈ZbN,AZ s:=by unfold AZ cds;decide +kernel
def Ziv:Sp:=fun vs H Q _=>∃ (p:Addr) (c:Int),vs=[.ref p]∧Zap H p c∧c<2 ^ 50 ∧
 ∀ (l:Addr) (ss:List Str) (c':Int) (H':Hp),H l=none→H' l=some (.lst (ss.map V.str))→1≤ss.length→ss.length≤4→(∀s∈ss,s.length≤34∧AZ s)→Zap H' p c'→c≤c'→c'≤c+5→But p H H'→Q (.ref l) H'
def ZnE:Sp:=fun vs H Q _=>∃ (p l:Addr) (c:Int) (ss:List Str),vs=[.ref p,.ref l]∧Zap H p c∧c<2 ^ 50∧H l=some (.lst (ss.map V.str))∧1≤ss.length∧ss.length≤4∧(∀s∈ss,s.length≤34∧AZ s) ∧
 ∀ (z:Str) (c':Int) (H':Hp),z.length≤38→AZ z→Zap H' p c'→c≤c'→c'≤c+7→But p H H'→Q (.str z) H'
theorem Zni(T:Zaf K mg cRow cMerge)(f_l_pick:Df P w K mg base 2 "_law_pick" ["_law_left_here", "_law_many_here"] Zeb):Df P w K mg base 3 "_law_stems" ["_law_left_here"] Ziv:=by
 refine T.t_l_stems.df ZgD (fun vs H Q E h=>?_) (fun cdv f A outer s H vs Q E hr h=>?_)
 ·obtain⟨p,c,rfl,_⟩:=h
  rfl
 obtain⟨p,c,rfl,hL,c1,q⟩:=h
 refine⟨_,#[Zf,#[Zw,1,ZgD.nd,(Or.inr rfl),#[Zax,#[Za,#[ZA],#[Za,#[ZA],#[Za,#[ZA],#[Za,#[ZA],#[Za,#[ZA],#[Za,#[ZA],#[Za,#[ZA],#[Za,#[ZA],#[Za,#[ZA],#[Za,#[ZA],#[Za,#[ZA],#[Za,#[ZG,ZoO,#[ZA],#[Zi]],#[Ze]]]]]]]]]]]]]]],#[Zj,#[Zs,#[Zci,ZmL,#[ZbL,T.b.n_range,#[Za,#[ZG,Z8,#[Zi],#[Zy,f_l_pick,hr,#[Za,#[pv,0,(Or.inr (Or.inl rfl))],#[Za,#[Zi],#[Ze]]],(by rfl)]],#[Ze]]],(fun _ _ _ _=>#[cg,2,ZmL]),(fun _ _ _ _=>(@Zcb _)),(fun _ _ _ _=>#[Zo,(ixL K),#[cv,1,ZmL],#[Zy,f_l_pick,hr,#[Za,#[cv,0,ZmL],#[Za,#[Zi],#[Ze]]],(ZbK ZmL rfl (by decide +kernel))]])]]]],?_⟩
 refine⟨_,_,rfl,rfl,by decide,by decide,by decide,(by show 12≤sizeLine;decide),fun l hl=>?_⟩
 have npl:p≠l:=by obtain⟨a,b,hp,_⟩:=hL;exact Zc hp hl
 have hL1:Zap (upd H l (.lst (ZbN.map V.str))) p c:=by obtain⟨a,b,hp,c0⟩:=hL;exact⟨a,b,by rw[Zb npl];exact hp,c0⟩
 refine⟨_,rfl,p,c,_,rfl,hL1,by omega,by decide,by decide,fun r H1 r0 r1 L1 B1=>?_⟩
 refine⟨_,_,rfl,rfl,_,rfl,by omega,by omega,fun D hD=>?_⟩
 have c0:0≤c:=by obtain⟨a,b,hp,c0⟩:=hL;exact c0
 have h1l:H1 l=some (.lst (ZbN.map V.str)):=B1 l _ Zd npl.symm
 have npD:p≠D:=by obtain⟨a,b,hp,_⟩:=L1;exact Zc hp hD
 have nlD:l≠D:=Zc h1l hD
 refine Zds (fun i ys σ H2=>∃ (ss:List Str) (v:Option V) (c2:Int),σ=[some (.ref p),some (.ref l),v]∧ys=ss.map V.str∧ss.length=i∧(∀s∈ss,s.length≤34∧AZ s)∧Zap H2 p c2∧c+1≤c2∧c2≤c+1+i ∧
   H2 l=some (.lst (ZbN.map V.str))∧H2 D=some (.lst ys)∧But p H H2) ?_ ?_ ?_
 ·refine⟨[],none,c+1,rfl,rfl,rfl,(fun s hs=>by cases hs),?_,by omega,by omega,?_,Zd,?_⟩
  ·obtain⟨a,b,hp,q0⟩:=L1
   exact⟨a,b,by rw[Zb npD];exact hp,q0⟩
  ·rw[Zb nlD];exact h1l
  ·intro b o e n
   have e1:(upd H l (.lst (ZbN.map V.str))) b=some o:=by rw[Zb (Zc e hl)];exact e
   have e2:=B1 b o e1 n
   rw[Zb (Zc e2 hD)]
   exact e2
 ·rintro i ys σ H2 hi ⟨ss,v,c2,rfl,rfl,hn,hs,L2',b1,b2,hl2,hD2,B2⟩
  refine⟨_,rfl,_,rfl,p,c2,_,rfl,L2',by omega,by decide,by decide,fun r' H3 r0' r1' L3 B3=>?_⟩
  obtain⟨s,hs1,hs2⟩:=Zkg (ss:=ZbN) r0' r1'
  have hD3:H3 D=some (.lst (ss.map V.str)):=B3 D _ hD2 npD.symm
  have hl3:H3 l=some (.lst (ZbN.map V.str)):=B3 l _ hl2 npl.symm
  refine⟨l,_,_,_,rfl,rfl,SqL.of hl3,hs2,hD3,(by rw[Qa,hn];exact ZC (by omega)),ss++[s],_,c2+1,rfl,?_,?_,?_,?_,by omega,by omega,?_,Zd,?_⟩
  ·rw[Qe];rfl
  ·rw[Qf,hn];rfl
  ·intro x hx
   rcases Qm.mp hx with hx|hx
   ·exact hs x hx
   ·rw[Qo.mp hx];exact⟨ZjJ s hs1,Zj1 s hs1⟩
  ·obtain⟨a,b,hp,q0⟩:=L3
   exact⟨a,b,by rw[Zb npD];exact hp,q0⟩
  ·rw[Zb nlD];exact hl3
  ·intro b o e n
   have e2:=B3 b o (B2 b o e n) n
   have e3:H D=none:=by
    cases w':H D with
    | none=>rfl
    | some u =>
     have nDp:D≠p:=npD.symm
     have z1:(upd H l (.lst (ZbN.map V.str))) D=some u:=by rw[Zb nlD.symm];exact w'
     rw[B1 D u z1 nDp]at hD
     cases hD
   rw[Zb (Zc e e3)]
   exact e2
 ·rintro ys σ H2 ⟨ss,v,c2,rfl,rfl,hn,hs,L2',b1,b2,hl2,hD2,B2⟩
  have e3:H D=none:=by
   cases w':H D with
   | none=>rfl
   | some u =>
    have z1:(upd H l (.lst (ZbN.map V.str))) D=some u:=by rw[Zb nlD.symm];exact w'
    rw[B1 D u z1 npD.symm]at hD
    cases hD
  exact q D ss c2 H2 e3 hD2 (by omega) (by omega) hs L2' (by omega) (by omega) B2
theorem ZkC(b:Bool):∃z:Str,atI [V.str "ababcz",V.str "abcdefghijklmnopqrstuvwxyz"] (if b=true then (1:Int) else 0)=some (.str z)∧AZ z∧0<z.length∧z.length≤26:=by
 cases b
 ·exact⟨_,rfl,by unfold AZ cds;decide +kernel,by decide +kernel,by decide +kernel⟩
 ·exact⟨_,rfl,by unfold AZ cds;decide +kernel,by decide +kernel,by decide +kernel⟩
theorem Zp3(T:Zaf K mg cRow cMerge)(f_l_pick:Df P w K mg base 2 "_law_pick" ["_law_left_here", "_law_many_here"] Zeb):Df P w K mg base 3 "_law_key" ["_law_left_here", "_law_stems_here"] ZnE:=by
 refine T.t_l_key.df Zgm (fun vs H Q E h=>?_) (fun cdv f A outer s H vs Q E hr h=>?_)
 ·obtain⟨p,l,c,ss,rfl,_⟩:=h
  rfl
 obtain⟨p,l,c,ss,rfl,hL,c1,hl,n1,n4,h24,q⟩:=h
 refine⟨_,#[Zf,#[Zw,2,Zgm.nd,(Or.inr rfl),#[Zo,(ixL K),#[Zax,#[Za,#[ZA],#[Za,#[ZA],#[Ze]]]],#[ZaR,Zft,T.b.n_int,boot_int,#[Za,#[Zbf,Za1,#[Zy,f_l_pick,hr,#[Za,#[pv,0,(Or.inr (Or.inl rfl))],#[Za,#[Zi],#[Ze]]],(by rfl)],#[Zi],(Zp _)],#[Ze]]]]],#[Zf,#[Zw,3,Zgm.nd,(Or.inl rfl),#[Zd7,PySem.F.plainAttrs_str,PySem.F.slot_str_join,PySem.F.type_str_join,(ZrO K),#[ZA],#[Za,#[Zci,Zkk,#[ZbL,T.b.n_range,#[Za,#[Zy,f_l_pick,hr,#[Za,#[pv,0,(Or.inr (Or.inl rfl))],#[Za,#[Zi],#[Ze]]],(by rfl)],#[Ze]]],(fun _ _ _ _=>#[cg,4,Zkk]),(fun _ _ _ _=>(@Zcb _)),(fun _ _ _ _=>#[Zo,ZeM,#[cv,2,Zkk],#[Zy,f_l_pick,hr,#[Za,#[cv,0,Zkk],#[Za,#[Zk,Zaw,(ZbK Zkk rfl (by decide +kernel)),T.b.n_len,Qs,#[Za,#[cv,2,Zkk],#[Ze]]],#[Ze]]],(ZbK Zkk rfl (by decide +kernel))]])],#[Ze]]]],#[Zj,#[Zs,#[ZG,ZeL,#[Zo,(ixL K),‹1›,#[Zy,f_l_pick,hr,#[Za,#[pv,0,(Or.inr (Or.inl rfl))],#[Za,#[Zk,(Zcj K),(by rfl),T.b.n_len,Qs,#[Za,‹1›,#[Ze]]],#[Ze]]],(by rfl)]],‹3›]]]]],?_⟩
 have c0:0≤c:=by obtain⟨a,b,hp,c0⟩:=hL;exact c0
 have npl:p≠l:=by
  obtain⟨a,b,hp,_⟩:=hL
  refine Zoa hp hl fun e=>?_
  have e1:=congrArg List.length (HO.lst.inj e)
  cases ss with
  | nil=>cases e1
  | cons x r=>exact absurd (HO.lst.inj e) (by intro z;cases z)
 refine⟨(by show 2≤sizeLine;decide),fun le hle=>?_⟩
 have npe:p≠le:=by obtain⟨a,b,hp,_⟩:=hL;exact Zc hp hle
 have hL0:Zap (upd H le (.lst [.str "ababcz",.str "abcdefghijklmnopqrstuvwxyz"])) p c:=by obtain⟨a,b,hp,c0⟩:=hL;exact⟨a,b,by rw[Zb npe];exact hp,c0⟩
 refine⟨_,rfl,p,c,_,rfl,hL0,by omega,by decide,by decide,fun d H0 d0 d1 L0 B0=>?_⟩
 have he0:H0 le=some (.lst [.str "ababcz",.str "abcdefghijklmnopqrstuvwxyz"]):=B0 le _ Zd npe.symm
 have B00:But p H H0:=(But.same (Zh hle _)).trans B0
 obtain⟨zl,hzl,zaz,z0,z26⟩:=ZkC (decide (V.int d=V.int 0))
 refine⟨rfl,.inr ⟨_,rfl,le,_,_,_,rfl,rfl,SqL.of he0,hzl,?_⟩⟩
 refine⟨rfl,_,rfl,p,c+1,_,rfl,L0,by omega,by decide,by decide,fun r H1 r0 r1 L1 B1'=>?_⟩
 have B1:But p H H1:=B00.trans B1'
 refine⟨_,rfl,by omega,by omega,fun D hD=>?_⟩
 have npD:p≠D:=by obtain⟨a,b,hp,_⟩:=L1;exact Zc hp hD
 have h1l:=B1 l _ hl npl.symm
 have nlD:l≠D:=Zc h1l hD
 have hDn:H D=none:=by
  cases w':H D with
  | none=>rfl
  | some u=>rw[B1 D u w' npD.symm]at hD;cases hD
 refine Zds (fun i ys σ H2=>∃ (ts:List Str) (v:Option V) (c2:Int),σ=[some (.ref p),some (.ref l),some (.str zl),none,v]∧ys=ts.map V.str∧ts.length=i∧(∀s∈ts,s.length≤1∧AZ s)∧Zap H2 p c2∧c+2≤c2∧c2≤c+2+i ∧
   H2 D=some (.lst ys)∧But p H H2) ?_ ?_ ?_
 ·refine⟨[],none,c+1+1,rfl,rfl,rfl,(fun s hs=>by cases hs),?_,by omega,by omega,Zd,?_⟩
  ·obtain⟨a,b,hp,q0⟩:=L1
   exact⟨a,b,by rw[Zb npD];exact hp,q0⟩
  ·intro b o e n
   rw[Zb (Zc e hDn)]
   exact B1 b o e n
 ·rintro i ys σ H2 hi ⟨ts,v,c2,rfl,rfl,hn,hs,L2',b1,b2,hD2,B2⟩
  refine⟨_,rfl,_,rfl,_,rfl,zl,rfl,Za6 (by omega),p,c2,_,rfl,L2',by omega,by omega,by omega,fun r' H3 r0' r1' L3 B3=>?_⟩
  obtain⟨ch,hcm,hch⟩:=Zdv (z:=zl) r0' r1'
  have hD3:H3 D=some (.lst (ts.map V.str)):=B3 D _ hD2 npD.symm
  refine⟨_,_,_,rfl,rfl,Za6 (by omega),hch,hD3,(by rw[Qa,hn];exact ZC (by omega)),ts++[⟨#[ch]⟩],_,c2+1,rfl,?_,?_,?_,?_,by omega,by omega,Zd,?_⟩
  ·rw[Qe];rfl
  ·rw[Qf,hn];rfl
  ·intro x hx
   rcases Qm.mp hx with hx|hx
   ·exact hs x hx
   ·rw[Qo.mp hx];exact⟨Qh 1,zaz.one hcm⟩
  ·obtain⟨a,b,hp,q0⟩:=L3
   exact⟨a,b,by rw[Zb npD];exact hp,q0⟩
  ·intro b o e n
   rw[Zb (Zc e hDn)]
   exact B3 b o (B2 b o e n) n
 ·rintro ys σ H2 ⟨ts,v,c2,rfl,rfl,hn,hs,L2',b1,b2,hD2,B2⟩
  have hsum:=Zi5 ts fun s h=>(hs s h).1
  have hjl:=Zno "" ts
  have e0:("" : Str).length=0:=by decide +kernel
  rw[e0]at hjl
  have hl2:=B2 l _ hl npl.symm
  refine⟨_,D,ts,rfl,rfl,SqL.of hD2,(by rw[e0];omega),?_⟩
  have hlen:(((ss.map V.str).length:Nat):Int)=(ss.length:Int):=by rw[Qa]
  refine⟨_,rfl,_,rfl,_,rfl,l,_,rfl,.inl (SqL.of hl2),p,c2,_,rfl,L2',by omega,by omega,by omega,fun r' H3 r0' r1' L3 B3=>?_⟩
  obtain⟨st,hs1,hs2⟩:=Zkg (ss:=ss) r0' (by omega)
  have hst:=(h24 st hs1).1
  refine⟨l,_,_,_,rfl,rfl,SqL.of (B3 l _ hl2 npl.symm),hs2,_,rfl,_,_,rfl,rfl,Za6 (by omega),?_⟩
  refine q _ (c2+1) H3 ?_ ((h24 st hs1).2.app (AZ.joinT ts fun s h=>(hs s h).2)) L3 (by omega) (by omega) (B2.trans B3)
  rw[QaL]
  omega
theorem Zhi(T:Zaf K mg cRow cMerge):Df P w K mg base 1 "alike_from" ["one", "other", "far"] ZcH:=by
 refine T.t_alike_from.df ZcQ (fun vs H Q E h=>?_) (fun cdv f A outer s H vs Q E hr h=>?_)
 ·obtain⟨x,y,far,rfl,_⟩:=h
  rfl
 obtain⟨x,y,far,rfl,hx,hy,hf,q⟩:=h
 refine⟨_,#[Zf,#[Zw,3,ZcQ.nd,(Or.inl rfl),‹2›],#[Zf,(@ZdR _ _ _ _ _ _ PassesOwn.never (@PW.pt _ _ _ #[ZbC,#[Zm,Zcu,‹3›,#[Zk,Zaw,(by rfl),T.b.n_len,Qs,#[Za,‹0›,#[Ze]]],(Zp _)],#[ZbC,#[Zm,Zcu,‹3›,#[Zk,Zaw,(by rfl),T.b.n_len,Qs,#[Za,‹1›,#[Ze]]],(Zp _)],#[Zbz,#[Zm,Za1,#[Zo,ZeM,‹0›,‹3›],#[Zo,ZeM,‹1›,‹3›],(Zp _)]]]]) #[Zj,(@Zqf _ _ 3 _ _ _ _ _ _ ZcQ.nd rfl (Or.inl rfl) #[Zi] ZqE (by trivial))]),#[Zj,#[Zs,‹3›]]]],?_⟩
 refine⟨_,rfl,?_⟩
 have lx:(cds x).length=x.length:=by simp[Str.length]
 have ly:(cds y).length=y.length:=by simp[Str.length]
 have ll:=Zfz (cds x) (cds y)
 refine⟨fun m σ H2=>∃k:Nat,σ=[some (.str x),some (.str y),some (.int far),some (.int k)]∧H2=H∧k≤lcp (cds x) (cds y)∧m=lcp (cds x) (cds y)-k,⟨_,far,rfl,rfl,hf,rfl⟩,?_⟩
 rintro m σ H2 ⟨k,rfl,rfl,hk,rfl⟩
 refine⟨_,rfl,_,rfl,x,rfl,Za6 hx,_,_,rfl,rfl,_,rfl,?_⟩
 refine ZaY (fun d1=>?_) (fun d1=>?_)
 ·have d1':(k:Int)<(x.length:Int):=of_decide_eq_true d1
  refine⟨_,rfl,_,rfl,y,rfl,Za6 hy,_,_,rfl,rfl,_,rfl,?_⟩
  refine ZaY (fun d2=>?_) (fun d2=>?_)
  ·have d2':(k:Int)<(y.length:Int):=of_decide_eq_true d2
   obtain⟨a,ha,ha'⟩:=Zdv (z:=x) (k:=k) (by omega) d1'
   obtain⟨b,hb,hb'⟩:=Zdv (z:=y) (k:=k) (by omega) d2'
   rw[QaO]at ha hb
   refine⟨_,rfl,_,rfl,x,_,a,rfl,rfl,Za6 hx,ha',_,rfl,_,rfl,y,_,b,rfl,rfl,Za6 hy,hb',rfl,_,rfl,?_⟩
   refine ZaY (fun d3=>?_) (fun d3=>?_)
   ·have d3':a=b:=by
     have:=of_decide_eq_true d3
     injection this with e
     injection e with e
     simpa using e
    subst d3'
    have:=ZkE _ _ k hk a ha hb
    refine⟨fun σ' H'=>σ'=[some (.str x),some (.str y),some (.int far),some (.int ((k+1:Nat):Int))]∧H'=H2,fun σ' H' ⟨e1,e2⟩=>⟨_,?_,k+1,e1,e2,this,rfl⟩,?_⟩
    ·omega
    ·exact⟨_,rfl,_,_,rfl,rfl,rfl,rfl⟩
   ·refine⟨_,rfl,?_⟩
    have e:=Zeh _ _ k hk (.inr (.inr ⟨a,b,ha,hb,fun e=>d3 (by subst e;exact decide_eq_true rfl)⟩))
    rw[e]at q
    exact q
  ·refine ZbE ⟨_,rfl,?_⟩
   have d2':¬ (k:Int)<(y.length:Int):=of_decide_eq_false (Qab.mpr d2)
   have e:=Zeh _ _ k hk (.inr (.inl (by omega)))
   rw[e]at q
   exact q
 ·refine ZbE ⟨_,rfl,?_⟩
  have d1':¬ (k:Int)<(x.length:Int):=of_decide_eq_false (Qab.mpr d1)
  have e:=Zeh _ _ k hk (.inl (by omega))
  rw[e]at q
  exact q
theorem Zob(T:Zaf K mg cRow cMerge)(f_alike_from:Df P w K mg base 1 "alike_from" ["one", "other", "far"] ZcH):Df P w K mg base 2 "alike" ["one", "other"] ZcL:=by
 refine T.t_alike.df ZmR (fun vs H Q E h=>?_) (fun cdv f A outer s H vs Q E hr h=>?_)
 ·obtain⟨x,y,rfl,_⟩:=h
  rfl
 obtain⟨x,y,rfl,hx,hy,q⟩:=h
 refine⟨_,#[Zj,#[Zs,#[Zy,f_alike_from,hr,#[Za,‹0›,#[Za,‹1›,#[Za,#[Zi],#[Ze]]]],(by rfl)]]],?_⟩
 exact⟨_,rfl,_,rfl,x,y,0,rfl,hx,hy,Qw _,q⟩
theorem Zj8(T:Zaf K mg cRow cMerge):Df P w K mg base 1 "_law_alike" ["_law_one", "_law_other"] ZcL:=by
 refine T.t_l_alike.df ZeO (fun vs H Q E h=>?_) (fun cdv f A outer s H vs Q E hr h=>?_)
 ·obtain⟨x,y,rfl,_⟩:=h
  rfl
 obtain⟨x,y,rfl,hx,hy,q⟩:=h
 refine⟨_,#[Zf,#[Zw,2,ZeO.nd,(Or.inl rfl),#[Zi]],#[Zf,(@ZdR _ _ _ _ _ _ PassesOwn.never (@PW.pt _ _ _ #[ZbC,#[Zm,Zcu,‹2›,#[Zk,Zaw,(by rfl),T.b.n_len,Qs,#[Za,‹0›,#[Ze]]],(Zp _)],#[ZbC,#[Zm,Zcu,‹2›,#[Zk,Zaw,(by rfl),T.b.n_len,Qs,#[Za,‹1›,#[Ze]]],(Zp _)],#[Zbz,#[Zm,Za1,#[Zo,ZeM,‹0›,‹2›],#[Zo,ZeM,‹1›,‹2›],(Zp _)]]]]) #[Zj,#[Zw,2,ZeO.nd,(Or.inl rfl),#[ZG,Z8,‹2›,#[Zi]]]]),#[Zj,#[Zs,‹2›]]]],?_⟩
 have lx:(cds x).length=x.length:=by simp[Str.length]
 have ly:(cds y).length=y.length:=by simp[Str.length]
 have ll:=Zfz (cds x) (cds y)
 refine⟨fun m σ H2=>∃k:Nat,σ=[some (.str x),some (.str y),some (.int k)]∧H2=H∧k≤lcp (cds x) (cds y)∧m=lcp (cds x) (cds y)-k,⟨_,0,rfl,rfl,Qw _,rfl⟩,?_⟩
 rintro m σ H2 ⟨k,rfl,rfl,hk,rfl⟩
 refine⟨_,rfl,_,rfl,x,rfl,Za6 hx,_,_,rfl,rfl,_,rfl,?_⟩
 refine ZaY (fun d1=>?_) (fun d1=>?_)
 ·have d1':(k:Int)<(x.length:Int):=of_decide_eq_true d1
  refine⟨_,rfl,_,rfl,y,rfl,Za6 hy,_,_,rfl,rfl,_,rfl,?_⟩
  refine ZaY (fun d2=>?_) (fun d2=>?_)
  ·have d2':(k:Int)<(y.length:Int):=of_decide_eq_true d2
   obtain⟨a,ha,ha'⟩:=Zdv (z:=x) (k:=k) (by omega) d1'
   obtain⟨b,hb,hb'⟩:=Zdv (z:=y) (k:=k) (by omega) d2'
   rw[QaO]at ha hb
   refine⟨_,rfl,_,rfl,x,_,a,rfl,rfl,Za6 hx,ha',_,rfl,_,rfl,y,_,b,rfl,rfl,Za6 hy,hb',rfl,_,rfl,?_⟩
   refine ZaY (fun d3=>?_) (fun d3=>?_)
   ·have d3':a=b:=by
     have:=of_decide_eq_true d3
     injection this with e
     injection e with e
     simpa using e
    subst d3'
    have:=ZkE _ _ k hk a ha hb
    refine⟨fun σ' H'=>σ'=[some (.str x),some (.str y),some (.int ((k+1:Nat):Int))]∧H'=H2,fun σ' H' ⟨e1,e2⟩=>⟨_,?_,k+1,e1,e2,this,rfl⟩,?_⟩
    ·omega
    ·exact⟨_,rfl,_,_,rfl,rfl,rfl,rfl⟩
   ·refine⟨_,rfl,?_⟩
    have e:=Zeh _ _ k hk (.inr (.inr ⟨a,b,ha,hb,fun e=>d3 (by subst e;exact decide_eq_true rfl)⟩))
    rw[e]at q
    exact q
  ·refine ZbE ⟨_,rfl,?_⟩
   have d2':¬ (k:Int)<(y.length:Int):=of_decide_eq_false (Qab.mpr d2)
   have e:=Zeh _ _ k hk (.inr (.inl (by omega)))
   rw[e]at q
   exact q
 ·refine ZbE ⟨_,rfl,?_⟩
  have d1':¬ (k:Int)<(x.length:Int):=of_decide_eq_false (Qab.mpr d1)
  have e:=Zeh _ _ k hk (.inl (by omega))
  rw[e]at q
  exact q
theorem Zcw{c A B:Prop}[Decidable c](hc:c)(h:A):if decide c=true then A else B:=by
 rw[if_pos (decide_eq_true hc)]
 exact h
theorem Zbl{c A B:Prop}[Decidable c](hc:¬ c)(h:B):if decide c=true then A else B:=by
 rw[if_neg (by rw[decide_eq_false hc];exact Qk)]
 exact h
theorem ZkX(T:Zaf K mg cRow cMerge):∀n:Nat,Df P w K mg base (n+1) "_law_same" ["_law_found", "_law_due"] (Zio n)
 | 0=>by
  refine T.t_l_same.df ZhV (fun vs H Q E h=>?_) (fun cdv f A outer s H vs Q E hr h=>?_)
  ·obtain⟨x,y,rfl,_⟩:=h
   rfl
  obtain⟨x,y,rfl,h,_⟩:=h
  exact h.elim
 | n+1=>by
  have f_l_same:=ZkX T n
  refine T.t_l_same.df ZhV (fun vs H Q E h=>?_) (fun cdv f A outer s H vs Q E hr h=>?_)
  ·obtain⟨x,y,rfl,_⟩:=h
   rfl
  obtain⟨x,y,rfl,hD,q⟩:=h
  refine⟨_,#[Zf,#[ZZ,#[ZcV,#[Zk,(Zrf K),(by rfl),T.b.n_isinstance,boot_isinstance,#[Za,‹1›,#[Za,#[ZaC,#[Za,#[Zda,T.b.n_list,boot_list],#[Za,#[Zda,T.b.n_tuple,boot_tuple],#[Ze]]]],#[Ze]]]]],#[Zf,#[ZZ,(@PW.pt _ _ _ (@Zjq _ _ _ _ _ _ _ #[Zm,ZpO,#[Zk,(Zgl K),(by rfl),T.b.n_isinstance,boot_isinstance,#[Za,‹0›,#[Za,#[Zda,T.b.n_list,boot_list],#[Ze]]]],#[Zk,(Zgl K),(by rfl),T.b.n_isinstance,boot_isinstance,#[Za,‹1›,#[Za,#[Zda,T.b.n_list,boot_list],#[Ze]]]],(Zp _)] (@ZgP _ _ _ _ #[Zm,ZpO,#[Zk,(Zgl K),(by rfl),T.b.n_isinstance,boot_isinstance,#[Za,‹0›,#[Za,#[Zda,T.b.n_tuple,boot_tuple],#[Ze]]]],#[Zk,(Zgl K),(by rfl),T.b.n_isinstance,boot_isinstance,#[Za,‹1›,#[Za,#[Zda,T.b.n_tuple,boot_tuple],#[Ze]]]],(Zp _)]))),#[Zj,#[Zs,(@Zhd _ _ _ _)]],#[ZE]],#[Zj,#[Zs,#[ZeQ,#[Zbf,Za1,#[Zk,(Zcj K),(by rfl),T.b.n_len,Qs,#[Za,‹0›,#[Ze]]],#[Zk,(Zcj K),(by rfl),T.b.n_len,Qs,#[Za,‹1›,#[Ze]]],(Zp _)],(@Zfp _ _ _ _ _ #[Zk,(Zss K),(by rfl),T.b.n_all,boot_all,#[Za,#[Zci,ZlA,(@iZ _ K _ _ _ _ _ _ _ _ T.b.n_zip #[Za,‹0›,#[Za,‹1›,#[Ze]]] (by rfl) (by rfl) (by rfl) (by rfl)),(fun _ _ _ _=>#[gT,K,2,#[ZB,#[cg,2,ZlA],#[ZB,#[cg,3,ZlA],(@ZaG _)]]]),(fun _ _ _ _=>(@Zcb _)),(fun _ _ _ _=>#[Zy,f_l_same,hr,#[Za,#[cw,2,ZlA],#[Za,#[cw,3,ZlA],#[Ze]]],(ZbK ZlA rfl (by decide +kernel))])],#[Ze]]])]]]],#[ZE]],#[Zf,#[ZZ,(@PW.pt _ _ _ (@Zjq _ _ _ _ _ _ _ #[Zm,Zbq,‹1›,#[ZW],(Zp _)] (@ZgP _ _ _ _ #[ZcV,#[Zk,(Zgl K),(by rfl),T.b.n_isinstance,boot_isinstance,#[Za,‹1›,#[Za,#[Zda,T.b.n_str,boot_str],#[Ze]]]]]))),#[Zj,#[Zs,#[ZeQ,#[Zbf,Za1,‹0›,‹1›,(Zp _)],(@Zfp _ _ _ _ _ #[Zbf,Za1,#[Zk,(Zgl K),(by rfl),T.b.n_isinstance,boot_isinstance,#[Za,‹0›,#[Za,#[Zda,T.b.n_str,boot_str],#[Ze]]]],#[Zk,(Zgl K),(by rfl),T.b.n_isinstance,boot_isinstance,#[Za,‹1›,#[Za,#[Zda,T.b.n_str,boot_str],#[Ze]]]],(Zp _)])]]],#[ZE]],#[Zf,#[ZZ,#[ZcV,#[Zk,(Zgl K),(by rfl),T.b.n_isinstance,boot_isinstance,#[Za,‹1›,#[Za,#[Zda,T.b.n_bool,boot_bool],#[Ze]]]]],#[Zj,#[Zs,#[ZeQ,#[Zk,(Zgl K),(by rfl),T.b.n_isinstance,boot_isinstance,#[Za,‹0›,#[Za,#[Zda,T.b.n_bool,boot_bool],#[Ze]]]],(@Zfp _ _ _ _ _ #[Zbf,Za1,‹0›,‹1›,(Zp _)])]]],#[ZE]],#[Zj,#[Zs,#[ZeQ,#[Zk,(Zgl K),(by rfl),T.b.n_isinstance,boot_isinstance,#[Za,‹0›,#[Za,#[Zda,T.b.n_int,boot_int],#[Ze]]]],#[ZeQ,(@Zqz _ _ _ _ #[Zk,(Zgl K),(by rfl),T.b.n_isinstance,boot_isinstance,#[Za,‹0›,#[Za,#[Zda,T.b.n_bool,boot_bool],#[Ze]]]]),(@Zfp _ _ _ _ _ #[Zbf,Za1,‹0›,‹1›,(Zp _)])]]]]]]],?_⟩
  refine⟨_,rfl,(by show 2≤sizeLine;decide),fun tp htp=>?_⟩
  have sT:ZF H (upd H tp (.tup (["list", "tuple"].map V.ty))):=Zh htp _
  rcases hD with⟨rfl,rfl|⟨b,rfl⟩|⟨i,rfl⟩|⟨z,rfl⟩⟩|⟨p,q2,xs,ys,rfl,rfl,⟨hp,hq⟩|⟨hp,hq⟩,hl,hz,hi⟩
  ·refine⟨_,tp,["list", "tuple"],_,_,rfl,Zd,.non,Zln K,_,rfl,ZbE ?_⟩
   refine⟨_,rfl,rfl,_,rfl,Zcw rfl (Zfx ?_)⟩
   refine⟨_,rfl,_,rfl,rfl,_,rfl,Zcw rfl ?_⟩
   exact⟨_,rfl,_, "str",_,_,rfl,.non,ZhD K,_,rfl,_, "str",_,_,rfl,.non,ZhD K,rfl,q _ sT⟩
  ·refine⟨_,tp,["list", "tuple"],_,_,rfl,Zd,.bl b,Zoc K,_,rfl,ZbE ?_⟩
   refine⟨_,rfl,rfl,_,rfl,Zbl (by intro z;cases z) ?_⟩
   refine⟨_,rfl,_, "str",_,_,rfl,.bl b,ZmE K,_,rfl,ZbE ?_⟩
   refine⟨_,rfl,_, "bool",_,_,rfl,.bl b,Zk3 K,_,rfl,Zfx ?_⟩
   refine⟨_,rfl,_, "bool",_,_,rfl,.bl b,Zk3 K,_,rfl,Zfx ?_⟩
   refine⟨_,rfl,_,rfl,rfl,?_⟩
   have e:decide (V.bl b=V.bl b)=true:=decide_eq_true rfl
   rw[e]
   exact q _ sT
  ·refine⟨_,tp,["list", "tuple"],_,_,rfl,Zd,.int i,ZlL K,_,rfl,ZbE ?_⟩
   refine⟨_,rfl,rfl,_,rfl,Zbl (by intro z;cases z) ?_⟩
   refine⟨_,rfl,_, "str",_,_,rfl,.int i,ZlI K,_,rfl,ZbE ?_⟩
   refine⟨_,rfl,_, "bool",_,_,rfl,.int i,Zjk K,_,rfl,ZbE ?_⟩
   refine⟨_,rfl,_, "int",_,_,rfl,.int i,ZlV K,_,rfl,Zfx ?_⟩
   refine⟨_,rfl,_, "bool",_,_,rfl,.int i,Zjk K,_,rfl,_,rfl,Zfx ?_⟩
   refine⟨_,rfl,_,rfl,rfl,?_⟩
   have e:decide (V.int i=V.int i)=true:=decide_eq_true rfl
   rw[e]
   exact q _ sT
  ·refine⟨_,tp,["list", "tuple"],_,_,rfl,Zd,.str z,Zlr K,_,rfl,ZbE ?_⟩
   refine⟨_,rfl,rfl,_,rfl,Zbl (by intro z;cases z) ?_⟩
   refine⟨_,rfl,_, "str",_,_,rfl,.str z,Zfl K,_,rfl,Zfx ?_⟩
   refine⟨_,rfl,_,rfl,rfl,_,rfl,Zcw rfl ?_⟩
   exact⟨_,rfl,_, "str",_,_,rfl,.str z,Zfl K,_,rfl,_, "str",_,_,rfl,.str z,Zfl K,rfl,q _ sT⟩
  ·have hxT:(upd H tp (.tup (["list", "tuple"].map V.ty))) p=some (.lst xs):=by rw[Zb (Zc hp htp)];exact hp
   have hyT:(upd H tp (.tup (["list", "tuple"].map V.ty))) q2=some (.lst ys):=by rw[Zb (Zc hq htp)];exact hq
   refine⟨_,tp,["list", "tuple"],_,_,rfl,Zd,.lst hyT,Zmc K,_,rfl,Zfx ?_⟩
   refine⟨_,rfl,_, "list",_,_,rfl,.lst hxT,ZhJ K,_,rfl,_, "list",_,_,rfl,.lst hyT,ZhJ K,rfl,_,rfl,ZeX rfl ?_⟩
   refine⟨_,rfl,_, "tuple",_,_,rfl,.lst hxT,ZhB K,_,rfl,_, "tuple",_,_,rfl,.lst hyT,ZhB K,rfl,_,rfl,ZeX rfl ?_⟩
   refine⟨_,rfl,p,xs,rfl,.inl (SqL.of hxT),_,rfl,q2,ys,rfl,.inl (SqL.of hyT),rfl,_,rfl,Zcw (by rw[hl]) ?_⟩
   refine⟨_,rfl,_,rfl,.l p,.l q2,xs,ys,rfl,SqL.of hxT,SqL.of hyT,fun D hD=>?_⟩
   have sD:ZF H (upd H tp (.tup (["list", "tuple"].map V.ty))):=Zh htp _
   refine Zjw (K:=K) (xs:=xs) (ys:=ys) (fun i zs σ H2=>(∃v1 v2,σ=[some (.ref p),some (.ref q2),v1,v2])∧zs=List.replicate i (.bl true)∧ZF H H2∧H2 D=some (.lst zs)∧i≤xs.length) ?_ ?_ ?_ ?_
   ·exact⟨⟨none,none,rfl⟩,rfl,sD.trans (Zh hD _),Zd,Qw _⟩
   ·rintro i zs σ H2 ⟨_,_,s2,_⟩
    exact⟨SqL.of (s2 _ _ hp),SqL.of (s2 _ _ hq)⟩
   ·rintro i zs σ H2 x' y' r hx' hy' ⟨⟨v1,v2,rfl⟩,rfl,s2,hD2,hiz⟩ hr
    have hil:i<xs.length:=(Qg.mp hx').1
    have nDr:D≠r:=Zc hD2 hr
    have s3:ZF H (upd H2 r (.tup [x',y'])):=s2.trans (Zh hr _)
    refine⟨r,_,rfl,SqT.of Zd,rfl,_,_,rfl,_,_,rfl,rfl,?_⟩
    refine⟨_,rfl,_,rfl,x',y',rfl,(hi i x' y' hx' hy').mono s3,fun H' s'=>?_⟩
    have hD':H' D=some (.lst (List.replicate i (.bl true))):=s' _ _ (by rw[Zb nDr];exact hD2)
    refine⟨hD',(by rw[Qav];exact ZC (by omega)),⟨_,_,rfl⟩,?_,?_,Zd,hil⟩
    ·rw[List.replicate_succ']
    ·intro b o e
     have e1:=s' b o (s3 b o e)
     rw[Zb (fun z=>by subst z;exact nomatch (sD b o e).symm.trans hD)]
     exact e1
   ·rintro zs σ H2 ⟨_,rfl,s2,hD2,_⟩
    refine⟨D,List.replicate (min xs.length ys.length) true,rfl,SqL.of (by rw[List.map_replicate];exact hD2),?_⟩
    have e:(List.replicate (min xs.length ys.length) true).all id=true:=by rw[Qa1];intro b hb;exact(List.eq_of_mem_replicate hb)
    rw[e]
    exact q H2 s2
  ·have hxT:(upd H tp (.tup (["list", "tuple"].map V.ty))) p=some (.tup xs):=by rw[Zb (Zc hp htp)];exact hp
   have hyT:(upd H tp (.tup (["list", "tuple"].map V.ty))) q2=some (.tup ys):=by rw[Zb (Zc hq htp)];exact hq
   refine⟨_,tp,["list", "tuple"],_,_,rfl,Zd,.tup hyT,Zlv K,_,rfl,Zfx ?_⟩
   refine⟨_,rfl,_, "list",_,_,rfl,.tup hxT,Zh1 K,_,rfl,_, "list",_,_,rfl,.tup hyT,Zh1 K,rfl,_,rfl,ZeX rfl ?_⟩
   refine⟨_,rfl,_, "tuple",_,_,rfl,.tup hxT,ZhP K,_,rfl,_, "tuple",_,_,rfl,.tup hyT,ZhP K,rfl,_,rfl,ZeX rfl ?_⟩
   refine⟨_,rfl,p,xs,rfl,.inr (SqT.of hxT),_,rfl,q2,ys,rfl,.inr (SqT.of hyT),rfl,_,rfl,Zcw (by rw[hl]) ?_⟩
   refine⟨_,rfl,_,rfl,.t p,.t q2,xs,ys,rfl,SqT.of hxT,SqT.of hyT,fun D hD=>?_⟩
   have sD:ZF H (upd H tp (.tup (["list", "tuple"].map V.ty))):=Zh htp _
   refine Zjw (K:=K) (xs:=xs) (ys:=ys) (fun i zs σ H2=>(∃v1 v2,σ=[some (.ref p),some (.ref q2),v1,v2])∧zs=List.replicate i (.bl true)∧ZF H H2∧H2 D=some (.lst zs)∧i≤xs.length) ?_ ?_ ?_ ?_
   ·exact⟨⟨none,none,rfl⟩,rfl,sD.trans (Zh hD _),Zd,Qw _⟩
   ·rintro i zs σ H2 ⟨_,_,s2,_⟩
    exact⟨SqT.of (s2 _ _ hp),SqT.of (s2 _ _ hq)⟩
   ·rintro i zs σ H2 x' y' r hx' hy' ⟨⟨v1,v2,rfl⟩,rfl,s2,hD2,hiz⟩ hr
    have hil:i<xs.length:=(Qg.mp hx').1
    have nDr:D≠r:=Zc hD2 hr
    have s3:ZF H (upd H2 r (.tup [x',y'])):=s2.trans (Zh hr _)
    refine⟨r,_,rfl,SqT.of Zd,rfl,_,_,rfl,_,_,rfl,rfl,?_⟩
    refine⟨_,rfl,_,rfl,x',y',rfl,(hi i x' y' hx' hy').mono s3,fun H' s'=>?_⟩
    have hD':H' D=some (.lst (List.replicate i (.bl true))):=s' _ _ (by rw[Zb nDr];exact hD2)
    refine⟨hD',(by rw[Qav];exact ZC (by omega)),⟨_,_,rfl⟩,?_,?_,Zd,hil⟩
    ·rw[List.replicate_succ']
    ·intro b o e
     have e1:=s' b o (s3 b o e)
     rw[Zb (fun z=>by subst z;exact nomatch (sD b o e).symm.trans hD)]
     exact e1
   ·rintro zs σ H2 ⟨_,rfl,s2,hD2,_⟩
    refine⟨D,List.replicate (min xs.length ys.length) true,rfl,SqL.of (by rw[List.map_replicate];exact hD2),?_⟩
    have e:(List.replicate (min xs.length ys.length) true).all id=true:=by rw[Qa1];intro b hb;exact(List.eq_of_mem_replicate hb)
    rw[e]
    exact q H2 s2
theorem Zap.new{H:Hp}{p l:Addr}{c:Int}{o:HO}(h:Zap H p c)(n:H l=none):Zap (upd H l o) p c:=by
 obtain⟨a,b,hp,c0⟩:=h
 exact⟨a,b,by rw[Zb (Zc hp n)];exact hp,c0⟩
theorem Zap.ge{H:Hp}{p:Addr}{c:Int}(h:Zap H p c):0≤c:=by obtain⟨a,b,hp,c0⟩:=h;exact c0
theorem Zap.here{H:Hp}{p:Addr}{c:Int}(h:Zap H p c):∃o,H p=some o:=by obtain⟨a,b,hp,c0⟩:=h;exact⟨_,hp⟩
theorem Zap.at{H:Hp}{p l:Addr}{c:Int}{o:HO}(h:Zap H p c)(n:p≠l):Zap (upd H l o) p c:=by
 obtain⟨a,b,hp,c0⟩:=h
 exact⟨a,b,by rw[Zb n];exact hp,c0⟩
theorem Zji:∀ss:List Str,(∀s∈ss,AZ s)→PyData.canLayAll0 (ss.map PyData.str)=true
 | [],_=>rfl
 | x::r,h=>by simp[PyData.canLayAll0,PyData.canLay0,(h x (by simp)).ok,Zji r fun s hs=>h s (List.mem_cons_of_mem _ hs)]
theorem Zgx:∀ss:List Str,PyData.depthAll (ss.map PyData.str)=0
 | []=>rfl
 | _::r=>by simp[PyData.depthAll,PyData.depth,Zgx r]
theorem Zbw(ss:List Str)(h:∀s∈ss,AZ s):SeqAt.shaped (.list (ss.map PyData.str))=true:=by simp[SeqAt.shaped,PyData.canLay0,PyData.depth,Zji ss h,Zgx]
theorem Zdu{K:PySem.W.Frag}{H:Hp}:∀ss:List Str,DVs K H (ss.map V.str) (ss.map PyData.str)
 | []=>.nil
 | s::r=>.cons (.str s) (Zdu r)
def Zkt:Sp:=fun vs H Q _=>∃ (p l:Addr) (c most:Int) (ss:List Str),vs=[.ref p,.ref l,.int most]∧Zap H p c∧c<2 ^ 40∧0≤most∧most≤60∧H l=some (.lst (ss.map V.str))∧1≤ss.length∧ss.length≤4∧(∀s∈ss,s.length≤34∧AZ s) ∧
 ∀ (r:Addr) (ts:List Str) (c':Int) (H':Hp),H r=none→H' r=some (.lst (ts.map V.str))→(ts.length:Int)≤most→(∀s∈ts,s.length≤38∧AZ s)→Zap H' p c'→c≤c'→c'≤c+600→But p H H'→Q (.ref r) H'
theorem Zo5(T:Zaf K mg cRow cMerge)(f_l_pick:Df P w K mg base 2 "_law_pick" ["_law_left_here", "_law_many_here"] Zeb)(f_l_key:Df P w K mg base 3 "_law_key" ["_law_left_here", "_law_stems_here"] ZnE):Df P w K mg base 4 "_law_keys" ["_law_left_here", "_law_stems_here", "_law_most"] Zkt:=by
 refine T.t_l_keys.df Zdo (fun vs H Q E h=>?_) (fun cdv f A outer s H vs Q E hr h=>?_)
 ·obtain⟨p,l,c,most,ss,rfl,_⟩:=h
  rfl
 obtain⟨p,l,c,most,ss,rfl,hL,c1,m0,m1,hl,n1,n4,h24,q⟩:=h
 refine⟨_,#[Zf,#[Zw,3,Zdo.nd,(Or.inl rfl),#[Zax,#[Ze]]],#[Zf,#[Zcv,PassesOwn.never,#[ZbL,T.b.n_range,#[Za,#[Zy,f_l_pick,hr,#[Za,‹0›,#[Za,#[ZG,Z8,‹2›,#[Zi]],#[Ze]]],(by rfl)],#[Ze]]],#[ZD,4,Zdo.nd,(Or.inl rfl)],#[Zf,#[Zw,5,Zdo.nd,(Or.inl rfl),#[Zy,f_l_key,hr,#[Za,‹0›,#[Za,‹1›,#[Ze]]],(by rfl)]],#[Zf,#[ZZ,(@PW.pt _ _ _ #[ZbC,#[Zm,(@neD _ K _ hr (by rfl)),‹3›,#[Zax,#[Ze]],(Zp _)],#[Zbz,#[Zm,Za1,#[Zy,f_l_pick,hr,#[Za,‹0›,#[Za,#[Zi],#[Ze]]],(by rfl)],#[Zi],(Zp _)]]]),#[Zj,#[Zw,5,Zdo.nd,(Or.inl rfl),#[Zo,(ixL K),‹3›,#[Zy,f_l_pick,hr,#[Za,‹0›,#[Za,#[Zk,(Zcj K),(by rfl),T.b.n_len,Qs,#[Za,‹3›,#[Ze]]],#[Ze]]],(by rfl)]]]],#[ZE]],#[Zj,#[Zab,#[Zd7,QO,QS,QT,Zbv,‹3›,#[Za,‹5›,#[Ze]]]]]]]],#[Zj,#[Zs,‹3›]]]],?_⟩
 have c0:=hL.ge
 refine⟨(by show 0≤sizeLine;decide),fun r hr0=>?_⟩
 have npr:p≠r:=by obtain⟨o,ho⟩:=hL.here;exact Zc ho hr0
 have nlr:l≠r:=Zc hl hr0
 have npl:p≠l:=by
  obtain⟨a,b,hp,_⟩:=hL
  refine Zoa hp hl fun e=>?_
  cases ss with
  | nil=>exact absurd (congrArg List.length (HO.lst.inj e)) (by simp)
  | cons x r=>exact absurd (HO.lst.inj e) (by intro z;cases z)
 refine⟨_,rfl,_,rfl,_,_,rfl,rfl,p,c,_,rfl,hL.new hr0,by omega,by omega,by omega,fun n H1 w0 w1 L1 B1=>?_⟩
 refine⟨_,rfl,by omega,by omega,?_⟩
 have hr1:H1 r=some (.lst []):=B1 r _ Zd npr.symm
 have B01:But p H H1:=(But.same (Zh hr0 _)).trans B1
 refine Zep (fun i σ H2=>∃ (ts:List Str) (v1 v2:Option V) (c2:Int),σ=[some (.ref p),some (.ref l),some (.int most),some (.ref r),v1,v2]∧H2 r=some (.lst (ts.map V.str))∧ts.length=i∧(∀s∈ts,s.length≤38∧AZ s)∧Zap H2 p c2∧c+1≤c2∧c2≤c+1+9*i∧(∀b o,H b=some o→b≠p→H2 b=some o)) ⟨[],none,none,c+1,rfl,hr1,rfl,(fun s hs=>by cases hs),L1,by omega,by omega,B01⟩ ?_ ?_
 ·rintro i σ H2 hi ⟨ts,v1,v2,c2,rfl,hr2,hn,h28,L2,a1,a2,B2⟩
  have hi60:(i:Int)<61:=by omega
  have hl2:=B2 l _ hl npl.symm
  refine⟨_,rfl,_,rfl,p,l,c2,ss,rfl,L2,by omega,hl2,n1,n4,h24,fun key c3 H3 hkey hkaz L3 a3 a4 B3=>?_⟩
  have hr3:=B3 r _ hr2 npr.symm
  have fin:∀ (k2:Str) (c4:Int) (H4:Hp),k2.length≤38∧AZ k2→Zap H4 p c4→c2≤c4→c4≤c2+9→H4 r=some (.lst (ts.map V.str))→(∀b o,H b=some o→b≠p→H4 b=some o) →
    ∃ (ts':List Str) (v1 v2:Option V) (c5:Int),[some (V.ref p),some (V.ref l),some (V.int most),some (V.ref r),some (V.int (0+(i:Int))),some (V.str k2)]=[some (.ref p),some (.ref l),some (.int most),some (.ref r),v1,v2] ∧
     (upd H4 r (.lst (ts.map V.str++[.str k2]))) r=some (.lst (ts'.map V.str))∧ts'.length=i+1∧(∀s∈ts',s.length≤38∧AZ s)∧Zap (upd H4 r (.lst (ts.map V.str++[.str k2]))) p c5∧c+1≤c5∧c5≤c+1+9*((i+1:Nat):Int) ∧
     (∀b o,H b=some o→b≠p→(upd H4 r (.lst (ts.map V.str++[.str k2]))) b=some o):=fun k2 c4 H4 hk L4 b1 b2 hr4 B4=>by
   refine⟨ts++[k2],_,_,c4,rfl,?_,by rw[Qf,hn];rfl,?_,L4.at npr,by omega,by omega,fun b o e n=>?_⟩
   ·rw[Zd,Qe];rfl
   ·intro x hx
    rcases Qm.mp hx with hx|hx
    ·exact h28 x hx
    ·rw[Qo.mp hx];exact hk
   ·rw[Zb (Zc e hr0)]
    exact B4 b o e n
  have hlt:(ts.map V.str).length<sizeLine:=by rw[Qa,hn];exact ZC (by omega)
  refine⟨_,rfl,(by show 0≤sizeLine;decide),fun e he=>?_⟩
  have hr3':(upd H3 e (.lst [])) r=some (.lst (ts.map V.str)):=by rw[Zb (Zc hr3 he)];exact hr3
  refine⟨.list (ts.map PyData.str),.list [],.lst (SqL.of hr3') (Zdu ts),.lst (SqL.of Zd) .nil,Zbw ts (fun s h=>(h28 s h).2),(by decide +kernel),_,rfl,?_⟩
  have B3':∀b o,H b=some o→b≠p→(upd H3 e (.lst [])) b=some o:=fun b o z n=>Zh he _ b o (B3 b o (B2 b o z n) n)
  cases ts with
  | nil =>
   have ev:(if true=true then !PyData.eqv (.list (([]:List Str).map PyData.str)) (.list []) else PyData.eqv (.list (([]:List Str).map PyData.str)) (.list []))=false:=by decide +kernel
   rw[ev]
   refine ZbE (ZbE ?_)
   refine⟨_,rfl,.inl ⟨rfl,_,SqL.of hr3'⟩,_,rfl,r,_,_,rfl,rfl,hr3',hlt,?_⟩
   exact fin key c3 _ ⟨hkey,hkaz⟩ (L3.new he) (by omega) (by omega) hr3' B3'
  | cons t0 tr =>
   have ev:(if true=true then !PyData.eqv (.list ((t0::tr).map PyData.str)) (.list []) else PyData.eqv (.list ((t0::tr).map PyData.str)) (.list []))=true:=by simp[PyData.eqv,PyData.eqvAll]
   rw[ev]
   refine Zfx ⟨_,rfl,p,c3,_,rfl,L3.new he,by omega,by decide,by decide,fun d H5 d0 d1 L5 B5=>?_⟩
   have hr5:=B5 r _ hr3' npr.symm
   refine⟨rfl,_,rfl,ZaY (fun _=>?_) (fun _=>?_)⟩
   ·have hlen:((((t0::tr).map V.str).length:Nat):Int)=((t0::tr).length:Int):=by rw[Qa]
    have hpos:(0:Int)<((t0::tr).length:Int):=by simp
    refine⟨_,rfl,_,rfl,_,rfl,r,_,rfl,.inl (SqL.of hr5),p,c3+1,_,rfl,L5,by omega,by omega,by omega,fun d' H6 d0' d1' L6 B6=>?_⟩
    obtain⟨st,hs1,hs2⟩:=Zkg (ss:=t0::tr) d0' (by omega)
    have hr6:=B6 r _ hr5 npr.symm
    refine⟨r,_,_,_,rfl,rfl,SqL.of hr6,hs2,?_⟩
    refine⟨_,rfl,.inl ⟨rfl,_,SqL.of hr6⟩,_,rfl,r,_,_,rfl,rfl,hr6,hlt,?_⟩
    exact fin st _ _ (h28 st hs1) L6 (by omega) (by omega) hr6 fun b o z n=>B6 b o (B5 b o (B3' b o z n) n) n
   ·refine⟨_,rfl,.inl ⟨rfl,_,SqL.of hr5⟩,_,rfl,r,_,_,rfl,rfl,hr5,hlt,?_⟩
    exact fin key _ _ ⟨hkey,hkaz⟩ L5 (by omega) (by omega) hr5 fun b o z n=>B5 b o (B3' b o z n) n
 ·rintro σ H2 ⟨ts,v1,v2,c2,rfl,hr2,hn,h28,L2,a1,a2,B2⟩
  exact⟨_,rfl,q r ts c2 H2 hr0 hr2 (by omega) h28 L2 (by omega) (by omega) B2⟩
def Zdp(ss:List Str)(i:Nat):Int:=if i=0 then 0 else (lcp (cds (ss.getD (i-1) "")) (cds (ss.getD i "")):Nat)
def ZeR(K:PySem.W.Frag):Sp:=fun vs H Q _=>∃ (a:Addr) (ss:List Str),vs=[.ref a]∧SqL K H a (ss.map V.str)∧ss.length≤100∧(∀s∈ss,s.length≤1000) ∧
 ∀ (r:Addr) (H':Hp),H r=none→H' r=some (.lst ((List.range ss.length).map fun j=>.int (Zdp ss j)))→ZF H H'→Q (.ref r) H'
theorem Zlt(T:Zaf K mg cRow cMerge)(f_alike:Df P w K mg base 2 "alike" ["one", "other"] ZcL):Df P w K mg base 3 "alikes" ["row"] (ZeR K):=by
 refine T.t_alikes.df Zen (fun vs H Q E h=>?_) (fun cdv f A outer s H vs Q E hr h=>?_)
 ·obtain⟨a,ss,rfl,_⟩:=h
  rfl
 obtain⟨a,ss,rfl,hS,hn,hlen,q⟩:=h
 refine⟨_,#[Zf,#[Zw,1,Zen.nd,(Or.inl rfl),#[Zax,#[Ze]]],#[Zf,#[Zcv,PassesOwn.never,#[iE,K,T.b.n_enumerate,#[Za,‹0›,#[Ze]]],#[gT,K,2,#[ZB,#[ZD,2,Zen.nd,(Or.inl rfl)],#[ZB,#[ZD,3,Zen.nd,(Or.inl rfl)],(@ZaG _)]]],#[Zj,#[Zab,#[Zd7,QO,QS,QT,Zbv,‹1›,#[Za,#[Zbo,#[Zm,Za1,‹2›,#[Zi],(Zp _)],#[Zi],#[Zy,f_alike,hr,#[Za,#[Zo,(ixL K),‹0›,#[ZG,Zey,‹2›,#[Zi]]],#[Za,‹3›,#[Ze]]],(by rfl)]],#[Ze]]]]]],#[Zj,#[Zs,‹1›]]]],?_⟩
 refine⟨(by show 0≤sizeLine;decide),fun r hr0=>?_⟩
 have s1:ZF H (upd H r (.lst [])):=Zh hr0 _
 refine⟨_,rfl,a,ss.map V.str,rfl,s1.seq hS,?_⟩
 refine ZgS (K:=K) (a:=a) (xs:=ss.map V.str) (fun i σ H2=>(∃v1 v2:Option V,σ=[some (.ref a),some (.ref r),v1,v2])∧H2 r=some (.lst ((List.range i).map fun j=>.int (Zdp ss j)))∧ZF H H2∧i≤ss.length) ⟨⟨none,none,rfl⟩,Zd,s1,Qw _⟩ (fun _ _ _ hq=>by obtain⟨_,_,s2,_⟩:=hq;exact s2.seq hS) ?_ ?_
 ·rintro i x σ H2 p hx ⟨⟨v1,v2,rfl⟩,hr2,s2,hi⟩ hp
  rw[Qp]at hx
  cases hy:ss[i]? with
  | none=>rw[hy]at hx;cases hx
  | some y =>
   rw[hy]at hx
   cases hx
   have hil:i<ss.length:=(Qg.mp hy).1
   have npr:r≠p:=Zc hr2 hp
   have s3:ZF H (upd H2 p (.tup [.int i,.str y])):=s2.trans (Zh hp _)
   have hr3:(upd H2 p (.tup [.int i,.str y])) r=some (.lst ((List.range i).map fun j=>.int (Zdp ss j))):=by rw[Zb npr];exact hr2
   have hlt:((List.range i).map fun j=>V.int (Zdp ss j)).length<sizeLine:=by rw[Qa,List.length_range];exact ZC (by omega)
   have fin:∀z:Int,z=Zdp ss i→(∃v1 v2:Option V,[some (V.ref a),some (V.ref r),some (V.int i),some (V.str y)]=[some (.ref a),some (.ref r),v1,v2]) ∧
     (upd (upd H2 p (.tup [.int i,.str y])) r (.lst (((List.range i).map fun j=>.int (Zdp ss j))++[.int z]))) r=some (.lst ((List.range (i+1)).map fun j=>.int (Zdp ss j))) ∧
     ZF H (upd (upd H2 p (.tup [.int i,.str y])) r (.lst (((List.range i).map fun j=>.int (Zdp ss j))++[.int z])))∧i+1≤ss.length:=fun z e=>by
    refine⟨⟨_,_,rfl⟩,?_,fun b o h=>?_,hil⟩
    ·rw[Zd,QaJ,Qe,e];rfl
    ·rw[Zb (Zc h hr0)];exact s3 b o h
   refine⟨p,_,rfl,SqT.of Zd,rfl,_,_,rfl,_,_,rfl,rfl,?_⟩
   refine⟨_,rfl,.inl ⟨rfl,_,SqL.of hr3⟩,_,rfl,rfl,_,rfl,?_⟩
   by_cases e0:i=0
   ·subst e0
    exact Zcw rfl ⟨r,_,_,rfl,rfl,hr3,hlt,fin 0 rfl⟩
   ·have hprev:i-1<ss.length:=by omega
    have ei:((i:Int)-1)=((i-1:Nat):Int):=by omega
    have hat:atI (ss.map V.str) ((i:Int)-1)=some (.str ss[i-1]):=by rw[ei];exact Zal (by rw[Qp,Qb hprev]<;>rfl)
    refine Zbl (fun z=>by injection z with z;omega) ⟨_,rfl,_,rfl,_,_,rfl,rfl,a,_,_,_,rfl,rfl,s3.seq hS,hat,_,rfl,ss[i-1],y,rfl,hlen _ (Q2 hprev),hlen _ (Qx hy),r,_,_,rfl,rfl,hr3,hlt,fin _ ?_⟩
    unfold Zdp
    rw[if_neg e0,QF,QF,Qb hprev,hy]
    rfl
 ·rintro σ H2 ⟨⟨v1,v2,rfl⟩,hr2,s2,hi⟩
  rw[Qa]at hr2
  exact⟨_,rfl,q r H2 hr0 hr2 s2⟩
def ZQ:List Nat→List Nat→Int
 | [],[]=>0
 | [],_::_ =>-1
 | _::_,[]=>1
 | a::r,b::s=>if a=b then ZQ r s else if a<b then -1 else 1
theorem ZhZ:∀ (x y:List Nat),Spec.ltCps y x=false→ZQ x y≤0
 | [],[],_=>by unfold ZQ;omega
 | [],_::_,_=>by unfold ZQ;omega
 | _::_,[],h=>by unfold Spec.ltCps at h;cases h
 | a::r,b::s,h=>by
  have ih:=ZhZ r s
  unfold Spec.ltCps at h
  unfold ZQ
  rw[Bool.or_eq_false_iff,Bool.and_eq_false_iff]at h
  obtain⟨h1,h2⟩:=h
  have h1':¬ b<a:=of_decide_eq_false h1
  by_cases e:a=b
  ·rw[if_pos e]
   rcases h2 with z|z
   ·rw[e]at z;simp at z
   ·exact ih z
  ·rw[if_neg e,if_pos (by omega)]
   omega
theorem Zdr:∀ (x y z:List Nat),ZQ x y≤0→ZQ y z≤0→ZQ x z≤0
 | [],_,[],_,_=>by unfold ZQ;omega
 | [],_,_::_,_,_=>by unfold ZQ;omega
 | _::_,[],_,h,_=>by unfold ZQ at h;omega
 | _::_,_::_,[],_,h=>by unfold ZQ at h;omega
 | a::r,b::s,c::t,h1,h2=>by
  unfold ZQ at h1 h2 ⊢
  have ih:=Zdr r s t
  by_cases e1:a=b
  ·rw[if_pos e1]at h1
   by_cases e2:b=c
   ·rw[if_pos e2]at h2
    rw[if_pos (e1.trans e2)]
    exact ih h1 h2
   ·rw[if_neg e2]at h2
    rw[if_neg (fun e=>e2 (e1.symm.trans e))]
    split at h2
    ·rw[if_pos (by omega)];omega
    ·omega
  ·rw[if_neg e1]at h1
   split at h1
   ·by_cases e2:b=c
    ·rw[if_neg (fun e=>e1 (e.trans e2.symm)),if_pos (by omega)];omega
    ·rw[if_neg e2]at h2
     split at h2
     ·rw[if_neg (by omega),if_pos (by omega)];omega
     ·omega
   ·omega
theorem Zh8:∀ (ss:List Str) (p:Str),risingS p ss=true→∀ (k:Nat) (x y:Str),(p::ss)[k]? = some x→ss[k]? = some y→ZQ (cds x) (cds y)≤0
 | [],p,_,k,x,y,_,h=>by simp at h
 | z::r,p,h,0,x,y,h1,h2=>by
  unfold risingS at h
  rw[Q1]at h
  simp at h1 h2
  subst h1 h2
  exact ZhZ _ _ (by simpa using h.1)
 | z::r,p,h,k+1,x,y,h1,h2=>by
  unfold risingS at h
  rw[Q1]at h
  exact Zh8 r z h.2 k x y (by simpa using h1) (by simpa using h2)
theorem Zij{ss:List Str}(h:sortedS ss=true)(k:Nat)(x y:Str)(h1:ss[k]? = some x)(h2:ss[k+1]? = some y):ZQ (cds x) (cds y)≤0:=by
 cases ss with
 | nil=>simp at h1
 | cons p r=>exact Zh8 r p h k x y h1 (by simpa using h2)
theorem ZjK:∀ss:List Str,PyData.eqvAll (ss.map PyData.str) (ss.map PyData.str)=true
 | []=>by simp[PyData.eqvAll]
 | x::r=>by simp[PyData.eqvAll,PyData.eqv,ZjK r]
theorem Zid(ss:List Str):PyData.eqv (.list (ss.map PyData.str)) (.list (ss.map PyData.str))=true:=by simp[PyData.eqv,ZjK ss]
theorem ZkO{ss:List Str}{k:Nat}(h:k<ss.length):atI (ss.map V.str) (k:Int)=some (.str ss[k]):=Zal (by rw[Qp,Qb h]<;>rfl)
def lawInv(H:Hp)(a p:Addr)(j:Nat)(σ:L2.St)(H4:Hp):Prop:=∃ (u1 u3 u4 u5 u6 u7 u8 u9:Option V) (c:Int),σ=[some (.ref a),u1,some (.ref p),u3,u4,u5,u6,u7,u8,u9]∧ZF H H4∧Zap H4 p c∧c≤700*j
theorem Zap.same{H H':Hp}{p:Addr}{c:Int}(h:Zap H p c)(s:ZF H H'):Zap H' p c:=by obtain⟨b1,b2,hb,c0⟩:=h;exact⟨b1,b2,s _ _ hb,c0⟩
def mid(ns:List Int):Nat:=(ns.length+1) / 2
def Zeq(ns:List Int):List Int:=ns.take (mid ns)
def Zhv(ns:List Int):List Int:=ns.drop (mid ns)
theorem ZkR(ns:List Int):((((ns.map V.int).length:Nat):Int)+1) / 2=((mid ns:Nat):Int):=by
 rw[Qa];unfold mid;omega
theorem ZiV{ns:List Int}{k:Int}(h0:0≤k)(h:k<(ns.length:Int)):∃v∈ns,atI (ns.map V.int) k=some (.int v):=by
 have hk:k.toNat<ns.length:=by omega
 have ek:k=((k.toNat:Nat):Int):=by omega
 have q:atI (ns.map V.int) ((k.toNat:Nat):Int)=some (.int ns[k.toNat]):=Zal (by rw[Qp,Qb hk]<;>rfl)
 rw[← ek]at q
 exact⟨_,Q2 hk,q⟩
theorem Zmp(ns:List Int)(m:Nat)(h:m≤ns.length):Zf3 (ns.map V.int) none (some (m:Int))=(ns.take m).map V.int:=by
 unfold Zf3
 have e:HT.sIx (ns.map V.int).length (ns.map V.int).length (some (m:Int))=m:=by
  unfold HT.sIx
  simp only[List.length_map]
  rw[if_neg (by omega)]
  omega
 have e0:HT.sIx (ns.map V.int).length 0 none=0:=rfl
 rw[e,e0,List.drop_zero,Nat.sub_zero,List.map_take]
theorem ZjO(ns:List Int)(m:Nat)(h:m≤ns.length):Zf3 (ns.map V.int) (some (m:Int)) none=(ns.drop m).map V.int:=by
 unfold Zf3
 have e:HT.sIx (ns.map V.int).length 0 (some (m:Int))=m:=by
  unfold HT.sIx
  simp only[List.length_map]
  rw[if_neg (by omega)]
  omega
 have e0:HT.sIx (ns.map V.int).length (ns.map V.int).length none=(ns.map V.int).length:=rfl
 rw[e,e0,List.map_drop,Qu (by rw[QZ,Qa];omega)]
theorem ZkZ(z:Str):(cds z).length=z.length:=by simp[Str.length]
theorem ZkK:∀ (x y:List Nat),(lcp x y=x.length→lcp x y=y.length→ZQ x y=0)∧(lcp x y=x.length→lcp x y≠y.length→ZQ x y = -1)∧(lcp x y≠x.length→lcp x y=y.length→ZQ x y=1) ∧
  ∀a b,x[lcp x y]? = some a→y[lcp x y]? = some b→ZQ x y=if a<b then -1 else 1
 | [],[]=>⟨fun _ _=>rfl,fun _ h=>absurd rfl h,fun h _=>absurd rfl h,fun a b h _=>by simp at h⟩
 | [],_::_=>⟨fun _ h=>by unfold lcp at h;simp at h,fun _ _=>rfl,fun h _=>absurd rfl h,fun a b h _=>by simp at h⟩
 | _::_,[]=>⟨fun h _=>by unfold lcp at h;simp at h,fun h _=>by unfold lcp at h;simp at h,fun _ _=>rfl,fun a b _ h=>by simp at h⟩
 | a::r,b::s=>by
  obtain⟨h1,h2,h3,h4⟩:=ZkK r s
  unfold lcp ZQ
  by_cases e:a=b
  ·rw[if_pos e,if_pos e]
   simp only[List.length_cons,List.getElem?_cons_succ]
   exact⟨fun p q=>h1 (by omega) (by omega),fun p q=>h2 (by omega) (by omega),fun p q=>h3 (by omega) (by omega),h4⟩
  ·rw[if_neg e,if_neg e]
   simp only[List.length_cons,List.getElem?_cons_zero]
   refine⟨fun p=>by omega,fun p=>by omega,fun _ p=>by omega,fun c d p q=>?_⟩
   cases p;cases q
   rfl
theorem ZbU:∀ (x y:List Nat),ZQ y x =-ZQ x y
 | [],[]=>rfl
 | [],_::_=>rfl
 | _::_,[]=>rfl
 | a::r,b::s=>by
  have ih:=ZbU r s
  unfold ZQ
  by_cases e:a=b
  ·rw[if_pos e,if_pos e.symm,ih]
  ·rw[if_neg e,if_neg fun z=>e z.symm]
   by_cases l:a<b
   ·rw[if_pos l,if_neg (by omega)];rfl
   ·rw[if_neg l,if_pos (by omega)]
theorem ZqV(a b:Nat):decide ((⟨#[a]⟩:Str).cps.toList<(⟨#[b]⟩:Str).cps.toList)=decide (a<b):=by
 have e:([a]:List Nat)<[b]↔a<b:=by
  constructor
  ·intro h
   cases h with
   | rel h=>exact h
   | cons h=>cases h
  ·exact fun h=>List.Lex.rel h
 exact decide_eq_decide.mpr e
theorem Zhw:∀x:List Nat,ZQ x x=0
 | []=>rfl
 | a::r=>by unfold ZQ;rw[if_pos rfl];exact Zhw r
theorem ZfK:∀ (x y:List Nat),ZQ x y=0→x=y
 | [],[],_=>rfl
 | [],_::_,h=>by unfold ZQ at h;omega
 | _::_,[],h=>by unfold ZQ at h;omega
 | a::r,b::s,h=>by
  unfold ZQ at h
  by_cases e:a=b
  ·rw[if_pos e]at h
   rw[e,ZfK r s h]
  ·rw[if_neg e]at h
   split at h<;>omega
def Zix:Sp:=fun vs H Q _=>∃x y:Str,vs=[.str x,.str y]∧x.length≤1000∧y.length≤1000∧Q (.int (ZQ (cds x) (cds y))) H
def Zf7:Sp:=fun vs H Q _=>∃x y:Str,vs=[.str x,.str y,.int (lcp (cds x) (cds y):Nat)]∧x.length≤1000∧y.length≤1000∧Q (.int (ZQ (cds x) (cds y))) H
theorem ZmX(T:Zaf K mg cRow cMerge):Df P w K mg base 1 "order_at" ["one", "other", "at"] Zf7:=by
 refine T.t_order_at.df ZjZ (fun vs H Q E h=>?_) (fun cdv f A outer s H vs Q E hr h=>?_)
 ·obtain⟨x,y,rfl,_⟩:=h
  rfl
 obtain⟨x,y,rfl,hx,hy,q⟩:=h
 refine⟨_,#[Zf,#[ZZ,(@PW.pt _ _ _ #[ZbC,#[Zm,Za1,‹2›,#[Zk,Zaw,(by rfl),T.b.n_len,Qs,#[Za,‹0›,#[Ze]]],(Zp _)],#[Zbz,#[Zm,Za1,‹2›,#[Zk,Zaw,(by rfl),T.b.n_len,Qs,#[Za,‹1›,#[Ze]]],(Zp _)]]]),#[Zj,#[Zs,#[Zi]]],#[ZE]],#[Zf,#[ZZ,#[Zm,Za1,‹2›,#[Zk,Zaw,(by rfl),T.b.n_len,Qs,#[Za,‹0›,#[Ze]]],(Zp _)],#[Zj,#[Zs,(@Zia _ _ _ _ _ _ ZfG #[Zi])]],#[ZE]],#[Zf,#[ZZ,#[Zm,Za1,‹2›,#[Zk,Zaw,(by rfl),T.b.n_len,Qs,#[Za,‹1›,#[Ze]]],(Zp _)],#[Zj,#[Zs,#[Zi]]],#[ZE]],#[Zj,#[Zs,#[Zbo,#[Zm,Zma,#[Zo,ZeM,‹0›,‹2›],#[Zo,ZeM,‹1›,‹2›],(Zp _)],(@Zia _ _ _ _ _ _ ZfG #[Zi]),#[Zi]]]]]]],?_⟩
 obtain⟨o1,o2,o3,o4⟩:=ZkK (cds x) (cds y)
 have ll:=Zfz (cds x) (cds y)
 have lx:=ZkZ x
 have ly:=ZkZ y
 have inj:∀ {m n:Nat},V.int (m:Int)=V.int (n:Int)→m=n:=fun {m n} e=>by injection e with e;omega
 refine⟨_,rfl,_,rfl,x,rfl,Za6 hx,rfl,_,rfl,ZaY (fun d=>?_) (fun d=>?_)⟩
 ·have d1:=inj (of_decide_eq_true d)
  refine⟨_,rfl,_,rfl,y,rfl,Za6 hy,rfl,_,rfl,ZaY (fun d2=>?_) (fun d2=>?_)⟩
  ·have d2':=inj (of_decide_eq_true d2)
   rw[o1 (by omega) (by omega)]at q
   exact q
  ·have d2':¬ lcp (cds x) (cds y)=y.length:=fun e=>d2 (by rw[e];exact decide_eq_true rfl)
   refine⟨_,rfl,_,rfl,x,rfl,Za6 hx,rfl,_,rfl,Zcw (by rw[d1]) ?_⟩
   rw[o2 (by omega) (by omega)]at q
   exact⟨_,rfl,q⟩
 ·have d1:¬ lcp (cds x) (cds y)=x.length:=fun e=>d (by rw[e];exact decide_eq_true rfl)
  refine ZbE ⟨_,rfl,_,rfl,x,rfl,Za6 hx,rfl,_,rfl,Zbl (fun e=>d1 (inj e)) ?_⟩
  refine⟨_,rfl,_,rfl,y,rfl,Za6 hy,rfl,_,rfl,ZaY (fun d2=>?_) (fun d2=>?_)⟩
  ·have d2':=inj (of_decide_eq_true d2)
   rw[o3 (by omega) (by omega)]at q
   exact q
  ·have d2':¬ lcp (cds x) (cds y)=y.length:=fun e=>d2 (by rw[e];exact decide_eq_true rfl)
   obtain⟨a,ha,ha'⟩:=Zdv (z:=x) (k:=(lcp (cds x) (cds y):Nat)) (by omega) (by omega)
   obtain⟨b,hb,hb'⟩:=Zdv (z:=y) (k:=(lcp (cds x) (cds y):Nat)) (by omega) (by omega)
   rw[QaO]at ha hb
   refine⟨_,rfl,_,rfl,x,_,a,rfl,rfl,Za6 hx,ha',_,rfl,_,rfl,y,_,b,rfl,rfl,Za6 hy,hb',_,_,rfl,rfl,_,rfl,?_⟩
   rw[ZqV]
   rw[o4 a b ha hb]at q
   refine ZaY (fun e=>?_) (fun e=>?_)
   ·rw[if_pos (of_decide_eq_true e)]at q
    exact⟨_,rfl,q⟩
   ·rw[if_neg (fun z=>e (decide_eq_true z))]at q
    exact q
theorem Zmw(T:Zaf K mg cRow cMerge)(f_alike:Df P w K mg base 2 "alike" ["one", "other"] ZcL)(f_order_at:Df P w K mg base 1 "order_at" ["one", "other", "at"] Zf7):Df P w K mg base 3 "liken" ["one", "other"] Zix:=by
 refine T.t_liken.df Zof (fun vs H Q E h=>?_) (fun cdv f A outer s H vs Q E hr h=>?_)
 ·obtain⟨x,y,rfl,_⟩:=h
  rfl
 obtain⟨x,y,rfl,hx,hy,q⟩:=h
 refine⟨_,#[Zj,#[Zs,#[Zy,f_order_at,hr,#[Za,‹0›,#[Za,‹1›,#[Za,#[Zy,f_alike,hr,#[Za,‹0›,#[Za,‹1›,#[Ze]]],(by rfl)],#[Ze]]]],(by rfl)]]],?_⟩
 exact⟨_,rfl,_,rfl,_,rfl,_,rfl,x,y,rfl,hx,hy,x,y,rfl,hx,hy,q⟩
theorem Zjg{c A B:Prop}[Decidable c](hc:¬ c)(h:A):if (!decide c)=true then A else B:=by
 rw[if_pos (by rw[decide_eq_false hc];rfl)]
 exact h
def ZdV:Sp:=fun vs H Q _=>∃ (x y:Str) (far:Nat),vs=[.str x,.str y,.int far]∧x.length≤1000∧y.length≤1000∧far≤lcp (cds x) (cds y) ∧
 ∀t,H t=none→Q (.ref t) (upd H t (.tup [.int (ZQ (cds x) (cds y)),.int (lcp (cds x) (cds y):Nat),.int ((lcp (cds x) (cds y):Nat)-(far:Int)+1)]))
theorem Zhm(T:Zaf K mg cRow cMerge)(f_alike_from:Df P w K mg base 1 "alike_from" ["one", "other", "far"] ZcH)(f_order_at:Df P w K mg base 1 "order_at" ["one", "other", "at"] Zf7):Df P w K mg base 2 "liken_from" ["one", "other", "far"] ZdV:=by
 refine T.t_liken_from.df Zeu (fun vs H Q E h=>?_) (fun cdv f A outer s H vs Q E hr h=>?_)
 ·obtain⟨x,y,far,rfl,_⟩:=h
  rfl
 obtain⟨x,y,far,rfl,hx,hy,hf,q⟩:=h
 refine⟨_,#[Zf,#[Zw,3,Zeu.nd,(Or.inl rfl),#[Zy,f_alike_from,hr,#[Za,‹0›,#[Za,‹1›,#[Za,‹2›,#[Ze]]]],(by rfl)]],#[Zj,#[Zs,#[ZaC,#[Za,#[Zy,f_order_at,hr,#[Za,‹0›,#[Za,‹1›,#[Za,‹3›,#[Ze]]]],(by rfl)],#[Za,‹3›,#[Za,#[ZG,Z8,#[ZG,Zey,‹3›,‹2›],#[Zi]],#[Ze]]]]]]]],?_⟩
 refine⟨_,rfl,_,rfl,_,rfl,x,y,far,rfl,hx,hy,hf,?_⟩
 refine⟨_,rfl,_,rfl,_,rfl,x,y,rfl,hx,hy,?_⟩
 refine⟨_,rfl,_,rfl,_,rfl,_,_,rfl,rfl,_,_,rfl,rfl,(by show 3≤sizeLine;decide),fun t ht=>?_⟩
 exact q t ht
def Zi1(ss:List Str)(v:V):Prop :=
 (v=.non∧∀i x y,ss[i+1]? = some x→ss[i]? = some y→0≤ZQ (cds x) (cds y)) ∨
 ∃k:Nat,v=.int ((k+1:Nat):Int)∧k+1<ss.length∧(∀x y,ss[k+1]? = some x→ss[k]? = some y→ZQ (cds x) (cds y)<0)∧∀i,i<k→∀x y,ss[i+1]? = some x→ss[i]? = some y→0≤ZQ (cds x) (cds y)
theorem Zpy{ss:List Str}{v v':V}(h:Zi1 ss v)(h':Zi1 ss v'):v=v':=by
 rcases h with⟨rfl,a⟩|⟨k,rfl,l,b,c⟩
 ·rcases h' with⟨rfl,_⟩|⟨k',rfl,l',b',_⟩
  ·rfl
  ·have:=a k' _ _ (Qb l') (Qb (by omega))
   have:=b' _ _ (Qb l') (Qb (by omega))
   omega
 ·rcases h' with⟨rfl,a⟩|⟨k',rfl,l',b',c'⟩
  ·have:=a k _ _ (Qb l) (Qb (by omega))
   have:=b _ _ (Qb l) (Qb (by omega))
   omega
  ·have e:k=k':=by
    rcases Nat.lt_trichotomy k k' with h|h|h
    ·have:=c' k h _ _ (Qb l) (Qb (by omega))
     have:=b _ _ (Qb l) (Qb (by omega))
     omega
    ·exact h
    ·have:=c k' h _ _ (Qb l') (Qb (by omega))
     have:=b' _ _ (Qb l') (Qb (by omega))
     omega
   rw[e]
def ZnA(K:PySem.W.Frag):Sp:=fun vs H Q _=>∃ (a:Addr) (ss:List Str),vs=[.ref a]∧SqL K H a (ss.map V.str)∧ss.length≤200∧(∀s∈ss,s.length≤1000)∧∀ (v:V) (H':Hp),Zi1 ss v→ZF H H'→Q v H'
theorem Znb(T:Zaf K mg cRow cMerge)(f_liken:Df P w K mg base 3 "liken" ["one", "other"] Zix):Df P w K mg base 4 "first_break" ["keys"] (ZnA K):=by
 refine T.t_first_break.df ZdS (fun vs H Q E h=>?_) (fun cdv f A outer s H vs Q E hr h=>?_)
 ·obtain⟨a,ss,rfl,_⟩:=h
  rfl
 obtain⟨a,ss,rfl,hS,hn,hlen,q⟩:=h
 refine⟨_,#[Zf,#[Zcv,PassesOwn.never,(@Zlu _ _ _ _ _ _ _ rfl T.b.n_range #[Za,#[Zi],#[Za,#[Zk,(Zcj K),(by rfl),T.b.n_len,Qs,#[Za,‹0›,#[Ze]]],#[Ze]]] (by rfl) (by rfl)),#[ZD,1,ZdS.nd,(Or.inl rfl)],#[Zj,#[ZZ,#[Zm,Zcu,#[Zy,f_liken,hr,#[Za,#[Zo,(ixL K),‹0›,‹1›],#[Za,#[Zo,(ixL K),‹0›,#[ZG,Zey,‹1›,#[Zi]]],#[Ze]]],(by rfl)],#[Zi],(Zp _)],#[Zj,#[Zs,‹1›]],#[ZE]]]],#[Zj,#[Zs,#[ZW]]]],?_⟩
 have hl:(((ss.map V.str).length:Nat):Int)=(ss.length:Int):=by rw[Qa]
 refine⟨_,rfl,a,_,rfl,.inl hS,_,_,rfl,⟨by omega,by omega,by omega,by omega⟩,?_⟩
 refine Zep (fun i σ H2=>(∃v:Option V,σ=[some (.ref a),v])∧ZF H H2∧∀j,j<i→∀x y,ss[j+1]? = some x→ss[j]? = some y→0≤ZQ (cds x) (cds y)) ⟨⟨none,rfl⟩,ZF.refl H,fun j h=>by omega⟩ ?_ ?_
 ·rintro i σ H2 hi ⟨⟨v,rfl⟩,s2,h2⟩
  have hi1:i+1<ss.length:=by omega
  have e1:(1+(i:Int))=((i+1:Nat):Int):=by omega
  have e0:(1+(i:Int)-1)=((i:Nat):Int):=by omega
  refine⟨_,rfl,_,rfl,a,_,_,_,rfl,rfl,s2.seq hS,(by rw[e1];exact ZkO hi1),_,rfl,_,rfl,_,_,rfl,rfl,a,_,_,_,rfl,rfl,s2.seq hS,(by rw[e0];exact ZkO (by omega)),ss[i+1],ss[i],rfl,hlen _ (Q2 hi1),hlen _ (Q2 (by omega)),_,_,rfl,rfl,_,rfl,?_⟩
  refine ZaY (fun d=>?_) (fun d=>?_)
  ·have d':ZQ (cds ss[i+1]) (cds ss[i])<0:=of_decide_eq_true d
   refine⟨_,rfl,q _ H2 (.inr ⟨i,by rw[e1],hi1,fun x y h1 h0=>?_,h2⟩) s2⟩
   rw[Qb hi1]at h1
   rw[Qb (by omega)]at h0
   cases h1;cases h0
   omega
  ·have d':¬ ZQ (cds ss[i+1]) (cds ss[i])<0:=fun z=>d (decide_eq_true z)
   refine⟨⟨_,rfl⟩,s2,fun j hj x y h1 h0=>?_⟩
   by_cases ej:j=i
   ·subst ej
    rw[Qb hi1]at h1
    rw[Qb (by omega)]at h0
    cases h1;cases h0
    omega
   ·exact h2 j (by omega) x y h1 h0
 ·rintro σ H2 ⟨⟨v,rfl⟩,s2,h2⟩
  refine q _ H2 (.inl ⟨rfl,fun j x y h1 h0=>?_⟩) s2
  have:=(Qg.mp h1).1
  exact h2 j (by omega) x y h1 h0
def Zb6(K:PySem.W.Frag)(tup:Bool):Sp:=fun vs H Q _=>∃ (a:Addr) (ns:List Int),vs=[.ref a]∧SqL K H a (ns.map V.int)∧ns.length≤100 ∧
 ∀ (t f r:Addr) (H':Hp),H t=none→H f=none→H r=none→f≠r→H' t=some (if tup=true then .tup [.ref f,.ref r] else .lst [.ref f,.ref r])→H' f=some (.lst ((Zeq ns).map V.int))→H' r=some (.lst ((Zhv ns).map V.int))→ZF H H'→t≠f→t≠r→Q (.ref t) H'
theorem ZjR{H:Hp}{f r t:Addr}{A B T:HO}(hf:H f=none)(hr:(upd H f A) r=none)(ht:(upd (upd H f A) r B) t=none) :
  H r=none∧H t=none∧f≠r∧t≠f∧t≠r∧(upd (upd (upd H f A) r B) t T) f=some A∧(upd (upd (upd H f A) r B) t T) r=some B∧ZF H (upd (upd (upd H f A) r B) t T):=by
 have n1:f≠r:=Zc (H:=upd H f A) (o:=A) Zd hr
 have e1:(upd (upd H f A) r B) f=some A:=by rw[Zb n1];exact Zd
 have n2:f≠t:=Zc e1 ht
 have n3:r≠t:=Zc (H:=upd (upd H f A) r B) (o:=B) Zd ht
 have s1:ZF H (upd H f A):=Zh hf _
 have s2:=s1.trans (Zh hr B)
 have s3:=s2.trans (Zh ht T)
 exact⟨s1.free hr,s2.free ht,n1,n2.symm,n3.symm,by rw[Zb n2];exact e1,by rw[Zb n3];exact Zd,s3⟩
theorem Zlm(T:Zaf K mg cRow cMerge):Df P w K mg base 1 "halves" ["numbers"] (Zb6 K true):=by
 refine T.t_halves.df ZhY (fun vs H Q E h=>?_) (fun cdv f A outer s H vs Q E hr h=>?_)
 ·obtain⟨a,ns,rfl,_⟩:=h
  rfl
 obtain⟨a,ns,rfl,hS,hn,q⟩:=h
 refine⟨_,#[Zf,#[Zw,1,ZhY.nd,(Or.inl rfl),#[ZG,Zf8,#[ZG,Z8,#[Zk,(Zcj K),(by rfl),T.b.n_len,Qs,#[Za,‹0›,#[Ze]]],#[Zi]],#[Zi]]],#[Zj,#[Zs,#[ZaC,#[Za,#[ZbT,(slL K),‹0›,(@ZbM _),(@Zcc _ _ _ ‹1›)],#[Za,#[ZbT,(slL K),‹0›,(@Zcc _ _ _ ‹1›),(@ZbM _)],#[Ze]]]]]]],?_⟩
 refine⟨_,rfl,a,_,rfl,.inl hS,_,_,rfl,rfl,_,_,rfl,rfl,⟨by decide,by decide⟩,?_⟩
 have hm:mid ns≤ns.length∨ns=[]:=by
  cases ns with
  | nil=>exact .inr rfl
  | cons x r=>left;unfold mid;rw[QK];omega
 have hml:mid ns≤ns.length:=by
  rcases hm with h|h
  ·exact h
  ·subst h;decide
 have em:=ZkR ns
 simp only[em]
 refine⟨_,rfl,_,rfl,_,rfl,a,_,rfl,hS,fun l hl=>?_⟩
 refine⟨_,rfl,_,rfl,_,rfl,a,_,rfl,(Zh hl _).seq hS,fun r hr0=>⟨(by show 2≤sizeLine;decide),fun t ht=>?_⟩⟩
 rw[Zmp ns _ hml]at hr0 ht ⊢
 rw[ZjO ns _ hml]at ht ⊢
 obtain⟨z1,z2,z3,z4,z5,z6,z7,z8⟩:=ZjR (T:=.tup [.ref l,.ref r]) hl hr0 ht
 exact q t l r _ z2 hl z1 z3 Zd z6 z7 z8 z4 z5
theorem ZjM(T:Zaf K mg cRow cMerge):Df P w K mg base 1 "_law_halves" ["_law_numbers"] (Zb6 K false):=by
 refine T.t_l_halves.df ZfT (fun vs H Q E h=>?_) (fun cdv f A outer s H vs Q E hr h=>?_)
 ·obtain⟨a,ns,rfl,_⟩:=h
  rfl
 obtain⟨a,ns,rfl,hS,hn,q⟩:=h
 refine⟨_,#[Zf,#[Zw,1,ZfT.nd,(Or.inl rfl),#[ZG,Zf8,#[ZG,Z8,#[Zk,(Zcj K),(by rfl),T.b.n_len,Qs,#[Za,‹0›,#[Ze]]],#[Zi]],#[Zi]]],#[Zj,#[Zs,#[Zax,#[Za,#[ZbT,(slL K),‹0›,(@ZbM _),(@Zcc _ _ _ ‹1›)],#[Za,#[ZbT,(slL K),‹0›,(@Zcc _ _ _ ‹1›),(@ZbM _)],#[Ze]]]]]]],?_⟩
 refine⟨_,rfl,a,_,rfl,.inl hS,_,_,rfl,rfl,_,_,rfl,rfl,⟨by decide,by decide⟩,?_⟩
 have hm:mid ns≤ns.length∨ns=[]:=by
  cases ns with
  | nil=>exact .inr rfl
  | cons x r=>left;unfold mid;rw[QK];omega
 have hml:mid ns≤ns.length:=by
  rcases hm with h|h
  ·exact h
  ·subst h;decide
 have em:=ZkR ns
 simp only[em]
 refine⟨_,rfl,_,rfl,_,rfl,a,_,rfl,hS,fun l hl=>?_⟩
 refine⟨_,rfl,_,rfl,_,rfl,a,_,rfl,(Zh hl _).seq hS,fun r hr0=>⟨(by show 2≤sizeLine;decide),fun t ht=>?_⟩⟩
 rw[Zmp ns _ hml]at hr0 ht ⊢
 rw[ZjO ns _ hml]at ht ⊢
 obtain⟨z1,z2,z3,z4,z5,z6,z7,z8⟩:=ZjR (T:=.lst [.ref l,.ref r]) hl hr0 ht
 exact q t l r _ z2 hl z1 z3 Zd z6 z7 z8 z4 z5
def Zkw:Sp:=fun vs H Q _=>∃ (p:Addr) (c:Int),vs=[.ref p]∧Zap H p c∧c<2 ^ 50∧∀ (v c':Int) (H':Hp),0≤v→v≤12→Zap H' p c'→c≤c'→c'≤c+3→But p H H'→Q (.int v) H'
theorem ZoU(T:Zaf K mg cRow cMerge)(f_l_pick:Df P w K mg base 2 "_law_pick" ["_law_left_here", "_law_many_here"] Zeb):Df P w K mg base 3 "_law_many" ["_law_left_here"] Zkw:=by
 refine T.t_l_many.df Zic (fun vs H Q E h=>?_) (fun cdv f A outer s H vs Q E hr h=>?_)
 ·obtain⟨p,c,rfl,_⟩:=h
  rfl
 obtain⟨p,c,rfl,hL,c1,q⟩:=h
 refine⟨_,#[Zf,#[Zw,1,Zic.nd,(Or.inl rfl),#[Zy,f_l_pick,hr,#[Za,‹0›,#[Za,#[Zi],#[Ze]]],(by rfl)]],#[Zj,#[Zs,#[Zo,(ixL K),#[Zax,#[Za,#[Zi],#[Za,#[Zi],#[Za,#[Zi],#[Za,#[Zi],#[Za,#[Zi],#[Za,#[Zi],#[Za,#[Zy,f_l_pick,hr,#[Za,‹0›,#[Za,#[Zi],#[Ze]]],(by rfl)],#[Za,#[ZG,Z8,#[Zi],#[Zy,f_l_pick,hr,#[Za,‹0›,#[Za,#[Zi],#[Ze]]],(by rfl)]],#[Ze]]]]]]]]]],‹1›]]]],?_⟩
 have c0:=hL.ge
 refine⟨_,rfl,p,c,_,rfl,hL,by omega,by decide,by decide,fun wy H1 w0 w1 L1 B1=>?_⟩
 refine⟨_,rfl,p,c+1,_,rfl,L1,by omega,by decide,by decide,fun d1 H2 d10 d11 L2 B2=>?_⟩
 refine⟨_,rfl,p,c+1+1,_,rfl,L2,by omega,by decide,by decide,fun d2 H3 d20 d21 L3 B3=>⟨_,_,rfl,rfl,(by show 8≤sizeLine;decide),fun e he=>?_⟩⟩
 obtain⟨v,hv,hat⟩:=ZiV (ns:=[2,3,4,5,6,3,d1,7+d2]) w0 w1
 have hv1:0≤v∧v≤12:=by
  simp only[List.mem_cons,List.not_mem_nil,or_false]at hv
  omega
 exact⟨_,rfl,e,_,_,_,rfl,rfl,SqL.of Zd,hat,q v _ _ hv1.1 hv1.2 (L3.new he) (by omega) (by omega) (((B1.trans B2).trans B3).trans (But.same (Zh he _)))⟩
theorem ZbX(f:Str)(v:V):∀fs:List (Str×V),(Zt f v fs).length≤fs.length+1
 | []=>Qh _
 | p::r=>by
  unfold Zt
  split
  ·exact Qa4 _
  ·exact Nat.succ_le_succ (ZbX f v r)
def Zbc(k f:Addr)(g:Int):List (Str×V):=Zt "gone" (.int g) (Zt "fars" (.ref f) (Zt "all_keys" (.ref k) []))
theorem nGF:¬ (("fars" : Str) = "gone"):=by decide +kernel
theorem nGK:¬ (("all_keys" : Str) = "gone"):=by decide +kernel
theorem nFK:¬ (("all_keys" : Str) = "fars"):=by decide +kernel
theorem Zck(k f:Addr)(g:Int):(Zbc k f g).lookup ("all_keys" : Str)=some (.ref k):=by
 unfold Zbc
 rw[Zl,if_neg nGK,Zl,if_neg nFK,Zl,if_pos rfl]
theorem Zdm(k f:Addr)(g:Int):(Zbc k f g).lookup ("gone" : Str)=some (.int g):=by
 unfold Zbc
 rw[Zl,if_pos rfl]
theorem Ze6(k f:Addr)(g:Int){m:Str}(h1:¬ m = "gone")(h2:¬ m = "fars")(h3:¬ m = "all_keys"):(Zbc k f g).lookup m=none:=by
 unfold Zbc
 rw[Zl,if_neg h1,Zl,if_neg h2,Zl,if_neg h3]
 rfl
structure Zgi (C:Addr) (H:Hp) (p k f:Addr) (ss:List Str) (g:Nat):Prop where
 ob:∃dx,H p=some (.ins C dx (Zbc k f g))
 ks:H k=some (.lst (ss.map V.str))
 fs:H f=some (.lst ((List.range ss.length).map fun j=>.int (Zdp ss j)))
def ZiW(C:Addr):Sp:=fun vs H Q _=>∃ (p k f:Addr) (ss:List Str) (g:Nat),vs=[.ref p]∧Zgi C H p k f ss g∧Q (.int ((ss.length:Int)-(g:Int))) H
theorem ZoN(T:Zaf K mg cRow cMerge):Mf P w K mg base 1 cRow "to_go" ["self"] (ZiW cRow):=by
 refine T.t_Row_to_go.mf Ziy (fun vs H Q E h=>?_) (fun cdv f A outer s H vs Q E hr h=>?_)
 ·obtain⟨p,k,f,ss,g,rfl,_⟩:=h
  rfl
 obtain⟨p,k,f,ss,g,rfl,R,q⟩:=h
 refine⟨_,#[Zj,#[Zs,#[ZG,Zey,#[Zk,(Zcj K),(by rfl),T.b.n_len,Qs,#[Za,#[ZO,‹0›],#[Ze]]],#[ZO,‹0›]]]],?_⟩
 obtain⟨⟨dx,ho⟩,hk,hf⟩:=R
 refine⟨_,rfl,p,cRow,dx,_,_,rfl,ho,T.cl_Row,T.na_Row_all_keys,Zck _ _ _,k,_,rfl,.inl (SqL.of hk),_,rfl,p,cRow,dx,_,_,rfl,ho,T.cl_Row,T.na_Row_gone,Zdm _ _ _,_,_,rfl,rfl,?_⟩
 rw[Qa]
 exact q
def ZdH(ss:List Str)(g:Nat):V:=match ss[g]? with
 | some z=>.str z
 | none=>.non
def ZeA(C:Addr):Sp:=fun vs H Q _=>∃ (p k f:Addr) (ss:List Str) (g:Nat),vs=[.ref p]∧Zgi C H p k f ss g∧Q (ZdH ss g) H
theorem Zpb(T:Zaf K mg cRow cMerge)(f_Row_to_go:Mf P w K mg base 1 cRow "to_go" ["self"] (ZiW cRow)):Mf P w K mg base 2 cRow "head" ["self"] (ZeA cRow):=by
 refine T.t_Row_head.mf ZjB (fun vs H Q E h=>?_) (fun cdv f A outer s H vs Q E hr h=>?_)
 ·obtain⟨p,k,f,ss,g,rfl,_⟩:=h
  rfl
 obtain⟨p,k,f,ss,g,rfl,R,q⟩:=h
 refine⟨_,#[Zj,#[Zs,#[Zbo,#[Zm,ZgM,#[Zay,f_Row_to_go,T.cl_Row,hr,‹0›],#[Zi],(Zp _)],#[Zo,(ixL K),#[ZO,‹0›],#[ZO,‹0›]],#[ZW]]]],?_⟩
 obtain⟨⟨dx,ho⟩,hk,hf⟩:=id R
 refine⟨_,rfl,p,dx,_,rfl,ho,Ze6 _ _ _ (by decide +kernel) (by decide +kernel) (by decide +kernel),p,k,f,ss,g,rfl,R,_,_,rfl,rfl,_,rfl,?_⟩
 refine ZaY (fun d=>?_) (fun d=>?_)
 ·have d':(0:Int)<(ss.length:Int)-(g:Int):=of_decide_eq_true d
  have hg:g<ss.length:=by omega
  refine⟨_,rfl,p,cRow,dx,_,_,rfl,ho,T.cl_Row,T.na_Row_all_keys,Zck _ _ _,_,rfl,p,cRow,dx,_,_,rfl,ho,T.cl_Row,T.na_Row_gone,Zdm _ _ _,k,_,_,_,rfl,rfl,SqL.of hk,Zal (by rw[Qp,Qb hg]<;>rfl),?_⟩
  unfold ZdH at q
  rw[Qb hg]at q
  exact q
 ·have d':¬ (0:Int)<(ss.length:Int)-(g:Int):=fun z=>d (decide_eq_true z)
  unfold ZdH at q
  rw[QL (by omega)]at q
  exact q
def Zfj(C:Addr):Sp:=fun vs H Q _=>∃ (p dx a:Addr) (ss:List Str),vs=[.ref p,.ref a]∧H p=some (.ins C dx [])∧H a=some (.lst (ss.map V.str))∧ss.length≤100∧(∀s∈ss,s.length≤1000) ∧
 ∀ (k f:Addr) (H':Hp),H k=none→H f=none→k≠f→Zgi C H' p k f ss 0→(∀b o,H b=some o→b≠p→H' b=some o)→Q .non H'
theorem Zkv(T:Zaf K mg cRow cMerge)(f_alikes:Df P w K mg base 3 "alikes" ["row"] (ZeR K)):Cf P w K mg base 4 cRow "Row" ["self", "keys"] (Zfj cRow):=by
 refine T.t_Row_init.cf Zj0 (fun vs H Q E h=>?_) (fun cdv f A outer s H vs Q E hr h=>?_)
 ·obtain⟨p,dx,a,ss,rfl,_⟩:=h
  rfl
 obtain⟨p,dx,a,ss,rfl,hp,ha,hn,hz,q⟩:=h
 refine⟨_,#[Zf,#[ZbB,‹0›,#[ZaR,(Zh9 K),T.b.n_list,boot_list,#[Za,‹1›,#[Ze]]]],#[Zf,#[ZbB,‹0›,#[Zy,f_alikes,hr,#[Za,‹1›,#[Ze]],(by rfl)]],#[Zj,#[ZbB,‹0›,#[Zi]]]]],?_⟩
 refine⟨_,rfl,a,_,rfl,.inl (SqL.of ha),fun k hk=>?_⟩
 have npk:p≠k:=Zc hp hk
 have nap:a≠p:=fun e=>by rw[e,hp]at ha;cases ha
 have nak:a≠k:=Zc ha hk
 refine⟨_,rfl,p,cRow,dx,[],rfl,(by rw[Zb npk];exact hp),T.cl_Row,T.na_Row_all_keys,(by show 0<1000;decide),?_⟩
 have ha2:(upd (upd H k (.lst (ss.map V.str))) p (.ins cRow dx (Zt "all_keys" (.ref k) []))) a=some (.lst (ss.map V.str)):=by rw[Zb nap,Zb nak];exact ha
 have hp2:(upd (upd H k (.lst (ss.map V.str))) p (.ins cRow dx (Zt "all_keys" (.ref k) []))) p=some (.ins cRow dx (Zt "all_keys" (.ref k) [])):=Zd
 have hk2:(upd (upd H k (.lst (ss.map V.str))) p (.ins cRow dx (Zt "all_keys" (.ref k) []))) k=some (.lst (ss.map V.str)):=by rw[Zb npk.symm];exact Zd
 have s2:∀b o,H b=some o→b≠p→(upd (upd H k (.lst (ss.map V.str))) p (.ins cRow dx (Zt "all_keys" (.ref k) []))) b=some o:=fun b o h n=>by rw[Zb n,Zb (Zc h hk)];exact h
 refine⟨_,rfl,a,ss,rfl,SqL.of ha2,hn,hz,fun f H3 hf0 hf3 s3=>?_⟩
 have hHf:H f=none:=by
  cases w':H f with
  | none=>rfl
  | some u =>
   by_cases e:f=p
   ·rw[e,hp2]at hf0;cases hf0
   ·rw[s2 f u w' e]at hf0;cases hf0
 have nkf:k≠f:=Zc hk2 hf0
 have npf:p≠f:=Zc hp2 hf0
 refine⟨_,rfl,p,cRow,dx,_,rfl,s3 _ _ hp2,T.cl_Row,T.na_Row_fars,(by show 1<1000;decide),?_⟩
 refine⟨_,rfl,p,cRow,dx,_,rfl,Zd,T.cl_Row,T.na_Row_gone,?_,?_⟩
 ·have h1:=ZbX "all_keys" (V.ref k) []
  have h2:=ZbX "fars" (V.ref f) (Zt "all_keys" (V.ref k) [])
  have h3:([]:List (Str×V)).length=0:=rfl
  omega
 ·refine q k f _ hk hHf nkf ⟨⟨dx,Zd⟩,?_,?_⟩ fun b o h n=>?_
  ·rw[Zb npk.symm,Zb npk.symm];exact s3 _ _ hk2
  ·rw[Zb npf.symm,Zb npf.symm];exact hf3
  ·rw[Zb n,Zb n];exact s3 _ _ (s2 b o h n)
theorem ZgC{K:PySem.W.Frag}{a:Addr}{xs:List V}{k:Nat}{D:Addr}{σ:L2.St}{H1:Hp}{g:TG}{tc:TT}{te:TE}{Q:VK}(Pv:Nat→List V→L2.St→Hp→Prop)(h0:Pv 0 [] (σ++List.replicate k none) (upd H1 D (.lst [])))
  (hl:∀i ys σ H,Pv i ys σ H→SqL K H a xs)
  (hs:∀i x ys σ H,xs[i]? = some x→Pv i ys σ H→g x σ H fun σ4 H4=>tc σ4 H4 fun b H5=>if b=true then te σ4 H5 fun y H6=>H6 D=some (.lst ys)∧ys.length<sizeLine∧Pv (i+1) (ys++[y]) σ4 (upd H6 D (.lst (ys++[y]))) else Pv (i+1) ys σ4 H5)
  (hd:∀ys σ H,Pv xs.length ys σ H→Q (.ref D) H):ZdM (Itl K a) D k σ H1 g tc te Q:=by
 refine⟨fun i m ys σ H=>m=xs.length-i∧i≤xs.length∧Pv i ys σ H,⟨xs.length,by simp,Qw _,h0⟩,?_⟩
 rintro i m ys σ H ⟨rfl,hi,p⟩
 have q1:=hl i ys σ H p
 by_cases hlt:i<xs.length
 ·refine .inr ⟨⟨xs,xs[i],q1,Qb hlt⟩,Pv (i+1),fun ys' σ' H' p'=>⟨xs.length-(i+1),by omega,rfl,hlt,p'⟩,fun x H' y=>?_⟩
  obtain⟨rfl,e⟩:=y
  exact hs i x ys σ _ (e xs q1) p
 ·have e:i=xs.length:=by omega
  exact .inl ⟨⟨xs,q1,by omega⟩,hd ys σ H (e ▸ p)⟩
theorem ZnR:∀x y:List Nat,x<y↔ZQ x y<0
 | [],[]=>by unfold ZQ;exact⟨fun h=>absurd h (by simp),fun h=>absurd h (by omega)⟩
 | [],_::_=>by unfold ZQ;exact⟨fun _=>by omega,fun _=>List.nil_lt_cons _ _⟩
 | _::_,[]=>by unfold ZQ;exact⟨fun h=>absurd h (List.not_lt_nil _),fun h=>absurd h (by omega)⟩
 | a::r,b::s=>by
  have ih:=ZnR r s
  unfold ZQ
  rw[Qaz]
  by_cases e:a=b
  ·rw[if_pos e,← ih]
   exact⟨fun h=>h.elim (fun z=>by omega) (fun z=>z.2),fun h=>.inr ⟨e,h⟩⟩
  ·rw[if_neg e]
   by_cases l:a<b
   ·rw[if_pos l];exact⟨fun _=>by omega,fun _=>.inl l⟩
   ·rw[if_neg l];exact⟨fun h=>h.elim (fun z=>absurd z l) (fun z=>absurd z.1 e),fun h=>absurd h (by omega)⟩
theorem Zm3{H:Hp}{D:Addr}{ys:List V}(h:H D=some (.lst ys))(o:HO):∀a xs,H a=some (.tup xs)→(upd H D o) a=some (.tup xs):=fun a xs e=>by
 have nb:a≠D:=by intro z;rw[z,h]at e;cases e
 rw[Zb nb];exact e
abbrev Hd:=Int→Option (List Nat)
def Btr(x:List Nat)(a:Int)(y:List Nat)(b:Int):Prop:=ZQ x y<0∨(ZQ x y=0∧a<b)
def Win(hd:Hd)(N:List Int):Option Int→Prop
 | none=>∀n∈N,hd n=none
 | some a=>a∈N∧∃x,hd a=some x∧∀b∈N,∀y,hd b=some y→b=a∨Btr x a y b
theorem Btr.asym{x y:List Nat}{a b:Int}(h:Btr x a y b)(g:Btr y b x a):False:=by
 have e:=ZbU x y
 rcases h with h|⟨h,h2⟩<;>rcases g with g|⟨g,g2⟩<;>omega
theorem Btr.total{x y:List Nat}{a b:Int}(h:a≠b):Btr x a y b∨Btr y b x a:=by
 have e:=ZbU x y
 unfold Btr
 omega
theorem Btr.trans{x y z:List Nat}{a b c:Int}(h:Btr x a y b)(g:Btr y b z c):Btr x a z c:=by
 have t1:=Zdr x y z
 have t2:=Zdr z x y
 have t3:=Zdr y z x
 have e1:=ZbU x y
 have e2:=ZbU y z
 have e3:=ZbU x z
 unfold Btr at *
 omega
theorem Win.one{hd:Hd}{N:List Int}{v w:Option Int}(h:Win hd N v)(g:Win hd N w):v=w:=by
 cases v with
 | none =>
  cases w with
  | none=>rfl
  | some b=>obtain⟨hb,y,hy,_⟩:=g;rw[h b hb]at hy;cases hy
 | some a =>
  obtain⟨ha,x,hx,h2⟩:=h
  cases w with
  | none=>rw[g a ha]at hx;cases hx
  | some b =>
   obtain⟨hb,y,hy,g2⟩:=g
   rcases h2 b hb y hy with e|e
   ·rw[e]
   ·rcases g2 a ha x hx with e'|e'
    ·rw[e']
    ·exact(e.asym e').elim
theorem Win.nil(hd:Hd):Win hd [] none:=fun n h=>by cases h
theorem Win.sing{hd:Hd}{n:Int}:Win hd [n] (if (hd n).isSome then some n else none):=by
 cases h:hd n with
 | none=>intro m hm;rw[Qo.mp hm];exact h
 | some x=>exact⟨by simp,x,h,fun b hb y hy=>.inl (Qo.mp hb)⟩
theorem Win.both{hd:Hd}{A B:List Int}{a b:Int}{x y:List Nat}(ha:Win hd A (some a))(hb:Win hd B (some b))(hx:hd a=some x)(hy:hd b=some y)(h:Btr x a y b):Win hd (A++B) (some a):=by
 obtain⟨a1,x',hx',a2⟩:=ha
 obtain⟨b1,y',hy',b2⟩:=hb
 rw[hx]at hx';cases hx'
 rw[hy]at hy';cases hy'
 refine⟨QJ _ a1,x,hx,fun c hc z hz=>?_⟩
 rcases Qm.mp hc with hc|hc
 ·exact a2 c hc z hz
 ·rcases b2 c hc z hz with e|e
  ·subst e;rw[hy]at hz;cases hz;exact .inr h
  ·exact .inr (h.trans e)
theorem Win.both'{hd:Hd}{A B:List Int}{a b:Int}{x y:List Nat}(ha:Win hd A (some a))(hb:Win hd B (some b))(hx:hd a=some x)(hy:hd b=some y)(h:Btr y b x a):Win hd (A++B) (some b):=by
 have:=Win.both hb ha hy hx h
 obtain⟨h1,z,h2,h3⟩:=this
 exact⟨by rcases Qm.mp h1 with h|h<;>simp[h],z,h2,fun c hc=>h3 c (by rcases Qm.mp hc with h|h<;>simp[h])⟩
theorem Win.left{hd:Hd}{A B:List Int}{w:Option Int}(ha:Win hd A w)(hb:Win hd B none):Win hd (A++B) w:=by
 cases w with
 | none=>intro n hn;rcases Qm.mp hn with h|h;exact ha n h;exact hb n h
 | some a =>
  obtain⟨a1,x,hx,a2⟩:=ha
  refine⟨QJ _ a1,x,hx,fun c hc z hz=>?_⟩
  rcases Qm.mp hc with hc|hc
  ·exact a2 c hc z hz
  ·rw[hb c hc]at hz;cases hz
theorem Win.right{hd:Hd}{A B:List Int}{w:Option Int}(ha:Win hd A none)(hb:Win hd B w):Win hd (A++B) w:=by
 cases w with
 | none=>intro n hn;rcases Qm.mp hn with h|h;exact ha n h;exact hb n h
 | some a =>
  obtain⟨a1,x,hx,a2⟩:=hb
  refine⟨QB _ a1,x,hx,fun c hc z hz=>?_⟩
  rcases Qm.mp hc with hc|hc
  ·rw[ha c hc]at hz;cases hz
  ·exact a2 c hc z hz
theorem Win.ex(hd:Hd):∀N:List Int,N.Nodup→∃w,Win hd N w
 | [],_=>⟨none,Win.nil hd⟩
 | n::N,hn=>by
  obtain⟨n1,n2⟩:=QR.mp hn
  obtain⟨w,hw⟩:=Win.ex hd N n2
  have hs:Win hd [n] (if (hd n).isSome then some n else none):=Win.sing
  cases h:hd n with
  | none =>
   rw[h]at hs
   exact⟨w,Win.right (A:=[n]) hs hw⟩
  | some x =>
   rw[h]at hs
   cases w with
   | none=>exact⟨some n,Win.left (A:=[n]) hs hw⟩
   | some b =>
    obtain⟨b1,y,hy,b2⟩:=id hw
    have hne:n≠b:=fun e=>n1 (e ▸ b1)
    rcases Btr.total (x:=x) (y:=y) hne with e|e
    ·exact⟨some n,Win.both (A:=[n]) hs hw h hy e⟩
    ·exact⟨some b,Win.both' (A:=[n]) hs hw h hy e⟩
theorem Win.congr{hd hd':Hd}{N:List Int}(h:∀n∈N,hd' n=hd n){w:Option Int}(hw:Win hd N w):Win hd' N w:=by
 cases w with
 | none=>intro n hn;rw[h n hn];exact hw n hn
 | some a =>
  obtain⟨a1,x,hx,a2⟩:=hw
  exact⟨a1,x,by rw[h a a1];exact hx,fun b hb y hy=>a2 b hb y (by rw[← h b hb];exact hy)⟩
def lo(N:List Int):List Int:=N.take (mid N)
def up(N:List Int):List Int:=N.drop (mid N)
theorem Zca(N:List Int):lo N++up N=N:=List.take_append_drop _ _
theorem ZcP{N:List Int}(h:2≤N.length):(lo N).length<N.length∧1≤(lo N).length:=by
 unfold lo mid
 rw[Qz]
 omega
theorem ZdC{N:List Int}(h:2≤N.length):(up N).length<N.length∧1≤(up N).length:=by
 unfold up mid
 rw[QZ]
 omega
def ZS(N:List Int):Int×Int:=(N.headD 0,N.getLastD 0)
abbrev StL:=List ((Int×Int)×Option (Addr×Int×Int))
def stV:Option (Addr×Int×Int)→V
 | none=>.non
 | some t=>.ref t.1
def kvS(s:StL):List (List Key×V):=s.map fun e=>([.inl e.1.1,.inl e.1.2],stV e.2)
def AtS(H:Hp)(s:StL):Prop:=∀e∈s,∀t,e.2=some t→H t.1=some (.tup [.int t.2.1,.int t.2.2])
def Z0(s:StL)(k:Int×Int):Option (Option (Addr×Int×Int)):=(s.find? fun e=>decide (e.1=k)).map (·.2)
def Zdk(s:StL)(k:Int×Int)(v:Option (Addr×Int×Int)):StL:=if s.any (fun e=>decide (e.1=k)) then s.map (fun e=>if e.1=k then (e.1,v) else e) else s++[(k,v)]
theorem AtS.mono{H H':Hp}{s:StL}(h:AtS H s)(k:∀a xs,H a=some (.tup xs)→H' a=some (.tup xs)):AtS H' s:=fun e he t ht=>k _ _ (h e he t ht)
theorem Zkm{a b:Int×Int}(h:([.inl a.1,.inl a.2]:List Key)=[.inl b.1,.inl b.2]):a=b:=by
 obtain⟨a1,a2⟩:=a
 obtain⟨b1,b2⟩:=b
 injection h with h1 h2
 injection h2 with h2 _
 have e1:=Sum.inl.inj h1
 have e2:=Sum.inl.inj h2
 simp only at e1 e2
 rw[e1,e2]
theorem Zjf(k:Int×Int):∀s:StL,Z2 (kvS s) [.inl k.1,.inl k.2]=(Z0 s k).map stV
 | []=>rfl
 | e::s=>by
  have ih:=Zjf k s
  by_cases h:e.1=k
  ·unfold kvS Z0
   rw[Qj,Zc0 (by rw[h])]
   simp[List.find?_cons,h]
  ·unfold kvS at ih ⊢
   rw[Qj,Zdb (fun z=>h (Zkm z)),ih]
   unfold Z0
   simp[List.find?_cons,h]
theorem ZoP(k:Int×Int)(s:StL):((kvS s).any fun kv=>decide (kv.1=([.inl k.1,.inl k.2]:List Key)))=s.any fun e=>decide (e.1=k):=by
 unfold kvS
 rw[List.any_map]
 congr 1
 funext e
 simp only[Function.comp]
 by_cases h:e.1=k
 ·rw[decide_eq_true h,decide_eq_true (by rw[h])]
 ·rw[decide_eq_false h,decide_eq_false (fun z=>h (Zkm z))]
theorem Zf6(s:StL)(k:Int×Int)(v:Option (Addr×Int×Int)):Zbi (kvS s) [.inl k.1,.inl k.2] (stV v)=kvS (Zdk s k v):=by
 unfold Zbi Zdk
 rw[ZoP]
 split
 ·unfold kvS
  rw[Qi,Qi]
  congr 1
  funext e
  simp only[Function.comp]
  by_cases h:e.1=k
  ·rw[if_pos h,if_pos (by rw[h])]
  ·rw[if_neg h,if_neg (fun z=>h (Zkm z))]
 ·unfold kvS;rw[Qe];rfl
theorem ZnL(s:StL)(k:Int×Int)(v:Option (Addr×Int×Int)):(Zdk s k v).length≤s.length+1:=by
 unfold Zdk
 split
 ·rw[Qa];omega
 ·rw[Qf];exact Qh _
theorem Za2(s:StL)(k j:Int×Int)(v:Option (Addr×Int×Int)):Z0 (Zdk s k v) j=if j=k then some v else Z0 s j:=by
 unfold Zdk
 split
 ·rename_i h
  induction s with
  | nil=>simp at h
  | cons e s ih =>
   unfold Z0 at ih ⊢
   by_cases hek:e.1=k
   ·by_cases hj:j=k
    ·subst hj;simp[List.find?_cons,hek]
    ·have hj':¬ k=j:=fun z=>hj z.symm
     rw[Qj,if_pos hek,Qar (by simp[hek,hj']),Qar (by simp[hek,hj']),if_neg hj]
     by_cases ha:s.any (fun e=>decide (e.1=k))=true
     ·have:=ih ha;rw[if_neg hj]at this;exact this
     ·have:s.map (fun e=>if e.1=k then (e.1,v) else e)=s:=by
       rw[List.map_eq_iff]
       intro i
       cases hi:s[i]? with
       | none=>rfl
       | some x =>
        have hx:¬ x.1=k:=fun z=>ha (Qaq.mpr ⟨x,Qx hi,by simpa using z⟩)
        simp[hx]
      rw[this]
   ·have ha:s.any (fun e=>decide (e.1=k))=true:=by simpa [hek] using h
    rw[Qj,if_neg hek]
    by_cases hj:e.1=j
    ·have:¬ j=k:=fun z=>hek (hj.trans z)
     rw[List.find?_cons_of_pos (by simpa using hj),List.find?_cons_of_pos (by simpa using hj),if_neg this]
    ·rw[Qar (by simpa using hj),Qar (by simpa using hj)]
     exact ih ha
 ·rename_i h
  unfold Z0
  rw[List.find?_append]
  by_cases hj:j=k
  ·subst hj
   have:s.find? (fun e=>decide (e.1=j))=none:=by
    rw[List.find?_eq_none]
    intro x hx z
    exact h (Qaq.mpr ⟨x,hx,z⟩)
   rw[this];simp
  ·have hj':¬ k=j:=fun z=>hj z.symm
   rw[if_neg hj]
   simp[hj']
theorem AtS.put{H:Hp}{s:StL}{k:Int×Int}{v:Option (Addr×Int×Int)}(h:AtS H s)(hv:∀t,v=some t→H t.1=some (.tup [.int t.2.1,.int t.2.2])):AtS H (Zdk s k v):=by
 unfold Zdk
 split
 ·intro e he t ht
  obtain⟨x,hx,rfl⟩:=Qn.mp he
  split at ht
  ·exact hv t ht
  ·exact h x hx t ht
 ·intro e he t ht
  rcases Qm.mp he with he|he
  ·exact h e he t ht
  ·rw[Qo.mp he]at ht;exact hv t ht
theorem ZhC{s:StL}{k:Int×Int}{v:Option (Addr×Int×Int)}(h:Z0 s k=some v):(k,v)∈s:=by
 unfold Z0 at h
 obtain⟨e,he,rfl⟩:=QaQ.mp h
 have h1:=List.find?_some he
 have:e.1=k:=by simpa using h1
 rw[← this];exact Qak he
def ZsG(hd:Hd)(s:StL)(N:List Int):Prop :=
 (∀a b x y,Win hd (lo N) (some a)→Win hd (up N) (some b)→hd a=some x→hd b=some y→∃t,Z0 s (ZS N)=some (some (t,if ZQ x y<0∨(ZQ x y=0∧a<b) then b else a,((lcp x y:Nat):Int)))) ∧
 ((Win hd (lo N) none∨Win hd (up N) none)→Z0 s (ZS N)=none∨Z0 s (ZS N)=some none)
def Zes(hd:Hd)(s:StL):Nat→List Int→Prop
 | 0,_=>True
 | n+1,N=>2≤N.length→Zes hd s n (lo N)∧Zes hd s n (up N)∧ZsG hd s N
def ZeU:Nat→List Int→Int×Int→Prop
 | 0,_,_=>False
 | n+1,N,k=>2≤N.length∧(ZeU n (lo N) k∨ZeU n (up N) k∨k=ZS N)
abbrev Zag(N:List Int):Prop:=N.Pairwise (·<·)
theorem Zel{N:List Int}(h:Zag N):Zag (lo N):=h.sublist (List.take_sublist _ _)
theorem Zek{N:List Int}(h:Zag N):Zag (up N):=h.sublist (List.drop_sublist _ _)
theorem Zc1{N:List Int}(h:Zag N):N.Nodup:=h.imp fun {a b} hab e=>by omega
theorem ZL{N:List Int}(h:Zag N){a b:Int}(ha:a∈lo N)(hb:b∈up N):a<b:=by
 have:Zag (lo N++up N):=by rw[Zca];exact h
 exact(List.pairwise_append.mp this).2.2 a ha b hb
theorem Zcl{N:List Int}(h:N≠[]):N.headD 0∈N:=by
 cases N with
 | nil=>exact absurd rfl h
 | cons a r=>simp
theorem Zcq{N:List Int}(h:N≠[]):N.getLastD 0∈N:=by
 rw[Qal,QaG h]
 exact List.getLast_mem h
theorem Zaj{N:List Int}(h:1≤N.length):N≠[]:=fun z=>by rw[z]at h;simp at h
theorem ZfQ{N:List Int}(h:2≤N.length):(ZS N).2=(up N).getLastD 0:=by
 have hu:=Zaj (ZdC h).2
 show N.getLastD 0=_
 rw[Qal,Qal]
 conv=>lhs;rw[← Zca N]
 rw[List.getLast?_append,QaG hu];rfl
theorem Zfr{N:List Int}(h:2≤N.length):(ZS N).1=(lo N).headD 0:=by
 have hl:=Zaj (ZcP h).2
 show N.headD 0=_
 conv=>lhs;rw[← Zca N]
 cases hc:lo N with
 | nil=>exact absurd hc hl
 | cons a r=>rfl
theorem Zeo:∀ (n:Nat) (N:List Int) (k:Int×Int),ZeU n N k→k.1∈N∧k.2∈N
 | 0,_,_,h=>h.elim
 | n+1,N,k,⟨h2,h⟩=>by
  rcases h with h|h|rfl
  ·have:=Zeo n _ k h
   rw[← Zca N]
   exact⟨QJ _ this.1,QJ _ this.2⟩
  ·have:=Zeo n _ k h
   rw[← Zca N]
   exact⟨QB _ this.1,QB _ this.2⟩
  ·have hn:N≠[]:=Zaj (by omega)
   exact⟨Zcl hn,Zcq hn⟩
theorem Zin{N:List Int}(hr:Zag N)(h2:2≤N.length){n:Nat}{k:Int×Int}(h:ZeU n (lo N) k):k≠ZS N∧∀m,¬ ZeU m (up N) k:=by
 have:=Zeo n _ k h
 refine⟨fun z=>?_,fun m hm=>?_⟩
 ·have h1:=ZfQ h2
  rw[z,h1]at this
  have:=ZL hr this.2 (Zcq (Zaj (ZdC h2).2))
  omega
 ·have:=ZL hr this.1 (Zeo m _ k hm).1
  omega
theorem ZiN{N:List Int}(hr:Zag N)(h2:2≤N.length){n:Nat}{k:Int×Int}(h:ZeU n (up N) k):k≠ZS N∧∀m,¬ ZeU m (lo N) k:=by
 have:=Zeo n _ k h
 refine⟨fun z=>?_,fun m hm=>?_⟩
 ·have h1:=Zfr h2
  rw[z,h1]at this
  have:=ZL hr (Zcl (Zaj (ZcP h2).2)) this.1
  omega
 ·have:=ZL hr (Zeo m _ k hm).1 this.1
  omega
theorem Zes.congr{hd hd':Hd}{s s':StL}:∀ (n:Nat) (N:List Int),(∀m∈N,hd' m=hd m)→(∀k,ZeU n N k→Z0 s' k=Z0 s k)→Zes hd s n N→Zes hd' s' n N
 | 0,_,_,_,_=>True.intro
 | n+1,N,hh,hk,h=>fun h2=>by
  obtain⟨a,b,c1,c2⟩:=h h2
  have hl:∀m∈lo N,hd' m=hd m:=fun m hm=>hh m (by rw[← Zca N];exact QJ _ hm)
  have hu:∀m∈up N,hd' m=hd m:=fun m hm=>hh m (by rw[← Zca N];exact QB _ hm)
  have hl':∀m∈lo N,hd m=hd' m:=fun m hm=>(hl m hm).symm
  have hu':∀m∈up N,hd m=hd' m:=fun m hm=>(hu m hm).symm
  refine⟨Zes.congr n _ hl (fun k hkk=>hk k ⟨h2,.inl hkk⟩) a,Zes.congr n _ hu (fun k hkk=>hk k ⟨h2,.inr (.inl hkk)⟩) b,fun a b x y ha hb hx hy=>?_,fun hw=>?_⟩
  ·rw[hk _ ⟨h2,.inr (.inr rfl)⟩]
   exact c1 a b x y (Win.congr hl' ha) (Win.congr hu' hb) (by rw[← hl a ha.1];exact hx) (by rw[← hu b hb.1];exact hy)
  ·rw[hk _ ⟨h2,.inr (.inr rfl)⟩]
   refine c2 ?_
   rcases hw with hw|hw
   ·exact .inl (Win.congr hl' hw)
   ·exact .inr (Win.congr hu' hw)
inductive Zbx (hd:Hd):Nat→List Int→Int→Int→Prop
 | few {n:Nat} {N:List Int}:N.length<2→Zbx hd n N 0 0
 | none {n:Nat} {N:List Int} {k l k' l':Int}:2≤N.length→Zbx hd n (lo N) k l→Zbx hd n (up N) k' l'→(Win hd (lo N) none∨Win hd (up N) none)→Zbx hd (n+1) N (k+k') (l+l')
 | both {n:Nat} {N:List Int} {k l k' l':Int} {a b:Int} {x y:List Nat}:2≤N.length→Zbx hd n (lo N) k l→Zbx hd n (up N) k' l'→Win hd (lo N) (some a)→Win hd (up N) (some b)→hd a=some x→hd b=some y→Zbx hd (n+1) N (k+k'+1) (l+l'+(lcp x y:Nat)+1)
theorem Zbx.one{hd:Hd}:∀ {n m:Nat} {N:List Int} {k l k' l':Int},Zbx hd n N k l→Zbx hd m N k' l'→k=k'∧l=l'
 | _,_,_,_,_,_,_,.few h,p=>by
  cases p with
  | few _=>exact⟨rfl,rfl⟩
  | none h2 _ _ _=>omega
  | both h2 _ _ _ _ _ _=>omega
 | _,_,_,_,_,_,_,.none h2 a b hw,p=>by
  cases p with
  | few h=>omega
  | none _ a' b' _ =>
   obtain⟨e1,e2⟩:=Zbx.one a a'
   obtain⟨e3,e4⟩:=Zbx.one b b'
   exact⟨by omega,by omega⟩
  | both _ a' b' wa wb hx hy =>
   rcases hw with hw|hw
   ·exact nomatch hw.one wa
   ·exact nomatch hw.one wb
 | _,_,_,_,_,_,_,.both h2 a b wa wb hx hy,p=>by
  cases p with
  | few h=>omega
  | none _ a' b' hw =>
   rcases hw with hw|hw
   ·exact nomatch hw.one wa
   ·exact nomatch hw.one wb
  | both _ a' b' wa' wb' hx' hy' =>
   obtain⟨e1,e2⟩:=Zbx.one a a'
   obtain⟨e3,e4⟩:=Zbx.one b b'
   have ea:=Ql (wa.one wa')
   have eb:=Ql (wb.one wb')
   subst ea eb
   rw[hx]at hx';cases hx'
   rw[hy]at hy';cases hy'
   exact⟨by omega,by omega⟩
def kk(e:Str×Int):List Key:=[.inr e.1,.inl e.2]
def oV:Option Str→V
 | none=>.non
 | some s=>.str s
def Zce:Option Int→V
 | none=>.non
 | some a=>.int a
def kvH(E:List (Int×Option Str)):List (Key×V):=E.map fun e=>(.inl e.1,oV e.2)
def lk(E:List (Int×Option Str))(n:Int):Option Str:=(E.find? fun e=>decide (e.1=n)).bind (·.2)
def hdE(E:List (Int×Option Str)):Hd:=fun n=>(lk E n).map cds
theorem Zk0:∀ {E:List (Int×Option Str)},(E.map (·.1)).Nodup→∀ {e:Int×Option Str},e∈E→lk E e.1=e.2
 | [],_,_,h=>by cases h
 | x::r,nd,e,h=>by
  rw[Qj,QR]at nd
  unfold lk
  rw[Q5]
  rcases QI.mp h with rfl|h
  ·rw[decide_eq_true rfl];rfl
  ·rw[decide_eq_false (fun z:x.1=e.1=>nd.1 (by rw[z];exact Qd (f:=fun x:Int×Option Str=>x.1) h))]
   exact Zk0 nd.2 h
theorem ZqP{E:List (Int×Option Str)}(h:(E.map (·.1)).Nodup):((kvH E).map (·.1)).Nodup:=by
 have e:(kvH E).map (·.1)=(E.map (·.1)).map (Sum.inl:Int→Key):=by unfold kvH;rw[Qi,Qi];rfl
 rw[e]
 exact QaS _ (fun a b hab z=>hab (Sum.inl.inj z)) h
theorem Zfn{E:List (Int×Option Str)}(h:(E.map (·.1)).Nodup){n:Int}(hn:n∈E.map (·.1)):Z2 (kvH E) (.inl n)=some (oV (lk E n)):=by
 obtain⟨e,he,rfl⟩:=Qn.mp hn
 rw[Zk0 h he]
 exact ZcK (ZqP h) (Qd (f:=fun e:Int×Option Str=>((.inl e.1:Key),oV e.2)) he)
def prs(E:List (Int×Option Str))(N:List Int):List (Str×Int):=N.filterMap fun n=>(lk E n).map fun s=>(s,n)
theorem Zgd{E:List (Int×Option Str)}{N:List Int}{s:Str}{n:Int}:(s,n)∈prs E N↔n∈N∧lk E n=some s:=by
 unfold prs
 rw[List.mem_filterMap]
 constructor
 ·rintro⟨m,hm,e⟩
  cases h:lk E m with
  | none=>rw[h]at e;cases e
  | some x =>
   rw[h]at e
   injection e with e
   injection e with e1 e2
   rw[← e2,← e1]
   exact⟨hm,h⟩
 ·rintro⟨hn,h⟩
  exact⟨n,hn,by rw[h];rfl⟩
theorem Zor{x y:Str}(h:cds x=cds y):x=y:=by
 obtain⟨⟨a⟩⟩:=x
 obtain⟨⟨b⟩⟩:=y
 have:a=b:=h
 rw[this]
theorem Zpu{s s':Str}{a b:Int}(h:Za5 (kk (s',b)) (kk (s,a))=false):b=a∨Btr (cds s) a (cds s') b:=by
 unfold kk at h
 rw[ZfJ]at h
 by_cases e:(Sum.inr s':Key)=Sum.inr s
 ·rw[if_pos e,ZfJ]at h
  have e':s'=s:=Sum.inr.inj e
  by_cases e2:(Sum.inl b:Key)=Sum.inl a
  ·exact .inl (Sum.inl.inj e2)
  ·rw[if_neg e2]at h
   have h1:¬ b<a:=of_decide_eq_false h
   have h2:b≠a:=fun z=>e2 (by rw[z])
   exact .inr (.inr ⟨by rw[e',Zhw],by omega⟩)
 ·rw[if_neg e]at h
  have h1:¬ cds s'<cds s:=of_decide_eq_false h
  rw[ZnR]at h1
  have h2:=ZbU (cds s') (cds s)
  have h3:ZQ (cds s) (cds s')≠0:=fun z=>e (by rw[Zor (ZfK _ _ z)])
  exact .inr (.inl (by omega))
theorem ZqK{E:List (Int×Option Str)}{N:List Int}{s:Str}{a:Int}(h:(s,a)∈prs E N)(hm:∀e∈prs E N,Za5 (kk e) (kk (s,a))=false):Win (hdE E) N (some a):=by
 obtain⟨ha,hs⟩:=Zgd.mp h
 refine⟨ha,cds s,by unfold hdE;rw[hs];rfl,fun b hb y hy=>?_⟩
 unfold hdE at hy
 cases hl:lk E b with
 | none=>rw[hl]at hy;cases hy
 | some s' =>
  rw[hl]at hy
  cases hy
  exact Zpu (hm (s',b) (Zgd.mpr ⟨hb,hl⟩))
theorem ZmN{E:List (Int×Option Str)}{N:List Int}(h:prs E N=[]):Win (hdE E) N none:=fun n hn=>by
 unfold hdE
 cases hl:lk E n with
 | none=>rfl
 | some s =>
  have:=Zgd.mpr ⟨hn,hl⟩
  rw[h]at this
  cases this
def Zrd:Key→PyData
 | .inl i=>.int i
 | .inr s=>.str s
def tD(k:List Key):PyData:=.tuple (k.map Zrd)
theorem ZiE{K:PySem.W.Frag}{H:Hp}:∀ks:List Key,DVs K H (ks.map kV) (ks.map Zrd)
 | []=>.nil
 | .inl i::r=>.cons (.int i) (ZiE r)
 | .inr s::r=>.cons (.str s) (ZiE r)
theorem Zk9{K:PySem.W.Frag}{H:Hp}:∀ts:ZfO,AtT H ts→DVs K H (Zf0 ts) (ts.map fun t=>tD t.2)
 | [],_=>.nil
 | t::r,h=>.cons (.tup (SqT.of (h t (by simp))) (ZiE t.2)) (Zk9 r fun x hx=>h x (Qv _ hx))
theorem Zk8:∀L:List (Str×Int),(∀e∈L,AZ e.1)→PyData.canLayAll0 (L.map fun e=>tD (kk e))=true∧PyData.depthAll (L.map fun e=>tD (kk e))≤1
 | [],_=>⟨rfl,by simp[PyData.depthAll]⟩
 | e::r,h=>by
  obtain⟨a,b⟩:=Zk8 r fun x hx=>h x (Qv _ hx)
  have e2:tD (kk e)=.tuple [.str e.1,.int e.2]:=rfl
  have hz:=(h e (by simp)).ok
  refine⟨by simp[PyData.canLayAll0,PyData.canLay0,e2,hz,a],?_⟩
  rw[Qj,e2]
  simp only[PyData.depthAll,PyData.depth]
  omega
theorem Zg4(L:List (Str×Int))(h:∀e∈L,AZ e.1):SeqAt.shaped (.list (L.map fun e=>tD (kk e)))=true:=by
 obtain⟨a,b⟩:=Zk8 L h
 simp[SeqAt.shaped,PyData.canLay0,PyData.depth,a]
 omega
structure Hds (H:Hp) (D:Addr) (E:List (Int×Option Str)):Prop where
 at':H D=some (.dK (kvH E))
 nd:(E.map (·.1)).Nodup
 ok:∀e∈E,∀s,e.2=some s→s.length≤1000∧AZ s
theorem Hds.lk{H:Hp}{D:Addr}{E:List (Int×Option Str)}(h:Hds H D E){n:Int}{s:Str}(e:lk E n=some s):s.length≤1000∧AZ s:=by
 unfold My.lk at e
 cases hf:E.find? fun e=>decide (e.1=n) with
 | none=>rw[hf]at e;cases e
 | some x=>rw[hf]at e;exact h.ok x (Qak hf) s e
theorem Hds.same{H H':Hp}{D:Addr}{E:List (Int×Option Str)}(h:Hds H D E)(s:ZF H H'):Hds H' D E:=⟨s _ _ h.at',h.nd,h.ok⟩
def Zgg(K:PySem.W.Frag):Sp:=fun vs H Q _=>∃ (D l:Addr) (E:List (Int×Option Str)) (N:List Int),vs=[.ref D,.ref l]∧Hds H D E∧SqL K H l (N.map V.int)∧N.length≤60∧(∀n∈N,n∈E.map (·.1)) ∧
 ∀ (v:Option Int) (H':Hp),Win (hdE E) N v→ZF H H'→Q (Zce v) H'
theorem ZlW(T:Zaf K mg cRow cMerge):Df P w K mg base 1 "_law_least" ["_law_heads_here", "_law_numbers"] (Zgg K):=by
 refine T.t_l_least.df ZgV (fun vs H Q E h=>?_) (fun cdv f A outer s H vs Q E hr h=>?_)
 ·obtain⟨D,l,E,N,rfl,_⟩:=h
  rfl
 obtain⟨D,l,E',N,rfl,hds,hl,h60,hmem,q⟩:=h
 refine⟨_,#[Zf,#[ZeN,2,ZgV.nd,Zkp,#[iL,K,‹1›],(fun _ _ _ _=>#[cg,3,Zkp]),(fun _ _ _ _=>(@ZiZ _ _ _ #[Zm,Zej,#[Zo,(ixG hr),#[cv,0,Zkp],#[cw,3,Zkp]],#[ZW],(Zp _)])),(fun _ _ _ _=>#[ZaC,#[Za,#[Zo,(ixG hr),#[cv,0,Zkp],#[cw,3,Zkp]],#[Za,#[cw,3,Zkp],#[Ze]]]])],#[Zj,#[Zs,#[Zbo,#[Zm,(@neD _ K _ hr (by rfl)),‹2›,#[Zax,#[Ze]],(Zp _)],#[Zo,(ixT K),#[Zk,(Zsy K hr),(by rfl),T.b.n_min,boot_min,#[Za,‹2›,#[Ze]]],#[Zi]],#[ZW]]]]],?_⟩
 refine⟨_,rfl,l,rfl,⟨_,hl⟩,fun B hB=>?_⟩
 refine ZgC (K:=K) (a:=l) (xs:=N.map V.int) (fun i zs σ H2=>(∃v:Option V,σ=[some (.ref D),some (.ref l),none,v])∧(∃ts:ZfO,zs=Zf0 ts∧AtT H2 ts∧ts.length≤i∧ts.map (·.2)=(prs E' (N.take i)).map kk)∧i≤N.length∧H2 B=some (.lst zs)∧ZF H H2) ?_ (fun _ _ _ _ h=>h.2.2.2.2.seq hl) ?_ ?_
 ·exact⟨⟨none,rfl⟩,⟨[],rfl,(fun t h=>by cases h),Qh _,rfl⟩,Qw _,Zd,Zh hB _⟩
 ·rintro i x zs σ H2 hx ⟨⟨v,rfl⟩,⟨ts,rfl,hat,htl,hE⟩,hi,hB2,s2⟩
  rw[Qp]at hx
  cases hz:N[i]? with
  | none=>rw[hz]at hx;cases hx
  | some n =>
  rw[hz]at hx
  cases hx
  have hil:i<N.length:=(Qg.mp hz).1
  have hv:=Zfn hds.nd (hmem n (Qx hz))
  have hD2:=s2 _ _ hds.at'
  have hg:ZN H2 D (kV (.inl n)) (some (oV (lk E' n))):=by rw[← hv];exact ZN.k hD2
  refine⟨_,rfl,_,rfl,D,_,rfl,hg,rfl,_,rfl,?_⟩
  cases hk:lk E' n with
  | none =>
   rw[hk]at hg
   refine ZbE ⟨⟨_,rfl⟩,⟨ts,rfl,hat,by omega,?_⟩,hil,hB2,s2⟩
   rw[hE,QH,hz]
   unfold prs
   rw[Qaw]
   simp[hk]
  | some z =>
   rw[hk]at hg
   refine Zfx ⟨_,rfl,_,rfl,D,_,rfl,hg,_,rfl,(by show 2≤sizeLine;decide),fun t ht0=>?_⟩
   have sn:=Zh ht0 (.tup [.str z,.int n])
   have hB3:=sn _ _ hB2
   have nBn:B≠t:=Zc hB2 ht0
   refine⟨hB3,(by unfold Zf0;rw[Qa];exact ZC (by omega)),⟨_,rfl⟩,⟨ts++[(t,kk (z,n))],by unfold Zf0;rw[Qe];rfl,fun y hy=>?_,by rw[Qf,Qt];omega,?_⟩,hil,Zd,fun b o hb=>?_⟩
   ·rcases Qm.mp hy with hy|hy
    ·exact Zm3 hB3 _ _ _ (sn _ _ (hat y hy))
    ·rw[Qo.mp hy,Zb nBn.symm];exact Zd
   ·rw[Qe,hE,QH,hz]
    unfold prs
    rw[Qaw,Qe]
    simp[hk]
   ·rw[Zb (Zc hb hB)];exact sn _ _ (s2 b o hb)
 rintro zs σ H2 ⟨⟨v,rfl⟩,⟨ts,rfl,hat,htl,hE⟩,_,hB2,s2⟩
 rw[Qa,Qu (Qh _)]at hE
 have hpz:∀e∈prs E' N,AZ e.1:=fun e he=>(hds.lk (Zgd.mp (show (e.1,e.2)∈prs E' N from he)).2).2
 have htD:(ts.map fun t=>tD t.2)=(prs E' N).map fun e=>tD (kk e):=by
  have:=congrArg (List.map tD) hE
  rw[Qi,Qi]at this
  exact this
 refine⟨_,rfl,(by show 0≤sizeLine;decide),fun e1 he1=>?_⟩
 have s3:=Zh he1 (.lst [])
 have hdv:DVs K (upd H2 e1 (.lst [])) (Zf0 ts) ((prs E' N).map fun e=>tD (kk e)):=by rw[← htD];exact Zk9 ts (fun t ht=>s3 _ _ (hat t ht))
 refine⟨.list ((prs E' N).map fun e=>tD (kk e)),.list [],.lst (SqL.of (s3 _ _ hB2)) hdv,.lst (SqL.of Zd) .nil,Zg4 _ hpz,Zg4 [] (fun e h=>by cases h),_,rfl,?_⟩
 have hB3:=s3 _ _ hB2
 have hat3:AtT (upd H2 e1 (.lst [])) ts:=fun t ht=>s3 _ _ (hat t ht)
 have s03:=s2.trans s3
 generalize upd H2 e1 (.lst [])=H3 at hB3 hat3 s03 ⊢
 cases hp:prs E' N with
 | nil =>
  rw[show (if true=true then !PyData.eqv (.list (([]:List (Str×Int)).map fun e=>tD (kk e))) (.list []) else PyData.eqv (.list (([]:List (Str×Int)).map fun e=>tD (kk e))) (.list []))=false by decide +kernel]
  exact ZbE (q none H3 (ZmN hp) s03)
 | cons e0 er =>
  rw[show (if true=true then !PyData.eqv (.list ((e0::er).map fun e=>tD (kk e))) (.list []) else PyData.eqv (.list ((e0::er).map fun e=>tD (kk e))) (.list []))=true by simp[PyData.eqv,PyData.eqvAll]]
  have hne:ts≠[]:=fun z=>by rw[z,hp]at hE;cases hE
  have hmm:∀t∈ts,∃e∈prs E' N,t.2=kk e:=fun t ht=>by
   have:=Qd (f:=fun t:Addr×List Key=>t.2) ht
   rw[hE]at this
   obtain⟨e,he,e2⟩:=Qn.mp this
   exact⟨e,he,e2.symm⟩
  refine Zfx ⟨_,rfl,B,ts,[false,true],rfl,SqL.of hB3,hat3,hne,fun t ht=>?_,fun t ht hmin=>?_⟩
  ·obtain⟨e,_,e2⟩:=hmm t ht;rw[e2];rfl
  ·obtain⟨e,he,e2⟩:=hmm t ht
   have ht3:=hat3 t ht
   rw[e2]at ht3
   refine⟨t.1,_,_,_,rfl,rfl,SqT.of ht3,(show atI ((kk e).map kV) ((1:Nat):Int)=some (.int e.2) from Zal rfl),?_⟩
   refine q (some e.2) H3 (ZqK (s:=e.1) he fun u hu=>?_) s03
   have:kk u∈ts.map (·.2):=by rw[hE];exact Qd hu
   obtain⟨t',ht',e3⟩:=Qn.mp this
   have:=hmin t' ht'
   rw[e3,e2]at this
   exact this
theorem Zki(N:List Int):Zeq N=lo N:=rfl
theorem Zkc(N:List Int):Zhv N=up N:=rfl
theorem ZiS{E:List (Int×Option Str)}{N:List Int}{a:Int}(h:Win (hdE E) N (some a)):a∈N∧∃z,lk E a=some z∧hdE E a=some (cds z):=by
 obtain⟨ha,x,hx,_⟩:=h
 refine⟨ha,?_⟩
 cases hl:lk E a with
 | none=>unfold hdE at hx;rw[hl]at hx;cases hx
 | some z=>exact⟨z,rfl,by unfold hdE;rw[hl];rfl⟩
def ZrZ(K:PySem.W.Frag)(n:Nat):Sp:=fun vs H Q _=>∃ (D l:Addr) (E:List (Int×Option Str)) (N:List Int),vs=[.ref D,.ref l]∧Hds H D E∧SqL K H l (N.map V.int)∧N.length≤60∧0<n∧N.length≤2 ^ (n-1)∧(∀m∈N,m∈E.map (·.1)) ∧
 ∀ (t:Addr) (k q:Int) (H':Hp),Zbx (hdE E) n N k q→H t=none→H' t=some (.tup [.int k,.int q])→ZF H H'→Q (.ref t) H'
theorem ZpS(T:Zaf K mg cRow cMerge)(f_l_halves:Df P w K mg base 1 "_law_halves" ["_law_numbers"] (Zb6 K false))(f_l_least:Df P w K mg base 1 "_law_least" ["_law_heads_here", "_law_numbers"] (Zgg K))(f_l_alike:Df P w K mg base 1 "_law_alike" ["_law_one", "_law_other"] ZcL) :
  ∀n:Nat,Df P w K mg base (n+1) "_law_first_play" ["_law_heads_here", "_law_numbers"] (ZrZ K n)
 | 0=>by
  refine T.t_l_first_play.df ZaE (fun vs H Q E h=>?_) (fun cdv f A outer s H vs Q E hr h=>?_)
  ·obtain⟨D,l,E,N,rfl,_⟩:=h
   rfl
  obtain⟨D,l,E,N,rfl,_,_,_,z,_⟩:=h
  exact absurd z (by omega)
 | n+1=>by
  have f_l_first_play:=ZpS T f_l_halves f_l_least f_l_alike n
  refine T.t_l_first_play.df ZaE (fun vs H Q E h=>?_) (fun cdv f A outer s H vs Q E hr h=>?_)
  ·obtain⟨D,l,E,N,rfl,_⟩:=h
   rfl
  obtain⟨D,l,E',N,rfl,hds,hl,h60,_,hp2,hmem,q⟩:=h
  rw[Q8]at hp2
  refine⟨_,#[Zf,#[ZZ,#[Zm,Zcu,#[Zk,(Zcj K),(by rfl),T.b.n_len,Qs,#[Za,‹1›,#[Ze]]],#[Zi],(Zp _)],#[Zj,#[Zs,#[ZaC,#[Za,#[Zi],#[Za,#[Zi],#[Ze]]]]]],#[ZE]],#[Zf,#[Z3,#[Zy,f_l_halves,hr,#[Za,‹1›,#[Ze]],(by rfl)],(@gL _ K _ _ _ 2 _ #[ZB,#[ZD,2,ZaE.nd,(Or.inl rfl)],#[ZB,#[ZD,3,ZaE.nd,(Or.inl rfl)],(@ZaG _)]] (by rfl) (by rfl) (by rfl) (by rfl))],#[Zf,#[ZfP,4,5,ZaE.nd,#[Za,#[Zy,f_l_first_play,hr,#[Za,‹0›,#[Za,‹2›,#[Ze]]],(by rfl)],#[Za,#[Zy,f_l_first_play,hr,#[Za,‹0›,#[Za,‹3›,#[Ze]]],(by rfl)],#[Ze]]]],#[Zf,#[ZfP,6,7,ZaE.nd,#[Za,#[Zy,f_l_least,hr,#[Za,‹0›,#[Za,‹2›,#[Ze]]],(by rfl)],#[Za,#[Zy,f_l_least,hr,#[Za,‹0›,#[Za,‹3›,#[Ze]]],(by rfl)],#[Ze]]]],#[Zf,#[ZZ,(@PW.pt _ _ _ (@Zjq _ _ _ _ _ _ _ #[Zm,Zbq,‹6›,#[ZW],(Zp _)] (@ZgP _ _ _ _ #[Zm,Zbq,‹7›,#[ZW],(Zp _)]))),#[Zj,#[Zs,#[ZaC,#[Za,#[ZG,Z8,#[Zo,(ixT K),‹4›,#[Zi]],#[Zo,(ixT K),‹5›,#[Zi]]],#[Za,#[ZG,Z8,#[Zo,(ixT K),‹4›,#[Zi]],#[Zo,(ixT K),‹5›,#[Zi]]],#[Ze]]]]]],#[ZE]],#[Zj,#[Zs,#[ZaC,#[Za,#[ZG,Z8,#[ZG,Z8,#[Zo,(ixT K),‹4›,#[Zi]],#[Zo,(ixT K),‹5›,#[Zi]]],#[Zi]],#[Za,#[ZG,Z8,#[ZG,Z8,#[ZG,Z8,#[Zo,(ixT K),‹4›,#[Zi]],#[Zo,(ixT K),‹5›,#[Zi]]],#[Zy,f_l_alike,hr,#[Za,#[Zo,(ixG hr),‹0›,‹6›],#[Za,#[Zo,(ixG hr),‹0›,‹7›],#[Ze]]],(by rfl)]],#[Zi]],#[Ze]]]]]]]]]]],?_⟩
  have hll:(((N.map V.int).length:Nat):Int)=(N.length:Int):=by rw[Qa]
  refine⟨_,rfl,l,_,rfl,.inl hl,_,_,rfl,rfl,_,rfl,ZaY (fun d=>?_) (fun d=>?_)⟩
  ·have hlt:N.length<2:=by have:=of_decide_eq_true d;rw[hll]at this;omega
   exact⟨(by show 2≤sizeLine;decide),fun t ht=>q t 0 0 _ (.few hlt) ht Zd (Zh ht _)⟩
  have hge:2≤N.length:=by
   have:¬ ((N.length:Int)<2):=fun z=>d (decide_eq_true (by rw[hll];exact z))
   omega
  have hn1:1≤n:=by
   cases n with
   | zero=>simp at hp2;omega
   | succ m=>omega
  have hpow:2 ^ n=2*2 ^ (n-1):=by
   obtain⟨m,rfl⟩:∃m,n=m+1:=⟨n-1,by omega⟩
   rw[QaT,Q8];omega
  have hlo:(lo N).length≤2 ^ (n-1)∧(lo N).length≤60:=by unfold lo mid;rw[Qz];omega
  have hup:(up N).length≤2 ^ (n-1)∧(up N).length≤60:=by unfold up mid;rw[QZ];omega
  have hmlo:∀m∈lo N,m∈E'.map (·.1):=fun m hm=>hmem m (QW hm)
  have hmup:∀m∈up N,m∈E'.map (·.1):=fun m hm=>hmem m (Qaa hm)
  refine⟨_,rfl,l,N,rfl,hl,by omega,fun t f r H2 ht hf hr' nfr ht2 hf2 hr2 s2 ntf ntr=>?_⟩
  rw[Zki]at hf2
  rw[Zkc]at hr2
  refine⟨t,_,rfl,SqL.of ht2,rfl,_,_,rfl,_,_,rfl,rfl,?_⟩
  refine⟨_,rfl,_,rfl,D,f,E',lo N,rfl,hds.same s2,SqL.of hf2,hlo.2,hn1,hlo.1,hmlo,fun t1 k1 q1 H3 p1 ht1 h1 s3=>?_⟩
  have s03:=s2.trans s3
  refine⟨_,rfl,_,rfl,D,r,E',up N,rfl,hds.same s03,SqL.of (s3 _ _ hr2),hup.2,hn1,hup.1,hmup,fun t2 k2 q2 H4 p2 ht2' h2 s4=>⟨_,_,rfl,?_⟩⟩
  have s04:=s03.trans s4
  have s24:=s3.trans s4
  refine⟨_,rfl,_,rfl,D,f,E',lo N,rfl,hds.same s04,SqL.of (s24 _ _ hf2),hlo.2,hmlo,fun va H5 w1 s5=>?_⟩
  have s05:=s04.trans s5
  have s25:=s24.trans s5
  refine⟨_,rfl,_,rfl,D,r,E',up N,rfl,hds.same s05,SqL.of (s25 _ _ hr2),hup.2,hmup,fun vb H6 w2 s6=>⟨_,_,rfl,?_⟩⟩
  have s06:=s05.trans s6
  have h16:=s6 _ _ (s5 _ _ (s4 _ _ h1))
  have h26:=s6 _ _ (s5 _ _ h2)
  have fin:(Win (hdE E') (lo N) none∨Win (hdE E') (up N) none)→∀t H',H6 t=none→H'=upd H6 t (.tup [.int (k1+k2),.int (q1+q2)])→Q (.ref t) H':=fun hw t H' ht e=>by
   subst e
   exact q t _ _ _ (.none hge p1 p2 hw) (s06.free ht) Zd (s06.trans (Zh ht _))
  have a10:atI [V.int k1,.int q1] ((0:Nat):Int)=some (.int k1):=Zal rfl
  have a11:atI [V.int k1,.int q1] ((1:Nat):Int)=some (.int q1):=Zal rfl
  have a20:atI [V.int k2,.int q2] ((0:Nat):Int)=some (.int k2):=Zal rfl
  have a21:atI [V.int k2,.int q2] ((1:Nat):Int)=some (.int q2):=Zal rfl
  cases va with
  | none =>
   refine⟨_,rfl,rfl,_,rfl,Zcw rfl ?_⟩
   refine⟨_,rfl,t1,_,_,_,rfl,rfl,SqT.of h16,a10,_,rfl,t2,_,_,_,rfl,rfl,SqT.of h26,a20,_,_,rfl,rfl,_,rfl,t1,_,_,_,rfl,rfl,SqT.of h16,a11,_,rfl,t2,_,_,_,rfl,rfl,SqT.of h26,a21,_,_,rfl,rfl,(by show 2≤sizeLine;decide),fun t ht=>fin (.inl w1) t _ ht rfl⟩
  | some a =>
  refine⟨_,rfl,rfl,_,rfl,Zbl (fun z=>nomatch z) ?_⟩
  cases vb with
  | none =>
   refine⟨_,rfl,rfl,_,rfl,Zcw rfl ?_⟩
   refine⟨_,rfl,t1,_,_,_,rfl,rfl,SqT.of h16,a10,_,rfl,t2,_,_,_,rfl,rfl,SqT.of h26,a20,_,_,rfl,rfl,_,rfl,t1,_,_,_,rfl,rfl,SqT.of h16,a11,_,rfl,t2,_,_,_,rfl,rfl,SqT.of h26,a21,_,_,rfl,rfl,(by show 2≤sizeLine;decide),fun t ht=>fin (.inr w2) t _ ht rfl⟩
  | some b =>
  refine⟨_,rfl,rfl,_,rfl,Zbl (fun z=>nomatch z) ?_⟩
  obtain⟨ma,za,ea,ga⟩:=ZiS w1
  obtain⟨mb,zb,eb,gb⟩:=ZiS w2
  have hds6:=hds.same s06
  have va:=Zfn hds.nd (hmlo a ma)
  have vb:=Zfn hds.nd (hmup b mb)
  rw[ea]at va
  rw[eb]at vb
  have da:ZN H6 D (kV (.inl a)) (some (.str za)):=by rw[show some (V.str za)=Z2 (kvH E') (.inl a) from va.symm];exact ZN.k hds6.at'
  have db:ZN H6 D (kV (.inl b)) (some (.str zb)):=by rw[show some (V.str zb)=Z2 (kvH E') (.inl b) from vb.symm];exact ZN.k hds6.at'
  refine⟨_,rfl,t1,_,_,_,rfl,rfl,SqT.of h16,a10,_,rfl,t2,_,_,_,rfl,rfl,SqT.of h26,a20,_,_,rfl,rfl,_,_,rfl,rfl,_,rfl,t1,_,_,_,rfl,rfl,SqT.of h16,a11,_,rfl,t2,_,_,_,rfl,rfl,SqT.of h26,a21,_,_,rfl,rfl,_,rfl,_,rfl,D,_,rfl,da,_,rfl,_,rfl,D,_,rfl,db,za,zb,rfl,(hds.lk ea).1,(hds.lk eb).1,_,_,rfl,rfl,_,_,rfl,rfl,(by show 2≤sizeLine;decide),fun t ht=>?_⟩
  exact q t _ _ _ (.both hge p1 p2 w1 w2 ga gb) (s06.free ht) Zd (s06.trans (Zh ht _))
abbrev Zx:=Int×Addr×List Str×Nat
def kvR(L:List Zx):List (Key×V):=L.map fun e=>(.inl e.1,.ref e.2.1)
def kvG(L:List Zx):List (Key×V):=L.map fun e=>(.inl e.1,.int (e.2.2.2:Int))
def Zav(ra ga:Addr)(nb li lo:Int):List (Key×V):=[(.inr "rows",.ref ra),(.inr "gone",.ref ga),(.inr "number",.int nb),(.inr "likenings",.int li),(.inr "looks",.int lo)]
theorem ZaS(ra ga:Addr)(nb li lo:Int):Z2 (Zav ra ga nb li lo) (.inr "rows")=some (.ref ra):=by simp[Z2,Zav]
theorem ZsV:¬ (("rows" : Str) = "gone"):=by decide +kernel
theorem ZrL:¬ (("rows" : Str) = "number"):=by decide +kernel
theorem ZsO:¬ (("gone" : Str) = "number"):=by decide +kernel
theorem Zrl:¬ (("rows" : Str) = "likenings"):=by decide +kernel
theorem Zsf:¬ (("gone" : Str) = "likenings"):=by decide +kernel
theorem ZrK:¬ (("number" : Str) = "likenings"):=by decide +kernel
theorem Zrg:¬ (("rows" : Str) = "looks"):=by decide +kernel
theorem ZrF:¬ (("gone" : Str) = "looks"):=by decide +kernel
theorem Zrz:¬ (("number" : Str) = "looks"):=by decide +kernel
theorem Zqk:¬ (("likenings" : Str) = "looks"):=by decide +kernel
theorem Za3{k k':Key}{v:V}{r:List (Key×V)}(h:¬ k=k'):Z2 ((k,v)::r) k'=Z2 r k':=Zdb h
theorem Zfh{k:Key}{v:V}{r:List (Key×V)}:Z2 ((k,v)::r) k=some v:=Zc0 rfl
theorem ZbY(ra ga:Addr)(nb li lo:Int):Z2 (Zav ra ga nb li lo) (.inr "gone")=some (.ref ga):=by
 unfold Zav
 rw[Za3 (fun z=>ZsV (Sum.inr.inj z)),Zfh]
theorem ZeJ(ra ga:Addr)(nb li lo:Int):Z2 (Zav ra ga nb li lo) (.inr "number")=some (.int nb):=by
 unfold Zav
 rw[Za3 (fun z=>ZrL (Sum.inr.inj z)),Za3 (fun z=>ZsO (Sum.inr.inj z)),Zfh]
theorem ZbR(ra ga:Addr)(nb li lo:Int):Z2 (Zav ra ga nb li lo) (.inr "likenings")=some (.int li):=by
 unfold Zav
 rw[Za3 (fun z=>Zrl (Sum.inr.inj z)),Za3 (fun z=>Zsf (Sum.inr.inj z)),Za3 (fun z=>ZrK (Sum.inr.inj z)),Zfh]
theorem Zfw(ra ga:Addr)(nb li lo:Int):Z2 (Zav ra ga nb li lo) (.inr "looks")=some (.int lo):=by
 unfold Zav
 rw[Za3 (fun z=>Zrg (Sum.inr.inj z)),Za3 (fun z=>ZrF (Sum.inr.inj z)),Za3 (fun z=>Zrz (Sum.inr.inj z)),Za3 (fun z=>Zqk (Sum.inr.inj z)),Zfh]
structure Own (H:Hp) (o ra ga:Addr) (L:List Zx) (nb li lo:Int):Prop where
 at':H o=some (.dK (Zav ra ga nb li lo))
 rows:H ra=some (.dK (kvR L))
 gone:H ga=some (.dK (kvG L))
 nd:(L.map (·.1)).Nodup
 few:L.length≤60
 lst:∀e∈L,H e.2.1=some (.lst (e.2.2.1.map V.str))∧e.2.2.1.length≤100∧e.2.2.2≤e.2.2.1.length∧∀s∈e.2.2.1,s.length≤1000∧AZ s
theorem Own.same{H H':Hp}{o ra ga:Addr}{L:List Zx}{nb li lo:Int}(h:Own H o ra ga L nb li lo)(s:ZF H H'):Own H' o ra ga L nb li lo :=
 ⟨s _ _ h.at',s _ _ h.rows,s _ _ h.gone,h.nd,h.few,fun e he=>let ⟨a,b⟩:=h.lst e he;⟨s _ _ a,b⟩⟩
theorem ZgX(L:List Zx):(kvR L).map (·.1)=(L.map (·.1)).map (Sum.inl:Int→Key):=by unfold kvR;rw[Qi,Qi];rfl
theorem ZmY(L:List Zx):(kvG L).map (·.1)=(L.map (·.1)).map (Sum.inl:Int→Key):=by unfold kvG;rw[Qi,Qi];rfl
theorem ZkF{ns:List Int}(h:ns.Nodup):(ns.map (Sum.inl:Int→Key)).Nodup:=QaS _ (fun a b hab z=>hab (Sum.inl.inj z)) h
theorem Zhc{L:List Zx}(nd:(L.map (·.1)).Nodup){e:Zx}(he:e∈L):Z2 (kvR L) (.inl e.1)=some (.ref e.2.1):=ZcK (by rw[ZgX];exact ZkF nd) (Qd (f:=fun e:Zx=>((.inl e.1:Key),V.ref e.2.1)) he)
theorem Zg8{L:List Zx}(nd:(L.map (·.1)).Nodup){e:Zx}(he:e∈L):Z2 (kvG L) (.inl e.1)=some (.int (e.2.2.2:Int)):=ZcK (by rw[ZmY];exact ZkF nd) (Qd (f:=fun e:Zx=>((.inl e.1:Key),V.int (e.2.2.2:Int))) he)
theorem ZN.k'{H:Hp}{a:Addr}{kvs:List (Key×V)}{k:Key}{r:Option V}(e:H a=some (.dK kvs))(h:Z2 kvs k=r):ZN H a (kV k) r:=by rw[← h];exact ZN.k e
theorem Zok(ss:List Str)(g:Nat)(h:g≤ss.length):atI (ss.map V.str++[V.non]) (g:Int)=some (oV ss[g]?):=by
 refine Zal ?_
 by_cases hg:g<ss.length
 ·rw[QM (by rw[Qa];exact hg),Qp,Qb hg];rfl
 ·have e:g=ss.length:=by omega
  rw[QN (by rw[Qa];omega),Qa,e,QaU,QL (Qh _)];rfl
structure Zpo (L:List Zx) (E:List (Int×Option Str)):Prop where
 per:(E.map (·.1)).Perm (L.map (·.1))
 up:(E.map (·.1)).Pairwise (·<·)
 hd:∀e∈L,(e.1,e.2.2.1[e.2.2.2]?)∈E
def ZeY:Sp:=fun vs H Q _=>∃ (o ra ga:Addr) (L:List Zx) (nb li lo:Int),vs=[.ref o]∧Own H o ra ga L nb li lo ∧
 ∀ (D:Addr) (E:List (Int×Option Str)) (H':Hp),H D=none→Hds H' D E→Zpo L E→ZF H H'→Q (.ref D) H'
theorem ZlF(T:Zaf K mg cRow cMerge):Df P w K mg base 1 "_law_heads" ["_law_own"] ZeY:=by
 refine T.t_l_heads.df Zez (fun vs H Q E h=>?_) (fun cdv f A outer s H vs Q E hr h=>?_)
 ·obtain⟨o,ra,ga,L,nb,li,lo,rfl,_⟩:=h
  rfl
 obtain⟨o,ra,ga,L,nb,li,lo,rfl,ow,q⟩:=h
 refine⟨_,#[Zf,#[Zw,1,Zez.nd,(Or.inl rfl),(@Ze4 _ _)],#[Zf,#[Zcv,PassesOwn.never,#[iL,K,#[Zk,ZmW,(by rfl),T.b.n_sorted,boot_sorted,#[Za,#[Zo,(ixG hr),‹0›,#[ZA]],#[Ze]]]],#[ZD,2,Zez.nd,(Or.inl rfl)],#[Zj,#[Z3,#[Zo,(ixL K),#[ZG,ZeG,#[Zo,(ixG hr),#[Zo,(ixG hr),‹0›,#[ZA]],‹2›],#[Zax,#[Za,#[ZW],#[Ze]]]],#[Zo,(ixG hr),#[Zo,(ixG hr),‹0›,#[ZA]],‹2›]],#[ZaQ,‹1›,‹2›,(ZdK hr)]]]],#[Zj,#[Zs,‹1›]]]],?_⟩
 refine fun D hD=>?_
 have s1:=Zh hD (.dK [])
 have hD1:(upd H D (.dK [])) D=some (.dK []):=Zd
 generalize upd H D (.dK [])=H1 at s1 hD1 ⊢
 have ow1:=ow.same s1
 have hfew:=ow.few
 refine⟨_,rfl,o,_,rfl,ZN.k' (k:=.inr "rows") ow1.at' (ZaS ..),ra,_,L.map (·.1),rfl,ow1.rows,ZgX L,by rw[Qa];omega,fun l ns hl hper hup=>?_⟩
 have s2:=s1.trans (Zh hl (.lst (ns.map V.int)))
 have hl2:(upd H1 l (.lst (ns.map V.int))) l=some (.lst (ns.map V.int)):=Zd
 have hD2:=Zh hl (.lst (ns.map V.int)) _ _ hD1
 have nDl:D≠l:=Zc hD1 hl
 generalize upd H1 l (.lst (ns.map V.int))=H2 at s2 hl2 hD2 ⊢
 have hnd:ns.Nodup:=hper.nodup_iff.mpr ow.nd
 have hnl:ns.length=L.length:=by rw[hper.length_eq,Qa]
 refine⟨l,rfl,⟨_,SqL.of hl2⟩,?_⟩
 refine Zfb (K:=K) (a:=l) (xs:=ns.map V.int) (fun i σ H3=>∃ (E:List (Int×Option Str)) (v2:Option V),σ=[some (.ref o),some (.ref D),v2]∧H3 D=some (.dK (kvH E))∧E.map (·.1)=ns.take i∧(∀e∈L,e.1∈ns.take i→(e.1,e.2.2.1[e.2.2.2]?)∈E)∧(∀x∈E,∃e∈L,x=(e.1,e.2.2.1[e.2.2.2]?))∧(∀b x,H b=some x→H3 b=some x)∧H3 l=some (.lst (ns.map V.int))) ⟨[],_,rfl,hD2,rfl,(fun e _ h=>by simp at h),(fun x h=>by cases h),s2,hl2⟩ (fun i σ H3 _ hq=>by obtain⟨_,_,_,_,_,_,_,_,h⟩:=hq;exact SqL.of h) ?_ ?_
 ·rintro i x σ H3 hx ⟨E',v2,rfl,hD3,hE,hin,hof,s3,hl3⟩
  rw[Qp]at hx
  cases hz:ns[i]? with
  | none=>rw[hz]at hx;cases hx
  | some n =>
  rw[hz]at hx
  cases hx
  have hil:i<ns.length:=(Qg.mp hz).1
  obtain⟨e,he,rfl⟩:=Qn.mp (hper.mem_iff.mp (Qx hz))
  have ow3:=ow.same s3
  obtain⟨la,l100,lg,laz⟩:=ow3.lst e he
  refine⟨_,rfl,o,_,rfl,ZN.k' (k:=.inr "rows") ow3.at' (ZaS ..),_,rfl,ra,_,rfl,ZN.k' (k:=.inl e.1) ow3.rows (Zhc ow.nd he),(by show 1≤sizeLine;decide),fun c1 hc1=>?_⟩
  have s4:=Zh hc1 (.lst [.non])
  refine⟨e.2.1,c1,_,_,rfl,rfl,s4 _ _ la,Zd,(by rw[Qa];exact Qam (ZC (by simp;omega))),fun c2 hc2=>?_⟩
  have s5:=s4.trans (Zh hc2 (.lst (e.2.2.1.map V.str++[.non])))
  have hc25:(upd (upd H3 c1 (.lst [.non])) c2 (.lst (e.2.2.1.map V.str++[.non]))) c2=some (.lst (e.2.2.1.map V.str++[.non])):=Zd
  generalize upd (upd H3 c1 (.lst [.non])) c2 (.lst (e.2.2.1.map V.str++[.non]))=H5 at s5 hc25 ⊢
  have ow5:=ow3.same s5
  have hD5:=s5 _ _ hD3
  refine⟨_,rfl,o,_,rfl,ZN.k' (k:=.inr "gone") ow5.at' (ZbY ..),_,rfl,ga,_,rfl,ZN.k' (k:=.inl e.1) ow5.gone (Zg8 ow.nd he),c2,_,_,_,rfl,rfl,SqL.of hc25,Zok _ _ lg,_,rfl,_,rfl,D,_,rfl,ZbW.k (k:=.inl e.1) hD5 ?_,?_⟩
  ·have:=congrArg List.length hE
   rw[Qa,Qz]at this
   unfold kvH
   rw[Qa]
   exact ZC (by omega)
  have hnone:Z2 (kvH E') (.inl e.1)=none:=by
   cases hv:Z2 (kvH E') (.inl e.1) with
   | none=>rfl
   | some v =>
    obtain⟨y,hy,z⟩:=Qn.mp (ZcC hv)
    injection z with z _
    have h1:e.1∈ns.take i:=by rw[← hE,← Sum.inl.inj z];exact Qd (f:=fun x:Int×Option Str=>x.1) hy
    obtain⟨j,hj⟩:=Qay.mp h1
    have hjl:=(Qg.mp hj).1
    rw[Qz]at hjl
    rw[List.getElem?_take_of_lt (by omega)]at hj
    have:=(List.getElem?_inj (by omega) hnd).mp (hj.trans hz.symm)
    omega
  rw[ZbV _ hnone]
  have hkv:kvH E'++[((.inl e.1:Key),oV e.2.2.1[e.2.2.2]?)]=kvH (E'++[(e.1,e.2.2.1[e.2.2.2]?)]):=by unfold kvH;rw[Qe];rfl
  rw[hkv]
  refine⟨E'++[(e.1,e.2.2.1[e.2.2.2]?)],_,rfl,Zd,?_,fun e' he' hm=>?_,fun x hx=>?_,fun b x hb=>?_,?_⟩
  ·rw[Qe,hE,QH,hz];rfl
  ·rw[QH,hz]at hm
   rcases Qm.mp hm with hm|hm
   ·exact QJ _ (hin e' he' hm)
   ·have h1:e'.1=e.1:=by simpa using hm
    have h2:e'=e:=by
     obtain⟨a,ha⟩:=Qay.mp he
     obtain⟨b,hb⟩:=Qay.mp he'
     have e1:(L.map (·.1))[a]? = some e.1:=by rw[Qp,ha];rfl
     have e2:(L.map (·.1))[b]? = some e.1:=by rw[Qp,hb,← h1];rfl
     have:=(List.getElem?_inj (by exact(Qg.mp e1).1) ow.nd).mp (e1.trans e2.symm)
     rw[this,hb]at ha
     exact Ql ha
    rw[h2];exact QB _ (by simp)
  ·rcases Qm.mp hx with hx|hx
   ·exact hof x hx
   ·exact⟨e,he,by simpa using hx⟩
  ·rw[Zb (Zc hb hD)];exact s5 _ _ (s3 b x hb)
  ·rw[Zb nDl.symm];exact s5 _ _ hl3
 ·rintro σ H3 ⟨E',v2,rfl,hD3,hE,hin,hof,s3,hl3⟩
  rw[Qa,Qu (Qh _)]at hE hin
  refine⟨_,rfl,q D E' H3 hD ⟨hD3,by rw[hE];exact hnd,fun x hx s hs=>?_⟩ ⟨by rw[hE];exact hper,?_,fun e he=>hin e he (hper.mem_iff.mpr (Qd he))⟩ s3⟩
  ·obtain⟨e,he,rfl⟩:=hof x hx
   exact(ow.lst e he).2.2.2 s (Qx hs)
  ·rw[hE]
   exact List.Pairwise.imp₂ (fun a b h1 h2=>by omega) hup hnd
def hdL(L:List Zx):Hd:=fun n=>((L.find? fun e=>decide (e.1=n)).bind fun e=>e.2.2.1[e.2.2.2]?).map cds
theorem Zgt:∀ {L:List Zx},(L.map (·.1)).Nodup→∀ {e:Zx},e∈L→hdL L e.1=(e.2.2.1[e.2.2.2]?).map cds
 | [],_,_,h=>by cases h
 | x::r,nd,e,h=>by
  rw[Qj,QR]at nd
  unfold hdL
  rw[Q5]
  rcases QI.mp h with rfl|h
  ·rw[decide_eq_true rfl];rfl
  ·rw[decide_eq_false (fun z:x.1=e.1=>nd.1 (by rw[z];exact Qd (f:=fun x:Zx=>x.1) h))]
   exact Zgt nd.2 h
theorem Zpo.same{L:List Zx}{E:List (Int×Option Str)}(h:Zpo L E)(nd:(L.map (·.1)).Nodup):∀n∈L.map (·.1),hdL L n=hdE E n:=fun n hn=>by
 obtain⟨e,he,rfl⟩:=Qn.mp hn
 rw[Zgt nd he]
 unfold hdE
 rw[Zk0 (h.per.nodup_iff.mpr nd) (h.hd e he)]
theorem Win.perm{hd:Hd}{N M:List Int}{v:Option Int}(h:Win hd N v)(p:N.Perm M):Win hd M v:=by
 cases v with
 | none=>exact fun n hn=>h n (p.mem_iff.mpr hn)
 | some a=>obtain⟨ha,x,hx,hb⟩:=h;exact⟨p.mem_iff.mp ha,x,hx,fun b hbm=>hb b (p.mem_iff.mpr hbm)⟩
theorem Zbx.congr{hd hd':Hd}:∀ {n:Nat} {N:List Int} {k q:Int},Zbx hd n N k q→(∀m∈N,hd' m=hd m)→Zbx hd' n N k q
 | _,_,_,_,.few h,_=>.few h
 | _,N,_,_,.none h2 a b hw,h=>by
  have h1:∀m∈lo N,hd' m=hd m:=fun m hm=>h m (QW hm)
  have h3:∀m∈up N,hd' m=hd m:=fun m hm=>h m (Qaa hm)
  exact .none h2 (a.congr h1) (b.congr h3) (hw.imp (fun w=>w.congr h1) (fun w=>w.congr h3))
 | _,N,_,_,.both h2 a b wa wb hx hy,h=>by
  have h1:∀m∈lo N,hd' m=hd m:=fun m hm=>h m (QW hm)
  have h3:∀m∈up N,hd' m=hd m:=fun m hm=>h m (Qaa hm)
  exact .both h2 (a.congr h1) (b.congr h3) (wa.congr h1) (wb.congr h3) ((h1 _ wa.1).trans hx) ((h3 _ wb.1).trans hy)
theorem ZeV{A B:List Int}(p:A.Perm B)(ha:A.Pairwise (·<·))(hb:B.Pairwise (·<·)):A=B:=List.Perm.eq_of_pairwise (fun a b _ _ h1 h2=>by omega) ha hb p
theorem Zip{A:List Int}(h:A.Pairwise (·≤·))(nd:A.Nodup):A.Pairwise (·<·):=List.Pairwise.imp₂ (fun a b h1 h2=>by omega) h nd
def Zgs(L:List Zx)(H:Hp)(x:V):Prop:=(x=.non∧Win (hdL L) (L.map (·.1)) none)∨∃ (t:Addr) (e:Zx) (z:Str),x=.ref t∧e∈L∧e.2.2.1[e.2.2.2]? = some z∧H t=some (.tup [.int e.1,.int (e.2.2.2:Int),.str z])∧Win (hdL L) (L.map (·.1)) (some e.1)
theorem Zha(E:List (Int×Option Str)):(kvH E).map (·.1)=(E.map (·.1)).map (Sum.inl:Int→Key):=by unfold kvH;rw[Qi,Qi];rfl
def ZkB:Sp:=fun vs H Q _=>∃ (o ra ga:Addr) (L:List Zx) (nb li lo:Int),vs=[.ref o]∧Own H o ra ga L nb li lo∧∀ (x:V) (H':Hp),Zgs L H' x→ZF H H'→Q x H'
theorem Zkq(T:Zaf K mg cRow cMerge)(f_l_heads:Df P w K mg base 1 "_law_heads" ["_law_own"] ZeY)(f_l_least:Df P w K mg base 1 "_law_least" ["_law_heads_here", "_law_numbers"] (Zgg K)):Df P w K mg base 2 "_law_coming" ["_law_own"] ZkB:=by
 refine T.t_l_coming.df Zd4 (fun vs H Q E h=>?_) (fun cdv f A outer s H vs Q E hr h=>?_)
 ·obtain⟨o,ra,ga,L,nb,li,lo,rfl,_⟩:=h
  rfl
 obtain⟨o,ra,ga,L,nb,li,lo,rfl,ow,q⟩:=h
 refine⟨_,#[Zf,#[Zw,1,Zd4.nd,(Or.inl rfl),#[Zy,f_l_heads,hr,#[Za,‹0›,#[Ze]],(by rfl)]],#[Zf,#[Zw,2,Zd4.nd,(Or.inl rfl),#[Zy,f_l_least,hr,#[Za,‹1›,#[Za,#[Zk,ZmW,(by rfl),T.b.n_sorted,boot_sorted,#[Za,‹1›,#[Ze]]],#[Ze]]],(by rfl)]],#[Zj,#[Zs,#[Zbo,#[Zm,Zbq,‹2›,#[ZW],(Zp _)],#[ZW],#[ZaC,#[Za,‹2›,#[Za,#[Zo,(ixG hr),#[Zo,(ixG hr),‹0›,#[ZA]],‹2›],#[Za,#[Zo,(ixG hr),‹1›,‹2›],#[Ze]]]]]]]]]],?_⟩
 refine⟨_,rfl,o,ra,ga,L,nb,li,lo,rfl,ow,fun D E' H1 hD hds ho s1=>?_⟩
 have hEl:E'.length=L.length:=by have:=ho.per.length_eq;rw[Qa,Qa]at this;exact this
 have hfew:=ow.few
 refine⟨_,rfl,_,rfl,D,_,E'.map (·.1),rfl,hds.at',Zha E',by rw[Qa];omega,fun l ns hl hper hup=>?_⟩
 have sl:=Zh hl (.lst (ns.map V.int))
 have hl2:(upd H1 l (.lst (ns.map V.int))) l=some (.lst (ns.map V.int)):=Zd
 generalize upd H1 l (.lst (ns.map V.int))=H2 at sl hl2 ⊢
 have s2:=s1.trans sl
 have hnl:ns.length≤60:=by rw[hper.length_eq,Qa];omega
 refine⟨D,l,E',ns,rfl,hds.same sl,SqL.of hl2,hnl,fun n hn=>hper.mem_iff.mp hn,fun v H3 hw s3=>?_⟩
 have s03:=s2.trans s3
 have hds3:=(hds.same sl).same s3
 have hwL:Win (hdL L) (L.map (·.1)) v:=(hw.perm (hper.trans ho.per)).congr (ho.same ow.nd)
 cases v with
 | none=>exact⟨_,rfl,rfl,_,rfl,Zcw rfl (q _ H3 (.inl ⟨rfl,hwL⟩) s03)⟩
 | some a =>
  obtain⟨e,he,ea⟩:=Qn.mp hwL.1
  have ea':e.1=a:=ea
  subst ea'
  obtain⟨_,x,hx,_⟩:=hwL
  rw[Zgt ow.nd he]at hx
  cases hz:e.2.2.1[e.2.2.2]? with
  | none=>rw[hz]at hx;cases hx
  | some z =>
  have hv:Z2 (kvH E') (.inl e.1)=some (.str z):=by rw[Zfn hds.nd (ho.per.mem_iff.mpr (Qd he)),Zk0 hds.nd (ho.hd e he),hz];rfl
  have ow3:=ow.same s03
  refine⟨_,rfl,rfl,_,rfl,Zbl (fun z=>nomatch z) ⟨_,rfl,_,rfl,o,_,rfl,ZN.k' (k:=.inr "gone") ow3.at' (ZbY ..),_,rfl,ga,_,rfl,ZN.k' (k:=.inl e.1) ow3.gone (Zg8 ow.nd he),_,rfl,_,rfl,D,_,rfl,ZN.k' (k:=.inl e.1) hds3.at' hv,(by show 3≤sizeLine;decide),fun t ht=>?_⟩⟩
  refine q _ _ (.inr ⟨t,e,z,rfl,he,hz,Zd,?_⟩) (s03.trans (Zh ht _))
  exact(hw.perm (hper.trans ho.per)).congr (ho.same ow.nd)
theorem Zgn(ra ga:Addr)(nb li lo v:Int):Zbi (Zav ra ga nb li lo) (.inr "likenings") (.int v)=Zav ra ga nb v lo:=by
 unfold Zbi Zav
 have a1:¬ (("looks" : Str) = "likenings"):=fun h=>Zqk h.symm
 simp[Zrl,Zsf,ZrK,a1]
theorem Zgk(ra ga:Addr)(nb li lo v:Int):Zbi (Zav ra ga nb li lo) (.inr "looks") (.int v)=Zav ra ga nb li v:=by
 unfold Zbi Zav
 simp[Zrg,ZrF,Zrz,Zqk]
def ZiQ:Sp:=fun vs H Q _=>∃ (o ra ga:Addr) (L:List Zx) (nb li lo:Int),vs=[.ref o]∧Own H o ra ga L nb li lo∧(L.map (·.1)).Pairwise (·<·)∧(∀e∈L,e.2.1≠o) ∧
 ∀ (k q':Int) (H':Hp),Zbx (hdL L) 8 (L.map (·.1)) k q'→Own H' o ra ga L nb (li+k) (lo+q')→But o H H'→Q .non H'
theorem Own.set{H:Hp}{o ra ga:Addr}{L:List Zx}{nb li lo li' lo':Int}(h:Own H o ra ga L nb li lo)(hno:∀e∈L,e.2.1≠o)(nr:ra≠o)(ng:ga≠o):Own (upd H o (.dK (Zav ra ga nb li' lo'))) o ra ga L nb li' lo' :=
 ⟨Zd,by rw[Zb nr];exact h.rows,by rw[Zb ng];exact h.gone,h.nd,h.few,fun e he=>let ⟨a,b⟩:=h.lst e he;⟨by rw[Zb (hno e he)];exact a,b⟩⟩
theorem Own.ne{H:Hp}{o ra ga:Addr}{L:List Zx}{nb li lo:Int}(h:Own H o ra ga L nb li lo):ra≠o∧ga≠o:=by
 constructor
 ·rintro rfl
  have:=h.rows.symm.trans h.at'
  injection this with this
  injection this with this
  cases L with
  | nil=>cases this
  | cons e r=>unfold kvR Zav at this;injection this with this _;injection this with this _;cases this
 ·rintro rfl
  have:=h.gone.symm.trans h.at'
  injection this with this
  injection this with this
  cases L with
  | nil=>cases this
  | cons e r=>unfold kvG Zav at this;injection this with this _;injection this with this _;cases this
theorem ZnV(T:Zaf K mg cRow cMerge)(f_l_heads:Df P w K mg base 1 "_law_heads" ["_law_own"] ZeY)(f_l_first_play:Df P w K mg base 9 "_law_first_play" ["_law_heads_here", "_law_numbers"] (ZrZ K 8)):Df P w K mg base 10 "_law_play" ["_law_own"] ZiQ:=by
 refine T.t_l_play.df Zeg (fun vs H Q E h=>?_) (fun cdv f A outer s H vs Q E hr h=>?_)
 ·obtain⟨o,ra,ga,L,nb,li,lo,rfl,_⟩:=h
  rfl
 obtain⟨o,ra,ga,L,nb,li,lo,rfl,ow,hrise,hno,q⟩:=h
 refine⟨_,#[Zf,#[Zw,1,Zeg.nd,(Or.inl rfl),#[Zy,f_l_heads,hr,#[Za,‹0›,#[Ze]],(by rfl)]],#[Zf,#[Z3,#[Zy,f_l_first_play,hr,#[Za,‹1›,#[Za,#[Zk,ZmW,(by rfl),T.b.n_sorted,boot_sorted,#[Za,‹1›,#[Ze]]],#[Ze]]],(by rfl)],#[gT,K,2,#[ZB,#[ZD,2,Zeg.nd,(Or.inl rfl)],#[ZB,#[ZD,3,Zeg.nd,(Or.inl rfl)],(@ZaG _)]]]],#[Zf,#[Z3,#[ZG,Z8,#[Zo,(ixG hr),‹0›,#[ZA]],‹2›],#[ZaQ,‹0›,#[ZA],(ZdK hr)]],#[Zj,#[Z3,#[ZG,Z8,#[Zo,(ixG hr),‹0›,#[ZA]],‹3›],#[ZaQ,‹0›,#[ZA],(ZdK hr)]]]]]],?_⟩
 refine⟨_,rfl,o,ra,ga,L,nb,li,lo,rfl,ow,fun D E' H1 hD hds ho s1=>?_⟩
 have hEl:E'.length=L.length:=by have:=ho.per.length_eq;rw[Qa,Qa]at this;exact this
 have hfew:=ow.few
 refine⟨_,rfl,_,rfl,D,_,E'.map (·.1),rfl,hds.at',Zha E',by rw[Qa];omega,fun l ns hl hper hup=>?_⟩
 have sl:=Zh hl (.lst (ns.map V.int))
 have hl2:(upd H1 l (.lst (ns.map V.int))) l=some (.lst (ns.map V.int)):=Zd
 generalize upd H1 l (.lst (ns.map V.int))=H2 at sl hl2 ⊢
 have s2:=s1.trans sl
 have hp2:=hper.trans ho.per
 have hns:ns=L.map (·.1):=ZeV hp2 (Zip hup (hp2.nodup_iff.mpr ow.nd)) hrise
 have hnl:ns.length≤60:=by rw[hper.length_eq,Qa];omega
 refine⟨D,l,E',ns,rfl,hds.same sl,SqL.of hl2,hnl,by decide,Qy hnl (by decide),fun n hn=>hper.mem_iff.mp hn,fun t k q' H3 hpl ht ht3 s3=>?_⟩
 refine⟨t,_,rfl,SqT.of ht3,rfl,_,_,rfl,_,_,rfl,rfl,?_⟩
 have s03:=s2.trans s3
 have ow3:=ow.same s03
 obtain⟨nr,ng⟩:=ow.ne
 have hol:(Zav ra ga nb li lo).length<sizeLine:=ZC (by show 5≤1000;decide)
 refine⟨_,rfl,o,_,rfl,ZN.k' (k:=.inr "likenings") ow3.at' (ZbR ..),_,rfl,_,_,rfl,rfl,_,rfl,o,_,rfl,ZbW.k (k:=.inr "likenings") ow3.at' hol,?_⟩
 rw[Zgn]
 have ow4:=ow3.set (li':=li+k) (lo':=lo) hno nr ng
 have b4:But o H (upd H3 o (.dK (Zav ra ga nb (li+k) lo))):=fun b x hb n=>by rw[Zb n];exact s03 b x hb
 generalize upd H3 o (.dK (Zav ra ga nb (li+k) lo))=H4 at ow4 b4 ⊢
 have hol4:(Zav ra ga nb (li+k) lo).length<sizeLine:=ZC (by show 5≤1000;decide)
 refine⟨_,rfl,o,_,rfl,ZN.k' (k:=.inr "looks") ow4.at' (Zfw ..),_,rfl,_,_,rfl,rfl,_,rfl,o,_,rfl,ZbW.k (k:=.inr "looks") ow4.at' hol4,?_⟩
 rw[Zgk]
 refine q k q' _ ?_ (ow4.set (li':=li+k) (lo':=lo+q') hno nr ng) (fun b x hb n=>by rw[Zb n];exact b4 b x hb n)
 rw[← hns]
 exact hpl.congr fun m hm=>ho.same ow.nd m (by rw[← hns];exact hm)
def Zat(L:List Zx):List Int:=L.map fun e=>(e.2.2.1.length:Int)-(e.2.2.2:Int)
def Zli:Sp:=fun vs H Q _=>∃ (o ra ga:Addr) (L:List Zx) (nb li lo:Int),vs=[.ref o]∧Own H o ra ga L nb li lo∧∀H':Hp,ZF H H'→Q (.int (Zat L).sum) H'
theorem Own.ne2{H:Hp}{o ra ga:Addr}{L:List Zx}{nb li lo:Int}(h:Own H o ra ga L nb li lo)(hl:L≠[]):ga≠ra:=by
 rintro rfl
 have:=h.rows.symm.trans h.gone
 injection this with this
 injection this with this
 cases L with
 | nil=>exact hl rfl
 | cons e r=>unfold kvR kvG at this;injection this with this _;injection this with _ this;cases this
theorem Zm5(T:Zaf K mg cRow cMerge):Df P w K mg base 1 "_law_left_of" ["_law_own"] Zli:=by
 refine T.t_l_left_of.df ZiR (fun vs H Q E h=>?_) (fun cdv f A outer s H vs Q E hr h=>?_)
 ·obtain⟨o,ra,ga,L,nb,li,lo,rfl,_⟩:=h
  rfl
 obtain⟨o,ra,ga,L,nb,li,lo,rfl,ow,q⟩:=h
 refine⟨_,#[Zj,#[Zs,#[Zk,(Zsc K),(by rfl),T.b.n_sum,boot_sum,#[Za,(@ZiT _ _ _ #[Zci,ZkI,(@Zpq _ _ _ _ #[Zo,(ixG hr),#[pv,0,(Or.inr (Or.inl rfl))],#[ZA]]),(fun _ _ _ _=>#[cg,1,ZkI]),(fun _ _ _ _=>(@Zcb _)),(fun _ _ _ _=>#[ZG,Zey,#[Zk,(Zcj K),(ZbK ZkI rfl (by decide +kernel)),T.b.n_len,Qs,#[Za,#[Zo,(ixG hr),#[Zo,(ixG hr),#[cv,0,ZkI],#[ZA]],#[cw,1,ZkI]],#[Ze]]],#[Zo,(ixG hr),#[Zo,(ixG hr),#[cv,0,ZkI],#[ZA]],#[cw,1,ZkI]]])]),#[Ze]]]]],?_⟩
 obtain⟨nr,ng⟩:=ow.ne
 have hfew:=ow.few
 refine⟨ra,_,ow.rows,True.intro,_,rfl,o,_,rfl,ZN.k' (k:=.inr "rows") ow.at' (ZaS ..),ra,_,rfl,ow.rows,fun ob B hB=>?_⟩
 have hfz:(upd H ra (.frz ob (.dK (kvR L)))) ra=some (.frz ob (.dK (kvR L))):=Zd
 have k1:∀b x,H b=some x→b≠ra→(upd H ra (.frz ob (.dK (kvR L)))) b=some x:=fun b x h n=>by rw[Zb n];exact h
 generalize upd H ra (.frz ob (.dK (kvR L)))=H1 at hfz k1 hB ⊢
 refine ZoC (d:=ra) (o:=ob) (kvs:=kvR L) (fun i zs σ H2=>(∃v:Option V,σ=[some (.ref o),v])∧zs=(Zat (L.take i)).map V.int∧i≤L.length∧H2 B=some (.lst zs)∧ZF H1 H2) ?_ (fun _ _ _ _ h=>h.2.2.2.2 _ _ hfz) ?_ ?_
 ·exact⟨⟨none,rfl⟩,rfl,Qw _,Zd,Zh hB _⟩
 ·rintro i k x zs σ H2 hkx ⟨⟨v,rfl⟩,rfl,hi,hB2,s2⟩
  unfold kvR at hkx
  rw[Qp]at hkx
  cases hu:L[i]? with
  | none=>rw[hu]at hkx;cases hkx
  | some e =>
  rw[hu]at hkx
  cases hkx
  have hil:i<L.length:=(Qg.mp hu).1
  have he:=Qx hu
  have nga:=ow.ne2 (fun z=>by rw[z]at he;cases he)
  obtain⟨la,l100,lg,_⟩:=ow.lst e he
  have nla:e.2.1≠ra:=fun z=>by rw[z,ow.rows]at la;cases la
  have ho2:=s2 _ _ (k1 o _ ow.at' nr.symm)
  refine⟨_,rfl,o,_,rfl,ZN.k' (k:=.inr "rows") ho2 (ZaS ..),_,rfl,ra,_,rfl,ZN.fz (k:=.inl e.1) (s2 _ _ hfz) (Zhc ow.nd he),e.2.1,_,rfl,.inl (SqL.of (s2 _ _ (k1 _ _ la nla))),_,rfl,o,_,rfl,ZN.k' (k:=.inr "gone") ho2 (ZbY ..),_,rfl,ga,_,rfl,ZN.k' (k:=.inl e.1) (s2 _ _ (k1 _ _ ow.gone nga)) (Zg8 ow.nd he),_,_,rfl,rfl,hB2,(by unfold Zat;rw[Qa,Qa,Qz];exact ZC (by omega)),⟨_,rfl⟩,?_,hil,Zd,fun b x hb=>?_⟩
  ·rw[QH,hu]
   unfold Zat
   rw[Qe,Qe,Qa];rfl
  ·rw[Zb (Zc hb hB)];exact s2 b x hb
 rintro zs σ H2 ⟨⟨v,rfl⟩,rfl,_,hB2,s2⟩
 have hkl:(kvR L).length=L.length:=by unfold kvR;rw[Qa]
 rw[hkl,Qu (Qh _)]at hB2
 refine⟨ob,s2 _ _ hfz,?_⟩
 have hB3:(upd H2 ra (.dK (kvR L))) B=some (.lst ((Zat L).map V.int)):=by rw[Zb (Zc hfz hB).symm];exact hB2
 have s3:ZF H (upd H2 ra (.dK (kvR L))):=fun b x hb=>by
  by_cases e:b=ra
  ·rw[e,ow.rows]at hb;rw[e,Zd];exact hb
  ·rw[Zb e];exact s2 _ _ (k1 b x hb e)
 generalize upd H2 ra (.dK (kvR L))=H3 at hB3 s3 ⊢
 refine⟨B,Zat L,rfl,SqL.of hB3,(by unfold Zat;rw[Qa];omega),fun n hn=>?_,q H3 s3⟩
 unfold Zat at hn
 obtain⟨e,he,rfl⟩:=Qn.mp hn
 obtain⟨_,l100,lg,_⟩:=ow.lst e he
 omega
theorem ZjE:([.inr "rows",.inr "gone",.inr "number",.inr "likenings",.inr "looks"]:List Key).Nodup:=by decide +kernel
structure ZdT (H:Hp) (r:Addr) (rs:List (Addr×List Str)):Prop where
 at':H r=some (.lst (rs.map fun x=>V.ref x.1))
 few:rs.length≤60
 lst:∀x∈rs,H x.1=some (.lst (x.2.map V.str))∧x.2.length≤100∧∀s∈x.2,s.length≤1000∧AZ s
theorem ZdT.same{H H':Hp}{r:Addr}{rs:List (Addr×List Str)}(h:ZdT H r rs)(s:ZF H H'):ZdT H' r rs:=⟨s _ _ h.at',h.few,fun x hx=>let ⟨a,b⟩:=h.lst x hx;⟨s _ _ a,b⟩⟩
def Zph(L:List Zx)(rs:List (Addr×List Str)):Prop:=L.map (·.1)=Zet 0 rs.length∧L.map (fun e=>e.2.2)=rs.map fun x=>(x.2,0)
theorem Zje(n:Nat):(Zet 0 n).Pairwise (·<·):=by
 unfold Zet
 exact QaS _ (fun a b h=>by omega) (List.pairwise_lt_range)
def ZmV:Sp:=fun vs H Q _=>∃ (r:Addr) (rs:List (Addr×List Str)),vs=[.ref r]∧ZdT H r rs ∧
 ∀ (o ra ga:Addr) (L:List Zx) (k q':Int) (H':Hp),H o=none→H ra=none→H ga=none→ga≠ra→(∀e∈L,H e.2.1=none∧e.2.1≠o)→Zph L rs→Own H' o ra ga L (rs.length:Int) k q'→Zbx (hdL L) 8 (L.map (·.1)) k q'→ZF H H'→Q (.ref o) H'
theorem Zls(T:Zaf K mg cRow cMerge)(f_l_play:Df P w K mg base 10 "_law_play" ["_law_own"] ZiQ):Df P w K mg base 11 "_law_world" ["_law_rows_here"] ZmV:=by
 refine T.t_l_world.df Zdt (fun vs H Q E h=>?_) (fun cdv f A outer s H vs Q E hr h=>?_)
 ·obtain⟨r,rs,rfl,_⟩:=h
  rfl
 obtain⟨r,rs,rfl,hrs,q⟩:=h
 refine⟨_,#[Zf,#[Zw,1,Zdt.nd,(Or.inl rfl),(@Zo2 _ _ _ _ _ #[ZdQ,#[ZA],(@Ze4 _ _),#[ZdQ,#[ZA],(@Ze4 _ _),#[ZdQ,#[ZA],#[Zk,(Zcj K),(by rfl),T.b.n_len,Qs,#[Za,‹0›,#[Ze]]],#[ZdQ,#[ZA],#[Zi],#[ZdQ,#[ZA],#[Zi],(@Zol _ _)]]]]] rfl rfl (by intro z;cases z) (by show 5≤15;decide))],#[Zf,#[Zcv,PassesOwn.never,#[iE,K,T.b.n_enumerate,#[Za,‹0›,#[Ze]]],#[gT,K,2,#[ZB,#[ZD,2,Zdt.nd,(Or.inl rfl)],#[ZB,#[ZD,3,Zdt.nd,(Or.inl rfl)],(@ZaG _)]]],#[Zf,#[Z3,#[ZaR,(Zh9 K),T.b.n_list,boot_list,#[Za,‹3›,#[Ze]]],#[ZaQ,#[Zo,(ixG hr),‹1›,#[ZA]],‹2›,(ZdK hr)]],#[Zj,#[Z3,#[Zi],#[ZaQ,#[Zo,(ixG hr),‹1›,#[ZA]],‹2›,(ZdK hr)]]]]],#[Zf,#[Zab,#[Zy,f_l_play,hr,#[Za,‹1›,#[Ze]],(by rfl)]],#[Zj,#[Zs,‹1›]]]]],?_⟩
 refine fun o ho=>?_
 have so:=Zh ho (.dK [])
 have ho1:(upd H o (.dK [])) o=some (.dK []):=Zd
 generalize upd H o (.dK [])=H1 at so ho1 ⊢
 refine fun ra hra=>?_
 have sa:=Zh hra (.dK [])
 have ha2:(upd H1 ra (.dK [])) ra=some (.dK []):=Zd
 have nao:ra≠o:=(Zc ho1 hra).symm
 generalize upd H1 ra (.dK [])=H2 at sa ha2 ⊢
 refine fun ga hga=>?_
 have sg:=Zh hga (.dK [])
 have hg3:(upd H2 ga (.dK [])) ga=some (.dK []):=Zd
 have nga:ga≠ra:=(Zc ha2 hga).symm
 have ngo:ga≠o:=(Zc (sa _ _ ho1) hga).symm
 generalize upd H2 ga (.dK [])=H3 at sg hg3 ⊢
 have s3:ZF H H3:=(so.trans sa).trans sg
 have hra0:H ra=none:=so.free hra
 have hga0:H ga=none:=(so.trans sa).free hga
 have ho3:=(sa.trans sg) _ _ ho1
 have ha3:=sg _ _ ha2
 have hmk:∀nb:Int,ZcS [] (Zav ra ga nb 0 0)=Zav ra ga nb 0 0:=fun nb=>(Zie (Zav ra ga nb 0 0) [] (show ((([]:List (Key×V))++Zav ra ga nb 0 0).map fun kv=>kv.1).Nodup from ZjE)).trans (List.nil_append _)
 refine⟨_,rfl,r,_,rfl,.inl (SqL.of (s3 _ _ hrs.at')),ho3,Zav ra ga (((rs.map fun x=>V.ref x.1).length:Nat):Int) 0 0,rfl,(by show 5≤15;decide),?_⟩
 rw[hmk,Qa]
 have ow4:Own (upd H3 o (.dK (Zav ra ga (rs.length:Int) 0 0))) o ra ga [] (rs.length:Int) 0 0 :=
  ⟨Zd,by rw[Zb nao];exact ha3,by rw[Zb ngo];exact hg3,List.nodup_nil,by decide,fun e h=>by cases h⟩
 have s4:ZF H (upd H3 o (.dK (Zav ra ga (rs.length:Int) 0 0))):=fun b x hb=>by rw[Zb (Zc hb ho)];exact s3 b x hb
 generalize upd H3 o (.dK (Zav ra ga (rs.length:Int) 0 0))=H4 at ow4 s4 ⊢
 refine⟨_,rfl,r,_,rfl,SqL.of (s4 _ _ hrs.at'),?_⟩
 refine ZgS (K:=K) (a:=r) (xs:=rs.map fun x=>V.ref x.1) (fun i σ H5=>∃ (L:List Zx) (v2 v3:Option V),σ=[some (.ref r),some (.ref o),v2,v3]∧Own H5 o ra ga L (rs.length:Int) 0 0∧Zph L (rs.take i)∧(∀e∈L,H e.2.1=none∧e.2.1≠o)∧ZF H H5) ⟨[],_,_,rfl,ow4,⟨rfl,rfl⟩,(fun e h=>by cases h),s4⟩ (fun i σ H5 hq=>by obtain⟨_,_,_,_,_,_,_,s5⟩:=hq;exact SqL.of (s5 _ _ hrs.at')) ?_ ?_
 ·rintro i y σ H5 p hy ⟨L,v2,v3,rfl,ow,⟨n1,n2⟩,hfr,s5⟩ hp
  rw[Qp]at hy
  cases hz:rs[i]? with
  | none=>rw[hz]at hy;cases hy
  | some x =>
  rw[hz]at hy
  cases hy
  have hil:i<rs.length:=(Qg.mp hz).1
  have hfew:=hrs.few
  obtain⟨lx,l100,laz⟩:=hrs.lst x (Qx hz)
  have hLl:L.length=i:=by have:=congrArg List.length n1;rw[Qa,Zfg,Qz]at this;omega
  have hlt:∀e∈L,e.1≠(i:Int):=fun e he z=>by
   have h1:e.1∈Zet 0 (rs.take i).length:=by rw[← n1];exact Qd (f:=fun e:Zx=>e.1) he
   unfold Zet at h1
   obtain⟨j,hj,ej⟩:=Qn.mp h1
   have:=Qah.mp hj
   rw[Qz]at this
   omega
  have sp:=Zh hp (.tup [.int (i:Int),.ref x.1])
  have hp6:(upd H5 p (.tup [.int (i:Int),.ref x.1])) p=some (.tup [.int (i:Int),.ref x.1]):=Zd
  have s6:=s5.trans sp
  have ow6:=ow.same sp
  generalize upd H5 p (.tup [.int (i:Int),.ref x.1])=H6 at hp6 s6 ow6 ⊢
  refine⟨p,_,rfl,SqT.of hp6,rfl,_,_,rfl,_,_,rfl,rfl,?_⟩
  refine⟨_,rfl,x.1,_,rfl,.inl (SqL.of (s6 _ _ lx)),fun c hc=>?_⟩
  have s7:=s6.trans (Zh hc (.lst (x.2.map V.str)))
  have ow7:=ow6.same (Zh hc (.lst (x.2.map V.str)))
  have hc7:(upd H6 c (.lst (x.2.map V.str))) c=some (.lst (x.2.map V.str)):=Zd
  have hc0:H c=none:=s6.free hc
  have nco:c≠o:=(Zc ow6.at' hc).symm
  have nca:c≠ra:=(Zc ow6.rows hc).symm
  have ncg:c≠ga:=(Zc ow6.gone hc).symm
  generalize upd H6 c (.lst (x.2.map V.str))=H7 at s7 ow7 hc7 ⊢
  have hsz:(kvR L).length<sizeLine:=by unfold kvR;rw[Qa];exact ZC (by omega)
  have hsz2:(kvG L).length<sizeLine:=by unfold kvG;rw[Qa];exact ZC (by omega)
  have hn1:Z2 (kvR L) (.inl (i:Int))=none:=by
   cases hv:Z2 (kvR L) (.inl (i:Int)) with
   | none=>rfl
   | some v=>obtain⟨e,he,z⟩:=Qn.mp (ZcC hv);injection z with z _;exact absurd (Sum.inl.inj z) (hlt e he)
  have hn2:Z2 (kvG L) (.inl (i:Int))=none:=by
   cases hv:Z2 (kvG L) (.inl (i:Int)) with
   | none=>rfl
   | some v=>obtain⟨e,he,z⟩:=Qn.mp (ZcC hv);injection z with z _;exact absurd (Sum.inl.inj z) (hlt e he)
  refine⟨_,rfl,o,_,rfl,ZN.k' (k:=.inr "rows") ow7.at' (ZaS ..),_,rfl,ra,_,rfl,ZbW.k (k:=.inl (i:Int)) ow7.rows hsz,?_⟩
  rw[ZbV _ hn1,show kvR L++[((.inl (i:Int):Key),V.ref c)]=kvR (L++[((i:Int),c,x.2,0)]) by unfold kvR;rw[Qe];rfl]
  have ho8:(upd H7 ra (.dK (kvR (L++[((i:Int),c,x.2,0)])))) o=some (.dK (Zav ra ga (rs.length:Int) 0 0)):=by rw[Zb nao.symm];exact ow7.at'
  have hg8:(upd H7 ra (.dK (kvR (L++[((i:Int),c,x.2,0)])))) ga=some (.dK (kvG L)):=by rw[Zb nga];exact ow7.gone
  refine⟨_,rfl,o,_,rfl,ZN.k' (k:=.inr "gone") ho8 (ZbY ..),_,rfl,ga,_,rfl,ZbW.k (k:=.inl (i:Int)) hg8 hsz2,?_⟩
  rw[ZbV _ hn2,show kvG L++[((.inl (i:Int):Key),V.int 0)]=kvG (L++[((i:Int),c,x.2,0)]) by unfold kvG;rw[Qe];rfl]
  refine⟨L++[((i:Int),c,x.2,0)],_,_,rfl,⟨by rw[Zb ngo.symm];exact ho8,by rw[Zb nga.symm];exact Zd,Zd,?_,by rw[Qf,Qt];omega,fun e he=>?_⟩,⟨?_,?_⟩,fun e he=>?_,fun b y hb=>?_⟩
  ·rw[Qe]
   refine QaV.mpr ⟨ow.nd,by simp,fun u hu v hv=>?_⟩
   obtain⟨e,he,rfl⟩:=Qn.mp hu
   have:v=(i:Int):=by simpa using hv
   rw[this];exact hlt e he
  ·rcases Qm.mp he with he|he
   ·obtain⟨b1,b2⟩:=ow7.lst e he
    have e1:e.2.1≠ra:=fun z=>by rw[z,ow7.rows]at b1;cases b1
    have e2:e.2.1≠ga:=fun z=>by rw[z,ow7.gone]at b1;cases b1
    exact⟨by rw[Zb e2,Zb e1];exact b1,b2⟩
   ·rw[Qo.mp he]
    exact⟨by rw[Zb ncg,Zb nca];exact hc7,l100,Qw _,laz⟩
  ·rw[Qe,n1,Qz,Qz,Qas (by omega),Qas (by omega)]
   unfold Zet
   rw[QaJ,Qe]
   simp
  ·rw[Qe,n2,QH,hz,Qe];rfl
  ·rcases Qm.mp he with he|he
   ·exact hfr e he
   ·rw[Qo.mp he];exact⟨hc0,nco⟩
  ·rw[Zb (Zc hb hga0),Zb (Zc hb hra0)];exact s7 b y hb
 ·rintro σ H5 ⟨L,v2,v3,rfl,ow,hnew,hfr,s5⟩
  rw[Qa,Qu (Qh _)]at hnew
  refine⟨_,rfl,o,ra,ga,L,_,0,0,rfl,ow,by rw[hnew.1];exact Zje _,fun e he=>(hfr e he).2,fun k q' H6 hpl ow6 b6=>?_⟩
  rw[Int.zero_add,Int.zero_add]at ow6
  exact⟨_,rfl,q o ra ga L k q' H6 ho hra0 hga0 nga hfr hnew ow6 hpl (fun b x hb=>b6 b x (s5 b x hb) (Zc hb ho))⟩
def ZiF:Sp:=fun vs H Q _=>∃ (p l:Addr) (c most:Int) (ss:List Str),vs=[.ref p,.ref l,.int most]∧Zap H p c∧c<2 ^ 40∧0≤most∧most≤60∧H l=some (.lst (ss.map V.str))∧1≤ss.length∧ss.length≤4∧(∀s∈ss,s.length≤34∧AZ s) ∧
 ∀ (r:Addr) (ts:List Str) (c':Int) (H':Hp),H r=none→H' r=some (.lst (ts.map V.str))→(ts.length:Int)≤most→sortedS ts=true→(∀s∈ts,s.length≤38∧AZ s)→Zap H' p c'→c≤c'→c'≤c+600→But p H H'→Q (.ref r) H'
theorem Zpp(T:Zaf K mg cRow cMerge)(f_l_keys:Df P w K mg base 4 "_law_keys" ["_law_left_here", "_law_stems_here", "_law_most"] Zkt):Df P w K mg base 5 "_law_row" ["_law_left_here", "_law_stems_here", "_law_most"] ZiF:=by
 refine T.t_l_row.df ZmU (fun vs H Q E h=>?_) (fun cdv f A outer s H vs Q E hr h=>?_)
 ·obtain⟨p,l,c,most,ss,rfl,_⟩:=h
  rfl
 obtain⟨p,l,c,most,ss,rfl,hL,hc,h0,h60,hl,h1,h4,h24,q⟩:=h
 refine⟨_,#[Zj,#[Zs,#[Zk,(Zqp K),(by rfl),T.b.n_sorted,boot_sorted,#[Za,#[Zy,f_l_keys,hr,#[Za,‹0›,#[Za,‹1›,#[Za,‹2›,#[Ze]]]],(by rfl)],#[Ze]]]]],?_⟩
 refine⟨_,rfl,_,rfl,_,rfl,p,l,c,most,ss,rfl,hL,hc,h0,h60,hl,h1,h4,h24,fun r ts c' H1 hr0 hr1 hts h28 L1 a1 a2 B1=>?_⟩
 refine⟨r,ts,rfl,SqL.of hr1,by omega,fun l2 ts' hl2 hper hsrt=>?_⟩
 obtain⟨ob,hob⟩:=hL.here
 have hl20:H l2=none:=by
  cases e:H l2 with
  | none=>rfl
  | some x =>
   by_cases z:l2=p
   ·obtain⟨o1,ho1⟩:=L1.here;rw[z,ho1]at hl2;cases hl2
   ·have:=B1 l2 x e z;rw[this]at hl2;cases hl2
 exact q l2 ts' c' _ hl20 Zd (by rw[hper.length_eq];exact hts) hsrt (fun s hs=>h28 s (hper.mem_iff.mp hs)) (L1.new hl2) a1 a2 (B1.trans (But.same (Zh hl2 _)))
def Zla:Sp:=fun vs H Q _=>∃ (p:Addr) (c:Int),vs=[.ref p]∧Zap H p c∧c<2 ^ 30 ∧
 ∀ (r:Addr) (rs:List (Addr×List Str)) (c':Int) (H':Hp),H r=none→ZdT H' r rs→(∀x∈rs,H x.1=none∧x.1≠r∧x.1≠p∧sortedS x.2=true∧x.2.length≤60)→rs.length≤12→Zap H' p c'→c≤c'→c'≤c+10000→But p H H'→Q (.ref r) H'
theorem Zn5(T:Zaf K mg cRow cMerge)(f_l_pick:Df P w K mg base 2 "_law_pick" ["_law_left_here", "_law_many_here"] Zeb)(f_l_stems:Df P w K mg base 3 "_law_stems" ["_law_left_here"] Ziv)(f_l_many:Df P w K mg base 3 "_law_many" ["_law_left_here"] Zkw)(f_l_row:Df P w K mg base 5 "_law_row" ["_law_left_here", "_law_stems_here", "_law_most"] ZiF):Df P w K mg base 6 "_law_rows" ["_law_left_here"] Zla:=by
 refine T.t_l_rows.df ZfM (fun vs H Q E h=>?_) (fun cdv f A outer s H vs Q E hr h=>?_)
 ·obtain⟨p,c,rfl,_⟩:=h
  rfl
 obtain⟨p,c,rfl,hL,c1,q⟩:=h
 refine⟨_,#[Zf,#[Zw,1,ZfM.nd,(Or.inr rfl),#[Zy,f_l_stems,hr,#[Za,#[pv,0,(Or.inr (Or.inl rfl))],#[Ze]],(by rfl)]],#[Zf,#[Zw,2,ZfM.nd,(Or.inr rfl),#[Zo,(ixL K),#[Zax,#[Za,#[Zi],#[Za,#[Zi],#[Za,#[Zi],#[Za,#[Zi],#[Za,#[Zi],#[Za,#[Zi],#[Za,#[Zi],#[Za,#[Zi],#[Ze]]]]]]]]]],#[Zy,f_l_pick,hr,#[Za,#[pv,0,(Or.inr (Or.inl rfl))],#[Za,#[Zi],#[Ze]]],(by rfl)]]],#[Zj,#[Zs,#[Zci,ZlX,#[ZbL,T.b.n_range,#[Za,#[Zy,f_l_many,hr,#[Za,#[pv,0,(Or.inr (Or.inl rfl))],#[Ze]],(by rfl)],#[Ze]]],(fun _ _ _ _=>#[cg,3,ZlX]),(fun _ _ _ _=>(@Zcb _)),(fun _ _ _ _=>#[Zy,f_l_row,hr,#[Za,#[cv,0,ZlX],#[Za,#[cv,1,ZlX],#[Za,#[cv,2,ZlX],#[Ze]]]],(ZbK ZlX rfl (by decide +kernel))])]]]]],?_⟩
 have c0:=hL.ge
 refine⟨_,rfl,p,c,rfl,hL,by omega,fun l ss c2 H1 hl0 hl1 n1 n4 h24 L1 a1 a2 B1=>?_⟩
 have npl:p≠l:=by obtain⟨o,ho⟩:=hL.here;exact Zc ho hl0
 refine⟨(by show 8≤sizeLine;decide),fun e he=>?_⟩
 have npe:p≠e:=by obtain⟨o,ho⟩:=L1.here;exact Zc ho he
 refine⟨_,rfl,p,c2,_,rfl,L1.new he,by omega,by decide,by decide,fun i H2 i0 i1 L2 B2=>?_⟩
 obtain⟨m,hm,hat⟩:=ZiV (ns:=[5,5,4,6,3,7,5,20]) i0 i1
 have he2:H2 e=some (.lst (([5,5,4,6,3,7,5,20]:List Int).map V.int)):=B2 e _ Zd npe.symm
 have hm1:0≤m∧m≤20:=by
  simp only[List.mem_cons,List.not_mem_nil,or_false]at hm
  omega
 have hl2:H2 l=some (.lst (ss.map V.str)):=B2 l _ (Zh he _ _ _ hl1) npl.symm
 have B02:But p H H2:=(B1.trans (But.same (Zh he _))).trans B2
 refine⟨e,_,_,_,rfl,rfl,SqL.of he2,hat,?_⟩
 refine⟨_,rfl,p,_,rfl,L2,by omega,fun mn c3 H3 m0 m12 L3 a3 a4 B3=>?_⟩
 have hl3:=B3 l _ hl2 npl.symm
 have B03:=B02.trans B3
 refine⟨_,rfl,by omega,by omega,fun D hD=>?_⟩
 have hD0:H D=none:=by
  cases e':H D with
  | none=>rfl
  | some x =>
   by_cases z:D=p
   ·obtain⟨o1,ho1⟩:=L3.here;rw[z,ho1]at hD;cases hD
   ·have:=B03 D x e' z;rw[this]at hD;cases hD
 have npD:p≠D:=by obtain⟨o,ho⟩:=L3.here;exact Zc ho hD
 have nlD:l≠D:=Zc hl3 hD
 refine Zds (fun i zs σ H4=>(∃v:Option V,σ=[some (.ref p),some (.ref l),some (.int m),v])∧(∃rs:List (Addr×List Str),zs=rs.map (fun x=>V.ref x.1)∧rs.length=i∧∀x∈rs,H4 x.1=some (.lst (x.2.map V.str))∧H x.1=none∧x.1≠D∧x.1≠p∧sortedS x.2=true∧x.2.length≤60∧∀s∈x.2,s.length≤38∧AZ s)∧H4 D=some (.lst zs)∧(∃c4:Int,Zap H4 p c4∧c3≤c4∧c4≤c3+600*i)∧But p H3 H4) ?_ ?_ ?_
 ·exact⟨⟨none,rfl⟩,⟨[],rfl,rfl,(fun x h=>by cases h)⟩,Zd,⟨c3,L3.new hD,by omega,by omega⟩,But.same (Zh hD _)⟩
 ·rintro i zs σ H4 hi ⟨⟨v,rfl⟩,⟨rs,rfl,hrl,hrs⟩,hD4,⟨c4,L4,b1,b2⟩,B4⟩
  have hi12:i<12:=by omega
  refine⟨_,rfl,_,rfl,_,rfl,p,l,c4,m,ss,rfl,L4,by omega,hm1.1,by omega,B4 l _ hl3 npl.symm,n1,n4,h24,fun r ts c5 H5 hr0 hr5 hts hsrt h28 L5 d1 d2 B5=>?_⟩
  have hD5:=B5 D _ hD4 npD.symm
  have nDr:D≠r:=Zc hD4 hr0
  have npr:p≠r:=by obtain⟨o,ho⟩:=L4.here;exact Zc ho hr0
  have hr00:H r=none:=by
   cases e':H r with
   | none=>rfl
   | some x=>have:=B4 r x (B03 r x e' npr.symm) npr.symm;rw[this]at hr0;cases hr0
  refine⟨hD5,(by rw[Qa];exact ZC (by omega)),⟨_,rfl⟩,⟨rs++[(r,ts)],by rw[Qe];rfl,by rw[Qf,Qt];omega,fun x hx=>?_⟩,Zd,⟨c5,L5.at npD,by omega,by omega⟩,fun b x hb nb=>?_⟩
  ·rcases Qm.mp hx with hx|hx
   ·obtain⟨g1,g2,g3,g4,g5⟩:=hrs x hx
    exact⟨by rw[Zb g3];exact B5 _ _ g1 g4,g2,g3,g4,g5⟩
   ·rw[Qo.mp hx]
    exact⟨by rw[Zb nDr.symm];exact hr5,hr00,nDr.symm,npr.symm,hsrt,by show ts.length≤60;omega,h28⟩
  ·rw[Zb (Zc hb hD)];exact B5 b x (B4 b x hb nb) nb
 rintro zs σ H4 ⟨⟨v,rfl⟩,⟨rs,rfl,hrl,hrs⟩,hD4,⟨c4,L4,b1,b2⟩,B4⟩
 refine q D rs c4 H4 hD0 ⟨hD4,by omega,fun x hx=>?_⟩ (fun x hx=>?_) (by omega) L4 (by omega) (by omega) (B03.trans B4)
 ·obtain⟨g1,_,_,_,_,g6,g7⟩:=hrs x hx
  exact⟨g1,by omega,fun s hs=>⟨by have:=(g7 s hs).1;omega,(g7 s hs).2⟩⟩
 ·obtain⟨_,g2,g3,g4,g5,g6,_⟩:=hrs x hx
  exact⟨g2,g3,g4,g5,g6⟩
def Zd8(K:PySem.W.Frag):Sp:=fun vs H Q _=>∃ (n:Int) (a:Addr) (ss:List Str),vs=[.int n,.ref a]∧SqL K H a (ss.map V.str)∧ss.length≤200∧(∀s∈ss,s.length≤1000)∧Zi1 ss .non∧∀H',ZF H H'→Q .non H'
theorem ZlJ(T:Zaf K mg cRow cMerge)(f_first_break:Df P w K mg base 4 "first_break" ["keys"] (ZnA K)):Df P w K mg base 5 "refuse_break" ["number", "keys"] (Zd8 K):=by
 refine T.t_refuse_break.df ZdF (fun vs H Q E h=>?_) (fun cdv f A outer s H vs Q E hr h=>?_)
 ·obtain⟨n,a,ss,rfl,_⟩:=h
  rfl
 obtain⟨n,a,ss,rfl,hS,h200,h1000,hnon,q⟩:=h
 refine⟨_,#[Zf,#[Zw,2,ZdF.nd,(Or.inl rfl),#[Zy,f_first_break,hr,#[Za,‹1›,#[Ze]],(by rfl)]],#[Zj,#[ZZ,#[Zm,Zej,‹2›,#[ZW],(Zp _)],#[Zj,(@ZiP _ _)],#[ZE]]]],?_⟩
 refine⟨_,rfl,a,ss,rfl,hS,h200,h1000,fun v H1 hb s1=>?_⟩
 have e:=Zpy hb hnon
 subst e
 exact⟨_,rfl,rfl,_,rfl,ZbE (q H1 s1)⟩
structure Zv where
 n:Int
 p:Addr
 k:Addr
 f:Addr
 ss:List Str
 g:Nat
def toL(e:Zv):Zx:=(e.n,e.p,e.ss,e.g)
def hdM(L:List Zv):Hd:=hdL (L.map toL)
def Zz(L:List Zv):List Int:=L.map (·.n)
theorem Zby(L:List Zv):(L.map toL).map (·.1)=Zz L:=by rw[Qi];rfl
def kvM(L:List Zv):List (Key×V):=L.map fun e=>(.inl e.n,.ref e.p)
theorem ZeP{L:List Zv}(nd:(Zz L).Nodup){e:Zv}(he:e∈L):hdM L e.n=(e.ss[e.g]?).map cds :=
 Zgt (L:=L.map toL) (by rw[Zby];exact nd) (Qd (f:=toL) he)
theorem ZmS(L:List Zv):(kvM L).map (·.1)=(Zz L).map (Sum.inl:Int→Key):=by unfold kvM Zz;rw[Qi,Qi];rfl
theorem ZdN{L:List Zv}(nd:(Zz L).Nodup){e:Zv}(he:e∈L):Z2 (kvM L) (.inl e.n)=some (.ref e.p):=ZcK (by rw[ZmS];exact ZkF nd) (Qd (f:=fun e:Zv=>((.inl e.n:Key),V.ref e.p)) he)
theorem ZdW{L:List Zv}{n:Int}(h:n∈Zz L):∃e∈L,e.n=n:=Qn.mp h
def mgF(rd:Addr)(nb li lo:Int)(sd:Addr)(best:V):List (Str×V):=[("rows",.ref rd),("next_number",.int nb),("likened",.int li),("looked",.int lo),("stays",.ref sd),("best",best)]
theorem ZqX:¬ (("rows" : Str) = "next_number"):=by decide +kernel
theorem Zqh:¬ (("rows" : Str) = "likened"):=by decide +kernel
theorem Zqv:¬ (("rows" : Str) = "looked"):=by decide +kernel
theorem ZqB:¬ (("rows" : Str) = "stays"):=by decide +kernel
theorem Zqg:¬ (("rows" : Str) = "best"):=by decide +kernel
theorem Zq2:¬ (("next_number" : Str) = "likened"):=by decide +kernel
theorem Zqo:¬ (("next_number" : Str) = "looked"):=by decide +kernel
theorem ZqQ:¬ (("next_number" : Str) = "stays"):=by decide +kernel
theorem Zqn:¬ (("next_number" : Str) = "best"):=by decide +kernel
theorem Zqu:¬ (("likened" : Str) = "looked"):=by decide +kernel
theorem Zqy:¬ (("likened" : Str) = "stays"):=by decide +kernel
theorem ZqT:¬ (("likened" : Str) = "best"):=by decide +kernel
theorem ZqA:¬ (("looked" : Str) = "stays"):=by decide +kernel
theorem Zq0:¬ (("looked" : Str) = "best"):=by decide +kernel
theorem Zp5:¬ (("stays" : Str) = "best"):=by decide +kernel
theorem Zb1(f:Str)(v x:V)(r:List (Str×V)):Zt f v ((f,x)::r)=(f,v)::r:=by unfold Zt;rw[if_pos rfl]
theorem Zu{f g:Str}(h:¬ g=f)(v x:V)(r:List (Str×V)):Zt f v ((g,x)::r)=(g,x)::Zt f v r:=by
 show (if g=f then (g,v)::r else (g,x)::Zt f v r)=_
 rw[if_neg h]
theorem Za0(f:Str)(v:V):Zt f v []=[(f,v)]:=rfl
theorem Zbs(rd:Addr)(nb li lo:Int)(sd:Addr)(best:V):mgF rd nb li lo sd best=Zt "best" best (Zt "stays" (.ref sd) (Zt "looked" (.int lo) (Zt "likened" (.int li) (Zt "next_number" (.int nb) (Zt "rows" (.ref rd) []))))):=by
 rw[Za0,Zu ZqX,Za0,Zu Zqh,Zu Zq2,Za0,Zu Zqv,Zu Zqo,Zu Zqu,Za0,Zu ZqB,Zu ZqQ,Zu Zqy,Zu ZqA,Za0,Zu Zqg,Zu Zqn,Zu ZqT,Zu Zq0,Zu Zp5,Za0]
 rfl
section
variable (rd:Addr) (nb li lo:Int) (sd:Addr) (best:V)
theorem ZaB:(mgF rd nb li lo sd best).lookup ("rows" : Str)=some (.ref rd):=by
 rw[Zbs,Zl,if_neg Zqg,Zl,if_neg ZqB,Zl,if_neg Zqv,Zl,if_neg Zqh,Zl,if_neg ZqX,Zl,if_pos rfl]
theorem ZgO:(mgF rd nb li lo sd best).lookup ("next_number" : Str)=some (.int nb):=by
 rw[Zbs,Zl,if_neg Zqn,Zl,if_neg ZqQ,Zl,if_neg Zqo,Zl,if_neg Zq2,Zl,if_pos rfl]
theorem ZdY:(mgF rd nb li lo sd best).lookup ("likened" : Str)=some (.int li):=by
 rw[Zbs,Zl,if_neg ZqT,Zl,if_neg Zqy,Zl,if_neg Zqu,Zl,if_pos rfl]
theorem ZgL:(mgF rd nb li lo sd best).lookup ("looked" : Str)=some (.int lo):=by
 rw[Zbs,Zl,if_neg Zq0,Zl,if_neg ZqA,Zl,if_pos rfl]
theorem Zc7:(mgF rd nb li lo sd best).lookup ("stays" : Str)=some (.ref sd):=by
 rw[Zbs,Zl,if_neg Zp5,Zl,if_pos rfl]
theorem ZdX:(mgF rd nb li lo sd best).lookup ("best" : Str)=some best:=by
 rw[Zbs,Zl,if_pos rfl]
theorem Za8{m:Str}(h1:¬ m = "rows")(h2:¬ m = "next_number")(h3:¬ m = "likened")(h4:¬ m = "looked")(h5:¬ m = "stays")(h6:¬ m = "best"):(mgF rd nb li lo sd best).lookup m=none:=by
 rw[Zbs,Zl,if_neg h6,Zl,if_neg h5,Zl,if_neg h4,Zl,if_neg h3,Zl,if_neg h2,Zl,if_neg h1]
 rfl
theorem Zgv(v:Int):Zt "next_number" (.int v) (mgF rd nb li lo sd best)=mgF rd v li lo sd best:=by unfold mgF;rw[Zu ZqX,Zb1]
theorem ZdG(v:Int):Zt "likened" (.int v) (mgF rd nb li lo sd best)=mgF rd nb v lo sd best:=by unfold mgF;rw[Zu Zqh,Zu Zq2,Zb1]
theorem Zg0(v:Int):Zt "looked" (.int v) (mgF rd nb li lo sd best)=mgF rd nb li v sd best:=by unfold mgF;rw[Zu Zqv,Zu Zqo,Zu Zqu,Zb1]
theorem Zht(x:Addr):Zt "stays" (.ref x) (mgF rd nb li lo sd best)=mgF rd nb li lo x best:=by unfold mgF;rw[Zu ZqB,Zu ZqQ,Zu Zqy,Zu ZqA,Zb1]
theorem Zcd(x:V):Zt "best" x (mgF rd nb li lo sd best)=mgF rd nb li lo sd x:=by unfold mgF;rw[Zu Zqg,Zu Zqn,Zu ZqT,Zu Zq0,Zu Zp5,Zb1]
theorem Zcg:(mgF rd nb li lo sd best).length<1000:=by show 6<1000;decide
end
structure ZdI (C:Addr) (H:Hp) (e:Zv):Prop where
 at':Zgi C H e.p e.k e.f e.ss e.g
 le:e.g≤e.ss.length
 len:e.ss.length≤100
 srt:sortedS e.ss=true
 str:∀s∈e.ss,s.length≤1000∧AZ s
structure ZP (cR cM:Addr) (H:Hp) (m rd sd:Addr) (L:List Zv) (s:StL) (nb li lo:Int) (best:V):Prop where
 ob:∃dx,H m=some (.ins cM dx (mgF rd nb li lo sd best))
 rows:H rd=some (.dK (kvM L))
 stays:H sd=some (.dT (kvS s))
 ats:AtS H s
 each:∀e∈L,ZdI cR H e
 up:Zag (Zz L)
 pd:(L.map (·.p)).Nodup
 few:L.length≤60
 sfew:s.length≤100
def Fp(m rd sd:Addr)(L:List Zv)(b:Addr):Prop:=b=m∨b=rd∨b=sd∨∃e∈L,b=e.p∨b=e.k∨b=e.f
theorem ZdI.keep{C:Addr}{H H':Hp}{e:Zv}(h:ZdI C H e)(hp:H' e.p=H e.p)(hk:H' e.k=H e.k)(hf:H' e.f=H e.f):ZdI C H' e :=
 ⟨⟨by rw[hp];exact h.at'.ob,by rw[hk];exact h.at'.ks,by rw[hf];exact h.at'.fs⟩,h.le,h.len,h.srt,h.str⟩
section
variable {cR cM:Addr} {H H':Hp} {m rd sd:Addr} {L:List Zv} {s:StL} {nb li lo:Int} {best:V}
theorem ZP.nd(h:ZP cR cM H m rd sd L s nb li lo best):(Zz L).Nodup:=Zc1 h.up
theorem ZP.keep(h:ZP cR cM H m rd sd L s nb li lo best)(k:∀b o,H b=some o→Fp m rd sd L b∨(∃xs,o=.tup xs)→H' b=some o):ZP cR cM H' m rd sd L s nb li lo best:=by
 refine⟨?_,k _ _ h.rows (.inl (.inr (.inl rfl))),k _ _ h.stays (.inl (.inr (.inr (.inl rfl)))),fun e he t ht=>k _ _ (h.ats e he t ht) (.inr ⟨_,rfl⟩),fun e he=>?_,h.up,h.pd,h.few,h.sfew⟩
 ·obtain⟨dx,hd⟩:=h.ob
  exact⟨dx,k _ _ hd (.inl (.inl rfl))⟩
 ·have r:=h.each e he
  obtain⟨dx,hd⟩:=r.at'.ob
  exact⟨⟨⟨dx,k _ _ hd (.inl (.inr (.inr (.inr ⟨e,he,.inl rfl⟩))))⟩,k _ _ r.at'.ks (.inl (.inr (.inr (.inr ⟨e,he,.inr (.inl rfl)⟩)))),k _ _ r.at'.fs (.inl (.inr (.inr (.inr ⟨e,he,.inr (.inr rfl)⟩))))⟩,r.le,r.len,r.srt,r.str⟩
theorem ZP.same(h:ZP cR cM H m rd sd L s nb li lo best)(k:ZF H H'):ZP cR cM H' m rd sd L s nb li lo best:=h.keep fun b o hb _=>k b o hb
theorem ZP.ne_p(h:ZP cR cM H m rd sd L s nb li lo best){e:Zv}(he:e∈L):m≠e.p∧m≠e.k∧m≠e.f:=by
 obtain⟨dx,hd⟩:=h.ob
 have r:=h.each e he
 obtain⟨dy,hy⟩:=r.at'.ob
 refine⟨fun z=>?_,fun z=>?_,fun z=>?_⟩
 ·rw[z,hy]at hd
  injection hd with hd
  injection hd with _ _ hd
  have a:=Zck e.k e.f (e.g:Int)
  rw[hd,Za8 _ _ _ _ _ _ (by decide +kernel) (by decide +kernel) (by decide +kernel) (by decide +kernel) (by decide +kernel) (by decide +kernel)]at a
  cases a
 ·rw[z,r.at'.ks]at hd;cases hd
 ·rw[z,r.at'.fs]at hd;cases hd
theorem ZP.ne_m(h:ZP cR cM H m rd sd L s nb li lo best):m≠rd∧m≠sd∧rd≠sd:=by
 obtain⟨dx,hd⟩:=h.ob
 refine⟨fun z=>?_,fun z=>?_,fun z=>?_⟩
 ·rw[z,h.rows]at hd;cases hd
 ·rw[z,h.stays]at hd;cases hd
 ·have:=h.rows;rw[z,h.stays]at this;cases this
theorem ZP.ne_sd(h:ZP cR cM H m rd sd L s nb li lo best){e:Zv}(he:e∈L):sd≠e.p∧sd≠e.k∧sd≠e.f∧rd≠e.p∧rd≠e.k∧rd≠e.f:=by
 have r:=h.each e he
 obtain⟨dy,hy⟩:=r.at'.ob
 have a:=h.stays
 have b:=h.rows
 refine⟨fun z=>?_,fun z=>?_,fun z=>?_,fun z=>?_,fun z=>?_,fun z=>?_⟩
 ·rw[z,hy]at a;cases a
 ·rw[z,r.at'.ks]at a;cases a
 ·rw[z,r.at'.fs]at a;cases a
 ·rw[z,hy]at b;cases b
 ·rw[z,r.at'.ks]at b;cases b
 ·rw[z,r.at'.fs]at b;cases b
theorem ZP.obj(h:ZP cR cM H m rd sd L s nb li lo best){nb' li' lo':Int}{best':V}{dx:Addr}:ZP cR cM (upd H m (.ins cM dx (mgF rd nb' li' lo' sd best'))) m rd sd L s nb' li' lo' best':=by
 obtain⟨n1,n2,n3⟩:=h.ne_m
 obtain⟨dy,hd⟩:=h.ob
 refine⟨⟨dx,Zd⟩,by rw[Zb n1.symm];exact h.rows,by rw[Zb n2.symm];exact h.stays,fun e he t ht=>?_,fun e he=>?_,h.up,h.pd,h.few,h.sfew⟩
 ·have:=h.ats e he t ht
  rw[Zb (fun z=>by rw[z,hd]at this;cases this)];exact this
 ·obtain⟨a,b,c⟩:=h.ne_p he
  exact(h.each e he).keep (Zb a.symm) (Zb b.symm) (Zb c.symm)
theorem ZP.put(h:ZP cR cM H m rd sd L s nb li lo best){k:Int×Int}{v:Option (Addr×Int×Int)}(hv:∀t,v=some t→H t.1=some (.tup [.int t.2.1,.int t.2.2]))(hs:(Zdk s k v).length≤100):ZP cR cM (upd H sd (.dT (kvS (Zdk s k v)))) m rd sd L (Zdk s k v) nb li lo best:=by
 obtain⟨n1,n2,n3⟩:=h.ne_m
 obtain⟨dy,hd⟩:=h.ob
 have tup:∀a xs,H a=some (.tup xs)→(upd H sd (.dT (kvS (Zdk s k v)))) a=some (.tup xs):=fun a xs ha=>by rw[Zb (fun z=>by rw[z,h.stays]at ha;cases ha)];exact ha
 refine⟨⟨dy,by rw[Zb n2];exact hd⟩,by rw[Zb n3];exact h.rows,Zd,(h.ats.put hv).mono tup,fun e he=>?_,h.up,h.pd,h.few,hs⟩
 obtain⟨a,b,c,_⟩:=h.ne_sd he
 exact(h.each e he).keep (Zb a.symm) (Zb b.symm) (Zb c.symm)
end
def Zj3(cR cM:Addr):Sp:=fun vs H Q _=>∃ (m rd sd:Addr) (L:List Zv) (s:StL) (nb li lo:Int) (best:V) (a b:Zv) (x y:Str) (far:Nat),vs=[.ref m,.int a.n,.int b.n,.int (far:Int)]∧ZP cR cM H m rd sd L s nb li lo best∧a∈L∧b∈L∧a.ss[a.g]? = some x∧b.ss[b.g]? = some y∧far≤lcp (cds x) (cds y) ∧
 ∀ (t:Addr) (wi lz:Int) (H':Hp),(Btr (cds x) a.n (cds y) b.n∧wi=a.n∧lz=b.n∨¬ Btr (cds x) a.n (cds y) b.n∧wi=b.n∧lz=a.n)→H t=none→H' t=some (.tup [.int wi,.int lz,.int ((lcp (cds x) (cds y):Nat):Int)]) →
  ZP cR cM H' m rd sd L s nb (li+1) (lo+((lcp (cds x) (cds y):Nat)-(far:Int)+1)) best→(∀b o,H b=some o→b≠m→H' b=some o)→Q (.ref t) H'
theorem ZdL{ss:List Str}{g:Nat}{x:Str}(h:ss[g]? = some x):ZdH ss g=.str x:=by unfold ZdH;rw[h]
theorem Zba(k f:Addr)(g:Int):(Zbc k f g).lookup ("head" : Str)=none:=Ze6 _ _ _ (by decide +kernel) (by decide +kernel) (by decide +kernel)
theorem Zon(T:Zaf K mg cRow cMerge)(f_Row_head:Mf P w K mg base 2 cRow "head" ["self"] (ZeA cRow))(f_liken_from:Df P w K mg base 2 "liken_from" ["one", "other", "far"] ZdV):Mf P w K mg base 3 cMerge "meet" ["self", "one", "other", "far"] (Zj3 cRow cMerge):=by
 refine T.t_Merge_meet.mf ZbO (fun vs H Q E h=>?_) (fun cdv f A outer s H vs Q E hr h=>?_)
 ·obtain⟨m,rd,sd,L,s,nb,li,lo,best,a,b,x,y,far,rfl,_⟩:=h
  rfl
 obtain⟨m,rd,sd,L,s,nb,li,lo,best,a,b,x,y,far,rfl,M,ha,hb,hx,hy,hf,q⟩:=h
 refine⟨_,#[Zf,#[Z3,#[Zy,f_liken_from,hr,#[Za,#[Zay,f_Row_head,T.cl_Row,hr,#[Zo,(ixG hr),#[ZO,‹0›],‹1›]],#[Za,#[Zay,f_Row_head,T.cl_Row,hr,#[Zo,(ixG hr),#[ZO,‹0›],‹2›]],#[Za,‹3›,#[Ze]]]],(by rfl)],#[gT,K,3,#[ZB,#[ZD,4,ZbO.nd,(Or.inl rfl)],#[ZB,#[ZD,5,ZbO.nd,(Or.inl rfl)],#[ZB,#[ZD,6,ZbO.nd,(Or.inl rfl)],(@ZaG _)]]]]],#[Zf,#[Zde,‹0›,#[Zi],Zgp],#[Zf,#[Zde,‹0›,‹6›,Zgp],#[Zf,#[ZZ,(@PW.pt _ _ _ (@Zjq _ _ _ _ _ _ _ #[Zm,Zcu,‹4›,#[Zi],(Zp _)] (@ZgP _ _ _ _ (@PW.pt _ _ _ #[ZbC,#[Zm,Za1,‹4›,#[Zi],(Zp _)],#[Zbz,#[Zm,Zcu,‹1›,‹2›,(Zp _)]]])))),#[Zj,#[Zs,#[ZaC,#[Za,‹1›,#[Za,‹2›,#[Za,‹5›,#[Ze]]]]]]],#[ZE]],#[Zj,#[Zs,#[ZaC,#[Za,‹2›,#[Za,‹1›,#[Za,‹5›,#[Ze]]]]]]]]]]],?_⟩
 obtain⟨dx,hm⟩:=M.ob
 have Ra:=M.each a ha
 have Rb:=M.each b hb
 obtain⟨da,hpa⟩:=Ra.at'.ob
 obtain⟨db,hpb⟩:=Rb.at'.ob
 have lx:=(Ra.str x (Qx hx)).1
 have ly:=(Rb.str y (Qx hy)).1
 refine⟨_,rfl,m,cMerge,dx,_,_,rfl,hm,T.cl_Merge,T.na_Merge_rows,ZaB ..,_,rfl,rd,_,rfl,ZN.k' (k:=.inl a.n) M.rows (ZdN M.nd ha),a.p,da,_,rfl,hpa,Zba ..,a.p,a.k,a.f,a.ss,a.g,rfl,Ra.at',?_⟩
 refine⟨_,rfl,m,cMerge,dx,_,_,rfl,hm,T.cl_Merge,T.na_Merge_rows,ZaB ..,_,rfl,rd,_,rfl,ZN.k' (k:=.inl b.n) M.rows (ZdN M.nd hb),b.p,db,_,rfl,hpb,Zba ..,b.p,b.k,b.f,b.ss,b.g,rfl,Rb.at',?_⟩
 rw[ZdL hx,ZdL hy]
 refine⟨_,rfl,x,y,far,rfl,lx,ly,hf,fun t ht=>?_⟩
 have s1:=Zh ht (.tup [.int (ZQ (cds x) (cds y)),.int (lcp (cds x) (cds y):Nat),.int ((lcp (cds x) (cds y):Nat)-(far:Int)+1)])
 have ht1:(upd H t (.tup [.int (ZQ (cds x) (cds y)),.int (lcp (cds x) (cds y):Nat),.int ((lcp (cds x) (cds y):Nat)-(far:Int)+1)])) t=some (.tup [.int (ZQ (cds x) (cds y)),.int (lcp (cds x) (cds y):Nat),.int ((lcp (cds x) (cds y):Nat)-(far:Int)+1)]):=Zd
 generalize upd H t (.tup [.int (ZQ (cds x) (cds y)),.int (lcp (cds x) (cds y):Nat),.int ((lcp (cds x) (cds y):Nat)-(far:Int)+1)])=H1 at s1 ht1 ⊢
 have M1:=M.same s1
 refine⟨t,_,rfl,SqT.of ht1,rfl,_,_,rfl,_,_,rfl,_,_,rfl,rfl,?_⟩
 have hm1:=s1 _ _ hm
 refine⟨_,rfl,m,cMerge,dx,_,_,rfl,hm1,T.cl_Merge,T.na_Merge_likened,ZdY ..,_,_,rfl,rfl,dx,_,hm1,Zcg ..,?_⟩
 rw[ZdG]
 have M2:=M1.obj (nb':=nb) (li':=li+1) (lo':=lo) (best':=best) (dx:=dx)
 have k2:∀b o,H b=some o→b≠m→(upd H1 m (.ins cMerge dx (mgF rd nb (li+1) lo sd best))) b=some o:=fun b o hb n=>by rw[Zb n];exact s1 b o hb
 have hm2:(upd H1 m (.ins cMerge dx (mgF rd nb (li+1) lo sd best))) m=some (.ins cMerge dx (mgF rd nb (li+1) lo sd best)):=Zd
 generalize upd H1 m (.ins cMerge dx (mgF rd nb (li+1) lo sd best))=H2 at M2 k2 hm2 ⊢
 refine⟨_,rfl,m,cMerge,dx,_,_,rfl,hm2,T.cl_Merge,T.na_Merge_looked,ZgL ..,_,rfl,_,_,rfl,rfl,dx,_,hm2,Zcg ..,?_⟩
 rw[Zg0]
 have M3:=M2.obj (nb':=nb) (li':=li+1) (lo':=lo+((lcp (cds x) (cds y):Nat)-(far:Int)+1)) (best':=best) (dx:=dx)
 have k3:∀b o,H b=some o→b≠m→(upd H2 m (.ins cMerge dx (mgF rd nb (li+1) (lo+((lcp (cds x) (cds y):Nat)-(far:Int)+1)) sd best))) b=some o:=fun b o hb n=>by rw[Zb n];exact k2 b o hb n
 generalize upd H2 m (.ins cMerge dx (mgF rd nb (li+1) (lo+((lcp (cds x) (cds y):Nat)-(far:Int)+1)) sd best))=H3 at M3 k3 ⊢
 have fin:∀wi lz:Int,(Btr (cds x) a.n (cds y) b.n∧wi=a.n∧lz=b.n∨¬ Btr (cds x) a.n (cds y) b.n∧wi=b.n∧lz=a.n)→∀t2,H3 t2=none→Q (.ref t2) (upd H3 t2 (.tup [.int wi,.int lz,.int ((lcp (cds x) (cds y):Nat):Int)])):=fun wi lz hw t2 ht2=>by
  have hfree:H t2=none:=by
   cases e:H t2 with
   | none=>rfl
   | some o =>
    by_cases z:t2=m
    ·obtain⟨dz,hz⟩:=M3.ob;rw[z,hz]at ht2;cases ht2
    ·rw[k3 t2 o e z]at ht2;cases ht2
  exact q t2 wi lz _ hw hfree Zd (M3.same (Zh ht2 _)) (fun b o hb n=>Zh ht2 _ _ _ (k3 b o hb n))
 have sz3:3≤sizeLine:=by decide
 refine⟨_,rfl,_,_,rfl,rfl,_,rfl,ZaY (fun d=>?_) (fun d=>?_)⟩
 ·have d':ZQ (cds x) (cds y)<0:=of_decide_eq_true d
  exact Zfx ⟨_,rfl,_,rfl,_,rfl,sz3,fun t2 ht2=>fin _ _ (.inl ⟨.inl d',rfl,rfl⟩) t2 ht2⟩
 have d1:¬ ZQ (cds x) (cds y)<0:=fun z=>d (decide_eq_true z)
 refine⟨_,rfl,rfl,_,rfl,ZaY (fun e=>?_) (fun e=>?_)⟩
 ·have e':ZQ (cds x) (cds y)=0:=by have:=of_decide_eq_true e;injection this
  refine⟨_,rfl,_,rfl,_,_,rfl,rfl,_,rfl,ZaY (fun g=>?_) (fun g=>?_)⟩
  ·have g':a.n<b.n:=of_decide_eq_true g
   exact⟨_,rfl,_,rfl,_,rfl,sz3,fun t2 ht2=>fin _ _ (.inl ⟨.inr ⟨e',g'⟩,rfl,rfl⟩) t2 ht2⟩
  ·have g':¬ a.n<b.n:=fun z=>g (decide_eq_true z)
   exact⟨_,rfl,_,rfl,_,rfl,sz3,fun t2 ht2=>fin _ _ (.inr ⟨fun z=>by rcases z with z|z;exact d1 z;exact g' z.2,rfl,rfl⟩) t2 ht2⟩
 ·have e':ZQ (cds x) (cds y)≠0:=fun z=>e (decide_eq_true (by rw[z]))
  exact ZbE ⟨_,rfl,_,rfl,_,rfl,sz3,fun t2 ht2=>fin _ _ (.inr ⟨fun z=>by rcases z with z|z;exact d1 z;exact e' z.1,rfl,rfl⟩) t2 ht2⟩
theorem ZP.cast{cR cM:Addr}{H:Hp}{m rd sd:Addr}{L:List Zv}{s:StL}{nb li lo li' lo':Int}{best:V}(h:ZP cR cM H m rd sd L s nb li lo best)(e1:li=li')(e2:lo=lo'):ZP cR cM H m rd sd L s nb li' lo' best:=by subst e1;subst e2;exact h
theorem Zjp{N:List Int}(h:N≠[]):atI (N.map V.int) (-1)=some (.int (N.getLastD 0)):=by
 have e:N=N.dropLast++[N.getLast h]:=(List.dropLast_concat_getLast h).symm
 have:=Zm2 (N.dropLast.map V.int) (V.int (N.getLast h))
 rw[Qal,QaG h]
 conv=>lhs;rw[e,Qe]
 exact this
theorem Zja{N:List Int}(h:N≠[]):atI (N.map V.int) 0=some (.int (N.headD 0)):=by
 cases N with
 | nil=>exact absurd rfl h
 | cons a r=>exact Zal (j:=0) rfl
theorem ZeC(rd:Addr)(nb li lo:Int)(sd:Addr)(best:V):(mgF rd nb li lo sd best).lookup ("play" : Str)=none:=Za8 _ _ _ _ _ _ (by decide +kernel) (by decide +kernel) (by decide +kernel) (by decide +kernel) (by decide +kernel) (by decide +kernel)
theorem Zgw(rd:Addr)(nb li lo:Int)(sd:Addr)(best:V):(mgF rd nb li lo sd best).lookup ("meet" : Str)=none:=Za8 _ _ _ _ _ _ (by decide +kernel) (by decide +kernel) (by decide +kernel) (by decide +kernel) (by decide +kernel) (by decide +kernel)
def Zms(K:PySem.W.Frag)(cR cM:Addr)(n:Nat):Sp:=fun vs H Q _=>∃ (m rd sd:Addr) (L:List Zv) (s:StL) (nb li lo:Int) (best:V) (l:Addr) (N:List Int),vs=[.ref m,.ref l]∧ZP cR cM H m rd sd L s nb li lo best∧H l=some (.lst (N.map V.int))∧1≤N.length∧N.length≤60∧0<n∧N.length≤2 ^ (n-1)∧(∀x∈N,x∈Zz L)∧Zag N∧(∀k,ZeU n N k→Z0 s k=none)∧s.length+N.length≤100 ∧
 ∀ (w:Option Int) (s':StL) (k q:Int) (H':Hp),Win (hdM L) N w→Zes (hdM L) s' n N→Zbx (hdM L) n N k q→(∀j,¬ ZeU n N j→Z0 s' j=Z0 s j)→s'.length+1≤s.length+N.length→ZP cR cM H' m rd sd L s' nb (li+k) (lo+q) best→(∀b o,H b=some o→b≠m→b≠sd→H' b=some o)→Q (Zce w) H'
theorem ZkU(T:Zaf K mg cRow cMerge)(f_Row_head:Mf P w K mg base 2 cRow "head" ["self"] (ZeA cRow))(f_halves:Df P w K mg base 1 "halves" ["numbers"] (Zb6 K true))(f_Merge_meet:Mf P w K mg base 3 cMerge "meet" ["self", "one", "other", "far"] (Zj3 cRow cMerge)) :
  ∀n:Nat,Mf P w K mg base (n+4) cMerge "play" ["self", "numbers"] (Zms K cRow cMerge n)
 | 0=>by
  refine T.t_Merge_play.mf Zam (fun vs H Q E h=>?_) (fun cdv f A outer s H vs Q E hr h=>?_)
  ·obtain⟨m,rd,sd,L,s,nb,li,lo,best,l,N,rfl,_⟩:=h
   rfl
  obtain⟨m,rd,sd,L,s,nb,li,lo,best,l,N,rfl,_,_,_,_,z,_⟩:=h
  exact absurd z (by omega)
 | n+1=>by
  have f_Merge_play:=ZkU T f_Row_head f_halves f_Merge_meet n
  refine T.t_Merge_play.mf Zam (fun vs H Q E h=>?_) (fun cdv f A outer s H vs Q E hr h=>?_)
  ·obtain⟨m,rd,sd,L,s,nb,li,lo,best,l,N,rfl,_⟩:=h
   rfl
  obtain⟨m,rd,sd,L,s,nb,li,lo',best,l,N,rfl,M,hl,h1,h60,_,hp2,hmem,hup,hfree,hsz,q⟩:=h
  rw[Q8]at hp2
  refine⟨_,#[Zf,#[ZZ,#[Zm,Za1,#[Zk,(Zcj K),(by rfl),T.b.n_len,Qs,#[Za,‹1›,#[Ze]]],#[Zi],(Zp _)],#[Zj,#[Zs,#[Zbo,#[Zm,Zbq,#[Zay,f_Row_head,T.cl_Row,hr,#[Zo,(ixG hr),#[ZO,‹0›],#[Zo,(ixL K),‹1›,#[Zi]]]],#[ZW],(Zp _)],#[ZW],#[Zo,(ixL K),‹1›,#[Zi]]]]],#[ZE]],#[Zf,#[Z3,#[Zy,f_halves,hr,#[Za,‹1›,#[Ze]],(by rfl)],#[gT,K,2,#[ZB,#[ZD,2,Zam.nd,(Or.inl rfl)],#[ZB,#[ZD,3,Zam.nd,(Or.inl rfl)],(@ZaG _)]]]],#[Zf,#[Zw,4,Zam.nd,(Or.inl rfl),#[ZcM,f_Merge_play,T.cl_Merge,hr,‹0›,#[Za,‹2›,#[Ze]]]],#[Zf,#[Zw,5,Zam.nd,(Or.inl rfl),#[ZcM,f_Merge_play,T.cl_Merge,hr,‹0›,#[Za,‹3›,#[Ze]]]],#[Zf,#[ZZ,#[Zm,Zbq,‹4›,#[ZW],(Zp _)],#[Zj,#[Zs,‹5›]],#[ZE]],#[Zf,#[ZZ,#[Zm,Zbq,‹5›,#[ZW],(Zp _)],#[Zj,#[Zs,‹4›]],#[ZE]],#[Zf,#[Z3,#[ZcM,f_Merge_meet,T.cl_Merge,hr,‹0›,#[Za,‹4›,#[Za,‹5›,#[Za,#[Zi],#[Ze]]]]],#[gT,K,3,#[ZB,#[ZD,6,Zam.nd,(Or.inl rfl)],#[ZB,#[ZD,7,Zam.nd,(Or.inl rfl)],#[ZB,#[ZD,8,Zam.nd,(Or.inl rfl)],(@ZaG _)]]]]],#[Zf,#[Z3,#[ZaC,#[Za,‹7›,#[Za,‹8›,#[Ze]]]],#[ZaQ,#[ZO,‹0›],#[ZaC,#[Za,#[Zo,(ixL K),‹1›,#[Zi]],#[Za,#[Zo,(ixL K),‹1›,(@Zia _ _ _ _ _ _ ZfG #[Zi])],#[Ze]]]],(ZdK hr)]],#[Zj,#[Zs,‹6›]]]]]]]]]],?_⟩
  obtain⟨dx,hm⟩:=M.ob
  have hN:N≠[]:=Zaj h1
  have nml:l≠m:=fun z=>by rw[z,hm]at hl;cases hl
  have nsl:l≠sd:=fun z=>by rw[z,M.stays]at hl;cases hl
  have hll:(((N.map V.int).length:Nat):Int)=(N.length:Int):=by rw[Qa]
  refine⟨_,rfl,l,_,rfl,.inl (SqL.of hl),rfl,_,rfl,ZaY (fun d=>?_) (fun d=>?_)⟩
  ·have hone:N.length=1:=by have:=of_decide_eq_true d;injection this with this;rw[hll]at this;omega
   obtain⟨n0,rfl⟩:∃n0,N=[n0]:=QaW.mp hone
   obtain⟨e,he,rfl⟩:=ZdW (hmem n0 (by simp))
   have R:=M.each e he
   obtain⟨dp,hp⟩:=R.at'.ob
   have hat:atI (([e.n]:List Int).map V.int) 0=some (.int e.n):=Zal (j:=0) rfl
   refine⟨_,rfl,m,cMerge,dx,_,_,rfl,hm,T.cl_Merge,T.na_Merge_rows,ZaB ..,_,rfl,l,_,_,_,rfl,rfl,SqL.of hl,hat,rd,_,rfl,ZN.k' (k:=.inl e.n) M.rows (ZdN M.nd he),e.p,dp,_,rfl,hp,Zba ..,e.p,e.k,e.f,e.ss,e.g,rfl,R.at',rfl,_,rfl,?_⟩
   have hst:Zes (hdM L) s (n+1) [e.n]:=fun h2=>by simp at h2
   have hpl:Zbx (hdM L) (n+1) [e.n] 0 0:=.few (by show 1<2;decide)
   have hwin:=Win.sing (hd:=hdM L) (n:=e.n)
   have hd:=ZeP M.nd he
   have M':=M.cast (li':=li+0) (lo':=lo'+0) (by omega) (by omega)
   cases hx:e.ss[e.g]? with
   | none =>
    rw[show ZdH e.ss e.g=.non by unfold ZdH;rw[hx]]
    rw[hd,hx]at hwin
    exact Zcw rfl (q none s 0 0 H hwin hst hpl (fun _ _=>rfl) (Qh _) M' (fun b o h _ _=>h))
   | some x =>
    rw[ZdL hx]
    rw[hd,hx]at hwin
    exact Zbl (fun z=>nomatch z) ⟨_,rfl,l,_,_,_,rfl,rfl,SqL.of hl,hat,q (some e.n) s 0 0 H hwin hst hpl (fun _ _=>rfl) (Qh _) M' (fun b o h _ _=>h)⟩
  have hge:2≤N.length:=by
   have:¬ ((N.length:Int)=1):=fun z=>d (decide_eq_true (by rw[hll,z]))
   omega
  have hn1:1≤n:=by
   cases n with
   | zero=>simp at hp2;omega
   | succ m=>omega
  have hpow:2 ^ n=2*2 ^ (n-1):=by
   obtain⟨m,rfl⟩:∃m,n=m+1:=⟨n-1,by omega⟩
   rw[QaT,Q8];omega
  have hlo:(lo N).length≤2 ^ (n-1)∧(lo N).length≤60:=by unfold lo mid;rw[Qz];omega
  have hupl:(up N).length≤2 ^ (n-1)∧(up N).length≤60:=by unfold up mid;rw[QZ];omega
  have hsum:(lo N).length+(up N).length=N.length:=by rw[← Qf,Zca]
  have hmlo:∀x∈lo N,x∈Zz L:=fun x hx=>hmem x (QW hx)
  have hmup:∀x∈up N,x∈Zz L:=fun x hx=>hmem x (Qaa hx)
  refine⟨_,rfl,l,N,rfl,SqL.of hl,by omega,fun t f r H2 ht hf hr' nfr ht2 hf2 hr2 s2 ntf ntr=>?_⟩
  rw[if_pos rfl]at ht2
  rw[Zki]at hf2
  rw[Zkc]at hr2
  refine⟨t,_,rfl,SqT.of ht2,rfl,_,_,rfl,_,_,rfl,rfl,?_⟩
  have M2:=M.same s2
  have hm2:=s2 _ _ hm
  have nfm:r≠m:=(Zc hm hr').symm
  have nfs:r≠sd:=(Zc M.stays hr').symm
  refine⟨_,rfl,m,dx,_,rfl,hm2,ZeC ..,_,rfl,m,rd,sd,L,s,nb,li,lo',best,f,lo N,rfl,M2,hf2,(ZcP hge).2,hlo.2,hn1,hlo.1,hmlo,Zel hup,fun k hk=>hfree k ⟨hge,.inl hk⟩,by omega,fun w1 s1 k1 q1 H3 W1 S1 P1 o1 l1 M3 b3=>?_⟩
  have hr3:=b3 _ _ hr2 nfm nfs
  obtain⟨dx3,hm3⟩:=M3.ob
  refine⟨_,rfl,m,dx3,_,rfl,hm3,ZeC ..,_,rfl,m,rd,sd,L,s1,nb,_,_,best,r,up N,rfl,M3,hr3,(ZdC hge).2,hupl.2,hn1,hupl.1,hmup,Zek hup,fun k hk=>?_,by omega,fun w2 s2' k2 q2 H4 W2 S2 P2 o2 l2 M4 b4=>?_⟩
  ·rw[o1 k ((ZiN hup hge hk).2 n)]
   exact hfree k ⟨hge,.inr (.inl hk)⟩
  have key_n:¬ ZeU n (lo N) (ZS N)∧¬ ZeU n (up N) (ZS N):=⟨fun z=>(Zin hup hge z).1 rfl,fun z=>(ZiN hup hge z).1 rfl⟩
  have S1':Zes (hdM L) s2' n (lo N):=S1.congr n _ (fun _ _=>rfl) (fun k hk=>o2 k ((Zin hup hge hk).2 n))
  have hk2:Z0 s2' (ZS N)=none:=by rw[o2 _ key_n.2,o1 _ key_n.1];exact hfree _ ⟨hge,.inr (.inr rfl)⟩
  have oth:∀j,¬ ZeU (n+1) N j→Z0 s2' j=Z0 s j:=fun j hj=>by
   rw[o2 j (fun z=>hj ⟨hge,.inr (.inl z)⟩),o1 j (fun z=>hj ⟨hge,.inl z⟩)]
  have b04:∀b o,H b=some o→b≠m→b≠sd→H4 b=some o:=fun b o hb n1 n2=>b4 b o (b3 b o (s2 b o hb) n1 n2) n1 n2
  have none':∀wn,Win (hdM L) N wn→(Win (hdM L) (lo N) none∨Win (hdM L) (up N) none)→Q (Zce wn) H4:=fun wn hw hno=>by
   refine q wn s2' (k1+k2) (q1+q2) H4 hw (fun _=>⟨S1',S2,fun a b x y wa wb _ _=>?_,fun _=>.inl hk2⟩) (.none hge P1 P2 hno) oth (by omega) (M4.cast (by omega) (by omega)) b04
   rcases hno with z|z
   ·exact nomatch z.one wa
   ·exact nomatch z.one wb
  cases w1 with
  | none=>exact⟨_,rfl,rfl,_,rfl,Zcw rfl ⟨_,rfl,none' w2 (by have:=Win.right W1 W2;rwa [Zca]at this) (.inl W1)⟩⟩
  | some a =>
  refine⟨_,rfl,rfl,_,rfl,Zbl (fun z=>nomatch z) ?_⟩
  cases w2 with
  | none=>exact⟨_,rfl,rfl,_,rfl,Zcw rfl ⟨_,rfl,none' (some a) (by have:=Win.left W1 W2;rwa [Zca]at this) (.inr W2)⟩⟩
  | some b =>
  refine⟨_,rfl,rfl,_,rfl,Zbl (fun z=>nomatch z) ?_⟩
  obtain⟨ea,hea,ea'⟩:=ZdW (hmlo a W1.1)
  obtain⟨eb,heb,eb'⟩:=ZdW (hmup b W2.1)
  subst ea'
  subst eb'
  have hda:=ZeP M.nd hea
  have hdb:=ZeP M.nd heb
  cases hx:ea.ss[ea.g]? with
  | none=>obtain⟨_,z,hz,_⟩:=W1;rw[hda,hx]at hz;cases hz
  | some x =>
  cases hy:eb.ss[eb.g]? with
  | none=>obtain⟨_,z,hz,_⟩:=W2;rw[hdb,hy]at hz;cases hz
  | some y =>
  rw[hx]at hda
  rw[hy]at hdb
  obtain⟨dx4,hm4⟩:=M4.ob
  refine⟨_,rfl,m,dx4,_,rfl,hm4,Zgw ..,_,rfl,_,rfl,m,rd,sd,L,s2',nb,_,_,best,ea,eb,x,y,0,rfl,M4,hea,heb,hx,hy,Qw _,fun t5 wi lz H5 hw ht5 ht5' M5 b5=>?_⟩
  refine⟨t5,_,rfl,SqT.of ht5',rfl,_,_,rfl,_,_,rfl,_,_,rfl,rfl,?_⟩
  have sz2:2≤sizeLine:=by decide
  refine⟨_,rfl,_,rfl,sz2,fun t6 ht6=>?_⟩
  have s6:=Zh ht6 (.tup [.int lz,.int ((lcp (cds x) (cds y):Nat):Int)])
  have ht66:(upd H5 t6 (.tup [.int lz,.int ((lcp (cds x) (cds y):Nat):Int)])) t6=some (.tup [.int lz,.int ((lcp (cds x) (cds y):Nat):Int)]):=Zd
  have M6:=M5.same s6
  generalize upd H5 t6 (.tup [.int lz,.int ((lcp (cds x) (cds y):Nat):Int)])=H6 at s6 ht66 M6 ⊢
  obtain⟨dx6,hm6⟩:=M6.ob
  have hl6:H6 l=some (.lst (N.map V.int)):=s6 _ _ (b5 _ _ (b04 _ _ hl nml nsl) nml)
  refine⟨_,rfl,m,cMerge,dx6,_,_,rfl,hm6,T.cl_Merge,T.na_Merge_stays,Zc7 ..,_,rfl,l,_,_,_,rfl,rfl,SqL.of hl6,Zja hN,_,rfl,_,rfl,l,_,_,_,rfl,rfl,SqL.of hl6,Zjp hN,sz2,fun t7 ht7=>?_⟩
  have s7:=Zh ht7 (.tup [.int (N.headD 0),.int (N.getLastD 0)])
  have ht77:(upd H6 t7 (.tup [.int (N.headD 0),.int (N.getLastD 0)])) t7=some (.tup ([.inl (ZS N).1,.inl (ZS N).2].map kV)):=Zd
  have M7:=M6.same s7
  generalize upd H6 t7 (.tup [.int (N.headD 0),.int (N.getLastD 0)])=H7 at s7 ht77 M7 ⊢
  have hsl:(kvS s2').length<sizeLine:=by unfold kvS;rw[Qa];exact ZC (by omega)
  refine⟨sd,_,rfl,ZbW.t (k:=[.inl (ZS N).1,.inl (ZS N).2]) M7.stays ht77 hsl,?_⟩
  rw[show V.ref t6=stV (some (t6,lz,((lcp (cds x) (cds y):Nat):Int))) from rfl,Zf6]
  have hpl:=ZnL s2' (ZS N) (some (t6,lz,((lcp (cds x) (cds y):Nat):Int)))
  have l1':=(ZcP hge).2
  have M8:=M7.put (k:=ZS N) (v:=some (t6,lz,((lcp (cds x) (cds y):Nat):Int))) (fun t ht=>by injection ht with ht;rw[← ht];exact s7 _ _ ht66) (by omega)
  have hne:ea.n≠eb.n:=fun z=>by have:=ZL hup W1.1 W2.1;omega
  have b08:∀b o,H b=some o→b≠m→b≠sd→(upd H7 sd (.dT (kvS (Zdk s2' (ZS N) (some (t6,lz,((lcp (cds x) (cds y):Nat):Int))))))) b=some o:=fun b o hb n1 n2=>by
   rw[Zb n2];exact s7 _ _ (s6 _ _ (b5 _ _ (b04 _ _ hb n1 n2) n1))
  have hwin:Win (hdM L) N (some wi):=by
   rcases hw with⟨w0,rfl,_⟩|⟨w0,rfl,_⟩
   ·have:=Win.both W1 W2 hda hdb w0;rwa [Zca]at this
   ·have:=Win.both' W1 W2 hda hdb ((Btr.total hne).resolve_left w0);rwa [Zca]at this
  have hlz:lz=if ZQ (cds x) (cds y)<0∨(ZQ (cds x) (cds y)=0∧ea.n<eb.n) then eb.n else ea.n:=by
   rcases hw with⟨w0,_,rfl⟩|⟨w0,_,rfl⟩
   ·exact(if_pos (show ZQ (cds x) (cds y)<0∨(ZQ (cds x) (cds y)=0∧ea.n<eb.n) from w0)).symm
   ·exact(if_neg (show ¬ (ZQ (cds x) (cds y)<0∨(ZQ (cds x) (cds y)=0∧ea.n<eb.n)) from w0)).symm
  refine⟨_,rfl,q (some wi) _ (k1+k2+1) (q1+q2+(lcp (cds x) (cds y):Nat)+1) _ hwin (fun _=>⟨?_,?_,?_,fun hno=>?_⟩) (.both hge P1 P2 W1 W2 hda hdb) (fun j hj=>?_) (by omega) (M8.cast (by omega) (by omega)) b08⟩
  ·exact S1'.congr n _ (fun _ _=>rfl) (fun k hk=>by rw[Za2,if_neg (Zin hup hge hk).1])
  ·exact S2.congr n _ (fun _ _=>rfl) (fun k hk=>by rw[Za2,if_neg (ZiN hup hge hk).1])
  ·intro a' b' x' y' wa wb hxa hyb
   have e1:=Ql (wa.one W1)
   have e2:=Ql (wb.one W2)
   subst e1
   subst e2
   have e3:=Ql (hxa.symm.trans hda)
   have e4:=Ql (hyb.symm.trans hdb)
   subst e3
   subst e4
   exact⟨t6,by rw[Za2,if_pos rfl,hlz]⟩
  ·rcases hno with z|z
   ·exact nomatch z.one W1
   ·exact nomatch z.one W2
  ·rw[Za2,if_neg (fun z=>hj ⟨hge,.inr (.inr z)⟩)]
   exact oth j hj
theorem ZdI.mono{C:Addr}{H H':Hp}{e:Zv}(h:ZdI C H e)(k:∀b o,H b=some o→b=e.p∨b=e.k∨b=e.f→H' b=some o):ZdI C H' e:=by
 obtain⟨dx,hd⟩:=h.at'.ob
 exact⟨⟨⟨dx,k _ _ hd (.inl rfl)⟩,k _ _ h.at'.ks (.inr (.inl rfl)),k _ _ h.at'.fs (.inr (.inr rfl))⟩,h.le,h.len,h.srt,h.str⟩
theorem Zmo(L:List Zv):(kvM L).map (fun kv=>kV kv.1)=(Zz L).map V.int:=by unfold kvM Zz;rw[Qi,Qi];rfl
theorem ZmO{n:Nat}{N:List Int}{k:Int×Int}(_:ZeU n N k):Z0 [] k=none:=rfl
def Zc9(cR cM:Addr):Sp:=fun vs H Q _=>∃ (m rd sd:Addr) (L:List Zv) (s:StL) (nb li lo:Int) (best:V),vs=[.ref m]∧ZP cR cM H m rd sd L s nb li lo best ∧
 ∀ (sd':Addr) (s':StL) (w:Option Int) (k q:Int) (H':Hp),H sd'=none→Win (hdM L) (Zz L) w→Zes (hdM L) s' 8 (Zz L)→Zbx (hdM L) 8 (Zz L) k q→ZP cR cM H' m rd sd' L s' nb (li+k) (lo+q) (Zce w)→(∀b o,H b=some o→b≠m→H' b=some o)→Q .non H'
theorem Zi8(T:Zaf K mg cRow cMerge)(f_Merge_play:Mf P w K mg base 12 cMerge "play" ["self", "numbers"] (Zms K cRow cMerge 8)):Mf P w K mg base 13 cMerge "play_all" ["self"] (Zc9 cRow cMerge):=by
 refine T.t_Merge_play_all.mf ZeZ (fun vs H Q E h=>?_) (fun cdv f A outer s H vs Q E hr h=>?_)
 ·obtain⟨m,rd,sd,L,s,nb,li,lo,best,rfl,_⟩:=h
  rfl
 obtain⟨m,rd,sd,L,s,nb,li,lo',best,rfl,M,q⟩:=h
 refine⟨_,#[Zf,#[ZbB,‹0›,(@Zk2 _ _)],#[Zj,#[ZbB,‹0›,#[Zbo,#[Zm,ZgM,#[Zk,Zsb,(by rfl),T.b.n_len,Qs,#[Za,#[ZO,‹0›],#[Ze]]],#[Zi],(Zp _)],#[ZcM,f_Merge_play,T.cl_Merge,hr,‹0›,#[Za,#[ZaR,Zrq,T.b.n_list,boot_list,#[Za,#[ZO,‹0›],#[Ze]]],#[Ze]]],#[ZW]]]]],?_⟩
 refine fun sd' hsd=>?_
 obtain⟨dx,hm⟩:=M.ob
 have s1:=Zh hsd (.dT [])
 have hs1:(upd H sd' (.dT [])) sd'=some (.dT (kvS [])):=Zd
 have M1:=M.same s1
 have hm1:=s1 _ _ hm
 have nms:m≠sd':=Zc hm hsd
 have nrs:rd≠sd':=Zc M.rows hsd
 generalize upd H sd' (.dT [])=H1 at s1 hs1 M1 hm1 ⊢
 refine⟨_,rfl,m,cMerge,dx,_,rfl,hm1,T.cl_Merge,T.na_Merge_stays,Zcg ..,?_⟩
 rw[Zht]
 obtain⟨n1,n2,n3⟩:=M.ne_m
 have M2:ZP cRow cMerge (upd H1 m (.ins cMerge dx (mgF rd nb li lo' sd' best))) m rd sd' L [] nb li lo' best:=by
  refine⟨⟨dx,Zd⟩,by rw[Zb n1.symm];exact M1.rows,by rw[Zb nms.symm];exact hs1,(fun e he=>by cases he),fun e he=>?_,M.up,M.pd,M.few,by decide⟩
  obtain⟨a,b,c⟩:=M1.ne_p he
  exact(M1.each e he).keep (Zb a.symm) (Zb b.symm) (Zb c.symm)
 have k2:∀b o,H b=some o→b≠m→(upd H1 m (.ins cMerge dx (mgF rd nb li lo' sd' best))) b=some o:=fun b o hb n=>by rw[Zb n];exact s1 b o hb
 generalize upd H1 m (.ins cMerge dx (mgF rd nb li lo' sd' best))=H2 at M2 k2 ⊢
 obtain⟨dx2,hm2⟩:=M2.ob
 have hlen:(((kvM L).length:Nat):Int)=(L.length:Int):=by unfold kvM;rw[Qa]
 have hnl:(Zz L).length=L.length:=by unfold Zz;rw[Qa]
 have hfew:=M.few
 refine⟨_,rfl,m,cMerge,dx2,_,_,rfl,hm2,T.cl_Merge,T.na_Merge_rows,ZaB ..,rd,_,rfl,M2.rows,_,_,rfl,rfl,_,rfl,ZaY (fun d=>?_) (fun d=>?_)⟩
 ·have hpos:0<L.length:=by have:(0:Int)<(((kvM L).length:Nat):Int):=of_decide_eq_true d;omega
  refine⟨_,rfl,m,dx2,_,rfl,hm2,ZeC ..,_,rfl,m,cMerge,dx2,_,_,rfl,hm2,T.cl_Merge,T.na_Merge_rows,ZaB ..,rd,_,rfl,M2.rows,fun l hl=>?_⟩
  rw[Zmo]
  have s3:=Zh hl (.lst ((Zz L).map V.int))
  have hl3:(upd H2 l (.lst ((Zz L).map V.int))) l=some (.lst ((Zz L).map V.int)):=Zd
  have M3:=M2.same s3
  generalize upd H2 l (.lst ((Zz L).map V.int))=H3 at s3 hl3 M3 ⊢
  refine⟨m,rd,sd',L,[],nb,li,lo',best,l,Zz L,rfl,M3,hl3,by omega,by omega,by decide,Qy (by omega:(Zz L).length≤60) (by decide),fun x hx=>hx,M.up,fun k hk=>ZmO hk,by show 0+_≤_;omega,fun w1 s' k q' H4 W S Pl _ _ M4 b4=>?_⟩
  obtain⟨dx4,hm4⟩:=M4.ob
  refine⟨_,rfl,m,cMerge,dx4,_,rfl,hm4,T.cl_Merge,T.na_Merge_best,Zcg ..,?_⟩
  rw[Zcd]
  exact q sd' s' w1 k q' _ hsd W S Pl M4.obj (fun b o hb n=>by rw[Zb n];exact b4 b o (s3 b o (k2 b o hb n)) n (Zc hb hsd))
 ·have hnil:L=[]:=by
   cases L with
   | nil=>rfl
   | cons e r=>exact absurd (decide_eq_true (show (0:Int)<(((kvM (e::r)).length:Nat):Int) by rw[hlen];simp only[List.length_cons];omega)) d
  subst hnil
  refine⟨_,rfl,m,cMerge,dx2,_,rfl,hm2,T.cl_Merge,T.na_Merge_best,Zcg ..,?_⟩
  rw[Zcd]
  exact q sd' [] none 0 0 _ hsd (Win.nil _) (fun h2=>absurd h2 (by decide)) (.few (by decide)) (M2.obj.cast (by omega) (by omega)) (fun b o hb n=>by rw[Zb n];exact k2 b o hb n)
def ZnI(L:List Zv)(rs:List (Addr×List Str)):Prop:=Zz L=Zet 0 rs.length∧L.map (fun e=>(e.ss,e.g))=rs.map fun x=>(x.2,0)
def ZjY(cR cM:Addr):Sp:=fun vs H Q _=>∃ (m dx r:Addr) (rs:List (Addr×List Str)),vs=[.ref m,.ref r]∧H m=some (.ins cM dx [])∧ZdT H r rs∧(∀x∈rs,sortedS x.2=true) ∧
 ∀ (rd sd:Addr) (L:List Zv) (s:StL) (w:Option Int) (k q:Int) (H':Hp),ZP cR cM H' m rd sd L s (rs.length:Int) k q (Zce w)→ZnI L rs→Win (hdM L) (Zz L) w→Zes (hdM L) s 8 (Zz L)→Zbx (hdM L) 8 (Zz L) k q→(∀b,Fp m rd sd L b→b=m∨H b=none)→(∀b o,H b=some o→b≠m→H' b=some o)→Q .non H'
theorem ZbA(rd:Addr)(nb li lo:Int)(sd:Addr)(best:V):(mgF rd nb li lo sd best).lookup ("play_all" : Str)=none:=Za8 _ _ _ _ _ _ (by decide +kernel) (by decide +kernel) (by decide +kernel) (by decide +kernel) (by decide +kernel) (by decide +kernel)
theorem ZiK{ss:List Str}(h:sortedS ss=true):Zi1 ss .non:=by
 refine .inl ⟨rfl,fun i x y hx hy=>?_⟩
 have:=Zij h i y x hy hx
 have:=ZbU (cds y) (cds x)
 omega
theorem Zhs(T:Zaf K mg cRow cMerge)(f_refuse_break:Df P w K mg base 5 "refuse_break" ["number", "keys"] (Zd8 K))(f_Row_init:Cf P w K mg base 4 cRow "Row" ["self", "keys"] (Zfj cRow))(f_Merge_play_all:Mf P w K mg base 13 cMerge "play_all" ["self"] (Zc9 cRow cMerge)):Cf P w K mg base 14 cMerge "Merge" ["self", "rows"] (ZjY cRow cMerge):=by
 refine T.t_Merge_init.cf ZcW (fun vs H Q E h=>?_) (fun cdv f A outer s H vs Q E hr h=>?_)
 ·obtain⟨m,dx,r,rs,rfl,_⟩:=h
  rfl
 obtain⟨m,dx,r,rs,rfl,hm,hrs,hsrt,q⟩:=h
 refine⟨_,#[Zf,#[ZbB,‹0›,(@Ze4 _ _)],#[Zf,#[Zcv,PassesOwn.never,#[iE,K,T.b.n_enumerate,#[Za,‹1›,#[Ze]]],#[gT,K,2,#[ZB,#[ZD,2,ZcW.nd,(Or.inl rfl)],#[ZB,#[ZD,3,ZcW.nd,(Or.inl rfl)],(@ZaG _)]]],#[Zf,#[Zab,#[Zy,f_refuse_break,hr,#[Za,‹2›,#[Za,‹3›,#[Ze]]],(by rfl)]],#[Zj,#[Z3,#[ZnT,f_Row_init,hr,#[Za,‹3›,#[Ze]]],#[ZaQ,#[ZO,‹0›],‹2›,(ZdK hr)]]]]],#[Zf,#[ZbB,‹0›,#[Zk,(Zcj K),(by rfl),T.b.n_len,Qs,#[Za,‹1›,#[Ze]]]],#[Zf,#[ZbB,‹0›,#[Zi]],#[Zf,#[ZbB,‹0›,#[Zi]],#[Zf,#[ZbB,‹0›,(@Zk2 _ _)],#[Zf,#[ZbB,‹0›,#[ZW]],#[Zj,#[Zab,#[Zay,f_Merge_play_all,T.cl_Merge,hr,‹0›]]]]]]]]]],?_⟩
 refine fun rd hrd=>?_
 have nmr:m≠rd:=Zc hm hrd
 have s1:=Zh hrd (.dK [])
 have hr1:(upd H rd (.dK [])) rd=some (.dK (kvM [])):=Zd
 have hm1:=s1 _ _ hm
 generalize upd H rd (.dK [])=H1 at s1 hr1 hm1 ⊢
 refine⟨_,rfl,m,cMerge,dx,_,rfl,hm1,T.cl_Merge,T.na_Merge_rows,(by show 0<1000;decide),?_⟩
 have nrm:r≠m:=fun z=>by have:=hrs.at';rw[z,hm]at this;cases this
 have k2:∀b o,H b=some o→b≠m→(upd H1 m (.ins cMerge dx (Zt "rows" (.ref rd) []))) b=some o:=fun b o hb n=>by rw[Zb n];exact s1 b o hb
 have hm2:(upd H1 m (.ins cMerge dx (Zt "rows" (.ref rd) []))) m=some (.ins cMerge dx (Zt "rows" (.ref rd) [])):=Zd
 have hr2:(upd H1 m (.ins cMerge dx (Zt "rows" (.ref rd) []))) rd=some (.dK (kvM [])):=by rw[Zb nmr.symm];exact hr1
 generalize upd H1 m (.ins cMerge dx (Zt "rows" (.ref rd) []))=H2 at k2 hm2 hr2 ⊢
 have hfew:=hrs.few
 have lkr:(Zt "rows" (.ref rd) []).lookup ("rows" : Str)=some (V.ref rd):=by rw[Zl,if_pos rfl]
 refine⟨_,rfl,r,_,rfl,SqL.of (k2 _ _ hrs.at' nrm),?_⟩
 refine ZgS (K:=K) (a:=r) (xs:=rs.map fun x=>V.ref x.1) (fun i σ H5=>∃ (L:List Zv) (v2 v3:Option V),σ=[some (.ref m),some (.ref r),v2,v3]∧H5 m=some (.ins cMerge dx (Zt "rows" (.ref rd) []))∧H5 rd=some (.dK (kvM L))∧(∀e∈L,ZdI cRow H5 e)∧ZnI L (rs.take i)∧(L.map (·.p)).Nodup∧(∀e∈L,H e.p=none∧H e.k=none∧H e.f=none)∧(∀b o,H b=some o→b≠m→H5 b=some o)) ⟨[],_,_,rfl,hm2,hr2,(fun e h=>by cases h),⟨rfl,rfl⟩,List.nodup_nil,(fun e h=>by cases h),k2⟩ (fun i σ H5 hq=>by obtain⟨_,_,_,_,_,_,_,_,_,_,k5⟩:=hq;exact SqL.of (k5 _ _ hrs.at' nrm)) ?_ ?_
 ·rintro i y σ H5 p hy ⟨L,v2,v3,rfl,hm5,hr5,each,⟨n1,n2⟩,pd,hfr,k5⟩ hp
  rw[Qp]at hy
  cases hz:rs[i]? with
  | none=>rw[hz]at hy;cases hy
  | some x =>
  rw[hz]at hy
  cases hy
  have hil:i<rs.length:=(Qg.mp hz).1
  have hxm:=Qx hz
  obtain⟨lx,l100,laz⟩:=hrs.lst x hxm
  have nxm:x.1≠m:=fun z=>by rw[z,hm]at lx;cases lx
  have hLl:L.length=i:=by have:=congrArg List.length n1;unfold Zz at this;rw[Qa,Zfg,Qz]at this;omega
  have hlt:∀e∈L,e.n≠(i:Int):=fun e he z=>by
   have h1:e.n∈Zet 0 (rs.take i).length:=by rw[← n1];exact Qd (f:=fun e:Zv=>e.n) he
   unfold Zet at h1
   obtain⟨j,hj,ej⟩:=Qn.mp h1
   have:=Qah.mp hj
   rw[Qz]at this
   omega
  have sp:=Zh hp (.tup [.int (i:Int),.ref x.1])
  have hp6:(upd H5 p (.tup [.int (i:Int),.ref x.1])) p=some (.tup [.int (i:Int),.ref x.1]):=Zd
  generalize upd H5 p (.tup [.int (i:Int),.ref x.1])=H6 at sp hp6 ⊢
  refine⟨p,_,rfl,SqT.of hp6,rfl,_,_,rfl,_,_,rfl,rfl,?_⟩
  have lx6:H6 x.1=some (.lst (x.2.map V.str)):=sp _ _ (k5 _ _ lx nxm)
  refine⟨_,rfl,_,rfl,(i:Int),x.1,x.2,rfl,SqL.of lx6,by omega,fun s hs=>(laz s hs).1,ZiK (hsrt x hxm),fun H7 s7=>?_⟩
  have s57:=sp.trans s7
  refine⟨_,rfl,fun u dy hu hdy ndu=>?_⟩
  have hu5:H5 u=none:=s57.free hu
  have lx8:(upd (upd H7 dy (.own u)) u (.ins cRow dy [])) x.1=some (.lst (x.2.map V.str)):=by
   have:=s7 _ _ lx6
   rw[Zb (Zc this hu),Zb (Zc this hdy)];exact this
  have s8:∀b o,H5 b=some o→(upd (upd H7 dy (.own u)) u (.ins cRow dy [])) b=some o:=fun b o hb=>by
   have:=s57 _ _ hb
   rw[Zb (Zc this hu),Zb (Zc this hdy)];exact this
  have hu8:(upd (upd H7 dy (.own u)) u (.ins cRow dy [])) u=some (.ins cRow dy []):=Zd
  generalize upd (upd H7 dy (.own u)) u (.ins cRow dy [])=H8 at lx8 s8 hu8 ⊢
  refine⟨u,dy,x.1,x.2,rfl,hu8,lx8,l100,fun s hs=>(laz s hs).1,fun k f H9 hk hf nkf R k9=>⟨rfl,?_⟩⟩
  have s9:∀b o,H5 b=some o→H9 b=some o:=fun b o hb=>k9 b o (s8 b o hb) (Zc hb hu5)
  have free5:∀b,H8 b=none→H5 b=none:=fun b hb=>by
   cases e:H5 b with
   | none=>rfl
   | some o=>rw[s8 b o e]at hb;cases hb
  have free0:∀b,b≠m→H5 b=none→H b=none:=fun b nb hb=>by
   cases e:H b with
   | none=>rfl
   | some o=>rw[k5 b o e nb]at hb;cases hb
  have num:u≠m:=fun z=>by rw[z,hm5]at hu5;cases hu5
  have nkm:k≠m:=fun z=>by have:=free5 k hk;rw[z,hm5]at this;cases this
  have nfm:f≠m:=fun z=>by have:=free5 f hf;rw[z,hm5]at this;cases this
  have nrd:rd≠u∧rd≠k∧rd≠f:=⟨Zc hr5 hu5,Zc hr5 (free5 k hk),Zc hr5 (free5 f hf)⟩
  have hsz:(kvM L).length<sizeLine:=by unfold kvM;rw[Qa];exact ZC (by omega)
  have hn1:Z2 (kvM L) (.inl (i:Int))=none:=by
   cases hv:Z2 (kvM L) (.inl (i:Int)) with
   | none=>rfl
   | some v=>obtain⟨e,he,z⟩:=Qn.mp (ZcC hv);injection z with z _;exact absurd (Sum.inl.inj z) (hlt e he)
  refine⟨_,rfl,m,cMerge,dx,_,_,rfl,s9 _ _ hm5,T.cl_Merge,T.na_Merge_rows,lkr,_,rfl,rd,_,rfl,ZbW.k (k:=.inl (i:Int)) (s9 _ _ hr5) hsz,?_⟩
  rw[ZbV _ hn1,show kvM L++[((.inl (i:Int):Key),V.ref u)]=kvM (L++[⟨(i:Int),u,k,f,x.2,0⟩]) by unfold kvM;rw[Qe];rfl]
  refine⟨L++[⟨(i:Int),u,k,f,x.2,0⟩],_,_,rfl,by rw[Zb nmr];exact s9 _ _ hm5,Zd,fun e he=>?_,⟨?_,?_⟩,?_,fun e he=>?_,fun b o hb n=>?_⟩
  ·rcases Qm.mp he with he|he
   ·have re:=each e he
    obtain⟨de,hde⟩:=re.at'.ob
    refine re.mono fun b o hb hor=>?_
    have nb:b≠rd:=fun z=>by
     rw[z,hr5]at hb
     injection hb with hb
     subst hb
     rcases hor with z2|z2|z2
     ·rw[← z2,z,hr5]at hde;cases hde
     ·have:=re.at'.ks;rw[← z2,z,hr5]at this;cases this
     ·have:=re.at'.fs;rw[← z2,z,hr5]at this;cases this
    rw[Zb nb];exact s9 b o hb
   ·rw[Qo.mp he]
    refine ZdI.keep (H:=H9) ⟨R,Qw _,l100,hsrt x hxm,laz⟩ (Zb nrd.1.symm) (Zb nrd.2.1.symm) (Zb nrd.2.2.symm)
  ·unfold Zz at n1 ⊢
   rw[Qe,n1,Qz,Qz,Qas (by omega),Qas (by omega)]
   unfold Zet
   rw[QaJ,Qe]
   simp
  ·rw[Qe,n2,QH,hz,Qe];rfl
  ·rw[Qe]
   refine QaV.mpr ⟨pd,by simp,fun a ha b hb=>?_⟩
   obtain⟨e,he,rfl⟩:=Qn.mp ha
   have:b=u:=by simpa using hb
   rw[this]
   obtain⟨de,hde⟩:=(each e he).at'.ob
   exact Zc hde hu5
  ·rcases Qm.mp he with he|he
   ·exact hfr e he
   ·rw[Qo.mp he]
    exact⟨free0 u num hu5,free0 k nkm (free5 k hk),free0 f nfm (free5 f hf)⟩
  ·rw[Zb (Zc hb hrd)];exact s9 b o (k5 b o hb n)
 ·rintro σ H5 ⟨L,v2,v3,rfl,hm5,hr5,each,hnew,pd,hfr,k5⟩
  rw[Qa,Qu (Qh _)]at hnew
  have p1:=ZbX "rows" (V.ref rd) []
  have p2:=ZbX "next_number" (V.int (rs.length:Int)) (Zt "rows" (.ref rd) [])
  have p3:=ZbX "likened" (V.int 0) (Zt "next_number" (.int (rs.length:Int)) (Zt "rows" (.ref rd) []))
  have p4:=ZbX "looked" (V.int 0) (Zt "likened" (.int 0) (Zt "next_number" (.int (rs.length:Int)) (Zt "rows" (.ref rd) [])))
  have p0:([]:List (Str×V)).length=0:=rfl
  refine⟨_,rfl,r,_,rfl,.inl (SqL.of (k5 _ _ hrs.at' nrm)),_,rfl,m,cMerge,dx,_,rfl,hm5,T.cl_Merge,T.na_Merge_next_number,by omega,?_⟩
  rw[Qa]
  refine⟨_,rfl,m,cMerge,dx,_,rfl,Zd,T.cl_Merge,T.na_Merge_likened,by omega,?_⟩
  refine⟨_,rfl,m,cMerge,dx,_,rfl,Zd,T.cl_Merge,T.na_Merge_looked,by omega,?_⟩
  have k8:∀b,b≠m→(upd (upd (upd H5 m (.ins cMerge dx (Zt "next_number" (.int (rs.length:Int)) (Zt "rows" (.ref rd) [])))) m (.ins cMerge dx (Zt "likened" (.int 0) (Zt "next_number" (.int (rs.length:Int)) (Zt "rows" (.ref rd) []))))) m (.ins cMerge dx (Zt "looked" (.int 0) (Zt "likened" (.int 0) (Zt "next_number" (.int (rs.length:Int)) (Zt "rows" (.ref rd) [])))))) b=H5 b:=fun b n=>by rw[Zb n,Zb n,Zb n]
  have hm8:(upd (upd (upd H5 m (.ins cMerge dx (Zt "next_number" (.int (rs.length:Int)) (Zt "rows" (.ref rd) [])))) m (.ins cMerge dx (Zt "likened" (.int 0) (Zt "next_number" (.int (rs.length:Int)) (Zt "rows" (.ref rd) []))))) m (.ins cMerge dx (Zt "looked" (.int 0) (Zt "likened" (.int 0) (Zt "next_number" (.int (rs.length:Int)) (Zt "rows" (.ref rd) [])))))) m=some (.ins cMerge dx (Zt "looked" (.int 0) (Zt "likened" (.int 0) (Zt "next_number" (.int (rs.length:Int)) (Zt "rows" (.ref rd) []))))):=Zd
  generalize (upd (upd (upd H5 m (.ins cMerge dx (Zt "next_number" (.int (rs.length:Int)) (Zt "rows" (.ref rd) [])))) m (.ins cMerge dx (Zt "likened" (.int 0) (Zt "next_number" (.int (rs.length:Int)) (Zt "rows" (.ref rd) []))))) m (.ins cMerge dx (Zt "looked" (.int 0) (Zt "likened" (.int 0) (Zt "next_number" (.int (rs.length:Int)) (Zt "rows" (.ref rd) []))))))=H8 at k8 hm8 ⊢
  refine fun sd hsd=>?_
  have nms:m≠sd:=Zc hm8 hsd
  have p5:=ZbX "stays" (V.ref sd) (Zt "looked" (.int 0) (Zt "likened" (.int 0) (Zt "next_number" (.int (rs.length:Int)) (Zt "rows" (.ref rd) []))))
  refine⟨_,rfl,m,cMerge,dx,_,rfl,by rw[Zb nms];exact hm8,T.cl_Merge,T.na_Merge_stays,by omega,?_⟩
  refine⟨_,rfl,m,cMerge,dx,_,rfl,Zd,T.cl_Merge,T.na_Merge_best,by omega,?_⟩
  have hsd5:H5 sd=none:=by rw[← k8 sd nms.symm];exact hsd
  have hm9:(upd (upd (upd H8 sd (.dT [])) m (.ins cMerge dx (Zt "stays" (.ref sd) (Zt "looked" (.int 0) (Zt "likened" (.int 0) (Zt "next_number" (.int (rs.length:Int)) (Zt "rows" (.ref rd) []))))))) m (.ins cMerge dx (Zt "best" .non (Zt "stays" (.ref sd) (Zt "looked" (.int 0) (Zt "likened" (.int 0) (Zt "next_number" (.int (rs.length:Int)) (Zt "rows" (.ref rd) [])))))))) m=some (.ins cMerge dx (mgF rd (rs.length:Int) 0 0 sd .non)):=by rw[Zbs];exact Zd
  have hs9:(upd (upd (upd H8 sd (.dT [])) m (.ins cMerge dx (Zt "stays" (.ref sd) (Zt "looked" (.int 0) (Zt "likened" (.int 0) (Zt "next_number" (.int (rs.length:Int)) (Zt "rows" (.ref rd) []))))))) m (.ins cMerge dx (Zt "best" .non (Zt "stays" (.ref sd) (Zt "looked" (.int 0) (Zt "likened" (.int 0) (Zt "next_number" (.int (rs.length:Int)) (Zt "rows" (.ref rd) [])))))))) sd=some (.dT (kvS [])):=by rw[Zb nms.symm,Zb nms.symm];exact Zd
  have k9:∀b o,H5 b=some o→b≠m→(upd (upd (upd H8 sd (.dT [])) m (.ins cMerge dx (Zt "stays" (.ref sd) (Zt "looked" (.int 0) (Zt "likened" (.int 0) (Zt "next_number" (.int (rs.length:Int)) (Zt "rows" (.ref rd) []))))))) m (.ins cMerge dx (Zt "best" .non (Zt "stays" (.ref sd) (Zt "looked" (.int 0) (Zt "likened" (.int 0) (Zt "next_number" (.int (rs.length:Int)) (Zt "rows" (.ref rd) [])))))))) b=some o:=fun b o hb n=>by rw[Zb n,Zb n,Zb (Zc hb hsd5),k8 b n];exact hb
  generalize (upd (upd (upd H8 sd (.dT [])) m (.ins cMerge dx (Zt "stays" (.ref sd) (Zt "looked" (.int 0) (Zt "likened" (.int 0) (Zt "next_number" (.int (rs.length:Int)) (Zt "rows" (.ref rd) []))))))) m (.ins cMerge dx (Zt "best" .non (Zt "stays" (.ref sd) (Zt "looked" (.int 0) (Zt "likened" (.int 0) (Zt "next_number" (.int (rs.length:Int)) (Zt "rows" (.ref rd) []))))))))=H9 at hm9 hs9 k9 ⊢
  have hLl:L.length=rs.length:=by have:=congrArg List.length hnew.1;unfold Zz at this;rw[Qa,Zfg]at this;exact this
  have M9:ZP cRow cMerge H9 m rd sd L [] (rs.length:Int) 0 0 .non:=by
   refine⟨⟨dx,hm9⟩,k9 _ _ hr5 nmr.symm,hs9,(fun e he=>by cases he),fun e he=>?_,by rw[hnew.1];exact Zje _,pd,by omega,by decide⟩
   have re:=each e he
   obtain⟨de,hde⟩:=re.at'.ob
   refine re.mono fun b o hb hor=>k9 b o hb fun z=>?_
   have hf:=hfr e he
   have hm':=hm
   rw[← z]at hm'
   rcases hor with z2|z2|z2
   ·rw[z2,hf.1]at hm';cases hm'
   ·rw[z2,hf.2.1]at hm';cases hm'
   ·rw[z2,hf.2.2]at hm';cases hm'
  refine⟨_,rfl,m,dx,_,rfl,hm9,ZbA ..,m,rd,sd,L,[],_,0,0,.non,rfl,M9,fun sd' s' w1 k q' H10 hsd' W S Pl M10 b10=>?_⟩
  have free0:∀b,b≠m→H9 b=none→H b=none:=fun b nb hb=>by
   cases e:H b with
   | none=>rfl
   | some o=>rw[k9 b o (k5 b o e nb) nb]at hb;cases hb
  refine q rd sd' L s' w1 k q' H10 (M10.cast (by omega) (by omega)) hnew W S Pl (fun b hb=>?_) (fun b o hb n=>b10 b o (k9 b o (k5 b o hb n) n) n)
  rcases hb with rfl|rfl|rfl|⟨e,he,hb⟩
  ·exact .inl rfl
  ·exact .inr hrd
  ·exact .inr (free0 _ (fun z=>by rw[z,hm9]at hsd';cases hsd') hsd')
  ·have hf:=hfr e he
   rcases hb with rfl|rfl|rfl
   ·exact .inr hf.1
   ·exact .inr hf.2.1
   ·exact .inr hf.2.2
theorem Zqi{c:Bool}{e:(Bool→Hp→Prop)→Prop}{T:Bool→Hp→Prop}{H7:Hp}(h1:c=true→∀T':Bool→Hp→Prop,(∀H8,ZF H7 H8→T' false H8)→e T')(h2:∀H8,ZF H7 H8→T false H8):if c=true then e T else T false H7:=by
 cases c with
 | true=>rw[if_pos rfl];exact h1 rfl T h2
 | false=>rw[if_neg (by decide)];exact h2 H7 (ZF.refl _)
def ZpP(cR cM:Addr):Sp:=fun vs H Q _=>∃ (m rd sd:Addr) (L:List Zv) (s:StL) (nb li lo:Int) (best:V),vs=[.ref m]∧ZP cR cM H m rd sd L s nb li lo best∧Q (.int li) H
def ZpX(cR cM:Addr):Sp:=fun vs H Q _=>∃ (m rd sd:Addr) (L:List Zv) (s:StL) (nb li lo:Int) (best:V),vs=[.ref m]∧ZP cR cM H m rd sd L s nb li lo best∧Q (.int lo) H
theorem Ziq(T:Zaf K mg cRow cMerge):Mf P w K mg base 1 cMerge "likenings" ["self"] (ZpP cRow cMerge):=by
 refine T.t_Merge_likenings.mf ZeK (fun vs H Q E h=>?_) (fun cdv f A outer s H vs Q E hr h=>?_)
 ·obtain⟨m,rd,sd,L,s,nb,li,lo,best,rfl,_⟩:=h
  rfl
 obtain⟨m,rd,sd,L,s,nb,li,lo,best,rfl,M,q⟩:=h
 refine⟨_,#[Zj,#[Zs,#[ZO,‹0›]]],?_⟩
 obtain⟨dx,hm⟩:=M.ob
 exact⟨_,rfl,m,cMerge,dx,_,_,rfl,hm,T.cl_Merge,T.na_Merge_likened,ZdY ..,q⟩
theorem Znj(T:Zaf K mg cRow cMerge):Mf P w K mg base 1 cMerge "looks" ["self"] (ZpX cRow cMerge):=by
 refine T.t_Merge_looks.mf ZgQ (fun vs H Q E h=>?_) (fun cdv f A outer s H vs Q E hr h=>?_)
 ·obtain⟨m,rd,sd,L,s,nb,li,lo,best,rfl,_⟩:=h
  rfl
 obtain⟨m,rd,sd,L,s,nb,li,lo,best,rfl,M,q⟩:=h
 refine⟨_,#[Zj,#[Zs,#[ZO,‹0›]]],?_⟩
 obtain⟨dx,hm⟩:=M.ob
 exact⟨_,rfl,m,cMerge,dx,_,_,rfl,hm,T.cl_Merge,T.na_Merge_looked,ZgL ..,q⟩
def Zg2(cR cM:Addr):Sp:=fun vs H Q _=>∃ (m rd sd:Addr) (L:List Zv) (s:StL) (nb li lo:Int) (w:Option Int),vs=[.ref m]∧ZP cR cM H m rd sd L s nb li lo (Zce w)∧Win (hdM L) (Zz L) w∧∀ (x:V) (H':Hp),Zgs (L.map toL) H' x→ZF H H'→Q x H'
theorem ZlG(T:Zaf K mg cRow cMerge)(f_Row_head:Mf P w K mg base 2 cRow "head" ["self"] (ZeA cRow)):Mf P w K mg base 3 cMerge "coming" ["self"] (Zg2 cRow cMerge):=by
 refine T.t_Merge_coming.mf ZdE (fun vs H Q E h=>?_) (fun cdv f A outer s H vs Q E hr h=>?_)
 ·obtain⟨m,rd,sd,L,s,nb,li,lo,w,rfl,_⟩:=h
  rfl
 obtain⟨m,rd,sd,L,s,nb,li,lo,w,rfl,M,W,q⟩:=h
 refine⟨_,#[Zf,#[ZZ,#[Zm,Zbq,#[ZO,‹0›],#[ZW],(Zp _)],#[Zj,#[Zs,#[ZW]]],#[ZE]],#[Zf,#[Zw,1,ZdE.nd,(Or.inl rfl),#[Zo,(ixG hr),#[ZO,‹0›],#[ZO,‹0›]]],#[Zj,#[Zs,#[ZaC,#[Za,#[ZO,‹0›],#[Za,#[ZO,‹1›],#[Za,#[Zay,f_Row_head,T.cl_Row,hr,‹1›],#[Ze]]]]]]]]],?_⟩
 obtain⟨dx,hm⟩:=M.ob
 refine⟨_,rfl,m,cMerge,dx,_,_,rfl,hm,T.cl_Merge,T.na_Merge_best,ZdX ..,rfl,_,rfl,?_⟩
 have W':Win (hdL (L.map toL)) ((L.map toL).map (·.1)) w:=by rw[Zby];exact W
 cases w with
 | none=>exact Zcw rfl (q _ H (.inl ⟨rfl,W'⟩) (ZF.refl H))
 | some a =>
  obtain⟨e,he,rfl⟩:=ZdW W.1
  have R:=M.each e he
  obtain⟨dp,hp⟩:=R.at'.ob
  have hd:=ZeP M.nd he
  cases hx:e.ss[e.g]? with
  | none=>obtain⟨_,z,hz,_⟩:=W;rw[hd,hx]at hz;cases hz
  | some x =>
  refine Zbl (fun z=>nomatch z) ?_
  refine⟨_,rfl,m,cMerge,dx,_,_,rfl,hm,T.cl_Merge,T.na_Merge_rows,ZaB ..,_,rfl,m,cMerge,dx,_,_,rfl,hm,T.cl_Merge,T.na_Merge_best,ZdX ..,rd,_,rfl,ZN.k' (k:=.inl e.n) M.rows (ZdN M.nd he),?_⟩
  refine⟨_,rfl,m,cMerge,dx,_,_,rfl,hm,T.cl_Merge,T.na_Merge_best,ZdX ..,_,rfl,e.p,cRow,dp,_,_,rfl,hp,T.cl_Row,T.na_Row_gone,Zdm ..,_,rfl,e.p,dp,_,rfl,hp,Zba ..,e.p,e.k,e.f,e.ss,e.g,rfl,R.at',(by show 3≤sizeLine;decide),fun t ht=>?_⟩
  rw[ZdL hx]
  exact q _ _ (.inr ⟨t,toL e,x,rfl,Qd he,hx,Zd,W'⟩) (Zh ht _)
def Zlb(cR cM:Addr):Sp:=fun vs H Q _=>∃ (m rd sd:Addr) (L:List Zv) (s:StL) (nb li lo:Int) (best:V),vs=[.ref m]∧ZP cR cM H m rd sd L s nb li lo best∧∀H':Hp,ZF H H'→Q (.int (Zat (L.map toL)).sum) H'
theorem ZiL(k f:Addr)(g:Int):(Zbc k f g).lookup ("to_go" : Str)=none:=Ze6 _ _ _ (by decide +kernel) (by decide +kernel) (by decide +kernel)
theorem ZmB(T:Zaf K mg cRow cMerge)(f_Row_to_go:Mf P w K mg base 1 cRow "to_go" ["self"] (ZiW cRow)):Mf P w K mg base 2 cMerge "left" ["self"] (Zlb cRow cMerge):=by
 refine T.t_Merge_left.mf Zhr (fun vs H Q E h=>?_) (fun cdv f A outer s H vs Q E hr h=>?_)
 ·obtain⟨m,rd,sd,L,s,nb,li,lo,best,rfl,_⟩:=h
  rfl
 obtain⟨m,rd,sd,L,s,nb,li,lo,best,rfl,M,q⟩:=h
 refine⟨_,#[Zj,#[Zs,#[Zk,(Zsc K),(by rfl),T.b.n_sum,boot_sum,#[Za,(@ZiT _ _ _ #[Zci,Zqr,(@ZpA _ _ _ _ _ _ #[ZO,‹0›] (by rfl) (by rfl)),(fun _ _ _ _=>#[cg,1,Zqr]),(fun _ _ _ _=>(@Zcb _)),(fun _ _ _ _=>#[Zay,f_Row_to_go,T.cl_Row,hr,#[cw,1,Zqr]])]),#[Ze]]]]],?_⟩
 obtain⟨dx,hm⟩:=M.ob
 have hfew:=M.few
 refine⟨rd,_,M.rows,True.intro,_,rfl,m,cMerge,dx,_,_,rfl,hm,T.cl_Merge,T.na_Merge_rows,ZaB ..,rd,_,rfl,M.rows,fun ob B hB=>?_⟩
 have hfz:(upd H rd (.frz ob (.dK (kvM L)))) rd=some (.frz ob (.dK (kvM L))):=Zd
 have k1:∀b x,H b=some x→b≠rd→(upd H rd (.frz ob (.dK (kvM L)))) b=some x:=fun b x h n=>by rw[Zb n];exact h
 generalize upd H rd (.frz ob (.dK (kvM L)))=H1 at hfz k1 hB ⊢
 refine ZoL (d:=rd) (o:=ob) (kvs:=kvM L) (fun i zs σ H2=>(∃v:Option V,σ=[some (.ref m),v])∧zs=(Zat ((L.take i).map toL)).map V.int∧i≤L.length∧H2 B=some (.lst zs)∧ZF H1 H2) ?_ (fun _ _ _ _ h=>h.2.2.2.2 _ _ hfz) ?_ ?_
 ·exact⟨⟨none,rfl⟩,rfl,Qw _,Zd,Zh hB _⟩
 ·rintro i k x zs σ H2 hkx ⟨⟨v,rfl⟩,rfl,hi,hB2,s2⟩
  unfold kvM at hkx
  rw[Qp]at hkx
  cases hu:L[i]? with
  | none=>rw[hu]at hkx;cases hkx
  | some e =>
  rw[hu]at hkx
  cases hkx
  have hil:i<L.length:=(Qg.mp hu).1
  have he:=Qx hu
  have R:=M.each e he
  obtain⟨_,_,_,n1,n2,n3⟩:=M.ne_sd he
  have R2:ZdI cRow H2 e:=R.mono fun b o hb hor=>s2 _ _ (k1 b o hb (by rcases hor with z|z|z<;>rw[z];exact n1.symm;exact n2.symm;exact n3.symm))
  obtain⟨dp,hp⟩:=R2.at'.ob
  refine⟨_,rfl,e.p,dp,_,rfl,hp,ZiL ..,e.p,e.k,e.f,e.ss,e.g,rfl,R2.at',hB2,(by unfold Zat;rw[Qa,Qa,Qa,Qz];exact ZC (by omega)),⟨_,rfl⟩,?_,hil,Zd,fun b x hb=>?_⟩
  ·rw[QH,hu,Qe]
   unfold Zat
   rw[Qe,Qe];rfl
  ·rw[Zb (Zc hb hB)];exact s2 b x hb
 rintro zs σ H2 ⟨⟨v,rfl⟩,rfl,_,hB2,s2⟩
 have hkl:(kvM L).length=L.length:=by unfold kvM;rw[Qa]
 rw[hkl,Qu (Qh _)]at hB2
 refine⟨ob,s2 _ _ hfz,?_⟩
 have hB3:(upd H2 rd (.dK (kvM L))) B=some (.lst ((Zat (L.map toL)).map V.int)):=by rw[Zb (Zc hfz hB).symm];exact hB2
 have s3:ZF H (upd H2 rd (.dK (kvM L))):=fun b x hb=>by
  by_cases e:b=rd
  ·rw[e,M.rows]at hb;rw[e,Zd];exact hb
  ·rw[Zb e];exact s2 _ _ (k1 b x hb e)
 generalize upd H2 rd (.dK (kvM L))=H3 at hB3 s3 ⊢
 refine⟨B,Zat (L.map toL),rfl,SqL.of hB3,(by unfold Zat;rw[Qa,Qa];omega),fun n hn=>?_,q H3 s3⟩
 unfold Zat at hn
 obtain⟨e',he',rfl⟩:=Qn.mp hn
 obtain⟨e,he,rfl⟩:=Qn.mp he'
 have R:=M.each e he
 have a1:=R.le
 have a2:=R.len
 show 0≤((e.ss.length:Int)-(e.g:Int))∧((e.ss.length:Int)-(e.g:Int))≤_
 omega
def Zhu(L:List Zx):List (Int×Option Str):=L.map fun e=>(e.1,e.2.2.1[e.2.2.2]?)
def ZfR(H:Hp)(l:Addr)(E:List (Int×Option Str)):Prop:=∃ts:List (Addr×Int×Option Str),ts.map (·.2)=E∧H l=some (.lst (ts.map fun t=>V.ref t.1))∧∀t∈ts,H t.1=some (.tup [.int t.2.1,oV t.2.2])
theorem Zjm(ss:List Str)(g:Nat):ZdH ss g=oV ss[g]?:=by unfold ZdH oV;cases ss[g]?<;>rfl
def ZjX(cR cM:Addr):Sp:=fun vs H Q _=>∃ (m rd sd:Addr) (L:List Zv) (s:StL) (nb li lo:Int) (best:V),vs=[.ref m]∧ZP cR cM H m rd sd L s nb li lo best∧∀ (l:Addr) (H':Hp),H l=none→ZfR H' l (Zhu (L.map toL))→ZF H H'→Q (.ref l) H'
theorem Zme(T:Zaf K mg cRow cMerge)(f_Row_head:Mf P w K mg base 2 cRow "head" ["self"] (ZeA cRow)):Mf P w K mg base 3 cMerge "heads" ["self"] (ZjX cRow cMerge):=by
 refine T.t_Merge_heads.mf Zgq (fun vs H Q E h=>?_) (fun cdv f A outer s H vs Q E hr h=>?_)
 ·obtain⟨m,rd,sd,L,s,nb,li,lo,best,rfl,_⟩:=h
  rfl
 obtain⟨m,rd,sd,L,s,nb,li,lo,best,rfl,M,q⟩:=h
 refine⟨_,#[Zj,#[Zs,(@ZiT _ _ _ #[Zci,Zn9,(@ZnD _ _ _ _ _ _ _ _ #[ZO,‹0›] (by rfl) (by rfl)),(fun _ _ _ _=>#[gT,K,2,#[ZB,#[cg,1,Zn9],#[ZB,#[cg,2,Zn9],(@ZaG _)]]]),(fun _ _ _ _=>(@Zcb _)),(fun _ _ _ _=>#[ZaC,#[Za,#[cw,1,Zn9],#[Za,#[Zay,f_Row_head,T.cl_Row,hr,#[cw,2,Zn9]],#[Ze]]]])])]],?_⟩
 obtain⟨dx,hm⟩:=M.ob
 have hfew:=M.few
 refine⟨rd,_,M.rows,True.intro,_,rfl,m,cMerge,dx,_,_,rfl,hm,T.cl_Merge,T.na_Merge_rows,ZaB ..,rd,_,rfl,M.rows,fun ob B hB=>?_⟩
 have hfz:(upd H rd (.frz ob (.dK (kvM L)))) rd=some (.frz ob (.dK (kvM L))):=Zd
 have k1:∀b x,H b=some x→b≠rd→(upd H rd (.frz ob (.dK (kvM L)))) b=some x:=fun b x h n=>by rw[Zb n];exact h
 have hB0:H B=none:=by
  cases e:H B with
  | none=>rfl
  | some o =>
   by_cases z:B=rd
   ·rw[z]at hB;rw[show (upd H rd (.frz ob (.dK (kvM L)))) rd=some (.frz ob (.dK (kvM L))) from Zd]at hB;cases hB
   ·rw[k1 B o e z]at hB;cases hB
 generalize upd H rd (.frz ob (.dK (kvM L)))=H1 at hfz k1 hB ⊢
 refine Zo4 (d:=rd) (o:=ob) (kvs:=kvM L) (fun i zs σ H2=>(∃v1 v2:Option V,σ=[some (.ref m),v1,v2])∧(∃ts:List (Addr×Int×Option Str),ts.map (·.2)=Zhu ((L.take i).map toL)∧zs=(ts.map fun t=>V.ref t.1)∧∀t∈ts,H2 t.1=some (.tup [.int t.2.1,oV t.2.2])∧t.1≠B∧t.1≠rd)∧i≤L.length∧H2 B=some (.lst zs)∧ZF H1 H2) ?_ (fun _ _ _ _ h=>h.2.2.2.2 _ _ hfz) ?_ ?_
 ·exact⟨⟨none,none,rfl⟩,⟨[],rfl,rfl,(fun t h=>by cases h)⟩,Qw _,Zd,Zh hB _⟩
 ·rintro i k x zs σ H2 p hkx ⟨⟨v1,v2,rfl⟩,⟨ts,hts,rfl,hall⟩,hi,hB2,s2⟩ hp0
  unfold kvM at hkx
  rw[Qp]at hkx
  cases hu:L[i]? with
  | none=>rw[hu]at hkx;cases hkx
  | some e =>
  rw[hu]at hkx
  cases hkx
  have hil:i<L.length:=(Qg.mp hu).1
  have he:=Qx hu
  have R:=M.each e he
  obtain⟨_,_,_,n1,n2,n3⟩:=M.ne_sd he
  have s3:=Zh hp0 (.tup [kV (.inl e.n),.ref e.p])
  have hp3:(upd H2 p (.tup [kV (.inl e.n),.ref e.p])) p=some (.tup [.int e.n,.ref e.p]):=Zd
  generalize upd H2 p (.tup [kV (.inl e.n),.ref e.p])=H3 at s3 hp3 ⊢
  have R2:ZdI cRow H3 e:=R.mono fun b o hb hor=>s3 _ _ (s2 _ _ (k1 b o hb (by rcases hor with z|z|z<;>rw[z];exact n1.symm;exact n2.symm;exact n3.symm)))
  obtain⟨dp,hp⟩:=R2.at'.ob
  have hB3:=s3 _ _ hB2
  have hf3:=s3 _ _ (s2 _ _ hfz)
  have hlen:ts.length=i:=by have:=congrArg List.length hts;unfold Zhu at this;rw[Qa,Qa,Qa,Qz]at this;omega
  refine⟨p,_,rfl,SqT.of hp3,rfl,_,_,rfl,_,_,rfl,rfl,_,rfl,_,rfl,e.p,dp,_,rfl,hp,Zba ..,e.p,e.k,e.f,e.ss,e.g,rfl,R2.at',(by show 2≤sizeLine;decide),fun t ht=>?_⟩
  rw[Zjm]
  have nBt:B≠t:=Zc hB3 ht
  have nrt:rd≠t:=Zc hf3 ht
  refine⟨by rw[Zb nBt];exact hB3,(by rw[Qa];exact ZC (by omega)),⟨_,_,rfl⟩,⟨ts++[(t,e.n,e.ss[e.g]?)],?_,by rw[Qe];rfl,fun u hu'=>?_⟩,hil,Zd,fun b x hb=>?_⟩
  ·rw[Qe,hts,QH,hu,Qe]
   unfold Zhu
   rw[Qe];rfl
  ·rcases Qm.mp hu' with hu'|hu'
   ·obtain⟨g1,g2,g3⟩:=hall u hu'
    have:=s3 _ _ g1
    exact⟨by rw[Zb g2,Zb (Zc this ht)];exact this,g2,g3⟩
   ·rw[Qo.mp hu']
    exact⟨by rw[Zb nBt.symm];exact Zd,nBt.symm,nrt.symm⟩
  ·have:=s3 b x (s2 b x hb)
   rw[Zb (Zc hb hB),Zb (Zc this ht)];exact this
 rintro zs σ H2 ⟨⟨v1,v2,rfl⟩,⟨ts,hts,rfl,hall⟩,_,hB2,s2⟩
 have hkl:(kvM L).length=L.length:=by unfold kvM;rw[Qa]
 rw[hkl,Qu (Qh _)]at hts
 refine⟨ob,s2 _ _ hfz,?_⟩
 have nBr:B≠rd:=(Zc hfz hB).symm
 refine q B _ hB0 ⟨ts,hts,by rw[Zb nBr];exact hB2,fun t ht=>?_⟩ (fun b x hb=>?_)
 ·obtain⟨g1,g2,g3⟩:=hall t ht
  rw[Zb g3];exact g1
 ·by_cases e:b=rd
  ·rw[e,M.rows]at hb;rw[e,Zd];exact hb
  ·rw[Zb e];exact s2 _ _ (k1 b x hb e)
def Agr(Lo:List Zx)(L:List Zv):Prop:=Lo.map (fun e=>(e.1,e.2.2))=L.map (fun e=>(e.n,(e.ss,e.g)))
theorem Ze5{Lo:List Zx}{L:List Zv}(h:Agr Lo L){α:Type}(F:Int×List Str×Nat→α):Lo.map (fun e=>F (e.1,e.2.2))=(L.map toL).map (fun e=>F (e.1,e.2.2)):=by
 have:=congrArg (List.map F) h
 rw[Qi,Qi]at this
 rw[Qi]
 exact this
theorem Zbn{Lo:List Zx}{L:List Zv}(h:Agr Lo L):Lo.map (·.1)=Zz L:=by
 have:=Ze5 h (fun x=>x.1)
 rw[show (L.map toL).map (fun e=>e.1)=Zz L from Zby L]at this
 exact this
theorem Zgb:∀ (A B:List Zx),A.map (fun e=>(e.1,e.2.2))=B.map (fun e=>(e.1,e.2.2))→hdL A=hdL B
 | [],[],_=>rfl
 | [],_::_,h=>by cases h
 | _::_,[],h=>by cases h
 | a::A,b::B,h=>by
  rw[Qj,Qj]at h
  injection h with h1 h2
  injection h1 with h3 h4
  have ih:=Zgb A B h2
  funext n
  have ihn:=congrFun ih n
  unfold hdL at ihn ⊢
  rw[Q5,Q5,h3]
  split
  ·simp only[Option.bind_some];rw[h4]
  ·exact ihn
theorem Zgy{Lo:List Zx}{L:List Zv}(h:Agr Lo L):hdL Lo=hdM L:=Zgb _ _ (Ze5 h (fun x=>x))
theorem ZoA{Lo:List Zx}{L:List Zv}(h:Agr Lo L):Zhu Lo=Zhu (L.map toL):=Ze5 h (fun x=>(x.1,x.2.1[x.2.2]?))
theorem ZnM{Lo:List Zx}{L:List Zv}(h:Agr Lo L):Zat Lo=Zat (L.map toL):=Ze5 h (fun x=>(x.2.1.length:Int)-(x.2.2:Int))
theorem ZjP{α β γ δ:Type}{f:α→γ}{f':β→γ}{g:α→δ}{g':β→δ}:∀ (xs:List α) (ys:List β),xs.map f=ys.map f'→xs.map g=ys.map g'→xs.map (fun x=>(f x,g x))=ys.map (fun y=>(f' y,g' y))
 | [],[],_,_=>rfl
 | [],_::_,h,_=>by cases h
 | _::_,[],h,_=>by cases h
 | a::A,b::B,h,k=>by
  rw[Qj,Qj]at h k
  injection h with h1 h2
  injection k with k1 k2
  rw[Qj,Qj,ZjP A B h2 k2,h1,k1]
theorem ZoG{Lo:List Zx}{L:List Zv}{rs rs':List (Addr×List Str)}(h:Zph Lo rs)(k:ZnI L rs')(e:rs.map (·.2)=rs'.map (·.2)):Agr Lo L:=by
 have hl:rs.length=rs'.length:=by have:=congrArg List.length e;rw[Qa,Qa]at this;exact this
 have e2:rs.map (fun x=>(x.2,0))=rs'.map (fun x=>(x.2,0)):=by
  have:=congrArg (List.map fun y:List Str=>(y,0)) e
  rw[Qi,Qi]at this
  exact this
 exact ZjP Lo L (by rw[h.1,hl];exact k.1.symm) (by rw[h.2,e2];exact k.2.symm)
theorem ZbP{α β:Type}:∀ {P:List (α×β)},(P.map (·.1)).Nodup→∀ {p q:α×β},p∈P→q∈P→p.1=q.1→p=q
 | [],_,_,_,h,_,_=>by cases h
 | x::r,nd,p,q,hp,hq,e=>by
  rw[Qj,QR]at nd
  rcases QI.mp hp with h1|h1
  ·rcases QI.mp hq with h2|h2
   ·rw[h1,h2]
   ·exact absurd (show x.1∈r.map (·.1) by rw[← h1,e];exact Qd (f:=fun x:α×β=>x.1) h2) nd.1
  ·rcases QI.mp hq with h2|h2
   ·exact absurd (show x.1∈r.map (·.1) by rw[← h2,← e];exact Qd (f:=fun x:α×β=>x.1) h1) nd.1
   ·exact ZbP nd.2 h1 h2 e
def Zrm(x:V):Prop:=x=.non∨(∃b,x=.bl b)∨(∃i,x=.int i)∨∃s,x=.str s
structure F2 (R:V→V→Prop) (xs ys:List V):Prop where
 len:xs.length=ys.length
 at':∀ (i:Nat) (x y:V),xs[i]? = some x→ys[i]? = some y→R x y
theorem F2.nil{R:V→V→Prop}:F2 R [] []:=⟨rfl,fun i x y h=>by simp at h⟩
theorem F2.cons{R:V→V→Prop}{x y:V}{xs ys:List V}(h:R x y)(t:F2 R xs ys):F2 R (x::xs) (y::ys):=by
 refine⟨by rw[QK,QK,t.len],fun i a b ha hb=>?_⟩
 cases i with
 | zero=>simp at ha hb;rw[← ha,← hb];exact h
 | succ i=>exact t.at' i a b (by simpa using ha) (by simpa using hb)
theorem Zb3{H:Hp}{n:Nat}{x:V}(h:Zrm x):IsD H (n+1) x x:=.inl ⟨rfl,h⟩
theorem Za4{H:Hp}{n:Nat}(i:Int):IsD H (n+1) (.int i) (.int i):=Zb3 (.inr (.inr (.inl ⟨i,rfl⟩)))
theorem Zqt{H:Hp}{n:Nat}(o:Option Str):IsD H (n+1) (oV o) (oV o):=by
 cases o with
 | none=>exact Zb3 (.inl rfl)
 | some s=>exact Zb3 (.inr (.inr (.inr ⟨s,rfl⟩)))
theorem Zf9{H:Hp}{n:Nat}{p q:Addr}{xs ys:List V}(hp:H p=some (.lst xs))(hq:H q=some (.lst ys))(h:xs.length≤1000)(f:F2 (IsD H n) xs ys):IsD H (n+1) (.ref p) (.ref q):=.inr ⟨p,q,xs,ys,rfl,rfl,.inl ⟨hp,hq⟩,f.len,h,f.at'⟩
theorem Zf5{H:Hp}{n:Nat}{p q:Addr}{xs ys:List V}(hp:H p=some (.tup xs))(hq:H q=some (.tup ys))(h:xs.length≤1000)(f:F2 (IsD H n) xs ys):IsD H (n+1) (.ref p) (.ref q):=.inr ⟨p,q,xs,ys,rfl,rfl,.inr ⟨hp,hq⟩,f.len,h,f.at'⟩
theorem ZfR.same{H H':Hp}{l:Addr}{E:List (Int×Option Str)}(h:ZfR H l E)(s:ZF H H'):ZfR H' l E:=by
 obtain⟨ts,h1,h2,h3⟩:=h
 exact⟨ts,h1,s _ _ h2,fun t ht=>s _ _ (h3 t ht)⟩
theorem ZoS{H:Hp}{l l':Addr}{E:List (Int×Option Str)}{n:Nat}(h:ZfR H l E)(k:ZfR H l' E)(few:E.length≤1000):IsD H (n+3) (.ref l) (.ref l'):=by
 obtain⟨ts,h1,h2,h3⟩:=h
 obtain⟨us,k1,k2,k3⟩:=k
 have lt:ts.length=E.length:=by rw[← h1,Qa]
 have lu:us.length=E.length:=by rw[← k1,Qa]
 refine Zf9 h2 k2 (by rw[Qa];omega) ⟨by rw[Qa,Qa];omega,fun i x y hx hy=>?_⟩
 rw[Qp]at hx hy
 cases ht:ts[i]? with
 | none=>rw[ht]at hx;cases hx
 | some t =>
 cases hu:us[i]? with
 | none=>rw[hu]at hy;cases hy
 | some u =>
 rw[ht]at hx
 rw[hu]at hy
 cases hx
 cases hy
 have e:t.2=u.2:=by
  have a:=congrArg (fun z=>z[i]?) (h1.trans k1.symm)
  simp only[List.getElem?_map,ht,hu,Option.map_some]at a
  exact Ql a
 have q1:=h3 t (Qx ht)
 have q2:=k3 u (Qx hu)
 rw[← e]at q2
 exact Zf5 q1 q2 (by show 2≤1000;decide) (.cons (Za4 _) (.cons (Zqt _) .nil))
theorem Zgs.same{L:List Zx}{H H':Hp}{x:V}(h:Zgs L H x)(s:ZF H H'):Zgs L H' x:=by
 rcases h with h|⟨t,e,z,h1,h2,h3,h4,h5⟩
 ·exact .inl h
 ·exact .inr ⟨t,e,z,h1,h2,h3,s _ _ h4,h5⟩
theorem Zo6{Lo:List Zx}{L:List Zv}{H:Hp}{x y:V}{n:Nat}(ag:Agr Lo L)(nd:(Zz L).Nodup)(h:Zgs (L.map toL) H x)(k:Zgs Lo H y):IsD H (n+2) x y:=by
 have eh:=Zgy ag
 have en:=Zbn ag
 have e1:hdL (L.map toL)=hdM L:=rfl
 rcases h with⟨rfl,hw⟩|⟨t,e,z,rfl,he,hz,ht,hw⟩
 ·rcases k with⟨rfl,kw⟩|⟨t',e',z',rfl,he',hz',ht',kw⟩
  ·exact Zb3 (.inl rfl)
  ·rw[eh,en]at kw
   rw[e1,Zby]at hw
   exact nomatch hw.one kw
 ·rcases k with⟨rfl,kw⟩|⟨t',e',z',rfl,he',hz',ht',kw⟩
  ·rw[eh,en]at kw
   rw[e1,Zby]at hw
   exact nomatch hw.one kw
  ·rw[eh,en]at kw
   rw[e1,Zby]at hw
   have ee:e.1=e'.1:=Ql (hw.one kw)
   have m1:(e.1,e.2.2)∈(L.map toL).map (fun e=>(e.1,e.2.2)):=Qd (f:=fun e:Zx=>(e.1,e.2.2)) he
   have m2:(e'.1,e'.2.2)∈(L.map toL).map (fun e=>(e.1,e.2.2)):=by rw[← Ze5 ag (fun x=>x)];exact Qd (f:=fun e:Zx=>(e.1,e.2.2)) he'
   have n2:(((L.map toL).map (fun e=>(e.1,e.2.2))).map (·.1)).Nodup:=by rw[Qi];exact(Zby L) ▸ nd
   have e2:=ZbP n2 m1 m2 ee
   injection e2 with _ e3
   rw[e3,hz']at hz
   cases hz
   rw[ee,e3]at ht
   exact Zf5 ht ht' (by show 3≤1000;decide) (.cons (Za4 _) (.cons (Za4 _) (.cons (Zb3 (.inr (.inr (.inr ⟨_,rfl⟩)))) .nil)))
theorem Zpk{L:List Zx}{E:List (Int×Option Str)}(h:Zpo L E)(up:(L.map (·.1)).Pairwise (·<·)):E=Zhu L:=by
 have ek:E.map (·.1)=L.map (·.1):=ZeV h.per h.up up
 have nd:(E.map (·.1)).Nodup:=by rw[ek];exact Zc1 up
 apply List.ext_getElem?
 intro i
 unfold Zhu
 rw[Qp]
 cases he:L[i]? with
 | none =>
  have:E[i]? = none:=by
   rw[Q6]at he ⊢
   have:=congrArg List.length ek
   rw[Qa,Qa]at this
   omega
  rw[this];rfl
 | some e =>
  have hm:=h.hd e (Qx he)
  have hk:(E.map (·.1))[i]? = some e.1:=by rw[ek,Qp,he];rfl
  rw[Qp]at hk
  cases hx:E[i]? with
  | none=>rw[hx]at hk;cases hk
  | some x =>
   rw[hx]at hk
   have e1:x.1=e.1:=Ql hk
   rw[ZbP nd (Qx hx) hm e1]
   rfl
theorem ZhH{H:Hp}:∀ (ts:List (Addr×Key×V)) (E:List (Int×Option Str)),ts.map (·.2)=kvH E→(∀t∈ts,H t.1=some (.tup [kV t.2.1,t.2.2]))→∃us:List (Addr×Int×Option Str),us.map (·.2)=E∧us.map (·.1)=ts.map (·.1)∧∀t∈us,H t.1=some (.tup [.int t.2.1,oV t.2.2])
 | [],[],_,_=>⟨[],rfl,rfl,fun t h=>by cases h⟩
 | [],_::_,h,_=>by unfold kvH at h;cases h
 | _::_,[],h,_=>by unfold kvH at h;cases h
 | t::ts,e::E,h,k=>by
  unfold kvH at h
  rw[Qj,Qj]at h
  injection h with h1 h2
  obtain⟨us,a,b,c⟩:=ZhH ts E h2 fun x hx=>k x (Qv _ hx)
  refine⟨(t.1,e)::us,by rw[Qj,a],by rw[Qj,Qj,b],fun u hu=>?_⟩
  rcases QI.mp hu with rfl|hu
  ·have:=k t (by simp)
   rw[h1]at this
   exact this
  ·exact c u hu
theorem Zjy{H:Hp}{l:Addr}{ts:List (Addr×Key×V)}{E:List (Int×Option Str)}(h:ts.map (·.2)=kvH E)(k:∀t∈ts,H t.1=some (.tup [kV t.2.1,t.2.2]))(hl:H l=some (.lst (ts.map fun t=>V.ref t.1))):ZfR H l E:=by
 obtain⟨us,a,b,c⟩:=ZhH ts E h k
 refine⟨us,a,?_,c⟩
 rw[hl]
 have:=congrArg (List.map V.ref) b
 rw[Qi,Qi]at this
 exact congrArg (fun z=>some (HO.lst z)) this.symm
theorem ZdJ(rd:Addr)(nb li lo:Int)(sd:Addr)(best:V):(mgF rd nb li lo sd best).lookup ("likenings" : Str)=none:=Za8 _ _ _ _ _ _ (by decide +kernel) (by decide +kernel) (by decide +kernel) (by decide +kernel) (by decide +kernel) (by decide +kernel)
theorem ZfS(rd:Addr)(nb li lo:Int)(sd:Addr)(best:V):(mgF rd nb li lo sd best).lookup ("looks" : Str)=none:=Za8 _ _ _ _ _ _ (by decide +kernel) (by decide +kernel) (by decide +kernel) (by decide +kernel) (by decide +kernel) (by decide +kernel)
theorem Ze2(rd:Addr)(nb li lo:Int)(sd:Addr)(best:V):(mgF rd nb li lo sd best).lookup ("coming" : Str)=none:=Za8 _ _ _ _ _ _ (by decide +kernel) (by decide +kernel) (by decide +kernel) (by decide +kernel) (by decide +kernel) (by decide +kernel)
theorem Zka(rd:Addr)(nb li lo:Int)(sd:Addr)(best:V):(mgF rd nb li lo sd best).lookup ("left" : Str)=none:=Za8 _ _ _ _ _ _ (by decide +kernel) (by decide +kernel) (by decide +kernel) (by decide +kernel) (by decide +kernel) (by decide +kernel)
theorem ZjS(rd:Addr)(nb li lo:Int)(sd:Addr)(best:V):(mgF rd nb li lo sd best).lookup ("heads" : Str)=none:=Za8 _ _ _ _ _ _ (by decide +kernel) (by decide +kernel) (by decide +kernel) (by decide +kernel) (by decide +kernel) (by decide +kernel)
def ZmI(cR cM:Addr):Sp:=fun vs H Q _=>∃ (m rd sd:Addr) (L:List Zv) (s:StL) (nb li lo:Int) (w:Option Int) (o ra ga:Addr) (Lo:List Zx) (nb':Int),vs=[.ref m,.ref o]∧ZP cR cM H m rd sd L s nb li lo (Zce w)∧Win (hdM L) (Zz L) w∧Own H o ra ga Lo nb' li lo∧Agr Lo L∧∀H',ZF H H'→Q (.bl true) H'
theorem Zl0(T:Zaf K mg cRow cMerge)(f_l_heads:Df P w K mg base 1 "_law_heads" ["_law_own"] ZeY)(f_l_same:Df P w K mg base 5 "_law_same" ["_law_found", "_law_due"] (Zio 4))(f_l_coming:Df P w K mg base 2 "_law_coming" ["_law_own"] ZkB)(f_l_left_of:Df P w K mg base 1 "_law_left_of" ["_law_own"] Zli)
  (f_Merge_likenings:Mf P w K mg base 1 cMerge "likenings" ["self"] (ZpP cRow cMerge)) (f_Merge_looks:Mf P w K mg base 1 cMerge "looks" ["self"] (ZpX cRow cMerge)) (f_Merge_coming:Mf P w K mg base 3 cMerge "coming" ["self"] (Zg2 cRow cMerge)) (f_Merge_left:Mf P w K mg base 2 cMerge "left" ["self"] (Zlb cRow cMerge)) (f_Merge_heads:Mf P w K mg base 3 cMerge "heads" ["self"] (ZjX cRow cMerge)) :
  Df P w K mg base 6 "_law_stands" ["_law_merge", "_law_own"] (ZmI cRow cMerge):=by
 refine T.t_l_stands.df ZcO (fun vs H Q E h=>?_) (fun cdv f A outer s H vs Q E hr h=>?_)
 ·obtain⟨m,rd,sd,L,s,nb,li,lo,w,o,ra,ga,Lo,nb',rfl,_⟩:=h
  rfl
 obtain⟨m,rd,sd,L,s,nb,li,lo,w,o,ra,ga,Lo,nb',rfl,M,W,ow,ag,q⟩:=h
 refine⟨_,#[Zf,#[Zw,2,ZcO.nd,(Or.inl rfl),(@Zi6 _ _ _ _ _ _ _ rfl (by rfl) T.b.n_list #[Zy,f_l_heads,hr,#[Za,‹1›,#[Ze]],(by rfl)] (by rfl) (by rfl) (by rfl))],#[Zf,#[Zw,3,ZcO.nd,(Or.inl rfl),#[Zax,#[Za,#[Zo,(ixG hr),‹1›,#[ZA]],#[Za,#[Zo,(ixG hr),‹1›,#[ZA]],#[Ze]]]]],#[Zf,#[ZZ,(@PW.pt _ _ _ #[ZbC,#[Zm,Za1,#[ZG,ZfD,#[ZG,Z8,#[Zo,(ixG hr),‹1›,#[ZA]],#[Zo,(ixG hr),‹1›,#[ZA]]],#[Zi]],#[Zi],(Zp _)],#[Zbz,(@ZgZ _ _ _ _ #[ZcV,#[Zy,f_l_same,hr,#[Za,#[Zax,#[Za,#[Zay,f_Merge_likenings,T.cl_Merge,hr,‹0›],#[Za,#[Zay,f_Merge_looks,T.cl_Merge,hr,‹0›],#[Ze]]]],#[Za,‹3›,#[Ze]]],(by rfl)]])]]),#[Zj,#[Zs,(@Zhd _ _ _ _)]],#[ZE]],#[Zf,#[Zw,4,ZcO.nd,(Or.inl rfl),#[Zax,#[Za,#[Zay,f_Merge_coming,T.cl_Merge,hr,‹0›],#[Za,#[Zay,f_Merge_left,T.cl_Merge,hr,‹0›],#[Za,#[Zay,f_Merge_heads,T.cl_Merge,hr,‹0›],#[Za,#[Zay,f_Merge_likenings,T.cl_Merge,hr,‹0›],#[Za,#[Zay,f_Merge_looks,T.cl_Merge,hr,‹0›],#[Ze]]]]]]]],#[Zj,#[Zs,#[Zy,f_l_same,hr,#[Za,‹4›,#[Za,#[ZG,ZeG,#[Zax,#[Za,#[Zy,f_l_coming,hr,#[Za,‹1›,#[Ze]],(by rfl)],#[Za,#[Zy,f_l_left_of,hr,#[Za,‹1›,#[Ze]],(by rfl)],#[Za,‹2›,#[Ze]]]]],‹3›],#[Ze]]],(by rfl)]]]]]]],?_⟩
 have hup:(Lo.map (·.1)).Pairwise (·<·):=by rw[Zbn ag];exact M.up
 have sz2:2≤sizeLine:=by decide
 refine⟨_,rfl,o,ra,ga,Lo,nb',li,lo,rfl,ow,fun D E' H1 hD hds ho s1=>?_⟩
 refine⟨D,_,rfl,hds.at',fun l ts H2 hl hts hat s2 hl2=>?_⟩
 have eE:=Zpk ho hup
 have hl2':ZfR H2 l (Zhu (L.map toL)):=by
  rw[← ZoA ag,← eE]
  exact Zjy hts (fun t ht=>(hat t ht).2) hl2
 have s02:ZF H H2:=s1.trans s2
 have ow2:=ow.same s02
 refine⟨_,rfl,o,_,rfl,ZN.k' (k:=.inr "likenings") ow2.at' (ZbR ..),_,rfl,o,_,rfl,ZN.k' (k:=.inr "looks") ow2.at' (Zfw ..),sz2,fun sf hsf=>?_⟩
 have s3:=Zh hsf (.lst [.int li,.int lo])
 have hsf3:(upd H2 sf (.lst [.int li,.int lo])) sf=some (.lst [.int li,.int lo]):=Zd
 generalize upd H2 sf (.lst [.int li,.int lo])=H3 at s3 hsf3 ⊢
 have ow3:=ow2.same s3
 have s03:=s02.trans s3
 refine⟨_,rfl,o,_,rfl,ZN.k' (k:=.inr "number") ow3.at' (ZeJ ..),_,rfl,o,_,rfl,ZN.k' (k:=.inr "likenings") ow3.at' (ZbR ..),_,_,rfl,rfl,_,_,rfl,rfl,(by show (0:Int)<2;decide),rfl,_,rfl,?_⟩
 refine Zqi (fun _ T' hT'=>?_) (fun H4 s4=>?_)
 ·have M3:=M.same s03
  obtain⟨dx,hm3⟩:=M3.ob
  refine⟨_,rfl,m,dx,_,rfl,hm3,ZdJ ..,m,rd,sd,L,s,nb,li,lo,_,rfl,M3,?_⟩
  refine⟨_,rfl,m,dx,_,rfl,hm3,ZfS ..,m,rd,sd,L,s,nb,li,lo,_,rfl,M3,sz2,fun t ht=>?_⟩
  have s4:=Zh ht (.lst [.int li,.int lo])
  refine⟨_,rfl,.ref t,.ref sf,rfl,Zf9 Zd (s4 _ _ hsf3) (by show 2≤1000;decide) (.cons (Za4 _) (.cons (Za4 _) .nil)),fun H5 s5=>⟨_,rfl,hT' H5 (s4.trans s5)⟩⟩
 have s04:=s03.trans s4
 have M4:=M.same s04
 obtain⟨dx4,hm4⟩:=M4.ob
 refine ZbE ?_
 refine⟨_,rfl,m,dx4,_,rfl,hm4,Ze2 ..,m,rd,sd,L,s,nb,li,lo,w,rfl,M4,W,fun xc H5 hc s5=>?_⟩
 have s05:=s04.trans s5
 have M5:=M.same s05
 obtain⟨dx5,hm5⟩:=M5.ob
 refine⟨_,rfl,m,dx5,_,rfl,hm5,Zka ..,m,rd,sd,L,s,nb,li,lo,_,rfl,M5,fun H6 s6=>?_⟩
 have s06:=s05.trans s6
 have M6:=M.same s06
 obtain⟨dx6,hm6⟩:=M6.ob
 refine⟨_,rfl,m,dx6,_,rfl,hm6,ZjS ..,m,rd,sd,L,s,nb,li,lo,_,rfl,M6,fun lh H7 hlh hh7 s7=>?_⟩
 have s07:=s06.trans s7
 have M7:=M.same s07
 obtain⟨dx7,hm7⟩:=M7.ob
 refine⟨_,rfl,m,dx7,_,rfl,hm7,ZdJ ..,m,rd,sd,L,s,nb,li,lo,_,rfl,M7,?_⟩
 refine⟨_,rfl,m,dx7,_,rfl,hm7,ZfS ..,m,rd,sd,L,s,nb,li,lo,_,rfl,M7,(by show 5≤sizeLine;decide),fun tt htt=>?_⟩
 have s8:=Zh htt (.lst [xc,.int (Zat (L.map toL)).sum,.ref lh,.int li,.int lo])
 have htt8:(upd H7 tt (.lst [xc,.int (Zat (L.map toL)).sum,.ref lh,.int li,.int lo])) tt=some (.lst [xc,.int (Zat (L.map toL)).sum,.ref lh,.int li,.int lo]):=Zd
 generalize upd H7 tt (.lst [xc,.int (Zat (L.map toL)).sum,.ref lh,.int li,.int lo])=H8 at s8 htt8 ⊢
 have s08:=s07.trans s8
 refine⟨_,rfl,_,rfl,o,ra,ga,Lo,nb',li,lo,rfl,ow.same s08,fun yc H9 hyc s9=>?_⟩
 have s09:=s08.trans s9
 refine⟨_,rfl,o,ra,ga,Lo,nb',li,lo,rfl,ow.same s09,fun H10 s10=>?_⟩
 refine⟨_,rfl,(by show 3≤sizeLine;decide),fun c3 hc3=>?_⟩
 have s11:=Zh hc3 (.lst [yc,.int (Zat Lo).sum,.ref l])
 have hc11:(upd H10 c3 (.lst [yc,.int (Zat Lo).sum,.ref l])) c3=some (.lst [yc,.int (Zat Lo).sum,.ref l]):=Zd
 generalize upd H10 c3 (.lst [yc,.int (Zat Lo).sum,.ref l])=H11 at s11 hc11 ⊢
 have s911:ZF H9 H11:=s10.trans s11
 have s311:ZF H3 H11:=(((((s4.trans s5).trans s6).trans s7).trans s8).trans s9).trans s911
 refine⟨_,rfl,c3,sf,_,_,rfl,rfl,hc11,s311 _ _ hsf3,(by show 3+2≤sizeLine;decide),fun c4 hc4=>?_⟩
 have s12:=Zh hc4 (.lst ([yc,.int (Zat Lo).sum,.ref l]++[.int li,.int lo]))
 have hc12:(upd H11 c4 (.lst ([yc,.int (Zat Lo).sum,.ref l]++[.int li,.int lo]))) c4=some (.lst ([yc,.int (Zat Lo).sum,.ref l]++[.int li,.int lo])):=Zd
 generalize upd H11 c4 (.lst ([yc,.int (Zat Lo).sum,.ref l]++[.int li,.int lo]))=H12 at s12 hc12 ⊢
 have s912:=s911.trans s12
 have s812:=s9.trans s912
 have s712:=s8.trans s812
 have s212:=s3.trans (s311.trans s12)
 have sl5:=s6.trans (s7.trans s712)
 rw[ZnM ag]at hc12
 refine⟨.ref tt,.ref c4,rfl,Zf9 (s812 _ _ htt8) hc12 (by show 5≤1000;decide) (.cons (Zo6 ag M.nd (hc.same sl5) (hyc.same s912)) (.cons (Za4 _) (.cons (ZoS (hh7.same s712) (hl2'.same s212) ?_) (.cons (Za4 _) (.cons (Za4 _) .nil))))),fun H13 s13=>q H13 (s08.trans (s812.trans s13))⟩
 unfold Zhu
 have:=M.few
 rw[Qa,Qa];omega
def rowsD(rs:List (Addr×List Str)):PyData:=.list (rs.map fun x=>.list (x.2.map PyData.str))
def ZU(M:List Int)(n:Int):List Int:=if n∈lo M then lo M else up M
def Zae(M:List Int)(n:Int):List Int:=if n∈lo M then up M else lo M
def ZK:Nat→List Int→Int→List (List Int)
 | 0,_,_=>[]
 | k+1,M,n=>if 2≤M.length then ZK k (ZU M n) n++[M] else []
inductive Sub (N:List Int):List Int→Prop
 | top:Sub N N
 | lo {M:List Int}:Sub N M→2≤M.length→Sub N (lo M)
 | up {M:List Int}:Sub N M→2≤M.length→Sub N (up M)
theorem Sub.trans{A B C:List Int}(h:Sub A B)(k:Sub B C):Sub A C:=by
 induction k with
 | top=>exact h
 | lo _ h2 ih=>exact ih.lo h2
 | up _ h2 ih=>exact ih.up h2
theorem Sub.rise{N M:List Int}(h:Sub N M)(r:Zag N):Zag M:=by
 induction h with
 | top=>exact r
 | lo _ _ ih=>exact Zel ih
 | up _ _ ih=>exact Zek ih
theorem Sub.mem{N M:List Int}(h:Sub N M){x:Int}(hx:x∈M):x∈N:=by
 induction h with
 | top=>exact hx
 | lo _ _ ih=>exact ih (QW hx)
 | up _ _ ih=>exact ih (Qaa hx)
theorem Sub.len{N M:List Int}(h:Sub N M):M.length≤N.length:=by
 induction h with
 | top=>exact Qh _
 | lo _ h2 ih=>exact Qy (Qam (ZcP h2).1) ih
 | up _ h2 ih=>exact Qy (Qam (ZdC h2).1) ih
theorem Zgo{M:List Int}(h:2≤M.length)(n:Int):Sub M (ZU M n):=by
 unfold ZU
 split
 ·exact Sub.top.lo h
 ·exact Sub.top.up h
theorem ZeI{M:List Int}(h:2≤M.length)(n:Int):(ZU M n).length<M.length:=by
 unfold ZU
 split
 ·exact(ZcP h).1
 ·exact(ZdC h).1
theorem ZcY{M:List Int}{n:Int}(h:n∈M):n∈ZU M n:=by
 unfold ZU
 split
 ·assumption
 ·rename_i hn
  rw[← Zca M]at h
  exact(Qm.mp h).resolve_left hn
theorem Zg5{M:List Int}(r:Zag M){n:Int}(hn:n∈ZU M n):n ∉ Zae M n:=by
 intro h
 unfold Zae ZU at *
 split at h
 ·rename_i hl
  have:=ZL r hl h
  omega
 ·rename_i hl;exact hl h
theorem Zem(M:List Int)(n:Int):(ZU M n++Zae M n).Perm M:=by
 unfold ZU Zae
 split
 ·rw[Zca]
 ·exact List.perm_append_comm.trans (by rw[Zca])
def Kys(M:List Int)(k:Int×Int):Prop:=∃M',Sub M M'∧2≤M'.length∧k=ZS M'
theorem Zir{M:List Int}{k:Int×Int}(h:Kys M k):k.1∈M∧k.2∈M:=by
 obtain⟨M',s,h2,rfl⟩:=h
 have hn:M'≠[]:=Zaj (by omega)
 exact⟨s.mem (Zcl hn),s.mem (Zcq hn)⟩
theorem ZnX{M:List Int}(r:Zag M)(h2:2≤M.length){k:Int×Int}(h:Kys (lo M) k):k≠ZS M∧¬ Kys (up M) k:=by
 have:=Zir h
 refine⟨fun z=>?_,fun m=>?_⟩
 ·have h1:=ZfQ h2
  rw[z,h1]at this
  have:=ZL r this.2 (Zcq (Zaj (ZdC h2).2))
  omega
 ·have:=ZL r this.1 (Zir m).1
  omega
theorem Znc{M:List Int}(r:Zag M)(h2:2≤M.length){k:Int×Int}(h:Kys (up M) k):k≠ZS M∧¬ Kys (lo M) k:=by
 have:=Zir h
 refine⟨fun z=>?_,fun m=>?_⟩
 ·have h1:=Zfr h2
  rw[z,h1]at this
  have:=ZL r (Zcl (Zaj (ZcP h2).2)) this.1
  omega
 ·have:=ZL r (Zir m).1 this.1
  omega
theorem Zjs{M:List Int}(r:Zag M)(h2:2≤M.length){n:Int}{k:Int×Int}(h:Kys (ZU M n) k):k≠ZS M∧¬ Kys (Zae M n) k:=by
 unfold ZU at h
 unfold Zae
 split
 ·rename_i hl;rw[if_pos hl]at h;exact ZnX r h2 h
 ·rename_i hl;rw[if_neg hl]at h;exact Znc r h2 h
theorem ZjC{M:List Int}(r:Zag M)(h2:2≤M.length){n:Int}{k:Int×Int}(h:Kys (Zae M n) k):k≠ZS M∧¬ Kys (ZU M n) k:=by
 unfold Zae at h
 unfold ZU
 split
 ·rename_i hl;rw[if_pos hl]at h;exact Znc r h2 h
 ·rename_i hl;rw[if_neg hl]at h;exact ZnX r h2 h
theorem ZfE{M M':List Int}(h:Sub M M'):M'=M∨(2≤M.length∧(Sub (lo M) M'∨Sub (up M) M')):=by
 induction h with
 | top=>exact .inl rfl
 | lo h h2 ih =>
  rcases ih with rfl|⟨g,ih⟩
  ·exact .inr ⟨h2,.inl .top⟩
  ·exact .inr ⟨g,ih.imp (fun z=>z.lo h2) (fun z=>z.lo h2)⟩
 | up h h2 ih =>
  rcases ih with rfl|⟨g,ih⟩
  ·exact .inr ⟨h2,.inr .top⟩
  ·exact .inr ⟨g,ih.imp (fun z=>z.up h2) (fun z=>z.up h2)⟩
theorem Zmy{M M':List Int}(n:Int)(h:Sub M M'):M'=M∨(2≤M.length∧(Sub (ZU M n) M'∨Sub (Zae M n) M')):=by
 rcases ZfE h with h|⟨g,h⟩
 ·exact .inl h
 ·refine .inr ⟨g,?_⟩
  unfold ZU Zae
  split
  ·exact h
  ·exact h.symm
def Zew(hd:Hd)(s:StL)(A B:List Int)(k:Int×Int):Prop :=
 (∀a b x y,Win hd A (some a)→Win hd B (some b)→hd a=some x→hd b=some y→∃t lz,Z0 s k=some (some (t,lz,((lcp x y:Nat):Int)))∧((Btr x a y b∧lz=b)∨(Btr y b x a∧lz=a))) ∧
 ((Win hd A none∨Win hd B none)→Z0 s k=none∨Z0 s k=some none)
theorem Zew.swap{hd:Hd}{s:StL}{A B:List Int}{k:Int×Int}(h:Zew hd s A B k):Zew hd s B A k:=by
 refine⟨fun a b x y wa wb hx hy=>?_,fun hw=>h.2 hw.symm⟩
 obtain⟨t,lz,e,o⟩:=h.1 b a y x wb wa hy hx
 exact⟨t,lz,by rw[Zcz x y];exact e,o.symm⟩
def ZR(hd:Hd)(s:StL)(N:List Int):Prop:=∀M,Sub N M→2≤M.length→Zew hd s (lo M) (up M) (ZS M)
theorem ZR.sub{hd:Hd}{s:StL}{N M:List Int}(h:ZR hd s N)(k:Sub N M):ZR hd s M:=fun M' h' h2=>h M' (k.trans h') h2
theorem ZR.at_side{hd:Hd}{s:StL}{M:List Int}(h:ZR hd s M)(h2:2≤M.length)(n:Int):Zew hd s (ZU M n) (Zae M n) (ZS M):=by
 have:=h M .top h2
 unfold ZU Zae
 split
 ·exact this
 ·exact this.swap
theorem Zc5:∀ (n:Nat) (hd:Hd) (s:StL) (N:List Int),Zag N→N.length≤2 ^ (n-1)→0<n→Zes hd s n N→ZR hd s N
 | 0,_,_,_,_,_,h,_=>absurd h (by omega)
 | n+1,hd,s,N,r,hl,_,h=>fun M hM h2=>by
  rw[Q8]at hl
  rcases ZfE hM with rfl|⟨g,hM⟩
  ·obtain⟨_,_,c1,c2⟩:=h h2
   refine⟨fun a b x y wa wb hx hy=>?_,c2⟩
   obtain⟨t,e⟩:=c1 a b x y wa wb hx hy
   have hab:=ZL r wa.1 wb.1
   by_cases hb:ZQ x y<0∨(ZQ x y=0∧a<b)
   ·rw[if_pos hb]at e;exact⟨t,b,e,.inl ⟨hb,rfl⟩⟩
   ·rw[if_neg hb]at e;exact⟨t,a,e,.inr ⟨(Btr.total (show a≠b by omega)).resolve_left hb,rfl⟩⟩
  ·obtain⟨h1,h3,_⟩:=h g
   have hn:1≤n:=by
    cases n with
    | zero=>simp at hl;omega
    | succ m=>omega
   have hp:2 ^ n=2*2 ^ (n-1):=by
    obtain⟨m,rfl⟩:∃m,n=m+1:=⟨n-1,by omega⟩
    rw[QaT,Q8];omega
   rcases hM with hM|hM
   ·exact Zc5 n hd s (lo N) (Zel r) (by unfold lo mid;rw[Qz];omega) hn h1 M hM h2
   ·exact Zc5 n hd s (up N) (Zek r) (by unfold up mid;rw[QZ];omega) hn h3 M hM h2
theorem Zew.congr{hd hd':Hd}{s s':StL}{A B:List Int}{k:Int×Int}(h:Zew hd s A B k)(ha:∀m∈A,hd' m=hd m)(hb:∀m∈B,hd' m=hd m)(hk:Z0 s' k=Z0 s k):Zew hd' s' A B k:=by
 refine⟨fun a b x y wa wb hx hy=>?_,fun hw=>?_⟩
 ·rw[hk]
  exact h.1 a b x y (wa.congr fun m hm=>(ha m hm).symm) (wb.congr fun m hm=>(hb m hm).symm) (by rw[← ha a wa.1];exact hx) (by rw[← hb b wb.1];exact hy)
 ·rw[hk]
  exact h.2 (hw.imp (fun w=>w.congr fun m hm=>(ha m hm).symm) (fun w=>w.congr fun m hm=>(hb m hm).symm))
theorem ZR.congr{hd hd':Hd}{s s':StL}{M:List Int}(h:ZR hd s M)(hh:∀m∈M,hd' m=hd m)(hk:∀k,Kys M k→Z0 s' k=Z0 s k):ZR hd' s' M:=fun M' hM h2 =>
 (h M' hM h2).congr (fun m hm=>hh m (hM.mem (QW hm))) (fun m hm=>hh m (hM.mem (Qaa hm))) (hk _ ⟨M',hM,h2,rfl⟩)
theorem Zmg{hd:Hd}{s:StL}{M:List Int}{n:Int}(h1:ZR hd s (ZU M n))(h3:ZR hd s (Zae M n))(h:Zew hd s (ZU M n) (Zae M n) (ZS M)):ZR hd s M:=fun M' hM h2=>by
 rcases Zmy n hM with rfl|⟨g,hM|hM⟩
 ·unfold ZU Zae at h
  split at h
  ·exact h
  ·exact h.swap
 ·exact h1 M' hM h2
 ·exact h3 M' hM h2
def low(n:Int)(C:List (List Int)):Nat→List Int
 | 0=>[n]
 | i+1=>C.getD i []
theorem Ze1:∀ (k:Nat) (M:List Int) (n:Int),n∈M→M.length≤2 ^ k→(∀i X,(ZK k M n)[i]? = some X→Sub M X∧2≤X.length∧n∈X∧ZU X n=low n (ZK k M n) i)∧low n (ZK k M n) (ZK k M n).length=M∧(ZK k M n).length≤k
 | 0,M,n,hn,hl=>by
  refine⟨fun i X h=>by unfold ZK at h;simp at h,?_,Qh _⟩
  have h1:M.length=1:=by
   have:=QaX hn
   simp at hl;omega
  obtain⟨x,rfl⟩:=QaW.mp h1
  have:n=x:=by simpa using hn
  rw[this];rfl
 | k+1,M,n,hn,hl=>by
  unfold ZK
  by_cases h2:2≤M.length
  ·rw[if_pos h2]
   have hs:(ZU M n).length≤2 ^ k:=by
    rw[QaT]at hl
    unfold ZU
    split
    ·unfold lo mid;rw[Qz];omega
    ·unfold up mid;rw[QZ];omega
   obtain⟨a,b,c⟩:=Ze1 k (ZU M n) n (ZcY hn) hs
   refine⟨fun i X h=>?_,?_,by rw[Qf,Qt];omega⟩
   ·have lw:∀j,j≤(ZK k (ZU M n) n).length→low n (ZK k (ZU M n) n++[M]) j=low n (ZK k (ZU M n) n) j:=fun j hj=>by
     cases j with
     | zero=>rfl
     | succ j =>
      show (ZK k (ZU M n) n++[M]).getD j []=(ZK k (ZU M n) n).getD j []
      rw[QF,QF,QM (by omega)]
    by_cases hi:i<(ZK k (ZU M n) n).length
    ·rw[QM hi]at h
     obtain⟨g1,g2,g3,g4⟩:=a i X h
     exact⟨(Zgo h2 n).trans g1,g2,g3,by rw[lw i (by omega)];exact g4⟩
    ·have hi':i=(ZK k (ZU M n) n).length:=by
      have:=(Qg.mp h).1
      rw[Qf,Qt]at this
      omega
     subst hi'
     rw[QN (Qh _),QaU]at h
     cases h
     exact⟨.top,h2,hn,by rw[lw _ (Qh _),b]⟩
   ·rw[Qf,Qt]
    show (ZK k (ZU M n) n++[M]).getD _ []=M
    rw[QF,QN (Qh _),QaU];rfl
  ·rw[if_neg h2]
   refine⟨fun i X h=>by simp at h,?_,Qw _⟩
   have h1:M.length=1:=by have:=QaX hn;omega
   obtain⟨x,rfl⟩:=QaW.mp h1
   have:n=x:=by simpa using hn
   rw[this];rfl
structure Tk (hd hd':Hd) (N:List Int) (n:Int) (z:List Nat):Prop where
 win:Win hd N (some n)
 key:hd n=some z
 oth:∀b,b≠n→hd' b=hd b
 nxt:∀x,hd' n=some x→ZQ z x≤0
 up:Zag N
theorem Tk.ge{hd hd':Hd}{N:List Int}{n:Int}{z:List Nat}(h:Tk hd hd' N n z){b:Int}(hb:b∈N){y:List Nat}(hy:hd' b=some y):ZQ z y≤0:=by
 by_cases e:b=n
 ·exact h.nxt y (by rw[← e];exact hy)
 ·obtain⟨_,x,hx,hw⟩:=h.win
  rw[h.key]at hx
  cases hx
  rw[h.oth b e]at hy
  rcases hw b hb y hy with z|z
  ·exact absurd z e
  ·rcases z with z|z<;>omega
inductive Ag (hd:Hd) (z:List Nat):List (List Int×List Int)→Int→Int→Prop
 | nil:Ag hd z [] 0 0
 | no {C:List (List Int×List Int)} {A B:List Int} {k q:Int}:Ag hd z C k q→(Win hd A none∨Win hd B none)→Ag hd z (C++[(A,B)]) k q
 | eq {C:List (List Int×List Int)} {A B:List Int} {k q:Int} {a b:Int} {x y:List Nat}:Ag hd z C k q→Win hd A (some a)→Win hd B (some b)→hd a=some x→hd b=some y→lcp x z=lcp y z→Ag hd z (C++[(A,B)]) (k+1) (q+((lcp x y:Nat)-(lcp x z:Nat)+1))
 | ne {C:List (List Int×List Int)} {A B:List Int} {k q:Int} {a b:Int} {x y:List Nat}:Ag hd z C k q→Win hd A (some a)→Win hd B (some b)→hd a=some x→hd b=some y→lcp x z≠lcp y z→Ag hd z (C++[(A,B)]) (k+1) q
theorem ZgK{α:Type}{C D:List α}{c d:α}(h:C++[c]=D++[d]):C=D∧c=d:=by
 have:=List.append_inj' h rfl
 exact⟨this.1,by simpa using this.2⟩
theorem Ag.last{hd:Hd}{z:List Nat}{D:List (List Int×List Int)}{k q:Int}(h:Ag hd z D k q):∀ {C:List (List Int×List Int)} {A B:List Int},D=C++[(A,B)]→∃k0 q0,Ag hd z C k0 q0∧(((Win hd A none∨Win hd B none)∧k=k0∧q=q0)∨(∃a b x y,Win hd A (some a)∧Win hd B (some b)∧hd a=some x∧hd b=some y∧k=k0+1∧q=if lcp x z=lcp y z then q0+((lcp x y:Nat)-(lcp x z:Nat)+1) else q0)):=by
 intro C A B e
 cases h with
 | nil=>simp at e
 | no g hw=>obtain⟨rfl,e2⟩:=ZgK e;cases e2;exact⟨_,_,g,.inl ⟨hw,rfl,rfl⟩⟩
 | eq g wa wb hx hy he=>obtain⟨rfl,e2⟩:=ZgK e;cases e2;exact⟨_,_,g,.inr ⟨_,_,_,_,wa,wb,hx,hy,rfl,by rw[if_pos he]⟩⟩
 | ne g wa wb hx hy he=>obtain⟨rfl,e2⟩:=ZgK e;cases e2;exact⟨_,_,g,.inr ⟨_,_,_,_,wa,wb,hx,hy,rfl,by rw[if_neg he]⟩⟩
theorem Ag.one{hd:Hd}{z:List Nat}{C:List (List Int×List Int)}{k q:Int}(h:Ag hd z C k q):∀ {k' q':Int},Ag hd z C k' q'→k=k'∧q=q':=by
 induction h with
 | nil =>
  intro k' q' g
  generalize hC:([]:List (List Int×List Int))=C at g
  cases g with
  | nil=>exact⟨rfl,rfl⟩
  | no _ _=>simp at hC
  | eq _ _ _ _ _ _=>simp at hC
  | ne _ _ _ _ _ _=>simp at hC
 | no g hw ih =>
  intro k' q' g'
  obtain⟨k0,q0,g0,o⟩:=g'.last rfl
  obtain⟨e1,e2⟩:=ih g0
  rcases o with⟨_,rfl,rfl⟩|⟨a,b,x,y,wa,wb,_⟩
  ·exact⟨e1,e2⟩
  ·rcases hw with hw|hw
   ·exact nomatch hw.one wa
   ·exact nomatch hw.one wb
 | eq g wa wb hx hy he ih =>
  intro k' q' g'
  obtain⟨k0,q0,g0,o⟩:=g'.last rfl
  obtain⟨e1,e2⟩:=ih g0
  rcases o with⟨hw,_⟩|⟨a,b,x,y,wa',wb',hx',hy',rfl,rfl⟩
  ·rcases hw with hw|hw
   ·exact nomatch hw.one wa
   ·exact nomatch hw.one wb
  ·have ea:=Ql (wa.one wa')
   have eb:=Ql (wb.one wb')
   subst ea;subst eb
   rw[hx]at hx';cases hx'
   rw[hy]at hy';cases hy'
   rw[if_pos he]
   exact⟨by rw[e1],by rw[e2]⟩
 | ne g wa wb hx hy he ih =>
  intro k' q' g'
  obtain⟨k0,q0,g0,o⟩:=g'.last rfl
  obtain⟨e1,e2⟩:=ih g0
  rcases o with⟨hw,_⟩|⟨a,b,x,y,wa',wb',hx',hy',rfl,rfl⟩
  ·rcases hw with hw|hw
   ·exact nomatch hw.one wa
   ·exact nomatch hw.one wb
  ·have ea:=Ql (wa.one wa')
   have eb:=Ql (wb.one wb')
   subst ea;subst eb
   rw[hx]at hx';cases hx'
   rw[hy]at hy';cases hy'
   rw[if_neg he]
   exact⟨by rw[e1],e2⟩
theorem Zlf:∀ (x z y:List Nat),lcp z y<lcp x z→ZQ x y=ZQ z y
 | [],z,y,h=>by rw[lcp_nil']at h;omega
 | _::_,[],y,h=>by rw[Zee]at h;omega
 | a::x,b::z,[],h=>by unfold ZQ;rfl
 | a::x,b::z,c::y,h=>by
  unfold lcp at h
  by_cases e:a=b
  ·subst e
   rw[if_pos rfl]at h
   by_cases e2:a=c
   ·subst e2
    rw[if_pos rfl]at h
    unfold ZQ
    rw[if_pos rfl,if_pos rfl]
    exact Zlf x z y (by omega)
   ·unfold ZQ
    rw[if_neg e2,if_neg e2]
  ·rw[if_neg e]at h;omega
theorem Zo0{x z y:List Nat}(h:lcp z y<lcp x z):lcp x y=lcp z y:=by
 have:=Zfv x y z
 rw[Zcz y z]at this
 omega
theorem ZqJ{x z y:List Nat}(h:lcp x z=lcp y z):lcp x z≤lcp x y:=by
 have:=Zfv x y z
 omega
theorem Zi9{x z y:List Nat}{a b:Int}(h:lcp y z<lcp x z)(hz:ZQ z y≤0):Btr x a y b∧lcp x y=lcp y z:=by
 rw[Zcz y z]at h ⊢
 refine⟨.inl ?_,Zo0 h⟩
 rw[Zlf x z y h]
 rcases Int.lt_or_eq_of_le hz with g|g
 ·exact g
 ·have e:=ZfK _ _ g
  subst e
  rw[ZjH]at h
  have:=(Zfz x z).2
  omega
abbrev Com:=Option (Int×Int)
def Zjd(hd:Hd)(z:List Nat)(M:List Int)(c:Com):Prop:=Win hd M (c.map (·.1))∧∀p,c=some p→∃x,hd p.1=some x∧p.2=((lcp x z:Nat):Int)
theorem Znl{hd hd':Hd}{N M:List Int}{n:Int}{z:List Nat}{s:StL}(T:Tk hd hd' N n z)(hM:Sub N M)(h2:2≤M.length)(hn:n∈M)(ok:ZR hd s N) :
  (Win hd' (Zae M n) none∧(Z0 s (ZS M)=none∨Z0 s (ZS M)=some none))∨∃t b y,Win hd' (Zae M n) (some b)∧hd' b=some y∧b∈N∧Z0 s (ZS M)=some (some (t,b,((lcp y z:Nat):Int))):=by
 have r:=hM.rise T.up
 have nd:=Zc1 r
 have hno:=Zg5 r (ZcY hn)
 have nS:=(ok.sub hM).at_side h2 n
 have hoN:∀b∈Zae M n,b∈M:=fun b hb=>(Zem M n).mem_iff.mp (QB _ hb)
 have hsN:∀b∈ZU M n,b∈M:=fun b hb=>(Zem M n).mem_iff.mp (QJ _ hb)
 have wS:Win hd (ZU M n) (some n):=by
  obtain⟨_,x,hx,hw⟩:=T.win
  exact⟨ZcY hn,x,hx,fun b hb y hy=>hw b (hM.mem (hsN b hb)) y hy⟩
 have cO:∀m∈Zae M n,hd' m=hd m:=fun m hm=>T.oth m fun e=>hno (e ▸ hm)
 have ndO:(Zae M n).Nodup:=by unfold Zae;split;exact Zc1 (Zek r);exact Zc1 (Zel r)
 obtain⟨w,hw⟩:=Win.ex hd (Zae M n) ndO
 cases w with
 | none=>exact .inl ⟨hw.congr cO,nS.2 (.inr hw)⟩
 | some b =>
  obtain⟨y,hy⟩:∃y,hd b=some y:=by obtain⟨_,y,hy,_⟩:=hw;exact⟨y,hy⟩
  obtain⟨t,lz,e,o⟩:=nS.1 n b z y wS hw T.key hy
  have hbM:=hoN b hw.1
  have hbn:b≠n:=fun z=>hno (z ▸ hw.1)
  have hB:Btr z n y b:=by
   obtain⟨_,x,hx,hww⟩:=T.win
   rw[T.key]at hx;cases hx
   exact(hww b (hM.mem hbM) y hy).resolve_left hbn
  have el:lz=b:=by
   rcases o with⟨_,e⟩|⟨e,_⟩
   ·exact e
   ·exact(hB.asym e).elim
  subst el
  exact .inr ⟨t,lz,y,hw.congr cO,by rw[cO lz hw.1];exact hy,hM.mem hbM,by rw[Zcz y z];exact e⟩
theorem Zld(ns:List Int):(Zeq ns).length=(ns.length+1) / 2:=by unfold Zeq mid;rw[Qz];omega
theorem Zlc(ns:List Int):(Zhv ns).length=ns.length / 2:=by unfold Zhv mid;rw[QZ];omega
def Zhq:Nat→List Int→Int→List (List Int)
 | 0,_,_=>[]
 | f+1,ns,n=>if ns.length≤1 then [] else if n∈Zeq ns then Zhv ns::Zhq f (Zeq ns) n else Zeq ns::Zhq f (Zhv ns) n
def Zb8(ns:List Int)(n:Int):List Int:=if n∈Zeq ns then Zeq ns else Zhv ns
def ZdB(ns:List Int)(n:Int):List Int:=if n∈Zeq ns then Zhv ns else Zeq ns
theorem Zfa{ns:List Int}{n:Int}(h:1<ns.length):(Zb8 ns n).length<ns.length:=by
 unfold Zb8
 split
 ·rw[Zld];omega
 ·rw[Zlc];omega
theorem Zmt{ns:List Int}{n:Int}(h:1<ns.length):0<(Zb8 ns n).length:=by
 unfold Zb8
 split
 ·rw[Zld];omega
 ·rw[Zlc];omega
theorem Zfs{f:Nat}{ns:List Int}{n:Int}(h:1<ns.length):Zhq (f+1) ns n=ZdB ns n::Zhq f (Zb8 ns n) n:=by
 conv=>lhs;unfold Zhq
 rw[if_neg (by omega)]
 unfold ZdB Zb8
 split<;>rfl
theorem Zct{f:Nat}{ns:List Int}{n:Int}(h:ns.length≤1):Zhq f ns n=[]:=by
 cases f with
 | zero=>rfl
 | succ f=>unfold Zhq;rw[if_pos h]
theorem Zib:∀ (f g:Nat) (ns:List Int) (n:Int),ns.length≤f+1→ns.length≤g+1→Zhq f ns n=Zhq g ns n
 | 0,g,ns,n,h,_=>by rw[Zct (by omega),Zct (by omega)]
 | f+1,0,ns,n,_,h=>by rw[Zct (by omega),Zct (by omega)]
 | f+1,g+1,ns,n,h1,h2=>by
  by_cases h:1<ns.length
  ·have:=Zfa (n:=n) h
   rw[Zfs h,Zfs h,Zib f g _ n (by omega) (by omega)]
  ·rw[Zct (by omega),Zct (by omega)]
def way(ns:List Int)(n:Int):List (List Int):=Zhq ns.length ns n
theorem Zi2{ns:List Int}{n:Int}(h:1<ns.length):way ns n=ZdB ns n::way (Zb8 ns n) n:=by
 unfold way
 cases e:ns.length with
 | zero=>omega
 | succ f =>
  have:=Zfa (n:=n) h
  rw[Zfs h,Zib f (Zb8 ns n).length _ n (by omega) (by omega)]
theorem ZiD{ns:List Int}{n:Int}(h:ns.length≤1):way ns n=[]:=Zct h
theorem ZiX(n:Int):∀ns:List Int,inV (.int n) (ns.map V.int)=decide (n∈ns)
 | []=>rfl
 | m::r=>by
  have ih:=ZiX n r
  unfold inV at ih ⊢
  rw[Qj,QaF,ih]
  by_cases h:m=n
  ·subst h;simp[eqV]
  ·have:(m == n)=false:=by simpa using h
   simp[eqV,this,List.mem_cons,Ne.symm h]
theorem ZfA:∀ns:List Int,(ns.map V.int).all ZeT=true
 | []=>rfl
 | _::r=>by rw[Qj,List.all_cons,ZfA r];rfl
def Rd(H:Hp):List Addr→List (List Int)→Prop
 | [],[]=>True
 | l::ls,d::ds=>H l=some (.lst (d.map V.int))∧Rd H ls ds
 | _,_=>False
theorem Rd.len{H:Hp}:∀ {ls:List Addr} {ds:List (List Int)},Rd H ls ds→ls.length=ds.length
 | [],[],_=>rfl
 | [],_::_,h=>h.elim
 | _::_,[],h=>h.elim
 | _::ls,_::ds,h=>by rw[QK,QK,Rd.len h.2]
theorem Rd.mono{H H':Hp}:∀ {ls:List Addr} {ds:List (List Int)},(∀l∈ls,∀o,H l=some o→H' l=some o)→Rd H ls ds→Rd H' ls ds
 | [],[],_,_=>trivial
 | [],_::_,_,h=>h.elim
 | _::_,[],_,h=>h.elim
 | l::ls,_::ds,k,h=>⟨k l (by simp) _ h.1,Rd.mono (fun x hx=>k x (Qv _ hx)) h.2⟩
theorem Rd.app{H:Hp}:∀ {ls:List Addr} {ds:List (List Int)} {ms:List Addr} {es:List (List Int)},Rd H ls ds→Rd H ms es→Rd H (ls++ms) (ds++es)
 | [],[],_,_,_,h=>h
 | [],_::_,_,_,h,_=>h.elim
 | _::_,[],_,_,h,_=>h.elim
 | _::ls,_::ds,_,_,h,g=>⟨h.1,Rd.app h.2 g⟩
theorem Rd.rev{H:Hp}:∀ {ls:List Addr} {ds:List (List Int)},Rd H ls ds→Rd H ls.reverse ds.reverse
 | [],[],h=>h
 | [],_::_,h=>h.elim
 | _::_,[],h=>h.elim
 | l::ls,d::ds,h=>by
  rw[QaA,QaA]
  exact Rd.app (Rd.rev h.2) ⟨h.1,trivial⟩
def Zn0:Sp:=fun vs H Q _=>∃ (a:Addr) (ns:List Int) (n:Int),vs=[.ref a,.int n]∧H a=some (.lst (ns.map V.int))∧1≤ns.length∧ns.length≤100 ∧
 ∀ (r:Addr) (ls:List Addr) (H':Hp),H r=none→H' r=some (.lst (ls.map V.ref))→r ∉ ls→(∀l∈ls,H l=none)→Rd H' ls (way ns n).reverse→ZF H H'→Q (.ref r) H'
def Dn(H:Hp)(a o:Addr)(ns:List Int)(n:Int)(b:Addr)(cur:List Int)(ls:List Addr)(H2:Hp):Prop :=
 ∃done:List (List Int),H2 b=some (.lst (cur.map V.int))∧b≠o∧1≤cur.length∧cur.length≤100∧way ns n=done++way cur n∧Rd H2 ls done∧H2 o=some (.lst (ls.map V.ref))∧ZF H H2∧(∀l∈ls,H l=none)∧o ∉ ls∧ls.length+cur.length≤100
theorem Dn.step{H:Hp}{a o:Addr}{ns:List Int}{n:Int}{b:Addr}{cur:List Int}{ls:List Addr}{H2 H3:Hp}(D:Dn H a o ns n b cur ls H2)(hO:H o=none)(h1:1<cur.length)(s:ZF H2 H3){x y:Addr}(hx:H3 x=some (.lst ((Zb8 cur n).map V.int)))(hy:H3 y=some (.lst ((ZdB cur n).map V.int)))(nx:H2 x=none)(ny:H2 y=none) :
  Dn H a o ns n x (Zb8 cur n) (ls++[y]) (upd H3 o (.lst (ls.map V.ref++[.ref y]))):=by
 obtain⟨done,d1,d2,d3,d4,d5,d6,d7,d8,d9,d10,d11⟩:=D
 have xo:x≠o:=(Zc d7 nx).symm
 have yo:y≠o:=(Zc d7 ny).symm
 have sl:=Zfa (n:=n) h1
 have k:∀l,l≠o→∀u,H3 l=some u→(upd H3 o (.lst (ls.map V.ref++[.ref y]))) l=some u:=fun l hl u hu=>by rw[Zb hl];exact hu
 refine⟨done++[ZdB cur n],k x xo _ hx,xo,Zmt h1,by omega,by rw[d5,Zi2 h1,QaR];rfl,?_,?_,fun c u hu=>?_,?_,?_,?_⟩
 ·refine Rd.app (Rd.mono (fun l hl u hu=>k l (fun e=>d10 (e ▸ hl)) u (s _ _ hu)) d6) ⟨k y yo _ hy,trivial⟩
 ·rw[Zd,Qe];rfl
 ·rw[Zb (Zc hu hO)];exact s _ _ (d8 _ _ hu)
 ·intro l hl
  rcases Qm.mp hl with hl|hl
  ·exact d9 l hl
  ·rw[Qo.mp hl];exact d8.free ny
 ·intro hm
  rcases Qm.mp hm with hl|hl
  ·exact d10 hl
  ·exact yo (Qo.mp hl).symm
 ·rw[Qf,Qt];omega
theorem ZqC(T:Zaf K mg cRow cMerge)(f_halves:Df P w K mg base 1 "halves" ["numbers"] (Zb6 K true)):Df P w K mg base 2 "way_up" ["numbers", "n"] Zn0:=by
 refine T.t_way_up.df ZbJ (fun vs H Q E h=>?_) (fun cdv f A outer s H vs Q E hr h=>?_)
 ·obtain⟨a,ns,n,rfl,_⟩:=h
  rfl
 obtain⟨a,ns,n,rfl,hA,h1,h100,q⟩:=h
 refine⟨_,#[Zf,#[Zw,2,ZbJ.nd,(Or.inl rfl),#[Zax,#[Ze]]],#[Zf,#[Zw,3,ZbJ.nd,(Or.inl rfl),‹0›],#[Zf,(@ZdR _ _ _ _ _ _ PassesOwn.never #[Zm,ZgM,#[Zk,(Zcj K),(by rfl),T.b.n_len,Qs,#[Za,‹3›,#[Ze]]],#[Zi],(Zp _)] #[Zf,#[Z3,#[Zy,f_halves,hr,#[Za,‹3›,#[Ze]],(by rfl)],#[gT,K,2,#[ZB,#[ZD,4,ZbJ.nd,(Or.inl rfl)],#[ZB,#[ZD,5,ZbJ.nd,(Or.inl rfl)],(@ZaG _)]]]],#[Zj,#[ZZ,#[Zm,(inQ K),‹1›,‹4›,(by with_unfolding_all rfl)],#[Zf,#[Zab,#[Zd7,QO,QS,QT,Zbv,‹2›,#[Za,‹5›,#[Ze]]]],#[Zj,#[Zw,3,ZbJ.nd,(Or.inl rfl),‹4›]]],#[Zf,#[Zab,#[Zd7,QO,QS,QT,Zbv,‹2›,#[Za,‹4›,#[Ze]]]],#[Zj,#[Zw,3,ZbJ.nd,(Or.inl rfl),‹5›]]]]]]),#[Zf,#[Zab,(@Znz _ _ _ _ _ _ _ _ _ QO PySem.F.slot_list_reverse PySem.F.type_list_reverse ZkD ‹2› (by rfl) (by rfl))],#[Zj,#[Zs,‹2›]]]]]],?_⟩
 refine⟨(by show 0≤sizeLine;decide),fun o hO=>?_⟩
 have nao:a≠o:=Zc hA hO
 refine⟨_,rfl,?_⟩
 refine⟨fun m σ H2=>∃ (b:Addr) (cur:List Int) (ls:List Addr) (v4 v5:Option V),σ=[some (.ref a),some (.int n),some (.ref o),some (.ref b),v4,v5]∧Dn H a o ns n b cur ls H2∧m=cur.length,⟨_,a,ns,[],none,none,rfl,⟨[],?_,nao,h1,h100,rfl,trivial,Zd,Zh hO _,(fun l hl=>by cases hl),(fun hm=>by cases hm),by simpa using h100⟩,rfl⟩,?_⟩
 ·rw[Zb nao];exact hA
 rintro m σ H2 ⟨b,cur,ls,v4,v5,rfl,D,rfl⟩
 obtain⟨done,d1,d2,d3,d4,d5,d6,d7,d8,d9,d10,d11⟩:=id D
 have hlc:(((cur.map V.int).length:Nat):Int)=(cur.length:Int):=by rw[Qa]
 refine⟨_,rfl,b,_,rfl,.inl (SqL.of d1),_,_,rfl,rfl,_,rfl,?_⟩
 refine ZaY (fun c1=>?_) (fun c1=>?_)
 ·have c1':(1:Int)<(((cur.map V.int).length:Nat):Int):=of_decide_eq_true c1
  have hc:1<cur.length:=by omega
  refine⟨_,fun σ' H' h=>h,?_⟩
  refine⟨_,rfl,b,cur,rfl,SqL.of d1,d4,fun t x y H3 ht hx hy nxy et ex ey s3 ntx nty=>?_⟩
  refine⟨t,_,rfl,SqT.of et,rfl,_,_,rfl,_,_,rfl,rfl,?_⟩
  have ho3:=s3 _ _ d7
  have hlt:(ls.map V.ref).length<sizeLine:=by rw[Qa];exact ZC (by omega)
  have sl:=Zfa (n:=n) hc
  refine⟨_,rfl,_,rfl,x,_,rfl,.inl (SqL.of ex),rfl,ZfA _,_,rfl,?_⟩
  show if inV (V.int n) ((Zeq cur).map V.int)=true then _ else _
  rw[ZiX]
  refine ZaY (fun c2=>?_) (fun c2=>?_)
  ·have c2':n∈Zeq cur:=of_decide_eq_true c2
   have e1:Zb8 cur n=Zeq cur:=by unfold Zb8;rw[if_pos c2']
   have e2:ZdB cur n=Zhv cur:=by unfold ZdB;rw[if_pos c2']
   refine⟨_,rfl,.inl ⟨rfl,_,SqL.of ho3⟩,_,rfl,o,_,_,rfl,rfl,ho3,hlt,_,rfl,_,?_,x,Zb8 cur n,ls++[y],_,_,rfl,D.step hO hc s3 (by rw[e1];exact ex) (by rw[e2];exact ey) hx hy,rfl⟩
   exact sl
  ·have c2':¬ n∈Zeq cur:=fun z=>c2 (decide_eq_true z)
   have e1:Zb8 cur n=Zhv cur:=by unfold Zb8;rw[if_neg c2']
   have e2:ZdB cur n=Zeq cur:=by unfold ZdB;rw[if_neg c2']
   refine⟨_,rfl,.inl ⟨rfl,_,SqL.of ho3⟩,_,rfl,o,_,_,rfl,rfl,ho3,hlt,_,rfl,_,?_,y,Zb8 cur n,ls++[x],_,_,rfl,D.step hO hc s3 (by rw[e1];exact ey) (by rw[e2];exact ex) hy hx,rfl⟩
   exact sl
 ·have c1':¬ (1:Int)<(((cur.map V.int).length:Nat):Int):=fun z=>c1 (decide_eq_true z)
  have e:way ns n=done:=by rw[d5,ZiD (by omega),QaI]
  refine⟨_,rfl,.inl ⟨rfl,_,SqL.of d7⟩,o,_,rfl,rfl,d7,?_⟩
  refine⟨_,rfl,q o ls.reverse _ hO (by rw[Zd,List.map_reverse]) (fun hm=>d10 (List.mem_reverse.mp hm)) (fun l hl=>d9 l (List.mem_reverse.mp hl)) ?_ fun c u hu=>?_⟩
  ·rw[e]
   refine Rd.mono (fun l hl u hu=>?_) d6.rev
   rw[Zb (fun z=>by subst z;exact d10 (List.mem_reverse.mp hl))]
   exact hu
  ·rw[Zb (Zc hu hO)];exact d8 _ _ hu
theorem Zh2:∀ (k:Nat) (M:List Int) (n:Int),M.length≤2 ^ k→(way M n).reverse=(ZK k M n).map (fun X=>Zae X n)
 | 0,M,n,h=>by
  rw[ZiD (by simpa using h)];rfl
 | k+1,M,n,h=>by
  unfold ZK
  by_cases h2:2≤M.length
  ·rw[if_pos h2,Zi2 (by omega),QaA,Qe]
   have hs:(ZU M n).length≤2 ^ k:=by
    rw[QaT]at h
    unfold ZU
    split
    ·unfold lo mid;rw[Qz];omega
    ·unfold up mid;rw[QZ];omega
   have e:=Zh2 k (ZU M n) n hs
   rw[← e];rfl
  ·rw[if_neg h2,ZiD (by omega)];rfl
theorem Zm1{M:List Int}(h:2≤M.length)(n:Int):Zae M n≠[]:=by
 unfold Zae
 split
 ·exact Zaj (ZdC h).2
 ·exact Zaj (ZcP h).2
theorem Zkz{M:List Int}(r:Zag M)(h:2≤M.length)(n:Int):ZS M=(if (Zae M n).headD 0<(ZU M n).headD 0 then (Zae M n).headD 0 else (ZU M n).headD 0,if (Zae M n).getLastD 0>(ZU M n).getLastD 0 then (Zae M n).getLastD 0 else (ZU M n).getLastD 0):=by
 have a:=Zfr h
 have b:=ZfQ h
 have l1:=Zcl (Zaj (ZcP h).2)
 have l2:=Zcq (Zaj (ZcP h).2)
 have u1:=Zcl (Zaj (ZdC h).2)
 have u2:=Zcq (Zaj (ZdC h).2)
 have c:=ZL r l1 u1
 have d:=ZL r l2 u2
 unfold ZU Zae
 split<;>(refine Prod.ext ?_ ?_<;>dsimp only<;>first|omega|(split<;>omega))
theorem Rd.get{H:Hp}:∀ {ls:List Addr} {ds:List (List Int)},Rd H ls ds→∀ {i:Nat} {l:Addr} {d:List Int},ls[i]? = some l→ds[i]? = some d→H l=some (.lst (d.map V.int))
 | [],[],_,i,l,d,h,_=>by simp at h
 | l::ls,d::ds,⟨h1,h2⟩,0,a,b,e1,e2=>by simp at e1 e2;rw[← e1,← e2];exact h1
 | l::ls,d::ds,⟨h1,h2⟩,i+1,a,b,e1,e2=>Rd.get h2 (by simpa using e1) (by simpa using e2)
def ZhT:Sp:=fun vs H Q _=>∃ (a:Addr) (N:List Int) (n:Int),vs=[.ref a,.int n]∧H a=some (.lst (N.map V.int))∧n∈N∧N.length≤60∧Zag N ∧
 ∀ (r:Addr) (ts:List Addr) (H':Hp),H r=none→H' r=some (.lst (ts.map V.ref))→ts.length=(ZK 8 N n).length→(∀ (i:Nat) (t:Addr) (X:List Int),ts[i]? = some t→(ZK 8 N n)[i]? = some X→H' t=some (.tup [.int (ZS X).1,.int (ZS X).2]))→ZF H H'→Q (.ref r) H'
theorem Zj9(T:Zaf K mg cRow cMerge)(f_way_up:Df P w K mg base 2 "way_up" ["numbers", "n"] Zn0):Df P w K mg base 3 "matches_up" ["numbers", "n"] ZhT:=by
 refine T.t_matches_up.df ZaM (fun vs H Q E h=>?_) (fun cdv f A outer s H vs Q E hr h=>?_)
 ·obtain⟨a,N,n,rfl,_⟩:=h
  rfl
 obtain⟨a,N,n,rfl,ha,hn,h60,hup,q⟩:=h
 refine⟨_,#[Zf,#[Zw,2,ZaM.nd,(Or.inl rfl),#[Zax,#[Ze]]],#[Zf,#[Zw,3,ZaM.nd,(Or.inl rfl),‹1›],#[Zf,#[Zw,4,ZaM.nd,(Or.inl rfl),‹1›],#[Zf,#[Zcv,PassesOwn.never,#[iL,K,#[Zy,f_way_up,hr,#[Za,‹0›,#[Za,‹1›,#[Ze]]],(by rfl)]],#[ZD,5,ZaM.nd,(Or.inl rfl)],#[Zf,#[Zw,3,ZaM.nd,(Or.inl rfl),#[Zk,(ZhQ rfl),(by rfl),T.b.n_min,boot_min,#[Za,‹3›,#[Za,#[Zo,(ixL K),‹5›,#[Zi]],#[Ze]]]]],#[Zf,#[Zw,4,ZaM.nd,(Or.inl rfl),#[Zk,(ZlZ rfl),(by rfl),T.b.n_max,boot_max,#[Za,‹4›,#[Za,#[Zo,(ixL K),‹5›,(@Zia _ _ _ _ _ _ ZfG #[Zi])],#[Ze]]]]],#[Zj,#[Zab,#[Zd7,QO,QS,QT,Zbv,‹2›,#[Za,#[ZaC,#[Za,‹3›,#[Za,‹4›,#[Ze]]]],#[Ze]]]]]]]],#[Zj,#[Zs,‹2›]]]]]],?_⟩
 have hpos:=QaX hn
 have hpw:N.length≤2 ^ 8:=Qy h60 (by decide)
 obtain⟨cok,ctop,clen⟩:=Ze1 8 N n hn hpw
 refine⟨(by show 0≤sizeLine;decide),fun r hr0=>?_⟩
 have s1:=Zh hr0 (.lst [])
 have hr1:(upd H r (.lst [])) r=some (.lst []):=Zd
 generalize upd H r (.lst [])=H1 at s1 hr1 ⊢
 refine⟨_,rfl,_,rfl,_,rfl,_,rfl,a,N,n,rfl,s1 _ _ ha,hpos,by omega,fun wy ls H2 hwy hwy2 hnot hfr hrd s2=>?_⟩
 rw[Zh2 8 N n hpw]at hrd
 have hll:=hrd.len
 rw[Qa]at hll
 have s02:=s1.trans s2
 refine⟨wy,rfl,⟨_,SqL.of hwy2⟩,?_⟩
 refine Zfb (K:=K) (a:=wy) (xs:=ls.map V.ref) (fun i σ H3=>∃ (v5:Option V) (ts:List Addr),σ=[some (.ref a),some (.int n),some (.ref r),some (.int ((low n (ZK 8 N n) i).headD 0)),some (.int ((low n (ZK 8 N n) i).getLastD 0)),v5]∧i≤ls.length∧ts.length=i∧H3 r=some (.lst (ts.map V.ref))∧(∀ (j:Nat) (t:Addr) (X:List Int),ts[j]? = some t→(ZK 8 N n)[j]? = some X→H3 t=some (.tup [.int (ZS X).1,.int (ZS X).2]))∧(∀t∈ts,t≠r∧∃xs,H3 t=some (.tup xs))∧(∀b o,H2 b=some o→b≠r→H3 b=some o)) ⟨_,[],rfl,Qw _,rfl,s2 _ _ hr1,(fun j t X h=>by simp at h),(fun t h=>by cases h),fun b o h _=>h⟩ (fun i σ H3 _ hq=>by obtain⟨_,_,_,_,_,_,_,_,k3⟩:=hq;exact SqL.of (k3 _ _ hwy2 (fun z=>by rw[z,hr1]at hwy;cases hwy))) ?_ ?_
 ·rintro i y σ H3 hy ⟨v5,ts,rfl,hi,htl,hr3,hts,htr,k3⟩
  rw[Qp]at hy
  cases hz:ls[i]? with
  | none=>rw[hz]at hy;cases hy
  | some l =>
  rw[hz]at hy
  cases hy
  have hil:i<ls.length:=(Qg.mp hz).1
  cases hX:(ZK 8 N n)[i]? with
  | none=>rw[Q6]at hX;omega
  | some X =>
  obtain⟨x1,x2,x3,x4⟩:=cok i X hX
  have hl2:H2 l=some (.lst ((Zae X n).map V.int)):=hrd.get hz (by rw[Qp,hX];rfl)
  have nlr:l≠r:=fun z=>by rw[z]at hl2;rw[s2 _ _ hr1]at hl2;have:=hfr l (Qx hz);rw[z,hr1]at this;cases this
  have hl3:=k3 _ _ hl2 nlr
  have hne:=Zm1 x2 n
  have e2:=Zkz (x1.rise hup) x2 n
  rw[x4]at e2
  have e3:low n (ZK 8 N n) (i+1)=X:=by show (ZK 8 N n).getD i []=X;rw[QF,hX];rfl
  refine⟨_,rfl,_,rfl,l,_,_,_,rfl,rfl,SqL.of hl3,Zja hne,_,_,rfl,?_⟩
  refine⟨_,rfl,_,rfl,_,rfl,l,_,_,_,rfl,rfl,SqL.of hl3,Zjp hne,_,_,rfl,?_⟩
  refine⟨_,rfl,.inl ⟨rfl,_,SqL.of hr3⟩,_,rfl,_,rfl,(by show 2≤sizeLine;decide),fun t ht=>?_⟩
  have nrt:r≠t:=Zc hr3 ht
  refine⟨r,_,_,rfl,rfl,by rw[Zb nrt];exact hr3,(by rw[Qa];exact ZC (by omega)),?_⟩
  refine⟨some (.ref l),ts++[t],?_,hil,by rw[Qf,Qt];omega,by rw[Zd,Qe];rfl,fun j u Y hu hY=>?_,fun u hu=>?_,fun b o hb nb=>?_⟩
  ·rw[e3]
   have h1:=congrArg Prod.fst e2
   have h2:=congrArg Prod.snd e2
   simp only at h1 h2
   rw[show X.headD 0=(ZS X).1 from rfl,show X.getLastD 0=(ZS X).2 from rfl,h1,h2]
   rfl
  ·have htuple:∀ (u:Addr) (xs:List V),H3 u=some (.tup xs)→(upd (upd H3 t (.tup [.int (if (Zae X n).headD 0<(low n (ZK 8 N n) i).headD 0 then (Zae X n).headD 0 else (low n (ZK 8 N n) i).headD 0),.int (if (Zae X n).getLastD 0>(low n (ZK 8 N n) i).getLastD 0 then (Zae X n).getLastD 0 else (low n (ZK 8 N n) i).getLastD 0)])) r (.lst (ts.map V.ref++[.ref t]))) u=some (.tup xs):=fun u xs hu=>by
    rw[Zb (fun z=>by rw[z,hr3]at hu;cases hu),Zb (Zc hu ht)];exact hu
   by_cases hj:j<ts.length
   ·rw[QM hj]at hu
    exact htuple u _ (hts j u Y hu hY)
   ·have ej:j=ts.length:=by have:=(Qg.mp hu).1;rw[Qf,Qt]at this;omega
    subst ej
    rw[QN (Qh _),QaU]at hu
    cases hu
    rw[htl,hX]at hY
    cases hY
    rw[Zb nrt.symm,Zd,e2]
  ·rcases Qm.mp hu with hu|hu
   ·obtain⟨g1,xs,g2⟩:=htr u hu
    exact⟨g1,xs,by rw[Zb g1,Zb (Zc g2 ht)];exact g2⟩
   ·rw[Qo.mp hu]
    exact⟨nrt.symm,_,by rw[Zb nrt.symm];exact Zd⟩
  ·have:=k3 b o hb nb
   rw[Zb nb,Zb (Zc this ht)];exact this
 ·rintro σ H3 ⟨v5,ts,rfl,_,htl,hr3,hts,_,k3⟩
  rw[Qa]at htl
  exact⟨_,rfl,q r ts H3 hr0 hr3 (by omega) hts (fun b o hb=>k3 b o (s02 b o hb) (Zc hb hr0))⟩
def CV(H:Hp)(v:V)(c:Com):Prop:=(c=none∧v=.non)∨∃ (t:Addr) (p:Int×Int),c=some p∧v=.ref t∧H t=some (.tup [.int p.1,.int p.2])
theorem CV.keep{H H':Hp}{v:V}{c:Com}(h:CV H v c)(k:∀t xs,H t=some (.tup xs)→H' t=some (.tup xs)):CV H' v c:=by
 rcases h with h|⟨t,p,h1,h2,h3⟩
 ·exact .inl h
 ·exact .inr ⟨t,p,h1,h2,k _ _ h3⟩
theorem ZmM{s:StL}{k:Int×Int}{v0:Option (Addr×Int×Int)}(h:Z0 s k=some v0):s.any (fun e=>decide (e.1=k))=true:=Qaq.mpr ⟨_,ZhC h,decide_eq_true rfl⟩
theorem Zfo{s:StL}{k:Int×Int}{v0 v:Option (Addr×Int×Int)}(h:Z0 s k=some v0):(Zdk s k v).length=s.length:=by
 unfold Zdk
 rw[if_pos (ZmM h),Qa]
def AgS(hd:Hd)(z:List Nat)(A B:List Int)(k q:Int):Prop:=∀C k0 q0,Ag hd z C k0 q0→Ag hd z (C++[(A,B)]) (k0+k) (q0+q)
def ZkL(cR cM:Addr):Sp:=fun vs H Q _=>∃ (m rd sd:Addr) (L:List Zv) (s:StL) (nb li lo:Int) (best:V) (tm:Addr) (v:V) (c:Com) (z:List Nat) (M:List Int) (n:Int),vs=[.ref m,.ref tm,v]∧ZP cR cM H m rd sd L s nb li lo best∧H tm=some (.tup [.int (ZS M).1,.int (ZS M).2])∧CV H v c∧Zjd (hdM L) z (ZU M n) c ∧
 ((Win (hdM L) (Zae M n) none∧(Z0 s (ZS M)=none∨Z0 s (ZS M)=some none))∨∃t b y,Win (hdM L) (Zae M n) (some b)∧hdM L b=some y∧Z0 s (ZS M)=some (some (t,b,((lcp y z:Nat):Int)))) ∧
 (∀b∈M,∀y,hdM L b=some y→ZQ z y≤0)∧Zag M∧(∀b∈M,b∈Zz L)∧2≤M.length∧n∈M ∧
 ∀ (v':V) (c':Com) (s':StL) (k q:Int) (H':Hp),CV H' v' c'→Zjd (hdM L) z M c'→Zew (hdM L) s' (ZU M n) (Zae M n) (ZS M)→(∀j,j≠ZS M→Z0 s' j=Z0 s j)→AgS (hdM L) z (ZU M n) (Zae M n) k q →
  ZP cR cM H' m rd sd L s' nb (li+k) (lo+q) best→(∀b o,H b=some o→b≠m→b≠sd→H' b=some o)→Q v' H'
theorem Zmr{L:List Zv}(nd:(Zz L).Nodup){b:Int}(hb:b∈Zz L){y:List Nat}(hy:hdM L b=some y):∃e∈L,e.n=b∧∃x,e.ss[e.g]? = some x∧y=cds x:=by
 obtain⟨e,he,rfl⟩:=ZdW hb
 rw[ZeP nd he]at hy
 cases hx:e.ss[e.g]? with
 | none=>rw[hx]at hy;cases hy
 | some x=>rw[hx]at hy;cases hy;exact⟨e,he,rfl,x,hx,rfl⟩
theorem Zng(T:Zaf K mg cRow cMerge)(f_Merge_meet:Mf P w K mg base 3 cMerge "meet" ["self", "one", "other", "far"] (Zj3 cRow cMerge)):Mf P w K mg base 4 cMerge "play_again" ["self", "meeting", "comer"] (ZkL cRow cMerge):=by
 refine T.t_Merge_play_again.mf Zau (fun vs H Q E h=>?_) (fun cdv f A outer s H vs Q E hr h=>?_)
 ·obtain⟨m,rd,sd,L,s,nb,li,lo,best,tm,v,c,z,M,n,rfl,_⟩:=h
  rfl
 obtain⟨m,rd,sd,L,s,nb,li,lo',best,tm,v,c,z,M,n,rfl,Mg,htm,hcv,⟨wS,hcf⟩,hst,hge,hup,hin,h2,hn,q⟩:=h
 refine⟨_,#[Zf,#[Zw,3,Zau.nd,(Or.inl rfl),(@Zp9 _ _ _ _ _ _ _ _ hr #[ZO,‹0›] ‹1› (by rfl) (by rfl) (by rfl))],#[Zf,#[ZZ,#[Zm,Zbq,‹3›,#[ZW],(Zp _)],#[Zj,#[Zs,‹2›]],#[ZE]],#[Zf,#[ZZ,#[Zm,Zbq,‹2›,#[ZW],(Zp _)],#[Zf,#[Z3,#[ZW],#[ZaQ,#[ZO,‹0›],‹1›,(ZdK hr)]],#[Zj,#[Zs,‹3›]]],#[ZE]],#[Zf,#[ZZ,#[Zm,Za1,#[Zo,(ixT K),‹2›,#[Zi]],#[Zo,(ixT K),‹3›,#[Zi]],(Zp _)],#[Zf,#[Z3,#[ZcM,f_Merge_meet,T.cl_Merge,hr,‹0›,#[Za,#[Zo,(ixT K),‹2›,#[Zi]],#[Za,#[Zo,(ixT K),‹3›,#[Zi]],#[Za,#[Zo,(ixT K),‹2›,#[Zi]],#[Ze]]]]],#[gT,K,3,#[ZB,#[ZD,4,Zau.nd,(Or.inl rfl)],#[ZB,#[ZD,5,Zau.nd,(Or.inl rfl)],#[ZB,#[ZD,6,Zau.nd,(Or.inl rfl)],(@ZaG _)]]]]],#[Zf,#[Z3,#[ZaC,#[Za,‹5›,#[Za,‹6›,#[Ze]]]],#[ZaQ,#[ZO,‹0›],‹1›,(ZdK hr)]],#[Zj,#[Zs,#[ZaC,#[Za,‹4›,#[Za,#[Zo,(ixT K),‹2›,#[Zi]],#[Ze]]]]]]]],#[ZE]],#[Zf,#[Zde,‹0›,#[Zi],Zgp],#[Zf,#[ZZ,#[Zm,ZgM,#[Zo,(ixT K),‹2›,#[Zi]],#[Zo,(ixT K),‹3›,#[Zi]],(Zp _)],#[Zj,#[Zs,‹2›]],#[ZE]],#[Zf,#[Z3,‹2›,#[ZaQ,#[ZO,‹0›],‹1›,(ZdK hr)]],#[Zj,#[Zs,‹3›]]]]]]]]],?_⟩
 obtain⟨dx,hm⟩:=Mg.ob
 have htm':H tm=some (.tup (([.inl (ZS M).1,.inl (ZS M).2]:List Key).map kV)):=htm
 have pm:=Zem M n
 have dg:=ZN.t (k:=[.inl (ZS M).1,.inl (ZS M).2]) Mg.stays htm'
 rw[Zjf]at dg
 have sA:∀b∈ZU M n,b∈M:=fun b hb=>pm.mem_iff.mp (QJ _ hb)
 have sB:∀b∈Zae M n,b∈M:=fun b hb=>pm.mem_iff.mp (QB _ hb)
 have hno:=Zg5 hup (ZcY hn)
 have dis:∀a b,a∈ZU M n→b∈Zae M n→a≠b:=fun a b ha hb e=>by
  subst e
  unfold ZU Zae at *
  split at ha
  ·rename_i hl;rw[if_pos hl]at hb;have:=ZL hup ha hb;omega
  ·rename_i hl;rw[if_neg hl]at hb;have:=ZL hup hb ha;omega
 refine⟨_,rfl,m,cMerge,dx,_,_,rfl,hm,T.cl_Merge,T.na_Merge_stays,Zc7 ..,sd,rfl,.inr ⟨_,.inl Mg.stays⟩,_,rfl,_,dg,?_⟩
 rcases hst with⟨wO,hlk⟩|⟨t,b,y,wO,hy,hlk⟩
 ·have ev:((Z0 s (ZS M)).map stV).getD .non=.non:=by rcases hlk with e|e<;>rw[e]<;>rfl
  rw[ev]
  refine⟨_,rfl,rfl,_,rfl,Zcw rfl ⟨_,rfl,q v c s 0 0 H hcv ⟨(Win.left wS wO).perm pm,hcf⟩ ⟨(fun a b x y _ wb _ _=>nomatch wO.one wb),fun _=>hlk⟩ (fun _ _=>rfl) (fun C k0 q0 g=>by rw[QP,QP];exact .no g (.inr wO)) (Mg.cast (by omega) (by omega)) (fun b o h _ _=>h)⟩⟩
 have hat:=Mg.ats _ (ZhC hlk) _ rfl
 have e1:((Z0 s (ZS M)).map stV).getD .non=.ref t:=by rw[hlk];rfl
 rw[e1]
 have hsf:=Mg.sfew
 have hsl:(kvS s).length<sizeLine:=by unfold kvS;rw[Qa];exact ZC (by omega)
 refine⟨_,rfl,rfl,_,rfl,Zbl (fun z=>nomatch z) ?_⟩
 have hbM:=sB b wO.1
 rcases hcv with⟨rfl,rfl⟩|⟨tc,p,rfl,rfl,htc⟩
 ·refine⟨_,rfl,rfl,_,rfl,Zcw rfl ?_⟩
  refine⟨_,rfl,m,cMerge,dx,_,_,rfl,hm,T.cl_Merge,T.na_Merge_stays,Zc7 ..,_,rfl,sd,_,rfl,ZbW.t (k:=[.inl (ZS M).1,.inl (ZS M).2]) Mg.stays htm' hsl,?_⟩
  rw[show V.non=stV none from rfl,Zf6]
  have hl1:(Zdk s (ZS M) none).length≤100:=by rw[Zfo hlk];exact hsf
  have M2:=Mg.put (k:=ZS M) (v:=none) (fun t ht=>by cases ht) hl1
  have wS':Win (hdM L) (ZU M n) none:=wS
  refine⟨_,rfl,q (.ref t) (some (b,((lcp y z:Nat):Int))) _ 0 0 _ (.inr ⟨t,_,rfl,rfl,?_⟩) ⟨(Win.right wS' wO).perm pm,fun p hp=>?_⟩ ⟨(fun a b x y wa _ _ _=>nomatch wS'.one wa),fun _=>.inr ?_⟩ (fun j hj=>?_) (fun C k0 q0 g=>?_) (M2.cast (by omega) (by omega)) (fun b o hb _ n2=>by rw[Zb n2];exact hb)⟩
  ·rw[Zb (fun z=>by rw[z,Mg.stays]at hat;cases hat)];exact hat
  ·cases hp;exact⟨y,hy,rfl⟩
  ·rw[Za2,if_pos rfl]
  ·rw[Za2,if_neg hj]
  ·rw[QP,QP];exact .no g (.inl wS')
 obtain⟨a,fa⟩:=p
 obtain⟨x,hx,efa⟩:=hcf _ rfl
 simp only at hx efa
 subst efa
 have wS':Win (hdM L) (ZU M n) (some a):=wS
 have haM:=sA a wS'.1
 have hab:=dis a b wS'.1 wO.1
 obtain⟨ea,hea,rfl,zx,hzx,rfl⟩:=Zmr Mg.nd (hin a haM) hx
 obtain⟨eb,heb,rfl,zy,hzy,rfl⟩:=Zmr Mg.nd (hin b hbM) hy
 have c0:atI [V.int ea.n,.int ((lcp (cds zx) z:Nat):Int)] 0=some (.int ea.n):=Zal (j:=0) rfl
 have c1:atI [V.int ea.n,.int ((lcp (cds zx) z:Nat):Int)] 1=some (.int ((lcp (cds zx) z:Nat):Int)):=Zal (j:=1) rfl
 have d0:atI [V.int eb.n,.int ((lcp (cds zy) z:Nat):Int)] 0=some (.int eb.n):=Zal (j:=0) rfl
 have d1:atI [V.int eb.n,.int ((lcp (cds zy) z:Nat):Int)] 1=some (.int ((lcp (cds zy) z:Nat):Int)):=Zal (j:=1) rfl
 refine⟨_,rfl,rfl,_,rfl,Zbl (fun z=>nomatch z) ?_⟩
 refine⟨_,rfl,tc,_,_,_,rfl,rfl,SqT.of htc,c1,_,rfl,t,_,_,_,rfl,rfl,SqT.of hat,d1,rfl,_,rfl,ZaY (fun d=>?_) (fun d=>?_)⟩
 ·have ef:lcp (cds zx) z=lcp (cds zy) z:=by have:=of_decide_eq_true d;injection this with this;omega
  have hle:=ZqJ ef
  refine⟨_,rfl,m,dx,_,rfl,hm,Zgw ..,_,rfl,tc,_,_,_,rfl,rfl,SqT.of htc,c0,_,rfl,t,_,_,_,rfl,rfl,SqT.of hat,d0,_,rfl,tc,_,_,_,rfl,rfl,SqT.of htc,c1,?_⟩
  refine⟨m,rd,sd,L,s,nb,li,lo',best,ea,eb,zx,zy,lcp (cds zx) z,rfl,Mg,hea,heb,hzx,hzy,hle,fun t5 wi lz H5 hw ht5 ht5' M5 b5=>?_⟩
  refine⟨t5,_,rfl,SqT.of ht5',rfl,_,_,rfl,_,_,rfl,_,_,rfl,rfl,?_⟩
  have sz2:2≤sizeLine:=by decide
  refine⟨_,rfl,_,rfl,sz2,fun t6 ht6=>?_⟩
  have s6:=Zh ht6 (.tup [.int lz,.int ((lcp (cds zx) (cds zy):Nat):Int)])
  have ht66:(upd H5 t6 (.tup [.int lz,.int ((lcp (cds zx) (cds zy):Nat):Int)])) t6=some (.tup [.int lz,.int ((lcp (cds zx) (cds zy):Nat):Int)]):=Zd
  have M6:=M5.same s6
  generalize upd H5 t6 (.tup [.int lz,.int ((lcp (cds zx) (cds zy):Nat):Int)])=H6 at s6 ht66 M6 ⊢
  obtain⟨dx6,hm6⟩:=M6.ob
  have ntm:tm≠m:=fun z=>by rw[z,hm]at htm;cases htm
  have ntc:tc≠m:=fun z=>by rw[z,hm]at htc;cases htc
  have htm6:H6 tm=some (.tup (([.inl (ZS M).1,.inl (ZS M).2]:List Key).map kV)):=s6 _ _ (b5 _ _ htm' ntm)
  refine⟨_,rfl,m,cMerge,dx6,_,_,rfl,hm6,T.cl_Merge,T.na_Merge_stays,Zc7 ..,_,rfl,sd,_,rfl,ZbW.t (k:=[.inl (ZS M).1,.inl (ZS M).2]) M6.stays htm6 hsl,?_⟩
  rw[show V.ref t6=stV (some (t6,lz,((lcp (cds zx) (cds zy):Nat):Int))) from rfl,Zf6]
  have hl1:(Zdk s (ZS M) (some (t6,lz,((lcp (cds zx) (cds zy):Nat):Int)))).length≤100:=by rw[Zfo hlk];exact hsf
  have M7:=M6.put (k:=ZS M) (v:=some (t6,lz,((lcp (cds zx) (cds zy):Nat):Int))) (fun t ht=>by injection ht with ht;rw[← ht];exact ht66) hl1
  have b7:∀b o,H b=some o→b≠m→b≠sd→(upd H6 sd (.dT (kvS (Zdk s (ZS M) (some (t6,lz,((lcp (cds zx) (cds zy):Nat):Int))))))) b=some o:=fun b o hb n1 n2=>by rw[Zb n2];exact s6 _ _ (b5 b o hb n1)
  have ntcs:tc≠sd:=fun z=>by rw[z,Mg.stays]at htc;cases htc
  generalize upd H6 sd (.dT (kvS (Zdk s (ZS M) (some (t6,lz,((lcp (cds zx) (cds zy):Nat):Int))))))=H7 at M7 b7 ⊢
  refine⟨_,rfl,_,rfl,tc,_,_,_,rfl,rfl,SqT.of (b7 _ _ htc ntc ntcs),c1,sz2,fun t8 ht8=>?_⟩
  have wn:Win (hdM L) M (some wi):=by
   rcases hw with⟨w0,rfl,_⟩|⟨w0,rfl,_⟩
   ·exact(Win.both wS' wO hx hy w0).perm pm
   ·exact(Win.both' wS' wO hx hy ((Btr.total hab).resolve_left w0)).perm pm
  refine q (.ref t8) (some (wi,((lcp (cds zx) z:Nat):Int))) _ 1 ((lcp (cds zx) (cds zy):Nat)-(lcp (cds zx) z:Nat)+1) _ (.inr ⟨t8,_,rfl,rfl,Zd⟩) ⟨wn,fun p hp=>?_⟩ ⟨fun a b x' y' wa wb hxa hyb=>?_,fun hno=>?_⟩ (fun j hj=>by rw[Za2,if_neg hj]) (fun C k0 q0 g=>.eq g wS' wO hx hy ef) ((M7.same (Zh ht8 _)).cast rfl rfl) (fun b o hb n1 n2=>Zh ht8 _ _ _ (b7 b o hb n1 n2))
  ·cases hp
   rcases hw with⟨w0,rfl,_⟩|⟨w0,rfl,_⟩
   ·exact⟨_,hx,rfl⟩
   ·exact⟨_,hy,by simp only;rw[ef]⟩
  ·have e1:=Ql (wa.one wS')
   have e2:=Ql (wb.one wO)
   subst e1
   subst e2
   have e3:=Ql (hxa.symm.trans hx)
   have e4:=Ql (hyb.symm.trans hy)
   subst e3
   subst e4
   refine⟨t6,lz,by rw[Za2,if_pos rfl],?_⟩
   rcases hw with⟨w0,_,rfl⟩|⟨w0,_,rfl⟩
   ·exact .inl ⟨w0,rfl⟩
   ·exact .inr ⟨(Btr.total hab).resolve_left w0,rfl⟩
  ·rcases hno with z|z
   ·exact nomatch z.one wS'
   ·exact nomatch z.one wO
 have nef:lcp (cds zx) z≠lcp (cds zy) z:=fun e=>d (decide_eq_true (by rw[e]))
 refine⟨_,rfl,m,cMerge,dx,_,_,rfl,hm,T.cl_Merge,T.na_Merge_likened,ZdY ..,_,_,rfl,rfl,dx,_,hm,Zcg ..,?_⟩
 rw[ZdG]
 have M2:=Mg.obj (nb':=nb) (li':=li+1) (lo':=lo') (best':=best) (dx:=dx)
 have k2:∀b o,H b=some o→b≠m→(upd H m (.ins cMerge dx (mgF rd nb (li+1) lo' sd best))) b=some o:=fun b o hb n=>by rw[Zb n];exact hb
 have ntc:tc≠m:=fun z=>by rw[z,hm]at htc;cases htc
 have ntt:t≠m:=fun z=>by rw[z,hm]at hat;cases hat
 have ntm:tm≠m:=fun z=>by rw[z,hm]at htm;cases htm
 generalize upd H m (.ins cMerge dx (mgF rd nb (li+1) lo' sd best))=H2 at M2 k2 ⊢
 have htc2:=k2 _ _ htc ntc
 have hat2:=k2 _ _ hat ntt
 refine⟨_,rfl,tc,_,_,_,rfl,rfl,SqT.of htc2,c1,_,rfl,t,_,_,_,rfl,rfl,SqT.of hat2,d1,_,_,rfl,rfl,_,rfl,ZaY (fun g=>?_) (fun g=>?_)⟩
 ·have hgt:lcp (cds zy) z<lcp (cds zx) z:=by have:((lcp (cds zy) z:Nat):Int)<((lcp (cds zx) z:Nat):Int):=of_decide_eq_true g;omega
  obtain⟨bt,el⟩:=Zi9 (a:=ea.n) (b:=eb.n) hgt (hge _ hbM _ hy)
  refine⟨_,rfl,q (.ref tc) (some (ea.n,((lcp (cds zx) z:Nat):Int))) s 1 0 H2 (.inr ⟨tc,_,rfl,rfl,htc2⟩) ⟨(Win.both wS' wO hx hy bt).perm pm,fun p hp=>by cases hp;exact⟨_,hx,rfl⟩⟩ ⟨fun a b x' y' wa wb hxa hyb=>?_,fun hno=>?_⟩ (fun _ _=>rfl) (fun C k0 q0 g=>by rw[QP];exact .ne g wS' wO hx hy nef) (M2.cast rfl (by omega)) (fun b o hb n1 _=>k2 b o hb n1)⟩
  ·have e1:=Ql (wa.one wS')
   have e2:=Ql (wb.one wO)
   subst e1
   subst e2
   have e3:=Ql (hxa.symm.trans hx)
   have e4:=Ql (hyb.symm.trans hy)
   subst e3
   subst e4
   exact⟨t,_,by rw[el];exact hlk,.inl ⟨bt,rfl⟩⟩
  ·rcases hno with z|z
   ·exact nomatch z.one wS'
   ·exact nomatch z.one wO
 ·have hlt:lcp (cds zx) z<lcp (cds zy) z:=by
   have:¬ ((lcp (cds zy) z:Nat):Int)<((lcp (cds zx) z:Nat):Int):=fun e=>g (decide_eq_true e)
   omega
  obtain⟨bt,el⟩:=Zi9 (a:=eb.n) (b:=ea.n) hlt (hge _ haM _ hx)
  obtain⟨dx2,hm2⟩:=M2.ob
  have htm2:H2 tm=some (.tup (([.inl (ZS M).1,.inl (ZS M).2]:List Key).map kV)):=k2 _ _ htm' ntm
  refine⟨_,rfl,_,rfl,m,cMerge,dx2,_,_,rfl,hm2,T.cl_Merge,T.na_Merge_stays,Zc7 ..,_,rfl,sd,_,rfl,ZbW.t (k:=[.inl (ZS M).1,.inl (ZS M).2]) M2.stays htm2 hsl,?_⟩
  rw[show V.ref tc=stV (some (tc,ea.n,((lcp (cds zx) z:Nat):Int))) from rfl,Zf6]
  have hl1:(Zdk s (ZS M) (some (tc,ea.n,((lcp (cds zx) z:Nat):Int)))).length≤100:=by rw[Zfo hlk];exact hsf
  have M3:=M2.put (k:=ZS M) (v:=some (tc,ea.n,((lcp (cds zx) z:Nat):Int))) (fun t ht=>by injection ht with ht;rw[← ht];exact htc2) hl1
  refine⟨_,rfl,q (.ref t) (some (eb.n,((lcp (cds zy) z:Nat):Int))) _ 1 0 _ (.inr ⟨t,_,rfl,rfl,?_⟩) ⟨(Win.both' wS' wO hx hy bt).perm pm,fun p hp=>by cases hp;exact⟨_,hy,rfl⟩⟩ ⟨fun a b x' y' wa wb hxa hyb=>?_,fun hno=>?_⟩ (fun j hj=>by rw[Za2,if_neg hj]) (fun C k0 q0 g=>by rw[QP];exact .ne g wS' wO hx hy nef) (M3.cast rfl (by omega)) (fun b o hb n1 n2=>by rw[Zb n2];exact k2 b o hb n1)⟩
  ·rw[Zb (fun z=>by rw[z,M2.stays]at hat2;cases hat2)];exact hat2
  ·have e1:=Ql (wa.one wS')
   have e2:=Ql (wb.one wO)
   subst e1
   subst e2
   have e3:=Ql (hxa.symm.trans hx)
   have e4:=Ql (hyb.symm.trans hy)
   subst e3
   subst e4
   exact⟨tc,_,by rw[Za2,if_pos rfl,Zcz (cds zx) (cds zy),el],.inr ⟨bt,rfl⟩⟩
  ·rcases hno with z|z
   ·exact nomatch z.one wS'
   ·exact nomatch z.one wO
def ZcZ(n:Int)(e:Zv):Zv:=if e.n=n then ⟨e.n,e.p,e.k,e.f,e.ss,e.g+1⟩ else e
def bump(L:List Zv)(n:Int):List Zv:=L.map (ZcZ n)
theorem Zdx(n:Int)(e:Zv):(ZcZ n e).n=e.n∧(ZcZ n e).p=e.p∧(ZcZ n e).k=e.k∧(ZcZ n e).f=e.f∧(ZcZ n e).ss=e.ss:=by unfold ZcZ;split<;>exact⟨rfl,rfl,rfl,rfl,rfl⟩
theorem Zfi{n:Int}{e:Zv}(h:e.n=n):ZcZ n e=⟨e.n,e.p,e.k,e.f,e.ss,e.g+1⟩:=if_pos h
theorem ZgR{n:Int}{e:Zv}(h:¬ e.n=n):ZcZ n e=e:=if_neg h
theorem Zcm(L:List Zv)(n:Int):Zz (bump L n)=Zz L:=by
 unfold Zz bump
 rw[Qi]
 exact QA fun e _=>(Zdx n e).1
theorem Zo1(L:List Zv)(n:Int):(bump L n).map (·.p)=L.map (·.p):=by
 unfold bump
 rw[Qi]
 exact QA fun e _=>(Zdx n e).2.1
theorem ZnQ(L:List Zv)(n:Int):kvM (bump L n)=kvM L:=by
 unfold kvM bump
 rw[Qi]
 refine QA fun e _=>?_
 simp only[Function.comp]
 rw[(Zdx n e).1,(Zdx n e).2.1]
theorem ZoH{m rd sd:Addr}{L:List Zv}{n:Int}{b:Addr}(h:Fp m rd sd (bump L n) b):Fp m rd sd L b:=by
 rcases h with h|h|h|⟨e',he',h⟩
 ·exact .inl h
 ·exact .inr (.inl h)
 ·exact .inr (.inr (.inl h))
 ·obtain⟨e,he,rfl⟩:=Qn.mp he'
  obtain⟨_,h1,h2,h3,_⟩:=Zdx n e
  rw[h1,h2,h3]at h
  exact .inr (.inr (.inr ⟨e,he,h⟩))
theorem Fp_bump'{m rd sd:Addr}{L:List Zv}{n:Int}{b:Addr}(h:Fp m rd sd L b):Fp m rd sd (bump L n) b:=by
 rcases h with h|h|h|⟨e,he,h⟩
 ·exact .inl h
 ·exact .inr (.inl h)
 ·exact .inr (.inr (.inl h))
 ·obtain⟨_,h1,h2,h3,_⟩:=Zdx n e
  refine .inr (.inr (.inr ⟨ZcZ n e,Qd he,?_⟩))
  rw[h1,h2,h3]
  exact h
theorem ZkM{n b:Int}(h:b≠n):∀L:List Zv,hdM (bump L n) b=hdM L b
 | []=>rfl
 | e::L=>by
  have ih:=ZkM h L
  unfold hdM hdL bump at ih ⊢
  rw[Qj,Qj,Qj,Q5,Q5]
  have e1:(toL (ZcZ n e)).1=e.n:=(Zdx n e).1
  rw[e1]
  by_cases he:e.n=b
  ·rw[decide_eq_true he,decide_eq_true (show (toL e).1=b from he),ZgR (fun z=>h (he.symm.trans z))]
  ·rw[decide_eq_false he,decide_eq_false (show ¬ (toL e).1=b from he)]
   exact ih
theorem ZjI{L:List Zv}(nd:(Zz L).Nodup){e:Zv}(he:e∈L):hdM (bump L e.n) e.n=(e.ss[e.g+1]?).map cds:=by
 have hm:ZcZ e.n e∈bump L e.n:=Qd he
 rw[Zfi rfl]at hm
 exact ZeP (L:=bump L e.n) (by rw[Zcm];exact nd) hm
theorem ZfH(k f:Addr)(g:Int):Zbc k f g=([("all_keys",.ref k),("fars",.ref f),("gone",.int g)]:List (Str×V)):=by
 unfold Zbc
 rw[Za0,Zu nFK,Za0,Zu nGK,Zu nGF,Za0]
theorem Zhl(k f:Addr)(g v:Int):Zt "gone" (.int v) (Zbc k f g)=Zbc k f v:=by
 rw[ZfH,ZfH,Zu nGK,Zu nGF,Zb1]
theorem Zg7(k f:Addr)(g:Int):(Zbc k f g).length<1000:=by rw[ZfH];show 3<1000;decide
theorem ZlN(k f:Addr)(g:Int):(Zbc k f g).lookup ("fars" : Str)=some (.ref f):=by
 unfold Zbc
 rw[Zl,if_neg nGF,Zl,if_pos rfl]
theorem ZpV{L:List Zv}(pd:(L.map (·.p)).Nodup){e e':Zv}(he:e∈L)(he':e'∈L)(h:e.p=e'.p):e=e':=by
 have n2:((L.map fun x=>(x.p,x)).map (·.1)).Nodup:=by rw[Qi];exact pd
 have:=ZbP n2 (Qd (f:=fun x:Zv=>(x.p,x)) he) (Qd (f:=fun x:Zv=>(x.p,x)) he') h
 injection this
theorem ZP.bump{cR cM:Addr}{H:Hp}{m rd sd:Addr}{L:List Zv}{s:StL}{nb li lo:Int}{best:V}(M:ZP cR cM H m rd sd L s nb li lo best){e:Zv}(he:e∈L)(hg:e.g<e.ss.length){dp:Addr} :
  ZP cR cM (upd H e.p (.ins cR dp (Zbc e.k e.f ((e.g+1:Nat):Int)))) m rd sd (My.bump L e.n) s nb li lo best:=by
 obtain⟨dm,hm⟩:=M.ob
 obtain⟨dq,hp⟩:=(M.each e he).at'.ob
 obtain⟨n1,_,_⟩:=M.ne_p he
 obtain⟨n2,_,_,n3,_,_⟩:=M.ne_sd he
 refine⟨⟨dm,by rw[Zb n1];exact hm⟩,by rw[Zb n3,ZnQ];exact M.rows,by rw[Zb n2];exact M.stays,fun x hx t ht=>?_,fun e' he'=>?_,by rw[Zcm];exact M.up,by rw[Zo1];exact M.pd,by unfold My.bump;rw[Qa];exact M.few,M.sfew⟩
 ·have:=M.ats x hx t ht
  rw[Zb (fun z=>by rw[z,hp]at this;cases this)];exact this
 ·obtain⟨x,hx,rfl⟩:=Qn.mp he'
  have R:=M.each x hx
  have kne:∀ {y:Zv},y∈L→y.k≠e.p∧y.f≠e.p:=fun {y} hy=>by
   have Ry:=M.each y hy
   exact⟨(fun z=>by have:=Ry.at'.ks;rw[z,hp]at this;cases this),(fun z=>by have:=Ry.at'.fs;rw[z,hp]at this;cases this)⟩
  obtain⟨k1,k2⟩:=kne hx
  by_cases hn:x.n=e.n
  ·have ex:x=e:=by
    have n2:((L.map fun x=>(x.n,x)).map (·.1)).Nodup:=by rw[Qi];exact M.nd
    have:=ZbP n2 (Qd (f:=fun x:Zv=>(x.n,x)) hx) (Qd (f:=fun x:Zv=>(x.n,x)) he) hn
    injection this
   subst ex
   rw[Zfi rfl]
   exact⟨⟨⟨dp,Zd⟩,by show (upd H x.p _) x.k=_;rw[Zb k1];exact R.at'.ks,by show (upd H x.p _) x.f=_;rw[Zb k2];exact R.at'.fs⟩,hg,R.len,R.srt,R.str⟩
  ·rw[ZgR hn]
   exact R.keep (Zb (fun z=>hn (by rw[ZpV M.pd hx he z]))) (Zb k1) (Zb k2)
theorem ZrA{L:List Zv}{e:Zv}{x:Str}(nd:(Zz L).Nodup)(up:Zag (Zz L))(he:e∈L)(hx:e.ss[e.g]? = some x)(srt:sortedS e.ss=true)(W:Win (hdM L) (Zz L) (some e.n)):Tk (hdM L) (hdM (bump L e.n)) (Zz L) e.n (cds x):=by
 refine⟨W,by rw[ZeP nd he,hx];rfl,fun b hb=>ZkM hb L,fun y hy=>?_,up⟩
 rw[ZjI nd he]at hy
 cases hz:e.ss[e.g+1]? with
 | none=>rw[hz]at hy;cases hy
 | some y'=>rw[hz]at hy;cases hy;exact Zij srt e.g x y' hx hz
theorem Zqx{c:Bool}{e1 e2:VK→Prop}{Q:VK}(P:V→Hp→Prop)(h1:c=true→∀Q':VK,(∀v H,P v H→Q' v H)→e1 Q')(h2:c=false→∀Q':VK,(∀v H,P v H→Q' v H)→e2 Q')(q:∀v H,P v H→Q v H):if c=true then e1 Q else e2 Q:=by
 cases c with
 | true=>rw[if_pos rfl];exact h1 rfl Q q
 | false=>rw[if_neg (by decide)];exact h2 rfl Q q
def ZbQ(n:Int)(C:List (List Int)):List (List Int×List Int):=C.map fun X=>(ZU X n,Zae X n)
theorem ZjL(rd:Addr)(nb li lo:Int)(sd:Addr)(best:V):(mgF rd nb li lo sd best).lookup ("play_again" : Str)=none:=Za8 _ _ _ _ _ _ (by decide +kernel) (by decide +kernel) (by decide +kernel) (by decide +kernel) (by decide +kernel) (by decide +kernel)
def Znt(cR cM:Addr):Sp:=fun vs H Q _=>∃ (m rd sd:Addr) (L:List Zv) (s:StL) (nb li lo:Int) (best:V) (e:Zv) (x:Str),vs=[.ref m,.int e.n]∧ZP cR cM H m rd sd L s nb li lo best∧e∈L∧e.ss[e.g]? = some x∧Win (hdM L) (Zz L) (some e.n)∧ZR (hdM L) s (Zz L) ∧
 ∀ (s':StL) (w':Option Int) (k q:Int) (H':Hp),ZP cR cM H' m rd sd (bump L e.n) s' nb (li+k) (lo+q) (Zce w')→Win (hdM (bump L e.n)) (Zz L) w'→ZR (hdM (bump L e.n)) s' (Zz L)→Ag (hdM (bump L e.n)) (cds x) (ZbQ e.n (ZK 8 (Zz L) e.n)) k q→(∀b o,H b=some o→¬ Fp m rd sd L b→H' b=some o)→Q .non H'
theorem Zoo(T:Zaf K mg cRow cMerge)(f_Row_head:Mf P w K mg base 2 cRow "head" ["self"] (ZeA cRow))(f_matches_up:Df P w K mg base 3 "matches_up" ["numbers", "n"] ZhT)(f_Merge_play_again:Mf P w K mg base 4 cMerge "play_again" ["self", "meeting", "comer"] (ZkL cRow cMerge)):Mf P w K mg base 5 cMerge "send_out" ["self", "number"] (Znt cRow cMerge):=by
 refine T.t_Merge_send_out.mf ZaH (fun vs H Q E h=>?_) (fun cdv f A outer s H vs Q E hr h=>?_)
 ·obtain⟨m,rd,sd,L,s,nb,li,lo,best,e,x,rfl,_⟩:=h
  rfl
 obtain⟨m,rd,sd,L,s,nb,li,lo',best,e,x,rfl,M,he,hx,W,ok,q⟩:=h
 refine⟨_,#[Zf,#[Zw,2,ZaH.nd,(Or.inl rfl),#[Zo,(ixG hr),#[ZO,‹0›],‹1›]],#[Zf,#[Zde,‹2›,#[Zi],Zgp],#[Zf,#[Zw,3,ZaH.nd,(Or.inl rfl),#[Zbo,#[Zm,Zbq,#[Zay,f_Row_head,T.cl_Row,hr,‹2›],#[ZW],(Zp _)],#[ZW],#[ZaC,#[Za,‹1›,#[Za,#[Zo,(ixL K),#[ZO,‹2›],#[ZO,‹2›]],#[Ze]]]]]],#[Zf,#[Zcv,PassesOwn.never,#[iL,K,#[Zy,f_matches_up,hr,#[Za,#[ZaR,Zrq,T.b.n_list,boot_list,#[Za,#[ZO,‹0›],#[Ze]]],#[Za,‹1›,#[Ze]]],(by rfl)]],#[ZD,4,ZaH.nd,(Or.inl rfl)],#[Zj,#[Zw,3,ZaH.nd,(Or.inl rfl),#[ZcM,f_Merge_play_again,T.cl_Merge,hr,‹0›,#[Za,‹4›,#[Za,‹3›,#[Ze]]]]]]],#[Zj,#[ZbB,‹0›,#[Zbo,#[Zm,Zbq,‹3›,#[ZW],(Zp _)],#[ZW],#[Zo,(ixT K),‹3›,#[Zi]]]]]]]]],?_⟩
 obtain⟨dx,hm⟩:=M.ob
 have R:=M.each e he
 obtain⟨dp,hp⟩:=R.at'.ob
 have hg:e.g<e.ss.length:=(Qg.mp hx).1
 have tk:=ZrA M.nd M.up he hx R.srt W
 refine⟨_,rfl,m,cMerge,dx,_,_,rfl,hm,T.cl_Merge,T.na_Merge_rows,ZaB ..,_,rfl,rd,_,rfl,ZN.k' (k:=.inl e.n) M.rows (ZdN M.nd he),?_⟩
 refine⟨_,rfl,e.p,cRow,dp,_,_,rfl,hp,T.cl_Row,T.na_Row_gone,Zdm ..,_,_,rfl,rfl,dp,_,hp,Zg7 ..,?_⟩
 rw[Zhl,show ((e.g:Int)+1)=((e.g+1:Nat):Int) by omega]
 have M1:=M.bump he hg (dp:=dp)
 have hp1:(upd H e.p (.ins cRow dp (Zbc e.k e.f ((e.g+1:Nat):Int)))) e.p=some (.ins cRow dp (Zbc e.k e.f ((e.g+1:Nat):Int))):=Zd
 have k1:∀b o,H b=some o→b≠e.p→(upd H e.p (.ins cRow dp (Zbc e.k e.f ((e.g+1:Nat):Int)))) b=some o:=fun b o hb n=>by rw[Zb n];exact hb
 generalize upd H e.p (.ins cRow dp (Zbc e.k e.f ((e.g+1:Nat):Int)))=H1 at M1 hp1 k1 ⊢
 have hm':(⟨e.n,e.p,e.k,e.f,e.ss,e.g+1⟩:Zv)∈bump L e.n:=by
  have:ZcZ e.n e∈bump L e.n:=Qd he
  rwa [Zfi rfl]at this
 have R1:=M1.each _ hm'
 have keep1:∀ {H2:Hp},(∀b o,H1 b=some o→b≠m→b≠sd→H2 b=some o)→∀b o,H b=some o→¬ Fp m rd sd L b→H2 b=some o:=fun {H2} k b o hb nf =>
  k b o (k1 b o hb fun z=>nf (.inr (.inr (.inr ⟨e,he,.inl z⟩)))) (fun z=>nf (.inl z)) (fun z=>nf (.inr (.inr (.inl z))))
 have hpos:e.n∈Zz L:=W.1
 have h60:(Zz L).length≤60:=by unfold Zz;rw[Qa];exact M.few
 have hpw:(Zz L).length≤2 ^ 8:=Qy h60 (by decide)
 obtain⟨cok,ctop,clen⟩:=Ze1 8 (Zz L) e.n hpos hpw
 have hgo:hdM (bump L e.n) e.n=(e.ss[e.g+1]?).map cds:=ZjI M.nd he
 have hdd:∀ (c:Com),(c=none∧e.ss[e.g+1]? = none)∨(∃y,e.ss[e.g+1]? = some y∧c=some (e.n,((lcp (cds y) (cds x):Nat):Int)))→Zjd (hdM (bump L e.n)) (cds x) [e.n] c:=fun c hc=>by
  have hw:=Win.sing (hd:=hdM (bump L e.n)) (n:=e.n)
  rcases hc with⟨rfl,hn⟩|⟨y,hy,rfl⟩
  ·rw[hgo,hn]at hw
   exact⟨hw,fun p hp=>by cases hp⟩
  ·rw[hgo,hy]at hw
   exact⟨hw,fun p hp=>by cases hp;exact⟨cds y,by rw[hgo,hy];rfl,rfl⟩⟩
 refine⟨_,rfl,e.p,dp,_,rfl,hp1,Zba ..,e.p,e.k,e.f,e.ss,e.g+1,rfl,R1.at',rfl,_,rfl,?_⟩
 rw[Zjm]
 refine Zqx (fun v H2=>ZF H1 H2∧∃c,CV H2 v c∧Zjd (hdM (bump L e.n)) (cds x) [e.n] c) (fun d Q' hq=>?_) (fun d Q' hq=>?_) (fun v H2 ⟨s2,c,hcv,hok⟩=>?_)
 ·have hn:e.ss[e.g+1]? = none:=by
   have:=of_decide_eq_true d
   cases hy:e.ss[e.g+1]? with
   | none=>rfl
   | some y=>rw[hy]at this;cases this
  exact hq _ _ ⟨ZF.refl _,none,.inl ⟨rfl,rfl⟩,hdd none (.inl ⟨rfl,hn⟩)⟩
 ·obtain⟨y,hy⟩:∃y,e.ss[e.g+1]? = some y:=by
   cases hy:e.ss[e.g+1]? with
   | none=>rw[hy]at d;exact absurd rfl (of_decide_eq_false d)
   | some y=>exact⟨y,rfl⟩
  have hyl:e.g+1<e.ss.length:=(Qg.mp hy).1
  have hal:Zdp e.ss (e.g+1)=((lcp (cds y) (cds x):Nat):Int):=by
   unfold Zdp
   rw[if_neg (by omega),Q8,QF,QF,hx,hy,Zcz]
   rfl
  have hat:atI ((List.range e.ss.length).map fun j=>V.int (Zdp e.ss j)) ((e.g+1:Nat):Int)=some (.int ((lcp (cds y) (cds x):Nat):Int)):=Zal (by rw[Qp,List.getElem?_range hyl,← hal];rfl)
  refine⟨_,rfl,_,rfl,e.p,cRow,dp,_,_,rfl,hp1,T.cl_Row,T.na_Row_fars,ZlN ..,_,rfl,e.p,cRow,dp,_,_,rfl,hp1,T.cl_Row,T.na_Row_gone,Zdm ..,e.f,_,_,_,rfl,rfl,SqL.of R1.at'.fs,hat,(by show 2≤sizeLine;decide),fun tc htc=>?_⟩
  exact hq _ _ ⟨Zh htc _,some (e.n,((lcp (cds y) (cds x):Nat):Int)),.inr ⟨tc,_,rfl,rfl,Zd⟩,hdd _ (.inr ⟨y,hy,rfl⟩)⟩
 have M2:=M1.same s2
 obtain⟨dx2,hm2⟩:=M2.ob
 refine⟨_,rfl,m,cMerge,dx2,_,_,rfl,hm2,T.cl_Merge,T.na_Merge_rows,ZaB ..,rd,_,rfl,M2.rows,fun l hl=>?_⟩
 rw[Zmo,Zcm]
 have s3:=s2.trans (Zh hl (.lst ((Zz L).map V.int)))
 have hl3:(upd H2 l (.lst ((Zz L).map V.int))) l=some (.lst ((Zz L).map V.int)):=Zd
 have hcv3:CV (upd H2 l (.lst ((Zz L).map V.int))) v c:=hcv.keep fun t xs ht=>Zh hl _ _ _ ht
 generalize upd H2 l (.lst ((Zz L).map V.int))=H3 at s3 hl3 hcv3 ⊢
 refine⟨_,rfl,l,Zz L,e.n,rfl,hl3,hpos,h60,M.up,fun r ts H4 hr0 hr4 htl hts s4=>?_⟩
 have s14:=s3.trans s4
 have M4:=M1.same s14
 have hcv4:CV H4 v c:=hcv3.keep fun t xs ht=>s4 _ _ ht
 refine⟨r,rfl,⟨_,SqL.of hr4⟩,?_⟩
 obtain⟨dm4,hm4⟩:=M4.ob
 obtain⟨dm1,hm1⟩:=M1.ob
 have nrm:r≠m:=(Zc (s3 _ _ hm1) hr0).symm
 have nrs:r≠sd:=(Zc (s3 _ _ M1.stays) hr0).symm
 refine Zfb (K:=K) (a:=r) (xs:=ts.map V.ref) (fun i σ H5=>∃ (v':V) (c':Com) (s':StL) (k q':Int) (v4:Option V),σ=[some (.ref m),some (.int e.n),some (.ref e.p),some v',v4]∧i≤ts.length∧CV H5 v' c'∧Zjd (hdM (bump L e.n)) (cds x) (low e.n (ZK 8 (Zz L) e.n) i) c'∧ZP cRow cMerge H5 m rd sd (bump L e.n) s' nb (li+k) (lo'+q') best∧ZR (hdM (bump L e.n)) s' (low e.n (ZK 8 (Zz L) e.n) i)∧(∀j,¬ Kys (low e.n (ZK 8 (Zz L) e.n) i) j→Z0 s' j=Z0 s j)∧Ag (hdM (bump L e.n)) (cds x) (ZbQ e.n ((ZK 8 (Zz L) e.n).take i)) k q'∧(∀b o,H4 b=some o→b≠m→b≠sd→H5 b=some o)) ?_ (fun i σ H5 _ hq=>by obtain⟨_,_,_,_,_,_,_,_,_,_,_,_,_,_,k5⟩:=hq;exact SqL.of (k5 _ _ hr4 nrm nrs)) ?_ ?_
 ·refine⟨v,c,s,0,0,_,rfl,Qw _,hcv4,hok,M4.cast (by omega) (by omega),fun X hX h2=>?_,fun _ _=>rfl,.nil,fun b o h _ _=>h⟩
  have:=ZfE hX
  rcases this with rfl|⟨g,_⟩
  ·exact absurd h2 (by show ¬ 2≤1;decide)
  ·exact absurd g (by show ¬ 2≤1;decide)
 ·rintro i y σ H5 hy ⟨v',c',s',k,q',v4,rfl,hi,hcv5,hok5,M5,nok,hlk,ag,k5⟩
  rw[Qp]at hy
  cases hz:ts[i]? with
  | none=>rw[hz]at hy;cases hy
  | some t =>
  rw[hz]at hy
  cases hy
  have hil:i<ts.length:=(Qg.mp hz).1
  cases hX:(ZK 8 (Zz L) e.n)[i]? with
  | none=>rw[Q6]at hX;omega
  | some X =>
  obtain⟨x1,x2,x3,x4⟩:=cok i X hX
  have hup:=x1.rise M.up
  have e3:low e.n (ZK 8 (Zz L) e.n) (i+1)=X:=by show (ZK 8 (Zz L) e.n).getD i []=X;rw[QF,hX];rfl
  have ht5:H5 t=some (.tup [.int (ZS X).1,.int (ZS X).2]):=k5 _ _ (hts i t X hz hX) (fun z=>by have:=hts i t X hz hX;rw[z,hm4]at this;cases this) (fun z=>by have:=hts i t X hz hX;rw[z,M4.stays]at this;cases this)
  obtain⟨dm5,hm5⟩:=M5.ob
  rw[← x4]at hok5 nok hlk
  have was:=Znl tk x1 x2 x3 ok
  have hkey:Z0 s' (ZS X)=Z0 s (ZS X):=hlk _ fun z=>(Zjs hup x2 z).1 rfl
  refine⟨_,rfl,m,dm5,_,rfl,hm5,ZjL ..,_,rfl,_,rfl,m,rd,sd,bump L e.n,s',nb,_,_,best,t,v',c',cds x,X,e.n,rfl,M5,ht5,hcv5,hok5,?_,fun b hb y hy=>tk.ge (x1.mem hb) hy,hup,fun b hb=>by rw[Zcm];exact x1.mem hb,x2,x3,fun v6 c6 s6 k6 q6 H6 hcv6 hok6 hnd6 hoth6 hag6 M6 k6'=>?_⟩
  ·rw[hkey]
   rcases was with w|⟨t',b,y,w1,w2,_,w4⟩
   ·exact .inl w
   ·exact .inr ⟨t',b,y,w1,w2,w4⟩
  ·refine⟨v6,c6,s6,k+k6,q'+q6,_,rfl,hil,hcv6,by rw[e3];exact hok6,M6.cast (by omega) (by omega),?_,fun j hj=>?_,?_,fun b o hb n1 n2=>k6' b o (k5 b o hb n1 n2) n1 n2⟩
   ·rw[e3]
    refine Zmg (n:=e.n) (nok.congr (fun _ _=>rfl) fun j hj=>hoth6 j (Zjs hup x2 hj).1) ?_ hnd6
    have hno:=Zg5 hup (ZcY x3)
    have so:Sub X (Zae X e.n):=by unfold Zae;split;exact Sub.top.up x2;exact Sub.top.lo x2
    refine(ok.sub (x1.trans so)).congr (fun b hb=>tk.oth b fun z=>hno (z ▸ hb)) fun j hj=>?_
    rw[hoth6 j (ZjC hup x2 hj).1,hlk j (ZjC hup x2 hj).2]
   ·rw[e3]at hj
    rw[hoth6 j (fun z=>hj ⟨X,.top,x2,z⟩),hlk j (fun hq=>by obtain⟨Y,y1,y2,y3⟩:=hq;exact hj ⟨Y,(Zgo x2 e.n).trans y1,y2,y3⟩)]
   ·have:=hag6 _ _ _ ag
    unfold ZbQ at this ⊢
    rw[QH,hX,Qe]
    exact this
 ·rintro σ H5 ⟨v',c',s',k,q',v4,rfl,_,hcv5,hok5,M5,nok,hlk,ag,k5⟩
  rw[Qa,htl,ctop]at hok5 nok
  rw[Qa,htl,Qu (Qh _)]at ag
  obtain⟨dm5,hm5⟩:=M5.ob
  have fin:∀w':Option Int,w'=c'.map (·.1)→Q .non (upd H5 m (.ins cMerge dm5 (mgF rd nb (li+k) (lo'+q') sd (Zce w')))):=fun w' ew=>by
   subst ew
   refine q s' _ k q' _ M5.obj hok5.1 nok ag fun b o hb nf=>?_
   rw[Zb (fun z=>nf (.inl z))]
   exact keep1 (fun b o hb n1 n2=>k5 b o (s14 b o hb) n1 n2) b o hb nf
  rcases hcv5 with⟨rfl,rfl⟩|⟨t,p,rfl,rfl,ht⟩
  ·refine⟨_,rfl,rfl,_,rfl,Zcw rfl ?_⟩
   refine⟨_,rfl,m,cMerge,dm5,_,rfl,hm5,T.cl_Merge,T.na_Merge_best,Zcg ..,?_⟩
   rw[Zcd]
   exact fin none rfl
  ·refine⟨_,rfl,rfl,_,rfl,Zbl (fun z=>nomatch z) ?_⟩
   refine⟨_,rfl,t,_,_,_,rfl,rfl,SqT.of ht,(show atI [V.int p.1,V.int p.2] 0=some (.int p.1) from Zal (j:=0) rfl),_,rfl,m,cMerge,dm5,_,rfl,hm5,T.cl_Merge,T.na_Merge_best,Zcg ..,?_⟩
   rw[Zcd]
   exact fin (some p.1) rfl
def Zhy(L:List Zv)(w:Option Int)(x:V)(L':List Zv)(k q:Int)(H':Hp):Prop :=
 (w=none∧x=.non∧L'=L∧k=0∧q=0)∨∃ (e:Zv) (t:Addr) (z:Str),e∈L∧w=some e.n∧x=.ref t∧e.ss[e.g]? = some z∧H' t=some (.tup [.int e.n,.int (e.g:Int),.str z])∧L'=bump L e.n∧Ag (hdM L') (cds z) (ZbQ e.n (ZK 8 (Zz L) e.n)) k q
theorem Zkh(rd:Addr)(nb li lo:Int)(sd:Addr)(best:V):(mgF rd nb li lo sd best).lookup ("send_out" : Str)=none:=Za8 _ _ _ _ _ _ (by decide +kernel) (by decide +kernel) (by decide +kernel) (by decide +kernel) (by decide +kernel) (by decide +kernel)
theorem Zgj(rd:Addr)(nb li lo:Int)(sd:Addr)(best:V):(mgF rd nb li lo sd best).lookup ("take" : Str)=none:=Za8 _ _ _ _ _ _ (by decide +kernel) (by decide +kernel) (by decide +kernel) (by decide +kernel) (by decide +kernel) (by decide +kernel)
def ZnY(cR cM:Addr):Sp:=fun vs H Q _=>∃ (m rd sd:Addr) (L:List Zv) (s:StL) (nb li lo:Int) (w:Option Int),vs=[.ref m]∧ZP cR cM H m rd sd L s nb li lo (Zce w)∧Win (hdM L) (Zz L) w∧ZR (hdM L) s (Zz L) ∧
 ∀ (x:V) (L':List Zv) (s':StL) (w':Option Int) (k q:Int) (H':Hp),Zhy L w x L' k q H'→ZP cR cM H' m rd sd L' s' nb (li+k) (lo+q) (Zce w')→Win (hdM L') (Zz L') w'→ZR (hdM L') s' (Zz L')→(∀b o,H b=some o→¬ Fp m rd sd L b→H' b=some o)→Q x H'
theorem ZpD(T:Zaf K mg cRow cMerge)(f_Merge_coming:Mf P w K mg base 3 cMerge "coming" ["self"] (Zg2 cRow cMerge))(f_Merge_send_out:Mf P w K mg base 5 cMerge "send_out" ["self", "number"] (Znt cRow cMerge)):Mf P w K mg base 6 cMerge "take" ["self"] (ZnY cRow cMerge):=by
 refine T.t_Merge_take.mf Zev (fun vs H Q E h=>?_) (fun cdv f A outer s H vs Q E hr h=>?_)
 ·obtain⟨m,rd,sd,L,s,nb,li,lo,w,rfl,_⟩:=h
  rfl
 obtain⟨m,rd,sd,L,s,nb,li,lo',w,rfl,M,W,ok,q⟩:=h
 refine⟨_,#[Zf,#[Zw,1,Zev.nd,(Or.inl rfl),#[Zay,f_Merge_coming,T.cl_Merge,hr,‹0›]],#[Zf,#[ZZ,#[Zm,Zej,‹1›,#[ZW],(Zp _)],#[Zj,#[Zab,#[ZcM,f_Merge_send_out,T.cl_Merge,hr,‹0›,#[Za,#[ZO,‹0›],#[Ze]]]]],#[ZE]],#[Zj,#[Zs,‹1›]]]],?_⟩
 obtain⟨dx,hm⟩:=M.ob
 refine⟨_,rfl,m,dx,_,rfl,hm,Ze2 ..,m,rd,sd,L,s,nb,li,lo',w,rfl,M,W,fun x H1 hc s1=>?_⟩
 have M1:=M.same s1
 rcases hc with⟨rfl,hw⟩|⟨t,e',z,rfl,he',hz,ht,hw⟩
 ·have hw':Win (hdM L) (Zz L) none:=by rw[Zby]at hw;exact hw
  have ew:=W.one hw'
  subst ew
  exact⟨_,rfl,rfl,_,rfl,ZeX rfl ⟨_,rfl,q .non L s none 0 0 H1 (.inl ⟨rfl,rfl,rfl,rfl,rfl⟩) (M1.cast (by omega) (by omega)) W ok (fun b o hb _=>s1 b o hb)⟩⟩
 ·obtain⟨e,he,rfl⟩:=Qn.mp he'
  have hw':Win (hdM L) (Zz L) (some e.n):=by rw[Zby]at hw;exact hw
  have ew:=W.one hw'
  subst ew
  obtain⟨dx1,hm1⟩:=M1.ob
  refine⟨_,rfl,rfl,_,rfl,Zjg (fun z=>nomatch z) ?_⟩
  refine⟨_,rfl,m,dx1,_,rfl,hm1,Zkh ..,_,rfl,m,cMerge,dx1,_,_,rfl,hm1,T.cl_Merge,T.na_Merge_best,ZdX ..,m,rd,sd,L,s,nb,li,lo',_,e,z,rfl,M1,he,hz,W,ok,fun s' w' k q' H2 M2 W2 ok2 ag k2=>?_⟩
  have ht2:H2 t=some (.tup [.int e.n,.int (e.g:Int),.str z]):=k2 _ _ ht fun hf=>by
   have ht':=ht
   rcases hf with h|h|h|⟨y,hy,h⟩
   ·rw[h,hm1]at ht';cases ht'
   ·rw[h,M1.rows]at ht';cases ht'
   ·rw[h,M1.stays]at ht';cases ht'
   ·have R:=(M1.each y hy).at'
    obtain⟨dy,hdy⟩:=R.ob
    rcases h with h|h|h
    ·rw[h,hdy]at ht';cases ht'
    ·rw[h,R.ks]at ht';cases ht'
    ·rw[h,R.fs]at ht';cases ht'
  exact⟨_,rfl,q (.ref t) (bump L e.n) s' w' k q' H2 (.inr ⟨e,t,z,he,rfl,rfl,hz,ht2,rfl,ag⟩) M2 (by rw[Zcm];exact W2) (by rw[Zcm];exact ok2) (fun b o hb nf=>k2 b o (s1 b o hb) nf)⟩
abbrev Zak:=Int×List Str×Nat
def pur(Lo:List Zx):List Zak:=Lo.map fun e=>(e.1,e.2.2)
def Z5(L:List Zv):List Zak:=L.map fun e=>(e.n,(e.ss,e.g))
def hdP(P:List Zak):Hd:=hdL (P.map fun x=>(x.1,0,x.2))
def Zbr(P:List Zak):List Int:=P.map (·.1)
def Zfe(n:Int)(x:Zak):Zak:=if x.1=n then (x.1,x.2.1,x.2.2+1) else x
def ZbZ(P:List Zak)(n:Int):List Zak:=P.map (Zfe n)
theorem ZeH(Lo:List Zx):hdL Lo=hdP (pur Lo):=Zgb _ _ (by unfold pur;rw[Qi,Qi];rfl)
theorem Zge(L:List Zv):hdM L=hdP (Z5 L):=Zgb _ _ (by unfold Z5;rw[Qi,Qi,Qi];rfl)
theorem Zch(Lo:List Zx):Lo.map (·.1)=Zbr (pur Lo):=by unfold Zbr pur;rw[Qi];rfl
theorem Zcy(L:List Zv):Zz L=Zbr (Z5 L):=by unfold Zbr Z5 Zz;rw[Qi];rfl
theorem ZhO(L:List Zv)(n:Int):Z5 (bump L n)=ZbZ (Z5 L) n:=by
 unfold Z5 bump ZbZ
 rw[Qi,Qi]
 refine QA fun e _=>?_
 simp only[Function.comp]
 unfold Zfe
 by_cases h:e.n=n
 ·rw[Zfi h,if_pos h]
 ·rw[ZgR h,if_neg h]
def Zd1(n:Int)(e:Zx):Zx:=if e.1=n then (e.1,e.2.1,e.2.2.1,e.2.2.2+1) else e
def ZaP(Lo:List Zx)(n:Int):List Zx:=Lo.map (Zd1 n)
theorem Ze8(Lo:List Zx)(n:Int):pur (ZaP Lo n)=ZbZ (pur Lo) n:=by
 unfold pur ZaP ZbZ
 rw[Qi,Qi]
 refine QA fun e _=>?_
 simp only[Function.comp]
 unfold Zfe Zd1
 by_cases h:e.1=n
 ·rw[if_pos h,if_pos h]
 ·rw[if_neg h,if_neg h]
theorem Zl4(P:List Zak)(n:Int):Zbr (ZbZ P n)=Zbr P:=by
 unfold Zbr ZbZ
 rw[Qi]
 refine QA fun x _=>?_
 simp only[Function.comp]
 unfold Zfe
 split<;>rfl
theorem Zqj{P:List Zak}(nd:(Zbr P).Nodup){x:Zak}(h:x∈P):hdP P x.1=(x.2.1[x.2.2]?).map cds :=
 Zgt (L:=P.map fun x:Zak=>((x.1,0,x.2):Zx)) (e:=(x.1,0,x.2)) (by rw[Qi];exact nd) (Qd (f:=fun x:Zak=>((x.1,0,x.2):Zx)) h)
def ZeW(P:List Zak)(x:Zak)(z:Str)(k q:Int):Prop:=x∈P∧x.2.1[x.2.2]? = some z∧Win (hdP P) (Zbr P) (some x.1)∧Ag (hdP (ZbZ P x.1)) (cds z) (ZbQ x.1 (ZK 8 (Zbr P) x.1)) k q
abbrev Zdh:=Int×Nat×Str
inductive ZbF (P:List Zak):List Zdh→List Zak→Int→Int→Prop
 | nil:ZbF P [] P 0 0
 | snoc {ts:List Zdh} {P1:List Zak} {x:Zak} {z:Str} {k q k1 q1:Int}:ZbF P ts P1 k q→ZeW P1 x z k1 q1→ZbF P (ts++[(x.1,x.2.2,z)]) (ZbZ P1 x.1) (k+k1) (q+q1)
inductive ZfX:List Zak→Int→Int→Prop
 | stop {P:List Zak}:Win (hdP P) (Zbr P) none→ZfX P 0 0
 | go {P:List Zak} {x:Zak} {z:Str} {k q k1 q1:Int}:ZeW P x z k1 q1→ZfX (ZbZ P x.1) k q→ZfX P (k1+k) (q1+q)
theorem ZeW.one{P:List Zak}(nd:(Zbr P).Nodup){x y:Zak}{z u:Str}{k q k' q':Int}(h:ZeW P x z k q)(g:ZeW P y u k' q'):x=y∧z=u∧k=k'∧q=q':=by
 obtain⟨h1,h2,h3,h4⟩:=h
 obtain⟨g1,g2,g3,g4⟩:=g
 have e1:=Ql (h3.one g3)
 have e2:=ZbP nd h1 g1 e1
 subst e2
 have e3:=Ql (h2.symm.trans g2)
 subst e3
 exact⟨rfl,rfl,h4.one g4⟩
theorem ZbF.num{P P':List Zak}{ts:List Zdh}{k q:Int}(h:ZbF P ts P' k q):Zbr P'=Zbr P:=by
 induction h with
 | nil=>rfl
 | snoc _ _ ih=>rw[Zl4,ih]
def Zb7(P:List Zak):Nat:=(P.map fun x=>x.2.1.length-x.2.2).sum
theorem ZfN:∀ (P:List Zak),(Zbr P).Nodup→∀ {x:Zak},x∈P→x.2.2<x.2.1.length→Zb7 (ZbZ P x.1)+1=Zb7 P
 | [],_,_,h,_=>by cases h
 | y::P,nd,x,h,hlt=>by
  unfold Zbr at nd
  rw[Qj,QR]at nd
  unfold Zb7 ZbZ
  rw[Qj,Qj,Qj,Qau,Qau]
  rcases QI.mp h with rfl|h
  ·have e:P.map (Zfe x.1)=P:=by
    conv=>rhs;rw[← List.map_id P]
    refine QA fun u hu=>?_
    unfold Zfe
    rw[if_neg (fun z:u.1=x.1=>nd.1 (z ▸ Qd (f:=fun x:Zak=>x.1) hu))]
    rfl
   rw[e]
   unfold Zfe
   rw[if_pos rfl]
   show x.2.1.length-(x.2.2+1)+_+1=_
   omega
  ·have ih:=ZfN P nd.2 h hlt
   unfold Zb7 ZbZ at ih
   have e:Zfe x.1 y=y:=if_neg (fun z:y.1=x.1=>nd.1 (z ▸ Qd (f:=fun x:Zak=>x.1) h))
   rw[e]
   omega
theorem ZbF.left{P P':List Zak}{ts:List Zdh}{k q:Int}(h:ZbF P ts P' k q)(nd:(Zbr P).Nodup):Zb7 P'+ts.length=Zb7 P:=by
 induction h with
 | nil=>rfl
 | snoc h s ih =>
  have:=ZfN _ (by rw[h.num];exact nd) s.1 (Qg.mp s.2.1).1
  rw[Qf,Qt]
  omega
theorem Zh7{L L':List Zv}{w:Option Int}{x:V}{k q:Int}{H:Hp}(W:Win (hdM L) (Zz L) w)(h:Zhy L w x L' k q H):(Win (hdP (Z5 L)) (Zbr (Z5 L)) none∧x=.non∧L'=L∧k=0∧q=0)∨∃ (y:Zak) (z:Str) (t:Addr),ZeW (Z5 L) y z k q∧Z5 L'=ZbZ (Z5 L) y.1∧x=.ref t∧H t=some (.tup [.int y.1,.int (y.2.2:Int),.str z]):=by
 rw[Zge,Zcy]at W
 rcases h with⟨rfl,h1,h2,h3,h4⟩|⟨e,t,z,he,rfl,rfl,hz,ht,rfl,ag⟩
 ·exact .inl ⟨W,h1,h2,h3,h4⟩
 ·refine .inr ⟨(e.n,(e.ss,e.g)),z,t,⟨Qd (f:=fun e:Zv=>(e.n,(e.ss,e.g))) he,hz,W,?_⟩,ZhO L e.n,rfl,ht⟩
  rw[Zge,ZhO,Zcy]at ag
  exact ag
def Zr2(K:PySem.W.Frag)(cR cM:Addr):Sp:=fun vs H Q _=>∃ (m rd sd:Addr) (L:List Zv) (s:StL) (nb li lo:Int) (w:Option Int) (many:Int),vs=[.ref m,.int many]∧ZP cR cM H m rd sd L s nb li lo (Zce w)∧Win (hdM L) (Zz L) w∧ZR (hdM L) s (Zz L)∧Zb7 (Z5 L)≤100000 ∧
 ∀ (r:Addr) (us:List (Addr×Zdh)) (L':List Zv) (s':StL) (w':Option Int) (k q:Int) (H':Hp),H r=none→H' r=some (.lst (us.map fun u=>V.ref u.1))→(∀u∈us,H' u.1=some (.tup [.int u.2.1,.int (u.2.2.1:Int),.str u.2.2.2]))→ZbF (Z5 L) (us.map (·.2)) (Z5 L') k q→((us.length:Int)<many→w'=none)→(us≠[]→(us.length:Int)≤many)→ZP cR cM H' m rd sd L' s' nb (li+k) (lo+q) (Zce w')→Win (hdM L') (Zz L') w'→ZR (hdM L') s' (Zz L')→(∀b,Fp m rd sd L' b↔Fp m rd sd L b)→(∀b o,H b=some o→¬ Fp m rd sd L b→H' b=some o)→Q (.ref r) H'
theorem Zhy.fp{L L':List Zv}{w:Option Int}{x:V}{k q:Int}{H:Hp}(h:Zhy L w x L' k q H){m rd sd b:Addr}:Fp m rd sd L' b↔Fp m rd sd L b:=by
 rcases h with⟨_,_,rfl,_⟩|⟨e,t,z,_,_,_,_,_,rfl,_⟩
 ·exact Iff.rfl
 ·exact⟨ZoH,Fp_bump'⟩
theorem ZP.fp_live{cR cM:Addr}{H:Hp}{m rd sd:Addr}{L:List Zv}{s:StL}{nb li lo:Int}{best:V}(M:ZP cR cM H m rd sd L s nb li lo best){b:Addr}(h:Fp m rd sd L b):∃o,H b=some o∧∀xs,o≠.tup xs:=by
 rcases h with rfl|rfl|rfl|⟨e,he,h⟩
 ·obtain⟨dx,hd⟩:=M.ob;exact⟨_,hd,fun xs z=>by cases z⟩
 ·exact⟨_,M.rows,fun xs z=>by cases z⟩
 ·exact⟨_,M.stays,fun xs z=>by cases z⟩
 ·have R:=(M.each e he).at'
  obtain⟨dx,hd⟩:=R.ob
  rcases h with rfl|rfl|rfl
  ·exact⟨_,hd,fun xs z=>by cases z⟩
  ·exact⟨_,R.ks,fun xs z=>by cases z⟩
  ·exact⟨_,R.fs,fun xs z=>by cases z⟩
theorem ZP.fp_fresh{cR cM:Addr}{H:Hp}{m rd sd:Addr}{L:List Zv}{s:StL}{nb li lo:Int}{best:V}(M:ZP cR cM H m rd sd L s nb li lo best){b:Addr}(h:H b=none):¬ Fp m rd sd L b:=fun z=>by
 obtain⟨o,ho,_⟩:=M.fp_live z
 rw[h]at ho;cases ho
theorem ZP.fp_tup{cR cM:Addr}{H:Hp}{m rd sd:Addr}{L:List Zv}{s:StL}{nb li lo:Int}{best:V}(M:ZP cR cM H m rd sd L s nb li lo best){b:Addr}{xs:List V}(h:H b=some (.tup xs)):¬ Fp m rd sd L b:=fun z=>by
 obtain⟨o,ho,hn⟩:=M.fp_live z
 rw[h]at ho;cases ho;exact hn xs rfl
theorem Zqb(T:Zaf K mg cRow cMerge)(f_Merge_take:Mf P w K mg base 6 cMerge "take" ["self"] (ZnY cRow cMerge)):Mf P w K mg base 7 cMerge "take_few" ["self", "many"] (Zr2 K cRow cMerge):=by
 refine T.t_Merge_take_few.mf ZcI (fun vs H Q E h=>?_) (fun cdv f A outer s H vs Q E hr h=>?_)
 ·obtain⟨m,rd,sd,L,s,nb,li,lo,w,many,rfl,_⟩:=h
  rfl
 obtain⟨m,rd,sd,L,s,nb,li,lo',w,many,rfl,M,W,ok,hleft,q⟩:=h
 refine⟨_,#[Zf,#[Zw,2,ZcI.nd,(Or.inl rfl),#[Zax,#[Ze]]],#[Zf,(@ZdR _ _ _ _ _ _ PassesOwn.never (@PW.pt _ _ _ #[ZbC,#[Zm,Zcu,#[Zk,(Zcj K),(by rfl),T.b.n_len,Qs,#[Za,‹2›,#[Ze]]],‹1›,(Zp _)],#[Zbz,#[Zm,Zej,#[ZO,‹0›],#[ZW],(Zp _)]]]) #[Zj,#[Zab,#[Zd7,QO,QS,QT,Zbv,‹2›,#[Za,#[Zay,f_Merge_take,T.cl_Merge,hr,‹0›],#[Ze]]]]]),#[Zj,#[Zs,‹2›]]]],?_⟩
 have nd:(Zbr (Z5 L)).Nodup:=by rw[← Zcy];exact M.nd
 refine⟨(by show 0≤sizeLine;decide),fun r hr0=>?_⟩
 have nfr:=M.fp_fresh hr0
 refine⟨fun mm σ H2=>∃ (us:List (Addr×Zdh)) (L':List Zv) (s':StL) (w':Option Int) (k q':Int),σ=[some (.ref m),some (.int many),some (.ref r)]∧H2 r=some (.lst (us.map fun u=>V.ref u.1))∧(∀u∈us,u.1≠r∧H2 u.1=some (.tup [.int u.2.1,.int (u.2.2.1:Int),.str u.2.2.2]))∧ZbF (Z5 L) (us.map (·.2)) (Z5 L') k q'∧(us≠[]→(us.length:Int)≤many)∧ZP cRow cMerge H2 m rd sd L' s' nb (li+k) (lo'+q') (Zce w')∧Win (hdM L') (Zz L') w'∧ZR (hdM L') s' (Zz L')∧(∀b,Fp m rd sd L' b↔Fp m rd sd L b)∧(∀b o,H b=some o→¬ Fp m rd sd L b→H2 b=some o)∧mm=Zb7 (Z5 L'),⟨_,[],L,s,w,0,0,rfl,Zd,(fun u h=>by cases h),.nil,(fun h=>absurd rfl h),(M.same (Zh hr0 _)).cast (by omega) (by omega),W,ok,fun _=>Iff.rfl,fun b o hb _=>Zh hr0 _ _ _ hb,rfl⟩,?_⟩
 rintro mm σ H2 ⟨us,L1,s1,w1,k,q',rfl,hr2,hus,htk,hmany,M2,W2,ok2,hfp,k2,rfl⟩
 have hul:(((us.map fun u=>V.ref u.1).length:Nat):Int)=(us.length:Int):=by rw[Qa]
 have hlf:=htk.left nd
 rw[Qa]at hlf
 obtain⟨dx2,hm2⟩:=M2.ob
 have done:((us.length:Int)<many→w1=none)→Q (.ref r) H2:=fun hd=>q r us L1 s1 w1 k q' H2 hr0 hr2 (fun u hu=>(hus u hu).2) htk hd hmany M2 W2 ok2 hfp k2
 refine⟨_,rfl,r,_,rfl,.inl (SqL.of hr2),_,rfl,_,_,rfl,rfl,_,rfl,ZaY (fun d1=>?_) (fun d1=>?_)⟩
 ·have d1':(us.length:Int)<many:=by have:=of_decide_eq_true d1;omega
  refine⟨_,rfl,m,cMerge,dx2,_,_,rfl,hm2,T.cl_Merge,T.na_Merge_best,ZdX ..,rfl,_,rfl,?_⟩
  cases w1 with
  | none=>exact ZeX rfl ⟨_,rfl,done fun _=>rfl⟩
  | some a =>
  refine Zjg (fun z=>nomatch z) ?_
  refine⟨_,fun σ' H' h=>h,?_⟩
  refine⟨_,rfl,.inl ⟨rfl,_,SqL.of hr2⟩,_,rfl,m,dx2,_,rfl,hm2,Zgj ..,m,rd,sd,L1,s1,nb,_,_,some a,rfl,M2,W2,ok2,fun x L3 s3 w3 k3 q3 H3 hR M3 W3 ok3 kp3=>?_⟩
  have hr3:H3 r=some (.lst (us.map fun u=>V.ref u.1)):=kp3 _ _ hr2 (fun z=>nfr ((hfp r).mp z))
  rcases Zh7 W2 hR with⟨w0,_⟩|⟨y,z,t,stp,eL,rfl,ht⟩
  ·rw[Zge,Zcy]at W2
   exact nomatch w0.one W2
  have hbl:=ZfN _ (by rw[htk.num];exact nd) stp.1 (Qg.mp stp.2.1).1
  have htr:t≠r:=fun e=>by rw[e,hr3]at ht;cases ht
  refine⟨r,_,_,rfl,rfl,hr3,(by rw[Qa,sizeLine_eq];omega),Zb7 (Z5 L3),by rw[eL];omega,us++[(t,(y.1,y.2.2,z))],L3,s3,w3,k+k3,q'+q3,rfl,by rw[Zd,Qe];rfl,fun u hu=>?_,?_,fun _=>by rw[Qf,Qt];omega,?_,W3,ok3,fun b=>(hR.fp).trans (hfp b),fun b o hb nf=>?_,rfl⟩
  ·rcases Qm.mp hu with hu|hu
   ·obtain⟨g2,g3⟩:=hus u hu
    exact⟨g2,by rw[Zb g2];exact kp3 _ _ g3 (M2.fp_tup g3)⟩
   ·rw[Qo.mp hu]
    exact⟨htr,by rw[Zb htr];exact ht⟩
  ·rw[Qe,eL]
   exact .snoc htk stp
  ·refine ZP.cast (M3.keep fun b o hb hor=>?_) (by omega) (by omega)
   rw[Zb (fun e=>?_)]
   ·exact hb
   ·subst e
    rcases hor with hf|⟨xs,rfl⟩
    ·exact nfr ((hfp b).mp (hR.fp.mp hf))
    ·rw[hr3]at hb;cases hb
  ·rw[Zb (Zc hb hr0)]
   exact kp3 b o (k2 b o hb nf) (fun z=>nf ((hfp b).mp z))
 ·refine ZbE ⟨_,rfl,done fun h=>?_⟩
  have:¬ ((((us.map fun u=>V.ref u.1).length:Nat):Int)<many):=fun z=>d1 (decide_eq_true z)
  omega
def Znq:Sp:=fun vs H Q _=>∃ (a:Addr) (N:List Int) (n:Int),vs=[.ref a,.int n]∧H a=some (.lst (N.map V.int))∧n∈N∧N.length≤60∧Zag N ∧
 ∀ (r:Addr) (ts:List (Addr×Addr×Addr)) (H':Hp),H r=none→H' r=some (.lst (ts.map fun t=>V.ref t.1))→ts.length=(ZK 8 N n).length→(∀ (i:Nat) (t:Addr×Addr×Addr) (X:List Int),ts[i]? = some t→(ZK 8 N n)[i]? = some X→H' t.1=some (.tup [.ref t.2.1,.ref t.2.2])∧H' t.2.1=some (.lst ((ZU X n).map V.int))∧H' t.2.2=some (.lst ((Zae X n).map V.int)))→ZF H H'→Q (.ref r) H'
theorem ZfL{M:List Int}(r:Zag M){n:Int}(hn:n∈M):(n∈up M↔¬ n∈lo M):=by
 constructor
 ·intro h g
  have:=ZL r g h
  omega
 ·intro h
  rw[← Zca M]at hn
  exact(Qm.mp hn).resolve_left h
theorem Zoz(T:Zaf K mg cRow cMerge)(f_l_halves:Df P w K mg base 1 "_law_halves" ["_law_numbers"] (Zb6 K false)):Df P w K mg base 2 "_law_way" ["_law_numbers", "_law_n"] Znq:=by
 refine T.t_l_way.df Zdi (fun vs H Q E h=>?_) (fun cdv f A outer s H vs Q E hr h=>?_)
 ·obtain⟨a,N,n,rfl,_⟩:=h
  rfl
 obtain⟨a,N,n,rfl,ha,hn,h60,hup,q⟩:=h
 refine⟨_,#[Zf,#[ZfP,2,3,Zdi.nd,#[Za,#[ZaR,(Zh9 K),T.b.n_list,boot_list,#[Za,‹0›,#[Ze]]],#[Za,#[Zax,#[Ze]],#[Ze]]]],#[Zf,(@ZdR _ _ _ _ _ _ PassesOwn.never #[Zm,ZgM,#[Zk,(Zcj K),(by rfl),T.b.n_len,Qs,#[Za,‹2›,#[Ze]]],#[Zi],(Zp _)] #[Zf,#[Z3,#[Zy,f_l_halves,hr,#[Za,‹2›,#[Ze]],(by rfl)],(@gL _ K _ _ _ 2 _ #[ZB,#[ZD,4,Zdi.nd,(Or.inl rfl)],#[ZB,#[ZD,5,Zdi.nd,(Or.inl rfl)],(@ZaG _)]] (by rfl) (by rfl) (by rfl) (by rfl))],#[Zf,#[ZZ,#[Zm,(inQ K),‹1›,‹5›,(by with_unfolding_all rfl)],#[Zj,#[ZfP,4,5,Zdi.nd,#[Za,‹5›,#[Za,‹4›,#[Ze]]]]],#[ZE]],#[Zf,#[Zab,#[Zd7,QO,QS,QT,Zbv,‹3›,#[Za,#[ZaC,#[Za,‹4›,#[Za,‹5›,#[Ze]]]],#[Ze]]]],#[Zj,#[Zw,2,Zdi.nd,(Or.inl rfl),‹4›]]]]]),#[Zj,#[Zs,(@ZlM _ _ _ _ _ _ _ _ _ _ _ _ (ZsJ K) ‹3› (@ZbM _) (@ZbM _) (@Zcc _ _ _ (@Zia _ _ _ _ _ _ ZfG #[Zi])))]]]],?_⟩
 refine⟨_,rfl,a,_,rfl,.inl (SqL.of ha),fun b0 hb0=>⟨(by show 0≤sizeLine;decide),fun o hO1=>⟨_,_,rfl,?_⟩⟩⟩
 have sb:ZF H (upd H b0 (.lst (N.map V.int))):=Zh hb0 _
 have hO:H o=none:=sb.free hO1
 have nbo:b0≠o:=Zc (H:=upd H b0 (.lst (N.map V.int))) Zd hO1
 have hpw:N.length≤2 ^ 8:=Qy h60 (by decide)
 refine⟨fun m σ H2=>∃ (b:Addr) (M:List Int) (ts:List (Addr×Addr×Addr)) (D:List (List Int)) (k:Nat) (v4 v5:Option V),σ=[some (.ref a),some (.int n),some (.ref b),some (.ref o),v4,v5]∧H2 b=some (.lst (M.map V.int))∧b≠o∧n∈M∧Zag M∧M.length≤60∧M.length≤2 ^ k∧ZK 8 N n=ZK k M n++D.reverse∧ts.length=D.length∧H2 o=some (.lst (ts.map fun t=>V.ref t.1))∧(∀ (i:Nat) (t:Addr×Addr×Addr) (X:List Int),ts[i]? = some t→D[i]? = some X→H2 t.1=some (.tup [.ref t.2.1,.ref t.2.2])∧H2 t.2.1=some (.lst ((ZU X n).map V.int))∧H2 t.2.2=some (.lst ((Zae X n).map V.int))∧t.1≠o∧t.2.1≠o∧t.2.2≠o)∧ZF H H2∧m=M.length∧k+D.length=8,⟨_,b0,N,[],[],8,none,none,rfl,by rw[Zb nbo];exact Zd,nbo,hn,hup,h60,hpw,by simp,rfl,Zd,(fun i t X h=>by simp at h),sb.trans (Zh hO1 _),rfl,rfl⟩,?_⟩
 rintro m σ H2 ⟨b,M,ts,D,k,v4,v5,rfl,hb,nb,hnM,hupM,h60M,hpk,hch,htl,ho,hts,s2,rfl,hk8⟩
 have hlc:(((M.map V.int).length:Nat):Int)=(M.length:Int):=by rw[Qa]
 refine⟨_,rfl,b,_,rfl,.inl (SqL.of hb),_,_,rfl,rfl,_,rfl,?_⟩
 refine ZaY (fun c1=>?_) (fun c1=>?_)
 ·have c1':(1:Int)<(((M.map V.int).length:Nat):Int):=of_decide_eq_true c1
  have hc:2≤M.length:=by omega
  obtain⟨k',rfl⟩:∃k',k=k'+1:=by
   cases k with
   | zero=>simp at hpk;omega
   | succ k'=>exact⟨k',rfl⟩
  refine⟨_,fun σ' H' h=>h,?_⟩
  refine⟨_,rfl,b,M,rfl,SqL.of hb,by omega,fun t x y H3 ht hx hy nxy et ex ey s3 ntx nty=>?_⟩
  rw[Zki]at ex
  rw[Zkc]at ey
  refine⟨t,_,rfl,SqL.of et,rfl,_,_,rfl,_,_,rfl,rfl,?_⟩
  have ho3:=s3 _ _ ho
  have hlt:(ts.map fun t=>V.ref t.1).length<sizeLine:=by rw[Qa];exact ZC (by omega)
  have nox:o≠x:=Zc ho hx
  have noy:o≠y:=Zc ho hy
  have hsl:(ZU M n).length≤2 ^ k':=by
   rw[QaT]at hpk
   unfold ZU
   split
   ·unfold lo mid;rw[Qz];omega
   ·unfold up mid;rw[QZ];omega
  have hch2:ZK 8 N n=ZK k' (ZU M n) n++(D++[M]).reverse:=by
   rw[hch]
   conv=>lhs;unfold ZK
   rw[if_pos hc,List.reverse_append,QaR];rfl
  have step:∀ (p u v:Addr) (H4:Hp),H3 p=none→H3 u=some (.lst ((ZU M n).map V.int))→H3 v=some (.lst ((Zae M n).map V.int))→u≠o→v≠o→H4=upd (upd H3 p (.tup [.ref u,.ref v])) o (.lst ((ts.map fun t=>V.ref t.1)++[.ref p]))→∀v4 v5:Option V,∃m',m'<M.length∧∃ (b:Addr) (M':List Int) (ts:List (Addr×Addr×Addr)) (D:List (List Int)) (k:Nat) (w4 w5:Option V),[some (V.ref a),some (V.int n),some (V.ref u),some (V.ref o),v4,v5]=[some (.ref a),some (.int n),some (.ref b),some (.ref o),w4,w5]∧H4 b=some (.lst (M'.map V.int))∧b≠o∧n∈M'∧Zag M'∧M'.length≤60∧M'.length≤2 ^ k∧ZK 8 N n=ZK k M' n++D.reverse∧ts.length=D.length∧H4 o=some (.lst (ts.map fun t=>V.ref t.1))∧(∀ (i:Nat) (t:Addr×Addr×Addr) (X:List Int),ts[i]? = some t→D[i]? = some X→H4 t.1=some (.tup [.ref t.2.1,.ref t.2.2])∧H4 t.2.1=some (.lst ((ZU X n).map V.int))∧H4 t.2.2=some (.lst ((Zae X n).map V.int))∧t.1≠o∧t.2.1≠o∧t.2.2≠o)∧ZF H H4∧m'=M'.length∧k+D.length=8:=fun p u v H4 hp hu hv nuo nvo e4 v4 v5=>by
   have npo:p≠o:=(Zc ho3 hp).symm
   have k4:∀b z,H3 b=some z→b≠o→H4 b=some z:=fun b z hb nb=>by rw[e4,Zb nb,Zb (Zc hb hp)];exact hb
   refine⟨_,ZeI hc n,u,ZU M n,ts++[(p,u,v)],D++[M],k',v4,v5,rfl,k4 _ _ hu nuo,nuo,ZcY hnM,(Zgo hc n).rise hupM,by have:=ZeI hc n;omega,hsl,hch2,by rw[Qf,Qf,htl];rfl,by rw[e4,Zd,Qe];rfl,fun i t X hi hX=>?_,fun b z hb=>k4 b z (s3 b z (s2 b z hb)) (Zc hb hO),rfl,by rw[Qf,Qt];omega⟩
   by_cases hlt:i<ts.length
   ·rw[QM hlt]at hi
    rw[QM (by omega)]at hX
    obtain⟨g1,g2,g3,g4,g5,g6⟩:=hts i t X hi hX
    exact⟨k4 _ _ (s3 _ _ g1) g4,k4 _ _ (s3 _ _ g2) g5,k4 _ _ (s3 _ _ g3) g6,g4,g5,g6⟩
   ·have ei:i=ts.length:=by have:=(Qg.mp hi).1;rw[Qf,Qt]at this;omega
    subst ei
    rw[QN (Qh _),QaU]at hi
    cases hi
    rw[htl,QN (Qh _),QaU]at hX
    cases hX
    exact⟨by rw[e4,Zb npo];exact Zd,k4 _ _ hu nuo,k4 _ _ hv nvo,npo,nuo,nvo⟩
  refine⟨_,rfl,_,rfl,y,_,rfl,.inl (SqL.of ey),rfl,ZfA _,_,rfl,?_⟩
  show if inV (V.int n) ((up M).map V.int)=true then _ else _
  rw[ZiX]
  refine ZaY (fun c2=>?_) (fun c2=>?_)
  ·have c2':n∈up M:=of_decide_eq_true c2
   have e1:ZU M n=up M:=by unfold ZU;rw[if_neg ((ZfL hupM hnM).mp c2')]
   have e2:Zae M n=lo M:=by unfold Zae;rw[if_neg ((ZfL hupM hnM).mp c2')]
   refine⟨_,rfl,_,rfl,_,_,rfl,?_⟩
   refine⟨_,rfl,.inl ⟨rfl,_,SqL.of ho3⟩,_,rfl,_,rfl,(by show 2≤sizeLine;decide),fun p hp=>?_⟩
   refine⟨o,_,_,rfl,rfl,by rw[Zb (Zc ho3 hp)];exact ho3,hlt,_,rfl,?_⟩
   exact step p y x _ hp (by rw[e1];exact ey) (by rw[e2];exact ex) noy.symm nox.symm rfl _ _
  ·have c2':¬ n∈up M:=fun z=>c2 (decide_eq_true z)
   have hl:n∈lo M:=by
    by_cases g:n∈lo M
    ·exact g
    ·exact absurd ((ZfL hupM hnM).mpr g) c2'
   have e1:ZU M n=lo M:=by unfold ZU;rw[if_pos hl]
   have e2:Zae M n=up M:=by unfold Zae;rw[if_pos hl]
   refine⟨_,rfl,.inl ⟨rfl,_,SqL.of ho3⟩,_,rfl,_,rfl,(by show 2≤sizeLine;decide),fun p hp=>?_⟩
   refine⟨o,_,_,rfl,rfl,by rw[Zb (Zc ho3 hp)];exact ho3,hlt,_,rfl,?_⟩
   exact step p x y _ hp (by rw[e1];exact ex) (by rw[e2];exact ey) nox.symm noy.symm rfl _ _
 ·have c1':¬ (1:Int)<(((M.map V.int).length:Nat):Int):=fun z=>c1 (decide_eq_true z)
  have hnil:ZK k M n=[]:=by
   cases k with
   | zero=>rfl
   | succ k=>unfold ZK;rw[if_neg (by omega)]
  rw[hnil,List.nil_append]at hch
  refine⟨_,rfl,_,rfl,_,rfl,_,rfl,o,_,rfl,SqL.of ho,by decide,fun r hr0=>?_⟩
  refine q r ts.reverse _ (s2.free hr0) (by rw[Zd,Zl9,List.map_reverse]) (by rw[hch,QaE,QaE];exact htl) (fun i t X hi hX=>?_) (s2.trans (Zh hr0 _))
  rw[hch]at hX
  have hil:i<ts.length:=by have:=(Qg.mp hi).1;rw[QaE]at this;exact this
  rw[List.getElem?_reverse hil]at hi
  rw[List.getElem?_reverse (by omega),← htl]at hX
  obtain⟨g1,g2,g3,_⟩:=hts _ t X hi hX
  exact⟨Zh hr0 _ _ _ g1,Zh hr0 _ _ _ g2,Zh hr0 _ _ _ g3⟩
theorem Zef(n:Int)(e:Zx):(Zd1 n e).1=e.1∧(Zd1 n e).2.1=e.2.1∧(Zd1 n e).2.2.1=e.2.2.1:=by unfold Zd1;split<;>exact⟨rfl,rfl,rfl⟩
theorem ZhF(Lo:List Zx)(n:Int):(ZaP Lo n).map (·.1)=Lo.map (·.1):=by
 unfold ZaP
 rw[Qi]
 exact QA fun e _=>(Zef n e).1
theorem ZnC(Lo:List Zx)(n:Int):kvR (ZaP Lo n)=kvR Lo:=by
 unfold kvR ZaP
 rw[Qi]
 refine QA fun e _=>?_
 simp only[Function.comp]
 rw[(Zef n e).1,(Zef n e).2.1]
theorem Zox{Lo:List Zx}(nd:(Lo.map (·.1)).Nodup){e:Zx}(he:e∈Lo):Zbi (kvG Lo) (.inl e.1) (.int ((e.2.2.2:Int)+1))=kvG (ZaP Lo e.1):=by
 unfold Zbi
 rw[if_pos]
 ·unfold kvG ZaP
  rw[Qi,Qi]
  refine QA fun x hx=>?_
  simp only[Function.comp]
  unfold Zd1
  by_cases h:x.1=e.1
  ·have ex:x=e:=ZbP nd hx he h
   subst ex
   rw[if_pos rfl,if_pos rfl]
   show _=(_,V.int (((x.2.2.2+1:Nat)):Int))
   rw[Int.natCast_add];rfl
  ·rw[if_neg (fun z=>h (Sum.inl.inj z)),if_neg h]
 ·exact Qaq.mpr ⟨_,Qd (f:=fun e:Zx=>((.inl e.1:Key),V.int (e.2.2.2:Int))) he,decide_eq_true rfl⟩
theorem Own.ne_l{H:Hp}{o ra ga:Addr}{L:List Zx}{nb li lo:Int}(h:Own H o ra ga L nb li lo){e:Zx}(he:e∈L):e.2.1≠o∧e.2.1≠ra∧e.2.1≠ga:=by
 have a:=(h.lst e he).1
 refine⟨fun z=>?_,fun z=>?_,fun z=>?_⟩
 ·rw[z,h.at']at a;cases a
 ·rw[z,h.rows]at a;cases a
 ·rw[z,h.gone]at a;cases a
theorem Own.bump{H:Hp}{o ra ga:Addr}{L:List Zx}{nb li lo:Int}(h:Own H o ra ga L nb li lo){e:Zx}(he:e∈L)(hg:e.2.2.2<e.2.2.1.length):Own (upd H ga (.dK (kvG (ZaP L e.1)))) o ra ga (ZaP L e.1) nb li lo:=by
 obtain⟨n1,n2⟩:=h.ne
 have n3:=h.ne2 (fun z=>by rw[z]at he;cases he)
 refine⟨by rw[Zb n2.symm];exact h.at',by rw[Zb n3.symm,ZnC];exact h.rows,Zd,by rw[ZhF];exact h.nd,by unfold ZaP;rw[Qa];exact h.few,fun x hx=>?_⟩
 obtain⟨y,hy,rfl⟩:=Qn.mp hx
 obtain⟨a1,a2,a3,a4⟩:=h.lst y hy
 obtain⟨_,b2,b3⟩:=Zef e.1 y
 rw[b2,b3]
 refine⟨by rw[Zb (h.ne_l hy).2.2];exact a1,a2,?_,a4⟩
 by_cases hn:y.1=e.1
 ·have ey:y=e:=ZbP h.nd hy he hn
  subst ey
  unfold Zd1
  rw[if_pos rfl]
  exact hg
 ·unfold Zd1
  rw[if_neg hn]
  exact a3
theorem Own.but{H H':Hp}{o ra ga:Addr}{L:List Zx}{nb li lo li' lo':Int}(h:Own H o ra ga L nb li lo)(k:∀b u,H b=some u→b≠o→H' b=some u)(ho:H' o=some (.dK (Zav ra ga nb li' lo'))):Own H' o ra ga L nb li' lo':=by
 obtain⟨n1,n2⟩:=h.ne
 exact⟨ho,k _ _ h.rows n1,k _ _ h.gone n2,h.nd,h.few,fun e he=>let ⟨a,b⟩:=h.lst e he;⟨k _ _ a (h.ne_l he).1,b⟩⟩
def ZfF(Lo:List Zx)(x:V)(Lo':List Zx)(k q:Int)(H':Hp):Prop :=
 (x=.non∧Win (hdL Lo) (Lo.map (·.1)) none∧Lo'=Lo∧k=0∧q=0)∨∃ (e:Zx) (t:Addr) (z:Str),e∈Lo∧Win (hdL Lo) (Lo.map (·.1)) (some e.1)∧x=.ref t∧e.2.2.1[e.2.2.2]? = some z∧H' t=some (.tup [.int e.1,.int (e.2.2.2:Int),.str z])∧Lo'=ZaP Lo e.1∧Ag (hdL Lo') (cds z) (ZbQ e.1 (ZK 8 (Lo.map (·.1)) e.1)) k q
def Zod:Sp:=fun vs H Q _=>∃ (o ra ga:Addr) (Lo:List Zx) (nb li lo:Int),vs=[.ref o]∧Own H o ra ga Lo nb li lo∧(Lo.map (·.1)).Pairwise (·<·) ∧
 ∀ (x:V) (Lo':List Zx) (k q:Int) (H':Hp),ZfF Lo x Lo' k q H'→Own H' o ra ga Lo' nb (li+k) (lo+q)→(∀b u,H b=some u→b≠o→b≠ga→H' b=some u)→Q x H'
theorem Zmj(T:Zaf K mg cRow cMerge)(f_l_coming:Df P w K mg base 2 "_law_coming" ["_law_own"] ZkB)(f_l_heads:Df P w K mg base 1 "_law_heads" ["_law_own"] ZeY)(f_l_way:Df P w K mg base 2 "_law_way" ["_law_numbers", "_law_n"] Znq)(f_l_least:Df P w K mg base 1 "_law_least" ["_law_heads_here", "_law_numbers"] (Zgg K))(f_l_alike:Df P w K mg base 1 "_law_alike" ["_law_one", "_law_other"] ZcL):Df P w K mg base 3 "_law_taken" ["_law_own"] Zod:=by
 refine T.t_l_taken.df ZaN (fun vs H Q E h=>?_) (fun cdv f A outer s H vs Q E hr h=>?_)
 ·obtain⟨o,ra,ga,Lo,nb,li,lo,rfl,_⟩:=h
  rfl
 obtain⟨o,ra,ga,Lo,nb,li,lo',rfl,ow,hrise,q⟩:=h
 refine⟨_,#[Zf,#[Zw,1,ZaN.nd,(Or.inl rfl),#[Zy,f_l_coming,hr,#[Za,‹0›,#[Ze]],(by rfl)]],#[Zf,#[ZZ,#[Zm,Zbq,‹1›,#[ZW],(Zp _)],#[Zj,#[Zs,#[ZW]]],#[ZE]],#[Zf,#[Z3,‹1›,#[gT,K,3,#[ZB,#[ZD,2,ZaN.nd,(Or.inl rfl)],#[ZB,#[ZD,3,ZaN.nd,(Or.inl rfl)],#[ZB,#[ZD,4,ZaN.nd,(Or.inl rfl)],(@ZaG _)]]]]],#[Zf,#[Z3,#[ZG,Z8,‹3›,#[Zi]],#[ZaQ,#[Zo,(ixG hr),‹0›,#[ZA]],‹2›,(ZdK hr)]],#[Zf,#[Zw,5,ZaN.nd,(Or.inl rfl),#[Zy,f_l_heads,hr,#[Za,‹0›,#[Ze]],(by rfl)]],#[Zf,#[Zcv,PassesOwn.never,#[iL,K,#[Zy,f_l_way,hr,#[Za,#[Zk,ZmW,(by rfl),T.b.n_sorted,boot_sorted,#[Za,‹5›,#[Ze]]],#[Za,‹2›,#[Ze]]],(by rfl)]],#[gT,K,2,#[ZB,#[ZD,6,ZaN.nd,(Or.inl rfl)],#[ZB,#[ZD,7,ZaN.nd,(Or.inl rfl)],(@ZaG _)]]],#[Zf,#[ZfP,8,9,ZaN.nd,#[Za,#[Zy,f_l_least,hr,#[Za,‹5›,#[Za,‹6›,#[Ze]]],(by rfl)],#[Za,#[Zy,f_l_least,hr,#[Za,‹5›,#[Za,‹7›,#[Ze]]],(by rfl)],#[Ze]]]],#[Zj,#[ZZ,(@PW.pt _ _ _ #[ZbC,#[Zm,Zej,‹8›,#[ZW],(Zp _)],#[Zbz,#[Zm,Zej,‹9›,#[ZW],(Zp _)]]]),#[Zf,#[Z3,#[ZG,Z8,#[Zo,(ixG hr),‹0›,#[ZA]],#[Zi]],#[ZaQ,‹0›,#[ZA],(ZdK hr)]],#[Zf,#[Zw,10,ZaN.nd,(Or.inl rfl),#[Zy,f_l_alike,hr,#[Za,#[Zo,(ixG hr),‹5›,‹8›],#[Za,‹4›,#[Ze]]],(by rfl)]],#[Zj,#[ZZ,#[Zm,Za1,‹10›,#[Zy,f_l_alike,hr,#[Za,#[Zo,(ixG hr),‹5›,‹9›],#[Za,‹4›,#[Ze]]],(by rfl)],(Zp _)],#[Zj,#[Z3,#[ZG,Z8,#[ZG,Zey,#[ZG,Z8,#[Zo,(ixG hr),‹0›,#[ZA]],#[Zy,f_l_alike,hr,#[Za,#[Zo,(ixG hr),‹5›,‹8›],#[Za,#[Zo,(ixG hr),‹5›,‹9›],#[Ze]]],(by rfl)]],‹10›],#[Zi]],#[ZaQ,‹0›,#[ZA],(ZdK hr)]]],#[ZE]]]]],#[ZE]]]]],#[Zj,#[Zs,‹1›]]]]]]]],?_⟩
 refine⟨_,rfl,o,ra,ga,Lo,nb,li,lo',rfl,ow,fun x H1 hc s1=>?_⟩
 have ow1:=ow.same s1
 rcases hc with⟨rfl,hw⟩|⟨t,e,z,rfl,he,hz,ht,hw⟩
 ·exact⟨_,rfl,rfl,_,rfl,Zcw rfl (q .non Lo 0 0 H1 (.inl ⟨rfl,hw,rfl,rfl,rfl⟩) (by rw[QP,QP];exact ow1) (fun b u hb _ _=>s1 b u hb))⟩
 refine⟨_,rfl,rfl,_,rfl,Zbl (fun z=>nomatch z) ?_⟩
 refine⟨_,rfl,t,_,rfl,SqT.of ht,rfl,_,_,rfl,_,_,rfl,_,_,rfl,rfl,?_⟩
 have hgl:e.2.2.2<e.2.2.1.length:=(Qg.mp hz).1
 have hsz:(kvG Lo).length<sizeLine:=by unfold kvG;rw[Qa];exact ZC (by have:=ow.few;omega)
 refine⟨_,rfl,_,_,rfl,rfl,_,rfl,o,_,rfl,ZN.k' (k:=.inr "gone") ow1.at' (ZbY ..),_,rfl,ga,_,rfl,ZbW.k (k:=.inl e.1) ow1.gone hsz,?_⟩
 rw[Zox ow.nd he]
 have ow2:=ow1.bump he hgl
 have k2:∀b u,H b=some u→b≠ga→(upd H1 ga (.dK (kvG (ZaP Lo e.1)))) b=some u:=fun b u hb n=>by rw[Zb n];exact s1 b u hb
 have ntg:t≠ga:=fun z=>by rw[z,ow1.gone]at ht;cases ht
 have ht2:(upd H1 ga (.dK (kvG (ZaP Lo e.1)))) t=some (.tup [.int e.1,.int (e.2.2.2:Int),.str z]):=by rw[Zb ntg];exact ht
 generalize upd H1 ga (.dK (kvG (ZaP Lo e.1)))=H2 at ow2 k2 ht2 ⊢
 refine⟨_,rfl,o,ra,ga,ZaP Lo e.1,nb,li,lo',rfl,ow2,fun D E' H3 hD hds ho s3=>?_⟩
 have hnum:=ZhF Lo e.1
 have hrise2:((ZaP Lo e.1).map (·.1)).Pairwise (·<·):=by rw[hnum];exact hrise
 have hEl:E'.length=Lo.length:=by have:=ho.per.length_eq;rw[hnum,Qa,Qa]at this;exact this
 have hfew:=ow.few
 refine⟨_,rfl,D,_,E'.map (·.1),rfl,hds.at',Zha E',by rw[Qa];omega,fun l ns hl hper hup=>?_⟩
 have sl:=Zh hl (.lst (ns.map V.int))
 have hl4:(upd H3 l (.lst (ns.map V.int))) l=some (.lst (ns.map V.int)):=Zd
 generalize upd H3 l (.lst (ns.map V.int))=H4 at sl hl4 ⊢
 have s4:=s3.trans sl
 have hp2:=hper.trans ho.per
 have hns:ns=Lo.map (·.1):=by rw[← hnum];exact ZeV hp2 (Zip hup (hp2.nodup_iff.mpr ow2.nd)) hrise2
 subst hns
 have hmem:e.1∈Lo.map (·.1):=Qd he
 have h60:(Lo.map (·.1)).length≤60:=by rw[Qa];omega
 have hpw:(Lo.map (·.1)).length≤2 ^ 8:=Qy h60 (by decide)
 obtain⟨cok,ctop,clen⟩:=Ze1 8 (Lo.map (·.1)) e.1 hmem hpw
 refine⟨_,rfl,l,Lo.map (·.1),e.1,rfl,hl4,hmem,h60,hrise,fun r ts H5 hr0 hr5 htl hts s5=>?_⟩
 have s25:=s4.trans s5
 have ow5:=ow2.same s25
 have hds5:=(hds.same sl).same s5
 refine⟨r,rfl,⟨_,SqL.of hr5⟩,?_⟩
 have nro:r≠o:=(Zc (s4 _ _ ow2.at') hr0).symm
 have nDo:D≠o:=(Zc ow2.at' hD).symm
 have hhd:∀n∈Lo.map (·.1),hdL (ZaP Lo e.1) n=hdE E' n:=fun n hn=>ho.same ow2.nd n (by rw[hnum];exact hn)
 refine Zfb (K:=K) (a:=r) (xs:=ts.map fun t=>V.ref t.1) (fun i σ H6=>∃ (k q':Int) (v6 v7 v8 v9 v10:Option V),σ=[some (.ref o),some (.ref t),some (.int e.1),some (.int (e.2.2.2:Int)),some (.str z),some (.ref D),v6,v7,v8,v9,v10]∧i≤ts.length∧H6 o=some (.dK (Zav ra ga nb (li+k) (lo'+q')))∧Ag (hdL (ZaP Lo e.1)) (cds z) (ZbQ e.1 ((ZK 8 (Lo.map (·.1)) e.1).take i)) k q'∧(∀b u,H5 b=some u→b≠o→H6 b=some u)) ⟨0,0,_,_,_,_,_,rfl,Qw _,by rw[QP,QP];exact ow5.at',.nil,fun b u h _=>h⟩ (fun i σ H6 _ hq=>by obtain⟨_,_,_,_,_,_,_,_,_,_,_,k6⟩:=hq;exact SqL.of (k6 _ _ hr5 nro)) ?_ ?_
 ·rintro i y σ H6 hy ⟨k,q',v6,v7,v8,v9,v10,rfl,hi,ho6,ag,k6⟩
  rw[Qp]at hy
  cases hzt:ts[i]? with
  | none=>rw[hzt]at hy;cases hy
  | some u =>
  rw[hzt]at hy
  cases hy
  have hil:i<ts.length:=(Qg.mp hzt).1
  cases hX:(ZK 8 (Lo.map (·.1)) e.1)[i]? with
  | none=>rw[Q6]at hX;omega
  | some X =>
  obtain⟨x1,x2,x3,x4⟩:=cok i X hX
  obtain⟨g1,g2,g3⟩:=hts i u X hzt hX
  have nou:∀b w',H5 b=some w'→(∀kk,w'≠.dK kk)→b≠o:=fun b w' hb hk zz=>by rw[zz,ow5.at']at hb;injection hb with hb;exact hk _ hb.symm
  have g1':=k6 _ _ g1 (nou _ _ g1 fun _ z=>by cases z)
  have g2':=k6 _ _ g2 (nou _ _ g2 fun _ z=>by cases z)
  have g3':=k6 _ _ g3 (nou _ _ g3 fun _ z=>by cases z)
  have pm:=Zem X e.1
  have sA:∀b∈ZU X e.1,b∈Lo.map (·.1):=fun b hb=>x1.mem (pm.mem_iff.mp (QJ _ hb))
  have sB:∀b∈Zae X e.1,b∈Lo.map (·.1):=fun b hb=>x1.mem (pm.mem_iff.mp (QB _ hb))
  have inE:∀b∈Lo.map (·.1),b∈E'.map (·.1):=fun b hb=>ho.per.mem_iff.mpr (by rw[hnum];exact hb)
  have lA:(ZU X e.1).length≤60:=by
   have:=ZeI x2 e.1
   have:X.length≤(Lo.map (·.1)).length:=x1.len
   omega
  have lB:(Zae X e.1).length≤60:=by
   have:X.length≤(Lo.map (·.1)).length:=x1.len
   have:=pm.length_eq
   rw[Qf]at this
   omega
  have hds6:Hds H6 D E':=⟨k6 _ _ hds5.at' nDo,hds5.nd,hds5.ok⟩
  refine⟨u.1,_,rfl,SqT.of g1',rfl,_,_,rfl,_,_,rfl,rfl,?_⟩
  refine⟨_,rfl,_,rfl,D,u.2.1,E',ZU X e.1,rfl,hds6,SqL.of g2',lA,fun b hb=>inE b (sA b hb),fun va H7 w1 s7=>?_⟩
  refine⟨_,rfl,_,rfl,D,u.2.2,E',Zae X e.1,rfl,hds6.same s7,SqL.of (s7 _ _ g3'),lB,fun b hb=>inE b (sB b hb),fun vb H8 w2 s8=>⟨_,_,rfl,?_⟩⟩
  have s68:=s7.trans s8
  have ho8:=s68 _ _ ho6
  have w1':Win (hdL (ZaP Lo e.1)) (ZU X e.1) va:=w1.congr fun m hm=>hhd m (sA m hm)
  have w2':Win (hdL (ZaP Lo e.1)) (Zae X e.1) vb:=w2.congr fun m hm=>hhd m (sB m hm)
  have keep8:∀b u,H5 b=some u→b≠o→H8 b=some u:=fun b u hb n=>s68 _ _ (k6 b u hb n)
  have hside:ZbQ e.1 ((ZK 8 (Lo.map (·.1)) e.1).take (i+1))=ZbQ e.1 ((ZK 8 (Lo.map (·.1)) e.1).take i)++[(ZU X e.1,Zae X e.1)]:=by unfold ZbQ;rw[QH,hX,Qe];rfl
  cases va with
  | none=>exact⟨_,rfl,rfl,_,rfl,ZeX rfl (ZbE ⟨k,q',_,_,_,_,_,rfl,hil,ho8,by rw[hside];exact .no ag (.inl w1'),keep8⟩)⟩
  | some a =>
  refine⟨_,rfl,rfl,_,rfl,Zjg (fun z=>nomatch z) ?_⟩
  cases vb with
  | none=>exact⟨_,rfl,rfl,_,rfl,ZeX rfl ⟨k,q',_,_,_,_,_,rfl,hil,ho8,by rw[hside];exact .no ag (.inr w2'),keep8⟩⟩
  | some b =>
  refine⟨_,rfl,rfl,_,rfl,Zjg (fun z=>nomatch z) ?_⟩
  obtain⟨ma,za,ea,ha⟩:=ZiS w1
  obtain⟨mb,zb,eb,hb⟩:=ZiS w2
  have hds8:=hds6.same s68
  have va:=Zfn hds.nd (inE a (sA a ma))
  have vb:=Zfn hds.nd (inE b (sB b mb))
  rw[ea]at va
  rw[eb]at vb
  have ha':hdL (ZaP Lo e.1) a=some (cds za):=by rw[hhd a (sA a ma)];exact ha
  have hb':hdL (ZaP Lo e.1) b=some (cds zb):=by rw[hhd b (sB b mb)];exact hb
  have hzl:z.length≤1000:=((ow.lst e he).2.2.2 z (Qx hz)).1
  have hol:∀l1 l2:Int,(Zav ra ga nb l1 l2).length<sizeLine:=fun _ _=>ZC (by show 5≤1000;decide)
  refine⟨_,rfl,o,_,rfl,ZN.k' (k:=.inr "likenings") ho8 (ZbR ..),_,_,rfl,rfl,_,rfl,o,_,rfl,ZbW.k (k:=.inr "likenings") ho8 (hol _ _),?_⟩
  rw[Zgn]
  have ho9:(upd H8 o (.dK (Zav ra ga nb (li+k+1) (lo'+q')))) o=some (.dK (Zav ra ga nb (li+k+1) (lo'+q'))):=Zd
  have hD9:Hds (upd H8 o (.dK (Zav ra ga nb (li+k+1) (lo'+q')))) D E':=⟨by rw[Zb nDo];exact hds8.at',hds8.nd,hds8.ok⟩
  have keep9:∀b u,H5 b=some u→b≠o→(upd H8 o (.dK (Zav ra ga nb (li+k+1) (lo'+q')))) b=some u:=fun b u hb n=>by rw[Zb n];exact keep8 b u hb n
  generalize upd H8 o (.dK (Zav ra ga nb (li+k+1) (lo'+q')))=H9 at ho9 hD9 keep9 ⊢
  refine⟨_,rfl,_,rfl,D,_,rfl,ZN.k' (k:=.inl a) hD9.at' va,_,rfl,za,z,rfl,(hds.lk ea).1,hzl,?_⟩
  refine⟨_,rfl,_,rfl,_,rfl,D,_,rfl,ZN.k' (k:=.inl b) hD9.at' vb,_,rfl,zb,z,rfl,(hds.lk eb).1,hzl,rfl,_,rfl,ZaY (fun d=>?_) (fun d=>?_)⟩
  ·have ef:lcp (cds za) (cds z)=lcp (cds zb) (cds z):=by have:=of_decide_eq_true d;injection this with this;omega
   refine⟨_,rfl,o,_,rfl,ZN.k' (k:=.inr "looks") ho9 (Zfw ..),_,rfl,_,rfl,D,_,rfl,ZN.k' (k:=.inl a) hD9.at' va,_,rfl,_,rfl,D,_,rfl,ZN.k' (k:=.inl b) hD9.at' vb,za,zb,rfl,(hds.lk ea).1,(hds.lk eb).1,_,_,rfl,rfl,_,rfl,_,_,rfl,rfl,_,_,rfl,rfl,_,rfl,o,_,rfl,ZbW.k (k:=.inr "looks") ho9 (hol _ _),?_⟩
   rw[Zgk]
   refine⟨k+1,q'+((lcp (cds za) (cds zb):Nat)-(lcp (cds za) (cds z):Nat)+1),_,_,_,_,_,rfl,hil,?_,by rw[hside];exact .eq ag w1' w2' ha' hb' ef,fun b u hb n=>by rw[Zb n];exact keep9 b u hb n⟩
   rw[Zd]
   have e1:li+k+1=li+(k+1):=by omega
   have e2:lo'+q'+((lcp (cds za) (cds zb):Nat):Int)-((lcp (cds za) (cds z):Nat):Int)+1=lo'+(q'+((lcp (cds za) (cds zb):Nat)-(lcp (cds za) (cds z):Nat)+1)):=by omega
   rw[e1,e2]
  ·have nf:lcp (cds za) (cds z)≠lcp (cds zb) (cds z):=fun e=>d (decide_eq_true (by rw[e]))
   exact⟨k+1,q',_,_,_,_,_,rfl,hil,by rw[show li+(k+1)=li+k+1 by omega];exact ho9,by rw[hside];exact .ne ag w1' w2' ha' hb' nf,keep9⟩
 ·rintro σ H6 ⟨k,q',v6,v7,v8,v9,v10,rfl,_,ho6,ag,k6⟩
  rw[Qa,htl,Qu (Qh _)]at ag
  have nto:t≠o:=fun zz=>by rw[zz,ow2.at']at ht2;cases ht2
  refine⟨_,rfl,q (.ref t) (ZaP Lo e.1) k q' H6 (.inr ⟨e,t,z,he,hw,rfl,hz,k6 _ _ (s25 _ _ ht2) nto,rfl,ag⟩) (ow5.but k6 ho6) (fun b u hb n1 n2=>k6 b u (s25 b u (k2 b u hb n2)) n1)⟩
structure MS where
 m:Addr
 rd:Addr
 sd:Addr
 L:List Zv
 s:StL
 nb:Int
 li:Int
 lo:Int
 w:Option Int
structure OS where
 o:Addr
 ra:Addr
 ga:Addr
 Lo:List Zx
 nb:Int
def ZV(Y:OS)(b:Addr):Prop:=b=Y.o∨b=Y.ra∨b=Y.ga∨∃e∈Y.Lo,b=e.2.1
def MFp(X:MS)(b:Addr):Prop:=Fp X.m X.rd X.sd X.L b
structure MOk (cR cM:Addr) (H:Hp) (X:MS):Prop where
 M:ZP cR cM H X.m X.rd X.sd X.L X.s X.nb X.li X.lo (Zce X.w)
 W:Win (hdM X.L) (Zz X.L) X.w
 ok:ZR (hdM X.L) X.s (Zz X.L)
structure Zd6 (cR cM:Addr) (H:Hp) (X:MS) (Y:OS):Prop where
 mg:MOk cR cM H X
 ow:Own H Y.o Y.ra Y.ga Y.Lo Y.nb X.li X.lo
 ag:Agr Y.Lo X.L
 sep:∀b,MFp X b→¬ ZV Y b
theorem MOk.same{cR cM:Addr}{H H':Hp}{X:MS}(h:MOk cR cM H X)(s:ZF H H'):MOk cR cM H' X:=⟨h.M.same s,h.W,h.ok⟩
theorem MOk.keep{cR cM:Addr}{H H':Hp}{X:MS}(h:MOk cR cM H X)(k:∀b o,H b=some o→MFp X b∨(∃xs,o=.tup xs)→H' b=some o):MOk cR cM H' X:=⟨h.M.keep k,h.W,h.ok⟩
theorem Own.keep{H H':Hp}{o ra ga:Addr}{L:List Zx}{nb li lo:Int}(h:Own H o ra ga L nb li lo)(k:∀b u,H b=some u→ZV ⟨o,ra,ga,L,nb⟩ b→H' b=some u):Own H' o ra ga L nb li lo :=
 ⟨k _ _ h.at' (.inl rfl),k _ _ h.rows (.inr (.inl rfl)),k _ _ h.gone (.inr (.inr (.inl rfl))),h.nd,h.few,fun e he=>let ⟨a,b⟩:=h.lst e he;⟨k _ _ a (.inr (.inr (.inr ⟨e,he,rfl⟩))),b⟩⟩
theorem Zd6.same{cR cM:Addr}{H H':Hp}{X:MS}{Y:OS}(h:Zd6 cR cM H X Y)(s:ZF H H'):Zd6 cR cM H' X Y:=⟨h.mg.same s,h.ow.same s,h.ag,h.sep⟩
theorem Zfq{o ra ga:Addr}{Lo:List Zx}{nb:Int}{n:Int}{b:Addr}(h:ZV ⟨o,ra,ga,ZaP Lo n,nb⟩ b):ZV ⟨o,ra,ga,Lo,nb⟩ b:=by
 rcases h with h|h|h|⟨e',he',h⟩
 ·exact .inl h
 ·exact .inr (.inl h)
 ·exact .inr (.inr (.inl h))
 ·obtain⟨e,he,rfl⟩:=Qn.mp he'
  rw[(Zef n e).2.1]at h
  exact .inr (.inr (.inr ⟨e,he,h⟩))
theorem Zgf{Lo:List Zx}{L:List Zv}(h:Agr Lo L):pur Lo=Z5 L:=h
theorem Own.live{H:Hp}{o ra ga:Addr}{L:List Zx}{nb li lo:Int}(h:Own H o ra ga L nb li lo){b:Addr}(hb:ZV ⟨o,ra,ga,L,nb⟩ b):∃u,H b=some u∧∀xs,u≠.tup xs:=by
 rcases hb with rfl|rfl|rfl|⟨e,he,rfl⟩
 ·exact⟨_,h.at',fun xs z=>by cases z⟩
 ·exact⟨_,h.rows,fun xs z=>by cases z⟩
 ·exact⟨_,h.gone,fun xs z=>by cases z⟩
 ·exact⟨_,(h.lst e he).1,fun xs z=>by cases z⟩
theorem ZlB{cR cM:Addr}{H H1 H2:Hp}{X:MS}{Y:OS}(p:Zd6 cR cM H X Y){x y:V}{L':List Zv}{s':StL}{w':Option Int}{k q k' q':Int}{Lo':List Zx}(hR:Zhy X.L X.w x L' k q H1)
  (M1:ZP cR cM H1 X.m X.rd X.sd L' s' X.nb (X.li+k) (X.lo+q) (Zce w')) (W1:Win (hdM L') (Zz L') w') (ok1:ZR (hdM L') s' (Zz L')) (k1:∀b o,H b=some o→¬ MFp X b→H1 b=some o)
  (hT:ZfF Y.Lo y Lo' k' q' H2) (ow2:Own H2 Y.o Y.ra Y.ga Lo' Y.nb (X.li+k') (X.lo+q')) (k2:∀b u,H1 b=some u→b≠Y.o→b≠Y.ga→H2 b=some u) (n:Nat) :
  k=k'∧q=q'∧Zd6 cR cM H2 ⟨X.m,X.rd,X.sd,L',s',X.nb,X.li+k,X.lo+q,w'⟩ ⟨Y.o,Y.ra,Y.ga,Lo',Y.nb⟩∧IsD H2 (n+2) x y∧(∀b,MFp ⟨X.m,X.rd,X.sd,L',s',X.nb,X.li+k,X.lo+q,w'⟩ b↔MFp X b)∧(∀b,ZV ⟨Y.o,Y.ra,Y.ga,Lo',Y.nb⟩ b→ZV Y b) ∧
   ((Win (hdP (Z5 X.L)) (Zbr (Z5 X.L)) none∧L'=X.L∧k=0∧q=0)∨∃ (u:Zak) (z:Str),ZeW (Z5 X.L) u z k q∧Z5 L'=ZbZ (Z5 X.L) u.1):=by
 have fpe:∀b,MFp ⟨X.m,X.rd,X.sd,L',s',X.nb,X.li+k,X.lo+q,w'⟩ b↔MFp X b:=fun b=>hR.fp
 have nd:(Zbr (Z5 X.L)).Nodup:=by rw[← Zcy];exact p.mg.M.nd
 have eP:=Zgf p.ag
 have kt:∀t xs,H1 t=some (.tup xs)→H2 t=some (.tup xs):=fun t xs ht=>by
  have ow1:∀b,ZV Y b→∃u,H1 b=some u∧∀xs,u≠.tup xs:=fun b hb=>by
   obtain⟨u,hu,hn⟩:=p.ow.live hb
   exact⟨u,k1 b u hu (fun z=>p.sep b z hb),hn⟩
  refine k2 t _ ht (fun z=>?_) (fun z=>?_)
  ·obtain⟨u,hu,hn⟩:=ow1 t (.inl z)
   rw[ht]at hu;cases hu;exact hn xs rfl
  ·obtain⟨u,hu,hn⟩:=ow1 t (.inr (.inr (.inl z)))
   rw[ht]at hu;cases hu;exact hn xs rfl
 have keepM:∀b o,H1 b=some o→Fp X.m X.rd X.sd L' b∨(∃xs,o=.tup xs)→H2 b=some o:=fun b o hb hor=>by
  rcases hor with hf|⟨xs,rfl⟩
  ·have:=p.sep b ((fpe b).mp hf)
   exact k2 b o hb (fun z=>this (.inl z)) (fun z=>this (.inr (.inr (.inl z))))
  ·exact kt b xs hb
 have W:=p.mg.W
 have hs:=Zh7 W hR
 have hTW:=hT
 rcases hs with⟨w0,rfl,rfl,rfl,rfl⟩|⟨u,z,t,st,eL,rfl,ht⟩
 ·rcases hT with⟨rfl,hw,rfl,rfl,rfl⟩|⟨e,t,z,_,hw,_⟩
  ·refine⟨rfl,rfl,⟨⟨M1.keep keepM,W1,ok1⟩,ow2,p.ag,fun b hb=>p.sep b ((fpe b).mp hb)⟩,Zb3 (.inl rfl),fpe,fun b hb=>hb,.inl ⟨w0,rfl,rfl,rfl⟩⟩
  ·rw[ZeH,Zch,eP]at hw
   exact nomatch w0.one hw
 ·rcases hT with⟨_,hw,_⟩|⟨e,t',z',he,hw,rfl,hz,ht',rfl,ag⟩
  ·rw[ZeH,Zch,eP]at hw
   exact nomatch hw.one st.2.2.1
  ·have hw':=hw
   rw[ZeH,Zch,eP]at hw'
   have st':ZeW (Z5 X.L) (e.1,e.2.2) z' k' q':=by
    refine⟨by rw[← eP];exact Qd (f:=fun e:Zx=>(e.1,e.2.2)) he,hz,hw',?_⟩
    rw[ZeH,Ze8,Zch,eP]at ag
    exact ag
   obtain⟨e1,e2,e3,e4⟩:=st.one nd st'
   subst e1
   subst e2
   subst e3
   subst e4
   have ag':Agr (ZaP Y.Lo e.1) L':=by
    show pur (ZaP Y.Lo e.1)=Z5 L'
    rw[Ze8,eP,eL]
   refine⟨rfl,rfl,⟨⟨M1.keep keepM,W1,ok1⟩,ow2,ag',fun b hb ho=>p.sep b ((fpe b).mp hb) (Zfq ho)⟩,?_,fpe,fun b hb=>Zfq hb,.inr ⟨_,z,st,eL⟩⟩
   exact Zf5 (kt _ _ ht) ht' (by show 3≤1000;decide) (.cons (Za4 _) (.cons (Za4 _) (.cons (Zb3 (.inr (.inr (.inr ⟨_,rfl⟩)))) .nil)))
theorem Zh4{P:List Zak}(nd:(Zbr P).Nodup)(h:Win (hdP P) (Zbr P) none)(ok:∀x∈P,x.2.2≤x.2.1.length):Zb7 P=0:=by
 unfold Zb7
 have:∀l:List Nat,(∀a∈l,a=0)→l.sum=0:=fun l hl=>by
  induction l with
  | nil=>rfl
  | cons b r ih=>rw[Qau,hl b (by simp),ih fun a ha=>hl a (Qv _ ha)]
 refine this _ fun a ha=>?_
 obtain⟨x,hx,rfl⟩:=Qn.mp ha
 have hh:=h x.1 (Qd (f:=fun x:Zak=>x.1) hx)
 rw[Zqj nd hx]at hh
 cases hg:x.2.1[x.2.2]? with
 | none=>rw[Q6]at hg;show x.2.1.length-x.2.2=0;omega
 | some y=>rw[hg]at hh;cases hh
theorem ZiJ{cR cM:Addr}{H:Hp}{X:MS}(h:MOk cR cM H X):(Zbr (Z5 X.L)).Nodup:=by rw[← Zcy];exact h.M.nd
def ZrI(rs:List (Addr×List Str)):List Zak:=(Zet 0 rs.length).zip (rs.map fun x=>(x.2,0))
theorem Zlg{α β γ:Type}(f:α→β)(g:α→γ):∀l:List α,l.map (fun x=>(f x,g x))=(l.map f).zip (l.map g)
 | []=>rfl
 | x::r=>by rw[Qj,Qj,Qj,List.zip_cons_cons,Zlg f g r]
theorem Znp{L:List Zv}{rs:List (Addr×List Str)}(h:ZnI L rs):Z5 L=ZrI rs:=by
 unfold Z5 ZrI
 rw[Zlg (fun e:Zv=>e.n) (fun e=>(e.ss,e.g)) L,← h.1,← h.2];rfl
def Zjz(K:PySem.W.Frag)(cR cM:Addr):Sp:=fun vs H Q _=>∃ (m rd sd:Addr) (L:List Zv) (s:StL) (nb li lo:Int) (best:V) (r:Addr) (ss:List Str),vs=[.ref m,.ref r]∧ZP cR cM H m rd sd L s nb li lo best∧(∀e∈L,e.n<nb)∧L.length<16∧H r=some (.lst (ss.map V.str))∧ss.length≤100∧(∀x∈ss,x.length≤1000∧AZ x)∧sortedS ss=true ∧
 ∀ (e:Zv) (sd':Addr) (s':StL) (w:Option Int) (k q:Int) (H':Hp),e.n=nb→e.ss=ss→e.g=0→H e.p=none→H e.k=none→H e.f=none→H sd'=none→Win (hdM (L++[e])) (Zz (L++[e])) w→Zes (hdM (L++[e])) s' 8 (Zz (L++[e]))→Zbx (hdM (L++[e])) 8 (Zz (L++[e])) k q→ZP cR cM H' m rd sd' (L++[e]) s' (nb+1) (li+k) (lo+q) (Zce w)→(∀b o,H b=some o→b≠m→b≠rd→H' b=some o)→Q (.int nb) H'
theorem Zko(T:Zaf K mg cRow cMerge)(f_refuse_break:Df P w K mg base 5 "refuse_break" ["number", "keys"] (Zd8 K))(f_Row_init:Cf P w K mg base 4 cRow "Row" ["self", "keys"] (Zfj cRow))(f_Merge_play_all:Mf P w K mg base 13 cMerge "play_all" ["self"] (Zc9 cRow cMerge)):Mf P w K mg base 14 cMerge "add_row" ["self", "row"] (Zjz K cRow cMerge):=by
 refine T.t_Merge_add_row.mf Zc6 (fun vs H Q E h=>?_) (fun cdv f A outer s H vs Q E hr h=>?_)
 ·obtain⟨m,rd,sd,L,s,nb,li,lo,best,r,ss,rfl,_⟩:=h
  rfl
 obtain⟨m,rd,sd,L,s,nb,li,lo',best,r,ss,rfl,M,hlt,h16,hr0,l100,laz,hsrt,q⟩:=h
 refine⟨_,#[Zf,#[Zw,2,Zc6.nd,(Or.inl rfl),#[ZO,‹0›]],#[Zf,#[Zab,#[Zy,f_refuse_break,hr,#[Za,‹2›,#[Za,‹1›,#[Ze]]],(by rfl)]],#[Zf,#[ZZ,#[Zm,ZpY,#[Zk,Zsb,(by rfl),T.b.n_len,Qs,#[Za,#[ZO,‹0›],#[Ze]]],(@ZoE _ _ _ _ T.g_MOST_ROWS (by rfl) (by decide)),(Zp _)],#[Zj,(@ZiP _ _)],#[ZE]],#[Zf,#[Z3,#[ZnT,f_Row_init,hr,#[Za,‹1›,#[Ze]]],#[ZaQ,#[ZO,‹0›],‹2›,(ZdK hr)]],#[Zf,#[Zde,‹0›,#[Zi],Zgp],#[Zf,#[Zab,#[Zay,f_Merge_play_all,T.cl_Merge,hr,‹0›]],#[Zj,#[Zs,‹2›]]]]]]]],?_⟩
 obtain⟨dx,hm⟩:=M.ob
 refine⟨_,rfl,m,cMerge,dx,_,_,rfl,hm,T.cl_Merge,T.na_Merge_next_number,ZgO ..,?_⟩
 refine⟨_,rfl,_,rfl,nb,r,ss,rfl,SqL.of hr0,by omega,fun x hx=>(laz x hx).1,ZiK hsrt,fun H1 s1=>?_⟩
 have M1:=M.same s1
 have hm1:=s1 _ _ hm
 have hkl:(((kvM L).length:Nat):Int)=(L.length:Int):=by unfold kvM;rw[Qa]
 refine⟨_,rfl,m,cMerge,dx,_,_,rfl,hm1,T.cl_Merge,T.na_Merge_rows,ZaB ..,rd,_,rfl,M1.rows,_,_,rfl,rfl,_,rfl,ZaY (fun d=>?_) (fun d=>?_)⟩
 ·have:(16:Int)≤(((kvM L).length:Nat):Int):=of_decide_eq_true d
  exact absurd this (by omega)
 refine⟨_,rfl,fun u dy hu hdy ndu=>?_⟩
 have huH:H u=none:=s1.free hu
 have s8:∀b o,H b=some o→(upd (upd H1 dy (.own u)) u (.ins cRow dy [])) b=some o:=fun b o hb=>by
  have:=s1 _ _ hb
  rw[Zb (Zc this hu),Zb (Zc this hdy)];exact this
 have hu8:(upd (upd H1 dy (.own u)) u (.ins cRow dy [])) u=some (.ins cRow dy []):=Zd
 generalize upd (upd H1 dy (.own u)) u (.ins cRow dy [])=H8 at s8 hu8 ⊢
 refine⟨u,dy,r,ss,rfl,hu8,s8 _ _ hr0,l100,fun x hx=>(laz x hx).1,fun k f H9 hk hf nkf R k9=>⟨rfl,?_⟩⟩
 have s9:ZF H H9:=fun b o hb=>k9 b o (s8 b o hb) (Zc hb huH)
 have free:∀b,H8 b=none→H b=none:=fun b hb=>by
  cases e:H b with
  | none=>rfl
  | some o=>rw[s8 b o e]at hb;cases hb
 have hkH:=free k hk
 have hfH:=free f hf
 have M9:=M.same s9
 have hm9:=s9 _ _ hm
 have nrd:rd≠u∧rd≠k∧rd≠f:=⟨Zc M.rows huH,Zc M.rows hkH,Zc M.rows hfH⟩
 have hsz:(kvM L).length<sizeLine:=by unfold kvM;rw[Qa];exact ZC (by omega)
 have hn1:Z2 (kvM L) (.inl nb)=none:=by
  cases hv:Z2 (kvM L) (.inl nb) with
  | none=>rfl
  | some v=>obtain⟨e,he,z⟩:=Qn.mp (ZcC hv);injection z with z _;have:=hlt e he;have:=Sum.inl.inj z;omega
 refine⟨_,rfl,m,cMerge,dx,_,_,rfl,hm9,T.cl_Merge,T.na_Merge_rows,ZaB ..,_,rfl,rd,_,rfl,ZbW.k (k:=.inl nb) M9.rows hsz,?_⟩
 rw[ZbV _ hn1,show kvM L++[((.inl nb:Key),V.ref u)]=kvM (L++[⟨nb,u,k,f,ss,0⟩]) by unfold kvM;rw[Qe];rfl]
 obtain⟨n1,n2,n3⟩:=M9.ne_m
 have M10:ZP cRow cMerge (upd H9 rd (.dK (kvM (L++[⟨nb,u,k,f,ss,0⟩])))) m rd sd (L++[⟨nb,u,k,f,ss,0⟩]) s nb li lo' best:=by
  refine⟨⟨dx,by rw[Zb n1];exact hm9⟩,Zd,?_,?_,fun e he=>?_,?_,?_,by rw[Qf,Qt];omega,M.sfew⟩
  ·rw[Zb (fun z=>by have:=M9.stays;rw[z,M9.rows]at this;cases this)];exact M9.stays
  ·intro e he t ht
   have hb:=M9.ats e he t ht
   rw[Zb (fun z=>by rw[z,M9.rows]at hb;cases hb)];exact hb
  ·rcases Qm.mp he with he|he
   ·have re:=M9.each e he
    obtain⟨de,hde⟩:=re.at'.ob
    refine re.mono fun b o hb hor=>?_
    have nb':b≠rd:=fun z=>by
     rw[z,M9.rows]at hb
     injection hb with hb
     subst hb
     rcases hor with z2|z2|z2
     ·rw[← z2,z,M9.rows]at hde;cases hde
     ·have:=re.at'.ks;rw[← z2,z,M9.rows]at this;cases this
     ·have:=re.at'.fs;rw[← z2,z,M9.rows]at this;cases this
    rw[Zb nb'];exact hb
   ·rw[Qo.mp he]
    refine ZdI.keep (H:=H9) ⟨R,Qw _,l100,hsrt,laz⟩ (Zb nrd.1.symm) (Zb nrd.2.1.symm) (Zb nrd.2.2.symm)
  ·unfold Zz
   rw[Qe]
   refine List.pairwise_append.mpr ⟨M.up,List.pairwise_singleton ..,fun x hx y hy=>?_⟩
   obtain⟨e,he,rfl⟩:=Qn.mp hx
   have:y=nb:=by simpa using hy
   rw[this];exact hlt e he
  ·rw[Qe]
   refine QaV.mpr ⟨M.pd,by simp,fun a ha b hb=>?_⟩
   obtain⟨e,he,rfl⟩:=Qn.mp ha
   have:b=u:=by simpa using hb
   rw[this]
   obtain⟨de,hde⟩:=(M.each e he).at'.ob
   exact Zc hde huH
 have k10:∀b o,H b=some o→b≠rd→(upd H9 rd (.dK (kvM (L++[⟨nb,u,k,f,ss,0⟩])))) b=some o:=fun b o hb n=>by rw[Zb n];exact s9 b o hb
 generalize upd H9 rd (.dK (kvM (L++[⟨nb,u,k,f,ss,0⟩])))=H10 at M10 k10 ⊢
 have hm10:=k10 _ _ hm n1
 refine⟨_,rfl,m,cMerge,dx,_,_,rfl,hm10,T.cl_Merge,T.na_Merge_next_number,ZgO ..,_,_,rfl,rfl,dx,_,hm10,Zcg ..,?_⟩
 rw[Zgv]
 have M11:=M10.obj (nb':=nb+1) (li':=li) (lo':=lo') (best':=best) (dx:=dx)
 have k11:∀b o,H b=some o→b≠m→b≠rd→(upd H10 m (.ins cMerge dx (mgF rd (nb+1) li lo' sd best))) b=some o:=fun b o hb n n'=>by rw[Zb n];exact k10 b o hb n'
 generalize upd H10 m (.ins cMerge dx (mgF rd (nb+1) li lo' sd best))=H11 at M11 k11 ⊢
 obtain⟨dx11,hm11⟩:=M11.ob
 have free11:∀b,H11 b=none→H b=none:=fun b hb=>by
  cases e:H b with
  | none=>rfl
  | some o =>
   by_cases z:b=m
   ·rw[z,hm11]at hb;cases hb
   ·by_cases z':b=rd
    ·rw[z',M11.rows]at hb;cases hb
    ·rw[k11 b o e z z']at hb;cases hb
 refine⟨_,rfl,m,dx11,_,rfl,hm11,ZbA ..,m,rd,sd,_,s,_,_,_,_,rfl,M11,fun sd' s' w0 k0 q0 H12 hsd' W12 S12 P12 M12 k12=>⟨_,rfl,?_⟩⟩
 exact q ⟨nb,u,k,f,ss,0⟩ sd' s' w0 k0 q0 H12 rfl rfl rfl huH hkH hfH (free11 sd' hsd') W12 S12 P12 M12 (fun b o hb n n'=>k12 b o (k11 b o hb n n') n)
theorem ZbF.one{P:List Zak}(nd:(Zbr P).Nodup){ts:List Zdh}{P1:List Zak}{k q:Int}(h:ZbF P ts P1 k q):∀ {us:List Zdh} {P2:List Zak} {k' q':Int},ZbF P us P2 k' q'→ts.length=us.length→ts=us∧P1=P2∧k=k'∧q=q':=by
 induction h with
 | nil =>
  intro us P2 k' q' g hl
  cases g with
  | nil=>exact⟨rfl,rfl,rfl,rfl⟩
  | snoc _ _=>rw[Qf,Qt]at hl;exact absurd hl (by simp)
 | snoc h s ih =>
  intro us P2 k' q' g hl
  cases g with
  | nil=>rw[Qf,Qt]at hl;exact absurd hl (by simp)
  | snoc g' s' =>
   rw[Qf,Qf,Qt,Qt]at hl
   obtain⟨e1,e2,e3,e4⟩:=ih g' (by omega)
   subst e1
   subst e2
   subst e3
   subst e4
   obtain⟨f1,f2,f3,f4⟩:=s.one (by rw[h.num];exact nd) s'
   subst f1
   subst f2
   subst f3
   subst f4
   exact⟨rfl,rfl,rfl,rfl⟩
theorem Zm8{L':List Zv}{P:List Zak}{ts:List Zdh}{k q:Int}{w':Option Int}{many:Nat}(nd:(Zbr P).Nodup)(h:ZbF P ts (Z5 L') k q)(h1:(ts.length:Int)<(many:Int)→w'=none)(h2:ts≠[]→(ts.length:Int)≤(many:Int))(W:Win (hdM L') (Zz L') w')(ok:∀x∈Z5 L',x.2.2≤x.2.1.length):ts.length=min many (Zb7 P):=by
 have hl:=h.left nd
 by_cases hlt:(ts.length:Int)<(many:Int)
 ·have e:=h1 hlt
  subst e
  rw[Zge,Zcy]at W
  have hz:=Zh4 (by rw[h.num];exact nd) W ok
  omega
 ·by_cases hn:ts=[]
  ·subst hn
   simp only[List.length_nil]at hlt ⊢
   omega
  ·have:=h2 hn
   omega
theorem ownA_bump'{o ra ga:Addr}{Lo:List Zx}{nb:Int}{n:Int}{b:Addr}(h:ZV ⟨o,ra,ga,Lo,nb⟩ b):ZV ⟨o,ra,ga,ZaP Lo n,nb⟩ b:=by
 rcases h with h|h|h|⟨e,he,h⟩
 ·exact .inl h
 ·exact .inr (.inl h)
 ·exact .inr (.inr (.inl h))
 ·exact .inr (.inr (.inr ⟨Zd1 n e,Qd (f:=Zd1 n) he,by rw[(Zef n e).2.1];exact h⟩))
theorem ZfF.own{Lo Lo':List Zx}{x:V}{k q:Int}{H:Hp}(h:ZfF Lo x Lo' k q H){o ra ga:Addr}{nb:Int}{b:Addr}:ZV ⟨o,ra,ga,Lo',nb⟩ b↔ZV ⟨o,ra,ga,Lo,nb⟩ b:=by
 rcases h with⟨_,_,rfl,_⟩|⟨e,t,z,_,_,_,_,_,rfl,_⟩
 ·exact Iff.rfl
 ·exact⟨Zfq,ownA_bump'⟩
theorem Zj4{Lo Lo':List Zx}{x:V}{k q:Int}{H:Hp}(h:ZfF Lo x Lo' k q H):(Win (hdP (pur Lo)) (Zbr (pur Lo)) none∧x=.non∧Lo'=Lo∧k=0∧q=0)∨∃ (y:Zak) (z:Str) (t:Addr),ZeW (pur Lo) y z k q∧pur Lo'=ZbZ (pur Lo) y.1∧x=.ref t∧H t=some (.tup [.int y.1,.int (y.2.2:Int),.str z]):=by
 rcases h with⟨h1,h2,h3,h4,h5⟩|⟨e,t,z,he,hw,h1,hz,ht,rfl,ag⟩
 ·rw[ZeH,Zch]at h2
  exact .inl ⟨h2,h1,h3,h4,h5⟩
 ·rw[ZeH,Zch]at hw
  refine .inr ⟨(e.1,e.2.2),z,t,⟨Qd (f:=fun e:Zx=>(e.1,e.2.2)) he,hz,hw,?_⟩,Ze8 Lo e.1,h1,ht⟩
  rw[ZeH,Ze8,Zch]at ag
  exact ag
theorem ZqO{H:Hp}{o ra ga:Addr}{L:List Zx}{nb li lo:Int}(h:Own H o ra ga L nb li lo):∀x∈pur L,x.2.2≤x.2.1.length:=fun x hx=>by
 obtain⟨e,he,rfl⟩:=Qn.mp hx
 exact(h.lst e he).2.2.1
theorem ZnF{H:Hp}{o ra ga:Addr}{L:List Zx}{nb li lo:Int}(h:Own H o ra ga L nb li lo):(Zat L).sum=((Zb7 (pur L):Nat):Int):=by
 have:∀l:List Zx,(∀e∈l,e.2.2.2≤e.2.2.1.length)→(Zat l).sum=((Zb7 (pur l):Nat):Int):=fun l hl=>by
  induction l with
  | nil=>rfl
  | cons e r ih =>
   have h1:=ih fun x hx=>hl x (Qv _ hx)
   have h2:=hl e (by simp)
   unfold Zat Zb7 pur at h1 ⊢
   rw[Qj,Qj,Qj,Qau,Qau,h1,Int.natCast_add]
   show (e.2.2.1.length:Int)-(e.2.2.2:Int)+_=((e.2.2.1.length-e.2.2.2:Nat):Int)+_
   omega
 exact this L fun e he=>(h.lst e he).2.2.1
theorem Zii{H:Hp}{n:Nat}:∀ (us vs:List (Addr×Zdh)),us.map (·.2)=vs.map (·.2)→(∀u∈us,H u.1=some (.tup [.int u.2.1,.int (u.2.2.1:Int),.str u.2.2.2]))→(∀u∈vs,H u.1=some (.tup [.int u.2.1,.int (u.2.2.1:Int),.str u.2.2.2]))→F2 (IsD H (n+2)) (us.map fun u=>V.ref u.1) (vs.map fun u=>V.ref u.1)
 | [],[],_,_,_=>.nil
 | [],_::_,e,_,_=>by cases e
 | _::_,[],e,_,_=>by cases e
 | u::us,v::vs,e,h,g=>by
  rw[Qj,Qj]at e
  obtain⟨e1,e2⟩:=List.cons.inj e
  have hu:=h u (by simp)
  have hv:=g v (by simp)
  rw[← e1]at hv
  exact .cons (Zf5 hu hv (by show 3≤1000;decide) (.cons (Za4 _) (.cons (Za4 _) (.cons (Zb3 (.inr (.inr (.inr ⟨_,rfl⟩)))) .nil)))) (Zii us vs e2 (fun x hx=>h x (Qv _ hx)) (fun x hx=>g x (Qv _ hx)))
theorem ZoQ(L:List Zx)(e:Zx):kvR (L++[e])=kvR L++[((.inl e.1:Key),V.ref e.2.1)]:=by unfold kvR;rw[Qe];rfl
theorem Zou(L:List Zx)(e:Zx):kvG (L++[e])=kvG L++[((.inl e.1:Key),V.int (e.2.2.2:Int))]:=by unfold kvG;rw[Qe];rfl
theorem Zm9{L:List Zx}{n:Int}(h:∀e∈L,e.1<n):Z2 (kvR L) (.inl n)=none:=by
 cases hv:Z2 (kvR L) (.inl n) with
 | none=>rfl
 | some v=>obtain⟨e,he,z⟩:=Qn.mp (ZcC hv);injection z with z _;have:=h e he;have:=Sum.inl.inj z;omega
theorem ZmA{L:List Zx}{n:Int}(h:∀e∈L,e.1<n):Z2 (kvG L) (.inl n)=none:=by
 cases hv:Z2 (kvG L) (.inl n) with
 | none=>rfl
 | some v=>obtain⟨e,he,z⟩:=Qn.mp (ZcC hv);injection z with z _;have:=h e he;have:=Sum.inl.inj z;omega
theorem Zjo(ra ga:Addr)(nb li lo v:Int):Zbi (Zav ra ga nb li lo) (.inr "number") (.int v)=Zav ra ga v li lo:=by
 unfold Zbi
 rw[if_pos]
 ·unfold Zav
  simp only[List.map_cons,List.map_nil]
  rw[if_neg (fun z=>ZrL (Sum.inr.inj z)),if_neg (fun z=>absurd (Sum.inr.inj z) (by decide +kernel)),if_pos True.intro,if_neg (fun z=>absurd (Sum.inr.inj z) (by decide +kernel)),if_neg (fun z=>absurd (Sum.inr.inj z) (by decide +kernel))]
 ·exact Qaq.mpr ⟨(.inr "number",.int nb),by unfold Zav;simp,decide_eq_true rfl⟩
theorem Own.add{H:Hp}{o ra ga:Addr}{L:List Zx}{nb li lo:Int}(h:Own H o ra ga L nb li lo)(nga:ga≠ra)(hlt:∀e∈L,e.1<nb)(hf:L.length<60){r:Addr}{ss:List Str}(hr:H r=some (.lst (ss.map V.str)))(hl:ss.length≤100)(hs:∀s∈ss,s.length≤1000∧AZ s) :
  Own (upd (upd (upd H ra (.dK (kvR (L++[(nb,r,ss,0)])))) ga (.dK (kvG (L++[(nb,r,ss,0)])))) o (.dK (Zav ra ga (nb+1) li lo))) o ra ga (L++[(nb,r,ss,0)]) (nb+1) li lo:=by
 obtain⟨n1,n2⟩:=h.ne
 have ls:∀e∈L++[(nb,r,ss,0)],H e.2.1=some (.lst (e.2.2.1.map V.str))∧e.2.2.1.length≤100∧e.2.2.2≤e.2.2.1.length∧∀s∈e.2.2.1,s.length≤1000∧AZ s:=fun e he=>by
  rcases Qm.mp he with he|he
  ·exact h.lst e he
  ·rw[Qo.mp he]
   exact⟨hr,hl,Qw _,hs⟩
 refine⟨Zd,?_,?_,?_,by rw[Qf,Qt];omega,fun e he=>?_⟩
 ·rw[Zb n1,Zb nga.symm];exact Zd
 ·rw[Zb n2];exact Zd
 ·rw[Qe]
  refine QaV.mpr ⟨h.nd,by simp,fun a ha b hb=>?_⟩
  obtain⟨e,he,rfl⟩:=Qn.mp ha
  have:b=nb:=by simpa using hb
  have:=hlt e he
  omega
 ·obtain⟨a1,a2⟩:=ls e he
  refine⟨?_,a2⟩
  rw[Zb (fun z=>by rw[z,h.at']at a1;cases a1),Zb (fun z=>by rw[z,h.gone]at a1;cases a1),Zb (fun z=>by rw[z,h.rows]at a1;cases a1)]
  exact a1
theorem Zl1(xs:List V)(m:Nat):Zf3 xs none (some (m:Int))=xs.take m:=by
 unfold Zf3
 have e0:HT.sIx xs.length 0 none=0:=rfl
 rw[HT.sIx_nat,e0,List.drop_zero,Nat.sub_zero]
 rcases Nat.le_total m xs.length with h|h
 ·rw[Qas h]
 ·rw[Nat.min_eq_right h,Qu (Qh _),Qu h]
theorem Zd6.but{cR cM:Addr}{H H':Hp}{X:MS}{Y:OS}{p:Addr}{c:Int}(pr:Zd6 cR cM H X Y)(L:Zap H p c)(n:¬ MFp X p)(n':¬ ZV Y p)(B:But p H H'):Zd6 cR cM H' X Y:=by
 have np:∀b u,H b=some u→(MFp X b∨ZV Y b∨∃xs,u=.tup xs)→b≠p:=fun b u hb hor e=>by
  subst e
  rcases hor with z|z|⟨xs,rfl⟩
  ·exact n z
  ·exact n' z
  ·obtain⟨_,_,hp',_⟩:=L
   rw[hp']at hb;cases hb
 exact⟨pr.mg.keep fun b u hb hor=>B b u hb (np b u hb (hor.imp id .inr)),pr.ow.keep fun b u hb ho'=>B b u hb (np b u hb (.inr (.inl ho'))),pr.ag,pr.sep⟩
theorem Zl3(rd:Addr)(nb li lo:Int)(sd:Addr)(best:V):(mgF rd nb li lo sd best).lookup ("add_row" : Str)=none:=Za8 _ _ _ _ _ _ (by decide +kernel) (by decide +kernel) (by decide +kernel) (by decide +kernel) (by decide +kernel) (by decide +kernel)
theorem Zmh(rd:Addr)(nb li lo:Int)(sd:Addr)(best:V):(mgF rd nb li lo sd best).lookup ("take_few" : Str)=none:=Za8 _ _ _ _ _ _ (by decide +kernel) (by decide +kernel) (by decide +kernel) (by decide +kernel) (by decide +kernel) (by decide +kernel)
theorem Ze7(rd:Addr)(nb li lo:Int)(sd:Addr)(best:V):(mgF rd nb li lo sd best).lookup ("row_of" : Str)=none:=Za8 _ _ _ _ _ _ (by decide +kernel) (by decide +kernel) (by decide +kernel) (by decide +kernel) (by decide +kernel) (by decide +kernel)
theorem Zjx(k f:Addr)(g:Int):(Zbc k f g).lookup ("to_go" : Str)=none:=Ze6 _ _ _ (by decide +kernel) (by decide +kernel) (by decide +kernel)
theorem ZfY(k f:Addr)(g:Int):(Zbc k f g).lookup ("lengthen" : Str)=none:=Ze6 _ _ _ (by decide +kernel) (by decide +kernel) (by decide +kernel)
def ZiI(cR cM:Addr):Sp:=fun vs H Q _=>∃ (m rd sd:Addr) (L:List Zv) (s:StL) (nb li lo:Int) (best:V) (e:Zv),vs=[.ref m,.int e.n]∧ZP cR cM H m rd sd L s nb li lo best∧e∈L∧Q (.ref e.p) H
theorem ZlP(T:Zaf K mg cRow cMerge):Mf P w K mg base 1 cMerge "row_of" ["self", "n"] (ZiI cRow cMerge):=by
 refine T.t_Merge_row_of.mf Zf1 (fun vs H Q E h=>?_) (fun cdv f A outer s H vs Q E hr h=>?_)
 ·obtain⟨m,rd,sd,L,s,nb,li,lo,best,e,rfl,_⟩:=h
  rfl
 obtain⟨m,rd,sd,L,s,nb,li,lo,best,e,rfl,M,he,q⟩:=h
 refine⟨_,#[Zf,#[ZZ,#[Zm,(ZqW hr),‹1›,#[ZO,‹0›],(by with_unfolding_all rfl)],#[Zj,(@ZiP _ _)],#[ZE]],#[Zj,#[Zs,#[Zo,(ixG hr),#[ZO,‹0›],‹1›]]]],?_⟩
 obtain⟨dx,hm⟩:=M.ob
 refine⟨_,rfl,_,rfl,m,cMerge,dx,_,_,rfl,hm,T.cl_Merge,T.na_Merge_rows,ZaB ..,rd,_,rfl,ZN.k' (k:=.inl e.n) M.rows (ZdN M.nd he),_,rfl,ZbE ?_⟩
 exact⟨_,rfl,m,cMerge,dx,_,_,rfl,hm,T.cl_Merge,T.na_Merge_rows,ZaB ..,_,rfl,rd,_,rfl,ZN.k' (k:=.inl e.n) M.rows (ZdN M.nd he),q⟩
def Zbh(L:List Zv)(n:Int):List Zv:=L.filter fun e=>decide (e.n≠n)
theorem ZmT(L:List Zv)(n:Int):ZcJ (kvM L) (.inl n)=kvM (Zbh L n):=by
 unfold ZcJ kvM Zbh
 rw[Qat]
 congr 1
 refine List.filter_congr fun e _=>?_
 exact decide_eq_decide.mpr ⟨fun h z=>h (by show (Sum.inl e.n:Key)=_;rw[z]),fun h z=>h (Sum.inl.inj z)⟩
theorem ZP.drop{cR cM:Addr}{H:Hp}{m rd sd:Addr}{L:List Zv}{s:StL}{nb li lo:Int}{best:V}(M:ZP cR cM H m rd sd L s nb li lo best)(n:Int):ZP cR cM (upd H rd (.dK (kvM (Zbh L n)))) m rd sd (Zbh L n) s nb li lo best:=by
 obtain⟨n1,n2,n3⟩:=M.ne_m
 obtain⟨dx,hm⟩:=M.ob
 refine⟨⟨dx,by rw[Zb n1];exact hm⟩,Zd,by rw[Zb n3.symm];exact M.stays,fun e he t ht=>?_,fun e he=>?_,?_,?_,Qy (Q7 ..) M.few,M.sfew⟩
 ·have:=M.ats e he t ht
  rw[Zb (fun z=>by rw[z,M.rows]at this;cases this)];exact this
 ·have he':=(Qac.mp he).1
  obtain⟨_,_,_,a,b,c⟩:=M.ne_sd he'
  exact(M.each e he').keep (Zb a.symm) (Zb b.symm) (Zb c.symm)
 ·exact M.up.sublist (Qa2 _ Qaf)
 ·exact M.pd.sublist (Qa2 _ Qaf)
def Zhz(cR cM:Addr):Sp:=fun vs H Q _=>∃ (m rd sd:Addr) (L:List Zv) (s:StL) (nb li lo:Int) (best:V) (e:Zv),vs=[.ref m,.int e.n]∧ZP cR cM H m rd sd L s nb li lo best∧e∈L ∧
 ∀ (sd':Addr) (s':StL) (w:Option Int) (k q:Int) (H':Hp),H sd'=none→Win (hdM (Zbh L e.n)) (Zz (Zbh L e.n)) w→Zes (hdM (Zbh L e.n)) s' 8 (Zz (Zbh L e.n))→Zbx (hdM (Zbh L e.n)) 8 (Zz (Zbh L e.n)) k q→ZP cR cM H' m rd sd' (Zbh L e.n) s' nb (li+k) (lo+q) (Zce w)→(∀b o,H b=some o→b≠m→b≠rd→H' b=some o)→Q (.int ((e.ss.length:Int)-(e.g:Int))) H'
theorem ZjV(T:Zaf K mg cRow cMerge)(f_Row_to_go:Mf P w K mg base 1 cRow "to_go" ["self"] (ZiW cRow))(f_Merge_row_of:Mf P w K mg base 1 cMerge "row_of" ["self", "n"] (ZiI cRow cMerge))(f_Merge_play_all:Mf P w K mg base 13 cMerge "play_all" ["self"] (Zc9 cRow cMerge)):Mf P w K mg base 14 cMerge "drop_row" ["self", "n"] (Zhz cRow cMerge):=by
 refine T.t_Merge_drop_row.mf ZcG (fun vs H Q E h=>?_) (fun cdv f A outer s H vs Q E hr h=>?_)
 ·obtain⟨m,rd,sd,L,s,nb,li,lo,best,e,rfl,_⟩:=h
  rfl
 obtain⟨m,rd,sd,L,s,nb,li,lo',best,e,rfl,M,he,q⟩:=h
 refine⟨_,#[Zf,#[Zw,2,ZcG.nd,(Or.inl rfl),#[Zay,f_Row_to_go,T.cl_Row,hr,#[ZcM,f_Merge_row_of,T.cl_Merge,hr,‹0›,#[Za,‹1›,#[Ze]]]]],#[Zf,#[Zab,#[Zd7,QV,Qax,PySem.F.type_dict_pop,ZiG,#[ZO,‹0›],#[Za,‹1›,#[Ze]]]],#[Zf,#[Zab,#[Zay,f_Merge_play_all,T.cl_Merge,hr,‹0›]],#[Zj,#[Zs,‹2›]]]]],?_⟩
 obtain⟨dx,hm⟩:=M.ob
 have Re:=M.each e he
 obtain⟨de,hde⟩:=Re.at'.ob
 refine⟨_,rfl,m,dx,_,rfl,hm,Ze7 ..,_,rfl,m,rd,sd,L,s,nb,li,lo',best,e,rfl,M,he,e.p,de,_,rfl,hde,Zjx ..,e.p,e.k,e.f,e.ss,e.g,rfl,Re.at',?_⟩
 refine⟨_,rfl,m,cMerge,dx,_,_,rfl,hm,T.cl_Merge,T.na_Merge_rows,ZaB ..,.inr (.inr (.inl ⟨rfl,.inl ⟨_,M.rows⟩⟩)),_,rfl,rd,_,.inl e.n,_,rfl,rfl,M.rows,ZdN M.nd he,?_⟩
 rw[ZmT]
 have M10:=M.drop e.n
 have k10:∀b o,H b=some o→b≠rd→(upd H rd (.dK (kvM (Zbh L e.n)))) b=some o:=fun b o hb n=>by rw[Zb n];exact hb
 have free:∀b,(upd H rd (.dK (kvM (Zbh L e.n)))) b=none→H b=none:=fun b hb=>by
  by_cases z:b=rd
  ·rw[z,Zd]at hb;cases hb
  ·rw[Zb z]at hb;exact hb
 generalize upd H rd (.dK (kvM (Zbh L e.n)))=H10 at M10 k10 free ⊢
 obtain⟨dx10,hm10⟩:=M10.ob
 refine⟨_,rfl,m,dx10,_,rfl,hm10,ZbA ..,m,rd,sd,_,s,_,_,_,_,rfl,M10,fun sd' s' w0 k0 q0 H12 hsd' W12 S12 P12 M12 k12=>⟨_,rfl,?_⟩⟩
 exact q sd' s' w0 k0 q0 H12 (free sd' hsd') W12 S12 P12 M12 (fun b o hb n n'=>k12 b o (k10 b o hb n') n)
theorem Zga(k f:Addr)(g:Int):Zbc k f g=([("all_keys",.ref k),("fars",.ref f),("gone",.int g)]:List (Str×V)):=by
 unfold Zbc
 rw[Za0,Zu nFK,Za0,Zu nGK,Zu nGF,Za0]
theorem Zhk(k f:Addr)(g:Int)(k':Addr):Zt "all_keys" (.ref k') (Zbc k f g)=Zbc k' f g:=by rw[Zga,Zga,Zb1]
theorem Zhj(k f:Addr)(g:Int)(f':Addr):Zt "fars" (.ref f') (Zbc k f g)=Zbc k f' g:=by rw[Zga,Zga,Zu nFK,Zb1]
def ZgN(C:Addr):Sp:=fun vs H Q _=>∃ (p k f a:Addr) (ss ks:List Str) (g:Nat),vs=[.ref p,.ref a]∧Zgi C H p k f ss g∧H a=some (.lst (ks.map V.str))∧(ss++ks).length≤100∧(∀x∈ss++ks,x.length≤1000) ∧
 ∀ (k' f':Addr) (H':Hp),H k'=none→H f'=none→Zgi C H' p k' f' (ss++ks) g→(∀b o,H b=some o→b≠p→H' b=some o)→Q .non H'
theorem Zjr(T:Zaf K mg cRow cMerge)(f_alikes:Df P w K mg base 3 "alikes" ["row"] (ZeR K)):Mf P w K mg base 4 cRow "lengthen" ["self", "keys"] (ZgN cRow):=by
 refine T.t_Row_lengthen.mf ZfW (fun vs H Q E h=>?_) (fun cdv fa A outer s H vs Q E hr h=>?_)
 ·obtain⟨p,k,f,a,ss,ks,g,rfl,_⟩:=h
  rfl
 obtain⟨p,k,f,a,ss,ks,g,rfl,R,ha,hn,hz,q⟩:=h
 refine⟨_,#[Zf,#[ZbB,‹0›,#[ZG,ZeG,#[ZO,‹0›],‹1›]],#[Zj,#[ZbB,‹0›,#[Zy,f_alikes,hr,#[Za,#[ZO,‹0›],#[Ze]],(by rfl)]]]],?_⟩
 obtain⟨⟨dx,ho⟩,hk,hf⟩:=R
 refine⟨_,rfl,p,cRow,dx,_,_,rfl,ho,T.cl_Row,T.na_Row_all_keys,Zck _ _ _,_,rfl,k,a,_,_,rfl,rfl,hk,ha,(by rw[Qa,Qa];rw[Qf]at hn;exact Za6 (by omega)),fun c hc=>?_⟩
 rw[← Qe]
 have npc:p≠c:=Zc ho hc
 refine⟨_,rfl,p,cRow,dx,_,rfl,(by rw[Zb npc];exact ho),T.cl_Row,T.na_Row_all_keys,Zg7 ..,?_⟩
 rw[Zhk]
 have hp2:(upd (upd H c (.lst ((ss++ks).map V.str))) p (.ins cRow dx (Zbc c f g))) p=some (.ins cRow dx (Zbc c f g)):=Zd
 have hc2:(upd (upd H c (.lst ((ss++ks).map V.str))) p (.ins cRow dx (Zbc c f g))) c=some (.lst ((ss++ks).map V.str)):=by rw[Zb npc.symm];exact Zd
 have s2:∀b o,H b=some o→b≠p→(upd (upd H c (.lst ((ss++ks).map V.str))) p (.ins cRow dx (Zbc c f g))) b=some o:=fun b o h n=>by rw[Zb n,Zb (Zc h hc)];exact h
 generalize upd (upd H c (.lst ((ss++ks).map V.str))) p (.ins cRow dx (Zbc c f g))=H2 at hp2 hc2 s2 ⊢
 refine⟨_,rfl,p,cRow,dx,_,_,rfl,hp2,T.cl_Row,T.na_Row_all_keys,Zck _ _ _,c,ss++ks,rfl,SqL.of hc2,hn,hz,fun f' H3 hf0 hf3 s3=>?_⟩
 have hHf:H f'=none:=by
  cases w':H f' with
  | none=>rfl
  | some u =>
   by_cases e:f'=p
   ·rw[e,hp2]at hf0;cases hf0
   ·rw[s2 f' u w' e]at hf0;cases hf0
 have npf:p≠f':=Zc hp2 hf0
 refine⟨_,rfl,p,cRow,dx,_,rfl,s3 _ _ hp2,T.cl_Row,T.na_Row_fars,Zg7 ..,?_⟩
 rw[Zhj]
 refine q c f' _ hc hHf ⟨⟨dx,Zd⟩,?_,?_⟩ fun b o h n=>?_
 ·rw[Zb npc.symm];exact s3 _ _ hc2
 ·rw[Zb npf.symm];exact hf3
 ·rw[Zb n];exact s3 _ _ (s2 b o h n)
def Zb9(n:Int)(ks:List Str)(k f:Addr)(x:Zv):Zv:=if x.n=n then ⟨x.n,x.p,k,f,x.ss++ks,x.g⟩ else x
def Zbg(L:List Zv)(n:Int)(ks:List Str)(k f:Addr):List Zv:=L.map (Zb9 n ks k f)
theorem ZiA(n:Int)(ks:List Str)(k f:Addr)(x:Zv):(Zb9 n ks k f x).n=x.n∧(Zb9 n ks k f x).p=x.p∧(Zb9 n ks k f x).g=x.g:=by unfold Zb9;split<;>exact⟨rfl,rfl,rfl⟩
theorem Zdd(L:List Zv)(n:Int)(ks:List Str)(k f:Addr):Zz (Zbg L n ks k f)=Zz L:=by
 unfold Zz Zbg
 rw[Qi]
 exact QA fun e _=>(ZiA n ks k f e).1
theorem ZmJ(L:List Zv)(n:Int)(ks:List Str)(k f:Addr):kvM (Zbg L n ks k f)=kvM L:=by
 unfold kvM Zbg
 rw[Qi]
 refine QA fun e _=>?_
 obtain⟨a,b,_⟩:=ZiA n ks k f e
 simp only[Function.comp,a,b]
theorem ZhI:∀ (A B:List Zx),A.map (fun e=>(e.1,e.2.2.1[e.2.2.2]?))=B.map (fun e=>(e.1,e.2.2.1[e.2.2.2]?))→hdL A=hdL B
 | [],[],_=>rfl
 | [],_::_,h=>by cases h
 | _::_,[],h=>by cases h
 | a::A,b::B,h=>by
  rw[Qj,Qj]at h
  injection h with h1 h2
  injection h1 with h3 h4
  have ih:=ZhI A B h2
  funext n
  have ihn:=congrFun ih n
  unfold hdL at ihn ⊢
  rw[Q5,Q5,h3]
  split
  ·simp only[Option.bind_some];rw[h4]
  ·exact ihn
theorem Znn{L:List Zv}{n:Int}{ks:List Str}(h:∀x∈L,x.n=n→x.g<x.ss.length∨ks=[])(k f:Addr):hdM (Zbg L n ks k f)=hdM L:=by
 refine ZhI _ _ ?_
 unfold Zbg
 rw[Qi,Qi,Qi]
 refine QA fun x hx=>?_
 show ((Zb9 n ks k f x).n,(Zb9 n ks k f x).ss[(Zb9 n ks k f x).g]?)=(x.n,x.ss[x.g]?)
 unfold Zb9
 split
 ·rename_i e
  rcases h x hx e with z|z
  ·exact congrArg (Prod.mk x.n) (QM z)
  ·rw[z,QaI]
 ·rfl
theorem ZgE:∀ {P:List Zv},(P.map (·.n)).Nodup→∀ {p q:Zv},p∈P→q∈P→p.n=q.n→p=q
 | [],_,_,_,h,_,_=>by cases h
 | x::r,nd,p,q,hp,hq,e=>by
  rw[Qj,QR]at nd
  rcases QI.mp hp with h1|h1
  ·rcases QI.mp hq with h2|h2
   ·rw[h1,h2]
   ·exact absurd (show x.n∈r.map (·.n) by rw[← h1,e];exact Qd (f:=fun x:Zv=>x.n) h2) nd.1
  ·rcases QI.mp hq with h2|h2
   ·exact absurd (show x.n∈r.map (·.n) by rw[← h2,← e];exact Qd (f:=fun x:Zv=>x.n) h1) nd.1
   ·exact ZgE nd.2 h1 h2 e
theorem ZP.grow{cR cM:Addr}{H H':Hp}{m rd sd:Addr}{L:List Zv}{s:StL}{nb li lo:Int}{best:V}(M:ZP cR cM H m rd sd L s nb li lo best){e:Zv}(he:e∈L){ks:List Str}{k' f':Addr}(R:Zgi cR H' e.p k' f' (e.ss++ks) e.g)(hl:(e.ss++ks).length≤100)(hs:sortedS (e.ss++ks)=true)(hz:∀x∈e.ss++ks,x.length≤1000∧AZ x)
  (k:∀b o,H b=some o→b≠e.p→H' b=some o):ZP cR cM H' m rd sd (Zbg L e.n ks k' f') s nb li lo best:=by
 obtain⟨dx,hm⟩:=M.ob
 obtain⟨de,hde⟩:=(M.each e he).at'.ob
 refine⟨⟨dx,k _ _ hm (M.ne_p he).1⟩,by rw[ZmJ];exact k _ _ M.rows (M.ne_sd he).2.2.2.1,k _ _ M.stays (M.ne_sd he).1,fun x hx t ht=>?_,fun x hx=>?_,by rw[Zdd];exact M.up,?_,by unfold Zbg;rw[Qa];exact M.few,M.sfew⟩
 ·have h:=M.ats x hx t ht
  exact k _ _ h (fun z=>by rw[z,hde]at h;cases h)
 ·obtain⟨y,hy,rfl⟩:=Qn.mp hx
  by_cases hn:y.n=e.n
  ·have ey:y=e:=by
    have nd:=M.nd
    unfold Zz at nd
    exact ZgE nd hy he hn
   subst ey
   rw[show Zb9 y.n ks k' f' y=⟨y.n,y.p,k',f',y.ss++ks,y.g⟩ by unfold Zb9;rw[if_pos rfl]]
   exact⟨R,by show y.g≤(y.ss++ks).length;rw[Qf];have:=(M.each y hy).le;omega,hl,hs,hz⟩
  ·rw[show Zb9 e.n ks k' f' y=y by unfold Zb9;rw[if_neg hn]]
   have Ry:=M.each y hy
   have np:y.p≠e.p:=fun z=>hn (by
    have:=ZpV M.pd hy he z
    rw[this])
   obtain⟨dy,hdy⟩:=Ry.at'.ob
   have nk:y.k≠e.p:=fun z=>by have:=Ry.at'.ks;rw[z,hde]at this;cases this
   have nf:y.f≠e.p:=fun z=>by have:=Ry.at'.fs;rw[z,hde]at this;cases this
   exact⟨⟨⟨dy,k _ _ hdy np⟩,k _ _ Ry.at'.ks nk,k _ _ Ry.at'.fs nf⟩,Ry.le,Ry.len,Ry.srt,Ry.str⟩
 ·have:(Zbg L e.n ks k' f').map (·.p)=L.map (·.p):=by
   unfold Zbg
   rw[Qi]
   exact QA fun x _=>(ZiA _ _ _ _ x).2.1
  rw[this];exact M.pd
def Zn3(cR cM:Addr):Sp:=fun vs H Q _=>∃ (m rd sd:Addr) (L:List Zv) (s:StL) (nb li lo:Int) (w:Option Int) (e:Zv) (r:Addr) (ks:List Str),vs=[.ref m,.int e.n,.ref r]∧ZP cR cM H m rd sd L s nb li lo (Zce w)∧Win (hdM L) (Zz L) w∧ZR (hdM L) s (Zz L)∧e∈L∧H r=some (.lst (ks.map V.str))∧r≠e.p∧(e.ss++ks).length≤100∧sortedS (e.ss++ks)=true∧(∀x∈e.ss++ks,x.length≤1000∧AZ x) ∧
 ∀ (k' f' sd':Addr) (s':StL) (w':Option Int) (k q:Int) (H':Hp),H k'=none→H f'=none→(((e.g<e.ss.length∨ks=[])∧sd'=sd∧k=0∧q=0)∨(e.g=e.ss.length∧ks≠[]∧H sd'=none∧Zbx (hdM (Zbg L e.n ks k' f')) 8 (Zz L) k q))→Win (hdM (Zbg L e.n ks k' f')) (Zz L) w'→ZR (hdM (Zbg L e.n ks k' f')) s' (Zz L)→ZP cR cM H' m rd sd' (Zbg L e.n ks k' f') s' nb (li+k) (lo+q) (Zce w')→(∀b o,H b=some o→b≠m→b≠e.p→H' b=some o)→Q .non H'
theorem Zpx(T:Zaf K mg cRow cMerge)(f_Merge_row_of:Mf P w K mg base 1 cMerge "row_of" ["self", "n"] (ZiI cRow cMerge))(f_refuse_break:Df P w K mg base 5 "refuse_break" ["number", "keys"] (Zd8 K))(f_Row_head:Mf P w K mg base 2 cRow "head" ["self"] (ZeA cRow))(f_Row_lengthen:Mf P w K mg base 4 cRow "lengthen" ["self", "keys"] (ZgN cRow))(f_Merge_play_all:Mf P w K mg base 13 cMerge "play_all" ["self"] (Zc9 cRow cMerge)):Mf P w K mg base 14 cMerge "grow" ["self", "n", "keys"] (Zn3 cRow cMerge):=by
 refine T.t_Merge_grow.mf ZcU (fun vs H Q E h=>?_) (fun cdv fa A outer s H vs Q E hr h=>?_)
 ·obtain⟨m,rd,sd,L,s,nb,li,lo,w,e,r,ks,rfl,_⟩:=h
  rfl
 obtain⟨m,rd,sd,L,s,nb,li,lo',w0,e,r,ks,rfl,M,W,ok,he,hr0,nre,hl,hs,hz,q⟩:=h
 refine⟨_,#[Zf,#[Zw,3,ZcU.nd,(Or.inl rfl),#[ZcM,f_Merge_row_of,T.cl_Merge,hr,‹0›,#[Za,‹1›,#[Ze]]]],#[Zf,#[Zab,#[Zy,f_refuse_break,hr,#[Za,‹1›,#[Za,#[ZG,ZeG,#[ZO,‹3›],‹2›],#[Ze]]],(by rfl)]],#[Zf,#[Zw,4,ZcU.nd,(Or.inl rfl),#[Zbf,Zbq,#[Zay,f_Row_head,T.cl_Row,hr,‹3›],#[ZW],(Zp _)]],#[Zf,#[Zab,#[ZcM,f_Row_lengthen,T.cl_Row,hr,‹3›,#[Za,‹2›,#[Ze]]]],#[Zj,#[ZZ,(@PW.pt _ _ _ #[ZbC,#[ZcV,‹4›],#[Zbz,#[Zm,ZgM,#[Zk,(Zcj K),(by rfl),T.b.n_len,Qs,#[Za,‹2›,#[Ze]]],#[Zi],(Zp _)]]]),#[Zj,#[Zab,#[Zay,f_Merge_play_all,T.cl_Merge,hr,‹0›]]],#[ZE]]]]]]],?_⟩
 obtain⟨dx,hm⟩:=M.ob
 have Re:=M.each e he
 obtain⟨de,hde⟩:=Re.at'.ob
 have hll:e.ss.length+ks.length≤100:=by rw[Qf]at hl;exact hl
 refine⟨_,rfl,m,dx,_,rfl,hm,Ze7 ..,_,rfl,m,rd,sd,L,s,nb,li,lo',_,e,rfl,M,he,?_⟩
 refine⟨_,rfl,_,rfl,e.p,cRow,de,_,_,rfl,hde,T.cl_Row,T.na_Row_all_keys,Zck _ _ _,_,rfl,e.k,r,_,_,rfl,rfl,Re.at'.ks,hr0,(by rw[Qa,Qa];exact Za6 (by omega)),fun c hc=>?_⟩
 rw[← Qe]
 refine⟨e.n,c,e.ss++ks,rfl,SqL.of Zd,by omega,fun x hx=>(hz x hx).1,ZiK hs,fun H1 s1'=>?_⟩
 have s1:ZF H H1:=(Zh hc _).trans s1'
 have M1:=M.same s1
 have R1:=M1.each e he
 obtain⟨de1,hde1⟩:=R1.at'.ob
 refine⟨_,rfl,e.p,de1,_,rfl,hde1,Zba ..,e.p,e.k,e.f,e.ss,e.g,rfl,R1.at',rfl,?_⟩
 refine⟨_,rfl,e.p,de1,_,rfl,hde1,ZfY ..,_,rfl,e.p,e.k,e.f,r,e.ss,ks,e.g,rfl,R1.at',s1 _ _ hr0,hl,fun x hx=>(hz x hx).1,fun k' f' H2 hk' hf' R2 k2=>?_⟩
 have M2:=M1.grow he R2 hl hs hz k2
 have k02:∀b o,H b=some o→b≠e.p→H2 b=some o:=fun b o hb n=>k2 b o (s1 b o hb) n
 have hr2:=k02 _ _ hr0 nre
 have hcase:(e.g<e.ss.length∨ks=[])→Q .non H2:=fun hor=>by
  have eh:hdM (Zbg L e.n ks k' f')=hdM L:=Znn (fun x hx hn=>by rw[ZgE M.nd hx he hn];exact hor) k' f'
  refine q k' f' sd s w0 0 0 H2 (s1.free hk') (s1.free hf') (.inl ⟨hor,rfl,rfl,rfl⟩) (by rw[eh];exact W) (by rw[eh];exact ok) (by rw[QP,QP];exact M2) (fun b o hb n n'=>k02 b o hb n')
 refine⟨_,rfl,_,rfl,?_⟩
 by_cases hg:e.g<e.ss.length
 ·have hv:ZdH e.ss e.g=.str e.ss[e.g]:=ZdL (Qb hg)
  rw[hv]
  exact Zbl (by intro z;cases z) (hcase (.inl hg))
 ·have hv:ZdH e.ss e.g=.non:=by unfold ZdH;rw[QL (by omega)]
  rw[hv]
  refine Zcw rfl ?_
  refine⟨_,rfl,r,_,rfl,.inl (SqL.of hr2),_,_,rfl,rfl,_,rfl,ZaY (fun d=>?_) (fun d=>?_)⟩
  ·have d':(0:Int)<((ks.map V.str).length:Int):=of_decide_eq_true d
   rw[Qa]at d'
   have hks:ks≠[]:=fun z=>by rw[z]at d';exact absurd d' (by decide)
   obtain⟨dx2,hm2⟩:=M2.ob
   refine⟨_,rfl,m,dx2,_,rfl,hm2,ZbA ..,m,rd,sd,_,s,_,_,_,_,rfl,M2,fun sd' s' w1 k1 q1 H3 hsd' W3 S3 P3 M3 k3=>?_⟩
   rw[Zdd]at W3 S3 P3
   have ok3:=Zc5 8 (hdM (Zbg L e.n ks k' f')) s' (Zz L) M.up (Qy (show (Zz L).length≤60 by unfold Zz;rw[Qa];exact M.few) (by decide)) (by decide) S3
   have le:=Re.le
   have hsd0:H sd'=none:=by
    cases w':H sd' with
    | none=>rfl
    | some u =>
     by_cases z:sd'=e.p
     ·obtain⟨d2,hd2⟩:=R2.ob;rw[z,hd2]at hsd';cases hsd'
     ·rw[k02 _ _ w' z]at hsd';cases hsd'
   exact q k' f' sd' s' w1 k1 q1 H3 (s1.free hk') (s1.free hf') (.inr ⟨by omega,hks,hsd0,P3⟩) W3 ok3 M3 (fun b o hb n n'=>k3 b o (k02 b o hb n') n)
  ·have d':¬ (0:Int)<((ks.map V.str).length:Int):=fun z=>d (decide_eq_true z)
   rw[Qa]at d'
   exact hcase (.inr (List.length_eq_zero_iff.mp (by omega)))
def Zb0(L:List Zx)(n:Int):List Zx:=L.filter fun e=>decide (e.1≠n)
theorem ZnJ(L:List Zx)(n:Int):ZcJ (kvR L) (.inl n)=kvR (Zb0 L n):=by
 unfold ZcJ kvR Zb0
 rw[Qat]
 congr 1
 exact List.filter_congr fun e _=>decide_eq_decide.mpr ⟨fun h z=>h (by show (Sum.inl e.1:Key)=_;rw[z]),fun h z=>h (Sum.inl.inj z)⟩
theorem Zns(L:List Zx)(n:Int):ZcJ (kvG L) (.inl n)=kvG (Zb0 L n):=by
 unfold ZcJ kvG Zb0
 rw[Qat]
 congr 1
 exact List.filter_congr fun e _=>decide_eq_decide.mpr ⟨fun h z=>h (by show (Sum.inl e.1:Key)=_;rw[z]),fun h z=>h (Sum.inl.inj z)⟩
theorem Own.drop{H:Hp}{o ra ga:Addr}{L:List Zx}{nb li lo:Int}(h:Own H o ra ga L nb li lo)(nga:ga≠ra)(n:Int):Own (upd (upd H ra (.dK (kvR (Zb0 L n)))) ga (.dK (kvG (Zb0 L n)))) o ra ga (Zb0 L n) nb li lo:=by
 obtain⟨n1,n2⟩:=h.ne
 refine⟨by rw[Zb n2.symm,Zb n1.symm];exact h.at',by rw[Zb nga.symm];exact Zd,Zd,h.nd.sublist (Qa2 _ Qaf),Qy (Q7 ..) h.few,fun e he=>?_⟩
 have he':=(Qac.mp he).1
 obtain⟨a,b⟩:=h.lst e he'
 obtain⟨_,x2,x3⟩:=h.ne_l he'
 exact⟨by rw[Zb x3,Zb x2];exact a,b⟩
def Zcx(n:Int)(ks:List Str)(r:Addr)(x:Zx):Zx:=if x.1=n then (x.1,r,x.2.2.1++ks,x.2.2.2) else x
def Zbt(L:List Zx)(n:Int)(ks:List Str)(r:Addr):List Zx:=L.map (Zcx n ks r)
theorem Zi7(n:Int)(ks:List Str)(r:Addr)(x:Zx):(Zcx n ks r x).1=x.1∧(Zcx n ks r x).2.2.2=x.2.2.2:=by unfold Zcx;split<;>exact⟨rfl,rfl⟩
theorem Zig(L:List Zx)(n:Int)(ks:List Str)(r:Addr):(Zbt L n ks r).map (·.1)=L.map (·.1):=by
 unfold Zbt
 rw[Qi]
 exact QA fun e _=>(Zi7 n ks r e).1
theorem Zn6(L:List Zx)(n:Int)(ks:List Str)(r:Addr):kvG (Zbt L n ks r)=kvG L:=by
 unfold kvG Zbt
 rw[Qi]
 refine QA fun e _=>?_
 obtain⟨a,b⟩:=Zi7 n ks r e
 simp only[Function.comp,a,b]
theorem Zn1{L:List Zx}{e:Zx}(he:e∈L)(ks:List Str)(r:Addr):Zbi (kvR L) (.inl e.1) (.ref r)=kvR (Zbt L e.1 ks r):=by
 unfold Zbi
 rw[if_pos]
 ·unfold kvR Zbt
  rw[Qi,Qi]
  refine QA fun x hx=>?_
  simp only[Function.comp]
  unfold Zcx
  by_cases h:x.1=e.1
  ·rw[if_pos (by rw[h]),if_pos h]
  ·rw[if_neg (fun z=>h (Sum.inl.inj z)),if_neg h]
 ·exact Qaq.mpr ⟨_,Qd (f:=fun e:Zx=>((.inl e.1:Key),V.ref e.2.1)) he,decide_eq_true rfl⟩
theorem Own.grow{H:Hp}{o ra ga:Addr}{L:List Zx}{nb li lo:Int}(h:Own H o ra ga L nb li lo)(nga:ga≠ra){e:Zx}(he:e∈L){ks:List Str}{r:Addr}(hr:H r=some (.lst ((e.2.2.1++ks).map V.str)))(hl:(e.2.2.1++ks).length≤100)(hz:∀x∈e.2.2.1++ks,x.length≤1000∧AZ x):Own (upd H ra (.dK (kvR (Zbt L e.1 ks r)))) o ra ga (Zbt L e.1 ks r) nb li lo:=by
 obtain⟨n1,n2⟩:=h.ne
 refine⟨by rw[Zb n1.symm];exact h.at',Zd,by rw[Zb nga,Zn6];exact h.gone,by rw[Zig];exact h.nd,by unfold Zbt;rw[Qa];exact h.few,fun x hx=>?_⟩
 obtain⟨y,hy,rfl⟩:=Qn.mp hx
 obtain⟨a1,a2,a3,a4⟩:=h.lst y hy
 by_cases hn:y.1=e.1
 ·have ey:y=e:=ZbP h.nd hy he hn
  subst ey
  rw[show Zcx y.1 ks r y=(y.1,r,y.2.2.1++ks,y.2.2.2) by unfold Zcx;rw[if_pos rfl]]
  refine⟨?_,hl,by show y.2.2.2≤(y.2.2.1++ks).length;rw[Qf];omega,hz⟩
  show (upd H ra _) r=_
  rw[Zb (fun z=>by rw[z,h.rows]at hr;cases hr)];exact hr
 ·rw[show Zcx e.1 ks r y=y by unfold Zcx;rw[if_neg hn]]
  exact⟨by rw[Zb (h.ne_l hy).2.1];exact a1,a2,a3,a4⟩
theorem ZmP{Lo:List Zx}{L:List Zv}(h:Agr Lo L)(n:Int):Agr (Zb0 Lo n) (Zbh L n):=by
 unfold Agr Zb0 Zbh at *
 have:=congrArg (List.filter fun x:Zak=>decide (x.1≠n)) h
 rw[Qat,Qat]at this
 exact this
theorem ZnG{Lo:List Zx}{L:List Zv}(h:Agr Lo L)(n:Int)(ks:List Str)(r k f:Addr):Agr (Zbt Lo n ks r) (Zbg L n ks k f):=by
 unfold Agr Zbt Zbg at *
 have:=congrArg (List.map fun x:Zak=>if x.1=n then (x.1,x.2.1++ks,x.2.2) else x) h
 rw[Qi,Qi]at this
 rw[Qi,Qi]
 refine(QA fun e _=>?_).trans (this.trans (QA fun e _=>?_))
 ·simp only[Function.comp];unfold Zcx;split<;>rfl
 ·simp only[Function.comp];unfold Zb9;split<;>rfl
theorem ZkW{Lo:List Zx}{L:List Zv}(h:Agr Lo L){e:Zv}(he:e∈L):∃eo∈Lo,eo.1=e.n∧eo.2.2=(e.ss,e.g):=by
 have:(e.n,(e.ss,e.g))∈Lo.map (fun e=>(e.1,e.2.2)):=by rw[h];exact Qd (f:=fun e:Zv=>(e.n,(e.ss,e.g))) he
 obtain⟨eo,h1,h2⟩:=Qn.mp this
 injection h2 with h3 h4
 exact⟨eo,h1,h3,h4⟩
inductive ZgF where
 | add|drop|grow
def ZgF.word:ZgF→Str
 | .add => "add"
 | .drop => "drop"
 | .grow => "grow"
def ZgF.nb(nb:Int):ZgF→Int
 | .add=>nb+1
 | _=>nb
def Zml(P:List Zak)(n:Int)(ks:List Str):ZgF→List Zak
 | .add=>P++[(n,ks,0)]
 | .drop=>P.filter fun x=>decide (x.1≠n)
 | .grow=>P.map fun x=>if x.1=n then (x.1,x.2.1++ks,x.2.2) else x
def Zn8(P:List Zak)(nb n:Int)(ks:List Str):ZgF→Prop
 | .add=>n=nb∧(∀x∈P,x.1<nb)∧P.length<16∧sortedS ks=true∧ks.length≤100
 | .drop=>∃x∈P,x.1=n
 | .grow=>∃x∈P,x.1=n∧sortedS (x.2.1++ks)=true∧(x.2.1++ks).length≤100
def ZqF(cR cM:Addr):Sp:=fun vs H Q _=>∃ (X:MS) (Y:OS) (t r:Addr) (d:ZgF) (n:Int) (ks:List Str),vs=[.ref X.m,.ref Y.o,.ref t]∧Zd6 cR cM H X Y∧Y.ga≠Y.ra∧X.nb=Y.nb∧H t=some (.tup [.str d.word,.int n,.ref r])∧H r=some (.lst (ks.map V.str))∧¬ MFp X r∧¬ ZV Y r∧(∀x∈ks,x.length≤1000∧AZ x)∧ks.length≤100∧Zn8 (Z5 X.L) X.nb n ks d ∧
 ∀ (X':MS) (Y':OS) (H':Hp),Zd6 cR cM H' X' Y'→X'.m=X.m→Y'.o=Y.o→Y'.ga≠Y'.ra→X'.nb=Y'.nb→X'.nb=d.nb X.nb→Z5 X'.L=Zml (Z5 X.L) n ks d→(∀b,MFp X' b→MFp X b∨H b=none)→(∀b,ZV Y' b→ZV Y b∨H b=none)→(∀b u,H b=some u→¬ MFp X b→¬ ZV Y b→H' b=some u)→Q (.bl true) H'
theorem Zfu{cR cM:Addr}{H H1 H2:Hp}{X:MS}{Y:OS}(pr:Zd6 cR cM H X Y){Lo':List Zx}{nb' nbm k q k' q':Int}{sd':Addr}{L':List Zv}{s':StL}{w':Option Int}(ow1:Own H1 Y.o Y.ra Y.ga Lo' nb' (X.li+k) (X.lo+q))(kO:∀b u,H b=some u→¬ ZV Y b→H1 b=some u)(hv:∀b u,H b=some u→H1 b≠none)(ownE:∀b,ZV ⟨Y.o,Y.ra,Y.ga,Lo',nb'⟩ b→ZV Y b∨H b=none)
  (M2:ZP cR cM H2 X.m X.rd sd' L' s' nbm (X.li+k') (X.lo+q') (Zce w')) (W2:Win (hdM L') (Zz L') w') (ok2:ZR (hdM L') s' (Zz L')) (kM:∀b u,H1 b=some u→¬ MFp X b→H2 b=some u) (mfE:∀b,Fp X.m X.rd sd' L' b→MFp X b∨H1 b=none) (ag:Agr Lo' L') (ek:k=k') (eq:q=q') :
  Zd6 cR cM H2 ⟨X.m,X.rd,sd',L',s',nbm,X.li+k,X.lo+q,w'⟩ ⟨Y.o,Y.ra,Y.ga,Lo',nb'⟩∧(∀b,MFp ⟨X.m,X.rd,sd',L',s',nbm,X.li+k,X.lo+q,w'⟩ b→MFp X b∨H b=none)∧(∀b u,H b=some u→¬ MFp X b→¬ ZV Y b→H2 b=some u):=by
 subst ek
 subst eq
 have nM:∀b,ZV ⟨Y.o,Y.ra,Y.ga,Lo',nb'⟩ b→¬ MFp X b:=fun b hb hm=>by
  rcases ownE b hb with z|z
  ·exact pr.sep b hm z
  ·obtain⟨u,hu,_⟩:=pr.mg.M.fp_live hm
   rw[z]at hu;cases hu
 refine⟨⟨⟨M2,W2,ok2⟩,ow1.keep fun b u hb ho=>kM b u hb (nM b ho),ag,fun b hb ho=>?_⟩,fun b hb=>?_,fun b u hb n n'=>kM b u (kO b u hb n') n⟩
 ·rcases mfE b hb with z|z
  ·exact nM b ho z
  ·obtain⟨u,hu,_⟩:=ow1.live ho
   rw[z]at hu;cases hu
 ·rcases mfE b hb with z|z
  ·exact .inl z
  ·cases e:H b with
   | none=>exact .inr rfl
   | some u=>exact absurd z (hv b u e)
theorem Zd6.nO{cR cM:Addr}{H:Hp}{X:MS}{Y:OS}(pr:Zd6 cR cM H X Y){b:Addr}{u:HO}(hb:H b=some u)(hor:MFp X b∨∃xs,u=.tup xs):¬ ZV Y b:=fun z=>by
 rcases hor with hm'|⟨xs,rfl⟩
 ·exact pr.sep b hm' z
 ·obtain⟨u',hu',hn⟩:=pr.ow.live z
  rw[hb]at hu';cases hu';exact hn xs rfl
theorem Zmx(ks:List Str):PyData.eqv (.list (ks.map PyData.str)) (.list [])=decide (ks=[]):=by
 cases ks with
 | nil=>simp[PyData.eqv,PyData.eqvAll]
 | cons a r=>simp[PyData.eqv,PyData.eqvAll]
theorem Zkr(rd:Addr)(nb li lo:Int)(sd:Addr)(best:V):(mgF rd nb li lo sd best).lookup ("drop_row" : Str)=none:=Za8 _ _ _ _ _ _ (by decide +kernel) (by decide +kernel) (by decide +kernel) (by decide +kernel) (by decide +kernel) (by decide +kernel)
theorem Zku(rd:Addr)(nb li lo:Int)(sd:Addr)(best:V):(mgF rd nb li lo sd best).lookup ("grow" : Str)=none:=Za8 _ _ _ _ _ _ (by decide +kernel) (by decide +kernel) (by decide +kernel) (by decide +kernel) (by decide +kernel) (by decide +kernel)
theorem Zmv(T:Zaf K mg cRow cMerge)(f_l_same:Df P w K mg base 5 "_law_same" ["_law_found", "_law_due"] (Zio 4))(f_l_play:Df P w K mg base 10 "_law_play" ["_law_own"] ZiQ)(f_Merge_add_row:Mf P w K mg base 14 cMerge "add_row" ["self", "row"] (Zjz K cRow cMerge))(f_Merge_drop_row:Mf P w K mg base 14 cMerge "drop_row" ["self", "n"] (Zhz cRow cMerge))(f_Merge_grow:Mf P w K mg base 14 cMerge "grow" ["self", "n", "keys"] (Zn3 cRow cMerge)):Df P w K mg base 15 "_law_done" ["_law_merge", "_law_own", "_law_deed"] (ZqF cRow cMerge):=by
 refine T.t_l_done.df ZbH (fun vs H Q E h=>?_) (fun cdv f A outer s H vs Q E hr h=>?_)
 ·obtain⟨X,Y,t,r,d,n,ks,rfl,_⟩:=h
  rfl
 obtain⟨X,Y,t,r,d,n,ks,rfl,pr,nga,hnb,ht,hr0,nMr,nOr,hks,hl100,hd,q⟩:=h
 refine⟨_,#[Zf,#[Z3,‹2›,#[gT,K,3,#[ZB,#[ZD,3,ZbH.nd,(Or.inl rfl)],#[ZB,#[ZD,4,ZbH.nd,(Or.inl rfl)],#[ZB,#[ZD,5,ZbH.nd,(Or.inl rfl)],(@ZaG _)]]]]],#[Zf,#[Zw,6,ZbH.nd,(Or.inl rfl),#[ZaR,(Zh9 K),T.b.n_list,boot_list,#[Za,‹5›,#[Ze]]]],#[Zf,#[ZZ,#[Zm,Za1,‹3›,#[ZA],(Zp _)],#[Zf,#[Z3,#[ZaR,(Zh9 K),T.b.n_list,boot_list,#[Za,‹5›,#[Ze]]],#[ZaQ,#[Zo,(ixG hr),‹1›,#[ZA]],‹4›,(ZdK hr)]],#[Zf,#[Z3,#[Zi],#[ZaQ,#[Zo,(ixG hr),‹1›,#[ZA]],‹4›,(ZdK hr)]],#[Zf,#[Z3,#[ZG,Z8,‹4›,#[Zi]],#[ZaQ,‹1›,#[ZA],(ZdK hr)]],#[Zf,#[Zab,#[Zy,f_l_play,hr,#[Za,‹1›,#[Ze]],(by rfl)]],#[Zj,#[Zs,#[ZeQ,#[Zy,f_l_same,hr,#[Za,#[ZcM,f_Merge_add_row,T.cl_Merge,hr,‹0›,#[Za,‹5›,#[Ze]]],#[Za,‹4›,#[Ze]]],(by rfl)],(@Zfp _ _ _ _ _ #[Zbf,(@eqD _ K _ hr (by rfl)),‹5›,‹6›,(Zp _)])]]]]]]],#[ZE]],#[Zf,#[ZZ,#[Zm,Za1,‹3›,#[ZA],(Zp _)],#[Zf,#[Zw,7,ZbH.nd,(Or.inl rfl),#[ZG,Zey,#[Zk,(Zcj K),(by rfl),T.b.n_len,Qs,#[Za,#[Zd7,QV,Qax,PySem.F.type_dict_pop,ZiG,#[Zo,(ixG hr),‹1›,#[ZA]],#[Za,‹4›,#[Ze]]],#[Ze]]],#[Zd7,QV,Qax,PySem.F.type_dict_pop,ZiG,#[Zo,(ixG hr),‹1›,#[ZA]],#[Za,‹4›,#[Ze]]]]],#[Zf,#[Zab,#[Zy,f_l_play,hr,#[Za,‹1›,#[Ze]],(by rfl)]],#[Zj,#[Zs,#[Zy,f_l_same,hr,#[Za,#[ZcM,f_Merge_drop_row,T.cl_Merge,hr,‹0›,#[Za,‹4›,#[Ze]]],#[Za,‹7›,#[Ze]]],(by rfl)]]]]],#[ZE]],#[Zf,#[Zw,8,ZbH.nd,(Or.inl rfl),#[Zbf,Za1,#[Zk,(Zcj K),(by rfl),T.b.n_len,Qs,#[Za,#[Zo,(ixG hr),#[Zo,(ixG hr),‹1›,#[ZA]],‹4›],#[Ze]]],#[Zo,(ixG hr),#[Zo,(ixG hr),‹1›,#[ZA]],‹4›],(Zp _)]],#[Zf,#[Z3,#[ZG,ZeG,#[Zo,(ixG hr),#[Zo,(ixG hr),‹1›,#[ZA]],‹4›],#[ZaR,(Zh9 K),T.b.n_list,boot_list,#[Za,‹5›,#[Ze]]]],#[ZaQ,#[Zo,(ixG hr),‹1›,#[ZA]],‹4›,(ZdK hr)]],(@Zff _ _ _ _ _ #[ZZ,(@PW.pt _ _ _ #[ZbC,#[ZcV,‹8›],#[Zbz,#[Zm,(@neD _ K _ hr (by rfl)),‹5›,#[Zax,#[Ze]],(Zp _)]]]),#[Zj,#[Zab,#[Zy,f_l_play,hr,#[Za,‹1›,#[Ze]],(by rfl)]]],#[ZE]] #[Zj,#[Zs,#[ZeQ,#[Zbf,Zbq,#[ZcM,f_Merge_grow,T.cl_Merge,hr,‹0›,#[Za,‹4›,#[Za,‹5›,#[Ze]]]],#[ZW],(Zp _)],(@Zfp _ _ _ _ _ #[Zbf,(@eqD _ K _ hr (by rfl)),‹5›,‹6›,(Zp _)])]]])]]]]]],?_⟩
 refine⟨_,rfl,t,_,rfl,SqT.of ht,rfl,_,_,rfl,_,_,rfl,_,_,rfl,rfl,?_⟩
 refine⟨_,rfl,r,_,rfl,.inl (SqL.of hr0),fun kp hkp=>?_⟩
 have skp:=Zh hkp (.lst (ks.map V.str))
 have hkp1:(upd H kp (.lst (ks.map V.str))) kp=some (.lst (ks.map V.str)):=Zd
 have pr1:=pr.same skp
 have hr1:=skp _ _ hr0
 have nOk:¬ ZV Y kp:=fun z=>by
  obtain⟨u,hu,_⟩:=pr.ow.live z
  rw[hkp]at hu;cases hu
 have nMk:¬ MFp X kp:=pr.mg.M.fp_fresh hkp
 generalize upd H kp (.lst (ks.map V.str))=H1 at skp hkp1 pr1 hr1 ⊢
 have ow1:=pr1.ow
 obtain⟨n1,n2⟩:=ow1.ne
 have hLoL:Y.Lo.length=X.L.length:=by have:=congrArg List.length (Zbn pr.ag);unfold Zz at this;rw[Qa,Qa]at this;exact this
 have hfew:=pr.ow.few
 have hszR:(kvR Y.Lo).length<sizeLine:=by unfold kvR;rw[Qa];exact ZC (by omega)
 have hszG:(kvG Y.Lo).length<sizeLine:=by unfold kvG;rw[Qa];exact ZC (by omega)
 have azs:∀x∈ks,AZ x:=fun x hx=>(hks x hx).2
 have hrise:(Y.Lo.map (·.1)).Pairwise (·<·):=by rw[Zbn pr.ag];exact pr.mg.M.up
 have fin:∀ {X':MS} {Y':OS} {H9:Hp},(∀b u,H b=some u→¬ MFp X b→¬ ZV Y b→H9 b=some u)→Zd6 cRow cMerge H9 X' Y'→X'.m=X.m→Y'.o=Y.o→Y'.ga≠Y'.ra→X'.nb=Y'.nb→X'.nb=d.nb X.nb→Z5 X'.L=Zml (Z5 X.L) n ks d→(∀b,MFp X' b→MFp X b∨H1 b=none)→(∀b,ZV Y' b→ZV Y b∨H1 b=none)→Q (.bl true) H9:=fun k9 p9 a b c d' e f' g h=>q _ _ _ p9 a b c d' e f' (fun b hb=>(g b hb).imp id fun z=>skp.free z) (fun b hb=>(h b hb).imp id fun z=>skp.free z) k9
 cases d with
 | add =>
  obtain⟨rfl,hlt,h16,hsr,_⟩:=hd
  have hltL:∀e∈X.L,e.n<X.nb:=fun e he=>hlt _ (Qd (f:=fun e:Zv=>(e.n,(e.ss,e.g))) he)
  have h16':X.L.length<16:=by unfold Z5 at h16;rw[Qa]at h16;exact h16
  have hLoN:∀e∈Y.Lo,e.1<X.nb:=fun e he=>by
   have:e.1∈Zz X.L:=by rw[← Zbn pr.ag];exact Qd (f:=fun e:Zx=>e.1) he
   obtain⟨e',he',z⟩:=Qn.mp this
   rw[← z];exact hltL e' he'
  refine⟨_,rfl,rfl,_,rfl,Zcw rfl ?_⟩
  refine⟨_,rfl,r,_,rfl,.inl (SqL.of hr1),fun c hc=>?_⟩
  have sc:=Zh hc (.lst (ks.map V.str))
  have hc2:(upd H1 c (.lst (ks.map V.str))) c=some (.lst (ks.map V.str)):=Zd
  have pr2:=pr1.same sc
  have nOc:¬ ZV Y c:=fun z=>by
   obtain⟨u,hu,_⟩:=ow1.live z
   rw[hc]at hu;cases hu
  have free2:∀b,(upd H1 c (.lst (ks.map V.str))) b=none→H1 b=none:=fun b hb=>sc.free hb
  generalize upd H1 c (.lst (ks.map V.str))=H2 at sc hc2 pr2 free2 ⊢
  have ow2:=pr2.ow
  refine⟨_,rfl,Y.o,_,rfl,ZN.k' (k:=.inr "rows") ow2.at' (ZaS ..),_,rfl,Y.ra,_,rfl,ZbW.k (k:=.inl X.nb) ow2.rows hszR,?_⟩
  rw[ZbV _ (Zm9 hLoN),← ZoQ Y.Lo (X.nb,c,ks,0)]
  refine⟨_,rfl,Y.o,_,rfl,ZN.k' (k:=.inr "gone") (by rw[Zb n1.symm];exact ow2.at') (ZbY ..),_,rfl,Y.ga,_,rfl,ZbW.k (k:=.inl X.nb) (by rw[Zb nga];exact ow2.gone) hszG,?_⟩
  rw[ZbV _ (ZmA hLoN),show kvG Y.Lo++[((.inl X.nb:Key),V.int 0)]=kvG (Y.Lo++[(X.nb,c,ks,0)]) from(Zou Y.Lo (X.nb,c,ks,0)).symm]
  refine⟨_,rfl,_,_,rfl,rfl,_,rfl,Y.o,_,rfl,ZbW.k (k:=.inr "number") (by rw[Zb n2.symm,Zb n1.symm];exact ow2.at') (ZC (by simp[Zav])),?_⟩
  rw[Zjo]
  rw[← hnb]at ow2
  have ow3:=ow2.add nga hLoN (by omega) hc2 hl100 hks
  have k3:∀b u,H2 b=some u→¬ ZV Y b→(upd (upd (upd H2 Y.ra (.dK (kvR (Y.Lo++[(X.nb,c,ks,0)])))) Y.ga (.dK (kvG (Y.Lo++[(X.nb,c,ks,0)])))) Y.o (.dK (Zav Y.ra Y.ga (X.nb+1) X.li X.lo))) b=some u:=fun b u hb nO=>by
   rw[Zb (fun z=>nO (.inl z)),Zb (fun z=>nO (.inr (.inr (.inl z)))),Zb (fun z=>nO (.inr (.inl z)))]
   exact hb
  generalize upd (upd (upd H2 Y.ra (.dK (kvR (Y.Lo++[(X.nb,c,ks,0)])))) Y.ga (.dK (kvG (Y.Lo++[(X.nb,c,ks,0)])))) Y.o (.dK (Zav Y.ra Y.ga (X.nb+1) X.li X.lo))=H3 at ow3 k3 ⊢
  have hri3:((Y.Lo++[((X.nb,c,ks,0):Zx)]).map (fun e:Zx=>e.1)).Pairwise (·<·):=by
   rw[Qe]
   refine List.pairwise_append.mpr ⟨hrise,List.pairwise_singleton ..,fun x hx y hy=>?_⟩
   obtain⟨e,he,rfl⟩:=Qn.mp hx
   have:y=X.nb:=by simpa using hy
   rw[this];exact hLoN e he
  refine⟨_,rfl,Y.o,Y.ra,Y.ga,_,_,_,_,rfl,ow3,hri3,fun e he=>(ow3.ne_l he).1,fun k6 q6 H4 pl4 ow4 b4=>?_⟩
  have kO:∀b u,H1 b=some u→¬ ZV Y b→H4 b=some u:=fun b u hb nO=>b4 b u (k3 b u (sc b u hb) nO) (fun z=>nO (.inl z))
  have mg4:MOk cRow cMerge H4 X:=pr1.mg.keep fun b u hb hor=>kO b u hb (pr1.nO hb hor)
  have hr4:=kO _ _ hr1 nOr
  obtain⟨dx4,hm4⟩:=mg4.M.ob
  refine⟨_,rfl,X.m,dx4,_,rfl,hm4,Zl3 ..,_,rfl,X.m,X.rd,X.sd,X.L,X.s,X.nb,X.li,X.lo,_,r,ks,rfl,mg4.M,hltL,h16',hr4,hl100,hks,hsr,fun ne sd' s' w' k7 q7 H5 en ess eg hp5 hk5 hf5 hsd5 W5 S5 P5 M5 k5=>?_⟩
  refine⟨_,rfl,.int X.nb,.int X.nb,rfl,Za4 _,fun H6 s6=>⟨_,rfl,Zfx ?_⟩⟩
  have kM:∀b u,H4 b=some u→¬ MFp X b→H5 b=some u:=fun b u hb nM=>k5 b u hb (fun z=>nM (.inl z)) (fun z=>nM (.inr (.inl z)))
  have hr6:=s6 _ _ (kM _ _ hr4 nMr)
  have hk6:=s6 _ _ (kM _ _ (kO _ _ hkp1 nOk) nMk)
  refine⟨_,rfl,_,rfl,.list (ks.map PyData.str),.list (ks.map PyData.str),.lst (SqL.of hr6) (Zdu ks),.lst (SqL.of hk6) (Zdu ks),Zbw ks azs,Zbw ks azs,?_⟩
  rw[if_neg Qk,Zid]
  have ag1:Agr (Y.Lo++[((X.nb,c,ks,0):Zx)]) (X.L++[ne]):=by
   show pur (Y.Lo++[((X.nb,c,ks,0):Zx)])=Z5 (X.L++[ne])
   have h0:pur Y.Lo=Z5 X.L:=pr.ag
   unfold pur Z5 at h0 ⊢
   rw[Qe,Qe,h0,List.map_singleton,List.map_singleton,en,ess,eg]
  obtain⟨ek6,eq6⟩:=pl4.one (by rw[Zgy ag1,Zbn ag1];exact P5)
  have ok5:=Zc5 8 (hdM (X.L++[ne])) s' (Zz (X.L++[ne])) M5.up (Qy (show (Zz (X.L++[ne])).length≤60 by unfold Zz;rw[Qa];exact M5.few) (by decide)) (by decide) S5
  have ownE:∀b,ZV ⟨Y.o,Y.ra,Y.ga,Y.Lo++[((X.nb,c,ks,0):Zx)],X.nb+1⟩ b→ZV Y b∨H1 b=none:=fun b hb=>by
   rcases hb with z|z|z|⟨e,he,z⟩
   ·exact .inl (.inl z)
   ·exact .inl (.inr (.inl z))
   ·exact .inl (.inr (.inr (.inl z)))
   ·rcases Qm.mp he with he|he
    ·exact .inl (.inr (.inr (.inr ⟨e,he,z⟩)))
    ·rw[Qo.mp he]at z
     exact .inr (by rw[z];exact hc)
  have hv:∀b u,H1 b=some u→H4 b≠none:=fun b u hb hn=>by
   by_cases z:ZV Y b
   ·obtain⟨u',hu',_⟩:=ow4.live (b:=b) (by
     rcases z with z|z|z|⟨e,he,z⟩
     ·exact .inl z
     ·exact .inr (.inl z)
     ·exact .inr (.inr (.inl z))
     ·exact .inr (.inr (.inr ⟨e,QJ _ he,z⟩)))
    rw[hn]at hu';cases hu'
   ·rw[kO b u hb z]at hn;cases hn
  have mfE:∀b,Fp X.m X.rd sd' (X.L++[ne]) b→MFp X b∨H4 b=none:=fun b hb=>by
   rcases hb with z|z|z|⟨e,he,z⟩
   ·exact .inl (.inl z)
   ·exact .inl (.inr (.inl z))
   ·exact .inr (by rw[z];exact hsd5)
   ·rcases Qm.mp he with he|he
    ·exact .inl (.inr (.inr (.inr ⟨e,he,z⟩)))
    ·rw[Qo.mp he]at z
     rcases z with z|z|z
     ·exact .inr (by rw[z];exact hp5)
     ·exact .inr (by rw[z];exact hk5)
     ·exact .inr (by rw[z];exact hf5)
  obtain⟨p5,f5,k15⟩:=Zfu pr1 ow4 kO hv ownE M5 W5 ok5 kM mfE ag1 ek6 eq6
  refine fin (fun b u hb n n'=>s6 _ _ (k15 b u (skp _ _ hb) n n')) (p5.same s6) rfl rfl nga rfl rfl ?_ f5 ownE
  show Z5 (X.L++[ne])=Z5 X.L++[(X.nb,ks,0)]
  unfold Z5
  rw[Qe,List.map_singleton,en,ess,eg]
 | drop =>
  obtain⟨x,hx,hxn⟩:=hd
  obtain⟨e,he,rfl⟩:=Qn.mp hx
  have hxn':e.n=n:=hxn
  subst hxn'
  obtain⟨eo,heo,e1,e2⟩:=ZkW pr.ag he
  obtain⟨lo1,_,_,_⟩:=ow1.lst eo heo
  have hvR:Z2 (kvR Y.Lo) (.inl e.n)=some (.ref eo.2.1):=by rw[← e1];exact Zhc ow1.nd heo
  have hvG:Z2 (kvG Y.Lo) (.inl e.n)=some (.int (eo.2.2.2:Int)):=by rw[← e1];exact Zg8 ow1.nd heo
  refine⟨_,rfl,rfl,_,rfl,Zbl (by intro z;injection z with z;exact absurd z (by decide +kernel)) ?_⟩
  refine⟨_,rfl,rfl,_,rfl,Zcw rfl ?_⟩
  refine⟨_,rfl,Y.o,_,rfl,ZN.k' (k:=.inr "rows") ow1.at' (ZaS ..),.inr (.inr (.inl ⟨rfl,.inl ⟨_,ow1.rows⟩⟩)),_,rfl,Y.ra,_,.inl e.n,_,rfl,rfl,ow1.rows,hvR,?_⟩
  rw[ZnJ]
  refine⟨eo.2.1,_,rfl,.inl (SqL.of (by rw[Zb (ow1.ne_l heo).2.1];exact lo1)),?_⟩
  refine⟨_,rfl,Y.o,_,rfl,ZN.k' (k:=.inr "gone") (by rw[Zb n1.symm];exact ow1.at') (ZbY ..),.inr (.inr (.inl ⟨rfl,.inl ⟨_,by rw[Zb nga];exact ow1.gone⟩⟩)),_,rfl,Y.ga,_,.inl e.n,_,rfl,rfl,(by rw[Zb nga];exact ow1.gone),hvG,?_⟩
  rw[Zns]
  refine⟨_,_,rfl,rfl,?_⟩
  have ow3:=ow1.drop nga e.n
  have k3:∀b u,H1 b=some u→¬ ZV Y b→(upd (upd H1 Y.ra (.dK (kvR (Zb0 Y.Lo e.n)))) Y.ga (.dK (kvG (Zb0 Y.Lo e.n)))) b=some u:=fun b u hb nO=>by
   rw[Zb (fun z=>nO (.inr (.inr (.inl z)))),Zb (fun z=>nO (.inr (.inl z)))]
   exact hb
  have v3:∀b u,H1 b=some u→(upd (upd H1 Y.ra (.dK (kvR (Zb0 Y.Lo e.n)))) Y.ga (.dK (kvG (Zb0 Y.Lo e.n)))) b≠none:=fun b u hb hn=>by
   by_cases z:b=Y.ga
   ·rw[z,Zd]at hn;cases hn
   ·rw[Zb z]at hn
    by_cases z':b=Y.ra
    ·rw[z',Zd]at hn;cases hn
    ·rw[Zb z',hb]at hn;cases hn
  generalize upd (upd H1 Y.ra (.dK (kvR (Zb0 Y.Lo e.n)))) Y.ga (.dK (kvG (Zb0 Y.Lo e.n)))=H3 at ow3 k3 v3 ⊢
  have hri3:((Zb0 Y.Lo e.n).map (fun e:Zx=>e.1)).Pairwise (·<·):=hrise.sublist (Qa2 _ Qaf)
  refine⟨_,rfl,Y.o,Y.ra,Y.ga,_,_,_,_,rfl,ow3,hri3,fun e he=>(ow3.ne_l he).1,fun k6 q6 H4 pl4 ow4 b4=>?_⟩
  have kO:∀b u,H1 b=some u→¬ ZV Y b→H4 b=some u:=fun b u hb nO=>b4 b u (k3 b u hb nO) (fun z=>nO (.inl z))
  have mg4:MOk cRow cMerge H4 X:=pr1.mg.keep fun b u hb hor=>kO b u hb (pr1.nO hb hor)
  obtain⟨dx4,hm4⟩:=mg4.M.ob
  refine⟨_,rfl,X.m,dx4,_,rfl,hm4,Zkr ..,_,rfl,X.m,X.rd,X.sd,X.L,X.s,X.nb,X.li,X.lo,_,e,rfl,mg4.M,he,fun sd' s' w' k7 q7 H5 hsd5 W5 S5 P5 M5 k5=>?_⟩
  refine⟨_,rfl,_,_,rfl,(by rw[e2,Qa];exact Za4 _),fun H6 s6=>?_⟩
  have kM:∀b u,H4 b=some u→¬ MFp X b→H5 b=some u:=fun b u hb nM=>k5 b u hb (fun z=>nM (.inl z)) (fun z=>nM (.inr (.inl z)))
  have ag1:=ZmP pr.ag e.n
  obtain⟨ek6,eq6⟩:=pl4.one (by rw[Zgy ag1,Zbn ag1];exact P5)
  have ok5:=Zc5 8 (hdM (Zbh X.L e.n)) s' (Zz (Zbh X.L e.n)) M5.up (Qy (show (Zz (Zbh X.L e.n)).length≤60 by unfold Zz;rw[Qa];exact M5.few) (by decide)) (by decide) S5
  have ownE:∀b,ZV ⟨Y.o,Y.ra,Y.ga,Zb0 Y.Lo e.n,Y.nb⟩ b→ZV Y b∨H1 b=none:=fun b hb=>.inl (by
   rcases hb with z|z|z|⟨e',he',z⟩
   ·exact .inl z
   ·exact .inr (.inl z)
   ·exact .inr (.inr (.inl z))
   ·exact .inr (.inr (.inr ⟨e',(Qac.mp he').1,z⟩)))
  have hv:∀b u,H1 b=some u→H4 b≠none:=fun b u hb hn=>by
   by_cases z:b=Y.o
   ·rw[z,ow4.at']at hn;cases hn
   ·cases h3:H3 b with
    | none=>exact v3 b u hb h3
    | some u3=>rw[b4 b u3 h3 z]at hn;cases hn
  have mfE:∀b,Fp X.m X.rd sd' (Zbh X.L e.n) b→MFp X b∨H4 b=none:=fun b hb=>by
   rcases hb with z|z|z|⟨e',he',z⟩
   ·exact .inl (.inl z)
   ·exact .inl (.inr (.inl z))
   ·exact .inr (by rw[z];exact hsd5)
   ·exact .inl (.inr (.inr (.inr ⟨e',(Qac.mp he').1,z⟩)))
  obtain⟨p5,f5,k15⟩:=Zfu pr1 ow4 kO hv ownE M5 W5 ok5 kM mfE ag1 ek6 eq6
  refine fin (fun b u hb n n'=>s6 _ _ (k15 b u (skp _ _ hb) n n')) (p5.same s6) rfl rfl nga hnb rfl ?_ f5 ownE
  show Z5 (Zbh X.L e.n)=(Z5 X.L).filter fun x=>decide (x.1≠e.n)
  unfold Z5 Zbh
  rw[Qat]
  rfl
 | grow =>
  obtain⟨x,hx,hxn,hsr,hlen⟩:=hd
  obtain⟨e,he,rfl⟩:=Qn.mp hx
  have hxn':e.n=n:=hxn
  subst hxn'
  have hsr':sortedS (e.ss++ks)=true:=hsr
  have hlen':(e.ss++ks).length≤100:=hlen
  obtain⟨eo,heo,e1,e2⟩:=ZkW pr.ag he
  have e21:eo.2.2.1=e.ss:=by rw[e2]
  have e22:eo.2.2.2=e.g:=by rw[e2]
  obtain⟨lo1,_,_,lz⟩:=ow1.lst eo heo
  have hle:=(pr1.mg.M.each e he).le
  have hz:∀x∈e.ss++ks,x.length≤1000∧AZ x:=fun x hx=>by
   rcases Qm.mp hx with hx|hx
   ·exact(pr1.mg.M.each e he).str x hx
   ·exact hks x hx
  have hvR:Z2 (kvR Y.Lo) (.inl e.n)=some (.ref eo.2.1):=by rw[← e1];exact Zhc ow1.nd heo
  have hvG:Z2 (kvG Y.Lo) (.inl e.n)=some (.int (eo.2.2.2:Int)):=by rw[← e1];exact Zg8 ow1.nd heo
  refine⟨_,rfl,rfl,_,rfl,Zbl (by intro z;injection z with z;exact absurd z (by decide +kernel)) ?_⟩
  refine⟨_,rfl,rfl,_,rfl,Zbl (by intro z;injection z with z;exact absurd z (by decide +kernel)) ?_⟩
  refine⟨_,rfl,Y.o,_,rfl,ZN.k' (k:=.inr "rows") ow1.at' (ZaS ..),_,rfl,Y.ra,_,rfl,ZN.k' (k:=.inl e.n) ow1.rows hvR,eo.2.1,_,rfl,.inl (SqL.of lo1),_,rfl,Y.o,_,rfl,ZN.k' (k:=.inr "gone") ow1.at' (ZbY ..),_,rfl,Y.ga,_,rfl,ZN.k' (k:=.inl e.n) ow1.gone hvG,rfl,?_⟩
  refine⟨_,rfl,Y.o,_,rfl,ZN.k' (k:=.inr "rows") ow1.at' (ZaS ..),_,rfl,Y.ra,_,rfl,ZN.k' (k:=.inl e.n) ow1.rows hvR,_,rfl,r,_,rfl,.inl (SqL.of hr1),fun l hl=>?_⟩
  have sl:=Zh hl (.lst (ks.map V.str))
  refine⟨eo.2.1,l,_,_,rfl,rfl,sl _ _ lo1,Zd,(by rw[Qa,Qa,e21];rw[Qf]at hlen';exact Za6 (by omega)),fun c hc=>?_⟩
  rw[← Qe]
  have sc:=sl.trans (Zh hc (.lst ((eo.2.2.1++ks).map V.str)))
  have hc2:(upd (upd H1 l (.lst (ks.map V.str))) c (.lst ((eo.2.2.1++ks).map V.str))) c=some (.lst ((eo.2.2.1++ks).map V.str)):=Zd
  have hcH:H1 c=none:=sl.free hc
  generalize upd (upd H1 l (.lst (ks.map V.str))) c (.lst ((eo.2.2.1++ks).map V.str))=H2 at sc hc2 ⊢
  have ow2:=ow1.same sc
  refine⟨_,rfl,Y.o,_,rfl,ZN.k' (k:=.inr "rows") ow2.at' (ZaS ..),_,rfl,Y.ra,_,rfl,ZbW.k (k:=.inl e.n) ow2.rows hszR,?_⟩
  rw[← e1,Zn1 heo ks c]
  have ow3:=ow2.grow nga heo (ks:=ks) hc2 (by rw[e21];exact hlen') (by rw[e21];exact hz)
  have k3:∀b u,H1 b=some u→¬ ZV Y b→(upd H2 Y.ra (.dK (kvR (Zbt Y.Lo eo.1 ks c)))) b=some u:=fun b u hb nO=>by
   rw[Zb (fun z=>nO (.inr (.inl z)))]
   exact sc b u hb
  have v3:∀b u,H1 b=some u→(upd H2 Y.ra (.dK (kvR (Zbt Y.Lo eo.1 ks c)))) b≠none:=fun b u hb hn=>by
   by_cases z:b=Y.ra
   ·rw[z,Zd]at hn;cases hn
   ·rw[Zb z,sc b u hb]at hn;cases hn
  generalize upd H2 Y.ra (.dK (kvR (Zbt Y.Lo eo.1 ks c)))=H3 at ow3 k3 v3 ⊢
  have hri3:((Zbt Y.Lo eo.1 ks c).map (fun e:Zx=>e.1)).Pairwise (·<·):=by rw[Zig];exact hrise
  have hr3:=k3 _ _ hr1 nOr
  refine⟨fun σ H4=>(∃v:Option V,σ=[some (.ref X.m),some (.ref Y.o),some (.ref t),some (.str "grow"),some (.int eo.1),some (.ref r),some (.ref kp),none,v])∧(∃k6 q6:Int,Own H4 Y.o Y.ra Y.ga (Zbt Y.Lo eo.1 ks c) Y.nb (X.li+k6) (X.lo+q6)∧(∀b u,H1 b=some u→¬ ZV Y b→H4 b=some u)∧(∀b u,H1 b=some u→H4 b≠none)∧(((e.g<e.ss.length∨ks=[])∧k6=0∧q6=0)∨(e.g=e.ss.length∧ks≠[]∧Zbx (hdL (Zbt Y.Lo eo.1 ks c)) 8 ((Zbt Y.Lo eo.1 ks c).map (fun e:Zx=>e.1)) k6 q6))),?_,?_⟩
  ·refine⟨_,rfl,_,rfl,?_⟩
   rw[Qa,e21,e22]
   by_cases hg:e.g<e.ss.length
   ·exact Zbl (by intro z;injection z with z;omega) (ZbE ⟨⟨_,rfl⟩,0,0,by rw[QP,QP];exact ow3,k3,v3,.inl ⟨.inl hg,rfl,rfl⟩⟩)
   refine Zcw (by rw[show e.ss.length=e.g by omega]) ?_
   refine⟨_,rfl,(by show 0≤sizeLine;decide),fun z hz'=>?_⟩
   have sz:=Zh hz' (.lst [])
   refine⟨.list (ks.map PyData.str),.list [],.lst (SqL.of (sz _ _ hr3)) (Zdu ks),.lst (SqL.of Zd) .nil,Zbw ks azs,(by decide +kernel),_,rfl,?_⟩
   rw[if_pos rfl,Zmx]
   have ow4:=ow3.same sz
   have k4:∀b u,H1 b=some u→¬ ZV Y b→(upd H3 z (.lst [])) b=some u:=fun b u hb nO=>sz _ _ (k3 b u hb nO)
   have v4:∀b u,H1 b=some u→(upd H3 z (.lst [])) b≠none:=fun b u hb hn=>v3 b u hb (sz.free hn)
   generalize upd H3 z (.lst [])=H3' at ow4 k4 v4 ⊢
   by_cases hk0:ks=[]
   ·exact ZeX hk0 ⟨⟨_,rfl⟩,0,0,by rw[QP,QP];exact ow4,k4,v4,.inl ⟨.inr hk0,rfl,rfl⟩⟩
   refine Zjg hk0 ?_
   refine⟨_,rfl,Y.o,Y.ra,Y.ga,_,_,_,_,rfl,ow4,hri3,fun e he=>(ow4.ne_l he).1,fun k6 q6 H4 pl4 ow4' b4=>?_⟩
   refine⟨⟨_,rfl⟩,k6,q6,ow4',fun b u hb nO=>b4 b u (k4 b u hb nO) (fun z=>nO (.inl z)),fun b u hb hn=>?_,.inr ⟨by omega,hk0,pl4⟩⟩
   by_cases z:b=Y.o
   ·rw[z,ow4'.at']at hn;cases hn
   ·cases h3:H3' b with
    | none=>exact v4 b u hb h3
    | some u3=>rw[b4 b u3 h3 z]at hn;cases hn
  rintro σ H4 ⟨⟨v,rfl⟩,k6,q6,ow5,kO,hv,cnd⟩
  have mg4:MOk cRow cMerge H4 X:=pr1.mg.keep fun b u hb hor=>kO b u hb (pr1.nO hb hor)
  have hr4:=kO _ _ hr1 nOr
  obtain⟨dx4,hm4⟩:=mg4.M.ob
  refine⟨_,rfl,X.m,dx4,_,rfl,hm4,Zku ..,_,rfl,_,rfl,X.m,X.rd,X.sd,X.L,X.s,X.nb,X.li,X.lo,X.w,e,r,ks,(by rw[← e1];rfl),mg4.M,mg4.W,mg4.ok,he,hr4,fun z=>nMr (.inr (.inr (.inr ⟨e,he,.inl z⟩))),hlen',hsr',hz,fun k' f' sd' s' w' k7 q7 H5 hk5 hf5 cnd' W5 ok5 M5 k5=>?_⟩
  refine⟨rfl,_,rfl,Zcw rfl ?_⟩
  have kM:∀b u,H4 b=some u→¬ MFp X b→H5 b=some u:=fun b u hb nM=>k5 b u hb (fun z=>nM (.inl z)) (fun z=>nM (.inr (.inr (.inr ⟨e,he,.inl z⟩))))
  have hr6:=kM _ _ hr4 nMr
  have hk6:=kM _ _ (kO _ _ hkp1 nOk) nMk
  refine⟨_,rfl,_,rfl,.list (ks.map PyData.str),.list (ks.map PyData.str),.lst (SqL.of hr6) (Zdu ks),.lst (SqL.of hk6) (Zdu ks),Zbw ks azs,Zbw ks azs,?_⟩
  rw[if_neg Qk,Zid]
  have ag1:Agr (Zbt Y.Lo eo.1 ks c) (Zbg X.L e.n ks k' f'):=by rw[e1];exact ZnG pr.ag e.n ks c k' f'
  have ekq:k6=k7∧q6=q7:=by
   rcases cnd with⟨h1,rfl,rfl⟩|⟨h1,h2,h3⟩
   ·rcases cnd' with⟨_,_,rfl,rfl⟩|⟨h4,h5,_⟩
    ·exact⟨rfl,rfl⟩
    ·rcases h1 with h1|h1
     ·omega
     ·exact absurd h1 h5
   ·rcases cnd' with⟨h4,_⟩|⟨_,_,_,h6⟩
    ·rcases h4 with h4|h4
     ·omega
     ·exact absurd h4 h2
    ·refine h3.one (m:=8) ?_
     rw[Zgy ag1,Zbn ag1,Zdd];exact h6
  have ownE:∀b,ZV ⟨Y.o,Y.ra,Y.ga,Zbt Y.Lo eo.1 ks c,Y.nb⟩ b→ZV Y b∨H1 b=none:=fun b hb=>by
   rcases hb with z|z|z|⟨e',he',z⟩
   ·exact .inl (.inl z)
   ·exact .inl (.inr (.inl z))
   ·exact .inl (.inr (.inr (.inl z)))
   ·obtain⟨y,hy,rfl⟩:=Qn.mp he'
    unfold Zcx at z
    split at z
    ·exact .inr (by rw[z];exact hcH)
    ·exact .inl (.inr (.inr (.inr ⟨y,hy,z⟩)))
  have mfE:∀b,Fp X.m X.rd sd' (Zbg X.L e.n ks k' f') b→MFp X b∨H4 b=none:=fun b hb=>by
   rcases hb with z|z|z|⟨e',he',z⟩
   ·exact .inl (.inl z)
   ·exact .inl (.inr (.inl z))
   ·rcases cnd' with⟨_,h6,_⟩|⟨_,_,h6,_⟩
    ·exact .inl (.inr (.inr (.inl (by rw[z,h6]))))
    ·exact .inr (by rw[z];exact h6)
   ·obtain⟨y,hy,rfl⟩:=Qn.mp he'
    unfold Zb9 at z
    split at z
    ·rcases z with z|z|z
     ·exact .inl (.inr (.inr (.inr ⟨y,hy,.inl z⟩)))
     ·exact .inr (by rw[z];exact hk5)
     ·exact .inr (by rw[z];exact hf5)
    ·exact .inl (.inr (.inr (.inr ⟨y,hy,z⟩)))
  obtain⟨p5,f5,k15⟩:=Zfu pr1 ow5 kO hv ownE M5 (by rw[Zdd];exact W5) (by rw[Zdd];exact ok5) kM mfE ag1 ekq.1 ekq.2
  refine fin (fun b u hb n n'=>k15 b u (skp _ _ hb) n n') p5 rfl rfl nga hnb rfl ?_ f5 ownE
  show Z5 (Zbg X.L e.n ks k' f')=(Z5 X.L).map fun x=>if x.1=e.n then (x.1,x.2.1++ks,x.2.2) else x
  unfold Z5 Zbg
  rw[Qi,Qi]
  refine QA fun y _=>?_
  simp only[Function.comp]
  unfold Zb9
  split<;>rfl
theorem Zju:∀ns:List Int,PyData.canLayAll0 (ns.map PyData.int)=true
 | []=>rfl
 | x::r=>by simp[PyData.canLayAll0,PyData.canLay0,Zju r]
theorem ZgI:∀ns:List Int,PyData.depthAll (ns.map PyData.int)=0
 | []=>rfl
 | _::r=>by simp[PyData.depthAll,PyData.depth,ZgI r]
theorem Zjh(ns:List Int):SeqAt.shaped (.list (ns.map PyData.int))=true:=by simp[SeqAt.shaped,PyData.canLay0,PyData.depth,Zju ns,ZgI]
theorem Zk7{K:PySem.W.Frag}{H:Hp}:∀ns:List Int,DVs K H (ns.map V.int) (ns.map PyData.int)
 | []=>.nil
 | s::r=>.cons (.int s) (Zk7 r)
theorem ZpE{xs:List V}{x:V}(h:xs[xs.length-1]? = some x)(h0:0<xs.length):atI xs (-1)=some x:=by
 have e:ixN xs.length (-1)=some (xs.length-1):=by
  unfold ixN
  rw[if_neg (by decide),if_pos (by omega)]
  congr 1
  omega
 unfold atI
 rw[e]
 exact h
theorem ZfB:∀a b:List Nat,Spec.ltCps a b=true↔a<b
 | [],[]=>by simp[Spec.ltCps]
 | [],y::s=>by simp[Spec.ltCps]
 | x::r,[]=>by simp[Spec.ltCps]
 | x::r,y::s=>by
  have ih:=ZfB r s
  rw[Qaz]
  simp[Spec.ltCps,ih]
def LeS(a b:Str):Prop:=¬ b.cps.toList<a.cps.toList
theorem LeS.trans{a b c:Str}(h:LeS a b)(k:LeS b c):LeS a c:=List.not_lt.mpr (List.le_trans (List.not_lt.mp h) (List.not_lt.mp k))
theorem ZhL:∀ (r:List Str) (x:Str),risingS x r=true↔(x::r).Pairwise LeS
 | [],x=>by simp[risingS]
 | y::r,x=>by
  have ih:=ZhL r y
  rw[List.pairwise_cons]
  unfold risingS
  rw[Q1,Bool.not_eq_true']
  constructor
  ·rintro⟨h1,h2⟩
   have p:=ih.mp h2
   have hxy:LeS x y:=fun z=>by rw[(ZfB _ _).mpr z]at h1;cases h1
   refine⟨fun b hb=>?_,p⟩
   rcases QI.mp hb with rfl|hb
   ·exact hxy
   ·exact hxy.trans ((List.pairwise_cons.mp p).1 b hb)
  ·rintro⟨h1,h2⟩
   exact⟨Qab.mpr fun z=>h1 y (by simp) ((ZfB _ _).mp z),ih.mpr h2⟩
theorem ZgG(ss:List Str):sortedS ss=true↔ss.Pairwise LeS:=by
 cases ss with
 | nil=>simp[sortedS]
 | cons x r=>exact ZhL r x
theorem Zlh:∀ (n:Nat) (a b:List Nat),a.take n<b.take n→a<b
 | 0,a,b,h=>by simp at h
 | n+1,[],b,h=>by
  cases b with
  | nil=>simp at h
  | cons y s=>simp
 | n+1,x::r,[],h=>by simp at h
 | n+1,x::r,y::s,h=>by
  rw[List.take_succ_cons,List.take_succ_cons,Qaz]at h
  rw[Qaz]
  rcases h with h|⟨h1,h2⟩
  ·exact .inl h
  ·exact .inr ⟨h1,Zlh n r s h2⟩
theorem LeS.cut{a b:Str}(h:LeS a b)(n:Nat):LeS (Txt.slice a none (some (n:Int))) (Txt.slice b none (some (n:Int))):=fun z=>by
 rw[Ze9,Ze9]at z
 exact h (Zlh n _ _ z)
theorem Zkd{ss ks:List Str}(h:sortedS ss=true)(k:sortedS ks=true)(hl:∀x∈ks,LeS ((([""]:List Str)++ss).getLast (by simp)) x):sortedS (ss++ks)=true:=by
 rw[ZgG]at h k ⊢
 refine List.pairwise_append.mpr ⟨h,k,fun a ha b hb=>?_⟩
 have hb':=hl b hb
 have hne:ss≠[]:=fun z=>by rw[z]at ha;cases ha
 rw[List.getLast_append_of_ne_nil (by simp) hne]at hb'
 have hla:LeS a (ss.getLast hne):=by
  rcases List.eq_nil_or_concat ss with z|⟨r,y,rfl⟩
  ·exact absurd z hne
  ·rw[show (r.concat y).getLast hne=y by simp]
   rcases Qm.mp (by simpa using ha:a∈r++[y]) with ha|ha
   ·exact(List.pairwise_append.mp (by simpa using h:(r++[y]).Pairwise LeS)).2.2 a ha y (by simp)
   ·rw[Qo.mp ha]
    exact List.not_lt.mpr (List.le_refl _)
 exact hla.trans hb'
theorem Zlk{c:Bool}(b2:Bool){e:(Bool→Hp→Prop)→Prop}{T:Bool→Hp→Prop}{H:Hp}(h1:c=true→∀T':Bool→Hp→Prop,(∀H',ZF H H'→T' b2 H')→e T')(q:∀H',ZF H H'→T (c&&b2) H'):if c=true then e T else T false H:=by
 cases c with
 | true=>rw[if_pos rfl];exact h1 rfl T q
 | false=>rw[if_neg Qk];exact q H (ZF.refl H)
theorem Zq1{c:Bool}(b2:Bool){e:(Bool→Hp→Prop)→Prop}{T:Bool→Hp→Prop}{H:Hp}(h1:c=false→∀T':Bool→Hp→Prop,(∀H',ZF H H'→T' b2 H')→e T')(q:∀H',ZF H H'→T (c||b2) H'):if c=true then T true H else e T:=by
 cases c with
 | true=>rw[if_pos rfl];exact q H (ZF.refl H)
 | false=>rw[if_neg Qk];exact h1 rfl T q
theorem ZsB:AZ "a":=by unfold AZ;decide +kernel
theorem ZgY{K:PySem.W.Frag}{a:Addr}{ss:List Str}{k:Nat}{D:Addr}{σ:L2.St}{H1:Hp}{g:TG}{tc:TT}{te:TE}{Q:VK}(fB:Str→Bool)(fS:Str→Str)(R:L2.St→Prop)(hD:H1 D=none)(ha:SqL K H1 a (ss.map V.str))(hn:ss.length≤1000)(h0:R (σ++List.replicate k none))
  (hs:∀x∈ss,∀ (σ:L2.St) (H:Hp) (N:L2.St→V→Hp→Prop) (M:L2.St→Hp→Prop),R σ→(∀σ4,R σ4→fB x=true→N σ4 (.str (fS x)) H)→(∀σ4,R σ4→fB x=false→M σ4 H)→g (.str x) σ H fun σ4 H4=>tc σ4 H4 fun b H5=>if b=true then te σ4 H5 fun y H6=>N σ4 y H6 else M σ4 H5)
  (hd:∀σ4,R σ4→Q (.ref D) (upd H1 D (.lst (((ss.filter fB).map fS).map V.str)))):ZdM (Itl K a) D k σ H1 g tc te Q:=by
 refine ZgC (K:=K) (a:=a) (xs:=ss.map V.str) (fun i ys σ H=>R σ∧ys=(((ss.take i).filter fB).map fS).map V.str∧H=upd H1 D (.lst ys)∧i≤ss.length) ⟨h0,rfl,rfl,Qw _⟩ ?_ ?_ ?_
 ·rintro i ys σ H ⟨_,_,rfl,_⟩
  exact(Zh hD _).seq ha
 ·rintro i x ys σ H hx ⟨hR,rfl,rfl,hi⟩
  rw[Qp]at hx
  cases hy:ss[i]? with
  | none=>rw[hy]at hx;cases hx
  | some y =>
   rw[hy]at hx
   injection hx with hx
   subst hx
   have hil:i<ss.length:=(Qg.mp hy).1
   have ht:ss.take (i+1)=ss.take i++[y]:=by rw[List.take_succ,hy];rfl
   refine hs y (Qx hy) σ _ _ _ hR (fun σ4 h4 hb=>⟨Zd,?_,h4,?_,by rw[ZoX],hil⟩) (fun σ4 h4 hb=>⟨h4,?_,rfl,hil⟩)
   ·rw[Qa,Qa]
    have:=Q7 fB (ss.take i)
    rw[Qz]at this
    exact ZC (by omega)
   ·rw[ht,List.filter_append,List.filter_cons_of_pos hb,List.filter_nil,Qe,Qe];rfl
   ·rw[ht,List.filter_append,List.filter_cons_of_neg (by rw[hb];exact Qk),List.filter_nil,QaI]
 ·rintro ys σ H ⟨hR,rfl,rfl,_⟩
  have e:ss.take (ss.map V.str).length=ss:=by rw[Qa,List.take_length]
  rw[e]
  exact hd σ hR
def ZiH(P:List Zak)(nb n:Int)(ks:List Str):ZgF→Prop
 | .add=>n=nb∧(P.length<12∨P=[])∧sortedS ks=true∧(nb<36∨P=[])
 | .drop=>∃x∈P,x.1=n
 | .grow=>∃x∈P,x.1=n∧sortedS (x.2.1++ks)=true∧(x.2.1.length<50∨ks=[])
def Zq6:Sp:=fun vs H Q _=>∃ (p o ra ga l:Addr) (c:Int) (Lo:List Zx) (nb li lo:Int) (ss:List Str),vs=[.ref p,.ref o,.ref l]∧Zap H p c∧c<2 ^ 30∧Own H o ra ga Lo nb li lo∧o≠p∧ra≠p∧ga≠p∧(∀e∈Lo,e.2.1≠p∧sortedS e.2.2.1=true)∧(Lo.map (·.1)).Pairwise (·<·)∧H l=some (.lst (ss.map V.str))∧l≠p∧1≤ss.length∧ss.length≤4∧(∀s∈ss,s.length≤34∧AZ s) ∧
 ∀ (t r:Addr) (d:ZgF) (n:Int) (ks:List Str) (c':Int) (H':Hp),H t=none→H r=none→H' t=some (.tup [.str d.word,.int n,.ref r])→H' r=some (.lst (ks.map V.str))→ks.length≤6→(∀x∈ks,x.length≤40∧AZ x)→ZiH (pur Lo) nb n ks d→Zap H' p c'→c≤c'→c'≤c+700→But p H H'→Q (.ref t) H'
theorem ZoB(T:Zaf K mg cRow cMerge)(f_l_pick:Df P w K mg base 2 "_law_pick" ["_law_left_here", "_law_many_here"] Zeb)(f_l_row:Df P w K mg base 5 "_law_row" ["_law_left_here", "_law_stems_here", "_law_most"] ZiF):Df P w K mg base 6 "_law_late" ["_law_left_here", "_law_own", "_law_stems_here"] Zq6:=by
 refine T.t_l_late.df Zbd (fun vs H Q E h=>?_) (fun cdv f A outer s H vs Q E hr h=>?_)
 ·obtain⟨p,o,ra,ga,l,c,Lo,nb,li,lo,ss,rfl,_⟩:=h
  rfl
 obtain⟨p,o,ra,ga,l,c,Lo,nb,li,lo,ss,rfl,hL,c1,ow,nop,nrp,ngp,hrow,hrise,hl,nlp,hs1,hs4,hss,q⟩:=h
 refine⟨_,#[Zf,#[Zw,3,Zbd.nd,(Or.inl rfl),#[Zk,ZmW,(by rfl),T.b.n_sorted,boot_sorted,#[Za,#[Zo,(ixG hr),‹1›,#[ZA]],#[Ze]]]],#[Zf,#[Zw,4,Zbd.nd,(Or.inl rfl),#[Zy,f_l_pick,hr,#[Za,‹0›,#[Za,#[Zi],#[Ze]]],(by rfl)]],#[Zf,#[ZZ,(@PW.pt _ _ _ (@Zjq _ _ _ _ _ _ _ (@PW.pt _ _ _ #[ZbC,#[Zm,Zcu,‹4›,#[Zi],(Zp _)],#[ZbC,#[Zm,Zcu,#[Zk,(Zcj K),(by rfl),T.b.n_len,Qs,#[Za,‹3›,#[Ze]]],#[Zi],(Zp _)],#[Zbz,#[Zm,Zcu,#[Zo,(ixG hr),‹1›,#[ZA]],#[Zi],(Zp _)]]]]) (@ZgP _ _ _ _ #[Zm,(@eqD _ K _ hr (by rfl)),‹3›,#[Zax,#[Ze]],(Zp _)]))),#[Zj,#[Zs,#[ZaC,#[Za,#[ZA],#[Za,#[Zo,(ixG hr),‹1›,#[ZA]],#[Za,#[Zy,f_l_row,hr,#[Za,‹0›,#[Za,‹2›,#[Za,#[Zi],#[Ze]]]],(by rfl)],#[Ze]]]]]]],#[ZE]],#[Zf,#[Zw,5,Zbd.nd,(Or.inl rfl),#[Zo,(ixL K),‹3›,#[Zy,f_l_pick,hr,#[Za,‹0›,#[Za,#[Zk,(Zcj K),(by rfl),T.b.n_len,Qs,#[Za,‹3›,#[Ze]]],#[Ze]]],(by rfl)]]],#[Zf,#[ZZ,#[Zm,Za1,‹4›,#[Zi],(Zp _)],#[Zj,#[Zs,#[ZaC,#[Za,#[ZA],#[Za,‹5›,#[Za,#[Zax,#[Ze]],#[Ze]]]]]]],#[ZE]],(@Zff _ _ _ _ _ #[Zw,6,Zbd.nd,(Or.inr rfl),#[Zo,(ixL K),#[ZG,ZeG,#[Zax,#[Za,#[ZA],#[Ze]]],#[Zo,(ixG hr),#[Zo,(ixG hr),‹1›,#[ZA]],‹5›]],(@Zia _ _ _ _ _ _ ZfG #[Zi])]] #[Zf,#[ZeN,7,Zbd.nd,Zmm,#[iL,K,#[Zy,f_l_row,hr,#[Za,‹0›,#[Za,‹2›,#[Za,#[Zi],#[Ze]]]],(by rfl)]],(fun _ _ _ _=>#[cg,9,Zmm]),(fun _ _ _ _=>(@ZiZ _ _ _ #[Zm,Zih,#[cw,9,Zmm],#[cv,6,Zmm],(Zp _)])),(fun _ _ _ _=>#[cw,9,Zmm])],(@Zff _ _ _ _ _ #[ZZ,#[Zm,Za1,#[Zy,f_l_pick,hr,#[Za,‹0›,#[Za,#[Zi],#[Ze]]],(by rfl)],#[Zi],(Zp _)],#[Zf,#[Zw,7,Zbd.nd,(Or.inl rfl),#[ZG,ZeG,#[Zax,#[Za,#[ZG,ZeL,#[pv,6,(Or.inr (Or.inl rfl))],#[ZA]],#[Ze]]],#[Zk,(Zqp K),(by rfl),T.b.n_sorted,boot_sorted,#[Za,#[Zci,Zpz,#[iL,K,‹7›],(fun _ _ _ _=>#[cg,9,Zpz]),(fun _ _ _ _=>(@Zcb _)),(fun _ _ _ _=>#[ZG,ZeL,#[cv,6,Zpz],#[cw,9,Zpz]])],#[Ze]]]]],#[Zj,#[Zw,7,Zbd.nd,(Or.inl rfl),#[Zk,(Zqp K),(by rfl),T.b.n_sorted,boot_sorted,#[Za,‹7›,#[Ze]]]]]],#[ZE]] #[Zf,#[Zw,8,Zbd.nd,(Or.inl rfl),#[ZG,ZeB,#[Zi],#[ZaR,Zft,T.b.n_int,boot_int,#[Za,#[Zbf,Zcu,#[Zk,(Zcj K),(by rfl),T.b.n_len,Qs,#[Za,#[Zo,(ixG hr),#[Zo,(ixG hr),‹1›,#[ZA]],‹5›],#[Ze]]],#[Zi],(Zp _)],#[Ze]]]]],#[Zj,#[Zs,#[ZaC,#[Za,#[ZA],#[Za,‹5›,#[Za,#[ZbT,(slL K),#[Zci,Zjb,#[iL,K,‹7›],(fun _ _ _ _=>#[cg,9,Zjb]),(fun _ _ _ _=>(@ZiZ _ _ _ #[Zm,Zih,#[ZbT,ZnP,#[cw,9,Zjb],(@ZbM _),(@Zcc _ _ _ #[Zi])],#[cv,6,Zjb],(Zp _)])),(fun _ _ _ _=>#[ZbT,ZnP,#[cw,9,Zjb],(@ZbM _),(@Zcc _ _ _ #[Zi])])],(@ZbM _),(@Zcc _ _ _ ‹8›)],#[Ze]]]]]]]])])]]]]],?_⟩
 have c0:=hL.ge
 have hfew:=ow.few
 refine⟨_,rfl,o,_,rfl,ZN.k' (k:=.inr "rows") ow.at' (ZaS ..),ra,_,Lo.map (·.1),rfl,ow.rows,ZgX Lo,by rw[Qa];omega,fun nl ns hnl hper hup=>?_⟩
 have hns:ns=Lo.map (·.1):=ZeV hper (Zip hup (hper.nodup_iff.mpr ow.nd)) hrise
 subst hns
 have snl:=Zh hnl (.lst ((Lo.map (·.1)).map V.int))
 have hnl1:(upd H nl (.lst ((Lo.map (·.1)).map V.int))) nl=some (.lst ((Lo.map (·.1)).map V.int)):=Zd
 have L1:=hL.same snl
 generalize upd H nl (.lst ((Lo.map (·.1)).map V.int))=H1 at snl hnl1 L1 ⊢
 have nnlp:nl≠p:=by obtain⟨u,hu⟩:=hL.here;exact(Zc hu hnl).symm
 refine⟨_,rfl,p,c,_,rfl,L1,by omega,by decide,by decide,fun wy H2 wy0 wy5 L2 B2=>?_⟩
 have B02:But p H H2:=(But.same snl).trans B2
 have owB:∀ {H':Hp},But p H H'→Own H' o ra ga Lo nb li lo:=fun {H'} B=>ow.keep fun b u hb ho=>B b u hb (by
  rcases ho with z|z|z|⟨e,he,z⟩
  ·rw[z];exact nop
  ·rw[z];exact nrp
  ·rw[z];exact ngp
  ·rw[z];exact(hrow e he).1)
 have ow2:=owB B02
 have hnl2:=B2 _ _ hnl1 nnlp
 have hlen:(((Lo.map (·.1)).map V.int).length:Int)=(Lo.length:Int):=by rw[Qa,Qa]
 refine⟨_,rfl,_,_,rfl,rfl,_,rfl,?_⟩
 refine Zlk (decide ((((Lo.map (·.1)).map V.int).length:Int)<12)&&decide (nb<36)) (fun _ T1 h1=>?_) (fun H3 s3=>?_)
 ·refine⟨_,rfl,nl,_,rfl,.inl (SqL.of hnl2),_,_,rfl,rfl,_,rfl,?_⟩
  exact Zlk (decide (nb<36)) (fun _ T2 h2=>⟨_,rfl,o,_,rfl,ZN.k' (k:=.inr "number") ow2.at' (ZeJ ..),_,_,rfl,rfl,_,rfl,h2 _ (ZF.refl _)⟩) h1
 refine Zq1 (decide (Lo=[])) (fun _ T1 h1=>?_) (fun H3' s3'=>?_)
 ·refine⟨_,rfl,(by show 0≤sizeLine;decide),fun z hz=>?_⟩
  have sz:=Zh hz (.lst [])
  refine⟨.list ((Lo.map (·.1)).map PyData.int),.list [],.lst (SqL.of (sz _ _ (s3 _ _ hnl2))) (Zk7 _),.lst (SqL.of Zd) .nil,Zjh _,(by decide +kernel),_,rfl,?_⟩
  rw[if_neg Qk,show PyData.eqv (.list ((Lo.map (·.1)).map PyData.int)) (.list [])=decide (Lo=[]) by
   cases Lo with
   | nil=>simp[PyData.eqv,PyData.eqvAll]
   | cons a r=>simp[PyData.eqv,PyData.eqvAll]]
  exact h1 _ sz
 replace s3:=s3.trans s3'
 clear s3'
 generalize H3'=H3 at s3 ⊢
 have B03:But p H H3:=B02.trans (But.same s3)
 have L3:=L2.same s3
 have ow3:=owB B03
 have hnl3:=s3 _ _ hnl2
 have hl3:=B03 _ _ hl nlp
 have newH:∀ {b:Addr} {H':Hp},But p H H'→Zap H' p (0:Int)∨(∃c',Zap H' p c')→H' b=none→H b=none:=fun {b H'} B hor hb=>by
  have hp:∃u,H' p=some u:=by
   rcases hor with h|⟨c',h⟩
   ·exact h.here
   ·exact h.here
  cases e:H b with
  | none=>rfl
  | some u =>
   by_cases z:b=p
   ·obtain⟨u',hu'⟩:=hp;rw[z,hu']at hb;cases hb
   ·rw[B b u e z]at hb;cases hb
 refine ZaY (fun d=>?_) (fun d=>?_)
 ·refine⟨_,rfl,o,_,rfl,ZN.k' (k:=.inr "number") ow3.at' (ZeJ ..),_,rfl,_,rfl,p,l,c+1,5,ss,rfl,L3,by omega,by decide,by decide,hl3,hs1,hs4,hss,fun r ts c6 H4 hr0 hr4 hts hsr hts2 L4 d1 d2 B4=>?_⟩
  refine⟨(by show 3≤sizeLine;decide),fun t ht=>?_⟩
  have B04:=B03.trans B4
  have st:=Zh ht (.tup [.str "add",.int nb,.ref r])
  refine q t r .add nb ts c6 _ (newH B04 (.inr ⟨_,L4⟩) ht) (newH B03 (.inr ⟨_,L3⟩) hr0) Zd (st _ _ hr4) (by omega) (fun x hx=>⟨by have:=(hts2 x hx).1;omega,(hts2 x hx).2⟩) ⟨rfl,?_,hsr,?_⟩ (L4.same st) (by omega) (by omega) (B04.trans (But.same st))
  ·rw[Bool.or_eq_true,Q1,Q1,decide_eq_true_eq,decide_eq_true_eq,decide_eq_true_eq,decide_eq_true_eq,hlen]at d
   rcases d with⟨_,d,_⟩|d
   ·exact .inl (by unfold pur;rw[Qa];omega)
   ·exact .inr (by rw[d];rfl)
  ·rw[Bool.or_eq_true,Q1,Q1,decide_eq_true_eq,decide_eq_true_eq,decide_eq_true_eq,decide_eq_true_eq]at d
   rcases d with⟨_,_,d⟩|d
   ·exact .inl d
   ·exact .inr (by rw[d];rfl)
 have hne:Lo≠[]:=fun z=>d (by rw[Bool.or_eq_true,decide_eq_true z];exact .inr rfl)
 have hpos:0<Lo.length:=List.length_pos_iff.mpr hne
 refine⟨_,rfl,_,rfl,_,rfl,nl,_,rfl,.inl (SqL.of hnl3),p,c+1,_,rfl,L3,by omega,by omega,by omega,fun i H4 i0 i1 L4 B4=>?_⟩
 obtain⟨n,hn,hat⟩:=ZiV (ns:=Lo.map (·.1)) i0 (by rw[Qa];omega)
 obtain⟨e,he,rfl⟩:=Qn.mp hn
 have hnl4:=B4 _ _ hnl3 nnlp
 have B04:=B03.trans B4
 refine⟨nl,_,_,_,rfl,rfl,SqL.of hnl4,hat,?_⟩
 refine⟨_,rfl,rfl,_,rfl,ZaY (fun dw=>?_) (fun dw=>?_)⟩
 ·refine⟨_,rfl,(by show 0≤sizeLine;decide),fun r hr'=>⟨(by show 3≤sizeLine;decide),fun t ht=>?_⟩⟩
  have sr:=Zh hr' (.lst [])
  have st:=Zh ht (.tup [.str "drop",.int e.1,.ref r])
  have B05:=B04.trans (But.same sr)
  exact q t r .drop e.1 [] (c+1+1) _ (newH B05 (.inr ⟨_,L4.same sr⟩) ht) (newH B04 (.inr ⟨_,L4⟩) hr') Zd (st _ _ Zd) (by decide) (fun x hx=>by cases hx) ⟨_,Qd (f:=fun e:Zx=>(e.1,e.2.2)) he,rfl⟩ ((L4.same sr).same st) (by omega) (by omega) (B05.trans (But.same st))
 have ow4:=owB B04
 obtain⟨lo4,l100,lg,laz⟩:=ow4.lst e he
 have hvR:Z2 (kvR Lo) (.inl e.1)=some (.ref e.2.1):=Zhc ow.nd he
 obtain⟨ls,hls⟩:∃z,z=(([""]:List Str)++e.2.2.1).getLast (by simp):=⟨_,rfl⟩
 have hlsm:ls∈([""]:List Str)++e.2.2.1:=by rw[hls];exact List.getLast_mem _
 have hlsp:ls.length≤1000∧AZ ls:=by
  rcases Qm.mp hlsm with h|h
  ·rw[Qo.mp h];exact⟨by decide +kernel,AZ.nil⟩
  ·exact laz ls h
 refine⟨fun σ H6=>σ=[some (.ref p),some (.ref o),some (.ref l),some (.ref nl),some (.int wy),some (.int e.1),some (.str ls),none,none]∧But p H H6∧Zap H6 p (c+1+1),?_,?_⟩
 ·refine⟨(by show 1≤sizeLine;decide),fun b hb=>?_⟩
  have sb:=Zh hb (.lst (([""]:List Str).map V.str))
  have hb5:(upd H4 b (.lst (([""]:List Str).map V.str))) b=some (.lst (([""]:List Str).map V.str)):=Zd
  have B05:=B04.trans (But.same sb)
  have L5:=L4.same sb
  have ow5:=owB B05
  refine⟨_,rfl,o,_,rfl,ZN.k' (k:=.inr "rows") ow5.at' (ZaS ..),_,rfl,ra,_,rfl,ZN.k' (k:=.inl e.1) ow5.rows hvR,b,e.2.1,_,_,rfl,rfl,hb5,(ow5.lst e he).1,(by rw[Qa,Qa];show 1+e.2.2.1.length≤sizeLine;exact Za6 (by omega)),fun d' hd'=>?_⟩
  rw[← Qe]
  have sd:=Zh hd' (.lst (((([""]:List Str)++e.2.2.1)).map V.str))
  have hd6:(upd (upd H4 b (.lst (([""]:List Str).map V.str))) d' (.lst (((([""]:List Str)++e.2.2.1)).map V.str))) d'=some (.lst (((([""]:List Str)++e.2.2.1)).map V.str)):=Zd
  have B06:=B05.trans (But.same sd)
  have L6:=L5.same sd
  have hat6:atI (((([""]:List Str)++e.2.2.1)).map V.str) (-1)=some (.str ls):=ZpE (by
   rw[Qa,Qp,hls,List.getLast_eq_getElem,Qb (by rw[Qf];show 1+_-1<1+_;omega)];rfl) (by rw[Qa,Qf];show 0<1+_;omega)
  exact⟨_,rfl,d',_,_,_,rfl,rfl,SqL.of hd6,hat6,rfl,B06,L6⟩
 rintro σ H6 ⟨rfl,B06,L6⟩
 clear wy0 wy5 i0 i1 hlen hpos lg l100 hfew
 refine⟨_,rfl,_,rfl,p,l,c+1+1,4,ss,rfl,L6,by omega,by decide,by decide,B06 _ _ hl nlp,hs1,hs4,hss,fun r ts c6 H7 hr0 hr7 hts hsr hts2 L7 d1 d2 B7=>?_⟩
 have B07:=B06.trans B7
 refine⟨r,rfl,⟨_,SqL.of hr7⟩,fun D hD=>?_⟩
 refine ZgY (K:=K) (a:=r) (ss:=ts) (fun x=>!decide (x.cps.toList<ls.cps.toList)) (fun x=>x) (fun σ=>∃v:Option V,σ=[some (.ref p),some (.ref o),some (.ref l),some (.ref nl),some (.int wy),some (.int e.1),some (.str ls),none,none,v]) hD (SqL.of hr7) (by omega) ⟨_,rfl⟩ ?_ ?_
 ·rintro x hx σ Hx N M ⟨v,rfl⟩ hN hM
  exact⟨_,rfl,_,rfl,x,ls,rfl,rfl,_,rfl,ZaY (fun d=>⟨_,rfl,hN _ ⟨_,rfl⟩ d⟩) (fun d=>hM _ ⟨_,rfl⟩ (Qab.mpr d))⟩
 rintro σ4 ⟨v,rfl⟩
 obtain⟨k0,hk0⟩:∃z,z=ts.filter (fun x=>!decide (x.cps.toList<ls.cps.toList)):=⟨_,rfl⟩
 rw[List.map_id',← hk0]
 have k0s:sortedS k0=true:=by
  rw[ZgG]at hsr ⊢
  rw[hk0];exact hsr.sublist Qaf
 have k0p:∀x∈k0,x.length≤38∧AZ x:=fun x hx=>hts2 x (by rw[hk0]at hx;exact(Qac.mp hx).1)
 have k0l:k0.length≤4:=by have:=Q7 (fun x:Str=>!decide (x.cps.toList<ls.cps.toList)) ts;rw[← hk0]at this;omega
 have sD:=Zh hD (.lst (k0.map V.str))
 have hD8:(upd H7 D (.lst (k0.map V.str))) D=some (.lst (k0.map V.str)):=Zd
 have B08:=B07.trans (But.same sD)
 have L8:=L7.same sD
 generalize upd H7 D (.lst (k0.map V.str))=H8 at sD hD8 B08 L8 ⊢
 have nDp:D≠p:=by obtain⟨u,hu⟩:=L7.here;exact(Zc hu hD).symm
 refine⟨fun σ H10=>∃ (kl:Addr) (kk:List Str),σ=[some (.ref p),some (.ref o),some (.ref l),some (.ref nl),some (.int wy),some (.int e.1),some (.str ls),some (.ref kl),none]∧H10 kl=some (.lst (kk.map V.str))∧sortedS kk=true∧kk.length≤5∧(∀x∈kk,x.length≤1100∧AZ x)∧But p H H10∧Zap H10 p (c6+1),?_,?_⟩
 ·refine⟨_,rfl,p,c6,_,rfl,L8,by omega,by decide,by decide,fun j H9 j0 j2 L9 B9=>⟨rfl,_,rfl,?_⟩⟩
  have hD9:=B9 _ _ hD8 nDp
  have B09:=B08.trans B9
  refine ZaY (fun dj=>?_) (fun dj=>⟨D,k0,rfl,hD9,k0s,by omega,fun x hx=>⟨by have:=(k0p x hx).1;omega,(k0p x hx).2⟩,B09,L9⟩)
  refine⟨_,rfl,_,_,rfl,rfl,(by show ls.length+1≤sizeLine;exact Qy (show _≤2000 by omega) (by decide)),(by show 1≤sizeLine;decide),fun x1 hx1=>?_⟩
  have s1:=Zh hx1 (.lst (([ls ++ "a"]:List Str).map V.str))
  have hx10:(upd H9 x1 (.lst (([ls ++ "a"]:List Str).map V.str))) x1=some (.lst (([ls ++ "a"]:List Str).map V.str)):=Zd
  refine⟨_,rfl,D,rfl,⟨_,SqL.of (s1 _ _ hD9)⟩,fun D2 hD2=>?_⟩
  refine ZgY (K:=K) (a:=D) (ss:=k0) (fun _=>true) (fun x=>ls++x) (fun σ=>∃v:Option V,σ=[some (.ref p),some (.ref o),some (.ref l),some (.ref nl),some (.int wy),some (.int e.1),some (.str ls),some (.ref D),none,v]) hD2 (SqL.of (s1 _ _ hD9)) (by omega) ⟨_,rfl⟩ ?_ ?_
  ·rintro x hx σ Hx N M ⟨v,rfl⟩ hN hM
   have:=(k0p x hx).1
   exact⟨_,rfl,_,rfl,_,_,rfl,rfl,Qy (show _≤2000 by omega) (by decide),hN _ ⟨_,rfl⟩ rfl⟩
  rintro σ5 ⟨v5,rfl⟩
  rw[show k0.filter (fun _=>true)=k0 from List.filter_eq_self.mpr fun _ _=>rfl]
  have s2:=s1.trans (Zh hD2 (.lst ((k0.map fun x=>ls++x).map V.str)))
  refine⟨D2,_,rfl,SqL.of Zd,(by rw[Qa];omega),fun sl ss' hsl hper' hsrt'=>?_⟩
  have s3':=s2.trans (Zh hsl (.lst (ss'.map V.str)))
  refine⟨x1,sl,_,_,rfl,rfl,Zh hsl _ _ _ (Zh hD2 _ _ _ hx10),Zd,(by rw[Qa,Qa,hper'.length_eq,Qa];exact Za6 (by show 1+k0.length≤_;omega)),fun ct hct=>?_⟩
  rw[← Qe]
  refine⟨_,rfl,ct,_,rfl,SqL.of Zd,(by rw[Qf,hper'.length_eq,Qa];show 1+k0.length<64;omega),fun kl kk hkl hper2 hsrt2=>?_⟩
  have s98:=(s3'.trans (Zh hct (.lst ((([ls ++ "a"]:List Str)++ss').map V.str)))).trans (Zh hkl (.lst (kk.map V.str)))
  have hkl8:upd (upd (upd (upd (upd H9 x1 (.lst (([ls ++ "a"]:List Str).map V.str))) D2 (.lst ((k0.map fun x=>ls++x).map V.str))) sl (.lst (ss'.map V.str))) ct (.lst ((([ls ++ "a"]:List Str)++ss').map V.str))) kl (.lst (kk.map V.str)) kl=some (.lst (kk.map V.str)):=Zd
  have kkl:kk.length≤5:=by rw[hper2.length_eq,Qf,hper'.length_eq,Qa];show 1+k0.length≤5;omega
  have kkp:∀x∈kk,x.length≤1100∧AZ x:=fun x hx=>by
   rcases Qm.mp (hper2.mem_iff.mp hx) with h|h
   ·rw[Qo.mp h,QaL]
    exact⟨by show ls.length+1≤1100;omega,hlsp.2.app ZsB⟩
   ·obtain⟨y,hy,rfl⟩:=Qn.mp (hper'.mem_iff.mp h)
    have:=k0p y hy
    rw[QaL]
    exact⟨by omega,hlsp.2.app this.2⟩
  have kks:=hsrt2
  exact⟨kl,kk,rfl,hkl8,kks,kkl,kkp,B09.trans (But.same s98),L9.same s98⟩
 rintro σ H10 ⟨kl,kk,rfl,hkl8,kks,kkl,kkp,B10,L10⟩
 clear hts k0l
 have ow10:=owB B10
 refine⟨_,rfl,o,_,rfl,ZN.k' (k:=.inr "rows") ow10.at' (ZaS ..),_,rfl,ra,_,rfl,ZN.k' (k:=.inl e.1) ow10.rows hvR,e.2.1,_,rfl,.inl (SqL.of (ow10.lst e he).1),_,_,rfl,rfl,.inr ⟨_,rfl,_,_,rfl,rfl,.inl ⟨by decide,by decide⟩,?_⟩⟩
 refine⟨_,rfl,_,rfl,kl,rfl,⟨_,SqL.of hkl8⟩,fun D3 hD3=>?_⟩
 refine ZgY (K:=K) (a:=kl) (ss:=kk) (fun x=>!decide ((Txt.slice x none (some ((40:Nat):Int))).cps.toList<ls.cps.toList)) (fun x=>Txt.slice x none (some ((40:Nat):Int))) (fun σ=>∃v8 v:Option V,σ=[some (.ref p),some (.ref o),some (.ref l),some (.ref nl),some (.int wy),some (.int e.1),some (.str ls),some (.ref kl),v8,v]) hD3 (SqL.of hkl8) (by omega) ⟨_,_,rfl⟩ ?_ ?_
 ·rintro x hx σ Hx N M ⟨v8,v,rfl⟩ hN hM
  have hx1:=(kkp x hx).1
  exact⟨_,rfl,_,rfl,x,rfl,Qy hx1 (by decide),_,rfl,_,ls,rfl,rfl,_,rfl,ZaY (fun d=>⟨_,rfl,_,rfl,x,rfl,Qy hx1 (by decide),hN _ ⟨_,_,rfl⟩ d⟩) (fun d=>hM _ ⟨_,_,rfl⟩ (Qab.mpr d))⟩
 rintro σ5 ⟨v8,v5,rfl⟩
 have s11:=(Zh hD3 (.lst ((((kk.filter fun x=>!decide ((Txt.slice x none (some ((40:Nat):Int))).cps.toList<ls.cps.toList)).map fun x=>Txt.slice x none (some ((40:Nat):Int)))).map V.str)))
 refine⟨_,rfl,_,rfl,D3,_,rfl,SqL.of Zd,fun r' hr'=>?_⟩
 obtain⟨mm,hm6,hmm⟩:∃m:Nat,m≤6∧(6:Int)*(if decide (((e.2.2.1.map V.str).length:Int)<50)=true then 1 else 0)=(m:Int)∧(e.2.2.1.length<50∨m=0):=by
  by_cases h50:((e.2.2.1.map V.str).length:Int)<50
  ·rw[if_pos (decide_eq_true h50)]
   rw[Qa]at h50
   exact⟨6,Qh _,rfl,.inl (by omega)⟩
  ·rw[if_neg (by rw[decide_eq_false h50];exact Qk)]
   exact⟨0,by decide,rfl,.inr rfl⟩
 rw[hmm.1,Zl1,← List.map_take]
 obtain⟨k9,hk9⟩:∃z,z=(((kk.filter fun x=>!decide ((Txt.slice x none (some ((40:Nat):Int))).cps.toList<ls.cps.toList)).map fun x=>Txt.slice x none (some ((40:Nat):Int)))).take mm:=⟨_,rfl⟩
 rw[← hk9]
 have k9m:∀y∈k9,∃x∈kk,y=Txt.slice x none (some ((40:Nat):Int))∧LeS ls y:=fun y hy=>by
  rw[hk9]at hy
  obtain⟨x,hx,rfl⟩:=Qn.mp (QW hy)
  obtain⟨hx1,hx2⟩:=Qac.mp hx
  exact⟨x,hx1,rfl,fun z=>by rw[decide_eq_true z]at hx2;cases hx2⟩
 have k9s:sortedS k9=true:=by
  rw[ZgG]at kks ⊢
  rw[hk9]
  refine List.Pairwise.sublist (List.take_sublist ..) ?_
  exact QaS _ (fun a b h=>h.cut 40) (kks.sublist Qaf)
 refine⟨(by show 3≤sizeLine;decide),fun t ht=>?_⟩
 have s12:=s11.trans (Zh hr' (.lst (k9.map V.str)))
 have s13:=s12.trans (Zh ht (.tup [.str "grow",.int e.1,.ref r']))
 have B13:=B10.trans (But.same s13)
 refine q t r' .grow e.1 k9 (c6+1) _ (newH (B10.trans (But.same s12)) (.inr ⟨_,L10.same s12⟩) ht) (newH (B10.trans (But.same s11)) (.inr ⟨_,L10.same s11⟩) hr') Zd (Zh ht _ _ _ Zd) ?_ (fun y hy=>?_) ⟨_,Qd (f:=fun e:Zx=>(e.1,e.2.2)) he,rfl,Zkd (hrow e he).2 k9s fun y hy=>?_,?_⟩ (L10.same s13) (by omega) (by omega) B13
 ·rw[hk9,Qz];omega
 ·obtain⟨x,hx,rfl,_⟩:=k9m y hy
  refine⟨?_,fun c' hc'=>?_⟩
  ·have:=congrArg List.length (Ze9 x 40)
   rw[Qz]at this
   show (Txt.slice x none (some ((40:Nat):Int))).cps.size≤40
   rw[← Qan,this];omega
  ·have h1:c'∈x.cps.toList.take 40:=by rw[← Ze9];exact hc'
   exact(kkp x hx).2 c' (QW h1)
 ·obtain⟨x,hx,rfl,h⟩:=k9m y hy
  rw[← hls];exact h
 ·rcases hmm.2 with h|h
  ·exact .inl h
  ·exact .inr (by rw[hk9,h];rfl)
def Zgz(P:List Zak)(nb:Int):Prop:=P.length≤12∧∀x∈P,x.1<nb∧x.2.1.length≤60
theorem ZmG{P:List Zak}{nb n:Int}{ks:List Str}{d:ZgF}(h:Zgz P nb)(hd:ZiH P nb n ks d)(hk:ks.length≤6):Zn8 P nb n ks d:=by
 cases d with
 | add =>
  obtain⟨rfl,h1,h2,_⟩:=hd
  refine⟨rfl,fun x hx=>(h.2 x hx).1,?_,h2,by omega⟩
  have:=h.1
  omega
 | drop=>exact hd
 | grow =>
  obtain⟨x,hx,rfl,h1,h2⟩:=hd
  refine⟨x,hx,rfl,h1,?_⟩
  have:=(h.2 x hx).2
  rw[Qf]
  rcases h2 with h2|rfl
  ·omega
  ·show x.2.1.length+0≤100;omega
theorem Zn7{P:List Zak}{nb n:Int}{ks:List Str}{d:ZgF}(nd:(Zbr P).Nodup)(h:Zgz P nb)(hd:ZiH P nb n ks d)(hk:ks.length≤6):Zgz (Zml P n ks d) (d.nb nb):=by
 cases d with
 | add =>
  obtain⟨rfl,h1,h2,_⟩:=hd
  refine⟨?_,fun x hx=>?_⟩
  ·show (P++[(n,ks,0)]).length≤12
   rw[Qf,Qt]
   rcases h1 with h1|rfl
   ·omega
   ·decide
  ·show x.1<n+1∧_
   rcases Qm.mp hx with hx|hx
   ·have:=h.2 x hx;exact⟨by omega,this.2⟩
   ·rw[Qo.mp hx];exact⟨by show n<n+1;omega,by show ks.length≤60;omega⟩
 | drop=>exact⟨Qy (Q7 ..) h.1,fun x hx=>h.2 x (Qac.mp hx).1⟩
 | grow =>
  obtain⟨y,hy,rfl,h1,h2⟩:=hd
  refine⟨by show (List.map _ P).length≤12;rw[Qa];exact h.1,fun x hx=>?_⟩
  obtain⟨z,hz,rfl⟩:=Qn.mp hx
  have hz2:=h.2 z hz
  by_cases e:z.1=y.1
  ·have ez:z=y:=ZbP nd hz hy e
   subst ez
   rw[if_pos rfl]
   refine⟨hz2.1,?_⟩
   show (z.2.1++ks).length≤60
   rw[Qf]
   rcases h2 with h2|rfl
   ·omega
   ·exact hz2.2
  ·rw[if_neg e];exact hz2
theorem Zjn{P:List Zak}{nb:Int}(h:Zgz P nb)(n:Int):Zgz (ZbZ P n) nb:=by
 refine⟨by unfold ZbZ;rw[Qa];exact h.1,fun x hx=>?_⟩
 obtain⟨y,hy,rfl⟩:=Qn.mp hx
 have:=h.2 y hy
 unfold Zfe
 split
 ·exact this
 ·exact this
theorem Znk{P:List Zak}{nb:Int}(h:Zgz P nb):Zb7 P≤720:=by
 have:∀l:List Zak,(∀x∈l,x.2.1.length≤60)→(l.map fun x=>x.2.1.length-x.2.2).sum≤l.length*60:=fun l h=>by
  induction l with
  | nil=>exact Qh _
  | cons x r ih =>
   have h1:=ih fun y hy=>h y (Qv _ hy)
   have h2:=h x (by simp)
   rw[Qj,Qau,QK]
   omega
 have h1:=this P fun x hx=>(h.2 x hx).2
 have h2:=h.1
 unfold Zb7
 omega
theorem Zlz{P P':List Zak}{ts:List Zdh}{k q nb:Int}(h:ZbF P ts P' k q)(i:Zgz P nb):Zgz P' nb:=by
 induction h with
 | nil=>exact i
 | snoc _ _ ih=>exact Zjn ih _
structure Wk (cR cM:Addr) (HB:Hp) (p:Addr) (H:Hp) (X:MS) (Y:OS):Prop where
 pr:Zd6 cR cM H X Y
 nga:Y.ga≠Y.ra
 nb:X.nb=Y.nb
 inv:Zgz (Z5 X.L) X.nb
 fM:∀b,MFp X b→HB b=none
 fO:∀b,ZV Y b→HB b=none
 but:But p HB H
section
variable {cR cM:Addr} {HB:Hp} {p:Addr} {H H':Hp} {X X':MS} {Y Y':OS}
theorem Wk.to(W:Wk cR cM HB p H X Y)(hp:∃u,H p=some u)(pr':Zd6 cR cM H' X' Y')(nga':Y'.ga≠Y'.ra)(nb':X'.nb=Y'.nb)(inv':Zgz (Z5 X'.L) X'.nb)(fM:∀b,MFp X' b→MFp X b∨H b=none)(fO:∀b,ZV Y' b→ZV Y b∨H b=none)(k:∀b u,H b=some u→¬ MFp X b→¬ ZV Y b→H' b=some u):Wk cR cM HB p H' X' Y':=by
 have old:∀b,H b=none→HB b=none:=fun b hb=>by
  cases e:HB b with
  | none=>rfl
  | some u =>
   by_cases z:b=p
   ·obtain⟨u',hu'⟩:=hp;rw[z,hu']at hb;cases hb
   ·rw[W.but b u e z]at hb;cases hb
 refine⟨pr',nga',nb',inv',fun b hb=>(fM b hb).elim (W.fM b) (old b),fun b hb=>(fO b hb).elim (W.fO b) (old b),fun b u hb n=>k b u (W.but b u hb n) (fun z=>?_) (fun z=>?_)⟩
 ·rw[W.fM b z]at hb;cases hb
 ·rw[W.fO b z]at hb;cases hb
theorem Wk.same(W:Wk cR cM HB p H X Y)(s:ZF H H'):Wk cR cM HB p H' X Y:=⟨W.pr.same s,W.nga,W.nb,W.inv,W.fM,W.fO,W.but.trans (But.same s)⟩
theorem Wk.np(W:Wk cR cM HB p H X Y)(hB:∃u,HB p=some u):¬ MFp X p∧¬ ZV Y p:=by
 obtain⟨u,hu⟩:=hB
 exact⟨fun z=>(by rw[W.fM p z]at hu;cases hu),fun z=>(by rw[W.fO p z]at hu;cases hu)⟩
theorem Wk.draw(W:Wk cR cM HB p H X Y)(hB:∃u,HB p=some u){c:Int}(L:Zap H p c)(B:But p H H'):Wk cR cM HB p H' X Y:=⟨W.pr.but L (W.np hB).1 (W.np hB).2 B,W.nga,W.nb,W.inv,W.fM,W.fO,W.but.trans B⟩
theorem Wk.left(W:Wk cR cM HB p H X Y)(hB:∃u,HB p=some u){c:Int}(L:Zap H p c)(k:∀b u,H b=some u→¬ MFp X b→¬ ZV Y b→H' b=some u):Zap H' p c:=by
 obtain⟨g1,g2,hp,c0⟩:=L
 exact⟨g1,g2,k _ _ hp (W.np hB).1 (W.np hB).2,c0⟩
theorem Wk.take{H1 H2:Hp}(W:Wk cR cM HB p H X Y)(hp:∃u,H p=some u){x y:V}{L':List Zv}{s':StL}{w':Option Int}{k q k' q':Int}{Lo':List Zx}(hR:Zhy X.L X.w x L' k q H1)
  (M1:ZP cR cM H1 X.m X.rd X.sd L' s' X.nb (X.li+k) (X.lo+q) (Zce w')) (W1:Win (hdM L') (Zz L') w') (ok1:ZR (hdM L') s' (Zz L')) (k1:∀b o,H b=some o→¬ MFp X b→H1 b=some o)
  (hT:ZfF Y.Lo y Lo' k' q' H2) (ow2:Own H2 Y.o Y.ra Y.ga Lo' Y.nb (X.li+k') (X.lo+q')) (k2:∀b u,H1 b=some u→b≠Y.o→b≠Y.ga→H2 b=some u) :
  ∃ (X':MS) (Y':OS),Wk cR cM HB p H2 X' Y'∧X'.m=X.m∧Y'.o=Y.o∧IsD H2 4 x y∧(∀b,MFp X' b→MFp X b)∧(∀b,ZV Y' b→ZV Y b)∧(∀b u,H b=some u→¬ MFp X b→¬ ZV Y b→H2 b=some u):=by
 obtain⟨ek,eq,pr13,hD13,fpe,owe,hstep⟩:=ZlB W.pr hR M1 W1 ok1 k1 hT ow2 k2 2
 have kk:∀b u,H b=some u→¬ MFp X b→¬ ZV Y b→H2 b=some u:=fun b u hb n n'=>k2 b u (k1 b u hb n) (fun z=>n' (.inl z)) (fun z=>n' (.inr (.inr (.inl z))))
 refine⟨_,_,W.to hp pr13 W.nga W.nb ?_ (fun b hb=>.inl ((fpe b).mp hb)) (fun b hb=>.inl (owe b hb)) kk,rfl,rfl,hD13,fun b hb=>(fpe b).mp hb,owe,kk⟩
 rcases hstep with⟨_,e,_⟩|⟨u,z,_,eL⟩
 ·rw[show L'=X.L from e];exact W.inv
 ·show Zgz (Z5 L') X.nb
  rw[eL];exact Zjn W.inv _
theorem Wk.few{H9 H10:Hp}(W:Wk cR cM HB p H X Y)(hp:∃u,H p=some u){Lo':List Zx}{ts ts2:List Zdh}{k q k2 q2:Int}{L':List Zv}{s':StL}{w':Option Int}(ow9:Own H9 Y.o Y.ra Y.ga Lo' Y.nb (X.li+k) (X.lo+q))(htk:ZbF (Z5 X.L) ts (pur Lo') k q)(owe:∀b,ZV ⟨Y.o,Y.ra,Y.ga,Lo',Y.nb⟩ b↔ZV Y b)(k9:∀b u,H b=some u→¬ ZV Y b→H9 b=some u)
  (htk2:ZbF (Z5 X.L) ts2 (Z5 L') k2 q2) (hl:ts.length=ts2.length) (M10:ZP cR cM H10 X.m X.rd X.sd L' s' X.nb (X.li+k2) (X.lo+q2) (Zce w')) (W10:Win (hdM L') (Zz L') w') (ok10:ZR (hdM L') s' (Zz L')) (fp10:∀b,Fp X.m X.rd X.sd L' b↔Fp X.m X.rd X.sd X.L b) (k10:∀b o,H9 b=some o→¬ Fp X.m X.rd X.sd X.L b→H10 b=some o) :
  ts=ts2∧∃ (X':MS) (Y':OS),Wk cR cM HB p H10 X' Y'∧X'.m=X.m∧Y'.o=Y.o∧(∀b,MFp X' b→MFp X b)∧(∀b,ZV Y' b→ZV Y b)∧(∀b u,H b=some u→¬ MFp X b→¬ ZV Y b→H10 b=some u):=by
 obtain⟨ets,ePs,ek,eq⟩:=ZbF.one (ZiJ W.pr.mg) htk htk2 hl
 subst ek
 subst eq
 have kk:∀b u,H b=some u→¬ MFp X b→¬ ZV Y b→H10 b=some u:=fun b u hb n n'=>k10 b u (k9 b u hb n') n
 refine⟨ets,⟨X.m,X.rd,X.sd,L',s',X.nb,X.li+k,X.lo+q,w'⟩,⟨Y.o,Y.ra,Y.ga,Lo',Y.nb⟩,W.to hp ⟨⟨M10,W10,ok10⟩,ow9.keep fun b u hb ho'=>k10 b u hb fun z=>W.pr.sep b z ((owe b).mp ho'),ePs,fun b hb ho'=>W.pr.sep b ((fp10 b).mp hb) ((owe b).mp ho')⟩ W.nga W.nb (Zlz htk2 W.inv) (fun b hb=>.inl ((fp10 b).mp hb)) (fun b hb=>.inl ((owe b).mp hb)) kk,rfl,rfl,fun b hb=>(fp10 b).mp hb,fun b hb=>(owe b).mp hb,kk⟩
theorem Wk.put(W:Wk cR cM HB p H X Y){r:Addr}{u v:HO}(hr:H r=some u)(ht:∀xs,u≠.tup xs)(nM:¬ MFp X r)(nO:¬ ZV Y r)(hB:HB r=none):Wk cR cM HB p (upd H r v) X Y:=by
 refine⟨⟨W.pr.mg.keep fun b o hb hor=>?_,W.pr.ow.keep fun b o hb ho'=>?_,W.pr.ag,W.pr.sep⟩,W.nga,W.nb,W.inv,W.fM,W.fO,fun b o hb n=>?_⟩
 ·rw[Zb (fun z=>by
   rcases hor with y|⟨xs,rfl⟩
   ·rw[z]at y;exact nM y
   ·rw[z,hr]at hb;injection hb with hb;exact ht xs hb)]
  exact hb
 ·rw[Zb (fun z=>nO (by rw[← z];exact ho'))];exact hb
 ·rw[Zb (Zc hb hB)];exact W.but b o hb n
end
theorem Zqm{cR cM:Addr}{HB H6 H7 H8:Hp}{p r o ra ga m rd sd:Addr}{rs:List (Addr×List Str)}{Lo:List Zx}{L:List Zv}{st:StL}{w0:Option Int}{k0 q0 k2 q2:Int}
  (hrsB:ZdT HB r rs) (hxs:∀x∈rs,x.2.length≤60) (h12:rs.length≤12) (ho:HB o=none) (hra:HB ra=none) (hga:HB ga=none) (nga:ga≠ra) (hfr:∀e∈Lo,HB e.2.1=none∧e.2.1≠o)
  (hnewL:Zph Lo rs) (ow:Own H6 o ra ga Lo (rs.length:Int) k0 q0) (hpl:Zbx (hdL Lo) 8 (Lo.map (·.1)) k0 q0) (s6:ZF HB H6) (hm:H6 m=none) (s7:ZF H6 H7) (M8:ZP cR cM H8 m rd sd L st (rs.length:Int) k2 q2 (Zce w0)) (hnewM:ZnI L rs) (W8:Win (hdM L) (Zz L) w0) (S8:Zes (hdM L) st 8 (Zz L)) (P8:Zbx (hdM L) 8 (Zz L) k2 q2)
  (fp8:∀b,Fp m rd sd L b→b=m∨H7 b=none) (k8:∀b u,H7 b=some u→b≠m→H8 b=some u):∃ (X:MS) (Y:OS),Wk cR cM HB p H8 X Y∧X.m=m∧Y.o=o:=by
 have s68:ZF H6 H8:=fun b o hb=>k8 b o (s7 b o hb) (Zc hb hm)
 have sB8:ZF HB H8:=s6.trans s68
 have ag:Agr Lo L:=ZoG hnewL hnewM rfl
 obtain⟨e1,e2⟩:=hpl.one (by rw[Zgy ag,Zbn ag];exact P8)
 subst e1
 subst e2
 have ok8:=Zc5 8 (hdM L) st (Zz L) M8.up (Qy (show (Zz L).length≤60 by unfold Zz;rw[Qa];exact M8.few) (by decide)) (by decide) S8
 have eP:=Znp hnewM
 have hLl:L.length=rs.length:=by have:=congrArg List.length hnewM.1;unfold Zz at this;rw[Qa,Zfg]at this;exact this
 refine⟨⟨m,rd,sd,L,st,(rs.length:Int),k0,q0,w0⟩,⟨o,ra,ga,Lo,(rs.length:Int)⟩,⟨⟨⟨M8,W8,ok8⟩,ow.same s68,ag,fun b hb ho'=>?_⟩,nga,rfl,⟨?_,fun x hx=>?_⟩,fun b hb=>?_,fun b hb=>?_,But.same sB8⟩,rfl,rfl⟩
 ·obtain⟨u,hu,_⟩:=ow.live ho'
  rcases fp8 b hb with z|z
  ·rw[z,hm]at hu;cases hu
  ·rw[s7 _ _ hu]at z;cases z
 ·show (Z5 L).length≤12
  unfold Z5
  rw[Qa,hLl];exact h12
 ·obtain⟨e,he,rfl⟩:=Qn.mp hx
  refine⟨?_,?_⟩
  ·have h1':e.n∈Zet 0 rs.length:=by rw[← hnewM.1];exact Qd (f:=fun e:Zv=>e.n) he
   unfold Zet at h1'
   obtain⟨j,hj,ej⟩:=Qn.mp h1'
   have:=Qah.mp hj
   show e.n<(rs.length:Int)
   omega
  ·have h2:(e.ss,e.g)∈rs.map fun x=>(x.2,0):=by rw[← hnewM.2];exact Qd (f:=fun e:Zv=>(e.ss,e.g)) he
   obtain⟨y,hy,z⟩:=Qn.mp h2
   injection z with z _
   show e.ss.length≤60
   rw[← z];exact hxs y hy
 ·rcases fp8 b hb with z|z
  ·rw[z];exact s6.free hm
  ·exact s6.free (s7.free z)
 ·rcases hb with z|z|z|⟨e',he',z⟩
  ·rw[z];exact ho
  ·rw[z];exact hra
  ·rw[z];exact hga
  ·rw[z];exact(hfr e' he').1
def ZkN(K:PySem.W.Frag):Sp:=fun vs H Q _=>∃ (a:Addr) (ns:List Int),vs=[.ref a]∧SqL K H a (ns.map V.int)∧ns.length≤63∧∀H',Q (.bl true) H'
theorem Zp6{f:Addr}{fd:FuncData}(F:Fun K "law" "law" ZcT f fd)(T:Zaf K mg cRow cMerge):Zer P w K mg base CX0 18 f fd ["_law_script"] (ZkN K):=by
 have f_l_mix:Df P w K mg base 1 "_law_mix" ["_law_cell", "_law_k"] ZnH:=ZqN T
 have f_l_left:Df P w K mg base 1 "_law_left" ["_law_script", "_law_k"] (Zm4 K):=Zo7 T
 have f_l_pick:Df P w K mg base 2 "_law_pick" ["_law_left_here", "_law_many_here"] Zeb:=Zo9 T f_l_mix
 have f_l_stems:Df P w K mg base 3 "_law_stems" ["_law_left_here"] Ziv:=Zni T f_l_pick
 have f_l_key:Df P w K mg base 3 "_law_key" ["_law_left_here", "_law_stems_here"] ZnE:=Zp3 T f_l_pick
 have f_l_keys:Df P w K mg base 4 "_law_keys" ["_law_left_here", "_law_stems_here", "_law_most"] Zkt:=Zo5 T f_l_pick f_l_key
 have f_l_many:Df P w K mg base 3 "_law_many" ["_law_left_here"] Zkw:=ZoU T f_l_pick
 have f_l_row:Df P w K mg base 5 "_law_row" ["_law_left_here", "_law_stems_here", "_law_most"] ZiF:=Zpp T f_l_keys
 have f_l_rows:Df P w K mg base 6 "_law_rows" ["_law_left_here"] Zla:=Zn5 T f_l_pick f_l_stems f_l_many f_l_row
 have f_l_same:Df P w K mg base 5 "_law_same" ["_law_found", "_law_due"] (Zio 4):=ZkX T 4
 have f_alike_from:Df P w K mg base 1 "alike_from" ["one", "other", "far"] ZcH:=Zhi T
 have f_alike:Df P w K mg base 2 "alike" ["one", "other"] ZcL:=Zob T f_alike_from
 have f_order_at:Df P w K mg base 1 "order_at" ["one", "other", "at"] Zf7:=ZmX T
 have f_liken:Df P w K mg base 3 "liken" ["one", "other"] Zix:=Zmw T f_alike f_order_at
 have f_liken_from:Df P w K mg base 2 "liken_from" ["one", "other", "far"] ZdV:=Zhm T f_alike_from f_order_at
 have f_first_break:Df P w K mg base 4 "first_break" ["keys"] (ZnA K):=Znb T f_liken
 have f_refuse_break:Df P w K mg base 5 "refuse_break" ["number", "keys"] (Zd8 K):=ZlJ T f_first_break
 have f_alikes:Df P w K mg base 3 "alikes" ["row"] (ZeR K):=Zlt T f_alike
 have f_halves:Df P w K mg base 1 "halves" ["numbers"] (Zb6 K true):=Zlm T
 have f_Row_to_go:=ZoN T (P:=P) (w:=w) (base:=base)
 have f_Row_head:=Zpb T f_Row_to_go
 have f_Row_init:=Zkv T f_alikes
 have f_Merge_meet:=Zon T f_Row_head f_liken_from
 have f_Merge_play:=ZkU T f_Row_head f_halves f_Merge_meet 8
 have f_Merge_play_all:=Zi8 T f_Merge_play
 have f_Merge_init:=Zhs T f_refuse_break f_Row_init f_Merge_play_all
 have f_Merge_coming:=ZlG T f_Row_head
 have f_Merge_left:=ZmB T f_Row_to_go
 have f_Merge_heads:=Zme T f_Row_head
 have f_Merge_likenings:=Ziq T (P:=P) (w:=w) (base:=base)
 have f_Merge_looks:=Znj T (P:=P) (w:=w) (base:=base)
 have f_l_alike:Df P w K mg base 1 "_law_alike" ["_law_one", "_law_other"] ZcL:=Zj8 T
 have f_l_halves:Df P w K mg base 1 "_law_halves" ["_law_numbers"] (Zb6 K false):=ZjM T
 have f_l_least:=ZlW T (P:=P) (w:=w) (base:=base)
 have f_l_heads:=ZlF T (P:=P) (w:=w) (base:=base)
 have f_l_first_play:=ZpS T f_l_halves f_l_least f_l_alike 8
 have f_l_play:=ZnV T f_l_heads f_l_first_play
 have f_l_coming:=Zkq T f_l_heads f_l_least
 have f_l_left_of:=Zm5 T (P:=P) (w:=w) (base:=base)
 have f_l_world:=Zls T f_l_play
 have f_l_stands:=Zl0 T f_l_heads f_l_same f_l_coming f_l_left_of f_Merge_likenings f_Merge_looks f_Merge_coming f_Merge_left f_Merge_heads
 have f_way_up:Df P w K mg base 2 "way_up" ["numbers", "n"] Zn0:=ZqC T f_halves
 have f_matches_up:=Zj9 T f_way_up
 have f_Merge_play_again:=Zng T f_Merge_meet
 have f_Merge_send_out:=Zoo T f_Row_head f_matches_up f_Merge_play_again
 have f_Merge_take:=ZpD T f_Merge_coming f_Merge_send_out
 have f_Merge_take_few:=Zqb T f_Merge_take
 have f_Merge_add_row:=Zko T f_refuse_break f_Row_init f_Merge_play_all
 have f_Merge_row_of:=ZlP T (P:=P) (w:=w) (base:=base)
 have f_Merge_drop_row:=ZjV T f_Row_to_go f_Merge_row_of f_Merge_play_all
 have f_Row_lengthen:=Zjr T f_alikes
 have f_Merge_grow:=Zpx T f_Merge_row_of f_refuse_break f_Row_head f_Row_lengthen f_Merge_play_all
 have f_l_way:=Zoz T f_l_halves
 have f_l_taken:=Zmj T f_l_coming f_l_heads f_l_way f_l_least f_l_alike
 have f_l_done:=Zmv T f_l_same f_l_play f_Merge_add_row f_Merge_drop_row f_Merge_grow
 have f_l_late:=ZoB T f_l_pick f_l_row
 refine F.ok ZcA (fun vs H Q E h=>?_) (fun cdv A outer s H vs Q E hr h=>?_)
 ·obtain⟨a,ns,rfl,_⟩:=h
  rfl
 obtain⟨a,sc,rfl,hS,h63,q⟩:=h
 refine⟨_,#[Zf,#[Zcv,PassesOwn.never,#[ZbL,T.b.n_range,#[Za,#[ZG,Z8,#[Zi],#[Zk,(Zcj K),(by rfl),T.b.n_len,Qs,#[Za,#[ZbT,(slL K),‹0›,(@ZbM _),(@Zcc _ _ _ #[Zi])],#[Ze]]]],#[Ze]]],#[ZD,1,ZcA.nd,(Or.inl rfl)],#[Zf,#[Zw,2,ZcA.nd,(Or.inl rfl),#[Zy,f_l_left,hr,#[Za,‹0›,#[Za,‹1›,#[Ze]]],(by rfl)]],#[Zf,#[ZfP,3,4,ZcA.nd,#[Za,#[Zy,f_l_rows,hr,#[Za,‹2›,#[Ze]],(by rfl)],#[Za,#[Zy,f_l_stems,hr,#[Za,‹2›,#[Ze]],(by rfl)],#[Ze]]]],(@Zff _ _ _ _ _ #[Z3,#[ZaC,#[Za,#[Zy,f_l_world,hr,#[Za,‹3›,#[Ze]],(by rfl)],#[Za,#[ZnT,f_Merge_init,hr,#[Za,‹3›,#[Ze]]],#[Ze]]]],#[gT,K,2,#[ZB,#[ZD,5,ZcA.nd,(Or.inr rfl)],#[ZB,#[ZD,6,ZcA.nd,(Or.inl rfl)],(@ZaG _)]]]] #[Zj,#[Zcv,PassesOwn.never,#[ZbL,T.b.n_range,#[Za,#[ZG,Z8,#[Zi],#[Zy,f_l_pick,hr,#[Za,‹2›,#[Za,#[Zi],#[Ze]]],(by rfl)]],#[Ze]]],#[ZD,7,ZcA.nd,(Or.inl rfl)],#[Zf,#[Zw,8,ZcA.nd,(Or.inl rfl),#[Zy,f_l_pick,hr,#[Za,‹2›,#[Za,#[Zi],#[Ze]]],(by rfl)]],(@Zff _ _ _ _ _ #[ZZ,#[Zm,Zcu,‹8›,#[Zi],(Zp _)],#[Zj,#[ZZ,(@ZgZ _ _ _ _ #[ZcV,#[Zy,f_l_same,hr,#[Za,#[Zay,f_Merge_take,T.cl_Merge,hr,‹6›],#[Za,#[Zy,f_l_taken,hr,#[Za,#[pv,5,(Or.inr (Or.inl rfl))],#[Ze]],(by rfl)],#[Ze]]],(by rfl)]]),#[Zj,#[Zs,(@Zhd _ _ _ _)]],#[ZE]]],#[Zj,#[ZZ,#[Zm,Za1,‹8›,#[Zi],(Zp _)],#[Zf,#[Zw,9,ZcA.nd,(Or.inl rfl),#[Zy,f_l_pick,hr,#[Za,‹2›,#[Za,#[Zi],#[Ze]]],(by rfl)]],#[Zf,#[ZeN,10,ZcA.nd,Zlj,#[ZbL,T.b.n_range,#[Za,#[Zk,(ZhQ rfl),(by rfl),T.b.n_min,boot_min,#[Za,‹9›,#[Za,#[Zy,f_l_left_of,hr,#[Za,#[pv,5,(Or.inr (Or.inl rfl))],#[Ze]],(by rfl)],#[Ze]]]],#[Ze]]],(fun _ _ _ _=>#[cg,12,Zlj]),(fun _ _ _ _=>(@Zcb _)),(fun _ _ _ _=>#[Zy,f_l_taken,hr,#[Za,#[cv,5,Zlj],#[Ze]],(ZbK Zlj rfl (by decide +kernel))])],#[Zj,#[ZZ,(@ZgZ _ _ _ _ #[ZcV,#[Zy,f_l_same,hr,#[Za,#[ZcM,f_Merge_take_few,T.cl_Merge,hr,‹6›,#[Za,‹9›,#[Ze]]],#[Za,‹10›,#[Ze]]],(by rfl)]]),#[Zj,#[Zs,(@Zhd _ _ _ _)]],#[ZE]]]]],#[Zf,#[Zw,11,ZcA.nd,(Or.inl rfl),#[Zy,f_l_late,hr,#[Za,‹2›,#[Za,#[pv,5,(Or.inr (Or.inl rfl))],#[Za,‹4›,#[Ze]]]],(by rfl)]],#[Zf,#[ZZ,(@ZgZ _ _ _ _ #[ZcV,#[Zy,f_l_done,hr,#[Za,‹6›,#[Za,#[pv,5,(Or.inr (Or.inl rfl))],#[Za,‹11›,#[Ze]]]],(by rfl)]]),#[Zj,#[Zs,(@Zhd _ _ _ _)]],#[ZE]],#[Zj,#[Zab,(@Znz _ _ _ _ _ _ _ _ _ QO PySem.F.slot_list_clear PySem.F.type_list_clear Zm0 #[Zo,(ixT K),‹11›,#[Zi]] (by rfl) (by rfl))]]]]]]] #[Zj,#[ZZ,(@ZgZ _ _ _ _ #[ZcV,#[Zy,f_l_stands,hr,#[Za,‹6›,#[Za,#[pv,5,(Or.inr (Or.inl rfl))],#[Ze]]],(by rfl)]]),#[Zj,#[Zs,(@Zhd _ _ _ _)]],#[ZE]]])]]])]]],#[Zj,#[Zs,(@Zhd _ _ _ _)]]],?_⟩
 have hcl:=ZfV (sc.map V.int) none (some 4)
 have hlen:(sc.map V.int).length=sc.length:=by rw[Qa]
 have sz2:2≤sizeLine:=by decide
 refine⟨_,rfl,_,rfl,a,_,rfl,hS,fun e he=>⟨e,_,rfl,.inl (SqL.of Zd),_,_,rfl,rfl,_,rfl,by omega,by omega,?_⟩⟩
 have s1:ZF H (upd H e (.lst (Zf3 (sc.map V.int) none (some 4)))):=Zh he _
 refine Zep (fun i σ H2=>∃v1 v2 v3 v4 v5 v6 v7 v8 v9 v10 v11:Option V,σ=[some (.ref a),v1,v2,v3,v4,v5,v6,v7,v8,v9,v10,v11]∧ZF H H2) ⟨_,_,_,_,_,_,_,_,_,_,_,rfl,s1⟩ ?_ ?_
 ·rintro ii σ H2 hi ⟨v1,v2,v3,v4,v5,v6,v7,v8,v9,v10,v11,rfl,s2⟩
  have hi8:(ii:Int)<65:=by omega
  refine⟨_,rfl,_,rfl,a,sc,_,rfl,s2.seq hS,h63,by omega,by omega,fun p H3 hp L3 s3=>?_⟩
  have nHp:H p=none:=s2.free hp
  refine⟨_,rfl,p,0,rfl,L3,by decide,fun r rs c4 H4 hr0 hrs hxs h12 L4 a1 a2 B4=>?_⟩
  refine⟨_,rfl,p,c4,rfl,L4,by omega,fun l ss c5 HB hl0 hl h1 h4 hss LB b1 b2 BB=>?_⟩
  have nrp:r≠p:=by obtain⟨o,ho⟩:=L3.here;exact(Zc ho hr0).symm
  have nlp:l≠p:=by obtain⟨o,ho⟩:=L4.here;exact(Zc ho hl0).symm
  have hsrt:∀x∈rs,sortedS x.2=true:=fun x hx=>(hxs x hx).2.2.2.1
  have hrsB:ZdT HB r rs:=⟨BB _ _ hrs.at' nrp,hrs.few,fun x hx=>let ⟨g1,g2⟩:=hrs.lst x hx;⟨BB _ _ g1 (hxs x hx).2.2.1,g2⟩⟩
  have sHB:ZF H HB:=fun b o hb=>BB b o (B4 b o (s3 b o (s2 b o hb)) (Zc hb nHp)) (Zc hb nHp)
  have hpB:∃u,HB p=some u:=LB.here
  have hc5:0≤c5∧c5≤20000:=by omega
  clear a1 a2 b1 b2 hi hcl hlen hi8 h63
  refine⟨_,_,rfl,?_⟩
  refine⟨fun σ H9=>∃ (X:MS) (Y:OS),σ=[some (.ref a),some (.int (0+(ii:Int))),some (.ref p),some (.ref r),some (.ref l),some (.ref Y.o),some (.ref X.m),v7,v8,v9,v10,v11]∧Wk cRow cMerge HB p H9 X Y∧Zap H9 p c5,?_,?_⟩
  ·refine⟨_,rfl,r,rs,rfl,hrsB,fun o ra ga Lo k0 q0 H6 ho hra hga nga hfr hnewL ow hpl s6=>?_⟩
   refine⟨_,rfl,fun m dx hm hdx nmd=>?_⟩
   have s7:ZF H6 (upd (upd H6 dx (.own m)) m (.ins cMerge dx [])):=fun b o hb=>by rw[Zb (Zc hb hm),Zb (Zc hb hdx)];exact hb
   have hm7:(upd (upd H6 dx (.own m)) m (.ins cMerge dx [])) m=some (.ins cMerge dx []):=Zd
   generalize upd (upd H6 dx (.own m)) m (.ins cMerge dx [])=H7 at s7 hm7 ⊢
   refine⟨m,dx,r,rs,rfl,hm7,(hrsB.same s6).same s7,hsrt,fun rd sd L st w0 k2 q2 H8 M8 hnewM W8 S8 P8 fp8 k8=>⟨rfl,sz2,fun t ht=>⟨t,_,rfl,SqT.of Zd,rfl,_,_,rfl,_,_,rfl,rfl,?_⟩⟩⟩
   have W8':∃ (X:MS) (Y:OS),Wk cRow cMerge HB p H8 X Y∧X.m=m∧Y.o=o:=Zqm hrsB (fun x hx=>(hxs x hx).2.2.2.2) h12 ho hra hga nga hfr hnewL ow hpl s6 hm s7 M8 hnewM W8 S8 P8 fp8 k8
   obtain⟨X8,Y8,W8,rfl,rfl⟩:=W8'
   have st8:=Zh ht (.tup [.ref Y8.o,.ref X8.m])
   have W9:=W8.same st8
   generalize upd H8 t (.tup [.ref Y8.o,.ref X8.m])=H9 at st8 W9 ⊢
   have L9:Zap H9 p c5:=by
    obtain⟨g1,g2,hp',c0⟩:=LB
    exact⟨g1,g2,st8 _ _ (k8 _ _ (s7 _ _ (s6 _ _ hp')) (fun z=>by rw[z]at hp';rw[s6 _ _ hp']at hm;cases hm)),c0⟩
   exact⟨X8,Y8,rfl,W9,L9⟩
  rintro σ H9 ⟨X8,Y8,rfl,W9,L9⟩
  refine⟨_,rfl,p,c5,_,rfl,L9,by omega,by decide,by decide,fun tn H10 tn0 tn1 L10 B10=>?_⟩
  have W10:=W9.draw hpB L9 B10
  refine⟨_,_,rfl,rfl,_,rfl,by omega,by omega,?_⟩
  refine Zep (fun i σ H5=>∃ (X:MS) (Y:OS) (c:Int) (v7 v8 v9 v10 v11:Option V),σ=[some (.ref a),some (.int (0+(ii:Int))),some (.ref p),some (.ref r),some (.ref l),some (.ref Y.o),some (.ref X.m),v7,v8,v9,v10,v11]∧Wk cRow cMerge HB p H5 X Y∧Zap H5 p c∧c≤c5+1+710*(i:Int)) ⟨X8,Y8,c5+1,_,_,_,_,_,rfl,W10,L10,by omega⟩ ?_ ?_
  ·rintro i σ H5 hi' ⟨X,Y,c,v7',v8',v9',v10',v11',rfl,W,L5,hc⟩
   have hi30:i<31:=by omega
   have c0:=L5.ge
   refine⟨_,rfl,p,c,_,rfl,L5,by omega,by decide,by decide,fun wy H10 wy0 wy6 L10 B10=>?_⟩
   have W10:=W.draw hpB L5 B10
   have pr:=W10.pr
   have hrise:(Y.Lo.map (·.1)).Pairwise (·<·):=by rw[Zbn pr.ag];exact pr.mg.M.up
   refine⟨fun σ H5=>∃ (X:MS) (Y:OS) (c':Int) (v9 v10 v11:Option V),σ=[some (.ref a),some (.int (0+(ii:Int))),some (.ref p),some (.ref r),some (.ref l),some (.ref Y.o),some (.ref X.m),some (.int (0+(i:Int))),some (.int wy),v9,v10,v11]∧Wk cRow cMerge HB p H5 X Y∧Zap H5 p c'∧c'≤c+705,?_,?_⟩
   rotate_left
   ·rintro σ H14 ⟨X',Y',c',v9,v10,v11,rfl,W14,L14,hc'⟩
    refine⟨_,rfl,_,rfl,X'.m,X'.rd,X'.sd,X'.L,X'.s,X'.nb,X'.li,X'.lo,X'.w,Y'.o,Y'.ra,Y'.ga,Y'.Lo,Y'.nb,rfl,W14.pr.mg.M,W14.pr.mg.W,W14.pr.ow,W14.pr.ag,fun H15 s15=>⟨_,rfl,ZbE ?_⟩⟩
    exact⟨X',Y',c',_,_,_,_,_,rfl,W14.same s15,L14.same s15,by omega⟩
   refine⟨_,rfl,_,_,rfl,rfl,_,rfl,ZaY (fun d=>?_) (fun d=>?_)⟩
   ·obtain⟨dx11,hm11⟩:=pr.mg.M.ob
    refine⟨_,rfl,X.m,dx11,_,rfl,hm11,Zgj ..,X.m,X.rd,X.sd,X.L,X.s,X.nb,X.li,X.lo,X.w,rfl,pr.mg.M,pr.mg.W,pr.mg.ok,fun x L' s' w' k3 q3 H12 hR M12 W12 ok12 k12=>?_⟩
    have ow12:Own H12 Y.o Y.ra Y.ga Y.Lo Y.nb X.li X.lo:=pr.ow.keep fun b u hb ho'=>k12 b u hb fun z=>pr.sep b z ho'
    refine⟨_,rfl,Y.o,Y.ra,Y.ga,Y.Lo,Y.nb,X.li,X.lo,rfl,ow12,hrise,fun y Lo' k4 q4 H13 hT ow13 k13=>?_⟩
    obtain⟨X',Y',W13,eM,eO,hD13,_,_,kk⟩:=W10.take L10.here hR M12 W12 ok12 k12 hT ow13 k13
    have L13:=W10.left hpB L10 kk
    refine⟨x,y,rfl,hD13,fun H14 s14=>⟨_,rfl,ZbE ?_⟩⟩
    have W14:=W13.same s14
    have L14:=L13.same s14
    rw[← eM,← eO]
    exact⟨X',Y',c+1,_,_,_,rfl,W14,L14,by omega⟩
   refine⟨_,rfl,rfl,_,rfl,ZaY (fun d3=>?_) (fun d3=>?_)⟩
   ·refine⟨_,rfl,p,c+1,_,rfl,L10,by omega,by decide,by decide,fun mn H11 mn0 mn7 L11 B11=>?_⟩
    have W11:=W10.draw hpB L10 B11
    obtain⟨mm,rfl⟩:∃mm:Nat,mn=(mm:Int):=⟨mn.toNat,by omega⟩
    refine⟨_,rfl,_,rfl,Y.o,Y.ra,Y.ga,Y.Lo,Y.nb,X.li,X.lo,rfl,W11.pr.ow,fun H8 s8=>?_⟩
    have W8:=W11.same s8
    have hlp:=ZnF W11.pr.ow
    have eP':=Zgf W11.pr.ag
    have ndX:=ZiJ W11.pr.mg
    have hleft:=Znk W11.inv
    simp only[hlp,eP']
    refine⟨_,_,rfl,?_⟩
    refine⟨_,rfl,by omega,by omega,fun D hD=>?_⟩
    have ow8':=W8.pr.ow
    refine Zds (fun i9 zs σ H9=>∃ (v:Option V) (Lo':List Zx) (us:List (Addr×Zdh)) (k q:Int),σ=[some (.ref a),some (.int (0+(ii:Int))),some (.ref p),some (.ref r),some (.ref l),some (.ref Y.o),some (.ref X.m),some (.int (0+(i:Int))),some (.int wy),some (.int (mm:Int)),v10',v11',v]∧zs=(us.map fun u=>V.ref u.1)∧(∀u∈us,u.1≠D∧H9 u.1=some (.tup [.int u.2.1,.int (u.2.2.1:Int),.str u.2.2.2]))∧Own H9 Y.o Y.ra Y.ga Lo' Y.nb (X.li+k) (X.lo+q)∧ZbF (pur Y.Lo) (us.map (·.2)) (pur Lo') k q∧us.length=i9∧H9 D=some (.lst zs)∧(∀b,ZV ⟨Y.o,Y.ra,Y.ga,Lo',Y.nb⟩ b↔ZV Y b)∧(∀b u,H8 b=some u→¬ ZV Y b→H9 b=some u)) ?_ ?_ ?_
    ·refine⟨none,Y.Lo,[],0,0,rfl,rfl,(fun u h=>by cases h),?_,.nil,rfl,Zd,fun _=>Iff.rfl,fun b u hb _=>Zh hD _ _ _ hb⟩
     rw[QP,QP]
     exact ow8'.same (Zh hD _)
    ·rintro i9 zs σ H9 hi9 ⟨v,Lo',us,k,q',rfl,rfl,hus,ow9,htk,hul,hD9,owe,k9⟩
     have hDo:¬ ZV Y D:=fun z=>by
      obtain⟨u,hu,_⟩:=ow8'.live z
      rw[hD]at hu;cases hu
     have hnum:Zbr (pur Lo')=Zbr (pur Y.Lo):=htk.num
     have hr':(Lo'.map (·.1)).Pairwise (·<·):=by rw[Zch,hnum,← Zch];exact hrise
     have ndO:(Zbr (pur Y.Lo)).Nodup:=by rw[eP'];exact ndX
     refine⟨_,rfl,Y.o,Y.ra,Y.ga,Lo',Y.nb,_,_,rfl,ow9,hr',fun x Lo'' k' q'' H10 hT ow10 k10=>?_⟩
     have hlt:=htk.left ndO
     rw[Qa,eP']at hlt
     rcases Zj4 hT with⟨w0,_⟩|⟨yy,z,t,stp,eL,rfl,ht⟩
     ·have:=Zh4 (by rw[hnum];exact ndO) w0 (ZqO ow9)
      omega
     have kO:∀b u,H9 b=some u→¬ ZV Y b→H10 b=some u:=fun b u hb n=>k10 b u hb (fun e=>n (.inl e)) (fun e=>n (.inr (.inr (.inl e))))
     have hD10:=kO _ _ hD9 hDo
     have htD:t≠D:=fun e=>by rw[e,hD10]at ht;cases ht
     refine⟨hD10,(by rw[Qa,hul];exact ZC (by omega)),_,Lo'',us++[(t,(yy.1,yy.2.2,z))],k+k',q'+q'',rfl,by rw[Qe];rfl,fun u hu=>?_,?_,?_,by rw[Qf,Qt,hul],Zd,fun b=>(hT.own).trans (owe b),fun b u hb n=>?_⟩
     ·rcases Qm.mp hu with hu|hu
      ·obtain⟨g1,g2⟩:=hus u hu
       refine⟨g1,?_⟩
       rw[Zb g1]
       refine kO _ _ g2 fun z=>?_
       obtain⟨u',hu',hn⟩:=ow9.live ((owe _).mpr z)
       rw[g2]at hu';cases hu';exact hn _ rfl
      ·rw[Qo.mp hu]
       exact⟨htD,by rw[Zb htD];exact ht⟩
     ·rw[← Int.add_assoc,← Int.add_assoc]
      refine ow10.keep fun b u hb ho'=>?_
      rw[Zb (show b≠D from fun e=>hDo (by rw[← e];exact(owe b).mp ((hT.own).mp ho')))]
      exact hb
     ·rw[Qe,eL]
      exact .snoc htk stp
     ·rw[Zb (Zc hb hD)]
      exact kO b u (k9 b u hb n) n
    rintro zs σ H9 ⟨v,Lo',us,k,q',rfl,rfl,hus,ow9,htk,hul,hD9,owe,k9⟩
    have mg8:=W8.pr.mg
    have mg9:MOk cRow cMerge H9 X:=mg8.keep fun b u hb hor=>k9 b u hb (W8.pr.nO hb hor)
    obtain⟨dx9,hm9⟩:=mg9.M.ob
    have hDm:¬ MFp X D:=mg8.M.fp_fresh hD
    refine⟨_,rfl,X.m,dx9,_,rfl,hm9,Zmh ..,_,rfl,X.m,X.rd,X.sd,X.L,X.s,X.nb,X.li,X.lo,X.w,(mm:Int),rfl,mg9.M,mg9.W,mg9.ok,by omega,fun rr us2 L' s' w' k2' q2' H10 hrr hrr10 hus2 htk2 hfin hmany M10 W10' ok10 fp10 k10=>?_⟩
    have hlen2:=Zm8 (ts:=us2.map (·.2)) (many:=mm) ndX htk2 (by rw[Qa];exact hfin) (by rw[Qa];exact fun z=>hmany fun y=>z (by rw[y];rfl)) W10' (fun x hx=>by obtain⟨e,he,rfl⟩:=Qn.mp hx;exact(M10.each e he).le)
    rw[Qa]at hlen2
    rw[eP']at htk
    obtain⟨ets,X',Y',W12,eM,eO,_,_,kk⟩:=W8.few (L11.same s8).here ow9 htk owe k9 htk2 (by rw[Qa,Qa,hul,hlen2];omega) M10 W10' ok10 fp10 k10
    have L12:=W8.left hpB (L11.same s8) kk
    have hus10:∀u∈us,H10 u.1=some (.tup [.int u.2.1,.int (u.2.2.1:Int),.str u.2.2.2]):=fun u hu=>k10 _ _ (hus u hu).2 (mg9.M.fp_tup (hus u hu).2)
    refine⟨_,rfl,.ref rr,.ref D,rfl,Zf9 hrr10 (k10 _ _ hD9 hDm) (by rw[Qa,hlen2];omega) (Zii us2 us ets.symm hus2 hus10),fun H11' s11=>⟨_,rfl,ZbE ?_⟩⟩
    have W13:=W12.same s11
    rw[← eM,← eO]
    exact⟨X',Y',c+1+1,_,_,_,rfl,W13,L12.same s11,by omega⟩
   ·have sPO:∀e∈Y.Lo,e.2.1≠p∧sortedS e.2.2.1=true:=fun e he=>by
     refine⟨fun z=>(W10.np hpB).2 (.inr (.inr (.inr ⟨e,he,z.symm⟩))),?_⟩
     have:(e.1,e.2.2)∈Z5 X.L:=by rw[← Zgf pr.ag];exact Qd (f:=fun e:Zx=>(e.1,e.2.2)) he
     obtain⟨e',he',z⟩:=Qn.mp this
     injection z with _ z
     rw[← z];exact(pr.mg.M.each e' he').srt
    refine⟨_,rfl,_,rfl,_,rfl,p,Y.o,Y.ra,Y.ga,l,c+1,Y.Lo,Y.nb,X.li,X.lo,ss,rfl,L10,by omega,pr.ow,fun z=>(W10.np hpB).2 (.inl z.symm),fun z=>(W10.np hpB).2 (.inr (.inl z.symm)),fun z=>(W10.np hpB).2 (.inr (.inr (.inl z.symm))),sPO,hrise,W10.but _ _ hl nlp,nlp,h1,h4,hss,fun t' r' dd n ks c' H11 ht0 hr0' ht11 hr11 hk6 hks hlate L11 e1 e2 B11=>?_⟩
    have W11:=W10.draw hpB L10 B11
    have hlate':ZiH (Z5 X.L) X.nb n ks dd:=by rw[← Zgf pr.ag,W.nb];exact hlate
    have nM:¬ MFp X r':=pr.mg.M.fp_fresh hr0'
    have nO:¬ ZV Y r':=fun z=>by obtain⟨u,hu,_⟩:=pr.ow.live z;rw[hr0']at hu;cases hu
    have nMt:¬ MFp X t':=pr.mg.M.fp_fresh ht0
    have nOt:¬ ZV Y t':=fun z=>by obtain⟨u,hu,_⟩:=pr.ow.live z;rw[ht0]at hu;cases hu
    refine⟨_,rfl,_,rfl,_,rfl,X,Y,t',r',dd,n,ks,rfl,W11.pr,W11.nga,W11.nb,ht11,hr11,nM,nO,fun x hx=>⟨by have:=(hks x hx).1;omega,(hks x hx).2⟩,by omega,ZmG W11.inv hlate' hk6,fun X' Y' H12 pr12 eM eO nga' nb' nbe pure' fM fO kk=>⟨_,rfl,ZbE ?_⟩⟩
    have W12:=W11.to L11.here pr12 nga' nb' (by rw[pure',nbe];exact Zn7 (ZiJ W11.pr.mg) W11.inv hlate' hk6) fM fO kk
    have L12:=W11.left hpB L11 kk
    have ht12:=kk _ _ ht11 nMt nOt
    have hr12:=kk _ _ hr11 nM nO
    have nM':¬ MFp X' r':=fun z=>(fM r' z).elim nM fun y=>by rw[hr11]at y;cases y
    have nO':¬ ZV Y' r':=fun z=>(fO r' z).elim nO fun y=>by rw[hr11]at y;cases y
    have npr:r'≠p:=by obtain⟨u,hu⟩:=L10.here;exact(Zc hu hr0').symm
    have hBr:HB r'=none:=by
     cases e:HB r' with
     | none=>rfl
     | some u=>rw[W10.but r' u e npr]at hr0';cases hr0'
    rw[← eM,← eO]
    refine⟨_,rfl,t',_,_,_,rfl,rfl,SqT.of ht12,rfl,(show L2.tyV K "list" (.ref r') H12 from .inl ⟨rfl,_,SqL.of hr12⟩),r',_,rfl,rfl,hr12,?_⟩
    have W13:=W12.put (v:=.lst []) hr12 (fun xs z=>by cases z) nM' nO' hBr
    have L13:Zap (upd H12 r' (.lst [])) p c':=L12.at npr.symm
    exact⟨X',Y',c',_,_,_,rfl,W13,L13,by omega⟩
  ·rintro σ H5 ⟨X,Y,c,v7',v8',v9',v10',v11',rfl,W,L5,hc⟩
   refine⟨_,_,_,_,_,_,_,_,_,_,_,rfl,fun b u hb=>?_⟩
   exact W.but b u (sHB b u hb) (Zc hb nHp)
 ·rintro σ H2 ⟨v1,v2,v3,v4,v5,v6,v7,v8,v9,v10,v11,rfl,s2⟩
  exact q H2
end
theorem ZT{K:PySem.W.Frag}{h:Heap}{mg:Str→Option Value}{x:Str}{st:Stmt}{ps:List Str}{f:Addr}{od an:Option Addr}{sl:Array (Option Value)}{oc kV dc pm cd ct:Value}(X:K.In h)(G:h.Ns mainGlobals mg)
  (a:PySem.W.nsIn K mainGlobals x=some (some (.ref f))) (l:K.lookup f=some ⟨oc,od,.func (PySem.W.fnOf x x (Zq st) (Zn st) (Zg st) .none kV dc pm an cd ct),sl⟩) (c:PySem.W.codeIn K cd x=true) (k:PySem.W.keepIn K (.ref f)=true)
  (hb:∀ (kV doc pm:Value) (an:Option Addr) (cdv ct:Value) (us:List Value),us.length=ps.length→bindArgs (PySem.W.fnOf x x (Zq st) (Zn st) (Zg st) .none kV doc pm an cdv ct) ⟨us,[]⟩=pure (ps.zip us)):Top K mg x st ps :=
 ⟨_,_,ZJ (st:=st) l c k,Qa3 X G a,(ZJ (st:=st) l c k).binds hb⟩
theorem ZcF:∀us:List Value,us.length=1→∃a0,us=[a0]
 | [a0],_=>⟨a0,rfl⟩
theorem Zcf:∀us:List Value,us.length=2→∃a0 a1,us=[a0,a1]
 | [a0,a1],_=>⟨a0,a1,rfl⟩
theorem Zik:∀us:List Value,us.length=3→∃a0 a1 a2,us=[a0,a1,a2]
 | [a0,a1,a2],_=>⟨a0,a1,a2,rfl⟩
theorem Zsz:∀us:List Value,us.length=4→∃a0 a1 a2 a3,us=[a0,a1,a2,a3]
 | [a0,a1,a2,a3],_=>⟨a0,a1,a2,a3,rfl⟩
theorem all_mk{l:PySem.W.OpenLaw}{w:World}{K:PySem.W.Frag}{h:Heap}{mg:Str→Option Value}{fa:Addr}(X:K.In h)(G:h.Ns mainGlobals mg)(hfa:mg "law" = some (.ref fa))
  {cRow:Addr}
  {cMerge:Addr}
  {f0:Addr} {od0 an0:Option Addr} {sl0:Array (Option Value)} {oc0 kV0 dc0 pm0 cd0 ct0:Value}
  {f1:Addr} {od1 an1:Option Addr} {sl1:Array (Option Value)} {oc1 kV1 dc1 pm1 cd1 ct1:Value}
  {f2:Addr} {od2 an2:Option Addr} {sl2:Array (Option Value)} {oc2 kV2 dc2 pm2 cd2 ct2:Value}
  {f3:Addr} {od3 an3:Option Addr} {sl3:Array (Option Value)} {oc3 kV3 dc3 pm3 cd3 ct3:Value}
  {f4:Addr} {od4 an4:Option Addr} {sl4:Array (Option Value)} {oc4 kV4 dc4 pm4 cd4 ct4:Value}
  {f5:Addr} {od5 an5:Option Addr} {sl5:Array (Option Value)} {oc5 kV5 dc5 pm5 cd5 ct5:Value}
  {f6:Addr} {od6 an6:Option Addr} {sl6:Array (Option Value)} {oc6 kV6 dc6 pm6 cd6 ct6:Value}
  {f7:Addr} {od7 an7:Option Addr} {sl7:Array (Option Value)} {oc7 kV7 dc7 pm7 cd7 ct7:Value}
  {f8:Addr} {od8 an8:Option Addr} {sl8:Array (Option Value)} {oc8 kV8 dc8 pm8 cd8 ct8:Value}
  {f9:Addr} {od9 an9:Option Addr} {sl9:Array (Option Value)} {oc9 kV9 dc9 pm9 cd9 ct9:Value}
  {f10:Addr} {od10 an10:Option Addr} {sl10:Array (Option Value)} {oc10 kV10 dc10 pm10 cd10 ct10:Value}
  {f11:Addr} {od11 an11:Option Addr} {sl11:Array (Option Value)} {oc11 kV11 dc11 pm11 cd11 ct11:Value}
  {f12:Addr} {od12 an12:Option Addr} {sl12:Array (Option Value)} {oc12 kV12 dc12 pm12 cd12 ct12:Value}
  {f13:Addr} {od13 an13:Option Addr} {sl13:Array (Option Value)} {oc13 kV13 dc13 pm13 cd13 ct13:Value}
  {f14:Addr} {od14 an14:Option Addr} {sl14:Array (Option Value)} {oc14 kV14 dc14 pm14 cd14 ct14:Value}
  {f15:Addr} {od15 an15:Option Addr} {sl15:Array (Option Value)} {oc15 kV15 dc15 pm15 cd15 ct15:Value}
  {f16:Addr} {od16 an16:Option Addr} {sl16:Array (Option Value)} {oc16 kV16 dc16 pm16 cd16 ct16:Value}
  {f17:Addr} {od17 an17:Option Addr} {sl17:Array (Option Value)} {oc17 kV17 dc17 pm17 cd17 ct17:Value}
  {f18:Addr} {od18 an18:Option Addr} {sl18:Array (Option Value)} {oc18 kV18 dc18 pm18 cd18 ct18:Value}
  {f19:Addr} {od19 an19:Option Addr} {sl19:Array (Option Value)} {oc19 kV19 dc19 pm19 cd19 ct19:Value}
  {f20:Addr} {od20 an20:Option Addr} {sl20:Array (Option Value)} {oc20 kV20 dc20 pm20 cd20 ct20:Value}
  {f21:Addr} {od21 an21:Option Addr} {sl21:Array (Option Value)} {oc21 kV21 dc21 pm21 cd21 ct21:Value}
  {f22:Addr} {od22 an22:Option Addr} {sl22:Array (Option Value)} {oc22 kV22 dc22 pm22 cd22 ct22:Value}
  {f23:Addr} {od23 an23:Option Addr} {sl23:Array (Option Value)} {oc23 kV23 dc23 pm23 cd23 ct23:Value}
  {f24:Addr} {od24 an24:Option Addr} {sl24:Array (Option Value)} {oc24 kV24 dc24 pm24 cd24 ct24:Value}
  {f25:Addr} {od25 an25:Option Addr} {sl25:Array (Option Value)} {oc25 kV25 dc25 pm25 cd25 ct25:Value}
  {f26:Addr} {od26 an26:Option Addr} {sl26:Array (Option Value)} {oc26 kV26 dc26 pm26 cd26 ct26:Value}
  {f27:Addr} {od27 an27:Option Addr} {sl27:Array (Option Value)} {oc27 kV27 dc27 pm27 cd27 ct27:Value}
  {f28:Addr} {od28 an28:Option Addr} {sl28:Array (Option Value)} {oc28 kV28 dc28 pm28 cd28 ct28:Value}
  {f29:Addr} {od29 an29:Option Addr} {sl29:Array (Option Value)} {oc29 kV29 dc29 pm29 cd29 ct29:Value}
  {f30:Addr} {od30 an30:Option Addr} {sl30:Array (Option Value)} {oc30 kV30 dc30 pm30 cd30 ct30:Value}
  {f31:Addr} {od31 an31:Option Addr} {sl31:Array (Option Value)} {oc31 kV31 dc31 pm31 cd31 ct31:Value}
  {f32:Addr} {od32 an32:Option Addr} {sl32:Array (Option Value)} {oc32 kV32 dc32 pm32 cd32 ct32:Value}
  {f33:Addr} {od33 an33:Option Addr} {sl33:Array (Option Value)} {oc33 kV33 dc33 pm33 cd33 ct33:Value}
  {f34:Addr} {od34 an34:Option Addr} {sl34:Array (Option Value)} {oc34 kV34 dc34 pm34 cd34 ct34:Value}
  {f35:Addr} {od35 an35:Option Addr} {sl35:Array (Option Value)} {oc35 kV35 dc35 pm35 cd35 ct35:Value}
  {f36:Addr} {od36 an36:Option Addr} {sl36:Array (Option Value)} {oc36 kV36 dc36 pm36 cd36 ct36:Value}
  {f37:Addr} {od37 an37:Option Addr} {sl37:Array (Option Value)} {oc37 kV37 dc37 pm37 cd37 ct37:Value}
  {f38:Addr} {od38 an38:Option Addr} {sl38:Array (Option Value)} {oc38 kV38 dc38 pm38 cd38 ct38:Value}
  {f39:Addr} {od39 an39:Option Addr} {sl39:Array (Option Value)} {oc39 kV39 dc39 pm39 cd39 ct39:Value}
  {f40:Addr} {od40 an40:Option Addr} {sl40:Array (Option Value)} {oc40 kV40 dc40 pm40 cd40 ct40:Value}
  {f41:Addr} {od41 an41:Option Addr} {sl41:Array (Option Value)} {oc41 kV41 dc41 pm41 cd41 ct41:Value}
  {f42:Addr} {od42 an42:Option Addr} {sl42:Array (Option Value)} {oc42 kV42 dc42 pm42 cd42 ct42:Value}
  {f43:Addr} {od43 an43:Option Addr} {sl43:Array (Option Value)} {oc43 kV43 dc43 pm43 cd43 ct43:Value}
  {f44:Addr} {od44 an44:Option Addr} {sl44:Array (Option Value)} {oc44 kV44 dc44 pm44 cd44 ct44:Value}
  {f45:Addr} {od45 an45:Option Addr} {sl45:Array (Option Value)} {oc45 kV45 dc45 pm45 cd45 ct45:Value}
  {f46:Addr} {od46 an46:Option Addr} {sl46:Array (Option Value)} {oc46 kV46 dc46 pm46 cd46 ct46:Value}
  {f47:Addr} {od47 an47:Option Addr} {sl47:Array (Option Value)} {oc47 kV47 dc47 pm47 cd47 ct47:Value}
  {f48:Addr} {od48 an48:Option Addr} {sl48:Array (Option Value)} {oc48 kV48 dc48 pm48 cd48 ct48:Value}
  {f49:Addr} {od49 an49:Option Addr} {sl49:Array (Option Value)} {oc49 kV49 dc49 pm49 cd49 ct49:Value}
  {f50:Addr} {od50 an50:Option Addr} {sl50:Array (Option Value)} {oc50 kV50 dc50 pm50 cd50 ct50:Value}
  {f51:Addr} {od51 an51:Option Addr} {sl51:Array (Option Value)} {oc51 kV51 dc51 pm51 cd51 ct51:Value}
  {f52:Addr} {od52 an52:Option Addr} {sl52:Array (Option Value)} {oc52 kV52 dc52 pm52 cd52 ct52:Value}
  {f53:Addr} {od53 an53:Option Addr} {sl53:Array (Option Value)} {oc53 kV53 dc53 pm53 cd53 ct53:Value}
  {f54:Addr} {od54 an54:Option Addr} {sl54:Array (Option Value)} {oc54 kV54 dc54 pm54 cd54 ct54:Value}
  {f55:Addr} {od55 an55:Option Addr} {sl55:Array (Option Value)} {oc55 kV55 dc55 pm55 cd55 ct55:Value}
  {f56:Addr} {od56 an56:Option Addr} {sl56:Array (Option Value)} {oc56 kV56 dc56 pm56 cd56 ct56:Value}
  {tkMOST_ROWS:Tok}
  (aCRow:#[Xns,K,"Row",cRow]) (pgRow:PySem.W.plainGet K cRow Str.empty=true) (hdRow:PySem.W.hasDictIn K cRow=true) (poRow:PySem.W.plainOver K cRow=true) (saRow:PySem.W.findIn K (.ref cRow) "__setattr__" = some (some (.builtin "object.__setattr__"))) (mkRow:PySem.W.makesIn K cRow=true) (kcRow:PySem.W.keepIn K (.ref cRow)=true)
  (nARow_all_keys:PySem.W.findIn K (.ref cRow) "all_keys" = some none)
  (nARow_fars:PySem.W.findIn K (.ref cRow) "fars" = some none)
  (nARow_gone:PySem.W.findIn K (.ref cRow) "gone" = some none)
  (aCMerge:#[Xns,K,"Merge",cMerge]) (pgMerge:PySem.W.plainGet K cMerge Str.empty=true) (hdMerge:PySem.W.hasDictIn K cMerge=true) (poMerge:PySem.W.plainOver K cMerge=true) (saMerge:PySem.W.findIn K (.ref cMerge) "__setattr__" = some (some (.builtin "object.__setattr__"))) (mkMerge:PySem.W.makesIn K cMerge=true) (kcMerge:PySem.W.keepIn K (.ref cMerge)=true)
  (nAMerge_best:PySem.W.findIn K (.ref cMerge) "best" = some none)
  (nAMerge_likened:PySem.W.findIn K (.ref cMerge) "likened" = some none)
  (nAMerge_looked:PySem.W.findIn K (.ref cMerge) "looked" = some none)
  (nAMerge_next_number:PySem.W.findIn K (.ref cMerge) "next_number" = some none)
  (nAMerge_rows:PySem.W.findIn K (.ref cMerge) "rows" = some none)
  (nAMerge_stays:PySem.W.findIn K (.ref cMerge) "stays" = some none)
  (a0:#[Xns,K,"halves",f0]) (l0:#[Xlk,K,f0,oc0,od0,"halves","halves",Zdl,kV0,dc0,pm0,an0,cd0,ct0,sl0]) (c0:PySem.W.codeIn K cd0 "halves" = true) (k0:PySem.W.keepIn K (.ref f0)=true)
  (a1:#[Xns,K,"way_up",f1]) (l1:#[Xlk,K,f1,oc1,od1,"way_up","way_up",Zc4,kV1,dc1,pm1,an1,cd1,ct1,sl1]) (c1:PySem.W.codeIn K cd1 "way_up" = true) (k1:PySem.W.keepIn K (.ref f1)=true)
  (a2:#[Xns,K,"alike",f2]) (l2:#[Xlk,K,f2,oc2,od2,"alike","alike",Zd3,kV2,dc2,pm2,an2,cd2,ct2,sl2]) (c2:PySem.W.codeIn K cd2 "alike" = true) (k2:PySem.W.keepIn K (.ref f2)=true)
  (a3:#[Xns,K,"liken",f3]) (l3:#[Xlk,K,f3,oc3,od3,"liken","liken",Zed,kV3,dc3,pm3,an3,cd3,ct3,sl3]) (c3:PySem.W.codeIn K cd3 "liken" = true) (k3:PySem.W.keepIn K (.ref f3)=true)
  (a4:#[Xns,K,"liken_from",f4]) (l4:#[Xlk,K,f4,oc4,od4,"liken_from","liken_from",Zbk,kV4,dc4,pm4,an4,cd4,ct4,sl4]) (c4:PySem.W.codeIn K cd4 "liken_from" = true) (k4:PySem.W.keepIn K (.ref f4)=true)
  (a5:#[Xns,K,"alike_from",f5]) (l5:#[Xlk,K,f5,oc5,od5,"alike_from","alike_from",Zbm,kV5,dc5,pm5,an5,cd5,ct5,sl5]) (c5:PySem.W.codeIn K cd5 "alike_from" = true) (k5:PySem.W.keepIn K (.ref f5)=true)
  (a6:#[Xns,K,"order_at",f6]) (l6:#[Xlk,K,f6,oc6,od6,"order_at","order_at",ZbS,kV6,dc6,pm6,an6,cd6,ct6,sl6]) (c6:PySem.W.codeIn K cd6 "order_at" = true) (k6:PySem.W.keepIn K (.ref f6)=true)
  (a7:#[Xns,K,"first_break",f7]) (l7:#[Xlk,K,f7,oc7,od7,"first_break","first_break",Zbb,kV7,dc7,pm7,an7,cd7,ct7,sl7]) (c7:PySem.W.codeIn K cd7 "first_break" = true) (k7:PySem.W.keepIn K (.ref f7)=true)
  (a8:#[Xns,K,"alikes",f8]) (l8:#[Xlk,K,f8,oc8,od8,"alikes","alikes",Zc3,kV8,dc8,pm8,an8,cd8,ct8,sl8]) (c8:PySem.W.codeIn K cd8 "alikes" = true) (k8:PySem.W.keepIn K (.ref f8)=true)
  (a9:#[Xns,K,"refuse_break",f9]) (l9:#[Xlk,K,f9,oc9,od9,"refuse_break","refuse_break",ZaZ,kV9,dc9,pm9,an9,cd9,ct9,sl9]) (c9:PySem.W.codeIn K cd9 "refuse_break" = true) (k9:PySem.W.keepIn K (.ref f9)=true)
  (a10:#[Xns,K,"matches_up",f10]) (l10:#[Xlk,K,f10,oc10,od10,"matches_up","matches_up",Zbp,kV10,dc10,pm10,an10,cd10,ct10,sl10]) (c10:PySem.W.codeIn K cd10 "matches_up" = true) (k10:PySem.W.keepIn K (.ref f10)=true)
  (a11:#[Xns,K,"_law_mix",f11]) (l11:#[Xlk,K,f11,oc11,od11,"_law_mix","_law_mix",ZdO,kV11,dc11,pm11,an11,cd11,ct11,sl11]) (c11:PySem.W.codeIn K cd11 "_law_mix" = true) (k11:PySem.W.keepIn K (.ref f11)=true)
  (a12:#[Xns,K,"_law_left",f12]) (l12:#[Xlk,K,f12,oc12,od12,"_law_left","_law_left",Zdq,kV12,dc12,pm12,an12,cd12,ct12,sl12]) (c12:PySem.W.codeIn K cd12 "_law_left" = true) (k12:PySem.W.keepIn K (.ref f12)=true)
  (a13:#[Xns,K,"_law_pick",f13]) (l13:#[Xlk,K,f13,oc13,od13,"_law_pick","_law_pick",Zdj,kV13,dc13,pm13,an13,cd13,ct13,sl13]) (c13:PySem.W.codeIn K cd13 "_law_pick" = true) (k13:PySem.W.keepIn K (.ref f13)=true)
  (a14:#[Xns,K,"_law_stems",f14]) (l14:#[Xlk,K,f14,oc14,od14,"_law_stems","_law_stems",ZbG,kV14,dc14,pm14,an14,cd14,ct14,sl14]) (c14:PySem.W.codeIn K cd14 "_law_stems" = true) (k14:PySem.W.keepIn K (.ref f14)=true)
  (a15:#[Xns,K,"_law_key",f15]) (l15:#[Xlk,K,f15,oc15,od15,"_law_key","_law_key",Zc8,kV15,dc15,pm15,an15,cd15,ct15,sl15]) (c15:PySem.W.codeIn K cd15 "_law_key" = true) (k15:PySem.W.keepIn K (.ref f15)=true)
  (a16:#[Xns,K,"_law_keys",f16]) (l16:#[Xlk,K,f16,oc16,od16,"_law_keys","_law_keys",Zdf,kV16,dc16,pm16,an16,cd16,ct16,sl16]) (c16:PySem.W.codeIn K cd16 "_law_keys" = true) (k16:PySem.W.keepIn K (.ref f16)=true)
  (a17:#[Xns,K,"_law_row",f17]) (l17:#[Xlk,K,f17,oc17,od17,"_law_row","_law_row",Zd0,kV17,dc17,pm17,an17,cd17,ct17,sl17]) (c17:PySem.W.codeIn K cd17 "_law_row" = true) (k17:PySem.W.keepIn K (.ref f17)=true)
  (a18:#[Xns,K,"_law_many",f18]) (l18:#[Xlk,K,f18,oc18,od18,"_law_many","_law_many",Zdn,kV18,dc18,pm18,an18,cd18,ct18,sl18]) (c18:PySem.W.codeIn K cd18 "_law_many" = true) (k18:PySem.W.keepIn K (.ref f18)=true)
  (a19:#[Xns,K,"_law_rows",f19]) (l19:#[Xlk,K,f19,oc19,od19,"_law_rows","_law_rows",Zcp,kV19,dc19,pm19,an19,cd19,ct19,sl19]) (c19:PySem.W.codeIn K cd19 "_law_rows" = true) (k19:PySem.W.keepIn K (.ref f19)=true)
  (a20:#[Xns,K,"_law_alike",f20]) (l20:#[Xlk,K,f20,oc20,od20,"_law_alike","_law_alike",Zcs,kV20,dc20,pm20,an20,cd20,ct20,sl20]) (c20:PySem.W.codeIn K cd20 "_law_alike" = true) (k20:PySem.W.keepIn K (.ref f20)=true)
  (a21:#[Xns,K,"_law_halves",f21]) (l21:#[Xlk,K,f21,oc21,od21,"_law_halves","_law_halves",Zb5,kV21,dc21,pm21,an21,cd21,ct21,sl21]) (c21:PySem.W.codeIn K cd21 "_law_halves" = true) (k21:PySem.W.keepIn K (.ref f21)=true)
  (a22:#[Xns,K,"_law_least",f22]) (l22:#[Xlk,K,f22,oc22,od22,"_law_least","_law_least",ZbI,kV22,dc22,pm22,an22,cd22,ct22,sl22]) (c22:PySem.W.codeIn K cd22 "_law_least" = true) (k22:PySem.W.keepIn K (.ref f22)=true)
  (a23:#[Xns,K,"_law_same",f23]) (l23:#[Xlk,K,f23,oc23,od23,"_law_same","_law_same",Zco,kV23,dc23,pm23,an23,cd23,ct23,sl23]) (c23:PySem.W.codeIn K cd23 "_law_same" = true) (k23:PySem.W.keepIn K (.ref f23)=true)
  (a24:#[Xns,K,"_law_world",f24]) (l24:#[Xlk,K,f24,oc24,od24,"_law_world","_law_world",ZcE,kV24,dc24,pm24,an24,cd24,ct24,sl24]) (c24:PySem.W.codeIn K cd24 "_law_world" = true) (k24:PySem.W.keepIn K (.ref f24)=true)
  (a25:#[Xns,K,"_law_heads",f25]) (l25:#[Xlk,K,f25,oc25,od25,"_law_heads","_law_heads",ZcD,kV25,dc25,pm25,an25,cd25,ct25,sl25]) (c25:PySem.W.codeIn K cd25 "_law_heads" = true) (k25:PySem.W.keepIn K (.ref f25)=true)
  (a26:#[Xns,K,"_law_first_play",f26]) (l26:#[Xlk,K,f26,oc26,od26,"_law_first_play","_law_first_play",ZaX,kV26,dc26,pm26,an26,cd26,ct26,sl26]) (c26:PySem.W.codeIn K cd26 "_law_first_play" = true) (k26:PySem.W.keepIn K (.ref f26)=true)
  (a27:#[Xns,K,"_law_play",f27]) (l27:#[Xlk,K,f27,oc27,od27,"_law_play","_law_play",Zdc,kV27,dc27,pm27,an27,cd27,ct27,sl27]) (c27:PySem.W.codeIn K cd27 "_law_play" = true) (k27:PySem.W.keepIn K (.ref f27)=true)
  (a28:#[Xns,K,"_law_way",f28]) (l28:#[Xlk,K,f28,oc28,od28,"_law_way","_law_way",Zd2,kV28,dc28,pm28,an28,cd28,ct28,sl28]) (c28:PySem.W.codeIn K cd28 "_law_way" = true) (k28:PySem.W.keepIn K (.ref f28)=true)
  (a29:#[Xns,K,"_law_coming",f29]) (l29:#[Xlk,K,f29,oc29,od29,"_law_coming","_law_coming",Zb2,kV29,dc29,pm29,an29,cd29,ct29,sl29]) (c29:PySem.W.codeIn K cd29 "_law_coming" = true) (k29:PySem.W.keepIn K (.ref f29)=true)
  (a30:#[Xns,K,"_law_taken",f30]) (l30:#[Xlk,K,f30,oc30,od30,"_law_taken","_law_taken",Zcr,kV30,dc30,pm30,an30,cd30,ct30,sl30]) (c30:PySem.W.codeIn K cd30 "_law_taken" = true) (k30:PySem.W.keepIn K (.ref f30)=true)
  (a31:#[Xns,K,"_law_left_of",f31]) (l31:#[Xlk,K,f31,oc31,od31,"_law_left_of","_law_left_of",Zbe,kV31,dc31,pm31,an31,cd31,ct31,sl31]) (c31:PySem.W.codeIn K cd31 "_law_left_of" = true) (k31:PySem.W.keepIn K (.ref f31)=true)
  (a32:#[Xns,K,"_law_stands",f32]) (l32:#[Xlk,K,f32,oc32,od32,"_law_stands","_law_stands",Zb4,kV32,dc32,pm32,an32,cd32,ct32,sl32]) (c32:PySem.W.codeIn K cd32 "_law_stands" = true) (k32:PySem.W.keepIn K (.ref f32)=true)
  (a33:#[Xns,K,"_law_late",f33]) (l33:#[Xlk,K,f33,oc33,od33,"_law_late","_law_late",Zbu,kV33,dc33,pm33,an33,cd33,ct33,sl33]) (c33:PySem.W.codeIn K cd33 "_law_late" = true) (k33:PySem.W.keepIn K (.ref f33)=true)
  (a34:#[Xns,K,"_law_done",f34]) (l34:#[Xlk,K,f34,oc34,od34,"_law_done","_law_done",Zc2,kV34,dc34,pm34,an34,cd34,ct34,sl34]) (c34:PySem.W.codeIn K cd34 "_law_done" = true) (k34:PySem.W.keepIn K (.ref f34)=true)
  (a35:#[Xns,K,"law",f35]) (l35:#[Xlk,K,f35,oc35,od35,"law","law",ZcT,kV35,dc35,pm35,an35,cd35,ct35,sl35]) (c35:PySem.W.codeIn K cd35 "law" = true) (k35:PySem.W.keepIn K (.ref f35)=true)
  (a36:#[Xfi,K,cRow,"__init__",f36]) (i36:PySem.W.isFn K (.ref f36)=true) (l36:#[Xlk,K,f36,oc36,od36,"__init__","Row.__init__",Za7,kV36,dc36,pm36,an36,cd36,ct36,sl36]) (c36:PySem.W.codeIn K cd36 "Row.__init__" = true) (k36:PySem.W.keepIn K (.ref f36)=true)
  (a37:#[Xfi,K,cRow,"to_go",f37]) (i37:PySem.W.isFn K (.ref f37)=true) (l37:#[Xlk,K,f37,oc37,od37,"to_go","Row.to_go",ZaW,kV37,dc37,pm37,an37,cd37,ct37,sl37]) (c37:PySem.W.codeIn K cd37 "Row.to_go" = true) (k37:PySem.W.keepIn K (.ref f37)=true)
  (a38:#[Xfi,K,cRow,"head",f38]) (i38:PySem.W.isFn K (.ref f38)=true) (l38:#[Xlk,K,f38,oc38,od38,"head","Row.head",Za9,kV38,dc38,pm38,an38,cd38,ct38,sl38]) (c38:PySem.W.codeIn K cd38 "Row.head" = true) (k38:PySem.W.keepIn K (.ref f38)=true)
  (a39:#[Xfi,K,cRow,"lengthen",f39]) (i39:PySem.W.isFn K (.ref f39)=true) (l39:#[Xlk,K,f39,oc39,od39,"lengthen","Row.lengthen",Zaq,kV39,dc39,pm39,an39,cd39,ct39,sl39]) (c39:PySem.W.codeIn K cd39 "Row.lengthen" = true) (k39:PySem.W.keepIn K (.ref f39)=true)
  (a40:#[Xfi,K,cMerge,"__init__",f40]) (i40:PySem.W.isFn K (.ref f40)=true) (l40:#[Xlk,K,f40,oc40,od40,"__init__","Merge.__init__",ZaL,kV40,dc40,pm40,an40,cd40,ct40,sl40]) (c40:PySem.W.codeIn K cd40 "Merge.__init__" = true) (k40:PySem.W.keepIn K (.ref f40)=true)
  (a41:#[Xfi,K,cMerge,"coming",f41]) (i41:PySem.W.isFn K (.ref f41)=true) (l41:#[Xlk,K,f41,oc41,od41,"coming","Merge.coming",Zas,kV41,dc41,pm41,an41,cd41,ct41,sl41]) (c41:PySem.W.codeIn K cd41 "Merge.coming" = true) (k41:PySem.W.keepIn K (.ref f41)=true)
  (a42:#[Xfi,K,cMerge,"take",f42]) (i42:PySem.W.isFn K (.ref f42)=true) (l42:#[Xlk,K,f42,oc42,od42,"take","Merge.take",ZaK,kV42,dc42,pm42,an42,cd42,ct42,sl42]) (c42:PySem.W.codeIn K cd42 "Merge.take" = true) (k42:PySem.W.keepIn K (.ref f42)=true)
  (a43:#[Xfi,K,cMerge,"take_few",f43]) (i43:PySem.W.isFn K (.ref f43)=true) (l43:#[Xlk,K,f43,oc43,od43,"take_few","Merge.take_few",Zac,kV43,dc43,pm43,an43,cd43,ct43,sl43]) (c43:PySem.W.codeIn K cd43 "Merge.take_few" = true) (k43:PySem.W.keepIn K (.ref f43)=true)
  (a44:#[Xfi,K,cMerge,"left",f44]) (i44:PySem.W.isFn K (.ref f44)=true) (l44:#[Xlk,K,f44,oc44,od44,"left","Merge.left",Zaz,kV44,dc44,pm44,an44,cd44,ct44,sl44]) (c44:PySem.W.codeIn K cd44 "Merge.left" = true) (k44:PySem.W.keepIn K (.ref f44)=true)
  (a45:#[Xfi,K,cMerge,"heads",f45]) (i45:PySem.W.isFn K (.ref f45)=true) (l45:#[Xlk,K,f45,oc45,od45,"heads","Merge.heads",Zao,kV45,dc45,pm45,an45,cd45,ct45,sl45]) (c45:PySem.W.codeIn K cd45 "Merge.heads" = true) (k45:PySem.W.keepIn K (.ref f45)=true)
  (a46:#[Xfi,K,cMerge,"likenings",f46]) (i46:PySem.W.isFn K (.ref f46)=true) (l46:#[Xlk,K,f46,oc46,od46,"likenings","Merge.likenings",Z4,kV46,dc46,pm46,an46,cd46,ct46,sl46]) (c46:PySem.W.codeIn K cd46 "Merge.likenings" = true) (k46:PySem.W.keepIn K (.ref f46)=true)
  (a47:#[Xfi,K,cMerge,"looks",f47]) (i47:PySem.W.isFn K (.ref f47)=true) (l47:#[Xlk,K,f47,oc47,od47,"looks","Merge.looks",ZaD,kV47,dc47,pm47,an47,cd47,ct47,sl47]) (c47:PySem.W.codeIn K cd47 "Merge.looks" = true) (k47:PySem.W.keepIn K (.ref f47)=true)
  (a48:#[Xfi,K,cMerge,"add_row",f48]) (i48:PySem.W.isFn K (.ref f48)=true) (l48:#[Xlk,K,f48,oc48,od48,"add_row","Merge.add_row",Zai,kV48,dc48,pm48,an48,cd48,ct48,sl48]) (c48:PySem.W.codeIn K cd48 "Merge.add_row" = true) (k48:PySem.W.keepIn K (.ref f48)=true)
  (a49:#[Xfi,K,cMerge,"drop_row",f49]) (i49:PySem.W.isFn K (.ref f49)=true) (l49:#[Xlk,K,f49,oc49,od49,"drop_row","Merge.drop_row",Zaa,kV49,dc49,pm49,an49,cd49,ct49,sl49]) (c49:PySem.W.codeIn K cd49 "Merge.drop_row" = true) (k49:PySem.W.keepIn K (.ref f49)=true)
  (a50:#[Xfi,K,cMerge,"grow",f50]) (i50:PySem.W.isFn K (.ref f50)=true) (l50:#[Xlk,K,f50,oc50,od50,"grow","Merge.grow",ZaO,kV50,dc50,pm50,an50,cd50,ct50,sl50]) (c50:PySem.W.codeIn K cd50 "Merge.grow" = true) (k50:PySem.W.keepIn K (.ref f50)=true)
  (a51:#[Xfi,K,cMerge,"row_of",f51]) (i51:PySem.W.isFn K (.ref f51)=true) (l51:#[Xlk,K,f51,oc51,od51,"row_of","Merge.row_of",Zar,kV51,dc51,pm51,an51,cd51,ct51,sl51]) (c51:PySem.W.codeIn K cd51 "Merge.row_of" = true) (k51:PySem.W.keepIn K (.ref f51)=true)
  (a52:#[Xfi,K,cMerge,"play_all",f52]) (i52:PySem.W.isFn K (.ref f52)=true) (l52:#[Xlk,K,f52,oc52,od52,"play_all","Merge.play_all",Z9,kV52,dc52,pm52,an52,cd52,ct52,sl52]) (c52:PySem.W.codeIn K cd52 "Merge.play_all" = true) (k52:PySem.W.keepIn K (.ref f52)=true)
  (a53:#[Xfi,K,cMerge,"play",f53]) (i53:PySem.W.isFn K (.ref f53)=true) (l53:#[Xlk,K,f53,oc53,od53,"play","Merge.play",ZaJ,kV53,dc53,pm53,an53,cd53,ct53,sl53]) (c53:PySem.W.codeIn K cd53 "Merge.play" = true) (k53:PySem.W.keepIn K (.ref f53)=true)
  (a54:#[Xfi,K,cMerge,"send_out",f54]) (i54:PySem.W.isFn K (.ref f54)=true) (l54:#[Xlk,K,f54,oc54,od54,"send_out","Merge.send_out",Zad,kV54,dc54,pm54,an54,cd54,ct54,sl54]) (c54:PySem.W.codeIn K cd54 "Merge.send_out" = true) (k54:PySem.W.keepIn K (.ref f54)=true)
  (a55:#[Xfi,K,cMerge,"play_again",f55]) (i55:PySem.W.isFn K (.ref f55)=true) (l55:#[Xlk,K,f55,oc55,od55,"play_again","Merge.play_again",ZY,kV55,dc55,pm55,an55,cd55,ct55,sl55]) (c55:PySem.W.codeIn K cd55 "Merge.play_again" = true) (k55:PySem.W.keepIn K (.ref f55)=true)
  (a56:#[Xfi,K,cMerge,"meet",f56]) (i56:PySem.W.isFn K (.ref f56)=true) (l56:#[Xlk,K,f56,oc56,od56,"meet","Merge.meet",ZaI,kV56,dc56,pm56,an56,cd56,ct56,sl56]) (c56:PySem.W.codeIn K cd56 "Merge.meet" = true) (k56:PySem.W.keepIn K (.ref f56)=true)
  (giMOST_ROWS:PySem.W.nsIn K mainGlobals "MOST_ROWS" = some (some (.int 16 tkMOST_ROWS)))
  (z0:PySem.W.nsIn K mainGlobals "abs" = some none) (z1:PySem.W.nsIn K mainGlobals "all" = some none) (z2:PySem.W.nsIn K mainGlobals "bool" = some none) (z3:PySem.W.nsIn K mainGlobals "enumerate" = some none) (z4:PySem.W.nsIn K mainGlobals "int" = some none) (z5:PySem.W.nsIn K mainGlobals "isinstance" = some none) (z6:PySem.W.nsIn K mainGlobals "len" = some none) (z7:PySem.W.nsIn K mainGlobals "list" = some none) (z8:PySem.W.nsIn K mainGlobals "max" = some none) (z9:PySem.W.nsIn K mainGlobals "min" = some none) (z10:PySem.W.nsIn K mainGlobals "range" = some none) (z11:PySem.W.nsIn K mainGlobals "sorted" = some none) (z12:PySem.W.nsIn K mainGlobals "str" = some none) (z13:PySem.W.nsIn K mainGlobals "sum" = some none) (z14:PySem.W.nsIn K mainGlobals "tuple" = some none) (z15:PySem.W.nsIn K mainGlobals "zip" = some none) :
  ∃fd:FuncData,(∀ (s:Shared) (v:Value),BindsTo s fd ⟨[v],[]⟩ [("_law_script",v)])∧∀base:Heap,K.In base→base.Ns mainGlobals mg→Zer l.prog w K mg base CX0 18 fa fd ["_law_script"] (ZkN K):=by
 have e:=hfa.symm.trans (Qa3 X G a35)
 cases e
 have T:Zaf K mg cRow cMerge:=⟨⟨QG X G z0,QG X G z1,QG X G z2,QG X G z3,QG X G z4,QG X G z5,QG X G z6,QG X G z7,QG X G z8,QG X G z9,QG X G z10,QG X G z11,QG X G z12,QG X G z13,QG X G z14,QG X G z15⟩,ZT X G a0 l0 c0 k0 (fun _ _ _ _ _ _ us hl=>by obtain⟨_,rfl⟩:=ZcF us hl;exact rfl),ZT X G a1 l1 c1 k1 (fun _ _ _ _ _ _ us hl=>by obtain⟨_,_,rfl⟩:=Zcf us hl;exact rfl),ZT X G a2 l2 c2 k2 (fun _ _ _ _ _ _ us hl=>by obtain⟨_,_,rfl⟩:=Zcf us hl;exact rfl),ZT X G a3 l3 c3 k3 (fun _ _ _ _ _ _ us hl=>by obtain⟨_,_,rfl⟩:=Zcf us hl;exact rfl),ZT X G a4 l4 c4 k4 (fun _ _ _ _ _ _ us hl=>by obtain⟨_,_,_,rfl⟩:=Zik us hl;exact rfl),ZT X G a5 l5 c5 k5 (fun _ _ _ _ _ _ us hl=>by obtain⟨_,_,_,rfl⟩:=Zik us hl;exact rfl),ZT X G a6 l6 c6 k6 (fun _ _ _ _ _ _ us hl=>by obtain⟨_,_,_,rfl⟩:=Zik us hl;exact rfl),ZT X G a7 l7 c7 k7 (fun _ _ _ _ _ _ us hl=>by obtain⟨_,rfl⟩:=ZcF us hl;exact rfl),ZT X G a8 l8 c8 k8 (fun _ _ _ _ _ _ us hl=>by obtain⟨_,rfl⟩:=ZcF us hl;exact rfl),ZT X G a9 l9 c9 k9 (fun _ _ _ _ _ _ us hl=>by obtain⟨_,_,rfl⟩:=Zcf us hl;exact rfl),ZT X G a10 l10 c10 k10 (fun _ _ _ _ _ _ us hl=>by obtain⟨_,_,rfl⟩:=Zcf us hl;exact rfl),ZT X G a11 l11 c11 k11 (fun _ _ _ _ _ _ us hl=>by obtain⟨_,_,rfl⟩:=Zcf us hl;exact rfl),ZT X G a12 l12 c12 k12 (fun _ _ _ _ _ _ us hl=>by obtain⟨_,_,rfl⟩:=Zcf us hl;exact rfl),ZT X G a13 l13 c13 k13 (fun _ _ _ _ _ _ us hl=>by obtain⟨_,_,rfl⟩:=Zcf us hl;exact rfl),ZT X G a14 l14 c14 k14 (fun _ _ _ _ _ _ us hl=>by obtain⟨_,rfl⟩:=ZcF us hl;exact rfl),ZT X G a15 l15 c15 k15 (fun _ _ _ _ _ _ us hl=>by obtain⟨_,_,rfl⟩:=Zcf us hl;exact rfl),ZT X G a16 l16 c16 k16 (fun _ _ _ _ _ _ us hl=>by obtain⟨_,_,_,rfl⟩:=Zik us hl;exact rfl),ZT X G a17 l17 c17 k17 (fun _ _ _ _ _ _ us hl=>by obtain⟨_,_,_,rfl⟩:=Zik us hl;exact rfl),ZT X G a18 l18 c18 k18 (fun _ _ _ _ _ _ us hl=>by obtain⟨_,rfl⟩:=ZcF us hl;exact rfl),ZT X G a19 l19 c19 k19 (fun _ _ _ _ _ _ us hl=>by obtain⟨_,rfl⟩:=ZcF us hl;exact rfl),ZT X G a20 l20 c20 k20 (fun _ _ _ _ _ _ us hl=>by obtain⟨_,_,rfl⟩:=Zcf us hl;exact rfl),ZT X G a21 l21 c21 k21 (fun _ _ _ _ _ _ us hl=>by obtain⟨_,rfl⟩:=ZcF us hl;exact rfl),ZT X G a22 l22 c22 k22 (fun _ _ _ _ _ _ us hl=>by obtain⟨_,_,rfl⟩:=Zcf us hl;exact rfl),ZT X G a23 l23 c23 k23 (fun _ _ _ _ _ _ us hl=>by obtain⟨_,_,rfl⟩:=Zcf us hl;exact rfl),ZT X G a24 l24 c24 k24 (fun _ _ _ _ _ _ us hl=>by obtain⟨_,rfl⟩:=ZcF us hl;exact rfl),ZT X G a25 l25 c25 k25 (fun _ _ _ _ _ _ us hl=>by obtain⟨_,rfl⟩:=ZcF us hl;exact rfl),ZT X G a26 l26 c26 k26 (fun _ _ _ _ _ _ us hl=>by obtain⟨_,_,rfl⟩:=Zcf us hl;exact rfl),ZT X G a27 l27 c27 k27 (fun _ _ _ _ _ _ us hl=>by obtain⟨_,rfl⟩:=ZcF us hl;exact rfl),ZT X G a28 l28 c28 k28 (fun _ _ _ _ _ _ us hl=>by obtain⟨_,_,rfl⟩:=Zcf us hl;exact rfl),ZT X G a29 l29 c29 k29 (fun _ _ _ _ _ _ us hl=>by obtain⟨_,rfl⟩:=ZcF us hl;exact rfl),ZT X G a30 l30 c30 k30 (fun _ _ _ _ _ _ us hl=>by obtain⟨_,rfl⟩:=ZcF us hl;exact rfl),ZT X G a31 l31 c31 k31 (fun _ _ _ _ _ _ us hl=>by obtain⟨_,rfl⟩:=ZcF us hl;exact rfl),ZT X G a32 l32 c32 k32 (fun _ _ _ _ _ _ us hl=>by obtain⟨_,_,rfl⟩:=Zcf us hl;exact rfl),ZT X G a33 l33 c33 k33 (fun _ _ _ _ _ _ us hl=>by obtain⟨_,_,_,rfl⟩:=Zik us hl;exact rfl),ZT X G a34 l34 c34 k34 (fun _ _ _ _ _ _ us hl=>by obtain⟨_,_,_,rfl⟩:=Zik us hl;exact rfl),⟨_,_,ZJ (st:=Za7) l36 c36 k36,⟨mkRow,a36,i36,kcRow⟩,(ZJ (st:=Za7) l36 c36 k36).binds (ps:=["self", "keys"]) (fun _ _ _ _ _ _ us hl=>by obtain⟨_,_,rfl⟩:=Zcf us hl;exact rfl),Qa3 X G aCRow⟩,⟨_,_,ZJ (st:=ZaW) l37 c37 k37,⟨a37,i37,k37⟩,(ZJ (st:=ZaW) l37 c37 k37).binds (ps:=["self"]) (fun _ _ _ _ _ _ us hl=>by obtain⟨_,rfl⟩:=ZcF us hl;exact rfl)⟩,⟨_,_,ZJ (st:=Za9) l38 c38 k38,⟨a38,i38,k38⟩,(ZJ (st:=Za9) l38 c38 k38).binds (ps:=["self"]) (fun _ _ _ _ _ _ us hl=>by obtain⟨_,rfl⟩:=ZcF us hl;exact rfl)⟩,⟨_,_,ZJ (st:=Zaq) l39 c39 k39,⟨a39,i39,k39⟩,(ZJ (st:=Zaq) l39 c39 k39).binds (ps:=["self", "keys"]) (fun _ _ _ _ _ _ us hl=>by obtain⟨_,_,rfl⟩:=Zcf us hl;exact rfl)⟩,⟨_,_,ZJ (st:=ZaL) l40 c40 k40,⟨mkMerge,a40,i40,kcMerge⟩,(ZJ (st:=ZaL) l40 c40 k40).binds (ps:=["self", "rows"]) (fun _ _ _ _ _ _ us hl=>by obtain⟨_,_,rfl⟩:=Zcf us hl;exact rfl),Qa3 X G aCMerge⟩,⟨_,_,ZJ (st:=Zas) l41 c41 k41,⟨a41,i41,k41⟩,(ZJ (st:=Zas) l41 c41 k41).binds (ps:=["self"]) (fun _ _ _ _ _ _ us hl=>by obtain⟨_,rfl⟩:=ZcF us hl;exact rfl)⟩,⟨_,_,ZJ (st:=ZaK) l42 c42 k42,⟨a42,i42,k42⟩,(ZJ (st:=ZaK) l42 c42 k42).binds (ps:=["self"]) (fun _ _ _ _ _ _ us hl=>by obtain⟨_,rfl⟩:=ZcF us hl;exact rfl)⟩,⟨_,_,ZJ (st:=Zac) l43 c43 k43,⟨a43,i43,k43⟩,(ZJ (st:=Zac) l43 c43 k43).binds (ps:=["self", "many"]) (fun _ _ _ _ _ _ us hl=>by obtain⟨_,_,rfl⟩:=Zcf us hl;exact rfl)⟩,⟨_,_,ZJ (st:=Zaz) l44 c44 k44,⟨a44,i44,k44⟩,(ZJ (st:=Zaz) l44 c44 k44).binds (ps:=["self"]) (fun _ _ _ _ _ _ us hl=>by obtain⟨_,rfl⟩:=ZcF us hl;exact rfl)⟩,⟨_,_,ZJ (st:=Zao) l45 c45 k45,⟨a45,i45,k45⟩,(ZJ (st:=Zao) l45 c45 k45).binds (ps:=["self"]) (fun _ _ _ _ _ _ us hl=>by obtain⟨_,rfl⟩:=ZcF us hl;exact rfl)⟩,⟨_,_,ZJ (st:=Z4) l46 c46 k46,⟨a46,i46,k46⟩,(ZJ (st:=Z4) l46 c46 k46).binds (ps:=["self"]) (fun _ _ _ _ _ _ us hl=>by obtain⟨_,rfl⟩:=ZcF us hl;exact rfl)⟩,⟨_,_,ZJ (st:=ZaD) l47 c47 k47,⟨a47,i47,k47⟩,(ZJ (st:=ZaD) l47 c47 k47).binds (ps:=["self"]) (fun _ _ _ _ _ _ us hl=>by obtain⟨_,rfl⟩:=ZcF us hl;exact rfl)⟩,⟨_,_,ZJ (st:=Zai) l48 c48 k48,⟨a48,i48,k48⟩,(ZJ (st:=Zai) l48 c48 k48).binds (ps:=["self", "row"]) (fun _ _ _ _ _ _ us hl=>by obtain⟨_,_,rfl⟩:=Zcf us hl;exact rfl)⟩,⟨_,_,ZJ (st:=Zaa) l49 c49 k49,⟨a49,i49,k49⟩,(ZJ (st:=Zaa) l49 c49 k49).binds (ps:=["self", "n"]) (fun _ _ _ _ _ _ us hl=>by obtain⟨_,_,rfl⟩:=Zcf us hl;exact rfl)⟩,⟨_,_,ZJ (st:=ZaO) l50 c50 k50,⟨a50,i50,k50⟩,(ZJ (st:=ZaO) l50 c50 k50).binds (ps:=["self", "n", "keys"]) (fun _ _ _ _ _ _ us hl=>by obtain⟨_,_,_,rfl⟩:=Zik us hl;exact rfl)⟩,⟨_,_,ZJ (st:=Zar) l51 c51 k51,⟨a51,i51,k51⟩,(ZJ (st:=Zar) l51 c51 k51).binds (ps:=["self", "n"]) (fun _ _ _ _ _ _ us hl=>by obtain⟨_,_,rfl⟩:=Zcf us hl;exact rfl)⟩,⟨_,_,ZJ (st:=Z9) l52 c52 k52,⟨a52,i52,k52⟩,(ZJ (st:=Z9) l52 c52 k52).binds (ps:=["self"]) (fun _ _ _ _ _ _ us hl=>by obtain⟨_,rfl⟩:=ZcF us hl;exact rfl)⟩,⟨_,_,ZJ (st:=ZaJ) l53 c53 k53,⟨a53,i53,k53⟩,(ZJ (st:=ZaJ) l53 c53 k53).binds (ps:=["self", "numbers"]) (fun _ _ _ _ _ _ us hl=>by obtain⟨_,_,rfl⟩:=Zcf us hl;exact rfl)⟩,⟨_,_,ZJ (st:=Zad) l54 c54 k54,⟨a54,i54,k54⟩,(ZJ (st:=Zad) l54 c54 k54).binds (ps:=["self", "number"]) (fun _ _ _ _ _ _ us hl=>by obtain⟨_,_,rfl⟩:=Zcf us hl;exact rfl)⟩,⟨_,_,ZJ (st:=ZY) l55 c55 k55,⟨a55,i55,k55⟩,(ZJ (st:=ZY) l55 c55 k55).binds (ps:=["self", "meeting", "comer"]) (fun _ _ _ _ _ _ us hl=>by obtain⟨_,_,_,rfl⟩:=Zik us hl;exact rfl)⟩,⟨_,_,ZJ (st:=ZaI) l56 c56 k56,⟨a56,i56,k56⟩,(ZJ (st:=ZaI) l56 c56 k56).binds (ps:=["self", "one", "other", "far"]) (fun _ _ _ _ _ _ us hl=>by obtain⟨_,_,_,_,rfl⟩:=Zsz us hl;exact rfl)⟩,⟨pgRow,hdRow,poRow,saRow⟩,nARow_all_keys,nARow_fars,nARow_gone,⟨pgMerge,hdMerge,poMerge,saMerge⟩,nAMerge_best,nAMerge_likened,nAMerge_looked,nAMerge_next_number,nAMerge_rows,nAMerge_stays,⟨_,Qa3 X G giMOST_ROWS⟩⟩
 exact⟨PySem.W.fnOf "law" "law" (Zq ZcT) (Zn ZcT) (Zg ZcT) .none kV35 dc35 pm35 an35 cd35 ct35,fun s v=>.of_eq rfl,fun base _ _=>Zp6 (ZJ (st:=ZcT) l35 c35 k35) T⟩
theorem walk{l:PySem.W.OpenLaw}{q:Program}{loose:List Str}{XP:(Str→Option Value)→Heap→Prop}{YP:World→Heap→Prop}{d:DefRec}{K:Params→PySem.W.Frag}(hn:l.most=some 63)(hdf:d.params.defaults=[])
  (hY:∀ (w:World) (h:Heap),YP w h→(K w.params).In h)
  (F:∀ (w:World) (mg:Str→Option Value) (fa:Addr) (h:Heap),(K w.params).In h→h.Ns mainGlobals mg→mg d.name=some (.ref fa) →
   ∃fd:FuncData,(∀ (s:Shared) (u:Value),BindsTo s fd ⟨[u],[]⟩ [("_law_script",u)])∧∀base:Heap,(K w.params).In base→base.Ns mainGlobals mg→Zer l.prog w (K w.params) mg base CX0 18 fa fd ["_law_script"] (ZkN (K w.params))) :
  PySem.W.WalkO q loose XP YP l.row.toRowW d [] (fun f vs=>PySem.call f vs) :=
 L2.walk_of (n:=63) (k:=18) (x := "_law_script") (CX:=fun _=>CX0) (sp:=fun w=>ZkN (K w.params)) hn (by decide) hdf ⟨rfl,by decide,by decide,rfl⟩ hY F (fun _ _ a ns hl _ hS=>⟨a,ns,rfl,hS,hl,fun _=>rfl⟩) fun _ _ _ _ _ z=>z
end My
open PySem PySem.W PyProof.Rows
namespace PySem.W.Fast
def tw817175115928432878:=0
def tw15925002341108955886:=0
def tw3384376904853051735:=0
def tw12805405377770687991:=0
def tw17265281442699517016:=0
def tw6458371410483158232:=0
def tw9838048276347042113:=0
def tw17297877179297994260:=0
def tw8247667110661161725:=0
def tw15663581136021654319:=0
def tw2813873454052913071:=0
def tw18140153019124749881:=0
def tw17382235485739286585:=0
def tw5236883186373796300:=0
def tw1399289680497970444:=0
def tw4899346374236516405:=0
def tw2223418629550643733:=0
def tw16707002935070577534:=0
def tw12729289905773130215:=0
def tw6425968267556163112:=0
def tw1080392123319378440:=0
def tw10701371930212035633:=0
def tw8712881598838996813:=0
def tw15046052963233778509:=0
def tw2549751019541910368:=0
def tw11087176821834576859:=0
def tw5324252120764592986:=0
def tw15409670747924895867:=0
def tw10312368083600244918:=0
def tw7006826250546102710:=0
def tw1659434142459006829:=0
def tw4415622344837222463:=0
def tw12342589263323035567:=0
def tw11026403697775718526:=0
def tw17989473988364775780:=0
def tw15530562095668954596:=0
def tw6926031296479139867:=0
def tw5829288987766512380:=0
def tw4723022256595123232:=0
def tw177722693885693133:=0
def tw16758157247285754230:=0
def tw17038068895161181615:=0
def tw268080100651978666:=0
def tw14063857519555230488:=0
def tw3195144169749998301:=0
def tw2367689549207077649:=0
def tw16866050623326491968:=0
def tw17867459628031676825:=0
def tw11044200335007538696:=0
def tw10961451929251290110:=0
def tw17699153211636090713:=0
def tw4192017243692555784:=0
def tw8168109588870115153:=0
def tw8197094062866192777:=0
def tw4690390575255486448:=0
def tw9341870566172016032:=0
def tw4447960609836646213:=0
def tw11309499374593498741:=0
def tw4538910660492125712:=0
def tw95816108777604794:=0
def tw7359404429281497729:=0
def tw10246804448230772926:=0
def tw5026818402458053544:=0
def tw12566040923799144104:=0
def tw2087026005432721796:=0
def tw9378274449196296915:=0
def tw2906561027791134539:=0
def tw12431735249978179506:=0
def tw2940575808317044175:=0
def tw6499949607490525231:=0
def tw12304103350053303634:=0
def tw12738612300438870896:=0
def tw3656714843081222036:=0
def tw4542860825668687391:=0
def tw16270610778597353211:=0
def tw10899216672660049761:=0
def tw9120311410342101219:=0
def tw11356843590606713188:=0
def tw12955021033276832226:=0
def tw12633052294320172034:=0
def tw7841339825415166488:=0
def tw11654870028711273360:=0
def tw4939201736277447944:=0
def tw10379187906097386600:=0
def tw2616287814311157581:=0
def tw842063461966261251:=0
def tw16628654851486969126:=0
def tw9959647748907978756:=0
def tw12910915857613478078:=0
def tw2589514047191759290:=0
def tw16762652323266775993:=0
def tw5006815413379366348:=0
def tw3746672869660889908:=0
def tw7006910644038163425:=0
def tw10820858863801469465:=0
def tw16104688249564972082:=0
def tw16354671249489771846:=0
def tw10934277610620019136:=0
def tw4967796070334047550:=0
def tw6663099467836129821:=0
def tw7181443953258793743:=0
def tw8640225116877053871:=0
def tw4004861621194342593:=0
def tw15975362054469691653:=0
def tw13070922166122848633:=0
def tw13885931259458034752:=0
def tw5122407329884776519:=0
def tw6107160185647023433:=0
def tw15641432095942655672:=0
def tw2561069108594242464:=0
def tw3679516727510074014:=0
def tw1816447098596628296:=0
def tw3763585390072268655:=0
def tw16896712963020983525:=0
def tw13890568138888406246:=0
def tw11605823353901420009:=0
def tw16790689984734372937:=0
def tw722652940912638937:=0
def tw391025382005092263:=0
def tw16556088187917653151:=0
def tw8365583192099620312:=0
def tw10728954320020457060:=0
def tw5239115174051134161:=0
def tw111194086503176002:=0
def tw17511745079502363243:=0
def tw194883696122395596:=0
def tw9077907148028865694:=0
def tw7098109352975854402:=0
def tw2315320204726740319:=0
def tw6530484980165315787:=0
def tw11593343715411028933:=0
def tw11540213260574542029:=0
def tw5075730851823812790:=0
def tw1980648530564136036:=0
def tw11256079150566918158:=0
def tw16837847207636877522:=0
def tw18088887918750664100:=0
def tw12111330859261555003:=0
def tw3159462641037238703:=0
def tw10712040094941501870:=0
def tw18392221220058627008:=0
def tw17104261466281181309:=0
def tw16218924582088579239:=0
def tw2107545383843916534:=0
def tw7432307908696636203:=0
def tw11510496755915375649:=0
def tw9018284301115431226:=0
def tw11806725222678763358:=0
def tw12591312093064641181:=0
def tw14493776323966107403:=0
def tw10716147315965932080:=0
def tw18095694131363777153:=0
def tw6910998477475717514:=0
def tw6206387791157625827:=0
def tw4695902094313249966:=0
def tw16546569924524998923:=0
def tw3337841614504087832:=0
def tw3761350437498685117:=0
def tw9060288878672398661:=0
def tw929926039535047600:=0
def tw12355251717551834599:=0
def tw13784516493348799630:=0
def tw7407797731905374960:=0
def tw8339223372715962286:=0
def tw4191592494456905404:=0
def tw11914188219613846130:=0
def tw8177517663923692752:=0
def tw17939820565982292149:=0
def tw11662943854007175593:=0
def tw15456611211330275583:=0
def tw5192863725705274493:=0
def tw5067272976390353638:=0
def tw8752348927021424915:=0
def tw13233292973083554416:=0
def tw9595302655551405781:=0
def tw16408576968150911859:=0
def tw16056223526670584936:=0
def tw7774701646094477562:=0
def tw16639816461913738942:=0
def tw19309808177757430:=0
def tw9174277406867860656:=0
def tw8518917234472287033:=0
def tw16464059659879186033:=0
def tw10027886875185468344:=0
def tw12381246041670919612:=0
def tw7067007987219329682:=0
def tw10074293011692312790:=0
def tw6322372289280156800:=0
def tw15960874520695862232:=0
def tw15243551177283698323:=0
def tw6637832365297248435:=0
def tw707800452819646149:=0
def tw3807157357934699326:=0
def tw1088322849633049913:=0
def tw16867885415023640440:=0
def tw17092400008912168286:=0
def tw13538030816380009871:=0
def tw17003834877185846008:=0
def tw8005838279815979675:=0
def tw9516905929851825537:=0
def tw12151939939713642563:=0
def tw948768373528078474:=0
def tw13194627221829076078:=0
def tw446296778194654721:=0
def tw8974834722050584923:=0
def tw9197264349725452943:=0
def tw13435227220850483551:=0
def tw11320773295068298133:=0
def tw7003433350572751958:=0
def tw7193072662468238589:=0
def tw14020023023129638912:=0
def tw17058205507824493681:=0
def tw12889664434018362349:=0
def tw9816778176039012939:=0
def tw4931372937800356681:=0
def tw17201705428991262250:=0
def tw994674724639400138:=0
def tw5019945995750515750:=0
def tw6094327614814696822:=0
def tw17928452936605316549:=0
def tw11696340291880762878:=0
def tw9500398893247318612:=0
def tw6596283576966548794:=0
def tw138910696751217537:=0
def tw9629892659489535755:=0
def tw11915640459675597350:=0
def tw10584937213961545245:=0
def tw11234252876742355430:=0
def tw18029846300364849975:=0
def tw16538986238765728828:=0
def tw4344540996831977320:=0
def tw13833452531831713163:=0
def tw14339689523009398502:=0
def tw12947750920339977517:=0
def tw10089757056536784059:=0
def tw14322964864623258860:=0
def tw3977639690743080743:=0
def tw17555188154940898257:=0
def tw15389516374414372938:=0
def tw8227593264640054592:=0
def tw10188266284753881271:=0
def tw16204161450525706257:=0
def tw9894744909672967480:=0
def tw11031699317669875863:=0
def tw8404867983718524081:=0
def tw14572868012362586283:=0
def tw3806367783453489996:=0
def tw16333260633768951366:=0
def tw17999720537353505528:=0
def tw9843921213837818658:=0
def tw9846782077996478380:=0
def tw3870335832045297482:=0
def tw12812736524791900528:=0
def tw14272031703263449331:=0
def tw9255686210593806968:=0
def tw785833989211616435:=0
def tw6728899510855399369:=0
def tw15291600787651624660:=0
def tw12711085798757914058:=0
def tw2770534627070448635:=0
def tw7675535086292892694:=0
def tw13934964289717194057:=0
def tw270027780297286203:=0
def tw5134377694687273415:=0
def tw6124504338688104080:=0
def tw5313183303382115809:=0
def tw7060868050504232141:=0
def tw8043783195427811187:=0
def tw3447587911877899124:=0
def tw6140343747308565287:=0
def tw321834725087419439:=0
def tw13159995260348603683:=0
def tw18093984909670965958:=0
def tw12450187030219659856:=0
def tw6050537978452301751:=0
def tw6347666303657371347:=0
def tw17013243376474013722:=0
def tw8064876677151955629:=0
def tw11957999399287998055:=0
def tw2581298172591102505:=0
def tw14190695400749735325:=0
def tw15733082878713106069:=0
def tw17534097861412876709:=0
def tw7156586806471700813:=0
def tw5372632489287656051:=0
def tw11608190890342182196:=0
def tw239975276798646119:=0
def tw3121184472140954535:=0
def tw16503137320020650762:=0
def tw17451404607859612508:=0
def tw4909118124474201578:=0
def tw15984494117900920586:=0
def tw16586280829418968652:=0
def tw10569058164892519085:=0
def tw8480549949955066853:=0
def tw13157243400508718297:=0
def tw15867726912346951568:=0
def tw10684712316631243595:=0
def tw3857639159276104882:=0
def tw12884424123967536342:=0
def tw7074072244418750316:=0
def tw6845605969825702566:=0
def tw1453635956081136494:=0
def tw7168145341647521492:=0
def tw3965713182044115330:=0
def tw3681704703670940361:=0
def tw13441426436939025312:=0
def tw16799730677896621187:=0
def tw16361098569450203749:=0
def tw16207375844679494166:=0
def tw15950269684122306769:=0
def tw3995824793896635520:=0
def tw2653235994963193709:=0
def tw3961559386794877083:=0
def tw10921220797633157425:=0
def tw8571924465468106936:=0
def tw920301999804173217:=0
def tw16146575112580579566:=0
def tw11640093034885481287:=0
def tw2116455634368861802:=0
def tw18051411012523600615:=0
def tw13403068343671673374:=0
def tw11350915744892842354:=0
def tw191918941505595248:=0
def tw674167231286056565:=0
def tw10137374285146845671:=0
def tw16505524760600752575:=0
def tw5100990219188995196:=0
def tw16839664947546356837:=0
def tw17942067248065063627:=0
def tw11382961263244717475:=0
def tw17231429422974656289:=0
def tw4963905020426496057:=0
def tw14392700333417012585:=0
def tw14567044359675020774:=0
def tw15945798540192682790:=0
def tw6931022054871722113:=0
def tw16616703499839413676:=0
def tw12639438880502284613:=0
def tw5127043416128705327:=0
def tw6104566770049562322:=0
def tw15503761060920007429:=0
def tw11266579222245823157:=0
def tw12238809703769368415:=0
def tw17804158634483062742:=0
def tw7894227149411841469:=0
def tw5587560285554623821:=0
def tw1098013690480668079:=0
def tw5335785625144763192:=0
def tw7254461981761984986:=0
def tw1237060869831927199:=0
def tw12518970896265119402:=0
def tw3182870097548652387:=0
def tw7519224317541641652:=0
def tw17380532754122269149:=0
def tw4882123259172096866:=0
def tw18276054472572635553:=0
def tw2239496428426970657:=0
def tw10017772394089960587:=0
def tw10439989935004251750:=0
def tw9942268535554951590:=0
def tw14289422015858125945:=0
def tw8049623468698170448:=0
def tw2253500229218710313:=0
def tw8246044199928461098:=0
def tw3563926654046455996:=0
def tw15563342627408013865:=0
def tw4041728469329655608:=0
def tw7374463026035253740:=0
def tw6112802345359192992:=0
def tw7759929331465058732:=0
def tw16968777355288366541:=0
def tw6646175212632168992:=0
def tw8713557753550163814:=0
def tw12337567979472712223:=0
def tw17830573332922028125:=0
def tw17945200263557874983:=0
def tw11504867580167856101:=0
def tw17632284089926485651:=0
def tw5559783036937974360:=0
def tw3186223145199538364:=0
def tw4533103979669888954:=0
def tw3721586338109835405:=0
def tw5752624825899914227:=0
def tw16211554734034350513:=0
def tw10467559972833064177:=0
def tw9528805593470963627:=0
def tw14300894982436673834:=0
def tw5518949987129024081:=0
def tw5966310349843153420:=0
def tw8411010803897589928:=0
def tw1792813242654963515:=0
def tw12866299964645711663:=0
def tw10576001075658252101:=0
def tw5919841011051713823:=0
def tw17750199196401296333:=0
def tw11233664769456581270:=0
def tw16730872557007030192:=0
def tw8738218728389370161:=0
def tw7072445172441510484:=0
def tw2167670904663667388:=0
def tw1041105769523669521:=0
def tw13006932676698963704:=0
def tw9003292474075866183:=0
def tw7089841958183607350:=0
def tw7888760055310475733:=0
def tw17408809313051053301:=0
def tw15837166096980635744:=0
def tw11218906381052818230:=0
def tw17289171932142036035:=0
def tw10489083610749747469:=0
def tw11235291124533474375:=0
def tw7086359152851431634:=0
def tw16608397281401215498:=0
def tw13637123822626042938:=0
def tw5277897496332629117:=0
def tw12603754791803181350:=0
def tw16334748876862742985:=0
def tw16517904643424120891:=0
def tw9052093620059673377:=0
def tw8207058022438726240:=0
def tw2382423085297635197:=0
def tw16179794136575299592:=0
def tw2459813814133094393:=0
def tw11571790095831284881:=0
def tw15536888912740984041:=0
def tw7278004898201473624:=0
def tw3071248307600129423:=0
def tw11135652786157031031:=0
def tw7831516863515001135:=0
def tw8995318580793957237:=0
def tw8009172656536024009:=0
def tw962291415029905100:=0
def tw11222379999429680219:=0
def tw12983260383996714745:=0
def tw16327180836954303468:=0
def tw8751315165019450203:=0
def tw4204053801552864543:=0
def tw7768462508006279203:=0
def tw9024101060135892459:=0
def tw15167245394503752687:=0
def tw17346401160430619298:=0
def tw5163219402119322283:=0
def tw3775695660916228127:=0
def tw1606868520269702224:=0
def tw14679520627884740141:=0
def tw13625186160589080145:=0
def tw81087771606218531:=0
def tw9606653592884124838:=0
def tw12426758119622812395:=0
def tw9392766012756020013:=0
def tw526412042525364249:=0
end PySem.W.Fast
set_option maxRecDepth 100000 in
set_option maxHeartbeats 0 in
theorem PySem.Challenge.cw_mergetree_k60_whole_merges_walked_holds : PySem.Challenge.rw_mergetree_k60_whole_merges_walked.Holds := by
 w_on;o_law;k_head;(case hw=>w_witness2)
 k_fill
 refine My.walk (l:=PySem.Challenge.rw_mergetree_k60_whole_merges_walked) rfl rfl (fun w h Y=>PySem.W.kIn_of Y) ?F
 case F =>
  intro w mg fa h KX G hmg
  refine' My.all_mk KX G hmg ?aCRow ?pgRow ?hdRow ?poRow ?saRow ?mkRow ?kcRow ?nARow_all_keys ?nARow_fars ?nARow_gone ?aCMerge ?pgMerge ?hdMerge ?poMerge ?saMerge ?mkMerge ?kcMerge ?nAMerge_best ?nAMerge_likened ?nAMerge_looked ?nAMerge_next_number ?nAMerge_rows ?nAMerge_stays ?a0 ?l0 ?c0 ?k0 ?a1 ?l1 ?c1 ?k1 ?a2 ?l2 ?c2 ?k2 ?a3 ?l3 ?c3 ?k3 ?a4 ?l4 ?c4 ?k4 ?a5 ?l5 ?c5 ?k5 ?a6 ?l6 ?c6 ?k6 ?a7 ?l7 ?c7 ?k7 ?a8 ?l8 ?c8 ?k8 ?a9 ?l9 ?c9 ?k9 ?a10 ?l10 ?c10 ?k10 ?a11 ?l11 ?c11 ?k11 ?a12 ?l12 ?c12 ?k12 ?a13 ?l13 ?c13 ?k13 ?a14 ?l14 ?c14 ?k14 ?a15 ?l15 ?c15 ?k15 ?a16 ?l16 ?c16 ?k16 ?a17 ?l17 ?c17 ?k17 ?a18 ?l18 ?c18 ?k18 ?a19 ?l19 ?c19 ?k19 ?a20 ?l20 ?c20 ?k20 ?a21 ?l21 ?c21 ?k21 ?a22 ?l22 ?c22 ?k22 ?a23 ?l23 ?c23 ?k23 ?a24 ?l24 ?c24 ?k24 ?a25 ?l25 ?c25 ?k25 ?a26 ?l26 ?c26 ?k26 ?a27 ?l27 ?c27 ?k27 ?a28 ?l28 ?c28 ?k28 ?a29 ?l29 ?c29 ?k29 ?a30 ?l30 ?c30 ?k30 ?a31 ?l31 ?c31 ?k31 ?a32 ?l32 ?c32 ?k32 ?a33 ?l33 ?c33 ?k33 ?a34 ?l34 ?c34 ?k34 ?a35 ?l35 ?c35 ?k35 ?a36 ?i36 ?l36 ?c36 ?k36 ?a37 ?i37 ?l37 ?c37 ?k37 ?a38 ?i38 ?l38 ?c38 ?k38 ?a39 ?i39 ?l39 ?c39 ?k39 ?a40 ?i40 ?l40 ?c40 ?k40 ?a41 ?i41 ?l41 ?c41 ?k41 ?a42 ?i42 ?l42 ?c42 ?k42 ?a43 ?i43 ?l43 ?c43 ?k43 ?a44 ?i44 ?l44 ?c44 ?k44 ?a45 ?i45 ?l45 ?c45 ?k45 ?a46 ?i46 ?l46 ?c46 ?k46 ?a47 ?i47 ?l47 ?c47 ?k47 ?a48 ?i48 ?l48 ?c48 ?k48 ?a49 ?i49 ?l49 ?c49 ?k49 ?a50 ?i50 ?l50 ?c50 ?k50 ?a51 ?i51 ?l51 ?c51 ?k51 ?a52 ?i52 ?l52 ?c52 ?k52 ?a53 ?i53 ?l53 ?c53 ?k53 ?a54 ?i54 ?l54 ?c54 ?k54 ?a55 ?i55 ?l55 ?c55 ?k55 ?a56 ?i56 ?l56 ?c56 ?k56 ?giMOST_ROWS ?z0 ?z1 ?z2 ?z3 ?z4 ?z5 ?z6 ?z7 ?z8 ?z9 ?z10 ?z11 ?z12 ?z13 ?z14 ?z15
  (case aCRow=>k_is)
  (case pgRow=>k_is)
  (case hdRow=>k_is)
  (case poRow=>k_is)
  (case saRow=>k_is)
  (case mkRow=>k_is)
  (case kcRow=>k_is)
  (case nARow_all_keys=>k_is)
  (case nARow_fars=>k_is)
  (case nARow_gone=>k_is)
  (case aCMerge=>k_is)
  (case pgMerge=>k_is)
  (case hdMerge=>k_is)
  (case poMerge=>k_is)
  (case saMerge=>k_is)
  (case mkMerge=>k_is)
  (case kcMerge=>k_is)
  (case nAMerge_best=>k_is)
  (case nAMerge_likened=>k_is)
  (case nAMerge_looked=>k_is)
  (case nAMerge_next_number=>k_is)
  (case nAMerge_rows=>k_is)
  (case nAMerge_stays=>k_is)
  (case a0|l0|c0|k0=>k_is)
  (case a1|l1|c1|k1=>k_is)
  (case a2|l2|c2|k2=>k_is)
  (case a3|l3|c3|k3=>k_is)
  (case a4|l4|c4|k4=>k_is)
  (case a5|l5|c5|k5=>k_is)
  (case a6|l6|c6|k6=>k_is)
  (case a7|l7|c7|k7=>k_is)
  (case a8|l8|c8|k8=>k_is)
  (case a9|l9|c9|k9=>k_is)
  (case a10|l10|c10|k10=>k_is)
  (case a11|l11|c11|k11=>k_is)
  (case a12|l12|c12|k12=>k_is)
  (case a13|l13|c13|k13=>k_is)
  (case a14|l14|c14|k14=>k_is)
  (case a15|l15|c15|k15=>k_is)
  (case a16|l16|c16|k16=>k_is)
  (case a17|l17|c17|k17=>k_is)
  (case a18|l18|c18|k18=>k_is)
  (case a19|l19|c19|k19=>k_is)
  (case a20|l20|c20|k20=>k_is)
  (case a21|l21|c21|k21=>k_is)
  (case a22|l22|c22|k22=>k_is)
  (case a23|l23|c23|k23=>k_is)
  (case a24|l24|c24|k24=>k_is)
  (case a25|l25|c25|k25=>k_is)
  (case a26|l26|c26|k26=>k_is)
  (case a27|l27|c27|k27=>k_is)
  (case a28|l28|c28|k28=>k_is)
  (case a29|l29|c29|k29=>k_is)
  (case a30|l30|c30|k30=>k_is)
  (case a31|l31|c31|k31=>k_is)
  (case a32|l32|c32|k32=>k_is)
  (case a33|l33|c33|k33=>k_is)
  (case a34|l34|c34|k34=>k_is)
  (case a35|l35|c35|k35=>k_is)
  (case a36|i36|l36|c36|k36=>k_is)
  (case a37|i37|l37|c37|k37=>k_is)
  (case a38|i38|l38|c38|k38=>k_is)
  (case a39|i39|l39|c39|k39=>k_is)
  (case a40|i40|l40|c40|k40=>k_is)
  (case a41|i41|l41|c41|k41=>k_is)
  (case a42|i42|l42|c42|k42=>k_is)
  (case a43|i43|l43|c43|k43=>k_is)
  (case a44|i44|l44|c44|k44=>k_is)
  (case a45|i45|l45|c45|k45=>k_is)
  (case a46|i46|l46|c46|k46=>k_is)
  (case a47|i47|l47|c47|k47=>k_is)
  (case a48|i48|l48|c48|k48=>k_is)
  (case a49|i49|l49|c49|k49=>k_is)
  (case a50|i50|l50|c50|k50=>k_is)
  (case a51|i51|l51|c51|k51=>k_is)
  (case a52|i52|l52|c52|k52=>k_is)
  (case a53|i53|l53|c53|k53=>k_is)
  (case a54|i54|l54|c54|k54=>k_is)
  (case a55|i55|l55|c55|k55=>k_is)
  (case a56|i56|l56|c56|k56=>k_is)
  (case giMOST_ROWS=>k_is)
  (case z0=>k_is)
  (case z1=>k_is)
  (case z2=>k_is)
  (case z3=>k_is)
  (case z4=>k_is)
  (case z5=>k_is)
  (case z6=>k_is)
  (case z7=>k_is)
  (case z8=>k_is)
  (case z9=>k_is)
  (case z10=>k_is)
  (case z11=>k_is)
  (case z12=>k_is)
  (case z13=>k_is)
  (case z14=>k_is)
  (case z15=>k_is)
