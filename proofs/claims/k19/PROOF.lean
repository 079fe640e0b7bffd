import PyProof.Rows.All
import Wide.All
import OpenK.AllK
import Wide.FinOn
import Lean
import PyProof.EqAt
import PyProof.EqKinds
import PyProof.TupleCall
import PyProof.AttrMissHeap
import KE.KEqDict
import KE.KItemsList
import PyProof.WalksMore
import PyProof.TupleOfStr
import PyProof.DictWalks
import PyProof.WalkInts
import PyProof.ExcClass3
import PyProof.StationsW
import OpenK.KCall
import PyProof.RulesAs
import PyProof.Ns1
import PyProof.InstStoreFacts
import PyProof.ExcBaseAll.ValueError
import PyProof.ExcArgs
import KE.KIsAll
import PyProof.Rows.CountFlat
import PySem.Challenge.RW_mergetree_k19_rows_that_go
set_option maxHeartbeats 4000000
set_option maxRecDepth 100000
set_option Elab.async false
set_option linter.all false
local macro_rules|`(tactic|ac_rfl)=>`(tactic|decide +kernel)
local macro_rules
|`(#[0])=>`(⟨rfl,rfl,rfl,by ac_rfl,rfl,by ac_rfl,by ac_rfl⟩)
|`(#[1,$a])=>`((fun _ _ _ _ _ _ us hl=>by obtain⟨_,h⟩:=$a us hl;subst h;exact rfl))
|`(#[2,$a])=>`((fun _ _ _ _ _ _ us hl=>by obtain⟨_,_,h⟩:=$a us hl;subst h;exact rfl))
|`(#[3,$a])=>`((fun _ _ _ _ _ _ us hl=>by obtain⟨_,_,_,h⟩:=$a us hl;subst h;exact rfl))
|`(#[1])=>`((by ac_rfl))
|`(#[2])=>`((by lia))
|`(#[3])=>`((Or.inl rfl))
|`(#[4])=>`((by simp))
|`(#[5])=>`((by rfl))
|`(#[6])=>`((by decide))
|`(#[7])=>`(PySem.W.Frag)
|`(#[8])=>`((.inl rfl))
|`(#[9,$x])=>`(PySem.wpAny (PySem.model ($x).prog ($x).w) ($x).A)
def Qa:=@List.length_map
def Qb:=@List.getElem?_eq_getElem
def Qc:=@PySem.Heap.get?_push_of_some
def Qd:=@List.getElem?_eq_some_iff
def Qe:=@List.mem_map_of_mem
def Qf:=@List.map_append
def Qg:=@Nat.le_refl
def Qh:=@List.map_cons
def Qi:=@PySem.Heap.lt_size
def Qj:=@Option.some.inj
def Qk:=@List.getElem?_map
def Ql:=@List.mem_singleton
def Qm:=@PySem.Heap.get?_push_size
def Qn:=@List.map_map
def Qo:=@List.mem_append
def Qp:=@List.mem_map
def Qq:=@Bool.false_ne_true
def Qr:=@List.length_append
def Qs:=@Nat.zero_le
def Qt:=@Nat.lt_of_lt_of_le
def Qu:=@PySem.boot_len
def Qv:=@List.mem_of_getElem?
def Qw:=@Nat.le_trans
def Qx:=@List.mem_cons_of_mem
def Qy:=@List.mem_append_right
def Qz:=@Nat.ne_of_lt
def QA:=@List.length_take
def QB:=@List.length_singleton
def QC:=@List.take_of_length_le
def QD:=@PySem.W.mg_none_of
def QE:=@List.getD_eq_getElem?_getD
def QF:=@List.size_toArray
def QG:=@List.mem_append_left
def QH:=@List.take_add_one
def QI:=@List.length_cons
def QJ:=@PySem.F.plainAttrs_list
def QK:=@List.getElem?_append_right
def QL:=@List.getElem?_eq_none
def QM:=@List.mem_cons
def QN:=@List.map_congr_left
def QO:=@List.getElem?_append_left
def QP:=@List.contains_cons
def QR:=@List.nodup_cons
def QS:=@PySem.W.kia_one
def QT:=@PySem.F.slot_list_append
def QU:=@PySem.F.type_list_append
def QV:=@PyProof.Rows.callWith_type1
def QW:=@PySem.F.plainAttrs_dict
def QX:=@PySem.Heap.size_push
def QY:=@PySem.W.kia_tup
def QZ:=@List.length_drop
def Q0:=@List.filterMap_cons
def Q1:=@Nat.ne_of_gt
def Q2:=@List.find?_cons
def Q3:=@List.mem_cons_self
def Q4:=@List.getElem_mem
def Q5:=@PySem.W.mg_of
def Q6:=@PySem.Heap.get?_update_other
def Q7:=@List.getElem?_eq_none_iff
def Q8:=@PySem.Heap.get?_update_self
def Q9:=@List.mem_iff_getElem?
def Qaa:=@Nat.add_sub_cancel
def Qab:=@Nat.lt_irrefl
def Qac:=@List.mem_of_mem_take
def Qad:=@List.mem_of_mem_drop
def Qae:=@PySem.mem_of_lookup
def Qaf:=@Nat.add_lt_add_left
def Qag:=@PySem.Heap.get?_update_of_ne
def Qah:=@List.length_eq_one_iff
def Qai:=@Int.add_zero
def Qaj:=@Nat.le_succ
def Qak:=@List.mem_range
def Qal:=@Array.getElem?_eq_some_iff
def Qam:=@List.length_replicate
def Qan:=@List.getElem?_toArray
def Qao:=@List.mem_of_find?_eq_some
def Qap:=@List.getLastD_eq_getLast?
def Qaq:=@List.filter_map
def Qar:=@Nat.le_of_lt
def Qas:=@Nat.lt_add_of_pos_right
def Qat:=@PySem.F.slot_dict_items
def Qau:=@List.getElem?_set_self
def Qav:=@PySem.W.callWith_K
def Qaw:=@List.find?_cons_of_neg
def Qax:=@Nat.min_eq_left
def Qay:=@List.length_filter_le
def Qaz:=@PySem.F.slot_dict_pop
def QaA:=@List.reverse_cons
def QaB:=@Bool.eq_false_iff
def QaC:=@PySem.W.looks_findIn
def QaD:=@List.lookup_cons
def QaE:=@Nat.le_add_right
def QaF:=@List.any_eq_true
def QaG:=@PySem.evalArgs_none
def QaH:=@List.length_reverse
def QaI:=@Array.length_toList
def QaJ:=@List.filter_sublist
def QaK:=@List.any_cons
def QaL:=@List.getLast?_eq_getLast
def QaM:=@List.mem_filter
def QaN:=@Bool.eq_iff_iff
def QaO:=@List.append_nil
def QaP:=@List.range_succ
def QaQ:=@Int.emod_lt_of_pos
def QaR:=@List.pairwise_singleton
def QaS:=@PySem.W.kitx_list
def QaT:=@PySem.W.kitx_dict
def QaU:=@List.map_nil
def QaV:=@Option.map_eq_some_iff
def QaW:=@List.append_assoc
def QaX:=@Nat.pow_succ
def QaY:=@Nat.sub_self
def QaZ:=@List.nodup_append
def Qa0:=@List.length_pos_of_mem
def Qa6:=@PySem.W.any_some
def Qa7:=@Bool.and_eq_true
def Qa8:=@List.all_eq_true
def Qa9:=@Nat.not_lt
def Qba:=@List.Sublist.map
def Qbb:=@List.cons_append
namespace L2
open PySem PySem.Spec PyProof.Rows
abbrev Key:=Sum Int Str
noncomputable def V6:Key→Value→Bool
 | .inl k,v=>Value.isInt k v
 | .inr x,v=>Value.isStrOf x v
noncomputable def Ox(w:World):Key→Int
 | .inl k=>hashInt k
 | .inr x=>hashStr w x
theorem Xb:∀ {k:Key} {v:Value},V6 k v=true→(∃i t,k=Sum.inl i∧v=Value.int i t)∨(∃x t,k=Sum.inr x∧v=Value.str x t)
 | .inl i,v,h=>by obtain⟨t,e⟩:=Value.isInt_shape (k:=i) (v:=v) h;exact .inl ⟨i,t,rfl,e⟩
 | .inr x,v,h=>by obtain⟨t,e⟩:=Value.isStrOf_shape (x:=x) (v:=v) h;exact .inr ⟨x,t,rfl,e⟩
theorem ZlC(i:Int)(t:Tok):V6 (.inl i) (.int i t)=true:=by simp[V6,Value.isInt]
theorem Zlj(x:Str)(t:Tok):V6 (.inr x) (.str x t)=true:=by simp[V6,Value.isStrOf]
theorem ZqO(a b:Int):decide ((Sum.inl a:Key)=Sum.inl b)=(a == b):=by
 by_cases e:a=b
 ·subst e;simp
 ·have h:¬ (Sum.inl a:Key)=Sum.inl b:=fun q=>e (Sum.inl.inj q);rw[decide_eq_false h];exact(beq_eq_false_iff_ne.mpr e).symm
theorem Zqk(a b:Str):decide ((Sum.inr a:Key)=Sum.inr b)=decide (a=b):=by
 by_cases e:a=b
 ·subst e;simp
 ·have h:¬ (Sum.inr a:Key)=Sum.inr b:=fun q=>e (Sum.inr.inj q);rw[decide_eq_false h,decide_eq_false e]
theorem Zqg(a:Int)(b:Str):decide ((Sum.inl a:Key)=Sum.inr b)=false:=decide_eq_false (fun q=>nomatch q)
theorem Zqm(a:Str)(b:Int):decide ((Sum.inr a:Key)=Sum.inl b)=false:=decide_eq_false (fun q=>nomatch q)
noncomputable def ZM(prog:Program)(w:World):PySem.KeyKind prog w Key where
 is:=V6
 hash:=Ox w
 inj:=fun v a b g f=>by
  rcases Xb g with⟨i,t,rfl,rfl⟩|⟨x,t,rfl,rfl⟩
  ·rcases Xb f with⟨j,u,rfl,e⟩|⟨y,u,rfl,e⟩
   ·injection e with c _;rw[c]
   ·exact nomatch e
  ·rcases Xb f with⟨j,u,rfl,e⟩|⟨y,u,rfl,e⟩
   ·exact nomatch e
   ·injection e with c _;rw[c]
 byValue:=fun k v h=>by rcases Xb h with⟨i,t,rfl,rfl⟩|⟨x,t,rfl,rfl⟩<;>rfl
 pyHash:=fun d h=>by
  rcases Xb d with⟨i,t,rfl,rfl⟩|⟨x,t,rfl,rfl⟩
  ·exact wpAny_pyHash_int h
  ·exact wpAny_pyHash_str h
 eqBool:=fun l d h=>by
  rcases Xb l with⟨i,t,rfl,rfl⟩|⟨x,t,rfl,rfl⟩
  ·rcases Xb d with⟨j,u,rfl,rfl⟩|⟨y,u,rfl,rfl⟩
   ·rw[ZqO]at h;exact wpAny_eqBool_int h
   ·rw[Zqg]at h;exact SeqAt.EqAt.int_str i t y u _ _ _ _ h
  ·rcases Xb d with⟨j,u,rfl,rfl⟩|⟨y,u,rfl,rfl⟩
   ·rw[Zqm]at h;exact SeqAt.EqAt.str_int x t j u _ _ _ _ h
   ·rw[Zqk]at h;exact wpAny_eqBool_str h
 «strs»:=fun k x t v h=>by
  rcases Xb h with⟨i,u,rfl,e⟩|⟨y,u,rfl,e⟩
  ·exact nomatch e
  ·injection e with c _;subst c;cases v<;>rfl
theorem Zkw(prog:Program)(w:World)(k:Key)(v:Value):(ZM prog w).is k v=V6 k v:=rfl
theorem Zjg(prog:Program)(w:World)(i:Int)(t:Tok):(ZM prog w).is (.inl i) (.int i t)=true:=ZlC i t
theorem Zjj(prog:Program)(w:World)(x:Str)(t:Tok):(ZM prog w).is (.inr x) (.str x t)=true:=Zlj x t
inductive V where
 | non|bl (b:Bool)|int (i:Int)|str (x:Str)|byt (b:Array UInt8)|flt (b:UInt64)|ref (a:Addr)|ty (n:String)
 deriving DecidableEq
def ZI:V→Value→Prop
 | .non,u=>u=Value.none
 | .bl b,u=>u=Value.bool b
 | .int i,u=>∃t,u=Value.int i t
 | .str x,u=>∃t,u=Value.str x t
 | .byt b,u=>∃t,u=Value.bytes b t
 | .flt b,u=>∃t,u=Value.float b t
 | .ref a,u=>u=Value.ref a
 | .ty n,u=>u=Value.type n
abbrev ZH:List V→List Value→Prop:=Paired ZI
theorem ZH.length{xs:List V}{us:List Value}(r:ZH xs us):xs.length=us.length:=Paired.length r
theorem ZH.get:∀ {xs:List V} {us:List Value} {i:Nat} {x:V},ZH xs us→xs[i]? = some x→∃u,us[i]? = some u∧ZI x u
 | _,_,_,_,.nil,e=>by simp at e
 | _,_,0,_,.cons r _,e=>by simp at e;subst e;exact⟨_,rfl,r⟩
 | _,_,i+1,x,.cons _ t,e=>by obtain⟨u,h1,h2⟩:=ZH.get (i:=i) (x:=x) t (by simpa using e);exact⟨u,by simpa using h1,h2⟩
theorem ZH.set{x:V}{u:Value}(r:ZI x u):∀ {xs:List V} {us:List Value} (i:Nat),ZH xs us→ZH (xs.set i x) (us.set i u)
 | _,_,_,.nil=>.nil
 | _,_,0,.cons _ t=>.cons r t
 | _,_,i+1,.cons q t=>.cons q (ZH.set r i t)
theorem ZH.append:∀ {xs ys:List V} {us ws:List Value},ZH xs us→ZH ys ws→ZH (xs++ys) (us++ws)
 | _,_,_,_,.nil,s=>s
 | _,_,_,_,.cons r t,s=>.cons r (ZH.append t s)
theorem ZH.take:∀ {xs:List V} {us:List Value} (n:Nat),ZH xs us→ZH (xs.take n) (us.take n)
 | _,_,0,_=>.nil
 | _,_,_+1,.nil=>.nil
 | _,_,n+1,.cons r t=>.cons r (ZH.take n t)
theorem ZH.drop:∀ {xs:List V} {us:List Value} (n:Nat),ZH xs us→ZH (xs.drop n) (us.drop n)
 | _,_,0,r=>r
 | _,_,_+1,.nil=>.nil
 | _,_,n+1,.cons _ t=>ZH.drop n t
def Yj:Option V→Option Value→Prop
 | some v,some u=>ZI v u
 | none,none=>True
 | _,_=>False
def KV{a:Type}:List (a×V)→List (a×Value)→Prop:=Paired fun (p:a×V) (q:a×Value)=>p.1=q.1∧ZI p.2 q.2
noncomputable def kV:Key→V
 | .inl i=>.int i
 | .inr x=>.str x
inductive HO where
  | lst (xs:List V)
  | tup (xs:List V)
  | dK (kvs:List (Key×V))|dT (kvs:List (List Key×V))
  | set (S:Int→Bool) (n:Nat)
  | ins (C dx:Addr) (fs:List (Str×V))
  | own (x:Addr)
  | xd (fs:List (Str×V))
  | met (f x:Addr)
  | rng (lo hi:Int)
  | frz (o:Obj) (u:HO)
  | tbl (ps:Array Value)
  | ext (φ:Heap→Prop)
abbrev Hp:=Addr→Option HO
noncomputable def upd(H:Hp)(a:Addr)(o:HO):Hp:=fun b=>if b=a then some o else H b
theorem Zc{H:Hp}{a:Addr}{o:HO}:upd H a o a=some o:=by unfold upd;rw[if_pos rfl]
theorem Zb{H:Hp}{a b:Addr}{o:HO}(h:b≠a):upd H a o b=H b:=by unfold upd;rw[if_neg h]
theorem Sw{H:Hp}{a b:Addr}{o u:HO}(h:H a=some o)(h':H b=some u)(d:o≠u):a≠b:=by intro e;subst e;rw[h]at h';exact d (Qj h')
theorem Ze{H:Hp}{a b:Addr}{o:HO}(h:H a=some o)(h':H b=none):a≠b:=by intro e;subst e;rw[h]at h';cases h'
section
variable (P:Program) (w:World)
def Z4(H:Hp)(h:Heap)(a:Addr):HO→Prop
 | .lst xs=>xs.length≤sizeLine∧∃ (its:List Value) (n:Nat),ZH xs its∧h.get? a=some { cls:=.type "list",data:=.seq its.toArray n }
 | .tup xs=>xs.length≤sizeLine∧∃its:List Value,ZH xs its∧IsTup h a its.toArray
 | .dK b=>b.length≤sizeLine∧(a == sysModules)=false∧∃g,KV b g∧h.DictOf (ZM P w) a g
 | .dT b=>b.length≤sizeLine∧(a == sysModules)=false∧∃xs:List (List Key×Addr×Value),
   Paired (fun (p:List Key×V) (q:List Key×Addr×Value)=>p.1=q.1∧H q.2.1=some (.tup (p.1.map kV))∧ZI p.2 q.2.2) b xs ∧
   ∃o i l,h.get? a=some o∧o.ExactDict∧o.data=.dict i l∧i.toList=xs.map (entryOfKey (tupleKind (ZM P w)))∧(xs.map (·.1)).Nodup
 | .set S n=>h.SetOf (intKind P w) a S n
 | .ins C d fs=>H d=some (.own a)∧fs.length≤1000∧d≠a∧h.get? a=some (PySem.W.instObj C d) ∧
   ∃c,h.Ns1 d c∧(∀f,Yj (fs.lookup f) (c f))∧PySem.Within c (fs.map (·.1))
 | .own _=>∃o,h.get? a=some o
 | .xd fs=>∃c,h.Ns1 a c∧∀f,Yj (fs.lookup f) (c f)
 | .rng lo m=>∃t u v,h.get? a=some { cls:=.type "range",data:=.fields #[.int lo t,.int m u,.int 1 v] }
 | .frz o u=>h.get? a=some o∧Z4 H h a u
 | .tbl r=>h.get? a=some { cls:=.none,data:=.fields r }
 | .met f x=>h.get? a=some (PySem.W.methodObj (.ref f) (.ref x))
 | .ext e=>e h∧(∃o,h.get? a=some o)∧∀j k:Heap,e j→(∀o,j.get? a=some o→k.get? a=some o)→e k
def HOk(H:Hp)(h:Heap):Prop:=∀a o,H a=some o→Z4 P w H h a o
end
section
variable {P:Program} {w:World} {H H':Hp} {h h':Heap} {a:Addr} {o:HO}
theorem Z4.lt(x:Z4 P w H h a o):a<h.objs.size:=by
 cases o with
 | lst c=>obtain⟨_,_,_,_,e⟩:=x;exact Qi e
 | tup c=>obtain⟨_,_,_,p⟩:=x;exact p.lt
 | dK b=>obtain⟨_,_,_,_,o,_,_,e,_⟩:=x;exact Qi e
 | dT b=>obtain⟨_,_,_,_,o,_,_,e,_⟩:=x;exact Qi e
 | set S n=>obtain⟨o,_,_,_,e,_⟩:=x;exact Qi e
 | ins C dx fs=>obtain⟨_,_,_,e,_⟩:=x;exact Qi e
 | own y=>obtain⟨_,e⟩:=x;exact Qi e
 | xd fs=>obtain⟨_,⟨_,_,_,e,_⟩,_⟩:=x;exact Qi e
 | rng lo hi=>obtain⟨_,_,_,e⟩:=x;exact Qi e
 | frz ob u=>obtain⟨e,_⟩:=x;exact Qi e
 | tbl ps=>exact Qi (show h.get? a=some _ from x)
 | met f y=>exact Qi (show h.get? a=some _ from x)
 | ext φ=>obtain⟨_,⟨_,e⟩,_⟩:=x;exact Qi e
theorem Paired.mapP{α c:Type}{F G:α→c→Prop}:∀ {d:List α} {e:List c},Paired F d e→(∀a b,F a b→G a b)→Paired G d e
 | _,_,.nil,_=>.nil
 | _,_,.cons r t,f=>.cons (f _ _ r) (Paired.mapP t f)
theorem Z4.stay(x:Z4 P w H h a o)(k:∀b u,(b=a∨H b=some (.own a))→h.get? b=some u→h'.get? b=some u)
  (B:∀b,H b=some (.own a)→H' b=some (.own a)) (D:∀b xs,H b=some (.tup xs)→H' b=some (.tup xs)):Z4 P w H' h' a o:=by
 induction o with
 | lst xs=>obtain⟨z,its,n,r,e⟩:=x;exact⟨z,its,n,r,k _ _ #[8] e⟩
 | tup xs=>obtain⟨z,its,r,g,e,c⟩:=x;exact⟨z,its,r,g,k _ _ #[8] e,c⟩
 | dK l=>obtain⟨z,y,E,r,g,i,j,e,c⟩:=x;exact⟨z,y,E,r,g,i,j,k _ _ #[8] e,c⟩
 | dT l=>obtain⟨z,y,xs,r,g,i,j,e,c⟩:=x;exact⟨z,y,xs,Paired.mapP r fun p q z=>⟨z.1,D _ _ z.2.1,z.2.2⟩,g,i,j,k _ _ #[8] e,c⟩
 | set S n=>obtain⟨g,i,j,t,e,c⟩:=x;exact⟨g,i,j,t,k _ _ #[8] e,c⟩
 | ins C dx fs=>obtain⟨d,z,ne,e,m,⟨s,i,j,F,c⟩,r⟩:=x;exact⟨B _ d,z,ne,k _ _ #[8] e,m,⟨s,i,j,k _ _ (.inr d) F,c⟩,r⟩
 | own y=>obtain⟨g,e⟩:=x;exact⟨g,k _ _ #[8] e⟩
 | xd fs=>obtain⟨m,⟨s,i,j,e,c⟩,r⟩:=x;exact⟨m,⟨s,i,j,k _ _ #[8] e,c⟩,r⟩
 | rng lo hi=>obtain⟨t,u,v,e⟩:=x;exact⟨t,u,v,k _ _ #[8] e⟩
 | frz g u G=>obtain⟨e,q⟩:=x;exact⟨k _ _ #[8] e,G q⟩
 | tbl A=>have e:h.get? a=some { cls:=.none,data:=.fields A }:=x;show h'.get? a=some { cls:=.none,data:=.fields A };exact k a _ #[8] e
 | met f y=>have e:h.get? a=some (PySem.W.methodObj (.ref f) (.ref y)):=x;show h'.get? a=some (PySem.W.methodObj (.ref f) (.ref y));exact k a _ #[8] e
 | ext φ=>obtain⟨p,⟨o,e⟩,st⟩:=x;exact⟨st _ _ p fun o q=>k _ _ #[8] q,⟨o,k _ _ #[8] e⟩,st⟩
theorem HOk.lt(x:HOk P w H h)(e:H a=some o):a<h.objs.size:=(x a o e).lt
theorem HOk.fresh(x:HOk P w H h)(e:h.objs.size≤a):H a=none:=by
 cases q:H a with
 | none=>rfl
 | some u=>exact absurd (Qt (x.lt q) e) (Qab _)
theorem HOk.kept(x:HOk P w H h)(k:∀b u,h.get? b=some u→h'.get? b=some u):HOk P w H h':=fun a o e =>
 (x a o e).stay (fun b u _ q=>k b u q) (fun _ q=>q) fun _ _ q=>q
theorem HOk.laid(x:HOk P w H h)(k:∀b u,h.get? b=some u→h'.get? b=some u)(g:h.objs.size≤a)(new:Z4 P w (upd H a o) h' a o):HOk P w (upd H a o) h':=fun b u e=>by
 have d:=x.fresh g;by_cases f:b=a
 ·subst f;rw[Zc]at e;cases e;exact new
 ·rw[Zb f]at e;exact(x b u e).stay (fun c v _ q=>k c v q) (fun c q=>by rw[Zb (Ze q d)];exact q) fun c xs q=>by rw[Zb (Ze q d)];exact q
end
def Rd(H:Hp)(a:Addr)(u:HO):Prop:=H a=some u∨∃o,H a=some (.frz o u)
theorem Rd.ok{P:Program}{w:World}{H:Hp}{h:Heap}{a:Addr}{u:HO}(r:Rd H a u)(x:HOk P w H h):Z4 P w H h a u:=by
 rcases r with r|⟨o,r⟩
 ·exact x a u r
 ·obtain⟨_,q⟩:=x a _ r;exact q
def Mut:Option HO→Prop
 | some (.lst _)=>True
 | some (.dK _)=>True
 | some (.dT _)=>True
 | some (.set _ _)=>True
 | some (.ins _ _ _)=>True
 | some (.ext _)=>True
 | _=>False
section
variable {P:Program} {w:World} {H:Hp} {h h':Heap} {x e:Addr} {o':HO}
theorem HOk.write(ok:HOk P w H h)(a:Mut (H x))(he:e=x∨H e=some (.own x))(k:∀b u,b≠e→h.get? b=some u→h'.get? b=some u)(l:∃u,h'.get? e=some u)
  (new:Z4 P w (upd H x o') h' x o'):HOk P w (upd H x o') h':=fun b u q=>by
 have i:∀c y,H c=some (.own y)→c≠x:=fun c y r z=>by subst z;rw[r]at a;exact a
 have m:∀c d,H c=some (.tup d)→c≠x:=fun c d r z=>by subst z;rw[r]at a;exact a
 by_cases f:b=x
 ·subst f;rw[Zc]at q;cases q;exact new
 ·rw[Zb f]at q;by_cases g:b=e
  ·have j:H b=some (.own x):=by
    rcases he with z|z
    ·exact absurd (g.trans z) f
    ·rw[g];exact z
   rw[q]at j;cases j;obtain⟨v,n⟩:=l;exact⟨v,by rw[g];exact n⟩
  ·refine(ok b u q).stay (fun c v hc r=>k c v ?_ r) (fun c r=>by rw[Zb (i c b r)];exact r) fun c d r=>by rw[Zb (m c d r)];exact r
   rcases hc with rfl|hc
   ·exact g
   ·rintro rfl;rcases he with z|z
    ·exact i c b hc z
    ·rw[hc]at z;cases z;exact f rfl
end
structure Un (fs ex:List Addr) (H H':Hp) (h h':Heap):Prop where
 keep:∀b o,h.get? b=some o→H b=none→b ∉ fs→b ∉ ex→h'.get? b=some o
 slot:∀b o,h.get? b=some o→H b=none→b∈fs→b ∉ ex→∃sl,h'.get? b=some { o with slots:=sl }
 free:∀b o,h.get? b=some o→H b=none→b ∉ ex→H' b=none
 there:∀b o,h.get? b=some o→b ∉ ex→∃o',h'.get? b=some o'
 tups:∀b xs,H b=some (.tup xs)→H' b=some (.tup xs)
 frzs:∀b o u,H b=some (.frz o u)→H' b=some (.frz o u)
 tbls:∀b ps,H b=some (.tbl ps)→∃more,H' b=some (.tbl (ps++more))
section
variable {fs kJ ex JQ:List Addr} {H H1 H2:Hp} {h h1 h2 h':Heap} {a x e:Addr} {o:HO}
theorem Un.any(u:Un fs ex H H1 h h1){b:Addr}{ob:Obj}(q:h.get? b=some ob)(n:H b=none)(hx:b ∉ ex):∃sl,h1.get? b=some { ob with slots:=sl }:=by
 by_cases a:b∈fs
 ·exact u.slot b ob q n a hx
 ·exact⟨ob.slots,u.keep b ob q n a hx⟩
theorem Un.kept(k:∀b u,h.get? b=some u→h'.get? b=some u):Un fs ex H H h h' :=
 ⟨fun b a q _ _ _=>k b a q,fun b a q _ _ _=>⟨a.slots,k b a q⟩,fun _ _ _ n _=>n,fun b a q _=>⟨a,k b a q⟩,fun _ _ q=>q,fun _ _ _ q=>q,fun _ ps q=>⟨#[],by rw[q];simp⟩⟩
theorem Un.refl:Un fs ex H H h h:=Un.kept fun _ _ q=>q
theorem Un.laid(k:∀b u,h.get? b=some u→h'.get? b=some u)(d:h.objs.size≤a)(c:H a=none):Un fs ex H (upd H a o) h h' where
 keep:=fun b u q _ _ _=>k b u q
 slot:=fun b u q _ _ _=>⟨u.slots,k b u q⟩
 free:=fun b u q n _=>by rw[Zb (Qz (Qt (Qi q) d))];exact n
 there:=fun b u q _=>⟨u,k b u q⟩
 tups:=fun b e q=>by rw[Zb (Ze q c)];exact q
 frzs:=fun b u e q=>by rw[Zb (Ze q c)];exact q
 tbls:=fun b ps q=>⟨#[],by rw[Zb (Ze q c),q];simp⟩
theorem Un.write(a:Mut (H x))(he:e=x∨H e=some (.own x))(k:∀b u,b≠e→h.get? b=some u→h'.get? b=some u)(i:∃u,h'.get? e=some u):Un fs ex H (upd H x o) h h':=by
 have d:∀b,H b=none→b≠x:=fun b n z=>by subst z;rw[n]at a;exact a
 have f:∀b,H b=none→b≠e:=fun b n z=>by
  subst z;rcases he with r|r
  ·exact d b n r
  ·rw[n]at r;cases r
 have c:∀b u,H b=some u→¬ Mut (some u)→b≠x:=fun b u q j z=>by subst z;rw[q]at a;exact j a
 refine⟨fun b u q n _ _=>k b u (f b n) q,fun b u q n _ _=>⟨u.slots,k b u (f b n) q⟩,fun b u q n _=>by rw[Zb (d b n)];exact n,fun b u q _=>?_,
  fun b l q=>by rw[Zb (c b _ q fun z=>z)];exact q,fun b u l q=>by rw[Zb (c b _ q fun z=>z)];exact q,fun b ps q=>⟨#[],by rw[Zb (c b _ q fun z=>z),q];simp⟩⟩
 by_cases g:b=e
 ·subst g;exact i
 ·exact⟨u,k b u g q⟩
end
noncomputable def trk(h:Heap)(H:Hp):List Addr:=(List.range h.objs.size).filter fun a=>(H a).isSome
noncomputable def WL(h:Heap)(H:Hp):Heap:=PySem.W.hideAll h (trk h H)
theorem ZlM(h:Heap)(H:Hp):(WL h H).objs.size=h.objs.size:=PySem.W.hideAll_size _ _
theorem Zmg{h:Heap}{H:Hp}{b:Addr}{o:Obj}(e:h.get? b=some o)(n:H b=none):(WL h H).get? b=some o :=
 PySem.W.hideAll_get _ e fun a=>by have q:(H b).isSome=true:=(QaM.mp a).2;rw[n]at q;simp at q
theorem ZoW{h:Heap}{H:Hp}{b:Addr}{o:Obj}(e:(WL h H).get? b=some o):h.get? b=some o∧H b=none:=by
 have a:h.get? b=some o:=PySem.W.of_hideAll (trk h H) e;refine⟨a,?_⟩;cases q:H b with
 | none=>rfl
 | some x=>have c:b∈trk h H:=List.mem_filter.mpr ⟨Qak.mpr (Qi a),by simp[q]⟩;have z:(WL h H).get? b=none:=PySem.W.hideAll_none (trk h H) c;rw[z]at e;cases e
noncomputable def ZoH(g h:Heap)(L:Addr):List (Addr×Obj):=(List.range h.objs.size).filterMap fun a=>if a=L∨(g.get? a).isSome=true then none else (h.get? a).map fun o=>(a,o)
noncomputable def rest(g h:Heap)(L d:Addr):List (Addr×Obj):=(ZoH g h L).filter fun p=>decide (p.1≠d)
structure Mod (K:#[7]) (mg:Str→Option Value) (base:Heap):Prop where
 kin:K.In base
 glob:base.Ns mainGlobals mg
 blt:∃mb,base.Ns builtinsNs mb∧∀x:Str,x ≠ "__name__"→mb x=bootBuiltins x
 nolimit:base.NoLimit
structure Cx where
 prog:Program
 w:World
 K:#[7]
 mg:Str→Option Value
 base:Heap
 A:Around
 N:List Str
 s₀:Shared
 H₀:Hp
 env:Env
 outer:List Env
 stack:List Env
 ex:List Addr
 fn:Str→Bool
 calm:Bool
 pn:List (Addr×Obj)
 xe:Value→Shared→Prop
noncomputable def frs(l:List Env):List Addr:=l.filterMap (·.frame)
noncomputable abbrev Cx.fs(X:Cx):List Addr:=frs X.outer
def Vis(a:Scope)(x:Str):Prop:=a.names.lookup x=some .local∨a.names.lookup x=some .cell∨a.names.lookup x=some .free
def Loc(a:Scope)(x:Str):Prop:=a.names.lookup x=some .local∨a.names.lookup x=some .cell
def Ow(env:Env)(h:Heap)(m:Str→Option Value)(x:Str)(u:Value):Prop :=
 (env.kindOf x=some .local∧m x=some u)∨((env.kindOf x=some .cell∨env.kindOf x=some .free)∧∃c,env.cells.lookup x=some c∧h.IsCell c (some u))
structure Cx.Ok (X:Cx):Prop where
 mod:Mod X.K X.mg X.base
 kind:X.env.scope.kind=.function
 glob:X.env.globals=mainGlobals
 blt:X.env.builtins=builtinsNs
 above:X.s₀.heap.objs.size≤X.env.locals
 inj:∀x y c,X.env.cells.lookup x=some c→X.env.cells.lookup y=some c→x=y
 has:∀x,(X.env.kindOf x=some .cell∨X.env.kindOf x=some .free)→∃c,X.env.cells.lookup x=some c
 cab:∀x c,X.fn x=true→X.env.cells.lookup x=some c→X.s₀.heap.objs.size≤c
 hd:X.calm=true→X.A.handled=none
 frames:X.A.frames=some X.stack
 stk:X.stack=X.outer∨(X.stack=X.env::X.outer∧X.env.frame=some X.env.locals)
 exf:∀b∈X.ex,b≠X.env.locals∧∀x c,X.env.cells.lookup x=some c→c≠b
 bs:∀b o,X.base.get? b=some o→X.s₀.heap.get? b=some o∧X.H₀ b=none
 bsz:X.base.objs.size≤X.s₀.heap.objs.size
 noex:∀b o,X.base.get? b=some o→b ∉ X.ex
 exfs:∀b∈X.ex,b ∉ X.fs
 funs:X.s₀.heap.FunFrames X.base X.outer
 frf:∀b∈X.fs,X.H₀ b=none
structure Inv (X:Cx) (U:List (Addr×Obj)) (σ:List (Option V)) (H:Hp) (s:Shared):Prop where
 ok:X.Ok
 os:s.os=X.s₀.os
 bare:AllBare s.gens
 base:Un X.fs X.ex X.H₀ H X.s₀.heap s.heap
 loc:∃m,s.heap.Ns X.env.locals m∧∀ (i:Nat) (x:Str) (v:V),X.N[i]? = some x→σ[i]? = some (some v)→Vis X.env.scope x→∃u,ZI v u∧Ow X.env s.heap m x u
 cell:∀x c,X.env.cells.lookup x=some c→∃v,s.heap.IsCell c v
 free:H X.env.locals=none
 freeC:∀x c,X.env.cells.lookup x=some c→H c=none
 pin:∀p∈X.pn++U,s.heap.get? p.1=some p.2∧H p.1=none∧p.1≠X.env.locals∧p.1 ∉ X.fs∧∀v,p.2.data≠.cell v
 hok:HOk X.prog X.w H s.heap
 len:σ.length=X.N.length
section
variable {X:Cx} {U:List (Addr×Obj)} {σ:List (Option V)} {H H':Hp} {s:Shared} {h':Heap}
theorem Cx.Ok.nofr(ok:X.Ok){b:Addr}{o:Obj}(e:X.base.get? b=some o):b ∉ X.fs:=fun hb=>by have:=(ok.funs.mem hb).1;rw[e]at this;cases this
theorem Inv.bs(I:Inv X U σ H s):∀b o,X.base.get? b=some o→s.heap.get? b=some o∧H b=none:=fun b o e =>
 ⟨I.base.keep b o (I.ok.bs b o e).1 (I.ok.bs b o e).2 (I.ok.nofr e) (I.ok.noex b o e),I.base.free b o (I.ok.bs b o e).1 (I.ok.bs b o e).2 (I.ok.noex b o e)⟩
theorem Inv.bk(I:Inv X U σ H s):∀b o,X.base.get? b=some o→s.heap.get? b=some o:=fun b o e=>(I.bs b o e).1
theorem Inv.mod(I:Inv X U σ H s):Mod X.K X.mg X.base:=I.ok.mod
theorem Inv.kIn(I:Inv X U σ H s):X.K.In s.heap:=I.ok.mod.kin.keeps I.bk
theorem Inv.lt(I:Inv X U σ H s):X.env.locals<s.heap.objs.size:=let ⟨_,a,_⟩:=I.loc;a.lt
theorem Inv.sz(I:Inv X U σ H s):X.s₀.heap.objs.size≤s.heap.objs.size:=Qw I.ok.above (Qar I.lt)
theorem Inv.nofs(I:Inv X U σ H s){a:Addr}(h:s.heap.objs.size≤a):a ∉ X.fs:=fun hb=>by obtain⟨_,o,b,_⟩:=I.ok.funs.mem hb;exact absurd (Qt (Qi b) (Qw I.sz h)) (Qab _)
theorem Inv.cne(I:Inv X U σ H s):∀x c,X.env.cells.lookup x=some c→c≠X.env.locals:=fun x c e z=>by obtain⟨v,o,a,b⟩:=I.cell x c e;obtain⟨m,⟨o',es,ep,d,f,_⟩,_⟩:=I.loc;rw[z,d]at a;cases a;rw[f]at b;cases b
theorem Inv.funs(I:Inv X U σ H s):s.heap.FunFrames X.base X.outer:=by
 have all:∀ (l:List Env),(∀b∈frs l,b∈X.fs)→X.s₀.heap.FunFrames X.base l→s.heap.FunFrames X.base l:=by
  intro l;induction l with
  | nil=>intro _ _;trivial
  | cons env r g=>intro f h;obtain⟨i,⟨L,o,a,j,k,m⟩,n⟩:=h;have c:L∈X.fs:=f L (by unfold frs;rw[Q0,a];exact Q3);obtain⟨sl,e⟩:=I.base.slot L o k (I.ok.frf L c) c fun z=>I.ok.exfs L z c;exact⟨i,⟨L,_,a,j,e,m⟩,g (fun b d=>f b (by unfold frs;rw[Q0,a];exact Qx _ d)) n⟩
 exact all X.outer (fun _ d=>d) I.ok.funs
theorem Inv.stack(I:Inv X U σ H s):s.heap.FunFrames X.base X.stack:=by
 rcases I.ok.stk with e|⟨e,a⟩
 ·rw[e];exact I.funs
 ·rw[e];obtain⟨m,b,_⟩:=I.loc;refine .cons (by rw[I.ok.kind];decide) a b ?_ I.funs;exact Heap.get?_none_of_le (Qw I.ok.bsz I.ok.above)
theorem Inv.stkSub(I:Inv X U σ H s):∀b∈frs X.stack,b∈X.env.locals::X.fs:=fun b hb=>by
 rcases I.ok.stk with e|⟨e,a⟩
 ·rw[e]at hb;exact Qx _ hb
 ·rw[e]at hb;unfold frs at hb;rw[Q0,a]at hb;exact hb
theorem Inv.stkFree(I:Inv X U σ H s):∀b∈frs X.stack,H b=none:=fun b hb=>by
 rcases QM.mp (I.stkSub b hb) with e|hb
 ·rw[e];exact I.free
 ·obtain⟨_,o,a,_⟩:=I.ok.funs.mem hb;exact I.base.free b o a (I.ok.frf b hb) fun z=>I.ok.exfs b z hb
theorem Inv.step{g':Array GenState}{t':Nat}{d':Drawn}{ch:List Addr}(I:Inv X U σ H s)
  (w:∀b∈ch,(b∈X.ex∨X.s₀.heap.objs.size≤b)∧b≠X.env.locals∧(∀x c,X.env.cells.lookup x=some c→c≠b)∧∀p∈X.pn++U,p.1≠b)
  (keep:∀b o,b≠X.env.locals→b ∉ X.fs→b ∉ ch→s.heap.get? b=some o→H b=none→h'.get? b=some o)
  (slot:∀b o,b≠X.env.locals→b∈X.fs→b ∉ ch→s.heap.get? b=some o→H b=none→∃sl,h'.get? b=some { o with slots:=sl }) (free:∀b o,b ∉ ch→s.heap.get? b=some o→H b=none→H' b=none)
  (h:∀b o,b ∉ ch→s.heap.get? b=some o→∃y,h'.get? b=some y)
  (A:∀b g,H b=some (.tup g)→H' b=some (.tup g)) (B:∀b o u,H b=some (.frz o u)→H' b=some (.frz o u)) (C:∀b G,H b=some (.tbl G)→∃D,H' b=some (.tbl (G++D)))
  (R:∀m,s.heap.Ns X.env.locals m→h'.Ns X.env.locals m) (K:HOk X.prog X.w H' h') (S:AllBare g') :
  Inv X U σ H' { s with heap:=h',gens:=g',drawn:=d',toks:=t' }:=by
 have M:∀b o,X.s₀.heap.get? b=some o→b≠X.env.locals:=fun b o e=>Qz (Qt (Qi e) I.ok.above);have J:∀b o,X.s₀.heap.get? b=some o→b ∉ X.ex→b ∉ ch:=fun b o e a j=>by
  rcases(w b j).1 with z|z
  ·exact a z
  ·exact absurd (Qt (Qi e) z) (Qab _)
 have N:∀x c,X.env.cells.lookup x=some c→∀v,s.heap.IsCell c v→h'.IsCell c v:=fun x c e v ⟨o,t,L⟩=>by
  have E:c ∉ ch:=fun z=>(w c z).2.2.1 x c e rfl;by_cases O:c∈X.fs
  ·obtain⟨sl,q⟩:=slot c o (I.cne x c e) O E t (I.freeC x c e);exact⟨_,q,L⟩
  ·exact⟨o,keep c o (I.cne x c e) O E t (I.freeC x c e),L⟩
 refine⟨I.ok,I.os,S,⟨fun b o e n j a=>?_,fun b o e n j a=>?_,fun b o e n a=>?_,fun b o e a=>?_,fun b g e=>A b g (I.base.tups b g e),fun b o g e=>B b o g (I.base.frzs b o g e),fun b G e=>?_⟩,?_,fun x c e=>?_,?_,fun x c e=>?_,fun p P=>?_,K,I.len⟩
 ·exact keep b o (M b o e) j (J b o e a) (I.base.keep b o e n j a) (I.base.free b o e n a)
 ·obtain⟨sl,f⟩:=I.base.slot b o e n j a;obtain⟨T,F⟩:=slot b _ (M b o e) j (J b o e a) f (I.base.free b o e n a);exact⟨T,F⟩
 ·obtain⟨y,f⟩:=I.base.there b o e a;exact free b y (J b o e a) f (I.base.free b o e n a)
 ·obtain⟨y,f⟩:=I.base.there b o e a;exact h b y (J b o e a) f
 ·obtain⟨V,f⟩:=I.base.tbls b G e;obtain⟨W,F⟩:=C b _ f;exact⟨V++W,by rw[F,Array.append_assoc]⟩
 ·obtain⟨m,Y,Z⟩:=I.loc;refine⟨m,R m Y,fun i x v f F e3=>?_⟩;obtain⟨u,r,l⟩:=Z i x v f F e3;refine⟨u,r,?_⟩;rcases l with l|⟨k,c,e,z⟩
  ·exact .inl l
  ·exact .inr ⟨k,c,e,N x c e _ z⟩
 ·obtain⟨v,z⟩:=I.cell x c e;exact⟨v,N x c e v z⟩
 ·obtain⟨m,⟨o,_,_,t,_⟩,_⟩:=I.loc;exact free _ o (fun z=>(w _ z).2.1 rfl) t I.free
 ·obtain⟨v,o,t,L⟩:=I.cell x c e;exact free c o (fun z=>(w c z).2.2.1 x c e rfl) t (I.freeC x c e)
 ·obtain⟨e,n,ne,Q,d⟩:=I.pin p P;have E:p.1 ∉ ch:=fun z=>(w p.1 z).2.2.2 p P rfl;exact⟨keep p.1 p.2 ne Q E e n,free p.1 p.2 E e n,ne,Q,d⟩
theorem Inv.un{t':Nat}(I:Inv X U σ H s)(u:Un X.fs [] H H' s.heap h')(hok:HOk X.prog X.w H' h'):Inv X U σ H' { s with heap:=h',toks:=t' }:=by obtain⟨m,⟨o,es,ep,c,r⟩,_⟩:=id I.loc;obtain⟨sl,f⟩:=u.any c I.free #[4];exact I.step (g':=s.gens) (d':=s.drawn) (ch:=[]) (fun _ z=>nomatch z) (fun b o _ a _ e n=>u.keep b o e n a #[4]) (fun b o _ a _ e n=>u.slot b o e n a #[4]) (fun b o _ e n=>u.free b o e n #[4]) (fun b o _ e=>u.there b o e #[4]) u.tups u.frzs u.tbls (fun m' g=>by obtain⟨o',h,i,d,j⟩:=g;rw[c]at d;cases d;exact⟨_,h,i,f,j⟩) hok I.bare
theorem Inv.call{g':Array GenState}{t':Nat}{d':Drawn}{ch:List Addr}(I:Inv X U σ H s)(u:Un (frs X.stack) ch H H' s.heap h')(hok:HOk X.prog X.w H' h')(i:AllBare g')
  (f:∀b∈ch,(b∈X.ex∨X.s₀.heap.objs.size≤b)∧b≠X.env.locals∧(∀x c,X.env.cells.lookup x=some c→c≠b)∧∀p∈X.pn++U,p.1≠b) :
  Inv X U σ H' { s with heap:=h',gens:=g',drawn:=d',toks:=t' }:=by
 obtain⟨m,⟨o,es,ep,g,r⟩,_⟩:=id I.loc;obtain⟨sl,d⟩:=u.any g I.free fun z=>(f _ z).2.1 rfl;exact I.step (ch:=ch) f (fun b o d j a e n=>u.keep b o e n (fun z=>(QM.mp (I.stkSub b z)).elim d j) a) (fun b o _ _ a e n=>u.any e n a) (fun b o a e n=>u.free b o e n a) (fun b o a e=>u.there b o e a) u.tups u.frzs u.tbls (fun m' k=>by obtain⟨o',l,q,h,t⟩:=k;rw[g]at h;cases h;exact⟨_,l,q,d,t⟩) hok i
theorem Inv.turned{t':Nat}{it:Addr}(I:Inv X U σ H s)(k:∀b o,b≠it→s.heap.get? b=some o→h'.get? b=some o)(g:H it=none)(d:it≠X.env.locals)
  (h1:it∈X.ex∨X.s₀.heap.objs.size≤it) (h2:∀x c,X.env.cells.lookup x=some c→c≠it) (h:∀p∈X.pn++U,p.1≠it):Inv X U σ H { s with heap:=h',toks:=t' }:=by
 have f:∀b u,H b=some u→b≠it:=fun b u e z=>by rw[z,g]at e;cases e
 refine I.step (g':=s.gens) (d':=s.drawn) (ch:=[it]) (fun b i=>?_) (fun b o _ _ a e _=>k b o (fun z=>a (by simp[z])) e) (fun b o _ _ a e _=>⟨o.slots,k b o (fun z=>a (by simp[z])) e⟩) (fun _ _ _ _ n=>n)
  (fun b o a e=>⟨o,k b o (fun z=>a (by simp[z])) e⟩) (fun _ _ e=>e) (fun _ _ _ e=>e) (fun b ps e=>⟨#[],by rw[e];simp⟩) (fun m j=>?_) (fun b u e=>?_) I.bare
 ·have e:b=it:=by simpa using i
  subst e;exact⟨h1,d,h2,h⟩
 ·obtain⟨o,l,t,w,r⟩:=j;exact⟨o,l,t,k _ o (Ne.symm d) w,r⟩
 ·refine(I.hok b u e).stay (fun c v a q=>k c v ?_ q) (fun _ q=>q) fun _ _ q=>q;rcases a with z|z
  ·rw[z];exact f b u e
  ·exact f c _ z
theorem Inv.tok(I:Inv X U σ H s)(t:Nat):Inv X U σ H { s with toks:=t }:=I.un (h':=s.heap) (t':=t) Un.refl I.hok
theorem Inv.kept{t':Nat}(I:Inv X U σ H s)(k:∀b u,s.heap.get? b=some u→h'.get? b=some u):Inv X U σ H { s with heap:=h',toks:=t' }:=I.un (Un.kept k) (I.hok.kept k)
theorem Inv.laid{a:Addr}{o:HO}{t':Nat}(I:Inv X U σ H s)(k:∀b u,s.heap.get? b=some u→h'.get? b=some u)(c:s.heap.objs.size≤a)(new:Z4 X.prog X.w (upd H a o) h' a o) :
  Inv X U σ (upd H a o) { s with heap:=h',toks:=t' }:=I.un (Un.laid k c (I.hok.fresh c)) (I.hok.laid k c new)
theorem Inv.write{x e:Addr}{o:HO}{t':Nat}(I:Inv X U σ H s)(a:Mut (H x))(he:e=x∨H e=some (.own x))(k:∀b u,b≠e→s.heap.get? b=some u→h'.get? b=some u)(c:∃u,h'.get? e=some u)
  (new:Z4 X.prog X.w (upd H x o) h' x o):Inv X U σ (upd H x o) { s with heap:=h',toks:=t' }:=I.un (Un.write a he k c) (I.hok.write a he k c new)
theorem Inv.pins_of{a:List (Addr×Obj)}(I:Inv X U σ H s)(h:∀p∈a,s.heap.get? p.1=some p.2∧H p.1=none∧p.1≠X.env.locals∧p.1 ∉ X.fs∧∀v,p.2.data≠.cell v):Inv X a σ H s :=
 ⟨I.ok,I.os,I.bare,I.base,I.loc,I.cell,I.free,I.freeC,fun p b=>(Qo.mp b).elim (fun z=>I.pin p (QG _ z)) (h p),I.hok,I.len⟩
theorem Sv{N:List Str}(c:N.Nodup){i j:Nat}{x:Str}(a:N[i]? = some x)(b:N[j]? = some x):i=j:=by obtain⟨h1,d⟩:=Qd.mp a;obtain⟨h2,e⟩:=Qd.mp b;exact(List.getElem_inj c).mp (d.trans e.symm)
theorem Ov{M:Model}{A:Around}{E:Value→Shared→Prop}{i:Nat}{x:Str}{v:V}{u:Value}{Q:Unit→Shared→Prop}(I:Inv X U σ H s)(T:X.N.Nodup)(B:X.N[i]? = some x)(hx:Loc X.env.scope x)(r:ZI v u)
  (h:∀s',Inv X U (σ.set i (some v)) H s'→(∃a,Heap.SameBut a s.heap s'.heap∧(a=X.env.locals∨X.env.cells.lookup x=some a))→Q () s') (hf:X.fn x=true∨X.env.scope.names.lookup x=some .local:=by first|exact .inl rfl|exact .inr rfl|assumption):wpAny M A (storeName X.env x u) Q E s:=by
 obtain⟨m,F,W⟩:=id I.loc;have gl:(X.env.scope.kind == .class||(X.env.scope.kind == .module&&X.env.locals != X.env.globals))=false:=by rw[I.ok.kind];rfl
 have Y:i<σ.length:=by rw[I.len];exact(Qd.mp B).1
 have cne:=I.cne;have Z:∀ {a:Addr} {h':Heap},(∃o,s.heap.get? a=some o∧H a=none)→Heap.SameBut a s.heap h'→HOk X.prog X.w H h':=fun {a h'} ha f b ob e=>by
  obtain⟨_,_,cD⟩:=ha;refine(I.hok b ob e).stay (fun c C hc q=>(f.2 c ?_).trans q) (fun _ q=>q) fun _ _ q=>q;rintro rfl;rcases hc with rfl|hc
  ·rw[cD]at e;cases e
  ·rw[cD]at hc;cases hc
 rcases hx with hk|hk
 ·refine wpAny_storeName_local hk F (fun h' qS f=>?_) gl;obtain⟨oL,_,_,lT,_⟩:=id F;refine h _ ⟨I.ok,I.os,I.bare,⟨fun b o e n t hx=>?_,fun b o e n t hx=>?_,I.base.free,fun b o e hx=>?_,I.base.tups,I.base.frzs,I.base.tbls⟩,⟨_,qS,fun j y G g l J=>?_⟩,fun y c e=>?_,I.free,I.freeC,fun p K=>?_,Z ⟨oL,lT,I.free⟩ f,by simpa using I.len⟩ ⟨_,f,.inl rfl⟩
  ·exact(f.2 b (Qz (Qt (Qi e) I.ok.above))).trans (I.base.keep b o e n t hx)
  ·obtain⟨L,g⟩:=I.base.slot b o e n t hx;exact⟨L,(f.2 b (Qz (Qt (Qi e) I.ok.above))).trans g⟩
  ·obtain⟨N,g⟩:=I.base.there b o e hx;exact⟨N,(f.2 b (Qz (Qt (Qi e) I.ok.above))).trans g⟩
  ·by_cases w:j=i
   ·subst w;rw[B]at g;cases g;rw[Qau Y]at l;cases l;exact⟨u,r,.inl ⟨hk,by simp⟩⟩
   ·rw[List.getElem?_set_ne (Ne.symm w)]at l;obtain⟨O,P,q⟩:=W j y G g l J;refine⟨O,P,?_⟩;rcases q with⟨k,e⟩|⟨k,c,e,z⟩
    ·refine .inl ⟨k,?_⟩;have:y≠x:=fun e=>w (Sv T g (e ▸ B));simp[this,e]
    ·exact .inr ⟨k,c,e,z.sameBut f (cne y c e)⟩
  ·obtain⟨C,z⟩:=I.cell y c e;exact⟨C,z.sameBut f (cne y c e)⟩
  ·obtain⟨e,n,ne,R,d⟩:=I.pin p K;exact⟨(f.2 p.1 ne).trans e,n,ne,R,d⟩
 ·have S:X.fn x=true:=by
   rcases hf with z|z
   ·exact z
   ·rw[z]at hk;cases hk
  obtain⟨c,hc⟩:=I.ok.has x (.inl hk);obtain⟨C,z⟩:=I.cell x c hc;refine wpAny_storeName_cell I.ok.kind hk hc z (fun h' lU f=>?_);obtain⟨oc,uz,uA⟩:=id z;refine h { s with heap:=h' } ⟨I.ok,I.os,I.bare,⟨fun b o e n t hx=>?_,fun b o e n t hx=>?_,I.base.free,fun b o e hx=>?_,I.base.tups,I.base.frzs,I.base.tbls⟩,⟨m,F.sameBut f (Ne.symm (cne x c hc)),fun j y G g l J=>?_⟩,fun y D e=>?_,I.free,I.freeC,fun p K=>?_,Z ⟨oc,uz,I.freeC x c hc⟩ f,by simpa using I.len⟩ ⟨c,f,.inr hc⟩
  ·exact(f.2 b (Qz (Qt (Qi e) (I.ok.cab x c S hc)))).trans (I.base.keep b o e n t hx)
  ·obtain⟨L,g⟩:=I.base.slot b o e n t hx;exact⟨L,(f.2 b (Qz (Qt (Qi e) (I.ok.cab x c S hc)))).trans g⟩
  ·obtain⟨N,g⟩:=I.base.there b o e hx;exact⟨N,(f.2 b (Qz (Qt (Qi e) (I.ok.cab x c S hc)))).trans g⟩
  ·by_cases w:j=i
   ·subst w;rw[B]at g;cases g;rw[Qau Y]at l;cases l;exact⟨u,r,.inr ⟨.inl hk,c,hc,lU⟩⟩
   ·rw[List.getElem?_set_ne (Ne.symm w)]at l;obtain⟨O,P,q⟩:=W j y G g l J;refine⟨O,P,?_⟩;rcases q with q|⟨k,D,e,z'⟩
    ·exact .inl q
    ·refine .inr ⟨k,D,e,z'.sameBut f ?_⟩;rintro rfl;exact w (Sv T g (I.ok.inj _ _ _ e hc ▸ B))
  ·by_cases uB:D=c
   ·subst uB;exact⟨_,lU⟩
   ·obtain⟨w2,z2⟩:=I.cell y D e;exact⟨w2,z2.sameBut f uB⟩
  ·obtain⟨e,n,ne,R,d⟩:=I.pin p K;refine⟨(f.2 p.1 ?_).trans e,n,ne,R,d⟩;intro q;rw[q,uz]at e;have q':oc=p.2:=Qj e;exact d C (by rw[← q'];exact uA)
theorem V5{M:Model}{A:Around}{E:Value→Shared→Prop}{i:Nat}{x:Str}{v:V}{u:Value}{Q:Unit→Shared→Prop}(I:Inv X U σ H s)(a:X.N.Nodup)(b:X.N[i]? = some x)(hx:Loc X.env.scope x)(r:ZI v u)
  (h:∀s',Inv X U (σ.set i (some v)) H s'→Q () s') (c:X.fn x=true∨X.env.scope.names.lookup x=some .local:=by first|exact .inl rfl|exact .inr rfl|assumption):wpAny M A (storeName X.env x u) Q E s :=
 Ov I a b hx r (fun s' d _=>h s' d) c
theorem Inv.call'{s':Shared}{ch:List Addr}(I:Inv X U σ H s)(a:s'.os=s.os)(u:Un (frs X.stack) ch H H' s.heap s'.heap)(hok:HOk X.prog X.w H' s'.heap)(d:AllBare s'.gens)
  (f:∀b∈ch,(b∈X.ex∨X.s₀.heap.objs.size≤b)∧b≠X.env.locals∧(∀x c,X.env.cells.lookup x=some c→c≠b)∧∀p∈X.pn++U,p.1≠b):Inv X U σ H' s':=by
 obtain⟨h',g',d',t',g⟩:=s';have e:g=s.os:=a;subst e;exact I.call (g':=g') (t':=t') (d':=d') u hok d f
end
abbrev XK:=Value→Option Addr→Hp→Prop
abbrev St:=List (Option V)
abbrev VK:=V→Hp→Prop
abbrev TE:=St→Hp→VK→Prop
abbrev TT:=St→Hp→(Bool→Hp→Prop)→Prop
abbrev TA:=St→Hp→(List V→Hp→Prop)→Prop
structure XH where
 nx:St→Hp→Prop
 rt:VK
 bk:St→Hp→Prop:=fun _ _=>False
 ct:St→Hp→Prop:=fun _ _=>False
abbrev TS:=XH→St→Hp→Prop
def EP(X:Cx)(U:List (Addr×Obj))(b:St)(Q:VK)(u:Value)(s':Shared):Prop:=∃v a,Inv X U b a s'∧ZI v u∧Q v a
def TP(X:Cx)(U:List (Addr×Obj))(c:St)(Q:Bool→Hp→Prop)(b:Bool)(s':Shared):Prop:=∃a,Inv X U c a s'∧Q b a
def AP(X:Cx)(U:List (Addr×Obj))(b:St)(Q:List V→Hp→Prop)(us:List Value)(s':Shared):Prop:=∃vs a,Inv X U b a s'∧ZH vs us∧Q vs a
def SP(X:Cx)(U:List (Addr×Obj))(D:XH)(f:Flow)(s':Shared):Prop :=
 match f with
 | .next=>∃b a,Inv X U b a s'∧D.nx b a
 | .brk=>∃b a,Inv X U b a s'∧D.bk b a
 | .cont=>∃b a,Inv X U b a s'∧D.ct b a
 | .ret u=>∃v b a,Inv X U b a s'∧ZI v u∧D.rt v a
def PE(X:Cx)(e:Expr)(t:TE):Prop :=
 ∀ (U:List (Addr×Obj)) (s:Shared) (a:St) (H:Hp) (Q:VK),Inv X U a H s→t a H Q→#[9,X] (eval e X.env) (EP X U a Q) X.xe s
def PT(X:Cx)(e:Expr)(t:TT):Prop :=
 ∀ (U:List (Addr×Obj)) (s:Shared) (a:St) (H:Hp) (Q:Bool→Hp→Prop),Inv X U a H s→t a H Q→#[9,X] (isTrue e X.env (eval e X.env)) (TP X U a Q) X.xe s
def PW(X:Cx)(e:Expr)(t:TT):Prop :=
 ∀ (b:Sem Value) (U:List (Addr×Obj)) (s:Shared) (a:St) (H:Hp) (Q:Bool→Hp→Prop),Inv X U a H s→t a H Q→#[9,X] (isTrue e X.env b) (TP X U a Q) X.xe s
theorem PW.pt{X:Cx}{e:Expr}{t:TT}(h:PW X e t):PT X e t:=h _
def PA(X:Cx)(c:List Expr)(t:TA):Prop :=
 ∀ (a:Pos) (U:List (Addr×Obj)) (s:Shared) (b:St) (H:Hp) (Q:List V→Hp→Prop),Inv X U b H s→t b H Q→#[9,X] (spliced (backTo a (starEach c X.env))) (AP X U b Q) X.xe s
def PS(X:Cx)(st:Stmt)(t:TS):Prop :=
 ∀ (U:List (Addr×Obj)) (s:Shared) (a:St) (H:Hp) (D:XH),Inv X U a H s→t D a H→#[9,X] (exec st X.env) (SP X U D) X.xe s
def PSs(X:Cx)(st:List Stmt)(t:TS):Prop :=
 ∀ (U:List (Addr×Obj)) (s:Shared) (a:St) (H:Hp) (D:XH),Inv X U a H s→t D a H→#[9,X] (execs st X.env) (SP X U D) X.xe s
theorem thn{α:Type}{t:Sem α}{Q b:α→Shared→Prop}{M:Model}{A:Around}{E:Value→Shared→Prop}{s:Shared}(h:wpAny M A t Q E s)(c:∀a s,Q a s→b a s):wpAny M A t b E s:=wpAny_mono h c fun _ _ x=>x
section
variable {X:Cx}
inductive EA {α:Type} (A B:α→Prop):Prop where
 | mk (v:α) (a:A v) (b:B v)
def T3(i:Nat):TE:=fun a H Q=>EA (fun v=>a[i]? = some (some v)) (fun v=>Q v H)
def tC(v:V):TE:=fun _ H Q=>Q v H
theorem Su{i:Nat}{x:Str}{pos:Pos}(f:X.N[i]? = some x)(g:Vis X.env.scope x)(hd:(x == ("__debug__" : Str))=false:=by decide)(j:(x == ("__classdict__" : Str))=false:=by decide):PE X (.Name x pos) (T3 i):=by
 intro U s k H Q I h;obtain⟨v,e,h⟩:=h;obtain⟨m,n,o⟩:=I.loc;obtain⟨u,r,l⟩:=o i x v f e g;have a:EP X U k Q u s:=⟨v,H,I,r,h⟩;rcases l with⟨hk,p⟩|⟨hk,c,b,d⟩
 ·exact wpAny_Name (wpAny_loadName_local I.ok.kind hk n p a) hd
 ·rcases hk with hk|hk
  ·exact wpAny_Name (wpAny_loadName_cell I.ok.kind hk b d a) hd
  ·exact wpAny_Name (wpAny_loadName_free I.ok.kind hk b d a j) hd
theorem Zj{i j pos}:PE X (.Constant (.int i) j pos) (tC (.int i)):=fun _ _ _ H _ I h=>wpAny_Constant_int ⟨.int i,H,I.tok _,⟨_,rfl⟩,h⟩
theorem Yd{b j pos}:PE X (.Constant (.bool b) j pos) (tC (.bl b)):=fun _ _ _ H _ I h=>Constant_bool ⟨.bl b,H,I,rfl,h⟩
theorem ZT{j pos}:PE X (.Constant .none j pos) (tC .non):=fun _ _ _ H _ I h=>Constant_none ⟨.non,H,I,rfl,h⟩
theorem Zs{x j pos}:PE X (.Constant (.str x) j pos) (tC (.str x)):=fun _ _ _ H _ I h=>Calls.Constant_str ⟨.str x,H,I.tok _,⟨_,rfl⟩,h⟩
def Gl(X:Cx)(x:Str):Prop:=X.env.kindOf x=some .globalImplicit
theorem Vx{E:Value→Shared→Prop}{U:List (Addr×Obj)}{s:Shared}{a:St}{H:Hp}{x:Str}{u:Value}{pos:Pos}{Q:Value→Shared→Prop}(I:Inv X U a H s)(b:Gl X x)(hm:X.mg x=some u)(h:Q u s)
  (hd:(x == ("__debug__" : Str))=false:=by decide):#[9,X] (eval (.Name x pos) X.env) Q E s :=
 Calls.Name_function_global I.ok.kind b (Calls.loadGlobal_global (by rw[I.ok.glob];exact I.mod.glob.keeps I.bk) hm h) hd
theorem Wu{E:Value→Shared→Prop}{U:List (Addr×Obj)}{s:Shared}{a:St}{H:Hp}{x:Str}{u:Value}{pos:Pos}{Q:Value→Shared→Prop}(I:Inv X U a H s)(b:Gl X x)(hm:X.mg x=none)(c:bootBuiltins x=some u)(h:Q u s)
  (d:x ≠ "__name__":=by decide) (hd:(x == ("__debug__" : Str))=false:=by decide):#[9,X] (eval (.Name x pos) X.env) Q E s:=by
 obtain⟨mb,e,f⟩:=I.mod.blt;exact Calls.Name_function_global I.ok.kind b (Calls.loadGlobal_builtin (by rw[I.ok.glob];exact I.mod.glob.keeps I.bk) hm (by rw[I.ok.blt];exact e.keeps I.bk) ((f x d).trans c) h) hd
theorem Zoy{x:Str}{v:V}{u:Value}{pos:Pos}(a:Gl X x)(hm:X.mg x=some u)(r:ZI v u)(hd:(x == ("__debug__" : Str))=false:=by decide):PE X (.Name x pos) (tC v) :=
 fun _ _ _ H _ I h=>Vx I a hm ⟨v,H,I,r,h⟩ hd
theorem Zn7{x:Str}{v:V}{u:Value}{pos:Pos}(a:Gl X x)(hm:X.mg x=none)(b:bootBuiltins x=some u)(r:ZI v u)(c:x ≠ "__name__":=by decide)(hd:(x == ("__debug__" : Str))=false:=by decide):PE X (.Name x pos) (tC v) :=
 fun _ _ _ H _ I h=>Wu I a hm b ⟨v,H,I,r,h⟩ c hd
variable {a b:Expr} {ta tb:TE} {pos:Pos}
def tB(t:TE):TT:=fun a H Q=>t a H fun x b=>EA (fun c=>x=.bl c) (fun c=>Q c b)
theorem Yi{e:Expr}{t:TE}(h:PE X e t)(he:∀a,isTrue e X.env a=(do let v ← a;standAt e.pos;holding [v] (truthy v)):=by intro _;rfl):PT X e (tB t):=by intro U s b H Q I hw;refine isTrue_plain (thn (h U s b H _ I hw) ?_) (he _);rintro v s1 ⟨x,c,f,g,i⟩;obtain⟨d,rfl,q⟩:=i;cases g;exact wpAny_truthy_bool ⟨c,f,q⟩
variable {tA oE:TT} {rest:List Expr}
def Zsb(t u:TT):TT:=fun a H Q=>t a H fun c b=>if c=true then u a b Q else Q false b
def tOr(t u:TT):TT:=fun a H Q=>t a H fun c b=>if c=true then Q true b else u a b Q
def Zsp(t:TT):TT:=fun a H Q=>t a H fun c b=>Q (!c) b
theorem Xi(ha:PT X a tA):PW X (.BoolOp .And [a] pos) tA:=by
 intro wh U s b H Q I h;refine isTrue_and (thn (ha U s b H Q I h) fun c s1 e=>?_);cases c with
 | true=>exact isTrue_and_nil e
 | false=>exact e
theorem Xa(ha:PT X a tA):PW X (.BoolOp .Or [a] pos) tA:=by
 intro wh U s b H Q I h;refine isTrue_or (thn (ha U s b H Q I h) fun c s1 e=>?_);cases c with
 | false=>exact isTrue_or_nil e
 | true=>exact e
theorem Xu(ha:PT X a tA)(hb:PW X (.BoolOp .And (b::rest) pos) oE):PW X (.BoolOp .And (a::b::rest) pos) (Zsb tA oE):=by
 intro i U s d H Q I h;refine isTrue_and (thn (ha U s d H _ I h) ?_);rintro c j ⟨e,f,g⟩;cases c with
 | true=>exact hb i U j d e Q f g
 | false=>exact⟨e,f,g⟩
theorem Xh(ha:PT X a tA)(hb:PW X (.BoolOp .Or (b::rest) pos) oE):PW X (.BoolOp .Or (a::b::rest) pos) (tOr tA oE):=by
 intro i U s d H Q I h;refine isTrue_or (thn (ha U s d H _ I h) ?_);rintro c j ⟨e,f,g⟩;cases c with
 | true=>exact⟨e,f,g⟩
 | false=>exact hb i U j d e Q f g
theorem XR(ha:PT X a tA):PT X (.UnaryOp .Not a pos) (Zsp tA):=by intro U s b H Q I h;exact isTrue_not (ha U s b H (fun c d=>Q (!c) d) I h)
def Zru(ta tb:TE):TE:=fun a H Q=>ta a H fun x b=>∃c,x=.bl c∧if c=true then tb a b Q else Q (.bl false) b
def Zrt(ta:TE):TE:=fun a H Q=>ta a H fun x b=>∃c,x=.bl c∧Q (.bl (!c)) b
theorem UW{op}{t:TE}(h:PE X a t):PE X (.BoolOp op [a] pos) t:=fun U s b H Q I hw=>BoolOp_one (h U s b H Q I hw)
theorem Wt(ha:PE X a ta)(hb:PE X (.BoolOp .And (b::rest) pos) tb):PE X (.BoolOp .And (a::b::rest) pos) (Zru ta tb):=by
 intro U s e H Q I h;refine BoolOp_and (thn (ha U s e H _ I h) ?_);rintro v i ⟨x,f,g,j,d⟩;obtain⟨c,rfl,d⟩:=d;cases j;refine wpAny_truthy_bool ?_;cases c with
 | true=>exact hb U i e f Q g d
 | false=>exact⟨.bl false,f,g,rfl,d⟩
theorem ZqT(ha:PE X a ta):PE X (.UnaryOp .Not a pos) (Zrt ta):=by intro U s d H Q I h;refine UnaryOp_ (thn (ha U s d H _ I h) ?_);rintro v s1 ⟨x,e,f,g,b⟩;obtain⟨c,rfl,b⟩:=b;cases g;exact not_of (wpAny_truthy_bool ⟨.bl (!c),e,f,rfl,b⟩)
def tIf(t:TT)(ta tb:TE):TE:=fun a H Q=>t a H fun c b=>if c=true then ta a b Q else tb a b Q
theorem Xn{c:Expr}(hc:PT X c tA)(ha:PE X a ta)(hb:PE X b tb):PE X (.IfExp c a b pos) (tIf tA ta tb):=by
 intro U s e H Q I h;refine wpAny_IfExp (thn (hc U s e H _ I h) ?_);rintro d f ⟨g,i,j⟩;cases d with
 | true=>exact ha U f e g Q i j
 | false=>exact hb U f e g Q i j
end
def SqL(K:#[7])(H:Hp)(a:Addr)(xs:List V):Prop :=
 Rd H a (.lst xs) ∨
  ∃ (o:Obj) (its:Array Value) (n:Nat),K.lookup a=some o∧o.cls=.type "list"∧o.dict=none∧o.data=.seq its n∧its.size≤sizeLine∧ZH xs its.toList
def SqT(K:#[7])(H:Hp)(a:Addr)(xs:List V):Prop :=
 Rd H a (.tup xs) ∨
  ∃ (o:Obj) (its:Array Value) (n:Nat),K.lookup a=some o∧o.cls=.type "tuple"∧o.data=.seq its n∧its.size≤sizeLine∧ZH xs its.toList
noncomputable def Zsv:Value→Option V
 | .none=>some .non
 | .bool b=>some (.bl b)
 | .int i _=>some (.int i)
 | .str x _=>some (.str x)
 | .bytes b _=>some (.byt b)
 | .float b _=>some (.flt b)
 | .ref a=>some (.ref a)
 | .type n=>some (.ty n)
 | _=>none
theorem ZI.abs{x:V}{u:Value}(r:ZI x u):Zsv u=some x:=by
 cases x with
 | non=>cases r;rfl
 | bl _=>cases r;rfl
 | int _=>obtain⟨t,rfl⟩:=r;rfl
 | str _=>obtain⟨t,rfl⟩:=r;rfl
 | byt _=>obtain⟨t,rfl⟩:=r;rfl
 | flt _=>obtain⟨t,rfl⟩:=r;rfl
 | ref _=>cases r;rfl
 | ty _=>cases r;rfl
theorem ZI.inj{x y:V}{u:Value}(r:ZI x u)(q:ZI y u):x=y:=Qj (r.abs.symm.trans q.abs)
theorem ZH.inj:∀ {xs ys:List V} {us:List Value},ZH xs us→ZH ys us→xs=ys
 | _,_,_,.nil,.nil=>rfl
 | _,_,_,.cons r t,.cons a t'=>by rw[r.inj a,ZH.inj t t']
section
variable {X:Cx} {U:List (Addr×Obj)} {σ:St} {H:Hp} {s:Shared} {a:Addr} {xs ys:List V}
theorem SqL.of{K:#[7]}(h:H a=some (.lst xs)):SqL K H a xs:=.inl (.inl h)
theorem SqT.of{K:#[7]}(h:H a=some (.tup xs)):SqT K H a xs:=.inl (.inl h)
theorem Inv.list(I:Inv X U σ H s)(h:SqL X.K H a xs):∃its:List Value,ZH xs its∧PlainL s.heap a its.toArray∧xs.length≤sizeLine:=by
 rcases h with h|⟨o,its,n,b,c,d,f,hz,r⟩
 ·obtain⟨z,its,n,r,e⟩:=h.ok I.hok;exact⟨its,r,⟨_,n,e,rfl,rfl,rfl⟩,z⟩
 ·refine⟨its.toList,r,⟨o,n,I.kIn a o b,c,d,by simpa using f⟩,?_⟩;have e:=r.length;simp only[Array.length_toList]at e;lia
theorem Inv.tuple(I:Inv X U σ H s)(h:SqT X.K H a xs):∃its:List Value,ZH xs its∧IsTup s.heap a its.toArray∧xs.length≤sizeLine:=by
 rcases h with h|⟨o,its,n,b,c,d,hz,r⟩
 ·obtain⟨z,its,r,p⟩:=h.ok I.hok;exact⟨its,r,p,z⟩
 ·refine⟨its.toList,r,⟨o,I.kIn a o b,c,n,by simpa using d⟩,?_⟩;have e:=r.length;simp only[Array.length_toList]at e;lia
theorem Inv.list_inj(I:Inv X U σ H s)(h:SqL X.K H a xs)(h':SqL X.K H a ys):xs=ys:=by
 obtain⟨its,r,⟨o,n,e,_,_,d⟩,_⟩:=I.list h;obtain⟨b,g,⟨o',n',c,_,_,f⟩,_⟩:=I.list h';rw[e]at c;cases c;rw[d]at f;injection f with i _;have:its=b:=by simpa using congrArg Array.toList i
 subst this;exact r.inj g
theorem Inv.tuple_inj(I:Inv X U σ H s)(h:SqT X.K H a xs)(h':SqT X.K H a ys):xs=ys:=by
 obtain⟨its,r,⟨o,e,_,n,d⟩,_⟩:=I.tuple h;obtain⟨b,g,⟨o',c,_,n',f⟩,_⟩:=I.tuple h';rw[e]at c;cases c;rw[d]at f;injection f with i _;have:its=b:=by simpa using congrArg Array.toList i
 subst this;exact r.inj g
end
noncomputable abbrev Cx.wish(X:Cx)(E:Value→Shared→Prop):Cx:={ X with xe:=E }
noncomputable abbrev Cx.nox(X:Cx):Cx:=X.wish fun _ _=>False
theorem Cx.Ok.wish{X:Cx}(ok:X.Ok)(E:Value→Shared→Prop):(X.wish E).Ok :=
 ⟨ok.mod,ok.kind,ok.glob,ok.blt,ok.above,ok.inj,ok.has,ok.cab,ok.hd,ok.frames,ok.stk,ok.exf,ok.bs,ok.bsz,ok.noex,ok.exfs,ok.funs,ok.frf⟩
theorem Cx.Ok.unwish{X:Cx}{E:Value→Shared→Prop}(ok:(X.wish E).Ok):X.Ok :=
 ⟨ok.mod,ok.kind,ok.glob,ok.blt,ok.above,ok.inj,ok.has,ok.cab,ok.hd,ok.frames,ok.stk,ok.exf,ok.bs,ok.bsz,ok.noex,ok.exfs,ok.funs,ok.frf⟩
section
variable {X:Cx} {U:List (Addr×Obj)} {σ:St} {H:Hp} {s:Shared} {E:Value→Shared→Prop}
theorem Inv.wish(I:Inv X U σ H s)(E:Value→Shared→Prop):Inv (X.wish E) U σ H s:=⟨I.ok.wish E,I.os,I.bare,I.base,I.loc,I.cell,I.free,I.freeC,I.pin,I.hok,I.len⟩
theorem Inv.unwish(I:Inv (X.wish E) U σ H s):Inv X U σ H s:=⟨I.ok.unwish,I.os,I.bare,I.base,I.loc,I.cell,I.free,I.freeC,I.pin,I.hok,I.len⟩
theorem SP.unwish{D:XH}{f:Flow}{s':Shared}(h:SP (X.wish E) U D f s'):SP X U D f s':=by
 cases f with
 | next=>obtain⟨a,b,I,q⟩:=h;exact⟨a,b,I.unwish,q⟩
 | brk=>obtain⟨a,b,I,q⟩:=h;exact⟨a,b,I.unwish,q⟩
 | cont=>obtain⟨a,b,I,q⟩:=h;exact⟨a,b,I.unwish,q⟩
 | ret u=>obtain⟨v,a,b,I,r,q⟩:=h;exact⟨v,a,b,I.unwish,r,q⟩
theorem PSs.nox{st:List Stmt}{t:TS}(h:PSs X.nox st t):PSs X st t:=fun U s σ H D I hw =>
 wpAny_mono (h U s σ H D (I.wish _) hw) (fun _ _ q=>q.unwish) fun _ _ z=>False.elim z
end
section
variable {X:Cx} {st:Stmt} {rest:List Stmt} {t u:TS} {e:Expr} {te:TE} {pos:Pos}
def ZrW:TS:=fun D a H=>D.nx a H
def Zss(t u:TS):TS:=fun D a H=>t { D with nx:=u D } a H
theorem ZE:PSs X [] ZrW:=fun _ _ a H _ I h=>wpAny_execs_nil ⟨a,H,I,h⟩
theorem Zf(h1:PS X st t)(h2:PSs X rest u):PSs X (st::rest) (Zss t u):=by
 intro U s a H D I h;refine wpAny_execs_cons (thn (h1 U s a H { D with nx:=u D } I h) fun f b q=>?_);cases f with
 | next=>obtain⟨c,d,e,q⟩:=q;exact h2 U b c d D e q
 | ret v=>exact q
 | brk=>exact q
 | cont=>exact q
theorem Zi(h1:PS X st t):PSs X [st] t:=by
 intro U s a H D I h;refine wpAny_execs_cons (thn (h1 U s a H D I h) fun f s1 q=>?_);cases f with
 | next=>exact wpAny_execs_nil q
 | ret v=>exact q
 | brk=>exact q
 | cont=>exact q
theorem Inv.quiet{U:List (Addr×Obj)}{a:St}{H:Hp}{s:Shared}(I:Inv X U a H s):interactive X.env=false:=by simp[interactive,I.ok.kind]
def Zr7(te:TE):TS:=fun D a H=>te a H fun _ b=>D.nx a b
theorem YD(he:PE X e te)(b:swapsWith e none pos.line X.env=pure false:=by rfl):PS X (.Expr e pos) (Zr7 te):=by intro U s a H D I h;exact wpAny_Expr_any (thn (he U s a H _ I h) fun v s1 ⟨x,c,d,r1,f⟩=>⟨a,c,d,f⟩) I.quiet b
def Zsk(te:TE):TS:=fun D a H=>te a H D.rt
theorem Zo(he:PE X e te):PS X (.Return (some e) pos) (Zsk te):=by intro U s a H D I h;exact wpAny_Return_some (thn (he U s a H _ I h) fun v s1 ⟨x,b,c,d,f⟩=>⟨x,a,b,c,d,f⟩)
def ZsA(c:TT)(t u:TS):TS:=fun D a H=>c a H fun b d=>if b=true then t D a d else u D a d
theorem ZO{c:Expr}{a b:List Stmt}{f:TT}(hc:PT X c f)(ha:PSs X a t)(hb:PSs X b u):PS X (.If c a b pos) (ZsA f t u):=by
 intro U s e H D I h;refine wpAny_If (thn (hc U s e H _ I h) ?_);rintro d g ⟨i,j,k⟩;cases d with
 | true=>exact ha U g e i D j k
 | false=>exact hb U g e i D j k
end
abbrev TG:=V→St→Hp→(St→Hp→Prop)→Prop
abbrev TGs:=List V→St→Hp→(St→Hp→Prop)→Prop
def PG(X:Cx)(d:Expr)(t:TG):Prop :=
 ∀ (U:List (Addr×Obj)) (s:Shared) (a:St) (H:Hp) (v:V) (u:Value) (Q:St→Hp→Prop),Inv X U a H s→ZI v u→t v a H Q →
  #[9,X] (assign d X.env u) (fun _ e=>∃b c,Inv X U b c e∧Q b c) X.xe s
def PGs(X:Cx)(ts:List Expr)(t:TGs):Prop :=
 ∀ (U:List (Addr×Obj)) (s:Shared) (a:St) (H:Hp) (b:List V) (c:List Value) (Q:St→Hp→Prop),Inv X U a H s→ZH b c→t b a H Q →
  #[9,X] (assignInOrder ((assignEach ts X.env).map (·.2)) c) (fun _ f=>∃d e,Inv X U d e f∧Q d e) X.xe s
abbrev T2:=V→V→V→Hp→(Hp→Prop)→Prop
def Ss(X:Cx)(t:T2):Prop :=
 ∀ (U:List (Addr×Obj)) (s:Shared) (a:St) (H:Hp) (o i v:V) (b c u:Value) (Q:Hp→Prop),Inv X U a H s→ZI o b→ZI i c→ZI v u→t o i v H Q →
  #[9,X] (setItem b c u) (fun _ e=>∃d,Inv X U a d e∧Q d) X.xe s
abbrev TIp:=V→V→Hp→VK→Prop
def PIp(X:Cx)(op:Operator)(t:TIp):Prop :=
 ∀ (U:List (Addr×Obj)) (s:Shared) (a:St) (H:Hp) (x y:V) (v u:Value) (Q:VK),Inv X U a H s→ZI x v→ZI y u→t x y H Q →
  #[9,X] (inplaceOp op v u) (EP X U a Q) X.xe s
section
variable {X:Cx} {pos:Pos}
def T1(i:Nat):TG:=fun v a H Q=>Q (a.set i (some v)) H
theorem ZD{i:Nat}{x:Str}(a:X.N.Nodup)(b:X.N[i]? = some x)(hx:Loc X.env.scope x)(c:X.fn x=true∨X.env.scope.names.lookup x=some .local:=by first|exact .inl rfl|exact .inr rfl|assumption):PG X (.Name x pos) (T1 i):=by intro U s σ H v u Q I r h;exact wpAny_assign_Name (V5 I a b hx r (fun s' d=>⟨_,H,d,h⟩) c)
def ZsI:TGs:=fun vs a H Q=>vs=[]∧Q a H
inductive RGc (vs:List V) (B:V→List V→Prop):Prop where
 | mk (v:V) (r:List V) (e:vs=v::r) (q:B v r)
def Zrb(t:TG)(u:TGs):TGs:=fun vs a H Q=>RGc vs fun v r=>t v a H fun b c=>u r b c Q
theorem Yb:PGs X [] ZsI:=by intro U s a H vs us Q I r h;obtain⟨e,h⟩:=h;subst e;cases r;exact assignInOrder_nil ⟨a,H,I,h⟩
theorem ZC{e:Expr}{a:List Expr}{t:TG}{u:TGs}(h1:PG X e t)(h2:PGs X a u)
  (b:(assignEach (e::a) X.env).map (·.2)=assign e X.env::(assignEach a X.env).map (·.2):=by rfl):PGs X (e::a) (Zrb t u):=by
 intro U s c H vs us Q I r h;obtain⟨v,vr,d,h⟩:=h;subst d;cases r with
 | cons r f=>rw[b];refine assignInOrder_cons (thn (h1 U s c H _ _ _ I r h) ?_);rintro _ g ⟨i,j,k,l⟩;exact h2 U g i j _ _ Q k f l
inductive RGt (K:#[7]) (H:Hp) (n:Nat) (v:V) (B:List V→Prop):Prop where
 | mk (a:Addr) (xs:List V) (e:v=.ref a) (s:SqT K H a xs) (l:xs.length=n) (q:B xs)
def Ou(K:#[7])(n:Nat)(t:TGs):TG:=fun v a H Q=>RGt K H n v fun xs=>t xs a H Q
theorem ZqJ{c:List Expr}{k:Nat}{t:TGs}{n:Nat}(hc:X.calm=true)(h:PGs X c t)
  (g:(assignEach c X.env).length=n:=by rfl) (i:(assignEach c X.env).findIdx? (·.1)=none:=by rfl):PG X (.Tuple c k pos) (Ou X.K n t):=by
 intro U s d H v u Q I r hw;obtain⟨a,j,l,m,p,hw⟩:=hw;subst l;cases r;obtain⟨its,f,q,hz⟩:=I.tuple m;refine assign_Tuple_tuple (I.ok.hd hc) q (by simp[g,← p,f.length]) i fun w x=>?_;have y:Inv X U d H { s with heap:=w }:=I.kept (t':=s.toks) fun b o e=>x b o (Qz (Qi e)) e;exact h U _ d H j _ Q y (by simpa using f) hw
def ZsG(to b:TE)(t:T2):TG:=fun v a H Q=>to a H fun o c=>b a c fun i d=>t o i v d fun e=>Q a e
theorem Yt{o i:Expr}{to d:TE}{t:T2}(e:PE X o to)(f:PE X i d)(g:Ss X t)
  (ha:∀v,assign (.Subscript o i pos) X.env v=(do
   let a ← holding [v] (eval o X.env);let b ← holding [v,a] (eval i X.env)
   standAt pos
   holding [v,a,b] (setItem a b v)
   release [v,a,b] []):=by intro _;rfl):PG X (.Subscript o i pos) (ZsG to d t):=by
 intro U s c H v u Q I r h;rw[ha];refine wpAny_bind (wpAny_holding (thn (e U s c H _ I h) ?_));rintro a j ⟨x,k,l,m,n⟩;refine wpAny_bind (wpAny_holding (thn (f U j c k _ l n) ?_));rintro b p ⟨y,q,w,z,A⟩;refine wpAny_bind (wpAny_standAt (wpAny_bind (wpAny_holding (thn (g U p c q x y v a b u _ w m z r A) ?_))));rintro _ s3 ⟨B,C,D⟩;exact wpAny_release ⟨c,B,C,D⟩
def Sr(b:TE)(g:TG):TS:=fun D a H=>b a H fun x c=>g x a c D.nx
theorem Z6{a e:Expr}{b:TE}{g:TG}(he:PE X e b)(d:PG X a g)(f:swapsWithSole [a] e pos.line X.env=pure false:=by rfl)(hw:swappedStores [a] e X.env=pure none:=by rfl)
  (i:(assignEach [a] X.env).map (·.2)=[assign a X.env]:=by rfl):PS X (.Assign [a] e pos) (Sr b g):=by
 intro U s c H D I h;refine wpAny_Assign_stores (thn (he U s c H _ I h) ?_) f hw;rintro v j ⟨x,k,l,m,n⟩;rw[i];exact thn (d U j c k x v _ l m n) fun _ s2 q=>q
theorem Zx{i:Nat}{x:Str}{e:Expr}{a:TE}{b:Pos}(c:X.N.Nodup)(d:X.N[i]? = some x)(hx:Loc X.env.scope x)(he:PE X e a)(f:swapsWith e (some (.Name x b)) pos.line X.env=pure false:=by rfl)(g:X.fn x=true∨X.env.scope.names.lookup x=some .local:=by first|exact .inl rfl|exact .inr rfl|assumption) :
  PS X (.Assign [.Name x b] e pos) (Sr a (T1 i)):=by
 intro U s j H D I h;refine wpAny_Assign_Name (thn (he U s j H _ I h) ?_) f;rintro v s1 ⟨y,k,l,m,n⟩;exact V5 l c d hx m (fun s2 o=>⟨_,k,o,n⟩) g
def ZsK(i j:Nat)(b:TA):TS:=fun D a H=>b a H fun vs c=>∃v w,vs=[v,w]∧D.nx ((a.set i (some v)).set j (some w)) c
theorem V4{i j:Nat}{x y:Str}{a b:Expr}{n:TA}{g k pt:Pos}{kt k2 l}(hc:X.calm=true)(r:X.N.Nodup)(A:X.N[i]? = some x)(B:X.N[j]? = some y)(C:i≠j)
  (hx:X.env.scope.names.lookup x=some .local) (hy:X.env.scope.names.lookup y=some .local) (ha:PA X [a,b] n)
  (hw:swappedStores [.Tuple [.Name x g,.Name y k] kt pt] (.Tuple [a,b] k2 l) X.env=pure (some [x,y]))
  (E:swapsWithSole [.Tuple [.Name x g,.Name y k] kt pt] (.Tuple [a,b] k2 l) pos.line X.env=pure false:=by rfl) :
  PS X (.Assign [.Tuple [.Name x g,.Name y k] kt pt] (.Tuple [a,b] k2 l) pos) (ZsK i j n):=by
 intro U s t H D I h;rw[exec_Assign_arm];refine wpAny_bind (wpAny_standAt ?_);rw[E];refine wpAny_bind (wpAny_pure ?_);rw[if_neg #[6]];refine wpAny_bind (Tuple_ (thn (ha _ U s t H _ I h) ?_));rintro F c ⟨vs,u,G,J,m⟩;obtain⟨v,w,K,m⟩:=m;subst K;obtain⟨d,f,rfl,L,M⟩:∃d f,F=[d,f]∧ZI v d∧ZI w f:=by
  cases J with
  | cons p q =>
   cases q with
   | cons N O=>cases O;exact⟨_,_,rfl,p,N⟩
 refine wpAny_newObj_type ?_ (by show 2≤sizeLine;decide);have P:Inv X U t u { c with heap:=c.heap.push { cls:=.type "tuple",data:=.seq [d,f].toArray } }:=G.kept (t':=c.toks) fun b o e=>Qc _ e;rw[hw];refine wpAny_bind (wpAny_pure ?_);show #[9,X] (do rule "assign.swapped-stores";let items ← unpackItems (.ref c.heap.objs.size) 2 none;assignInOrder [fun v=>bindName X.env y v,fun v=>bindName X.env x v] items.reverse;pure Flow.next) _ _ _;refine wpAny_bind (wpAny_rule (wpAny_bind (unpackItems_tuple (items:=#[d,f]) (I.ok.hd hc) (IsTup.new c.heap _) fun h' Q=>?_)));have R:=P.kept (h':=h') (t':=c.toks) fun b o e=>Q b o (Qz (Qi e)) e;show wpAny _ _ (assignInOrder [fun v=>bindName X.env y v,fun v=>bindName X.env x v] [f,d] >>= fun _=>pure Flow.next) _ _ _;refine wpAny_bind (assignInOrder_cons (wpAny_bindName (V5 R r B (.inl hy) M (fun s2 S=>?_) (.inr hy))));refine assignInOrder_cons (wpAny_bindName (V5 S r A (.inl hx) L (fun s3 z=>assignInOrder_nil (wpAny_pure ?_)) (.inr hx)));rw[List.set_comm _ _ (Ne.symm C)]at z;exact⟨_,u,z,m⟩
def ZsE(i:Nat)(b:TE)(c:TIp):TS:=fun D a H=>∃x,a[i]? = some (some x)∧b a H fun y d=>c x y d fun z e=>D.nx (a.set i (some z)) e
theorem Zqh{i:Nat}{x:Str}{e:Expr}{a:TE}{op:Operator}{b:TIp}{g:Pos}(j:X.N.Nodup)(d:X.N[i]? = some x)(hx:Loc X.env.scope x)(he:PE X e a)(n:PIp X op b)(o:X.fn x=true∨X.env.scope.names.lookup x=some .local:=by first|exact .inl rfl|exact .inr rfl|assumption) :
  PS X (.AugAssign (.Name x g) op e pos) (ZsE i a b):=by
 intro U s f H D I h;obtain⟨v,p,h⟩:=h;obtain⟨m,q,t⟩:=I.loc;have A:Vis X.env.scope x:=by rcases hx with k|k;exact .inl k;exact .inr (.inl k)
 obtain⟨u,r,l⟩:=t i x v d p A;refine wpAny_AugAssign_Name ?_;have go:#[9,X] (eval e X.env) (fun w B=>#[9,X] (inplaceOp op u w) (fun r C=>#[9,X] (storeName X.env x r) (fun _=>SP X U D .next) X.xe C) X.xe B) X.xe s:=by refine thn (he U s f H _ I h) ?_;rintro w E ⟨y,F,G,J,K⟩;refine thn (n U E f F v y u w _ G r J K) ?_;rintro z s2 ⟨zv,L,M,N,O⟩;exact V5 M j d hx N (fun s3 P=>⟨_,L,P,O⟩) o
 rcases l with⟨hk,Q⟩|⟨hk,c,R,S⟩
 ·exact wpAny_loadName_local I.ok.kind hk q Q go
 ·rcases hk with hk|hk
  ·exact wpAny_loadName_cell I.ok.kind hk R S go
  ·rcases hx with k|k
   ·have:X.env.scope.names.lookup x=some .free:=hk;rw[k]at this;cases this
   ·have:X.env.scope.names.lookup x=some .free:=hk;rw[k]at this;cases this
def ipI(f:Int→Int→Int):TIp:=fun x y H Q=>∃i j,x=.int i∧y=.int j∧Q (.int (f i j)) H
theorem Zqv:PIp X .Add (ipI fun i j=>i+j):=by intro U s σ H x y v u Q I a b h;obtain⟨i,j,c,d,q⟩:=h;subst c;subst d;obtain⟨t,rfl⟩:=a;obtain⟨t',rfl⟩:=b;exact iadd_int ⟨.int _,H,I.tok _,⟨_,rfl⟩,q⟩
end
section
variable {X:Cx} {pos:Pos}
def Zqb(c:TT)(h:TS):TS:=fun D a H=>∃W:Nat→St→Hp→Prop,(∃m,W m a H)∧∀m a H,W m a H →
 c a H fun b d=>if b=true then ∃N:St→Hp→Prop,(∀e f,N e f→∃g,g<m∧W g e f)∧h { D with nx:=N,ct:=N,bk:=D.nx } a d else D.nx a d
theorem UV{c:Expr}{q:List Stmt}{r:TT}{t:TS}(u:PassesOwn (model X.prog X.w) X.A X.env X.xe)(hc:PT X c r)(hb:PSs X q t):PS X (.While c q [] pos) (Zqb r t):=by
 intro U s C H D I h;obtain⟨W,⟨E,F⟩,a⟩:=h;refine wpAny_While (codeAny_whileLoop (fun n G=>∃w x,Inv X U w x G∧W n w x) ?_ E ⟨C,H,I,F⟩);rintro n J ⟨g,y,K,L⟩;refine wpAny_passesOwn u (thn (hc U J g y _ K (a n g y L)) ?_);rintro b M ⟨z,A,i⟩;cases b with
 | true =>
  obtain⟨N,B,i⟩:=i;rw[if_pos rfl];refine wpAny_passesOwn u (thn (hb U M g z _ A i) fun f s3 j=>?_);cases f with
  | next=>obtain⟨d,e,k,l⟩:=j;obtain⟨m,o,p⟩:=B d e l;exact⟨m,o,d,e,k,p⟩
  | cont=>obtain⟨d,e,k,l⟩:=j;obtain⟨m,o,p⟩:=B d e l;exact⟨m,o,d,e,k,p⟩
  | brk=>exact j
  | ret v=>exact j
 | false=>rw[if_neg Qq];exact wpAny_execs_nil ⟨g,z,A,i⟩
end
structure It where
 go:Nat→Hp→Prop
 yld:Nat→Hp→V→Hp→Prop
 stop:Nat→Hp→Prop
def Xm(X:Cx)(U:List (Addr×Obj))(H:Hp)(b:Addr):Prop :=
 H b=none∧b≠X.env.locals∧b ∉ X.fs∧(b∈X.ex∨X.s₀.heap.objs.size≤b)∧(∀x c,X.env.cells.lookup x=some c→c≠b)∧∀p∈X.pn++U,p.1≠b
theorem Inv.fpOk{X:Cx}{U:List (Addr×Obj)}{d:St}{H a:Hp}{s:Shared}{b:Addr}(I:Inv X U d H s)(hb:s.heap.objs.size≤b)(f:a b=none):Xm X U a b:=by
 refine⟨f,Q1 (Qt I.lt hb),I.nofs hb,.inr (Qw I.sz hb),fun x c e z=>?_,fun p g z=>?_⟩
 ·obtain⟨v,q⟩:=I.cell x c e;exact absurd (Qt q.lt (by rw[z];exact hb)) (Qab _)
 ·exact absurd (Qt (Qi (I.pin p g).1) (by rw[z];exact hb)) (Qab _)
structure WK (P:Program) (w:World) (K:#[7]) (tg:Expr) (J:It) (fp:List Addr) (it:Addr) (tn:Nat→Heap→Prop):Prop where
 mem:it∈fp
 obj:∀i h,tn i h→∀b∈fp,∃o,h.get? b=some o∧∀v,o.data≠.cell v
 keep:∀i h h',tn i h→(∀b∈fp,∀o,h.get? b=some o→h'.get? b=some o)→tn i h'
 item:∀ (X:Cx),X.prog=P→X.w=w→X.K=K→X.calm=true→∀ (i:Nat) (U:List (Addr×Obj)) (s:Shared) (σ:St) (H:Hp) (E:Value→Shared→Prop),Inv X U σ H s→(∀b∈fp,Xm X U H b)→tn i s.heap→J.go i H →
  wpAny (model P w) X.A (pyNext (.ref it)) (fun r s1=>∃u,r=some u ∧
   wpAny (model P w) X.A (letOwnedTupleGo tg (.ref it) u) (fun _ s2=>∃x H',Inv X U σ H' s2∧ZI x u∧J.yld i H x H'∧tn (i+1) s2.heap∧∀b∈fp,H' b=none) E s1) E s
 done:∀ (X:Cx),X.prog=P→X.w=w→X.K=K→X.calm=true→∀ (i:Nat) (U:List (Addr×Obj)) (s:Shared) (σ:St) (H:Hp) (E:Value→Shared→Prop),Inv X U σ H s→(∀b∈fp,Xm X U H b)→tn i s.heap→J.stop i H →
  wpAny (model P w) X.A (pyNext (.ref it)) (fun r s1=>r=none∧Inv X U σ H s1) E s
 self:∀ (A:Around) (i:Nat) (s:Shared) (Q:Value→Shared→Prop) (E:Value→Shared→Prop),tn i s.heap→Q (.ref it) s→wpAny (model P w) A (pyIter (.ref it)) Q E s
abbrev TI:=St→Hp→(It→Hp→Prop)→Prop
def PIE(X:Cx)(U:List (Addr×Obj))(f:St)(g:Expr)(R:It→Hp→Prop)(h:Value)(c:Shared):Prop :=
 ∃ (d:Addr) (fp:List Addr) (e:Nat→Heap→Prop) (J:It) (a:Hp),h=.ref d∧Inv X U f a c∧WK X.prog X.w X.K g J fp d e∧e 0 c.heap∧(∀b∈fp,Xm X U a b)∧R J a
def PI(X:Cx)(b iter:Expr)(c:TI):Prop :=
 ∀ (U:List (Addr×Obj)) (s:Shared) (a:St) (H:Hp) (R:It→Hp→Prop),Inv X U a H s→c a H R →
  #[9,X] (eval iter X.env) (fun v d=>#[9,X] (pyIter v) (PIE X U a b R) X.xe d) X.xe s
theorem UU{M:Model}{A:Around}{E:Value→Shared→Prop}{s:Shared}{b:Expr}{it:Addr}{u:Value}{o:Obj}{n:String}{vs:Array Value}{Q:Unit→Shared→Prop}(c:s.heap.get? it=some o)(hc:o.cls=.type n)(hd:o.data=.fields vs)
  (d:["enumerate", "zip", "dict_itemiterator", "dict_reverseitemiterator", "odict_iterator", "itertools.zip_longest", "itertools.pairwise"].contains n=false) (a:Q () s):wpAny M A (letOwnedTupleGo b (.ref it) u) Q E s:=by
 unfold letOwnedTupleGo;cases b<;>first
  | exact wpAny_pure a
  | (cases u<;>first
    | exact wpAny_pure a
    | (refine wpAny_bind (wpAny_load c ?_);rw[hc,hd];show wpAny M A (if (["enumerate", "zip", "dict_itemiterator", "dict_reverseitemiterator", "odict_iterator", "itertools.zip_longest", "itertools.pairwise"].contains n&&vs[0]? == some (rawInt _))=true then _ else _) Q E s;rw[if_neg (by intro h;rw[d,Bool.false_and]at h;cases h)];exact wpAny_pure a))
noncomputable def Itl(K:#[7])(a:Addr):It :=
 ⟨fun i H=>∃b x,SqL K H a b∧b[i]? = some x,fun i H x c=>c=H∧∀b,SqL K H a b→b[i]? = some x,fun i H=>∃b,SqL K H a b∧b.length≤i⟩
noncomputable def Itt(K:#[7])(a:Addr):It :=
 ⟨fun i H=>∃b x,SqT K H a b∧b[i]? = some x,fun i H x c=>c=H∧∀b,SqT K H a b→b[i]? = some x,fun i H=>∃b,SqT K H a b∧b.length≤i⟩
noncomputable def Itr(lo:Int)(n:Nat):It:=⟨fun i _=>i<n,fun i H x a=>a=H∧x=.int (lo+i),fun i _=>n≤i⟩
theorem ZlP{P:Program}{w:World}{K:#[7]}{L:Expr}(a it:Addr):WK P w K L (Itl K a) [it] it (fun i h=>h.IsListIter it a i) where
 mem:=by simp
 obj:=fun i h st b f=>by
  have e:b=it:=by simpa using f
  subst e;obtain⟨o,e,c,d⟩:=st;exact⟨o,e,fun v z=>by rw[d]at z;cases z⟩
 keep:=fun i h g st k=>st.at fun o e=>k it #[4] o e
 item:=by intro X m hw n F i U s G H E I j st q;subst m hw n;obtain⟨M,x,l,r⟩:=q;obtain⟨its,t,p,N⟩:=I.list l;obtain⟨u,O,Q⟩:=t.get r;obtain⟨y,A,R,B,C,D⟩:=j it #[4];refine wpAny_pyNext_list_item st p.isList (x:=u) (by simpa using O) fun g J S=>?_;have T:Inv X U G H { s with heap:=g }:=I.turned (t':=s.toks) (fun b o f e=>(S.2 b f).trans e) y A B C D;obtain⟨o,e,c,d⟩:=id J;exact⟨u,rfl,UU (s:={ s with heap:=g }) e c d #[6] ⟨x,H,T,Q,⟨rfl,fun ys V=>by rw[I.list_inj V l];exact r⟩,J,fun b f=>(j b f).1⟩⟩
 done:=by intro X m hw n F i U s G H E I j st q;subst m hw n;obtain⟨M,l,r⟩:=q;obtain⟨its,t,p,N⟩:=I.list l;obtain⟨y,A,R,B,C,D⟩:=j it #[4];have hl:=t.length;exact wpAny_pyNext_list_end (I.ok.hd F) st p.isList (by simp;lia) fun g W=>⟨rfl,I.turned (t':=s.toks) (fun b o f e=>W b o f e) y A B C D⟩
 self:=fun _ _ _ _ _ st h=>wpAny_pyIter_listiter st h
theorem Zkb{P:Program}{w:World}{K:#[7]}{L:Expr}(a it:Addr):WK P w K L (Itt K a) [it] it (fun i h=>h.IsTupleIter it a i) where
 mem:=by simp
 obj:=fun i h st b f=>by
  have e:b=it:=by simpa using f
  subst e;obtain⟨o,e,c,d⟩:=st;exact⟨o,e,fun v z=>by rw[d]at z;cases z⟩
 keep:=fun i h g st k=>st.at fun o e=>k it #[4] o e
 item:=by intro X m hw n F i U s G H E I j st q;subst m hw n;obtain⟨M,x,l,r⟩:=q;obtain⟨its,t,p,N⟩:=I.tuple l;obtain⟨u,O,Q⟩:=t.get r;obtain⟨y,A,R,B,C,D⟩:=j it #[4];refine wpAny_pyNext_tuple_item st (show s.heap.IsTuple a its.toArray from p) (x:=u) (by simpa using O) fun g J S=>?_;have T:Inv X U G H { s with heap:=g }:=I.turned (t':=s.toks) (fun b o f e=>(S.2 b f).trans e) y A B C D;obtain⟨o,e,c,d⟩:=id J;exact⟨u,rfl,UU (s:={ s with heap:=g }) e c d #[6] ⟨x,H,T,Q,⟨rfl,fun ys V=>by rw[I.tuple_inj V l];exact r⟩,J,fun b f=>(j b f).1⟩⟩
 done:=by intro X m hw n F i U s G H E I j st q;subst m hw n;obtain⟨M,l,r⟩:=q;obtain⟨its,t,p,N⟩:=I.tuple l;obtain⟨y,A,R,B,C,D⟩:=j it #[4];have hl:=t.length;exact wpAny_pyNext_tuple_end (I.ok.hd F) st (show s.heap.IsTuple a its.toArray from p) (by simp;lia) fun g W=>⟨rfl,I.turned (t':=s.toks) (fun b o f e=>W b o f e) y A B C D⟩
 self:=fun _ _ _ _ _ st h=>wpAny_pyIter_tupleiter st h
theorem Zkg{P:Program}{w:World}{K:#[7]}{B:Expr}(it:Addr)(lo:Int)(n:Nat):WK P w K B (Itr lo n) [it] it (fun i h=>IsRangeIter h it (lo+(i:Nat)*1) ((n:Int)-(i:Nat)) 1) where
 mem:=by simp
 obj:=fun i h st b a=>by
  have e:b=it:=by simpa using a
  subst e;exact⟨_,st,fun v z=>by have C:Data.fields _=Data.cell v:=z;cases C⟩
 keep:=fun i h c st k=>k it #[4] _ st
 item:=by intro X f hw g j i U s x H E I d st l;subst f hw g;obtain⟨m,p,D,q,r,u⟩:=d it #[4];have W:=Walks.range (prog:=X.prog) (w:=X.w) (I.ok.hd j) it lo 1 n;refine W.item i s _ _ l st fun v c y F A kk=>?_;obtain⟨t,rfl⟩:=F;have G:Inv X U x H { s with heap:=c,toks:=y }:=I.turned (fun b o a e=>kk b o (by simpa using a) e) m p q r u;refine⟨_,rfl,UU (s:={ s with heap:=c,toks:=y }) (n := "range_iterator") A rfl rfl #[6] ⟨.int (lo+i),H,G,⟨t,?_⟩,⟨rfl,rfl⟩,A,fun b a=>(d b a).1⟩⟩;rw[Int.mul_one]
 done:=by intro X f hw g j i U s x H E I d st l;subst f hw g;obtain⟨m,p,D,q,r,u⟩:=d it #[4];exact wpAny_pyNext_range_end (I.ok.hd j) st (by have:n≤i:=l;lia) fun c J=>⟨rfl,I.turned (t':=s.toks) (fun b o a e=>J b o a e) m p q r u⟩
 self:=fun _ _ _ _ _ st h=>wpAny_pyIter_rangeiter st h
section
variable {X:Cx} {tg:Expr}
def Ot(K:#[7])(c:TE):TI:=fun d H R=>c d H fun x b=>∃a,x=.ref a∧(∃xs,SqL K b a xs)∧R (Itl K a) b
def Oq(K:#[7])(c:TE):TI:=fun d H R=>c d H fun x b=>∃a,x=.ref a∧(∃xs,SqT K b a xs)∧R (Itt K a) b
theorem ZoF{l:Expr}{f:TE}(hl:PE X l f):PI X tg l (Ot X.K f):=by
 intro U s g H R I h;refine thn (hl U s g H _ I h) ?_;rintro v c ⟨x,i,d,j,k⟩;obtain⟨a,e,⟨xs,m⟩,q⟩:=k;subst e;cases j;obtain⟨its,rv,p,hz⟩:=d.list m;refine wpAny_pyIter_list p.isList ?_;refine⟨c.heap.objs.size,[c.heap.objs.size],_,_,i,rfl,d.kept (t':=c.toks) fun b o e=>Qc _ e,ZlP a _,⟨_,Qm _ rfl,rfl,rfl⟩,fun b n=>?_,q⟩;have e:b=c.heap.objs.size:=by simpa using n
 subst e;exact d.fpOk (Qg _) (d.hok.fresh (Qg _))
theorem ZpY{l:Expr}{f:TE}(hl:PE X l f):PI X tg l (Oq X.K f):=by
 intro U s g H R I h;refine thn (hl U s g H _ I h) ?_;rintro v c ⟨x,i,d,j,k⟩;obtain⟨a,e,⟨xs,m⟩,q⟩:=k;subst e;cases j;obtain⟨its,rv,p,hz⟩:=d.tuple m;refine wpAny_pyIter_tuple (show c.heap.IsTuple a its.toArray from p) ?_;refine⟨c.heap.objs.size,[c.heap.objs.size],_,_,i,rfl,d.kept (t':=c.toks) fun b o e=>Qc _ e,Zkb a _,⟨_,Qm _ rfl,rfl,rfl⟩,fun b n=>?_,q⟩;have e:b=c.heap.objs.size:=by simpa using n
 subst e;exact d.fpOk (Qg _) (d.hok.fresh (Qg _))
theorem Op{U:List (Addr×Obj)}{c:St}{H:Hp}{s:Shared}{R:It→Hp→Prop}{E:Value→Shared→Prop}{lo a:Int}{t u v:Tok}{tk:Nat}(I:Inv X U c H s)(h1:-(2 ^ 62)≤lo)(h2:lo<2 ^ 62)(f:-(2 ^ 62)≤a)(g:a<2 ^ 62)
  (q:R (Itr lo (a-lo).toNat) H):#[9,X] (pyIter (.ref s.heap.objs.size)) (PIE X U c tg R) E { s with heap:=s.heap.push { cls:=.type "range",data:=.fields #[.int lo t,.int a u,.int 1 v] },toks:=tk }:=by
 refine wpAny_pyIter_range (IsRange.new ..) (small_one h1 h2 f g) ?_;have d:Inv X U c H { s with heap:=s.heap.push { cls:=.type "range",data:=.fields #[.int lo t,.int a u,.int 1 v] },toks:=tk }:=I.kept fun b o e=>Qc _ e;refine⟨(s.heap.push { cls:=.type "range",data:=.fields #[.int lo t,.int a u,.int 1 v] }).objs.size,[(s.heap.push { cls:=.type "range",data:=.fields #[.int lo t,.int a u,.int 1 v] }).objs.size],_,_,H,rfl,
  d.kept (t':=tk) fun b o e=>Qc _ e,Zkg _ lo (a-lo).toNat,?_,fun b h=>?_,q⟩
 ·have i:lo+((0:Nat):Int)*1=lo:=by simp
  have j:(((a-lo).toNat:Nat):Int)-((0:Nat):Int)=Builtin.Range.rangeSize lo a 1:=by rw[rangeSize_one];split<;>lia
  show IsRangeIter _ _ (lo+((0:Nat):Int)*1) ((((a-lo).toNat:Nat):Int)-((0:Nat):Int)) 1;rw[i,j];exact Qm _ rfl
 ·have e:b=(s.heap.push { cls:=.type "range",data:=.fields #[.int lo t,.int a u,.int 1 v] }).objs.size:=by simpa using h
  subst e;exact d.fpOk (Qg _) (d.hok.fresh (Qg _))
def Zq4(a:TA):TI:=fun b H R=>a b H fun vs c=>∃j:Int,vs=[.int j] ∧ -(2 ^ 62)≤j∧j<2 ^ 62∧R (Itr 0 j.toNat) c
def ZrJ(a:TA):TI:=fun b H R=>a b H fun vs c=>∃i j:Int,vs=[.int i,.int j]∧(-(2 ^ 62)≤i∧i<2 ^ 62 ∧ -(2 ^ 62)≤j∧j<2 ^ 62)∧R (Itr i (j-i).toNat) c
theorem W7{a:Expr}{c:TA}{p pos:Pos}(d:Gl X "range")(hm:X.mg "range" = none)(ha:PA X [a] c)(f:starEach [a] X.env=[(false,eval a X.env)]:=by rfl):PI X tg (.Call (.Name "range" p) [a] [] pos) (Zq4 c):=by
 intro U s g H R I h;refine Call_ (Wu I d hm boot_range (QV (thn (ha pos U s g H _ I h) ?_) f rfl));rintro us s1 ⟨vs,H1,i,k,b⟩;obtain⟨j,e,b,l,q⟩:=b;subst e;cases k with
 | cons r m=>cases m;obtain⟨t,rfl⟩:=r;exact call_range_1 (Op i #[2] #[2] b l (by simpa using q))
theorem Zl0{a b:Expr}{f:TA}{p pos:Pos}(k:Gl X "range")(hm:X.mg "range" = none)(ha:PA X [a,b] f)(l:starEach [a,b] X.env=[(false,eval a X.env),(false,eval b X.env)]:=by rfl)(g:starEach [b] X.env=[(false,eval b X.env)]:=by rfl) :
  PI X tg (.Call (.Name "range" p) [a,b] [] pos) (ZrJ f):=by
 intro U s m H R I h;refine Call_ (Wu I k hm boot_range (QV (thn (ha pos U s m H _ I h) ?_) (by rw[l,g]) (by rw[g];rfl)));rintro us s1 ⟨vs,H1,n,o,c⟩;obtain⟨i,j,e,⟨c,u,v,w⟩,q⟩:=c;subst e;cases o with
 | cons r d =>
  cases d with
  | cons x d=>cases d;obtain⟨t,rfl⟩:=r;obtain⟨t',rfl⟩:=x;exact call_range_2 (Op n c u v w q)
def Zsd(e:TI)(g:TG)(f:TS):TS:=fun D a H=>e a H fun J h=>∃W:Nat→Nat→St→Hp→Prop,(∃m,W 0 m a h)∧∀i m a H,W i m a H →
 (J.stop i H∧D.nx a H)∨(J.go i H∧∃N:St→Hp→Prop,(∀c b,N c b→∃d,d<m∧W (i+1) d c b)∧∀x b,J.yld i H x b→g x a b fun j k=>f { D with nx:=N,ct:=N,bk:=D.nx } j k)
noncomputable def UT(fp:List Addr)(h:Heap):List (Addr×Obj):=fp.filterMap fun b=>(h.get? b).map fun o=>(b,o)
theorem T0{fp:List Addr}{h:Heap}{b:Addr}{o:Obj}(hb:b∈fp)(e:h.get? b=some o):(b,o)∈UT fp h:=List.mem_filterMap.mpr ⟨b,hb,by rw[e];rfl⟩
theorem ZlH{fp:List Addr}{h:Heap}{p:Addr×Obj}(a:p∈UT fp h):p.1∈fp∧h.get? p.1=some p.2:=by
 obtain⟨b,c,e⟩:=List.mem_filterMap.mp a;cases q:h.get? b with
 | none=>rw[q]at e;cases e
 | some o=>rw[q]at e;have d:(b,o)=p:=Qj e;subst d;exact⟨c,q⟩
theorem Inv.pinned{U:List (Addr×Obj)}{a:St}{H:Hp}{s:Shared}{fp:List Addr}(I:Inv X U a H s)(g:∀b∈fp,Xm X U H b)(h:∀b∈fp,∃o,s.heap.get? b=some o∧∀v,o.data≠.cell v):Inv X (U++UT fp s.heap) a H s :=
 I.pins_of fun p i=>(Qo.mp i).elim (fun z=>I.pin p (Qy _ z)) fun z=>by obtain⟨c,e⟩:=ZlH z;obtain⟨j,k,l,_⟩:=g p.1 c;obtain⟨o,f,d⟩:=h p.1 c;rw[e]at f;cases f;exact⟨e,j,k,l,d⟩
theorem Inv.unpinned{U pl:List (Addr×Obj)}{a:St}{H:Hp}{s:Shared}(I:Inv X (U++pl) a H s):Inv X U a H s:=I.pins_of fun p b=>I.pin p (Qy _ (QG _ b))
theorem Ya{iter:Expr}{F:List Stmt}{G:TI}{g:TG}{K:TS}{pos:Pos}(p:PassesOwn (model X.prog X.w) X.A X.env X.xe)(hc:X.calm=true)(hi:PI X tg iter G)(hg:PG X tg g)(hb:PSs X F K)
  (hs:∀x,foldedSetIterable iter X.env x=pure x:=by intro _;rfl):PS X (.For tg iter F [] pos) (Zsd G g K):=by
 intro U s L H D I h;refine wpAny_For (thn (hi U s L H _ I h) fun v s1 h1=>thn h1 fun qW s2 h2=>?_) hs;obtain⟨it,fp,M,J,H2,e,I2,T,oF,O,W,⟨m0,w0⟩,q⟩:=h2;subst e;have A:∀ {k:Hp},(∀b∈fp,k b=none)→∀b∈fp,Xm X U k b:=fun hn b hb=>⟨hn b hb,(O b hb).2⟩;refine codeAny_forLoop_any (fun n P=>∃i t k,Inv X U t k P∧M i P.heap∧(∀b∈fp,k b=none)∧W i n t k) ?_ m0 ⟨0,L,H2,I2,oF,fun b hb=>(O b hb).1,w0⟩;rintro n Q ⟨i,w,z,R,S,V,w3⟩;rcases q i n w z w3 with⟨stop,qn⟩|⟨go,N,hN,step⟩
 ·refine wpAny_passesOwn p (thn (T.done X rfl rfl rfl hc i U Q w z X.xe R (A V) S stop) ?_);rintro r s4 ⟨B,I4⟩;subst B;exact wpAny_execs_nil ⟨w,z,I4,qn⟩
 ·refine wpAny_passesOwn p (thn (T.item X rfl rfl rfl hc i U Q w z X.xe R (A V) S go) ?_);rintro r s4 ⟨u,B,h4⟩;subst B;refine wpAny_passesOwn p (thn h4 ?_);rintro _ Y ⟨x,Z,I5,r5,y5,C,oH⟩;have zh:=I5.pinned (A oH) (T.obj _ _ C);refine wpAny_passesOwn p (thn (hg _ Y w Z x u _ zh r5 (step x Z y5)) ?_);rintro _ s6 ⟨zi,H6,I6,q6⟩;refine wpAny_passesOwn p (thn (hb _ s6 zi H6 _ I6 q6) fun f E l=>?_);have again:∀ {a:St} {c:Hp},Inv X (U++UT fp Y.heap) a c E→N a c→∃m,m<n∧∃i t k,Inv X U t k E∧M i E.heap∧(∀b∈fp,k b=none)∧W i m t k:=fun {a c} j y=>by obtain⟨m',hm,w7⟩:=hN a c y;refine⟨m',hm,i+1,a,c,j.unpinned,T.keep _ _ _ C fun b hb o e=>(j.pin (b,o) (Qy _ (Qy _ (T0 hb e)))).1,fun b hb=>?_,w7⟩;obtain⟨o,e,d⟩:=T.obj _ _ C b hb;exact(j.pin (b,o) (Qy _ (Qy _ (T0 hb e)))).2.1
  cases f with
  | next=>obtain⟨a,c,j,y⟩:=l;exact again j y
  | cont=>obtain⟨a,c,j,y⟩:=l;exact again j y
  | brk=>obtain⟨a,c,j,l⟩:=l;exact⟨a,c,j.unpinned,l⟩
  | ret v=>obtain⟨x7,a,c,j,r7,l⟩:=l;exact⟨x7,a,c,j.unpinned,r7,l⟩
end
theorem Vw{K:#[7]}{a:Addr}{xs:List V}{g:TG}{j:TS}{D:XH}{b:St}{H:Hp}(Pv:Nat→St→Hp→Prop)(h0:Pv 0 b H)(hl:∀i b H,i≤xs.length→Pv i b H→SqL K H a xs)
  (n:∀i x b H,xs[i]? = some x→Pv i b H→g x b H fun d f=>j { D with nx:=Pv (i+1),ct:=Pv (i+1),bk:=D.nx } d f) (hd:∀b H,Pv xs.length b H→D.nx b H) :
  ∃W:Nat→Nat→St→Hp→Prop,(∃m,W 0 m b H)∧∀i m b H,W i m b H →
   ((Itl K a).stop i H∧D.nx b H)∨((Itl K a).go i H∧∃N:St→Hp→Prop,(∀h c,N h c→∃k,k<m∧W (i+1) k h c)∧∀x c,(Itl K a).yld i H x c→g x b c fun d f=>j { D with nx:=N,ct:=N,bk:=D.nx } d f):=by
 refine⟨fun i m b H=>m=xs.length-i∧i≤xs.length∧Pv i b H,⟨xs.length,by simp,Qs _,h0⟩,?_⟩;rintro i m b H ⟨rfl,o,p⟩;have q:=hl i b H o p;by_cases l:i<xs.length
 ·refine .inr ⟨⟨xs,xs[i],q,by simp[l]⟩,Pv (i+1),fun h c r=>⟨xs.length-(i+1),by lia,rfl,l,r⟩,fun x c y=>?_⟩;obtain⟨e,y⟩:=y;subst e;exact n i x b _ (y xs q) p
 ·have e:i=xs.length:=by lia
  subst e;exact .inl ⟨⟨xs,q,Qg _⟩,hd b H p⟩
theorem Vv{lo:Int}{n:Nat}{g:TG}{j:TS}{D:XH}{a:St}{H:Hp}(Pv:Nat→St→Hp→Prop)(h0:Pv 0 a H)
  (l:∀i a H,i<n→Pv i a H→g (.int (lo+i)) a H fun c d=>j { D with nx:=Pv (i+1),ct:=Pv (i+1),bk:=D.nx } c d) (hd:∀a H,Pv n a H→D.nx a H) :
  ∃W:Nat→Nat→St→Hp→Prop,(∃m,W 0 m a H)∧∀i m a H,W i m a H →
   ((Itr lo n).stop i H∧D.nx a H)∨((Itr lo n).go i H∧∃N:St→Hp→Prop,(∀f b,N f b→∃k,k<m∧W (i+1) k f b)∧∀x b,(Itr lo n).yld i H x b→g x a b fun c d=>j { D with nx:=N,ct:=N,bk:=D.nx } c d):=by
 refine⟨fun i m a H=>m=n-i∧i≤n∧Pv i a H,⟨n,by simp,Qs _,h0⟩,?_⟩;rintro i m a H ⟨rfl,hi,p⟩;by_cases h:i<n
 ·refine .inr ⟨h,Pv (i+1),fun f b o=>⟨n-(i+1),by lia,rfl,h,o⟩,fun x b y=>?_⟩;obtain⟨e,y⟩:=y;subst e y;exact l i a _ h p
 ·have e:i=n:=by lia
  subst e;exact .inl ⟨Qg _,hd a H p⟩
abbrev R2:=V→V→Hp→VK→Prop
def OpR(X:Cx)(f:Value→Value→Sem Value)(r:R2):Prop :=
 ∀ (U:List (Addr×Obj)) (s:Shared) (a:St) (H:Hp) (x y:V) (v u:Value) (Q:VK),Inv X U a H s→ZI x v→ZI y u→r x y H Q →
  #[9,X] (f v u) (EP X U a Q) X.xe s
def UnR(X:Cx)(f:Value→Sem Value)(r:V→Hp→VK→Prop):Prop :=
 ∀ (U:List (Addr×Obj)) (s:Shared) (a:St) (H:Hp) (x:V) (v:Value) (Q:VK),Inv X U a H s→ZI x v→r x H Q →
  #[9,X] (f v) (EP X U a Q) X.xe s
def YW(X:Cx)(f:Value)(r:List V→Hp→VK→Prop):Prop :=
 ∀ (U:List (Addr×Obj)) (s:Shared) (a:St) (H:Hp) (b:List V) (c:List Value) (Q:VK),Inv X U a H s→ZH b c→r b H Q →
  #[9,X] (call f c) (EP X U a Q) X.xe s
def tOp(r:R2)(b c:TE):TE:=fun a H Q=>b a H fun x d=>c a d fun y e=>r x y e Q
def tUn(r:V→Hp→VK→Prop)(a:TE):TE:=fun b H Q=>a b H fun x c=>r x c Q
inductive RI2 (x y:V) (B:Int→Int→Prop):Prop where
 | mk (i j:Int) (a:x=.int i) (b:y=.int j) (q:B i j)
inductive RI3 (x y:V) (C B:Int→Int→Prop):Prop where
 | mk (i j:Int) (a:x=.int i) (b:y=.int j) (c:C i j) (q:B i j)
def rI(C:Int→Int→Prop)(g:Int→Int→V):R2:=fun x y H Q=>RI3 x y C (fun i j=>Q (g i j) H)
def rI0(g:Int→Int→V):R2:=fun x y H Q=>RI2 x y (fun i j=>Q (g i j) H)
def rU(g:Int→V):V→Hp→VK→Prop:=fun x H Q=>EA (fun i=>x=.int i) (fun i=>Q (g i) H)
section
variable {X:Cx} {a b c:Expr} {ta tb tc:TE} {pos:Pos}
theorem Sq(ha:PE X a ta)(hb:PE X b tb){U:List (Addr×Obj)}{s:Shared}{c:St}{H:Hp}{R:V→V→Hp→Prop}(I:Inv X U c H s)
  (h:ta c H fun x g=>tb c g fun y d=>R x y d) {Q:Value→Shared→Prop} {f:Value→Value→Sem Value}
  (i:∀v u e x y d,Inv X U c d e→ZI x v→ZI y u→R x y d→#[9,X] (f v u) Q X.xe e) :
  #[9,X] (eval a X.env) (fun v j=>#[9,X] (eval b X.env) (fun u k=>#[9,X] (f v u) Q X.xe k) X.xe j) X.xe s:=by
 refine thn (ha U s c H _ I h) ?_;rintro v l ⟨x,g,m,n,o⟩;refine thn (hb U l c g _ m o) ?_;rintro u e ⟨y,d,p,q,r⟩;exact i v u e x y d p n q r
theorem ZJ{op:Operator}{r:R2}(c:OpR X (binaryOp op) r)(ha:PE X a ta)(hb:PE X b tb):PE X (.BinOp a op b pos) (tOp r ta tb):=by intro U s d H Q I h;exact wpAny_BinOp (Sq ha hb I h fun v u e x y f g i j q=>c U e d f x y v u Q g i j q)
theorem US{op:UnaryOp}{r:V→Hp→VK→Prop}(c:UnR X (unaryOp op) r)(ha:PE X a ta):PE X (.UnaryOp op a pos) (tUn r ta):=by intro U s b H Q I h;exact UnaryOp_ (thn (ha U s b H _ I h) fun v d ⟨x,e,f,g,i⟩=>c U d b e x v Q f g i)
theorem opI{f:Value→Value→Sem Value}{C:Int→Int→Prop}{g:Int→Int→Int}
  (rule:∀ (i j:Int) (t u:Tok) (s:Shared) (Q:Value→Shared→Prop) (E:Value→Shared→Prop),C i j→Q (.int (g i j) s.toks) { s with toks:=s.toks+1 }→#[9,X] (f (.int i t) (.int j u)) Q E s) :
  OpR X f (rI C fun i j=>.int (g i j)):=by
 intro U s σ H x y v u Q I a b h;obtain⟨i,j,rfl,rfl,c,q⟩:=h;obtain⟨t,rfl⟩:=a;obtain⟨d,rfl⟩:=b;exact rule i j t d s _ _ c ⟨.int (g i j),H,I.tok _,⟨_,rfl⟩,q⟩
theorem Oo{f:Value→Value→Sem Value}{g:Int→Int→Int}
  (rule:∀ (i j:Int) (t u:Tok) (s:Shared) (Q:Value→Shared→Prop) (E:Value→Shared→Prop),Q (.int (g i j) s.toks) { s with toks:=s.toks+1 }→#[9,X] (f (.int i t) (.int j u)) Q E s) :
  OpR X f (rI0 fun i j=>.int (g i j)):=by
 intro U s σ H x y v u Q I a b h;obtain⟨i,j,rfl,rfl,q⟩:=h;obtain⟨t,rfl⟩:=a;obtain⟨c,rfl⟩:=b;exact rule i j t c s _ _ ⟨.int (g i j),H,I.tok _,⟨_,rfl⟩,q⟩
theorem So{f:Value→Value→Sem Value}{g:Int→Int→Bool}
  (rule:∀ (i j:Int) (t u:Tok) (s:Shared) (Q:Value→Shared→Prop) (E:Value→Shared→Prop),Q (.bool (g i j)) s→#[9,X] (f (.int i t) (.int j u)) Q E s) :
  OpR X f (rI0 fun i j=>.bl (g i j)):=by
 intro U s σ H x y v u Q I a b h;obtain⟨i,j,rfl,rfl,q⟩:=h;obtain⟨t,rfl⟩:=a;obtain⟨c,rfl⟩:=b;exact rule i j t c s _ _ ⟨.bl (g i j),H,I,rfl,q⟩
def Zse(i j:Int):Prop:=0<j∧j<1073741824
def Om(i j:Int):Prop:=0≤j∧j≤1000000∧i.natAbs<2 ^ 64
def Sn(i j:Int):Prop:=(-(2 ^ 64)<i∧i<2 ^ 64)∨(-(2 ^ 64)<j∧j<2 ^ 64)
theorem Sn.ok{i j:Int}(h:Sn i j):IntMulOk i j:=by
 rcases h with⟨a,b⟩|⟨a,b⟩
 ·exact .of_left (intBits_le_64 a b)
 ·exact .of_right (intBits_le_64 a b)
theorem YS:OpR X (binaryOp .Add) (rI0 fun i j=>.int (i+j)):=Oo fun _ _ _ _ _ _ _ q=>add_int q
theorem WJ:OpR X (binaryOp .Sub) (rI0 fun i j=>.int (i-j)):=Oo fun _ _ _ _ _ _ _ q=>sub_int q
theorem V3:OpR X (binaryOp .Mult) (rI Sn fun i j=>.int (i*j)):=opI fun _ _ _ _ _ _ _ hc q=>mul_int q hc.ok
theorem TZ:OpR X (binaryOp .FloorDiv) (rI Zse fun i j=>.int (i / j)):=opI fun i j _ _ _ _ _ hc q=>by have h1:(0:Int)<j:=hc.1;have h2:j<1073741824:=hc.2;exact floordiv_int #[2] (by rw[Int.fdiv_eq_ediv_of_nonneg i #[2]];exact q) (.inl (PyProof.noPylong_small #[2]))
theorem V2:OpR X (binaryOp .Mod) (rI (fun _ j=>0<j) fun i j=>.int (i % j)):=opI fun i j _ _ _ _ _ hc q=>by have h1:(0:Int)<j:=hc;exact mod_int' #[2] (by rw[Int.fmod_eq_emod_of_nonneg i #[2]];exact q)
theorem Zq3:OpR X (binaryOp .Pow) (rI Om fun i j=>.int (i ^ j.toNat)):=opI fun _ _ _ _ _ _ _ hc q=>pow_int_small hc.1 hc.2.1 hc.2.2 q
theorem unI{f:Value→Sem Value}{g:Int→Int}
  (rule:∀ (i:Int) (t:Tok) (s:Shared) (Q:Value→Shared→Prop) (E:Value→Shared→Prop),Q (.int (g i) s.toks) { s with toks:=s.toks+1 }→#[9,X] (f (.int i t)) Q E s) :
  UnR X f (rU fun i=>.int (g i)):=by
 intro U s σ H x v Q I a h;obtain⟨i,rfl,q⟩:=h;obtain⟨t,rfl⟩:=a;exact rule i t s _ _ ⟨.int (g i),H,I.tok _,⟨_,rfl⟩,q⟩
theorem UR:UnR X (unaryOp .USub) (rU fun i=>.int (-i)):=unI fun _ _ _ _ _ q=>neg_int q
end
noncomputable def Ol:V→V→Bool
 | .non,.non=>true|.non,.int _=>true|.int _,.non=>true|.non,.bl _=>true|.bl _,.non=>true|.non,.str _=>true|.str _,.non=>true
 | .int _,.int _=>true|.bl _,.bl _=>true|.str _,.str _=>true|.byt _,.byt _=>true
 | .int _,.str _=>true|.str _,.int _=>true|.bl _,.str _=>true|.str _,.bl _=>true
 | _,_=>false
def rEq:R2:=fun x y H Q=>Ol x y=true∧Q (.bl (decide (x=y))) H
def rNe:R2:=fun x y H Q=>Ol x y=true∧Q (.bl (!decide (x=y))) H
theorem Oj{i j:Int}:decide (V.int i=V.int j)=(i == j):=by rw[QaN];simp
theorem Oi{i j:Bool}:decide (V.bl i=V.bl j)=(i == j):=by rw[QaN];simp
theorem Oh{i j:Str}:decide (V.str i=V.str j)=(i == j):=by rw[QaN];simp
theorem Og{i j:Array UInt8}:decide (V.byt i=V.byt j)=(i.toList == j.toList):=by rw[QaN];cases i;cases j;simp
section
variable {X:Cx} {a b c:Expr} {ta tb tc:TE} {pos:Pos}
theorem ZZ{U:List (Addr×Obj)}{a:St}{H:Hp}{s:Shared}{Q:VK}{k k':Bool}(I:Inv X U a H s)(q:Q (.bl k) H)(e:k=k'):EP X U a Q (.bool k') s:=by subst e;exact⟨.bl k,H,I,rfl,q⟩
theorem YI:OpR X (compareOp .Eq) rEq:=by
 intro U s σ H x y v u Q I d a h;obtain⟨c,q⟩:=h;cases x with
 | non =>
  cases d;cases y with
  | non=>cases a;exact PySem.EqNone.eq_none_none (ZZ I q #[4])
  | bl j=>cases a;exact PySem.EqNone.eq_none_bool (ZZ I q #[4])
  | int j=>obtain⟨b,rfl⟩:=a;exact PySem.EqNone.eq_none_int (ZZ I q #[4])
  | str j=>obtain⟨b,rfl⟩:=a;exact PySem.EqNone.eq_none_str (ZZ I q #[4])
  | _=>exact absurd (show false=true from c) Qq
 | bl i =>
  cases d;cases y with
  | non=>cases a;exact PySem.EqNone.eq_bool_none (ZZ I q #[4])
  | bl j=>cases a;exact eq_bool (ZZ I q Oi)
  | str j=>obtain⟨b,rfl⟩:=a;exact PySem.EqMixed.eq_bool_str (ZZ I q #[4])
  | _=>exact absurd (show false=true from c) Qq
 | int i =>
  obtain⟨t,rfl⟩:=d;cases y with
  | non=>cases a;exact PySem.EqNone.eq_int_none (ZZ I q #[4])
  | int j=>obtain⟨b,rfl⟩:=a;exact eq_int (ZZ I q Oj)
  | str j=>obtain⟨b,rfl⟩:=a;exact PySem.EqMixed.eq_int_str (ZZ I q #[4])
  | _=>exact absurd (show false=true from c) Qq
 | str i =>
  obtain⟨t,rfl⟩:=d;cases y with
  | non=>cases a;exact PySem.EqNone.eq_str_none (ZZ I q #[4])
  | bl j=>cases a;exact PySem.EqMixed.eq_str_bool (ZZ I q #[4])
  | int j=>obtain⟨b,rfl⟩:=a;exact PySem.EqMixed.eq_str_int (ZZ I q #[4])
  | str j=>obtain⟨b,rfl⟩:=a;exact eq_str (ZZ I q Oh)
  | _=>exact absurd (show false=true from c) Qq
 | byt i =>
  obtain⟨t,rfl⟩:=d;cases y with
  | byt j=>obtain⟨b,rfl⟩:=a;exact PySem.W.eq_bytes (ZZ I q Og)
  | _=>exact absurd (show false=true from c) Qq
 | _=>cases y<;>exact absurd (show false=true from c) Qq
theorem Sl:OpR X (compareOp .NotEq) rNe:=by
 intro U s σ H x y v u Q I d a h;obtain⟨c,q⟩:=h;cases x with
 | non =>
  cases d;cases y with
  | non=>cases a;exact PySem.EqNone.ne_none_none (ZZ I q #[4])
  | bl j=>cases a;exact PySem.EqNone.ne_none_bool (ZZ I q #[4])
  | int j=>obtain⟨b,rfl⟩:=a;exact PySem.EqNone.ne_none_int (ZZ I q #[4])
  | str j=>obtain⟨b,rfl⟩:=a;exact PySem.EqNone.ne_none_str (ZZ I q #[4])
  | _=>exact absurd (show false=true from c) Qq
 | bl i =>
  cases d;cases y with
  | non=>cases a;exact PySem.EqNone.ne_bool_none (ZZ I q #[4])
  | bl j=>cases a;exact ne_bool (ZZ I q (congrArg not Oi))
  | str j=>obtain⟨b,rfl⟩:=a;exact PySem.EqMixed.ne_bool_str (ZZ I q #[4])
  | _=>exact absurd (show false=true from c) Qq
 | int i =>
  obtain⟨t,rfl⟩:=d;cases y with
  | non=>cases a;exact PySem.EqNone.ne_int_none (ZZ I q #[4])
  | int j=>obtain⟨b,rfl⟩:=a;exact ne_int (ZZ I q (congrArg not Oj))
  | str j=>obtain⟨b,rfl⟩:=a;exact PySem.EqMixed.ne_int_str (ZZ I q #[4])
  | _=>exact absurd (show false=true from c) Qq
 | str i =>
  obtain⟨t,rfl⟩:=d;cases y with
  | non=>cases a;exact PySem.EqNone.ne_str_none (ZZ I q #[4])
  | bl j=>cases a;exact PySem.EqMixed.ne_str_bool (ZZ I q #[4])
  | int j=>obtain⟨b,rfl⟩:=a;exact PySem.EqMixed.ne_str_int (ZZ I q #[4])
  | str j=>obtain⟨b,rfl⟩:=a;exact ne_str (ZZ I q (congrArg not Oh))
  | _=>exact absurd (show false=true from c) Qq
 | byt i =>
  obtain⟨t,rfl⟩:=d;cases y with
  | byt j=>obtain⟨b,rfl⟩:=a;exact PySem.W.ne_bytes (ZZ I q (congrArg not Og))
  | _=>exact absurd (show false=true from c) Qq
 | _=>cases y<;>exact absurd (show false=true from c) Qq
theorem W6:OpR X (compareOp .Lt) (rI0 fun i j=>.bl (decide (i<j))):=So fun _ _ _ _ _ _ _ q=>lt_int q
theorem Ws:OpR X (compareOp .Gt) (rI0 fun i j=>.bl (decide (j<i))):=So fun _ _ _ _ _ _ _ q=>gt_int q
theorem Of:OpR X (compareOp .GtE) (rI0 fun i j=>.bl (decide (j≤i))):=So fun _ _ _ _ _ _ _ q=>ge_int q
theorem Zlb:OpR X (compareOp .Lt) (fun x y H Q=>∃i j,x=.str i∧y=.str j∧Q (.bl (decide (i.cps.toList<j.cps.toList))) H):=by intro U s σ H x y v u Q I a b h;obtain⟨i,j,rfl,rfl,q⟩:=h;obtain⟨t,rfl⟩:=a;obtain⟨t',rfl⟩:=b;exact lt_str (ZZ I q rfl)
theorem XF:OpR X (compareOp .Is) (fun x y H Q=>y=.non∧Q (.bl (decide (x=.non))) H):=by
 intro U s σ H x y v u Q I a b h;obtain⟨rfl,q⟩:=h;cases b;refine is_none_gen (ZZ I q ?_);cases x<;>first
  | (cases a;rfl)
  | (obtain⟨t,rfl⟩:=a;rfl)
theorem V1:OpR X (compareOp .IsNot) (fun x y H Q=>y=.non∧Q (.bl (!decide (x=.non))) H):=by
 intro U s σ H x y v u Q I a b h;obtain⟨rfl,q⟩:=h;cases b;refine isnot_none_gen (ZZ I q ?_);cases x<;>first
  | (cases a;rfl)
  | (obtain⟨t,rfl⟩:=a;rfl)
theorem Zu(b:Expr){op:CmpOp}(h:op≠.In:=by decide)(h2:op≠.NotIn:=by decide):behindInMarks op b=false:=by
 have a:(op == CmpOp.In)=false:=by cases op<;>first|rfl|exact absurd rfl h
 have c:(op == CmpOp.NotIn)=false:=by cases op<;>first|rfl|exact absurd rfl h2
 cases b<;>simp[behindInMarks,a,c]
theorem WI{op:CmpOp}{r:R2}(c:OpR X (compareOp op) r)(ha:PE X a ta)(hb:PE X b tb)(hm:behindInMarks op b=false):PE X (.Compare a [op] [b] pos) (tOp r ta tb):=by intro U s d H Q I h;exact wpAny_Compare1 (Sq ha hb I h fun v u e x y f g i j q=>c U e d f x y v u Q g i j q) hm
def ZrE(t:TE):TT:=fun a H Q=>t a H fun x b=>EA (fun k=>x=.bl k) (fun k=>Q k b)
theorem Zn{op:CmpOp}{r:R2}(f:OpR X (compareOp op) r)(ha:PE X a ta)(hb:PE X b tb)(hm:behindInMarks op b=false):PT X (.Compare a [op] [b] pos) (ZrE (tOp r ta tb)):=by
 intro U s d H Q I h;refine wpAny_isTrue_Compare1 (thn (ha U s d H _ I h) fun v g ⟨x,i,j,l,m⟩=>thn (hb U g d i _ j m) fun u n ⟨y,o,p,q,t⟩=>
  thn (f U n d o x y v u _ p l q t) fun c s3 ⟨z,w,A,B,k,e,C⟩=>?_) hm
 subst e;cases B;exact wpAny_truthy_bool ⟨w,A,C⟩
theorem Vu:(sizeLine:Nat)<2 ^ 63:=by rw[sizeLine_eq];decide
theorem ZjQ:OpR X (binaryOp .Add) (fun x y H Q=>∃i j,x=.str i∧y=.str j∧i.length+j.length≤sizeLine∧Q (.str (i++j)) H):=by intro U s σ H x y v u Q I a b h;obtain⟨i,j,rfl,rfl,c,q⟩:=h;obtain⟨t,rfl⟩:=a;obtain⟨d,rfl⟩:=b;exact add_str (fun d tk=>⟨.str (i++j),H,I.tok _,⟨_,rfl⟩,q⟩) c
theorem Xt{x:V}{us:List Value}(r:ZH [x] us):∃u,us=[u]∧ZI x u:=by
 cases r with
 | cons a b=>cases b;exact⟨_,rfl,a⟩
theorem TY{x y:V}{us:List Value}(r:ZH [x,y] us):∃u a,us=[u,a]∧ZI x u∧ZI y a:=by
 cases r with
 | cons b c =>
  cases c with
  | cons d e=>cases e;exact⟨_,_,rfl,b,d⟩
theorem Oe:YW X (.builtin "abs") (fun xs H Q=>∃i,xs=[.int i]∧Q (.int (if i<0 then -i else i)) H):=by intro U s σ H xs us Q I r h;obtain⟨i,rfl,q⟩:=h;obtain⟨u,rfl,t,rfl⟩:=Xt r;exact call_abs_int fun u tk=>⟨.int (if i<0 then -i else i),H,I.tok _,⟨_,rfl⟩,q⟩
theorem ZlB(hc:X.calm=true):YW X (.builtin "max") (fun xs H Q=>∃i j,xs=[.int i,.int j]∧Q (.int (if j>i then j else i)) H):=by
 intro U s σ H xs us Q I r h;obtain⟨i,j,rfl,q⟩:=h;obtain⟨u,w',rfl,⟨t,rfl⟩,⟨t',rfl⟩⟩:=TY r;refine max_two_ints (I.ok.hd hc) fun h' tk k=>⟨_,H,I.kept k,?_,q⟩;by_cases a:j>i
 ·rw[if_pos a,if_pos a];exact⟨_,rfl⟩
 ·rw[if_neg a,if_neg a];exact⟨_,rfl⟩
theorem ZlD(hc:X.calm=true):YW X (.builtin "min") (fun xs H Q=>∃i j,xs=[.int i,.int j]∧Q (.int (if j<i then j else i)) H):=by
 intro U s σ H xs us Q I r h;obtain⟨i,j,rfl,q⟩:=h;obtain⟨u,w',rfl,⟨t,rfl⟩,⟨t',rfl⟩⟩:=TY r;refine min_two_ints (I.ok.hd hc) fun h' tk k=>⟨_,H,I.kept k,?_,q⟩;by_cases a:j<i
 ·rw[if_pos a,if_pos a];exact⟨_,rfl⟩
 ·rw[if_neg a,if_neg a];exact⟨_,rfl⟩
theorem ZlW:YW X (.type "int") (fun xs H Q=>(∃i,xs=[.int i]∧Q (.int i) H)∨∃k,xs=[.bl k]∧Q (.int (if k then 1 else 0)) H):=by
 intro U s σ H xs us Q I r h;rcases h with⟨i,rfl,q⟩|⟨k,rfl,q⟩
 ·obtain⟨u,rfl,t,rfl⟩:=Xt r;exact call_int_int ⟨.int i,H,I,⟨_,rfl⟩,q⟩
 ·obtain⟨u,rfl,a⟩:=Xt r;cases a;exact call_int_bool ⟨.int (if k then 1 else 0),H,I.tok _,⟨_,rfl⟩,q⟩
end
structure V0 (h:Heap) (x dx C:Addr) (mA:Str→Option Value):Prop where
 obj:h.get? x=some (PySem.W.instObj C dx)
 ns:h.Ns1 dx mA
 ne:dx≠x
theorem Zly{h:Heap}{dx:Addr}{b:Str→Option Value}(n:h.Ns1 dx b):∃od,h.get? dx=some od∧∀name,PySem.W.lookIn name od=some (b name):=by
 obtain⟨o,c,ep,d,f,g,_,i⟩:=n;refine⟨o,d,fun name=>?_⟩;have e:=i name;unfold nsFind findBy at e;rw[← Array.find?_toList]at e;unfold PySem.W.lookIn;rw[f];dsimp only;split
 ·rename_i y q;rw[q]at e;exact congrArg some e
 ·rename_i q;rw[q]at e;have a:c.toList.any (·.refKey)=false:=by rw[List.any_eq_false];intro y j;obtain⟨z,t,k⟩:=g y (Array.mem_toList_iff.mp j);simp[DictEntry.refKey,k]
  have l:¬ c.toList.any (·.refKey)=true:=by rw[a];exact Qq
  rw[if_neg l];exact congrArg some e
theorem V0.look{h:Heap}{x dx C:Addr}{a:Str→Option Value}(I:V0 h x dx C a):∃od,PySem.W.InstAt h x (PySem.W.instObj C dx) C (some od)∧∀name,PySem.W.lookIn name od=some (a name) :=
 let ⟨od,b,c⟩:=Zly I.ns
 ⟨od,⟨I.obj,rfl,rfl,b⟩,c⟩
section
variable {prog:Program} {w:World} {A:Around} {E:Value→Shared→Prop} {s:Shared} {K:#[7]} {x dx C f:Addr} {mA:Str→Option Value} {name:Str} {v:Value}
theorem Zoa{a:Bool}{Q:Value→Shared→Prop}(X:K.In s.heap)(I:V0 s.heap x dx C mA)(b:PySem.W.plainGet K C name=true)(c:PySem.W.hasDictIn K C=true)
  (ha:PySem.W.findIn K (.ref C) name=some none) (d:mA name=some v) (e:PySem.W.handedIn v=true) (h:Q v { s with toks:=s.toks+1 }) :
  wpAny (model prog w) A (getAttr (.ref x) name a) Q E s:=by
 obtain⟨od,J,f⟩:=I.look;exact PySem.W.get_value X J (PySem.W.plainGet_of b).1 (PySem.W.findObj_own c ha rfl (by rw[f,d])) e h
theorem Zno{pl:Sem Bool}{Q:Value×List Value→Shared→Prop}(X:K.In s.heap)(I:V0 s.heap x dx C mA)(a:PySem.W.plainGet K C name=true)
  (b:PySem.W.findIn K (.ref C) name=some (some (.ref f))) (c:PySem.W.isFn K (.ref f)=true) (d:mA name=none) (h:Q (.ref f,[.ref x]) s) :
  wpAny (model prog w) A (getMethod (.ref x) name pl) Q E s:=by
 obtain⟨e,J,g⟩:=I.look;exact PySem.W.method_fn X J (PySem.W.plainGet_of a).1 (PySem.W.plainGet_of a).2 b (beq_iff_eq.mp c) (by show (PySem.W.lookIn name e).map (·.isSome)=some false;rw[g,d];rfl) h
theorem ZoR{ns:List Str}{Q:Unit→Shared→Prop}(X:K.In s.heap)(I:V0 s.heap x dx C mA)
  (e:PySem.W.findIn K (.ref C) "__setattr__" = some (some (.builtin "object.__setattr__"))) (f:PySem.W.plainOver K C=true) (g:PySem.W.takerIn K C name=some none) (i:PySem.W.hasDictIn K C=true)
  (hw:PySem.Within mA ns) (hsz:ns.length≤sizeLine)
  (h:∀h',V0 h' x dx C (fun y=>if y=name then some v else mA y)→Heap.SameBut dx s.heap h'→Q () { s with heap:=h',toks:=s.toks+2 }) :
  wpAny (model prog w) A (setAttr (.ref x) name v) Q E s:=by
 obtain⟨od,J,hl⟩:=I.look;refine PySem.W.set_plain X J e (PySem.W.osa_open (s:={ s with toks:=s.toks+1 }) (r:=none) X J f g fun b=>?_);obtain⟨cd,j,k⟩:=Qa6 i;have l:s.heap.get? x=some ⟨.ref C,some dx,.plain,#[]⟩:=I.obj;refine wpAny_bind (wpAny_pure (wpAny_bind (wpAny_bind (wpAny_loadPart l (wpAny_bind (PySem.W.Looks.here (s:={ s with toks:=s.toks+1 }) (PySem.W.looks_clsIn X j) ?_))))));rw[k];refine wpAny_pure (a:=some dx) (wpAny_bind (wpAny_pure (wpAny_bind ?_)));refine wpAny_nsSet1 (s:={ s with toks:=s.toks+1 }) I.ns fun h' c d=>?_;obtain⟨oD,JR,JS,m,n,o⟩:=c.count (PySem.Within.cons name v hw);refine wpAny_bind (wpAny_lookBehind m (by rw[n];exact pastItsLine_dict (Qw o (by rw[QI];lia))) ?_);exact wpAny_pure (h _ ⟨(d.2 _ (Ne.symm I.ne)).trans I.obj,c,I.ne⟩ d)
theorem Zne{R:Result→Shared→Prop}{vs:List Value}{kw:List (Str×Value)}(X:K.In s.heap)(hm:PySem.W.makesIn K C=true)
  (a:PySem.W.findIn K (.ref C) "__init__" = some (some (.ref f))) (b:PySem.W.typeIn K (.ref f)=some (.type "function"))
  (h:codeAny (model prog w) (A.under (.builtin "type.__call__" ⟨.ref C::vs,kw⟩)) (.call (.ref f) ⟨.ref (s.heap.objs.size+1)::vs,kw⟩) (PySem.W.InitBack (s.heap.objs.size+1) R)
   { s with heap:=(s.heap.push PySem.W.emptyDict).push (PySem.W.instObj C s.heap.objs.size) }) :
  codeAny (model prog w) A (.call (.ref C) ⟨vs,kw⟩) R s:=by
 obtain⟨hh,g,d,t,os⟩:=s;exact PySem.W.make_core (PySem.W.makes_of X hm) (QaC X a) (fun self=>PySem.W.bind_fn X self b) #[8] h
end
noncomputable def Zv(f:Str)(v:V):List (Str×V)→List (Str×V)
 | []=>[(f,v)]
 | (g,x)::r=>if g=f then (g,v)::r else (g,x)::Zv f v r
theorem Zl(f g:Str)(v:V):∀fs:List (Str×V),(Zv f v fs).lookup g=if g=f then some v else fs.lookup g
 | []=>by
  show List.lookup g [(f,v)]=_;by_cases h:g=f
  ·have hb:(g == f)=true:=beq_iff_eq.mpr h;simp only[List.lookup,hb,if_pos h]
  ·have hb:(g == f)=false:=beq_eq_false_iff_ne.mpr h;simp only[List.lookup,hb,if_neg h]
 | (k,x)::r=>by
  have b:=Zl f g v r;rw[show Zv f v ((k,x)::r)=(if k=f then (k,v)::r else (k,x)::Zv f v r) from rfl];by_cases a:k=f
  ·rw[if_pos a];by_cases h:g=k
   ·have hb:(g == k)=true:=beq_iff_eq.mpr h;simp only[List.lookup,hb,if_pos (h.trans a)]
   ·have hb:(g == k)=false:=beq_eq_false_iff_ne.mpr h;simp only[List.lookup,hb,if_neg (fun e:g=f=>h (e.trans a.symm))]
  ·rw[if_neg a];by_cases h:g=k
   ·have hb:(g == k)=true:=beq_iff_eq.mpr h;simp only[List.lookup,hb,if_neg (fun e:g=f=>a (h.symm.trans e))]
   ·have hb:(g == k)=false:=beq_eq_false_iff_ne.mpr h;simp only[List.lookup,hb];exact b
theorem Sk(f:Str)(v:V):∀fs:List (Str×V),f∈(Zv f v fs).map (·.1)∧∀g,g∈fs.map (·.1)→g∈(Zv f v fs).map (·.1)
 | []=>⟨by simp[Zv],fun g h=>by simp at h⟩
 | (k,x)::r=>by
  obtain⟨i1,i2⟩:=Sk f v r;rw[show Zv f v ((k,x)::r)=(if k=f then (k,v)::r else (k,x)::Zv f v r) from rfl];by_cases a:k=f
  ·rw[if_pos a];subst a;exact⟨by simp,fun g h=>by simpa using h⟩
  ·rw[if_neg a];refine⟨?_,fun g h=>?_⟩
   ·rw[Qh];exact Qx _ i1
   ·rw[Qh]at h ⊢;rcases QM.mp h with e|e
    ·exact List.mem_cons.mpr (.inl e)
    ·exact Qx _ (i2 g e)
theorem Od(f:Str)(v:V):∀fs:List (Str×V),(Zv f v fs).length≤fs.length+1
 | []=>by simp[Zv]
 | (k,x)::r=>by
  have ih:=Od f v r;rw[show Zv f v ((k,x)::r)=(if k=f then (k,v)::r else (k,x)::Zv f v r) from rfl];by_cases a:k=f
  ·rw[if_pos a,QI,QI];lia
  ·rw[if_neg a,QI,QI];lia
theorem Yj.some_of{v:V}{o:Option Value}(r:Yj (some v) o):∃u,o=some u∧ZI v u:=by
 cases o with
 | none=>exact(show False from r).elim
 | some u=>exact⟨u,rfl,r⟩
theorem Yj.none_of{o:Option Value}(r:Yj none o):o=none:=by
 cases o with
 | none=>rfl
 | some u=>exact(show False from r).elim
theorem Zlf{v:V}{u:Value}(r:ZI v u):PySem.W.handedIn u=true:=by
 cases v with
 | non=>cases (show u=Value.none from r);rfl
 | bl b=>cases (show u=Value.bool b from r);rfl
 | int i=>obtain⟨t,e⟩:=(show ∃t,u=Value.int i t from r);cases e;rfl
 | str x=>obtain⟨t,e⟩:=(show ∃t,u=Value.str x t from r);cases e;rfl
 | byt b=>obtain⟨t,e⟩:=(show ∃t,u=Value.bytes b t from r);cases e;rfl
 | flt b=>obtain⟨t,e⟩:=(show ∃t,u=Value.float b t from r);cases e;rfl
 | ref a=>cases (show u=Value.ref a from r);rfl
 | ty n=>cases (show u=Value.type n from r);rfl
section
variable {P:Program} {w:World} {H H':Hp} {h h':Heap} {a C dx:Addr} {fs kJ:List (Str×V)}
theorem UQ(hok:HOk P w H h)(e:H a=some (.ins C dx fs)):∃b,V0 h a dx C b∧(∀f,Yj (fs.lookup f) (b f))∧PySem.Within b (fs.map (·.1))∧fs.length≤1000∧H dx=some (.own a):=by obtain⟨d,z,ne,c,b,n,r,q⟩:=(show Z4 P w H h a (.ins C dx fs) from hok a _ e);exact⟨b,⟨c,n,ne⟩,r,q,z,d⟩
end
structure Cls (K:#[7]) (C:Addr):Prop where
 pg:PySem.W.plainGet K C Str.empty=true
 hd:PySem.W.hasDictIn K C=true
 po:PySem.W.plainOver K C=true
 sa:PySem.W.findIn K (.ref C) "__setattr__" = some (some (.builtin "object.__setattr__"))
theorem Cls.get{K:#[7]}{C:Addr}(c:Cls K C)(f:Str):PySem.W.plainGet K C f=true:=c.pg
def X3(K:#[7])(C:Addr)(f:Str):Prop:=PySem.W.findIn K (.ref C) f=some none
theorem X3.taker{K:#[7]}{C:Addr}{f:Str}(n:X3 K C f):PySem.W.takerIn K C f=some none:=by unfold PySem.W.takerIn;rw[show PySem.W.findIn K (.ref C) f=some none from n];rfl
structure Con (K:#[7]) (C:Addr) (f:Str) (v:V) (u:Value):Prop where
 at_:PySem.W.findIn K (.ref C) f=some (some u)
 rel:ZI v u
 get:PySem.W.specialIn K u "__get__" = some none
 cp:PySem.W.copiedNames.contains f=false
structure Vt (K:#[7]) (C:Addr) (m:Str) (f:Addr):Prop where
 at_:PySem.W.findIn K (.ref C) m=some (some (.ref f))
 fn:PySem.W.isFn K (.ref f)=true
 kp:PySem.W.keepIn K (.ref f)=true
section
variable {X:Cx} {U:List (Addr×Obj)} {σ:St} {H:Hp} {s:Shared} {a C dx:Addr} {fs:List (Str×V)} {f:Str} {v:V} {A:Around} {E:Value→Shared→Prop}
theorem Oc{b:Bool}{Q:Value→Shared→Prop}(I:Inv X U σ H s)(e:H a=some (.ins C dx fs))(c:Cls X.K C)(n:X3 X.K C f)(l:fs.lookup f=some v)
  (h:∀u s',Inv X U σ H s'→ZI v u→Q u s'):wpAny (model X.prog X.w) A (getAttr (.ref a) f b) Q E s:=by
 obtain⟨g,O,r,_,_,_⟩:=UQ I.hok e;obtain⟨u,i,d⟩:=Yj.some_of (v:=v) (o:=g f) (by rw[← l];exact r f);exact Zoa I.kIn O (c.get f) c.hd n i (Zlf d) (h u _ (I.tok _) d)
theorem Sj{m:Str}{g:Addr}{pl:Sem Bool}{Q:Value×List Value→Shared→Prop}(I:Inv X U σ H s)(e:H a=some (.ins C dx fs))(c:Cls X.K C)(k:Vt X.K C m g)(l:fs.lookup m=none)
  (h:Q (.ref g,[.ref a]) s):wpAny (model X.prog X.w) A (getMethod (.ref a) m pl) Q E s:=by
 obtain⟨b,O,r,_,_,_⟩:=UQ I.hok e;have d:b m=none:=Yj.none_of (by rw[← l];exact r m);exact Zno I.kIn O (c.get m) k.at_ k.fn d h
theorem Ob{y:V}{u:Value}{Q:Unit→Shared→Prop}(I:Inv X U σ H s)(e:H a=some (.ins C dx fs))(c:Cls X.K C)(n:X3 X.K C f)(hl:fs.length<1000)(l:ZI y u)
  (h:∀s',Inv X U σ (upd H a (.ins C dx (Zv f y fs))) s'→Q () s'):wpAny (model X.prog X.w) A (setAttr (.ref a) f u) Q E s:=by
 obtain⟨i,O,r,j,_,k⟩:=UQ I.hok e;have m:(fs.map (·.1)).length≤sizeLine:=by rw[Qa,sizeLine_eq];lia
 refine ZoR I.kIn O c.sa c.po n.taker c.hd j m fun p d t=>h _ ?_;have v:∃o,p.get? dx=some o:=let ⟨o,_,_,w,_⟩:=d.ns;⟨o,w⟩;refine I.write (x:=a) (e:=dx) (by rw[e];exact True.intro) (.inr k) (fun b q B z=>(t.2 b B).trans z) v ?_;refine⟨by rw[Zb O.ne];exact k,?_,O.ne,d.obj,_,d.ns,fun g=>?_,fun g D=>?_⟩
 ·have:=Od f y fs;lia
 ·show Yj ((Zv f y fs).lookup g) (if g=f then some u else i g);rw[Zl];by_cases q:g=f
  ·rw[if_pos q,if_pos q];exact l
  ·rw[if_neg q,if_neg q];exact r g
 ·by_cases q:g=f
  ·rw[q];exact(Sk f y fs).1
  ·refine(Sk f y fs).2 g (j g fun z=>D ?_);show (if g=f then some u else i g)=none;rw[if_neg q];exact z
theorem Inv.made(I:Inv X U σ H s):Inv X U σ (upd (upd H s.heap.objs.size (.own (s.heap.objs.size+1))) (s.heap.objs.size+1) (.ins C s.heap.objs.size []))
  { s with heap:=(s.heap.push PySem.W.emptyDict).push (PySem.W.instObj C s.heap.objs.size) }:=by
 have c:(s.heap.push PySem.W.emptyDict).get? s.heap.objs.size=some PySem.W.emptyDict:=Qm s.heap rfl;have d:((s.heap.push PySem.W.emptyDict).push (PySem.W.instObj C s.heap.objs.size)).get? (s.heap.objs.size+1)=some (PySem.W.instObj C s.heap.objs.size):=by have:=Qm (s.heap.push PySem.W.emptyDict) (o:=PySem.W.instObj C s.heap.objs.size) rfl;rwa [QX]at this
 have f:(s.heap.push PySem.W.emptyDict).Ns s.heap.objs.size (fun _=>none):=⟨PySem.W.emptyDict,#[],_,c,rfl,(fun e g=>absurd g #[4]),fun _=>rfl⟩;have h:=I.laid (a:=s.heap.objs.size) (o:=.own (s.heap.objs.size+1)) (h':=s.heap.push PySem.W.emptyDict) (t':=s.toks) (fun b u q=>Qc _ q) (Qg _) ⟨_,c⟩;refine h.laid (a:=s.heap.objs.size+1) (o:=.ins C s.heap.objs.size []) (t':=s.toks) (fun b u q=>Qc _ q) (Nat.le_of_eq (QX _ _)) ?_;have ne:s.heap.objs.size≠s.heap.objs.size+1:=Qz (Nat.lt_succ_self _);refine⟨by rw[Zb ne,Zc],Qs _,ne,d,fun _=>none,(Heap.Ns1.of_empty f).at fun o q=>Qc _ q,fun _=>True.intro,fun y i=>absurd rfl i⟩
theorem Zof{prog:Program}{w:World}{env:Env}{e:Expr}{f:Str}{pos:Pos}{s:Shared}{Q:Value→Shared→Prop}(hb:attributeBase e f env (eval e env)=eval e env)
  (h:wpAny (model prog w) A (eval e env) (fun o a=>wpAny (model prog w) A (getAttr o f true) Q E a) E s):wpAny (model prog w) A (eval (.Attribute e f pos) env) Q E s :=
 Attribute_any_ h (by rw[arm_eval_Attribute,hb])
end
inductive Zsh (K:#[7]) (f:Str) (x:V) (H:Hp) (B:V→Prop):Prop where
 | mk (a C dx:Addr) (fs:List (Str×V)) (v:V) (e:x=.ref a) (g:H a=some (.ins C dx fs)) (c:Cls K C) (n:X3 K C f) (l:fs.lookup f=some v) (q:B v)
def Zsm(K:#[7])(b:TE)(f:Str):TE:=fun c H Q=>b c H fun x a=>Zsh K f x a (fun v=>Q v a)
inductive RSF (K:#[7]) (f:Str) (x:V) (H:Hp) (B:Addr→HO→Prop) (y:V):Prop where
 | mk (a C dx:Addr) (fs:List (Str×V)) (e:x=.ref a) (g:H a=some (.ins C dx fs)) (c:Cls K C) (n:X3 K C f) (l:fs.length<1000) (q:B a (.ins C dx (Zv f y fs)))
def Zst(K:#[7])(d e:TE)(f:Str):TS:=fun D b H=>e b H fun y g=>d b g fun x c=>RSF K f x c (fun a o=>D.nx b (upd c a o)) y
def Oa(X:Cx)(op:Operator)(rd:V→V→Hp→VK→Prop):Prop :=
 ∀ (U:List (Addr×Obj)) (s:Shared) (a:St) (H:Hp) (x y:V) (u v:Value) (Q:VK),Inv X U a H s→ZI x u→ZI y v→rd x y H Q→#[9,X] (inplaceOp op u v) (EP X U a Q) X.xe s
def Zn8(K:#[7])(h i:TE)(rd:V→V→Hp→VK→Prop)(f:Str):TS:=fun D b H=>h b H fun x d=>∃a C dx fs v,x=.ref a∧d a=some (.ins C dx fs)∧Cls K C∧X3 K C f∧fs.lookup f=some v ∧
 i b d fun y j=>rd v y j fun z e=>∃g c,e a=some (.ins C g c)∧c.length<1000∧D.nx b (upd e a (.ins C g (Zv f z c)))
section
variable {X:Cx} {o e value:Expr} {f:Str} {pos bU bO:Pos} {ta tv:TE}
theorem ZQ(he:PE X e ta)(hb:attributeBase e f X.env (eval e X.env)=eval e X.env):PE X (.Attribute e f pos) (Zsm X.K ta f):=by intro U s b H Q I h;refine Zof hb (thn (he U s b H _ I h) ?_);rintro u s1 ⟨x,d,g,i,a,C,dx,fs,v,ex,j,c,n,l,q⟩;subst ex;obtain rfl:u=Value.ref a:=i;exact Oc g j c n l fun u' s2 k m=>⟨v,d,k,m,q⟩
theorem XD(ha:PE X o ta)(d:PE X value tv)(e:swapsWith value (some (.Attribute o f bU)) pos.line X.env=pure false):PS X (.Assign [.Attribute o f bU] value pos) (Zst X.K ta tv f):=by intro U s b H D I h;refine plainObj_wpAny_Assign_Attribute (thn (d U s b H _ I h) fun u g ⟨y,i,j,k,q⟩=>thn (ha U g b i _ j q) ?_) e;rintro m s2 ⟨x,H2,p,r,a,C,dx,fs,ex,t,c,n,l,v⟩;subst ex;obtain rfl:m=Value.ref a:=r;exact Ob p t c n l k fun s3 w=>⟨b,_,w,v⟩
theorem VZ{op:Operator}{rd:V→V→Hp→VK→Prop}(ha:PE X o ta)(d:PE X value tv)(e:Oa X op rd):PS X (.AugAssign (.Attribute o f bO) op value pos) (Zn8 X.K ta tv rd f):=by intro U s b H D I h;refine wpAny_AugAssign_AttributeAny (thn (ha U s b H _ I h) ?_);rintro g s1 ⟨x,i,j,k,a,C,dx,fs,v,ex,m,c,n,l,q⟩;subst ex;obtain rfl:g=Value.ref a:=k;refine Oc j m c n l fun u p r t=>thn (d U p b i _ r q) fun w A ⟨y,B,E,F,G⟩=>thn (e U A b B v y u w _ E t F G) ?_;rintro w4 s4 ⟨z,H3,J,K,qY,kJ,L,M,N⟩;exact Ob J L c n M K fun s5 O=>⟨b,_,O,N⟩
def Zsx:V→V→Hp→VK→Prop:=fun x y H Q=>RI2 x y (fun i j=>Q (.int (i+j)) H)
theorem UP:Oa X .Add Zsx:=by rintro U s σ H x y u v Q I b c ⟨i,j,rfl,rfl,q⟩;obtain⟨t,rfl⟩:=(show ∃t,u=Value.int i t from b);obtain⟨a,rfl⟩:=(show ∃a,v=Value.int j a from c);exact PyProof.Rows.iadd_int ⟨.int (i+j),H,I.tok _,⟨_,rfl⟩,q⟩
end
section
variable {X:Cx} {U:List (Addr×Obj)} {σ:St} {H:Hp} {s:Shared} {A:Around} {E:Value→Shared→Prop} {Q:Value→Shared→Prop} {c:Value} {b:Bool}
inductive XA (K:#[7]) (H:Hp):V→Value→Prop where
 | non:XA K H .non (.type "NoneType")
 | bl (x:Bool):XA K H (.bl x) (.type "bool")
 | int (i:Int):XA K H (.int i) (.type "int")
 | str (x:Str):XA K H (.str x) (.type "str")
 | flt (x:UInt64):XA K H (.flt x) (.type "float")
 | lst {a:Addr} {xs:List V} (e:H a=some (.lst xs)):XA K H (.ref a) (.type "list")
 | frz {a:Addr} {o:Obj} {xs:List V} (e:H a=some (.frz o (.lst xs))):XA K H (.ref a) (.type "list")
 | tup {a:Addr} {xs:List V} (e:H a=some (.tup xs)):XA K H (.ref a) (.type "tuple")
 | dK {a:Addr} {kvs:List (Key×V)} (e:H a=some (.dK kvs)):XA K H (.ref a) (.type "dict")
 | dT {a:Addr} {kvs:List (List Key×V)} (e:H a=some (.dT kvs)):XA K H (.ref a) (.type "dict")
 | ins {a C dx:Addr} {fs:List (Str×V)} (e:H a=some (.ins C dx fs)) (cl:Cls K C) (ha:PySem.W.findIn K (.ref C) "__class__" = some (some (.builtin "object.__class__")))
   (hn:PySem.W.specialIn K (.builtin "object.__class__") "__get__" = some (some (.builtin "getset_descriptor.__get__"))) (eW:PySem.W.takesIn K (.builtin "object.__class__")=some true)
   (hm:PySem.W.mroIn K C (.type "object")=some true):XA K H (.ref a) (.ref C)
theorem Zmb{x:V}{u t:Value}(I:Inv X U σ H s)(d:ZI x u)(ty:XA X.K H x t)(e:PySem.W.kitOne X.K t c=some b)(h:∀tk,Q (.bool b) { s with toks:=tk }) :
  wpAny (model X.prog X.w) A (call (.builtin "isinstance") [u,c]) Q E s:=by
 cases ty with
 | non=>cases (show u=Value.none from d);exact QS PySem.W.kitx_none I.kIn True.intro e (fun z=>nomatch z) h
 | bl y=>cases (show u=Value.bool y from d);exact QS PySem.W.kitx_bool I.kIn True.intro e (fun z=>nomatch z) h
 | int i=>obtain⟨t,q⟩:=(show ∃t,u=Value.int i t from d);cases q;exact QS PySem.W.kitx_int I.kIn True.intro e (fun z=>nomatch z) h
 | str y=>obtain⟨t,q⟩:=(show ∃t,u=Value.str y t from d);cases q;exact QS PySem.W.kitx_str I.kIn True.intro e (fun z=>nomatch z) h
 | flt y=>obtain⟨t,q⟩:=(show ∃t,u=Value.float y t from d);cases q;exact QS PySem.W.kitx_float I.kIn True.intro e (fun z=>nomatch z) h
 | @lst a k f=>cases (show u=Value.ref a from d);obtain⟨_,_,n,_,g⟩:=(show Z4 X.prog X.w H s.heap a (.lst k) from I.hok a _ f);exact QS QaS I.kIn ⟨_,g,rfl⟩ e (fun z=>nomatch z) h
 | @frz a r k f=>cases (show u=Value.ref a from d);obtain⟨_,_,_,n,_,g⟩:=(show Z4 X.prog X.w H s.heap a (.frz r (.lst k)) from I.hok a _ f);exact QS QaS I.kIn ⟨_,g,rfl⟩ e (fun z=>nomatch z) h
 | @tup a k f=>cases (show u=Value.ref a from d);obtain⟨_,_,_,p⟩:=(show Z4 X.prog X.w H s.heap a (.tup k) from I.hok a _ f);obtain⟨o,g,l,_⟩:=p;exact QS PySem.W.kitx_tuple I.kIn ⟨o,g,l⟩ e (fun z=>nomatch z) h
 | @dK a j f=>cases (show u=Value.ref a from d);obtain⟨_,_,vs,_,p⟩:=(show Z4 X.prog X.w H s.heap a (.dK j) from I.hok a _ f);obtain⟨o,v,w,g,l,_⟩:=p;exact QS QaT I.kIn ⟨o,g,l.1⟩ e (fun z=>nomatch z) h
 | @dT a j f=>cases (show u=Value.ref a from d);obtain⟨_,_,k,_,o,v,w,g,l,_⟩:=(show Z4 X.prog X.w H s.heap a (.dT j) from I.hok a _ f);exact QS QaT I.kIn ⟨o,g,l.1⟩ e (fun z=>nomatch z) h
 | @ins a C dx fs f m B D F G=>cases (show u=Value.ref a from d);obtain⟨mA,O,_⟩:=UQ I.hok f;obtain⟨od,J,_⟩:=O.look;exact QS (PySem.W.kitx_own (m.get _) m.hd B D F G) I.kIn J e (fun z=>nomatch z) h
end
structure Y4 (k:Nat) (A:Around):Prop where
 hd:A.handled=none
 dp:A.depth+3*k+5<recursionLimit
 un:A.units+16*k+200<cLine
 gd:A.guards=some []
theorem Y4.mono{j k:Nat}{A:Around}(r:Y4 k A)(h:j≤k):Y4 j A:=⟨r.hd,by have:=r.dp;lia,by have:=r.un;lia,r.gd⟩
theorem Y4.deeper{k:Nat}{A:Around}(r:Y4 (k+1) A)(env:Env):Y4 k (A.deeper env) :=
 ⟨r.hd,by have:=r.dp;show A.depth+1+3*k+5<_;lia,by have:=r.un;show A.units+3+16*k+200<_;lia,r.gd⟩
theorem Zkd{A:Around}{C:Addr}{us:List Value}{kw:List (Str×Value)}:(A.under (.builtin "type.__call__" ⟨.ref C::us,kw⟩)).depth=A.depth+1:=by first|rfl|simp[Around.under,Code.weight,Code.isCreation,Code.isGuard,Code.isCaller,Code.frames,Code.isFrame,guardIds]
theorem Zkh{A:Around}{C:Addr}{us:List Value}{kw:List (Str×Value)}:(A.under (.builtin "type.__call__" ⟨.ref C::us,kw⟩)).units=A.units+1:=by first|rfl|simp[Around.under,Code.cUnits,Code.frames,Code.isFrame]
theorem Y4.make{k:Nat}{A:Around}(r:Y4 (k+1) A)(C:Addr)(us:List Value)(kw:List (Str×Value)):Y4 k (A.under (.builtin "type.__call__" ⟨.ref C::us,kw⟩)) :=
 ⟨r.hd,by have:=r.dp;rw[Zkd];lia,by have:=r.un;rw[Zkh];lia,by rw[show (A.under (.builtin "type.__call__" ⟨.ref C::us,kw⟩)).guards=A.guards from by first|rfl|simp[Around.under,pushGuards,Code.guards,Code.isGuard,guardIds]];exact r.gd⟩
theorem Y4.depth{k:Nat}{A:Around}(r:Y4 k A):A.depth<recursionLimit:=by have:=r.dp;lia
theorem Y4.units{k:Nat}{A:Around}(r:Y4 k A):A.units+64<cLine:=by have:=r.un;lia
def Si:TA:=fun _ H Q=>Q [] H
def ZrB(b:TE)(c:TA):TA:=fun a H Q=>b a H fun x d=>c a d fun xs e=>Q (x::xs) e
section
variable {X:Cx} {e:Expr} {es:List Expr} {te:TE} {t:TA} {pos:Pos}
theorem Zd:PA X [] Si:=fun _ _ _ _ H Q I h=>Calls.spliced_nil ⟨[],H,I,.nil,h⟩
theorem Za(ha:PE X e te)(b:PA X es t)(c:starEach (e::es) X.env=(false,eval e X.env)::starEach es X.env:=by rfl):PA X (e::es) (ZrB te t):=by intro pos U s a H Q I h;rw[c];show wpAny _ _ (spliced ((false,eval e X.env)::backTo pos (starEach es X.env))) _ _ s;refine Calls.spliced_cons (thn (ha U s a H _ I h) ?_);rintro u d ⟨x,f,g,i,j⟩;exact thn (b pos U d a f _ g j) fun us s2 ⟨k,l,m,n,o⟩=>⟨x::k,l,m,.cons i n,o⟩
def Zsi(t:TA):TE:=fun b H Q=>t b H fun xs a=>xs.length≤sizeLine∧∀p,a p=none→Q (.ref p) (upd a p (.tup xs))
def ZsC(t:TA):TE:=fun b H Q=>t b H fun xs a=>xs.length≤sizeLine∧∀p,a p=none→Q (.ref p) (upd a p (.lst xs))
theorem YU{f}(h:PA X es t):PE X (.Tuple es f pos) (Zsi t):=by intro U s g H Q I i;refine wpAny_Tuple_spliced (thn (h pos U s g H _ I i) fun j a ⟨k,c,d,r,z,q⟩=>⟨by rw[← r.length];exact z,?_⟩);have l:c a.heap.objs.size=none:=d.hok.fresh (Qg _);refine⟨.ref a.heap.objs.size,upd c a.heap.objs.size (.tup k),d.laid (t':=a.toks) (fun b u e=>Qc _ e) (Qg _) ?_,rfl,q _ l⟩;exact⟨z,j,r,⟨_,Qm _ rfl,rfl,_,rfl⟩⟩
theorem Z2(h:PA X es t):PE X (.List es pos) (ZsC t):=by intro U s f H Q I g;refine wpAny_List_spliced (thn (h pos U s f H _ I g) fun i a ⟨j,c,d,r,z,q⟩=>⟨by rw[← r.length];exact z,?_⟩);have k:c a.heap.objs.size=none:=d.hok.fresh (Qg _);refine⟨.ref a.heap.objs.size,upd c a.heap.objs.size (.lst j),d.laid (t':=a.toks) (fun b u e=>Qc _ e) (Qg _) ?_,rfl,q _ k⟩;exact⟨z,i,0,r,Qm _ rfl⟩
end
abbrev Sp:=List V→Hp→VK→XK→Prop
abbrev CXT:=List Env→Hp→Shared→XK→Value→Shared→Prop
structure VY (P:Program) (w:World) (K:#[7]) (mg:Str→Option Value) (base:Heap) (A:Around) (outer:List Env) (s:Shared) (H:Hp):Prop where
 frames:A.frames=some outer
 mod:Mod K mg base
 bs:∀b o,base.get? b=some o→s.heap.get? b=some o∧H b=none
 bsz:base.objs.size≤s.heap.objs.size
 funs:s.heap.FunFrames base outer
 frf:∀b∈frs outer,H b=none
 hok:HOk P w H s.heap
 bare:AllBare s.gens
def CE(outer:List Env)(P:Program)(w:World)(H:Hp)(s:Shared)(Q:VK)(u:Value)(s':Shared):Prop :=
 ∃v a,s'.os=s.os∧AllBare s'.gens∧Un (frs outer) [] H a s.heap s'.heap∧HOk P w a s'.heap∧ZI v u∧Q v a
def CR(CX:CXT)(outer:List Env)(P:Program)(w:World)(H:Hp)(s:Shared)(Q:VK)(E:XK)(r:Result)(s':Shared):Prop :=
 match r with
 | .ok (.ret u)=>CE outer P w H s Q u s'
 | .ok _=>False
 | .error e=>CX outer H s E e s'
structure YC (P:Program) (w:World) (K:#[7]) (mg:Str→Option Value) (base:Heap) (CX:CXT) (k:Nat) (f:Addr) (fd:FuncData) (ps:List Str) (sp:Sp):Prop where
 len:∀vs H Q E,sp vs H Q E→vs.length=ps.length
 run:∀ (A:Around) (outer:List Env) (s:Shared) (H:Hp) (args:Args) (us:List Value) (vs:List V) (Q:VK) (E:XK),Y4 k A→VY P w K mg base A outer s H→BindsTo s fd args (ps.zip us)→ZH vs us→sp vs H Q E →
  codeAny (model P w) A (.call (.ref f) args) (CR CX outer P w H s Q E) s
theorem VY.make{P:Program}{w:World}{K:#[7]}{mg:Str→Option Value}{base:Heap}{A:Around}{outer:List Env}{s:Shared}{H:Hp}(e:VY P w K mg base A outer s H)(C:Addr)(us:List Value)(kw:List (Str×Value)) :
  VY P w K mg base (A.under (.builtin "type.__call__" ⟨.ref C::us,kw⟩)) outer s H:=⟨by first|exact e.frames|(simpa [Around.under,Code.envs,Code.isFrame,pushEnvs] using e.frames),e.mod,e.bs,e.bsz,e.funs,e.frf,e.hok,e.bare⟩
section
variable {X:Cx} {U:List (Addr×Obj)} {σ:St} {H:Hp} {s s':Shared}
theorem Inv.env0(I:Inv X U σ H s):VY X.prog X.w X.K X.mg X.base X.A X.stack s H :=
 ⟨I.ok.frames,I.ok.mod,I.bs,Qw I.ok.bsz I.sz,I.stack,I.stkFree,I.hok,I.bare⟩
theorem Inv.after{Q:VK}{u:Value}(I:Inv X U σ H s)(h:CE X.stack X.prog X.w H s Q u s'):EP X U σ Q u s':=by obtain⟨v,e,os,a,un,c,r,q⟩:=h;obtain⟨f,g,d,t,i⟩:=s';obtain rfl:i=s.os:=os;exact⟨v,e,I.call (h':=f) (g':=g) (d':=d) (t':=t) (ch:=[]) un c a (fun b z=>absurd z #[4]),r,q⟩
end
def N9(sp:Sp)(a:List V)(E:XK)(t:TA):TE:=fun b H Q=>t b H fun vs c=>sp (vs++a) c Q E
inductive RMt (C:Addr) (m:Str) (x:V) (H:Hp) (B:Prop):Prop where
 | mk (a dx:Addr) (fs:List (Str×V)) (e:x=.ref a) (g:H a=some (.ins C dx fs)) (l:fs.lookup m=none) (q:B)
def TX(C:Addr)(m:Str)(sp:Sp)(c:List V)(E:XK)(d:TE)(t:TA):TE:=fun a H Q=>d a H fun x b=>RMt C m x b (t a b fun vs e=>sp (x::(vs++c)) e Q E)
def N8(C:Addr)(sp:Sp)(b:List V)(E:XK)(t:TA):TE:=fun c H Q=>t c H fun vs a=>∀x dx,a x=none→a dx=none→dx≠x →
 sp (.ref x::(vs++b)) (upd (upd a dx (.own x)) x (.ins C dx [])) (fun v d=>v=.non∧Q (.ref x) d) E
def Ys(K:#[7])(b:FuncData)(ps:List Str)(ds:List Value):Prop :=
 ∀ (s:Shared) (a:List Value),K.In s.heap→(a++ds).length=ps.length→BindsTo s b ⟨a,[]⟩ (ps.zip (a++ds))
theorem Ys.all{K:#[7]}{a:FuncData}{ps:List Str}(h:∀us:List Value,us.length=ps.length→bindArgs a ⟨us,[]⟩=pure (ps.zip us)):Ys K a ps []:=fun s us _ hl=>by rw[QaO]at hl ⊢;exact .of_eq (h us hl)
def VX(CX:CXT)(X:Cx)(E:XK):Prop:=∀ (U:List (Addr×Obj)) (a:St) (H:Hp) (s:Shared) (e:Value) (s':Shared),Inv X U a H s→CX X.stack H s E e s'→X.xe e s'
section
variable {X:Cx} {CX:CXT} {k:Nat} {f C:Addr} {fd:FuncData} {ps:List Str} {sp:Sp} {cE:List V} {ds:List Value} {E:XK} {x m:Str} {p pos ay:Pos} {e o:Expr} {es:List Expr} {ta:TE} {t:TA}
theorem Sh{U:List (Addr×Obj)}{b:St}{H:Hp}{s:Shared}{Q:VK}{us:List Value}{vs:List V}(F:YC X.prog X.w X.K X.mg X.base CX k f fd ps sp)(d:Y4 k X.A)(hb:Ys X.K fd ps ds)(hd:ZH cE ds)(hx:VX CX X E)
  (I:Inv X U b H s) (r:ZH vs us) (h:sp (vs++cE) H Q E):#[9,X] (call (.ref f) us) (EP X U b Q) X.xe s:=by
 have c:ZH (vs++cE) (us++ds):=r.append hd;have g:(us++ds).length=ps.length:=by rw[← c.length];exact F.len _ _ _ _ h
 refine wpAny_call (codeAny_mono (F.run X.A X.stack s H ⟨us,[]⟩ (us++ds) (vs++cE) Q E d I.env0 (hb s us I.kIn g) c h) fun r i a=>?_);cases r with
 | error e=>exact hx U b H s e i I a
 | ok j =>
  cases j with
  | ret u=>exact I.after a
  | next=>exact False.elim a
  | brk=>exact False.elim a
  | cont=>exact False.elim a
theorem Zos(F:YC X.prog X.w X.K X.mg X.base CX k f fd ps sp)(b:Y4 k X.A)(c:Gl X x)(hm:X.mg x=some (.ref f))(hk:PySem.W.keepIn X.K (.ref f)=true)(hb:Ys X.K fd ps ds)(hd:ZH cE ds)(hx:VX CX X E)
  (ha:PA X (e::es) t) (d:(x == ("__debug__" : Str))=false:=by decide) (he:starEach (e::es) X.env=(false,eval e X.env)::starEach es X.env:=by rfl) (g:(backTo pos (starEach es X.env)).any (·.1)=false:=by rfl) :
  PE X (.Call (.Name x p) (e::es) [] pos) (N9 sp cE E t):=by
 intro U s i H Q I h;refine wpAny_Call_Name_kw (Vx I c hm ?_ d);refine Qav (h₀:=X.base) I.ok.mod.kin hk (thn (ha pos U s i H _ I h) fun us s1 ⟨vs,H1,a,r,q⟩=>⟨a.kIn,?_⟩) he g;exact Sh F b hb hd hx a r q
theorem ZoV{pl:Sem Bool}(he:PE X o ta)(c:Cls X.K C)(hm:Vt X.K C m f)(F:YC X.prog X.w X.K X.mg X.base CX k f fd ps sp)(j:Y4 k X.A)(hb:Ys X.K fd ps ds)(hd:ZH cE ds)(hx:VX CX X E)(ha:PA X (e::es) t)
  (n:starEach (e::es) X.env=(false,eval e X.env)::starEach es X.env:=by rfl) (p:(backTo pos (starEach es X.env)).any (·.1)=false:=by rfl)
  (v:eval (.Call (.Attribute o m ay) (e::es) [] pos) X.env=(do
   let b ← eval o X.env
   standAt ay.atName
   let (f,first) ← holding [b] (getMethod b m pl)
   callWith pos f first (backTo pos (starEach (e::es) X.env)) (backToKw pos (keywordEach [] X.env))):=by rfl) :
  PE X (.Call (.Attribute o m ay) (e::es) [] pos) (TX C m sp cE E ta t):=by
 intro U s d H Q I h;refine PySem.W.methodCall_KW (pl:=pl) (thn (he U s d H _ I h) ?_) v;rintro u w ⟨x,y,g,z,a,dx,fs,ex,A,l,q⟩;subst ex;obtain rfl:u=Value.ref a:=z;refine Sj g A c hm l ?_;refine Qav (first:=[.ref a]) (h₀:=X.base) I.ok.mod.kin hm.kp (thn (ha pos U w d y _ g q) fun us s2 ⟨vs,H2,i,r,B⟩=>⟨i.kIn,?_⟩) n p;exact Sh (us:=.ref a::us) (vs:=.ref a::vs) F j hb hd hx i (.cons rfl r) B
theorem ZmV{pl:Sem Bool}(he:PE X o ta)(c:Cls X.K C)(hm:Vt X.K C m f)(F:YC X.prog X.w X.K X.mg X.base CX k f fd ps sp)(e:Y4 k X.A)(hb:Ys X.K fd ps ds)(hd:ZH cE ds)(hx:VX CX X E)
  (g:eval (.Call (.Attribute o m ay) [] [] pos) X.env=(do
   let d ← eval o X.env
   standAt ay.atName
   let (f,first) ← holding [d] (getMethod d m pl)
   callWith pos f first (backTo pos (starEach [] X.env)) (backToKw pos (keywordEach [] X.env))):=by rfl) :
  PE X (.Call (.Attribute o m ay) [] [] pos) (TX C m sp cE E ta Si):=by
 intro U s i H Q I h;refine PySem.W.methodCall_KW (pl:=pl) (thn (he U s i H _ I h) ?_) g;rintro u s1 ⟨x,H1,b,j,a,dx,fs,ex,n,l,q⟩;subst ex;obtain rfl:u=Value.ref a:=j;refine Sj b n c hm l ?_;exact PySem.W.callWith_K0 (first:=[.ref a]) b.kIn hm.kp (Sh (us:=[.ref a]) (vs:=[.ref a]) F e hb hd hx b (.cons rfl .nil) q)
structure Mk (K:#[7]) (C f:Addr):Prop where
 makes:PySem.W.makesIn K C=true
 init:PySem.W.findIn K (.ref C) "__init__" = some (some (.ref f))
 fn:PySem.W.isFn K (.ref f)=true
 kp:PySem.W.keepIn K (.ref C)=true
theorem Zna{U:List (Addr×Obj)}{c:St}{H:Hp}{s:Shared}{Q:VK}{us:List Value}{vs:List V}(M:Mk X.K C f)(F:YC X.prog X.w X.K X.mg X.base CX k f fd ps sp)(i:Y4 (k+1) X.A)(hb:Ys X.K fd ps ds)(hd:ZH cE ds)
  (hx:VX CX X E) (I:Inv X U c H s) (r:ZH vs us)
  (h:∀x dx,H x=none→H dx=none→dx≠x→sp (.ref x::(vs++cE)) (upd (upd H dx (.own x)) x (.ins C dx [])) (fun v j=>v=.non∧Q (.ref x) j) E) :
  #[9,X] (call (.ref C) us) (EP X U c Q) X.xe s:=by
 have d:=h (s.heap.objs.size+1) s.heap.objs.size (I.hok.fresh (Qaj _)) (I.hok.fresh (Qg _)) (Qz (Nat.lt_succ_self _));have b:=Inv.made (C:=C) I;have g:ZH (V.ref (s.heap.objs.size+1)::(vs++cE)) (Value.ref (s.heap.objs.size+1)::(us++ds)):=.cons rfl (r.append hd);have l:(Value.ref (s.heap.objs.size+1)::us++ds).length=ps.length:=by have e:=g.length;rw[F.len _ _ _ _ d]at e;exact e.symm
 refine wpAny_call (Zne (f:=f) I.kIn M.makes M.init (beq_iff_eq.mp M.fn) (codeAny_mono (F.run _ X.stack _ _ ⟨Value.ref (s.heap.objs.size+1)::us,[]⟩ (Value.ref (s.heap.objs.size+1)::(us++ds)) _ _ E (i.make C us [])
  (b.env0.make C us []) (hb _ (Value.ref (s.heap.objs.size+1)::us) b.kIn l) g d) fun r m a=>?_))
 cases r with
 | error e=>exact hx U c _ _ e m b a
 | ok n =>
  cases n with
  | ret u=>obtain⟨v,o,p,q,t,w⟩:=b.after a;subst t;exact⟨q,⟨V.ref (s.heap.objs.size+1),o,p,rfl,w⟩⟩
  | next=>exact False.elim a
  | brk=>exact False.elim a
  | cont=>exact False.elim a
theorem Zpo(M:Mk X.K C f)(F:YC X.prog X.w X.K X.mg X.base CX k f fd ps sp)(b:Y4 (k+1) X.A)(c:Gl X x)(hm:X.mg x=some (.ref C))(hb:Ys X.K fd ps ds)(hd:ZH cE ds)(hx:VX CX X E)
  (ha:PA X (e::es) t) (d:(x == ("__debug__" : Str))=false:=by decide) (he:starEach (e::es) X.env=(false,eval e X.env)::starEach es X.env:=by rfl) (g:(backTo pos (starEach es X.env)).any (·.1)=false:=by rfl) :
  PE X (.Call (.Name x p) (e::es) [] pos) (N8 C sp cE E t):=by
 intro U s i H Q I h;refine wpAny_Call_Name_kw (Vx I c hm ?_ d);refine Qav (h₀:=X.base) I.ok.mod.kin M.kp (thn (ha pos U s i H _ I h) fun us s1 ⟨vs,H1,a,r,q⟩=>⟨a.kIn,?_⟩) he g;exact Zna M F b hb hd hx a r q
end
section
variable {X:Cx} {CX:CXT} {k:Nat} {f C:Addr} {fd:FuncData} {ps ks:List Str} {sp:Sp} {E:XK} {x m:Str} {p pos ay CS:Pos} {e o:Expr} {es:List Expr} {JT:List Keyword} {te ta:TE} {t tk:TA} {nm:Option Str}
structure KBinds (K:#[7]) (fd:FuncData) (ps ks:List Str) (g:List Value→List Value→List Value) (gV:List V→List V→List V):Prop where
 to:∀ (s:Shared) (us ws:List Value),K.In s.heap→(g us ws).length=ps.length→BindsTo s fd ⟨us,ks.zip ws⟩ (ps.zip (g us ws))
 rel:∀ {vs:List V} {us:List Value} {zs:List V} {ws:List Value},ZH vs us→ZH zs ws→ZH (gV vs zs) (g us ws)
variable {g:List Value→List Value→List Value} {gV:List V→List V→List V}
end
structure Zp (N P:List Str) (sc:Scope):Prop where
 kind:sc.kind=.function
 co:sc.isCoroutine=false
 gen:sc.isGenerator=false
 nd:N.Nodup
 pre:N.take P.length=P
 par:∀x∈P,sc.names.lookup x=some .local∨sc.names.lookup x=some .cell
 nofree:∀y∈sc.names,y.2≠.free
theorem N7{kindOf:Str→Option NameKind}{x:Str}:∀ {binds:List (Str×Value)} {m:Str→Option Value},(∀v,(x,v) ∉ binds)→bindL kindOf binds m x=m x
 | [],_,_=>rfl
 | (n,v)::r,m,h=>by
  unfold bindL;rw[N7 fun w hw=>h w (Qx _ hw)];split
  ·have:x≠n:=by rintro rfl;exact h v Q3
   simp[this]
  ·rfl
theorem N6{kindOf:Str→Option NameKind}{x:Str}:∀ {binds:List (Str×Value)} {m:Str→Option Value},(∀v,(x,v) ∉ binds)→bindC kindOf binds m x=m x
 | [],_,_=>rfl
 | (n,v)::r,m,h=>by
  unfold bindC;rw[N6 fun w hw=>h w (Qx _ hw)];split
  ·rfl
  ·have:x≠n:=by rintro rfl;exact h v Q3
   simp[this]
theorem N5{kindOf:Str→Option NameKind}{x:Str}{v:Value}:∀ {P:List Str} {vs:List Value} {i:Nat} {m:Str→Option Value},P.Nodup→P[i]? = some x→vs[i]? = some v→kindOf x=some .local →
  bindL kindOf (P.zip vs) m x=some v
 | [],_,_,_,_,h,_,_=>by simp at h
 | _::_,[],_,_,_,_,h,_=>by simp at h
 | p::P,w::vs,0,m,nd,h1,h2,hk=>by simp at h1 h2;subst h1;subst h2;show bindL kindOf ((p,w)::P.zip vs) m p=_;unfold bindL;rw[N7 fun v a=>(QR.mp nd).1 (List.of_mem_zip a).1,if_pos hk];simp
 | p::P,w::vs,i+1,m,nd,h1,h2,hk=>by show bindL kindOf ((p,w)::P.zip vs) m x=_;unfold bindL;exact N5 (i:=i) (QR.mp nd).2 (by simpa using h1) (by simpa using h2) hk
theorem N4{kindOf:Str→Option NameKind}{x:Str}{v:Value}:∀ {P:List Str} {vs:List Value} {i:Nat} {m:Str→Option Value},P.Nodup→P[i]? = some x→vs[i]? = some v→kindOf x≠some .local →
  bindC kindOf (P.zip vs) m x=some v
 | [],_,_,_,_,h,_,_=>by simp at h
 | _::_,[],_,_,_,_,h,_=>by simp at h
 | p::P,w::vs,0,m,nd,h1,h2,hk=>by simp at h1 h2;subst h1;subst h2;show bindC kindOf ((p,w)::P.zip vs) m p=_;unfold bindC;rw[N6 fun v a=>(QR.mp nd).1 (List.of_mem_zip a).1,if_neg hk];simp
 | p::P,w::vs,i+1,m,nd,h1,h2,hk=>by show bindC kindOf ((p,w)::P.zip vs) m x=_;unfold bindC;exact N4 (i:=i) (QR.mp nd).2 (by simpa using h1) (by simpa using h2) hk
noncomputable def Xs(N:List Str)(vs:List V):St:=vs.map some++List.replicate (N.length-vs.length) none
noncomputable def XQ(CX:CXT)(P:Program)(w:World)(K:#[7])(mg:Str→Option Value)(base:Heap)(N:List Str)(a:Str)(b:Scope)(f:Addr)(c:Value)(A:Around)(outer:List Env)(s:Shared)(H:Hp)(E:XK):Cx where
 prog:=P
 w:=w
 K:=K
 mg:=mg
 base:=base
 A:=A.deeper (envOfC a b s.heap.objs.size f c)
 N:=N
 s₀:=s
 H₀:=H
 env:=envOfC a b s.heap.objs.size f c
 outer:=outer
 stack:=envOfC a b s.heap.objs.size f c::outer
 ex:=[]
 calm:=true
 fn:=fun _=>true
 pn:=[]
 xe:=fun e g=>wpAny (model P w) (A.deeper (envOfC a b s.heap.objs.size f c)) (leaving (envOfC a b s.heap.objs.size f c) e) (fun _ d=>CX outer H s E e d) (fun h d=>CX outer H s E h d) g
theorem N3{a:Scope}{n:Nat}{x:Str}(h:a.names.lookup x=some .cell):∃c,(cellsFrom n a.names []).lookup x=some c:=by have q:=PySem.W.cellsFrom_some a.names n [] (.inl h);exact Option.isSome_iff_exists.mp q
theorem Zlr{CX:CXT}{P:Program}{w:World}{K:#[7]}{mg:Str→Option Value}{base:Heap}{N ps:List Str}{m:Str}{j:Scope}{f:Addr}{o:Value}{A:Around}{outer:List Env}{s D:Shared}{H:Hp}{E:XK}{us:List Value}{vs:List V}
  (S:Zp N ps j) (hd:A.handled=none) (g:VY P w K mg base A outer s H) (hl:vs.length=ps.length) (r:ZH vs us)
  (x:InCallC s s.heap.objs.size (bindL (envOfC m j s.heap.objs.size f o).kindOf (ps.zip us) fun _=>none) (cellsFrom (s.heap.objs.size+1) j.names []) (bindC (envOfC m j s.heap.objs.size f o).kindOf (ps.zip us) fun _=>none) D) :
  Inv (XQ CX P w K mg base N m j f o A outer s H E) [] (Xs N vs) H D:=by
 have bb:ps.length≤N.length:=by have:=congrArg List.length S.pre;rw[QA]at this;lia
 obtain⟨t,tk,rfl,F⟩:=x.done;have C:∀b:Addr,b ∉ (XQ CX P w K mg base N m j f o A outer s H E).ex:=fun b z=>absurd (show b∈([]:List Addr) from z) #[4];refine⟨⟨g.mod,S.kind,rfl,rfl,Qg _,fun y z c t d=>?_,fun y hy=>?_,fun y c _ h=>?_,fun _=>hd,Around.frames_deeper g.frames,.inr ⟨rfl,rfl⟩,fun b z=>absurd z (C b),g.bs,g.bsz,fun b _ _=>C b,fun b z=>absurd z (C b),g.funs,g.frf⟩,
  rfl,g.bare,Un.kept F,⟨_,x.toInCall.ns,fun i y v t d h3=>?_⟩,fun y c h=>⟨_,x.cell y c h⟩,g.hok.fresh (Qg _),fun y c h=>?_,fun p l=>absurd (show p∈([]:List (Addr×Obj)) from l) #[4],g.hok.kept F,?_⟩
 ·exact name_of_addr x.apart (Qae t) (Qae d)
 ·have hy:j.names.lookup y=some .cell∨j.names.lookup y=some .free:=hy;rcases hy with hy|hy
  ·exact N3 hy
  ·exact absurd rfl (S.nofree _ (Qae hy))
 ·exact Qar (x.above y c (Qae h))
 ·have B:i<vs.length:=by
   unfold Xs at d;by_cases B:i<vs.length
   ·exact B
   ·rw[QK (by simpa using B)]at d;rw[List.getElem?_replicate]at d;split at d<;>cases d
  have J:vs[i]? = some v:=by
   unfold Xs at d;rw[QO (by simpa using B),Qk]at d;cases e:vs[i]? with
   | none=>rw[e]at d;cases d
   | some a=>rw[e]at d;cases d;rfl
  obtain⟨u,G,L⟩:=r.get J;have l:ps[i]? = some y:=by rw[← S.pre,List.getElem?_take_of_lt #[2]];exact t
  have I:ps.Nodup:=by rw[← S.pre];exact S.nd.sublist (List.take_sublist _ _)
  refine⟨u,L,?_⟩;rcases S.par y (Qv l) with k|k
  ·exact .inl ⟨k,N5 I l G k⟩
  ·obtain⟨c,e⟩:=N3 (n:=s.heap.objs.size+1) k;refine .inr ⟨.inl k,c,e,?_⟩;have q:=x.cell y c e;rw[N4 I l G (by show j.names.lookup y≠_;rw[k];decide)]at q;exact q
 ·exact g.hok.fresh (Qar (x.above y c (Qae h)))
 ·unfold Xs;show _=N.length;rw[Qr,Qa,Qam];lia
theorem N2{CX:CXT}{P:Program}{w:World}{K:#[7]}{mg:Str→Option Value}{base:Heap}{k:Nat}{f:Addr}{name d:Str}{C:Arguments}{m:List Stmt}{a:Scope}{D kV F G g ct R:Value}{L od:Option Addr}
  {T:Array (Option Value)} {N ps:List Str} {sp:Sp} (lk:K.lookup f=some ⟨R,od,.func (PySem.W.fnOf name d C m a D kV F G L g ct),T⟩) (U:PySem.W.codeIn K g d=true) (S:Zp N ps a)
  (len:∀vs H Q E,sp vs H Q E→vs.length=ps.length)
  (W:∀ (A:Around) (outer:List Env) (s:Shared) (H:Hp) (vs:List V) (Q:VK) (E:XK),Y4 k (A.deeper (envOfC d a s.heap.objs.size f g))→sp vs H Q E →
   ∃t,PSs (XQ CX P w K mg base N d a f g A outer s H E) m t∧t { nx:=fun _ c=>Q .non c,rt:=Q } (Xs N vs) H) :
  YC P w K mg base CX (k+1) f (PySem.W.fnOf name d C m a D kV F G L g ct) ps sp:=by
 refine⟨len,fun A outer s H args X vs Q E p i Y r M=>?_⟩;have Z:=len _ _ _ _ M;have KX:K.In s.heap:=i.mod.kin.keeps fun b o e=>(i.bs b o e).1;have zm:s.heap.NoLimit:=i.mod.nolimit.keeps fun b o e=>(i.bs b o e).1;have rb:∀y∈ps.zip X,a.names.lookup y.1=some .local∨(a.names.lookup y.1=some .cell∧((cellsFrom (s.heap.objs.size+1) a.names []).lookup y.1).isSome=true):=fun ⟨n,v⟩ hy=>by
  rcases S.par n (List.of_mem_zip hy).1 with q|q
  ·exact .inl q
  ·exact .inr ⟨q,PySem.W.cellsFrom_some _ _ _ (.inl q)⟩
 refine codeAny_call_function p.depth (KX _ _ lk) rfl S.co S.gen rfl (PySem.W.codeRec_of KX U) (Y _ _ _ _ ?_);refine wpAny_newFunctionEnv_cells S.kind rb fun env he O x=>?_;subst he;refine⟨zm.keeps x.toInCall.keep,codeAny_func ?_⟩;obtain⟨t,ht,hq⟩:=W A outer s H vs Q E (p.deeper _) M;have I:Inv (XQ CX P w K mg base N d a f g A outer s H E) [] (Xs N vs) H O:=Zlr S p.hd i Z r x;refine wpAny_mono (ht [] O (Xs N vs) H _ I hq) (fun fl z h=>?_) fun e z h=>h;have j:∀ {l:St} {c:Hp} {v:V} {u:Value},Inv (XQ CX P w K mg base N d a f g A outer s H E) [] l c z→ZI v u→Q v c→CE outer P w H s Q u z :=
  fun {l c v u} J B q=>⟨v,c,J.os,J.bare,J.base,J.hok,B,q⟩
 cases fl with
 | ret u=>obtain⟨v,l,c,J,B,q⟩:=h;exact j J B q
 | next=>obtain⟨l,c,J,q⟩:=h;exact j (v:=V.non) (u:=Value.none) J rfl q
 | brk=>obtain⟨_,_,_,q⟩:=h;exact False.elim q
 | cont=>obtain⟨_,_,_,q⟩:=h;exact False.elim q
section
variable {X:Cx} {x:Str} {p pos:Pos} {e:Expr} {es:List Expr} {t:TA} {id T:String} {r:List V→Hp→VK→Prop}
def tCB(r:List V→Hp→VK→Prop)(t:TA):TE:=fun a H Q=>t a H fun vs b=>r vs b Q
theorem Zk(hc:YW X (.builtin id) r)(b:Gl X x)(hm:X.mg x=none)(c:bootBuiltins x=some (.builtin id))(ha:PA X (e::es) t)(d:x ≠ "__name__":=by decide)(f:(x == ("__debug__" : Str))=false:=by decide)
  (g:starEach (e::es) X.env=(false,eval e X.env)::starEach es X.env:=by rfl) (i:(backTo pos (starEach es X.env)).any (·.1)=false:=by rfl):PE X (.Call (.Name x p) (e::es) [] pos) (tCB r t):=by
 intro U s a H Q I h;refine wpAny_Call_Name_kw (Wu I b hm c ?_ d f);exact PyProof.Rows.callWith_builtin1 (thn (ha pos U s a H _ I h) fun j k ⟨l,m,n,o,q⟩=>hc U k a m l j Q n o q) g i
theorem W4(hc:YW X (.type T) r)(b:Gl X x)(hm:X.mg x=none)(c:bootBuiltins x=some (.type T))(ha:PA X (e::es) t)(d:x ≠ "__name__":=by decide)(f:(x == ("__debug__" : Str))=false:=by decide)
  (g:starEach (e::es) X.env=(false,eval e X.env)::starEach es X.env:=by rfl) (i:(backTo pos (starEach es X.env)).any (·.1)=false:=by rfl):PE X (.Call (.Name x p) (e::es) [] pos) (tCB r t):=by
 intro U s a H Q I h;refine wpAny_Call_Name_kw (Wu I b hm c ?_ d f);exact QV (thn (ha pos U s a H _ I h) fun j k ⟨l,m,n,o,q⟩=>hc U k a m l j Q n o q) g i
end
end L2
namespace HT
open PySem PyProof.Rows
section
variable {prog:Program} {w:World} {A:Around} {E:Value→Shared→Prop} {s:Shared}
noncomputable def sIx(n d:Nat):Option Int→Nat
 | none=>d
 | some v=>if v<0 then (v+(n:Int)).toNat else min v.toNat n
end
end HT
namespace L2
open PySem PySem.Spec PyProof.Rows
abbrev TO:=St→Hp→(Option Int→Hp→Prop)→Prop
def PO(X:Cx)(e:Option Expr)(t:TO):Prop :=
 ∀ (U:List (Addr×Obj)) (s:Shared) (a:St) (H:Hp) (Q:Option Int→Hp→Prop),Inv X U a H s→t a H Q →
  #[9,X] (evalPart e X.env) (fun u c=>∃o b,Inv X U a b c∧IsPart u o∧Q o b) X.xe s
def ZoS:TO:=fun _ H Q=>Q none H
def Zro(t:TE):TO:=fun a H Q=>t a H fun x b=>EA (fun i=>x=.int i) (fun i=>Q (some i) b)
theorem N0{ns:List Int}:∀ {us:List Value},ZH (ns.map V.int) us→IntsAre us ns:=by
 induction ns with
 | nil=>intro us r;rw[QaU]at r;cases r;exact .nil
 | cons n ns a =>
  intro us r;rw[Qh]at r;cases r with
  | cons b c=>obtain⟨t,e⟩:=b;subst e;exact .cons n t (a c)
section
variable {X:Cx} {e:Expr} {te:TE} {lo hi:Option Expr} {tl th:TO} {pos p2:Pos}
theorem VW:PO X none ZoS:=by intro U s σ H Q I h;rw[evalPart_none];exact wpAny_pure ⟨none,H,I,.none,h⟩
theorem Vs(h:PE X e te):PO X (some e) (Zro te):=by intro U s a H Q I hw;rw[evalPart_some];refine thn (h U s a H _ I hw) ?_;rintro u s1 ⟨x,b,c,d,f⟩;obtain⟨i,rfl,q⟩:=f;obtain⟨t,rfl⟩:=d;exact⟨some i,b,c,.int i t,q⟩
def SlR(X:Cx)(r:V→Option Int→Option Int→Hp→VK→Prop):Prop :=
 ∀ (U:List (Addr×Obj)) (s:Shared) (a:St) (H:Hp) (x:V) (v b c:Value) (lo hi:Option Int) (d:Addr) (Q:VK),Inv X U a H s→ZI x v→s.heap.IsSliceOf d b c .none→IsPart b lo→IsPart c hi→r x lo hi H Q →
  ∃T id,typeLookup (.type T) "__getitem__" = pure (some (.builtin id))∧s.TypeIs v T∧#[9,X] (getItem v (.ref d)) (EP X U a Q) X.xe s
def tSl(r:V→Option Int→Option Int→Hp→VK→Prop)(te:TE)(tl th:TO):TE:=fun a H Q=>te a H fun x b=>tl a b fun l c=>th a c fun u d=>r x l u d Q
theorem VU{r:V→Option Int→Option Int→Hp→VK→Prop}(i:SlR X r)(he:PE X e te)(hl:PO X lo tl)(hu:PO X hi th):PE X (.Subscript e (.Slice lo hi none p2) pos) (tSl r te tl th):=by intro U s c H Q I h;refine Subscript_ (thn (he U s c H _ I h) ?_);rintro v j ⟨x,k,m,n,o⟩;refine wpAny_Slice (thn (hl U j c k _ m o) fun d p ⟨l,t,w,y,z⟩=>thn (hu U p c t _ w z) ?_);rintro f a ⟨u,g,A,B,C⟩;rw[evalPart_none];refine wpAny_pure ?_;have D:Inv X U c g { a with heap:=a.heap.push { cls:=.type "slice",data:=.fields #[d,f,.none] } }:=A.kept (t':=a.toks) fun b ob q=>Qc _ q;obtain⟨T,id,E,F,G⟩:=i U { a with heap:=a.heap.push { cls:=.type "slice",data:=.fields #[d,f,.none] } } c g x v d f l u a.heap.objs.size Q D n (Heap.IsSliceOf.new ..) y B C;show #[9,X] (subscriptTail e (.Slice lo hi none p2) v (.ref a.heap.objs.size)) (EP X U c Q) X.xe { a with heap:=a.heap.push { cls:=.type "slice",data:=.fields #[d,f,.none] } };exact tail_any (ops:=[.ref a.heap.objs.size,v]) F E G (by with_unfolding_all rfl)
noncomputable def WH(xs:List V)(lo hi:Option Int):List V:=(xs.drop (HT.sIx xs.length 0 lo)).take (HT.sIx xs.length xs.length hi-HT.sIx xs.length 0 lo)
theorem NZ(xs:List V)(lo hi:Option Int):(WH xs lo hi).length≤xs.length:=by unfold WH;rw[QA,QZ];lia
end
noncomputable def ixN(n:Nat)(i:Int):Option Nat:=if 0≤i then (if i<n then some i.toNat else none) else if -(n:Int)≤i then some (i+n).toNat else none
noncomputable def atI{α:Type}(xs:List α)(i:Int):Option α:=(ixN xs.length i).bind fun j=>xs[j]?
theorem NY{n:Nat}{i:Int}{j:Nat}(h:ixN n i=some j):seqIndex? i n=some j∧j<n ∧ -(n:Int)≤i∧i<n:=by
 unfold ixN at h;by_cases b:0≤i
 ·rw[if_pos b]at h;by_cases a:i<n
  ·rw[if_pos a]at h;have e:i.toNat=j:=Qj h;exact⟨by rw[seqIndex_of b a,e],by lia,by lia,a⟩
  ·rw[if_neg a]at h;cases h
 ·rw[if_neg b]at h;by_cases a:-(n:Int)≤i
  ·rw[if_pos a]at h;have e:(i+n).toNat=j:=Qj h;exact⟨by rw[seqIndex_neg #[2] a,e],by lia,a,by lia⟩
  ·rw[if_neg a]at h;cases h
theorem Sg{α:Type}{xs:List α}{i:Int}{v:α}(h:atI xs i=some v):∃j,seqIndex? i xs.length=some j∧xs[j]? = some v∧j<xs.length ∧ -(xs.length:Int)≤i∧i<xs.length:=by
 unfold atI at h;cases e:ixN xs.length i with
 | none=>rw[e]at h;cases h
 | some j=>rw[e]at h;obtain⟨a,b,c,d⟩:=NY e;exact⟨j,a,h,b,c,d⟩
theorem Yr{α:Type}{xs:List α}{j:Nat}{v:α}(h:xs[j]? = some v):atI xs (j:Int)=some v:=by
 have hj:j<xs.length:=(Qd.mp h).1;have e:ixN xs.length (j:Int)=some j:=by unfold ixN;rw[if_pos #[2],if_pos #[2]];simp
 unfold atI;rw[e];exact h
theorem ZnS{α:Type}(xs:List α)(v:α):atI (xs++[v]) (-1)=some v:=by
 have a:(xs++[v]).length=xs.length+1:=by simp
 have e:ixN (xs++[v]).length (-1)=some xs.length:=by unfold ixN;rw[a,if_neg #[6],if_pos #[2]];congr 1;lia
 unfold atI;rw[e];show (xs++[v])[xs.length]? = some v;simp
def Zop(b:Expr):Prop:=∀o i,subscripted b false o i=operate [o,i] (getItem o i)
def IxR(X:Cx)(r:R2):Prop :=
 ∀ (value a:Expr) (U:List (Addr×Obj)) (s:Shared) (b:St) (H:Hp) (x y:V) (v u:Value) (Q:VK),Inv X U b H s→ZI x v→ZI y u→r x y H Q →
  subscripted a false v u=operate [v,u] (getItem v u)→#[9,X] (subscriptTail value a v u) (EP X U b Q) X.xe s
def MtR(X:Cx)(id:String)(r:V→List V→Hp→VK→Prop):Prop :=
 ∀ (U:List (Addr×Obj)) (s:Shared) (a:St) (H:Hp) (x:V) (b:List V) (v:Value) (c:List Value) (Q:VK),Inv X U a H s→ZI x v→ZH b c→r x b H Q →
  #[9,X] (call (.builtin id) (v::c)) (EP X U a Q) X.xe s
section
variable {X:Cx} {a b:Expr} {ta tb:TE} {pos:Pos}
theorem Zr{r:R2}(c:IxR X r)(ha:PE X a ta)(hb:PE X b tb)(d:Zop b):PE X (.Subscript a b pos) (tOp r ta tb):=by intro U s e H Q I h;exact Subscript_ (Sq ha hb I h fun v u f x y g i j k q=>c a b U f e g x y v u Q i j k q (d _ _))
inductive RIx (S:Addr→List V→Prop) (x y:V) (B:V→Prop):Prop where
 | mk (p:Addr) (xs:List V) (i:Int) (v:V) (a:x=.ref p) (b:y=.int i) (c:S p xs) (d:atI xs i=some v) (q:B v)
def NX(K:#[7]):R2:=fun x y H Q=>RIx (SqL K H) x y (fun v=>Q v H)
def NW(K:#[7]):R2:=fun x y H Q=>RIx (SqT K H) x y (fun v=>Q v H)
def Zso:R2:=fun x y H Q=>∃z i c,x=.str z∧y=.int i∧z.length≤sizeLine∧atI z.cps.toList i=some c∧Q (.str ⟨#[c]⟩) H
theorem Zol:IxR X (NX X.K):=by
 intro value cG U s e H x y v u Q I l m h f;obtain⟨p,xs,i,z,rfl,rfl,n,o,q⟩:=h;cases l;obtain⟨t,rfl⟩:=m;obtain⟨its,r,c,hz⟩:=I.list n;obtain⟨j,b,A,h3,B,C⟩:=Sg o;obtain⟨w,g,D⟩:=r.get A;have E:=r.length;have hn:=Vu;have a:EP X U e Q w s:=⟨z,H,I,D,q⟩;by_cases k:0≤i
 ·have d:i.toNat=j:=by rw[seqIndex_of k C]at b;exact Qj b
  exact item_listR c.isList k #[2] (by rw[d];simpa using g) a f
 ·have d:(i+(its.toArray.size:Int)).toNat=j:=by rw[seqIndex_neg #[2] B]at b;rw[QF,← E];exact Qj b
  exact subscriptTail_builtinR (x:=w) c.isList.typeIs slot_list_getitem.lookup
   (wpAny_getItem_list_neg (Q:=fun r F=>r=w∧EP X U e Q r F) c.isList #[2] (by rw[QF]<;>lia) #[2] (by rw[d];simpa using g) ⟨rfl,a⟩) f
theorem ZqB:IxR X (NW X.K):=by
 intro value cG U s b H x y v u Q I d e h f;obtain⟨p,xs,i,z,rfl,rfl,g,k,q⟩:=h;cases d;obtain⟨t,rfl⟩:=e;obtain⟨its,r,c,hz⟩:=I.tuple g;obtain⟨j,l,m,h3,h4,h5⟩:=Sg k;obtain⟨w,n,o⟩:=r.get m;have A:=r.length;have hn:=Vu;have a:EP X U b Q w s:=⟨z,H,I,o,q⟩;exact subscriptTail_builtinR (x:=w) c.typeIs slot_tuple_getitem.lookup
  (getItem_tuple (j:=j) (Q:=fun r B=>r=w∧EP X U b Q r B) c #[2] #[2] (by rw[QF,← A];exact l) (by simpa using n) ⟨rfl,a⟩) f
theorem VT:IxR X Zso:=by
 intro value cG U s σ H x y v u Q I b d h e;obtain⟨z,i,c,rfl,rfl,hz,f,q⟩:=h;obtain⟨t,rfl⟩:=b;obtain⟨t',rfl⟩:=d;obtain⟨j,a,g,h3,k,l⟩:=Sg f;have m:z.cps.toList.length=z.length:=by simp[Str.length]
 rw[m]at a k l;have hn:=Vu;exact tail_any (typeIs_str s z t) slot_str_getitem.lookup (getItem_str (c:=c) (by have n:decide (i < -(2 ^ 63:Int))=false:=decide_eq_false #[2];have o:decide (i≥2 ^ 63)=false:=decide_eq_false #[2];rw[n,o,Bool.or_false]) (by rw[a];simpa using g) ⟨.str ⟨#[c]⟩,H,I.tok _,⟨_,rfl⟩,q⟩) e
theorem ZjR(its:List Value)(n j:Nat)(u:Value):Obj.mapSeq (·.setIfInBounds j u) { cls:=.type "list",data:=.seq its.toArray n }={ cls:=.type "list",data:=.seq (its.set j u).toArray n }:=by simp[Obj.mapSeq]
theorem Inv.lst{U:List (Addr×Obj)}{a:St}{H:Hp}{s:Shared}{p:Addr}{xs:List V}(I:Inv X U a H s)(h:H p=some (.lst xs)) :
  ∃ (its:List Value) (n:Nat),ZH xs its∧s.heap.get? p=some { cls:=.type "list",data:=.seq its.toArray n }∧xs.length≤sizeLine:=by
 obtain⟨z,its,n,r,e⟩:=I.hok p _ h;exact⟨its,n,r,e,z⟩
theorem Inv.lstUpd{U:List (Addr×Obj)}{c:St}{H:Hp}{s:Shared}{p:Addr}{xs ys:List V}{its its':List Value}{n a:Nat}{f:Obj→Obj}(I:Inv X U c H s)(h:H p=some (.lst xs))
  (g:s.heap.get? p=some { cls:=.type "list",data:=.seq its.toArray n }) (d:f { cls:=.type "list",data:=.seq its.toArray n }={ cls:=.type "list",data:=.seq its'.toArray a }) (r:ZH ys its') (i:ys.length≤sizeLine) (t:Nat) :
  Inv X U c (upd H p (.lst ys)) { s with heap:=s.heap.update p f,toks:=t }:=by
 have e:(s.heap.update p f).get? p=some { cls:=.type "list",data:=.seq its'.toArray a }:=by rw[Q8 f g (by rw[d]<;>rfl),d]
 refine I.write (x:=p) (e:=p) (by rw[h];trivial) #[8] (fun b u j q=>(Q6 _ _ (Ne.symm j)).trans q) ⟨_,e⟩ ?_;exact⟨i,its',a,r,e⟩
def ZrL:V→V→V→Hp→(Hp→Prop)→Prop:=fun o i v H Q=>∃p xs k j,o=.ref p∧i=.int k∧H p=some (.lst xs)∧ixN xs.length k=some j∧Q (upd H p (.lst (xs.set j v)))
theorem NV:Ss X ZrL:=by
 intro U s w H o i v ov iv u Q I x y z h;obtain⟨p,A,k,j,rfl,rfl,e,B,q⟩:=h;cases x;obtain⟨t,rfl⟩:=y;obtain⟨its,n,r,b,C⟩:=I.lst e;obtain⟨a,h2,f,g⟩:=NY B;have c:=r.length;have hn:=Vu;have l:Inv X U w (upd H p (.lst (A.set j v))) { s with heap:=s.heap.update p (Obj.mapSeq (·.setIfInBounds j u)) } :=
  I.lstUpd e b (ZjR its n j u) (r.set z j) (by rw[List.length_set];exact C) s.toks
 by_cases m:0≤k
 ·have d:k.toNat=j:=by rw[seqIndex_of m g]at a;exact Qj a
  exact PySem.W.ki_setAt b m #[2] (by rw[QF,← c];exact g) (by rw[d];exact⟨_,l,q⟩)
 ·have d:(k+(its.toArray.size:Int)).toNat=j:=by rw[seqIndex_neg #[2] f]at a;rw[QF,← c];exact Qj a
  exact PySem.W.ki_setBack b #[2] (by rw[QF,← c];exact f) #[2] (by rw[d];exact⟨_,l,q⟩)
theorem Ziq(lo a:Option Int)(n:Nat):(sliceBounds lo a none n).1=((HT.sIx n 0 lo:Nat):Int)∧(sliceBounds lo a none n).2.1=((HT.sIx n n a:Nat):Int)∧(sliceBounds lo a none n).2.2=1:=by
 refine⟨?_,?_,rfl⟩
 ·cases lo with
  | none=>simp[sliceBounds,HT.sIx]
  | some i =>
   simp only[sliceBounds,HT.sIx,Option.getD_none,show (1:Int)>0 by decide,if_true];by_cases h:i<0
   ·simp only[h,if_true]<;>lia
   ·simp only[h,if_false]<;>lia
 ·cases a with
  | none=>simp[sliceBounds,HT.sIx]
  | some i =>
   simp only[sliceBounds,HT.sIx,Option.getD_none,show (1:Int)>0 by decide,if_true];by_cases h:i<0
   ·simp only[h,if_true]<;>lia
   ·simp only[h,if_false]<;>lia
theorem Zg7(its:List Value)(lo a:Option Int):slicePick its.toArray lo a none=((its.drop (HT.sIx its.length 0 lo)).take (HT.sIx its.length its.length a-HT.sIx its.length 0 lo)).toArray:=by obtain⟨b,c,d⟩:=Ziq lo a its.toArray.size;unfold slicePick;rw[b,c,d];simp only[sliceRange_one,pick_run,List.size_toArray]<;>rfl
inductive RSl (K:#[7]) (x:V) (lo hi:Option Int) (H:Hp) (B:Addr→Hp→Prop):Prop where
 | mk (a:Addr) (xs:List V) (e:x=.ref a) (s:SqL K H a xs) (q:∀p,H p=none→B p (upd H p (.lst (WH xs lo hi))))
def NU(K:#[7]):V→Option Int→Option Int→Hp→VK→Prop:=fun x lo a H Q=>RSl K x lo a H fun p b=>Q (.ref p) b
theorem Zn5:SlR X (NU X.K):=by intro U s σ H x v vl vu lo d sl Q I f g i j h;obtain⟨a,c,rfl,k,q⟩:=h;cases f;obtain⟨its,r,e,l⟩:=I.list k;have m:=r.length;refine⟨"list",_,slot_list_getitem.lookup,e.isList.typeIs,?_⟩;refine wpAny_getItem_list_slice e.isList g i j .none #[4] ?_ (by rw[QF]<;>lia);rw[Zg7,← m];refine⟨.ref s.heap.objs.size,_,I.laid (t':=s.toks) (o:=.lst (WH c lo d)) (fun b ob q=>Qc _ q) (Qg _) ?_,rfl,q _ (I.hok.fresh (Qg _))⟩;exact⟨Qw (NZ c lo d) l,_,0,(r.drop (HT.sIx c.length 0 lo)).take (HT.sIx c.length c.length d-HT.sIx c.length 0 lo),Qm _ rfl⟩
noncomputable def WG:V→Bool
 | .non=>true
 | .bl _=>true
 | .int _=>true
 | .str _=>true
 | _=>false
noncomputable def eqV:V→V→Bool
 | .non,.non=>true
 | .bl a,.bl b=>a == b
 | .bl a,.int b=>(if a then 1 else 0) == b
 | .int a,.bl b=>a == (if b then 1 else 0)
 | .int a,.int b=>a == b
 | .str a,.str b=>a == b
 | _,_=>false
theorem ZqX{A:Around}{s:Shared}{y x:V}{u v:Value}(e:ZI y u)(c:ZI x v)(g:WG y=true)(f:WG x=true):SeqAt.EqAt A s u v (eqV y x):=by
 cases y with
 | non =>
  cases e;cases x with
  | non=>cases c;exact SeqAt.EqAt.same _
  | bl b=>cases c;exact SeqAt.EqAt.none_bool b
  | int b=>obtain⟨t,rfl⟩:=c;exact SeqAt.EqAt.none_int b t
  | str b=>obtain⟨t,rfl⟩:=c;exact SeqAt.EqAt.none_str b t
  | _=>exact absurd (show false=true from f) Qq
 | bl a =>
  cases e;cases x with
  | non=>cases c;exact SeqAt.EqAt.bool_none a
  | bl b=>cases c;exact SeqAt.EqAt.bool_bool a b
  | int b=>obtain⟨t,rfl⟩:=c;exact SeqAt.EqAt.bool_int a b t
  | str b=>obtain⟨t,rfl⟩:=c;exact SeqAt.EqAt.bool_str a b t
  | _=>exact absurd (show false=true from f) Qq
 | int a =>
  obtain⟨d,rfl⟩:=e;cases x with
  | non=>cases c;exact SeqAt.EqAt.int_none a d
  | bl b=>cases c;exact SeqAt.EqAt.int_bool a d b
  | int b=>obtain⟨t,rfl⟩:=c;exact SeqAt.EqAt.int_int a d b t
  | str b=>obtain⟨t,rfl⟩:=c;exact SeqAt.EqAt.int_str a d b t
  | _=>exact absurd (show false=true from f) Qq
 | str a =>
  obtain⟨d,rfl⟩:=e;cases x with
  | non=>cases c;exact SeqAt.EqAt.str_none a d
  | bl b=>cases c;exact SeqAt.EqAt.str_bool a d b
  | int b=>obtain⟨t,rfl⟩:=c;exact SeqAt.EqAt.str_int a d b t
  | str b=>obtain⟨t,rfl⟩:=c;exact SeqAt.EqAt.str_str a d b t
  | _=>exact absurd (show false=true from f) Qq
 | _=>exact absurd (show false=true from g) Qq
noncomputable def eqU(x:V)(u:Value):Bool:=match u with
 | .none=>eqV .non x
 | .bool b=>eqV (.bl b) x
 | .int i _=>eqV (.int i) x
 | .str z _=>eqV (.str z) x
 | _=>false
theorem NT{x y:V}{u:Value}(r:ZI y u)(f:WG y=true):eqU x u=eqV y x:=by
 cases y with
 | non=>cases r;rfl
 | bl b=>cases r;rfl
 | int i=>obtain⟨t,rfl⟩:=r;rfl
 | str z=>obtain⟨t,rfl⟩:=r;rfl
 | _=>exact absurd (show false=true from f) Qq
theorem Sf{x:V}:∀ {xs:List V} {us:List Value},ZH xs us→xs.all WG=true→us.any (eqU x)=xs.any fun y=>eqV y x
 | _,_,.nil,_=>rfl
 | y::xs,u::us,.cons r t,f=>by rw[List.all_cons,Qa7]at f;rw[QaK,QaK,NT r f.1,Sf t f.2]
theorem Se{A:Around}{s:Shared}{x:V}{v:Value}(a:ZI x v)(b:WG x=true):∀ {xs:List V} {us:List Value},ZH xs us→xs.all WG=true→∀u∈us,SeqAt.EqAt A s u v (eqU x u)
 | _,_,.nil,_=>fun u hu=>by cases hu
 | y::xs,u::us,.cons r t,f=>fun c hu=>by
  rw[List.all_cons,Qa7]at f;rcases QM.mp hu with rfl|hu
  ·rw[NT r f.1];exact ZqX r a f.1 b
  ·exact Se a b t f.2 c hu
noncomputable def inV(x:V)(xs:List V):Bool:=xs.any fun y=>eqV y x
def rIn(K:#[7])(a:Bool):R2:=fun x y H Q=>∃p xs,y=.ref p∧(SqL K H p xs∨SqT K H p xs)∧WG x=true∧xs.all WG=true∧Q (.bl (if a then !inV x xs else inV x xs)) H
theorem ZlX:OpR X (compareOp .In) (rIn X.K false):=by
 intro U s σ H x y v u Q I b d h;obtain⟨p,xs,rfl,hq,c,fs,q⟩:=h;cases d;rcases hq with hq|hq
 ·obtain⟨its,r,a,e⟩:=I.list hq;refine SeqAt.in_listAt (eqU x) a.isList (fun w hw=>Se b c r fs w (by simpa using hw)) ⟨.bl _,H,I,rfl,?_⟩;rw[show its.toArray.any (eqU x)=its.any (eqU x) by simp,Sf r fs];exact q
 ·obtain⟨its,r,a,e⟩:=I.tuple hq;refine SeqAt.in_tupleAt (eqU x) a (fun w hw=>Se b c r fs w (by simpa using hw)) ⟨.bl _,H,I,rfl,?_⟩;rw[show its.toArray.any (eqU x)=its.any (eqU x) by simp,Sf r fs];exact q
theorem Zh6:YW X (.builtin "len") (fun xs H Q=>∃p ys,xs=[.ref p]∧(SqL X.K H p ys∨SqT X.K H p ys)∧Q (.int ys.length) H):=by
 intro U s σ H xs us Q I r h;obtain⟨p,ys,rfl,hq,q⟩:=h;obtain⟨u,rfl,d⟩:=Xt r;cases d;have hn:=Vu;rcases hq with hq|hq
 ·obtain⟨its,a,b,e⟩:=I.list hq;have c:=a.length;exact Calls.call_len_list b.isList (by simp only[List.size_toArray]<;>lia) ⟨.int ys.length,H,I.tok _,⟨s.toks+1,by rw[QF,c]⟩,q⟩
 ·obtain⟨its,a,b,e⟩:=I.tuple hq;have c:=a.length;exact len_tuple b (by simp only[List.size_toArray]<;>lia) ⟨.int ys.length,H,I.tok _,⟨s.toks+1,by rw[QF,c]⟩,q⟩
theorem Wr:YW X (.builtin "len") (fun xs H Q=>∃z,xs=[.str z]∧z.length≤sizeLine∧Q (.int z.length) H):=by intro U s σ H xs us Q I r h;obtain⟨z,rfl,hz,q⟩:=h;obtain⟨u,rfl,t,rfl⟩:=Xt r;have hn:=Vu;exact len_str #[2] ⟨.int z.length,H,I.tok _,⟨_,rfl⟩,q⟩
theorem Zh9:YW X (.type "list") (fun xs H Q=>∃p ys,xs=[.ref p]∧(SqL X.K H p ys∨SqT X.K H p ys)∧∀l,H l=none→Q (.ref l) (upd H l (.lst ys))):=by
 intro U s w H xs us Q I r h;obtain⟨p,ys,rfl,hq,q⟩:=h;obtain⟨u,rfl,x⟩:=Xt r;cases x;have f:∀ (its:List Value),ZH ys its→ys.length≤sizeLine→∀ (a:Heap) (c:Nat),(∀b v,s.heap.get? b=some v→a.get? b=some v) →
   a.get? s.heap.objs.size=some { cls:=.type "list",dict:=none,data:=.seq its.toArray c,slots:=#[] }→EP X U w Q (.ref s.heap.objs.size) { s with heap:=a }:=fun its d g a c i e =>
  ⟨.ref s.heap.objs.size,_,I.laid (t':=s.toks) i (Qg _) (show Z4 X.prog X.w _ a _ (.lst ys) from⟨g,its,c,d,e⟩),rfl,q _ (I.hok.fresh (Qg _))⟩
 rcases hq with hq|hq
 ·obtain⟨its,d,j,g⟩:=I.list hq;have y:=d.length;obtain⟨o,k,m,n,t⟩:=j.isList;exact call_list_seq p #[8] k m t (fun a c i e=>f its d g a c i e) (by simp only[List.size_toArray]<;>lia)
 ·obtain⟨its,d,j,g⟩:=I.tuple hq;have y:=d.length;obtain⟨o,k,m,n,t⟩:=j;exact call_list_seq p (.inr rfl) k m t (fun a c i e=>f its d g a c i e) (by simp only[List.size_toArray]<;>lia)
def tyV(K:#[7])(T:String)(x:V)(H:Hp):Prop:=match x with
 | .str _=>T = "str"
 | .int _=>T = "int"
 | .ref p=>(T = "list"∧∃b,SqL K H p b)∨(T = "tuple"∧∃o,K.lookup p=some o∧o.cls=.type "tuple"∧o.dict=none) ∨
   (T = "dict"∧((∃a,H p=some (.dK a))∨∃a,H p=some (.dT a)))∨(T = "set"∧∃S n,H p=some (.set S n))
 | _=>False
theorem NS{U:List (Addr×Obj)}{j:St}{H:Hp}{s:Shared}{T:String}{x:V}{v:Value}(I:Inv X U j H s)(r:ZI x v)(ty:tyV X.K T x H) :
  s.TypeIs v T∧∀a,v=.ref a→∃ob,s.heap.get? a=some ob∧ob.dict=none:=by
 cases x with
 | str z=>obtain⟨t,rfl⟩:=r;cases (show T = "str" from ty);exact⟨typeIs_str s z t,fun _ e=>nomatch e⟩
 | int i=>obtain⟨t,rfl⟩:=r;cases (show T = "int" from ty);exact⟨typeIs_int s i t,fun _ e=>nomatch e⟩
 | ref p =>
  cases r;rcases ty with⟨rfl,xs,k⟩|⟨rfl,o,b,l,d⟩|⟨rfl,b⟩|⟨rfl,S,n,b⟩
  ·obtain⟨its,_,h,_⟩:=I.list k;refine⟨h.isList.typeIs,fun a e=>?_⟩;cases e;obtain⟨o,n,e,c,d,_⟩:=h;exact⟨o,e,d⟩
  ·refine⟨⟨o,I.kIn p o b,l⟩,fun a e=>?_⟩;cases e;exact⟨o,I.kIn _ o b,d⟩
  ·have z:∃o,s.heap.get? p=some o∧o.ExactDict:=by
    rcases b with⟨f,b⟩|⟨f,b⟩
    ·obtain⟨_,_,_,_,o,_,_,e,ex,_⟩:=I.hok p _ b;exact⟨o,e,ex⟩
    ·obtain⟨_,_,_,_,o,_,_,e,ex,_⟩:=I.hok p _ b;exact⟨o,e,ex⟩
   obtain⟨o,e,ex⟩:=z;refine⟨⟨o,e,ex.1⟩,fun a g=>?_⟩;cases g;exact⟨o,e,ex.2.1⟩
  ·obtain⟨o,_,_,_,e,ex,_⟩:=I.hok p _ b;refine⟨⟨o,e,ex.1⟩,fun a g=>?_⟩;cases g;exact⟨o,e,ex.2.1⟩
 | _=>exact False.elim ty
def Zsu(K:#[7])(T:String)(r:V→List V→Hp→VK→Prop)(to:TE):TE:=fun b H Q=>to b H fun x a=>tyV K T x a∧r x [] a Q
def tBM(K:#[7])(T:String)(r:V→List V→Hp→VK→Prop)(to:TE)(t:TA):TE:=fun a H Q=>to a H fun x b=>tyV K T x b∧t a b fun xs c=>r x xs c Q
variable {o e:Expr} {es:List Expr} {to:TE} {t:TA} {name:Str} {ay aB:Pos} {T id:String} {r:V→List V→Hp→VK→Prop}
theorem ZqI(d:PlainAttrs T)(slot:Slot T name id)(e:typeOf (.builtin id)=pure (.type "method_descriptor"))(hm:MtR X id r)(f:PE X o to)
  (g:attributeBase o name X.env (eval o X.env)=eval o X.env:=by rfl) (i:(ay.endLine == aB.line)=true:=by rfl):PE X (.Call (.Attribute o name ay) [] [] aB) (Zsu X.K T r to):=by
 intro U s a H Q I h;refine wpAny_Call_method0_late g i (thn (f U s a H _ I h) ?_);rintro v j ⟨x,k,b,c,ty,l⟩;obtain⟨m,n⟩:=NS b c ty;exact⟨T,id,d,slot,e,m,n,Calls.callWith_builtin rfl (QaG (hm U j a k x [] v [] Q b c .nil l))⟩
theorem XO(f:PlainAttrs T)(slot:Slot T name id)(g:typeOf (.builtin id)=pure (.type "method_descriptor"))(hm:MtR X id r)(i:PE X o to)(ha:PA X (e::es) t)
  (j:attributeBase o name X.env (eval o X.env)=eval o X.env:=by rfl)
  (k:((backTo aB (starEach (e::es) X.env)).all (fun x=>!x.1)&&(backToKw aB (keywordEach [] X.env)).all (fun x=>x.1.isSome)
   && decide ((e::es).length+([]:List Keyword).length+(if ([]:List Keyword).isEmpty then 0 else 1)<30))=true:=by rfl)
  (l:(ay.endLine == aB.line)=true:=by rfl) (m:starEach (e::es) X.env=(false,eval e X.env)::starEach es X.env:=by rfl) (n:(backTo aB (starEach es X.env)).any (·.1)=false:=by rfl) :
  PE X (.Call (.Attribute o name ay) (e::es) [] aB) (tBM X.K T r to t):=by
 intro U s a H Q I h;refine wpAny_Call_method_late j k l rfl (thn (i U s a H _ I h) ?_);rintro v p ⟨x,q,b,c,ty,u⟩;obtain⟨w,y⟩:=NS b c ty;refine⟨T,id,f,slot,g,w,y,?_⟩;have d:=ha aB U p a q _ b u;rw[m]at d ⊢;refine Calls.callWith_builtin (by show (false||(backTo aB (starEach es X.env)).any (·.1))=false;rw[n]<;>rfl) (Calls.evalArgs_plain ?_);exact thn d fun z A ⟨B,C,D,E,F⟩=>hm U A a C x B v z Q D c E F
end
def MtM(X:Cx)(id:String)(r:V→List V→Hp→VK→Prop):Prop :=
 ∀ (U:List (Addr×Obj)) (s:Shared) (a:St) (H:Hp) (x:V) (b:List V) (v:Value) (c:List Value) (Q:VK),Inv X U a H s→ZI x v→ZH b c→r x b H Q →
  #[9,X] (call (.builtin id) (v::c)) (EP X U a Q) X.xe s
theorem ZH.one:∀ {x:V} {us:List Value},ZH [x] us→∃u,us=[u]∧ZI x u
 | _,_,.cons r .nil=>⟨_,rfl,r⟩
theorem ZH.two:∀ {x y:V} {us:List Value},ZH [x,y] us→∃u v,us=[u,v]∧ZI x u∧ZI y v
 | _,_,_,.cons r (.cons q .nil)=>⟨_,_,rfl,r,q⟩
theorem ZH.zero:∀ {us:List Value},ZH [] us→us=[]
 | _,.nil=>rfl
theorem ZH.reverse{xs:List V}{us:List Value}(h:ZH xs us):ZH xs.reverse us.reverse:=by
 induction h with
 | nil=>exact .nil
 | cons r t a=>rw[QaA,QaA];exact ZH.append a (.cons r .nil)
section
variable {X:Cx} {U:List (Addr×Obj)} {σ:St} {H:Hp} {s:Shared} {l b:Addr} {xs ys zs:List V}
theorem Inv.lset{its its':List Value}{n:Nat}{f:Array Value→Array Value}{t':Nat}(I:Inv X U σ H s)(a:H l=some (.lst xs))
  (e:s.heap.get? l=some { cls:=.type "list",data:=.seq its.toArray n }) (b:f its.toArray=its'.toArray) (c:ZH ys its') (d:ys.length≤sizeLine) :
  Inv X U σ (upd H l (.lst ys)) { s with heap:=s.heap.update l (Obj.mapSeq f),toks:=t' }:=by
 have q:=PySem.IsL.update e f;rw[b]at q;refine I.write (x:=l) (e:=l) (by rw[a];exact trivial) #[8] (fun b' u g h=>(Q6 s.heap (Obj.mapSeq f) (Ne.symm g)).trans h) ⟨_,q⟩ ?_;exact⟨d,its',_,c,q⟩
theorem Inv.lnew{its:List Value}{t':Nat}(I:Inv X U σ H s)(a:ZH ys its)(b:ys.length≤sizeLine) :
  Inv X U σ (upd H s.heap.objs.size (.lst ys)) { s with heap:=s.heap.push { cls:=.type "list",data:=.seq its.toArray },toks:=t' } :=
 I.laid (fun _ _ q=>Qc _ q) (Qg _) ⟨b,its,0,a,Qm _ rfl⟩
theorem Inv.fresh(I:Inv X U σ H s):H s.heap.objs.size=none:=I.hok.fresh (Qg _)
theorem Inv.lstM(I:Inv X U σ H s)(a:H l=some (.lst xs)):xs.length≤sizeLine∧∃ (its:List Value) (n:Nat),ZH xs its∧xs.length=its.length∧s.heap.get? l=some { cls:=.type "list",data:=.seq its.toArray n }:=by obtain⟨z,its,n,r,e⟩:=I.hok l _ a;exact⟨z,its,n,r,r.length,e⟩
end
section
variable {X:Cx}
inductive RAp (x:V) (vs:List V) (H:Hp) (B:Hp→Prop):Prop where
 | mk (l:Addr) (xs:List V) (y:V) (a:x=.ref l) (b:vs=[y]) (c:H l=some (.lst xs)) (d:xs.length<sizeLine) (q:B (upd H l (.lst (xs++[y]))))
def ZoP:V→List V→Hp→VK→Prop:=fun x vs H Q=>RAp x vs H fun a=>Q .non a
theorem Wq:MtM X "list.append" ZoP:=by intro U s σ H x vs v us Q I b c h;obtain⟨l,xs,y,rfl,rfl,a,hz,q⟩:=h;cases b;obtain⟨u,rfl,d⟩:=c.one;obtain⟨z,its,n,r,hl,e⟩:=I.lstM a;refine call_meets F.slot_list_append ⟨_,e,rfl⟩ F.entry_list_append (F.args_list_append_2 _ _) (PySem.list_append l its.toArray n u (by rw[QF];lia)) ⟨e,?_⟩;refine⟨.non,_,I.lset (its':=its++[u]) a e #[4] (r.append (.cons d .nil)) ?_,rfl,q⟩;rw[Qr,QB];lia
def ZmK:V→List V→Hp→VK→Prop:=fun x vs H Q=>∃l xs,x=.ref l∧vs=[]∧H l=some (.lst xs)∧Q .non (upd H l (.lst xs.reverse))
theorem Zkq:MtM X "list.reverse" ZmK:=by intro U s σ H x vs v us Q I b c h;obtain⟨l,xs,rfl,rfl,a,q⟩:=h;cases b;have d:=c.zero;subst d;obtain⟨z,its,n,r,hl,e⟩:=I.lstM a;refine call_meets F.slot_list_reverse ⟨_,e,rfl⟩ F.entry_list_reverse (F.args_list_reverse_1 _) (AutoSeq1.list_reverse_list_0 l its.toArray n (by rw[QF];lia)) ⟨e,?_⟩;refine⟨.non,_,I.lset (its':=its.reverse) a e #[4] r.reverse ?_,rfl,q⟩;rw[QaH];lia
def ZsD:R2:=fun x y H Q=>∃l b xs zs,x=.ref l∧y=.ref b∧H l=some (.lst xs)∧H b=some (.lst zs)∧xs.length+zs.length≤sizeLine∧∀p,H p=none→Q (.ref p) (upd H p (.lst (xs++zs)))
theorem NR:OpR X (binaryOp .Add) ZsD:=by
 intro U s σ H x y v u Q I c d h;obtain⟨l,b,xs,zs,rfl,rfl,f,g,hz,q⟩:=h;cases c;cases d;obtain⟨z,its,n,r,hl,e⟩:=I.lstM f;obtain⟨z2,a,n2,i,aU,j⟩:=I.lstM g;refine PySem.P.add_list e j ?_ (by rw[QF,QF];lia);have k:its.toArray++a.toArray=(its++a).toArray:=by simp
 rw[k];exact⟨.ref _,_,I.lnew (t':=s.toks) (r.append i) (by rw[Qr];lia),rfl,q _ I.fresh⟩
end
end L2
namespace Att
open PySem PySem.W PySem.Calls PyProof.Rows
theorem ZfR{P:Params}{h:Heap}:∀ (ns:List Int) (vs:List Value),WellAll P h vs (ns.map WData.int)→IntsAre vs ns:=by
 intro ns;induction ns with
 | nil=>intro vs w;rw[QaU]at w;cases w;exact .nil
 | cons n ns c =>
  intro vs w;rw[Qh]at w;cases w with
  | cons a b=>cases a;exact .cons _ _ (c _ b)
theorem ZlF{l:OpenLaw}{n:Nat}(i:l.most=some n){P:Params}{h:Heap}{args:List WData}{e:List Value}
  (f:l.row.toRowW.claim.pre args=true) (j:WellAll P h e args) :
  ∃a vs ns,e=[Value.ref a]∧args=[WData.list (ns.map WData.int)]∧h.get? a=some { cls:=.type "list",data:=.seq vs.toArray }∧IntsAre vs ns∧ns.length≤n:=by
 have k:WShape.hasAll [] args [.list .int]=true:=(pre_splitW f).1;have g:l.pre.holds [] { args:=args }=true:=(pre_splitW f).2;obtain⟨d,r,rfl,m,o⟩:=hasAllW_cons k;obtain rfl:=hasAllW_nil o;obtain⟨xs,rfl,p⟩:=hasW_list m;obtain⟨ns,rfl⟩:=items_int p;have s:ns.length≤n:=by
  unfold OpenLaw.pre at g;have b:(WTm.not (.lt (.lit (.int (n:Int))) (.len (.arg 0)))).holds [] { args:=[.list (ns.map .int)] }=true:=by have b:=(holds_andW g).1;rw[i]at b;exact b
  have c:=condW_of b (w_not (w_lt w_lit (w_len_list (w_arg rfl))));rw[Qa]at c;refine Nat.le_of_not_lt fun q=>?_;have t:(n:Int)<((ns.length:Nat):Int):=by lia
  first
   | (rw[decide_eq_true t]at c;exact absurd c #[6])
   | (simp at c;lia)
 cases j with
 | cons u v =>
  cases v;cases u with
  | list w x=>exact⟨_,_,ns,rfl,rfl,w,ZfR ns _ x,s⟩
theorem Zla(l:OpenLaw)(args:List WData):l.row.toRowW.claim.post args (.bool true) args=true :=
 postW_of (r:=l.row.toRowW) (X:=(true == true))
  (show WShape.has [] (.bool true) .bool=true by first|rfl|decide|simp[WShape.has,WShape.arms,WShape.armsAll])
  (show (WTm.eq .res (.lit (.bool true))).value [] { args:=args,res:=some (.bool true),after:=args }=some (.bool (true == true)) from w_eq_bool (w_res rfl) w_lit) rfl
theorem attach_call{l:OpenLaw}{n:Nat}{q:Program}{j:List Str}{k:(Str→Option Value)→Heap→Prop}{m:World→Heap→Prop}{d:DefRec}
  (s:l.most=some n) (t:d.params.defaults=[])
  (call:∀ (w:World) (s₀ b:Shared) (mg g:Str→Option Value) (fa:Addr) (o:Obj) (h c i:Value) (a:Addr) (vs:List Value) (ns:List Int),
   Ground q j [] k w s₀ mg g b.heap→m w b.heap →
   b.heap.get? fa=some o→o.data=.func (docDef d.name d.params d.body d.scope h c i)→b.heap.CodeRec c d.name→mg d.name=some (.ref fa) →
   b.heap.get? a=some { cls:=.type "list",data:=.seq vs.toArray }→IntsAre vs ns→ns.length≤n→b.gens = #[] →
   codeAny (model l.prog w) callerA (.call (.ref fa) ⟨[.ref a],[]⟩) (fun r e=>r=.ok (.ret (.bool true))∧OldK b.heap e.heap∧e.os=b.os∧AllBare e.gens) b) :
  WalkO q j k m l.row.toRowW d [] (fun f vs=>PySem.call f vs):=by
 intro w s₀ b mg g G Y fa o h c i u kV v x y p hmg z args lY as A CT iz B fu;obtain rfl:u=.none:=Dflts.none p t;obtain rfl:kV=.none:=Dflts.noKw p;obtain⟨a,vs,ns,rfl,rfl,C,D,E⟩:=ZlF s A B;refine enter_call (codeAny_mono (call w s₀ b mg g fa o h c i a vs ns G Y v (fd_plain x) y hmg C D E z) fun r e F=>?_);obtain⟨rfl,H,I,J⟩:=F;exact⟨.inl ⟨.bool true,.bool true,[],rfl,fun _=>rfl,.bool true,Zla l _,fun _=>⟨List.Pairwise.nil,fun _ K=>(nomatch K)⟩⟩,H,I,J⟩
end Att
namespace L2
open PySem PySem.Spec PyProof.Rows
theorem Sd:∀ {vs:List Value} {ns:List Int},IntsAre vs ns→ZH (ns.map V.int) vs
 | _,_,.nil=>.nil
 | _,_,.cons n t h=>.cons ⟨t,rfl⟩ (Sd h)
def Sc(H:Hp):Prop:=∀b,H b=none∨∃o xs,H b=some (.frz o (.lst xs))
theorem Znj{P:Program}{w:World}{K:#[7]}{mg A:Str→Option Value}{CX:CXT}{k:Nat}{fa a:Addr}{D:FuncData}{x:Str}{sp:Sp}{c:Shared}{vs:List Value}{ns:List Int}
  (KX:K.In c.heap) (E:c.heap.Ns mainGlobals mg) (hb:c.heap.Ns builtinsNs A) (Q:∀x:Str,x ≠ "__name__"→A x=bootBuiltins x) (R:c.heap.NoLimit) (S:c.gens = #[])
  (ha:c.heap.get? a=some { cls:=.type "list",data:=.seq vs.toArray }) (G:IntsAre vs ns) (hl:ns.length≤sizeLine) (T:Y4 k callerA)
  (F:∀f:Heap,K.In f→f.Ns mainGlobals mg→YC P w K mg f CX k fa D [x] sp) (U:∀ (s:Shared) (u:Value),BindsTo s D ⟨[u],[]⟩ [(x,u)])
  (W:∀H:Hp,Sc H→SqL K H a (ns.map V.int)→sp [.ref a] H (fun v _=>v=.bl true) fun _ _ _=>False)
  (X:∀H e g,CX [] H c (fun _ _ _=>False) e g→False) :
  codeAny (model P w) callerA (.call (.ref fa) ⟨[.ref a],[]⟩) (fun r g=>r=.ok (.ret (.bool true))∧OldK c.heap g.heap∧g.os=c.os∧AllBare g.gens) c:=by
 have I:=Sd G;have Y:=G.length;have core:∀H:Hp,Sc H→SqL K H a (ns.map V.int)→HOk P w H c.heap→(∀b,H b≠none→b=a)→(H a≠none→K.lookup a=none) →
   codeAny (model P w) callerA (.call (.ref fa) ⟨[.ref a],[]⟩) (fun r g=>r=.ok (.ret (.bool true))∧OldK c.heap g.heap∧g.os=c.os∧AllBare g.gens) c:=by
  intro H J Z i L hK;have M:∀ {b:Addr} {o:Obj},c.heap.get? b=some o→H b=none→(WL c.heap H).get? b=some o:=fun e n=>Zmg e n;have lX:∀ {b:Addr} {o:Obj} {j:Array DictEntry} {l:Nat},c.heap.get? b=some o→o.data=.dict j l→H b=none:=fun {b o j l} e d=>by
   cases q:H b with
   | none=>rfl
   | some u=>have B:b=a:=L b (by rw[q];simp);subst B;rw[ha]at e;cases e;have d':Data.seq vs.toArray _=Data.dict j l:=d;cases d'
  have y:∀ {b:Addr} {m:Str→Option Value},c.heap.Ns b m→(WL c.heap H).Ns b m:=fun {b m} ⟨o,j,l,e,d,r⟩=>⟨o,j,l,M e (lX e d),d,r⟩;have N:K.In (WL c.heap H):=fun b o e=>M (KX b o e) (by
   cases q:H b with
   | none=>rfl
   | some u=>have B:b=a:=L b (by rw[q];simp);subst B;rw[hK (by rw[q];simp)]at e;cases e)
  have hM:Mod K mg (WL c.heap H):=⟨N,y E,⟨A,y hb,Q⟩,let ⟨mc,h1,h2⟩:=R;⟨mc,y h1,h2⟩⟩;have e0:VY P w K mg (WL c.heap H) callerA [] c H:=⟨rfl,hM,fun b o e=>ZoW e,Nat.le_of_eq (ZlM _ _),trivial,fun b hb=>absurd (show b∈([]:List Addr) from hb) #[4],i,.of_eq S⟩;refine codeAny_mono ((F _ N (y E)).run callerA [] c H ⟨[.ref a],[]⟩ [.ref a] [.ref a] _ _ T e0 (U c (.ref a)) (.cons rfl .nil) (W H J Z)) fun r g h=>?_;cases r with
  | error e=>exact(X H e g h).elim
  | ok fl =>
   cases fl with
   | next=>exact False.elim h
   | brk=>exact False.elim h
   | cont=>exact False.elim h
   | ret u =>
    obtain⟨v,H',os,p,un,uH,r',q⟩:=h;have q':v=.bl true:=q;subst q';obtain rfl:u=Value.bool true:=r';refine⟨rfl,OldK.of_keep fun b o e=>?_,os,p⟩;cases q:H b with
    | none=>exact un.keep b o e q (by intro z;exact absurd (show b∈([]:List Addr) from z) #[4]) #[4]
    | some u =>
     rcases J b with z|⟨ob,xs,z⟩
     ·rw[q]at z;cases z
     ·have z2:=un.frzs b ob _ z;obtain⟨O,_⟩:=i b _ z;obtain⟨e2,_⟩:=uH b _ z2;rw[e]at O;cases O;exact e2
 cases C:K.lookup a with
 | some o=>have e:=KX a o C;rw[ha]at e;cases e;refine core (fun _=>none) (fun _=>.inl rfl) (.inr ⟨_,vs.toArray,_,C,rfl,rfl,rfl,by rw[QF,Y];exact hl,by simpa using I⟩) (fun b u z=>by have t:(none:Option HO)=some u:=z;cases t) (fun b z=>absurd rfl z) fun z=>absurd rfl z
 | none =>
  refine core (fun b=>if b=a then some (.frz { cls:=.type "list",data:=.seq vs.toArray } (.lst (ns.map V.int))) else none) (fun b=>?_) (.inl (.inr ⟨{ cls:=.type "list",data:=.seq vs.toArray },if_pos rfl⟩)) (fun b u z=>?_) (fun b z=>?_) fun _=>C
  ·by_cases hb:b=a
   ·exact .inr ⟨_,_,if_pos hb⟩
   ·exact .inl (if_neg hb)
  ·by_cases hb:b=a
   ·have t:=(if_pos hb).symm.trans z;cases t;subst hb;exact⟨ha,by rw[Qa];exact hl,vs,_,I,ha⟩
   ·have t:=(if_neg hb).symm.trans z;cases t
  ·by_cases hb:b=a
   ·exact hb
   ·exact absurd (if_neg hb) z
theorem walk_of{l:PySem.W.OpenLaw}{n k:Nat}{q:Program}{i:List Str}{j:(Str→Option Value)→Heap→Prop}{c:World→Heap→Prop}{d:DefRec}{K:Params→#[7]}{CX:World→CXT}{sp:World→Sp}{x:Str}
  (m:l.most=some n) (p:n≤sizeLine) (r:d.params.defaults=[]) (t:Y4 k callerA)
  (y:∀ (w:World) (h:Heap),c w h→(K w.params).In h)
  (F:∀ (w:World) (mg:Str→Option Value) (fa:Addr) (h:Heap),(K w.params).In h→h.Ns mainGlobals mg→mg d.name=some (.ref fa) →
   ∃b:FuncData,(∀ (s:Shared) (u:Value),BindsTo s b ⟨[u],[]⟩ [(x,u)]) ∧
    ∀base:Heap,(K w.params).In base→base.Ns mainGlobals mg→YC l.prog w (K w.params) mg base (CX w) k fa b [x] (sp w))
  (z:∀ (w:World) (H:Hp) (a:Addr) (ns:List Int),ns.length≤n→Sc H→SqL (K w.params) H a (ns.map V.int)→sp w [.ref a] H (fun v _=>v=.bl true) fun _ _ _=>False)
  (A:∀ (w:World) (H:Hp) (s:Shared) (e:Value) (s':Shared),CX w [] H s (fun _ _ _=>False) e s'→False) :
  PySem.W.WalkO q i j c l.row.toRowW d [] (fun f vs=>PySem.call f vs):=by
 refine Att.attach_call m r fun w s₀ B mg mb fa o pm cd cF a vs ns G Y ho hd dL hmg C D g E=>?_;have KX:=y w _ Y;obtain⟨b,I,J⟩:=F w mg fa _ KX G.T.g hmg;exact Znj KX G.T.g G.T.b G.T.builtins G.T.nolimit E C D (Qw g p) t J I (fun H L M=>z w H a ns g L M) fun H e s'=>A w H B e s'
noncomputable def Yh(s:Stmt)(j:Nat):Stmt:=match s with
 | .ClassDef _ _ _ a _ _ _ _ _ _ _=>a.getD j (.Pass ⟨0,0,0,0⟩)
 | _=>.Pass ⟨0,0,0,0⟩
noncomputable def Zq(s:Stmt):Arguments:=match s with
 | .FunctionDef _ a _ _ _ _ _ _ _ _=>a
 | _=>{ posonlyargs:=[],args:=[],vararg:=none,kwonlyargs:=[],kw_defaults:=[],kwarg:=none,defaults:=[] }
noncomputable def Zm(s:Stmt):List Stmt:=match s with
 | .FunctionDef _ _ b _ _ _ _ _ _ _=>b
 | _=>[]
noncomputable def Zg(s:Stmt):Scope:=match s with
 | .FunctionDef _ _ _ _ _ _ a _ _ _=>a
 | _=>{ kind:=.function,names:=[],isGenerator:=false,isCoroutine:=false }
abbrev CX0:CXT:=fun _ _ _ _ _ _=>False
abbrev E0:XK:=fun _ _ _=>False
theorem TW{X:Cx}:VX CX0 X E0:=fun _ _ _ _ _ _ _ h=>h.elim
structure Fun (K:#[7]) (x ap:Str) (st:Stmt) (f:Addr) (fd:FuncData):Prop where
 ex:∃ (oc:Value) (od:Option Addr) (kV cF pm:Value) (an:Option Addr) (am ct:Value) (iy:Array (Option Value)),
  fd=PySem.W.fnOf x ap (Zq st) (Zm st) (Zg st) .none kV cF pm an am ct∧K.lookup f=some ⟨oc,od,.func fd,iy⟩∧PySem.W.codeIn K am ap=true
 kp:PySem.W.keepIn K (.ref f)=true
section
variable {P:Program} {w:World} {K:#[7]} {mg:Str→Option Value} {base:Heap}
theorem Fun.ok{x b:Str}{st:Stmt}{f:Addr}{c:FuncData}{N ps:List Str}{k:Nat}{sp:Sp}(F:Fun K x b st f c)(S:Zp N ps (Zg st))(len:∀vs H Q E,sp vs H Q E→vs.length=ps.length)
  (d:∀ (a:Value) (A:Around) (outer:List Env) (s:Shared) (H:Hp) (vs:List V) (Q:VK) (E:XK),Y4 k (A.deeper (envOfC b (Zg st) s.heap.objs.size f a))→sp vs H Q E →
   ∃t,PSs (XQ CX0 P w K mg base N b (Zg st) f a A outer s H E).nox (Zm st) t∧t { nx:=fun _ e=>Q .non e,rt:=Q } (Xs N vs) H):YC P w K mg base CX0 (k+1) f c ps sp:=by
 obtain⟨oc,od,kV,cF,pm,an,a,ct,iy,rfl,lk,g⟩:=F.ex;refine N2 lk g S len fun A outer s H vs Q E i j=>?_;obtain⟨t,h,q⟩:=d a A outer s H vs Q E i j;exact⟨t,h.nox,q⟩
theorem Fun.binds{x e:Str}{st:Stmt}{f:Addr}{g:FuncData}{ps:List Str}(F:Fun K x e st f g)
  (h:∀ (kV a b:Value) (c:Option Addr) (d ct:Value) (us:List Value),us.length=ps.length→bindArgs (PySem.W.fnOf x e (Zq st) (Zm st) (Zg st) .none kV a b c d ct) ⟨us,[]⟩=pure (ps.zip us)):Ys K g ps []:=by
 obtain⟨oc,od,kV,a,b,c,d,ct,iy,rfl,lk,dL⟩:=F.ex;exact .all (h kV a b c d ct)
theorem ZK{x a:Str}{st:Stmt}{f:Addr}{h:Value}{od d:Option Addr}{i:Array (Option Value)}{kV e g b ct:Value}(l:K.lookup f=some ⟨h,od,.func (PySem.W.fnOf x a (Zq st) (Zm st) (Zg st) .none kV e g d b ct),i⟩)
  (c:PySem.W.codeIn K b a=true) (k:PySem.W.keepIn K (.ref f)=true):Fun K x a st f (PySem.W.fnOf x a (Zq st) (Zm st) (Zg st) .none kV e g d b ct):=⟨⟨h,od,kV,e,g,d,b,ct,i,rfl,l,c⟩,k⟩
end
theorem TV{A:Around}{k:Nat}(a:Y4 k A):A.units+1<cLine:=Nat.lt_of_le_of_lt (Nat.add_le_add_left (by decide:1≤64) _) a.units
theorem ZB{n:Nat}(h:n≤1000):n<sizeLine:=Nat.lt_of_le_of_lt h #[6]
section
variable {X:Cx}
theorem pv(i:Nat){x:Str}{pos:Pos}(a:X.N[i]? = some x:=by rfl)(b:Vis X.env.scope x:=by first|exact Or.inl rfl|exact Or.inr #[3]|exact Or.inr (Or.inr rfl))(hd:(x == ("__debug__" : Str))=false:=by decide)
  (c:(x == ("__classdict__" : Str))=false:=by decide):PE X (.Name x pos) (T3 i):=Su a b hd c
end
theorem YY{A B:Prop}(h:B):if false=true then A else B:=by rw[if_neg Qq];exact h
theorem Xz{A B:Prop}(h:A):if true=true then A else B:=by rw[if_pos rfl];exact h
theorem YX{c A B:Prop}[Decidable c](h1:c→A)(h2:¬ c→B):if c then A else B:=by
 by_cases h:c
 ·rw[if_pos h];exact h1 h
 ·rw[if_neg h];exact h2 h
theorem WZ{c A B:Prop}[Decidable c](hc:c)(h:B):if (!decide c)=true then A else B:=by rw[decide_eq_true hc];exact YY h
def ZG(H a:Hp):Prop:=∀b o,H b=some o→a b=some o
theorem ZG.refl(H:Hp):ZG H H:=fun _ _ h=>h
theorem ZG.trans{H d e:Hp}(a:ZG H d)(b:ZG d e):ZG H e:=fun c o h=>b c o (a c o h)
theorem ZG.free{H a:Hp}(e:ZG H a){l:Addr}(h:a l=Option.none):H l=Option.none:=by
 cases q:H l with
 | none=>rfl
 | some o=>rw[e l o q]at h;cases h
theorem ZG.seq{K:#[7]}{H b:Hp}{a:Addr}{xs:List V}(e:ZG H b)(h:SqL K H a xs):SqL K b a xs:=by
 rcases h with(h|⟨o,h⟩)|h
 ·exact .inl (.inl (e _ _ h))
 ·exact .inl (.inr ⟨o,e _ _ h⟩)
 ·exact .inr h
noncomputable def Y1(b:List (Str×Addr)):List (Str×NameKind)→List (Str×Addr)→List (Str×Addr)
 | [],a=>a
 | (n,k)::r,a=>if k == .free then Y1 b r ((n,(b.lookup n).getD 0)::a) else Y1 b r a
theorem Zg2{d:Scope}{env:Env}(h:∀y∈d.names,y.2=.free→∃c,env.cells.lookup y.1=some c) :
  closureFor d env=pure (Y1 env.cells d.names []):=by
 have go:∀ (a:List (Str×NameKind)) (b:List (Str×Addr)),(∀y∈a,y.2=.free→∃c,env.cells.lookup y.1=some c) →
   (forIn a b fun (x:Str×NameKind) (r:List (Str×Addr))=>if (x.2 == NameKind.free)=true then (do let c ← cellOf env x.1;pure (ForInStep.yield ((x.1,c)::r))) else pure (ForInStep.yield r):Sem (List (Str×Addr)))=pure (Y1 env.cells a b):=by
  intro a;induction a with
  | nil=>intro b _;rfl
  | cons y r j =>
   intro b f;obtain⟨n,k⟩:=y;rw[List.forIn_cons];cases e:(k == NameKind.free) with
   | false =>
    have g:Y1 env.cells ((n,k)::r) b=Y1 env.cells r b:=by show (if (k == NameKind.free)=true then _ else _)=_;rw[e];rfl
    rw[g,← j b fun z i=>f z (Qx _ i)];simp only[e,Bool.false_eq_true,if_false,pure_bind]
   | true =>
    have m:k=.free:=by simpa using e
    obtain⟨c,l⟩:=f (n,k) Q3 m;have g:Y1 env.cells ((n,k)::r) b=Y1 env.cells r ((n,c)::b):=by show (if (k == NameKind.free)=true then _ else _)=_;rw[e,l];rfl
    have o:cellOf env n=pure c:=by unfold cellOf;rw[l]
    rw[g,← j ((n,c)::b) fun z i=>f z (Qx _ i)];simp only[e,if_true,o,pure_bind]
 have q:=go d.names [] h;unfold closureFor;first
  | (rw[show (forIn d.names ([]:List (Str×Addr)) _:Sem (List (Str×Addr)))=pure (Y1 env.cells d.names []) from q];rfl)
  | (simp only[bind_pure];exact q)
  | exact q
theorem Sb(a:List (Str×Addr)):∀ (names:List (Str×NameKind)) (b:List (Str×Addr)) (x:Str) (c:Addr),(Y1 a names b).lookup x=some c →
  (∃y∈names,y.1=x∧y.2=.free∧c=(a.lookup x).getD 0)∨b.lookup x=some c
 | [],b,x,c,h=>.inr h
 | (n,k)::r,b,x,c,h=>by
  by_cases hk:(k == NameKind.free)=true
  ·have e:Y1 a ((n,k)::r) b=Y1 a r ((n,(a.lookup n).getD 0)::b):=by show (if (k == NameKind.free)=true then _ else _)=_;rw[if_pos hk]
   rw[e]at h;rcases Sb a r _ x c h with⟨y,d,q⟩|q
   ·exact .inl ⟨y,Qx _ d,q⟩
   ·rw[QaD]at q;by_cases f:(x == n)=true
    ·rw[f]at q;have g:x=n:=by simpa using f
     subst g;exact .inl ⟨(x,k),Q3,rfl,by simpa using hk,(Qj q).symm⟩
    ·have g:(x == n)=false:=by simpa using f
     rw[g]at q;exact .inr q
  ·have e:Y1 a ((n,k)::r) b=Y1 a r b:=by show (if (k == NameKind.free)=true then _ else _)=_;rw[if_neg hk]
   rw[e]at h;rcases Sb a r _ x c h with⟨y,d,q⟩|q
   ·exact .inl ⟨y,Qx _ d,q⟩
   ·exact .inr q
theorem Sa(a:List (Str×Addr)):∀ (names:List (Str×NameKind)) (b:List (Str×Addr)) (x:Str),((∃y∈names,y.1=x∧y.2=.free)∨∃c,b.lookup x=some c) →
  ∃c,(Y1 a names b).lookup x=some c
 | [],b,x,h=>by
  rcases h with⟨y,hy,_⟩|h
  ·cases hy
  ·exact h
 | (n,k)::r,b,x,h=>by
  by_cases hk:(k == NameKind.free)=true
  ·have e:Y1 a ((n,k)::r) b=Y1 a r ((n,(a.lookup n).getD 0)::b):=by show (if (k == NameKind.free)=true then _ else _)=_;rw[if_pos hk]
   rw[e];refine Sa a r _ x ?_;by_cases d:(x == n)=true
   ·exact .inr ⟨_,by rw[QaD,d]⟩
   ·have f:(x == n)=false:=by simpa using d
    rcases h with⟨y,hy,q⟩|⟨c,q⟩
    ·rcases QM.mp hy with rfl|hy
     ·exact absurd (by simpa using q.1.symm) d
     ·exact .inl ⟨y,hy,q⟩
    ·exact .inr ⟨c,by rw[QaD,f];exact q⟩
  ·have e:Y1 a ((n,k)::r) b=Y1 a r b:=by show (if (k == NameKind.free)=true then _ else _)=_;rw[if_neg hk]
   rw[e];refine Sa a r _ x ?_;rcases h with⟨y,hy,q⟩|h
   ·rcases QM.mp hy with rfl|hy
    ·exact absurd (by simpa using q.2) hk
    ·exact .inl ⟨y,hy,q⟩
   ·exact .inr h
structure YH (N N':List Str) (o c:Scope):Prop where
 kind:c.kind=.function
 okind:o.kind=.function
 nocell:∀y∈c.names,y.2≠.cell
 loc:∀y∈c.names,y.2=.local→c.names.lookup y.1=some .local
 free:∀y∈c.names,y.2=.free→c.names.lookup y.1=some .free∧(o.names.lookup y.1=some .cell∨o.names.lookup y.1=some .free)
 len:N.length≤N'.length
 same:∀i∈List.range N.length,∀x∈N'[i]?,c.names.lookup x=some .local∨c.names.lookup x=some .free→c.names.lookup x=some .free∧N[i]? = some x
 nd:N'.Nodup
noncomputable def Yf(X:Cx)(c:Scope)(a:List Str)(C:Addr)(s:Shared)(H:Hp)(fp:List Addr):Cx :=
 { X with N:=a,s₀:=s,H₀:=H,env:=compEnvC c (Y1 X.env.cells c.names []) C X.env,outer:=X.stack,stack:=X.stack,ex:=fp,fn:=fun _=>false,pn:=[],xe:=fun _ _=>False }
theorem NQ{env:Env}(c:env.scope.kind=.function):∀ (names:List (Str×NameKind)) (x:Str),
  (names.map fun (p:Str×NameKind)=>if (p.2 == NameKind.free&&env.scope.kind == .function&&env.kindOf p.1 == some .cell)=true then (p.1,NameKind.cell) else (p.1,p.2)).lookup x =
   match names.lookup x with
   | some .free=>if env.kindOf x=some .cell then some .cell else some .free
   | k=>k
 | [],x=>rfl
 | (n,k)::r,x=>by
  have g:=NQ c r x;rw[Qh];by_cases f:(x == n)=true
  ·have a:x=n:=by simpa using f
   subst a;have d:List.lookup x ((x,k)::r)=some k:=by rw[QaD];simp
   rw[d];by_cases e:k=.free
   ·subst e;by_cases b:env.kindOf x=some .cell
    ·simp[List.lookup_cons,c,b]
    ·simp[List.lookup_cons,c,b]
   ·have h:(k == NameKind.free)=false:=by simpa using e
    rw[h];simp only[Bool.false_and,Bool.false_eq_true,if_false,List.lookup_cons,beq_self_eq_true];all_goals (cases k<;>first|rfl|exact absurd rfl e)
  ·have a:(x == n)=false:=by simpa using f
   have d:List.lookup x ((n,k)::r)=List.lookup x r:=by rw[QaD,a]
   rw[d,← g];by_cases b:(k == NameKind.free&&env.scope.kind == .function&&env.kindOf n == some .cell)=true
   ·simp only[b,if_true,List.lookup_cons,a]
   ·simp only[b,if_false,List.lookup_cons,a,Bool.false_eq_true]
section
variable {X:Cx} {N N':List Str} {o c:Scope}
theorem UO(S:YH N N' o c)(a:X.env.scope=o)(b:List (Str×Addr))(C:Addr)(x:Str):(compEnvC c b C X.env).kindOf x =
  match c.names.lookup x with
  | some .free=>if X.env.kindOf x=some .cell then some .cell else some .free
  | k=>k:=NQ (env:=X.env) (by rw[a];exact S.okind) c.names x
theorem TU{names:List (Str×NameKind)}{x:Str}{k:NameKind}(h:names.lookup x=some k):(x,k)∈names:=Qae h
theorem Vr(S:YH N N' o c)(g:X.env.scope=o)(ok:X.Ok){x:Str}{a:Addr}(h:(Y1 X.env.cells c.names []).lookup x=some a) :
  X.env.cells.lookup x=some a∧c.names.lookup x=some .free:=by
 rcases Sb _ _ _ _ _ h with⟨y,i,rfl,j,e⟩|q
 ·have d:=S.free y i j;have k:X.env.kindOf y.1=some .cell∨X.env.kindOf y.1=some .free:=by show X.env.scope.names.lookup y.1=_∨X.env.scope.names.lookup y.1=_;rw[g];exact d.2
  obtain⟨b,f⟩:=ok.has y.1 k;rw[f]at e;exact⟨by rw[f,e];rfl,d.1⟩
 ·cases q
theorem NP(S:YH N N' o c)(d:X.env.scope=o)(ok:X.Ok){x:Str}(h:c.names.lookup x=some .free):∃a,(Y1 X.env.cells c.names []).lookup x=some a∧X.env.cells.lookup x=some a:=by obtain⟨a,b⟩:=Sa X.env.cells c.names [] x (.inl ⟨(x,.free),TU h,rfl,rfl⟩);exact⟨a,b,(Vr S d ok b).1⟩
theorem Zpv(S:YH N N' o c)(f:X.env.scope=o){U:List (Addr×Obj)}{m:St}{H:Hp}{s:Shared}{fp:List Addr}(I:Inv X U m H s)
  (i:∀b∈fp,Xm X U H b) (n:∀b∈fp,b<s.heap.objs.size):(Yf X c N' s.heap.objs.size s H fp).Ok where
 mod:=I.ok.mod
 kind:=S.kind
 glob:=I.ok.glob
 blt:=I.ok.blt
 above:=Qg _
 inj:=fun x y a p r=>I.ok.inj x y a (Vr S f I.ok p).1 (Vr S f I.ok r).1
 has:=fun x t=>by
  have e:=UO (X:=X) S f (Y1 X.env.cells c.names []) s.heap.objs.size x;have g:(compEnvC c (Y1 X.env.cells c.names []) s.heap.objs.size X.env).kindOf x=some .cell∨(compEnvC c (Y1 X.env.cells c.names []) s.heap.objs.size X.env).kindOf x=some .free:=t;rw[e]at g;cases q:c.names.lookup x with
  | none=>rw[q]at g;rcases g with z|z<;>cases z
  | some k =>
   by_cases l:k=.free
   ·subst l;obtain⟨a,u,_⟩:=NP S f I.ok q;exact⟨a,u⟩
   ·rw[q]at g;have v:k=.cell:=by cases k<;>first|rfl|exact absurd rfl l|(rcases g with z|z<;>cases z)
    subst v;exact absurd rfl (S.nocell _ (TU q))
 cab:=fun x a h=>by cases (show false=true from h)
 hd:=I.ok.hd
 frames:=I.ok.frames
 stk:=.inl rfl
 exf:=fun b d=>⟨Qz (n b d),fun x a h=>(i b d).2.2.2.2.1 x a (Vr S f I.ok h).1⟩
 bs:=fun b j e=>I.bs b j e
 bsz:=Qw I.ok.bsz I.sz
 noex:=fun b j e d=>by
  rcases(i b d).2.2.2.1 with z|z
  ·exact I.ok.noex b j e z
  ·exact absurd (Qt (Qi e) (Qw I.ok.bsz z)) (Qab _)
 exfs:=fun b d w=>by
  rcases QM.mp (I.stkSub b w) with z|z
  ·exact(i b d).2.1 z
  ·exact(i b d).2.2.1 z
 funs:=I.stack
 frf:=I.stkFree
theorem ZmW(S:YH N N' o c)(t:X.N=N)(g:X.env.scope=o){U:List (Addr×Obj)}{f:St}{H:Hp}{s:Shared}{fp:List Addr}{w:Heap}{tk:Nat}{B:Str→Option Value}(I:Inv X U f H s)
  (D:∀b∈fp,Xm X U H b) (E:∀b∈fp,b<s.heap.objs.size) (F:w.Ns s.heap.objs.size B) (hk:∀b ob,s.heap.get? b=some ob→w.get? b=some ob) :
  Inv (Yf X c N' s.heap.objs.size s H fp) [] (f++List.replicate (N'.length-N.length) none) H { s with heap:=w,toks:=tk } where
 ok:=Zpv S g I D E
 os:=rfl
 bare:=I.bare
 base:=Un.kept hk
 loc:=by
  refine⟨B,F,fun i x v G j J=>?_⟩;obtain⟨m,hn,K⟩:=I.loc;have L:f.length=N.length:=by rw[I.len,t]
  have y:i<f.length:=by
   by_cases y:i<f.length
   ·exact y
   ·rw[QK #[2],List.getElem?_replicate]at j;split at j<;>cases j
  have M:f[i]? = some (some v):=by rw[QO y]at j;exact j
  have C:=UO (X:=X) S g (Y1 X.env.cells c.names []) s.heap.objs.size x;have O:c.names.lookup x=some .local∨c.names.lookup x=some .free:=by
   have n:(compEnvC c (Y1 X.env.cells c.names []) s.heap.objs.size X.env).kindOf x=some .local∨(compEnvC c (Y1 X.env.cells c.names []) s.heap.objs.size X.env).kindOf x=some .cell∨(compEnvC c (Y1 X.env.cells c.names []) s.heap.objs.size X.env).kindOf x=some .free:=J;rw[C]at n;cases q:c.names.lookup x with
   | none=>rw[q]at n;rcases n with z|z|z<;>cases z
   | some k =>
    cases k with
    | «local»=>exact .inl rfl
    | free=>exact .inr rfl
    | cell=>exact absurd rfl (S.nocell _ (TU q))
    | _=>rw[q]at n;rcases n with z|z|z<;>cases z
  obtain⟨A,P⟩:=S.same i (Qak.mpr #[2]) x (by rw[show N'[i]? = some x from G];rfl) O;have hok:X.env.kindOf x=some .cell∨X.env.kindOf x=some .free:=by show X.env.scope.names.lookup x=_∨X.env.scope.names.lookup x=_;rw[g];exact(S.free _ (TU A) rfl).2
  obtain⟨u,r,l⟩:=K i x v (by rw[t];exact P) M (.inr hok);refine⟨u,r,.inr ⟨?_,?_⟩⟩
  ·show (compEnvC c (Y1 X.env.cells c.names []) s.heap.objs.size X.env).kindOf x=some .cell∨(compEnvC c (Y1 X.env.cells c.names []) s.heap.objs.size X.env).kindOf x=some .free;rw[C,A];show (if X.env.kindOf x=some .cell then some NameKind.cell else some NameKind.free)=some .cell∨(if X.env.kindOf x=some .cell then some NameKind.cell else some NameKind.free)=some .free;by_cases q:X.env.kindOf x=some .cell
   ·rw[if_pos q];exact .inl rfl
   ·rw[if_neg q];exact .inr rfl
  ·obtain⟨a,Q,R⟩:=NP S g I.ok A;refine⟨a,Q,?_⟩;rcases l with⟨z,_⟩|⟨_,a',e,ob,T,V⟩
   ·rcases hok with q|q<;>rw[q]at z<;>cases z
   ·rw[R]at e;cases e;exact⟨ob,hk _ _ T,V⟩
 cell:=fun x a h=>by obtain⟨v,ob,e,d⟩:=I.cell x a (Vr S g I.ok h).1;exact⟨v,ob,hk _ _ e,d⟩
 free:=I.hok.fresh (Qg _)
 freeC:=fun x a h=>I.freeC x a (Vr S g I.ok h).1
 pin:=fun p W=>absurd (show p∈([]:List (Addr×Obj)) from W) #[4]
 hok:=I.hok.kept hk
 len:=by
  have L:f.length=N.length:=by rw[I.len,t]
  have:=S.len;show (f++List.replicate (N'.length-N.length) none).length=N'.length;rw[Qr,Qam];lia
end
noncomputable abbrev NO(a:List Expr)(env:Env):Sem Bool :=
 forIn a true fun k r=>if r=true then do let ok ← isTrue k env (eval k env);pure (ForInStep.yield ok) else pure (ForInStep.yield r)
def PTs(X:Cx)(b:List Expr)(t:TT):Prop :=
 ∀ (U:List (Addr×Obj)) (s:Shared) (a:St) (H:Hp) (Q:Bool→Hp→Prop),Inv X U a H s→t a H Q→#[9,X] (NO b X.env) (TP X U a Q) X.xe s
def VS:TT:=fun _ H Q=>Q true H
theorem Wp{X:Cx}:PTs X [] VS:=fun _ _ _ H _ I h=>wpAny_tests_nil ⟨H,I,h⟩
theorem Zon{X:Cx}{e:Expr}{t:TT}(h:PT X e t):PTs X [e] t:=fun U s a H Q I q=>wpAny_tests_one (h U s a H Q I q)
section
variable {prog:Program} {w:World} {A:Around} {R:Result→Shared→Prop} {s:Shared}
theorem Zig{c b iter:Expr}{d:List Expr}{k:Scope}{pos:Pos}{it f:Value}{env:Env}{E:Value→Shared→Prop}(I:Nat→Shared→Prop)
  (B:∀e s',E e s'→False)
  (turn:∀n s,I n s→wpAny (model prog w) A (pyNext it) (fun r g=>match r with
   | none=>R (.ok .next) g
   | some v=>wpAny (model prog w) A (letOwnedTupleGo b it v) (fun _ s₀=>wpAny (model prog w) A (assign b env v) (fun _ l =>
     wpAny (model prog w) A (NO d env) (fun ok i =>
      if ok=true then wpAny (model prog w) A (eval c env) (fun x o =>
       wpAny (model prog w) A (call (.builtin "list.append") [f,x]) (fun _ p=>∃m,m<n∧I m p) E o) E i
      else ∃m,m<n∧I m i) E l) E s₀) E g) E s)
  (n:Nat) (h:I n s):codeAny (model prog w) A (.compLoop (.ListComp c [⟨b,iter,d,0⟩] k pos) 0 it f env) R s:=by
 have go:∀ {j:Type} {t:Sem j} {Q:j→Shared→Prop} {s:Shared},wpAny (model prog w) A t Q E s→wpAny (model prog w) A t Q (notedBy (model prog w) A env fun e s'=>R (.error e) s') s :=
  fun {j t Q s} q=>wpAny_mono q (fun _ _ z=>z) fun e s' z=>(B e s' z).elim
 refine codeAny_loop rfl I (fun n s C=>?_) n h;show wpAny _ A ((compTurn (.ListComp c [⟨b,iter,d,0⟩] k pos) 0 it f env).onRaise (fun x=>do noteFrame x env;theTreesLotGoes x)) _ _ s;refine wpAny_noted ?_;rw[compTurn_list];refine wpAny_bind (wpAny_standAt (wpAny_bind (thn (go (turn n s C)) fun r g u=>?_)));cases r with
 | none=>exact wpAny_pure u
 | some v =>
  refine wpAny_bind (thn (go u) fun _ s₀ a=>wpAny_bind (thn (go a) fun _ l D=>wpAny_bind (thn (go D) fun ok i y=>?_)));cases ok with
  | false=>exact wpAny_pure ⟨rfl,y⟩
  | true=>exact wpAny_bind (wpAny_bind (thn (go y) fun x o F=>wpAny_bind (thn (go F) fun _ p G=>wpAny_pure (wpAny_pure ⟨rfl,G⟩))))
end
def Wo(J:It)(D:Addr)(k:Nat)(q:St)(r:Hp)(g:TG)(s:TT)(t:TE)(Q:VK):Prop :=
 ∃W:Nat→Nat→List V→St→Hp→Prop,(∃m,W 0 m [] (q++List.replicate k none) (upd r D (.lst []))) ∧
  ∀i m a e c,W i m a e c→(J.stop i c∧Q (.ref D) c) ∨
   (J.go i c∧∃N:List V→St→Hp→Prop,(∀f h j,N f h j→∃l,l<m∧W (i+1) l f h j)∧∀x n,J.yld i c x n→g x e n fun d u=>s d u fun b o =>
    if b=true then t d o fun y p=>p D=some (.lst a)∧a.length<sizeLine∧N (a++[y]) d (upd p D (.lst (a++[y]))) else N a d o)
def R9(n:Nat)(c:TI)(g:TG)(d:TT)(e:TE):TE:=fun a H Q=>c a H fun J b=>∀D,b D=none→Wo J D n a b g d e Q
section
variable {X:Cx} {N N':List Str} {o c:Scope}
theorem NN{ed tg iter:Expr}{cU:List Expr}{pos bU:Pos}{wi:TI}{g:TG}{tc:TT}{te:TE}{use:Option (Value→Sem Unit)}{QQ:Value→Shared→Prop}(S:YH N N' o c)(hN:X.N=N)(ho:X.env.scope=o)(hc:X.calm=true)
  (hi:PI X tg iter wi) (hg:∀C s H fp,PG (Yf X c N' C s H fp) tg g) (ht:∀C s H fp,PTs (Yf X c N' C s H fp) cU tc) (he:∀C s H fp,PE (Yf X c N' C s H fp) ed te)
  (hs:∀x,foldedSetIterable iter X.env x=pure x) {U:List (Addr×Obj)} {s:Shared} {σ:St} {H:Hp} {Q:VK} (I:Inv X U σ H s) (h:R9 (N'.length-N.length) wi g tc te σ H Q)
  (post:∀ (D C:Addr) (t:Shared) (l:Hp) (m:Str→Option Value),Inv X U σ l t→l C=none→t.heap.Ns C m→C≠X.env.locals→X.s₀.heap.objs.size≤C→(∀x a,X.env.cells.lookup x=some a→a≠C)→(∀p∈X.pn++U,p.1≠C) →
   Q (.ref D) l→compPost (model X.prog X.w) X.A X.xe use QQ (.ref D) C (.ok .next) t) :
  #[9,X] (comprehension (.ListComp ed [⟨tg,iter,cU,0⟩] c pos) c X.env bU (newList []) false (eval iter X.env) use) QQ X.xe s:=by
 have rp:closureFor c X.env=pure (Y1 X.env.cells c.names []):=Zg2 fun y hy hf=>by refine I.ok.has y.1 ?_;show X.env.scope.names.lookup y.1=_∨X.env.scope.names.lookup y.1=_;rw[ho];exact(S.free y hy hf).2
 refine wpAny_comprehension_free (use:=use) rfl hs rp S.kind S.loc (thn (hi U s σ H _ I h) fun v s1 h1=>thn h1 fun qW f h2=>?_);obtain⟨it,fp,tn,J,G,e,I2,T,oF,f2,hR⟩:=h2;subst e;have hD:G f.heap.objs.size=none:=I2.fresh;have M:Inv X U σ (upd G f.heap.objs.size (.lst [])) { f with heap:=f.heap.push { cls:=.type "list",data:=.seq ([]:List Value).toArray } } :=
  I2.lnew (ys:=[]) (its:=[]) (t':=f.toks) .nil (Qs _)
 have uJ:∀b∈fp,b<f.heap.objs.size:=fun b k=>by obtain⟨A,e,_⟩:=T.obj 0 _ oF b k;exact Qi e
 refine wpAny_newObj_type (wpAny_newFunctionEnv S.nocell (by intro y hy;simp at hy) (fun K oK oM=>?_) S.kind);have O:∃j:Shared,j={ f with heap:=f.heap.push { cls:=.type "list",data:=.seq ([]:List Value).toArray } }:=⟨_,rfl⟩;obtain⟨j,rq⟩:=O;have O:j.heap=f.heap.push { cls:=.type "list",data:=.seq ([]:List Value).toArray }:=by rw[rq]
 have kQ:j.heap.objs.size=f.heap.objs.size+1:=by rw[O,QX]
 have uK:∀b∈fp,b<j.heap.objs.size:=fun b k=>Qt (uJ b k) (by rw[kQ];exact Qaj _);have f3:∀b∈fp,Xm X U (upd G f.heap.objs.size (.lst [])) b:=fun b k=>⟨by rw[Zb (Qz (uJ b k))];exact(f2 b k).1,(f2 b k).2⟩;have oG:tn 0 j.heap:=T.keep 0 _ _ oF fun b _ A e=>by rw[O];exact Qc _ e
 rw[← rq]at M;show codeAny (model X.prog X.w) X.A (.compStart _ 0 (.ref it) (.ref f.heap.objs.size) (compEnvC c (Y1 X.env.cells c.names []) (f.heap.push { cls:=.type "list",data:=.seq ([]:List Value).toArray }).objs.size X.env))
  (compPost (model X.prog X.w) X.A X.xe use QQ (.ref f.heap.objs.size) (f.heap.push { cls:=.type "list",data:=.seq ([]:List Value).toArray }).objs.size)
  { f with heap:=K,toks:=f.toks+([]:List (Str×Value)).length }
 have cT:K.Ns j.heap.objs.size (fun x=>([]:List (Str×Value)).reverse.lookup x):=by rw[O];exact oK
 have uL:∀b A,j.heap.get? b=some A→K.get? b=some A:=fun b A e=>by rw[O]at e;exact oM.extBut b A (Qz (Qi e)) (Qc _ e)
 rw[← O];have zp:({ f with heap:=K,toks:=f.toks+([]:List (Str×Value)).length }:Shared)={ j with heap:=K,toks:=f.toks }:=by rw[rq];rfl
 rw[zp];obtain⟨W,⟨m0,w0⟩,turn⟩:=hR f.heap.objs.size hD;have I4:=ZmW (tk:=f.toks) S hN ho M f3 uK cT uL;have uM:tn 0 K:=T.keep 0 _ _ oG fun b _ A e=>uL b A e;generalize w:Yf X c N' j.heap.objs.size j (upd G f.heap.objs.size (.lst [])) fp=Y at I4;have P:Y.prog=X.prog:=by rw[← w];rfl
 have R:Y.w=X.w:=by rw[← w];rfl
 have YK:Y.K=X.K:=by rw[← w];rfl
 have Yc:Y.calm=true:=by rw[← w];exact hc
 have YA:Y.A=X.A:=by rw[← w];rfl
 have qc:Y.env=compEnvC c (Y1 X.env.cells c.names []) j.heap.objs.size X.env:=by rw[← w];rfl
 have Yl:Y.env.locals=j.heap.objs.size:=by rw[qc];rfl
 have oN:Y.xe=fun _ _=>False:=by rw[← w];rfl
 have uN:=hg j.heap.objs.size j (upd G f.heap.objs.size (.lst [])) fp;have bY:=ht j.heap.objs.size j (upd G f.heap.objs.size (.lst [])) fp;have ba:=he j.heap.objs.size j (upd G f.heap.objs.size (.lst [])) fp;rw[w]at uN bY ba;have gp:∀ {B:Hp},(∀b∈fp,B b=none)→∀b∈fp,Xm Y [] B b:=fun {B} hn b k=>by
  obtain⟨_,q1,q2,q3,q4,_⟩:=f3 b k;have z1:=I4.ok.exf b (by rw[← w];exact k);refine⟨hn b k,z1.1,I4.ok.exfs b (by rw[← w];exact k),.inl (by rw[← w];exact k),z1.2,fun p hp=>?_⟩;have cV:p∈([]:List (Addr×Obj)):=by
   have:Y.pn=[]:=by rw[← w];rfl
   rw[this]at hp;exact hp
  cases cV
 have fin:∀ (t:Shared) (L:St) (l:Hp),Inv Y [] L l t→Q (.ref f.heap.objs.size) l→compPost (model X.prog X.w) X.A X.xe use QQ (.ref f.heap.objs.size) j.heap.objs.size (.ok .next) t:=fun t L l F q=>by
  obtain⟨m,hn,_⟩:=id F.loc;rw[Yl]at hn;have mh:l j.heap.objs.size=none:=by have:=F.free;rw[Yl]at this;exact this
  have un:Un (frs X.stack) fp (upd G f.heap.objs.size (.lst [])) l j.heap t.heap:=by have:=F.base;rw[← w]at this;exact this
  have zq:t.os=j.os:=by have:=F.os;rw[← w]at this;exact this
  have gq:HOk X.prog X.w l t.heap:=by have:=F.hok;rw[P,R]at this;exact this
  refine post _ _ t l m (M.call' (s':=t) (ch:=fp) zq un gq F.bare fun b k=>?_) mh hn (Q1 M.lt) M.sz (fun x a e=>?_) (fun p hp=>?_) q
  ·obtain⟨_,q1,_,q3,q4,q5⟩:=f3 b k;exact⟨q3,q1,q4,q5⟩
  ·obtain⟨v,A,e',_⟩:=M.cell x a e;exact Qz (Qi e')
  ·exact Qz (Qi (M.pin p hp).1)
 have qd:codeAny (model X.prog X.w) X.A (.compLoop (.ListComp ed [⟨tg,iter,cU,0⟩] c pos) 0 (.ref it) (.ref f.heap.objs.size) (compEnvC c (Y1 X.env.cells c.names []) j.heap.objs.size X.env))
   (compPost (model X.prog X.w) X.A X.xe use QQ (.ref f.heap.objs.size) j.heap.objs.size) { j with heap:=K,toks:=f.toks }:=by
  rw[← qc,← YA];refine Zig (E:=fun _ _=>False) (fun n s'=>∃i ys ao B,Inv Y [] ao B s'∧tn i s'.heap∧(∀b∈fp,B b=none)∧W i n ys ao B) (fun _ _ z=>z) ?_ m0
   ⟨0,[],_,_,I4,uM,fun b k=>(f3 b k).1,?_⟩
  ·rintro n t ⟨i,ys,L,l,F,kL,oH,w5⟩;rcases turn i n ys L l w5 with⟨stop,qn⟩|⟨go,Nn,uO,step⟩
   ·refine thn (T.done Y P R YK Yc i [] t L l _ F (gp oH) kL stop) ?_;rintro r s6 ⟨hr,I6⟩;subst hr;have fq:=fin s6 L l I6 qn;rw[← YA]at fq;exact fq
   ·refine thn (T.item Y P R YK Yc i [] t L l _ F (gp oH) kL go) ?_;rintro r s6 ⟨u,hr,h6⟩;subst hr;refine thn h6 ?_;rintro _ s7 ⟨x,H7,I7,r7,y7,rA,zr⟩;have zt:=I7.pinned (gp zr) (T.obj _ _ rA);have qe:∀ {rB:St} {V:Hp} {Z:Shared},Inv Y ([]++UT fp s7.heap) rB V Z→Inv Y [] rB V Z∧tn (i+1) Z.heap∧∀b∈fp,V b=none:=fun {rB V Z} I9=>by refine⟨I9.unpinned,T.keep _ _ _ rA fun b k A e=>(I9.pin (b,A) (Qy _ (Qy _ (T0 k e)))).1,fun b k=>?_⟩;obtain⟨A,e,d⟩:=T.obj _ _ rA b k;exact(I9.pin (b,A) (Qy _ (Qy _ (T0 k e)))).2.1
    have P1:=uN _ s7 L H7 x u _ zt r7 (step x H7 y7);rw[P,R,oN]at P1;refine thn P1 ?_;rintro _ s8 ⟨kR,H8,I8,q8⟩;have P2:=bY _ s8 kR H8 _ I8 q8;rw[P,R,oN]at P2;refine thn P2 ?_;rintro ok Z ⟨V,I9,q9⟩;cases ok with
    | false=>rw[if_neg Qq]at q9;rw[if_neg Qq];obtain⟨b1,b2,b3⟩:=qe I9;obtain⟨m',eI,w9⟩:=uO _ _ _ q9;exact⟨m',eI,i+1,ys,kR,V,b1,b2,b3,w9⟩
    | true=>rw[if_pos rfl]at q9;rw[if_pos rfl];have P3:=ba _ Z kR V _ I9 q9;rw[P,R,oN]at P3;refine thn P3 ?_;rintro y kT ⟨vy,fv,zu,zw,zA,hsz,zB⟩;have P4:=Wq (X:=Y) _ kT kR fv (.ref f.heap.objs.size) [vy] (.ref f.heap.objs.size) [y] (fun _ B=>Nn (ys++[vy]) kR B) zu rfl (.cons zw .nil) ⟨_,ys,vy,rfl,rfl,zA,hsz,zB⟩;rw[P,R,oN]at P4;refine thn P4 ?_;rintro _ jL ⟨_,fY,zC,_,zD⟩;obtain⟨b1,b2,b3⟩:=qe zC;obtain⟨m',eI,zE⟩:=uO _ _ _ zD;exact⟨m',eI,i+1,ys++[vy],kR,fY,b1,b2,b3,zE⟩
  ·exact w0
 have lp:=T.self X.A 0 { j with heap:=K,toks:=f.toks } (fun zF s'=>codeAny (model X.prog X.w) X.A (.compLoop (.ListComp ed [⟨tg,iter,cU,0⟩] c pos) 0 zF (.ref f.heap.objs.size) (compEnvC c (Y1 X.env.cells c.names []) j.heap.objs.size X.env))
   (compPost (model X.prog X.w) X.A X.xe use QQ (.ref f.heap.objs.size) j.heap.objs.size) s') (fun _ _=>False) uM qd
 exact codeAny_compStart_list qd (wpAny_mono lp (fun _ _ z=>z) fun _ _ z=>z.elim)
theorem Inv.let{U:List (Addr×Obj)}{c:St}{H:Hp}{s:Shared}{C:Addr}{h':Heap}(I:Inv X U c H s)(d:H C=none)(f:C≠X.env.locals)(h1:X.s₀.heap.objs.size≤C)
  (h2:∀x a,X.env.cells.lookup x=some a→a≠C) (g:∀p∈X.pn++U,p.1≠C) (h:Heap.SameBut C s.heap h'):Inv X U c H { s with heap:=h' } :=
 I.turned (t':=s.toks) (fun b i j e=>h.extBut b i j e) d f (.inr h1) h2 g
theorem WY{b a iter:Expr}{d:List Expr}{pos:Pos}{e:TI}{g:TG}{f:TT}{i:TE}(S:YH N N' o c)(j:X.N=N)(k:X.env.scope=o)(hc:X.calm=true)
  (l:PI X a iter e) (n:∀C s H fp,PG (Yf X c N' C s H fp) a g) (p:∀C s H fp,PTs (Yf X c N' C s H fp) d f) (he:∀C s H fp,PE (Yf X c N' C s H fp) b i)
  (r:∀x,foldedSetIterable iter X.env x=pure x:=by intro _;rfl) :
  PE X (.ListComp b [⟨a,iter,d,0⟩] c pos) (R9 (N'.length-N.length) e g f i):=by
 intro U s σ H Q I h;rw[eval_ListComp];refine NN (use:=none) S j k hc l n p he r I h fun D C s5 t m u v w y z A B q=>⟨m,w,fun h' E=>?_⟩;exact⟨.ref D,t,u.let v y z A B E,rfl,q⟩
theorem Zkr{i:Nat}{x:Str}{e b iter:Expr}{f:List Expr}{pos d j:Pos}{k:TI}{g:TG}{l:TT}{n:TE}(u:X.N.Nodup)(hx:X.N[i]? = some x)(hl:Loc X.env.scope x)(S:YH N N' o c)(w:X.N=N)(y:X.env.scope=o)(hc:X.calm=true)
  (A:PI X b iter k) (B:∀C s H fp,PG (Yf X c N' C s H fp) b g) (E:∀C s H fp,PTs (Yf X c N' C s H fp) f l) (he:∀C s H fp,PE (Yf X c N' C s H fp) e n)
  (F:swapsWith (.ListComp e [⟨b,iter,f,0⟩] c pos) (some (.Name x d)) j.line X.env=pure true)
  (G:∀x,foldedSetIterable iter X.env x=pure x:=by intro _;rfl) (J:X.fn x=true∨X.env.scope.names.lookup x=some .local:=by first|exact .inl rfl|exact .inr rfl|assumption) :
  PS X (.Assign [.Name x d] (.ListComp e [⟨b,iter,f,0⟩] c pos) j) (Sr (R9 (N'.length-N.length) k g l n) (T1 i)):=by
 intro U s σ H D I h;rw[exec_Assign_Name_used _ _ _ _ F];refine wpAny_bind (wpAny_standAt (wpAny_bind ?_));show wpAny _ X.A (do let _ ← comprehension (.ListComp e [⟨b,iter,f,0⟩] c pos) c X.env _ (newList []) false (eval iter X.env) (some (assign (.Name x d) X.env))) _ _ s;refine wpAny_bind (thn (NN (QQ:=fun _ p=>SP X U D .next p) (use:=some (assign (.Name x d) X.env)) S w y hc A B E he G I h ?_) fun _ p K=>wpAny_pure (wpAny_pure K));intro L C s5 M m O P Q r R t T q;show wpAny _ X.A (assign (.Name x d) X.env (.ref L)) _ _ _;refine wpAny_assign_Name (Ov (v:=.ref L) O u hx hl rfl (?_) J);rintro s6 V ⟨a,W,Y⟩;have Z:C≠a:=by
  rcases Y with z|z
  ·rw[z];exact r
  ·exact(t x a z).symm
 exact⟨m,Q.sameBut W Z,fun h' uP=>⟨_,M,V.let P r R t T uP,q⟩⟩
end
theorem NM{ys:List Str}:∀ {us:List Value},ZH (ys.map V.str) us→StrsAre us ys:=by
 induction ys with
 | nil=>intro us r;rw[QaU]at r;cases r;exact .nil
 | cons y ys a =>
  intro us r;rw[Qh]at r;cases r with
  | cons b c=>obtain⟨t,e⟩:=b;subst e;exact .cons _ _ (a c)
theorem NL:∀ {vs:List Value} {ys:List Str},StrsAre vs ys→ZH (ys.map V.str) vs
 | _,_,.nil=>.nil
 | _,_,.cons _ t h=>.cons ⟨t,rfl⟩ (NL h)
section
variable {X:Cx}
def NK(K:#[7]):List V→Hp→VK→Prop:=fun xs H Q=>∃x c t b,xs=[x,.ty c]∧XA K H x t∧PySem.W.kitOne K t (.type c)=some b∧Q (.bl b) H
theorem Zm0:YW X (.builtin "isinstance") (NK X.K):=by intro U s σ H xs us Q I r h;obtain⟨x,c,t,b,rfl,ty,e,q⟩:=h;obtain⟨u,w',rfl,a,d⟩:=TY r;cases d;exact Zmb I a ty e fun tk=>⟨.bl b,H,I.tok _,rfl,q⟩
def NJ(K:#[7]):List V→Hp→VK→Prop:=fun xs H Q=>∃ (x:V) (a:Addr) (c:List String) (t:Value) (b:Bool),xs=[x,.ref a]∧H a=some (.tup (c.map V.ty))∧XA K H x t∧PySem.W.kitAny K t (c.map Value.type)=some b∧Q (.bl b) H
theorem ZoT{a:List String}:∀ {us:List Value},ZH (a.map V.ty) us→us=a.map Value.type:=by
 induction a with
 | nil=>intro us r;rw[QaU]at r;cases r;rfl
 | cons y ys b =>
  intro us r;rw[Qh]at r;cases r with
  | cons c d=>rw[show _=Value.type y from c,b d];rfl
theorem Zl5:YW X (.builtin "isinstance") (NJ X.K):=by
 intro U s A H k us Q I r h;obtain⟨x,B,D,t,b,rfl,E,ty,e,q⟩:=h;obtain⟨u,w',rfl,d,F⟩:=TY r;cases F;obtain⟨_,its,G,⟨K,f,L,n,M⟩⟩:=I.hok B _ E;have N:=ZoT G;subst N;obtain⟨P,R,S,sl⟩:=K;have T:P=Value.type "tuple":=L;have V:S=Data.seq (D.map Value.type).toArray n:=M;subst T;subst V;have c:∀v,EP X U A Q (.bool b) { s with toks:=v }:=fun v=>⟨.bl b,H,I.tok _,rfl,q⟩;cases ty with
 | non=>cases (show u=Value.none from d);exact QY PySem.W.kitx_none I.kIn True.intro f e (fun z=>nomatch z) c
 | bl y=>cases (show u=Value.bool y from d);exact QY PySem.W.kitx_bool I.kIn True.intro f e (fun z=>nomatch z) c
 | int i=>obtain⟨t,q⟩:=(show ∃t,u=Value.int i t from d);cases q;exact QY PySem.W.kitx_int I.kIn True.intro f e (fun z=>nomatch z) c
 | str y=>obtain⟨t,q⟩:=(show ∃t,u=Value.str y t from d);cases q;exact QY PySem.W.kitx_str I.kIn True.intro f e (fun z=>nomatch z) c
 | flt y=>obtain⟨t,q⟩:=(show ∃t,u=Value.float y t from d);cases q;exact QY PySem.W.kitx_float I.kIn True.intro f e (fun z=>nomatch z) c
 | @lst a k g=>cases (show u=Value.ref a from d);obtain⟨_,_,n,_,j⟩:=(show Z4 X.prog X.w H s.heap a (.lst k) from I.hok a _ g);exact QY QaS I.kIn ⟨_,j,rfl⟩ f e (fun z=>nomatch z) c
 | @frz a W k g=>cases (show u=Value.ref a from d);obtain⟨_,_,_,n,_,j⟩:=(show Z4 X.prog X.w H s.heap a (.frz W (.lst k)) from I.hok a _ g);exact QY QaS I.kIn ⟨_,j,rfl⟩ f e (fun z=>nomatch z) c
 | @tup a k g=>cases (show u=Value.ref a from d);obtain⟨_,_,_,p⟩:=(show Z4 X.prog X.w H s.heap a (.tup k) from I.hok a _ g);obtain⟨o,j,m,_⟩:=p;exact QY PySem.W.kitx_tuple I.kIn ⟨o,j,m⟩ f e (fun z=>nomatch z) c
 | @dK a l g=>cases (show u=Value.ref a from d);obtain⟨_,_,vs,_,p⟩:=(show Z4 X.prog X.w H s.heap a (.dK l) from I.hok a _ g);obtain⟨o,Y,Z,j,m,_⟩:=p;exact QY QaT I.kIn ⟨o,j,m.1⟩ f e (fun z=>nomatch z) c
 | @dT a l g=>cases (show u=Value.ref a from d);obtain⟨_,_,k,_,o,Y,Z,j,m,_⟩:=(show Z4 X.prog X.w H s.heap a (.dT l) from I.hok a _ g);exact QY QaT I.kIn ⟨o,j,m.1⟩ f e (fun z=>nomatch z) c
 | @ins a C dx fs g w ha hn eW hm=>cases (show u=Value.ref a from d);obtain⟨mA,O,_⟩:=UQ I.hok g;obtain⟨R,J,_⟩:=O.look;exact QY (PySem.W.kitx_own (w.get _) w.hd ha hn eW hm) I.kIn J f e (fun z=>nomatch z) c
theorem ZnX(hc:X.calm=true):YW X (.builtin "all") (fun xs H Q=>∃ (p:Addr) (bs:List Bool),xs=[.ref p]∧SqL X.K H p (bs.map V.bl)∧Q (.bl (bs.all id)) H):=by
 intro U s σ H xs us Q I r h;obtain⟨p,bs,rfl,o,q⟩:=h;obtain⟨u,rfl,t⟩:=Xt r;cases t;obtain⟨its,f,w,hz⟩:=I.list o;have g:=w.isList;have x:p<s.heap.objs.size:=by obtain⟨_,e,_⟩:=g;exact Qi e
 refine call_all_walk (wpAny_pyIter_list g ?_);refine⟨s.heap.objs.size,[s.heap.objs.size,p],[s.heap.objs.size],its.toArray.size,_,_,fun i=>(bs[i]?).getD true,rfl,Walks.list (A:=X.A.in1) (I.ok.hd hc) _ p (Qz x) its.toArray,
  ⟨⟨_,Qm _ rfl,rfl,rfl⟩,g.push _⟩,fun i v y B E' C D=>?_,fun h' tk E=>?_⟩
 ·have l:its[i]? = some v:=by simpa using C
  have c:i<its.length:=(Qd.mp l).1;have a:=f.length;have j:(bs.map V.bl)[i]? = some (V.bl (bs[i]'(by rw[Qa]at a;lia))):=by rw[Qk,Qb (by rw[Qa]at a;lia)];rfl
  obtain⟨u',d,F⟩:=f.get j;rw[l]at d;cases d;obtain rfl:v=Value.bool _:=F;have m:B ((bs[i]?).getD true) y:=D;rw[Qb (by rw[Qa]at a;lia)]at m;exact wpAny_truthy_bool m
 ·have e:((List.range its.toArray.size).all fun i=>(bs[i]?).getD true)=bs.all id:=by
   have a:=f.length;rw[Qa]at a;rw[QF,← a,QaN,Qa8,Qa8];constructor
   ·intro z b j;obtain⟨i,c,rfl⟩:=List.mem_iff_getElem.mp j;have:=z i (Qak.mpr c);rw[Qb c]at this;exact this
   ·intro z i c;have n:=Qak.mp c;rw[Qb n];exact z _ (Q4 n)
  refine⟨.bl (bs.all id),H,I.kept fun b G k=>E b G (fun J=>?_) (Qc _ k),by rw[e];rfl,q⟩;rw[Ql.mp J]at k;exact Qab _ (Qi k)
theorem Zh8:YW X (.builtin "sorted") (fun xs H Q=>∃ (p:Addr) (ss:List Str),xs=[.ref p]∧SqL X.K H p (ss.map V.str)∧ss.length<64 ∧
  ∀ (l:Addr) (a:List Str),H l=none→a.Perm ss→sortedS a=true→Q (.ref l) (upd H l (.lst (a.map V.str)))):=by
 intro U s σ H xs us Q I r h;obtain⟨p,ss,rfl,d,rD,q⟩:=h;obtain⟨u,rfl,f⟩:=Xt r;cases f;obtain⟨its,c,g,i⟩:=I.list d;have j:=c.length;rw[Qa]at j i;refine sorted_strs g.isList (NM c) #[2] fun b a a1 a2 a3=>?_;obtain⟨e,k⟩:=sortedAll_at s.heap its b;have hp:=a2.length_eq;refine⟨.ref (s.heap.objs.size+1),_,I.laid (t':=s.toks) (o:=.lst (a.map V.str)) (fun _ _=>sortedAll_old) (Qaj _) ⟨by rw[Qa];lia,b.toList,e,NL a1,by simpa using k⟩,rfl,q _ a (I.hok.fresh (Qaj _)) a2 a3⟩
theorem ZoZ:MtR X "str.join" (fun x vs H Q=>∃ (sep:Str) (p:Addr) (ys:List Str),x=.str sep∧vs=[.ref p]∧SqL X.K H p (ys.map V.str)∧(ys.map (·.length)).sum+ys.length*sep.length≤16777216∧Q (.str (Txt.join sep ys)) H):=by intro U s σ H x vs v us Q I a b h;obtain⟨sep,p,ys,rfl,rfl,c,d,q⟩:=h;obtain⟨t,rfl⟩:=a;obtain⟨u,rfl,e⟩:=b.one;cases e;obtain⟨its,f,g,_⟩:=I.list c;exact join_list g.isList (NM f) d fun t' k=>⟨.str _,H,I.tok _,⟨_,rfl⟩,q⟩
theorem Zoj:OpR X (binaryOp .Mult) (fun x y H Q=>∃a n,x=.str a∧y=.int n∧0≤n∧n≤1000000∧(a.length:Int)*n≤1000000∧Q (.str (Txt.mul a n)) H):=by
 intro U s σ H x y v u Q I d f h;obtain⟨a,n,rfl,rfl,g,i,h2,q⟩:=h;obtain⟨t,rfl⟩:=d;obtain⟨t',rfl⟩:=f;have j:a.length*n.toNat≤1000000:=by
  have e:((a.length*n.toNat:Nat):Int)=(a.length:Int)*n:=by rw[Int.natCast_mul,Int.toNat_of_nonneg g]
  lia
 refine PySem.P.mul_str ?_ (fun c1 c2=>?_) (fun c1 c2=>?_) ?_
 ·have l:decide (n < -(2 ^ 63:Int))=false:=decide_eq_false #[2];have c:decide (n≥2 ^ 63)=false:=decide_eq_false #[2];rw[l,c];rfl
 ·have m:(1:Int)≤n:=by lia
  have q1:(a.length:Int)*1≤(a.length:Int)*n:=Int.mul_le_mul_of_nonneg_left m (Int.natCast_nonneg _);have q2:(1000000:Int)≤(2 ^ 63-1) / n:=by rw[Int.le_ediv_iff_mul_le #[2]];have:(1000000:Int)*n≤1000000*1000000:=Int.mul_le_mul_of_nonneg_left i #[6];lia
  lia
 ·unfold Builtin.Str.tooLong;have o:sizeLine=16777216:=sizeLine_eq;exact decide_eq_false #[2]
 ·have e:Txt.mul a n=if n<1 then Str.empty else if (n == 1||a.length == 0)=true then a else ⟨(List.replicate n.toNat a.cps).foldl (·++·) #[]⟩:=rfl
  rw[e]at q;by_cases c1:n<1
  ·rw[if_pos c1]at q ⊢;exact⟨by decide,.str _,H,I.tok _,⟨_,rfl⟩,q⟩
  ·rw[if_neg c1]at q ⊢;by_cases c2:(n == 1||a.length == 0)=true
   ·rw[if_pos c2]at q ⊢;exact⟨.str _,H,I,⟨_,rfl⟩,q⟩
   ·rw[if_neg c2]at q ⊢;refine⟨?_,.str _,H,I.tok _,⟨_,rfl⟩,q⟩;have p:∀ (k:Nat) (b:Array Nat),((List.replicate k a.cps).foldl (·++·) b).size=b.size+k*a.cps.size:=by
     intro k;induction k with
     | zero=>intro b;simp
     | succ k r=>intro b;rw[List.replicate_succ,List.foldl_cons,r,Array.size_append,Nat.succ_mul];lia
    show ((List.replicate n.toNat a.cps).foldl (·++·) #[]).size≤sizeLine;rw[p];have c:a.cps.size=a.length:=rfl;have:n.toNat*a.cps.size≤1000000:=by rw[c,Nat.mul_comm];exact j
    have o:sizeLine=16777216:=sizeLine_eq;simp only[List.size_toArray,List.length_nil];lia
end
inductive Src where
 | l (a:Addr)|t (a:Addr)|s (z:Str)
noncomputable def Src.val:Src→V
 | .l a=>.ref a
 | .t a=>.ref a
 | .s z=>.str z
noncomputable def ZoI(c:Nat):V:=.str ⟨#[c]⟩
def Src.its(K:#[7])(H:Hp):Src→List V→Prop
 | .l a,xs=>SqL K H a xs
 | .t a,xs=>SqT K H a xs
 | .s z,xs=>xs=z.cps.toList.map ZoI
def Src.at(h:Heap)(i:Addr):Src→Nat→Prop
 | .l a,k=>h.IsListIter i a k
 | .t a,k=>h.IsTupleIter i a k
 | .s z,k=>∃tk,h.IsStrIter i (strIterType z) z tk k
def Src.raw(h:Heap):Src→List Value→Prop
 | .l a,us=>h.IsList a us.toArray
 | .t a,us=>h.IsTuple a us.toArray
 | .s _,_=>True
def Src.fit:Src→List Value→Nat→Value→Prop
 | .l _,us,k,u=>us[k]? = some u
 | .t _,us,k,u=>us[k]? = some u
 | .s z,_,k,u=>∃c tk,z.cps[k]? = some c∧u=.str ⟨#[c]⟩ tk
noncomputable def Src.many:Src→List Value→Nat
 | .l _,us=>us.length
 | .t _,us=>us.length
 | .s z,_=>z.cps.size
def Src.off:Src→Addr→Prop
 | .l a,b=>a≠b
 | .t a,b=>a≠b
 | .s _,_=>True
theorem Src.at_obj{h:Heap}{i:Addr}:∀ {S:Src} {k:Nat},S.at h i k→∃o vs,h.get? i=some o∧o.data=.fields vs
 | .l _,_,⟨o,e,_,d⟩=>⟨o,_,e,d⟩
 | .t _,_,⟨o,e,_,d⟩=>⟨o,_,e,d⟩
 | .s _,_,⟨_,o,e,_,d⟩=>⟨o,_,e,d⟩
theorem Src.at_keep{h h':Heap}{i:Addr}(k':∀o,h.get? i=some o→h'.get? i=some o):∀ {S:Src} {k:Nat},S.at h i k→S.at h' i k
 | .l _,_,⟨o,e,d⟩=>⟨o,k' o e,d⟩
 | .t _,_,⟨o,e,d⟩=>⟨o,k' o e,d⟩
 | .s _,_,⟨tk,o,e,d⟩=>⟨tk,o,k' o e,d⟩
theorem Src.raw_keep{h h':Heap}{b:Addr}(k':∀c o,c≠b→h.get? c=some o→h'.get? c=some o):∀ {S:Src} {us:List Value},S.off b→S.raw h us→S.raw h' us
 | .l _,_,f,⟨o,e,d⟩=>⟨o,k' _ o f e,d⟩
 | .t _,_,f,⟨o,e,d⟩=>⟨o,k' _ o f e,d⟩
 | .s _,_,_,_=>trivial
section
variable {prog:Program} {w:World} {A:Around} {E:Value→Shared→Prop} {s:Shared}
theorem ZhY{it t:Addr}{i:Nat}{items:Array Value}{x:Value}{Q:Value→Shared→Prop}(c:s.heap.IsTupleIter it t i)(d:s.heap.IsTuple t items)(hx:items[i]? = some x)
  (e:∀h',h'.IsTupleIter it t (i+1)→Heap.SameBut it s.heap h'→Q x { s with heap:=h' }):wpAny (model prog w) A (Builtin.SmallTypes.nextOf (.ref it)) Q E s:=by
 obtain⟨o,b,f,a⟩:=id c;obtain⟨ol,g,_,nl,h⟩:=d;unfold Builtin.SmallTypes.nextOf;refine wpAny_bind (wpAny_callSpecial?_slot (name:=Str.ofString "__next__") c.typeIs F.slot_tuple_iterator_next
  (wpAny_call_entry F.slot_tuple_iterator_next c.typeIs F.entry_tuple_iterator_next ?_ (F.args_tuple_iterator_next_1 _)))
 show wpAny _ _ (field (.ref it) 0 >>= _) _ _ s;refine wpAny_bind (wpAny_field b a (x:=.ref t) rfl ?_);show wpAny _ _ (if (Value.ref t == Value.none)=true then _ else _) _ _ s;rw[if_neg (show ¬ ((Value.ref t == Value.none)=true) from Qq)];show wpAny _ _ (field (.ref it) 1 >>= _) _ _ s;refine wpAny_bind (wpAny_field b a (x:=.int i 0) rfl ?_);show wpAny _ _ (seqItems? (.ref t) >>= _) _ _ s;refine wpAny_bind (wpAny_seqItems g h ?_);simp only[Int.toNat_natCast,hx];refine wpAny_bind (wpAny_setField b a #[4] (wpAny_pure ⟨x,rfl,wpAny_pure (e _ ?_ (Heap.SameBut.update ..))⟩));exact⟨_,Q8 _ b (Obj.isFreed_of_fields (Obj.data_mapFields a _)),(Obj.cls_mapFields ..).trans f,by
  rw[Obj.data_mapFields a];simp[rawInt]⟩
theorem R8{i:Addr}{k:Nat}{us:List Value}{Q:Value→Shared→Prop}:∀ {S:Src},S.at s.heap i k→S.raw s.heap us→k<S.many us →
  (∀h' tk u,S.fit us k u→S.at h' i (k+1)→Heap.SameBut i s.heap h'→Q u { s with heap:=h',toks:=tk })→wpAny (model prog w) A (Builtin.SmallTypes.nextOf (.ref i)) Q E s
 | .l a,c,h,b,g=>wpAny_nextOf_list_item c h (x:=us[k]'b) (by rw[Qan];exact Qb b) fun h' d f=>g h' s.toks _ (Qb b) d f
 | .t a,c,h,b,g=>ZhY c h (x:=us[k]'b) (by rw[Qan];exact Qb b) fun h' d f=>g h' s.toks _ (Qb b) d f
 | .s z,⟨tk,c⟩,h,b,g=>by
  have j:z.cps[k]? = some z.cps[k]:=Array.getElem?_eq_getElem b;by_cases l:z.cps.all (·<128)=true
  ·have e:strIterType z = "str_ascii_iterator":=by unfold strIterType;rw[if_pos l]
   rw[e]at c;exact wpAny_nextOf_ascii_item c j fun h' d f=>g h' _ _ ⟨_,_,j,rfl⟩ ⟨tk,by rw[e];exact d⟩ f
  ·have e:strIterType z = "str_iterator":=by unfold strIterType;rw[if_neg l]
   rw[e]at c;exact wpAny_nextOf_wide_item c j fun h' d f=>g h' _ _ ⟨_,_,j,rfl⟩ ⟨tk,by rw[e];exact d⟩ f
theorem Zfx{it t:Addr}{i:Nat}{items:Array Value}{Q:Value→Shared→Prop}(f:A.handled=none)(b:s.heap.IsTupleIter it t i)(g:s.heap.IsTuple t items)(hx:items[i]? = none)
  (h:∀h' e,Heap.ExtBut it s.heap h'→(∃o,h'.get? e=some o∧o.cls=.type "StopIteration")→E (.ref e) { s with heap:=h' }):wpAny (model prog w) A (Builtin.SmallTypes.nextOf (.ref it)) Q E s:=by
 obtain⟨o,c,hc,d⟩:=id b;obtain⟨ol,j,_,nl,k⟩:=g;unfold Builtin.SmallTypes.nextOf;refine wpAny_bind (wpAny_callSpecial?_slot (name:=Str.ofString "__next__") b.typeIs F.slot_tuple_iterator_next
  (wpAny_call_entry F.slot_tuple_iterator_next b.typeIs F.entry_tuple_iterator_next ?_ (F.args_tuple_iterator_next_1 _)))
 show wpAny _ _ (field (.ref it) 0 >>= _) _ _ s;refine wpAny_bind (wpAny_field c d (x:=.ref t) rfl ?_);show wpAny _ _ (if (Value.ref t == Value.none)=true then _ else _) _ _ s;rw[if_neg (show ¬ ((Value.ref t == Value.none)=true) from Qq)];show wpAny _ _ (field (.ref it) 1 >>= _) _ _ s;refine wpAny_bind (wpAny_field c d (x:=.int i 0) rfl ?_);show wpAny _ _ (seqItems? (.ref t) >>= _) _ _ s;refine wpAny_bind (wpAny_seqItems j k ?_);simp only[Int.toNat_natCast,hx];refine wpAny_bind (wpAny_rule (wpAny_bind (wpAny_setField c d #[4] ?_)));show wpAny _ _ (newExc (.type "StopIteration") [] >>= _) _ _ _;refine wpAny_bind ?_;simp only[newExc,newTuple];refine wpAny_bind (wpAny_newObj_type ?_ (by size_fits));refine wpAny_bind (m:=firstArgMember _ _) (wpAny_of_eq (a:=Value.none) (by first|rfl|(simp only[firstArgMember];rfl)) ?_);refine wpAny_newObj_type ?_ (by size_fits);simp only[raiseNew];refine wpAny_bind (wpAny_handled ?_);first|rw[show A.in1.handled=none from f]|rw[f]
 refine wpAny_bind (wpAny_pure (wpAny_throw ?_));exact h _ _ (((Heap.SameBut.update ..).extBut.push _).push _) ⟨_,Qm _ rfl,rfl⟩
theorem NI{i:Addr}{k:Nat}{us:List Value}{Q:Value→Shared→Prop}(f:A.handled=none):∀ {S:Src},S.at s.heap i k→S.raw s.heap us→S.many us≤k →
  (∀h' e,Heap.ExtBut i s.heap h'→(∃o,h'.get? e=some o∧o.cls=.type "StopIteration")→E (.ref e) { s with heap:=h' })→wpAny (model prog w) A (Builtin.SmallTypes.nextOf (.ref i)) Q E s
 | .l a,b,g,d,c=>wpAny_nextOf_list_end f b g (by rw[Qan];exact QL d) c
 | .t a,b,g,d,c=>Zfx f b g (by rw[Qan];exact QL d) c
 | .s z,⟨tk,b⟩,g,d,c=>by
  have h:z.cps[k]? = none:=Array.getElem?_eq_none d;by_cases j:z.cps.all (·<128)=true
  ·have e:strIterType z = "str_ascii_iterator":=by unfold strIterType;rw[if_pos j]
   rw[e]at b;exact wpAny_nextOf_ascii_end f b h c
  ·have e:strIterType z = "str_iterator":=by unfold strIterType;rw[if_neg j]
   rw[e]at b;exact wpAny_nextOf_wide_end f b h c
structure TR (z TI TO i1 i2:Addr) (S1 S2:Src):Prop where
 TIz:TI≠z
 TOz:TO≠z
 i1z:i1≠z
 i2z:i2≠z
 TITO:TI≠TO
 TIi1:TI≠i1
 TIi2:TI≠i2
 TOi1:TO≠i1
 TOi2:TO≠i2
 i12:i1≠i2
 s1z:S1.off z
 s1TO:S1.off TO
 s1i1:S1.off i1
 s1i2:S1.off i2
 s2z:S2.off z
 s2TO:S2.off TO
 s2i1:S2.off i1
 s2i2:S2.off i2
theorem Zmd{z TI TO i1 i2:Addr}{S1 S2:Src}{k:Nat}{q r:List Value}{a b:Value}{Q:Option Value→Shared→Prop}(D:TR z TI TO i1 i2 S1 S2)
  (g:IsZip s.heap z TI TO .none) (V:IsPair s.heap TI (.ref i1) (.ref i2)) (W:IsPair s.heap TO a b)
  (h1:S1.at s.heap i1 k) (h2:S2.at s.heap i2 k) (X:S1.raw s.heap q) (Y:S2.raw s.heap r) (Z:k<S1.many q) (m2:k<S2.many r)
  (hQ:∀h' tk x y,S1.fit q k x→S2.fit r k y→IsZip h' z TI TO (rawInt s.heap.objs.size)→IsPair h' TO x y→S1.at h' i1 (k+1)→S2.at h' i2 (k+1)→IsPair h' s.heap.objs.size x y→h'.objs.size=s.heap.objs.size+1 →
   (∀c o,c≠z→c≠TO→c≠i1→c≠i2→s.heap.get? c=some o→h'.get? c=some o)→Q (some (.ref s.heap.objs.size)) { s with heap:=h',toks:=tk }) :
  wpAny (model prog w) A (pyNext (.ref z)) Q E s:=by
 have L:s.TypeIs (.ref z) "zip":=⟨_,g,rfl⟩;unfold pyNext;refine wpAny_bind (wpAny_attempt (wpAny_callSpecial?_slot (name:=Str.ofString "__next__") L F.slot_zip_next (wpAny_call_entry F.slot_zip_next L F.entry_zip_next ?_ (F.args_zip_next_1 _))));show wpAny _ _ (field (.ref z) 2 >>= _) _ _ _;refine wpAny_bind (wpAny_field g rfl (x:=.bool false) rfl ?_);show wpAny _ _ (field (.ref z) 3 >>= _) _ _ _;refine wpAny_bind (wpAny_field g rfl (x:=.ref TI) rfl (wpAny_bind (wpAny_seqItems V rfl ?_)));show wpAny _ _ (Builtin.SmallTypes.ownedTupleIsFree (.ref z) >>= _) _ _ _;unfold Builtin.SmallTypes.ownedTupleIsFree;refine wpAny_bind (wpAny_bind (wpAny_field g rfl (x:=.none) rfl (wpAny_pure ?_)));simp only[if_true];refine wpAny_bind (wpAny_rule (wpAny_bind (wpAny_field g rfl (x:=.ref TO) rfl (wpAny_bind (wpAny_setField_rec g #[4] fun M v f=>?_)))));replace v:IsZip M z TI TO .ellipsis:=v;refine wpAny_bind ?_;simp only[List.zipIdx_cons,List.zipIdx_nil,List.forIn_cons,List.forIn_nil];refine wpAny_bind (wpAny_bind (wpAny_onRaise ?_));show wpAny _ _ (Builtin.SmallTypes.nextOf (.ref i1) >>= _) _ _ _;refine wpAny_bind (R8 (S:=S1) (us:=q) (k:=k) (S1.at_keep (fun o e=>f.extBut _ o D.i1z e) h1) (S1.raw_keep (fun c o n e=>f.extBut c o n e) D.s1z X) Z fun B rG x fx ml dN=>wpAny_pure ?_);have h:Heap.SameBut i1 M B:=dN;have N:IsPair B TO a b:=h.extBut _ _ D.TOi1 (f.extBut _ _ D.TOz W);refine wpAny_bind (wpAny_seqItems N rfl (wpAny_bind (wpAny_updateSeq_pair N fun C G fw=>wpAny_bind (wpAny_letGo (wpAny_pure ?_)))));replace G:IsPair C TO x b:=G;have i:Heap.SameBut TO B C:=fw;refine wpAny_bind (wpAny_bind (wpAny_onRaise ?_));show wpAny _ _ (Builtin.SmallTypes.nextOf (.ref i2) >>= _) _ _ _;refine wpAny_bind (R8 (S:=S2) (us:=r) (k:=k)
  (S2.at_keep (fun o e=>i.extBut _ o D.TOi2.symm (h.extBut _ o D.i12.symm (f.extBut _ o D.i2z e))) h2)
  (S2.raw_keep (fun c o n e=>i.extBut c o n e) D.s2TO (S2.raw_keep (fun c o n e=>h.extBut c o n e) D.s2i1 (S2.raw_keep (fun c o n e=>f.extBut c o n e) D.s2z Y))) m2 fun H rH y fy rJ iA=>wpAny_pure ?_)
 have j:Heap.SameBut i2 C H:=iA;have O:IsPair H TO x b:=j.extBut _ _ D.TOi2 G;refine wpAny_bind (wpAny_seqItems O rfl (wpAny_bind (wpAny_updateSeq_pair O fun d t iB=>wpAny_bind (wpAny_letGo (wpAny_pure (wpAny_pure ?_))))));replace t:IsPair d TO x y:=t;have l:Heap.SameBut TO H d:=iB;refine wpAny_bind (wpAny_seqItems t rfl (wpAny_bind (wpAny_newTuple ?_)));have m:d.objs.size=s.heap.objs.size:=by rw[l.1,j.1,i.1,h.1,f.1]
 have P:IsZip d z TI TO .ellipsis:=l.extBut _ _ D.TOz.symm (j.extBut _ _ D.i2z.symm (i.extBut _ _ D.TOz.symm (h.extBut _ _ D.i1z.symm v)));have rK:∀c o,c≠z→c≠TO→c≠i1→c≠i2→s.heap.get? c=some o→d.get? c=some o:=fun c o c1 c2 c3 c4 e =>
  l.extBut _ _ c2 (j.extBut _ _ c4 (i.extBut _ _ c2 (h.extBut _ _ c3 (f.extBut _ _ c1 e))))
 have rL:S1.at d i1 (k+1):=S1.at_keep (fun o e=>l.extBut _ o D.TOi1.symm (j.extBut _ o D.i12 (i.extBut _ o D.TOi1.symm e))) ml;have rM:S2.at d i2 (k+1):=S2.at_keep (fun o e=>l.extBut _ o D.TOi2.symm e) rJ;have R:z<d.objs.size:=Qi P;show wpAny _ _ (Builtin.SmallTypes.ownedTupleHandOut (.ref z) (.ref d.objs.size) >>= _) _ _ _;refine wpAny_bind ?_;unfold Builtin.SmallTypes.ownedTupleHandOut;have rN:IsZip (d.push { cls:=.type "tuple",data:=.seq #[x,y] }) z TI TO .ellipsis:=Qc _ P;refine wpAny_bind (wpAny_setField_rec rN #[4] fun uS I J=>?_);replace I:IsZip uS z TI TO (rawInt d.objs.size):=I;refine wpAny_setField_rec I #[4] fun p u K=>?_;replace u:IsZip p z TI TO (rawInt d.objs.size):=u;have up:∀c o,c≠z→d.get? c=some o→p.get? c=some o:=fun c o c1 e=>K.extBut _ _ c1 (J.extBut _ _ c1 (Qc _ e));have T:IsPair p d.objs.size x y:=K.extBut _ _ (Q1 R) (J.extBut _ _ (Q1 R) (Qm _ rfl));have U:p.objs.size=d.objs.size+1:=by rw[K.1,J.1,QX]
 rw[m]at u T U;refine wpAny_pure ⟨_,rfl,wpAny_pure ?_⟩;show Q (some (.ref d.objs.size)) _;rw[m];exact hQ p rH x y fx fy u (up _ _ D.TOz t) (S1.at_keep (fun o e=>up _ o D.i1z e) rL) (S2.at_keep (fun o e=>up _ o D.i2z e) rM) T U fun c o c1 c2 c3 c4 e=>up c o c1 (rK c o c1 c2 c3 c4 e)
theorem Znr{z TI TO i1 i2:Addr}{S1 S2:Src}{k:Nat}{h m:List Value}{a b:Value}{Q:Option Value→Shared→Prop}(C:A.handled=none)(D:TR z TI TO i1 i2 S1 S2)
  (g:IsZip s.heap z TI TO .none) (O:IsPair s.heap TI (.ref i1) (.ref i2)) (P:IsPair s.heap TO a b)
  (h1:S1.at s.heap i1 k) (h2:S2.at s.heap i2 k) (G:S1.raw s.heap h) (R:S2.raw s.heap m) (U:S1.many h≤k∨S2.many m≤k)
  (V:∀h' tk,(∀c o,c≠z→c≠TO→c≠i1→c≠i2→s.heap.get? c=some o→h'.get? c=some o)→Q none { s with heap:=h',toks:=tk }) :
  wpAny (model prog w) A (pyNext (.ref z)) Q E s:=by
 have H:s.TypeIs (.ref z) "zip":=⟨_,g,rfl⟩;unfold pyNext;have done:∀ (h':Heap) (tk:Nat) (e:Addr),(∀c o,c≠z→c≠TO→c≠i1→c≠i2→s.heap.get? c=some o→h'.get? c=some o)→(∃o,h'.get? e=some o∧o.cls=.type "StopIteration") →
   wpAny (model prog w) A (do if (← isInstance (.ref e) (.type "StopIteration")) then pure none else throw (.ref e):Sem (Option Value)) Q E { s with heap:=h',toks:=tk }:=fun h' tk e W ⟨o,X,Y⟩=>
  wpAny_bind (wpAny_isInstance (T := "StopIteration") (b:=true) ⟨o,X,Y⟩ isSubtype_stop (wpAny_pure (V h' tk W)))
 refine wpAny_bind (wpAny_attempt (wpAny_callSpecial?_slot (name:=Str.ofString "__next__") H F.slot_zip_next (wpAny_call_entry F.slot_zip_next H F.entry_zip_next ?_ (F.args_zip_next_1 _))));show wpAny _ _ (field (.ref z) 2 >>= _) _ _ _;refine wpAny_bind (wpAny_field g rfl (x:=.bool false) rfl ?_);show wpAny _ _ (field (.ref z) 3 >>= _) _ _ _;refine wpAny_bind (wpAny_field g rfl (x:=.ref TI) rfl (wpAny_bind (wpAny_seqItems O rfl ?_)));show wpAny _ _ (Builtin.SmallTypes.ownedTupleIsFree (.ref z) >>= _) _ _ _;unfold Builtin.SmallTypes.ownedTupleIsFree;refine wpAny_bind (wpAny_bind (wpAny_field g rfl (x:=.none) rfl (wpAny_pure ?_)));simp only[if_true];refine wpAny_bind (wpAny_rule (wpAny_bind (wpAny_field g rfl (x:=.ref TO) rfl (wpAny_bind (wpAny_setField_rec g #[4] fun I p d=>?_)))));replace p:IsZip I z TI TO .ellipsis:=p;refine wpAny_bind ?_;simp only[List.zipIdx_cons,List.zipIdx_nil,List.forIn_cons,List.forIn_nil];refine wpAny_bind (wpAny_bind (wpAny_onRaise ?_));show wpAny _ _ (Builtin.SmallTypes.nextOf (.ref i1) >>= _) _ _ _;by_cases Z:k<S1.many h
 ·have m2:S2.many m≤k:=by rcases U with z'|z';lia;exact z'
  refine wpAny_bind (R8 (S:=S1) (us:=h) (k:=k) (S1.at_keep (fun o e=>d.extBut _ o D.i1z e) h1) (S1.raw_keep (fun c o n e=>d.extBut c o n e) D.s1z G) Z fun i rG x fx ml q=>wpAny_pure ?_);have j:Heap.SameBut i1 I i:=q;have J:IsPair i TO a b:=j.extBut _ _ D.TOi1 (d.extBut _ _ D.TOz P);refine wpAny_bind (wpAny_seqItems J rfl (wpAny_bind (wpAny_updateSeq_pair J fun u gi r=>wpAny_bind (wpAny_letGo (wpAny_pure ?_)))));have t:Heap.SameBut TO i u:=r;refine wpAny_bind (wpAny_bind (wpAny_onRaise ?_));show wpAny _ _ (Builtin.SmallTypes.nextOf (.ref i2) >>= _) _ _ _;refine wpAny_bind (NI (S:=S2) (us:=m) (k:=k) C
   (S2.at_keep (fun o e=>t.extBut _ o D.TOi2.symm (j.extBut _ o D.i12.symm (d.extBut _ o D.i2z e))) h2)
   (S2.raw_keep (fun c o n e=>t.extBut c o n e) D.s2TO (S2.raw_keep (fun c o n e=>j.extBut c o n e) D.s2i1 (S2.raw_keep (fun c o n e=>d.extBut c o n e) D.s2z R))) m2 fun eY e K v=>?_)
  obtain⟨y,f,l⟩:=v;have L:IsZip eY z TI TO .ellipsis:=K _ _ D.i2z.symm (t.extBut _ _ D.TOz.symm (j.extBut _ _ D.i1z.symm p));have B:e≠z:=fun x=>by subst x;rw[L]at f;cases f;simp at l
  exact wpAny_setField_rec L #[4] fun bj _ M=>done bj _ e (fun c o c1 c2 c3 c4 x=>M.extBut _ _ c1 (K _ _ c4 (t.extBut _ _ c2 (j.extBut _ _ c3 (d.extBut _ _ c1 x))))) ⟨y,M.extBut _ _ B f,l⟩
 ·refine wpAny_bind (NI (S:=S1) (us:=h) (k:=k) C (S1.at_keep (fun o e=>d.extBut _ o D.i1z e) h1) (S1.raw_keep (fun c o n e=>d.extBut c o n e) D.s1z G) #[2] fun i e q v=>?_);obtain⟨y,f,l⟩:=v;have N:IsZip i z TI TO .ellipsis:=q _ _ D.i1z.symm p;have B:e≠z:=fun x=>by subst x;rw[N]at f;cases f;simp at l
  exact wpAny_setField_rec N #[4] fun u _ r=>done u _ e (fun c o c1 _ c3 _ x=>r.extBut _ _ c1 (q _ _ c3 (d.extBut _ _ c1 x))) ⟨y,r.extBut _ _ B f,l⟩
end
noncomputable def Src.iter(tk:Tok):Src→Obj
 | .l a=>{ cls:=.type "list_iterator",data:=.fields #[.ref a,.int 0 0] }
 | .t a=>{ cls:=.type "tuple_iterator",data:=.fields #[.ref a,.int 0 0] }
 | .s z=>{ cls:=.type (strIterType z),data:=.fields #[.str z tk,.int 0 0] }
noncomputable def Src.value(tk:Tok):Src→Value
 | .l a=>.ref a
 | .t a=>.ref a
 | .s z=>.str z tk
theorem Src.iter_at{h:Heap}{i:Addr}{tk:Tok}:∀ {S:Src},h.get? i=some (S.iter tk)→S.at h i 0
 | .l _,e=>⟨_,e,rfl,rfl⟩
 | .t _,e=>⟨_,e,rfl,rfl⟩
 | .s _,e=>⟨tk,_,e,rfl,rfl⟩
theorem Src.pyIter{prog:Program}{w:World}{A:Around}{E:Value→Shared→Prop}{s:Shared}{tk:Tok}{us:List Value}{Q:Value→Shared→Prop}:∀ {S:Src},S.raw s.heap us →
  Q (.ref s.heap.objs.size) { s with heap:=s.heap.push (S.iter tk) }→wpAny (model prog w) A (pyIter (S.value tk)) Q E s
 | .l _,r,q=>wpAny_pyIter_list r q
 | .t _,r,q=>wpAny_pyIter_tuple r q
 | .s _,_,q=>wpAny_pyIter_strU q
theorem Src.raw_push{h:Heap}{ob:Obj}:∀ {S:Src} {us:List Value},S.raw h us→S.raw (h.push ob) us
 | .l _,_,⟨o,e,d⟩=>⟨o,Qc _ e,d⟩
 | .t _,_,⟨o,e,d⟩=>⟨o,Qc _ e,d⟩
 | .s _,_,_=>trivial
noncomputable abbrev zH1(h:Heap)(S1:Src)(a:Tok):Heap:=h.push (S1.iter a)
noncomputable abbrev zH2(h:Heap)(S1 S2:Src)(a b:Tok):Heap:=(zH1 h S1 a).push (S2.iter b)
noncomputable abbrev zH3(h:Heap)(S1 S2:Src)(a b:Tok):Heap:=(zH2 h S1 S2 a b).push { cls:=.type "tuple",data:=.seq #[.ref h.objs.size,.ref (zH1 h S1 a).objs.size] }
noncomputable abbrev zH4(h:Heap)(S1 S2:Src)(a b:Tok):Heap:=(zH3 h S1 S2 a b).push { cls:=.type "tuple",data:=.seq #[.none,.none] }
noncomputable abbrev zH5(h:Heap)(S1 S2:Src)(a b:Tok):Heap:=(zH4 h S1 S2 a b).push { cls:=.type "zip",data:=.fields #[.none,.bool false,.bool false,.ref (zH2 h S1 S2 a b).objs.size,.ref (zH3 h S1 S2 a b).objs.size] }
theorem Zpk(S1 S2:Src)(a e:Tok)(i j:List Value) :
  Meets (Builtin.«zip.__new__» ⟨[.type "zip",S1.value a,S2.value e],[]⟩) (fun _ R s=>S1.raw s.heap i∧S2.raw s.heap j ∧
   R (.ok (.ret (.ref (zH4 s.heap S1 S2 a e).objs.size))) { s with heap:=zH5 s.heap S1 S2 a e }) :=
 .of_wp fun b w A R s h=>by
  obtain⟨c,g,d,f,os⟩:=s;obtain⟨m,n,h⟩:=h;have ky:=sub_zip;have k:∀ {A:Around} {E:Value→Shared→Prop} {Q:Value→Shared→Prop},Q (.ref c.objs.size) ⟨zH1 c S1 a,g,d,f,os⟩→wpAny (model b w) A (pyIter (S1.value a)) Q E ⟨c,g,d,f,os⟩:=
   fun {A E Q} q=>Src.pyIter (s:=⟨c,g,d,f,os⟩) (us:=i) m q
  have l:∀ {A:Around} {E:Value→Shared→Prop} {Q:Value→Shared→Prop},Q (.ref (zH1 c S1 a).objs.size) ⟨zH2 c S1 S2 a e,g,d,f,os⟩→wpAny (model b w) A (pyIter (S2.value e)) Q E ⟨zH1 c S1 a,g,d,f,os⟩:=
   fun {A E Q} q=>Src.pyIter (s:=⟨zH1 c S1 a,g,d,f,os⟩) (us:=j) (S2.raw_push n) q
  generalize S1.value a=v1 at k ⊢;generalize S2.value e=v2 at l ⊢
  wp_walk using k,l
  exact⟨_,rfl,h⟩
section
variable {prog:Program} {w:World} {A:Around} {E:Value→Shared→Prop} {s:Shared}
theorem Zm3{S1 S2:Src}{a b:Tok}{e f:List Value}{Q:Value→Shared→Prop}(m:S1.raw s.heap e)(n:S2.raw s.heap f)
  (h:∀h',IsZip h' (s.heap.objs.size+4) (s.heap.objs.size+2) (s.heap.objs.size+3) .none→IsPair h' (s.heap.objs.size+2) (.ref s.heap.objs.size) (.ref (s.heap.objs.size+1)) →
   IsPair h' (s.heap.objs.size+3) .none .none→S1.at h' s.heap.objs.size 0→S2.at h' (s.heap.objs.size+1) 0→h'.objs.size=s.heap.objs.size+5 →
   (∀c o,s.heap.get? c=some o→h'.get? c=some o)→Q (.ref (s.heap.objs.size+4)) { s with heap:=h' }) :
  wpAny (model prog w) A (call (.type "zip") [S1.value a,S2.value b]) Q E s:=by
 refine callType_new F.called_zip #[6] (F.typeCall_zip_2 _ _) (F.newCall_zip_2 _ _) (fun obj=>F.args_object_init_3 obj _ _) F.entry_zip_new (Zpk S1 S2 a b e f) ⟨m,n,?_⟩;have z1:(zH1 s.heap S1 a).objs.size=s.heap.objs.size+1:=QX ..;have z2:(zH2 s.heap S1 S2 a b).objs.size=s.heap.objs.size+2:=by rw[QX,z1]
 have z3:(zH3 s.heap S1 S2 a b).objs.size=s.heap.objs.size+3:=by rw[QX,z2]
 have z4:(zH4 s.heap S1 S2 a b).objs.size=s.heap.objs.size+4:=by rw[QX,z3]
 have z5:(zH5 s.heap S1 S2 a b).objs.size=s.heap.objs.size+5:=by rw[QX,z4]
 have g:∀ (i:Tok) (S:Src),(S.iter i).isFreed=false:=fun i S=>by cases S<;>rfl
 have d:(zH5 s.heap S1 S2 a b).get? (zH4 s.heap S1 S2 a b).objs.size=some _:=Qm _ rfl;have j:(zH5 s.heap S1 S2 a b).get? (zH3 s.heap S1 S2 a b).objs.size=some _:=Qc _ (Qm _ rfl);have k:(zH5 s.heap S1 S2 a b).get? (zH2 s.heap S1 S2 a b).objs.size=some _:=Qc _ (Qc _ (Qm _ rfl));have l:(zH5 s.heap S1 S2 a b).get? (zH1 s.heap S1 a).objs.size=some (S2.iter b):=Qc _ (Qc _ (Qc _ (Qm _ (g _ _))));have p:(zH5 s.heap S1 S2 a b).get? s.heap.objs.size=some (S1.iter a):=Qc _ (Qc _ (Qc _ (Qc _ (Qm _ (g _ _)))));show _∧_;rw[z2,z3,z4]at d;rw[z1,z2]at k;rw[z3]at j;rw[z1]at l;rw[z4];exact⟨⟨_,d,rfl⟩,h _ d k j (Src.iter_at p) (Src.iter_at l) z5 fun c o x =>
  Qc _ (Qc _ (Qc _ (Qc _ (Qc _ x))))⟩
end
noncomputable def Itz(K:#[7])(S1 S2:Src):It :=
 ⟨fun i H=>∃a b,S1.its K H a∧S2.its K H b∧i<a.length∧i<b.length,
  fun i H v c=>∃p,H p=none∧v=.ref p∧∀a b,S1.its K H a→S2.its K H b→∀x y,a[i]? = some x→b[i]? = some y→c=upd H p (.tup [x,y]),
  fun i H=>∃a b,S1.its K H a∧S2.its K H b∧(a.length≤i∨b.length≤i)⟩
section
variable {X:Cx} {U:List (Addr×Obj)} {σ:St} {H:Hp} {s:Shared}
theorem Inv.src(I:Inv X U σ H s):∀ {S:Src} {xs:List V},S.its X.K H xs→∃us,S.raw s.heap us∧S.many us=xs.length∧∀k u x,S.fit us k u→xs[k]? = some x→ZI x u
 | .l a,xs,h=>by obtain⟨its,e,pl,_⟩:=I.list h;refine⟨its,pl.isList,e.length.symm,fun k u x f b=>?_⟩;obtain⟨g,d,r⟩:=e.get b;rw[show its[k]? = some u from f]at d;cases d;exact r
 | .t a,xs,h=>by obtain⟨its,e,pl,_⟩:=I.tuple h;refine⟨its,pl,e.length.symm,fun k u x f b=>?_⟩;obtain⟨g,d,r⟩:=e.get b;rw[show its[k]? = some u from f]at d;cases d;exact r
 | .s z,xs,h=>by
  refine⟨[],trivial,?_,fun k u x f b=>?_⟩
  ·rw[show xs=_ from h,Qa];simp[Src.many]
  ·obtain⟨c,i,d,j⟩:=f;subst j;rw[show xs=_ from h,Qk]at b;have l:z.cps.toList[k]? = some c:=by simpa using d
   rw[l]at b;cases b;exact⟨i,rfl⟩
theorem Inv.src_off(I:Inv X U σ H s){b:Addr}(hb:Xm X U H b):∀ {S:Src} {xs:List V},S.its X.K H xs→S.off b
 | .l a,xs,h=>by
  rcases h with(h|⟨ob,h⟩)|⟨o,its,n,hk,_⟩
  ·exact Ze h hb.1
  ·exact Ze h hb.1
  ·rintro rfl;have e:=I.ok.mod.kin a o hk;rcases hb.2.2.2.1 with z|z
   ·exact I.ok.noex a o e z
   ·exact absurd (Qt (Qi e) (Qw I.ok.bsz z)) (Qab _)
 | .t a,xs,h=>by
  rcases h with(h|⟨ob,h⟩)|⟨o,its,n,hk,_⟩
  ·exact Ze h hb.1
  ·exact Ze h hb.1
  ·rintro rfl;have e:=I.ok.mod.kin a o hk;rcases hb.2.2.2.1 with z|z
   ·exact I.ok.noex a o e z
   ·exact absurd (Qt (Qi e) (Qw I.ok.bsz z)) (Qab _)
 | .s z,xs,h=>trivial
theorem Inv.zipped{fp:List Addr}{h':Heap}{tk:Nat}{x y:V}{u v:Value}(I:Inv X U σ H s)(g:∀b∈fp,Xm X U H b)(k:ZI x u)(l:ZI y v)
  (p:IsPair h' s.heap.objs.size u v) (JU:∀b∈fp,∃o,h'.get? b=some o) (hk:∀c o,c ∉ fp→s.heap.get? c=some o→h'.get? c=some o) :
  Inv X U σ (upd H s.heap.objs.size (.tup [x,y])) { s with heap:=h',toks:=tk }:=by
 have t:H s.heap.objs.size=none:=I.fresh;have ne:∀b a,s.heap.get? b=some a→b≠s.heap.objs.size:=fun b a e=>Qz (Qi e);have h:∀b u,H b=some u→b≠s.heap.objs.size:=fun b u e=>Ze e t;have i:∀b u,H b=some u→b ∉ fp:=fun b u e d=>by rw[(g b d).1]at e;cases e
 refine I.step (g':=s.gens) (d':=s.drawn) (ch:=fp) (fun b d=>⟨(g b d).2.2.2.1,(g b d).2.1,(g b d).2.2.2.2.1,(g b d).2.2.2.2.2⟩)
  (fun b a _ _ f e _=>hk b a f e) (fun b a _ _ f e _=>⟨a.slots,hk b a f e⟩) (fun b a _ e n=>by rw[Zb (ne b a e)];exact n) (fun b a f e=>⟨a,hk b a f e⟩)
  (fun b w e=>by rw[Zb (h b _ e)];exact e) (fun b a u e=>by rw[Zb (h b _ e)];exact e) (fun b ps e=>⟨#[],by rw[Zb (h b _ e),e];simp⟩) (fun m A=>?_) (fun b j e=>?_) I.bare
 ·obtain⟨a,B,C,D,r⟩:=A;exact⟨a,B,C,hk _ a (fun z=>(g _ z).2.1 rfl) D,r⟩
 ·by_cases d:b=s.heap.objs.size
  ·subst d;rw[Zc]at e;cases e;exact⟨by show 2≤sizeLine;decide,[u,v],.cons k (.cons l .nil),⟨_,p,rfl,_,rfl⟩⟩
  ·rw[Zb d]at e;refine(I.hok b j e).stay (fun c E f q=>hk c E ?_ q) (fun c q=>by rw[Zb (h c _ q)];exact q) fun c w q=>by rw[Zb (h c _ q)];exact q
   rcases f with z|z
   ·rw[z];exact i b j e
   ·exact i c _ z
end
theorem Znz{P:Program}{w:World}{K:#[7]}{bA:List Expr}{x1:Nat}{bO:Pos}{S1 S2:Src}{z TI TO i1 i2:Addr}
  (Q:TI≠z) (Y:TO≠z) (Z:i1≠z) (d4:i2≠z) (d5:TI≠TO) (d6:TI≠i1) (d7:TI≠i2) (d8:TO≠i1) (d9:TO≠i2) (iD:i1≠i2) :
  WK P w K (.Tuple bA x1 bO) (Itz K S1 S2) [z,TI,TO,i1,i2] z
   (fun i h=>IsZip h z TI TO .none∧IsPair h TI (.ref i1) (.ref i2)∧(∃a b,IsPair h TO a b)∧S1.at h i1 i∧S2.at h i2 i) where
 mem:=by simp
 obj:=fun i h st b j=>by
  obtain⟨J,L,⟨a,b',M⟩,N,O⟩:=st;have nf:∀ {o:Obj} {A:Array Value},o.data=.fields A→∀v,o.data≠.cell v:=fun d v e=>by rw[d]at e;cases e
  simp only[List.mem_cons,List.not_mem_nil,or_false]at j;rcases j with rfl|rfl|rfl|rfl|rfl
  ·exact⟨_,J,nf rfl⟩
  ·exact⟨_,L,fun v e=>by cases e⟩
  ·exact⟨_,M,fun v e=>by cases e⟩
  ·obtain⟨o,A,e,d⟩:=Src.at_obj N;exact⟨o,e,nf d⟩
  ·obtain⟨o,A,e,d⟩:=Src.at_obj O;exact⟨o,e,nf d⟩
 keep:=fun i h R st k=>by obtain⟨J,L,⟨a,b',M⟩,N,O⟩:=st;exact⟨k z #[4] _ J,k TI #[4] _ L,⟨a,b',k TO #[4] _ M⟩,Src.at_keep (fun o e=>k i1 #[4] o e) N,Src.at_keep (fun o e=>k i2 #[4] o e) O⟩
 item:=by
  intro X hP hw hK f i U s σ H E I g st hg;subst hP hw hK;obtain⟨J,L,⟨a,b',M⟩,N,O⟩:=st;obtain⟨xs,ys,B,C,l1,l2⟩:=hg;obtain⟨dk,r1,m1,f1⟩:=I.src B;obtain⟨dG,r2,m2,f2⟩:=I.src C;have T:=g z #[4];have D:TR z TI TO i1 i2 S1 S2:=⟨Q,Y,Z,d4,d5,d6,d7,d8,d9,iD,I.src_off T B,I.src_off (g TO #[4]) B,I.src_off (g i1 #[4]) B,I.src_off (g i2 #[4]) B,
   I.src_off T C,I.src_off (g TO #[4]) C,I.src_off (g i1 #[4]) C,I.src_off (g i2 #[4]) C⟩
  refine Zmd D J L M N O r1 r2 #[2] #[2] fun R tk x y fx fy a1 a2 a3 a4 a5 a6 a7=>?_;have rx:=f1 i x _ fx (Qb l1);have ry:=f2 i y _ fy (Qb l2);refine⟨_,rfl,wpAny_letOwnedTupleGo_zip a1 fun iF qh je=>?_⟩;have G:Heap.SameBut z R iF:=je;have qi:IsPair R TI (.ref i1) (.ref i2):=a7 _ _ Q d5 d6 d7 L;have lt:∀ {b:Addr} {o:Obj},s.heap.get? b=some o→s.heap.objs.size≠b:=fun e=>Q1 (Qi e);have zK:s.heap.objs.size≠z:=lt J;have I2:Inv X U σ (upd H s.heap.objs.size (.tup [xs[i],ys[i]])) { s with heap:=iF,toks:=tk }:=by
   refine I.zipped (fp:=[z,TI,TO,i1,i2]) g rx ry (G.extBut _ _ zK a5) (fun b j=>?_) fun c o f e=>?_
   ·simp only[List.mem_cons,List.not_mem_nil,or_false]at j;rcases j with rfl|rfl|rfl|rfl|rfl
    ·exact⟨_,qh⟩
    ·exact⟨_,G.extBut _ _ Q qi⟩
    ·exact⟨_,G.extBut _ _ Y a2⟩
    ·obtain⟨o,A,e,_⟩:=Src.at_obj a3;exact⟨o,G.extBut _ _ Z e⟩
    ·obtain⟨o,A,e,_⟩:=Src.at_obj a4;exact⟨o,G.extBut _ _ d4 e⟩
   ·simp only[List.mem_cons,List.not_mem_nil,or_false,not_or]at f;exact G.extBut _ _ f.1 (a7 c o f.1 f.2.2.1 f.2.2.2.1 f.2.2.2.2 e)
  refine⟨.ref s.heap.objs.size,_,I2,rfl,⟨s.heap.objs.size,I.fresh,rfl,fun zL gR w1 w2 x' y' e1 e2=>?_⟩,⟨qh,G.extBut _ _ Q qi,⟨_,_,G.extBut _ _ Y a2⟩,Src.at_keep (fun o e=>G.extBut _ o Z e) a3,Src.at_keep (fun o e=>G.extBut _ o d4 e) a4⟩,fun b j=>?_⟩
  ·have same:∀ {S:Src} {us A:List V},S.its X.K H us→S.its X.K H A→us=A:=fun {S us A} p q=>by
    cases S with
    | l a=>exact I.list_inj p q
    | t a=>exact I.tuple_inj p q
    | s z=>rw[show us=_ from p,show A=_ from q]
   have e3:=same w1 B;have e4:=same w2 C;subst e3;subst e4;rw[Qb l1]at e1;rw[Qb l2]at e2;cases e1;cases e2;rfl
  ·rw[Zb (fun e=>by
    obtain⟨o,e1,_⟩:∃o,s.heap.get? b=some o∧True:=by
     simp only[List.mem_cons,List.not_mem_nil,or_false]at j;rcases j with rfl|rfl|rfl|rfl|rfl
     ·exact⟨_,J,trivial⟩
     ·exact⟨_,L,trivial⟩
     ·exact⟨_,M,trivial⟩
     ·obtain⟨o,A,e,_⟩:=Src.at_obj N;exact⟨o,e,trivial⟩
     ·obtain⟨o,A,e,_⟩:=Src.at_obj O;exact⟨o,e,trivial⟩
    exact lt e1 e.symm)]
   exact(g b j).1
 done:=by
  intro X hP hw hK f i U s σ H E I g st hg;subst hP hw hK;obtain⟨J,L,⟨a,b',M⟩,N,O⟩:=st;obtain⟨xs,ys,B,C,l⟩:=hg;obtain⟨dk,r1,m1,f1⟩:=I.src B;obtain⟨dG,r2,m2,f2⟩:=I.src C;have T:=g z #[4];have D:TR z TI TO i1 i2 S1 S2:=⟨Q,Y,Z,d4,d5,d6,d7,d8,d9,iD,I.src_off T B,I.src_off (g TO #[4]) B,I.src_off (g i1 #[4]) B,I.src_off (g i2 #[4]) B,
   I.src_off T C,I.src_off (g TO #[4]) C,I.src_off (g i1 #[4]) C,I.src_off (g i2 #[4]) C⟩
  refine Znr (I.ok.hd f) D J L M N O r1 r2 #[2] fun R tk hk=>⟨rfl,?_⟩;have W:∀c o,c ∉ [z,TI,TO,i1,i2]→s.heap.get? c=some o→R.get? c=some o:=fun c o f e=>by simp only[List.mem_cons,List.not_mem_nil,or_false,not_or]at f;exact hk c o f.1 f.2.2.1 f.2.2.2.1 f.2.2.2.2 e
  have mB:∀b u,H b=some u→b ∉ [z,TI,TO,i1,i2]:=fun b u e j=>by rw[(g b j).1]at e;cases e
  refine I.step (g':=s.gens) (d':=s.drawn) (ch:=[z,TI,TO,i1,i2]) (fun b j=>⟨(g b j).2.2.2.1,(g b j).2.1,(g b j).2.2.2.2.1,(g b j).2.2.2.2.2⟩)
   (fun b F _ _ f e _=>W b F f e) (fun b F _ _ f e _=>⟨F.slots,W b F f e⟩) (fun b F _ e n=>n) (fun b F f e=>⟨F,W b F f e⟩)
   (fun b xs e=>e) (fun b F u e=>e) (fun b ps e=>⟨#[],by rw[e];simp⟩) (fun m hm=>?_) (fun b ub e=>?_) I.bare
  ·obtain⟨F,es,ep,ho,r⟩:=hm;exact⟨F,es,ep,W _ F (fun z=>(g _ z).2.1 rfl) ho,r⟩
  ·refine(I.hok b ub e).stay (fun c w' f q=>W c w' ?_ q) (fun c q=>q) fun c xs q=>q;rcases f with z'|z'
   ·rw[z'];exact mB b ub e
   ·exact mB c _ z'
 self:=fun _ _ _ _ _ st h=>wpAny_pyIter_zip st.1 h
def NH(K:#[7])(b:TA):TI:=fun c H R=>b c H fun vs a=>∃S1 S2 xs ys,vs=[Src.val S1,Src.val S2]∧S1.its K a xs∧S2.its K a ys∧R (Itz K S1 S2) a
theorem ZqY{X:Cx}{a b:Expr}{i:TA}{p pos:Pos}{y:List Expr}{A:Nat}{B:Pos}(C:Gl X "zip")(hm:X.mg "zip" = none)(ha:PA X [a,b] i)
  (D:starEach [a,b] X.env=[(false,eval a X.env),(false,eval b X.env)]:=by rfl) (j:starEach [b] X.env=[(false,eval b X.env)]:=by rfl) :
  PI X (.Tuple y A B) (.Call (.Name "zip" p) [a,b] [] pos) (NH X.K i):=by
 intro U s k H R I h;refine Call_ (Wu I C hm boot_zip (QV (thn (ha pos U s k H _ I h) ?_) (by rw[D,j]) (by rw[j];rfl)));rintro us c ⟨vs,m,d,f,E⟩;obtain⟨S1,S2,xs,ys,e,F,G,q⟩:=E;subst e;obtain⟨u1,u2,rfl,J,K⟩:=f.two;have o:∀ {S:Src} {u:Value},ZI S.val u→∃g,u=S.value g:=fun {S u} r=>by
  cases S with
  | l a=>exact⟨0,r⟩
  | t a=>exact⟨0,r⟩
  | s z=>obtain⟨g,e⟩:=r;exact⟨g,e⟩
 obtain⟨t1,rfl⟩:=o J;obtain⟨t2,rfl⟩:=o K;obtain⟨dk,f,m1,f1⟩:=d.src F;obtain⟨dG,L,m2,f2⟩:=d.src G;refine Zm3 f L fun M v N O a1 a2 a3 P=>wpAny_pyIter_zip v ?_;have Q:Inv X U k m { c with heap:=M }:=d.kept (t':=c.toks) P;have n:=c.heap.objs.size;refine⟨_,_,_,_,m,rfl,Q,Znz (S1:=S1) (S2:=S2) (z:=c.heap.objs.size+4) (TI:=c.heap.objs.size+2) (TO:=c.heap.objs.size+3) (i1:=c.heap.objs.size) (i2:=c.heap.objs.size+1)
  (Qz (Qaf #[6] _)) (Qz (Qaf #[6] _)) (Qz (Qas #[6])) (Qz (Qaf #[6] _))
  (Qz (Qaf #[6] _)) (Q1 (Qas #[6])) (Q1 (Qaf #[6] _)) (Q1 (Qas #[6]))
  (Q1 (Qaf #[6] _)) (Qz (Qas #[6])),⟨v,N,⟨_,_,O⟩,a1,a2⟩,fun b w=>?_,q⟩
 have x:c.heap.objs.size≤b:=by
  simp only[List.mem_cons,List.not_mem_nil,or_false]at w;rcases w with rfl|rfl|rfl|rfl|rfl
  ·exact QaE _ 4
  ·exact QaE _ 2
  ·exact QaE _ 3
  ·exact Qg _
  ·exact QaE _ 1
 exact d.fpOk x (d.hok.fresh x)
section
variable {X:Cx} (K:#[7])
theorem ixL(h:X.K=K:=by rfl):IxR X (NX K):=by subst h;exact Zol
theorem ixT(h:X.K=K:=by rfl):IxR X (NW K):=by subst h;exact ZqB
theorem slL(h:X.K=K:=by rfl):SlR X (NU K):=by subst h;exact Zn5
def ZrY:List V→Hp→VK→Prop:=fun xs H Q=>∃p ys,xs=[.ref p]∧(SqL K H p ys∨SqT K H p ys)∧Q (.int ys.length) H
theorem YB(h:X.K=K:=by rfl):YW X (.builtin "len") (ZrY K):=by subst h;exact Zh6
theorem Xg(h:X.K=K:=by rfl):YW X (.builtin "isinstance") (NK K):=by subst h;exact Zm0
theorem Zra(h:X.K=K:=by rfl):YW X (.builtin "isinstance") (NJ K):=by subst h;exact Zl5
def ZrT:List V→Hp→VK→Prop:=fun xs H Q=>∃ (p:Addr) (bs:List Bool),xs=[.ref p]∧SqL K H p (bs.map V.bl)∧Q (.bl (bs.all id)) H
theorem Zsf(hc:X.calm=true:=by rfl)(h:X.K=K:=by rfl):YW X (.builtin "all") (ZrT K):=by subst h;exact ZnX hc
def Zrk:List V→Hp→VK→Prop:=fun xs H Q=>∃ (p:Addr) (ss:List Str),xs=[.ref p]∧SqL K H p (ss.map V.str)∧ss.length<64 ∧
  ∀ (l:Addr) (a:List Str),H l=none→a.Perm ss→sortedS a=true→Q (.ref l) (upd H l (.lst (a.map V.str)))
theorem Zsr(h:X.K=K:=by rfl):YW X (.builtin "sorted") (Zrk K):=by subst h;exact Zh8
def ZrQ:V→List V→Hp→VK→Prop:=fun x vs H Q=>∃ (sep:Str) (p:Addr) (ys:List Str),x=.str sep∧vs=[.ref p]∧SqL K H p (ys.map V.str)∧(ys.map (·.length)).sum+ys.length*sep.length≤16777216∧Q (.str (Txt.join sep ys)) H
theorem Zq7(h:X.K=K:=by rfl):MtR X "str.join" (ZrQ K):=by subst h;exact ZoZ
theorem iL{b l:Expr}{a:TE}(hl:PE X l a)(h:X.K=K:=by rfl):PI X b l (Ot K a):=by subst h;exact ZoF hl
theorem iT{b l:Expr}{a:TE}(hl:PE X l a)(h:X.K=K:=by rfl):PI X b l (Oq K a):=by subst h;exact ZpY hl
theorem gT{a:List Expr}{k:Nat}{t:TGs}{n:Nat}{pos:Pos}(h:PGs X a t)(b:X.K=K:=by rfl)(hc:X.calm=true:=by rfl)
  (c:(assignEach a X.env).length=n:=by rfl) (d:(assignEach a X.env).findIdx? (·.1)=none:=by rfl):PG X (.Tuple a k pos) (Ou K n t):=by subst b;exact ZqJ hc h c d
theorem iZ{a b:Expr}{c:TA}{p pos:Pos}{d:List Expr}{e:Nat}{f:Pos}(hm:X.mg "zip" = none)(ha:PA X [a,b] c)(g:Gl X "zip":=by rfl)(h:X.K=K:=by rfl)
  (i:starEach [a,b] X.env=[(false,eval a X.env),(false,eval b X.env)]:=by rfl) (j:starEach [b] X.env=[(false,eval b X.env)]:=by rfl) :
  PI X (.Tuple d e f) (.Call (.Name "zip" p) [a,b] [] pos) (NH K c):=by subst h;exact ZqY g hm ha i j
end
structure Df (P:Program) (w:World) (K:#[7]) (mg:Str→Option Value) (base:Heap) (k:Nat) (x:Str) (ps:List Str) (sp:Sp):Prop where
 ex:∃f fd,YC P w K mg base CX0 k f fd ps sp∧mg x=some (.ref f)∧PySem.W.keepIn K (.ref f)=true∧Ys K fd ps []
section
variable {P:Program} {w:World} {K:#[7]} {mg:Str→Option Value} {base:Heap}
structure Top (K:#[7]) (mg:Str→Option Value) (x:Str) (st:Stmt) (ps:List Str):Prop where
 ex:∃f fd,Fun K x x st f fd∧mg x=some (.ref f)∧Ys K fd ps []
theorem Top.df{x:Str}{st:Stmt}{N ps:List Str}{k:Nat}{sp:Sp}(T:Top K mg x st ps)(S:Zp N ps (Zg st))(len:∀vs H Q E,sp vs H Q E→vs.length=ps.length)
  (c:∀ (a:Value) (f:Addr) (A:Around) (outer:List Env) (s:Shared) (H:Hp) (vs:List V) (Q:VK) (E:XK),Y4 k (A.deeper (envOfC x (Zg st) s.heap.objs.size f a))→sp vs H Q E →
   ∃t,PSs (XQ CX0 P w K mg base N x (Zg st) f a A outer s H E).nox (Zm st) t∧t { nx:=fun _ d=>Q .non d,rt:=Q } (Xs N vs) H):Df P w K mg base (k+1) x ps sp:=by
 obtain⟨f,e,F,m,b⟩:=T.ex;exact⟨f,e,F.ok S len (fun a A outer s H vs Q E g h=>c a f A outer s H vs Q E g h),m,F.kp,b⟩
end
section
variable {X:Cx} {k j:Nat} {x:Str} {ps:List Str} {sp:Sp} {e:Expr} {es:List Expr} {t:TA} {p pos:Pos}
theorem Zw(F:Df X.prog X.w X.K X.mg X.base k x ps sp)(a:Y4 j X.A)(ha:PA X (e::es) t)(c:k≤j:=by decide)(d:Gl X x:=by rfl)(g:(x == ("__debug__" : Str))=false:=by decide)
  (h:starEach (e::es) X.env=(false,eval e X.env)::starEach es X.env:=by rfl) (i:(backTo pos (starEach es X.env)).any (·.1)=false:=by rfl) :
  PE X (.Call (.Name x p) (e::es) [] pos) (N9 sp [] E0 t):=by
 obtain⟨f,fd,F,m,l,b⟩:=F.ex;exact Zos F (a.mono c) d m l b .nil TW ha g h i
theorem X1{T:String}(hm:X.mg x=none)(a:bootBuiltins x=some (.type T))(b:Gl X x:=by rfl)(c:x ≠ "__name__":=by decide)(hd:(x == ("__debug__" : Str))=false:=by decide):PE X (.Name x pos) (tC (.ty T)) :=
 Zn7 b hm a rfl c hd
end
theorem R7{lo:Int}{n k:Nat}{D:Addr}{a:St}{c:Hp}{g:TG}{d:TE}{Q:VK}(Pv:Nat→List V→St→Hp→Prop)(h0:Pv 0 [] (a++List.replicate k none) (upd c D (.lst [])))
  (j:∀i ys a H,i<n→Pv i ys a H→g (.int (lo+i)) a H fun f l=>d f l fun y h=>h D=some (.lst ys)∧ys.length<sizeLine∧Pv (i+1) (ys++[y]) f (upd h D (.lst (ys++[y]))))
  (hd:∀ys a H,Pv n ys a H→Q (.ref D) H):Wo (Itr lo n) D k a c g VS d Q:=by
 refine⟨fun i m ys a H=>m=n-i∧i≤n∧Pv i ys a H,⟨n,by simp,Qs _,h0⟩,?_⟩;rintro i m ys a H ⟨rfl,hi,p⟩;by_cases b:i<n
 ·refine .inr ⟨b,Pv (i+1),fun gR ao o q=>⟨n-(i+1),by lia,rfl,b,q⟩,fun x o y=>?_⟩;obtain⟨e,y⟩:=y;subst e y;simp only[VS,↓reduceIte];exact j i ys a _ b p
 ·have e:i=n:=by lia
  subst e;exact .inl ⟨Qg _,hd ys a H p⟩
theorem NG{K:#[7]}{S1 S2:Src}{xs ys:List V}{k:Nat}{D:Addr}{a:St}{d:Hp}{g:TG}{f:TE}{Q:VK}(Pv:Nat→List V→St→Hp→Prop)(h0:Pv 0 [] (a++List.replicate k none) (upd d D (.lst [])))
  (hl:∀i zs a H,Pv i zs a H→S1.its K H xs∧S2.its K H ys)
  (l:∀i zs a H x y p,xs[i]? = some x→ys[i]? = some y→Pv i zs a H→H p=none→g (.ref p) a (upd H p (.tup [x,y])) fun h n=>f h n fun z j=>j D=some (.lst zs)∧zs.length<sizeLine∧Pv (i+1) (zs++[z]) h (upd j D (.lst (zs++[z]))))
  (hd:∀zs a H,Pv (min xs.length ys.length) zs a H→Q (.ref D) H):Wo (Itz K S1 S2) D k a d g VS f Q:=by
 refine⟨fun i m zs a H=>m=min xs.length ys.length-i∧i≤min xs.length ys.length∧Pv i zs a H,⟨min xs.length ys.length,by simp,Qs _,h0⟩,?_⟩;rintro i m zs a H ⟨rfl,hi,p⟩;obtain⟨b,c⟩:=hl i zs a H p;by_cases o:i<min xs.length ys.length
 ·have l1:i<xs.length:=by lia
  have l2:i<ys.length:=by lia
  refine .inr ⟨⟨xs,ys,b,c,l1,l2⟩,Pv (i+1),fun gR ao q s=>⟨min xs.length ys.length-(i+1),by lia,rfl,o,s⟩,fun x q y=>?_⟩;obtain⟨r,t,rfl,e⟩:=y;have u:=e xs ys b c _ _ (Qb l1) (Qb l2);subst u;simp only[VS,↓reduceIte];exact l i zs a H _ _ r (Qb l1) (Qb l2) p t
 ·have e:i=min xs.length ys.length:=by lia
  refine .inl ⟨⟨xs,ys,b,c,by lia⟩,hd zs a H (e ▸ p)⟩
section
variable {X:Cx} {N N':List Str} {o c:Scope} {x:Str} {pos:Pos} {C:Addr} {s:Shared} {H:Hp} {fp:List Addr}
theorem R6(S:YH N N' o c)(a:X.env.scope=o)(hl:c.names.lookup x=some .local):(Yf X c N' C s H fp).env.scope.names.lookup x=some .local:=by have e:=UO (X:=X) S a (Y1 X.env.cells c.names []) C x;rw[hl]at e;exact e
theorem Vq(S:YH N N' o c)(a:X.env.scope=o)(hl:c.names.lookup x=some .globalImplicit):Gl (Yf X c N' C s H fp) x:=by have e:=UO (X:=X) S a (Y1 X.env.cells c.names []) C x;rw[hl]at e;exact e
theorem Znt(S:YH N N' o c)(b:X.env.scope=o)(hl:c.names.lookup x=some .free):Vis (Yf X c N' C s H fp).env.scope x:=by
 have e:=UO (X:=X) S b (Y1 X.env.cells c.names []) C x;rw[hl]at e;have a:(Yf X c N' C s H fp).env.scope.names.lookup x=if X.env.kindOf x=some .cell then some NameKind.cell else some NameKind.free:=e
 by_cases z:X.env.kindOf x=some .cell
 ·rw[if_pos z]at a;exact .inr (.inl a)
 ·rw[if_neg z]at a;exact .inr (.inr a)
theorem cv(i:Nat)(S:YH N N' o c)(a:X.env.scope=o)(hl:c.names.lookup x=some .free)(b:N'[i]? = some x:=by rfl)(hd:(x == ("__debug__" : Str))=false:=by decide)(d:(x == ("__classdict__" : Str))=false:=by decide) :
  PE (Yf X c N' C s H fp) (.Name x pos) (T3 i):=Su b (Znt S a hl) hd d
theorem cw(i:Nat)(S:YH N N' o c)(a:X.env.scope=o)(hl:c.names.lookup x=some .local)(b:N'[i]? = some x:=by rfl)(hd:(x == ("__debug__" : Str))=false:=by decide)(d:(x == ("__classdict__" : Str))=false:=by decide) :
  PE (Yf X c N' C s H fp) (.Name x pos) (T3 i):=Su b (.inl (R6 S a hl)) hd d
theorem cg(i:Nat)(S:YH N N' o c)(a:X.env.scope=o)(hl:c.names.lookup x=some .local)(b:N'[i]? = some x:=by rfl):PG (Yf X c N' C s H fp) (.Name x pos) (T1 i) :=
 ZD S.nd b (.inl (R6 S a hl)) (.inr (R6 S a hl))
end
mutual
inductive DV (K:#[7]) (H:Hp):V→PyData→Prop where
 | non:DV K H .non .none
 | bl (b:Bool):DV K H (.bl b) (.bool b)
 | int (i:Int):DV K H (.int i) (.int i)
 | str (s:Str):DV K H (.str s) (.str s)
 | lst {a:Addr} {xs:List V} {ds:List PyData}:SqL K H a xs→DVs K H xs ds→DV K H (.ref a) (.list ds)
 | tup {a:Addr} {xs:List V} {ds:List PyData}:SqT K H a xs→DVs K H xs ds→DV K H (.ref a) (.tuple ds)
inductive DVs (K:#[7]) (H:Hp):List V→List PyData→Prop where
 | nil:DVs K H [] []
 | cons {x:V} {d:PyData} {xs:List V} {ds:List PyData}:DV K H x d→DVs K H xs ds→DVs K H (x::xs) (d::ds)
end
section
variable {X:Cx} {U:List (Addr×Obj)} {σ:St} {H:Hp} {s:Shared}
mutual
theorem Inv.reads(I:Inv X U σ H s):∀ {x:V} {d:PyData} {u:Value},DV X.K H x d→ZI x u→∃a,Reads s.heap u d a
 | _,_,_,.non,r=>by cases r;exact⟨_,.none⟩
 | _,_,_,.bl b,r=>by cases r;exact⟨_,.bool b⟩
 | _,_,_,.int i,r=>by obtain⟨t,rfl⟩:=r;exact⟨_,.int i t⟩
 | _,_,_,.str z,r=>by obtain⟨t,rfl⟩:=r;exact⟨_,.str z t⟩
 | _,_,_,.lst h c,r=>by cases r;obtain⟨its,f,⟨o,n,e,g,_,j⟩,_⟩:=I.list h;obtain⟨a,q⟩:=Inv.readsAll I c f;exact⟨_,reads_list_at e g j (by simpa using q)⟩
 | _,_,_,.tup h c,r=>by cases r;obtain⟨its,f,⟨o,e,g,n,j⟩,_⟩:=I.tuple h;obtain⟨a,q⟩:=Inv.readsAll I c f;exact⟨_,reads_tuple_at e g j (by simpa using q)⟩
theorem Inv.readsAll(I:Inv X U σ H s):∀ {xs:List V} {ds:List PyData} {us:List Value},DVs X.K H xs ds→ZH xs us→∃a,ReadsAll s.heap us ds a
 | _,_,_,.nil,r=>by cases r;exact⟨_,.nil⟩
 | _,_,_,.cons h b,r=>by
  cases r with
  | cons c d=>obtain⟨a,e⟩:=Inv.reads I h c;obtain⟨bs,f⟩:=Inv.readsAll I b d;exact⟨_,.cons e f⟩
end
def TQ(K:#[7])(a:Bool):R2:=fun x y H Q=>∃d e,DV K H x d∧DV K H y e∧SeqAt.shaped d=true∧SeqAt.shaped e=true∧Q (.bl (if a then !PyData.eqv d e else PyData.eqv d e)) H
theorem Zq1(hu:X.A.units+64<cLine):OpR X (compareOp .Eq) (TQ X.K false):=by intro U s σ H x y v u Q I a b h;obtain⟨d,e,c,f,g,i,q⟩:=h;obtain⟨as,j⟩:=I.reads c a;obtain⟨bs,k⟩:=I.reads f b;exact eq_dataH j k g i hu ⟨.bl _,H,I,rfl,q⟩
theorem ZqM(hu:X.A.units+64<cLine):OpR X (compareOp .NotEq) (TQ X.K true):=by intro U s σ H x y v u Q I a b h;obtain⟨d,e,c,f,g,i,q⟩:=h;obtain⟨as,j⟩:=I.reads c a;obtain⟨bs,k⟩:=I.reads f b;exact ne_dataH j k g i hu ⟨.bl _,H,I,rfl,q⟩
end
theorem eqD{X:Cx}(K:#[7]){k:Nat}(a:Y4 k X.A)(h:X.K=K:=by rfl):OpR X (compareOp .Eq) (TQ K false):=by subst h;exact Zq1 a.units
theorem neD{X:Cx}(K:#[7]){k:Nat}(a:Y4 k X.A)(h:X.K=K:=by rfl):OpR X (compareOp .NotEq) (TQ K true):=by subst h;exact ZqM a.units
mutual
theorem DV.mono{K:#[7]}{H c:Hp}(s:ZG H c):∀ {x:V} {d:PyData},DV K H x d→DV K c x d
 | _,_,.non=>.non
 | _,_,.bl b=>.bl b
 | _,_,.int i=>.int i
 | _,_,.str z=>.str z
 | _,_,.lst h a=>.lst (s.seq h) (DVs.mono s a)
 | _,_,.tup h a=>.tup (by
   rcases h with(h|⟨ob,h⟩)|h
   ·exact .inl (.inl (s _ _ h))
   ·exact .inl (.inr ⟨ob,s _ _ h⟩)
   ·exact .inr h) (DVs.mono s a)
theorem DVs.mono{K:#[7]}{H a:Hp}(s:ZG H a):∀ {xs:List V} {ds:List PyData},DVs K H xs ds→DVs K a xs ds
 | _,_,.nil=>.nil
 | _,_,.cons h b=>.cons (DV.mono s h) (DVs.mono s b)
end
noncomputable def Ite(K:#[7])(a:Addr):It :=
 ⟨fun i H=>∃b,SqL K H a b∧i<b.length,
  fun i H v c=>∃p,H p=none∧v=.ref p∧∀b,SqL K H a b→∀x,b[i]? = some x→c=upd H p (.tup [.int i,x]),
  fun i H=>∃b,SqL K H a b∧b.length≤i⟩
theorem ZlZ{P:Program}{w:World}{K:#[7]}{N:List Expr}{O:Nat}{Q:Pos}{a e it:Addr}(D:e≠it) :
  WK P w K (.Tuple N O Q) (Ite K a) [e,it] e (fun i h=>(∃old,IsEnum h e it i old)∧h.IsListIter it a i) where
 mem:=by simp
 obj:=fun i h st b d=>by
  obtain⟨⟨old,f⟩,o,g,j,R⟩:=st;simp only[List.mem_cons,List.not_mem_nil,or_false]at d;rcases d with rfl|rfl
  ·exact⟨_,f,fun v z=>by cases z⟩
  ·exact⟨o,g,fun v z=>by rw[R]at z;cases z⟩
 keep:=fun i h n st k=>by obtain⟨⟨old,f⟩,g⟩:=st;exact⟨⟨old,k e #[4] _ f⟩,g.at fun o q=>k it #[4] o q⟩
 item:=by
  intro X p hw r j i U s F H E I l st t;subst p hw r;obtain⟨⟨old,f⟩,g⟩:=st;obtain⟨G,m,l1⟩:=t;obtain⟨its,y,A,_⟩:=I.list m;obtain⟨u,S,T⟩:=y.get (Qb l1);refine wpAny_pyNext_enum_item f g A.isList (x:=u) (by simpa using S) D fun n a1 a2 a3 a4 a5=>?_;have lt:∀ {b:Addr} {o:Obj},s.heap.get? b=some o→s.heap.objs.size≠b:=fun q=>Q1 (Qi q);have V:s.heap.objs.size≠e:=lt f;refine⟨_,rfl,wpAny_letOwnedTupleGo_enum a1 fun B J W=>?_⟩;have C:Heap.SameBut e n B:=W;have L:B.IsListIter it a (i+1):=a2.extBut C.extBut D.symm;have Y:Inv X U F (upd H s.heap.objs.size (.tup [.int i,G[i]])) { s with heap:=B,toks:=s.toks+1 }:=by
   refine I.zipped (fp:=[e,it]) (u:=.int i s.toks) (v:=u) l ⟨_,rfl⟩ T (C.extBut _ _ V a3) (fun b d=>?_) fun c o j q=>?_
   ·simp only[List.mem_cons,List.not_mem_nil,or_false]at d;rcases d with rfl|rfl
    ·exact⟨_,J⟩
    ·obtain⟨o,q,_⟩:=L;exact⟨o,q⟩
   ·simp only[List.mem_cons,List.not_mem_nil,or_false,not_or]at j;exact C.extBut _ _ j.1 (a5 c o j.1 j.2 q)
  refine⟨.ref s.heap.objs.size,_,Y,rfl,⟨s.heap.objs.size,I.fresh,rfl,fun zL Z x' M=>?_⟩,⟨⟨_,J⟩,L⟩,fun b d=>?_⟩
  ·have e3:=I.list_inj Z m;subst e3;rw[Qb l1]at M;cases M;rfl
  ·rw[Zb (fun z=>by
    obtain⟨o,q⟩:∃o,s.heap.get? b=some o:=by
     simp only[List.mem_cons,List.not_mem_nil,or_false]at d;rcases d with rfl|rfl
     ·exact⟨_,f⟩
     ·obtain⟨o,q,_⟩:=g;exact⟨o,q⟩
    exact lt q z.symm)]
   exact(l b d).1
 done:=by intro X p hw r j i U s F H E I l st t;subst p hw r;obtain⟨⟨old,f⟩,g⟩:=st;obtain⟨G,m,l1⟩:=t;obtain⟨its,y,A,_⟩:=I.list m;obtain⟨f0,f1,f2,f3,f4,f5⟩:=l it #[4];have hl:=y.length;exact wpAny_pyNext_enum_end (I.ok.hd j) f g A.isList (by rw[Qan];exact QL #[2]) fun n eb=>⟨rfl,I.turned (t':=s.toks) (fun b o d q=>eb b o d q) f0 f1 f3 f4 f5⟩
 self:=fun _ _ _ _ _ st h=>by obtain⟨⟨old,f⟩,_⟩:=st;exact wpAny_pyIter_enum f h
def NF(K:#[7])(c:TA):TI:=fun d H R=>c d H fun vs b=>∃a xs,vs=[V.ref a]∧SqL K b a xs∧R (Ite K a) b
theorem Zn9{X:Cx}{l:Expr}{f:TA}{p pos:Pos}{n:List Expr}{o:Nat}{r:Pos}(t:Gl X "enumerate")(hm:X.mg "enumerate" = none)(ha:PA X [l] f)
  (v:starEach [l] X.env=[(false,eval l X.env)]:=by rfl):PI X (.Tuple n o r) (.Call (.Name "enumerate" p) [l] [] pos) (NF X.K f):=by
 intro U s g H R I h;refine Call_ (Wu I t hm boot_enumerate (QV (thn (ha pos U s g H _ I h) ?_) v rfl));rintro us c ⟨vs,i,d,w,x⟩;obtain⟨a,xs,e,y,q⟩:=x;subst e;obtain⟨u,rfl,z⟩:=w.one;cases z;obtain⟨its,rv,A,_⟩:=d.list y;refine call_enumerate_list A.isList fun B j C hsz D=>wpAny_pyIter_enum j ?_;have E:Inv X U g i { c with heap:=B }:=d.kept (t':=c.toks) D;refine⟨_,_,_,_,i,rfl,E,ZlZ (a:=a) (e:=c.heap.objs.size+1) (it:=c.heap.objs.size) (Q1 (Nat.lt_succ_self _)),⟨⟨_,j⟩,C⟩,fun b k=>?_,q⟩;have m:c.heap.objs.size≤b:=by
  simp only[List.mem_cons,List.not_mem_nil,or_false]at k;rcases k with rfl|rfl
  ·exact QaE _ 1
  ·exact Qg _
 exact d.fpOk m (d.hok.fresh m)
theorem iE{X:Cx}(K:#[7]){l:Expr}{a:TA}{p pos:Pos}{b:List Expr}{c:Nat}{d:Pos}(hm:X.mg "enumerate" = none)(ha:PA X [l] a)(e:Gl X "enumerate":=by rfl)(f:X.K=K:=by rfl)
  (g:starEach [l] X.env=[(false,eval l X.env)]:=by rfl):PI X (.Tuple b c d) (.Call (.Name "enumerate" p) [l] [] pos) (NF K a):=by subst f;exact Zn9 e hm ha g
theorem R5{K:#[7]}{a:Addr}{xs:List V}{g:TG}{l:TS}{D:XH}{b:St}{H:Hp}(Pv:Nat→St→Hp→Prop)(h0:Pv 0 b H)(hl:∀i b H,Pv i b H→SqL K H a xs)
  (o:∀i x b H p,xs[i]? = some x→Pv i b H→H p=none→g (.ref p) b (upd H p (.tup [.int i,x])) fun f h=>l { D with nx:=Pv (i+1),ct:=Pv (i+1),bk:=D.nx } f h) (hd:∀b H,Pv xs.length b H→D.nx b H) :
  ∃W:Nat→Nat→St→Hp→Prop,(∃m,W 0 m b H)∧∀i m b H,W i m b H →
   ((Ite K a).stop i H∧D.nx b H)∨((Ite K a).go i H∧∃N:St→Hp→Prop,(∀j c,N j c→∃n,n<m∧W (i+1) n j c)∧∀x c,(Ite K a).yld i H x c→g x b c fun f h=>l { D with nx:=N,ct:=N,bk:=D.nx } f h):=by
 refine⟨fun i m b H=>m=xs.length-i∧i≤xs.length∧Pv i b H,⟨xs.length,by simp,Qs _,h0⟩,?_⟩;rintro i m b H ⟨rfl,hi,p⟩;have k:=hl i b H p;by_cases d:i<xs.length
 ·refine .inr ⟨⟨xs,k,d⟩,Pv (i+1),fun j c q=>⟨xs.length-(i+1),by lia,rfl,d,q⟩,fun x c y=>?_⟩;obtain⟨r,s,rfl,e⟩:=y;have t:=e xs k _ (Qb d);subst t;exact o i _ b H r (Qb d) p s
 ·have e:i=xs.length:=by lia
  exact .inl ⟨⟨xs,k,by lia⟩,hd b H (e ▸ p)⟩
def ZqN(K:#[7]):List V→Hp→VK→Prop:=fun xs H Q=>∃p ys,xs=[.ref p]∧(SqL K H p ys∨SqT K H p ys)∧∀l,H l=none→Q (.ref l) (upd H l (.lst ys))
theorem UN{X:Cx}(K:#[7])(h:X.K=K:=by rfl):YW X (.type "list") (ZqN K):=by subst h;exact Zh9
section
variable {prog:Program} {w:World} {A:Around} {E:Value→Shared→Prop} {s:Shared}
theorem NE{it t:Addr}{items:Array Value}(c:t≠it):∀ (n i:Nat) (s:Shared) (Q:List Value→Shared→Prop),s.heap.IsListIter it t i→s.heap.IsList t items→i+n≤items.size →
  (∀h',h'.IsListIter it t (i+n)→Heap.SameBut it s.heap h'→Q ((items.toList.drop i).take n) { s with heap:=h' })→wpAny (model prog w) A (draw (.ref it) n) Q E s
 | 0,i,s,Q,a,_,_,b=>by show wpAny _ _ (pure []) Q E s;exact wpAny_pure (by simpa using b s.heap a (Heap.SameBut.refl ..))
 | n+1,i,s,Q,a,d,uV,b=>by
  have e:i<items.size:=by lia
  show wpAny _ _ (pyNext (.ref it) >>= _) Q E s;refine wpAny_bind (wpAny_pyNext_list_item a d (x:=items[i]) (by simp[e]) fun aR g f=>?_);refine wpAny_bind (wpAny_holding (NE c n (i+1) _ _ g (d.extBut f.extBut c) #[2] fun h j k=>wpAny_pure ?_));have l:items.toList.drop i=items[i]::items.toList.drop (i+1):=by simp[List.drop_eq_getElem_cons,e]
  have:=b h (by rw[show i+(n+1)=i+1+n by lia];exact j) (f.trans k);rw[l,List.take_succ_cons]at this;exact this
theorem Zft{t:Addr}{items:Array Value}{Q:List Value→Shared→Prop}(g:A.handled=none)(a:s.heap.IsList t items)
  (h:∀h',Heap.ExtBut s.heap.objs.size s.heap h'→Q items.toList { s with heap:=h' }):wpAny (model prog w) A (unpackItems (.ref t) items.size none) Q E s:=by
 have c:t≠s.heap.objs.size:=by obtain⟨o,i,_⟩:=a;exact Qz (Qi i)
 unfold unpackItems;refine wpAny_bind ?_
 ·unfold notIterableAtAll;refine wpAny_bind (wpAny_specialOf a.typeIs slot_list_iter.lookup ?_);refine wpAny_pure ?_;simp only[Bool.false_eq_true,if_false];refine wpAny_bind (wpAny_holding (wpAny_pyIter_list a ?_));refine wpAny_bind (wpAny_holding (NE c items.size 0 _ _ ⟨_,Qm _ rfl,rfl,rfl⟩ (a.push _) #[2] fun j k d=>?_));have l:List.take items.size (List.drop 0 items.toList)=items.toList:=by rw[List.drop_zero];exact QC #[4]
  rw[l];rw[if_neg #[4]];have m:j.IsList t items:=(a.push _).extBut d.extBut c;refine wpAny_bind (wpAny_holding (wpAny_pyNext_list_end g k m #[4] fun n p=>?_));simp only[Option.isSome_none,Bool.false_eq_true,if_false];refine wpAny_pure (h n fun b o f e=>p b o f (d.extBut b o f (Qc _ e)))
theorem ZiX{t:Addr}{items:Array Value}{a:List (Bool×(Value→Sem Unit))}{Q:Unit→Shared→Prop}(b:A.handled=none)(c:s.heap.IsList t items)
  (d:a.length=items.size) (e:a.findIdx? (·.1)=none)
  (h:∀h',Heap.ExtBut s.heap.objs.size s.heap h'→wpAny (model prog w) A (assignInOrder (a.map (·.2)) items.toList) Q E { s with heap:=h' }) :
  wpAny (model prog w) A (unpack (.ref t) a) Q E s:=by
 unfold unpack;rw[d,e];exact wpAny_bind (wpAny_holding (Zft b c h))
theorem Ze7{env:Env}{a:List Expr}{b}{pos:Pos}{t:Addr}{items:Array Value}{Q:Unit→Shared→Prop}(c:A.handled=none)(d:s.heap.IsList t items)
  (e:(assignEach a env).length=items.size) (f:(assignEach a env).findIdx? (·.1)=none)
  (h:∀h',Heap.ExtBut s.heap.objs.size s.heap h'→wpAny (model prog w) A (assignInOrder ((assignEach a env).map (·.2)) items.toList) Q E { s with heap:=h' }) :
  wpAny (model prog w) A (assign (.Tuple a b pos) env (.ref t)) Q E s:=by
 rw[assign_Tuple];exact wpAny_bind (wpAny_standAt (ZiX c d e f h))
end
def Zsy(K:#[7])(n:Nat)(t:TGs):TG:=fun v b H Q=>∃a xs,v=.ref a∧SqL K H a xs∧xs.length=n∧t xs b H Q
theorem gL{X:Cx}(K:#[7]){c:List Expr}{k:Nat}{t:TGs}{n:Nat}{pos:Pos}(h:PGs X c t)(g:X.K=K:=by rfl)(hc:X.calm=true:=by rfl)
  (i:(assignEach c X.env).length=n:=by rfl) (j:(assignEach c X.env).findIdx? (·.1)=none:=by rfl):PG X (.Tuple c k pos) (Zsy K n t):=by
 subst g;intro U s d H v u Q I r hw;obtain⟨a,l,m,p,q,hw⟩:=hw;subst m;cases r;obtain⟨its,f,w,hz⟩:=I.list p;refine Ze7 (I.ok.hd hc) w.isList (by simp[i,← q,f.length]) j fun x y=>?_;have z:Inv X U d H { s with heap:=x }:=I.kept (t':=s.toks) fun b o e=>y b o (Qz (Qi e)) e;exact h U _ d H l _ Q z (by simpa using f) hw
noncomputable def Vp(xs:List V)(lo a:Option Int)(st:Int):List V :=
 (sliceRange (sliceBounds lo a (some st) xs.length).1 (sliceBounds lo a (some st) xs.length).2.1 (sliceBounds lo a (some st) xs.length).2.2).filterMap fun i=>xs[i]?
theorem ND{xs:List V}{us:List Value}(r:ZH xs us):∀is:List Nat,ZH (is.filterMap fun i=>xs[i]?) (is.filterMap fun i=>us[i]?)
 | []=>.nil
 | i::is=>by
  have b:=ND r is;by_cases c:i<xs.length
  ·have a:xs[i]? = some xs[i]:=Qb c;obtain⟨u,d,e⟩:=r.get a;rw[Q0,Q0,a,d];exact .cons e b
  ·have a:xs[i]? = none:=QL #[2];have f:us[i]? = none:=QL (by rw[← r.length];lia);rw[Q0,Q0,a,f];exact b
def R4(X:Cx)(r:V→Option Int→Option Int→Int→Hp→VK→Prop):Prop :=
 ∀ (U:List (Addr×Obj)) (s:Shared) (a:St) (H:Hp) (x:V) (v b c d:Value) (lo e:Option Int) (st:Int) (f:Addr) (Q:VK),Inv X U a H s→ZI x v→s.heap.IsSliceOf f b c d→IsPart b lo→IsPart c e→IsPart d (some st)→r x lo e st H Q →
  ∃T id,typeLookup (.type T) "__getitem__" = pure (some (.builtin id))∧s.TypeIs v T∧#[9,X] (getItem v (.ref f)) (EP X U a Q) X.xe s
def ZsF(r:V→Option Int→Option Int→Int→Hp→VK→Prop)(b:TE)(c d ts:TO):TE:=fun a H Q=>b a H fun x e=>c a e fun l f=>d a f fun u g=>ts a g fun k h=>∃i,k=some i∧r x l u i h Q
section
variable {X:Cx} {e st:Expr} {te:TE} {lo hi:Option Expr} {tl th ts:TO} {pos p2:Pos}
theorem ZlO{r:V→Option Int→Option Int→Int→Hp→VK→Prop}(n:R4 X r)(he:PE X e te)(hl:PO X lo tl)(hu:PO X hi th)(o:PO X (some st) ts):PE X (.Subscript e (.Slice lo hi (some st) p2) pos) (ZsF r te tl th ts):=by intro U s c H Q I h;refine Subscript_ (thn (he U s c H _ I h) ?_);rintro v p ⟨x,t,w,y,z⟩;refine wpAny_Slice (thn (hl U p c t _ w z) fun d A ⟨l,B,C,D,E⟩=>thn (hu U A c B _ C E) fun f F ⟨u,G,J,K,L⟩=>thn (o U F c G _ J L) ?_);rintro g a ⟨k,m,M,N,j⟩;obtain⟨i,rfl,j⟩:=j;have O:Inv X U c m { a with heap:=a.heap.push { cls:=.type "slice",data:=.fields #[d,f,g] } }:=M.kept (t':=a.toks) fun b ob q=>Qc _ q;obtain⟨T,id,P,R,S⟩:=n U { a with heap:=a.heap.push { cls:=.type "slice",data:=.fields #[d,f,g] } } c m x v d f g l u i a.heap.objs.size Q O y (Heap.IsSliceOf.new ..) D K N j;show #[9,X] (subscriptTail e (.Slice lo hi (some st) p2) v (.ref a.heap.objs.size)) (EP X U c Q) X.xe { a with heap:=a.heap.push { cls:=.type "slice",data:=.fields #[d,f,g] } };exact tail_any (ops:=[v,.ref a.heap.objs.size]) R P S (by with_unfolding_all rfl)
def NC(K:#[7]):V→Option Int→Option Int→Int→Hp→VK→Prop:=fun x lo hi st H Q=>∃a xs,x=.ref a∧SqL K H a xs∧st≠0∧∀p,H p=none→Q (.ref p) (upd H p (.lst (Vp xs lo hi st)))
theorem Zny:R4 X (NC X.K):=by
 intro U s σ H x v vl vu vs lo hi st sl Q I j k l m n h;obtain⟨a,c,rfl,p,t,q⟩:=h;cases j;obtain⟨its,r,f,u⟩:=I.list p;have g:=r.length;refine⟨"list",_,slot_list_getitem.lookup,f.isList.typeIs,?_⟩;refine wpAny_getItem_list_slice f.isList k l m n (by intro e;exact t (Qj e)) ?_ (by rw[QF]<;>lia);have d:=slicePick_size_le its.toArray lo hi (some st);have i:ZH (Vp c lo hi st) (slicePick its.toArray lo hi (some st)).toList:=by unfold slicePick Vp;simp only[List.size_toArray,← g];have:=ND r (sliceRange (sliceBounds lo hi (some st) c.length).1 (sliceBounds lo hi (some st) c.length).2.1 (sliceBounds lo hi (some st) c.length).2.2);simpa using this
 refine⟨.ref s.heap.objs.size,_,I.laid (t':=s.toks) (o:=.lst (Vp c lo hi st)) (fun b ob q=>Qc _ q) (Qg _) ?_,rfl,q _ (I.hok.fresh (Qg _))⟩;refine⟨?_,(slicePick its.toArray lo hi (some st)).toList,0,i,?_⟩
 ·have w:its.toArray.size=c.length:=by rw[QF];exact g.symm
  rw[i.length,QaI];exact Qw d (by rw[w];exact u)
 ·simpa using Qm _ rfl
theorem Zsn(K:#[7])(h:X.K=K:=by rfl):R4 X (NC K):=by subst h;exact Zny
end
theorem ZfT(n:Nat):sliceRange ((n:Int)-1) (-1) (-1)=(List.range n).map fun i=>n-1-i:=by
 unfold sliceRange;have a:(if (-1:Int)>0 then (if (n:Int)-1 < -1 then (-1-((n:Int)-1) + -1-1) / -1 else 0) else (if (n:Int)-1 > -1 then ((n:Int)-1 - -1 - -1-1) / (- -1) else 0)).toNat=n:=by
  rw[if_neg #[6]];by_cases h:(n:Int)-1 > -1
  ·rw[if_pos h,show (- -1:Int)=1 by decide,Int.ediv_one];lia
  ·rw[if_neg h];lia
 simp only[];rw[a];apply QN;intro k b;have:=Qak.mp b;lia
theorem Zhb{α:Type}(xs:List α):((List.range xs.length).map fun i=>xs.length-1-i).filterMap (fun i=>xs[i]?)=xs.reverse:=by
 rw[List.filterMap_map];have e:∀n,n≤xs.length→(List.range n).filterMap ((fun i=>xs[i]?) ∘ fun i=>xs.length-1-i)=xs.reverse.take n:=by
  intro n;induction n with
  | zero=>intro _;rfl
  | succ n b=>intro hn;rw[QaP,List.filterMap_append,b #[2]];have a:xs[xs.length-1-n]? = some xs[xs.length-1-n]:=Qb #[2];rw[Q0];simp only[Function.comp,a,List.filterMap_nil];rw[QH,List.getElem?_reverse #[2],a];rfl
 rw[e _ (Qg _)];exact QC #[4]
theorem Zlq(xs:List V):Vp xs none none (-1)=xs.reverse:=by have e:sliceRange (sliceBounds none none (some (-1)) xs.length).1 (sliceBounds none none (some (-1)) xs.length).2.1 (sliceBounds none none (some (-1)) xs.length).2.2=sliceRange ((xs.length:Int)-1) (-1) (-1):=rfl;unfold Vp;rw[e,ZfT,Zhb]
section
variable {X:Cx}
theorem inQ(K:#[7])(h:X.K=K:=by rfl):OpR X (compareOp .In) (rIn K false):=by subst h;exact ZlX
end
end L2
namespace L2
open PySem PySem.Spec PyProof.Rows
section
variable {X:Cx} {U:List (Addr×Obj)} {σ:St} {H:Hp} {s:Shared}
def ZrV:TE:=fun _ H Q=>∀p,H p=none→Q (.ref p) (upd H p (.dT []))
theorem NA{pos:Pos}:PE X (.Dict [] [] pos) ZrV:=by intro U s σ H Q I h;have a:sysModules<s.heap.objs.size:=Nat.lt_trans #[6] (show mainGlobals<s.heap.objs.size from(I.mod.glob.keeps I.bk).lt);refine wpAny_Dict_empty ⟨.ref s.heap.objs.size,upd H s.heap.objs.size (.dT []),?_,rfl,h _ (I.hok.fresh (Qg _))⟩;refine I.laid (t':=s.toks) (fun _ _ q=>Qc _ q) (Qg _) ?_;refine⟨Qs _,?_,[],.nil,_,#[],0,Qm _ rfl,⟨rfl,rfl,rfl⟩,rfl,rfl,List.nodup_nil⟩;exact beq_eq_false_iff_ne.mpr fun z=>Qab _ (z ▸ a)
end
noncomputable def Xr(lo:Int)(n:Nat):List Int:=(List.range n).map fun (k:Nat)=>lo+k
theorem UM(lo:Int)(n:Nat):(Xr lo n).length=n:=by simp[Xr]
section
variable {X:Cx}
theorem TN(ns:List Int):∀n,n≤ns.length→preSum (fun j=>ns.getD j 0) n=(ns.take n).sum
 | 0,_=>rfl
 | n+1,h=>by
  have a:=TN ns n #[2];have e:ns.take (n+1)=ns.take n++[ns.getD n 0]:=by rw[QH,Qb #[2],QE,Qb #[2]];rfl
  rw[e,List.sum_append,← a];simp[preSum]
end
section
variable {prog:Program} {w:World} {A:Around} {E:Value→Shared→Prop} {s:Shared} {κ:PyProof.Rows.KeyKind} {k0:SortKind} {eD:Array Keyed} {st:SortSt}
structure SB (k0:SortKind) (eD:Array Keyed) (st:SortSt):Prop where
 perm:(arrOf st).Perm eD
 kind:kindOf st=k0
 failed:failedOf st=none
 pend:pendingOf st = #[]
end
noncomputable def kLt:Key→Key→Bool
 | .inl i,.inl j=>decide (i<j)
 | .inr x,.inr y=>decide (x.cps.toList<y.cps.toList)
 | .inl _,.inr _=>true
 | .inr _,.inl _=>false
theorem ZjF:∀a:Key,kLt a a=false
 | .inl i=>decide_eq_false #[2]
 | .inr x=>decide_eq_false (List.lt_irrefl _)
theorem Zll:∀a b c:Key,kLt a b=true→kLt b c=true→kLt a c=true
 | .inl i,.inl j,.inl k,h1,h2=>by have:=of_decide_eq_true h1;have:=of_decide_eq_true h2;exact decide_eq_true #[2]
 | .inr x,.inr y,.inr z,h1,h2=>decide_eq_true (List.lt_trans (of_decide_eq_true h1) (of_decide_eq_true h2))
 | .inl _,.inl _,.inr _,_,_=>rfl
 | .inl _,.inr _,.inr _,_,_=>rfl
 | .inl _,.inr _,.inl _,_,h=>by cases h
 | .inr _,.inl _,_,h,_=>by cases h
 | .inr _,.inr _,.inl _,_,h=>by cases h
noncomputable def YM:List Key→List Key→Bool
 | [],[]=>false
 | [],_::_=>true
 | _::_,[]=>false
 | x::xs,y::ys=>if x=y then YM xs ys else kLt x y
theorem R3(x y:Key)(xs ys:List Key):YM (x::xs) (y::ys)=if x=y then YM xs ys else kLt x y:=rfl
theorem R0:∀a:List Key,YM a a=false
 | []=>rfl
 | x::r=>by unfold YM;rw[if_pos rfl];exact R0 r
theorem Nz:∀a b c:List Key,YM a b=true→YM b c=true→YM a c=true
 | [],[],_,h,_=>by cases h
 | [],_::_,[],_,h=>by cases h
 | [],_::_,_::_,_,_=>rfl
 | _::_,[],_,h,_=>by cases h
 | _::_,_::_,[],_,h=>by cases h
 | x::r,y::s,z::t,h1,h2=>by
  have i:=Nz r s t;unfold YM at h1 h2 ⊢;by_cases f:x=y
  ·rw[if_pos f]at h1;by_cases d:y=z
   ·rw[if_pos d]at h2;rw[if_pos (f.trans d)];exact i h1 h2
   ·rw[if_neg d]at h2;rw[if_neg (fun e=>d (f.symm.trans e)),f];exact h2
  ·rw[if_neg f]at h1;by_cases d:y=z
   ·rw[if_neg (fun e=>f (e.trans d.symm)),← d];exact h1
   ·rw[if_neg d]at h2;have g:=Zll _ _ _ h1 h2;rw[if_neg (fun e=>by rw[e,ZjF]at g;cases g)];exact g
noncomputable def Xy(ks:List Key):List Bool:=ks.map fun k=>k.isLeft
abbrev WF:=List (Addr×List Key)
noncomputable def VR(ts:WF):List V:=ts.map fun t=>V.ref t.1
def AtT(H:Hp)(ts:WF):Prop:=∀t∈ts,H t.1=some (.tup (t.2.map kV))
theorem Ny:∀ {ts:WF} {us:List Value},ZH (VR ts) us→us=ts.map fun t=>Value.ref t.1
 | [],_,h=>by cases h;rfl
 | t::r,_,h=>by
  cases h with
  | cons a b=>rw[Ny b];cases a;rfl
theorem Znc(A:Around)(s:Shared){k m:Key}{p q:Value}(a:ZI (kV k) p)(hq:ZI (kV m) q)(b:k.isLeft=m.isLeft):∃e,SeqAt.EqAt A s p q e∧(e=true↔k=m):=by
 cases k with
 | inl i =>
  cases m with
  | inl j=>obtain⟨t,rfl⟩:=a;obtain⟨u,rfl⟩:=hq;exact⟨_,SeqAt.EqAt.int_int i t j u,by simp⟩
  | inr y=>cases b
 | inr x =>
  cases m with
  | inl j=>cases b
  | inr y=>obtain⟨t,rfl⟩:=a;obtain⟨u,rfl⟩:=hq;exact⟨_,SeqAt.EqAt.str_str x t y u,by simp⟩
theorem ZmT(A:Around)(s:Shared){k m:Key}{p q:Value}(a:ZI (kV k) p)(hq:ZI (kV m) q)(b:k.isLeft=m.isLeft)(prog:Program)(w:World)(E:Value→Shared→Prop)(Q:Value→Shared→Prop)(h:Q (.bool (kLt k m)) s) :
  wpAny (model prog w) A (richCompare .Lt p q) Q E s:=by
 cases k with
 | inl i =>
  cases m with
  | inl j=>obtain⟨t,rfl⟩:=a;obtain⟨u,rfl⟩:=hq;exact(PyProof.Rows.lt_int h:wpAny (model prog w) A (compareOp .Lt (.int i t) (.int j u)) Q E s)
  | inr y=>cases b
 | inr x =>
  cases m with
  | inl j=>cases b
  | inr y=>obtain⟨t,rfl⟩:=a;obtain⟨u,rfl⟩:=hq;exact(PyProof.Rows.lt_str h:wpAny (model prog w) A (compareOp .Lt (.str x t) (.str y u)) Q E s)
section
open PySem.SeqAt
open PySem.AutoSeq1 (wpAny_loadPart')
open PySem.MeetsSeq PySem.MeetsSeq2 PySem.MeetsSeq3
theorem Zg4(l b:Addr)(items o:Array Value)(n L:Nat)(M N:Option Addr)(sl O:Array (Option Value))(ks m:List Key)(E:ZH (ks.map kV) items.toList)(F:ZH (m.map kV) o.toList)(G:Xy ks=Xy m) :
  Meets (Builtin.«tuple.__lt__» ⟨[.ref l,.ref b],[]⟩)
   (fun _ R s=>s.heap.get? l=some { cls:=.type "tuple",dict:=M,data:=.seq items n,slots:=sl }∧s.heap.get? b=some { cls:=.type "tuple",dict:=N,data:=.seq o L,slots:=O } ∧
    R (.ok (.ret (.bool (YM ks m)))) s) :=
 .of_wp fun c w A R s h=>by
  obtain⟨p,g,d,r,os⟩:=s;obtain⟨P,Q,h⟩:=h;have f2:=AutoSeq1.sub_tuple_tuple;have z1:items.size=ks.length:=by have:=E.length;simpa using this.symm
  have z2:o.size=m.length:=by have:=F.length;simpa using this.symm
  have z3:ks.length=m.length:=by have:=congrArg List.length G;simpa [Xy] using this
  wp_walk using wpAny_loadPart' P,wpAny_loadPart' Q,wpAny_forIn_list _ (fun rest b v=>b.1=none∧v=⟨p,g,d,r,os⟩∧∃ (t ws:List Value) (f a:List Key),rest=t.zip ws ∧
   ZH (f.map kV) t∧ZH (a.map kV) ws∧Xy f=Xy a∧R (.ok (.ret (.bool (YM f a)))) ⟨p,g,d,r,os⟩) _
  case turn =>
   rintro⟨y,x⟩ rest b v ⟨z,rfl,t,ws,f,a,j,u,B,k,i⟩;cases f with
   | nil=>cases u;rw[List.zip_nil_left]at j;cases j
   | cons k1 kr =>
    cases a with
    | nil=>cases k
    | cons S T =>
     cases u with
     | cons C H =>
      cases B with
      | cons D I =>
       rw[List.zip_cons_cons]at j;injection j with U V;injection U with W X;subst W X;rw[R3]at i;unfold Xy at k;rw[Qh,Qh]at k;injection k with J Y;obtain⟨e,Z,K⟩:=Znc A.in1 ⟨p,g,d,r,os⟩ C D J;refine wpAny_bind (Z c w _ _ ?_);cases e with
       | true =>
        rw[if_pos (K.mp rfl)]at i
        wp_walk
        exact⟨rfl,rfl,_,_,_,_,V,H,I,Y,i⟩
       | false =>
        rw[if_neg (fun q=>absurd (K.mpr q) Qq)]at i;have zN:=ZmT A.in1 ⟨p,g,d,r,os⟩ C D J c w
        wp_walk using zN
        exact⟨_,rfl,by simpa using i⟩
  case fin =>
   rintro⟨b1,b2⟩ v ⟨z,rfl,t,ws,f,a,j,u,B,k,i⟩;simp only at z;subst z;have hv:YM f a=decide (items.size<o.size):=by
    rw[decide_eq_false #[2]];cases f with
    | nil =>
     cases a with
     | nil=>rfl
     | cons _ _=>cases k
    | cons k1 kr =>
     cases a with
     | nil=>cases k
     | cons S T =>
      cases u with
      | cons C H =>
       cases B with
       | cons D I=>rw[List.zip_cons_cons]at j;cases j
   rw[hv]at i
   wp_walk
   exact⟨_,rfl,by simpa [Builtin.Tuple.tupleCompareSizes] using i⟩
  case h=>exact⟨rfl,rfl,items.toList,o.toList,ks,m,rfl,E,F,G,h⟩
end
section
variable {prog:Program} {w:World} {A:Around} {E:Value→Shared→Prop} {s:Shared}
theorem Zkc{l b:Addr}{items c:Array Value}{ks a:List Key}{Q:Value→Shared→Prop}(hl:IsTup s.heap l items)(hb:IsTup s.heap b c)(k:ZH (ks.map kV) items.toList)(m:ZH (a.map kV) c.toList)(o:Xy ks=Xy a)
  (hu:A.units<cLine) (h:Q (.bool (YM ks a)) s):wpAny (model prog w) A (richCompare .Lt (.ref l) (.ref b)) Q E s:=by
 obtain⟨⟨cls,p,data,q⟩,d,e,n,f⟩:=id hl;obtain⟨⟨CU,r,data2,t⟩,g,i,u,j⟩:=id hb;simp only at e f i j;subst e f i j;exact richCompare_meets_room (op:=.Lt) ⟨_,d,rfl⟩ ⟨_,g,rfl⟩ PySem.F.slot_tuple_lt PySem.F.entry_tuple_lt (PySem.F.args_tuple_lt_2 _ _) (Zg4 l b items c n u p r q t ks a k m o)
  ⟨d,g,show Value.bool (YM ks a)≠Value.notImplemented∧Q (.bool (YM ks a)) s from⟨(fun x=>nomatch x),h⟩⟩ hu
end
section
variable {prog:Program} {w:World}
theorem ZlG{A:Around}{a:Args}:(A.under (.builtin "min.loop" a)).units≤A.units+1:=by show A.units+(Code.builtin "min.loop" a).cUnits≤A.units+1;first|exact Qg _|simp[Code.cUnits,Code.frames,Code.isFrame]
theorem RZ{A:Around}{R:Result→Shared→Prop}{l I S:Addr}{ts:WF}{sh:List Bool}{h0:Heap}{kw:List (Str×Value)}(B:A.handled=none)(hu:A.units+4<cLine)(C:h0.IsList l (ts.map fun t=>Value.ref t.1).toArray)
  (n:h0.get? I=none) (p:h0.get? S=none) (g:S≠I) (s:∀t∈ts,∃its:List Value,ZH (t.2.map kV) its∧IsTup h0 t.1 its.toArray) (v:∀t∈ts,Xy t.2=sh) (x:Shared)
  (q:∀ (h':Heap) (t:Addr×List Key),(∀b o,h0.get? b=some o→h'.get? b=some o)→t∈ts→(∀u∈ts,YM u.2 t.2=false)→R (.ok (.ret (.ref t.1))) { x with heap:=h' }) :
  ∀ (k j:Nat) (h:Heap) (t:Addr×List Key) (c:Nat),ts.length-j=k→j≤ts.length→(∀b o,h0.get? b=some o→h.get? b=some o)→h.IsListIter I l j→h.get? S=some { cls:=.type "list",data:=.seq #[.ref t.1,.ref t.1] c }→t∈ts →
   (∀u∈ts.take j,YM u.2 t.2=false)→codeAny (model prog w) A (.builtin "min.loop" { pos:=[.ref I,.none,.ref S],kw:=kw }) R { x with heap:=h }
 | k,j,h,t,c,hk,hj,keep,L,D,y,E=>by
  refine codeAny_builtin F.entry_min_loop ?_;show wpAny _ _ (seqItems? (.ref S) >>= _) _ _ _;refine wpAny_bind (wpAny_seqItems D rfl ?_);have M:h.IsList l (ts.map fun t=>Value.ref t.1).toArray:=by obtain⟨o,i,r⟩:=C;exact⟨o,keep _ _ i,r⟩
  by_cases z:j<ts.length
  ·have G:((ts.map fun t=>Value.ref t.1).toArray)[j]? = some (Value.ref ts[j].1):=by simp[z]
   refine wpAny_bind (wpAny_tryCatch (wpAny_pyNext_list_item L M G fun f N O=>?_));have H:∀b o,h0.get? b=some o→f.get? b=some o:=fun b o d=>by
    have nb:b≠I:=fun e=>by rw[e,n]at d;cases d
    rw[O.2 b nb];exact keep b o d
   have m:f.get? S=some { cls:=.type "list",data:=.seq #[.ref t.1,.ref t.1] c }:=by rw[O.2 S g];exact D
   refine wpAny_bind (wpAny_pure ?_);have J:ts[j]∈ts:=Q4 z;obtain⟨i1,T,U⟩:=s _ J;obtain⟨i2,V,W⟩:=s _ y;have P:∀ {a:Addr} {its:List Value},IsTup h0 a its.toArray→IsTup f a its.toArray:=fun ⟨o,i,X⟩=>⟨o,H _ _ i,X⟩;have Y:Xy ts[j].2=Xy t.2:=(v _ J).trans (v _ y).symm;refine wpAny_bind (wpAny_tryCatch (wpAny_holding (wpAny_bind (Zkc (P U) (P W) (by simpa using T) (by simpa using V) Y (Nat.lt_of_le_of_lt ZlG #[2]) (wpAny_bind (wpAny_holding (wpAny_truthy_bool (wpAny_bind (wpAny_letGo (wpAny_pure ?_))))))))));cases d:YM ts[j].2 t.2 with
   | true =>
    refine wpAny_bind (wpAny_updateSeq m rfl ?_ (by show 2≤_;rw[sizeLine_eq];decide) (by show 2≤_;rw[sizeLine_eq];decide));refine wpAny_bind (wpAny_letGo (wpAny_pure ⟨rfl,?_⟩));refine RZ B hu C n p g s v x q (k-1) (j+1) _ ts[j] c #[2] #[2] (fun b o K=>?_) ?_ ?_ J (fun u hu'=>?_)
    ·have nb:S≠b:=fun e=>by rw[← e,p]at K;cases K
     exact Qag _ nb (H b o K)
    ·obtain⟨o,i,r⟩:=N;exact⟨o,Qag _ g i,r⟩
    ·have:=get?_update_seq (c := "list") m (fun _=>#[.ref ts[j].1,.ref ts[j].1]);simpa using this
    ·rw[QH,Qb z]at hu';rcases Qo.mp hu' with hu'|hu'
     ·have:=E u hu';cases Z:YM u.2 ts[j].2 with
      | false=>rfl
      | true=>rw[Nz _ _ _ Z d]at this;cases this
     ·have:u=ts[j]:=by simpa using hu'
      rw[this];exact R0 _
   | false =>
    refine wpAny_bind (wpAny_letGo (wpAny_pure ⟨rfl,?_⟩));refine RZ B hu C n p g s v x q (k-1) (j+1) f t c #[2] #[2] H N m y (fun u hu'=>?_);rw[QH,Qb z]at hu';rcases Qo.mp hu' with hu'|hu'
    ·exact E u hu'
    ·have:u=ts[j]:=by simpa using hu'
     rw[this];exact d
  ·have G:((ts.map fun t=>Value.ref t.1).toArray)[j]? = none:=by simp;lia
   refine wpAny_bind (wpAny_tryCatch (wpAny_pyNext_list_end B L M G fun f Q=>?_));have m:f.get? S=some { cls:=.type "list",data:=.seq #[.ref t.1,.ref t.1] c }:=Q S _ g D;refine wpAny_bind (wpAny_updateSeq m rfl ?_ (by show 2≤_;rw[sizeLine_eq];decide) (by show 0≤_;lia));refine wpAny_bind (wpAny_letGo (wpAny_pure ?_));refine q _ t (fun b o d=>?_) y (fun u hu'=>E u (by rw[QC #[2]];exact hu'));have nb:S≠b:=fun e=>by rw[← e,p]at d;cases d
   have nI:b≠I:=fun e=>by rw[e,n]at d;cases d
   exact Qag _ nb (Q b o nI (keep b o d))
termination_by k=>k
theorem Zlm{A:Around}{R:Result→Shared→Prop}{l I S:Addr}{ts:WF}{sh:List Bool}{h0 h:Heap}{c:Nat}{kw:List (Str×Value)}(v:A.handled=none)(hu:A.units+4<cLine)(y:h0.IsList l (ts.map fun t=>Value.ref t.1).toArray)
  (i:h0.get? I=none) (z:h0.get? S=none) (j:S≠I) (H:∀t∈ts,∃its:List Value,ZH (t.2.map kV) its∧IsTup h0 t.1 its.toArray) (J:∀t∈ts,Xy t.2=sh) (g:Shared) (keep:∀b o,h0.get? b=some o→h.get? b=some o) (B:h.IsListIter I l 0) (C:h.get? S=some { cls:=.type "list",data:=.seq #[] c })
  (K:ts≠[]∨∃n d kr,kw=(n,d)::kr∧∀f:Heap,(∀b o,h0.get? b=some o→f.get? b=some o)→R (.ok (.ret d)) { g with heap:=f })
  (q:∀ (f:Heap) (t:Addr×List Key),(∀b o,h0.get? b=some o→f.get? b=some o)→t∈ts→(∀u∈ts,YM u.2 t.2=false)→R (.ok (.ret (.ref t.1))) { g with heap:=f }) :
  codeAny (model prog w) A (.builtin "min.loop" { pos:=[.ref I,.none,.ref S],kw:=kw }) R { g with heap:=h }:=by
 refine codeAny_builtin F.entry_min_loop ?_;show wpAny _ _ (seqItems? (.ref S) >>= _) _ _ _;refine wpAny_bind (wpAny_seqItems C rfl ?_);have D:h.IsList l (ts.map fun t=>Value.ref t.1).toArray:=by obtain⟨o,k,r⟩:=y;exact⟨o,keep _ _ k,r⟩
 cases ts with
 | nil =>
  obtain⟨n,d,kr,rfl,L⟩:=K.resolve_left #[4];refine wpAny_bind (wpAny_tryCatch (wpAny_pyNext_list_end v B D #[4] fun m M=>?_));show wpAny _ _ (rule _ >>= _) _ _ _;refine wpAny_bind (wpAny_rule (wpAny_pure ?_));refine L _ fun b o a=>?_;have N:b≠I:=fun e=>by rw[e,i]at a;cases a
  exact M b o N (keep b o a)
 | cons t r =>
  refine wpAny_bind (wpAny_tryCatch (wpAny_pyNext_list_item B D (x:=.ref t.1) #[4] fun m O E=>?_));have P:∀b o,h0.get? b=some o→m.get? b=some o:=fun b o a=>by
   have nb:b≠I:=fun e=>by rw[e,i]at a;cases a
   rw[E.2 b nb];exact keep b o a
  have G:m.get? S=some { cls:=.type "list",data:=.seq #[] c }:=by rw[E.2 S j];exact C
  refine wpAny_bind (wpAny_pure ?_);show wpAny _ _ (updateSeq S _ >>= _) _ _ _;refine wpAny_bind (wpAny_updateSeq G rfl ?_ (by show 0≤_;lia) (by show 2≤_;rw[sizeLine_eq];decide));refine wpAny_pure ⟨rfl,?_⟩;refine RZ v hu y i z j H J g q _ 1 _ t (c+1) rfl #[4] (fun b o p=>?_) ?_ ?_ #[4] (fun u s=>?_)
  ·have nb:S≠b:=fun e=>by rw[← e,z]at p;cases p
   exact Qag _ nb (P b o p)
  ·obtain⟨o,k,r⟩:=O;exact⟨o,Qag _ j k,r⟩
  ·have:=get?_update_seq (c := "list") G (fun _=>#[.ref t.1,.ref t.1]);simpa using this
  ·have:u=t:=by simpa using s
   rw[this];exact R0 _
end
section
variable {X:Cx}
def Nx(K:#[7]):List V→Hp→VK→Prop:=fun vs H Q=>∃ (p:Addr) (ts:WF) (sh:List Bool),vs=[.ref p]∧SqL K H p (VR ts)∧AtT H ts∧ts≠[]∧(∀t∈ts,Xy t.2=sh) ∧
 ∀t:Addr×List Key,t∈ts→(∀u∈ts,YM u.2 t.2=false)→Q (.ref t.1) H
theorem ZnF{prog:Program}{w:World}{A:Around}{R:Result→Shared→Prop}{s:Shared}{l:Addr}{ts:WF}{sh:List Bool}{kw:List (Str×Value)}{g:List (Str×Value)}(j:A.handled=none)(hu:A.units+4<cLine)(p:s.heap.IsList l (ts.map fun t=>Value.ref t.1).toArray)
  (r:(kw=[]∧g=[])∨∃d,kw=[(Str.ofString "default",d)]∧g=[(Str.ofString "default",d)])
  (y:∀t∈ts,∃its:List Value,ZH (t.2.map kV) its∧IsTup s.heap t.1 its.toArray) (z:∀t∈ts,Xy t.2=sh)
  (B:ts≠[]∨∃n d kr,g=(n,d)::kr∧∀h':Heap,(∀b o,s.heap.get? b=some o→h'.get? b=some o)→R (.ok (.ret d)) { s with heap:=h' })
  (q:∀ (h':Heap) (t:Addr×List Key),(∀b o,s.heap.get? b=some o→h'.get? b=some o)→t∈ts→(∀u∈ts,YM u.2 t.2=false)→R (.ok (.ret (.ref t.1))) { s with heap:=h' }) :
  codeAny (model prog w) A (.call (.builtin "min") { pos:=[.ref l],kw:=kw }) R s:=by
 refine codeAny_call_builtin_at rfl F.entry_min ?_;have C:checkBuiltinCall "min" { pos:=[.ref l],kw:=kw }=pure ():=by rcases r with⟨rfl,_⟩|⟨d,rfl,_⟩<;>rfl
 rw[C];refine wpAny_pure ?_;have go:∀ {k:Around},k.handled=none→wpAny (model prog w) k (pyIter (.ref l) >>= fun D=>newList [] >>= fun b=>again (.builtin "min.loop" { pos:=[D,.none,b],kw:=g })) (fun m i=>match m with
   | Fin.done f=>R (Except.ok f) i
   | Fin.again v=>v.quiet=true∧codeAny (model prog w) A v R i) (fun e i=>R (Except.error e) i) s:=fun {k} JV=>by
  refine wpAny_bind (wpAny_pyIter_list p ?_);refine wpAny_bind (wpAny_newList ?_ (by show 0≤_;lia));refine wpAny_pure ⟨rfl,?_⟩;have x:∀b,s.heap.objs.size≤b→s.heap.get? b=none:=fun b E=>by
   cases e:s.heap.get? b with
   | none=>rfl
   | some o=>exact absurd (Qi e) (Qa9.mpr E)
  have a:(s.heap.push { cls:=Value.type "list_iterator",data:=Data.fields #[Value.ref l,Value.int 0 0] }).objs.size=s.heap.objs.size+1:=size_push' _ _;refine Zlm (h0:=s.heap) (c:=0) j hu p (x _ (Qg _)) (x _ (by rw[a];exact Qaj _)) (by rw[a];exact Nat.succ_ne_self _) y z s (fun b o h=>Qc _ (Qc _ h)) ⟨_,Qc _ (Qm _ rfl),rfl,rfl⟩ (Qm _ rfl) B q
 rcases r with⟨rfl,rfl⟩|⟨d,rfl,rfl⟩
 ·exact go j
 ·exact go j
theorem Zl7(hc:X.calm=true)(hu:X.A.units+64<cLine):YW X (.builtin "min") (Nx X.K):=by
 intro U s σ H vs us Q I r h;obtain⟨p,ts,sh,rfl,b,c,d,e,q⟩:=h;obtain⟨u,rfl,f⟩:=Xt r;cases f;obtain⟨its,g,j,hz⟩:=I.list b;have k:=Ny g;subst k;refine wpAny_call (ZnF (sh:=sh) (I.ok.hd hc) #[2] j.isList (.inl ⟨rfl,rfl⟩) (fun t a=>?_) e (.inl d) fun h' t l a m=>?_)
 ·obtain⟨i,v,q,_⟩:=I.tuple (SqT.of (K:=X.K) (c t a));exact⟨i,v,q⟩
 ·exact⟨.ref t.1,H,I.kept (t':=s.toks) l,rfl,q t a m⟩
theorem ZsJ(K:#[7]){k:Nat}(a:Y4 k X.A)(hc:X.calm=true:=by rfl)(h:X.K=K:=by rfl):YW X (.builtin "min") (Nx K):=by subst h;exact Zl7 hc a.units
end
section
variable {X:Cx}
def Nw(K:#[7]):List V→Hp→VK→Prop:=fun vs H Q=>∃ (p:Addr) (ns:List Int),vs=[.ref p]∧SqL K H p (ns.map V.int)∧ns.length≤1000∧(∀n∈ns,0≤n∧n≤10000000000000)∧Q (.int ns.sum) H
theorem ZlA(hc:X.calm=true):YW X (.builtin "sum") (Nw X.K):=by
 intro U s σ H vs us Q I r h;obtain⟨p,a,rfl,o,hn,d,q⟩:=h;obtain⟨u,rfl,t⟩:=Xt r;cases t;obtain⟨its,v,w,_⟩:=I.list o;have f:=N0 v;obtain⟨b,e⟩:=f.allInts.items;have g:a=b.toList.map (·.1):=by rw[← f.numsOf,← nums_intItems,← e]
 have c:b.size=a.length:=by rw[g,Qa,QaI]
 have i:numAt b=fun j=>a.getD j 0:=by funext j;rw[numAt_eq,g]
 have k:=w.isList;rw[e]at k;have bound:∀n,n≤a.length→0≤(a.take n).sum∧(a.take n).sum≤10000000000000*n:=by
  intro n;induction n with
  | zero=>intro _;exact⟨by simp,by simp⟩
  | succ n l =>
   intro h;have l:=l #[2];have x:=d a[n] (Q4 #[2]);have y:a.take (n+1)=a.take n++[a[n]]:=by rw[QH,Qb #[2]];rfl
   rw[y,List.sum_append];have z:([a[n]]:List Int).sum=a[n]:=by simp
   rw[z];lia
 refine sum_intList (I.ok.hd hc) k (fun j hj=>?_) fun h' tk A B=>⟨.int _,H,I.kept B,⟨A,rfl⟩,?_⟩
 ·rw[i];have x:=d a[j] (Q4 #[2]);have m:a.getD j 0=a[j]:=by rw[QE,Qb #[2]];rfl
  have hp:=bound (j+1) #[2];refine⟨⟨?_,?_⟩,⟨?_,?_⟩⟩
  ·show -(2 ^ 63)≤a.getD j 0;rw[m];lia
  ·show a.getD j 0<2 ^ 63;rw[m];lia
  ·rw[TN a (j+1) #[2]];lia
  ·rw[TN a (j+1) #[2]];lia
 ·rw[i,c,TN a a.length (Qg _),QC (Qg _)];exact q
theorem Nv(K:#[7])(hc:X.calm=true:=by rfl)(h:X.K=K:=by rfl):YW X (.builtin "sum") (Nw K):=by subst h;exact ZlA hc
end
end L2
namespace Hf
open L2
abbrev PW:=List (Int×Nat)
noncomputable def val(P:PW):Int:=(P.map fun p=>p.1*(p.2:Int)).sum
noncomputable def ws(P:PW):List Int:=P.map (·.1)
noncomputable def ds(P:PW):List Nat:=P.map (·.2)
noncomputable def zs(z:Nat):List Int:=List.replicate z 0
noncomputable def kr(w E:Nat)(D:List Nat):Nat:=(D.map fun d=>w ^ (E-d)).sum
inductive Hu (w:Nat):List Int→Nat→Int→Prop
 | stop {e:Int} {m:Nat}:Hu w [e] m 0
 | step {E L:List Int} {m:Nat} {C:Int}:1<L.length→E.Perm L→L.Pairwise (·≤·)→Hu w (L.drop m++[(L.take m).sum]) w C→Hu w E m (C+(L.take m).sum)
def Fit(w n m:Nat):Prop:=n=1∨∃t,n=m+t*(w-1)
structure Fits (w n m:Nat):Prop where
 w2:2≤w
 m2:2≤m
 mw:m≤w
 ok:Fit w n m
end Hf
namespace L2
open PySem PySem.Spec PyProof.Rows
section
variable {κ:Type} [DecidableEq κ]
noncomputable def Zt(kvs:List (κ×V))(k:κ):Option V:=(kvs.find? fun a=>decide (a.1=k)).map (·.2)
noncomputable def YT(kvs:List (κ×V))(k:κ)(v:V):List (κ×V) :=
 if (kvs.any fun a=>decide (a.1=k))=true then kvs.map (fun a=>if a.1=k then (a.1,v) else a) else kvs++[(k,v)]
noncomputable def Xe(kvs:List (κ×V))(k:κ):List (κ×V):=kvs.filter fun a=>decide (a.1≠k)
theorem Vo{p:κ×V}{r:List (κ×V)}{k:κ}(e:p.1=k):Zt (p::r) k=some p.2:=by simp[Zt,List.find?_cons,e]
theorem Vn{p:κ×V}{r:List (κ×V)}{k:κ}(e:¬ p.1=k):Zt (p::r) k=Zt r k:=by simp[Zt,List.find?_cons,e]
theorem TM(k:κ):∀kvs:List (κ×V),(kvs.any fun a=>decide (a.1=k))=(Zt kvs k).isSome
 | []=>rfl
 | p::r=>by
  rw[QaK];by_cases e:p.1=k
  ·simp only[Vo e,decide_eq_true e,Bool.true_or,Option.isSome_some]
  ·rw[Vn e,decide_eq_false e,Bool.false_or];exact TM k r
theorem RY(kvs:List (κ×V))(k:κ)(v:V):(YT kvs k v).length≤kvs.length+1:=by
 unfold YT;split
 ·rw[Qa];lia
 ·rw[Qr,QI,List.length_nil];lia
theorem Wn{kvs:List (κ×V)}{k:κ}(v:V)(h:Zt kvs k=none):YT kvs k v=kvs++[(k,v)]:=by unfold YT;rw[TM,h];exact if_neg #[6]
theorem Yj.isSome_eq{o:Option V}{u:Option Value}(r:Yj o u):o.isSome=u.isSome:=by
 cases o with
 | none=>cases u with
  | none=>rfl
  | some _=>exact(show False from r).elim
 | some _=>cases u with
  | none=>exact(show False from r).elim
  | some _=>rfl
theorem Yj.getD{o:Option V}{u:Option Value}{d:V}{d':Value}(r:Yj o u)(rd:ZI d d'):ZI (o.getD d) (u.getD d'):=by
 cases o with
 | none=>cases u with
  | none=>exact rd
  | some _=>exact(show False from r).elim
 | some _=>cases u with
  | none=>exact(show False from r).elim
  | some _=>exact r
theorem KV.val{kvs:List (κ×V)}{vs:List (κ×Value)}(r:KV kvs vs)(k:κ):Yj (Zt kvs k) (valueAt vs k):=by
 unfold KV at r;induction r with
 | nil=>exact True.intro
 | @cons p q ps a h t f =>
  obtain⟨d,g⟩:=h;by_cases e:p.1=k
  ·have c:q.1=k:=d.symm.trans e;have b:valueAt (q::a) k=some q.2:=by simp[valueAt,List.find?_cons,c]
   rw[Vo e,b];exact g
  ·have c:¬ q.1=k:=fun z=>e (d.trans z);have b:valueAt (q::a) k=valueAt a k:=by simp[valueAt,List.find?_cons,c]
   rw[Vn e,b];exact f
theorem KV.any{kvs:List (κ×V)}{vs:List (κ×Value)}(r:KV kvs vs)(k:κ):(kvs.any fun a=>decide (a.1=k))=vs.any fun a=>decide (a.1=k):=by
 unfold KV at r;induction r with
 | nil=>rfl
 | cons h t b=>rw[QaK,QaK,b,h.1]
theorem KV.repl{kvs:List (κ×V)}{vs:List (κ×Value)}(r:KV kvs vs)(k:κ){y:V}{u:Value}(c:ZI y u) :
  KV (kvs.map fun a=>if a.1=k then (a.1,y) else a) (vs.map fun a=>if a.1=k then (a.1,u) else a):=by
 unfold KV at r ⊢;induction r with
 | nil=>exact .nil
 | @cons p q ps qs h t d =>
  rw[Qh,Qh];refine .cons ?_ d;obtain⟨b,f⟩:=h;by_cases e:p.1=k
  ·rw[if_pos e,if_pos (b.symm.trans e)];exact⟨b,c⟩
  ·rw[if_neg e,if_neg (fun z=>e (b.trans z))];exact⟨b,f⟩
theorem KV.put{kvs:List (κ×V)}{vs:List (κ×Value)}(r:KV kvs vs)(k:κ){y:V}{u:Value}(a:ZI y u):KV (YT kvs k y) (stored vs k u):=by
 unfold YT stored;rw[r.any k];by_cases e:(vs.any fun b=>decide (b.1=k))=true
 ·rw[if_pos e,if_pos e];exact r.repl k a
 ·rw[if_neg e,if_neg e];exact Paired.snoc r ⟨rfl,a⟩
theorem KV.drop{kvs:List (κ×V)}{vs:List (κ×Value)}(r:KV kvs vs)(k:κ):KV (Xe kvs k) (without vs k):=by
 unfold KV at r ⊢;unfold Xe without;induction r with
 | nil=>exact .nil
 | @cons p q ps qs h t d =>
  obtain⟨c,f⟩:=h;rw[List.filter_cons,List.filter_cons];by_cases e:p.1=k
  ·have a:¬ decide (p.1≠k)=true:=by simp[e]
   have b:¬ decide (q.1≠k)=true:=by simp[c.symm.trans e]
   rw[if_neg a,if_neg b];exact d
  ·have g:¬ q.1=k:=fun z=>e (c.trans z);have a:decide (p.1≠k)=true:=by simp[e]
   have b:decide (q.1≠k)=true:=by simp[g]
   rw[if_pos a,if_pos b];exact .cons ⟨c,f⟩ d
theorem KV.length{kvs:List (κ×V)}{vs:List (κ×Value)}(r:KV kvs vs):kvs.length=vs.length:=Paired.length r
theorem ZnJ(kvs:List (κ×V))(k:κ):(Xe kvs k).length≤kvs.length:=Qay _ _
end
theorem VQ{P:Program}{w:World}{k:Key}{u:Value}(r:ZI (kV k) u):(ZM P w).is k u=true:=by
 cases k with
 | inl i=>obtain⟨t,e⟩:=(show ∃t,u=Value.int i t from r);subst e;exact Zjg P w i t
 | inr x=>obtain⟨t,e⟩:=(show ∃t,u=Value.str x t from r);subst e;exact Zjj P w x t
theorem Nu{P:Program}{w:World}:∀ {ks:List Key} {us:List Value},ZH (ks.map kV) us→ItemsAre (ZM P w) ks us
 | [],_,r=>by rw[QaU]at r;cases r;exact .nil
 | k::ks,_,r=>by
  rw[Qh]at r;cases r with
  | cons h t=>exact .cons (VQ h) (Nu t)
abbrev KT(H:Hp):List (List Key×V)→List (List Key×Addr×Value)→Prop:=Paired fun p q=>p.1=q.1∧H q.2.1=some (.tup (p.1.map kV))∧ZI p.2 q.2.2
theorem KT.val{H:Hp}{kvs:List (List Key×V)}{xs:List (List Key×Addr×Value)}(r:KT H kvs xs)(k:List Key):Yj (Zt kvs k) ((atKey xs k).map (·.2)):=by
 induction r with
 | nil=>exact True.intro
 | @cons p q ps a h t f =>
  obtain⟨d,_,g⟩:=h;by_cases e:p.1=k
  ·have c:q.1=k:=d.symm.trans e;have b:atKey (q::a) k=some q.2:=by simp[atKey,List.find?_cons,c]
   rw[Vo e,b];exact g
  ·have c:¬ q.1=k:=fun z=>e (d.trans z);have b:atKey (q::a) k=atKey a k:=by simp[atKey,List.find?_cons,c]
   rw[Vn e,b];exact f
theorem KT.repl{H:Hp}{kvs:List (List Key×V)}{xs:List (List Key×Addr×Value)}(r:KT H kvs xs)(k:List Key){y:V}{u:Value}(d:ZI y u) :
  KT H (kvs.map fun b=>if b.1=k then (b.1,y) else b) (xs.map (putAt k u)):=by
 induction r with
 | nil=>exact .nil
 | @cons p q ps qs h t f =>
  rw[Qh,Qh];refine .cons ?_ f;obtain⟨a,c,g⟩:=h;unfold putAt;by_cases e:p.1=k
  ·rw[if_pos e,if_pos (a.symm.trans e)];exact⟨a,c,d⟩
  ·rw[if_neg e,if_neg (fun z=>e (a.trans z))];exact⟨a,c,g⟩
theorem KT.put{H:Hp}{kvs:List (List Key×V)}{xs:List (List Key×Addr×Value)}(r:KT H kvs xs)(k:List Key){b:Addr}{y:V}{u:Value}(hb:H b=some (.tup (k.map kV)))(a:ZI y u) :
  KT H (YT kvs k y) (storedH xs k b u):=by
 have e:(kvs.any fun c=>decide (c.1=k))=(atKey xs k).isSome:=by rw[TM,(r.val k).isSome_eq,Option.isSome_map]
 unfold YT storedH;rw[e];by_cases q:(atKey xs k).isSome=true
 ·rw[if_pos q,if_pos q];exact r.repl k a
 ·rw[if_neg q,if_neg q];exact Paired.snoc r ⟨rfl,hb,a⟩
theorem KT.keeps{H a:Hp}{kvs:List (List Key×V)}{xs:List (List Key×Addr×Value)}(r:KT H kvs xs)(c:∀b ys,H b=some (.tup ys)→a b=some (.tup ys)):KT a kvs xs :=
 Paired.mapP r fun _ _ z=>⟨z.1,c _ _ z.2.1,z.2.2⟩
section
variable {P:Program} {w:World} {H:Hp} {h:Heap} {a:Addr}
theorem Nt{u:HO}(ok:HOk P w H h)(e:Rd H a u):Z4 P w H h a u:=e.ok ok
theorem VP{kvs:List (Key×V)}(ok:HOk P w H h)(e:Rd H a (.dK kvs)):kvs.length≤sizeLine∧(a == sysModules)=false∧∃vs,KV kvs vs∧h.DictOf (ZM P w) a vs :=
 show Z4 P w H h a (.dK kvs) from Nt ok e
theorem RX{kvs:List (Key×V)}(ok:HOk P w H h)(e:H a=some (.dK kvs)):kvs.length≤sizeLine∧(a == sysModules)=false∧∃vs,KV kvs vs∧h.DictOf (ZM P w) a vs:=VP ok (.inl e)
theorem UL{ks:List Key}(ok:HOk P w H h)(e:H a=some (.tup (ks.map kV))):(tupleKind (ZM P w)).is h ks a:=by obtain⟨_,its,r,o,b,c,n,d⟩:=(show Z4 P w H h a (.tup (ks.map kV)) from ok a _ e);exact⟨o,its.toArray,n,b,c,d,by simpa using Nu r⟩
theorem Vm{kvs:List (List Key×V)}(ok:HOk P w H h)(e:Rd H a (.dT kvs)):kvs.length≤sizeLine∧(a == sysModules)=false ∧
  ∃xs,KT H kvs xs∧h.DictOfH (tupleKind (ZM P w)) a xs:=by
 obtain⟨z,y,xs,r,o,c,d,f,g,i,j,k⟩:=(show Z4 P w H h a (.dT kvs) from Nt ok e);refine⟨z,y,xs,r,o,c,d,f,g,i,j,fun x hx=>?_,k⟩;have all:∀ {l:List (List Key×V)} {m:List (List Key×Addr×Value)},KT H l m→∀x∈m,(tupleKind (ZM P w)).is h x.1 x.2.1:=by
  intro l m q;induction q with
  | nil=>intro x hx;exact nomatch hx
  | @cons p q ps qs b t n =>
   intro x hx;rcases QM.mp hx with e|hx
   ·subst e;exact UL ok (by rw[← b.1];exact b.2.1)
   ·exact n x hx
 exact all r x hx
theorem ZrM{kvs:List (List Key×V)}(ok:HOk P w H h)(e:H a=some (.dT kvs)):kvs.length≤sizeLine∧(a == sysModules)=false ∧
  ∃xs,KT H kvs xs∧h.DictOfH (tupleKind (ZM P w)) a xs:=Vm ok (.inl e)
end
def ZX(H:Hp)(a:Addr)(y:V)(r:Option V):Prop :=
 (∃c k,Rd H a (.dK c)∧y=kV k∧r=Zt c k)∨∃c k b,Rd H a (.dT c)∧y=.ref b∧H b=some (.tup (k.map kV))∧r=Zt c k
def YG(H:Hp)(a:Addr)(y v:V)(d:Hp):Prop :=
 (∃c k,H a=some (.dK c)∧y=kV k∧c.length<sizeLine∧d=upd H a (.dK (YT c k v))) ∨
 ∃c k b,H a=some (.dT c)∧y=.ref b∧H b=some (.tup (k.map kV))∧c.length<sizeLine∧d=upd H a (.dT (YT c k v))
theorem ZX.k{H:Hp}{a:Addr}{kvs:List (Key×V)}{k:Key}(e:H a=some (.dK kvs)):ZX H a (kV k) (Zt kvs k):=.inl ⟨kvs,k,.inl e,rfl,rfl⟩
theorem ZX.t{H:Hp}{a b:Addr}{kvs:List (List Key×V)}{k:List Key}(e:H a=some (.dT kvs))(c:H b=some (.tup (k.map kV))):ZX H a (.ref b) (Zt kvs k):=.inr ⟨kvs,k,b,.inl e,rfl,c,rfl⟩
theorem YG.k{H:Hp}{a:Addr}{kvs:List (Key×V)}{k:Key}{v:V}(e:H a=some (.dK kvs))(hl:kvs.length<sizeLine):YG H a (kV k) v (upd H a (.dK (YT kvs k v))):=.inl ⟨kvs,k,e,rfl,hl,rfl⟩
theorem YG.t{H:Hp}{a b:Addr}{kvs:List (List Key×V)}{k:List Key}{v:V}(e:H a=some (.dT kvs))(c:H b=some (.tup (k.map kV)))(hl:kvs.length<sizeLine) :
  YG H a (.ref b) v (upd H a (.dT (YT kvs k v))):=.inr ⟨kvs,k,b,e,rfl,c,hl,rfl⟩
section
variable {X:Cx} {U:List (Addr×Obj)} {σ:St} {H:Hp} {s:Shared} {a:Addr} {y v:V} {u r:Value} {o:Option V} {A:Around} {E:Value→Shared→Prop}
theorem Inv.big(I:Inv X U σ H s):sysModules<s.heap.objs.size:=by have h:mainGlobals<s.heap.objs.size:=(I.mod.glob.keeps I.bk).lt;exact Nat.lt_trans #[6] h
theorem ZlV{Q:Value→Shared→Prop}(hu:A.units+1<cLine)(I:Inv X U σ H s)(g:ZX H a y (some v))(n:ZI y u)(h:∀d s',Inv X U σ H s'→ZI v d→Q d s') :
  wpAny (model X.prog X.w) A (getItem (.ref a) u) Q E s:=by
 rcases g with⟨f,k,e,i,l⟩|⟨f,k,b,e,i,q,l⟩
 ·subst i;obtain⟨z,r,t,c,j⟩:=VP I.hok e;obtain⟨d,hw,m⟩:=Yj.some_of (v:=v) (o:=valueAt t k) (by rw[l];exact c.val k);exact wpAny_getItem_of (VQ n) j.mapOf hw (h d _ (I.tok _) m)
 ·subst i;cases (show u=Value.ref b from n);obtain⟨z,r,w,c,j⟩:=Vm I.hok e;obtain⟨d,hw,m⟩:=Yj.some_of (v:=v) (o:=(atKey w k).map (·.2)) (by rw[l];exact c.val k);obtain⟨p,x,B⟩:=QaV.mp hw;refine wpAny_getItem_heap (tupleKind_room_in1 hu) (UL I.hok q) j x ?_;rw[B];exact h d _ (I.tok _) m
theorem Zpm{Q:Value→Shared→Prop}(hu:A.units+1<cLine)(I:Inv X U σ H s)(g:ZX H a y o)(m:ZI y u)(h:∀s',Inv X U σ H s'→Q (.bool (!o.isSome)) s') :
  wpAny (model X.prog X.w) A (compareOp .NotIn u (.ref a)) Q E s:=by
 rcases g with⟨d,k,e,f,l⟩|⟨d,k,b,e,f,n,l⟩
 ·subst f;obtain⟨z,i,vs,c,j⟩:=VP I.hok e;refine wpAny_notIn_of (VQ m) i j.mapOf ?_;rw[← (c.val k).isSome_eq,← l];exact h _ (I.tok _)
 ·subst f;cases (show u=Value.ref b from m);obtain⟨z,i,xs,c,j⟩:=Vm I.hok e;refine wpAny_notIn_heap (tupleKind_room_in1 hu) (UL I.hok n) i j ?_;have q:=(c.val k).isSome_eq;rw[Option.isSome_map]at q;rw[← q,← l];exact h _ (I.tok _)
theorem TK{h':Heap}{t':Nat}{ob:HO}(I:Inv X U σ H s)(c:Mut (H a))(d:Heap.SameBut a s.heap h')(he:∃q,h'.get? a=some q)(new:Z4 X.prog X.w (upd H a ob) h' a ob) :
  Inv X U σ (upd H a ob) { s with heap:=h',toks:=t' } :=
 I.write (x:=a) (e:=a) c #[8] (fun b q f z=>(d.2 b f).trans z) he new
theorem RW{P:Program}{w:World}{b:Hp}{h':Heap}{kvs:List (Key×V)}{vs:List (Key×Value)}(z:kvs.length≤sizeLine)(hd:(a == sysModules)=false)(rel:KV kvs vs)(c:h'.DictOf (ZM P w) a vs) :
  Z4 P w b h' a (.dK kvs):=⟨z,hd,vs,rel,c⟩
theorem Zk9{B:Hp}{Q:Unit→Shared→Prop}(hu:A.units+1<cLine)(I:Inv X U σ H s)(g:YG H a y v B)(C:ZI y u)(D:ZI v r)(h:∀s',Inv X U σ B s'→Q () s') :
  wpAny (model X.prog X.w) A (setItem (.ref a) u r) Q E s:=by
 rcases g with⟨d,k,e,m,l,n⟩|⟨d,k,b,e,m,F,l,n⟩
 ·subst m n;obtain⟨z,o,K,f,p⟩:=RX I.hok e;have t:K.length≤sizeLine:=by rw[← f.length];exact z
  have w:(YT d k v).length≤sizeLine:=by have:=RY d k v;lia
  refine wpAny_setItem_pairs (hsz:=t) (VQ C) p fun G i x=>h _ ?_;have L:∃q,G.get? a=some q:=let ⟨q,_,_,j,_⟩:=i;⟨q,j⟩;exact TK I (by rw[e];exact True.intro) x L (RW w o (f.put k D) i)
 ·subst m n;cases (show u=Value.ref b from C);obtain⟨z,o,M,f,p⟩:=ZrM I.hok e;have t:M.length≤sizeLine:=by rw[← Paired.length f];exact z
  have w:(YT d k v).length≤sizeLine:=by have:=RY d k v;lia
  refine wpAny_setItem_heap (hsz:=t) (tupleKind_room_in1 hu) (UL I.hok F) p fun G i x=>h _ ?_;obtain⟨q,N,O,j,P,R,S,_,T⟩:=i;refine TK I (by rw[e];exact True.intro) x ⟨q,j⟩ ⟨w,o,_,(f.put k F D).keeps fun c ys J=>?_,q,N,O,j,P,R,S,T⟩;rw[Zb (Sw J e (fun z=>nomatch z))];exact J
end
section
variable {X:Cx} {U:List (Addr×Obj)} {σ:St} {H:Hp} {s:Shared} {a:Addr} {kvs:List (Key×V)} {k:Key} {u:Value} {A:Around} {E:Value→Shared→Prop}
theorem ZrO{v:V}{more:List Value}{Q:Value→Shared→Prop}(I:Inv X U σ H s)(e:H a=some (.dK kvs))(d:ZI (kV k) u)(l:Zt kvs k=some v)(hm:more=[]∨∃x,more=[x])
  (h:∀c s',Inv X U σ (upd H a (.dK (Xe kvs k))) s'→ZI v c→Q c s'):wpAny (model X.prog X.w) A (call (.builtin "dict.pop") (.ref a::u::more)) Q E s:=by
 obtain⟨z,m,f,b,g⟩:=RX I.hok e;obtain⟨c,hw,n⟩:=Yj.some_of (v:=v) (o:=valueAt f k) (by rw[← l];exact b.val k);have p:(keyPart u).isSome=true:=by
  cases k with
  | inl i=>obtain⟨t,q⟩:=(show ∃t,u=Value.int i t from d);subst q;rfl
  | inr x=>obtain⟨t,q⟩:=(show ∃t,u=Value.str x t from d);subst q;rfl
 have r:argsOk "dict.pop" ⟨.ref a::u::more,[]⟩:=by
  rcases hm with q|⟨x,q⟩
  ·subst q;exact PySem.F.args_dict_pop_2 _ _
  ·subst q;exact PySem.F.args_dict_pop_3 _ _ _
 refine call_meetsIn Qaz g.typeIs PySem.F.entry_dict_pop r (meets_dict_pop_there (ZM X.prog X.w) a (VQ d) more hm p)
  ⟨f,c,g,by rw[← b.length];exact z,hw,fun w j y=>h c _ ?_ n⟩
 have B:∃q,w.get? a=some q:=let ⟨q,_,_,C,_⟩:=j;⟨q,C⟩;exact TK I (by rw[e];exact True.intro) y B (RW (Qw (ZnJ kvs k) z) m (b.drop k) j)
theorem Zr3{Q:Value→Shared→Prop}(I:Inv X U σ H s)(e:Rd H a (.dK kvs))(h:∀t s',Inv X U σ H s'→Q (.int kvs.length t) s'):wpAny (model X.prog X.w) A (call (.builtin "len") [.ref a]) Q E s:=by obtain⟨z,c,vs,b,d⟩:=VP I.hok e;refine call_len_dict c d (by rw[← b.length];rw[sizeLine_eq]at z;lia) ?_;rw[← b.length];exact h _ _ (I.tok _)
end
theorem ZiI{X:Cx}{U:List (Addr×Obj)}{f:St}{H:Hp}{s:Shared}{a:Addr}{y:V}{o:Option V}(I:Inv X U f H s)(g:ZX H a y o):s.TypeIs (.ref a) "dict":=by
 rcases g with⟨c,k,e,_,_⟩|⟨c,k,b,e,_,_,_⟩
 ·obtain⟨_,_,vs,_,d⟩:=VP I.hok e;exact d.typeIs
 ·obtain⟨_,_,xs,_,d⟩:=Vm I.hok e;exact d.typeIs
theorem Nr{P:Program}{w:World}{H:Hp}(h:Heap)(hb:sysModules<h.objs.size):Z4 P w H (h.push { cls:=.type "dict",data:=.dict #[] }) h.objs.size (.dK []) :=
 ⟨Qs _,beq_eq_false_iff_ne.mpr (Ne.symm (Qz hb)),[],.nil,Heap.DictOf.new h⟩
def Zqn:TE:=fun _ H Q=>∀p,H p=none→Q (.ref p) (upd H p (.dK []))
section
variable {X:Cx} {pos:Pos}
theorem TH:PE X (.Dict [] [] pos) Zqn:=fun U s σ H Q I h =>
 wpAny_Dict_empty ⟨.ref s.heap.objs.size,_,I.laid (a:=s.heap.objs.size) (o:=.dK []) (t':=s.toks) (fun _ _ q=>Qc _ q) (Qg _) (Nr s.heap I.big),rfl,h _ (I.hok.fresh (Qg _))⟩
end
def RV:List (TE×TE)→St→Hp→(List (V×V)→Hp→Prop)→Prop
 | [],_,H,Q=>Q [] H
 | (tk,b)::r,a,H,Q=>tk a H fun x c=>b a c fun y d=>RV r a d fun ps e=>Q ((x,y)::ps) e
abbrev VV:List (V×V)→List (Value×Value)→Prop:=Paired fun p q=>ZI p.1 q.1∧ZI p.2 q.2
def PPs(X:Cx)(pos:Pos)(d:List (Option Expr))(e:List Expr)(f:List (TE×TE)):Prop :=
 ∀ (U:List (Addr×Obj)) (s:Shared) (a:St) (H:Hp) (Q:List (V×V)→Hp→Prop),Inv X U a H s→RV f a H Q →
  #[9,X] (evalPairs (pairTrees d e X.env pos)) (fun g h=>∃b c,Inv X U a c h∧VV b g∧Q b c) X.xe s
theorem Zot{X:Cx}{pos:Pos}:PPs X pos [] [] []:=fun U s σ H Q I h=>pairTrees_nil_walk ⟨[],H,I,.nil,h⟩
theorem VO{X:Cx}{pos:Pos}{k v:Expr}{ks:List (Option Expr)}{vs:List Expr}{tk c:TE}{d:List (TE×TE)}(hk:PE X k tk)(e:PE X v c)(f:PPs X pos ks vs d) :
  PPs X pos (some k::ks) (v::vs) ((tk,c)::d):=fun U s a H Q I h =>
 pairTrees_cons_walk (thn (hk U s a H _ I h) fun u g ⟨x,i,j,l,m⟩=>thn (e U g a i _ j m) fun w2 n ⟨y,o,p,q,r⟩=>
  thn (f U n a o _ p r) fun ws s3 ⟨t,w,z,b,A⟩=>⟨(x,y)::t,w,z,.cons ⟨l,q⟩ b,A⟩)
noncomputable def Wm(kvs more:List (Key×V)):List (Key×V):=more.foldl (fun b a=>YT b a.1 a.2) kvs
theorem KV.merge:∀ {more:List (Key×V)} {a:List (Key×Value)} {kvs:List (Key×V)} {vs:List (Key×Value)},KV more a→KV kvs vs→KV (Wm kvs more) (merged vs a):=by
 intro more a kvs vs r;unfold KV at r;induction r generalizing kvs vs with
 | nil=>intro q;exact q
 | @cons p q ps qs h t b =>
  intro c;have e:KV (YT kvs p.1 p.2) (stored vs q.1 q.2):=by have:=c.put p.1 h.2;rw[← h.1];exact this
  exact b e
theorem Nq:∀ (more kvs:List (Key×V)),(Wm kvs more).length≤kvs.length+more.length
 | [],kvs=>by show kvs.length≤kvs.length+0;lia
 | p::r,kvs=>by have h1:=Nq r (YT kvs p.1 p.2);have h2:=RY kvs p.1 p.2;show (Wm (YT kvs p.1 p.2) r).length≤_;rw[QI];lia
theorem Np{P:Program}{w:World}:∀ {kvs:List (Key×V)} {ws:List (Value×Value)},VV (kvs.map fun e=>(kV e.1,e.2)) ws→∃d,Carries (ZM P w) ws d∧KV kvs d
 | [],_,r=>by rw[QaU]at r;cases r;exact⟨[],True.intro,.nil⟩
 | p::kvs,_,r=>by
  rw[Qh]at r;cases r with
  | @cons a b as bs h t=>obtain⟨d,c,q⟩:=Np (P:=P) (w:=w) t;obtain⟨b1,f⟩:=b;exact⟨(p.1,f)::d,⟨VQ h.1,rfl,c⟩,.cons ⟨rfl,h.2⟩ q⟩
def Zri(c:List (TE×TE)):TE:=fun d H Q=>∀p,H p=none→RV c d (upd H p (.dK [])) fun ps a=>a p=some (.dK [])∧∃kvs:List (Key×V),ps=kvs.map (fun b=>(kV b.1,b.2))∧kvs.length≤15∧Q (.ref p) (upd a p (.dK (Wm [] kvs)))
theorem ZoY{X:Cx}{pos:Pos}{b:List (Option Expr)}{f:List Expr}{i:List (TE×TE)}(h:PPs X pos b f i)(l:b.all (·.isSome)=true)(hl:b.length=f.length)(h0:b≠[])
  (m:b.length≤15):PE X (.Dict b f pos) (Zri i):=by
 intro U s n H Q I q;have p:=I.hok.fresh (Qg s.heap.objs.size);have r:=I.laid (a:=s.heap.objs.size) (o:=.dK []) (h':=s.heap.push { cls:=.type "dict",data:=.dict #[] }) (t':=s.toks) (fun _ _ q=>Qc _ q) (Qg _) (Nr s.heap I.big);refine wpAny_Dict_walk (knd:=ZM X.prog X.w) l hl h0 m (thn (h U _ n _ _ r (q _ p)) ?_);rintro ws s2 ⟨ps,H2,j,g,e,d,t,lk,u⟩;subst t;obtain⟨v,c,x⟩:=Np (P:=X.prog) (w:=X.w) g;obtain⟨z,y,JW,A,B⟩:=RX j.hok e;cases A;refine⟨v,c,B,fun h' k C=>⟨.ref s.heap.objs.size,_,?_,rfl,u⟩⟩;have D:(Wm [] d).length≤sizeLine:=by have E:=Nq d [];rw[List.length_nil]at E;rw[sizeLine_eq];lia
 have F:∃q,h'.get? s.heap.objs.size=some q:=let ⟨q,_,_,G,_⟩:=k;⟨q,G⟩;exact TK j (by rw[e];exact True.intro) C F (RW D y (x.merge .nil) k)
structure M1 (X:Cx) (o:Expr) (m:Str) (ay:Pos) (e:Expr) (aB:Pos):Prop where
 base:attributeBase o m X.env (eval o X.env)=eval o X.env
 few:((backTo aB (starEach [e] X.env)).all (fun x=>!x.1)&&(backToKw aB (keywordEach [] X.env)).all (fun x=>x.1.isSome)
  && decide (([e]:List Expr).length+([]:List Keyword).length+(if ([]:List Keyword).isEmpty then 0 else 1)<30))=true
 line:(ay.endLine == aB.line)=true
 trees:backTo aB (starEach [e] X.env)=[(false,eval e X.env)]
structure M2 (X:Cx) (o:Expr) (m:Str) (ay:Pos) (e f:Expr) (aB:Pos):Prop where
 base:attributeBase o m X.env (eval o X.env)=eval o X.env
 few:((backTo aB (starEach [e,f] X.env)).all (fun x=>!x.1)&&(backToKw aB (keywordEach [] X.env)).all (fun x=>x.1.isSome)
  && decide (([e,f]:List Expr).length+([]:List Keyword).length+(if ([]:List Keyword).isEmpty then 0 else 1)<30))=true
 line:(ay.endLine == aB.line)=true
 trees:backTo aB (starEach [e,f] X.env)=[(false,eval e X.env),(false,eval f X.env)]
def IsD(H:Hp)(a:Addr):Prop:=(∃kvs,Rd H a (.dK kvs))∨∃kvs,Rd H a (.dT kvs)
theorem ZpZ{X:Cx}{U:List (Addr×Obj)}{j:St}{H:Hp}{s:Shared}{a:Addr}(I:Inv X U j H s)(d:IsD H a) :
  s.TypeIs (.ref a) "dict"∧(∀b,Value.ref a=.ref b→∃ob,s.heap.get? b=some ob∧ob.dict=none)∧(a == sysModules)=false:=by
 rcases d with⟨f,e⟩|⟨f,e⟩
 ·obtain⟨_,g,vs,_,c⟩:=VP I.hok e;refine⟨c.typeIs,fun b q=>?_,g⟩;cases q;obtain⟨ob,_,_,h,i,_⟩:=c;exact⟨ob,h,i.2.1⟩
 ·obtain⟨_,g,xs,_,c⟩:=Vm I.hok e;refine⟨c.typeIs,fun b q=>?_,g⟩;cases q;obtain⟨ob,_,_,h,i,_⟩:=c;exact⟨ob,h,i.2.1⟩
section
variable {X:Cx} {U:List (Addr×Obj)} {σ:St} {H:Hp} {s:Shared} {a:Addr} {y d:V} {u r:Value} {o:Option V} {A:Around} {E:Value→Shared→Prop}
theorem Zqf{Q:Value→Shared→Prop}(hu:A.units+1<cLine)(I:Inv X U σ H s)(g:ZX H a y o)(m:ZI y u)(h:∀n s',Inv X U σ H s'→ZI (o.getD .non) n→Q n s') :
  wpAny (model X.prog X.w) A (call (.builtin "dict.get") [.ref a,u]) Q E s:=by
 rcases g with⟨f,k,e,i,l⟩|⟨f,k,b,e,i,p,l⟩
 ·subst i;obtain⟨z,j,vs,c,d⟩:=VP I.hok e;refine call_meetsIn PySem.F.slot_dict_get d.typeIs PySem.F.entry_dict_get (PySem.F.args_dict_get_2 _ _) (meets_dict_get (ZM X.prog X.w) a (VQ m) j) ⟨_,d.mapOf,h _ _ (I.tok _) ?_⟩;rw[l];exact(c.val k).getD rfl
 ·subst i;cases (show u=Value.ref b from m);obtain⟨z,j,q,c,d⟩:=Vm I.hok e;refine call_meetsIn PySem.F.slot_dict_get d.typeIs PySem.F.entry_dict_get (PySem.F.args_dict_get_2 _ _) (meetsH_dict_get (tupleKind (ZM X.prog X.w)) a b j) ⟨tupleKind_room_in1 hu,k,q,UL I.hok p,d,h _ _ (I.tok _) ?_⟩;rw[l];exact(c.val k).getD rfl
end
def No(e ty:TE):TE:=fun b H Q=>e b H fun x c=>∃a,x=.ref a∧IsD c a∧ty b c fun y d=>∃o,ZX d a y o∧Q (o.getD .non) d
section
variable {X:Cx} {o e f:Expr} {ay aB:Pos} {td ty tx:TE}
theorem Zmu(hu:X.A.units+1<cLine)(f:PE X o td)(he:PE X e ty)(m:M1 X o "get" ay e aB):PE X (.Call (.Attribute o "get" ay) [e] [] aB) (No td ty):=by intro U s b H Q I h;refine wpAny_Call_method m.base m.few m.line QW PySem.F.slot_dict_get PySem.F.type_dict_get (thn (f U s b H _ I h) ?_);rintro u i ⟨x,j,c,k,a,ex,d,l⟩;subst ex;obtain rfl:u=Value.ref a:=k;obtain⟨n,p,_⟩:=ZpZ c d;refine⟨n,p,?_⟩;rw[m.trees];refine Calls.callWith_builtin rfl (Calls.evalArgs_plain (Calls.spliced_cons (thn (he U i b j _ c l) fun iv s2 ⟨y,q,r,t,ov,g,v⟩=>Calls.spliced_nil ?_)));exact Zqf hu r g t fun w' s3 w z=>⟨_,q,w,z,v⟩
end
section
variable {X:Cx}
theorem Zli:YW X (.builtin "len") (fun xs H Q=>∃a kvs,xs=[V.ref a]∧H a=some (.dK kvs)∧Q (.int kvs.length) H):=by intro U s σ H xs us Q I r h;obtain⟨a,kvs,rfl,b,q⟩:=h;obtain⟨u,rfl,c⟩:=Xt r;cases c;exact Zr3 I (.inl b) fun t s' d=>⟨.int kvs.length,H,d,⟨t,rfl⟩,q⟩
end
section
variable {κ:Type} [DecidableEq κ]
theorem Zpb{kvs:List (κ×V)}{k:κ}{v:V}(h:Zt kvs k=some v):k∈kvs.map (·.1):=by
 have q:(kvs.any fun a=>decide (a.1=k))=true:=by rw[TM,h];all_goals rfl
 obtain⟨p,b,e⟩:=List.any_eq_true.mp q;exact List.mem_map.mpr ⟨p,b,of_decide_eq_true e⟩
end
structure Mf (P:Program) (w:World) (K:#[7]) (mg:Str→Option Value) (base:Heap) (k:Nat) (C:Addr) (m:Str) (ps:List Str) (sp:Sp):Prop where
 ex:∃f fd,YC P w K mg base CX0 k f fd ps sp∧Vt K C m f∧Ys K fd ps []
structure Cf (P:Program) (w:World) (K:#[7]) (mg:Str→Option Value) (base:Heap) (k:Nat) (C:Addr) (x:Str) (ps:List Str) (sp:Sp):Prop where
 ex:∃f fd,YC P w K mg base CX0 k f fd ps sp∧Mk K C f∧Ys K fd ps []∧mg x=some (.ref C)
structure Yz (K:#[7]) (C:Addr) (m ap:Str) (st:Stmt) (ps:List Str):Prop where
 ex:∃f fd,Fun K m ap st f fd∧Vt K C m f∧Ys K fd ps []
structure TF (K:#[7]) (mg:Str→Option Value) (C:Addr) (x ap:Str) (st:Stmt) (ps:List Str):Prop where
 ex:∃f fd,Fun K "__init__" ap st f fd∧Mk K C f∧Ys K fd ps []∧mg x=some (.ref C)
section
variable {P:Program} {w:World} {K:#[7]} {mg:Str→Option Value} {base:Heap}
theorem Yz.mf{C:Addr}{m c:Str}{st:Stmt}{N ps:List Str}{k:Nat}{sp:Sp}(T:Yz K C m c st ps)(S:Zp N ps (Zg st))(len:∀vs H Q E,sp vs H Q E→vs.length=ps.length)
  (d:∀ (a:Value) (f:Addr) (A:Around) (outer:List Env) (s:Shared) (H:Hp) (vs:List V) (Q:VK) (E:XK),Y4 k (A.deeper (envOfC c (Zg st) s.heap.objs.size f a))→sp vs H Q E →
   ∃t,PSs (XQ CX0 P w K mg base N c (Zg st) f a A outer s H E).nox (Zm st) t∧t { nx:=fun _ e=>Q .non e,rt:=Q } (Xs N vs) H):Mf P w K mg base (k+1) C m ps sp:=by
 obtain⟨f,g,F,m,b⟩:=T.ex;exact⟨f,g,F.ok S len (fun a A outer s H vs Q E i h=>d a f A outer s H vs Q E i h),m,b⟩
theorem TF.cf{C:Addr}{x c:Str}{st:Stmt}{N ps:List Str}{k:Nat}{sp:Sp}(T:TF K mg C x c st ps)(S:Zp N ps (Zg st))(len:∀vs H Q E,sp vs H Q E→vs.length=ps.length)
  (d:∀ (a:Value) (f:Addr) (A:Around) (outer:List Env) (s:Shared) (H:Hp) (vs:List V) (Q:VK) (E:XK),Y4 k (A.deeper (envOfC c (Zg st) s.heap.objs.size f a))→sp vs H Q E →
   ∃t,PSs (XQ CX0 P w K mg base N c (Zg st) f a A outer s H E).nox (Zm st) t∧t { nx:=fun _ e=>Q .non e,rt:=Q } (Xs N vs) H):Cf P w K mg base (k+1) C x ps sp:=by
 obtain⟨f,i,F,m,b,g⟩:=T.ex;exact⟨f,i,F.ok S len (fun a A outer s H vs Q E j h=>d a f A outer s H vs Q E j h),m,b,g⟩
end
section
variable {X:Cx} {k j:Nat} {C:Addr} {m x:Str} {ps:List Str} {sp:Sp} {o e:Expr} {es:List Expr} {ta:TE} {t:TA} {p ay pos:Pos} {pl:Sem Bool}
theorem Xx(F:Mf X.prog X.w X.K X.mg X.base k C m ps sp)(c:Cls X.K C)(d:Y4 j X.A)(he:PE X o ta)(ha:PA X (e::es) t)(h:k≤j:=by decide)
  (i:starEach (e::es) X.env=(false,eval e X.env)::starEach es X.env:=by rfl) (l:(backTo pos (starEach es X.env)).any (·.1)=false:=by rfl)
  (n:eval (.Call (.Attribute o m ay) (e::es) [] pos) X.env=(do
   let a ← eval o X.env
   standAt ay.atName
   let (f,first) ← holding [a] (getMethod a m pl)
   callWith pos f first (backTo pos (starEach (e::es) X.env)) (backToKw pos (keywordEach [] X.env))):=by rfl) :
  PE X (.Call (.Attribute o m ay) (e::es) [] pos) (TX C m sp [] E0 ta t):=by
 obtain⟨f,fd,F,g,b⟩:=F.ex;exact ZoV he c g F (d.mono h) b .nil TW ha i l n
theorem YN(F:Mf X.prog X.w X.K X.mg X.base k C m ps sp)(c:Cls X.K C)(d:Y4 j X.A)(he:PE X o ta)(e:k≤j:=by decide)
  (h:eval (.Call (.Attribute o m ay) [] [] pos) X.env=(do
   let a ← eval o X.env
   standAt ay.atName
   let (f,first) ← holding [a] (getMethod a m pl)
   callWith pos f first (backTo pos (starEach [] X.env)) (backToKw pos (keywordEach [] X.env))):=by rfl) :
  PE X (.Call (.Attribute o m ay) [] [] pos) (TX C m sp [] E0 ta Si):=by
 obtain⟨f,fd,F,g,b⟩:=F.ex;exact ZmV he c g F (d.mono e) b .nil TW h
theorem UK(F:Cf X.prog X.w X.K X.mg X.base k C x ps sp)(a:Y4 j X.A)(ha:PA X (e::es) t)(c:k+1≤j:=by decide)(d:Gl X x:=by rfl)(h:(x == ("__debug__" : Str))=false:=by decide)
  (i:starEach (e::es) X.env=(false,eval e X.env)::starEach es X.env:=by rfl) (l:(backTo pos (starEach es X.env)).any (·.1)=false:=by rfl) :
  PE X (.Call (.Name x p) (e::es) [] pos) (N8 C sp [] E0 t):=by
 obtain⟨f,fd,F,g,b,m⟩:=F.ex;exact Zpo g F (a.mono c) d m b .nil TW ha h i l
end
section
variable {X:Cx} {U:List (Addr×Obj)} {σ:St} {H:Hp} {s:Shared} {d:Addr} {o:Obj} {u:HO}
theorem Inv.freeze(I:Inv X U σ H s)(e:H d=some u)(a:Mut (some u))(c:s.heap.get? d=some o):Inv X U σ (upd H d (.frz o u)) s:=by
 have h:=I.write (x:=d) (e:=d) (o:=.frz o u) (t':=s.toks) (h':=s.heap) (by rw[e];exact a) #[8] (fun b v _ q=>q) ⟨o,c⟩ ?_
 ·exact h
 ·refine⟨c,(I.hok d u e).stay (fun b v _ q=>q) (fun b q=>?_) (fun b xs q=>?_)⟩
  ·rw[Zb (fun z=>by rw[z,e]at q;cases q;exact a)];exact q
  ·rw[Zb (fun z=>by rw[z,e]at q;cases q;exact a)];exact q
theorem Inv.nofrz(I:Inv X U σ H s)(e:H d=some u)(c:Mut (some u)):∀a b,X.H₀ d≠some (.frz a b):=fun a b z=>by have:=I.base.frzs d a b z;rw[e]at this;cases this;exact c
theorem Inv.thaw(I:Inv X U σ H s)(e:H d=some (.frz o u))(mu:Mut (some u))(n:∀h i,X.H₀ d≠some (.frz h i)):Inv X U σ (upd H d u) s:=by
 have j:∀b,H b=none→b≠d:=fun b z=>Ze (H:=H) e z |>.symm;refine⟨I.ok,I.os,I.bare,⟨I.base.keep,I.base.slot,fun b v a1 a2 a3=>?_,I.base.there,fun b f q=>?_,fun b h i q=>?_,fun b l q=>?_⟩,I.loc,I.cell,?_,fun x c q=>?_,fun p m=>?_,?_,I.len⟩
 ·have:=I.base.free b v a1 a2 a3;rw[Zb (j b this)];exact this
 ·have:=I.base.tups b f q;rw[Zb (fun z=>by rw[z,e]at this;cases this)];exact this
 ·have:=I.base.frzs b h i q;rw[Zb (fun z=>by rw[z]at q;exact n h i q)];exact this
 ·obtain⟨g,this⟩:=I.base.tbls b l q;refine⟨g,?_⟩;rw[Zb (fun z=>by rw[z,e]at this;cases this)];exact this
 ·rw[Zb (j _ I.free)];exact I.free
 ·rw[Zb (j _ (I.freeC x c q))];exact I.freeC x c q
 ·obtain⟨a1,a2,a3⟩:=I.pin p m;exact⟨a1,by rw[Zb (j _ a2)];exact a2,a3⟩
 ·intro b v q;have own:∀c a,H c=some (.own a)→(upd H d u) c=some (.own a):=fun c a q=>by rw[Zb (fun z=>by rw[z,e]at q;cases q)];exact q
  have tup:∀c f,H c=some (.tup f)→(upd H d u) c=some (.tup f):=fun c f q=>by rw[Zb (fun z=>by rw[z,e]at q;cases q)];exact q
  by_cases k:b=d
  ·subst k;rw[Zc]at q;cases q;obtain⟨_,r⟩:=(show Z4 X.prog X.w H s.heap b (.frz o u) from I.hok b _ e);exact r.stay (fun c v _ q=>q) (fun c q=>own c b q) tup
  ·rw[Zb k]at q;exact(I.hok b v q).stay (fun c v _ q=>q) (fun c q=>own c b q) tup
end
def ZrF(t:TE):TE:=fun b H Q=>∃d u,H d=some u∧Mut (some u)∧t b H fun v a=>∃o,a d=some (.frz o u)∧Q v (upd a d u)
theorem RU{X:Cx}{e:Expr}{t:TE}(h:PE X e t):PE X e (ZrF t):=by intro U s b H Q I q;obtain⟨d,u,c,a,q⟩:=q;have n:=I.nofrz c a;refine thn (h U s b H _ I q) ?_;rintro v s1 ⟨x,H1,f,g,o,i,j⟩;exact⟨x,_,f.thaw i a n,g,j⟩
theorem TD{P:Program}{w:World}{k:Key}{v:Value}(h:(ZM P w).is k v=true):ZI (kV k) v:=by
 rw[Zkw]at h;rcases Xb h with⟨i,t,rfl,rfl⟩|⟨x,t,rfl,rfl⟩
 ·exact⟨t,rfl⟩
 ·exact⟨t,rfl⟩
def Nm:List V→Hp→VK→Prop:=fun xs H Q=>∃d kvs,xs=[.ref d]∧H d=some (.dK kvs)∧∀l,H l=none→Q (.ref l) (upd H l (.lst (kvs.map fun a=>kV a.1)))
theorem Nl{P:Program}{w:World}:∀ (kvs:List (Key×V)) (vs:List (Key×Value)) (us:List Value),KV kvs vs→us.length=vs.length→(∀ (j:Nat) (v:Value),us[j]? = some v→∃k x,vs[j]? = some (k,x)∧(ZM P w).is k v=true)→ZH (kvs.map fun f=>kV f.1) us:=by
 intro kvs vs us r;unfold KV at r;induction r generalizing us with
 | nil =>
  intro c _;cases us with
  | nil=>exact .nil
  | cons a b=>simp at c
 | @cons p q ps qs h t g =>
  intro c d;cases us with
  | nil=>simp at c
  | cons a b =>
   obtain⟨k,x,e,i⟩:=d 0 a rfl;have l:q=(k,x):=by simpa using e
   rw[Qh];refine .cons ?_ (g b (by simpa using c) fun j v m=>?_)
   ·rw[h.1,l];exact TD i
   ·simpa using d (j+1) v (by simpa using m)
theorem ZjO{X:Cx}(hc:X.calm=true):YW X (.type "list") Nm:=by intro U s σ H xs us Q I r h;obtain⟨d,b,rfl,m,q⟩:=h;obtain⟨u,rfl,n⟩:=Xt r;cases n;obtain⟨z,lo,k,f,p⟩:=(show Z4 X.prog X.w H s.heap d (.dK b) from I.hok d _ m);obtain⟨ep,t⟩:=p.dictAt;have hl:b.length=k.length:=f.length;refine PySem.W.kdl_call (PySem.W.kdl_dict lo) (I.ok.hd hc) t #[2] fun h' x g c y A l=>?_;have B:ZH (b.map fun i=>kV i.1) g.toList:=Nl (P:=X.prog) (w:=X.w) b k g.toList f (by rw[QaI];exact l.1) fun j v e=>l.2 j v (by rw[← Array.getElem?_toList];exact e);refine⟨.ref s.heap.objs.size,_,I.laid (a:=s.heap.objs.size) (o:=.lst (b.map fun i=>kV i.1)) (t':=x) y (Qg _) ?_,rfl,q _ (I.hok.fresh (Qg _))⟩;exact⟨by rw[Qa];exact z,g.toList,c,B,by simpa using A⟩
theorem Inv.dictF{X:Cx}{U:List (Addr×Obj)}{h:St}{H:Hp}{s:Shared}{d:Addr}{o:Obj}{kvs:List (Key×V)}{b:Array DictEntry}{ep:Nat}(I:Inv X U h H s)(e:H d=some (.frz o (.dK kvs)))(hd:o.data=.dict b ep) :
  ∃vs,KV kvs vs∧s.heap.DictAt (ZM X.prog X.w) d vs ep:=by
 obtain⟨c,_,_,vs,a,o',oB,oC,f,i,g,j⟩:=(show Z4 X.prog X.w H s.heap d (.frz o (.dK kvs)) from I.hok d _ e);rw[c]at f;cases f;rw[hd]at g;cases g;exact⟨vs,a,o,b,c,i,hd,j⟩
theorem TC{kvs:List (Key×V)}{vs:List (Key×Value)}(r:KV kvs vs):∀ (i:Nat) (k:Key) (x:V),kvs[i]? = some (k,x)→∃u,vs[i]? = some (k,u)∧ZI x u:=by
 unfold KV at r;induction r with
 | nil=>intro i k x h;simp at h
 | @cons p q ps qs h t b =>
  intro i k x a;cases i with
  | zero =>
   have e:p=(k,x):=by simpa using a
   refine⟨q.2,?_,?_⟩
   ·have:q=(k,q.2):=by rw[show k=q.1 by rw[← h.1,e]]
    simpa using this
   ·have:=h.2;rw[e]at this;exact this
  | succ i=>simpa using b i k x (by simpa using a)
noncomputable def Itv(d:Addr)(o:Obj)(kvs:List (Key×V)):It :=
 ⟨fun i H=>H d=some (.frz o (.dK kvs))∧i<kvs.length,fun i H v a=>a=H∧∃k,kvs[i]? = some (k,v),fun i H=>H d=some (.frz o (.dK kvs))∧kvs.length≤i⟩
noncomputable def Itk(d:Addr)(o:Obj)(kvs:List (Key×V)):It :=
 ⟨fun i H=>H d=some (.frz o (.dK kvs))∧i<kvs.length,fun i H v a=>a=H∧∃k x,kvs[i]? = some (k,x)∧v=kV k,fun i H=>H d=some (.frz o (.dK kvs))∧kvs.length≤i⟩
theorem ZlY{P:Program}{w:World}{K:#[7]}{M:Expr}{d it:Addr}{o:Obj}{kvs:List (Key×V)}{N:Array DictEntry}{ep:Nat}(hd:o.data=.dict N ep):WK P w K M (Itv d o kvs) [it] it (fun i h=>h.IsValIter it d i kvs.length ep) where
 mem:=by simp
 obj:=fun i h st b f=>by
  have e:b=it:=by simpa using f
  subst e;obtain⟨o,e,c,d⟩:=st;exact⟨o,e,fun v z=>by rw[d]at z;cases z⟩
 keep:=fun i h g st k=>by obtain⟨o,e,r⟩:=st;exact⟨o,k it #[4] o e,r⟩
 item:=by intro X m hw n J i U s L H E I j st p;subst m hw n;obtain⟨q,t,O,x,y,A⟩:=j it #[4];obtain⟨B,C⟩:=p;obtain⟨D,a,F⟩:=I.dictF B hd;have l:kvs.length=D.length:=a.length;obtain⟨u,Q,R⟩:=TC a i kvs[i].1 kvs[i].2 (Qb C);refine wpAny_pyNext_values_item (by rw[← l];exact st) F Q fun g G S=>?_;rw[← l]at G;have T:Inv X U L H { s with heap:=g }:=I.turned (t':=s.toks) (fun b o f e=>(S.2 b f).trans e) q t x y A;obtain⟨o1,W,c1,Y⟩:=id G;exact⟨_,rfl,UU (s:={ s with heap:=g }) W c1 Y #[6] ⟨kvs[i].2,H,T,R,⟨rfl,kvs[i].1,Qb C⟩,G,fun b f=>(j b f).1⟩⟩
 done:=by intro X m hw n J i U s L H E I j st p;subst m hw n;obtain⟨q,t,O,x,y,A⟩:=j it #[4];obtain⟨B,C⟩:=p;obtain⟨D,a,F⟩:=I.dictF B hd;have l:kvs.length=D.length:=a.length;exact wpAny_pyNext_values_end (I.ok.hd J) (by rw[← l];exact st) F (QL #[2]) fun g Z=>⟨rfl,I.turned (t':=s.toks) (fun b o f e=>Z b o f e) q t x y A⟩
 self:=fun _ _ _ _ _ st h=>wpAny_pyIter_valiter st h
theorem Zld{P:Program}{w:World}{K:#[7]}{M:Expr}{d it:Addr}{o:Obj}{kvs:List (Key×V)}{N:Array DictEntry}{ep:Nat}(hd:o.data=.dict N ep):WK P w K M (Itk d o kvs) [it] it (fun i h=>h.IsKeyIter it d i kvs.length ep) where
 mem:=by simp
 obj:=fun i h st b f=>by
  have e:b=it:=by simpa using f
  subst e;obtain⟨o,e,c,d⟩:=st;exact⟨o,e,fun v z=>by rw[d]at z;cases z⟩
 keep:=fun i h g st k=>by obtain⟨o,e,r⟩:=st;exact⟨o,k it #[4] o e,r⟩
 item:=by intro X m hw n J i U s L H E I j st p;subst m hw n;obtain⟨q,t,O,x,y,A⟩:=j it #[4];obtain⟨B,C⟩:=p;obtain⟨D,a,F⟩:=I.dictF B hd;have l:kvs.length=D.length:=a.length;obtain⟨u,Q,ru⟩:=TC a i kvs[i].1 kvs[i].2 (Qb C);refine wpAny_pyNext_dict_item (by rw[← l];exact st) F Q fun key g R G S=>?_;rw[← l]at G;have T:Inv X U L H { s with heap:=g }:=I.turned (t':=s.toks) (fun b o f e=>(S.2 b f).trans e) q t x y A;obtain⟨o1,W,c1,Y⟩:=id G;exact⟨_,rfl,UU (s:={ s with heap:=g }) W c1 Y #[6] ⟨kV kvs[i].1,H,T,TD R,⟨rfl,kvs[i].1,kvs[i].2,Qb C,rfl⟩,G,fun b f=>(j b f).1⟩⟩
 done:=by intro X m hw n J i U s L H E I j st p;subst m hw n;obtain⟨q,t,O,x,y,A⟩:=j it #[4];obtain⟨B,C⟩:=p;obtain⟨D,a,F⟩:=I.dictF B hd;have l:kvs.length=D.length:=a.length;exact wpAny_pyNext_dict_end (I.ok.hd J) (by rw[← l];exact st) F (QL #[2]) fun g Z=>⟨rfl,I.turned (t':=s.toks) (fun b o f e=>Z b o f e) q t x y A⟩
 self:=fun _ _ _ _ _ st h=>wpAny_pyIter_keyiter st h
def ZrS(b:TE):TI:=fun c H R=>b c H fun x a=>∃d kvs,x=.ref d∧a d=some (.dK kvs)∧∀o,R (Itk d o kvs) (upd a d (.frz o (.dK kvs)))
theorem Zn1{X:Cx}{r l:Expr}{g:TE}(hl:PE X l g):PI X r l (ZrS g):=by
 intro U s t H R I h;refine thn (hl U s t H _ I h) ?_;rintro v a ⟨x,i,j,u,w⟩;obtain⟨d,kvs,e,k,q⟩:=w;subst e;cases u;obtain⟨z,lo,m,c,o,y,ep,n,A,p,B⟩:=(show Z4 X.prog X.w i a.heap d (.dK kvs) from j.hok d _ k);have C:kvs.length=m.length:=c.length;have f:=j.freeze k True.intro n;refine wpAny_pyIter_dict (knd:=ZM X.prog X.w) (kvs:=m) (ep:=ep) lo ⟨o,y,n,A,p,B⟩ ?_;rw[← C];refine⟨a.heap.objs.size,[a.heap.objs.size],_,Itk d o kvs,upd i d (.frz o (.dK kvs)),rfl,f.kept (t':=a.toks) fun b o e=>Qc _ e,Zld p,⟨_,Qm _ rfl,rfl,rfl⟩,fun b D=>?_,q o⟩;have e:b=a.heap.objs.size:=by simpa using D
 subst e;exact f.fpOk (Qg _) (f.hok.fresh (Qg _))
def Nk:List V→Hp→VK→Prop:=fun xs H Q=>∃d kvs ns,xs=[.ref d]∧H d=some (.dK kvs)∧kvs.map (·.1)=ns.map Sum.inl∧ns.length<64 ∧
 ∀ (l:Addr) (a:List Int),H l=none→a.Perm ns→a.Pairwise (·≤·)→Q (.ref l) (upd H l (.lst (a.map V.int)))
theorem Zid{X:Cx}(hc:X.calm=true):YW X (.builtin "sorted") Nk:=by
 intro U s G H xs us Q I r h;obtain⟨d,c,n,rfl,J,x,y,q⟩:=h;obtain⟨u,rfl,K⟩:=Xt r;cases K;obtain⟨z,lo,A,i,L⟩:=(show Z4 X.prog X.w H s.heap d (.dK c) from I.hok d _ J);obtain⟨ep,M⟩:=L.dictAt;have hl:c.length=A.length:=i.length;have JX:c.length=n.length:=by have:=congrArg List.length x;simpa using this
 refine Calls.call_function_entry kind_sorted plain_sorted entry_sorted (args_sorted1 _) ?_;unfold Builtin.«sorted»;refine wpAny_bind (m:=checkCount "sorted" 1 1 _) (wpAny_pure ?_);refine wpAny_bind (PySem.W.kdu_collect (PySem.W.kdl_dict (knd:=ZM X.prog X.w) lo) (I.ok.hd hc) M #[2] fun f l g N B=>?_);have p:ZH (c.map fun k=>kV k.1) g.toList:=Nl (P:=X.prog) (w:=X.w) c A g.toList i (by rw[QaI];exact B.1) fun j v e=>B.2 j v (by rw[← Array.getElem?_toList];exact e);have O:(c.map fun k=>kV k.1)=n.map V.int:=by
  have:(c.map fun k=>kV k.1)=(c.map (·.1)).map kV:=by rw[Qn];rfl
  rw[this,x,Qn];rfl
 rw[O]at p;have R:g.toList.length=n.length:=by rw[← p.length,Qa]
 refine wpAny_bind (wpAny_newList ?_ (by rw[R];exact Qar (Qt y (by rw[sizeLine_eq];decide))));have t:(f.push (seqObj "list" g.toList.toArray 0)).get? f.objs.size=some (seqObj "list" g.toList.toArray 0):=Qm _ rfl;show wpAny _ _ _ _ _ { s with heap:=f.push (seqObj "list" g.toList.toArray 0),toks:=l };refine wpAny_bind (wpAny_holding (wpAny_call_entry slot_list_sort ⟨_,t,rfl⟩ entry_list_sort (list_sort_tree t (N0 p) #[2] fun out C a1 a2 a3=>⟨_,rfl,?_⟩) (args_list_sort _)));refine wpAny_pure ⟨_,rfl,?_⟩;obtain⟨e,S⟩:=sortedHeap_at (out:=out) t;have D:Inv X U G H { s with heap:=f,toks:=l }:=I.kept (t':=l) N;have old:∀b o,f.get? b=some o→(sortedHeap (f.push (seqObj "list" g.toList.toArray 0)) f.objs.size g.toList out).get? b=some o:=fun b o E=>by have F:=Qi E;rw[sortedHeap_old (Qz F) (by rw[size_push'];exact Nat.lt_succ_of_lt F)];exact Qc _ E
 refine⟨.ref f.objs.size,_,D.laid (a:=f.objs.size) (o:=.lst (C.map V.int)) (t':=l) old (Qg _) ?_,rfl,q _ C (D.hok.fresh (Qg _)) a2 a3⟩;have T:=a2.length_eq;exact⟨by rw[Qa,T];exact Qar (Qt y (by rw[sizeLine_eq];decide)),out.toList,e,Sd a1,by simpa using S⟩
def Zq8(b:TE):TI:=fun c H R=>b c H fun x a=>∃d kvs,x=.ref d∧a d=some (.dK kvs)∧∀o,R (Itv d o kvs) (upd a d (.frz o (.dK kvs)))
theorem Zog{X:Cx}{E o:Expr}{to:TE}{t u:Pos}(F:PE X o to)(G:attributeBase o "values" X.env (eval o X.env)=eval o X.env:=by rfl)(J:(t.endLine == u.line)=true:=by rfl) :
  PI X E (.Call (.Attribute o "values" t) [] [] u) (Zq8 to):=by
 intro U s w H R I h;refine wpAny_Call_method0_late G J (thn (F U s w H _ I h) ?_);rintro v c ⟨x,k,y,K,L⟩;obtain⟨d,f,e,A,q⟩:=L;subst e;cases K;obtain⟨z,lo,i,l,g,B,C,j,m,n,D⟩:=(show Z4 X.prog X.w k c.heap d (.dK f) from y.hok d _ A);have M:f.length=i.length:=l.length;have N:=y.freeze A True.intro j;have p:c.heap.DictOf (ZM X.prog X.w) d i:=⟨g,B,C,j,m,n,D⟩;refine⟨"dict", "dict.values",QW,PySem.F.slot_dict_values,PySem.F.type_dict_values,p.typeIs,fun a e=>?_,?_⟩
 ·cases e;exact⟨g,j,m.2.1⟩
 refine Calls.callWith_builtin rfl (QaG ?_);refine call_meetsIn PySem.F.slot_dict_values p.typeIs PySem.F.entry_dict_values (PySem.F.args_dict_values_1 _) (meets_dict_values (ZM X.prog X.w) d lo) ⟨⟨i,p⟩,?_⟩;have O:(c.heap.push { cls:=.type "dict_values",data:=.fields #[.ref d] }).IsValuesView c.heap.objs.size d:=⟨_,Qm _ rfl,rfl,rfl⟩;have P:(c.heap.push { cls:=.type "dict_values",data:=.fields #[.ref d] }).DictAt (ZM X.prog X.w) d i C:=⟨g,B,Qc _ j,m,n,D⟩;refine wpAny_pyIter_values (s:={ c with heap:=c.heap.push { cls:=.type "dict_values",data:=.fields #[.ref d] } }) O P ?_;rw[← M];have r:Inv X U w (upd k d (.frz g (.dK f))) { c with heap:=c.heap.push { cls:=.type "dict_values",data:=.fields #[.ref d] } }:=N.kept (t':=c.toks) fun b o e=>Qc _ e;refine⟨_,[_],_,Itv d g f,upd k d (.frz g (.dK f)),rfl,r.kept (t':=c.toks) fun b o e=>Qc _ e,ZlY n,⟨_,Qm _ rfl,rfl,rfl⟩,fun b Q=>?_,q g⟩;have e:=Ql.mp Q;rw[e];exact r.fpOk (Qg _) (r.hok.fresh (Qg _))
noncomputable def Iti(d:Addr)(o:Obj)(kvs:List (Key×V)):It :=
 ⟨fun i H=>H d=some (.frz o (.dK kvs))∧i<kvs.length,
  fun i H v a=>∃p k x,H p=none∧v=.ref p∧kvs[i]? = some (k,x)∧a=upd H p (.tup [kV k,x]),
  fun i H=>H d=some (.frz o (.dK kvs))∧kvs.length≤i⟩
theorem Zj6{P:Program}{w:World}{K:#[7]}{O:List Expr}{Q:Nat}{R:Pos}{d it:Addr}{o:Obj}{kvs:List (Key×V)}{S:Array DictEntry}{ep:Nat}(hd:o.data=.dict S ep) :
  WK P w K (.Tuple O Q R) (Iti d o kvs) [it] it (fun i h=>∃ok j,IsItemIter h it d i kvs.length ep ok j) where
 mem:=by simp
 obj:=fun i h st b g=>by
  have e:b=it:=by simpa using g
  subst e;obtain⟨ok,j,a⟩:=st;exact⟨_,a,fun v z=>by cases z⟩
 keep:=fun i h p st k=>by obtain⟨ok,j,a⟩:=st;exact⟨ok,j,k it #[4] _ a⟩
 item:=by
  intro X r hw t l i U s F H E I m st x;subst r hw t;obtain⟨ok,j,a⟩:=st;obtain⟨y,A⟩:=x;obtain⟨B,f,C⟩:=I.dictF y hd;have n:kvs.length=B.length:=f.length;obtain⟨u,T,W⟩:=TC f i kvs[i].1 kvs[i].2 (Qb A);refine wpAny_pyNext_items_item (by rw[← n];exact a) C T fun D p Y a1 a2 a3 a4=>?_;rw[← n]at a1;have lt:∀ {b:Addr} {o:Obj},s.heap.get? b=some o→s.heap.objs.size≠b:=fun q=>Q1 (Qi q);have G:s.heap.objs.size≠it:=lt a;refine⟨_,rfl,wpAny_letOwnedTupleGo_items a1 fun J L Z=>?_⟩;have M:Heap.SameBut it p J:=Z;have I2:Inv X U F (upd H s.heap.objs.size (.tup [kV kvs[i].1,kvs[i].2])) { s with heap:=J,toks:=s.toks }:=by
   refine I.zipped (fp:=[it]) (u:=D) (v:=u) m (TD Y) W (M.extBut _ _ G a2) (fun b g=>?_) fun c o l q=>?_
   ·have e:=Ql.mp g;subst e;exact⟨_,L⟩
   ·have N:c≠it:=fun z=>l (by rw[z];simp);exact M.extBut _ _ N (a4 c o N q)
  refine⟨.ref s.heap.objs.size,_,I2,rfl,⟨s.heap.objs.size,kvs[i].1,kvs[i].2,I.fresh,rfl,Qb A,rfl⟩,⟨_,_,L⟩,fun b g=>?_⟩;have e:=Ql.mp g;subst e;rw[Zb G.symm];exact(m _ g).1
 done:=by intro X r hw t l i U s F H E I m st x;subst r hw t;obtain⟨ok,j,a⟩:=st;obtain⟨f0,f1,f2,f3,f4,f5⟩:=m it #[4];obtain⟨y,A⟩:=x;obtain⟨B,f,C⟩:=I.dictF y hd;have n:kvs.length=B.length:=f.length;exact wpAny_pyNext_items_end (I.ok.hd l) (by rw[← n];exact a) C (QL #[2]) fun p eb=>⟨rfl,I.turned (t':=s.toks) (fun b o g e=>eb b o g e) f0 f1 f3 f4 f5⟩
 self:=fun _ _ _ _ _ st h=>by obtain⟨ok,j,a⟩:=st;exact PySem.W.kcp_self a h
def Zqw(b:TE):TI:=fun c H R=>b c H fun x a=>∃d kvs,x=.ref d∧a d=some (.dK kvs)∧∀o,R (Iti d o kvs) (upd a d (.frz o (.dK kvs)))
theorem ZmI{X:Cx}{E:List Expr}{F:Nat}{G:Pos}{o:Expr}{to:TE}{t u:Pos}(J:PE X o to)(K:attributeBase o "items" X.env (eval o X.env)=eval o X.env:=by rfl)(L:(t.endLine == u.line)=true:=by rfl) :
  PI X (.Tuple E F G) (.Call (.Attribute o "items" t) [] [] u) (Zqw to):=by
 intro U s w H R I h;refine wpAny_Call_method0_late K L (thn (J U s w H _ I h) ?_);rintro v c ⟨x,k,y,M,N⟩;obtain⟨d,f,e,A,q⟩:=N;subst e;cases M;obtain⟨z,lo,i,l,g,B,C,j,m,n,D⟩:=(show Z4 X.prog X.w k c.heap d (.dK f) from y.hok d _ A);have O:f.length=i.length:=l.length;have P:=y.freeze A True.intro j;have p:c.heap.DictOf (ZM X.prog X.w) d i:=⟨g,B,C,j,m,n,D⟩;refine⟨"dict", "dict.items",QW,Qat,PySem.F.type_dict_items,p.typeIs,fun a e=>?_,?_⟩
 ·cases e;exact⟨g,j,m.2.1⟩
 refine Calls.callWith_builtin rfl (QaG ?_);refine call_meetsIn Qat p.typeIs PySem.F.entry_dict_items (PySem.F.args_dict_items_1 _) (meets_dict_items (ZM X.prog X.w) d lo) ⟨⟨i,p⟩,?_⟩;have Q:(c.heap.push { cls:=.type "dict_items",data:=.fields #[.ref d] }).IsItemsView c.heap.objs.size d:=⟨_,Qm _ rfl,rfl,rfl⟩;have S:(c.heap.push { cls:=.type "dict_items",data:=.fields #[.ref d] }).DictAt (ZM X.prog X.w) d i C:=⟨g,B,Qc _ j,m,n,D⟩;refine wpAny_pyIter_items (s:={ c with heap:=c.heap.push { cls:=.type "dict_items",data:=.fields #[.ref d] } }) Q S ?_;rw[← O];have r:Inv X U w (upd k d (.frz g (.dK f))) { c with heap:=c.heap.push { cls:=.type "dict_items",data:=.fields #[.ref d] } }:=P.kept (t':=c.toks) fun b o e=>Qc _ e;refine⟨_,[_],_,Iti d g f,upd k d (.frz g (.dK f)),rfl,r.kept (t':=c.toks) fun b o e=>Qc _ e,Zj6 n,⟨_,_,Qm _ rfl⟩,fun b T=>?_,q g⟩;have e:=Ql.mp T;rw[e];exact r.fpOk (Qg _) (r.hok.fresh (Qg _))
def Zor:R2:=fun y x H Q=>∃a o,x=.ref a∧ZX H a y o∧Q (.bl (!o.isSome)) H
def Zsj:R2:=fun x y H Q=>∃a v,x=.ref a∧ZX H a y (some v)∧Q v H
section
variable {X:Cx} {k:Nat}
theorem Nj(b:Y4 k X.A):OpR X (compareOp .NotIn) Zor:=by intro U s σ H x y v u Q I c d h;obtain⟨a,o,rfl,g,q⟩:=h;cases d;exact Zpm (TV b) I g c fun s3 e=>⟨.bl (!o.isSome),H,e,rfl,q⟩
noncomputable def Zrr:T2:=fun o i v H Q=>∃a b,o=.ref a∧YG H a i v b∧Q b
theorem X9(b:Y4 k X.A):Ss X Zrr:=by intro U s σ H o i v ov iv u Q I c d e h;obtain⟨a,f,rfl,g,q⟩:=h;cases c;exact Zk9 (TV b) I g d e fun s4 j=>⟨f,j,q⟩
theorem ZjL{prog:Program}{w:World}{A:Around}{E:Value→Shared→Prop}{s:Shared}{value b:Expr}{o i:Value}{T id:String}{Q:Value→Shared→Prop}(c:s.TypeIs o T)
  (hl:typeLookup (.type T) "__getitem__" = pure (some (.builtin id))) (e:subscripted b false o i=operate [o,i] (getItem o i)) (h:wpAny (model prog w) A (getItem o i) Q E s) :
  wpAny (model prog w) A (subscriptTail value b o i) Q E s:=by
 unfold subscriptTail;refine wpAny_bind ?_;rw[getitemInPython_of_ne c.not_modules];refine wpAny_bind (wpAny_specialOf c hl ?_);have a:wpAny (model prog w) A (subscripted b false o i) (fun r d=>wpAny (model prog w) A (letTemporaryGo value o r >>= fun _=>pure r) Q E d) E s:=by rw[e];exact wpAny_operating (wpAny_mono h (fun r d f=>wpAny_bind (wpAny_letTemporaryGo (wpAny_pure f))) fun _ _ x=>x)
 first
  | exact wpAny_pure (wpAny_bind a)
  | exact wpAny_bind (wpAny_pure (wpAny_bind a))
  | exact wpAny_bind a
theorem ixG(b:Y4 k X.A):IxR X Zsj:=by intro value cG U s σ H x y v u Q I c d h e;obtain⟨a,z,rfl,g,q⟩:=h;cases c;exact ZjL (ZiI I g) PySem.F.slot_dict_getitem.lookup e (ZlV (TV b) I g d fun w' s' f i=>⟨z,H,f,i,q⟩)
theorem Ni:YW X (.builtin "len") (fun xs H Q=>∃a kvs,xs=[V.ref a]∧H a=some (.dK kvs)∧Q (.int kvs.length) H):=Zli
theorem VN(hc:X.calm=true:=by rfl):YW X (.builtin "sorted") Nk:=Zid hc
theorem Nh(hc:X.calm=true:=by rfl):YW X (.type "list") Nm:=ZjO hc
end
mutual
inductive DH (H:Hp):V→PyData→Prop where
 | non:DH H .non .none
 | bl (b:Bool):DH H (.bl b) (.bool b)
 | int (i:Int):DH H (.int i) (.int i)
 | str (s:Str):DH H (.str s) (.str s)
 | lst {a:Addr} {xs:List V} {ds:List PyData}:H a=some (.lst xs)→DHs H xs ds→DH H (.ref a) (.list ds)
 | tup {a:Addr} {xs:List V} {ds:List PyData}:H a=some (.tup xs)→DHs H xs ds→DH H (.ref a) (.tuple ds)
inductive DHs (H:Hp):List V→List PyData→Prop where
 | nil:DHs H [] []
 | cons {x:V} {d:PyData} {xs:List V} {ds:List PyData}:DH H x d→DHs H xs ds→DHs H (x::xs) (d::ds)
end
mutual
theorem DH.mono{H c:Hp}(s:ZG H c):∀ {x:V} {d:PyData},DH H x d→DH c x d
 | _,_,.non=>.non
 | _,_,.bl b=>.bl b
 | _,_,.int i=>.int i
 | _,_,.str z=>.str z
 | _,_,.lst h a=>.lst (s _ _ h) (DHs.mono s a)
 | _,_,.tup h a=>.tup (s _ _ h) (DHs.mono s a)
theorem DHs.mono{H a:Hp}(s:ZG H a):∀ {xs:List V} {ds:List PyData},DHs H xs ds→DHs a xs ds
 | _,_,.nil=>.nil
 | _,_,.cons h b=>.cons (DH.mono s h) (DHs.mono s b)
end
mutual
theorem DH.dv{K:#[7]}{H:Hp}:∀ {x:V} {d:PyData},DH H x d→DV K H x d
 | _,_,.non=>.non
 | _,_,.bl b=>.bl b
 | _,_,.int i=>.int i
 | _,_,.str z=>.str z
 | _,_,.lst h a=>.lst (SqL.of h) (DHs.dv a)
 | _,_,.tup h a=>.tup (SqT.of h) (DHs.dv a)
theorem DHs.dv{K:#[7]}{H:Hp}:∀ {xs:List V} {ds:List PyData},DHs H xs ds→DVs K H xs ds
 | _,_,.nil=>.nil
 | _,_,.cons h a=>.cons (DH.dv h) (DHs.dv a)
end
theorem Ng:∀ (more a:List (Key×V)),((a++more).map (·.1)).Nodup→Wm a more=a++more
 | [],a,_=>by show a=_;rw[QaO]
 | x::r,a,h=>by
  have hx:Zt a x.1=none:=by
   cases b:Zt a x.1 with
   | none=>rfl
   | some v=>have:=Zpb b;rw[Qf,Qh]at h;have:=(List.nodup_append.mp h).2.2 x.1 this x.1 #[4];exact absurd rfl this
  show Wm (YT a x.1 x.2) r=_;rw[Wn _ hx,Ng r (a++[x]) (by rw[QaW];exact h),QaW];rfl
theorem Wl{kvs:List (Key×V)}{k:Key}{v:V}(h:Zt kvs k=some v):(k,v)∈kvs:=by
 unfold Zt at h;obtain⟨p,a,rfl⟩:=QaV.mp h;have b:=List.find?_some a;have c:=Qao a;have:p.1=k:=by simpa using b
 rw[← this];exact c
theorem TB{kvs:List (Key×V)}(a:(kvs.map (·.1)).Nodup){k:Key}{v:V}(h:(k,v)∈kvs):Zt kvs k=some v:=by
 induction kvs with
 | nil=>cases h
 | cons p r b =>
  obtain⟨c,d⟩:=QR.mp (by simpa using a:(p.1::r.map (·.1)).Nodup);rcases QM.mp h with rfl|h
  ·exact Vo rfl
  ·rw[Vn fun e=>c (e ▸ Qe (f:=(·.1)) h)];exact b d h
end L2
namespace L2
open PySem PySem.Spec PyProof.Rows
theorem ZX.fz{H:Hp}{a:Addr}{o:Obj}{kvs:List (Key×V)}{k:Key}{r:Option V}(e:H a=some (.frz o (.dK kvs)))(h:Zt kvs k=r):ZX H a (kV k) r:=.inl ⟨kvs,k,.inr ⟨o,e⟩,rfl,h.symm⟩
theorem ZoB{d:Addr}{o:Obj}{kvs:List (Key×V)}{k:Nat}{D:Addr}{a:L2.St}{f:Hp}{g:TG}{h:TT}{j:TE}{Q:VK}(Pv:Nat→List V→L2.St→Hp→Prop)(h0:Pv 0 [] (a++List.replicate k none) (upd f D (.lst [])))
  (hl:∀i ys a H,Pv i ys a H→H d=some (.frz o (.dK kvs)))
  (s:∀i k x ys a H,kvs[i]? = some (k,x)→Pv i ys a H→g (kV k) a H fun c t=>h c t fun b l=>if b=true then j c l fun y n=>n D=some (.lst ys)∧ys.length<sizeLine∧Pv (i+1) (ys++[y]) c (upd n D (.lst (ys++[y]))) else Pv (i+1) ys c l)
  (hd:∀ys a H,Pv kvs.length ys a H→Q (.ref D) H):Wo (Itk d o kvs) D k a f g h j Q:=by
 refine⟨fun i m ys a H=>m=kvs.length-i∧i≤kvs.length∧Pv i ys a H,⟨kvs.length,by simp,Qs _,h0⟩,?_⟩;rintro i m ys a H ⟨rfl,hi,p⟩;have q:=hl i ys a H p;by_cases r:i<kvs.length
 ·refine .inr ⟨⟨q,r⟩,Pv (i+1),fun gR ao u v=>⟨kvs.length-(i+1),by lia,rfl,r,v⟩,fun x u y=>?_⟩;obtain⟨rfl,k',w,e,rfl⟩:=y;exact s i k' w ys a _ e p
 ·have e:i=kvs.length:=by lia
  exact .inl ⟨⟨q,by lia⟩,hd ys a H (e ▸ p)⟩
theorem Zpl{d:Addr}{o:Obj}{kvs:List (Key×V)}{k:Nat}{D:Addr}{a:L2.St}{f:Hp}{g:TG}{h:TT}{j:TE}{Q:VK}(Pv:Nat→List V→L2.St→Hp→Prop)(h0:Pv 0 [] (a++List.replicate k none) (upd f D (.lst [])))
  (hl:∀i ys a H,Pv i ys a H→H d=some (.frz o (.dK kvs)))
  (s:∀i k x ys a H,kvs[i]? = some (k,x)→Pv i ys a H→g x a H fun c t=>h c t fun b l=>if b=true then j c l fun y n=>n D=some (.lst ys)∧ys.length<sizeLine∧Pv (i+1) (ys++[y]) c (upd n D (.lst (ys++[y]))) else Pv (i+1) ys c l)
  (hd:∀ys a H,Pv kvs.length ys a H→Q (.ref D) H):Wo (Itv d o kvs) D k a f g h j Q:=by
 refine⟨fun i m ys a H=>m=kvs.length-i∧i≤kvs.length∧Pv i ys a H,⟨kvs.length,by simp,Qs _,h0⟩,?_⟩;rintro i m ys a H ⟨rfl,hi,p⟩;have q:=hl i ys a H p;by_cases r:i<kvs.length
 ·refine .inr ⟨⟨q,r⟩,Pv (i+1),fun gR ao u v=>⟨kvs.length-(i+1),by lia,rfl,r,v⟩,fun x u y=>?_⟩;obtain⟨rfl,k',e⟩:=y;exact s i k' x ys a _ e p
 ·have e:i=kvs.length:=by lia
  exact .inl ⟨⟨q,by lia⟩,hd ys a H (e ▸ p)⟩
theorem Zod{d:Addr}{o:Obj}{kvs:List (Key×V)}{k:Nat}{D:Addr}{a:L2.St}{f:Hp}{g:TG}{h:TT}{j:TE}{Q:VK}(Pv:Nat→List V→L2.St→Hp→Prop)(h0:Pv 0 [] (a++List.replicate k none) (upd f D (.lst [])))
  (hl:∀i ys a H,Pv i ys a H→H d=some (.frz o (.dK kvs)))
  (t:∀i k x ys a H p,kvs[i]? = some (k,x)→Pv i ys a H→H p=none→g (.ref p) a (upd H p (.tup [kV k,x])) fun c u=>h c u fun b l=>if b=true then j c l fun y n=>n D=some (.lst ys)∧ys.length<sizeLine∧Pv (i+1) (ys++[y]) c (upd n D (.lst (ys++[y]))) else Pv (i+1) ys c l)
  (hd:∀ys a H,Pv kvs.length ys a H→Q (.ref D) H):Wo (Iti d o kvs) D k a f g h j Q:=by
 refine⟨fun i m ys a H=>m=kvs.length-i∧i≤kvs.length∧Pv i ys a H,⟨kvs.length,by simp,Qs _,h0⟩,?_⟩;rintro i m ys a H ⟨rfl,hi,p⟩;have q:=hl i ys a H p;by_cases s:i<kvs.length
 ·refine .inr ⟨⟨q,s⟩,Pv (i+1),fun gR ao v w=>⟨kvs.length-(i+1),by lia,rfl,s,w⟩,fun x v y=>?_⟩;obtain⟨r,k',z,A,rfl,e,rfl⟩:=y;exact t i k' z ys a H r e p A
 ·have e:i=kvs.length:=by lia
  exact .inl ⟨⟨q,by lia⟩,hd ys a H (e ▸ p)⟩
noncomputable def off(p:Addr)(H:Hp):Hp:=fun b=>if b=p then none else H b
theorem UJ{p b:Addr}{H:Hp}{o:HO}(h:H b=some o)(n:b≠p):off p H b=some o:=by unfold off;rw[if_neg n];exact h
theorem ZpW{p:Addr}{H:Hp}:ZG (off p H) H:=fun b o h=>by
 unfold off at h;split at h
 ·cases h
 ·exact h
theorem ZmN{p l:Addr}{H:Hp}(h:H l=none):off p H l=none:=by unfold off;split;rfl;exact h
def Zrg:V→List V→Hp→VK→Prop:=fun x vs H Q=>∃a kvs k v,x=.ref a∧vs=[kV k]∧H a=some (.dK kvs)∧Zt kvs k=some v∧Q v (upd H a (.dK (Xe kvs k)))
theorem RT{X:Cx}:MtM X "dict.pop" Zrg:=by intro U s σ H x vs v us Q I b c h;obtain⟨a,kvs,k,y,rfl,rfl,d,e,q⟩:=h;cases b;obtain⟨u,rfl,f⟩:=c.one;exact ZrO I d f e #[8] fun w' s' g i=>⟨y,_,g,i,q⟩
theorem Yy{X:Cx}{s:Stmt}:PS X s (fun _ _ _=>False):=fun U s' σ H D I h=>h.elim
theorem Inv.laidMany{X:Cx}{U:List (Addr×Obj)}{f:St}{H a:Hp}{s:Shared}{h':Heap}{t':Nat}(I:Inv X U f H s)(k:∀b u,s.heap.get? b=some u→h'.get? b=some u)
  (same:∀b o,H b=some o→a b=some o) (low:∀b,b<s.heap.objs.size→a b=H b) (new:∀b o,H b=none→a b=some o→Z4 X.prog X.w a h' b o):Inv X U f a { s with heap:=h',toks:=t' }:=by
 refine I.un (t':=t') ⟨fun b u q _ _ _=>k b u q,fun b u q _ _ _=>⟨u.slots,k b u q⟩,fun b u q n _=>by rw[low b (Qi q)];exact n,fun b u q _=>⟨u,k b u q⟩,fun b g q=>same b _ q,fun b u g q=>same b _ q,fun b ps q=>⟨#[],by rw[same b _ q];simp⟩⟩ fun b u e=>?_;cases d:H b with
 | none=>exact new b u d e
 | some v=>have:=same b v d;rw[this]at e;cases e;exact(I.hok b _ d).stay (fun c x _ q=>k c x q) (fun c q=>same c _ q) fun c g q=>same c _ q
noncomputable def VM(ts:List (Addr×Key×V))(l:Addr)(H:Hp):Hp:=fun b=>if b=l then some (.lst (ts.map fun t=>V.ref t.1)) else
 match ts.find? fun t=>decide (t.1=b) with
 | some t=>some (.tup [kV t.2.1,t.2.2])
 | none=>H b
theorem Nf(ts:List (Addr×Key×V))(l:Addr)(H:Hp):VM ts l H l=some (.lst (ts.map fun t=>V.ref t.1)):=by unfold VM;rw[if_pos rfl]
theorem Zpu{ts:List (Addr×Key×V)}(nd:(ts.map (·.1)).Nodup){t:Addr×Key×V}(h:t∈ts):(ts.find? fun x=>decide (x.1=t.1))=some t:=by
 induction ts with
 | nil=>cases h
 | cons x r a =>
  rw[Qh,QR]at nd;rw[Q2];rcases QM.mp h with rfl|h
  ·rw[decide_eq_true rfl]
  ·rw[decide_eq_false (fun z:x.1=t.1=>nd.1 (by rw[z];exact Qe (f:=fun x:Addr×Key×V=>x.1) h))];exact a nd.2 h
theorem Nd{ts:List (Addr×Key×V)}{l:Addr}{H:Hp}(nd:(ts.map (·.1)).Nodup)(hl:l ∉ ts.map (·.1)){t:Addr×Key×V}(h:t∈ts):VM ts l H t.1=some (.tup [kV t.2.1,t.2.2]):=by unfold VM;rw[if_neg (fun z:t.1=l=>hl (by rw[← z];exact Qe (f:=fun x:Addr×Key×V=>x.1) h)),Zpu nd h]
theorem Tz{ts:List (Addr×Key×V)}{l:Addr}{H:Hp}{b:Addr}(hl:b≠l)(h:b ∉ ts.map (·.1)):VM ts l H b=H b:=by
 unfold VM;rw[if_neg hl];cases e:ts.find? fun t=>decide (t.1=b) with
 | none=>rfl
 | some t=>have a:=List.find?_some e;have c:=Qao e;have d:t.1=b:=of_decide_eq_true a;exact absurd (by rw[← d];exact Qe (f:=fun x:Addr×Key×V=>x.1) c) h
def ZlN(to:TE):TE:=fun f H Q=>to f H fun x a=>∃d kvs,x=.ref d∧a d=some (.dK kvs) ∧
 ∀ (l:Addr) (e:List (Addr×Key×V)) (c:Hp),a l=none→e.map (·.2)=kvs→(∀t∈e,a t.1=none∧c t.1=some (.tup [kV t.2.1,t.2.2]))→(∀b o,a b=some o→c b=some o)→c l=some (.lst (e.map fun t=>V.ref t.1))→Q (.ref l) c
theorem Zjv{X:Cx}{o:Expr}{to:TE}{B C pos p:Pos}(hc:X.calm=true)(D:Gl X "list")(hm:X.mg "list" = none)(ho:PE X o to)(bR:attributeBase o "items" X.env (eval o X.env)=eval o X.env:=by rfl)(dj:(B.endLine == C.line)=true:=by rfl)
  (Z:starEach [.Call (.Attribute o "items" B) [] [] C] X.env=[(false,eval (.Call (.Attribute o "items" B) [] [] C) X.env)]:=by rfl) :
  PE X (.Call (.Name "list" p) [.Call (.Attribute o "items" B) [] [] C] [] pos) (ZlN to):=by
 intro U s σ H Q I h;refine wpAny_Call_Name_kw (Wu I D hm boot_list ?_ #[6] #[6]);refine QV (e:=.Call (.Attribute o "items" B) [] [] C) (rest:=[]) ?_ Z rfl;rw[Z];refine Calls.spliced_cons ?_;refine wpAny_Call_method0_late bR dj (thn (ho U s σ H _ I h) ?_);rintro v i ⟨x,M,J,r1,q1⟩;obtain⟨d,l,e,hd,q⟩:=q1;subst e;cases r1;obtain⟨z,lo,K,E,N,es,ep,O,P,h3,h4⟩:=(show Z4 X.prog X.w M i.heap d (.dK l) from J.hok d _ hd);have aw:l.length=K.length:=E.length;have R:i.heap.DictOf (ZM X.prog X.w) d K:=⟨N,es,ep,O,P,h3,h4⟩;refine⟨"dict", "dict.items",QW,Qat,PySem.F.type_dict_items,R.typeIs,fun a e=>?_,?_⟩
 ·cases e;exact⟨N,O,P.2.1⟩
 refine Calls.callWith_builtin rfl (QaG ?_);refine call_meetsIn Qat R.typeIs PySem.F.entry_dict_items (PySem.F.args_dict_items_1 _) (meets_dict_items (ZM X.prog X.w) d lo) ⟨⟨K,R⟩,?_⟩;have hv:(i.heap.push { cls:=.type "dict_items",data:=.fields #[.ref d] }).IsItemsView i.heap.objs.size d:=⟨_,Qm _ rfl,rfl,rfl⟩;have da:(i.heap.push { cls:=.type "dict_items",data:=.fields #[.ref d] }).DictAt (ZM X.prog X.w) d K ep:=⟨N,es,Qc _ O,P,h3,h4⟩;refine Calls.spliced_nil ?_;refine PySem.W.kdx_call (s:={ i with heap:=i.heap.push { cls:=.type "dict_items",data:=.fields #[.ref d] } }) (J.ok.hd hc) hv da #[2] fun h' tk aA c F k hL JY S gs=>?_;have uZ:(i.heap.push { cls:=.type "dict_items",data:=.fields #[.ref d] }).objs.size=i.heap.objs.size+1:=QX _ _;have ez:F.length=l.length:=by lia
 obtain⟨n,w,L⟩:∃n:List (Addr×Key×V),n.map (·.1)=F∧n.map (·.2)=l:=⟨F.zip l,by rw[List.map_fst_zip #[2]],by rw[List.map_snd_zip #[2]]⟩;have G:∀a∈F,i.heap.objs.size+1<a:=fun a ha=>by have:=S.above a ha;rw[uZ]at this;exact this
 have T:(n.map (·.1)).Nodup:=by rw[w];exact S.rise.imp fun h=>Qz h
 have W:(i.heap.push { cls:=.type "dict_items",data:=.fields #[.ref d] }).objs.size ∉ n.map (·.1):=by rw[w];intro z;have:=G _ z;lia
 have A:∀b,i.heap.objs.size≤b→M b=none:=fun b g=>J.hok.fresh g;have tup:∀t∈n,∃m u,ZI (kV t.2.1) m∧ZI t.2.2 u∧h'.get? t.1=some { cls:=.type "tuple",data:=.seq #[m,u] }:=fun t y=>by
  obtain⟨j,hj⟩:=Q9.mp y;have ja:F[j]? = some t.1:=by rw[← w,Qk,hj];rfl
  have jk:l[j]? = some (t.2.1,t.2.2):=by rw[← L,Qk,hj];rfl
  obtain⟨m,k',x,qX,jJ,D⟩:=S.pairs j t.1 ja;obtain⟨u,hu,Y⟩:=TC E j t.2.1 t.2.2 jk;rw[qX]at hu;cases hu;exact⟨m,_,TD jJ,Y,D⟩
 refine⟨.ref (i.heap.push { cls:=.type "dict_items",data:=.fields #[.ref d] }).objs.size,VM n (i.heap.push { cls:=.type "dict_items",data:=.fields #[.ref d] }).objs.size M,?_,rfl,q _ n _ (A _ #[2]) L (fun t y=>⟨A _ ?_,Nd T W y⟩) (fun b o g=>?_) (Nf _ _ _)⟩
 ·refine J.laidMany (h':=h') (t':=tk) (fun b u e=>k b u (Qc _ e)) (fun b o g=>?_) (fun b g=>?_) (fun b o hn g=>?_)
  ·rw[Tz (fun z=>by rw[z,A _ #[2]]at g;cases g) (fun z=>by rw[w]at z;rw[A b (by have:=G b z;lia)]at g;cases g)];exact g
  ·exact Tz (by rw[uZ];exact Qz (Nat.lt_succ_of_lt g)) (fun z=>by rw[w]at z;have:=G b z;lia)
  ·by_cases h5:b=(i.heap.push { cls:=.type "dict_items",data:=.fields #[.ref d] }).objs.size
   ·subst h5;rw[Nf]at g;cases g;refine⟨by have:=congrArg List.length L;rw[Qa]at this ⊢;lia,aA.toList,c,?_,by simpa using hL⟩;rw[gs,← w,Qn];clear w L T W tup;induction n with
    | nil=>exact .nil
    | cons t r ih=>exact .cons rfl ih
   ·by_cases h6:b∈n.map (·.1)
    ·obtain⟨t,y,rfl⟩:=Qp.mp h6;rw[Nd T W y]at g;cases g;obtain⟨m,u,rk,Y,D⟩:=tup t y;exact⟨by show 2≤sizeLine;decide,[m,u],.cons rk (.cons Y .nil),_,D,rfl,_,rfl⟩
    ·rw[Tz h5 h6,hn]at g;cases g
 ·have:=G t.1 (by rw[← w];exact Qe (f:=fun x:Addr×Key×V=>x.1) y);lia
 ·rw[Tz (fun z=>by rw[z,A _ #[2]]at g;cases g) (fun z=>by rw[w]at z;rw[A b (by have:=G b z;lia)]at g;cases g)];exact g
theorem ZqZ{X:Cx}{k:Nat}{o e:Expr}{b ty:TE}{c a:Pos}(f:Y4 k X.A)(g:PE X o b)(he:PE X e ty)(hb:attributeBase o "get" X.env (eval o X.env)=eval o X.env:=by rfl)
  (h:(c.endLine == a.line)=true:=by rfl) (d:backTo a (starEach [e] X.env)=[(false,eval e X.env)]:=by rfl):PE X (.Call (.Attribute o "get" c) [e] [] a) (No b ty):=by
 refine Zmu (TV f) g he ⟨hb,?_,h,d⟩;rw[d];rfl
section
variable {X:Cx}
theorem Zou{x:Str}{n:Int}{pos:Pos}(hm:∃tk,X.mg x=some (.int n tk))(a:Gl X x:=by rfl)(hd:(x == ("__debug__" : Str))=false:=by decide):PE X (.Name x pos) (tC (.int n)):=by obtain⟨tk,h⟩:=hm;exact Zoy a h ⟨tk,rfl⟩ hd
end
def Zsw(t u:TS):TS:=fun D c H=>∃M:St→Hp→Prop,t { D with nx:=M } c H∧∀a b,M a b→u D a b
theorem Xd{X:Cx}{st:Stmt}{rest:List Stmt}{t u:TS}(h1:PS X st t)(h2:PSs X rest u):PSs X (st::rest) (Zsw t u):=by
 intro U s c H D I h;obtain⟨M,h,d⟩:=h;refine wpAny_execs_cons (thn (h1 U s c H { D with nx:=M } I h) fun f e q=>?_);cases f with
 | next=>obtain⟨a,b,g,q⟩:=q;exact h2 U e a b D g (d a b q)
 | ret v=>exact q
 | brk=>exact q
 | cont=>exact q
noncomputable def apart:List Int→Bool
 | []=>true
 | x::r=>r.all (fun y=>x != y)&&apart r
structure CompScC (N N':List Str) (o c:Scope):Prop where
 kind:c.kind=.function
 okind:o.kind=.function
 cel:∀y∈c.names,y.2=.cell→c.names.lookup y.1=some .cell
 loc:∀y∈c.names,y.2=.local→c.names.lookup y.1=some .local
 free:∀y∈c.names,y.2=.free→c.names.lookup y.1=some .free∧(o.names.lookup y.1=some .cell∨o.names.lookup y.1=some .free)
 len:N.length≤N'.length
 same:∀i∈List.range N.length,∀x∈N'[i]?,c.names.lookup x=some .local∨c.names.lookup x=some .free∨c.names.lookup x=some .cell→c.names.lookup x=some .free∧N[i]? = some x
 nd:N'.Nodup
end L2
namespace L2
open PySem PySem.Spec PyProof.Rows
def Has(b:PyProof.Rows.KeyKind)(p:Keyed):Prop:=∃a,b.keyOf p.1=some a
noncomputable def kyd(a:PyProof.Rows.KeyKind)(p:Keyed):a.α:=(a.keyOf p.1).getD a.dflt
section
variable {κ:PyProof.Rows.KeyKind}
def kS(κ:PyProof.Rows.KeyKind)(l:List Keyed):Prop:=l.Pairwise fun p q=>κ.kle (kyd κ p) (kyd κ q)
def kLe(κ:PyProof.Rows.KeyKind)(l m:List Keyed):Prop:=∀x∈l,∀y∈m,κ.kle (kyd κ x) (kyd κ y)
structure Mg (κ:PyProof.Rows.KeyKind) (all out l m:List Keyed):Prop where
 perm:(out++(l++m)).Perm all
 so:kS κ out
 sl:kS κ l
 sm:kS κ m
 ol:kLe κ out l
 om:kLe κ out m
structure Mh (κ:PyProof.Rows.KeyKind) (all l m out:List Keyed):Prop where
 perm:((l++m)++out).Perm all
 so:kS κ out
 sl:kS κ l
 sm:kS κ m
 lo:kLe κ l out
 mo:kLe κ m out
structure LoPre (κ:PyProof.Rows.KeyKind) (a b:Array Keyed):Prop where
 ha:∀p∈a.toList,Has κ p
 hb:∀p∈b.toList,Has κ p
 sa:kS κ a.toList
 sb:kS κ b.toList
 a0:0<a.size
 b0:0<b.size
 fst:∀i,i<a.size→κ.kle (KK κ b 0) (KK κ a i)
 lst:∀i,i<b.size→κ.kle (KK κ b i) (KK κ a (a.size-1))
def Lo(κ:PyProof.Rows.KeyKind)(a b out:Array Keyed)(c d:Nat):Prop:=Mg κ (a.toList++b.toList) out.toList (a.toList.drop c) (b.toList.drop d)
variable {a b out:Array Keyed} {ia ib:Nat}
variable {na nb:Nat}
end
noncomputable def Nc:Nat→List (List Keyed)→List (Nat×Nat)
 | _,[]=>[]
 | o,r::a=>(o,r.length)::Nc (o+r.length) a
noncomputable def Zsc(p:Nat×Nat×Nat):Nat×Nat:=(p.1,p.2.1)
section
variable {prog:Program} {w:World} {A:Around} {E:Value→Shared→Prop} {s:Shared} {κ:PyProof.Rows.KeyKind} {k0:SortKind} {st:SortSt} {eD:Array Keyed}
structure Rn (κ:PyProof.Rows.KeyKind) (k0:SortKind) (eD:Array Keyed) (st:SortSt) (rs:List (List Keyed)) (rest:List Keyed):Prop where
 kind:kindOf st=k0
 failed:failedOf st=none
 arr:(arrOf st).toList=rs.flatten++rest
 perm:(arrOf st).Perm eD
 srt:∀r∈rs,kS κ r
 ne:∀r∈rs,r≠[]
 pend:(pendingOf st).toList.map Zsc=Nc 0 rs
end
section
variable {prog:Program} {w:World} {A:Around} {E:Value→Shared→Prop} {s:Shared} {κ:PyProof.Rows.KeyKind} {k0:SortKind} {st oS:SortSt} {eD:Array Keyed} {α:Type} {lo:Nat}
structure Ph (k0:SortKind) (eD:Array Keyed) (lo:Nat) (oS st:SortSt):Prop where
 kind:kindOf st=k0
 failed:failedOf st=none
 pend:pendingOf st=pendingOf oS
 perm:(arrOf st).Perm eD
 pre:∀k,k<lo→(arrOf st)[k]? = (arrOf oS)[k]?
end
end L2
set_option maxHeartbeats 4000000
namespace L2
open PySem PySem.Spec PyProof.Rows
variable {X:Cx}
end L2
set_option maxHeartbeats 4000000
namespace L2
open PySem PySem.Spec PyProof.Rows
end L2
set_option maxHeartbeats 4000000
namespace L2
open PySem PySem.Spec PyProof.Rows
end L2
set_option maxHeartbeats 4000000
namespace L2
open PySem PySem.Spec PyProof.Rows
@[reducible] def intKd:PyProof.Rows.KeyKind where
 α:=Int
 blt a b:=decide (a<b)
 irrefl a:=by simp
 trans a b c h1 h2:=by simp only[decide_eq_true_eq]at *;lia
 negTrans a b c h:=by
  simp only[decide_eq_true_eq]at *
  lia
 total a b h1 h2:=by simp only[decide_eq_false_iff_not]at *;lia
 keyOf v:=match v with|.int x _=>some x|_=>none
 dflt:=0
def rSrtIA(K:#[7]):List V→Hp→VK→Prop:=fun xs H Q=>∃ (p:Addr) (ns:List Int),xs=[.ref p]∧SqL K H p (ns.map V.int)∧∀ (l:Addr) (a:List Int),H l=none→a.Perm ns→a.Pairwise (·≤·)→Q (.ref l) (upd H l (.lst (a.map V.int)))
end L2
set_option maxHeartbeats 4000000
namespace L2
open PySem PySem.Spec PyProof.Rows
noncomputable def txt:Value→Str
 | .str x _=>x
 | _ => ""
section
variable {prog:Program} {w:World} {A:Around} {E:Value→Shared→Prop} {s:Shared}
def Zq6(w:World)(a:Array (Int×Value)):Prop:=∀e∈a.toList,∃x u,e.2=.str x u∧e.1=Ox w (.inr x)
noncomputable def Nb(a:Array (Int×Value)):List Str:=a.toList.map fun e=>txt e.2
structure SetAt (w:World) (L:Bool) (T:Str→Prop) (o:Obj) (es:Array (Int×Value)) (ep:Nat) (t:SetTable):Prop where
 ex:o.ExactSet
 da:o.data=.set es ep t
 el:Zq6 w es
 nd:(Nb es).Nodup
 me:∀x,T x↔x∈Nb es
 sz:es.size<scanBound
 ft:t.fits es.size=true
 ld:t.led=L
 pl:es.size≠0→t.plain=false
end
end L2
set_option maxHeartbeats 4000000
namespace L2
open PySem PySem.Spec PyProof.Rows
end L2
set_option maxHeartbeats 4000000
namespace L2
open PySem PySem.Spec PyProof.Rows
end L2
set_option maxHeartbeats 4000000
namespace L2
open PySem PySem.Spec PyProof.Rows
end L2
set_option maxHeartbeats 4000000
namespace L2
open PySem PySem.Spec PyProof.Rows
end L2
set_option maxHeartbeats 4000000
namespace L2
open PySem PySem.Spec PyProof.Rows
end L2
set_option maxHeartbeats 4000000
namespace L2
open PySem PySem.Spec PyProof.Rows
end L2
set_option maxHeartbeats 4000000
namespace L2
open PySem PySem.Spec PyProof.Rows
end L2
namespace L2
open PySem PyProof.Rows
section
variable {X:Cx} {xe:Value→Shared→Prop}
theorem PSs.wish{st:List Stmt}{t:TS}(h:PSs (X.wish xe) st t)(hx:∀e s,xe e s→X.xe e s):PSs X st t:=fun U s a H D I hw=>wpAny_mono (h U s a H D (I.wish _) hw) (fun _ _ q=>q.unwish) hx
end
def RS(a:List Addr)(e:Addr)(h h':Heap):Prop:=(∀b o,h.get? b=some o→b≠e→b ∉ a→h'.get? b=some o)∧∀b o,h.get? b=some o→b≠e→∃sl,h'.get? b=some { o with slots:=sl }
def Xl(B:Heap)(a:List Addr)(h:Heap):Prop:=(∀b o,B.get? b=some o→b ∉ a→h.get? b=some o)∧∀b o,B.get? b=some o→∃sl,h.get? b=some { o with slots:=sl }
theorem Xl.keep{B:Heap}{d:List Addr}{e:Addr}{h h':Heap}(a:Xl B d h)(he:B.get? e=none)(k:RS d e h h'):Xl B d h' :=
 ⟨fun b o c n=>k.1 b o (a.1 b o c n) (fun z=>by rw[z,he]at c;cases c) n,fun b o c=>by obtain⟨sl,f⟩:=a.2 b o c;obtain⟨g,i⟩:=k.2 b _ f (fun z=>by rw[z,he]at c;cases c);exact⟨g,i⟩⟩
structure Yq (NB:Addr→Prop) (h:Heap) (e:Addr) (cls:Value) (dd:Option Addr) (fl:Value):Prop where
 ex:∃oe vs T oT ts,h.get? e=some oe∧oe.cls=cls∧oe.dict=dd∧oe.data=.fields vs∧vs[1]? = some (.ref T)∧T≠e∧h.get? T=some oT∧oT.data=.fields ts∧ts[3]? = some fl∧NB T
structure UI (h:Heap) (e:Addr) (cls:Value) (dd:Option Addr):Prop where
 ex:∃oe vs,h.get? e=some oe∧oe.cls=cls∧oe.dict=dd∧oe.data=.fields vs∧vs[1]? = some .none
section
variable {M:Model} {A:Around} {E:Value→Shared→Prop} {s:Shared} {env:Env} {outer:List Env} {base:Heap} {L e:Addr} {cls:Value} {dd:Option Addr} {Q:Unit→Shared→Prop}
theorem Zgq(o:Obj)(f:Array Value→Array Value):(Obj.mapFields f o).dict=o.dict:=by unfold Obj.mapFields;split<;>rfl
theorem Na{d:Obj}{vs:Array Value}{l:Value}{u:Bool}(v:A.frames=some (env::outer))(hl:s.heap.FunFrames base (env::outer))(w:env.frame=some L)
  (he:s.heap.get? e=some d) (hd:d.data=.fields vs) (hsz:1<vs.size) (x:e ∉ (env::outer).filterMap (·.frame))
  (h:∀h',RS ((env::outer).filterMap (·.frame)) e s.heap h'→(∀NB:Addr→Prop,(∀T,s.heap.objs.size≤T→NB T)→Yq NB h' e d.cls d.dict (rawInt L))→Q () { s with heap:=h' }) :
  wpAny M A (do let a ← frameOf env;let g ← entryPlaceOf L u;let b ← EntryCells.newEntry l a .none (rawInt L) .none g;setField (.ref e) 1 b) Q E s:=by
 refine wpAny_bind (wpAny_frameOf_fun v hl w fun c i=>?_);refine wpAny_bind (wpAny_entryPlaceOf fun g m=>?_);unfold EntryCells.newEntry newFields;refine wpAny_bind (wpAny_newObj_type ?_ (m.sizeOk5 _ _ _ _ _));have n:c.get? e=some d:=(i.2.1 e x).trans he;have p:c.objs.size≠e:=Q1 (Qi n);generalize q:({ cls:=.type "traceback",dict:=none,data:=.fields ([l,.ref L,.none,rawInt L,.none]++(if g.isEmpty then List.replicate 6 Value.none else g)).toArray }:Obj)=j;have r:(c.push j).get? e=some d:=Qc _ n;have t:=Obj.data_mapFields hd (·.setIfInBounds 1 (Value.ref c.objs.size));have y:=Q8 (Obj.mapFields (·.setIfInBounds 1 (Value.ref c.objs.size))) r (Obj.isFreed_of_fields t);have k:∀b,b≠e→((c.push j).update e (Obj.mapFields (·.setIfInBounds 1 (Value.ref c.objs.size)))).get? b=(c.push j).get? b:=fun b f=>Q6 _ _ (Ne.symm f);refine wpAny_setField r hd hsz (h _ ⟨fun b o f nb z=>?_,fun b o f nb=>?_⟩ (fun B C=>⟨_,_,c.objs.size,j,_,y,Obj.cls_mapFields _ _,Zgq _ _,t,by simp[hsz],p,(k _ p).trans (Qm c (by rw[← q];rfl)),by rw[← q],?_,?_⟩))
 ·rw[k b nb];exact Qc _ ((i.2.1 b z).trans f)
 ·obtain⟨D,F⟩:=i.2.2 b o f;exact⟨D,by rw[k b nb];exact Qc _ F⟩
 ·first|(simp;done)|(rcases m with rfl|⟨_,_,_,_,_,_,_,rfl⟩<;>simp)
 ·exact C _ (Nat.le_of_eq i.1.symm)
theorem ZnQ{NB:Addr→Prop}(g:∀T,s.heap.objs.size≤T→NB T)(i:A.frames=some (env::outer))(hl:s.heap.FunFrames base (env::outer))(c:env.frame=some L)(hx:UI s.heap e cls dd)
  (h:∀h',RS ((env::outer).filterMap (·.frame)) e s.heap h'→Yq NB h' e cls dd (rawInt L)→Q () { s with heap:=h' }):wpAny M A (noteFrame (.ref e) env) Q E s:=by
 obtain⟨oe,j,a,rfl,rfl,b,d⟩:=hx.ex;have l:e ∉ (env::outer).filterMap (·.frame):=fun m=>by obtain⟨_,o,f,n⟩:=hl.mem m;rw[a]at f;cases f;exact n j b
 unfold noteFrame;simp only[c];refine wpAny_bind (wpAny_field a b d ?_);rw[if_neg #[6]];exact Na i hl c a b (Qal.mp d).1 l fun h' k x=>h h' k (x NB g)
theorem Zoc{B:Heap}{NB:Addr→Prop}(D:∀T,s.heap.objs.size≤T→NB T)(hB:∀T,NB T→B.get? T=none)(F:A.frames=some (env::outer))(hl:s.heap.FunFrames base (env::outer))(p:env.frame=some L)(G:B.get? e=none)(q:Xl B ((env::outer).filterMap (·.frame)) s.heap)(hx:Yq NB s.heap e cls dd .none)
  (h:∀h',Xl B ((env::outer).filterMap (·.frame)) h'→h'.FunFrames base (env::outer)→Yq NB h' e cls dd (rawInt L)→Q () { s with heap:=h' }):wpAny M A (noteFrame (.ref e) env) Q E s:=by
 obtain⟨oe,g,T,oT,H,i,rfl,rfl,j,r,t,d,l,u,I⟩:=hx.ex;have J:=hB T I;have K:e ∉ (env::outer).filterMap (·.frame):=fun N=>by obtain⟨_,o,v,c⟩:=hl.mem N;rw[i]at v;cases v;exact c g j
 unfold noteFrame;simp only[p];refine wpAny_bind (wpAny_field i j r ?_);rw[if_pos (show (Value.ref T != Value.none)=true from by simp)];refine wpAny_bind (wpAny_field d l u ?_);rw[if_neg (show ¬ ((Value.none == rawInt L)=true) from by simp[rawInt])];refine wpAny_bind (wpAny_setField d l (Qal.mp u).1 ?_);have f:∀b,b≠T→(s.heap.update T (Obj.mapFields (·.setIfInBounds 3 Value.none))).get? b=s.heap.get? b:=fun b a=>Q6 _ _ (Ne.symm a);have w:∀b o,B.get? b=some o→b≠T:=fun b o a z=>by rw[z,J]at a;cases a
 have O:Xl B ((env::outer).filterMap (·.frame)) (s.heap.update T (Obj.mapFields (·.setIfInBounds 3 Value.none))):=⟨fun b o a m=>(f b (w b o a)).trans (q.1 b o a m),fun b o a=>by obtain⟨y,n⟩:=q.2 b o a;exact⟨y,(f b (w b o a)).trans n⟩⟩;have P:∀b o,s.heap.get? b=some o→(∀g,o.data≠.fields g)→b≠T:=fun b o a c z=>by rw[z,d]at a;cases a;exact c H l
 have C:(s.heap.update T (Obj.mapFields (·.setIfInBounds 3 Value.none))).FunFrames base (env::outer):=hl.of_keeps fun b o a c=>⟨o,(f b (P b o a c)).trans a,rfl⟩;refine Na (s:={ s with heap:=s.heap.update T (Obj.mapFields (·.setIfInBounds 3 Value.none)) }) F C p ((f e (Ne.symm t)).trans i) j (Qal.mp r).1 K fun h' k x=>h h' (O.keep G k) ?_ (x NB fun T d=>D T (by rw[Heap.size_update]at d;exact d));exact C.of_keeps fun b o a c=>by obtain⟨y,n⟩:=k.2 b o a (fun z=>by rw[z]at a;rw[(f e (Ne.symm t)).trans i]at a;cases a;exact c g j);exact⟨_,n,rfl⟩
theorem ZjD{NB:Addr→Prop}(a:env.frame=some L)(hx:Yq NB s.heap e cls dd (rawInt L))(h:Q () s):wpAny M A (noteFrame (.ref e) env) Q E s:=by obtain⟨oe,vs,T,oT,ts,b,rfl,rfl,c,d,kX,f,g,i,oX⟩:=hx.ex;unfold noteFrame;simp only[a];refine wpAny_bind (wpAny_field b c d ?_);rw[if_pos (show (Value.ref T != Value.none)=true from by simp)];refine wpAny_bind (wpAny_field f g i ?_);rw[if_pos (show (rawInt L == rawInt L)=true from by simp)];exact wpAny_pure h
theorem RR{B:Heap}{NB:Addr→Prop}(hB:∀T,NB T→B.get? T=none){k:List Addr}{y:Value}{F:Option Addr}{l:List Env}(hl:s.heap.FunFrames base l)(n:Xl B k s.heap)(hx:Yq NB s.heap e cls dd y)
  (h:∀h',Xl B k h'→h'.FunFrames base l→Yq NB h' e cls dd (F.elim .none fun f=>rawInt f)→Q () { s with heap:=h' }):wpAny M A (setFlight (.ref e) F) Q E s:=by
 obtain⟨C,g,T,oT,p,q,rfl,rfl,r,t,u,i,c,D,v⟩:=hx.ex;have G:=hB T v;have w:3<p.size:=(Qal.mp D).1;have d:∀b,b≠T→(s.heap.update T (Obj.mapFields (·.setIfInBounds 3 (F.elim Value.none fun f=>rawInt f)))).get? b=s.heap.get? b:=fun b a=>Q6 _ _ (Ne.symm a);have x:∀b o,B.get? b=some o→b≠T:=fun b o a z=>by rw[z,G]at a;cases a
 have H:∀b o,s.heap.get? b=some o→(∀g,o.data≠.fields g)→b≠T:=fun b o a j z=>by rw[z,i]at a;cases a;exact j p c
 unfold setFlight;refine wpAny_bind (wpAny_field q r t ?_);rw[if_pos (show (Value.ref T != Value.none)=true from by simp)];refine wpAny_setField i c w (h _ ⟨fun b o a m=>(d b (x b o a)).trans (n.1 b o a m),fun b o a=>?_⟩ (hl.of_keeps fun b o a j=>⟨o,(d b (H b o a j)).trans a,rfl⟩) ⟨C,g,T,_,_,(d e (Ne.symm u)).trans q,rfl,rfl,r,t,u,Q8 _ i (Obj.isFreed_of_fields (Obj.data_mapFields c _)),Obj.data_mapFields c _,by simp[w],v⟩);obtain⟨I,J⟩:=n.2 b o a;exact⟨I,(d b (x b o a)).trans J⟩
end
structure UH (B base:Heap) (NB:Addr→Prop) (env:Env) (outer:List Env) (L e:Addr) (cls:Value) (dd:Option Addr) (h:Heap):Prop where
 st:Xl B ((env::outer).filterMap (·.frame)) h
 fun_:h.FunFrames base (env::outer)
 new:B.get? e=none
 nb:∀T,h.objs.size≤T→NB T
 hB:∀T,NB T→B.get? T=none
 ex:UI h e cls dd∨Yq NB h e cls dd .none∨Yq NB h e cls dd (rawInt L)
section
variable {M:Model} {A:Around} {E:Value→Shared→Prop} {s:Shared} {env:Env} {outer:List Env} {B base:Heap} {NB:Addr→Prop} {L e:Addr} {cls:Value} {dd:Option Addr} {Q:Unit→Shared→Prop}
theorem UH.noted(hx:UH B base NB env outer L e cls dd s.heap)(d:A.frames=some (env::outer))(a:env.frame=some L)
  (h:∀h',Xl B ((env::outer).filterMap (·.frame)) h'→h'.FunFrames base (env::outer)→Yq NB h' e cls dd (rawInt L)→Q () { s with heap:=h' }):wpAny M A (noteFrame (.ref e) env) Q E s:=by
 rcases hx.ex with x|x|x
 ·refine ZnQ hx.nb d hx.fun_ a x fun h' k f=>h h' (hx.st.keep hx.new k) ?_ f;obtain⟨oe,g,i,_,_,j,_⟩:=x.ex;refine hx.fun_.of_keeps fun b o c l=>?_;obtain⟨sl,m⟩:=k.2 b o c (fun z=>by rw[z,i]at c;cases c;exact l g j);exact⟨_,m,rfl⟩
 ·exact Zoc hx.nb hx.hB d hx.fun_ a hx.new hx.st x h
 ·exact ZjD a x (h s.heap hx.st hx.fun_ x)
theorem UH.leaves(hx:UH B base NB env outer L e cls dd s.heap)(d:A.frames=some (env::outer))(f:env.frame=some L)
  (h:∀h',Xl B ((env::outer).filterMap (·.frame)) h'→h'.FunFrames base (env::outer)→Yq NB h' e cls dd .none→Q () { s with heap:=h' }):wpAny M A (leaving env (.ref e)) Q E s:=by
 unfold leaving;refine wpAny_bind (hx.noted d f fun g a b c=>?_);exact RR hx.hB (s:={ s with heap:=g }) (F:=none) b a c h
end
open PySem.W (hideAll hideAll_none hideAll_get hideAll_size of_hideAll)
def NB(lo:Nat)(H:Hp)(ps:List Addr)(T:Addr):Prop:=lo≤T∧H T=none∧T ∉ ps
def CX1(P:Program)(w:World):CXT:=fun outer H s E c s'=>∃ (e:Addr) (cls:Value) (b:Option Addr) (a:Hp),c=.ref e∧s.heap.objs.size≤e∧a e=none∧Yq (NB s.heap.objs.size a []) s'.heap e cls b .none ∧
 s'.os=s.os∧AllBare s'.gens∧Un (frs outer) [] H a s.heap s'.heap∧HOk P w a s'.heap∧E cls b a
def XE(X:Cx)(E:St→XK):Value→Shared→Prop:=fun f s'=>∃ (e:Addr) (cls:Value) (b:Option Addr) (U:List (Addr×Obj)) (d:St) (a:Hp),f=.ref e∧X.s₀.heap.objs.size≤e∧e≠X.env.locals∧(∀x c,X.env.cells.lookup x=some c→c≠e)∧a e=none∧Inv X U d a s'∧(∀p∈X.pn++U,p.1≠e) ∧
 (UI s'.heap e cls b∨Yq (NB X.s₀.heap.objs.size a ((X.pn++U).map (·.1))) s'.heap e cls b .none∨Yq (NB X.s₀.heap.objs.size a ((X.pn++U).map (·.1))) s'.heap e cls b (rawInt X.env.locals))∧E d cls b a
section
variable {X:Cx} {U:List (Addr×Obj)} {σ:St} {H:Hp} {s s':Shared} {E:St→XK}
theorem Inv.refused(I:Inv X U σ H s){n:Value}(h:CX1 X.prog X.w X.stack H s (E σ) n s'):XE X E n s':=by
 obtain⟨e,cls,w,r,rfl,u,y,A,os,f,un,j,q⟩:=h;have i:X.s₀.heap.objs.size≤s.heap.objs.size:=I.sz;have B:Inv X U σ r s':=by obtain⟨C,g,d,t,D⟩:=s';obtain rfl:D=s.os:=os;exact I.call (h':=C) (g':=g) (d':=d) (t':=t) (ch:=[]) un j f (fun b z=>absurd z #[4])
 have old:∀a o,s.heap.get? a=some o→a≠e:=fun a o F z=>by have:=Qi F;rw[z]at this;exact absurd this (Qa9.mpr u)
 refine⟨e,cls,w,U,σ,r,rfl,Qw i u,fun z=>?_,fun x c G z=>?_,y,B,fun p k z=>?_,.inr (.inl ?_),q⟩
 ·obtain⟨m,⟨o,_,_,l,_⟩,_⟩:=I.loc;exact old _ _ l z.symm
 ·obtain⟨v,o,l,_⟩:=I.cell x c G;exact old _ _ l z
 ·exact old _ _ (I.pin p k).1 z
 ·obtain⟨J,K,T,L,M,a1,a2,a3,a4,a5,a6,a7,a8,a9,a10⟩:=A.ex;refine⟨J,K,T,L,M,a1,a2,a3,a4,a5,a6,a7,a8,a9,Qw i a10.1,a10.2.1,fun N=>?_⟩;obtain⟨p,k,O⟩:=Qp.mp N;have:=Qi (I.pin p k).1;rw[O]at this;exact absurd this (Qa9.mpr a10.1)
theorem Inv.fly{e:Addr}{cls:Value}{g:Option Addr}(I:Inv X U σ H s)(t:X.stack=X.env::X.outer∧X.env.frame=some X.env.locals)(he:X.s₀.heap.objs.size≤e)(K:e≠X.env.locals)(L:∀x c,X.env.cells.lookup x=some c→c≠e)(N:H e=none)(O:∀p∈X.pn++U,p.1≠e)
  (hx:UI s.heap e cls g∨Yq (NB X.s₀.heap.objs.size H ((X.pn++U).map (·.1))) s.heap e cls g .none∨Yq (NB X.s₀.heap.objs.size H ((X.pn++U).map (·.1))) s.heap e cls g (rawInt X.env.locals)) :
  ∃ (B:Heap) (M:Addr→Prop),UH B X.base M X.env X.outer X.env.locals e cls g s.heap∧(∀T,M T→NB X.s₀.heap.objs.size H ((X.pn++U).map (·.1)) T)∧∀h',Xl B ((X.env::X.outer).filterMap (·.frame)) h'→Inv X U σ H { s with heap:=h' }:=by
 have w:X.s₀.heap.objs.size≤s.heap.objs.size:=I.sz;obtain⟨ch,A,P⟩:∃ch:List Addr,(e∈ch∧∀T∈ch,T=e∨(NB X.s₀.heap.objs.size H ((X.pn++U).map (·.1)) T∧∃o h,s.heap.get? T=some o∧o.data=.fields h)) ∧
   (UI s.heap e cls g∨Yq (fun T=>NB X.s₀.heap.objs.size H ((X.pn++U).map (·.1)) T∧(hideAll s.heap ch).get? T=none) s.heap e cls g .none∨Yq (fun T=>NB X.s₀.heap.objs.size H ((X.pn++U).map (·.1)) T∧(hideAll s.heap ch).get? T=none) s.heap e cls g (rawInt X.env.locals)):=by
  rcases hx with x|x|x
  ·exact⟨[e],⟨List.mem_singleton.mpr rfl,fun T d=>.inl (Ql.mp d)⟩,.inl x⟩
  ·obtain⟨C,h,T,i,j,a1,a2,a3,a4,a5,a6,a7,a8,a9,a10⟩:=x.ex;refine⟨[e,T],⟨by simp,fun Q d=>?_⟩,.inr (.inl ⟨C,h,T,i,j,a1,a2,a3,a4,a5,a6,a7,a8,a9,a10,hideAll_none _ #[4]⟩)⟩;simp only[List.mem_cons,List.not_mem_nil,or_false]at d;rcases d with z|z
   ·exact .inl z
   ·rw[z];exact .inr ⟨a10,i,j,a7,a8⟩
  ·obtain⟨C,h,T,i,j,a1,a2,a3,a4,a5,a6,a7,a8,a9,a10⟩:=x.ex;refine⟨[e,T],⟨by simp,fun Q d=>?_⟩,.inr (.inr ⟨C,h,T,i,j,a1,a2,a3,a4,a5,a6,a7,a8,a9,a10,hideAll_none _ #[4]⟩)⟩;simp only[List.mem_cons,List.not_mem_nil,or_false]at d;rcases d with z|z
   ·exact .inl z
   ·rw[z];exact .inr ⟨a10,i,j,a7,a8⟩
 have R:∀T∈ch,H T=none:=fun T d=>by
  rcases A.2 T d with z|z
  ·rw[z];exact N
  ·exact z.1.2.1
 have big:∀T,s.heap.objs.size≤T→NB X.s₀.heap.objs.size H ((X.pn++U).map (·.1)) T:=fun T d=>by refine⟨Qw w d,I.hok.fresh d,fun k=>?_⟩;obtain⟨p,D,E⟩:=Qp.mp k;have:=Qi (I.pin p D).1;rw[E]at this;exact absurd this (Qa9.mpr d)
 refine⟨hideAll s.heap ch,fun T=>NB X.s₀.heap.objs.size H ((X.pn++U).map (·.1)) T∧(hideAll s.heap ch).get? T=none,⟨⟨fun b o f _=>of_hideAll _ f,fun b o f=>⟨o.slots,of_hideAll _ f⟩⟩,?_,hideAll_none _ A.1,fun T d=>⟨big T d,Heap.get?_none_of_le (by rw[hideAll_size];exact d)⟩,fun T d=>d.2,P⟩,fun T d=>d.1,fun h' r=>?_⟩
 ·rw[← t.1];exact I.stack
 ·refine I.call' (s':={ s with heap:=h' }) (ch:=ch) rfl ⟨fun b o f _ F hc=>r.1 b o (hideAll_get _ f hc) ?_,fun b o f _ _ hc=>r.2 b o (hideAll_get _ f hc),fun b o _ f _=>f,fun b o f hc=>?_,fun _ _ z=>z,fun _ _ _ z=>z,fun b ps z=>⟨#[],by rw[Array.append_empty];exact z⟩⟩ ?_ I.bare fun b f=>?_
  ·rw[t.1]at F;exact F
  ·obtain⟨sl,S⟩:=r.2 b o (hideAll_get _ f hc);exact⟨_,S⟩
  ·intro a o l;refine(I.hok a o l).stay (fun c u hc V=>r.1 c u (hideAll_get _ V fun k=>?_) fun k=>?_) (fun _ z=>z) fun _ _ z=>z
   ·have:=R c k;rcases hc with rfl|hc
    ·rw[this]at l;cases l
    ·rw[this]at hc;cases hc
   ·have:H c=none:=I.stkFree c (by rw[t.1];exact k);rcases hc with rfl|hc
    ·rw[this]at l;cases l
    ·rw[this]at hc;cases hc
  ·rcases A.2 b f with rfl|⟨z,o,h,G,J⟩
   ·exact⟨.inr he,K,L,O⟩
   ·refine⟨.inr z.1,fun y=>?_,fun x c hc y=>?_,fun p D y=>z.2.2 (List.mem_map.mpr ⟨p,D,y⟩)⟩
    ·obtain⟨m,⟨W,es,E,n,q,_⟩,_⟩:=I.loc;rw[← y,G]at n;cases n;rw[J]at q;cases q
    ·obtain⟨v,W,n,q⟩:=I.cell x c hc;rw[y,G]at n;cases n;rw[J]at q;cases q
end
theorem Yq.mono{M N:Addr→Prop}{h:Heap}{e:Addr}{cls:Value}{a:Option Addr}{b:Value}(x:Yq M h e cls a b)(k:∀T,M T→N T):Yq N h e cls a b:=by obtain⟨c,d,T,f,g,a1,a2,a3,a4,a5,a6,a7,a8,a9,a10⟩:=x.ex;exact⟨c,d,T,f,g,a1,a2,a3,a4,a5,a6,a7,a8,a9,k T a10⟩
section
variable {X:Cx} {E:St→XK} {k:Nat} {f:Addr} {fd:FuncData} {ps:List Str} {sp:Sp} {t:TA}
theorem Zsl{U:List (Addr×Obj)}{b:St}{H:Hp}{s:Shared}{Q:VK}{us:List Value}{vs:List V}(F:YC X.prog X.w X.K X.mg X.base (CX1 X.prog X.w) k f fd ps sp)(d:Y4 k X.A)(hb:Ys X.K fd ps [])(hx:∀c s',XE X E c s'→X.xe c s')
  (I:Inv X U b H s) (r:ZH vs us) (h:sp vs H Q (E b)):#[9,X] (call (.ref f) us) (EP X U b Q) X.xe s:=by
 have g:us.length=ps.length:=by rw[← r.length];exact F.len _ _ _ _ h
 have i:BindsTo s fd ⟨us,[]⟩ (ps.zip us):=by have:=hb s us I.kIn (by rw[QaO];exact g);rwa [QaO]at this
 refine wpAny_call (codeAny_mono (F.run X.A X.stack s H ⟨us,[]⟩ us vs Q (E b) d I.env0 i r h) fun r s' a=>?_);cases r with
 | error e=>exact hx e s' (I.refused a)
 | ok j =>
  cases j with
  | ret u=>exact I.after a
  | next=>exact False.elim a
  | brk=>exact False.elim a
  | cont=>exact False.elim a
end
section
variable {P:Program} {w:World} {K:#[7]} {mg:Str→Option Value} {base:Heap}
theorem XE.leaves{N:List Str}{d:Str}{g:Scope}{f:Addr}{i:Value}{A:Around}{outer:List Env}{s:Shared}{H:Hp}{E:XK}{j:Value}{s':Shared}
  (h:XE (XQ (CX1 P w) P w K mg base N d g f i A outer s H E) (fun _=>E) j s'):(XQ (CX1 P w) P w K mg base N d g f i A outer s H E).xe j s':=by
 obtain⟨e,cls,o,U,σ,p,rfl,k,r,t,l,I,u,v,q⟩:=h;obtain⟨B,M,x,m,y⟩:=I.fly ⟨rfl,rfl⟩ k r t l u v;refine x.leaves I.ok.frames rfl fun z a b c=>?_;have J:=y z a;exact⟨e,cls,o,p,rfl,k,l,c.mono fun T n=>⟨(m T n).1,(m T n).2.1,by simp⟩,J.os,J.bare,J.base,J.hok,q⟩
theorem Fun.ok1{x b:Str}{st:Stmt}{f:Addr}{c:FuncData}{N ps:List Str}{k:Nat}{sp:Sp}(F:Fun K x b st f c)(S:Zp N ps (Zg st))(len:∀vs H Q E,sp vs H Q E→vs.length=ps.length)
  (d:∀ (a:Value) (A:Around) (outer:List Env) (s:Shared) (H:Hp) (vs:List V) (Q:VK) (E:XK),Y4 k (A.deeper (envOfC b (Zg st) s.heap.objs.size f a))→sp vs H Q E →
   ∃t,PSs ((XQ (CX1 P w) P w K mg base N b (Zg st) f a A outer s H E).wish (XE (XQ (CX1 P w) P w K mg base N b (Zg st) f a A outer s H E) (fun _=>E))) (Zm st) t∧t { nx:=fun _ g=>Q .non g,rt:=Q } (Xs N vs) H):YC P w K mg base (CX1 P w) (k+1) f c ps sp:=by
 obtain⟨oc,od,kV,cF,pm,an,a,ct,iy,rfl,lk,i⟩:=F.ex;refine N2 lk i S len fun A outer s H vs Q E j l=>?_;obtain⟨t,h,q⟩:=d a A outer s H vs Q E j l;exact⟨t,h.wish fun e s h=>XE.leaves h,q⟩
end
section
variable {M:Model} {A:Around} {E:Value→Shared→Prop} {h:Heap} {g:Array GenState} {d:Drawn} {t:Nat} {os:OsState}
variable {nm q:Str} {C N:Addr} {bs bm:List Value} {bP:Bool} {sn:List Str} {sub:List Value} {ab:Bool} {bG:Option Bool} {dd:Option Addr} {k0 k1 k2 k3 k5:Option Value} {bc:String}
variable {u6 q':Str} {C' N':Addr} {u7 kY:List Value} {mL:Bool} {u8:List Str} {qm:List Value} {u9:Bool} {qo:Option Bool} {fZ:Option Addr} {vc vd ve vf vg:Option Value} {kC:String}
theorem Zh4{e:Addr}{a:Obj}{b:Bool}{Q:Bool→Shared→Prop}(c:h.get? C=some (excClassObj nm q C N bs bm bP sn sub ab bG dd k0 k1 k2 k3 k5 bc))(hB:h.get? C'=some (excClassObj u6 q' C' N' u7 kY mL u8 qm u9 qo fZ vc vd ve vf vg kC))
  (he:h.get? e=some a) (i:a.cls=.ref C) (j:kY.contains (.type "BaseException")=true) (k:(Value.ref C::bm).contains (.ref C')=b) (hq:Q b ⟨h,g,d,t,os⟩):wpAny M A (excMatches (.ref e) (.ref C')) Q E ⟨h,g,d,t,os⟩:=by
 have l:(Value.ref C'::kY).contains (.type "BaseException")=true:=by rw[QP,j,Bool.or_true]
 have f:=tc_notTuple;unfold excMatches;repeat (first|(with_reducible refine wpAny_loadPart_at he ?_;rw[i])|with_reducible refine wpAny_loadPart_at hB ?_|(with_reducible refine wpAny_isSubtype_exc hB ?_;rw[l])|(with_reducible refine wpAny_isSubtype_exc c ?_;rw[k])|wp_step)
 cases b<;>(wp_walk;exact hq)
end
section
variable {prog:Program} {w:World} {A:Around} {E:Value→Shared→Prop} {s:Shared} {env:Env}
theorem Zlu{e:Addr}{t:Expr}{n:Str}{a:Stmt}{d:List Stmt}{pos:Pos}{rest:List ExceptHandler}{Q:Flow→Shared→Prop}
  (h:wpAny (model prog w) (A.mark (some (.ref e))) (eval t env) (fun c g=>wpAny (model prog w) (A.mark (some (.ref e))) (excMatches (.ref e) c) (fun b i=>b=true ∧
   wpAny (model prog w) (A.mark (some (.ref e))) (setFlight (.ref e) none) (fun _ j=>wpAny (model prog w) (A.mark (some (.ref e))) (storeName env n (.ref e)) (fun _ k=>wpAny (model prog w) (A.mark (some (.ref e))) (execs (a::d) env)
    (fun f l=>wpAny (model prog w) A (do bindName env n .none;unbindBehindTheSuite env n pos) (fun _ m=>Q f m) E l)
    (fun _ _=>False) k) (fun _ _=>False) j) (fun _ _=>False) i) (fun _ _=>False) g) (fun _ _=>False) s) :
  wpAny (model prog w) A (handleBy (.ref e) env (.ExceptHandler (some t) (some n) (a::d) pos::rest)) Q E s:=by
 refine wpAny_handleBy_cons (codeAny_handlers_test (wpAny_mono h (fun c g o=>wpAny_mono o (fun b i p=>?_) fun _ _ x=>x.elim) fun _ _ x=>x.elim)) (by intro q;cases q);obtain⟨rfl,r⟩:=p;refine codeAny_handlers_suite_as (wpAny_mono r (fun _ j u=>wpAny_mono u (fun _ k v=>wpAny_mono v (fun f l y=>y) fun _ _ x=>x.elim) fun _ _ x=>x.elim) fun _ _ x=>x.elim)
end
section
variable {X:Cx} {E:St→XK} {k:Nat} {f C:Addr} {fd:FuncData} {ps:List Str} {sp:Sp} {x:Str} {p pos:Pos} {e:Expr} {es:List Expr} {t:TA}
theorem XE.unwish{xe:Value→Shared→Prop}{a:Value}{s:Shared}(h:XE (X.wish xe) E a s):XE X E a s:=by obtain⟨e,cls,b,U,c,d,a1,a2,a3,a4,a5,I,a6,a7,a8⟩:=h;exact⟨e,cls,b,U,c,d,a1,a2,a3,a4,a5,I.unwish,a6,a7,a8⟩
end
theorem M0{α:Type}{p:α→Bool}:∀ (l:List α) (i:Nat) (h:i<l.length),p l[i]=false→(l.eraseIdx i).find? p=l.find? p
 | [],i,h,_=>absurd h (Nat.not_lt_zero i)
 | a::l,0,h,b=>by have c:p a=false:=b;rw[List.eraseIdx_cons_zero,Q2,c]
 | a::l,i+1,h,b=>by
  rw[List.eraseIdx_cons_succ,Q2,Q2];cases hq:p a with
  | true=>rfl
  | false=>exact M0 l i (by simpa using h) b
theorem ZjT{a:Array DictEntry}{name x:Str}{i:Nat}(b:a.findIdx? (fun e=>e.key.isStr name)=some i)(hx:x≠name):nsFind (a.eraseIdxIfInBounds i) x=nsFind a x:=by obtain⟨l⟩:=a;simp only[nsFind,findBy,List.eraseIdxIfInBounds_toArray,List.find?_toArray,List.findIdx?_toArray]at b ⊢;obtain⟨c,d,_⟩:=List.findIdx?_eq_some_iff_getElem.mp b;rw[M0 l i c (isStr_other hx _ d)]
section
variable {M:Model} {A:Around} {E:Value→Shared→Prop} {s:Shared} {env:Env}
theorem ZlQ{a:Addr}{m:Str→Option Value}{name:Str}{Q:Bool→Shared→Prop}(r:s.heap.Ns a m)(f:(m name).isSome=true)
  (u:∀h' k,h'.Ns a k→(∀x,x≠name→k x=m x)→Heap.SameBut a s.heap h'→Q true { s with heap:=h' }):wpAny M A (nsDel a name) Q E s:=by
 obtain⟨o,b,v,g,l,p,q⟩:=id r;have CW:b.any (·.refKey)=false:=by rw[Array.any_eq_false'];intro e j;obtain⟨n,t,h⟩:=p e j;simp[DictEntry.refKey,h]
 obtain⟨i,c⟩:∃i,b.findIdx? (fun e=>e.key.isStr name)=some i:=by
  cases c:b.findIdx? (fun e=>e.key.isStr name) with
  | some i=>exact⟨i,rfl⟩
  | none =>
   rw[← q name]at f;have:nsFind b name=none:=by unfold nsFind findBy;rw[Array.find?_eq_none.mpr fun e j=>by have:=(Array.findIdx?_eq_none_iff.mp c) e j;simp[this]];rfl
   rw[this]at f;cases f
 have w:b.any (·.key.isStr name)=true:=by rw[Array.any_eq_true];obtain⟨y,z,_⟩:=Array.findIdx?_eq_some_iff_getElem.mp c;exact⟨i,y,z⟩
 have B:nsHas name o=pure true:=by rw[nsHas_eq];unfold nsHasByArray;rw[l];show (if (b.any fun x=>x.key.isStr name)=true then _ else _)=_;rw[w];rfl
 unfold nsDel;refine wpAny_bind (wpAny_loadPart g ?_);rw[B];refine wpAny_bind (wpAny_pure ?_);refine wpAny_bind (wpAny_updatePart g (wpAny_pure ?_));obtain⟨cl,d,dt,sl⟩:=o;subst l;exact u _ _ ⟨_,_,v+1,Q8 _ g (by simp only[Obj.dropName_eq,Obj.dropNameByArray,c]<;>rfl),(by simp only[Obj.dropName_eq,Obj.dropNameByArray,c]<;>rfl),p.erase i,fun _=>rfl⟩ (fun x C=>by rw[← q x];exact ZjT c C) (Heap.SameBut.update ..)
end
section
variable {X:Cx} {U:List (Addr×Obj)} {σ:St} {H:Hp} {s:Shared}
theorem Inv.lost{i:Nat}{x:Str}{h':Heap}{t':Nat}{m t:Str→Option Value}(I:Inv X U σ H s)(B:X.N.Nodup)(w:X.N[i]? = some x)(C:s.heap.Ns X.env.locals m∧∀ (i:Nat) (x:Str) (v:V),X.N[i]? = some x→σ[i]? = some (some v)→Vis X.env.scope x→∃u,ZI v u∧Ow X.env s.heap m x u)
  (D:h'.Ns X.env.locals t) (hm:∀y,y≠x→t y=m y) (a:Heap.SameBut X.env.locals s.heap h'):Inv X U (σ.set i none) H { s with heap:=h',toks:=t' }:=by
 obtain⟨hn,E⟩:=C;have cne:=I.cne;have F:i<σ.length:=by rw[I.len];exact(Qd.mp w).1
 refine⟨I.ok,I.os,I.bare,⟨fun b o e n l g=>?_,fun b o e n l g=>?_,I.base.free,fun b o e g=>?_,I.base.tups,I.base.frzs,I.base.tbls⟩,⟨_,D,fun j y G f h J=>?_⟩,fun y c e=>?_,I.free,I.freeC,fun p K=>?_,fun b L e=>?_,by rw[List.length_set];exact I.len⟩
 ·exact(a.2 b (Qz (Qt (Qi e) I.ok.above))).trans (I.base.keep b o e n l g)
 ·obtain⟨M,f⟩:=I.base.slot b o e n l g;exact⟨M,(a.2 b (Qz (Qt (Qi e) I.ok.above))).trans f⟩
 ·obtain⟨N,f⟩:=I.base.there b o e g;exact⟨N,(a.2 b (Qz (Qt (Qi e) I.ok.above))).trans f⟩
 ·by_cases r:j=i
  ·subst r;rw[Qau F]at h;cases h
  ·rw[List.getElem?_set_ne (Ne.symm r)]at h;obtain⟨O,P,q⟩:=E j y G f h J;refine⟨O,P,?_⟩;have Q:y≠x:=fun e=>r (Sv B f (e ▸ w));rcases q with⟨k,e⟩|⟨k,c,e,z⟩
   ·exact .inl ⟨k,by rw[hm y Q];exact e⟩
   ·exact .inr ⟨k,c,e,z.sameBut a (cne y c e)⟩
 ·obtain⟨A,z⟩:=I.cell y c e;exact⟨A,z.sameBut a (cne y c e)⟩
 ·obtain⟨e,n,ne,R,d⟩:=I.pin p K;exact⟨(a.2 p.1 ne).trans e,n,ne,R,d⟩
 ·refine(I.hok b L e).stay (fun c A hc q=>(a.2 c ?_).trans q) (fun _ q=>q) fun _ _ q=>q;rintro rfl;rcases hc with rfl|hc
  ·rw[I.free]at e;cases e
  ·rw[I.free]at hc;cases hc
theorem Zlc{M:Model}{A:Around}{E:Value→Shared→Prop}{i:Nat}{x:Str}{pos:Pos}{Q:Unit→Shared→Prop}(I:Inv X U σ H s)(c:X.N.Nodup)(a:X.N[i]? = some x)(hk:X.env.kindOf x=some .local)(b:X.env.scope.names.lookup x=some .local)
  (h:∀s',Inv X U (σ.set i none) H s'→Q () s'):wpAny M A (do bindName X.env x .none;unbindBehindTheSuite X.env x pos) Q E s:=by
 have j:(X.env.scope.kind == .class||(X.env.scope.kind == .module&&X.env.locals != X.env.globals))=false:=by rw[I.ok.kind];rfl
 refine wpAny_bind (wpAny_bindName (V5 I c a (.inl b) (v:=.non) rfl (fun k d=>?_) (.inr b)));have l:i<σ.length:=by rw[I.len];exact(Qd.mp a).1
 obtain⟨m,f,g⟩:=id d.loc;have n:(m x).isSome=true:=by
  obtain⟨u,_,q⟩:=g i x .non a (Qau l) (.inl b);rcases q with⟨_,e⟩|⟨z,_⟩
  ·rw[e];rfl
  ·rw[hk]at z;rcases z with z|z<;>cases z
 unfold unbindBehindTheSuite;refine wpAny_onRaise ?_;unfold unbindName;refine wpAny_bind (wpAny_point (wpAny_bind ?_));unfold deleteName;simp only[hk,j];rw[if_neg #[6]];refine wpAny_bind (ZlQ f n fun h2 m2 o p r=>?_);simp only[if_true,Bool.not_true,Bool.false_eq_true,if_false];refine wpAny_pure (wpAny_point (h _ ?_));have J:=Inv.lost (t':=k.toks) d c a ⟨f,g⟩ o p r;rw[List.set_set]at J;exact J
end
noncomputable abbrev Cx.pnd(X:Cx)(U:List (Addr×Obj)):Cx:={ X with pn:=X.pn++U }
noncomputable abbrev Cx.mkd(X:Cx)(e:Addr):Cx:={ X with A:=X.A.mark (some (.ref e)),calm:=false,xe:=fun _ _=>False }
section
variable {X:Cx} {U fm:List (Addr×Obj)} {σ:St} {H:Hp} {s:Shared}
theorem Cx.Ok.pnd(ok:X.Ok)(U:List (Addr×Obj)):(X.pnd U).Ok :=
 ⟨ok.mod,ok.kind,ok.glob,ok.blt,ok.above,ok.inj,ok.has,ok.cab,ok.hd,ok.frames,ok.stk,ok.exf,ok.bs,ok.bsz,ok.noex,ok.exfs,ok.funs,ok.frf⟩
theorem Cx.Ok.unpnd{U:List (Addr×Obj)}(ok:(X.pnd U).Ok):X.Ok :=
 ⟨ok.mod,ok.kind,ok.glob,ok.blt,ok.above,ok.inj,ok.has,ok.cab,ok.hd,ok.frames,ok.stk,ok.exf,ok.bs,ok.bsz,ok.noex,ok.exfs,ok.funs,ok.frf⟩
theorem Inv.pnd(I:Inv X U σ H s):Inv (X.pnd U) [] σ H s:=⟨I.ok.pnd U,I.os,I.bare,I.base,I.loc,I.cell,I.free,I.freeC,fun p a=>I.pin p (by simpa using a),I.hok,I.len⟩
theorem Inv.unpnd(I:Inv (X.pnd U) fm σ H s):Inv X U σ H s:=⟨I.ok.unpnd,I.os,I.bare,I.base,I.loc,I.cell,I.free,I.freeC,fun p a=>I.pin p (QG _ a),I.hok,I.len⟩
theorem SP.unpnd{D:XH}{f:Flow}{s':Shared}(h:SP (X.pnd U) fm D f s'):SP X U D f s':=by
 cases f with
 | next=>obtain⟨a,b,I,q⟩:=h;exact⟨a,b,I.unpnd,q⟩
 | brk=>obtain⟨a,b,I,q⟩:=h;exact⟨a,b,I.unpnd,q⟩
 | cont=>obtain⟨a,b,I,q⟩:=h;exact⟨a,b,I.unpnd,q⟩
 | ret u=>obtain⟨v,a,b,I,r,q⟩:=h;exact⟨v,a,b,I.unpnd,r,q⟩
theorem Inv.mkd(I:Inv X U σ H s)(e:Addr):Inv (X.mkd e) U σ H s :=
 ⟨⟨I.ok.mod,I.ok.kind,I.ok.glob,I.ok.blt,I.ok.above,I.ok.inj,I.ok.has,I.ok.cab,(fun h=>by cases h),I.ok.frames,I.ok.stk,I.ok.exf,I.ok.bs,I.ok.bsz,I.ok.noex,I.ok.exfs,I.ok.funs,I.ok.frf⟩,I.os,I.bare,I.base,I.loc,I.cell,I.free,I.freeC,I.pin,I.hok,I.len⟩
theorem Inv.unmkd{e:Addr}(I:Inv (X.mkd e) U σ H s)(ok:X.Ok):Inv X U σ H s:=⟨ok,I.os,I.bare,I.base,I.loc,I.cell,I.free,I.freeC,I.pin,I.hok,I.len⟩
theorem Inv.track{e:Addr}{o:HO}(I:Inv X U σ H s)(he:X.s₀.heap.objs.size≤e)(r:e≠X.env.locals)(t:∀x c,X.env.cells.lookup x=some c→c≠e)(v:H e=none)(w:∀p∈X.pn++U,p.1≠e)(new:Z4 X.prog X.w (upd H e o) s.heap e o):Inv X U σ (upd H e o) s:=by
 have ne:∀ {b:Addr} {u:HO},H b=some u→b≠e:=fun h z=>by rw[z,v]at h;cases h
 refine⟨I.ok,I.os,I.bare,⟨I.base.keep,I.base.slot,fun b i d n y=>?_,I.base.there,fun b j h=>?_,fun b i u h=>?_,fun b A h=>?_⟩,I.loc,I.cell,?_,fun x c k=>?_,fun p l=>?_,fun a u g=>?_,I.len⟩
 ·rw[Zb (fun z=>by rw[z]at d;exact absurd (Qi d) (Qa9.mpr he))];exact I.base.free b i d n y
 ·have:=I.base.tups b j h;rw[Zb (ne this)];exact this
 ·have:=I.base.frzs b i u h;rw[Zb (ne this)];exact this
 ·obtain⟨f,this⟩:=I.base.tbls b A h;exact⟨f,by rw[Zb (ne this)];exact this⟩
 ·rw[Zb (Ne.symm r)];exact I.free
 ·rw[Zb (t x c k)];exact I.freeC x c k
 ·obtain⟨a1,a2,a3⟩:=I.pin p l;exact⟨a1,by rw[Zb (w p l)];exact a2,a3⟩
 ·by_cases m:a=e
  ·subst m;rw[Zc]at g;cases g;exact new
  ·rw[Zb m]at g;exact(I.hok a u g).stay (fun _ _ _ q=>q) (fun b d=>by rw[Zb (ne d)];exact d) fun b j d=>by rw[Zb (ne d)];exact d
end
def Tx(K:#[7])(C:Addr)(a:List Value):Prop:=∃ (b q:Str) (N:Addr) (bs:List Value) (c:Bool) (d:List Str) (sub:List Value) (e:Bool) (f:Option Bool) (g:Option Addr) (k0 k1 k2 k3 k5:Option Value) (h:String),
 K.lookup C=some (excClassObj b q C N bs a c d sub e f g k0 k1 k2 k3 k5 h)
noncomputable abbrev exO(e C:Addr)(b:Option Addr):HO:=.ext fun h=>∃a vs,h.get? e=some a∧a.cls=.ref C∧a.dict=b∧a.data=.fields vs
def MZ(K:#[7])(b:Addr)(i:Nat)(ts:TS)(D:XH):St→XK:=fun c cls d H=>∃C a,cls=.ref C∧Tx K C a∧(Value.ref C::a).contains (.ref b)=true ∧
 ∀e,H e=none→ts { nx:=fun f g=>D.nx (f.set i none) g,rt:=fun _ _=>False } (c.set i (some (.ref e))) (upd H e (exO e C d))
def Zrl(K:#[7])(a:Addr)(i:Nat)(b:(St→XK)→TS)(ts:TS):TS:=fun D c H=>b (MZ K a i ts D) D c H
section
variable {X:Cx}
theorem Zoq{x n:Str}{np fV pos:Pos}{O:List Stmt}{P:Stmt}{Q:List Stmt}{j:Addr}{R:List Value}{i:Nat}{S:(St→XK)→TS}{ts:TS}
  (hb:∀ (U:List (Addr×Obj)) (E:St→XK),PSs ((X.pnd U).wish (XE (X.pnd U) E)) O (S E)) (zQ:∀e,PSs (X.mkd e) (P::Q) ts)
  (r:X.stack=X.env::X.outer∧X.env.frame=some X.env.locals) (hg:Gl X x) (hm:X.mg x=some (.ref j)) (zR:Tx X.K j R) (bR:R.contains (.type "BaseException")=true)
  (V:X.N.Nodup) (W:X.N[i]? = some n) (hk:X.env.kindOf n=some .local) (t:X.env.scope.names.lookup n=some .local) (cc:(x == ("__debug__" : Str))=false:=by decide) :
  PS X (.Try O [.ExceptHandler (some (.Name x np)) (some n) (P::Q) fV] [] [] pos) (Zrl X.K j i S ts):=by
 intro U s σ H D I h;refine wpAny_Try_except (wpAny_mono (hb U (MZ X.K j i ts D) [] s σ H D (I.pnd.wish _) h) (fun f d l=>?_) fun ev d l=>?_)
 ·have g:SP X U D f d:=l.unwish.unpnd;cases f with
  | next=>exact wpAny_execs_nil g
  | brk=>exact g
  | cont=>exact g
  | ret u=>exact g
 obtain⟨e,cls,dd,fm,w,y,rfl,Y,Z,jn,A,I',hp,hx,C,bm,rfl,hC,ky,bZ⟩:=l;obtain⟨B,M,G,hM,hI⟩:=I'.fly r Y Z jn A hp hx;have bq:X.A.frames=some (X.env::X.outer):=by rw[← r.1];exact I.ok.frames
 refine G.noted bq r.2 fun g a b c=>?_;refine RR G.hB (s:={ d with heap:=g }) (F:=none) b a c fun J a3 b3 c3=>?_;have K:Inv X U w y { d with heap:=J }:=(hI J a3).unpnd;have zS:∀p∈X.pn++U,p.1≠e:=fun p cV=>hp p (QG _ cV);refine Zlu ?_;refine Vx (X:=X.mkd e) (K.mkd e) hg hm ?_ cc;obtain⟨oe,vs,T,oT,kZ,kW,rZ,r6,_⟩:=c3.ex;obtain⟨nm,q,N,bs,bP,sn,sub,ab,bG,dq,k0,k1,k2,k3,k5,bc,lC⟩:=hC;obtain⟨u6,q',N',u7,mL,u8,qm,u9,qo,JZ,vc,vd,ve,vf,vg,kC,zT⟩:=zR;refine Zh4 (K.kIn _ _ lC) (K.kIn _ _ zT) kW rZ bR ky ⟨rfl,?_⟩;refine RR G.hB (s:={ d with heap:=J }) (F:=none) b3 a3 c3 fun L a4 b4 c4=>?_;have I4:Inv X U w y { d with heap:=L }:=(hI L a4).unpnd;obtain⟨vn,zU,T4,J0,J1,vp,vq,vt,vv,_⟩:=c4.ex;have I5:Inv X U w (upd y e (exO e C dd)) { d with heap:=L }:=I4.track Y Z jn A zS ⟨⟨vn,zU,vp,vq,vt,vv⟩,⟨vn,vp⟩,fun l g z k=>by obtain⟨o,vs,z1,z2⟩:=z;exact⟨o,vs,k o z1,z2⟩⟩;refine V5 (X:=X.mkd e) (I5.mkd e) V W (.inl t) (v:=.ref e) rfl (fun s5 I6=>?_) (.inr t);refine wpAny_mono (zQ e U s5 _ _ _ I6 (bZ e A)) (fun f s6 m=>?_) fun _ _ z=>z;cases f with
 | next=>obtain⟨fX,H7,I7,q7⟩:=m;exact Zlc (I7.unmkd I.ok) V W hk t fun s8 I8=>⟨_,_,I8,q7⟩
 | brk=>obtain⟨_,_,_,z⟩:=m;exact z.elim
 | cont=>obtain⟨_,_,_,z⟩:=m;exact z.elim
 | ret u=>obtain⟨_,_,_,_,_,z⟩:=m;exact z.elim
end
open Builtin Builtin.ObjectAttr
section
variable {prog:Program} {w:World} {A:Around} {E:Value→Shared→Prop} {h:Heap} {g:Array GenState} {d:Drawn} {t:Nat} {os:OsState} {K:#[7]}
variable {nm q:Str} {C N x:Addr} {bs bm:List Value} {sn:List Str} {sub:List Value} {ab:Bool} {bG:Option Bool} {dd:Option Addr} {k0 k1 k2 k3 k5:Option Value} {bc:String}
 {mA:Str→Option Value} {name:Str} {v:Value}
end
noncomputable abbrev XZ:List Value:=[.type "ValueError",.type "Exception",.type "BaseException",.type "object"]
structure XC (K:#[7]) (C B:Addr):Prop where
 obj:∃ (nm q:Str) (N:Addr) (bs:List Value) (sn:List Str) (sub:List Value) (ab:Bool) (bG:Option Bool) (dd:Option Addr) (k0 k1 k2 k3 k5:Option Value) (bc:String),
  K.lookup C=some (excClassObj nm q C N bs (.ref B::XZ) true sn sub ab bG dd k0 k1 k2 k3 k5 bc)
 sa:PySem.W.findIn K (.ref C) "__setattr__" = some (some (.builtin "object.__setattr__"))
noncomputable abbrev exN(e C:Addr)(a:Option Addr):HO:=.ext fun h=>∃T,h.get? e=some { cls:=.ref C,dict:=a,data:=.fields #[.ref T,.none,.none,.none,.bool false,.none] }
noncomputable abbrev xdO(dx:Addr)(fs:List (Str×V)):HO:=.ext fun h=>∃a,h.Ns1 dx a∧(∀f,Yj (fs.lookup f) (a f))∧PySem.Within a (fs.map (·.1))
section
variable {X:Cx} {U:List (Addr×Obj)} {σ:St} {H:Hp} {s:Shared} {A:Around} {E:Value→Shared→Prop} {C B e dx:Addr} {f:Str} {fs:List (Str×V)}
theorem Zql{P:Program}{w:World}{H:Hp}{h:Heap}{a:Option Addr}{T:Addr}(he:h.get? e=some { cls:=.ref C,dict:=a,data:=.fields #[.ref T,.none,.none,.none,.bool false,.none] }):Z4 P w H h e (exN e C a) :=
 ⟨⟨T,he⟩,⟨_,he⟩,fun h1 h2 z k=>by obtain⟨b,z⟩:=z;exact⟨b,k _ z⟩⟩
end
noncomputable abbrev FV:ExcBaseFacts "ValueError" "ValueError.__new__" "ValueError.__init__" XZ:=PySem.F.excBase_ValueError
section
variable {prog:Program} {w:World} {A:Around} {E:Value→Shared→Prop} {h:Heap} {g:Array GenState} {d:Drawn} {t:Nat} {os:OsState} {K:#[7]}
variable {nm q:Str} {C N B:Addr} {bs:List Value} {bP:Bool} {sn:List Str} {sub:List Value} {ab:Bool} {bG:Option Bool} {dd:Option Addr} {k0 k1 k2 k3 k5:Option Value}
theorem mvV(C B:Addr):(Value.ref C::.ref B::XZ).contains (.type "ValueError")=true:=by rw[QP,QP,FV.hasB];simp
theorem Zj5{M:Model}{rest:List Value}{Q:Unit→Shared→Prop}(a:h.get? C=some (excClassObj nm q C N bs (.ref B::XZ) bP sn sub ab bG dd k0 k1 k2 k3 k5 "ValueError.__new__"))(hq:Q () ⟨h,g,d,t,os⟩):wpAny M A (checkBuiltinCall "ValueError.__new__" ⟨.ref C::rest,[]⟩) Q E ⟨h,g,d,t,os⟩:=by
 have b:=mvV C B;have iI:=FV.noStar;simp only[checkBuiltinCall,FV.newKind,FV.newSplit,FV.newRow];repeat (first|refine wpAny_loadPart_at a ?_|(refine wpAny_isSubtype_exc a ?_;rw[b])|refine wpAny_staticBase_exc a ?_|refine wpAny_madeBy_exc a ?_|simp only[bne_self_eq_false,Bool.false_eq_true,if_false]|wp_step)
 exact hq
theorem Znl{b c f:String}{a i:List Value}(F:ExcBaseFacts b c f i)(c1:a.contains (.type b)=true)(c2:a.contains (.type "AttributeError")=false)(c3:a.contains (.type "NameError")=false){R:Result→Shared→Prop}{rest:List Value}(e:h.get? C=some (excClassObj nm q C N bs a bP sn sub ab bG dd k0 k1 k2 k3 k5 c))
  (hq:R (.ok (.ret (.ref (h.objs.size+1)))) ⟨(h.push { cls:=.type "tuple",data:=.seq rest.toArray }).push
   { cls:=.ref C,data:=.fields #[.ref h.objs.size,.none,.none,.none,.bool false,.none] },g,d,t,os⟩) (mD:rest.length≤sizeLine) :
  codeAny (model prog w) A (.builtin c ⟨.ref C::rest,[]⟩) R ⟨h,g,d,t,os⟩:=by
 have zV:=F.ends;have j:(Value.ref C::a).contains (.type b)=true:=by rw[QP,c1,Bool.or_true]
 have k:(Value.ref C::a).contains (.type "AttributeError")=false:=by rw[QP,c2];rfl
 have l:(Value.ref C::a).contains (.type "NameError")=false:=by rw[QP,c3];rfl
 refine codeAny_builtinAt F.entry ?_;unfold Builtin.«BaseException.__new__»;refine PySem.wpAt_bind ?_;show PySem.wpAt _ _ _ (stack >>= _) _ _ _;refine PySem.wpAt_bind (PySem.wpAt_stack fun p zY=>PySem.wpAt_of_wpAny ?_)
 wp_walk
 refine PySem.wpAt_of_wpAny ?_;rw[F.owner];repeat (first|with_reducible refine wpAny_madeHere_exc F.canon e ?_|with_reducible refine wpAny_loadPart_at e ?_|(with_reducible refine wpAny_isSubtype_exc e ?_;first|rw[j]|rw[k]|rw[l])|wp_step)
 show R _ _;rw[QX];exact hq
theorem Zi4{M:Model}{e:Addr}{c:Obj}{rest:List Value}{Q:Unit→Shared→Prop}(f:h.get? C=some (excClassObj nm q C N bs (.ref B::XZ) bP sn sub ab bG dd k0 k1 k2 k3 k5 "ValueError.__new__"))(he:h.get? e=some c)(i:c.cls=.ref C)(hq:Q () ⟨h,g,d,t,os⟩) :
  wpAny M A (checkBuiltinCall "ValueError.__init__" ⟨.ref e::rest,[]⟩) Q E ⟨h,g,d,t,os⟩:=by
 have j:=mvV C B;have zf:=FV.noStar;simp only[checkBuiltinCall,FV.initKind,FV.initSplit,FV.initRow];repeat (first|(with_reducible refine wpAny_loadPart_at he ?_;rw[i])|with_reducible refine wpAny_loadPart_at f ?_|(with_reducible refine wpAny_isSubtype_exc f ?_;rw[j])|wp_step)
 refine wpAny_onRaise ?_;rw[show ∀ (a b:String) (n:Nat),Bind.check ⟨.positional, "*", "ValueError",.self,[⟨"args",.varPos,false⟩]⟩ a b n (List.map (fun x=>x.fst) ({ pos:=Value.ref e::rest }:Args).kw)=pure () from
  fun a b n=>check_star_args _ _ _ _ _ _]
 exact wpAny_pure hq
theorem Zr5{e T:Addr}{u:Value}{c:Option Addr}{Q:Value→Shared→Prop}(f:h.get? C=some (excClassObj nm q C N bs (.ref B::XZ) bP sn sub ab bG dd k0 k1 k2 k3 k5 "ValueError.__new__"))(he:h.get? e=some { cls:=.ref C,dict:=c,data:=.fields #[.ref T,.none,.none,.none,.bool false,.none] })
  (i:∀a,(∀b o,b≠e→h.get? b=some o→a.get? b=some o)→(∃j,a.get? e=some { cls:=.ref C,dict:=c,data:=.fields #[.ref j,.none,.none,.none,.bool false,.none] })→Q .none ⟨a,g,d,t,os⟩) :
  wpAny (model prog w) A (call (.builtin "ValueError.__init__") [.ref e,u]) Q E ⟨h,g,d,t,os⟩:=by
 refine wpAny_call (codeAny_call_builtin FV.init.plain FV.initEntry (Zi4 f he rfl ?_))
 wp_walk
 refine i _ (fun b o k l=>?_) ⟨h.objs.size,?_⟩
 ·rw[Q6 _ _ (Ne.symm k)];exact Qc _ l
 ·rw[Q8 _ (Qc _ he) rfl];rfl
end
abbrev TJ:=Str→St→Hp→VK→Prop
def PJ(X:Cx)(c:List Expr)(t:TJ):Prop :=
 ∀ (U:List (Addr×Obj)) (s:Shared) (b:St) (H:Hp) (a:Str) (Q:VK),Inv X U b H s→t a b H Q→#[9,X] (joinParts a (evalEach c X.env)) (EP X U b Q) X.xe s
def Zsz:TJ:=fun out _ H Q=>out.length≤sizeLine∧Q (.str out) H
def Zsa(b:TE)(t:TJ):TJ:=fun out a H Q=>b a H fun v c=>∃y,v=.str y∧(out++y).length≤sizeLine∧t (out++y) a c Q
def ZrI(a:TE):TE:=fun b H Q=>a b H fun v c=>∃i:Int,v=.int i∧i.natAbs.log2<1920∧Q (.str (toString i)) c
section
variable {X:Cx} {e e1 e2:Expr} {es:List Expr} {te:TE} {t:TJ} {pos:Pos}
theorem Zqs:PJ X [] Zsz:=fun _ _ _ H out _ I h=>joinParts_nil ⟨.str out,H,I.tok _,⟨_,rfl⟩,h.2⟩ h.1
theorem MY(he:PE X e te)(d:PJ X es t):PJ X (e::es) (Zsa te t):=by intro U s b H out Q I h;refine joinParts_cons (thn (he U s b H _ I h) fun u f a=>?_);obtain⟨v,g,i,r,y,rfl,j,q⟩:=a;obtain⟨c,rfl⟩:=(show ∃c,u=Value.str y c from r);exact⟨j,d U f b g _ Q i q⟩
theorem Zl9(h:PJ X (e1::e2::es) t):PE X (.JoinedStr (e1::e2::es) pos) (t Str.empty):=fun U s a H Q I q=>JoinedStr_many (h U s a H _ Q I q)
theorem ZoL(he:PE X e te):PE X (.FormattedValue e (-1) none pos) (ZrI te):=by intro U s c H Q I h;refine FormattedValue_plain (thn (he U s c H _ I h) fun u s1 a=>?_);obtain⟨v,d,f,r,i,rfl,g,q⟩:=a;obtain⟨b,rfl⟩:=(show ∃b,u=Value.int i b from r);exact formatField_int_small g ⟨.str (toString i),d,f.tok _,⟨_,rfl⟩,q⟩
end
structure XB (K:#[7]) (B:Addr):Prop where
 sp:PySem.W.specialIn K (.ref B) "__getattribute__" = some (some (.builtin "type.__getattribute__"))
 rd:PySem.W.readsIn K B (.type "type")=true
 fi:PySem.W.findCls K (.ref B) (.type "type") "__init__" = some (.val (.builtin "ValueError.__init__"))
structure XM (K:#[7]) (C B f:Addr):Prop where
 obj:∃ (nm q:Str) (N:Addr) (bs:List Value) (sn:List Str) (sub:List Value) (ab:Bool) (bG:Option Bool) (dd:Option Addr) (k0 k1 k2 k3 k5:Option Value),
  K.lookup C=some (excClassObj nm q C N bs (.ref B::XZ) true sn sub ab bG dd k0 k1 k2 k3 k5 "ValueError.__new__")
 init:PySem.W.findIn K (.ref C) "__init__" = some (some (.ref f))
 fn:PySem.W.isFn K (.ref f)=true
 kp:PySem.W.keepIn K (.ref C)=true
 sa:PySem.W.findIn K (.ref C) "__setattr__" = some (some (.builtin "object.__setattr__"))
section
variable {X:Cx} {U:List (Addr×Obj)} {σ:St} {H:Hp} {s:Shared}
theorem Inv.untrack{e:Addr}{i:Heap→Prop}(I:Inv X U σ H s)(hx:H e=some (.ext i)):Inv X U σ (off e H) s:=by
 have g:∀ {b:Addr},H b=none→off e H b=none:=fun h=>ZmN h;have ne:∀ {b:Addr} {o:HO},H b=some o→o≠.ext i→b≠e:=fun h n z=>by rw[z,hx]at h;cases h;exact n rfl
 refine⟨I.ok,I.os,I.bare,⟨I.base.keep,I.base.slot,fun b o d n x=>g (I.base.free b o d n x),I.base.there,fun b j h=>?_,fun b o u h=>?_,fun b k h=>?_⟩,I.loc,I.cell,g I.free,fun x c l=>g (I.freeC x c l),fun p m=>?_,fun a u r=>?_,I.len⟩
 ·have:=I.base.tups b j h;exact UJ this (ne this (by intro z;cases z))
 ·have:=I.base.frzs b o u h;exact UJ this (ne this (by intro z;cases z))
 ·obtain⟨f,this⟩:=I.base.tbls b k h;exact⟨f,UJ this (ne this (by intro z;cases z))⟩
 ·obtain⟨a1,a2,a3⟩:=I.pin p m;exact⟨a1,g a2,a3⟩
 ·exact(I.hok a u (ZpW a u r)).stay (fun _ _ _ q=>q) (fun b d=>UJ d (ne d (by intro z;cases z))) fun b j d=>UJ d (ne d (by intro z;cases z))
end
section
variable {M:Model} {A:Around} {E:Value→Shared→Prop} {env:Env}
theorem Zko{s:Shared}{x:Sem Value}{Q:Flow→Shared→Prop}(p:A.handled=none)
  (h:wpAny M A x (fun v a=>∃ (e C T:Addr) (c:Option Addr) (f q:Str) (N:Addr) (bs b:List Value) (i:Bool) (j:List Str) (sub:List Value) (k:Bool) (l:Option Bool) (m:Option Addr) (k0 k1 k2 k3 k5:Option Value) (n:String),
   v=.ref e∧a.heap.get? C=some (excClassObj f q C N bs b i j sub k l m k0 k1 k2 k3 k5 n)∧b.contains (.type "BaseException")=true∧a.heap.get? e=some { cls:=.ref C,dict:=c,data:=.fields #[.ref T,.none,.none,.none,.bool false,.none] }∧E (.ref e) a) E s) :
  wpAny M A (raiseStmt env (some x) none) Q E s:=by
 unfold raiseStmt;refine wpAny_bind (wpAny_mono h (fun v a r=>?_) fun _ _ x=>x);obtain⟨e,C,T,c,f,q,N,bs,b,i,j,sub,k,l,m,k0,k1,k2,k3,k5,n,rfl,o,t,u,w⟩:=r;obtain⟨hp,g,d,tk,os⟩:=a;have y:(Value.ref C::b).contains (.type "BaseException")=true:=by rw[QP,t,Bool.or_true]
 repeat (first|with_reducible refine wpAny_loadPart_at u ?_|with_reducible refine wpAny_loadPart_at o ?_|(with_reducible refine wpAny_isSubtype_exc o ?_;rw[y])|wp_step)
 exact wpAny_raiseNew_none p w
end
abbrev RQ(prog:Program)(w:World)(A:Around)(E:Value→Shared→Prop)(Q:Value→Shared→Prop):Result→Shared→Prop:=fun r s'=>match r with|.ok (.ret v)=>wpAny (model prog w) A (handedOut v) Q E s'|_=>False
structure XG (K:#[7]) (C:Addr):Prop where
 ga:PySem.W.findIn K (.ref C) "__getattribute__" = some (some (.builtin "BaseException.__getattribute__"))
 gh:PySem.W.findIn K (.ref C) "__getattr__" = some none
 sb:PySem.W.subIn K (.ref C) (.type "BaseException")=some true
 hd:PySem.W.hasDictIn K C=true
 ca:PySem.W.findIn K (.ref C) "__class__" = some (some (.builtin "object.__class__"))
 hm:PySem.W.mroIn K C (.type "object")=some true
section
variable {prog:Program} {w:World} {A:Around} {E:Value→Shared→Prop} {s:Shared} {K:#[7]} {C e:Addr} {oe:Obj} {od:Option Obj} {name:Str}
theorem ZoG{tk:Tok}{fill a:Bool}{Q:Value→Shared→Prop}(X:K.In s.heap)(I:PySem.W.InstAt s.heap e oe C od)(c:XG K C)
  (h:wpAny (model prog w) A.in1 (Builtin.«object.__getattribute__» ⟨[.ref e,.str name tk],[]⟩)
   (fun fin s'=>match fin with|.done f=>RQ prog w A E Q (.ok f) s'|.again b=>b.quiet=true∧codeAny (model prog w) A b (RQ prog w A E Q) s') (fun g s'=>RQ prog w A E Q (.error g) s') s) :
  wpAny (model prog w) A (getAttrBy (.ref e) (.str name tk) fill a) Q E s:=by
 have d:=I.type (M:=model prog w);have i:=QaC (M:=model prog w) X c.ga;have L2:=QaC (M:=model prog w) X c.gh;unfold getAttrBy;refine wpAny_holding (wpAny_bind (d.here (wpAny_bind (i.here ?_))));dsimp only;have j:(Value.builtin "BaseException.__getattribute__" == Value.builtin "object.__getattribute__")=false:=by ac_rfl
 rw[j,Bool.and_false,if_neg #[6]];unfold getAttrByItsOwn hookBefore callGetattribute boundAndCalled;have k:(a&&onTheHeap (Value.builtin "BaseException.__getattribute__"))=false:=by cases a<;>rfl
 rw[show onTheHeap (Value.ref C)=true from rfl,if_pos rfl,k,if_neg #[6],PySem.F.excAttr_ValueError.ga.bind];refine wpAny_bind (L2.here (wpAny_bind (wpAny_attempt (wpAny_holding (wpAny_bind (wpAny_pure (wpAny_call ?_)))))));refine codeAny_call_builtin PySem.F.excAttr_ValueError.ga.plain PySem.F.entry_bexc_ga ?_;refine @PySem.W.check_slot (model prog w) _ _ s "BaseException.__getattribute__" "BaseException" "__getattribute__" (.ref e) [.str name tk] [] _ #[1] #[1] (d.andThen (PySem.W.looks_subIn X c.sb)) (PySem.F.args_bexc_ga (.ref e) (.str name tk)) ?_;refine wpAny_mono h (fun fin s' z=>?_) fun _ _ z=>z.elim;cases fin with
 | done f=>cases f<;>first|exact z|exact z.elim
 | again b=>exact⟨z.1,codeAny_mono z.2 fun r s2 y=>by rcases r with _|(_|_|_|_)<;>first|exact y|exact y.elim⟩
theorem Zp2{Q:Option Value→Shared→Prop}(X:K.In s.heap)(I:PySem.W.InstAt s.heap e oe C od)(c:XG K C)(a:PySem.W.findObj K C od "__class__" = some (.bind (.builtin "getset_descriptor.__get__") (.builtin "object.__class__")))
  (h:Q (some (.ref C)) { s with toks:=s.toks+1 }):wpAny (model prog w) A (getAttr? (.ref e) "__class__") Q E s:=by
 refine wpAny_bind (wpAny_mkText (wpAny_bind (wpAny_attempt (ZoG (s:={ s with toks:=s.toks+1 }) X I c ?_))));obtain⟨b,g,d,f,os⟩:=s;have i:=I.type (M:=model prog w);have j:=PySem.W.looks_find (M:=model prog w) X I a;unfold Builtin.«object.__getattribute__»;refine wpAny_bind (wpAny_pure (wpAny_bind (wpAny_pure (wpAny_bind (i.at (wpAny_bind (j.at ?_)))))));show wpAny _ _ (Builtin.ObjectAttr.bindTo _ _ _ _) _ _ _;unfold Builtin.ObjectAttr.bindTo;refine wpAny_bind (wpAny_holding (wpAny_call (PySem.W.class_get (s:=⟨b,g,d,f+1,os⟩) (ox:=oe) (od:=od) X I c.hm ?_)));refine wpAny_pure ?_;show wpAny _ _ (handedOut (.ref C)) _ _ _;rw[PySem.W.handedOut_of rfl];exact wpAny_pure (wpAny_pure h)
theorem ZsB(c:XG K C)(d:PySem.W.specialIn K (.builtin "object.__class__") "__get__" = some (some (.builtin "getset_descriptor.__get__")))(f:PySem.W.takesIn K (.builtin "object.__class__")=some true) :
  PySem.W.KitX K (.ref e) (.ref C) (fun h=>∃oe od,PySem.W.InstAt h e oe C od) where
 ty:=fun _ _ _ I=>by obtain⟨oe,od,I⟩:=I;exact I.type
 it:=fun _ _ X _=>by
  obtain⟨g,a,_⟩:=Qa6 c.hd;unfold PySem.W.clsIn at a;split at a
  ·rename_i i j l m b;intro A' Q' E' s' k q;unfold isType loadHead;exact wpAny_bind (wpAny_loadPart (k _ _ (X _ _ b)) (wpAny_pure q))
  ·cases a
 ne:=fun h o dd its n sl X p=>by
  obtain⟨g,a,_⟩:=Qa6 c.hd;refine QaB.mpr fun q=>?_;have e:C=o:=Value.ref.inj (beq_iff_eq.mp q);subst e;unfold PySem.W.clsIn at a;split at a
  ·rename_i i j l m b;have z:=(X _ _ b).symm.trans p;cases z
  ·cases a
 ca:=fun X I k=>by obtain⟨oe,od,I⟩:=I;refine Zp2 X I c ?_ k;obtain⟨cd,r,_⟩:=Qa6 c.hd;unfold PySem.W.findObj;rw[r,c.ca];simp only[Option.bind_some,d,f]
end
end L2
namespace L2
open PySem PySem.Spec PyProof.Rows
def Zsq(K:#[7]):List V→Hp→VK→Prop:=fun vs H Q=>∃e C a c b,vs=[.ref e,c]∧H e=some (exO e C a)∧XG K C∧(a=none∨∃dx fs,a=some dx∧H dx=some (xdO dx fs)) ∧
 (∀u,ZI c u→PySem.W.kitOne K (.ref C) u=some b)∧PySem.W.specialIn K (.builtin "object.__class__") "__get__" = some (some (.builtin "getset_descriptor.__get__"))∧PySem.W.takesIn K (.builtin "object.__class__")=some true∧Q (.bl b) H
def Zo9:V→List V→Hp→VK→Prop:=fun x vs H Q=>∃ (l:Addr) (ns:List Bool) (n:Bool),x=.ref l∧vs=[.bl n]∧H l=some (.lst (ns.map V.bl))∧Q (.int ((ns.count n:Nat):Int)) H
theorem MX(n:Bool):∀ {ns:List Bool} {us:List Value},ZH (ns.map V.bl) us→us.countP (isBoolOf n)=ns.count n
 | [],_,h=>by cases h;rfl
 | m::r,_,h=>by
  cases h with
  | cons h1 h2=>obtain rfl:=h1;rw[List.countP_cons,List.count_cons,MX n h2];rfl
section
variable {X:Cx} {U:List (Addr×Obj)} {σ:St} {H:Hp} {s:Shared} {e C:Addr} {dd:Option Addr}
theorem Zrj(I:Inv X U σ H s)(he:H e=some (exO e C dd))(hd:dd=none∨∃dx fs,dd=some dx∧H dx=some (xdO dx fs)):∃a od,PySem.W.InstAt s.heap e a C od:=by
 obtain⟨⟨a,vs,b,c,d,g⟩,_,_⟩:=I.hok e _ he;have f:PySem.W.notCls a=true:=by unfold PySem.W.notCls;rw[g]
 rcases hd with rfl|⟨dx,fs,rfl,hd⟩
 ·exact⟨a,none,b,c,f,by rw[d];exact True.intro⟩
 ·obtain⟨_,⟨od,h⟩,_⟩:=I.hok dx _ hd;exact⟨a,some od,b,c,f,by rw[d];exact h⟩
theorem isX(K:#[7])(a:X.K=K:=by rfl):YW X (.builtin "isinstance") (Zsq K):=by
 subst a;intro U s σ H vs us Q I r h;obtain⟨e,C,dd,c,b,rfl,d,g,f,i,j,k,q⟩:=h;cases r with
 | cons l r =>
  cases r with
  | cons m r=>cases r;obtain rfl:=l;exact QS (ZsB g j k) I.kIn (Zrj I d f) (i _ m) (fun z=>nomatch z) fun tk=>⟨.bl b,H,I.tok _,rfl,q⟩
theorem ZqS:MtM X "list.count" Zo9:=by
 intro U s σ H x vs v us Q I d f h;obtain⟨l,a,n,rfl,rfl,g,q⟩:=h;cases d;obtain⟨u,rfl,i⟩:=f.one;obtain rfl:=i;obtain⟨z,its,j,r,hl,e⟩:=I.lstM g;refine call_meets F.slot_list_count ⟨_,e,rfl⟩ F.entry_list_count (F.args_list_count_2 _ _) (SeqAt.list_countAt l its.toArray j _ _ (.bool n) (isBoolOf n)) ⟨e,?_,?_⟩
 ·intro y k;obtain⟨m,b⟩:=Q9.mp (List.mem_toArray.mp k);have o:m<a.length:=by have:=(Qd.mp b).1;have:=r.length;rw[Qa]at this;lia
  have p:(a.map V.bl)[m]? = some (V.bl a[m]):=by rw[Qk,Qb o];rfl
  obtain⟨y',c,t⟩:=r.get p;rw[b]at c;cases c;obtain rfl:=t;exact SeqAt.EqAt.bool_bool _ _
 ·rw[MX n r];exact⟨.int _,H,I.tok _,⟨_,rfl⟩,q⟩
theorem Vl{x:Str}{pos:Pos}{C:Addr}(hm:X.mg x=some (.ref C))(a:Gl X x:=by rfl)(b:(x == ("__debug__" : Str))=false:=by decide):PE X (.Name x pos) (tC (.ref C)) :=
 fun _ _ _ H _ I h=>Vx I a hm ⟨.ref C,H,I,rfl,h⟩ b
end
structure D1f (P:Program) (w:World) (K:#[7]) (mg:Str→Option Value) (base:Heap) (k:Nat) (x:Str) (ps:List Str) (sp:Sp):Prop where
 ex:∃f fd,YC P w K mg base (CX1 P w) k f fd ps sp∧mg x=some (.ref f)∧PySem.W.keepIn K (.ref f)=true∧Ys K fd ps []
structure C1f (P:Program) (w:World) (K:#[7]) (mg:Str→Option Value) (base:Heap) (k:Nat) (C:Addr) (x:Str) (ps:List Str) (sp:Sp):Prop where
 ex:∃f fd,YC P w K mg base (CX1 P w) k f fd ps sp∧Mk K C f∧Ys K fd ps []∧mg x=some (.ref C)
structure Xf (P:Program) (w:World) (K:#[7]) (mg:Str→Option Value) (base:Heap) (k:Nat) (C B:Addr) (x:Str) (ps:List Str) (sp:Sp):Prop where
 ex:∃f fd,YC P w K mg base CX0 k f fd ps sp∧XM K C B f∧Ys K fd ps []∧mg x=some (.ref C)
structure TopX (K:#[7]) (mg:Str→Option Value) (C B:Addr) (x ap:Str) (st:Stmt) (ps:List Str):Prop where
 ex:∃f fd,Fun K "__init__" ap st f fd∧XM K C B f∧Ys K fd ps []∧mg x=some (.ref C)
section
variable {P:Program} {w:World} {K:#[7]} {mg:Str→Option Value} {base:Heap}
noncomputable abbrev cx1(P:Program)(w:World)(K:#[7])(mg:Str→Option Value)(base:Heap)(N:List Str)(a:Str)(b:Scope)(f:Addr)(c:Value)(A:Around)(outer:List Env)(s:Shared)(H:Hp)(E:XK):Cx :=
 (XQ (CX1 P w) P w K mg base N a b f c A outer s H E).wish (XE (XQ (CX1 P w) P w K mg base N a b f c A outer s H E) (fun _=>E))
end
section
variable {K:#[7]} {C D:Addr}
theorem Zng:PySem.W.kitOne K (.ref C) (.ref C)=some true:=by unfold PySem.W.kitOne;rw[if_pos #[4]]
theorem ZnG(h1:PySem.W.isClsIn K D=true)(h2:PySem.W.typeIn K (.ref D)=some (.type "type"))(a:PySem.W.subIn K (.ref C) (.ref D)=some true):PySem.W.kitOne K (.ref C) (.ref D)=some true:=by
 unfold PySem.W.kitOne;split
 ·rfl
 ·unfold PySem.W.kitCls;have b:(PySem.W.clsIn K D).isSome=true:=h1;dsimp only;rw[b,h2,if_pos #[5]];exact a
theorem RP(h1:PySem.W.isClsIn K D=true)(h2:PySem.W.typeIn K (.ref D)=some (.type "type"))(a:PySem.W.subIn K (.ref C) (.ref D)=some false)(b:PySem.W.subIn K (.ref C) (.ref C)=some true):PySem.W.kitOne K (.ref C) (.ref D)=some false:=by
 have ne:C≠D:=fun z=>by subst z;rw[a]at b;cases b
 unfold PySem.W.kitOne;rw[if_neg (by simp[ne])];unfold PySem.W.kitCls;have c:(PySem.W.clsIn K D).isSome=true:=h1;dsimp only;rw[c,h2,if_pos #[5]];exact a
theorem Zrp(h:PySem.W.subIn K (.ref C) (.type "ValueError")=some true):PySem.W.kitOne K (.ref C) (.type "ValueError")=some true:=by unfold PySem.W.kitOne;rw[if_neg (fun z=>by cases z)];unfold PySem.W.kitCls;dsimp only;rw[if_pos #[1]];exact h
end
theorem ZfS:bootBuiltins "ValueError" = some (.type "ValueError"):=by first|rfl|ac_rfl
end L2
namespace L2
open PySem PyProof.Rows
section
variable {prog:Program} {w:World} {A:Around} {E:Value→Shared→Prop} {h:Heap} {g:Array GenState} {d:Drawn} {t:Nat} {os:OsState} {K:#[7]}
variable {nm q:Str} {C N B:Addr} {bs:List Value} {bP:Bool} {sn:List Str} {sub:List Value} {ab:Bool} {bG:Option Bool} {dd:Option Addr} {k0 k1 k2 k3 k5:Option Value}
theorem ZjE{u:Value}{Q:Fin→Shared→Prop}(X:K.In h)(c:h.get? C=some (excClassObj nm q C N bs (.ref B::XZ) bP sn sub ab bG dd k0 k1 k2 k3 k5 "ValueError.__new__"))(m:PySem.W.findIn K (.ref C) "__init__" = some (some (.builtin "ValueError.__init__")))
  (hq:∀h' T,(∀b o,h.get? b=some o→h'.get? b=some o)→h'.get? (h.objs.size+1)=some { cls:=.ref C,data:=.fields #[.ref T,.none,.none,.none,.bool false,.none] }→Q (.done (.ret (.ref (h.objs.size+1)))) ⟨h',g,d,t,os⟩) :
  wpAny (model prog w) A (Builtin.«type.__call__» ⟨[.ref C,u],[]⟩) Q E ⟨h,g,d,t,os⟩:=by
 repeat (first|with_reducible refine wpAny_loadPart_at c ?_|with_reducible refine wpAny_madeBy_exc c ?_|wp_step)
 refine codeAny_call_builtin_code (Code.quiet_builtin _ FV.quiet) (Zj5 c ?_);refine Znl FV (by rw[QP,FV.hasB,Bool.or_true]) (by rw[QP,FV.noAttr];rfl) (by rw[QP,FV.noName];rfl) c ?_ (by show 1≤_;rw[sizeLine_eq];decide);show wpAny _ _ _ _ _ _;generalize i:h.push { cls:=.type "tuple",data:=.seq [u].toArray }=e;have n:e.objs.size=h.objs.size+1:=by rw[← i];exact QX _ _
 have k1:∀b o,h.get? b=some o→e.get? b=some o:=fun b o a=>by rw[← i];exact Qc _ a
 generalize j:e.push { cls:=.ref C,data:=.fields #[.ref h.objs.size,.none,.none,.none,.bool false,.none] }=f;have k2:∀b o,h.get? b=some o→f.get? b=some o:=fun b o a=>by rw[← j];exact Qc _ (k1 b o a)
 have k:f.get? (h.objs.size+1)=some { cls:=.ref C,data:=.fields #[.ref h.objs.size,.none,.none,.none,.bool false,.none] }:=by rw[← j,← n];exact Heap.get?_push_at rfl rfl
 have l:=k2 _ _ c;have p:K.In f:=X.keeps k2;have r:(Value.ref C::.ref B::XZ).contains (.ref C)=true:=by simp
 unfold isInstance;repeat (first|with_reducible refine wpAny_loadPart_at k ?_|(with_reducible refine wpAny_isSubtype_exc l ?_;rw[r])|wp_step)
 show wpAny _ _ (typeLookup (.ref C) _) _ _ _;refine(QaC p m).at ?_;refine wpAny_holding (wpAny_bind (wpAny_of_eq (FV.init.bind _) ?_));refine wpAny_bind (Zr5 l k ?_);rintro h' s ⟨v,x⟩
 wp_walk
 exact hq h' v (fun b o a=>s b o (fun z=>by have:=Qi a;rw[z]at this;exact absurd this (Qa9.mpr (Qaj _))) (k2 b o a)) x
theorem ZrN{u:Value}{Q:Value→Shared→Prop}(X:K.In h)(a:h.get? C=some (excClassObj nm q C N bs (.ref B::XZ) bP sn sub ab bG dd k0 k1 k2 k3 k5 "ValueError.__new__"))(c:PySem.W.findIn K (.ref C) "__init__" = some (some (.builtin "ValueError.__init__")))
  (hq:∀h' T,(∀b o,h.get? b=some o→h'.get? b=some o)→h'.get? (h.objs.size+1)=some { cls:=.ref C,data:=.fields #[.ref T,.none,.none,.none,.bool false,.none] }→Q (.ref (h.objs.size+1)) ⟨h',g,d,t,os⟩) :
  wpAny (model prog w) A (call (.ref C) [u]) Q E ⟨h,g,d,t,os⟩:=by
 have f1:=tc_lookup;have f2:=tc_bind (.ref C);have hT:(⟨h,g,d,t,os⟩:Shared).TypeIs (.ref C) "type":=⟨_,a,rfl⟩;refine wpAny_call (codeAny_of_tree ?_);show wpAny _ _ (callAny (.ref C) _) _ _ _;repeat (any_goals (first|assumption|with_reducible refine wpAny_loadPart_at a ?_|wp_step))
 refine⟨rfl,codeAny_call_builtin_at (Code.quiet_builtin _ #[1]) entry_typeCall (wpAny_check_type_call_sub a (ZjE X a c fun h' T k e=>hq h' T k e))⟩
end
structure XW (K:#[7]) (mg:Str→Option Value) (C B:Addr) (x:Str):Prop where
 obj:∃ (nm q:Str) (N:Addr) (bs:List Value) (sn:List Str) (sub:List Value) (ab:Bool) (bG:Option Bool) (dd:Option Addr) (k0 k1 k2 k3 k5:Option Value),
  K.lookup C=some (excClassObj nm q C N bs (.ref B::XZ) true sn sub ab bG dd k0 k1 k2 k3 k5 "ValueError.__new__")
 init:PySem.W.findIn K (.ref C) "__init__" = some (some (.builtin "ValueError.__init__"))
 kp:PySem.W.keepIn K (.ref C)=true
 m:mg x=some (.ref C)
theorem XW.cls{K:#[7]}{mg:Str→Option Value}{C B:Addr}{x:Str}(c:XW K mg C B x):Tx K C (.ref B::XZ):=by obtain⟨a,q,N,bs,b,sub,d,e,f,k0,k1,k2,k3,k5,h⟩:=c.obj;exact⟨a,q,N,bs,_,b,sub,d,e,f,k0,k1,k2,k3,k5,_,h⟩
def Zoi(C:Addr)(E:St→XK)(t:TA):TS:=fun _ a H=>t a H fun vs b=>∃x,vs=[.str x]∧E a (.ref C) none b
section
variable {X:Cx} {E:St→XK} {k j:Nat} {C B:Addr} {x m:Str} {ps:List Str} {sp:Sp} {p ay pos aB:Pos} {e o:Expr} {es:List Expr} {ta:TE} {t:TA}
theorem ZrU(M:XW X.K X.mg C B x)(hx:∀P s',XE X E P s'→X.xe P s')(hr:Y4 j X.A)(ha:PA X (e::es) t)(hg:Gl X x:=by rfl)(cc:(x == ("__debug__" : Str))=false:=by decide)
  (he:starEach (e::es) X.env=(false,eval e X.env)::starEach es X.env:=by rfl) (bb:(backTo aB (starEach es X.env)).any (·.1)=false:=by rfl) :
  PS X (.Raise (some (.Call (.Name x p) (e::es) [] aB)) none pos) (Zoi C E t):=by
 intro U s n H D I h;rw[arm_exec_Raise];refine wpAny_bind (wpAny_standAt (Zko hr.hd ?_));refine wpAny_bind (wpAny_mono (Q:=fun v k=>∃ (w A T:Addr) (di:Option Addr) (F q:Str) (N:Addr) (bs R:List Value) (bP:Bool) (G:List Str) (sub:List Value) (J:Bool) (K:Option Bool) (dd:Option Addr) (k0 k1 k2 k3 k5:Option Value) (bc:String),
   v=.ref w∧k.heap.get? A=some (excClassObj F q A N bs R bP G sub J K dd k0 k1 k2 k3 k5 bc)∧R.contains (.type "BaseException")=true∧k.heap.get? w=some { cls:=.ref A,dict:=di,data:=.fields #[.ref T,.none,.none,.none,.bool false,.none] }∧X.xe (.ref w) k) (wpAny_Call_Name_kw (Vx I hg M.m ?_ cc)) (fun v dD cb=>wpAny_bind (wpAny_standAt (wpAny_pure cb))) fun _ _ x=>x)
 refine Qav (h₀:=X.base) I.ok.mod.kin M.kp (thn (ha aB U s n H _ I h) fun us k a=>?_) he bb;obtain⟨vs,l,i,r,y,rfl,q⟩:=a;obtain⟨u,rfl,ru⟩:=r.one;obtain⟨F,q',N,bs,G,sub,J,K,dq,k0,k1,k2,k3,k5,S⟩:=M.obj;obtain⟨f,g,d,V,os⟩:=k;refine⟨i.kIn,ZrN i.kIn (i.kIn _ _ S) M.init fun h' T W L=>?_⟩;have Y:l (f.objs.size+1)=none:=i.hok.fresh (Qaj _);have I2:Inv X U n (upd l (f.objs.size+1) (exN (f.objs.size+1) C none)) ⟨h',g,d,V,os⟩:=i.laid (a:=f.objs.size+1) (h':=h') (t':=V) (fun b u z=>W b u z) (Qaj _) (Zql L);have Z:=I2.untrack (e:=f.objs.size+1) Zc;have eH:off (f.objs.size+1) (upd l (f.objs.size+1) (exN (f.objs.size+1) C none))=l:=by
  funext b;unfold off;by_cases z:b=f.objs.size+1
  ·rw[if_pos z,z,Y]
  ·rw[if_neg z,Zb z]
 rw[eH]at Z;have old:∀a o,f.get? a=some o→a≠f.objs.size+1:=fun a o ha z=>by have:=Qi ha;rw[z]at this;exact absurd this (Qa9.mpr (Qaj _))
 refine⟨f.objs.size+1,C,T,none,F,q',N,bs,.ref B::XZ,true,G,sub,J,K,dq,k0,k1,k2,k3,k5, "ValueError.__new__",rfl,W _ _ (i.kIn _ _ S),by rw[QP,FV.hasBase,Bool.or_true],L,hx _ _ ?_⟩;refine⟨f.objs.size+1,.ref C,none,U,n,l,rfl,Qw i.sz (Qaj _),fun z=>?_,fun y c hc z=>?_,Y,Z,fun p hp z=>?_,.inl ⟨_,_,L,rfl,rfl,rfl,rfl⟩,q⟩
 ·obtain⟨m,⟨o,_,_,O,_⟩,_⟩:=i.loc;exact old _ _ O z.symm
 ·obtain⟨v,o,O,_⟩:=i.cell y c hc;exact old _ _ O z
 ·exact old _ _ (i.pin p hp).1 z
structure M1f (P:Program) (w:World) (K:#[7]) (mg:Str→Option Value) (base:Heap) (k:Nat) (C:Addr) (m:Str) (ps:List Str) (sp:Sp):Prop where
 ex:∃f fd,YC P w K mg base (CX1 P w) k f fd ps sp∧Vt K C m f∧Ys K fd ps []
def ZpU(C:Addr)(m:Str)(sp:Sp)(E:St→XK)(ta:TE)(t:TA):TE:=fun a H Q=>ta a H fun x b=>RMt C m x b (t a b fun vs c=>sp (x::vs) c Q (E a))
theorem Vk{pl:Sem Bool}(F:M1f X.prog X.w X.K X.mg X.base k C m ps sp)(c:Cls X.K C)(hx:∀d s',XE X E d s'→X.xe d s')(w:Y4 j X.A)(he:PE X o ta)(ha:PA X (e::es) t)(y:k≤j:=by decide)
  (z:starEach (e::es) X.env=(false,eval e X.env)::starEach es X.env:=by rfl) (A:(backTo pos (starEach es X.env)).any (·.1)=false:=by rfl)
  (B:eval (.Call (.Attribute o m ay) (e::es) [] pos) X.env=(do
   let g ← eval o X.env
   standAt ay.atName
   let (f,first) ← holding [g] (getMethod g m pl)
   callWith pos f first (backTo pos (starEach (e::es) X.env)) (backToKw pos (keywordEach [] X.env))):=by rfl) :
  PE X (.Call (.Attribute o m ay) (e::es) [] pos) (ZpU C m sp E ta t):=by
 obtain⟨f,fd,F,i,b⟩:=F.ex;intro U s n H Q I h;refine PySem.W.methodCall_KW (pl:=pl) (thn (he U s n H _ I h) ?_) B;rintro u D ⟨x,G,p,J,a,dx,fs,ex,K,l,q⟩;subst ex;obtain rfl:u=Value.ref a:=J;refine Sj p K c i l ?_;refine Qav (first:=[.ref a]) (h₀:=X.base) I.ok.mod.kin i.kp (thn (ha pos U D n G _ p q) fun us s2 ⟨vs,H2,v,r,L⟩=>⟨v.kIn,?_⟩) z A;exact Zsl (us:=.ref a::us) (vs:=.ref a::vs) F (w.mono y) b hx v (.cons rfl r) L
end
theorem Yz.mf1{P:Program}{w:World}{K:#[7]}{mg:Str→Option Value}{base:Heap}{C:Addr}{m c:Str}{st:Stmt}{N ps:List Str}{k:Nat}{sp:Sp}(T:Yz K C m c st ps)(S:Zp N ps (Zg st))(len:∀vs H Q E,sp vs H Q E→vs.length=ps.length)
  (d:∀ (a:Value) (f:Addr) (A:Around) (outer:List Env) (s:Shared) (H:Hp) (vs:List V) (Q:VK) (E:XK),Y4 k (A.deeper (envOfC c (Zg st) s.heap.objs.size f a))→sp vs H Q E →
   ∃t,PSs (cx1 P w K mg base N c (Zg st) f a A outer s H E) (Zm st) t∧t { nx:=fun _ e=>Q .non e,rt:=Q } (Xs N vs) H):M1f P w K mg base (k+1) C m ps sp:=by
 obtain⟨f,g,F,m,b⟩:=T.ex;exact⟨f,g,F.ok1 S len (fun a A outer s H vs Q E i h=>d a f A outer s H vs Q E i h),m,b⟩
def Zpd:V→List V→Hp→VK→Prop:=fun x vs H Q=>∃ (l:Addr) (ns:List Bool) (b:Bool) (j:Nat),x=.ref l∧vs=[.bl b]∧H l=some (.lst (ns.map V.bl))∧ns.length≤1000∧ns[j]? = some b∧(∀m,m<j→ns[m]?≠some b)∧Q (.int (j:Int)) H
theorem ZqP{X:Cx}:MtM X "list.index" Zpd:=by
 intro U s σ H x vs v us Q I w A h;obtain⟨l,f,b,j,rfl,rfl,B,aw,o,C,q⟩:=h;cases w;obtain⟨u,rfl,D⟩:=A.one;obtain rfl:=D;obtain⟨z,its,E,r,hl,e⟩:=I.lstM B;have aU:its.length=f.length:=by have:=r.length;rw[Qa]at this;lia
 have a:∀ {m:Nat} {y:Value},its[m]? = some y→∃c,f[m]? = some c∧y=.bool c:=fun {m y} d=>by
  have g:m<f.length:=by have:=(Qd.mp d).1;lia
  have G:(f.map V.bl)[m]? = some (V.bl f[m]):=by rw[Qk,Qb g];rfl
  obtain⟨y',p,J⟩:=r.get G;rw[d]at p;cases p;exact⟨_,Qb g,J⟩
 have t:j<its.length:=by have:=(Qd.mp o).1;lia
 refine call_meets F.slot_list_index ⟨_,e,rfl⟩ F.entry_list_index (F.args_list_index_2 _ _) (SeqAt.list_indexAt l its.toArray E _ _ (.bool b) (isBoolOf b) j (by simpa using t) #[2] ?_ ?_) ⟨e,?_,?_⟩
 ·obtain⟨c,i,k⟩:=a (Qb t);rw[o]at i;cases i;show isBoolOf b (its[j])=true;rw[k];cases b<;>rfl
 ·intro m d K;have g:m<its.length:=by simpa using d
  obtain⟨c,i,k⟩:=a (Qb g);have n:c≠b:=fun z=>C m K (by rw[i,z]);show isBoolOf b (its[m])=false;rw[k];revert n;cases b<;>cases c<;>intro n<;>first|rfl|exact absurd rfl n
 ·intro y L;obtain⟨m,d⟩:=Q9.mp (List.mem_toArray.mp L);obtain⟨c,_,rfl⟩:=a d;exact SeqAt.EqAt.bool_bool _ _
 ·exact⟨.int _,H,I.tok _,⟨_,rfl⟩,q⟩
end L2
set_option maxHeartbeats 9000000
namespace My
open PySem L2 PyProof.Rows
noncomputable abbrev Yo:=@List.tail Stmt
noncomputable abbrev Yn(x:List Stmt):=Yo (Yo x)
noncomputable abbrev Ym(x:List Stmt):=Yn (Yn x)
noncomputable abbrev YL(x:List Stmt):=Ym (Ym x)
noncomputable abbrev Zt16(x:List Stmt):=YL (YL x)
noncomputable abbrev Zt32(x:List Stmt):=Zt16 (Zt16 x)
local macro_rules|`(‹$i:num›)=>`(@pv _ $i _ _ (by rfl) (Or.inl rfl) (by decide) (by decide))
local macro_rules|`(tactic|trivial)=>`(tactic|first|exact .inl rfl|exact .inr rfl|decide|exact Nat.le_refl _|lia)
local macro_rules
|`(#[Xns,$a,$b,$c])=>`(PySem.W.nsIn $a mainGlobals $b=some (some (.ref $c)))
|`(#[Xfi,$a,$b,$c,$d])=>`(PySem.W.findIn $a (.ref $b) $c=some (some (.ref $d)))
|`(#[Xlk,$z,$a,$b,$c,$d,$e,$f,$g,$h,$i,$j,$k,$l,$m])=>`(($z).lookup $a=some ⟨$b,$c,.func (PySem.W.fnOf $d $e (Zq $f) (Zm $f) (Zg $f) .none $g $h $i $j $k $l),$m⟩)
|`(#[Xci,$a,$b,$c])=>`(PySem.W.codeIn $a $b $c=true)
|`(#[Xki,$a,$b])=>`(PySem.W.keepIn $a (.ref $b)=true)
|`(#[Xif,$a,$b])=>`(PySem.W.isFn $a (.ref $b)=true)
|`(#[Zf,$a,$b])=>`(@Zf _ _ _ _ _ $a $b)
|`(#[Zx,$a,$b,$c,$d])=>`(@Zx _ _ $a _ _ _ _ $b rfl $c $d (by rfl) (by trivial))
|`(#[ZJ,$a,$b,$c])=>`(@ZJ _ _ _ _ _ _ _ _ $a $b $c)
|`(#[Zj])=>`(@Zj _ _ _ _)
|`(#[Zi,$a])=>`(@Zi _ _ _ $a)
|`(#[Zo,$a])=>`(@Zo _ _ _ _ $a)
|`(#[Xn,$a,$b,$c])=>`(@Xn _ _ _ _ _ _ _ _ $a $b $c)
|`(#[Zn,$a,$b,$c,$d])=>`(@Zn _ _ _ _ _ _ _ _ $a $b $c $d)
|`(#[Zk,$a,$b,$c,$d,$e])=>`(@Zk _ _ _ _ _ _ _ _ _ $a $b $c $d $e (by decide) (by decide) (by rfl) (by rfl))
|`(#[Za,$a,$b])=>`(@Za _ _ _ _ _ $a $b (by rfl))
|`(#[Zd])=>`(@Zd _)
|`(#[Zr,$a,$b,$c])=>`(@Zr _ _ _ _ _ _ _ $a $b $c (fun _ _=>rfl))
|`(#[Z2,$a])=>`(@Z2 _ _ _ _ $a)
|`(#[W4,$a,$b,$c,$d])=>`(@W4 _ _ _ _ _ _ _ _ _ $a (by rfl) $b $c $d (by decide) (by decide) (by rfl) (by rfl))
|`(#[WI,$a,$b,$c,$d])=>`(@WI _ _ _ _ _ _ _ _ $a $b $c $d)
|`(#[Z6,$a,$b])=>`(@Z6 _ _ _ _ _ _ $a $b (by rfl) (by rfl) (by rfl))
|`(#[Yt,$a,$b,$c])=>`(@Yt _ _ _ _ _ _ _ $a $b $c (by intro _;rfl))
|`(#[ZO,$a,$b,$c])=>`(@ZO _ _ _ _ _ _ _ _ $a $b $c)
|`(#[ZE])=>`(@ZE _)
|`(#[Zw,$a,$b,$c,$d])=>`(@Zw _ _ _ _ _ _ _ _ _ _ _ $a $b $c (by trivial) $d (by decide) (by rfl) (by rfl))
|`(#[Zs])=>`(@Zs _ _ _ _)
|`(#[WY,$a,$b,$c,$d,$e])=>`(@WY _ _ _ _ _ _ _ _ _ _ _ _ _ _ $a rfl rfl rfl $b $c $d $e (by intro _;rfl))
|`(#[W7,$a,$b])=>`(@W7 _ _ _ _ _ _ rfl $a $b (by rfl))
|`(#[pv,$a,$b])=>`(@pv _ $a _ _ (by rfl) $b (by decide) (by decide))
|`(#[cg,$a,$b])=>`(@cg _ _ _ _ _ _ _ _ _ _ _ $a $b rfl (by ac_rfl) (by rfl))
|`(#[cv,$a,$b])=>`(@cv _ _ _ _ _ _ _ _ _ _ _ $a $b rfl (by ac_rfl) (by rfl) (by decide) (by decide))
|`(#[XO,$a,$b,$c,$d,$e,$f])=>`(@XO _ _ _ _ _ _ _ _ _ _ _ _ $a $b $c $d $e $f (by rfl) (by rfl) (by rfl) (by rfl) (by rfl))
|`(#[Xu,$a,$b])=>`(@Xu _ _ _ _ _ _ _ $a $b)
|`(#[Xi,$a])=>`(@Xi _ _ _ _ $a)
|`(#[Yi,$a])=>`(@Yi _ _ _ $a (by intro _;rfl))
|`(#[YU,$a])=>`(@YU _ _ _ _ _ $a)
|`(#[X1,$a,$b])=>`(@X1 _ _ _ _ $a $b (by rfl) (by decide) (by decide))
|`(#[Xh,$a,$b])=>`(@Xh _ _ _ _ _ _ _ $a $b)
|`(#[Xa,$a])=>`(@Xa _ _ _ _ $a)
|`(#[Yd])=>`(@Yd _ _ _ _)
|`(#[Wt,$a,$b])=>`(@Wt _ _ _ _ _ _ _ $a $b)
|`(#[gT,$a,$b,$c])=>`(@gT _ $a _ _ _ $b _ $c (by rfl) (by rfl) (by rfl) (by rfl))
|`(#[ZC,$a,$b])=>`(@ZC _ _ _ _ _ $a $b (by rfl))
|`(#[cw,$a,$b])=>`(@cw _ _ _ _ _ _ _ _ _ _ _ $a $b rfl (by ac_rfl) (by rfl) (by decide) (by decide))
|`(#[ZT])=>`(@ZT _ _ _)
|`(#[Ya,$a,$b,$c,$d])=>`(@Ya _ _ _ _ _ _ _ _ $a rfl $b $c $d (by intro _;rfl))
|`(#[ZD,$a,$b,$c])=>`(@ZD _ _ $a _ $b rfl $c (by trivial))
|`(#[YD,$a])=>`(@YD _ _ _ _ $a (by rfl))
|`(#[iE,$a,$b,$c])=>`(@iE _ $a _ _ _ _ _ _ _ $b $c (by rfl) (by rfl) (by rfl))
|`(#[VU,$a,$b,$c,$d])=>`(@VU _ _ _ _ _ _ _ _ _ _ $a $b $c $d)
|`(#[ZQ,$a])=>`(@ZQ _ _ _ _ _ $a (by rfl))
|`(#[YN,$a,$b,$c,$d])=>`(@YN _ _ _ _ _ _ _ _ _ _ _ _ $a $b $c $d (by trivial) (by rfl))
|`(#[XD,$a,$b])=>`(@XD _ _ _ _ _ _ _ _ $a $b (by rfl))
|`(#[iL,$a,$b])=>`(@iL _ $a _ _ _ $b (by rfl))
|`(#[V4,$a,$b,$c,$d])=>`(@V4 _ _ $a $b _ _ _ _ _ _ _ _ _ _ _ rfl $c rfl rfl (by decide) rfl rfl $d rfl (by rfl))
|`(#[VO,$a,$b,$c])=>`(@VO _ _ _ _ _ _ _ _ _ $a $b $c)
|`(#[Yy])=>`(@Yy _ _)
|`(#[VZ,$a,$b,$c])=>`(@VZ _ _ _ _ _ _ _ _ _ _ $a $b $c)
|`(#[Xx,$a,$b,$c,$d,$e])=>`(@Xx _ _ _ _ _ _ _ _ _ _ _ _ _ _ _ $a $b $c $d $e (by trivial) (by rfl) (by rfl) (by rfl))
|`(#[UK,$a,$b,$c])=>`(@UK _ _ _ _ _ _ _ _ _ _ _ _ $a $b $c (by trivial) (by rfl) (by decide) (by rfl) (by rfl))
|`(#[XR,$a])=>`(@XR _ _ _ _ $a)
|`(#[Vk,$a,$b,$c,$d,$e,$f])=>`(@Vk _ _ _ _ _ _ _ _ _ _ _ _ _ _ _ _ $a $b $c $d $e $f (by trivial) (by rfl) (by rfl) (by rfl))
|`(#[Xd,$a,$b])=>`(@Xd _ _ _ _ _ $a $b)
|`(#[Vl,$a])=>`(@Vl _ _ _ _ $a (by rfl) (by decide))
noncomputable def hdS:List Stmt→Stmt
 | a::_=>a
 | []=>.Pass ⟨0,0,0,0⟩
noncomputable abbrev YZ:List Stmt:=PySem.Challenge.pw_mergetree_k19_rows_that_go.main.body
noncomputable abbrev RO:Stmt:=hdS (Zt16 (Ym (Yo YZ)))
noncomputable abbrev X7:Stmt:=hdS (Zt16 (Ym (Yn YZ)))
noncomputable abbrev RN:Stmt:=hdS (YL YZ)
noncomputable abbrev RM:Stmt:=hdS (YL (Yo YZ))
noncomputable abbrev RL:Stmt:=hdS (YL (Yn (Yo YZ)))
noncomputable abbrev RK:Stmt:=hdS (YL (Ym YZ))
noncomputable abbrev RJ:Stmt:=hdS (YL (Ym (Yo YZ)))
noncomputable abbrev RI:Stmt:=hdS (YL (Ym (Yn YZ)))
noncomputable abbrev RH:Stmt:=hdS (YL (Ym (Yn (Yo YZ))))
noncomputable abbrev RG:Stmt:=hdS (Zt16 (Yo YZ))
noncomputable abbrev RF:Stmt:=hdS (Zt16 (Yn YZ))
noncomputable abbrev RE:Stmt:=hdS (Zt16 (Ym (Yn (Yo YZ))))
noncomputable abbrev RD:Stmt:=hdS (Zt16 (YL YZ))
noncomputable abbrev RC:Stmt:=hdS (Zt16 (YL (Yn YZ)))
noncomputable abbrev RB:Stmt:=hdS (Zt16 (YL (Yn (Yo YZ))))
noncomputable abbrev RA:Stmt:=hdS (Zt16 (YL (Ym YZ)))
noncomputable abbrev Tw:Stmt:=hdS (Zt16 (YL (Ym (Yo YZ))))
noncomputable abbrev Tv:Stmt:=hdS (Zt16 (YL (Ym (Yn YZ))))
noncomputable abbrev Rz:Stmt:=hdS (Zt16 (YL (Ym (Yn (Yo YZ)))))
noncomputable abbrev Rx:Stmt:=hdS (Zt32 YZ)
noncomputable abbrev Rw:Stmt:=hdS (Zt32 (Yo YZ))
noncomputable abbrev Tu:Stmt:=hdS (Zt32 (Yn YZ))
noncomputable abbrev Rv:Stmt:=hdS (Zt32 (Yn (Yo YZ)))
noncomputable abbrev Ru:Stmt:=hdS (Zt32 (Ym YZ))
noncomputable abbrev Tt:Stmt:=hdS (Zt32 (Ym (Yo YZ)))
noncomputable abbrev Ts:Stmt:=hdS (Zt32 (Ym (Yn YZ)))
noncomputable abbrev Rt:Stmt:=hdS (Zt32 (Ym (Yn (Yo YZ))))
noncomputable abbrev Rs:Stmt:=hdS (Zt32 (YL YZ))
noncomputable abbrev Rr:Stmt:=hdS (Zt32 (YL (Yo YZ)))
noncomputable abbrev Rq:Stmt:=hdS (Zt32 (YL (Yn YZ)))
noncomputable abbrev Rp:Stmt:=hdS (Zt32 (YL (Yn (Yo YZ))))
noncomputable abbrev Ro:Stmt:=hdS (Zt32 (YL (Ym YZ)))
noncomputable abbrev Rm:Stmt:=hdS (Zt32 (YL (Ym (Yo YZ))))
noncomputable abbrev Tr:Stmt:=hdS (Zt32 (YL (Ym (Yn YZ))))
noncomputable abbrev Rl:Stmt:=hdS (Zt32 (YL (Ym (Yn (Yo YZ)))))
noncomputable abbrev Rk:Stmt:=hdS (Zt32 (Zt16 YZ))
noncomputable abbrev Rj:Stmt:=hdS (Zt32 (Zt16 (Yo YZ)))
noncomputable abbrev Wj:Stmt:=hdS (Zt32 (Zt16 (Yn YZ)))
noncomputable abbrev UG:Stmt:=Yh RO 0
noncomputable abbrev UF:Stmt:=Yh RO 2
noncomputable abbrev UE:Stmt:=Yh RO 3
noncomputable abbrev UD:Stmt:=Yh X7 0
noncomputable abbrev UC:Stmt:=Yh X7 1
noncomputable abbrev UB:Stmt:=Yh X7 2
noncomputable abbrev Z8:Stmt:=Yh X7 3
noncomputable abbrev Vj:Stmt:=Yh X7 4
noncomputable abbrev Vi:Stmt:=Yh X7 5
noncomputable abbrev Z5:Stmt:=Yh X7 6
noncomputable abbrev UA:Stmt:=Yh X7 7
noncomputable abbrev Uz:Stmt:=Yh X7 9
noncomputable abbrev Z7:Stmt:=Yh X7 10
noncomputable abbrev Uy:Stmt:=Yh X7 11
noncomputable abbrev Ux:Stmt:=Yh X7 12
noncomputable abbrev Uw:Stmt:=Yh X7 13
noncomputable abbrev Uv:Stmt:=Yh X7 14
noncomputable abbrev Uu:Stmt:=Yh X7 15
noncomputable abbrev ZY:Stmt:=Yh X7 16
noncomputable abbrev Ut:Stmt:=Yh X7 17
theorem MW:Zp ["_law_cell", "_law_k", "_law_m"] ["_law_cell", "_law_k"] (Zg RC):=#[0]
theorem MV:Zp ["_law_script", "_law_k", "_law_cell"] ["_law_script", "_law_k"] (Zg RB):=#[0]
theorem MU:Zp ["_law_left_here", "_law_many_here", "_law_digit"] ["_law_left_here", "_law_many_here"] (Zg RA):=#[0]
theorem MT:Zp ["_law_left_here", "_law_some"] ["_law_left_here"] (Zg Tw):=#[0]
theorem MR:Zp ["_law_left_here", "_law_stems_here", "_law_tail"] ["_law_left_here", "_law_stems_here"] (Zg Tv):=#[0]
theorem Ri:Zp ["one", "other", "far", "at"] ["one", "other", "far"] (Zg RI):=#[0]
theorem ZnU:Zp ["one", "other"] ["one", "other"] (Zg RL):=#[0]
theorem Rh:Zp ["_law_one", "_law_other", "_law_far"] ["_law_one", "_law_other"] (Zg Rv):=#[0]
theorem MQ:Zp ["_law_found", "_law_due"] ["_law_found", "_law_due"] (Zg Ts):=#[0]
theorem Us:Zp ["_law_left_here", "_law_stems_here", "_law_most", "_law_found", "_law_k", "_law_key_here"] ["_law_left_here", "_law_stems_here", "_law_most"] (Zg Rz):=#[0]
theorem Tq:Zp ["row", "told", "place", "key"] ["row"] (Zg RF):=#[0]
theorem ZiN:Zp ["one", "other", "at"] ["one", "other", "at"] (Zg RH):=#[0]
theorem Zm1:Zp ["one", "other"] ["one", "other"] (Zg RK):=#[0]
theorem MP:Zp ["one", "other", "far", "at"] ["one", "other", "far"] (Zg RJ):=#[0]
theorem MO:Zp ["keys", "place"] ["keys"] (Zg RG):=#[0]
theorem MN:Zp ["numbers", "middle"] ["numbers"] (Zg RN):=#[0]
theorem MM:Zp ["_law_numbers", "_law_cut"] ["_law_numbers"] (Zg Ru):=#[0]
theorem ML:Zp ["_law_left_here", "_law_way_here"] ["_law_left_here"] (Zg Rw):=#[0]
theorem ZiC:Zp ["self"] ["self"] (Zg UF):=#[0]
theorem ZiW:Zp ["self"] ["self"] (Zg UE):=#[0]
theorem ZiS:Zp ["self", "keys"] ["self", "keys"] (Zg UG):=#[0]
theorem Rg:Zp ["self", "rows", "number", "keys"] ["self", "rows"] (Zg UD):=#[0]
theorem MK:Zp ["self", "row"] ["self"] (Zg UC):=#[0]
theorem Zg0:Zp ["self"] ["self"] (Zg Vj):=#[0]
theorem Zgg:Zp ["self"] ["self"] (Zg Vi):=#[0]
theorem ZeN:Zp ["self"] ["self"] (Zg Z5):=#[0]
theorem Zgm:Zp ["self"] ["self"] (Zg UA):=#[0]
theorem ZeY:Zp ["self"] ["self"] (Zg Uw):=#[0]
theorem WE:Zp ["self", "numbers", "first_side", "other_side", "one", "other", "winner", "loser", "far"] ["self", "numbers"] (Zg Uv):=#[0]
theorem Tp:Zp ["self", "one", "other", "far", "order", "alike_far", "seen"] ["self", "one", "other", "far"] (Zg Ut):=#[0]
theorem MJ:Zp ["number", "keys", "place"] ["number", "keys"] (Zg RE):=#[0]
theorem ZnP:Zp ["_law_left_here", "_law_stems_here", "_law_most"] ["_law_left_here", "_law_stems_here", "_law_most"] (Zg Rx):=#[0]
theorem Rf:Zp ["_law_left_here", "_law_stems_here", "_law_most"] ["_law_left_here"] (Zg Tu):=#[0]
theorem MI:Zp ["_law_heads_here", "_law_numbers", "_law_some"] ["_law_heads_here", "_law_numbers"] (Zg Tt):=#[0]
theorem To:Zp ["_law_rows_here", "_law_own", "_law_n", "_law_row_here"] ["_law_rows_here"] (Zg Rt):=#[0]
theorem Rc:Zp ["_law_own", "_law_heads_here", "_law_n"] ["_law_own"] (Zg Rs):=#[0]
theorem Vh:Zp ["_law_heads_here", "_law_numbers", "_law_one", "_law_other", "_law_here", "_law_there", "_law_a", "_law_b"] ["_law_heads_here", "_law_numbers"] (Zg Rr):=#[0]
theorem Tn:Zp ["_law_own", "_law_heads_here", "_law_likenings", "_law_looks"] ["_law_own"] (Zg Rq):=#[0]
theorem P9:Zp ["_law_own", "_law_heads_here", "_law_n"] ["_law_own"] (Zg Ro):=#[0]
theorem Zh5:Zp ["_law_own"] ["_law_own"] (Zg Tr):=#[0]
theorem Tl:Zp ["_law_merge", "_law_own", "_law_heads_here", "_law_so_far", "_law_told"] ["_law_merge", "_law_own"] (Zg Rl):=#[0]
theorem MH:Zp ["self", "thing"] ["self"] (Zg UB):=#[0]
theorem MG:Zp ["self", "many", "things"] ["self", "many"] (Zg Z8):=#[0]
theorem Ur:Zp ["self", "number", "row", "comer", "meeting"] ["self", "number"] (Zg Uu):=#[0]
theorem Uq:Zp ["self", "meeting", "comer", "stayer", "winner", "loser", "far"] ["self", "meeting", "comer"] (Zg ZY):=#[0]
theorem VL:Zp ["numbers", "n", "matches", "least", "greatest", "others"] ["numbers", "n"] (Zg RD):=#[0]
theorem VJ:Zp ["numbers", "n", "others", "side", "first", "rest"] ["numbers", "n"] (Zg RM):=#[0]
theorem Vg:Zp ["_law_numbers", "_law_n", "_law_some", "_law_way_here", "_law_one", "_law_other"] ["_law_numbers", "_law_n"] (Zg Rp):=#[0]
theorem WX:Zp ["_law_own", "_law_thing", "_law_n", "_law_place", "_law_key_here", "_law_heads_here", "_law_here", "_law_there", "_law_a", "_law_b", "_law_far"] ["_law_own"] (Zg Rm):=#[0]
theorem MF:Zp ["self", "row", "number"] ["self", "row"] (Zg Uz):=#[0]
theorem ME:Zp ["self", "n"] ["self", "n"] (Zg Ux):=#[0]
theorem Tj:Zp ["self", "n", "many"] ["self", "n"] (Zg Z7):=#[0]
theorem MD:Zp ["self", "n", "keys", "row", "sent_nothing"] ["self", "n", "keys"] (Zg Uy):=#[0]
theorem Vf:Zp ["_law_merge", "_law_own", "_law_deed", "_law_word", "_law_n", "_law_keys_here", "_law_kept", "_law_many_here", "_law_sent_none"] ["_law_merge", "_law_own", "_law_deed"] (Zg Rj):=#[0]
theorem Up:Zp ["_law_ask", "_law_merge", "_law_given", "_law_more", "_law_caught", "error", "_law_some"] ["_law_ask", "_law_merge", "_law_given", "_law_more"] (Zg Rk):=#[0]
theorem Xw:Zp ["_law_script", "_law_k", "_law_left_here", "_law_rows_here", "_law_own", "_law_merge", "_law_turn", "_law_again", "_law_numbers", "_law_n"] ["_law_script"] (Zg Wj):=#[0]
noncomputable abbrev zsc(l:List (Str×NameKind)):Scope:={ kind:=.function,names:=l,isGenerator:=false,isCoroutine:=false,more:=[] }
noncomputable def ZoM:Scope:=zsc [(".0",.«local»),("_law_k",.«local»),("_law_pick",.globalImplicit),("_law_left_here",.free),("_law_some",.free)]
theorem Uo:YH ["_law_left_here", "_law_some"] ["_law_left_here", "_law_some", "_law_k"] (Zg Tw) ZoM:=⟨rfl,rfl,by ac_rfl,by ac_rfl,by ac_rfl,by decide,by ac_rfl,by ac_rfl⟩
noncomputable def Zpt:Scope:=zsc [(".0",.«local»),("_law_k",.«local»),("_law_pick",.globalImplicit),("_law_left_here",.free)]
theorem Ti:YH ["_law_left_here", "_law_stems_here", "_law_tail"] ["_law_left_here", "_law_stems_here", "_law_tail", "_law_k"] (Zg Tv) Zpt:=⟨rfl,rfl,by ac_rfl,by ac_rfl,by ac_rfl,by decide,by ac_rfl,by ac_rfl⟩
noncomputable def Zo8:Scope:=zsc [(".0",.«local»),("_law_one",.«local»),("_law_other",.«local»),("_law_same",.globalImplicit)]
theorem Ve:YH ["_law_found", "_law_due"] ["_law_found", "_law_due", "_law_one", "_law_other"] (Zg Ts) Zo8:=⟨rfl,rfl,by ac_rfl,by ac_rfl,by ac_rfl,by decide,by ac_rfl,by ac_rfl⟩
noncomputable def Zob:Scope:=zsc [(".0",.«local»),("row",.«local»)]
theorem P7:YH ["self"] ["self", "row"] (Zg Vj) Zob:=⟨rfl,rfl,by ac_rfl,by ac_rfl,by ac_rfl,by decide,by ac_rfl,by ac_rfl⟩
noncomputable def ZoE:Scope:=zsc [(".0",.«local»),("number",.«local»),("row",.«local»)]
theorem Um:YH ["self"] ["self", "number", "row"] (Zg Vi) ZoE:=⟨rfl,rfl,by ac_rfl,by ac_rfl,by ac_rfl,by decide,by ac_rfl,by ac_rfl⟩
noncomputable def ZoJ:Scope:=zsc [(".0",.«local»),("_law_k",.«local»),("_law_row",.globalImplicit),("_law_left_here",.free),("_law_most",.free),("_law_stems_here",.free)]
theorem Vd:YH ["_law_left_here", "_law_stems_here", "_law_most"] ["_law_left_here", "_law_stems_here", "_law_most", "_law_k"] (Zg Tu) ZoJ:=⟨rfl,rfl,by ac_rfl,by ac_rfl,by ac_rfl,by decide,by ac_rfl,by ac_rfl⟩
noncomputable def Zo0:Scope:=zsc [(".0",.«local»),("_law_n",.«local»),("_law_heads_here",.free)]
theorem VI:YH ["_law_heads_here", "_law_numbers", "_law_some"] ["_law_heads_here", "_law_numbers", "_law_some", "_law_n"] (Zg Tt) Zo0:=⟨rfl,rfl,by ac_rfl,by ac_rfl,by ac_rfl,by decide,by ac_rfl,by ac_rfl⟩
noncomputable def Zpi:Scope:=zsc [(".0",.«local»),("_law_n",.«local»),("len",.globalImplicit),("_law_own",.free)]
theorem VH:YH ["_law_own"] ["_law_own", "_law_n"] (Zg Tr) Zpi:=⟨rfl,rfl,by ac_rfl,by ac_rfl,by ac_rfl,by decide,by ac_rfl,by ac_rfl⟩
noncomputable def ZoK:Scope:=zsc [(".0",.«local»),("_law_ask",.«local»),("_law_refused",.globalImplicit),("_law_merge",.free)]
theorem Ul:YH ["_law_script", "_law_k", "_law_left_here", "_law_rows_here", "_law_own", "_law_merge", "_law_turn", "_law_again", "_law_numbers", "_law_n"] ["_law_script", "_law_k", "_law_left_here", "_law_rows_here", "_law_own", "_law_merge", "_law_turn", "_law_again", "_law_numbers", "_law_n", "_law_ask"] (Zg Wj) ZoK:=⟨rfl,rfl,by ac_rfl,by ac_rfl,by ac_rfl,by decide,by ac_rfl,by ac_rfl⟩
structure Bt (mg:Str→Option Value):Prop where
 n_ValueError:mg "ValueError" = none
 n_abs:mg "abs" = none
 n_all:mg "all" = none
 n_bool:mg "bool" = none
 n_enumerate:mg "enumerate" = none
 n_int:mg "int" = none
 n_isinstance:mg "isinstance" = none
 n_len:mg "len" = none
 n_list:mg "list" = none
 n_max:mg "max" = none
 n_min:mg "min" = none
 n_range:mg "range" = none
 n_sorted:mg "sorted" = none
 n_str:mg "str" = none
 n_sum:mg "sum" = none
 n_tuple:mg "tuple" = none
 n_zip:mg "zip" = none
structure Z9 (K:#[7]) (mg:Str→Option Value) (ah:Addr) (aa:Addr) (ae:Addr) (al:Addr) (aj:Addr) (af:Addr) (ak:Addr):Prop where
 b:Bt mg
 t_halves:Top K mg "halves" RN ["numbers"]
 t_way_up:Top K mg "way_up" RM ["numbers", "n"]
 t_alike:Top K mg "alike" RL ["one", "other"]
 t_liken:Top K mg "liken" RK ["one", "other"]
 t_liken_from:Top K mg "liken_from" RJ ["one", "other", "far"]
 t_alike_from:Top K mg "alike_from" RI ["one", "other", "far"]
 t_order_at:Top K mg "order_at" RH ["one", "other", "at"]
 t_first_break:Top K mg "first_break" RG ["keys"]
 t_alikes:Top K mg "alikes" RF ["row"]
 t_refuse_break:Top K mg "refuse_break" RE ["number", "keys"]
 t_matches_up:Top K mg "matches_up" RD ["numbers", "n"]
 t_l_mix:Top K mg "_law_mix" RC ["_law_cell", "_law_k"]
 t_l_left:Top K mg "_law_left" RB ["_law_script", "_law_k"]
 t_l_pick:Top K mg "_law_pick" RA ["_law_left_here", "_law_many_here"]
 t_l_stems:Top K mg "_law_stems" Tw ["_law_left_here"]
 t_l_key:Top K mg "_law_key" Tv ["_law_left_here", "_law_stems_here"]
 t_l_keys:Top K mg "_law_keys" Rz ["_law_left_here", "_law_stems_here", "_law_most"]
 t_l_row:Top K mg "_law_row" Rx ["_law_left_here", "_law_stems_here", "_law_most"]
 t_l_many:Top K mg "_law_many" Rw ["_law_left_here"]
 t_l_rows:Top K mg "_law_rows" Tu ["_law_left_here"]
 t_l_alike:Top K mg "_law_alike" Rv ["_law_one", "_law_other"]
 t_l_halves:Top K mg "_law_halves" Ru ["_law_numbers"]
 t_l_least:Top K mg "_law_least" Tt ["_law_heads_here", "_law_numbers"]
 t_l_same:Top K mg "_law_same" Ts ["_law_found", "_law_due"]
 t_l_world:Top K mg "_law_world" Rt ["_law_rows_here"]
 t_l_heads:Top K mg "_law_heads" Rs ["_law_own"]
 t_l_first_play:Top K mg "_law_first_play" Rr ["_law_heads_here", "_law_numbers"]
 t_l_play:Top K mg "_law_play" Rq ["_law_own"]
 t_l_way:Top K mg "_law_way" Rp ["_law_numbers", "_law_n"]
 t_l_coming:Top K mg "_law_coming" Ro ["_law_own"]
 t_l_taken:Top K mg "_law_taken" Rm ["_law_own"]
 t_l_left_of:Top K mg "_law_left_of" Tr ["_law_own"]
 t_l_stands:Top K mg "_law_stands" Rl ["_law_merge", "_law_own"]
 t_l_refused:Top K mg "_law_refused" Rk ["_law_ask", "_law_merge", "_law_given", "_law_more"]
 t_l_done:Top K mg "_law_done" Rj ["_law_merge", "_law_own", "_law_deed"]
 t_Row_init:TF K mg ah "Row" "Row.__init__" UG ["self", "keys"]
 t_Row_to_go:Yz K ah "to_go" "Row.to_go" UF ["self"]
 t_Row_head:Yz K ah "head" "Row.head" UE ["self"]
 t_Merge_init:TF K mg aa "Merge" "Merge.__init__" UD ["self", "rows"]
 t_Merge_coming:Yz K aa "coming" "Merge.coming" UC ["self"]
 t_Merge_take:Yz K aa "take" "Merge.take" UB ["self"]
 t_Merge_take_few:Yz K aa "take_few" "Merge.take_few" Z8 ["self", "many"]
 t_Merge_left:Yz K aa "left" "Merge.left" Vj ["self"]
 t_Merge_heads:Yz K aa "heads" "Merge.heads" Vi ["self"]
 t_Merge_likenings:Yz K aa "likenings" "Merge.likenings" Z5 ["self"]
 t_Merge_looks:Yz K aa "looks" "Merge.looks" UA ["self"]
 t_Merge_add_row:Yz K aa "add_row" "Merge.add_row" Uz ["self", "row"]
 t_Merge_drop_row:Yz K aa "drop_row" "Merge.drop_row" Z7 ["self", "n"]
 t_Merge_grow:Yz K aa "grow" "Merge.grow" Uy ["self", "n", "keys"]
 t_Merge_row_of:Yz K aa "row_of" "Merge.row_of" Ux ["self", "n"]
 t_Merge_play_all:Yz K aa "play_all" "Merge.play_all" Uw ["self"]
 t_Merge_play:Yz K aa "play" "Merge.play" Uv ["self", "numbers"]
 t_Merge_send_out:Yz K aa "send_out" "Merge.send_out" Uu ["self", "number"]
 t_Merge_play_again:Yz K aa "play_again" "Merge.play_again" ZY ["self", "meeting", "comer"]
 t_Merge_meet:Yz K aa "meet" "Merge.meet" Ut ["self", "one", "other", "far"]
 cl_Row:Cls K ah
 na_Row_all_keys:X3 K ah "all_keys"
 na_Row_fars:X3 K ah "fars"
 na_Row_gone:X3 K ah "gone"
 cl_Merge:Cls K aa
 na_Merge_best:X3 K aa "best"
 na_Merge_likened:X3 K aa "likened"
 na_Merge_looked:X3 K aa "looked"
 na_Merge_next_number:X3 K aa "next_number"
 na_Merge_rows:X3 K aa "rows"
 na_Merge_stays:X3 K aa "stays"
 g_MOST_ROWS:∃tk,mg "MOST_ROWS" = some (.int 16 tk)
 m_MergeError:mg "MergeError" = some (.ref ae)
 m_Full:mg "Full" = some (.ref al)
 m_NoRow:mg "NoRow" = some (.ref aj)
 m_OutOfOrder:mg "OutOfOrder" = some (.ref af)
 m_BadLine:mg "BadLine" = some (.ref ak)
 x_MergeError:Tx K ae XZ
 xw_NoRow:XW K mg aj ae "NoRow"
 xg_NoRow:XG K aj
 ki_NoRow_MergeError:PySem.W.kitOne K (.ref aj) (.ref ae)=some true
 ki_NoRow_Full:PySem.W.kitOne K (.ref aj) (.ref al)=some false
 ki_NoRow_NoRow:PySem.W.kitOne K (.ref aj) (.ref aj)=some true
 ki_NoRow_OutOfOrder:PySem.W.kitOne K (.ref aj) (.ref af)=some false
 ki_NoRow_BadLine:PySem.W.kitOne K (.ref aj) (.ref ak)=some false
 ki_NoRow_V:PySem.W.kitOne K (.ref aj) (.type "ValueError")=some true
 kg:PySem.W.specialIn K (.builtin "object.__class__") "__get__" = some (some (.builtin "getset_descriptor.__get__"))
 kt:PySem.W.takesIn K (.builtin "object.__class__")=some true
def Y3(H:Hp)(p:Addr)(c:Int):Prop:=∃a b:Int,H p=some (.lst [.int a,.int b,.int c])∧0≤c
def But(p:Addr)(H a:Hp):Prop:=∀b o,H b=some o→b≠p→a b=some o
theorem But.trans{p:Addr}{H d e:Hp}(a:But p H d)(b:But p d e):But p H e:=fun c o h n=>b c o (a c o h n) n
theorem But.same{p:Addr}{H b:Hp}(a:ZG H b):But p H b:=fun c o h _=>a c o h
theorem Zh{H:Hp}{p:Addr}(h:H p=none)(o:HO):ZG H (upd H p o):=fun b u q=>by rw[Zb (Ze q h)];exact q
theorem XY{n:Nat}(h:n≤1000):n≤sizeLine:=Qar (ZB h)
def P6:Sp:=fun vs H Q _=>∃a k:Int,vs=[.int a,.int k] ∧ -(2 ^ 62)<k∧k<2 ^ 62∧∀r:Int,0≤r→r<2000000000→Q (.int r) H
def MC(K:#[7]):Sp:=fun vs H Q _=>∃ (a:Addr) (ns:List Int) (k:Int),vs=[.ref a,.int k]∧SqL K H a (ns.map V.int)∧ns.length≤63∧0≤k∧k<100 ∧
 ∀ (p:Addr) (b:Hp),H p=none→Y3 b p 0→ZG H b→Q (.ref p) b
def VG:Sp:=fun vs H Q _=>∃ (p:Addr) (c m:Int),vs=[.ref p,.int m]∧Y3 H p c∧c<2 ^ 60∧0<m∧m<1000000 ∧
 ∀ (r:Int) (a:Hp),0≤r→r<m→Y3 a p (c+1)→But p H a→Q (.int r) a
theorem Zp0{ns:List Int}{k:Int}(h0:0≤k)(h:k<(ns.length:Int)):∃v:Int,atI (ns.map V.int) k=some (.int v):=by
 have a:k.toNat<ns.length:=by lia
 have b:k=((k.toNat:Nat):Int):=by lia
 have q:atI (ns.map V.int) ((k.toNat:Nat):Int)=some (.int ns[k.toNat]):=Yr (by rw[Qk,Qb a]<;>rfl);rw[← b]at q;exact⟨_,q⟩
theorem P0{ss:List Str}{k:Int}(h0:0≤k)(h:k<(ss.length:Int)):∃s∈ss,atI (ss.map V.str) k=some (.str s):=by
 have a:k.toNat<ss.length:=by lia
 have b:k=((k.toNat:Nat):Int):=by lia
 have q:atI (ss.map V.str) ((k.toNat:Nat):Int)=some (.str ss[k.toNat]):=Yr (by rw[Qk,Qb a]<;>rfl);rw[← b]at q;exact⟨_,Q4 a,q⟩
theorem MB(b:Bool):-(2 ^ 64)<(if b=true then (1:Int) else 0)∧(if b=true then (1:Int) else 0)<2 ^ 64:=by cases b<;>decide
theorem VF{z:Str}{k:Int}(h0:0≤k)(h:k<(z.length:Int)):∃c:Nat,z.cps.toList[k.toNat]? = some c∧atI z.cps.toList k=some c:=by
 have hl:z.cps.toList.length=z.length:=by simp[Str.length]
 have a:k.toNat<z.cps.toList.length:=by lia
 have b:k=((k.toNat:Nat):Int):=by lia
 have q:atI z.cps.toList ((k.toNat:Nat):Int)=some z.cps.toList[k.toNat]:=Yr (Qb a);rw[← b]at q;exact⟨_,Qb a,q⟩
theorem ZnM(sep:Str)(ys:List Str):(Txt.join sep ys).length≤(ys.map (·.length)).sum+ys.length*sep.length:=by
 have e:Txt.join sep ys=Str.join sep ys:=by simpa using join_plain_closes sep ys
 rw[e];exact StrLaws.join_length_le sep ys
theorem MA:∀ss:List Str,(∀s∈ss,s.length≤1)→(ss.map (·.length)).sum≤ss.length
 | [],_=>Qg _
 | s::r,h=>by have h1:=h s Q3;have h2:=MA r fun x a=>h x (Qx _ a);rw[Qh,List.sum_cons,QI];lia
noncomputable def lcp:List Nat→List Nat→Nat
 | a::r,b::s=>if a=b then lcp r s+1 else 0
 | _,_=>0
theorem Vc:∀ (x y:List Nat),lcp x y≤x.length∧lcp x y≤y.length
 | [],_=>⟨Qs _,Qs _⟩
 | _::_,[]=>⟨Qs _,Qs _⟩
 | a::r,b::s=>by
  have h:=Vc r s;unfold lcp;split
  ·exact⟨Nat.succ_le_succ h.1,Nat.succ_le_succ h.2⟩
  ·exact⟨Qs _,Qs _⟩
theorem VE:∀ (x y:List Nat),lcp x y=lcp y x
 | [],[]=>rfl
 | [],_::_=>rfl
 | _::_,[]=>rfl
 | a::r,b::s=>by
  unfold lcp;by_cases h:a=b
  ·rw[if_pos h,if_pos h.symm,VE r s]
  ·rw[if_neg h,if_neg fun e=>h e.symm]
theorem Mz:∀x:List Nat,lcp x x=x.length
 | []=>rfl
 | a::r=>by unfold lcp;rw[if_pos rfl,Mz r];rfl
theorem Vb(x:List Nat):lcp x []=0:=by cases x<;>rfl
theorem lcp_nil'(x:List Nat):lcp [] x=0:=by cases x<;>rfl
theorem PZ:∀ (x y:List Nat) (k:Nat),k≤lcp x y→∀a,x[k]? = some a→y[k]? = some a→k+1≤lcp x y
 | [],_,k,_,a,h,_=>by simp at h
 | _::_,[],k,_,a,_,h=>by simp at h
 | a::r,b::s,0,_,c,h1,h2=>by simp at h1 h2;unfold lcp;rw[if_pos (by rw[h1,h2])];lia
 | a::r,b::s,k+1,h,c,h1,h2=>by
  unfold lcp at h ⊢;by_cases e:a=b
  ·rw[if_pos e]at h ⊢;have:=PZ r s k #[2] c (by simpa using h1) (by simpa using h2);lia
  ·rw[if_neg e]at h;lia
theorem Mx:∀ (x y:List Nat) (k:Nat),k<lcp x y→x[k]? = y[k]?
 | [],_,k,h=>by unfold lcp at h;lia
 | _::_,[],k,h=>by unfold lcp at h;lia
 | a::r,b::s,0,h=>by
  unfold lcp at h;by_cases e:a=b
  ·simp[e]
  ·rw[if_neg e]at h;lia
 | a::r,b::s,k+1,h=>by
  unfold lcp at h;by_cases e:a=b
  ·rw[if_pos e]at h;simpa using Mx r s k #[2]
  ·rw[if_neg e]at h;lia
theorem Va(x y:List Nat)(k:Nat)(h:k≤lcp x y)(n:x.length≤k∨y.length≤k∨∃a b,x[k]? = some a∧y[k]? = some b∧a≠b):lcp x y=k:=by
 have l:=Vc x y;rcases n with n|n|⟨a,b,c,d,ne⟩
 ·lia
 ·lia
 ·by_cases q:k<lcp x y
  ·have:=Mx x y k q;rw[c,d]at this;exact absurd (Qj this) ne
  ·lia
theorem PY:∀ (x y z:List Nat),(lcp x y≤lcp x z∧lcp y z=lcp x y)∨(lcp x y≤lcp y z∧lcp x z=lcp x y)∨(lcp x z≤lcp x y∧lcp y z=lcp x z)
 | [],y,z=>.inr (.inl ⟨by rw[lcp_nil'];exact Qs _,by rw[lcp_nil',lcp_nil']⟩)
 | x,[],z=>.inl ⟨by rw[Vb];exact Qs _,by rw[Vb,lcp_nil']⟩
 | x,y,[]=>.inr (.inr ⟨by rw[Vb];exact Qs _,by rw[Vb,Vb]⟩)
 | a::r,b::s,c::t=>by
  have ih:=PY r s t;unfold lcp;by_cases f:a=b
  ·by_cases d:b=c
   ·rw[if_pos f,if_pos d,if_pos (f.trans d)];lia
   ·rw[if_pos f,if_neg d,if_neg fun e=>d (f.symm.trans e)];lia
  ·rw[if_neg f];by_cases d:b=c
   ·rw[if_pos d,if_neg fun e=>f (e.trans d.symm)];lia
   ·rw[if_neg d];lia
noncomputable abbrev cds(z:Str):List Nat:=z.cps.toList
def AZ(z:Str):Prop:=∀c∈cds z,97≤c∧c≤122
theorem ZoQ(x y:Str):cds (x++y)=cds x++cds y:=by show (x++y).cps.toList=_;rw[PySem.Str.cps_append];simp
theorem AZ.app{x y:Str}(a:AZ x)(b:AZ y):AZ (x++y):=fun c h=>by rw[ZoQ]at h;exact(Qo.mp h).elim (a c) (b c)
theorem AZ.nil:AZ "":=by unfold AZ cds;ac_rfl
theorem AZ.join:∀ys:List Str,(∀s∈ys,AZ s)→AZ (Str.join "" ys)
 | [],_=>fun c h=>by cases (show c∈([]:List Nat) from h)
 | [x],h=>h x #[4]
 | x::y::r,h=>((h x #[4]).app AZ.nil).app (AZ.join (y::r) fun s a=>h s (Qx _ a))
theorem AZ.joinT(ys:List Str)(h:∀s∈ys,AZ s):AZ (Txt.join "" ys):=by
 have e:Txt.join "" ys=Str.join "" ys:=by simpa using join_plain_closes "" ys
 rw[e];exact AZ.join ys h
theorem AZ.one{z:Str}(a:AZ z){k:Nat}{c:Nat}(h:z.cps.toList[k]? = some c):AZ ⟨#[c]⟩:=fun d hd=>by
 have e:d=c:=by simpa using hd
 rw[e];exact a c (Qv h)
theorem AZ.ok{z:Str}(a:AZ z):PyData.strOk z=true:=by unfold PyData.strOk;rw[Array.all_eq_true];intro i hi;have:=a z.cps[i] #[4];exact decide_eq_true #[2]
theorem Zp1:AZ "ababcz":=by unfold AZ cds;ac_rfl
def Wi:Sp:=fun vs H Q _=>∃x y:Str,vs=[.str x,.str y]∧x.length≤1000∧y.length≤1000∧Q (.int (lcp (cds x) (cds y))) H
def Th:Sp:=fun vs H Q _=>∃ (x y:Str) (a:Nat),vs=[.str x,.str y,.int a]∧x.length≤1000∧y.length≤1000∧a≤lcp (cds x) (cds y)∧Q (.int (lcp (cds x) (cds y))) H
def IsD(H:Hp):Nat→V→V→Prop
 | 0,_,_=>False
 | n+1,x,y=>(x=y∧(x=.non∨(∃b,x=.bl b)∨(∃i,x=.int i)∨∃s,x=.str s)) ∨
   (∃ (p q:Addr) (xs ys:List V),x=.ref p∧y=.ref q∧((H p=some (.lst xs)∧H q=some (.lst ys))∨(H p=some (.tup xs)∧H q=some (.tup ys)))∧xs.length=ys.length∧xs.length≤1000∧∀ (i:Nat) (x y:V),xs[i]? = some x→ys[i]? = some y→IsD H n x y)
theorem IsD.mono{H c:Hp}(s:ZG H c):∀ {n:Nat} {x y:V},IsD H n x y→IsD c n x y
 | 0,_,_,h=>h.elim
 | n+1,x,y,h=>by
  rcases h with h|⟨p,q,xs,ys,d,e,h,hl,f,g⟩
  ·exact .inl h
  ·refine .inr ⟨p,q,xs,ys,d,e,?_,hl,f,fun i x y a b=>(g i x y a b).mono s⟩;rcases h with⟨a,b⟩|⟨a,b⟩
   ·exact .inl ⟨s _ _ a,s _ _ b⟩
   ·exact .inr ⟨s _ _ a,s _ _ b⟩
def Tg(n:Nat):Sp:=fun vs H Q _=>∃x y:V,vs=[x,y]∧IsD H n x y∧∀a,ZG H a→Q (.bl true) a
section
variable (K:#[7])
open PySem.W
theorem Zlk:kitAny K (.type "int") (["list", "tuple"].map Value.type)=some false:=by unfold kitAny kitOne kitCls;rfl
theorem ZnY:kitAny K (.type "bool") (["list", "tuple"].map Value.type)=some false:=by unfold kitAny kitOne kitCls;rfl
theorem Zle:kitAny K (.type "str") (["list", "tuple"].map Value.type)=some false:=by unfold kitAny kitOne kitCls;rfl
theorem ZlR:kitAny K (.type "NoneType") (["list", "tuple"].map Value.type)=some false:=by unfold kitAny kitOne kitCls;rfl
theorem ZlJ:kitAny K (.type "list") (["list", "tuple"].map Value.type)=some true:=by unfold kitAny kitOne kitCls;rfl
theorem ZlE:kitAny K (.type "tuple") (["list", "tuple"].map Value.type)=some true:=by unfold kitAny kitOne kitCls;rfl
theorem Mw:kitOne K (.type "list") (.type "list")=some true:=by unfold kitOne kitCls;rfl
theorem Mv:kitOne K (.type "list") (.type "tuple")=some false:=by unfold kitOne kitCls;rfl
theorem Mu:kitOne K (.type "tuple") (.type "list")=some false:=by unfold kitOne kitCls;rfl
theorem Mt:kitOne K (.type "tuple") (.type "tuple")=some true:=by unfold kitOne kitCls;rfl
theorem Zl6:kitOne K (.type "int") (.type "str")=some false:=by unfold kitOne kitCls;rfl
theorem Ms:kitOne K (.type "int") (.type "bool")=some false:=by unfold kitOne kitCls;rfl
theorem Zl4:kitOne K (.type "int") (.type "int")=some true:=by unfold kitOne kitCls;rfl
theorem PX:kitOne K (.type "str") (.type "str")=some true:=by unfold kitOne kitCls;rfl
theorem Mr:kitOne K (.type "NoneType") (.type "str")=some false:=by unfold kitOne kitCls;rfl
theorem ZnD:kitOne K (.type "bool") (.type "str")=some false:=by unfold kitOne kitCls;rfl
theorem Mq:kitOne K (.type "bool") (.type "bool")=some true:=by unfold kitOne kitCls;rfl
end
section
variable {P:Program} {w:World} {K:#[7]} {mg:Str→Option Value} {base:Heap} {ah aa ae al aj af ak:Addr}
theorem Zq2(T:Z9 K mg ah aa ae al aj af ak):Df P w K mg base 1 "_law_mix" ["_law_cell", "_law_k"] P6:=by
 refine T.t_l_mix.df MW (fun b H Q E h=>?_) (fun am f A outer s H b Q E hr h=>?_)
 ·obtain⟨a,k,rfl,_⟩:=h;rfl
 obtain⟨a,k,rfl,k1,k2,q⟩:=h;refine⟨_,#[Zf,#[Zx,2,MW.nd,#[3],#[ZJ,V2,#[ZJ,V3,#[ZJ,YS,#[ZJ,YS,#[ZJ,V2,‹0›,#[Zj]],#[ZJ,V3,#[ZJ,V3,‹1›,‹1›],#[Zj]]],#[Zj]],#[Zj]],#[Zj]]],#[Zi,#[Zo,#[ZJ,V2,#[ZJ,V3,‹2›,‹2›],#[Zj]]]]],?_⟩;refine⟨_,rfl,_,_,rfl,rfl,(by show (0:Int)<_;decide),_,rfl,_,rfl,_,_,rfl,rfl,.inl ⟨by lia,by lia⟩,_,_,rfl,rfl,.inr ⟨by decide,by decide⟩,_,_,rfl,rfl,_,_,rfl,rfl,_,_,rfl,rfl,.inr ⟨by decide,by decide⟩,_,_,rfl,rfl,(by show (0:Int)<_;decide),?_⟩;have m0:=Int.emod_nonneg ((a % 2147483629+k*k*7919+11)*48271) (show (2147483647:Int)≠0 by decide);have m1:=QaQ ((a % 2147483629+k*k*7919+11)*48271) (show (0:Int)<2147483647 by decide);refine⟨_,rfl,_,rfl,_,_,rfl,rfl,.inl ⟨by lia,by lia⟩,_,_,rfl,rfl,(by show (0:Int)<_;decide),?_⟩;exact q _ (Int.emod_nonneg _ #[6]) (Int.lt_trans (QaQ _ #[6]) #[6])
theorem Zox(T:Z9 K mg ah aa ae al aj af ak):Df P w K mg base 1 "_law_left" ["_law_script", "_law_k"] (MC K):=by
 refine T.t_l_left.df MV (fun i H Q E h=>?_) (fun am f A outer s H i Q E hr h=>?_)
 ·obtain⟨a,ns,k,rfl,_⟩:=h;rfl
 obtain⟨a,ns,k,rfl,d,r9,k0,k1,q⟩:=h;refine⟨_,#[Zf,#[Zx,2,MV.nd,#[3],#[Xn,#[Zn,W6,‹1›,#[Zk,(YB K),#[5],T.b.n_len,Qu,#[Za,‹0›,#[Zd]]],(Zu _)],#[Zr,(ixL K),‹0›,‹1›],#[Zj]]],#[Zi,#[Zo,#[Z2,#[Za,#[ZJ,V3,#[Zk,Oe,#[5],T.b.n_abs,boot_abs,#[Za,‹2›,#[Zd]]],#[W4,ZlW,T.b.n_int,boot_int,#[Za,#[WI,Of,#[Zk,Oe,#[5],T.b.n_abs,boot_abs,#[Za,‹2›,#[Zd]]],#[ZJ,Zq3,#[Zj],#[Zj]],(Zu _)],#[Zd]]]],#[Za,#[ZJ,YS,‹2›,#[ZJ,V3,#[Zj],‹1›]],#[Za,#[Zj],#[Zd]]]]]]]],?_⟩;have j:(ns.map V.int).length=ns.length:=Qa _;have e:Om 10 18:=⟨by decide,by decide,by decide⟩;refine⟨_,rfl,_,rfl,a,_,rfl,.inl d,_,_,rfl,rfl,_,rfl,?_⟩;refine YX (fun c=>?_) (fun c=>?_)
 ·have g:k<(((ns.map V.int).length:Nat):Int):=of_decide_eq_true c;rw[j]at g;obtain⟨v,l⟩:=Zp0 (ns:=ns) k0 g;refine⟨_,rfl,_,rfl,a,_,_,_,rfl,rfl,d,l,?_⟩;refine⟨_,rfl,_,rfl,_,rfl,_,rfl,_,_,rfl,rfl,e,_,_,rfl,rfl,.inr ⟨_,rfl,_,_,rfl,rfl,.inr (MB _),_,rfl,_,rfl,_,_,rfl,rfl,.inl ⟨by decide,by decide⟩,_,_,rfl,rfl,(by show 3≤sizeLine;decide),fun p b=>?_⟩⟩;exact q p _ b ⟨_,_,Zc,Int.le_refl _⟩ (Zh b _)
 ·refine⟨_,rfl,_,rfl,_,rfl,_,rfl,_,_,rfl,rfl,e,_,_,rfl,rfl,.inr ⟨_,rfl,_,_,rfl,rfl,.inr (MB _),_,rfl,_,rfl,_,_,rfl,rfl,.inl ⟨by decide,by decide⟩,_,_,rfl,rfl,(by show 3≤sizeLine;decide),fun p b=>?_⟩⟩;exact q p _ b ⟨_,_,Zc,Int.le_refl _⟩ (Zh b _)
theorem Zn0(T:Z9 K mg ah aa ae al aj af ak)(j:Df P w K mg base 1 "_law_mix" ["_law_cell", "_law_k"] P6):Df P w K mg base 2 "_law_pick" ["_law_left_here", "_law_many_here"] VG:=by
 refine T.t_l_pick.df MU (fun t H Q E h=>?_) (fun am f A outer s H t Q E k h=>?_)
 ·obtain⟨p,c,m,rfl,_⟩:=h;rfl
 obtain⟨p,c,m,rfl,⟨a,b,l,c0⟩,c1,i,m1,q⟩:=h;refine⟨_,#[Zf,#[Z6,#[ZJ,YS,#[Zr,(ixL K),‹0›,#[Zj]],#[Zj]],#[Yt,‹0›,#[Zj],NV]],#[Zf,#[ZO,#[Zn,Ws,#[Zr,(ixL K),‹0›,#[Zj]],#[Zj],(Zu _)],#[Zf,#[Zx,2,MU.nd,#[3],#[ZJ,V2,#[Zr,(ixL K),‹0›,#[Zj]],‹1›]],#[Zf,#[Z6,#[ZJ,TZ,#[Zr,(ixL K),‹0›,#[Zj]],‹1›],#[Yt,‹0›,#[Zj],NV]],#[Zi,#[Zo,‹2›]]]],#[ZE]],#[Zi,#[Zo,#[ZJ,V2,#[ZJ,TZ,#[Zw,j,k,#[Za,#[Zw,j,k,#[Za,#[Zr,(ixL K),‹0›,#[Zj]],#[Za,#[Zr,(ixL K),‹0›,#[Zj]],#[Zd]]],#[5]],#[Za,#[ZJ,YS,#[Zr,(ixL K),‹0›,#[Zj]],#[Zj]],#[Zd]]],#[5]],#[Zj]],‹1›]]]]],?_⟩;have g:(upd H p (.lst [.int a,.int b,.int (c+1)])) p=some (.lst [.int a,.int b,.int (c+1)]):=Zc;refine⟨_,rfl,p,_,_,_,rfl,rfl,SqL.of l,rfl,_,_,rfl,rfl,_,rfl,p,_,_,2,rfl,rfl,l,rfl,?_⟩;refine⟨_,rfl,p,_,_,_,rfl,rfl,SqL.of g,rfl,_,_,rfl,rfl,_,rfl,?_⟩;refine YX (fun d=>?_) (fun d=>?_)
 ·refine⟨_,rfl,p,_,_,_,rfl,rfl,SqL.of g,rfl,_,rfl,_,_,rfl,rfl,i,?_⟩;refine⟨_,rfl,p,_,_,_,rfl,rfl,SqL.of g,rfl,_,rfl,_,_,rfl,rfl,⟨i,by lia⟩,_,rfl,p,_,_,0,rfl,rfl,g,rfl,?_⟩;refine⟨_,rfl,?_⟩;refine q _ _ (Int.emod_nonneg _ #[2]) (QaQ _ i) ⟨a / m,b,Zc,by lia⟩ fun e o h n=>?_;rw[Zb n,Zb n];exact h
 ·refine⟨_,rfl,p,_,_,_,rfl,rfl,SqL.of g,rfl,_,rfl,p,_,_,_,rfl,rfl,SqL.of g,rfl,_,_,rfl,by lia,by lia,fun r r0 r1=>?_⟩;refine⟨_,rfl,p,_,_,_,rfl,rfl,SqL.of g,rfl,_,_,rfl,rfl,_,_,rfl,by lia,by lia,fun r' lc iK=>?_⟩;refine⟨_,_,rfl,rfl,⟨by decide,by decide⟩,_,rfl,_,_,rfl,rfl,i,?_⟩;refine q _ _ (Int.emod_nonneg _ #[2]) (QaQ _ i) ⟨a,b,Zc,by lia⟩ fun e o h n=>?_;rw[Zb n];exact h
noncomputable def WW:List Str:=["", "a", "ab", "aba", "abab", "b", "zebra", "aaaaaaaa", "knowswho", "z", "abababababab",Txt.mul "a" 24]
theorem Zjo:∀s∈WW,s.length≤24:=by ac_rfl
theorem ZjY:∀s∈WW,AZ s:=by unfold AZ cds;ac_rfl
def PV:Sp:=fun vs H Q _=>∃ (p:Addr) (c:Int),vs=[.ref p]∧Y3 H p c∧c<2 ^ 50 ∧
 ∀ (l:Addr) (a:List Str) (d:Int) (b:Hp),H l=none→b l=some (.lst (a.map V.str))→1≤a.length→a.length≤4→(∀s∈a,s.length≤24∧AZ s)→Y3 b p d→c≤d→d≤c+5→But p H b→Q (.ref l) b
def PU:Sp:=fun vs H Q _=>∃ (p l:Addr) (c:Int) (ss:List Str),vs=[.ref p,.ref l]∧Y3 H p c∧c<2 ^ 50∧H l=some (.lst (ss.map V.str))∧1≤ss.length∧ss.length≤4∧(∀s∈ss,s.length≤24∧AZ s) ∧
 ∀ (z:Str) (a:Int) (b:Hp),z.length≤28→AZ z→Y3 b p a→c≤a→a≤c+6→But p H b→Q (.str z) b
theorem ZmO(T:Z9 K mg ah aa ae al aj af ak)(U:Df P w K mg base 2 "_law_pick" ["_law_left_here", "_law_many_here"] VG):Df P w K mg base 3 "_law_stems" ["_law_left_here"] PV:=by
 refine T.t_l_stems.df MT (fun vs H Q E h=>?_) (fun am f A outer s H vs Q E W h=>?_)
 ·obtain⟨p,c,rfl,_⟩:=h;rfl
 obtain⟨p,c,rfl,C,c1,q⟩:=h;refine⟨_,#[Zf,#[Zx,1,MT.nd,(Or.inr rfl),#[Z2,#[Za,#[Zs],#[Za,#[Zs],#[Za,#[Zs],#[Za,#[Zs],#[Za,#[Zs],#[Za,#[Zs],#[Za,#[Zs],#[Za,#[Zs],#[Za,#[Zs],#[Za,#[Zs],#[Za,#[Zs],#[Za,#[ZJ,Zoj,#[Zs],#[Zj]],#[Zd]]]]]]]]]]]]]]],#[Zi,#[Zo,#[WY,Uo,#[W7,T.b.n_range,#[Za,#[ZJ,YS,#[Zj],#[Zw,U,W,#[Za,#[pv,0,(Or.inr #[3])],#[Za,#[Zj],#[Zd]]],#[5]]],#[Zd]]],(fun _ _ _ _=>#[cg,2,Uo]),(fun _ _ _ _=>(@Wp _)),(fun _ _ _ _=>#[Zr,(ixL K),#[cv,1,Uo],#[Zw,U,W,#[Za,#[cv,0,Uo],#[Za,#[Zj],#[Zd]]],(Vq Uo rfl #[1])]])]]]],?_⟩;refine⟨_,_,rfl,rfl,by decide,by decide,by decide,(by show 12≤sizeLine;decide),fun l X=>?_⟩;have F:p≠l:=by obtain⟨a,b,d,_⟩:=C;exact Ze d X
 have Af:Y3 (upd H l (.lst (WW.map V.str))) p c:=by obtain⟨a,b,d,c0⟩:=C;exact⟨a,b,by rw[Zb F];exact d,c0⟩
 refine⟨_,rfl,p,c,_,rfl,Af,by lia,by decide,by decide,fun r H1 r0 r1 Y t=>?_⟩;refine⟨_,_,rfl,rfl,_,rfl,by lia,by lia,fun D g=>?_⟩;have c0:0≤c:=by obtain⟨a,b,d,c0⟩:=C;exact c0
 have Z:H1 l=some (.lst (WW.map V.str)):=t l _ Zc F.symm;have k:p≠D:=by obtain⟨a,b,d,_⟩:=Y;exact Ze d g
 have y:l≠D:=Ze Z g;refine R7 (fun i z G j=>∃ (ss:List Str) (v:Option V) (c2:Int),G=[some (.ref p),some (.ref l),v]∧z=ss.map V.str∧ss.length=i∧(∀s∈ss,s.length≤24∧AZ s)∧Y3 j p c2∧c+1≤c2∧c2≤c+1+i ∧
   j l=some (.lst (WW.map V.str))∧j D=some (.lst z)∧But p H j) ?_ ?_ ?_
 ·refine⟨[],none,c+1,rfl,rfl,rfl,(fun s m=>by cases m),?_,by lia,by lia,?_,Zc,?_⟩
  ·obtain⟨a,b,d,I⟩:=Y;exact⟨a,b,by rw[Zb k];exact d,I⟩
  ·rw[Zb y];exact Z
  ·intro b o e n;have e1:(upd H l (.lst (WW.map V.str))) b=some o:=by rw[Zb (Ze e X)];exact e
   have B:=t b o e1 n;rw[Zb (Ze B g)];exact B
 ·rintro i z G j hi ⟨ss,v,c2,rfl,rfl,J,m,L,b1,b2,aU,M,N⟩;refine⟨_,rfl,_,rfl,p,c2,_,rfl,L,by lia,by decide,by decide,fun r' H3 lc iK L3 O=>?_⟩;obtain⟨s,eQ,dF⟩:=P0 (ss:=WW) lc iK;have jU:H3 D=some (.lst (ss.map V.str)):=O D _ M k.symm;have dQ:H3 l=some (.lst (WW.map V.str)):=O l _ aU F.symm;refine⟨l,_,_,_,rfl,rfl,SqL.of dQ,dF,jU,(by rw[Qa,J];exact ZB #[2]),ss++[s],_,c2+1,rfl,?_,?_,?_,?_,by lia,by lia,?_,Zc,?_⟩
  ·rw[Qf];rfl
  ·rw[Qr,J];rfl
  ·intro x hx;rcases Qo.mp hx with hx|hx
   ·exact m x hx
   ·rw[Ql.mp hx];exact⟨Zjo s eQ,ZjY s eQ⟩
  ·obtain⟨a,b,d,I⟩:=L3;exact⟨a,b,by rw[Zb k];exact d,I⟩
  ·rw[Zb y];exact dQ
  ·intro b o e n;have B:=O b o (N b o e n) n;have R:H D=none:=by
    cases S:H D with
    | none=>rfl
    | some u =>
     have Ah:D≠p:=k.symm;have z1:(upd H l (.lst (WW.map V.str))) D=some u:=by rw[Zb y.symm];exact S
     rw[t D u z1 Ah]at g;cases g
   rw[Zb (Ze e R)];exact B
 ·rintro z G j ⟨ss,v,c2,rfl,rfl,J,m,L,b1,b2,aU,M,N⟩;have R:H D=none:=by
   cases S:H D with
   | none=>rfl
   | some u =>
    have z1:(upd H l (.lst (WW.map V.str))) D=some u:=by rw[Zb y.symm];exact S
    rw[t D u z1 k.symm]at g;cases g
  exact q D ss c2 j R M #[2] #[2] m L #[2] #[2] N
theorem Zqx(T:Z9 K mg ah aa ae al aj af ak)(F:Df P w K mg base 2 "_law_pick" ["_law_left_here", "_law_many_here"] VG):Df P w K mg base 3 "_law_key" ["_law_left_here", "_law_stems_here"] PU:=by
 refine T.t_l_key.df MR (fun vs H Q E h=>?_) (fun am f A outer s H vs Q E G h=>?_)
 ·obtain⟨p,l,c,ss,rfl,_⟩:=h;rfl
 obtain⟨p,l,c,ss,rfl,I,c1,J,n1,n4,Z,q⟩:=h;refine⟨_,#[Zf,#[Zx,2,MR.nd,#[3],#[XO,PySem.F.plainAttrs_str,PySem.F.slot_str_join,PySem.F.type_str_join,(Zq7 K),#[Zs],#[Za,#[WY,Ti,#[W7,T.b.n_range,#[Za,#[Zw,F,G,#[Za,#[pv,0,(Or.inr #[3])],#[Za,#[Zj],#[Zd]]],#[5]],#[Zd]]],(fun _ _ _ _=>#[cg,3,Ti]),(fun _ _ _ _=>(@Wp _)),(fun _ _ _ _=>#[Zr,VT,#[Zs],#[Zw,F,G,#[Za,#[cv,0,Ti],#[Za,#[Zj],#[Zd]]],(Vq Ti rfl #[1])]])],#[Zd]]]],#[Zi,#[Zo,#[ZJ,ZjQ,#[Zr,(ixL K),‹1›,#[Zw,F,G,#[Za,#[pv,0,(Or.inr #[3])],#[Za,#[Zk,(YB K),#[5],T.b.n_len,Qu,#[Za,‹1›,#[Zd]]],#[Zd]]],#[5]]],‹2›]]]],?_⟩;have c0:0≤c:=by obtain⟨a,b,g,c0⟩:=I;exact c0
 have L:p≠l:=by
  obtain⟨a,b,g,_⟩:=I;refine Sw g J fun e=>?_;have e1:=congrArg List.length (HO.lst.inj e);cases ss with
  | nil=>cases e1
  | cons x r=>exact absurd (HO.lst.inj e) (by intro z;cases z)
 refine⟨rfl,_,rfl,p,c,_,rfl,I,by lia,by decide,by decide,fun r H1 r0 r1 L1 M=>?_⟩;refine⟨_,rfl,by lia,by lia,fun D t=>?_⟩;have y:p≠D:=by obtain⟨a,b,g,_⟩:=L1;exact Ze g t
 have oZ:=M l _ J L.symm;have lf:l≠D:=Ze oZ t;have vz:H D=none:=by
  cases w':H D with
  | none=>rfl
  | some u=>rw[M D u w' y.symm]at t;cases t
 refine R7 (fun i B N k=>∃ (d:List Str) (v:Option V) (c2:Int),N=[some (.ref p),some (.ref l),none,v]∧B=d.map V.str∧d.length=i∧(∀s∈d,s.length≤1∧AZ s)∧Y3 k p c2∧c+1≤c2∧c2≤c+1+i ∧
   k D=some (.lst B)∧But p H k) ?_ ?_ ?_
 ·refine⟨[],none,c+1,rfl,rfl,rfl,(fun s j=>by cases j),?_,by lia,by lia,Zc,?_⟩
  ·obtain⟨a,b,g,O⟩:=L1;exact⟨a,b,by rw[Zb y];exact g,O⟩
  ·intro b o e n;rw[Zb (Ze e vz)];exact M b o e n
 ·rintro i B N k hi ⟨d,v,c2,rfl,rfl,R,j,S,b1,b2,U,C⟩;refine⟨_,rfl,p,c2,_,rfl,S,by lia,by decide,by decide,fun r' W X iK Y m=>?_⟩;obtain⟨ch,Ai,dJ⟩:=VF (z := "ababcz") X iK;have jU:W D=some (.lst (d.map V.str)):=m D _ U y.symm;refine⟨_,_,_,rfl,rfl,#[1],dJ,jU,(by rw[Qa,R];exact ZB #[2]),d++[⟨#[ch]⟩],_,c2+1,rfl,?_,?_,?_,?_,by lia,by lia,Zc,?_⟩
  ·rw[Qf];rfl
  ·rw[Qr,R];rfl
  ·intro x hx;rcases Qo.mp hx with hx|hx
   ·exact j x hx
   ·rw[Ql.mp hx];exact⟨Qg 1,Zp1.one Ai⟩
  ·obtain⟨a,b,g,O⟩:=Y;exact⟨a,b,by rw[Zb y];exact g,O⟩
  ·intro b o e n;rw[Zb (Ze e vz)];exact m b o (C b o e n) n
 ·rintro B N k ⟨d,v,c2,rfl,rfl,R,j,S,b1,b2,U,C⟩;have vA:=MA d fun s h=>(j s h).1;have lb:=ZnM "" d;have e0:("" : Str).length=0:=by ac_rfl
  rw[e0]at lb;have aU:=C l _ J L.symm;refine⟨_,D,d,rfl,rfl,SqL.of U,(by rw[e0];lia),?_⟩;have aw:(((ss.map V.str).length:Nat):Int)=(ss.length:Int):=by rw[Qa]
  refine⟨_,rfl,_,rfl,_,rfl,l,_,rfl,.inl (SqL.of aU),p,c2,_,rfl,S,by lia,by lia,by lia,fun r' W X iK Y m=>?_⟩;obtain⟨st,eQ,dF⟩:=P0 (ss:=ss) X #[2];have bg:=(Z st eQ).1;refine⟨l,_,_,_,rfl,rfl,SqL.of (m l _ aU L.symm),dF,_,rfl,_,_,rfl,rfl,XY #[2],?_⟩;refine q _ (c2+1) W ?_ ((Z st eQ).2.app (AZ.joinT d fun s h=>(j s h).2)) Y #[2] #[2] (C.trans m);rw[PySem.Str.length_append];lia
theorem Zg9(T:Z9 K mg ah aa ae al aj af ak):Df P w K mg base 1 "alike_from" ["one", "other", "far"] Th:=by
 refine T.t_alike_from.df Ri (fun D H Q E h=>?_) (fun am f A outer s H D Q E hr h=>?_)
 ·obtain⟨x,y,c,rfl,_⟩:=h;rfl
 obtain⟨x,y,c,rfl,p,r,F,q⟩:=h;refine⟨_,#[Zf,#[Zx,3,Ri.nd,#[3],‹2›],#[Zf,(@UV _ _ _ _ _ _ PassesOwn.never (@PW.pt _ _ _ #[Xu,#[Zn,W6,‹3›,#[Zk,Wr,#[5],T.b.n_len,Qu,#[Za,‹0›,#[Zd]]],(Zu _)],#[Xu,#[Zn,W6,‹3›,#[Zk,Wr,#[5],T.b.n_len,Qu,#[Za,‹1›,#[Zd]]],(Zu _)],#[Xi,#[Zn,YI,#[Zr,VT,‹0›,‹3›],#[Zr,VT,‹1›,‹3›],(Zu _)]]]]) #[Zi,(@Zqh _ _ 3 _ _ _ _ _ _ Ri.nd rfl #[3] #[Zj] Zqv (by trivial))]),#[Zi,#[Zo,‹3›]]]],?_⟩;refine⟨_,rfl,?_⟩;have lx:(cds x).length=x.length:=by simp[Str.length]
 have ly:(cds y).length=y.length:=by simp[Str.length]
 have ll:=Vc (cds x) (cds y);refine⟨fun m t g=>∃k:Nat,t=[some (.str x),some (.str y),some (.int c),some (.int k)]∧g=H∧k≤lcp (cds x) (cds y)∧m=lcp (cds x) (cds y)-k,⟨_,c,rfl,rfl,F,rfl⟩,?_⟩;rintro m t g ⟨k,rfl,rfl,d,rfl⟩;refine⟨_,rfl,_,rfl,x,rfl,XY p,_,_,rfl,rfl,_,rfl,?_⟩;refine YX (fun i=>?_) (fun i=>?_)
 ·have u:(k:Int)<(x.length:Int):=of_decide_eq_true i;refine⟨_,rfl,_,rfl,y,rfl,XY r,_,_,rfl,rfl,_,rfl,?_⟩;refine YX (fun j=>?_) (fun j=>?_)
  ·have v:(k:Int)<(y.length:Int):=of_decide_eq_true j;obtain⟨a,l,G⟩:=VF (z:=x) (k:=k) #[2] u;obtain⟨b,n,I⟩:=VF (z:=y) (k:=k) #[2] v;rw[Int.toNat_natCast]at l n;refine⟨_,rfl,_,rfl,x,_,a,rfl,rfl,XY p,G,_,rfl,_,rfl,y,_,b,rfl,rfl,XY r,I,rfl,_,rfl,?_⟩;refine YX (fun o=>?_) (fun o=>?_)
   ·have J:a=b:=by have:=of_decide_eq_true o;injection this with e;injection e with e;simpa using e
    subst J;have:=PZ _ _ k d a l n;refine⟨fun B C=>B=[some (.str x),some (.str y),some (.int c),some (.int ((k+1:Nat):Int))]∧C=g,fun B C ⟨L,M⟩=>⟨_,?_,k+1,L,M,this,rfl⟩,?_⟩
    ·lia
    ·exact⟨_,rfl,_,_,rfl,rfl,rfl,rfl⟩
   ·refine⟨_,rfl,?_⟩;have e:=Va _ _ k d (.inr (.inr ⟨a,b,l,n,fun e=>o (by subst e;exact decide_eq_true rfl)⟩));rw[e]at q;exact q
  ·refine YY ⟨_,rfl,?_⟩;have v:¬ (k:Int)<(y.length:Int):=of_decide_eq_false (QaB.mpr j);have e:=Va _ _ k d (.inr (.inl #[2]));rw[e]at q;exact q
 ·refine YY ⟨_,rfl,?_⟩;have u:¬ (k:Int)<(x.length:Int):=of_decide_eq_false (QaB.mpr i);have e:=Va _ _ k d (.inl #[2]);rw[e]at q;exact q
theorem ZmZ(T:Z9 K mg ah aa ae al aj af ak)(a:Df P w K mg base 1 "alike_from" ["one", "other", "far"] Th):Df P w K mg base 2 "alike" ["one", "other"] Wi:=by
 refine T.t_alike.df ZnU (fun b H Q E h=>?_) (fun am f A outer s H b Q E c h=>?_)
 ·obtain⟨x,y,rfl,_⟩:=h;rfl
 obtain⟨x,y,rfl,d,e,q⟩:=h;refine⟨_,#[Zi,#[Zo,#[Zw,a,c,#[Za,‹0›,#[Za,‹1›,#[Za,#[Zj],#[Zd]]]],#[5]]]],?_⟩;exact⟨_,rfl,_,rfl,x,y,0,rfl,d,e,Qs _,q⟩
theorem ZjM(T:Z9 K mg ah aa ae al aj af ak):Df P w K mg base 1 "_law_alike" ["_law_one", "_law_other"] Wi:=by
 refine T.t_l_alike.df Rh (fun C H Q E h=>?_) (fun am f A outer s H C Q E hr h=>?_)
 ·obtain⟨x,y,rfl,_⟩:=h;rfl
 obtain⟨x,y,rfl,o,p,q⟩:=h;refine⟨_,#[Zf,#[Zx,2,Rh.nd,#[3],#[Zj]],#[Zf,(@UV _ _ _ _ _ _ PassesOwn.never (@PW.pt _ _ _ #[Xu,#[Zn,W6,‹2›,#[Zk,Wr,#[5],T.b.n_len,Qu,#[Za,‹0›,#[Zd]]],(Zu _)],#[Xu,#[Zn,W6,‹2›,#[Zk,Wr,#[5],T.b.n_len,Qu,#[Za,‹1›,#[Zd]]],(Zu _)],#[Xi,#[Zn,YI,#[Zr,VT,‹0›,‹2›],#[Zr,VT,‹1›,‹2›],(Zu _)]]]]) #[Zi,#[Zx,2,Rh.nd,#[3],#[ZJ,YS,‹2›,#[Zj]]]]),#[Zi,#[Zo,‹2›]]]],?_⟩;have lx:(cds x).length=x.length:=by simp[Str.length]
 have ly:(cds y).length=y.length:=by simp[Str.length]
 have ll:=Vc (cds x) (cds y);refine⟨fun m r d=>∃k:Nat,r=[some (.str x),some (.str y),some (.int k)]∧d=H∧k≤lcp (cds x) (cds y)∧m=lcp (cds x) (cds y)-k,⟨_,0,rfl,rfl,Qs _,rfl⟩,?_⟩;rintro m r d ⟨k,rfl,rfl,c,rfl⟩;refine⟨_,rfl,_,rfl,x,rfl,XY o,_,_,rfl,rfl,_,rfl,?_⟩;refine YX (fun g=>?_) (fun g=>?_)
 ·have t:(k:Int)<(x.length:Int):=of_decide_eq_true g;refine⟨_,rfl,_,rfl,y,rfl,XY p,_,_,rfl,rfl,_,rfl,?_⟩;refine YX (fun i=>?_) (fun i=>?_)
  ·have u:(k:Int)<(y.length:Int):=of_decide_eq_true i;obtain⟨a,j,D⟩:=VF (z:=x) (k:=k) #[2] t;obtain⟨b,l,F⟩:=VF (z:=y) (k:=k) #[2] u;rw[Int.toNat_natCast]at j l;refine⟨_,rfl,_,rfl,x,_,a,rfl,rfl,XY o,D,_,rfl,_,rfl,y,_,b,rfl,rfl,XY p,F,rfl,_,rfl,?_⟩;refine YX (fun n=>?_) (fun n=>?_)
   ·have G:a=b:=by have:=of_decide_eq_true n;injection this with e;injection e with e;simpa using e
    subst G;have:=PZ _ _ k c a j l;refine⟨fun v B=>v=[some (.str x),some (.str y),some (.int ((k+1:Nat):Int))]∧B=d,fun v B ⟨I,J⟩=>⟨_,?_,k+1,I,J,this,rfl⟩,?_⟩
    ·lia
    ·exact⟨_,rfl,_,_,rfl,rfl,rfl,rfl⟩
   ·refine⟨_,rfl,?_⟩;have e:=Va _ _ k c (.inr (.inr ⟨a,b,j,l,fun e=>n (by subst e;exact decide_eq_true rfl)⟩));rw[e]at q;exact q
  ·refine YY ⟨_,rfl,?_⟩;have u:¬ (k:Int)<(y.length:Int):=of_decide_eq_false (QaB.mpr i);have e:=Va _ _ k c (.inr (.inl #[2]));rw[e]at q;exact q
 ·refine YY ⟨_,rfl,?_⟩;have t:¬ (k:Int)<(x.length:Int):=of_decide_eq_false (QaB.mpr g);have e:=Va _ _ k c (.inl #[2]);rw[e]at q;exact q
theorem Yk{c A B:Prop}[Decidable c](hc:c)(h:A):if decide c=true then A else B:=by rw[if_pos (decide_eq_true hc)];exact h
theorem YF{c A B:Prop}[Decidable c](hc:¬ c)(h:B):if decide c=true then A else B:=by rw[if_neg (by rw[decide_eq_false hc];exact Qq)];exact h
theorem Mp(T:Z9 K mg ah aa ae al aj af ak):∀n:Nat,Df P w K mg base (n+1) "_law_same" ["_law_found", "_law_due"] (Tg n)
 | 0=>by
  refine T.t_l_same.df MQ (fun vs H Q E h=>?_) (fun am f A outer s H vs Q E m h=>?_)
  ·obtain⟨x,y,rfl,_⟩:=h;rfl
  obtain⟨x,y,rfl,h,_⟩:=h;exact h.elim
 | n+1=>by
  have aH:=Mp T n;refine T.t_l_same.df MQ (fun vs H Q E h=>?_) (fun am f A outer s H vs Q E m h=>?_)
  ·obtain⟨x,y,rfl,_⟩:=h;rfl
  obtain⟨x,y,rfl,u,q⟩:=h;refine⟨_,#[Zf,#[ZO,#[Yi,#[Zk,(Zra K),#[5],T.b.n_isinstance,boot_isinstance,#[Za,‹1›,#[Za,#[YU,#[Za,#[X1,T.b.n_list,boot_list],#[Za,#[X1,T.b.n_tuple,boot_tuple],#[Zd]]]],#[Zd]]]]],#[Zf,#[ZO,(@PW.pt _ _ _ #[Xh,#[Zn,Sl,#[Zk,(Xg K),#[5],T.b.n_isinstance,boot_isinstance,#[Za,‹0›,#[Za,#[X1,T.b.n_list,boot_list],#[Zd]]]],#[Zk,(Xg K),#[5],T.b.n_isinstance,boot_isinstance,#[Za,‹1›,#[Za,#[X1,T.b.n_list,boot_list],#[Zd]]]],(Zu _)],#[Xa,#[Zn,Sl,#[Zk,(Xg K),#[5],T.b.n_isinstance,boot_isinstance,#[Za,‹0›,#[Za,#[X1,T.b.n_tuple,boot_tuple],#[Zd]]]],#[Zk,(Xg K),#[5],T.b.n_isinstance,boot_isinstance,#[Za,‹1›,#[Za,#[X1,T.b.n_tuple,boot_tuple],#[Zd]]]],(Zu _)]]]),#[Zi,#[Zo,#[Yd]]],#[ZE]],#[Zi,#[Zo,#[Wt,#[WI,YI,#[Zk,(YB K),#[5],T.b.n_len,Qu,#[Za,‹0›,#[Zd]]],#[Zk,(YB K),#[5],T.b.n_len,Qu,#[Za,‹1›,#[Zd]]],(Zu _)],(@UW _ _ _ _ _ #[Zk,(Zsf K),#[5],T.b.n_all,boot_all,#[Za,#[WY,Ve,(@iZ _ K _ _ _ _ _ _ _ _ T.b.n_zip #[Za,‹0›,#[Za,‹1›,#[Zd]]] #[5] #[5] #[5] #[5]),(fun _ _ _ _=>#[gT,K,2,#[ZC,#[cg,2,Ve],#[ZC,#[cg,3,Ve],(@Yb _)]]]),(fun _ _ _ _=>(@Wp _)),(fun _ _ _ _=>#[Zw,aH,m,#[Za,#[cw,2,Ve],#[Za,#[cw,3,Ve],#[Zd]]],(Vq Ve rfl #[1])])],#[Zd]]])]]]],#[ZE]],#[Zf,#[ZO,(@PW.pt _ _ _ #[Xh,#[Zn,XF,‹1›,#[ZT],(Zu _)],#[Xa,#[Yi,#[Zk,(Xg K),#[5],T.b.n_isinstance,boot_isinstance,#[Za,‹1›,#[Za,#[X1,T.b.n_str,boot_str],#[Zd]]]]]]]),#[Zi,#[Zo,#[Wt,#[WI,YI,‹0›,‹1›,(Zu _)],(@UW _ _ _ _ _ #[WI,YI,#[Zk,(Xg K),#[5],T.b.n_isinstance,boot_isinstance,#[Za,‹0›,#[Za,#[X1,T.b.n_str,boot_str],#[Zd]]]],#[Zk,(Xg K),#[5],T.b.n_isinstance,boot_isinstance,#[Za,‹1›,#[Za,#[X1,T.b.n_str,boot_str],#[Zd]]]],(Zu _)])]]],#[ZE]],#[Zf,#[ZO,#[Yi,#[Zk,(Xg K),#[5],T.b.n_isinstance,boot_isinstance,#[Za,‹1›,#[Za,#[X1,T.b.n_bool,boot_bool],#[Zd]]]]],#[Zi,#[Zo,#[Wt,#[Zk,(Xg K),#[5],T.b.n_isinstance,boot_isinstance,#[Za,‹0›,#[Za,#[X1,T.b.n_bool,boot_bool],#[Zd]]]],(@UW _ _ _ _ _ #[WI,YI,‹0›,‹1›,(Zu _)])]]],#[ZE]],#[Zi,#[Zo,#[Wt,#[Zk,(Xg K),#[5],T.b.n_isinstance,boot_isinstance,#[Za,‹0›,#[Za,#[X1,T.b.n_int,boot_int],#[Zd]]]],#[Wt,(@ZqT _ _ _ _ #[Zk,(Xg K),#[5],T.b.n_isinstance,boot_isinstance,#[Za,‹0›,#[Za,#[X1,T.b.n_bool,boot_bool],#[Zd]]]]),(@UW _ _ _ _ _ #[WI,YI,‹0›,‹1›,(Zu _)])]]]]]]],?_⟩;refine⟨_,rfl,(by show 2≤sizeLine;decide),fun c v=>?_⟩;have R:ZG H (upd H c (.tup (["list", "tuple"].map V.ty))):=Zh v _;rcases u with⟨rfl,rfl|⟨b,rfl⟩|⟨i,rfl⟩|⟨z,rfl⟩⟩|⟨p,t,xs,ys,rfl,rfl,⟨B,C⟩|⟨B,C⟩,hl,hz,hi⟩
  ·refine⟨_,c,["list", "tuple"],_,_,rfl,Zc,.non,ZlR K,_,rfl,YY ?_⟩;refine⟨_,rfl,rfl,_,rfl,Yk rfl (Xz ?_)⟩;refine⟨_,rfl,_,rfl,rfl,_,rfl,Yk rfl ?_⟩;exact⟨_,rfl,_, "str",_,_,rfl,.non,Mr K,_,rfl,_, "str",_,_,rfl,.non,Mr K,rfl,q _ R⟩
  ·refine⟨_,c,["list", "tuple"],_,_,rfl,Zc,.bl b,ZnY K,_,rfl,YY ?_⟩;refine⟨_,rfl,rfl,_,rfl,YF (by intro z;cases z) ?_⟩;refine⟨_,rfl,_, "str",_,_,rfl,.bl b,ZnD K,_,rfl,YY ?_⟩;refine⟨_,rfl,_, "bool",_,_,rfl,.bl b,Mq K,_,rfl,Xz ?_⟩;refine⟨_,rfl,_, "bool",_,_,rfl,.bl b,Mq K,_,rfl,Xz ?_⟩;refine⟨_,rfl,_,rfl,rfl,?_⟩;have e:decide (V.bl b=V.bl b)=true:=decide_eq_true rfl;rw[e];exact q _ R
  ·refine⟨_,c,["list", "tuple"],_,_,rfl,Zc,.int i,Zlk K,_,rfl,YY ?_⟩;refine⟨_,rfl,rfl,_,rfl,YF (by intro z;cases z) ?_⟩;refine⟨_,rfl,_, "str",_,_,rfl,.int i,Zl6 K,_,rfl,YY ?_⟩;refine⟨_,rfl,_, "bool",_,_,rfl,.int i,Ms K,_,rfl,YY ?_⟩;refine⟨_,rfl,_, "int",_,_,rfl,.int i,Zl4 K,_,rfl,Xz ?_⟩;refine⟨_,rfl,_, "bool",_,_,rfl,.int i,Ms K,_,rfl,_,rfl,Xz ?_⟩;refine⟨_,rfl,_,rfl,rfl,?_⟩;have e:decide (V.int i=V.int i)=true:=decide_eq_true rfl;rw[e];exact q _ R
  ·refine⟨_,c,["list", "tuple"],_,_,rfl,Zc,.str z,Zle K,_,rfl,YY ?_⟩;refine⟨_,rfl,rfl,_,rfl,YF (by intro z;cases z) ?_⟩;refine⟨_,rfl,_, "str",_,_,rfl,.str z,PX K,_,rfl,Xz ?_⟩;refine⟨_,rfl,_,rfl,rfl,_,rfl,Yk rfl ?_⟩;exact⟨_,rfl,_, "str",_,_,rfl,.str z,PX K,_,rfl,_, "str",_,_,rfl,.str z,PX K,rfl,q _ R⟩
  ·have j:(upd H c (.tup (["list", "tuple"].map V.ty))) p=some (.lst xs):=by rw[Zb (Ze B v)];exact B
   have g:(upd H c (.tup (["list", "tuple"].map V.ty))) t=some (.lst ys):=by rw[Zb (Ze C v)];exact C
   refine⟨_,c,["list", "tuple"],_,_,rfl,Zc,.lst g,ZlJ K,_,rfl,Xz ?_⟩;refine⟨_,rfl,_, "list",_,_,rfl,.lst j,Mw K,_,rfl,_, "list",_,_,rfl,.lst g,Mw K,rfl,_,rfl,WZ rfl ?_⟩;refine⟨_,rfl,_, "tuple",_,_,rfl,.lst j,Mv K,_,rfl,_, "tuple",_,_,rfl,.lst g,Mv K,rfl,_,rfl,WZ rfl ?_⟩;refine⟨_,rfl,p,xs,rfl,.inl (SqL.of j),_,rfl,t,ys,rfl,.inl (SqL.of g),rfl,_,rfl,Yk (by rw[hl]) ?_⟩;refine⟨_,rfl,_,rfl,.l p,.l t,xs,ys,rfl,SqL.of j,SqL.of g,fun D u=>?_⟩;have I:ZG H (upd H c (.tup (["list", "tuple"].map V.ty))):=Zh v _;refine NG (K:=K) (xs:=xs) (ys:=ys) (fun i zs k a=>(∃J L,k=[some (.ref p),some (.ref t),J,L])∧zs=List.replicate i (.bl true)∧ZG H a∧a D=some (.lst zs)∧i≤xs.length) ?_ ?_ ?_ ?_
   ·exact⟨⟨none,none,rfl⟩,rfl,I.trans (Zh u _),Zc,Qs _⟩
   ·rintro i zs k a ⟨_,_,d,_⟩;exact⟨SqL.of (d _ _ B),SqL.of (d _ _ C)⟩
   ·rintro i zs k a F G r M S ⟨⟨J,L,rfl⟩,rfl,d,l,Aj⟩ m;have U:i<xs.length:=(Qd.mp M).1;have W:D≠r:=Ze l m;have N:ZG H (upd a r (.tup [F,G])):=d.trans (Zh m _);refine⟨r,_,rfl,SqT.of Zc,rfl,_,_,rfl,_,_,rfl,rfl,?_⟩;refine⟨_,rfl,_,rfl,F,G,rfl,(hi i F G M S).mono N,fun X O=>?_⟩;have Y:X D=some (.lst (List.replicate i (.bl true))):=O _ _ (by rw[Zb W];exact l);refine⟨Y,(by rw[Qam];exact ZB #[2]),⟨_,_,rfl⟩,?_,?_,Zc,U⟩
    ·rw[List.replicate_succ']
    ·intro b o e;have Z:=O b o (N b o e);rw[Zb (fun z=>by subst z;exact nomatch (I b o e).symm.trans u)];exact Z
   ·rintro zs k a ⟨_,rfl,d,l,_⟩;refine⟨D,List.replicate (min xs.length ys.length) true,rfl,SqL.of (by rw[List.map_replicate];exact l),?_⟩;have e:(List.replicate (min xs.length ys.length) true).all id=true:=by rw[Qa8];intro b hb;exact(List.eq_of_mem_replicate hb)
    rw[e];exact q a d
  ·have j:(upd H c (.tup (["list", "tuple"].map V.ty))) p=some (.tup xs):=by rw[Zb (Ze B v)];exact B
   have g:(upd H c (.tup (["list", "tuple"].map V.ty))) t=some (.tup ys):=by rw[Zb (Ze C v)];exact C
   refine⟨_,c,["list", "tuple"],_,_,rfl,Zc,.tup g,ZlE K,_,rfl,Xz ?_⟩;refine⟨_,rfl,_, "list",_,_,rfl,.tup j,Mu K,_,rfl,_, "list",_,_,rfl,.tup g,Mu K,rfl,_,rfl,WZ rfl ?_⟩;refine⟨_,rfl,_, "tuple",_,_,rfl,.tup j,Mt K,_,rfl,_, "tuple",_,_,rfl,.tup g,Mt K,rfl,_,rfl,WZ rfl ?_⟩;refine⟨_,rfl,p,xs,rfl,.inr (SqT.of j),_,rfl,t,ys,rfl,.inr (SqT.of g),rfl,_,rfl,Yk (by rw[hl]) ?_⟩;refine⟨_,rfl,_,rfl,.t p,.t t,xs,ys,rfl,SqT.of j,SqT.of g,fun D u=>?_⟩;have I:ZG H (upd H c (.tup (["list", "tuple"].map V.ty))):=Zh v _;refine NG (K:=K) (xs:=xs) (ys:=ys) (fun i zs k a=>(∃J L,k=[some (.ref p),some (.ref t),J,L])∧zs=List.replicate i (.bl true)∧ZG H a∧a D=some (.lst zs)∧i≤xs.length) ?_ ?_ ?_ ?_
   ·exact⟨⟨none,none,rfl⟩,rfl,I.trans (Zh u _),Zc,Qs _⟩
   ·rintro i zs k a ⟨_,_,d,_⟩;exact⟨SqT.of (d _ _ B),SqT.of (d _ _ C)⟩
   ·rintro i zs k a F G r M S ⟨⟨J,L,rfl⟩,rfl,d,l,Aj⟩ m;have U:i<xs.length:=(Qd.mp M).1;have W:D≠r:=Ze l m;have N:ZG H (upd a r (.tup [F,G])):=d.trans (Zh m _);refine⟨r,_,rfl,SqT.of Zc,rfl,_,_,rfl,_,_,rfl,rfl,?_⟩;refine⟨_,rfl,_,rfl,F,G,rfl,(hi i F G M S).mono N,fun X O=>?_⟩;have Y:X D=some (.lst (List.replicate i (.bl true))):=O _ _ (by rw[Zb W];exact l);refine⟨Y,(by rw[Qam];exact ZB #[2]),⟨_,_,rfl⟩,?_,?_,Zc,U⟩
    ·rw[List.replicate_succ']
    ·intro b o e;have Z:=O b o (N b o e);rw[Zb (fun z=>by subst z;exact nomatch (I b o e).symm.trans u)];exact Z
   ·rintro zs k a ⟨_,rfl,d,l,_⟩;refine⟨D,List.replicate (min xs.length ys.length) true,rfl,SqL.of (by rw[List.map_replicate];exact l),?_⟩;have e:(List.replicate (min xs.length ys.length) true).all id=true:=by rw[Qa8];intro b hb;exact(List.eq_of_mem_replicate hb)
    rw[e];exact q a d
theorem Y3.new{H:Hp}{p l:Addr}{c:Int}{o:HO}(h:Y3 H p c)(n:H l=none):Y3 (upd H l o) p c:=by obtain⟨a,b,d,c0⟩:=h;exact⟨a,b,by rw[Zb (Ze d n)];exact d,c0⟩
theorem Y3.ge{H:Hp}{p:Addr}{c:Int}(h:Y3 H p c):0≤c:=by obtain⟨a,b,hp,c0⟩:=h;exact c0
theorem Y3.here{H:Hp}{p:Addr}{c:Int}(h:Y3 H p c):∃o,H p=some o:=by obtain⟨a,b,d,c0⟩:=h;exact⟨_,d⟩
theorem Y3.at{H:Hp}{p l:Addr}{c:Int}{o:HO}(h:Y3 H p c)(n:p≠l):Y3 (upd H l o) p c:=by obtain⟨a,b,d,c0⟩:=h;exact⟨a,b,by rw[Zb n];exact d,c0⟩
theorem Mo:∀ss:List Str,(∀s∈ss,AZ s)→PyData.canLayAll0 (ss.map PyData.str)=true
 | [],_=>rfl
 | x::r,h=>by simp[PyData.canLayAll0,PyData.canLay0,(h x #[4]).ok,Mo r fun s a=>h s (List.mem_cons_of_mem _ a)]
theorem Mn:∀ss:List Str,PyData.depthAll (ss.map PyData.str)=0
 | []=>rfl
 | _::r=>by simp[PyData.depthAll,PyData.depth,Mn r]
theorem PR(ss:List Str)(h:∀s∈ss,AZ s):SeqAt.shaped (.list (ss.map PyData.str))=true:=by simp[SeqAt.shaped,PyData.canLay0,PyData.depth,Mo ss h,Mn]
theorem U9{K:#[7]}{H:Hp}:∀ss:List Str,DVs K H (ss.map V.str) (ss.map PyData.str)
 | []=>.nil
 | s::r=>.cons (.str s) (U9 r)
def PQ:Sp:=fun vs H Q _=>∃ (p l:Addr) (c a:Int) (ss:List Str),vs=[.ref p,.ref l,.int a]∧Y3 H p c∧c<2 ^ 40∧0≤a∧a≤60∧H l=some (.lst (ss.map V.str))∧1≤ss.length∧ss.length≤4∧(∀s∈ss,s.length≤24∧AZ s) ∧
 ∀ (r:Addr) (d:List Str) (e:Int) (b:Hp),H r=none→b r=some (.lst (d.map V.str))→(d.length:Int)≤a→(∀s∈d,s.length≤28∧AZ s)→Y3 b p e→c≤e→e≤c+600→But p H b→Q (.ref r) b
theorem Zoh(T:Z9 K mg ah aa ae al aj af ak)(S:Df P w K mg base 2 "_law_pick" ["_law_left_here", "_law_many_here"] VG)(gw:Df P w K mg base 3 "_law_key" ["_law_left_here", "_law_stems_here"] PU):Df P w K mg base 4 "_law_keys" ["_law_left_here", "_law_stems_here", "_law_most"] PQ:=by
 refine T.t_l_keys.df Us (fun vs H Q E h=>?_) (fun am f A outer s H vs Q E y h=>?_)
 ·obtain⟨p,l,c,L,ss,rfl,_⟩:=h;rfl
 obtain⟨p,l,c,L,ss,rfl,M,c1,m0,m1,U,n1,n4,jp,q⟩:=h;refine⟨_,#[Zf,#[Zx,3,Us.nd,#[3],#[Z2,#[Zd]]],#[Zf,#[Ya,PassesOwn.never,#[W7,T.b.n_range,#[Za,#[Zw,S,y,#[Za,‹0›,#[Za,#[ZJ,YS,‹2›,#[Zj]],#[Zd]]],#[5]],#[Zd]]],#[ZD,4,Us.nd,#[3]],#[Zf,#[Zx,5,Us.nd,#[3],#[Zw,gw,y,#[Za,‹0›,#[Za,‹1›,#[Zd]]],#[5]]],#[Zf,#[ZO,(@PW.pt _ _ _ #[Xu,#[Zn,(@neD _ K _ y #[5]),‹3›,#[Z2,#[Zd]],(Zu _)],#[Xi,#[Zn,YI,#[Zw,S,y,#[Za,‹0›,#[Za,#[Zj],#[Zd]]],#[5]],#[Zj],(Zu _)]]]),#[Zi,#[Zx,5,Us.nd,#[3],#[Zr,(ixL K),‹3›,#[Zw,S,y,#[Za,‹0›,#[Za,#[Zk,(YB K),#[5],T.b.n_len,Qu,#[Za,‹3›,#[Zd]]],#[Zd]]],#[5]]]]],#[ZE]],#[Zi,#[YD,#[XO,QJ,QT,QU,Wq,‹3›,#[Za,‹5›,#[Zd]]]]]]]],#[Zi,#[Zo,‹3›]]]],?_⟩;have c0:=M.ge;refine⟨(by show 0≤sizeLine;decide),fun r m=>?_⟩;have B:p≠r:=by obtain⟨o,ho⟩:=M.here;exact Ze ho m
 have vB:l≠r:=Ze U m;have fB:p≠l:=by
  obtain⟨a,b,hp,_⟩:=M;refine Sw hp U fun e=>?_;cases ss with
  | nil=>exact absurd (congrArg List.length (HO.lst.inj e)) #[4]
  | cons x r=>exact absurd (HO.lst.inj e) (by intro z;cases z)
 refine⟨_,rfl,_,rfl,_,_,rfl,rfl,p,c,_,rfl,M.new m,by lia,by lia,by lia,fun n H1 w0 w1 L1 B1=>?_⟩;refine⟨_,rfl,by lia,by lia,?_⟩;have eA:H1 r=some (.lst []):=B1 r _ Zc B.symm;have Ak:But p H H1:=(But.same (Zh m _)).trans B1;refine Vv (fun i W t=>∃ (g:List Str) (C D:Option V) (c2:Int),W=[some (.ref p),some (.ref l),some (.int L),some (.ref r),C,D]∧t r=some (.lst (g.map V.str))∧g.length=i∧(∀s∈g,s.length≤28∧AZ s)∧Y3 t p c2∧c+1≤c2∧c2≤c+1+8*i∧(∀b o,H b=some o→b≠p→t b=some o)) ⟨[],none,none,c+1,rfl,eA,rfl,(fun s hs=>by cases hs),L1,by lia,by lia,Ak⟩ ?_ ?_
 ·rintro i W t hi ⟨g,C,D,c2,rfl,X,Y,F,L2,a1,a2,N⟩;have CY:(i:Int)<61:=by lia
  have aU:=N l _ U fB.symm;refine⟨_,rfl,_,rfl,p,l,c2,ss,rfl,L2,by lia,aU,n1,n4,jp,fun G c3 H3 eC qq L3 a3 a4 B3=>?_⟩;have du:=B3 r _ X B.symm;have j:∀ (k2:Str) (c4:Int) (k:Hp),k2.length≤28∧AZ k2→Y3 k p c4→c2≤c4→c4≤c2+8→k r=some (.lst (g.map V.str))→(∀b o,H b=some o→b≠p→k b=some o) →
    ∃ (Z:List Str) (C D:Option V) (c5:Int),[some (V.ref p),some (V.ref l),some (V.int L),some (V.ref r),some (V.int (0+(i:Int))),some (V.str k2)]=[some (.ref p),some (.ref l),some (.int L),some (.ref r),C,D] ∧
     (upd k r (.lst (g.map V.str++[.str k2]))) r=some (.lst (Z.map V.str))∧Z.length=i+1∧(∀s∈Z,s.length≤28∧AZ s)∧Y3 (upd k r (.lst (g.map V.str++[.str k2]))) p c5∧c+1≤c5∧c5≤c+1+8*((i+1:Nat):Int) ∧
     (∀b o,H b=some o→b≠p→(upd k r (.lst (g.map V.str++[.str k2]))) b=some o):=fun k2 c4 k hk L4 b1 b2 lm B4=>by
   refine⟨g++[k2],_,_,c4,rfl,?_,by rw[Qr,Y];rfl,?_,L4.at B,by lia,by lia,fun b o e n=>?_⟩
   ·rw[Zc,Qf];rfl
   ·intro x hx;rcases Qo.mp hx with hx|hx
    ·exact F x hx
    ·rw[Ql.mp hx];exact hk
   ·rw[Zb (Ze e m)];exact B4 b o e n
  have au:(g.map V.str).length<sizeLine:=by rw[Qa,Y];exact ZB #[2]
  refine⟨_,rfl,(by show 0≤sizeLine;decide),fun e O=>?_⟩;have I:(upd H3 e (.lst [])) r=some (.lst (g.map V.str)):=by rw[Zb (Ze du O)];exact du
  refine⟨.list (g.map PyData.str),.list [],.lst (SqL.of I) (U9 g),.lst (SqL.of Zc) .nil,PR g (fun s h=>(F s h).2),#[1],_,rfl,?_⟩;have sj:∀b o,H b=some o→b≠p→(upd H3 e (.lst [])) b=some o:=fun b o z n=>Zh O _ b o (B3 b o (N b o z n) n);cases g with
  | nil =>
   have ev:(if true=true then !PyData.eqv (.list (([]:List Str).map PyData.str)) (.list []) else PyData.eqv (.list (([]:List Str).map PyData.str)) (.list []))=false:=by ac_rfl
   rw[ev];refine YY (YY ?_);refine⟨_,rfl,.inl ⟨rfl,_,SqL.of I⟩,_,rfl,r,_,_,rfl,rfl,I,au,?_⟩;exact j G c3 _ ⟨eC,qq⟩ (L3.new O) #[2] #[2] I sj
  | cons u v =>
   have ev:(if true=true then !PyData.eqv (.list ((u::v).map PyData.str)) (.list []) else PyData.eqv (.list ((u::v).map PyData.str)) (.list []))=true:=by simp[PyData.eqv,PyData.eqvAll]
   rw[ev];refine Xz ⟨_,rfl,p,c3,_,rfl,L3.new O,by lia,by decide,by decide,fun d H5 d0 d1 L5 B5=>?_⟩;have J:=B5 r _ I B.symm;refine⟨rfl,_,rfl,YX (fun _=>?_) (fun _=>?_)⟩
   ·have aw:((((u::v).map V.str).length:Nat):Int)=((u::v).length:Int):=by rw[Qa]
    have fV:(0:Int)<((u::v).length:Int):=by simp
    refine⟨_,rfl,_,rfl,_,rfl,r,_,rfl,.inl (SqL.of J),p,c3+1,_,rfl,L5,by lia,by lia,by lia,fun d' H6 Al jV L6 B6=>?_⟩;obtain⟨st,eQ,dF⟩:=P0 (ss:=u::v) Al #[2];have R:=B6 r _ J B.symm;refine⟨r,_,_,_,rfl,rfl,SqL.of R,dF,?_⟩;refine⟨_,rfl,.inl ⟨rfl,_,SqL.of R⟩,_,rfl,r,_,_,rfl,rfl,R,au,?_⟩;exact j st _ _ (F st eQ) L6 #[2] #[2] R fun b o z n=>B6 b o (B5 b o (sj b o z n) n) n
   ·refine⟨_,rfl,.inl ⟨rfl,_,SqL.of J⟩,_,rfl,r,_,_,rfl,rfl,J,au,?_⟩;exact j G _ _ ⟨eC,qq⟩ L5 #[2] #[2] J fun b o z n=>B5 b o (sj b o z n) n
 ·rintro W t ⟨g,C,D,c2,rfl,X,Y,F,L2,a1,a2,N⟩;exact⟨_,rfl,q r g c2 t m X #[2] F L2 #[2] #[2] N⟩
noncomputable def Xq(ss:List Str)(i:Nat):Int:=if i=0 then 0 else (lcp (cds (ss.getD (i-1) "")) (cds (ss.getD i "")):Nat)
def PP(K:#[7]):Sp:=fun vs H Q _=>∃ (a:Addr) (ss:List Str),vs=[.ref a]∧SqL K H a (ss.map V.str)∧ss.length≤100∧(∀s∈ss,s.length≤1000) ∧
 ∀ (r:Addr) (b:Hp),H r=none→b r=some (.lst ((List.range ss.length).map fun j=>.int (Xq ss j)))→ZG H b→Q (.ref r) b
theorem ZlK(T:Z9 K mg ah aa ae al aj af ak)(O:Df P w K mg base 2 "alike" ["one", "other"] Wi):Df P w K mg base 3 "alikes" ["row"] (PP K):=by
 refine T.t_alikes.df Tq (fun R H Q E h=>?_) (fun am f A outer s H R Q E S h=>?_)
 ·obtain⟨a,c,rfl,_⟩:=h;rfl
 obtain⟨a,c,rfl,v,hn,G,q⟩:=h;refine⟨_,#[Zf,#[Zx,1,Tq.nd,#[3],#[Z2,#[Zd]]],#[Zf,#[Ya,PassesOwn.never,#[iE,K,T.b.n_enumerate,#[Za,‹0›,#[Zd]]],#[gT,K,2,#[ZC,#[ZD,2,Tq.nd,#[3]],#[ZC,#[ZD,3,Tq.nd,#[3]],(@Yb _)]]],#[Zi,#[YD,#[XO,QJ,QT,QU,Wq,‹1›,#[Za,#[Xn,#[Zn,YI,‹2›,#[Zj],(Zu _)],#[Zj],#[Zw,O,S,#[Za,#[Zr,(ixL K),‹0›,#[ZJ,WJ,‹2›,#[Zj]]],#[Za,‹3›,#[Zd]]],#[5]]],#[Zd]]]]]],#[Zi,#[Zo,‹1›]]]],?_⟩;refine⟨(by show 0≤sizeLine;decide),fun r B=>?_⟩;have I:ZG H (upd H r (.lst [])):=Zh B _;refine⟨_,rfl,a,c.map V.str,rfl,I.seq v,?_⟩;refine R5 (K:=K) (a:=a) (xs:=c.map V.str) (fun i C d=>(∃g k:Option V,C=[some (.ref a),some (.ref r),g,k])∧d r=some (.lst ((List.range i).map fun j=>.int (Xq c j)))∧ZG H d∧i≤c.length) ⟨⟨none,none,rfl⟩,Zc,I,Qs _⟩ (fun _ _ _ U=>by obtain⟨_,_,l,_⟩:=U;exact l.seq v) ?_ ?_
 ·rintro i x C d p m ⟨⟨g,k,rfl⟩,n,l,W⟩ J;rw[Qk]at m;cases t:c[i]? with
  | none=>rw[t]at m;cases m
  | some y =>
   rw[t]at m;cases m;have X:i<c.length:=(Qd.mp t).1;have Y:r≠p:=Ze n J;have L:ZG H (upd d p (.tup [.int i,.str y])):=l.trans (Zh J _);have D:(upd d p (.tup [.int i,.str y])) r=some (.lst ((List.range i).map fun j=>.int (Xq c j))):=by rw[Zb Y];exact n
   have M:((List.range i).map fun j=>V.int (Xq c j)).length<sizeLine:=by rw[Qa,List.length_range];exact ZB #[2]
   have u:∀z:Int,z=Xq c i→(∃g k:Option V,[some (V.ref a),some (V.ref r),some (V.int i),some (V.str y)]=[some (.ref a),some (.ref r),g,k]) ∧
     (upd (upd d p (.tup [.int i,.str y])) r (.lst (((List.range i).map fun j=>.int (Xq c j))++[.int z]))) r=some (.lst ((List.range (i+1)).map fun j=>.int (Xq c j))) ∧
     ZG H (upd (upd d p (.tup [.int i,.str y])) r (.lst (((List.range i).map fun j=>.int (Xq c j))++[.int z])))∧i+1≤c.length:=fun z e=>by
    refine⟨⟨_,_,rfl⟩,?_,fun b o h=>?_,X⟩
    ·rw[Zc,QaP,Qf,e];rfl
    ·rw[Zb (Ze h B)];exact L b o h
   refine⟨p,_,rfl,SqT.of Zc,rfl,_,_,rfl,_,_,rfl,rfl,?_⟩;refine⟨_,rfl,.inl ⟨rfl,_,SqL.of D⟩,_,rfl,rfl,_,rfl,?_⟩;by_cases N:i=0
   ·subst N;exact Yk rfl ⟨r,_,_,rfl,rfl,D,M,u 0 rfl⟩
   ·have F:i-1<c.length:=by lia
    have Z:((i:Int)-1)=((i-1:Nat):Int):=by lia
    have bw:atI (c.map V.str) ((i:Int)-1)=some (.str c[i-1]):=by rw[Z];exact Yr (by rw[Qk,Qb F]<;>rfl)
    refine YF (fun z=>by injection z with z;lia) ⟨_,rfl,_,rfl,_,_,rfl,rfl,a,_,_,_,rfl,rfl,L.seq v,bw,_,rfl,c[i-1],y,rfl,G _ (Q4 F),G _ (Qv t),r,_,_,rfl,rfl,D,M,u _ ?_⟩;unfold Xq;rw[if_neg N,QE,QE,Qb F,t];rfl
 ·rintro C d ⟨⟨g,k,rfl⟩,n,l,W⟩;rw[Qa]at n;exact⟨_,rfl,q r d B n l⟩
noncomputable def ZR:List Nat→List Nat→Int
 | [],[]=>0
 | [],_::_ =>-1
 | _::_,[]=>1
 | a::r,b::s=>if a=b then ZR r s else if a<b then -1 else 1
theorem Mm:∀ (x y:List Nat),Spec.ltCps y x=false→ZR x y≤0
 | [],[],_=>by unfold ZR;lia
 | [],_::_,_=>by unfold ZR;lia
 | _::_,[],h=>by unfold Spec.ltCps at h;cases h
 | a::r,b::s,h=>by
  have c:=Mm r s;unfold Spec.ltCps at h;unfold ZR;rw[Bool.or_eq_false_iff,Bool.and_eq_false_iff]at h;obtain⟨d,f⟩:=h;have oY:¬ b<a:=of_decide_eq_false d;by_cases e:a=b
  ·rw[if_pos e];rcases f with z|z
   ·rw[e]at z;simp at z
   ·exact c z
  ·rw[if_neg e,if_pos #[2]];lia
theorem Tf:∀ (x y z:List Nat),ZR x y≤0→ZR y z≤0→ZR x z≤0
 | [],_,[],_,_=>by unfold ZR;lia
 | [],_,_::_,_,_=>by unfold ZR;lia
 | _::_,[],_,h,_=>by unfold ZR at h;lia
 | _::_,_::_,[],_,h=>by unfold ZR at h;lia
 | a::r,b::s,c::t,h1,h2=>by
  unfold ZR at h1 h2 ⊢;have g:=Tf r s t;by_cases f:a=b
  ·rw[if_pos f]at h1;by_cases d:b=c
   ·rw[if_pos d]at h2;rw[if_pos (f.trans d)];exact g h1 h2
   ·rw[if_neg d]at h2;rw[if_neg (fun e=>d (f.symm.trans e))];split at h2
    ·rw[if_pos #[2]];lia
    ·lia
  ·rw[if_neg f]at h1;split at h1
   ·by_cases d:b=c
    ·rw[if_neg (fun e=>f (e.trans d.symm)),if_pos #[2]];lia
    ·rw[if_neg d]at h2;split at h2
     ·rw[if_neg #[2],if_pos #[2]];lia
     ·lia
   ·lia
theorem Ml:∀ (ss:List Str) (p:Str),risingS p ss=true→∀ (k:Nat) (x y:Str),(p::ss)[k]? = some x→ss[k]? = some y→ZR (cds x) (cds y)≤0
 | [],p,_,k,x,y,_,h=>by simp at h
 | z::r,p,h,0,x,y,h1,h2=>by unfold risingS at h;rw[Qa7]at h;simp at h1 h2;subst h1 h2;exact Mm _ _ (by simpa using h.1)
 | z::r,p,h,k+1,x,y,h1,h2=>by unfold risingS at h;rw[Qa7]at h;exact Ml r z h.2 k x y (by simpa using h1) (by simpa using h2)
theorem Mj{ss:List Str}(h:sortedS ss=true)(k:Nat)(x y:Str)(h1:ss[k]? = some x)(h2:ss[k+1]? = some y):ZR (cds x) (cds y)≤0:=by
 cases ss with
 | nil=>simp at h1
 | cons p r=>exact Ml r p h k x y h1 (by simpa using h2)
theorem Mi:∀ss:List Str,PyData.eqvAll (ss.map PyData.str) (ss.map PyData.str)=true
 | []=>by simp[PyData.eqvAll]
 | x::r=>by simp[PyData.eqvAll,PyData.eqv,Mi r]
theorem Me(ss:List Str):PyData.eqv (.list (ss.map PyData.str)) (.list (ss.map PyData.str))=true:=by simp[PyData.eqv,Mi ss]
theorem Md{ss:List Str}{k:Nat}(h:k<ss.length):atI (ss.map V.str) (k:Int)=some (.str ss[k]):=Yr (by rw[Qk,Qb h]<;>rfl)
theorem Y3.same{H a:Hp}{p:Addr}{c:Int}(h:Y3 H p c)(s:ZG H a):Y3 a p c:=by obtain⟨b,d,hb,c0⟩:=h;exact⟨b,d,s _ _ hb,c0⟩
noncomputable def mid(ns:List Int):Nat:=(ns.length+1) / 2
noncomputable def XX(ns:List Int):List Int:=ns.take (mid ns)
noncomputable def WV(ns:List Int):List Int:=ns.drop (mid ns)
theorem Mc(ns:List Int):((((ns.map V.int).length:Nat):Int)+1) / 2=((mid ns:Nat):Int):=by rw[Qa];unfold mid;lia
theorem PN{ns:List Int}{k:Int}(h0:0≤k)(h:k<(ns.length:Int)):∃v∈ns,atI (ns.map V.int) k=some (.int v):=by
 have a:k.toNat<ns.length:=by lia
 have b:k=((k.toNat:Nat):Int):=by lia
 have q:atI (ns.map V.int) ((k.toNat:Nat):Int)=some (.int ns[k.toNat]):=Yr (by rw[Qk,Qb a]<;>rfl);rw[← b]at q;exact⟨_,Q4 a,q⟩
theorem Mb(ns:List Int)(m:Nat)(h:m≤ns.length):WH (ns.map V.int) none (some (m:Int))=(ns.take m).map V.int:=by
 unfold WH;have e:HT.sIx (ns.map V.int).length (ns.map V.int).length (some (m:Int))=m:=by unfold HT.sIx;simp only[List.length_map];rw[if_neg #[2]];lia
 have a:HT.sIx (ns.map V.int).length 0 none=0:=rfl;rw[e,a,List.drop_zero,Nat.sub_zero,List.map_take]
theorem Ma(ns:List Int)(m:Nat)(h:m≤ns.length):WH (ns.map V.int) (some (m:Int)) none=(ns.drop m).map V.int:=by
 unfold WH;have e:HT.sIx (ns.map V.int).length 0 (some (m:Int))=m:=by unfold HT.sIx;simp only[List.length_map];rw[if_neg #[2]];lia
 have a:HT.sIx (ns.map V.int).length (ns.map V.int).length none=(ns.map V.int).length:=rfl;rw[e,a,List.map_drop,QC (by rw[QZ,Qa];lia)]
theorem L8(z:Str):(cds z).length=z.length:=by simp[Str.length]
theorem L7:∀ (x y:List Nat),(lcp x y=x.length→lcp x y=y.length→ZR x y=0)∧(lcp x y=x.length→lcp x y≠y.length→ZR x y = -1)∧(lcp x y≠x.length→lcp x y=y.length→ZR x y=1) ∧
  ∀a b,x[lcp x y]? = some a→y[lcp x y]? = some b→ZR x y=if a<b then -1 else 1
 | [],[]=>⟨fun _ _=>rfl,fun _ h=>absurd rfl h,fun h _=>absurd rfl h,fun a b h _=>by simp at h⟩
 | [],_::_=>⟨fun _ h=>by unfold lcp at h;simp at h,fun _ _=>rfl,fun h _=>absurd rfl h,fun a b h _=>by simp at h⟩
 | _::_,[]=>⟨fun h _=>by unfold lcp at h;simp at h,fun h _=>by unfold lcp at h;simp at h,fun _ _=>rfl,fun a b _ h=>by simp at h⟩
 | a::r,b::s=>by
  obtain⟨h1,h2,f,g⟩:=L7 r s;unfold lcp ZR;by_cases e:a=b
  ·rw[if_pos e,if_pos e];simp only[List.length_cons,List.getElem?_cons_succ];exact⟨fun p q=>h1 #[2] #[2],fun p q=>h2 #[2] #[2],fun p q=>f #[2] #[2],g⟩
  ·rw[if_neg e,if_neg e];simp only[List.length_cons,List.getElem?_cons_zero];refine⟨fun p=>by lia,fun p=>by lia,fun _ p=>by lia,fun c d p q=>?_⟩;cases p;cases q;rfl
theorem Wh:∀ (x y:List Nat),ZR y x =-ZR x y
 | [],[]=>rfl
 | [],_::_=>rfl
 | _::_,[]=>rfl
 | a::r,b::s=>by
  have c:=Wh r s;unfold ZR;by_cases e:a=b
  ·rw[if_pos e,if_pos e.symm,c]
  ·rw[if_neg e,if_neg fun z=>e z.symm];by_cases l:a<b
   ·rw[if_pos l,if_neg #[2]];rfl
   ·rw[if_neg l,if_pos #[2]]
theorem Zp5(a b:Nat):decide ((⟨#[a]⟩:Str).cps.toList<(⟨#[b]⟩:Str).cps.toList)=decide (a<b):=by
 have e:([a]:List Nat)<[b]↔a<b:=by
  constructor
  ·intro h;cases h with
   | rel h=>exact h
   | cons h=>cases h
  ·exact fun h=>List.Lex.rel h
 exact decide_eq_decide.mpr e
theorem LZ:∀x:List Nat,ZR x x=0
 | []=>rfl
 | a::r=>by unfold ZR;rw[if_pos rfl];exact LZ r
theorem PM:∀ (x y:List Nat),ZR x y=0→x=y
 | [],[],_=>rfl
 | [],_::_,h=>by unfold ZR at h;lia
 | _::_,[],h=>by unfold ZR at h;lia
 | a::r,b::s,h=>by
  unfold ZR at h;by_cases e:a=b
  ·rw[if_pos e]at h;rw[e,PM r s h]
  ·rw[if_neg e]at h;split at h<;>lia
def PL:Sp:=fun vs H Q _=>∃x y:Str,vs=[.str x,.str y]∧x.length≤1000∧y.length≤1000∧Q (.int (ZR (cds x) (cds y))) H
def Te:Sp:=fun vs H Q _=>∃x y:Str,vs=[.str x,.str y,.int (lcp (cds x) (cds y):Nat)]∧x.length≤1000∧y.length≤1000∧Q (.int (ZR (cds x) (cds y))) H
theorem Zm9(T:Z9 K mg ah aa ae al aj af ak):Df P w K mg base 1 "order_at" ["one", "other", "at"] Te:=by
 refine T.t_order_at.df ZiN (fun r H Q E h=>?_) (fun am f A outer s H r Q E hr h=>?_)
 ·obtain⟨x,y,rfl,_⟩:=h;rfl
 obtain⟨x,y,rfl,g,i,q⟩:=h;refine⟨_,#[Zf,#[ZO,(@PW.pt _ _ _ #[Xu,#[Zn,YI,‹2›,#[Zk,Wr,#[5],T.b.n_len,Qu,#[Za,‹0›,#[Zd]]],(Zu _)],#[Xi,#[Zn,YI,‹2›,#[Zk,Wr,#[5],T.b.n_len,Qu,#[Za,‹1›,#[Zd]]],(Zu _)]]]),#[Zi,#[Zo,#[Zj]]],#[ZE]],#[Zf,#[ZO,#[Zn,YI,‹2›,#[Zk,Wr,#[5],T.b.n_len,Qu,#[Za,‹0›,#[Zd]]],(Zu _)],#[Zi,#[Zo,(@US _ _ _ _ _ _ UR #[Zj])]],#[ZE]],#[Zf,#[ZO,#[Zn,YI,‹2›,#[Zk,Wr,#[5],T.b.n_len,Qu,#[Za,‹1›,#[Zd]]],(Zu _)],#[Zi,#[Zo,#[Zj]]],#[ZE]],#[Zi,#[Zo,#[Xn,#[Zn,Zlb,#[Zr,VT,‹0›,‹2›],#[Zr,VT,‹1›,‹2›],(Zu _)],(@US _ _ _ _ _ _ UR #[Zj]),#[Zj]]]]]]],?_⟩;obtain⟨t,u,v,B⟩:=L7 (cds x) (cds y);have ll:=Vc (cds x) (cds y);have lx:=L8 x;have ly:=L8 y;have inj:∀ {m n:Nat},V.int (m:Int)=V.int (n:Int)→m=n:=fun {m n} e=>by injection e with e;lia
 refine⟨_,rfl,_,rfl,x,rfl,XY g,rfl,_,rfl,YX (fun d=>?_) (fun d=>?_)⟩
 ·have j:=inj (of_decide_eq_true d);refine⟨_,rfl,_,rfl,y,rfl,XY i,rfl,_,rfl,YX (fun c=>?_) (fun c=>?_)⟩
  ·have l:=inj (of_decide_eq_true c);rw[t #[2] #[2]]at q;exact q
  ·have l:¬ lcp (cds x) (cds y)=y.length:=fun e=>c (by rw[e];exact decide_eq_true rfl);refine⟨_,rfl,_,rfl,x,rfl,XY g,rfl,_,rfl,Yk (by rw[j]) ?_⟩;rw[u #[2] #[2]]at q;exact⟨_,rfl,q⟩
 ·have j:¬ lcp (cds x) (cds y)=x.length:=fun e=>d (by rw[e];exact decide_eq_true rfl);refine YY ⟨_,rfl,_,rfl,x,rfl,XY g,rfl,_,rfl,YF (fun e=>j (inj e)) ?_⟩;refine⟨_,rfl,_,rfl,y,rfl,XY i,rfl,_,rfl,YX (fun c=>?_) (fun c=>?_)⟩
  ·have l:=inj (of_decide_eq_true c);rw[v #[2] #[2]]at q;exact q
  ·have l:¬ lcp (cds x) (cds y)=y.length:=fun e=>c (by rw[e];exact decide_eq_true rfl);obtain⟨a,o,C⟩:=VF (z:=x) (k:=(lcp (cds x) (cds y):Nat)) #[2] #[2];obtain⟨b,p,D⟩:=VF (z:=y) (k:=(lcp (cds x) (cds y):Nat)) #[2] #[2];rw[Int.toNat_natCast]at o p;refine⟨_,rfl,_,rfl,x,_,a,rfl,rfl,XY g,C,_,rfl,_,rfl,y,_,b,rfl,rfl,XY i,D,_,_,rfl,rfl,_,rfl,?_⟩;rw[Zp5];rw[B a b o p]at q;refine YX (fun e=>?_) (fun e=>?_)
   ·rw[if_pos (of_decide_eq_true e)]at q;exact⟨_,rfl,q⟩
   ·rw[if_neg (fun z=>e (decide_eq_true z))]at q;exact q
theorem Znh(T:Z9 K mg ah aa ae al aj af ak)(d:Df P w K mg base 2 "alike" ["one", "other"] Wi)(e:Df P w K mg base 1 "order_at" ["one", "other", "at"] Te):Df P w K mg base 3 "liken" ["one", "other"] PL:=by
 refine T.t_liken.df Zm1 (fun g H Q E h=>?_) (fun am f A outer s H g Q E a h=>?_)
 ·obtain⟨x,y,rfl,_⟩:=h;rfl
 obtain⟨x,y,rfl,b,c,q⟩:=h;refine⟨_,#[Zi,#[Zo,#[Zw,e,a,#[Za,‹0›,#[Za,‹1›,#[Za,#[Zw,d,a,#[Za,‹0›,#[Za,‹1›,#[Zd]]],#[5]],#[Zd]]]],#[5]]]],?_⟩;exact⟨_,rfl,_,rfl,_,rfl,_,rfl,x,y,rfl,b,c,x,y,rfl,b,c,q⟩
theorem Td{c A B:Prop}[Decidable c](hc:¬ c)(h:A):if (!decide c)=true then A else B:=by rw[if_pos (by rw[decide_eq_false hc];rfl)];exact h
def PH:Sp:=fun vs H Q _=>∃ (x y:Str) (a:Nat),vs=[.str x,.str y,.int a]∧x.length≤1000∧y.length≤1000∧a≤lcp (cds x) (cds y) ∧
 ∀t,H t=none→Q (.ref t) (upd H t (.tup [.int (ZR (cds x) (cds y)),.int (lcp (cds x) (cds y):Nat),.int ((lcp (cds x) (cds y):Nat)-(a:Int)+1)]))
theorem Zg1(T:Z9 K mg ah aa ae al aj af ak)(e:Df P w K mg base 1 "alike_from" ["one", "other", "far"] Th)(g:Df P w K mg base 1 "order_at" ["one", "other", "at"] Te):Df P w K mg base 2 "liken_from" ["one", "other", "far"] PH:=by
 refine T.t_liken_from.df MP (fun i H Q E h=>?_) (fun am f A outer s H i Q E a h=>?_)
 ·obtain⟨x,y,b,rfl,_⟩:=h;rfl
 obtain⟨x,y,b,rfl,c,d,j,q⟩:=h;refine⟨_,#[Zf,#[Zx,3,MP.nd,#[3],#[Zw,e,a,#[Za,‹0›,#[Za,‹1›,#[Za,‹2›,#[Zd]]]],#[5]]],#[Zi,#[Zo,#[YU,#[Za,#[Zw,g,a,#[Za,‹0›,#[Za,‹1›,#[Za,‹3›,#[Zd]]]],#[5]],#[Za,‹3›,#[Za,#[ZJ,YS,#[ZJ,WJ,‹3›,‹2›],#[Zj]],#[Zd]]]]]]]],?_⟩;refine⟨_,rfl,_,rfl,_,rfl,x,y,b,rfl,c,d,j,?_⟩;refine⟨_,rfl,_,rfl,_,rfl,x,y,rfl,c,d,?_⟩;refine⟨_,rfl,_,rfl,_,rfl,_,_,rfl,rfl,_,_,rfl,rfl,(by show 3≤sizeLine;decide),fun t k=>?_⟩;exact q t k
def Uk(ss:List Str)(v:V):Prop :=
 (v=.non∧∀i x y,ss[i+1]? = some x→ss[i]? = some y→0≤ZR (cds x) (cds y)) ∨
 ∃k:Nat,v=.int ((k+1:Nat):Int)∧k+1<ss.length∧(∀x y,ss[k+1]? = some x→ss[k]? = some y→ZR (cds x) (cds y)<0)∧∀i,i<k→∀x y,ss[i+1]? = some x→ss[i]? = some y→0≤ZR (cds x) (cds y)
theorem Zov{ss:List Str}{v g:V}(h:Uk ss v)(h':Uk ss g):v=g:=by
 rcases h with⟨rfl,a⟩|⟨k,rfl,l,b,c⟩
 ·rcases h' with⟨rfl,_⟩|⟨k',rfl,d,f,_⟩
  ·rfl
  ·have:=a k' _ _ (Qb d) (Qb #[2]);have:=f _ _ (Qb d) (Qb #[2]);lia
 ·rcases h' with⟨rfl,a⟩|⟨k',rfl,d,f,i⟩
  ·have:=a k _ _ (Qb l) (Qb #[2]);have:=b _ _ (Qb l) (Qb #[2]);lia
  ·have e:k=k':=by
    rcases Nat.lt_trichotomy k k' with h|h|h
    ·have:=i k h _ _ (Qb l) (Qb #[2]);have:=b _ _ (Qb l) (Qb #[2]);lia
    ·exact h
    ·have:=c k' h _ _ (Qb d) (Qb #[2]);have:=f _ _ (Qb d) (Qb #[2]);lia
   rw[e]
def PF(K:#[7]):Sp:=fun vs H Q _=>∃ (a:Addr) (ss:List Str),vs=[.ref a]∧SqL K H a (ss.map V.str)∧ss.length≤200∧(∀s∈ss,s.length≤1000)∧∀ (v:V) (b:Hp),Uk ss v→ZG H b→Q v b
theorem Zmm(T:Z9 K mg ah aa ae al aj af ak)(t:Df P w K mg base 3 "liken" ["one", "other"] PL):Df P w K mg base 4 "first_break" ["keys"] (PF K):=by
 refine T.t_first_break.df MO (fun u H Q E h=>?_) (fun am f A outer s H u Q E B h=>?_)
 ·obtain⟨a,b,rfl,_⟩:=h;rfl
 obtain⟨a,b,rfl,n,hn,p,q⟩:=h;refine⟨_,#[Zf,#[Ya,PassesOwn.never,(@Zl0 _ _ _ _ _ _ _ rfl T.b.n_range #[Za,#[Zj],#[Za,#[Zk,(YB K),#[5],T.b.n_len,Qu,#[Za,‹0›,#[Zd]]],#[Zd]]] #[5] #[5]),#[ZD,1,MO.nd,#[3]],#[Zi,#[ZO,#[Zn,W6,#[Zw,t,B,#[Za,#[Zr,(ixL K),‹0›,‹1›],#[Za,#[Zr,(ixL K),‹0›,#[ZJ,WJ,‹1›,#[Zj]]],#[Zd]]],#[5]],#[Zj],(Zu _)],#[Zi,#[Zo,‹1›]],#[ZE]]]],#[Zi,#[Zo,#[ZT]]]],?_⟩;have hl:(((b.map V.str).length:Nat):Int)=(b.length:Int):=by rw[Qa]
 refine⟨_,rfl,a,_,rfl,.inl n,_,_,rfl,⟨by lia,by lia,by lia,by lia⟩,?_⟩;refine Vv (fun i o k=>(∃v:Option V,o=[some (.ref a),v])∧ZG H k∧∀j,j<i→∀x y,b[j+1]? = some x→b[j]? = some y→0≤ZR (cds x) (cds y)) ⟨⟨none,rfl⟩,ZG.refl H,fun j h=>by lia⟩ ?_ ?_
 ·rintro i o k hi ⟨⟨v,rfl⟩,g,m⟩;have l:i+1<b.length:=by lia
  have r:(1+(i:Int))=((i+1:Nat):Int):=by lia
  have C:(1+(i:Int)-1)=((i:Nat):Int):=by lia
  refine⟨_,rfl,_,rfl,a,_,_,_,rfl,rfl,g.seq n,(by rw[r];exact Md l),_,rfl,_,rfl,_,_,rfl,rfl,a,_,_,_,rfl,rfl,g.seq n,(by rw[C];exact Md #[2]),b[i+1],b[i],rfl,p _ (Q4 l),p _ (Q4 #[2]),_,_,rfl,rfl,_,rfl,?_⟩;refine YX (fun d=>?_) (fun d=>?_)
  ·have D:ZR (cds b[i+1]) (cds b[i])<0:=of_decide_eq_true d;refine⟨_,rfl,q _ k (.inr ⟨i,by rw[r],l,fun x y c e=>?_,m⟩) g⟩;rw[Qb l]at c;rw[Qb #[2]]at e;cases c;cases e;lia
  ·have D:¬ ZR (cds b[i+1]) (cds b[i])<0:=fun z=>d (decide_eq_true z);refine⟨⟨_,rfl⟩,g,fun j hj x y c e=>?_⟩;by_cases F:j=i
   ·subst F;rw[Qb l]at c;rw[Qb #[2]]at e;cases c;cases e;lia
   ·exact m j #[2] x y c e
 ·rintro o k ⟨⟨v,rfl⟩,g,m⟩;refine q _ k (.inl ⟨rfl,fun j x y c e=>?_⟩) g;have:=(Qd.mp c).1;exact m j #[2] x y c e
def Wg(K:#[7])(tup:Bool):Sp:=fun vs H Q _=>∃ (a:Addr) (ns:List Int),vs=[.ref a]∧SqL K H a (ns.map V.int)∧ns.length≤100 ∧
 ∀ (t f r:Addr) (b:Hp),H t=none→H f=none→H r=none→f≠r→b t=some (if tup=true then .tup [.ref f,.ref r] else .lst [.ref f,.ref r])→b f=some (.lst ((XX ns).map V.int))→b r=some (.lst ((WV ns).map V.int))→ZG H b→t≠f→t≠r→Q (.ref t) b
theorem LY{H:Hp}{f r t:Addr}{A B T:HO}(j:H f=none)(b:(upd H f A) r=none)(a:(upd (upd H f A) r B) t=none) :
  H r=none∧H t=none∧f≠r∧t≠f∧t≠r∧(upd (upd (upd H f A) r B) t T) f=some A∧(upd (upd (upd H f A) r B) t T) r=some B∧ZG H (upd (upd (upd H f A) r B) t T):=by
 have c:f≠r:=Ze (H:=upd H f A) (o:=A) Zc b;have d:(upd (upd H f A) r B) f=some A:=by rw[Zb c];exact Zc
 have e:f≠t:=Ze d a;have g:r≠t:=Ze (H:=upd (upd H f A) r B) (o:=B) Zc a;have h:ZG H (upd H f A):=Zh j _;have i:=h.trans (Zh b B);have k:=i.trans (Zh a T);exact⟨h.free b,i.free a,c,e.symm,g.symm,by rw[Zb e];exact d,by rw[Zb g];exact Zc,k⟩
theorem Zlp(T:Z9 K mg ah aa ae al aj af ak):Df P w K mg base 1 "halves" ["numbers"] (Wg K true):=by
 refine T.t_halves.df MN (fun j H Q E h=>?_) (fun am f A outer s H j Q E hr h=>?_)
 ·obtain⟨a,b,rfl,_⟩:=h;rfl
 obtain⟨a,b,rfl,c,hn,q⟩:=h;refine⟨_,#[Zf,#[Zx,1,MN.nd,#[3],#[ZJ,TZ,#[ZJ,YS,#[Zk,(YB K),#[5],T.b.n_len,Qu,#[Za,‹0›,#[Zd]]],#[Zj]],#[Zj]]],#[Zi,#[Zo,#[YU,#[Za,#[VU,(slL K),‹0›,(@VW _),(@Vs _ _ _ ‹1›)],#[Za,#[VU,(slL K),‹0›,(@Vs _ _ _ ‹1›),(@VW _)],#[Zd]]]]]]],?_⟩;refine⟨_,rfl,a,_,rfl,.inl c,_,_,rfl,rfl,_,_,rfl,rfl,⟨by decide,by decide⟩,?_⟩;have k:mid b≤b.length∨b=[]:=by
  cases b with
  | nil=>exact .inr rfl
  | cons x r=>left;unfold mid;rw[QI];lia
 have g:mid b≤b.length:=by
  rcases k with h|h
  ·exact h
  ·subst h;decide
 have m:=Mc b;simp only[m];refine⟨_,rfl,_,rfl,_,rfl,a,_,rfl,c,fun l d=>?_⟩;refine⟨_,rfl,_,rfl,_,rfl,a,_,rfl,(Zh d _).seq c,fun r i=>⟨(by show 2≤sizeLine;decide),fun t e=>?_⟩⟩;rw[Mb b _ g]at i e ⊢;rw[Ma b _ g]at e ⊢;obtain⟨z1,z2,z3,z4,z5,z6,z7,z8⟩:=LY (T:=.tup [.ref l,.ref r]) d i e;exact q t l r _ z2 d z1 z3 Zc z6 z7 z8 z4 z5
theorem Zi7(T:Z9 K mg ah aa ae al aj af ak):Df P w K mg base 1 "_law_halves" ["_law_numbers"] (Wg K false):=by
 refine T.t_l_halves.df MM (fun j H Q E h=>?_) (fun am f A outer s H j Q E hr h=>?_)
 ·obtain⟨a,b,rfl,_⟩:=h;rfl
 obtain⟨a,b,rfl,c,hn,q⟩:=h;refine⟨_,#[Zf,#[Zx,1,MM.nd,#[3],#[ZJ,TZ,#[ZJ,YS,#[Zk,(YB K),#[5],T.b.n_len,Qu,#[Za,‹0›,#[Zd]]],#[Zj]],#[Zj]]],#[Zi,#[Zo,#[Z2,#[Za,#[VU,(slL K),‹0›,(@VW _),(@Vs _ _ _ ‹1›)],#[Za,#[VU,(slL K),‹0›,(@Vs _ _ _ ‹1›),(@VW _)],#[Zd]]]]]]],?_⟩;refine⟨_,rfl,a,_,rfl,.inl c,_,_,rfl,rfl,_,_,rfl,rfl,⟨by decide,by decide⟩,?_⟩;have k:mid b≤b.length∨b=[]:=by
  cases b with
  | nil=>exact .inr rfl
  | cons x r=>left;unfold mid;rw[QI];lia
 have g:mid b≤b.length:=by
  rcases k with h|h
  ·exact h
  ·subst h;decide
 have m:=Mc b;simp only[m];refine⟨_,rfl,_,rfl,_,rfl,a,_,rfl,c,fun l d=>?_⟩;refine⟨_,rfl,_,rfl,_,rfl,a,_,rfl,(Zh d _).seq c,fun r i=>⟨(by show 2≤sizeLine;decide),fun t e=>?_⟩⟩;rw[Mb b _ g]at i e ⊢;rw[Ma b _ g]at e ⊢;obtain⟨z1,z2,z3,z4,z5,z6,z7,z8⟩:=LY (T:=.lst [.ref l,.ref r]) d i e;exact q t l r _ z2 d z1 z3 Zc z6 z7 z8 z4 z5
def PD:Sp:=fun vs H Q _=>∃ (p:Addr) (c:Int),vs=[.ref p]∧Y3 H p c∧c<2 ^ 50∧∀ (v a:Int) (b:Hp),0≤v→v≤12→Y3 b p a→c≤a→a≤c+3→But p H b→Q (.int v) b
theorem Zpg(T:Z9 K mg ah aa ae al aj af ak)(a:Df P w K mg base 2 "_law_pick" ["_law_left_here", "_law_many_here"] VG):Df P w K mg base 3 "_law_many" ["_law_left_here"] PD:=by
 refine T.t_l_many.df ML (fun j H Q E h=>?_) (fun am f A outer s H j Q E b h=>?_)
 ·obtain⟨p,c,rfl,_⟩:=h;rfl
 obtain⟨p,c,rfl,d,c1,q⟩:=h;refine⟨_,#[Zf,#[Zx,1,ML.nd,#[3],#[Zw,a,b,#[Za,‹0›,#[Za,#[Zj],#[Zd]]],#[5]]],#[Zi,#[Zo,#[Zr,(ixL K),#[Z2,#[Za,#[Zj],#[Za,#[Zj],#[Za,#[Zj],#[Za,#[Zj],#[Za,#[Zj],#[Za,#[Zj],#[Za,#[Zw,a,b,#[Za,‹0›,#[Za,#[Zj],#[Zd]]],#[5]],#[Za,#[ZJ,YS,#[Zj],#[Zw,a,b,#[Za,‹0›,#[Za,#[Zj],#[Zd]]],#[5]]],#[Zd]]]]]]]]]],‹1›]]]],?_⟩;have c0:=d.ge;refine⟨_,rfl,p,c,_,rfl,d,by lia,by decide,by decide,fun wy H1 k l m n=>?_⟩;refine⟨_,rfl,p,c+1,_,rfl,m,by lia,by decide,by decide,fun o H2 iD vC L2 r=>?_⟩;refine⟨_,rfl,p,c+1+1,_,rfl,L2,by lia,by decide,by decide,fun t H3 J2 J3 u x=>⟨_,_,rfl,rfl,(by show 8≤sizeLine;decide),fun e g=>?_⟩⟩;obtain⟨v,y,z⟩:=PN (ns:=[2,3,4,5,6,3,o,7+t]) k l;have i:0≤v∧v≤12:=by simp only[List.mem_cons,List.not_mem_nil,or_false]at y;lia
 exact⟨_,rfl,e,_,_,_,rfl,rfl,SqL.of Zc,z,q v _ _ i.1 i.2 (u.new g) #[2] #[2] (((n.trans r).trans x).trans (But.same (Zh g _)))⟩
theorem Wf(f:Str)(v:V):∀fs:List (Str×V),(Zv f v fs).length≤fs.length+1
 | []=>Qg _
 | p::r=>by
  unfold Zv;split
  ·exact Qaj _
  ·exact Nat.succ_le_succ (Wf f v r)
noncomputable def Yx(k f:Addr)(g:Int):List (Str×V):=Zv "gone" (.int g) (Zv "fars" (.ref f) (Zv "all_keys" (.ref k) []))
theorem nGF:¬ (("fars" : Str) = "gone"):=by ac_rfl
theorem nGK:¬ (("all_keys" : Str) = "gone"):=by ac_rfl
theorem nFK:¬ (("all_keys" : Str) = "fars"):=by ac_rfl
theorem PB(k f:Addr)(g:Int):(Yx k f g).lookup ("all_keys" : Str)=some (.ref k):=by unfold Yx;rw[Zl,if_neg nGK,Zl,if_neg nFK,Zl,if_pos rfl]
theorem Uj(k f:Addr)(g:Int):(Yx k f g).lookup ("gone" : Str)=some (.int g):=by unfold Yx;rw[Zl,if_pos rfl]
theorem Tc(k f:Addr)(g:Int){m:Str}(h1:¬ m = "gone")(h2:¬ m = "fars")(a:¬ m = "all_keys"):(Yx k f g).lookup m=none:=by unfold Yx;rw[Zl,if_neg h1,Zl,if_neg h2,Zl,if_neg a];rfl
structure Tb (C:Addr) (H:Hp) (p k f:Addr) (ss:List Str) (g:Nat):Prop where
 ob:∃dx,H p=some (.ins C dx (Yx k f g))
 ks:H k=some (.lst (ss.map V.str))
 fs:H f=some (.lst ((List.range ss.length).map fun j=>.int (Xq ss j)))
def Ui(C:Addr):Sp:=fun vs H Q _=>∃ (p k f:Addr) (ss:List Str) (g:Nat),vs=[.ref p]∧Tb C H p k f ss g∧Q (.int ((ss.length:Int)-(g:Int))) H
theorem ZoO(T:Z9 K mg ah aa ae al aj af ak):Mf P w K mg base 1 ah "to_go" ["self"] (Ui ah):=by
 refine T.t_Row_to_go.mf ZiC (fun c H Q E h=>?_) (fun am f A outer s H c Q E hr h=>?_)
 ·obtain⟨p,k,f,d,g,rfl,_⟩:=h;rfl
 obtain⟨p,k,f,d,g,rfl,R,q⟩:=h;refine⟨_,#[Zi,#[Zo,#[ZJ,WJ,#[Zk,(YB K),#[5],T.b.n_len,Qu,#[Za,#[ZQ,‹0›],#[Zd]]],#[ZQ,‹0›]]]],?_⟩;obtain⟨⟨a,b⟩,e,hf⟩:=R;refine⟨_,rfl,p,ah,a,_,_,rfl,b,T.cl_Row,T.na_Row_all_keys,PB _ _ _,k,_,rfl,.inl (SqL.of e),_,rfl,p,ah,a,_,_,rfl,b,T.cl_Row,T.na_Row_gone,Uj _ _ _,_,_,rfl,rfl,?_⟩;rw[Qa];exact q
noncomputable def WD(ss:List Str)(g:Nat):V:=match ss[g]? with
 | some z=>.str z
 | none=>.non
def U8(C:Addr):Sp:=fun vs H Q _=>∃ (p k f:Addr) (ss:List Str) (g:Nat),vs=[.ref p]∧Tb C H p k f ss g∧Q (WD ss g) H
theorem Zpf(T:Z9 K mg ah aa ae al aj af ak)(i:Mf P w K mg base 1 ah "to_go" ["self"] (Ui ah)):Mf P w K mg base 2 ah "head" ["self"] (U8 ah):=by
 refine T.t_Row_head.mf ZiW (fun j H Q E h=>?_) (fun am f A outer s H j Q E l h=>?_)
 ·obtain⟨p,k,f,a,g,rfl,_⟩:=h;rfl
 obtain⟨p,k,f,a,g,rfl,R,q⟩:=h;refine⟨_,#[Zi,#[Zo,#[Xn,#[Zn,Ws,#[YN,i,T.cl_Row,l,‹0›],#[Zj],(Zu _)],#[Zr,(ixL K),#[ZQ,‹0›],#[ZQ,‹0›]],#[ZT]]]],?_⟩;obtain⟨⟨b,c⟩,m,hf⟩:=id R;refine⟨_,rfl,p,b,_,rfl,c,Tc _ _ _ #[1] #[1] #[1],p,k,f,a,g,rfl,R,_,_,rfl,rfl,_,rfl,?_⟩;refine YX (fun d=>?_) (fun d=>?_)
 ·have n:(0:Int)<(a.length:Int)-(g:Int):=of_decide_eq_true d;have e:g<a.length:=by lia
  refine⟨_,rfl,p,ah,b,_,_,rfl,c,T.cl_Row,T.na_Row_all_keys,PB _ _ _,_,rfl,p,ah,b,_,_,rfl,c,T.cl_Row,T.na_Row_gone,Uj _ _ _,k,_,_,_,rfl,rfl,SqL.of m,Yr (by rw[Qk,Qb e]<;>rfl),?_⟩;unfold WD at q;rw[Qb e]at q;exact q
 ·have n:¬ (0:Int)<(a.length:Int)-(g:Int):=fun z=>d (decide_eq_true z);unfold WD at q;rw[QL #[2]]at q;exact q
def Pz(C:Addr):Sp:=fun vs H Q _=>∃ (p dx a:Addr) (ss:List Str),vs=[.ref p,.ref a]∧H p=some (.ins C dx [])∧H a=some (.lst (ss.map V.str))∧ss.length≤100∧(∀s∈ss,s.length≤1000) ∧
 ∀ (k f:Addr) (c:Hp),H k=none→H f=none→k≠f→Tb C c p k f ss 0→(∀b o,H b=some o→b≠p→c b=some o)→Q .non c
theorem ZjZ(T:Z9 K mg ah aa ae al aj af ak)(z:Df P w K mg base 3 "alikes" ["row"] (PP K)):Cf P w K mg base 4 ah "Row" ["self", "keys"] (Pz ah):=by
 refine T.t_Row_init.cf ZiS (fun B H Q E h=>?_) (fun am f A outer s H B Q E C h=>?_)
 ·obtain⟨p,c,a,d,rfl,_⟩:=h;rfl
 obtain⟨p,c,a,d,rfl,m,i,D,F,q⟩:=h;refine⟨_,#[Zf,#[XD,‹0›,#[W4,(UN K),T.b.n_list,boot_list,#[Za,‹1›,#[Zd]]]],#[Zf,#[XD,‹0›,#[Zw,z,C,#[Za,‹1›,#[Zd]],#[5]]],#[Zi,#[XD,‹0›,#[Zj]]]]],?_⟩;refine⟨_,rfl,a,_,rfl,.inl (SqL.of i),fun k j=>?_⟩;have l:p≠k:=Ze m j;have G:a≠p:=fun e=>by rw[e,m]at i;cases i
 have I:a≠k:=Ze i j;refine⟨_,rfl,p,ah,c,[],rfl,(by rw[Zb l];exact m),T.cl_Row,T.na_Row_all_keys,(by show 0<1000;decide),?_⟩;have J:(upd (upd H k (.lst (d.map V.str))) p (.ins ah c (Zv "all_keys" (.ref k) []))) a=some (.lst (d.map V.str)):=by rw[Zb G,Zb I];exact i
 have r:(upd (upd H k (.lst (d.map V.str))) p (.ins ah c (Zv "all_keys" (.ref k) []))) p=some (.ins ah c (Zv "all_keys" (.ref k) [])):=Zc;have v:(upd (upd H k (.lst (d.map V.str))) p (.ins ah c (Zv "all_keys" (.ref k) []))) k=some (.lst (d.map V.str)):=by rw[Zb l.symm];exact Zc
 have x:∀b o,H b=some o→b≠p→(upd (upd H k (.lst (d.map V.str))) p (.ins ah c (Zv "all_keys" (.ref k) []))) b=some o:=fun b o h n=>by rw[Zb n,Zb (Ze h j)];exact h
 refine⟨_,rfl,a,d,rfl,SqL.of J,D,F,fun f H3 g L t=>?_⟩;have M:H f=none:=by
  cases N:H f with
  | none=>rfl
  | some u =>
   by_cases e:f=p
   ·rw[e,r]at g;cases g
   ·rw[x f u N e]at g;cases g
 have O:k≠f:=Ze v g;have y:p≠f:=Ze r g;refine⟨_,rfl,p,ah,c,_,rfl,t _ _ r,T.cl_Row,T.na_Row_fars,(by show 1<1000;decide),?_⟩;refine⟨_,rfl,p,ah,c,_,rfl,Zc,T.cl_Row,T.na_Row_gone,?_,?_⟩
 ·have h1:=Wf "all_keys" (V.ref k) [];have h2:=Wf "fars" (V.ref f) (Zv "all_keys" (V.ref k) []);have h3:([]:List (Str×V)).length=0:=rfl;lia
 ·refine q k f _ j M O ⟨⟨c,Zc⟩,?_,?_⟩ fun b o h n=>?_
  ·rw[Zb l.symm,Zb l.symm];exact t _ _ v
  ·rw[Zb y.symm,Zb y.symm];exact L
  ·rw[Zb n,Zb n];exact t _ _ (x b o h n)
theorem ZjU{K:#[7]}{a:Addr}{xs:List V}{k:Nat}{D:Addr}{c:L2.St}{h:Hp}{g:TG}{j:TT}{l:TE}{Q:VK}(Pv:Nat→List V→L2.St→Hp→Prop)(h0:Pv 0 [] (c++List.replicate k none) (upd h D (.lst [])))
  (hl:∀i ys c H,Pv i ys c H→SqL K H a xs)
  (r:∀i x ys c H,xs[i]? = some x→Pv i ys c H→g x c H fun d s=>j d s fun b n=>if b=true then l d n fun y o=>o D=some (.lst ys)∧ys.length<sizeLine∧Pv (i+1) (ys++[y]) d (upd o D (.lst (ys++[y]))) else Pv (i+1) ys d n)
  (hd:∀ys c H,Pv xs.length ys c H→Q (.ref D) H):Wo (Itl K a) D k c h g j l Q:=by
 refine⟨fun i m ys c H=>m=xs.length-i∧i≤xs.length∧Pv i ys c H,⟨xs.length,by simp,Qs _,h0⟩,?_⟩;rintro i m ys c H ⟨rfl,hi,p⟩;have f:=hl i ys c H p;by_cases q:i<xs.length
 ·refine .inr ⟨⟨xs,xs[i],f,Qb q⟩,Pv (i+1),fun gR ao t u=>⟨xs.length-(i+1),by lia,rfl,q,u⟩,fun x t y=>?_⟩;obtain⟨rfl,e⟩:=y;exact r i x ys c _ (e xs f) p
 ·have e:i=xs.length:=by lia
  exact .inl ⟨⟨xs,f,by lia⟩,hd ys c H (e ▸ p)⟩
theorem LX:∀x y:List Nat,x<y↔ZR x y<0
 | [],[]=>by unfold ZR;exact⟨fun h=>absurd h #[4],fun h=>absurd h #[2]⟩
 | [],_::_=>by unfold ZR;exact⟨fun _=>by lia,fun _=>List.nil_lt_cons _ _⟩
 | _::_,[]=>by unfold ZR;exact⟨fun h=>absurd h (List.not_lt_nil _),fun h=>absurd h #[2]⟩
 | a::r,b::s=>by
  have c:=LX r s;unfold ZR;rw[List.cons_lt_cons_iff];by_cases e:a=b
  ·rw[if_pos e,← c];exact⟨fun h=>h.elim (fun z=>by lia) (fun z=>z.2),fun h=>.inr ⟨e,h⟩⟩
  ·rw[if_neg e];by_cases l:a<b
   ·rw[if_pos l];exact⟨fun _=>by lia,fun _=>.inl l⟩
   ·rw[if_neg l];exact⟨fun h=>h.elim (fun z=>absurd z l) (fun z=>absurd z.1 e),fun h=>absurd h #[2]⟩
theorem ZmF{H:Hp}{D:Addr}{ys:List V}(h:H D=some (.lst ys))(o:HO):∀a xs,H a=some (.tup xs)→(upd H D o) a=some (.tup xs):=fun a xs e=>by
 have nb:a≠D:=by intro z;rw[z,h]at e;cases e
 rw[Zb nb];exact e
noncomputable abbrev Hd:=Int→Option (List Nat)
def Btr(x:List Nat)(a:Int)(y:List Nat)(b:Int):Prop:=ZR x y<0∨(ZR x y=0∧a<b)
def Win(hd:Hd)(N:List Int):Option Int→Prop
 | none=>∀n∈N,hd n=none
 | some a=>a∈N∧∃x,hd a=some x∧∀b∈N,∀y,hd b=some y→b=a∨Btr x a y b
theorem Btr.asym{x y:List Nat}{a b:Int}(h:Btr x a y b)(g:Btr y b x a):False:=by have e:=Wh x y;rcases h with h|⟨h,h2⟩<;>rcases g with g|⟨g,g2⟩<;>lia
theorem Btr.total{x y:List Nat}{a b:Int}(h:a≠b):Btr x a y b∨Btr y b x a:=by have e:=Wh x y;unfold Btr;lia
theorem Btr.trans{x y z:List Nat}{a b c:Int}(h:Btr x a y b)(g:Btr y b z c):Btr x a z c:=by
 have t1:=Tf x y z;have t2:=Tf z x y;have t3:=Tf y z x;have e1:=Wh x y;have e2:=Wh y z;have e3:=Wh x z;unfold Btr at *
 lia
theorem Win.one{hd:Hd}{N:List Int}{v w:Option Int}(h:Win hd N v)(g:Win hd N w):v=w:=by
 cases v with
 | none =>
  cases w with
  | none=>rfl
  | some b=>obtain⟨d,y,c,_⟩:=g;rw[h b d]at c;cases c
 | some a =>
  obtain⟨i,x,f,j⟩:=h;cases w with
  | none=>rw[g a i]at f;cases f
  | some b =>
   obtain⟨d,y,c,k⟩:=g;rcases j b d y c with e|e
   ·rw[e]
   ·rcases k a i x f with e'|e'
    ·rw[e']
    ·exact(e.asym e').elim
theorem Win.nil(hd:Hd):Win hd [] none:=fun n h=>by cases h
theorem Win.sing{hd:Hd}{n:Int}:Win hd [n] (if (hd n).isSome then some n else none):=by
 cases h:hd n with
 | none=>intro m a;rw[Ql.mp a];exact h
 | some x=>exact⟨by simp,x,h,fun b c y hy=>.inl (Ql.mp c)⟩
theorem Win.both{hd:Hd}{A B:List Int}{a b:Int}{x y:List Nat}(ha:Win hd A (some a))(hb:Win hd B (some b))(hx:hd a=some x)(hy:hd b=some y)(h:Btr x a y b):Win hd (A++B) (some a):=by
 obtain⟨a1,x',f,a2⟩:=ha;obtain⟨b1,y',g,i⟩:=hb;rw[hx]at f;cases f;rw[hy]at g;cases g;refine⟨QG _ a1,x,hx,fun c hc z d=>?_⟩;rcases Qo.mp hc with hc|hc
 ·exact a2 c hc z d
 ·rcases i c hc z d with e|e
  ·subst e;rw[hy]at d;cases d;exact .inr h
  ·exact .inr (h.trans e)
theorem Win.both'{hd:Hd}{A B:List Int}{a b:Int}{x y:List Nat}(ha:Win hd A (some a))(hb:Win hd B (some b))(hx:hd a=some x)(hy:hd b=some y)(h:Btr y b x a):Win hd (A++B) (some b):=by have:=Win.both hb ha hy hx h;obtain⟨d,z,e,f⟩:=this;exact⟨by rcases Qo.mp d with h|h<;>simp[h],z,e,fun c g=>f c (by rcases Qo.mp g with h|h<;>simp[h])⟩
theorem Win.left{hd:Hd}{A B:List Int}{w:Option Int}(ha:Win hd A w)(hb:Win hd B none):Win hd (A++B) w:=by
 cases w with
 | none=>intro n d;rcases Qo.mp d with h|h;exact ha n h;exact hb n h
 | some a =>
  obtain⟨a1,x,e,a2⟩:=ha;refine⟨QG _ a1,x,e,fun c hc z b=>?_⟩;rcases Qo.mp hc with hc|hc
  ·exact a2 c hc z b
  ·rw[hb c hc]at b;cases b
theorem Win.right{hd:Hd}{A B:List Int}{w:Option Int}(ha:Win hd A none)(hb:Win hd B w):Win hd (A++B) w:=by
 cases w with
 | none=>intro n d;rcases Qo.mp d with h|h;exact ha n h;exact hb n h
 | some a =>
  obtain⟨a1,x,e,a2⟩:=hb;refine⟨Qy _ a1,x,e,fun c hc z b=>?_⟩;rcases Qo.mp hc with hc|hc
  ·rw[ha c hc]at b;cases b
  ·exact a2 c hc z b
theorem Win.ex(hd:Hd):∀N:List Int,N.Nodup→∃w,Win hd N w
 | [],_=>⟨none,Win.nil hd⟩
 | n::N,d=>by
  obtain⟨f,g⟩:=QR.mp d;obtain⟨w,hw⟩:=Win.ex hd N g;have a:Win hd [n] (if (hd n).isSome then some n else none):=Win.sing;cases h:hd n with
  | none=>rw[h]at a;exact⟨w,Win.right (A:=[n]) a hw⟩
  | some x =>
   rw[h]at a;cases w with
   | none=>exact⟨some n,Win.left (A:=[n]) a hw⟩
   | some b =>
    obtain⟨i,y,c,b2⟩:=id hw;have j:n≠b:=fun e=>f (e ▸ i);rcases Btr.total (x:=x) (y:=y) j with e|e
    ·exact⟨some n,Win.both (A:=[n]) a hw h c e⟩
    ·exact⟨some b,Win.both' (A:=[n]) a hw h c e⟩
theorem Win.congr{hd c:Hd}{N:List Int}(h:∀n∈N,c n=hd n){w:Option Int}(hw:Win hd N w):Win c N w:=by
 cases w with
 | none=>intro n d;rw[h n d];exact hw n d
 | some a=>obtain⟨a1,x,f,a2⟩:=hw;exact⟨a1,x,by rw[h a a1];exact f,fun b e y g=>a2 b e y (by rw[← h b e];exact g)⟩
noncomputable def lo(N:List Int):List Int:=N.take (mid N)
noncomputable def up(N:List Int):List Int:=N.drop (mid N)
theorem XV(N:List Int):lo N++up N=N:=List.take_append_drop _ _
theorem WU{N:List Int}(h:2≤N.length):(lo N).length<N.length∧1≤(lo N).length:=by unfold lo mid;rw[QA];lia
theorem WC{N:List Int}(h:2≤N.length):(up N).length<N.length∧1≤(up N).length:=by unfold up mid;rw[QZ];lia
noncomputable def ZV(N:List Int):Int×Int:=(N.headD 0,N.getLastD 0)
abbrev StL:=List ((Int×Int)×Option (Addr×Int×Int))
noncomputable def stV:Option (Addr×Int×Int)→V
 | none=>.non
 | some t=>.ref t.1
noncomputable def kvS(s:StL):List (List Key×V):=s.map fun e=>([.inl e.1.1,.inl e.1.2],stV e.2)
def AtS(H:Hp)(s:StL):Prop:=∀e∈s,∀t,e.2=some t→H t.1=some (.tup [.int t.2.1,.int t.2.2])
noncomputable def Z0(s:StL)(k:Int×Int):Option (Option (Addr×Int×Int)):=(s.find? fun e=>decide (e.1=k)).map (·.2)
noncomputable def Yg(s:StL)(k:Int×Int)(v:Option (Addr×Int×Int)):StL:=if s.any (fun e=>decide (e.1=k)) then s.map (fun e=>if e.1=k then (e.1,v) else e) else s++[(k,v)]
theorem AtS.mono{H b:Hp}{s:StL}(h:AtS H s)(k:∀a xs,H a=some (.tup xs)→b a=some (.tup xs)):AtS b s:=fun e he t c=>k _ _ (h e he t c)
theorem Py{a b:Int×Int}(h:([.inl a.1,.inl a.2]:List Key)=[.inl b.1,.inl b.2]):a=b:=by obtain⟨a1,a2⟩:=a;obtain⟨b1,b2⟩:=b;injection h with f c;injection c with c _;have d:=Sum.inl.inj f;have e:=Sum.inl.inj c;simp only at d e;rw[d,e]
theorem LW(k:Int×Int):∀s:StL,Zt (kvS s) [.inl k.1,.inl k.2]=(Z0 s k).map stV
 | []=>rfl
 | e::s=>by
  have a:=LW k s;by_cases h:e.1=k
  ·unfold kvS Z0;rw[Qh,Vo (by rw[h])];simp[List.find?_cons,h]
  ·unfold kvS at a ⊢;rw[Qh,Vn (fun z=>h (Py z)),a];unfold Z0;simp[List.find?_cons,h]
theorem Zn4(k:Int×Int)(s:StL):((kvS s).any fun a=>decide (a.1=([.inl k.1,.inl k.2]:List Key)))=s.any fun e=>decide (e.1=k):=by
 unfold kvS;rw[List.any_map];congr 1;funext e;simp only[Function.comp];by_cases h:e.1=k
 ·rw[decide_eq_true h,decide_eq_true (by rw[h])]
 ·rw[decide_eq_false h,decide_eq_false (fun z=>h (Py z))]
theorem Ta(s:StL)(k:Int×Int)(v:Option (Addr×Int×Int)):YT (kvS s) [.inl k.1,.inl k.2] (stV v)=kvS (Yg s k v):=by
 unfold YT Yg;rw[Zn4];split
 ·unfold kvS;rw[Qn,Qn];congr 1;funext e;simp only[Function.comp];by_cases h:e.1=k
  ·rw[if_pos h,if_pos (by rw[h])]
  ·rw[if_neg h,if_neg (fun z=>h (Py z))]
 ·unfold kvS;rw[Qf];rfl
theorem ZmH(s:StL)(k:Int×Int)(v:Option (Addr×Int×Int)):(Yg s k v).length≤s.length+1:=by
 unfold Yg;split
 ·rw[Qa];lia
 ·rw[Qr];exact Qg _
theorem WT(s:StL)(k j:Int×Int)(v:Option (Addr×Int×Int)):Z0 (Yg s k v) j=if j=k then some v else Z0 s j:=by
 unfold Yg;split
 ·rename_i h;induction s with
  | nil=>simp at h
  | cons e s f =>
   unfold Z0 at f ⊢;by_cases b:e.1=k
   ·by_cases a:j=k
    ·subst a;simp[List.find?_cons,b]
    ·have c:¬ k=j:=fun z=>a z.symm;rw[Qh,if_pos b,Qaw (by simp[b,c]),Qaw (by simp[b,c]),if_neg a];by_cases d:s.any (fun e=>decide (e.1=k))=true
     ·have:=f d;rw[if_neg a]at this;exact this
     ·have:s.map (fun e=>if e.1=k then (e.1,v) else e)=s:=by
       rw[List.map_eq_iff];intro i;cases l:s[i]? with
       | none=>rfl
       | some x=>have g:¬ x.1=k:=fun z=>d (QaF.mpr ⟨x,Qv l,by simpa using z⟩);simp[g]
      rw[this]
   ·have d:s.any (fun e=>decide (e.1=k))=true:=by simpa [b] using h
    rw[Qh,if_neg b];by_cases a:e.1=j
    ·have:¬ j=k:=fun z=>b (a.trans z);rw[List.find?_cons_of_pos (by simpa using a),List.find?_cons_of_pos (by simpa using a),if_neg this]
    ·rw[Qaw (by simpa using a),Qaw (by simpa using a)];exact f d
 ·rename_i h;unfold Z0;rw[List.find?_append];by_cases a:j=k
  ·subst a;have:s.find? (fun e=>decide (e.1=j))=none:=by rw[List.find?_eq_none];intro x g z;exact h (QaF.mpr ⟨x,g,z⟩)
   rw[this];simp
  ·have c:¬ k=j:=fun z=>a z.symm;rw[if_neg a];simp[c]
theorem AtS.put{H:Hp}{s:StL}{k:Int×Int}{v:Option (Addr×Int×Int)}(h:AtS H s)(b:∀t,v=some t→H t.1=some (.tup [.int t.2.1,.int t.2.2])):AtS H (Yg s k v):=by
 unfold Yg;split
 ·intro e he t a;obtain⟨x,c,rfl⟩:=Qp.mp he;split at a
  ·exact b t a
  ·exact h x c t a
 ·intro e he t a;rcases Qo.mp he with he|he
  ·exact h e he t a
  ·rw[Ql.mp he]at a;exact b t a
theorem LV{s:StL}{k:Int×Int}{v:Option (Addr×Int×Int)}(h:Z0 s k=some v):(k,v)∈s:=by
 unfold Z0 at h;obtain⟨e,a,rfl⟩:=QaV.mp h;have b:=List.find?_some a;have:e.1=k:=by simpa using b
 rw[← this];exact Qao a
def ZsH(hd:Hd)(s:StL)(N:List Int):Prop :=
 (∀a b x y,Win hd (lo N) (some a)→Win hd (up N) (some b)→hd a=some x→hd b=some y→∃t,Z0 s (ZV N)=some (some (t,if ZR x y<0∨(ZR x y=0∧a<b) then b else a,((lcp x y:Nat):Int)))) ∧
 ((Win hd (lo N) none∨Win hd (up N) none)→Z0 s (ZV N)=none∨Z0 s (ZV N)=some none)
def XU(hd:Hd)(s:StL):Nat→List Int→Prop
 | 0,_=>True
 | n+1,N=>2≤N.length→XU hd s n (lo N)∧XU hd s n (up N)∧ZsH hd s N
def Xv:Nat→List Int→Int×Int→Prop
 | 0,_,_=>False
 | n+1,N,k=>2≤N.length∧(Xv n (lo N) k∨Xv n (up N) k∨k=ZV N)
abbrev YR(N:List Int):Prop:=N.Pairwise (·<·)
theorem S9{N:List Int}(h:YR N):YR (lo N):=h.sublist (List.take_sublist _ _)
theorem S7{N:List Int}(h:YR N):YR (up N):=h.sublist (List.drop_sublist _ _)
theorem Uh{N:List Int}(h:YR N):N.Nodup:=h.imp fun {a b} jr e=>by lia
theorem ZN{N:List Int}(h:YR N){a b:Int}(ha:a∈lo N)(hb:b∈up N):a<b:=by
 have:YR (lo N++up N):=by rw[XV];exact h
 exact(List.pairwise_append.mp this).2.2 a ha b hb
theorem U7{N:List Int}(h:N≠[]):N.headD 0∈N:=by
 cases N with
 | nil=>exact absurd rfl h
 | cons a r=>simp
theorem U6{N:List Int}(h:N≠[]):N.getLastD 0∈N:=by rw[Qap,QaL h];exact List.getLast_mem h
theorem XN{N:List Int}(h:1≤N.length):N≠[]:=fun z=>by rw[z]at h;simp at h
theorem Px{N:List Int}(h:2≤N.length):(ZV N).2=(up N).getLastD 0:=by
 have a:=XN (WC h).2;show N.getLastD 0=_;rw[Qap,Qap]
 conv=>lhs;rw[← XV N]
 rw[List.getLast?_append,QaL a];rfl
theorem Pw{N:List Int}(h:2≤N.length):(ZV N).1=(lo N).headD 0:=by
 have b:=XN (WU h).2;show N.headD 0=_
 conv=>lhs;rw[← XV N]
 cases c:lo N with
 | nil=>exact absurd c b
 | cons a r=>rfl
theorem U5:∀ (n:Nat) (N:List Int) (k:Int×Int),Xv n N k→k.1∈N∧k.2∈N
 | 0,_,_,h=>h.elim
 | n+1,N,k,⟨h2,h⟩=>by
  rcases h with h|h|rfl
  ·have:=U5 n _ k h;rw[← XV N];exact⟨QG _ this.1,QG _ this.2⟩
  ·have:=U5 n _ k h;rw[← XV N];exact⟨Qy _ this.1,Qy _ this.2⟩
  ·have a:N≠[]:=XN #[2];exact⟨U7 a,U6 a⟩
theorem Pu{N:List Int}(a:YR N)(h2:2≤N.length){n:Nat}{k:Int×Int}(h:Xv n (lo N) k):k≠ZV N∧∀m,¬ Xv m (up N) k:=by
 have:=U5 n _ k h;refine⟨fun z=>?_,fun m b=>?_⟩
 ·have c:=Px h2;rw[z,c]at this;have:=ZN a this.2 (U6 (XN (WC h2).2));lia
 ·have:=ZN a this.1 (U5 m _ k b).1;lia
theorem Pt{N:List Int}(a:YR N)(h2:2≤N.length){n:Nat}{k:Int×Int}(h:Xv n (up N) k):k≠ZV N∧∀m,¬ Xv m (lo N) k:=by
 have:=U5 n _ k h;refine⟨fun z=>?_,fun m b=>?_⟩
 ·have c:=Pw h2;rw[z,c]at this;have:=ZN a (U7 (XN (WU h2).2)) this.1;lia
 ·have:=ZN a (U5 m _ k b).1 this.1;lia
theorem XU.congr{hd d:Hd}{s s':StL}:∀ (n:Nat) (N:List Int),(∀m∈N,d m=hd m)→(∀k,Xv n N k→Z0 s' k=Z0 s k)→XU hd s n N→XU d s' n N
 | 0,_,_,_,_=>True.intro
 | n+1,N,j,hk,h=>fun h2=>by
  obtain⟨a,b,c1,c2⟩:=h h2;have f:∀m∈lo N,d m=hd m:=fun m c=>j m (by rw[← XV N];exact QG _ c);have g:∀m∈up N,d m=hd m:=fun m c=>j m (by rw[← XV N];exact Qy _ c);have l:∀m∈lo N,hd m=d m:=fun m c=>(f m c).symm;have e:∀m∈up N,hd m=d m:=fun m c=>(g m c).symm;refine⟨XU.congr n _ f (fun k i=>hk k ⟨h2,.inl i⟩) a,XU.congr n _ g (fun k i=>hk k ⟨h2,.inr (.inl i)⟩) b,fun a b x y o p q r=>?_,fun hw=>?_⟩
  ·rw[hk _ ⟨h2,.inr (.inr rfl)⟩];exact c1 a b x y (Win.congr l o) (Win.congr e p) (by rw[← f a o.1];exact q) (by rw[← g b p.1];exact r)
  ·rw[hk _ ⟨h2,.inr (.inr rfl)⟩];refine c2 ?_;rcases hw with hw|hw
   ·exact .inl (Win.congr l hw)
   ·exact .inr (Win.congr e hw)
inductive YQ (hd:Hd):Nat→List Int→Int→Int→Prop
 | few {n:Nat} {N:List Int}:N.length<2→YQ hd n N 0 0
 | none {n:Nat} {N:List Int} {k l k' l':Int}:2≤N.length→YQ hd n (lo N) k l→YQ hd n (up N) k' l'→(Win hd (lo N) none∨Win hd (up N) none)→YQ hd (n+1) N (k+k') (l+l')
 | both {n:Nat} {N:List Int} {k l k' l':Int} {a b:Int} {x y:List Nat}:2≤N.length→YQ hd n (lo N) k l→YQ hd n (up N) k' l'→Win hd (lo N) (some a)→Win hd (up N) (some b)→hd a=some x→hd b=some y→YQ hd (n+1) N (k+k'+1) (l+l'+(lcp x y:Nat)+1)
theorem YQ.one{hd:Hd}:∀ {n m:Nat} {N:List Int} {k l k' g:Int},YQ hd n N k l→YQ hd m N k' g→k=k'∧l=g
 | _,_,_,_,_,_,_,.few h,p=>by
  cases p with
  | few _=>exact⟨rfl,rfl⟩
  | none h2 _ _ _=>lia
  | both h2 _ _ _ _ _ _=>lia
 | _,_,_,_,_,_,_,.none h2 a b hw,p=>by
  cases p with
  | few h=>lia
  | none _ c d _=>obtain⟨r,s⟩:=YQ.one a c;obtain⟨t,u⟩:=YQ.one b d;exact⟨by lia,by lia⟩
  | both _ c d e f i j =>
   rcases hw with hw|hw
   ·exact nomatch hw.one e
   ·exact nomatch hw.one f
 | _,_,_,_,_,_,_,.both h2 a b e f i j,p=>by
  cases p with
  | few h=>lia
  | none _ c d hw =>
   rcases hw with hw|hw
   ·exact nomatch hw.one e
   ·exact nomatch hw.one f
  | both _ c d v w o q=>obtain⟨r,s⟩:=YQ.one a c;obtain⟨t,u⟩:=YQ.one b d;have x:=Qj (e.one v);have y:=Qj (f.one w);subst x y;rw[i]at o;cases o;rw[j]at q;cases q;exact⟨by lia,by lia⟩
noncomputable def kk(e:Str×Int):List Key:=[.inr e.1,.inl e.2]
noncomputable def oV:Option Str→V
 | none=>.non
 | some s=>.str s
noncomputable def Yv:Option Int→V
 | none=>.non
 | some a=>.int a
noncomputable def kvH(E:List (Int×Option Str)):List (Key×V):=E.map fun e=>(.inl e.1,oV e.2)
noncomputable def lk(E:List (Int×Option Str))(n:Int):Option Str:=(E.find? fun e=>decide (e.1=n)).bind (·.2)
noncomputable def hdE(E:List (Int×Option Str)):Hd:=fun n=>(lk E n).map cds
theorem S6:∀ {E:List (Int×Option Str)},(E.map (·.1)).Nodup→∀ {e:Int×Option Str},e∈E→lk E e.1=e.2
 | [],_,_,h=>by cases h
 | x::r,nd,e,h=>by
  rw[Qh,QR]at nd;unfold lk;rw[Q2];rcases QM.mp h with rfl|h
  ·rw[decide_eq_true rfl];rfl
  ·rw[decide_eq_false (fun z:x.1=e.1=>nd.1 (by rw[z];exact Qe (f:=fun x:Int×Option Str=>x.1) h))];exact S6 nd.2 h
theorem Zqr{E:List (Int×Option Str)}(h:(E.map (·.1)).Nodup):((kvH E).map (·.1)).Nodup:=by
 have e:(kvH E).map (·.1)=(E.map (·.1)).map (Sum.inl:Int→Key):=by unfold kvH;rw[Qn,Qn];rfl
 rw[e];exact List.Pairwise.map _ (fun a b c z=>c (Sum.inl.inj z)) h
theorem U4{E:List (Int×Option Str)}(h:(E.map (·.1)).Nodup){n:Int}(b:n∈E.map (·.1)):Zt (kvH E) (.inl n)=some (oV (lk E n)):=by obtain⟨e,a,rfl⟩:=Qp.mp b;rw[S6 h a];exact TB (Zqr h) (Qe (f:=fun e:Int×Option Str=>((.inl e.1:Key),oV e.2)) a)
noncomputable def prs(E:List (Int×Option Str))(N:List Int):List (Str×Int):=N.filterMap fun n=>(lk E n).map fun s=>(s,n)
theorem S4{E:List (Int×Option Str)}{N:List Int}{s:Str}{n:Int}:(s,n)∈prs E N↔n∈N∧lk E n=some s:=by
 unfold prs;rw[List.mem_filterMap];constructor
 ·rintro⟨m,a,e⟩;cases h:lk E m with
  | none=>rw[h]at e;cases e
  | some x=>rw[h]at e;injection e with e;injection e with b c;rw[← c,← b];exact⟨a,h⟩
 ·rintro⟨d,h⟩;exact⟨n,d,by rw[h];rfl⟩
theorem Zps{x y:Str}(h:cds x=cds y):x=y:=by obtain⟨⟨a⟩⟩:=x;obtain⟨⟨b⟩⟩:=y;have:a=b:=h;rw[this]
theorem Zn6{s s':Str}{a b:Int}(h:YM (kk (s',b)) (kk (s,a))=false):b=a∨Btr (cds s) a (cds s') b:=by
 unfold kk at h;rw[R3]at h;by_cases e:(Sum.inr s':Key)=Sum.inr s
 ·rw[if_pos e,R3]at h;have f:s'=s:=Sum.inr.inj e;by_cases c:(Sum.inl b:Key)=Sum.inl a
  ·exact .inl (Sum.inl.inj c)
  ·rw[if_neg c]at h;have d:¬ b<a:=of_decide_eq_false h;have g:b≠a:=fun z=>c (by rw[z]);exact .inr (.inr ⟨by rw[f,LZ],by lia⟩)
 ·rw[if_neg e]at h;have d:¬ cds s'<cds s:=of_decide_eq_false h;rw[LX]at d;have g:=Wh (cds s') (cds s);have h3:ZR (cds s) (cds s')≠0:=fun z=>e (by rw[Zps (PM _ _ z)]);exact .inr (.inl #[2])
theorem Zqi{E:List (Int×Option Str)}{N:List Int}{s:Str}{a:Int}(h:(s,a)∈prs E N)(hm:∀e∈prs E N,YM (kk e) (kk (s,a))=false):Win (hdE E) N (some a):=by
 obtain⟨f,g⟩:=S4.mp h;refine⟨f,cds s,by unfold hdE;rw[g];rfl,fun b i y c=>?_⟩;unfold hdE at c;cases d:lk E b with
 | none=>rw[d]at c;cases c
 | some j=>rw[d]at c;cases c;exact Zn6 (hm (j,b) (S4.mpr ⟨i,d⟩))
theorem ZmE{E:List (Int×Option Str)}{N:List Int}(h:prs E N=[]):Win (hdE E) N none:=fun n a=>by
 unfold hdE;cases b:lk E n with
 | none=>rfl
 | some s=>have:=S4.mpr ⟨a,b⟩;rw[h]at this;cases this
noncomputable def LU:Key→PyData
 | .inl i=>.int i
 | .inr s=>.str s
noncomputable def tD(k:List Key):PyData:=.tuple (k.map LU)
theorem Ps{K:#[7]}{H:Hp}:∀ks:List Key,DVs K H (ks.map kV) (ks.map LU)
 | []=>.nil
 | .inl i::r=>.cons (.int i) (Ps r)
 | .inr s::r=>.cons (.str s) (Ps r)
theorem LS{K:#[7]}{H:Hp}:∀ts:WF,AtT H ts→DVs K H (VR ts) (ts.map fun t=>tD t.2)
 | [],_=>.nil
 | t::r,h=>.cons (.tup (SqT.of (h t #[4])) (Ps t.2)) (LS r fun x hx=>h x (Qx _ hx))
theorem LR:∀L:List (Str×Int),(∀e∈L,AZ e.1)→PyData.canLayAll0 (L.map fun e=>tD (kk e))=true∧PyData.depthAll (L.map fun e=>tD (kk e))≤1
 | [],_=>⟨rfl,by simp[PyData.depthAll]⟩
 | e::r,h=>by obtain⟨a,b⟩:=LR r fun x hx=>h x (Qx _ hx);have c:tD (kk e)=.tuple [.str e.1,.int e.2]:=rfl;have d:=(h e #[4]).ok;refine⟨by simp[PyData.canLayAll0,PyData.canLay0,c,d,a],?_⟩;rw[Qh,c];simp only[PyData.depthAll,PyData.depth];lia
theorem LQ(L:List (Str×Int))(h:∀e∈L,AZ e.1):SeqAt.shaped (.list (L.map fun e=>tD (kk e)))=true:=by obtain⟨a,b⟩:=LR L h;simp[SeqAt.shaped,PyData.canLay0,PyData.depth,a];lia
structure Hds (H:Hp) (D:Addr) (E:List (Int×Option Str)):Prop where
 at':H D=some (.dK (kvH E))
 nd:(E.map (·.1)).Nodup
 ok:∀e∈E,∀s,e.2=some s→s.length≤1000∧AZ s
theorem Hds.lk{H:Hp}{D:Addr}{E:List (Int×Option Str)}(h:Hds H D E){n:Int}{s:Str}(e:lk E n=some s):s.length≤1000∧AZ s:=by
 unfold My.lk at e;cases a:E.find? fun e=>decide (e.1=n) with
 | none=>rw[a]at e;cases e
 | some x=>rw[a]at e;exact h.ok x (Qao a) s e
theorem Hds.same{H a:Hp}{D:Addr}{E:List (Int×Option Str)}(h:Hds H D E)(s:ZG H a):Hds a D E:=⟨s _ _ h.at',h.nd,h.ok⟩
def S3(K:#[7]):Sp:=fun vs H Q _=>∃ (D l:Addr) (E:List (Int×Option Str)) (N:List Int),vs=[.ref D,.ref l]∧Hds H D E∧SqL K H l (N.map V.int)∧N.length≤60∧(∀n∈N,n∈E.map (·.1)) ∧
 ∀ (v:Option Int) (a:Hp),Win (hdE E) N v→ZG H a→Q (Yv v) a
theorem Zlv(T:Z9 K mg ah aa ae al aj af ak):Df P w K mg base 1 "_law_least" ["_law_heads_here", "_law_numbers"] (S3 K):=by
 refine T.t_l_least.df MI (fun vs H Q E h=>?_) (fun am f A outer s H vs Q E M h=>?_)
 ·obtain⟨D,l,E,N,rfl,_⟩:=h;rfl
 obtain⟨D,l,d,N,rfl,S,hl,eS,dR,q⟩:=h;refine⟨_,#[Zf,(@Zkr _ _ _ _ _ 2 _ _ _ _ _ _ _ _ _ _ _ _ MI.nd rfl #[3] VI rfl rfl rfl #[iL,K,‹1›] (fun _ _ _ _=>#[cg,3,VI]) (fun _ _ _ _=>(@Zon _ _ _ #[Zn,V1,#[Zr,(ixG M),#[cv,0,VI],#[cw,3,VI]],#[ZT],(Zu _)])) (fun _ _ _ _=>#[YU,#[Za,#[Zr,(ixG M),#[cv,0,VI],#[cw,3,VI]],#[Za,#[cw,3,VI],#[Zd]]]]) #[5] (by intro _;rfl) (by trivial)),#[Zi,#[Zo,#[Xn,#[Zn,(@neD _ K _ M #[5]),‹2›,#[Z2,#[Zd]],(Zu _)],#[Zr,(ixT K),#[Zk,(ZsJ K M),#[5],T.b.n_min,boot_min,#[Za,‹2›,#[Zd]]],#[Zj]],#[ZT]]]]],?_⟩;refine⟨_,rfl,l,rfl,⟨_,hl⟩,fun B hB=>?_⟩;refine ZjU (K:=K) (a:=l) (xs:=N.map V.int) (fun i zs U j=>(∃v:Option V,U=[some (.ref D),some (.ref l),none,v])∧(∃c:WF,zs=VR c∧AtT j c∧c.length≤i∧c.map (·.2)=(prs d (N.take i)).map kk)∧i≤N.length∧j B=some (.lst zs)∧ZG H j) ?_ (fun _ _ _ _ h=>h.2.2.2.2.seq hl) ?_ ?_
 ·exact⟨⟨none,rfl⟩,⟨[],rfl,(fun t h=>by cases h),Qg _,rfl⟩,Qs _,Zc,Zh hB _⟩
 ·rintro i x zs U j C ⟨⟨v,rfl⟩,⟨c,rfl,F,eT,k⟩,hi,m,G⟩;rw[Qk]at C;cases p:N[i]? with
  | none=>rw[p]at C;cases C
  | some n =>
  rw[p]at C;cases C;have bH:i<N.length:=(Qd.mp p).1;have hv:=U4 S.nd (dR n (Qv p));have ci:=G _ _ S.at';have O:ZX j D (kV (.inl n)) (some (oV (lk d n))):=by rw[← hv];exact ZX.k ci
  refine⟨_,rfl,_,rfl,D,_,rfl,O,rfl,_,rfl,?_⟩;cases R:lk d n with
  | none=>rw[R]at O;refine YY ⟨⟨_,rfl⟩,⟨c,rfl,F,by lia,?_⟩,bH,m,G⟩;rw[k,QH,p];unfold prs;rw[List.filterMap_append];simp[R]
  | some z =>
   rw[R]at O;refine Xz ⟨_,rfl,_,rfl,D,_,rfl,O,_,rfl,(by show 2≤sizeLine;decide),fun t vG=>?_⟩;have W:=Zh vG (.tup [.str z,.int n]);have I:=W _ _ m;have Ap:B≠t:=Ze m vG;refine⟨I,(by unfold VR;rw[Qa];exact ZB #[2]),⟨_,rfl⟩,⟨c++[(t,kk (z,n))],by unfold VR;rw[Qf];rfl,fun y hy=>?_,by rw[Qr,QB];lia,?_⟩,bH,Zc,fun b o hb=>?_⟩
   ·rcases Qo.mp hy with hy|hy
    ·exact ZmF I _ _ _ (W _ _ (F y hy))
    ·rw[Ql.mp hy,Zb Ap.symm];exact Zc
   ·rw[Qf,k,QH,p];unfold prs;rw[List.filterMap_append,Qf];simp[R]
   ·rw[Zb (Ze hb hB)];exact W _ _ (G b o hb)
 rintro zs U j ⟨⟨v,rfl⟩,⟨c,rfl,F,eT,k⟩,_,m,G⟩;rw[Qa,QC (Qg _)]at k;have Aq:∀e∈prs d N,AZ e.1:=fun e J=>(S.lk (S4.mp (show (e.1,e.2)∈prs d N from J)).2).2;have Ar:(c.map fun t=>tD t.2)=(prs d N).map fun e=>tD (kk e):=by have:=congrArg (List.map tD) k;rw[Qn,Qn]at this;exact this
 refine⟨_,rfl,(by show 0≤sizeLine;decide),fun X kW=>?_⟩;have L:=Zh kW (.lst []);have As:DVs K (upd j X (.lst [])) (VR c) ((prs d N).map fun e=>tD (kk e)):=by rw[← Ar];exact LS c (fun t g=>L _ _ (F t g))
 refine⟨.list ((prs d N).map fun e=>tD (kk e)),.list [],.lst (SqL.of (L _ _ m)) As,.lst (SqL.of Zc) .nil,LQ _ Aq,LQ [] (fun e h=>by cases h),_,rfl,?_⟩;have I:=L _ _ m;have Y:AtT (upd j X (.lst [])) c:=fun t g=>L _ _ (F t g);have Z:=G.trans L;generalize upd j X (.lst [])=H3 at I Y Z ⊢;cases hp:prs d N with
 | nil=>rw[show (if true=true then !PyData.eqv (.list (([]:List (Str×Int)).map fun e=>tD (kk e))) (.list []) else PyData.eqv (.list (([]:List (Str×Int)).map fun e=>tD (kk e))) (.list []))=false by ac_rfl];exact YY (q none H3 (ZmE hp) Z)
 | cons e0 er =>
  rw[show (if true=true then !PyData.eqv (.list ((e0::er).map fun e=>tD (kk e))) (.list []) else PyData.eqv (.list ((e0::er).map fun e=>tD (kk e))) (.list []))=true by simp[PyData.eqv,PyData.eqvAll]];have bv:c≠[]:=fun z=>by rw[z,hp]at k;cases k
  have vH:∀t∈c,∃e∈prs d N,t.2=kk e:=fun t g=>by have:=Qe (f:=fun t:Addr×List Key=>t.2) g;rw[k]at this;obtain⟨e,J,r⟩:=Qp.mp this;exact⟨e,J,r.symm⟩
  refine Xz ⟨_,rfl,B,c,[false,true],rfl,SqL.of I,Y,bv,fun t g=>?_,fun t g mG=>?_⟩
  ·obtain⟨e,_,r⟩:=vH t g;rw[r];rfl
  ·obtain⟨e,J,r⟩:=vH t g;have o7:=Y t g;rw[r]at o7;refine⟨t.1,_,_,_,rfl,rfl,SqT.of o7,(show atI ((kk e).map kV) ((1:Nat):Int)=some (.int e.2) from Yr rfl),?_⟩;refine q (some e.2) H3 (Zqi (s:=e.1) J fun u hu=>?_) Z;have:kk u∈c.map (·.2):=by rw[k];exact Qe hu
   obtain⟨t',bY,e3⟩:=Qp.mp this;have:=mG t' bY;rw[e3,r]at this;exact this
theorem Pr(N:List Int):XX N=lo N:=rfl
theorem Pq(N:List Int):WV N=up N:=rfl
theorem S0{E:List (Int×Option Str)}{N:List Int}{a:Int}(h:Win (hdE E) N (some a)):a∈N∧∃z,lk E a=some z∧hdE E a=some (cds z):=by
 obtain⟨d,x,b,_⟩:=h;refine⟨d,?_⟩;cases c:lk E a with
 | none=>unfold hdE at b;rw[c]at b;cases b
 | some z=>exact⟨z,rfl,by unfold hdE;rw[c];rfl⟩
def LP(K:#[7])(n:Nat):Sp:=fun vs H Q _=>∃ (D l:Addr) (E:List (Int×Option Str)) (N:List Int),vs=[.ref D,.ref l]∧Hds H D E∧SqL K H l (N.map V.int)∧N.length≤60∧0<n∧N.length≤2 ^ (n-1)∧(∀m∈N,m∈E.map (·.1)) ∧
 ∀ (t:Addr) (k q:Int) (a:Hp),YQ (hdE E) n N k q→H t=none→a t=some (.tup [.int k,.int q])→ZG H a→Q (.ref t) a
theorem LO(T:Z9 K mg ah aa ae al aj af ak)(be:Df P w K mg base 1 "_law_halves" ["_law_numbers"] (Wg K false))(J:Df P w K mg base 1 "_law_least" ["_law_heads_here", "_law_numbers"] (S3 K))(aV:Df P w K mg base 1 "_law_alike" ["_law_one", "_law_other"] Wi) :
  ∀n:Nat,Df P w K mg base (n+1) "_law_first_play" ["_law_heads_here", "_law_numbers"] (LP K n)
 | 0=>by
  refine T.t_l_first_play.df Vh (fun vs H Q E h=>?_) (fun am f A outer s H vs Q E i h=>?_)
  ·obtain⟨D,l,E,N,rfl,_⟩:=h;rfl
  obtain⟨D,l,E,N,rfl,_,_,_,z,_⟩:=h;exact absurd z #[2]
 | n+1=>by
  have aM:=LO T be J aV n;refine T.t_l_first_play.df Vh (fun vs H Q E h=>?_) (fun am f A outer s H vs Q E i h=>?_)
  ·obtain⟨D,l,E,N,rfl,_⟩:=h;rfl
  obtain⟨D,l,g,N,rfl,j,hl,eS,_,dP,dR,q⟩:=h;rw[Qaa]at dP;refine⟨_,#[Zf,#[ZO,#[Zn,W6,#[Zk,(YB K),#[5],T.b.n_len,Qu,#[Za,‹1›,#[Zd]]],#[Zj],(Zu _)],#[Zi,#[Zo,#[YU,#[Za,#[Zj],#[Za,#[Zj],#[Zd]]]]]],#[ZE]],#[Zf,#[Z6,#[Zw,be,i,#[Za,‹1›,#[Zd]],#[5]],(@gL _ K _ _ _ 2 _ #[ZC,#[ZD,2,Vh.nd,#[3]],#[ZC,#[ZD,3,Vh.nd,#[3]],(@Yb _)]] #[5] #[5] #[5] #[5])],#[Zf,#[V4,4,5,Vh.nd,#[Za,#[Zw,aM,i,#[Za,‹0›,#[Za,‹2›,#[Zd]]],#[5]],#[Za,#[Zw,aM,i,#[Za,‹0›,#[Za,‹3›,#[Zd]]],#[5]],#[Zd]]]],#[Zf,#[V4,6,7,Vh.nd,#[Za,#[Zw,J,i,#[Za,‹0›,#[Za,‹2›,#[Zd]]],#[5]],#[Za,#[Zw,J,i,#[Za,‹0›,#[Za,‹3›,#[Zd]]],#[5]],#[Zd]]]],#[Zf,#[ZO,(@PW.pt _ _ _ #[Xh,#[Zn,XF,‹6›,#[ZT],(Zu _)],#[Xa,#[Zn,XF,‹7›,#[ZT],(Zu _)]]]),#[Zi,#[Zo,#[YU,#[Za,#[ZJ,YS,#[Zr,(ixT K),‹4›,#[Zj]],#[Zr,(ixT K),‹5›,#[Zj]]],#[Za,#[ZJ,YS,#[Zr,(ixT K),‹4›,#[Zj]],#[Zr,(ixT K),‹5›,#[Zj]]],#[Zd]]]]]],#[ZE]],#[Zi,#[Zo,#[YU,#[Za,#[ZJ,YS,#[ZJ,YS,#[Zr,(ixT K),‹4›,#[Zj]],#[Zr,(ixT K),‹5›,#[Zj]]],#[Zj]],#[Za,#[ZJ,YS,#[ZJ,YS,#[ZJ,YS,#[Zr,(ixT K),‹4›,#[Zj]],#[Zr,(ixT K),‹5›,#[Zj]]],#[Zw,aV,i,#[Za,#[Zr,(ixG i),‹0›,‹6›],#[Za,#[Zr,(ixG i),‹0›,‹7›],#[Zd]]],#[5]]],#[Zj]],#[Zd]]]]]]]]]]],?_⟩;have jY:(((N.map V.int).length:Nat):Int)=(N.length:Int):=by rw[Qa]
  refine⟨_,rfl,l,_,rfl,.inl hl,_,_,rfl,rfl,_,rfl,YX (fun d=>?_) (fun d=>?_)⟩
  ·have au:N.length<2:=by have:=of_decide_eq_true d;rw[jY]at this;lia
   exact⟨(by show 2≤sizeLine;decide),fun t c=>q t 0 0 _ (.few au) c Zc (Zh c _)⟩
  have cr:2≤N.length:=by have:¬ ((N.length:Int)<2):=fun z=>d (decide_eq_true (by rw[jY];exact z));lia
  have gz:1≤n:=by
   cases n with
   | zero=>simp at dP;lia
   | succ m=>lia
  have vI:2 ^ n=2*2 ^ (n-1):=by obtain⟨m,rfl⟩:∃m,n=m+1:=⟨n-1,by lia⟩;rw[QaX,Qaa];lia
  have L:(lo N).length≤2 ^ (n-1)∧(lo N).length≤60:=by unfold lo mid;rw[QA];lia
  have M:(up N).length≤2 ^ (n-1)∧(up N).length≤60:=by unfold up mid;rw[QZ];lia
  have O:∀m∈lo N,m∈g.map (·.1):=fun m R=>dR m (Qac R);have S:∀m∈up N,m∈g.map (·.1):=fun m R=>dR m (Qad R);refine⟨_,rfl,l,N,rfl,hl,by lia,fun t f r H2 c hf su o8 bX U W s2 At Au=>?_⟩;rw[Pr]at U;rw[Pq]at W;refine⟨t,_,rfl,SqL.of bX,rfl,_,_,rfl,_,_,rfl,rfl,?_⟩;refine⟨_,rfl,_,rfl,D,f,g,lo N,rfl,j.same s2,SqL.of U,L.2,gz,L.1,O,fun k k1 y H3 p1 sv h1 X=>?_⟩;have eB:=s2.trans X;refine⟨_,rfl,_,rfl,D,r,g,up N,rfl,j.same eB,SqL.of (X _ _ W),M.2,gz,M.1,S,fun o k2 B H4 p2 CZ h2 Y=>⟨_,_,rfl,?_⟩⟩;have mU:=eB.trans Y;have vJ:=X.trans Y;refine⟨_,rfl,_,rfl,D,f,g,lo N,rfl,j.same mU,SqL.of (vJ _ _ U),L.2,O,fun C H5 Z F=>?_⟩;have mV:=mU.trans F;have mW:=vJ.trans F;refine⟨_,rfl,_,rfl,D,r,g,up N,rfl,j.same mV,SqL.of (mW _ _ W),M.2,S,fun G I w2 s6=>⟨_,_,rfl,?_⟩⟩;have v:=mV.trans s6;have p:=s6 _ _ (F _ _ (Y _ _ h1));have u:=s6 _ _ (F _ _ h2);have x:(Win (hdE g) (lo N) none∨Win (hdE g) (up N) none)→∀t H',I t=none→H'=upd I t (.tup [.int (k1+k2),.int (y+B)])→Q (.ref t) H':=fun hw t H' c e=>by subst e;exact q t _ _ _ (.none cr p1 p2 hw) (v.free c) Zc (v.trans (Zh c _))
  have a10:atI [V.int k1,.int y] ((0:Nat):Int)=some (.int k1):=Yr rfl;have a11:atI [V.int k1,.int y] ((1:Nat):Int)=some (.int y):=Yr rfl;have a20:atI [V.int k2,.int B] ((0:Nat):Int)=some (.int k2):=Yr rfl;have a21:atI [V.int k2,.int B] ((1:Nat):Int)=some (.int B):=Yr rfl;cases C with
  | none=>refine⟨_,rfl,rfl,_,rfl,Yk rfl ?_⟩;refine⟨_,rfl,k,_,_,_,rfl,rfl,SqT.of p,a10,_,rfl,o,_,_,_,rfl,rfl,SqT.of u,a20,_,_,rfl,rfl,_,rfl,k,_,_,_,rfl,rfl,SqT.of p,a11,_,rfl,o,_,_,_,rfl,rfl,SqT.of u,a21,_,_,rfl,rfl,(by show 2≤sizeLine;decide),fun t c=>x (.inl Z) t _ c rfl⟩
  | some a =>
  refine⟨_,rfl,rfl,_,rfl,YF (fun z=>nomatch z) ?_⟩;cases G with
  | none=>refine⟨_,rfl,rfl,_,rfl,Yk rfl ?_⟩;refine⟨_,rfl,k,_,_,_,rfl,rfl,SqT.of p,a10,_,rfl,o,_,_,_,rfl,rfl,SqT.of u,a20,_,_,rfl,rfl,_,rfl,k,_,_,_,rfl,rfl,SqT.of p,a11,_,rfl,o,_,_,_,rfl,rfl,SqT.of u,a21,_,_,rfl,rfl,(by show 2≤sizeLine;decide),fun t c=>x (.inr w2) t _ c rfl⟩
  | some b =>
  refine⟨_,rfl,rfl,_,rfl,YF (fun z=>nomatch z) ?_⟩;obtain⟨ma,za,ea,ga⟩:=S0 Z;obtain⟨mb,zb,eb,gb⟩:=S0 w2;have ip:=j.same v;have C:=U4 j.nd (O a ma);have G:=U4 j.nd (S b mb);rw[ea]at C;rw[eb]at G;have da:ZX I D (kV (.inl a)) (some (.str za)):=by rw[show some (V.str za)=Zt (kvH g) (.inl a) from C.symm];exact ZX.k ip.at'
  have db:ZX I D (kV (.inl b)) (some (.str zb)):=by rw[show some (V.str zb)=Zt (kvH g) (.inl b) from G.symm];exact ZX.k ip.at'
  refine⟨_,rfl,k,_,_,_,rfl,rfl,SqT.of p,a10,_,rfl,o,_,_,_,rfl,rfl,SqT.of u,a20,_,_,rfl,rfl,_,_,rfl,rfl,_,rfl,k,_,_,_,rfl,rfl,SqT.of p,a11,_,rfl,o,_,_,_,rfl,rfl,SqT.of u,a21,_,_,rfl,rfl,_,rfl,_,rfl,D,_,rfl,da,_,rfl,_,rfl,D,_,rfl,db,za,zb,rfl,(j.lk ea).1,(j.lk eb).1,_,_,rfl,rfl,_,_,rfl,rfl,(by show 2≤sizeLine;decide),fun t c=>?_⟩;exact q t _ _ _ (.both cr p1 p2 Z w2 ga gb) (v.free c) Zc (v.trans (Zh c _))
noncomputable abbrev ZF:=Int×Addr×List Str×Nat
noncomputable def kvR(L:List ZF):List (Key×V):=L.map fun e=>(.inl e.1,.ref e.2.1)
noncomputable def kvG(L:List ZF):List (Key×V):=L.map fun e=>(.inl e.1,.int (e.2.2.2:Int))
noncomputable def Y7(ra ga:Addr)(nb li lo:Int):List (Key×V):=[(.inr "rows",.ref ra),(.inr "gone",.ref ga),(.inr "number",.int nb),(.inr "likenings",.int li),(.inr "looks",.int lo)]
theorem WS(ra ga:Addr)(nb li lo:Int):Zt (Y7 ra ga nb li lo) (.inr "rows")=some (.ref ra):=by simp[Zt,Y7]
theorem Zsg:¬ (("rows" : Str) = "gone"):=by ac_rfl
theorem LN:¬ (("rows" : Str) = "number"):=by ac_rfl
theorem ZsL:¬ (("gone" : Str) = "number"):=by ac_rfl
theorem LM:¬ (("rows" : Str) = "likenings"):=by ac_rfl
theorem LL:¬ (("gone" : Str) = "likenings"):=by ac_rfl
theorem LK:¬ (("number" : Str) = "likenings"):=by ac_rfl
theorem LJ:¬ (("rows" : Str) = "looks"):=by ac_rfl
theorem LI:¬ (("gone" : Str) = "looks"):=by ac_rfl
theorem LH:¬ (("number" : Str) = "looks"):=by ac_rfl
theorem Pp:¬ (("likenings" : Str) = "looks"):=by ac_rfl
theorem WR{k k':Key}{v:V}{r:List (Key×V)}(h:¬ k=k'):Zt ((k,v)::r) k'=Zt r k':=Vn h
theorem SY{k:Key}{v:V}{r:List (Key×V)}:Zt ((k,v)::r) k=some v:=Vo rfl
theorem VD(ra ga:Addr)(nb li lo:Int):Zt (Y7 ra ga nb li lo) (.inr "gone")=some (.ref ga):=by unfold Y7;rw[WR (fun z=>Zsg (Sum.inr.inj z)),SY]
theorem Po(ra ga:Addr)(nb li lo:Int):Zt (Y7 ra ga nb li lo) (.inr "number")=some (.int nb):=by unfold Y7;rw[WR (fun z=>LN (Sum.inr.inj z)),WR (fun z=>ZsL (Sum.inr.inj z)),SY]
theorem SX(ra ga:Addr)(nb li lo:Int):Zt (Y7 ra ga nb li lo) (.inr "likenings")=some (.int li):=by unfold Y7;rw[WR (fun z=>LM (Sum.inr.inj z)),WR (fun z=>LL (Sum.inr.inj z)),WR (fun z=>LK (Sum.inr.inj z)),SY]
theorem Pn(ra ga:Addr)(nb li lo:Int):Zt (Y7 ra ga nb li lo) (.inr "looks")=some (.int lo):=by unfold Y7;rw[WR (fun z=>LJ (Sum.inr.inj z)),WR (fun z=>LI (Sum.inr.inj z)),WR (fun z=>LH (Sum.inr.inj z)),WR (fun z=>Pp (Sum.inr.inj z)),SY]
structure Own (H:Hp) (o ra ga:Addr) (L:List ZF) (nb li lo:Int):Prop where
 at':H o=some (.dK (Y7 ra ga nb li lo))
 rows:H ra=some (.dK (kvR L))
 gone:H ga=some (.dK (kvG L))
 nd:(L.map (·.1)).Nodup
 few:L.length≤60
 lst:∀e∈L,H e.2.1=some (.lst (e.2.2.1.map V.str))∧e.2.2.1.length≤100∧e.2.2.2≤e.2.2.1.length∧∀s∈e.2.2.1,s.length≤1000∧AZ s
theorem Own.same{H c:Hp}{o ra ga:Addr}{L:List ZF}{nb li lo:Int}(h:Own H o ra ga L nb li lo)(s:ZG H c):Own c o ra ga L nb li lo :=
 ⟨s _ _ h.at',s _ _ h.rows,s _ _ h.gone,h.nd,h.few,fun e d=>let ⟨a,b⟩:=h.lst e d;⟨s _ _ a,b⟩⟩
theorem Ug(L:List ZF):(kvR L).map (·.1)=(L.map (·.1)).map (Sum.inl:Int→Key):=by unfold kvR;rw[Qn,Qn];rfl
theorem Zmi(L:List ZF):(kvG L).map (·.1)=(L.map (·.1)).map (Sum.inl:Int→Key):=by unfold kvG;rw[Qn,Qn];rfl
theorem Pm{ns:List Int}(h:ns.Nodup):(ns.map (Sum.inl:Int→Key)).Nodup:=List.Pairwise.map _ (fun a b c z=>c (Sum.inl.inj z)) h
theorem Pk{L:List ZF}(nd:(L.map (·.1)).Nodup){e:ZF}(he:e∈L):Zt (kvR L) (.inl e.1)=some (.ref e.2.1):=TB (by rw[Ug];exact Pm nd) (Qe (f:=fun e:ZF=>((.inl e.1:Key),V.ref e.2.1)) he)
theorem SW{L:List ZF}(nd:(L.map (·.1)).Nodup){e:ZF}(he:e∈L):Zt (kvG L) (.inl e.1)=some (.int (e.2.2.2:Int)):=TB (by rw[Zmi];exact Pm nd) (Qe (f:=fun e:ZF=>((.inl e.1:Key),V.int (e.2.2.2:Int))) he)
theorem ZX.k'{H:Hp}{a:Addr}{kvs:List (Key×V)}{k:Key}{r:Option V}(e:H a=some (.dK kvs))(h:Zt kvs k=r):ZX H a (kV k) r:=by rw[← h];exact ZX.k e
theorem Zpn(ss:List Str)(g:Nat)(h:g≤ss.length):atI (ss.map V.str++[V.non]) (g:Int)=some (oV ss[g]?):=by
 refine Yr ?_;by_cases a:g<ss.length
 ·rw[QO (by rw[Qa];exact a),Qk,Qb a];rfl
 ·have e:g=ss.length:=by lia
  rw[QK (by rw[Qa];lia),Qa,e,QaY,QL (Qg _)];rfl
structure SV (L:List ZF) (E:List (Int×Option Str)):Prop where
 per:(E.map (·.1)).Perm (L.map (·.1))
 up:(E.map (·.1)).Pairwise (·<·)
 hd:∀e∈L,(e.1,e.2.2.1[e.2.2.2]?)∈E
def Uf:Sp:=fun vs H Q _=>∃ (o ra ga:Addr) (L:List ZF) (nb li lo:Int),vs=[.ref o]∧Own H o ra ga L nb li lo ∧
 ∀ (D:Addr) (E:List (Int×Option Str)) (a:Hp),H D=none→Hds a D E→SV L E→ZG H a→Q (.ref D) a
theorem Zma(T:Z9 K mg ah aa ae al aj af ak):Df P w K mg base 1 "_law_heads" ["_law_own"] Uf:=by
 refine T.t_l_heads.df Rc (fun vs H Q E h=>?_) (fun am f A outer s H vs Q E u h=>?_)
 ·obtain⟨o,O,ga,L,nb,li,lo,rfl,_⟩:=h;rfl
 obtain⟨o,O,ga,L,nb,li,lo,rfl,m,q⟩:=h;refine⟨_,#[Zf,#[Zx,1,Rc.nd,#[3],(@TH _ _)],#[Zf,#[Ya,PassesOwn.never,#[iL,K,#[Zk,VN,#[5],T.b.n_sorted,boot_sorted,#[Za,#[Zr,(ixG u),‹0›,#[Zs]],#[Zd]]]],#[ZD,2,Rc.nd,#[3]],#[Zi,#[Z6,#[Zr,(ixL K),#[ZJ,NR,#[Zr,(ixG u),#[Zr,(ixG u),‹0›,#[Zs]],‹2›],#[Z2,#[Za,#[ZT],#[Zd]]]],#[Zr,(ixG u),#[Zr,(ixG u),‹0›,#[Zs]],‹2›]],#[Yt,‹1›,‹2›,(X9 u)]]]],#[Zi,#[Zo,‹1›]]]],?_⟩;refine fun D R=>?_;have S:=Zh R (.dK []);have U:(upd H D (.dK [])) D=some (.dK []):=Zc;generalize upd H D (.dK [])=H1 at S U ⊢;have bN:=m.same S;have cm:=m.few;refine⟨_,rfl,o,_,rfl,ZX.k' (k:=.inr "rows") bN.at' (WS ..),O,_,L.map (·.1),rfl,bN.rows,Ug L,by rw[Qa];lia,fun l c W B aP=>?_⟩;have s2:=S.trans (Zh W (.lst (c.map V.int)));have X:(upd H1 l (.lst (c.map V.int))) l=some (.lst (c.map V.int)):=Zc;have ci:=Zh W (.lst (c.map V.int)) _ _ U;have Av:D≠l:=Ze U W;generalize upd H1 l (.lst (c.map V.int))=H2 at s2 X ci ⊢;have Y:c.Nodup:=B.nodup_iff.mpr m.nd;have cn:c.length=L.length:=by rw[B.length_eq,Qa]
 refine⟨l,rfl,⟨_,SqL.of X⟩,?_⟩;refine Vw (K:=K) (a:=l) (xs:=c.map V.int) (fun i G g=>∃ (E:List (Int×Option Str)) (Z:Option V),G=[some (.ref o),some (.ref D),Z]∧g D=some (.dK (kvH E))∧E.map (·.1)=c.take i∧(∀e∈L,e.1∈c.take i→(e.1,e.2.2.1[e.2.2.2]?)∈E)∧(∀x∈E,∃e∈L,x=(e.1,e.2.2.1[e.2.2.2]?))∧(∀b x,H b=some x→g b=some x)∧g l=some (.lst (c.map V.int))) ⟨[],_,rfl,ci,rfl,(fun e _ h=>by simp at h),(fun x h=>by cases h),s2,X⟩ (fun i G g _ hq=>by obtain⟨_,_,_,_,_,_,_,_,h⟩:=hq;exact SqL.of h) ?_ ?_
 ·rintro i x G g hx ⟨r,Z,rfl,jU,p,I,sx,J,dQ⟩;rw[Qk]at hx;cases t:c[i]? with
  | none=>rw[t]at hx;cases hx
  | some n =>
  rw[t]at hx;cases hx;have bH:i<c.length:=(Qd.mp t).1;obtain⟨e,d,rfl⟩:=Qp.mp (B.mem_iff.mp (Qv t));have M:=m.same J;obtain⟨la,eF,lg,gY⟩:=M.lst e d;refine⟨_,rfl,o,_,rfl,ZX.k' (k:=.inr "rows") M.at' (WS ..),_,rfl,O,_,rfl,ZX.k' (k:=.inl e.1) M.rows (Pk m.nd d),(by show 1≤sizeLine;decide),fun c1 o9=>?_⟩;have s4:=Zh o9 (.lst [.non]);refine⟨e.2.1,c1,_,_,rfl,rfl,s4 _ _ la,Zc,(by rw[Qa];exact Qar (ZB (by simp;lia))),fun c2 jh=>?_⟩;have C:=s4.trans (Zh jh (.lst (e.2.2.1.map V.str++[.non])));have qr:(upd (upd g c1 (.lst [.non])) c2 (.lst (e.2.2.1.map V.str++[.non]))) c2=some (.lst (e.2.2.1.map V.str++[.non])):=Zc;generalize upd (upd g c1 (.lst [.non])) c2 (.lst (e.2.2.1.map V.str++[.non]))=H5 at C qr ⊢;have lD:=M.same C;have sy:=C _ _ jU;refine⟨_,rfl,o,_,rfl,ZX.k' (k:=.inr "gone") lD.at' (VD ..),_,rfl,ga,_,rfl,ZX.k' (k:=.inl e.1) lD.gone (SW m.nd d),c2,_,_,_,rfl,rfl,SqL.of qr,Zpn _ _ lg,_,rfl,_,rfl,D,_,rfl,YG.k (k:=.inl e.1) sy ?_,?_⟩
  ·have:=congrArg List.length p;rw[Qa,QA]at this;unfold kvH;rw[Qa];exact ZB #[2]
  have sC:Zt (kvH r) (.inl e.1)=none:=by
   cases hv:Zt (kvH r) (.inl e.1) with
   | none=>rfl
   | some v =>
    obtain⟨y,hy,z⟩:=Qp.mp (Wl hv);injection z with z _;have N:e.1∈c.take i:=by rw[← p,← Sum.inl.inj z];exact Qe (f:=fun x:Int×Option Str=>x.1) hy
    obtain⟨j,hj⟩:=Q9.mp N;have lb:=(Qd.mp hj).1;rw[QA]at lb;rw[List.getElem?_take_of_lt #[2]]at hj;have:=(List.getElem?_inj #[2] Y).mp (hj.trans t.symm);lia
  rw[Wn _ sC];have Aw:kvH r++[((.inl e.1:Key),oV e.2.2.1[e.2.2.2]?)]=kvH (r++[(e.1,e.2.2.1[e.2.2.2]?)]):=by unfold kvH;rw[Qf];rfl
  rw[Aw];refine⟨r++[(e.1,e.2.2.1[e.2.2.2]?)],_,rfl,Zc,?_,fun e' ba hm=>?_,fun x hx=>?_,fun b x F=>?_,?_⟩
  ·rw[Qf,p,QH,t];rfl
  ·rw[QH,t]at hm;rcases Qo.mp hm with hm|hm
   ·exact QG _ (I e' ba hm)
   ·have N:e'.1=e.1:=by simpa using hm
    have h2:e'=e:=by
     obtain⟨a,ha⟩:=Q9.mp d;obtain⟨b,F⟩:=Q9.mp ba;have e1:(L.map (·.1))[a]? = some e.1:=by rw[Qk,ha];rfl
     have e2:(L.map (·.1))[b]? = some e.1:=by rw[Qk,F,← N];rfl
     have:=(List.getElem?_inj (by exact(Qd.mp e1).1) m.nd).mp (e1.trans e2.symm);rw[this,F]at ha;exact Qj ha
    rw[h2];exact Qy _ #[4]
  ·rcases Qo.mp hx with hx|hx
   ·exact sx x hx
   ·exact⟨e,d,by simpa using hx⟩
  ·rw[Zb (Ze F R)];exact C _ _ (J b x F)
  ·rw[Zb Av.symm];exact C _ _ dQ
 ·rintro G g ⟨r,Z,rfl,jU,p,I,sx,J,dQ⟩;rw[Qa,QC (Qg _)]at p I;refine⟨_,rfl,q D r g R ⟨jU,by rw[p];exact Y,fun x hx s hs=>?_⟩ ⟨by rw[p];exact B,?_,fun e d=>I e d (B.mem_iff.mpr (Qe d))⟩ J⟩
  ·obtain⟨e,d,rfl⟩:=sx x hx;exact(m.lst e d).2.2.2 s (Qv hs)
  ·rw[p];exact List.Pairwise.imp₂ (fun a b N h2=>by lia) aP Y
noncomputable def hdL(L:List ZF):Hd:=fun n=>((L.find? fun e=>decide (e.1=n)).bind fun e=>e.2.2.1[e.2.2.2]?).map cds
theorem Ue:∀ {L:List ZF},(L.map (·.1)).Nodup→∀ {e:ZF},e∈L→hdL L e.1=(e.2.2.1[e.2.2.2]?).map cds
 | [],_,_,h=>by cases h
 | x::r,nd,e,h=>by
  rw[Qh,QR]at nd;unfold hdL;rw[Q2];rcases QM.mp h with rfl|h
  ·rw[decide_eq_true rfl];rfl
  ·rw[decide_eq_false (fun z:x.1=e.1=>nd.1 (by rw[z];exact Qe (f:=fun x:ZF=>x.1) h))];exact Ue nd.2 h
theorem SV.same{L:List ZF}{E:List (Int×Option Str)}(h:SV L E)(nd:(L.map (·.1)).Nodup):∀n∈L.map (·.1),hdL L n=hdE E n:=fun n b=>by obtain⟨e,a,rfl⟩:=Qp.mp b;rw[Ue nd a];unfold hdE;rw[S6 (h.per.nodup_iff.mpr nd) (h.hd e a)]
theorem Win.perm{hd:Hd}{N M:List Int}{v:Option Int}(h:Win hd N v)(p:N.Perm M):Win hd M v:=by
 cases v with
 | none=>exact fun n c=>h n (p.mem_iff.mpr c)
 | some a=>obtain⟨d,x,e,f⟩:=h;exact⟨p.mem_iff.mp d,x,e,fun b g=>f b (p.mem_iff.mpr g)⟩
theorem YQ.congr{hd c:Hd}:∀ {n:Nat} {N:List Int} {k q:Int},YQ hd n N k q→(∀m∈N,c m=hd m)→YQ c n N k q
 | _,_,_,_,.few h,_=>.few h
 | _,N,_,_,.none h2 a b hw,h=>by have h1:∀m∈lo N,c m=hd m:=fun m hm=>h m (Qac hm);have d:∀m∈up N,c m=hd m:=fun m hm=>h m (Qad hm);exact .none h2 (a.congr h1) (b.congr d) (hw.imp (fun w=>w.congr h1) (fun w=>w.congr d))
 | _,N,_,_,.both h2 a b e f g i,h=>by have h1:∀m∈lo N,c m=hd m:=fun m hm=>h m (Qac hm);have d:∀m∈up N,c m=hd m:=fun m hm=>h m (Qad hm);exact .both h2 (a.congr h1) (b.congr d) (e.congr h1) (f.congr d) ((h1 _ e.1).trans g) ((d _ f.1).trans i)
theorem U3{A B:List Int}(p:A.Perm B)(ha:A.Pairwise (·<·))(hb:B.Pairwise (·<·)):A=B:=List.Perm.eq_of_pairwise (fun a b _ _ h1 h2=>by lia) ha hb p
theorem Ud{A:List Int}(h:A.Pairwise (·≤·))(nd:A.Nodup):A.Pairwise (·<·):=List.Pairwise.imp₂ (fun a b h1 h2=>by lia) h nd
def VC(L:List ZF)(H:Hp)(x:V):Prop:=(x=.non∧Win (hdL L) (L.map (·.1)) none)∨∃ (t:Addr) (e:ZF) (z:Str),x=.ref t∧e∈L∧e.2.2.1[e.2.2.2]? = some z∧H t=some (.tup [.int e.1,.int (e.2.2.2:Int),.str z])∧Win (hdL L) (L.map (·.1)) (some e.1)
theorem Pj(E:List (Int×Option Str)):(kvH E).map (·.1)=(E.map (·.1)).map (Sum.inl:Int→Key):=by unfold kvH;rw[Qn,Qn];rfl
def Pg:Sp:=fun vs H Q _=>∃ (o ra ga:Addr) (L:List ZF) (nb li lo:Int),vs=[.ref o]∧Own H o ra ga L nb li lo∧∀ (x:V) (a:Hp),VC L a x→ZG H a→Q x a
theorem Zj2(T:Z9 K mg ah aa ae al aj af ak)(R:Df P w K mg base 1 "_law_heads" ["_law_own"] Uf)(S:Df P w K mg base 1 "_law_least" ["_law_heads_here", "_law_numbers"] (S3 K)):Df P w K mg base 2 "_law_coming" ["_law_own"] Pg:=by
 refine T.t_l_coming.df P9 (fun U H Q E h=>?_) (fun am f A outer s H U Q E g h=>?_)
 ·obtain⟨o,G,u,L,nb,I,lo,rfl,_⟩:=h;rfl
 obtain⟨o,G,u,L,nb,I,lo,rfl,b,q⟩:=h;refine⟨_,#[Zf,#[Zx,1,P9.nd,#[3],#[Zw,R,g,#[Za,‹0›,#[Zd]],#[5]]],#[Zf,#[Zx,2,P9.nd,#[3],#[Zw,S,g,#[Za,‹1›,#[Za,#[Zk,VN,#[5],T.b.n_sorted,boot_sorted,#[Za,‹1›,#[Zd]]],#[Zd]]],#[5]]],#[Zi,#[Zo,#[Xn,#[Zn,XF,‹2›,#[ZT],(Zu _)],#[ZT],#[YU,#[Za,‹2›,#[Za,#[Zr,(ixG g),#[Zr,(ixG g),‹0›,#[Zs]],‹2›],#[Za,#[Zr,(ixG g),‹1›,‹2›],#[Zd]]]]]]]]]],?_⟩;refine⟨_,rfl,o,G,u,L,nb,I,lo,rfl,b,fun D i J hD j c W=>?_⟩;have vK:i.length=L.length:=by have:=c.per.length_eq;rw[Qa,Qa]at this;exact this
 have cm:=b.few;refine⟨_,rfl,_,rfl,D,_,i.map (·.1),rfl,j.at',Pj i,by rw[Qa];lia,fun l d X p aP=>?_⟩;have r:=Zh X (.lst (d.map V.int));have M:(upd J l (.lst (d.map V.int))) l=some (.lst (d.map V.int)):=Zc;generalize upd J l (.lst (d.map V.int))=H2 at r M ⊢;have Y:=W.trans r;have Z:d.length≤60:=by rw[p.length_eq,Qa];lia
 refine⟨D,l,i,d,rfl,j.same r,SqL.of M,Z,fun n hn=>p.mem_iff.mp hn,fun v H3 hw N=>?_⟩;have y:=Y.trans N;have vL:=(j.same r).same N;have B:Win (hdL L) (L.map (·.1)) v:=(hw.perm (p.trans c.per)).congr (c.same b.nd);cases v with
 | none=>exact⟨_,rfl,rfl,_,rfl,Yk rfl (q _ H3 (.inl ⟨rfl,B⟩) y)⟩
 | some a =>
  obtain⟨e,m,ea⟩:=Qp.mp B.1;have lV:e.1=a:=ea;subst lV;obtain⟨_,x,C,_⟩:=B;rw[Ue b.nd m]at C;cases F:e.2.2.1[e.2.2.2]? with
  | none=>rw[F]at C;cases C
  | some z =>
  have hv:Zt (kvH i) (.inl e.1)=some (.str z):=by rw[U4 j.nd (c.per.mem_iff.mpr (Qe m)),S6 j.nd (c.hd e m),F];rfl
  have O:=b.same y;refine⟨_,rfl,rfl,_,rfl,YF (fun z=>nomatch z) ⟨_,rfl,_,rfl,o,_,rfl,ZX.k' (k:=.inr "gone") O.at' (VD ..),_,rfl,u,_,rfl,ZX.k' (k:=.inl e.1) O.gone (SW b.nd m),_,rfl,_,rfl,D,_,rfl,ZX.k' (k:=.inl e.1) vL.at' hv,(by show 3≤sizeLine;decide),fun t ht=>?_⟩⟩;refine q _ _ (.inr ⟨t,e,z,rfl,m,F,Zc,?_⟩) (y.trans (Zh ht _));exact(hw.perm (p.trans c.per)).congr (c.same b.nd)
theorem LG(ra ga:Addr)(nb li lo v:Int):YT (Y7 ra ga nb li lo) (.inr "likenings") (.int v)=Y7 ra ga nb v lo:=by unfold YT Y7;have a1:¬ (("looks" : Str) = "likenings"):=fun h=>Pp h.symm;simp[LM,LL,LK,a1]
theorem LF(ra ga:Addr)(nb li lo v:Int):YT (Y7 ra ga nb li lo) (.inr "looks") (.int v)=Y7 ra ga nb li v:=by unfold YT Y7;simp[LJ,LI,LH,Pp]
def Pf:Sp:=fun vs H Q _=>∃ (o ra ga:Addr) (L:List ZF) (nb li lo:Int),vs=[.ref o]∧Own H o ra ga L nb li lo∧(L.map (·.1)).Pairwise (·<·)∧(∀e∈L,e.2.1≠o) ∧
 ∀ (k b:Int) (a:Hp),YQ (hdL L) 8 (L.map (·.1)) k b→Own a o ra ga L nb (li+k) (lo+b)→But o H a→Q .non a
theorem Own.set{H:Hp}{o ra ga:Addr}{L:List ZF}{nb li lo li' lo':Int}(h:Own H o ra ga L nb li lo)(d:∀e∈L,e.2.1≠o)(f:ra≠o)(g:ga≠o):Own (upd H o (.dK (Y7 ra ga nb li' lo'))) o ra ga L nb li' lo' :=
 ⟨Zc,by rw[Zb f];exact h.rows,by rw[Zb g];exact h.gone,h.nd,h.few,fun e c=>let ⟨a,b⟩:=h.lst e c;⟨by rw[Zb (d e c)];exact a,b⟩⟩
theorem Own.ne{H:Hp}{o ra ga:Addr}{L:List ZF}{nb li lo:Int}(h:Own H o ra ga L nb li lo):ra≠o∧ga≠o:=by
 constructor
 ·rintro rfl;have:=h.rows.symm.trans h.at';injection this with this;injection this with this;cases L with
  | nil=>cases this
  | cons e r=>unfold kvR Y7 at this;injection this with this _;injection this with this _;cases this
 ·rintro rfl;have:=h.gone.symm.trans h.at';injection this with this;injection this with this;cases L with
  | nil=>cases this
  | cons e r=>unfold kvG Y7 at this;injection this with this _;injection this with this _;cases this
theorem ZmX(T:Z9 K mg ah aa ae al aj af ak)(X:Df P w K mg base 1 "_law_heads" ["_law_own"] Uf)(Y:Df P w K mg base 9 "_law_first_play" ["_law_heads_here", "_law_numbers"] (LP K 8)):Df P w K mg base 10 "_law_play" ["_law_own"] Pf:=by
 refine T.t_l_play.df Tn (fun Z H Q E h=>?_) (fun am f A outer s H Z Q E d h=>?_)
 ·obtain⟨o,e,g,L,nb,a,lo,rfl,_⟩:=h;rfl
 obtain⟨o,e,g,L,nb,a,lo,rfl,i,bx,B,q⟩:=h;refine⟨_,#[Zf,#[Zx,1,Tn.nd,#[3],#[Zw,X,d,#[Za,‹0›,#[Zd]],#[5]]],#[Zf,#[Z6,#[Zw,Y,d,#[Za,‹1›,#[Za,#[Zk,VN,#[5],T.b.n_sorted,boot_sorted,#[Za,‹1›,#[Zd]]],#[Zd]]],#[5]],#[gT,K,2,#[ZC,#[ZD,2,Tn.nd,#[3]],#[ZC,#[ZD,3,Tn.nd,#[3]],(@Yb _)]]]],#[Zf,#[Z6,#[ZJ,YS,#[Zr,(ixG d),‹0›,#[Zs]],‹2›],#[Yt,‹0›,#[Zs],(X9 d)]],#[Zi,#[Z6,#[ZJ,YS,#[Zr,(ixG d),‹0›,#[Zs]],‹3›],#[Yt,‹0›,#[Zs],(X9 d)]]]]]],?_⟩;refine⟨_,rfl,o,e,g,L,nb,a,lo,rfl,i,fun D j C hD F r s1=>?_⟩;have vK:j.length=L.length:=by have:=r.per.length_eq;rw[Qa,Qa]at this;exact this
 have cm:=i.few;refine⟨_,rfl,_,rfl,D,_,j.map (·.1),rfl,F.at',Pj j,by rw[Qa];lia,fun l c hl u aP=>?_⟩;have v:=Zh hl (.lst (c.map V.int));have G:(upd C l (.lst (c.map V.int))) l=some (.lst (c.map V.int)):=Zc;generalize upd C l (.lst (c.map V.int))=H2 at v G ⊢;have s2:=s1.trans v;have I:=u.trans r.per;have J:c=L.map (·.1):=U3 I (Ud aP (I.nodup_iff.mpr i.nd)) bx;have M:c.length≤60:=by rw[u.length_eq,Qa];lia
 refine⟨D,l,j,c,rfl,F.same v,SqL.of G,M,by decide,Qw M #[6],fun n hn=>u.mem_iff.mp hn,fun t k N O bb ht o7 s3=>?_⟩;refine⟨t,_,rfl,SqT.of o7,rfl,_,_,rfl,_,_,rfl,rfl,?_⟩;have R:=s2.trans s3;have y:=i.same R;obtain⟨S,U⟩:=i.ne;have jc:(Y7 e g nb a lo).length<sizeLine:=ZB (by show 5≤1000;decide);refine⟨_,rfl,o,_,rfl,ZX.k' (k:=.inr "likenings") y.at' (SX ..),_,rfl,_,_,rfl,rfl,_,rfl,o,_,rfl,YG.k (k:=.inr "likenings") y.at' jc,?_⟩;rw[LG];have p:=y.set (li':=a+k) (lo':=lo) B S U;have W:But o H (upd O o (.dK (Y7 e g nb (a+k) lo))):=fun b x z n=>by rw[Zb n];exact R b x z
 generalize upd O o (.dK (Y7 e g nb (a+k) lo))=H4 at p W ⊢;have vM:(Y7 e g nb (a+k) lo).length<sizeLine:=ZB (by show 5≤1000;decide);refine⟨_,rfl,o,_,rfl,ZX.k' (k:=.inr "looks") p.at' (Pn ..),_,rfl,_,_,rfl,rfl,_,rfl,o,_,rfl,YG.k (k:=.inr "looks") p.at' vM,?_⟩;rw[LF];refine q k N _ ?_ (p.set (li':=a+k) (lo':=lo+N) B S U) (fun b x z n=>by rw[Zb n];exact W b x z n);rw[← J];exact bb.congr fun m hm=>r.same i.nd m (by rw[← J];exact hm)
noncomputable def YV(L:List ZF):List Int:=L.map fun e=>(e.2.2.1.length:Int)-(e.2.2.2:Int)
def LD:Sp:=fun vs H Q _=>∃ (o ra ga:Addr) (L:List ZF) (nb li lo:Int),vs=[.ref o]∧Own H o ra ga L nb li lo∧∀a:Hp,ZG H a→Q (.int (YV L).sum) a
theorem Own.ne2{H:Hp}{o ra ga:Addr}{L:List ZF}{nb li lo:Int}(h:Own H o ra ga L nb li lo)(hl:L≠[]):ga≠ra:=by
 rintro rfl;have:=h.rows.symm.trans h.gone;injection this with this;injection this with this;cases L with
 | nil=>exact hl rfl
 | cons e r=>unfold kvR kvG at this;injection this with this _;injection this with _ this;cases this
theorem Zmw(T:Z9 K mg ah aa ae al aj af ak):Df P w K mg base 1 "_law_left_of" ["_law_own"] LD:=by
 refine T.t_l_left_of.df Zh5 (fun S H Q E h=>?_) (fun am f A outer s H S Q E t h=>?_)
 ·obtain⟨o,a,J,L,nb,U,lo,rfl,_⟩:=h;rfl
 obtain⟨o,a,J,L,nb,U,lo,rfl,c,q⟩:=h;refine⟨_,#[Zi,#[Zo,#[Zk,(Nv K),#[5],T.b.n_sum,boot_sum,#[Za,(@RU _ _ _ #[WY,VH,(@Zn1 _ _ _ _ #[Zr,(ixG t),#[pv,0,(Or.inr #[3])],#[Zs]]),(fun _ _ _ _=>#[cg,1,VH]),(fun _ _ _ _=>(@Wp _)),(fun _ _ _ _=>#[ZJ,WJ,#[Zk,(YB K),(Vq VH rfl #[1]),T.b.n_len,Qu,#[Za,#[Zr,(ixG t),#[Zr,(ixG t),#[cv,0,VH],#[Zs]],#[cw,1,VH]],#[Zd]]],#[Zr,(ixG t),#[Zr,(ixG t),#[cv,0,VH],#[Zs]],#[cw,1,VH]]])]),#[Zd]]]]],?_⟩;obtain⟨W,ng⟩:=c.ne;have cm:=c.few;refine⟨a,_,c.rows,True.intro,_,rfl,o,_,rfl,ZX.k' (k:=.inr "rows") c.at' (WS ..),a,_,rfl,c.rows,fun m B C=>?_⟩;have u:(upd H a (.frz m (.dK (kvR L)))) a=some (.frz m (.dK (kvR L))):=Zc;have k1:∀b x,H b=some x→b≠a→(upd H a (.frz m (.dK (kvR L)))) b=some x:=fun b x h n=>by rw[Zb n];exact h
 generalize upd H a (.frz m (.dK (kvR L)))=X at u k1 C ⊢;refine ZoB (d:=a) (o:=m) (kvs:=kvR L) (fun i zs F j=>(∃v:Option V,F=[some (.ref o),v])∧zs=(YV (L.take i)).map V.int∧i≤L.length∧j B=some (.lst zs)∧ZG X j) ?_ (fun _ _ _ _ h=>h.2.2.2.2 _ _ u) ?_ ?_
 ·exact⟨⟨none,rfl⟩,rfl,Qs _,Zc,Zh C _⟩
 ·rintro i k x zs F j p ⟨⟨v,rfl⟩,rfl,hi,D,g⟩;unfold kvR at p;rw[Qk]at p;cases y:L[i]? with
  | none=>rw[y]at p;cases p
  | some e =>
  rw[y]at p;cases p;have Y:i<L.length:=(Qd.mp y).1;have l:=Qv y;have G:=c.ne2 (fun z=>by rw[z]at l;cases l);obtain⟨I,Z,lg,_⟩:=c.lst e l;have Ay:e.2.1≠a:=fun z=>by rw[z,c.rows]at I;cases I
  have M:=g _ _ (k1 o _ c.at' W.symm);refine⟨_,rfl,o,_,rfl,ZX.k' (k:=.inr "rows") M (WS ..),_,rfl,a,_,rfl,ZX.fz (k:=.inl e.1) (g _ _ u) (Pk c.nd l),e.2.1,_,rfl,.inl (SqL.of (g _ _ (k1 _ _ I Ay))),_,rfl,o,_,rfl,ZX.k' (k:=.inr "gone") M (VD ..),_,rfl,J,_,rfl,ZX.k' (k:=.inl e.1) (g _ _ (k1 _ _ c.gone G)) (SW c.nd l),_,_,rfl,rfl,D,(by unfold YV;rw[Qa,Qa,QA];exact ZB #[2]),⟨_,rfl⟩,?_,Y,Zc,fun b x r=>?_⟩
  ·rw[QH,y];unfold YV;rw[Qf,Qf,Qa];rfl
  ·rw[Zb (Ze r C)];exact g b x r
 rintro zs F j ⟨⟨v,rfl⟩,rfl,_,D,g⟩;have ck:(kvR L).length=L.length:=by unfold kvR;rw[Qa]
 rw[ck,QC (Qg _)]at D;refine⟨m,g _ _ u,?_⟩;have N:(upd j a (.dK (kvR L))) B=some (.lst ((YV L).map V.int)):=by rw[Zb (Ze u C).symm];exact D
 have O:ZG H (upd j a (.dK (kvR L))):=fun b x r=>by
  by_cases e:b=a
  ·rw[e,c.rows]at r;rw[e,Zc];exact r
  ·rw[Zb e];exact g _ _ (k1 b x r e)
 generalize upd j a (.dK (kvR L))=H3 at N O ⊢;refine⟨B,YV L,rfl,SqL.of N,(by unfold YV;rw[Qa];lia),fun n R=>?_,q H3 O⟩;unfold YV at R;obtain⟨e,l,rfl⟩:=Qp.mp R;obtain⟨_,Z,lg,_⟩:=c.lst e l;lia
theorem Zjm:([.inr "rows",.inr "gone",.inr "number",.inr "likenings",.inr "looks"]:List Key).Nodup:=by ac_rfl
structure We (H:Hp) (r:Addr) (rs:List (Addr×List Str)):Prop where
 at':H r=some (.lst (rs.map fun x=>V.ref x.1))
 few:rs.length≤60
 lst:∀x∈rs,H x.1=some (.lst (x.2.map V.str))∧x.2.length≤100∧∀s∈x.2,s.length≤1000∧AZ s
theorem We.same{H c:Hp}{r:Addr}{d:List (Addr×List Str)}(h:We H r d)(s:ZG H c):We c r d:=⟨s _ _ h.at',h.few,fun x hx=>let ⟨a,b⟩:=h.lst x hx;⟨s _ _ a,b⟩⟩
def SU(L:List ZF)(a:List (Addr×List Str)):Prop:=L.map (·.1)=Xr 0 a.length∧L.map (fun e=>e.2.2)=a.map fun x=>(x.2,0)
theorem LC(n:Nat):(Xr 0 n).Pairwise (·<·):=by unfold Xr;exact List.Pairwise.map _ (fun a b h=>by lia) (List.pairwise_lt_range)
def ZnV:Sp:=fun vs H Q _=>∃ (r:Addr) (a:List (Addr×List Str)),vs=[.ref r]∧We H r a ∧
 ∀ (o b c:Addr) (L:List ZF) (k f:Int) (d:Hp),H o=none→H b=none→H c=none→c≠b→(∀e∈L,H e.2.1=none∧e.2.1≠o)→SU L a→Own d o b c L (a.length:Int) k f→YQ (hdL L) 8 (L.map (·.1)) k f→ZG H d→Q (.ref o) d
theorem Zlz(T:Z9 K mg ah aa ae al aj af ak)(bS:Df P w K mg base 10 "_law_play" ["_law_own"] Pf):Df P w K mg base 11 "_law_world" ["_law_rows_here"] ZnV:=by
 refine T.t_l_world.df To (fun vs H Q E h=>?_) (fun am f A outer s H vs Q E F h=>?_)
 ·obtain⟨r,l,rfl,_⟩:=h;rfl
 obtain⟨r,l,rfl,G,q⟩:=h;refine⟨_,#[Zf,#[Zx,1,To.nd,#[3],(@ZoY _ _ _ _ _ #[VO,#[Zs],(@TH _ _),#[VO,#[Zs],(@TH _ _),#[VO,#[Zs],#[Zk,(YB K),#[5],T.b.n_len,Qu,#[Za,‹0›,#[Zd]]],#[VO,#[Zs],#[Zj],#[VO,#[Zs],#[Zj],(@Zot _ _)]]]]] rfl rfl (by intro z;cases z) (by show 5≤15;decide))],#[Zf,#[Ya,PassesOwn.never,#[iE,K,T.b.n_enumerate,#[Za,‹0›,#[Zd]]],#[gT,K,2,#[ZC,#[ZD,2,To.nd,#[3]],#[ZC,#[ZD,3,To.nd,#[3]],(@Yb _)]]],#[Zf,#[Z6,#[W4,(UN K),T.b.n_list,boot_list,#[Za,‹3›,#[Zd]]],#[Yt,#[Zr,(ixG F),‹1›,#[Zs]],‹2›,(X9 F)]],#[Zi,#[Z6,#[Zj],#[Yt,#[Zr,(ixG F),‹1›,#[Zs]],‹2›,(X9 F)]]]]],#[Zf,#[YD,#[Zw,bS,F,#[Za,‹1›,#[Zd]],#[5]]],#[Zi,#[Zo,‹1›]]]]],?_⟩;refine fun o S=>?_;have U:=Zh S (.dK []);have W:(upd H o (.dK [])) o=some (.dK []):=Zc;generalize upd H o (.dK [])=H1 at U W ⊢;refine fun d jZ=>?_;have I:=Zh jZ (.dK []);have mP:(upd H1 d (.dK [])) d=some (.dK []):=Zc;have mX:d≠o:=(Ze W jZ).symm;generalize upd H1 d (.dK [])=H2 at I mP ⊢;refine fun g X=>?_;have Y:=Zh X (.dK []);have vN:(upd H2 g (.dK [])) g=some (.dK []):=Zc;have B:g≠d:=(Ze mP X).symm;have vO:g≠o:=(Ze (I _ _ W) X).symm;generalize upd H2 g (.dK [])=Z at Y vN ⊢;have s3:ZG H Z:=(U.trans I).trans Y;have qt:H d=none:=U.free jZ;have qu:H g=none:=(U.trans I).free X;have fg:=(I.trans Y) _ _ W;have Az:=Y _ _ mP;have AA:∀nb:Int,Wm [] (Y7 d g nb 0 0)=Y7 d g nb 0 0:=fun nb=>(Ng (Y7 d g nb 0 0) [] (show ((([]:List (Key×V))++Y7 d g nb 0 0).map fun kv=>kv.1).Nodup from Zjm)).trans (List.nil_append _);refine⟨_,rfl,r,_,rfl,.inl (SqL.of (s3 _ _ G.at')),fg,Y7 d g (((l.map fun x=>V.ref x.1).length:Nat):Int) 0 0,rfl,(by show 5≤15;decide),?_⟩;rw[AA,Qa];have fE:Own (upd Z o (.dK (Y7 d g (l.length:Int) 0 0))) o d g [] (l.length:Int) 0 0 :=
  ⟨Zc,by rw[Zb mX];exact Az,by rw[Zb vO];exact vN,List.nodup_nil,by decide,fun e h=>by cases h⟩
 have s4:ZG H (upd Z o (.dK (Y7 d g (l.length:Int) 0 0))):=fun b x m=>by rw[Zb (Ze m S)];exact s3 b x m
 generalize upd Z o (.dK (Y7 d g (l.length:Int) 0 0))=H4 at fE s4 ⊢;refine⟨_,rfl,r,_,rfl,SqL.of (s4 _ _ G.at'),?_⟩;refine R5 (K:=K) (a:=r) (xs:=l.map fun x=>V.ref x.1) (fun i σ C=>∃ (L:List ZF) (v2 v3:Option V),σ=[some (.ref r),some (.ref o),v2,v3]∧Own C o d g L (l.length:Int) 0 0∧SU L (l.take i)∧(∀e∈L,H e.2.1=none∧e.2.1≠o)∧ZG H C) ⟨[],_,_,rfl,fE,⟨rfl,rfl⟩,(fun e h=>by cases h),s4⟩ (fun i σ C hq=>by obtain⟨_,_,_,_,_,_,_,J⟩:=hq;exact SqL.of (J _ _ G.at')) ?_ ?_
 ·rintro i y σ C p M ⟨L,v2,v3,rfl,ow,⟨n1,n2⟩,bq,J⟩ hp;rw[Qk]at M;cases N:l[i]? with
  | none=>rw[N]at M;cases M
  | some x =>
  rw[N]at M;cases M;have bH:i<l.length:=(Qd.mp N).1;have cm:=G.few;obtain⟨lx,eF,gY⟩:=G.lst x (Qv N);have sF:L.length=i:=by have:=congrArg List.length n1;rw[Qa,UM,QA]at this;lia
  have au:∀e∈L,e.1≠(i:Int):=fun e he z=>by
   have h1:e.1∈Xr 0 (l.take i).length:=by rw[← n1];exact Qe (f:=fun e:ZF=>e.1) he
   unfold Xr at h1;obtain⟨j,hj,ej⟩:=Qp.mp h1;have:=Qak.mp hj;rw[QA]at this;lia
  have sp:=Zh hp (.tup [.int (i:Int),.ref x.1]);have mY:(upd C p (.tup [.int (i:Int),.ref x.1])) p=some (.tup [.int (i:Int),.ref x.1]):=Zc;have s6:=J.trans sp;have n:=ow.same sp;generalize upd C p (.tup [.int (i:Int),.ref x.1])=H6 at mY s6 n ⊢;refine⟨p,_,rfl,SqT.of mY,rfl,_,_,rfl,_,_,rfl,rfl,?_⟩;refine⟨_,rfl,x.1,_,rfl,.inl (SqL.of (s6 _ _ lx)),fun c D=>?_⟩;have s7:=s6.trans (Zh D (.lst (x.2.map V.str)));have t:=n.same (Zh D (.lst (x.2.map V.str)));have vP:(upd H6 c (.lst (x.2.map V.str))) c=some (.lst (x.2.map V.str)):=Zc;have AB:H c=none:=s6.free D;have AC:c≠o:=(Ze n.at' D).symm;have AD:c≠d:=(Ze n.rows D).symm;have AE:c≠g:=(Ze n.gone D).symm;generalize upd H6 c (.lst (x.2.map V.str))=H7 at s7 t vP ⊢;have hsz:(kvR L).length<sizeLine:=by unfold kvR;rw[Qa];exact ZB #[2]
  have vQ:(kvG L).length<sizeLine:=by unfold kvG;rw[Qa];exact ZB #[2]
  have gz:Zt (kvR L) (.inl (i:Int))=none:=by
   cases O:Zt (kvR L) (.inl (i:Int)) with
   | none=>rfl
   | some v=>obtain⟨e,he,z⟩:=Qp.mp (Wl O);injection z with z _;exact absurd (Sum.inl.inj z) (au e he)
  have i7:Zt (kvG L) (.inl (i:Int))=none:=by
   cases O:Zt (kvG L) (.inl (i:Int)) with
   | none=>rfl
   | some v=>obtain⟨e,he,z⟩:=Qp.mp (Wl O);injection z with z _;exact absurd (Sum.inl.inj z) (au e he)
  refine⟨_,rfl,o,_,rfl,ZX.k' (k:=.inr "rows") t.at' (WS ..),_,rfl,d,_,rfl,YG.k (k:=.inl (i:Int)) t.rows hsz,?_⟩;rw[Wn _ gz,show kvR L++[((.inl (i:Int):Key),V.ref c)]=kvR (L++[((i:Int),c,x.2,0)]) by unfold kvR;rw[Qf];rfl];have j0:(upd H7 d (.dK (kvR (L++[((i:Int),c,x.2,0)])))) o=some (.dK (Y7 d g (l.length:Int) 0 0)):=by rw[Zb mX.symm];exact t.at'
  have AF:(upd H7 d (.dK (kvR (L++[((i:Int),c,x.2,0)])))) g=some (.dK (kvG L)):=by rw[Zb B];exact t.gone
  refine⟨_,rfl,o,_,rfl,ZX.k' (k:=.inr "gone") j0 (VD ..),_,rfl,g,_,rfl,YG.k (k:=.inl (i:Int)) AF vQ,?_⟩;rw[Wn _ i7,show kvG L++[((.inl (i:Int):Key),V.int 0)]=kvG (L++[((i:Int),c,x.2,0)]) by unfold kvG;rw[Qf];rfl];refine⟨L++[((i:Int),c,x.2,0)],_,_,rfl,⟨by rw[Zb vO.symm];exact j0,by rw[Zb B.symm];exact Zc,Zc,?_,by rw[Qr,QB];lia,fun e he=>?_⟩,⟨?_,?_⟩,fun e he=>?_,fun b y m=>?_⟩
  ·rw[Qf];refine QaZ.mpr ⟨ow.nd,by simp,fun u hu v O=>?_⟩;obtain⟨e,he,rfl⟩:=Qp.mp hu;have:v=(i:Int):=by simpa using O
   rw[this];exact au e he
  ·rcases Qo.mp he with he|he
   ·obtain⟨R,b2⟩:=t.lst e he;have e1:e.2.1≠d:=fun z=>by rw[z,t.rows]at R;cases R
    have e2:e.2.1≠g:=fun z=>by rw[z,t.gone]at R;cases R
    exact⟨by rw[Zb e2,Zb e1];exact R,b2⟩
   ·rw[Ql.mp he];exact⟨by rw[Zb AE,Zb AD];exact vP,eF,Qs _,gY⟩
  ·rw[Qf,n1,QA,QA,Qax #[2],Qax #[2]];unfold Xr;rw[QaP,Qf];simp
  ·rw[Qf,n2,QH,N,Qf];rfl
  ·rcases Qo.mp he with he|he
   ·exact bq e he
   ·rw[Ql.mp he];exact⟨AB,AC⟩
  ·rw[Zb (Ze m qu),Zb (Ze m qt)];exact s7 b y m
 ·rintro σ C ⟨L,v2,v3,rfl,ow,fW,bq,J⟩;rw[Qa,QC (Qg _)]at fW;refine⟨_,rfl,o,d,g,L,_,0,0,rfl,ow,by rw[fW.1];exact LC _,fun e he=>(bq e he).2,fun k q' H6 bb n b6=>?_⟩;rw[Int.zero_add,Int.zero_add]at n;exact⟨_,rfl,q o d g L k q' H6 S qt qu B bq fW n bb (fun b x m=>b6 b x (J b x m) (Ze m S))⟩
def Pe:Sp:=fun vs H Q _=>∃ (p l:Addr) (c a:Int) (ss:List Str),vs=[.ref p,.ref l,.int a]∧Y3 H p c∧c<2 ^ 40∧0≤a∧a≤60∧H l=some (.lst (ss.map V.str))∧1≤ss.length∧ss.length≤4∧(∀s∈ss,s.length≤24∧AZ s) ∧
 ∀ (r:Addr) (b:List Str) (e:Int) (d:Hp),H r=none→d r=some (.lst (b.map V.str))→(b.length:Int)≤a→sortedS b=true→(∀s∈b,s.length≤28∧AZ s)→Y3 d p e→c≤e→e≤c+600→But p H d→Q (.ref r) d
theorem Zn3(T:Z9 K mg ah aa ae al aj af ak)(m:Df P w K mg base 4 "_law_keys" ["_law_left_here", "_law_stems_here", "_law_most"] PQ):Df P w K mg base 5 "_law_row" ["_law_left_here", "_law_stems_here", "_law_most"] Pe:=by
 refine T.t_l_row.df ZnP (fun n H Q E h=>?_) (fun am f A outer s H n Q E o h=>?_)
 ·obtain⟨p,l,c,b,d,rfl,_⟩:=h;rfl
 obtain⟨p,l,c,b,d,rfl,g,t,u,v,y,B,C,D,q⟩:=h;refine⟨_,#[Zi,#[Zo,#[Zk,(Zsr K),#[5],T.b.n_sorted,boot_sorted,#[Za,#[Zw,m,o,#[Za,‹0›,#[Za,‹1›,#[Za,‹2›,#[Zd]]]],#[5]],#[Zd]]]]],?_⟩;refine⟨_,rfl,_,rfl,_,rfl,p,l,c,b,d,rfl,g,t,u,v,y,B,C,D,fun r F G H1 aE I J L i a1 a2 j=>?_⟩;refine⟨r,F,rfl,SqL.of I,by lia,fun l2 M a k N=>?_⟩;obtain⟨ob,uI⟩:=g.here;have O:H l2=none:=by
  cases e:H l2 with
  | none=>rfl
  | some x =>
   by_cases z:l2=p
   ·obtain⟨o1,R⟩:=i.here;rw[z,R]at a;cases a
   ·have:=j l2 x e z;rw[this]at a;cases a
 exact q l2 M G _ O Zc (by rw[k.length_eq];exact J) N (fun s S=>L s (k.mem_iff.mp S)) (i.new a) a1 a2 (j.trans (But.same (Zh a _)))
def LA:Sp:=fun vs H Q _=>∃ (p:Addr) (c:Int),vs=[.ref p]∧Y3 H p c∧c<2 ^ 30 ∧
 ∀ (r:Addr) (b:List (Addr×List Str)) (d:Int) (a:Hp),H r=none→We a r b→(∀x∈b,H x.1=none∧x.1≠r∧x.1≠p∧sortedS x.2=true∧x.2.length≤60)→b.length≤12→Y3 a p d→c≤d→d≤c+10000→But p H a→Q (.ref r) a
theorem Znm(T:Z9 K mg ah aa ae al aj af ak)(aq:Df P w K mg base 2 "_law_pick" ["_law_left_here", "_law_many_here"] VG)(eU:Df P w K mg base 3 "_law_stems" ["_law_left_here"] PV)(fG:Df P w K mg base 3 "_law_many" ["_law_left_here"] PD)(gA:Df P w K mg base 5 "_law_row" ["_law_left_here", "_law_stems_here", "_law_most"] Pe):Df P w K mg base 6 "_law_rows" ["_law_left_here"] LA:=by
 refine T.t_l_rows.df Rf (fun vs H Q E h=>?_) (fun am f A outer s H vs Q E n h=>?_)
 ·obtain⟨p,c,rfl,_⟩:=h;rfl
 obtain⟨p,c,rfl,I,c1,q⟩:=h;refine⟨_,#[Zf,#[Zx,1,Rf.nd,(Or.inr rfl),#[Zw,eU,n,#[Za,#[pv,0,(Or.inr #[3])],#[Zd]],#[5]]],#[Zf,#[Zx,2,Rf.nd,(Or.inr rfl),#[Zr,(ixL K),#[Z2,#[Za,#[Zj],#[Za,#[Zj],#[Za,#[Zj],#[Za,#[Zj],#[Za,#[Zj],#[Za,#[Zj],#[Za,#[Zj],#[Za,#[Zj],#[Zd]]]]]]]]]],#[Zw,aq,n,#[Za,#[pv,0,(Or.inr #[3])],#[Za,#[Zj],#[Zd]]],#[5]]]],#[Zi,#[Zo,#[WY,Vd,#[W7,T.b.n_range,#[Za,#[Zw,fG,n,#[Za,#[pv,0,(Or.inr #[3])],#[Zd]],#[5]],#[Zd]]],(fun _ _ _ _=>#[cg,3,Vd]),(fun _ _ _ _=>(@Wp _)),(fun _ _ _ _=>#[Zw,gA,n,#[Za,#[cv,0,Vd],#[Za,#[cv,1,Vd],#[Za,#[cv,2,Vd],#[Zd]]]],(Vq Vd rfl #[1])])]]]]],?_⟩;have c0:=I.ge;refine⟨_,rfl,p,c,rfl,I,by lia,fun l ss c2 H1 AG j1 n1 n4 jp L1 a1 a2 B1=>?_⟩;have J:p≠l:=by obtain⟨o,d⟩:=I.here;exact Ze d AG
 refine⟨(by show 8≤sizeLine;decide),fun e t=>?_⟩;have AH:p≠e:=by obtain⟨o,d⟩:=L1.here;exact Ze d t
 refine⟨_,rfl,p,c2,_,rfl,L1.new t,by lia,by decide,by decide,fun i L i0 i1 L2 M=>?_⟩;obtain⟨m,hm,bw⟩:=PN (ns:=[5,5,4,6,3,7,5,20]) i0 i1;have oU:L e=some (.lst (([5,5,4,6,3,7,5,20]:List Int).map V.int)):=M e _ Zc AH.symm;have dH:0≤m∧m≤20:=by simp only[List.mem_cons,List.not_mem_nil,or_false]at hm;lia
 have aU:L l=some (.lst (ss.map V.str)):=M l _ (Zh t _ _ _ j1) J.symm;have AI:But p H L:=(B1.trans (But.same (Zh t _))).trans M;refine⟨e,_,_,_,rfl,rfl,SqL.of oU,bw,?_⟩;refine⟨_,rfl,p,_,rfl,L2,by lia,fun mn c3 H3 m0 J4 N a3 a4 B3=>?_⟩;have dQ:=B3 l _ aU J.symm;have O:=AI.trans B3;refine⟨_,rfl,by lia,by lia,fun D a=>?_⟩;have AJ:H D=none:=by
  cases R:H D with
  | none=>rfl
  | some x =>
   by_cases z:D=p
   ·obtain⟨o1,ju⟩:=N.here;rw[z,ju]at a;cases a
   ·have:=O D x R z;rw[this]at a;cases a
 have fC:p≠D:=by obtain⟨o,d⟩:=N.here;exact Ze d a
 have lf:l≠D:=Ze dQ a;refine R7 (fun i zs S g=>(∃v:Option V,S=[some (.ref p),some (.ref l),some (.int m),v])∧(∃j:List (Addr×List Str),zs=j.map (fun x=>V.ref x.1)∧j.length=i∧∀x∈j,g x.1=some (.lst (x.2.map V.str))∧H x.1=none∧x.1≠D∧x.1≠p∧sortedS x.2=true∧x.2.length≤60∧∀s∈x.2,s.length≤28∧AZ s)∧g D=some (.lst zs)∧(∃c4:Int,Y3 g p c4∧c3≤c4∧c4≤c3+600*i)∧But p H3 g) ?_ ?_ ?_
 ·exact⟨⟨none,rfl⟩,⟨[],rfl,rfl,(fun x h=>by cases h)⟩,Zc,⟨c3,N.new a,by lia,by lia⟩,But.same (Zh a _)⟩
 ·rintro i zs S g hi ⟨⟨v,rfl⟩,⟨j,rfl,mZ,u⟩,y,⟨c4,B,b1,b2⟩,k⟩;have C0:i<12:=by lia
  refine⟨_,rfl,_,rfl,_,rfl,p,l,c4,m,ss,rfl,B,by lia,dH.1,by lia,k l _ dQ J.symm,n1,n4,jp,fun r ts c5 H5 C cI bZ dU iQ L5 d1 d2 U=>?_⟩;have sy:=U D _ y fC.symm;have lj:D≠r:=Ze y C;have W:p≠r:=by obtain⟨o,d⟩:=B.here;exact Ze d C
  have vS:H r=none:=by
   cases R:H r with
   | none=>rfl
   | some x=>have:=k r x (O r x R W.symm) W.symm;rw[this]at C;cases C
  refine⟨sy,(by rw[Qa];exact ZB #[2]),⟨_,rfl⟩,⟨j++[(r,ts)],by rw[Qf];rfl,by rw[Qr,QB];lia,fun x hx=>?_⟩,Zc,⟨c5,L5.at fC,by lia,by lia⟩,fun b x hb nb=>?_⟩
  ·rcases Qo.mp hx with hx|hx
   ·obtain⟨X,Y,F,G,Z⟩:=u x hx;exact⟨by rw[Zb F];exact U _ _ X G,Y,F,G,Z⟩
   ·rw[Ql.mp hx];exact⟨by rw[Zb lj.symm];exact cI,vS,lj.symm,W.symm,dU,by show ts.length≤60;lia,iQ⟩
  ·rw[Zb (Ze hb a)];exact U b x (k b x hb nb) nb
 rintro zs S g ⟨⟨v,rfl⟩,⟨j,rfl,mZ,u⟩,y,⟨c4,B,b1,b2⟩,k⟩;refine q D j c4 g AJ ⟨y,by lia,fun x hx=>?_⟩ (fun x hx=>?_) #[2] B #[2] #[2] (O.trans k)
 ·obtain⟨X,_,_,_,_,g6,g7⟩:=u x hx;exact⟨X,by lia,fun s hs=>⟨by have:=(g7 s hs).1;lia,(g7 s hs).2⟩⟩
 ·obtain⟨_,Y,F,G,Z,g6,_⟩:=u x hx;exact⟨Y,F,G,Z,g6⟩
def SS(K:#[7]):Sp:=fun vs H Q _=>∃ (n:Int) (a:Addr) (ss:List Str),vs=[.int n,.ref a]∧SqL K H a (ss.map V.str)∧ss.length≤200∧(∀s∈ss,s.length≤1000)∧Uk ss .non∧∀b,ZG H b→Q .non b
theorem Zl1(T:Z9 K mg ah aa ae al aj af ak)(c:Df P w K mg base 4 "first_break" ["keys"] (PF K)):Df P w K mg base 5 "refuse_break" ["number", "keys"] (SS K):=by
 refine T.t_refuse_break.df MJ (fun d H Q E h=>?_) (fun am f A outer s H d Q E g h=>?_)
 ·obtain⟨n,a,b,rfl,_⟩:=h;rfl
 obtain⟨n,a,b,rfl,i,j,k,l,q⟩:=h;refine⟨_,#[Zf,#[Zx,2,MJ.nd,#[3],#[Zw,c,g,#[Za,‹1›,#[Zd]],#[5]]],#[Zi,#[ZO,#[Zn,V1,‹2›,#[ZT],(Zu _)],#[Zi,#[Yy]],#[ZE]]]],?_⟩;refine⟨_,rfl,a,b,rfl,i,j,k,fun v m o p=>?_⟩;have e:=Zov o l;subst e;exact⟨_,rfl,rfl,_,rfl,YY (q m p)⟩
structure ZA where
 n:Int
 p:Addr
 k:Addr
 f:Addr
 ss:List Str
 g:Nat
noncomputable def toL(e:ZA):ZF:=(e.n,e.p,e.ss,e.g)
noncomputable def hdM(L:List ZA):Hd:=hdL (L.map toL)
noncomputable def Zy(L:List ZA):List Int:=L.map (·.n)
theorem WA(L:List ZA):(L.map toL).map (·.1)=Zy L:=by rw[Qn];rfl
noncomputable def kvM(L:List ZA):List (Key×V):=L.map fun e=>(.inl e.n,.ref e.p)
theorem VB{L:List ZA}(nd:(Zy L).Nodup){e:ZA}(he:e∈L):hdM L e.n=(e.ss[e.g]?).map cds :=
 Ue (L:=L.map toL) (by rw[WA];exact nd) (Qe (f:=toL) he)
theorem ZnE(L:List ZA):(kvM L).map (·.1)=(Zy L).map (Sum.inl:Int→Key):=by unfold kvM Zy;rw[Qn,Qn];rfl
theorem Wd{L:List ZA}(nd:(Zy L).Nodup){e:ZA}(he:e∈L):Zt (kvM L) (.inl e.n)=some (.ref e.p):=TB (by rw[ZnE];exact Pm nd) (Qe (f:=fun e:ZA=>((.inl e.n:Key),V.ref e.p)) he)
theorem Uc{L:List ZA}{n:Int}(h:n∈Zy L):∃e∈L,e.n=n:=Qp.mp h
noncomputable def mgF(rd:Addr)(nb li lo:Int)(sd:Addr)(a:V):List (Str×V):=[("rows",.ref rd),("next_number",.int nb),("likened",.int li),("looked",.int lo),("stays",.ref sd),("best",a)]
theorem Pd:¬ (("rows" : Str) = "next_number"):=by ac_rfl
theorem Pc:¬ (("rows" : Str) = "likened"):=by ac_rfl
theorem Pb:¬ (("rows" : Str) = "looked"):=by ac_rfl
theorem Pa:¬ (("rows" : Str) = "stays"):=by ac_rfl
theorem O9:¬ (("rows" : Str) = "best"):=by ac_rfl
theorem O8:¬ (("next_number" : Str) = "likened"):=by ac_rfl
theorem O7:¬ (("next_number" : Str) = "looked"):=by ac_rfl
theorem O6:¬ (("next_number" : Str) = "stays"):=by ac_rfl
theorem O5:¬ (("next_number" : Str) = "best"):=by ac_rfl
theorem O4:¬ (("likened" : Str) = "looked"):=by ac_rfl
theorem O3:¬ (("likened" : Str) = "stays"):=by ac_rfl
theorem O2:¬ (("likened" : Str) = "best"):=by ac_rfl
theorem O1:¬ (("looked" : Str) = "stays"):=by ac_rfl
theorem O0:¬ (("looked" : Str) = "best"):=by ac_rfl
theorem OZ:¬ (("stays" : Str) = "best"):=by ac_rfl
theorem U2(f:Str)(v x:V)(r:List (Str×V)):Zv f v ((f,x)::r)=(f,v)::r:=by unfold Zv;rw[if_pos rfl]
theorem Zz{f g:Str}(h:¬ g=f)(v x:V)(r:List (Str×V)):Zv f v ((g,x)::r)=(g,x)::Zv f v r:=by show (if g=f then (g,v)::r else (g,x)::Zv f v r)=_;rw[if_neg h]
theorem Wz(f:Str)(v:V):Zv f v []=[(f,v)]:=rfl
theorem Wc(rd:Addr)(nb li lo:Int)(sd:Addr)(a:V):mgF rd nb li lo sd a=Zv "best" a (Zv "stays" (.ref sd) (Zv "looked" (.int lo) (Zv "likened" (.int li) (Zv "next_number" (.int nb) (Zv "rows" (.ref rd) []))))):=by rw[Wz,Zz Pd,Wz,Zz Pc,Zz O8,Wz,Zz Pb,Zz O7,Zz O4,Wz,Zz Pa,Zz O6,Zz O3,Zz O1,Wz,Zz O9,Zz O5,Zz O2,Zz O0,Zz OZ,Wz];rfl
section
variable (rd:Addr) (nb li lo:Int) (sd:Addr) (ai:V)
theorem XT:(mgF rd nb li lo sd ai).lookup ("rows" : Str)=some (.ref rd):=by rw[Wc,Zl,if_neg O9,Zl,if_neg Pa,Zl,if_neg Pb,Zl,if_neg Pc,Zl,if_neg Pd,Zl,if_pos rfl]
theorem Lz:(mgF rd nb li lo sd ai).lookup ("next_number" : Str)=some (.int nb):=by rw[Wc,Zl,if_neg O5,Zl,if_neg O6,Zl,if_neg O7,Zl,if_neg O8,Zl,if_pos rfl]
theorem OY:(mgF rd nb li lo sd ai).lookup ("likened" : Str)=some (.int li):=by rw[Wc,Zl,if_neg O2,Zl,if_neg O3,Zl,if_neg O4,Zl,if_pos rfl]
theorem Ly:(mgF rd nb li lo sd ai).lookup ("looked" : Str)=some (.int lo):=by rw[Wc,Zl,if_neg O0,Zl,if_neg O1,Zl,if_pos rfl]
theorem Ub:(mgF rd nb li lo sd ai).lookup ("stays" : Str)=some (.ref sd):=by rw[Wc,Zl,if_neg OZ,Zl,if_pos rfl]
theorem Ua:(mgF rd nb li lo sd ai).lookup ("best" : Str)=some ai:=by rw[Wc,Zl,if_pos rfl]
theorem X6{m:Str}(h1:¬ m = "rows")(h2:¬ m = "next_number")(a:¬ m = "likened")(b:¬ m = "looked")(c:¬ m = "stays")(d:¬ m = "best"):(mgF rd nb li lo sd ai).lookup m=none:=by rw[Wc,Zl,if_neg d,Zl,if_neg c,Zl,if_neg b,Zl,if_neg a,Zl,if_neg h2,Zl,if_neg h1];rfl
theorem ZgG(v:Int):Zv "next_number" (.int v) (mgF rd nb li lo sd ai)=mgF rd v li lo sd ai:=by unfold mgF;rw[Zz Pd,U2]
theorem Lx(v:Int):Zv "likened" (.int v) (mgF rd nb li lo sd ai)=mgF rd nb v lo sd ai:=by unfold mgF;rw[Zz Pc,Zz O8,U2]
theorem Zgz(v:Int):Zv "looked" (.int v) (mgF rd nb li lo sd ai)=mgF rd nb li v sd ai:=by unfold mgF;rw[Zz Pb,Zz O7,Zz O4,U2]
theorem Zg3(x:Addr):Zv "stays" (.ref x) (mgF rd nb li lo sd ai)=mgF rd nb li lo x ai:=by unfold mgF;rw[Zz Pa,Zz O6,Zz O3,Zz O1,U2]
theorem SR(x:V):Zv "best" x (mgF rd nb li lo sd ai)=mgF rd nb li lo sd x:=by unfold mgF;rw[Zz O9,Zz O5,Zz O2,Zz O0,Zz OZ,U2]
theorem Wy:(mgF rd nb li lo sd ai).length<1000:=by show 6<1000;decide
end
structure Xk (C:Addr) (H:Hp) (e:ZA):Prop where
 at':Tb C H e.p e.k e.f e.ss e.g
 le:e.g≤e.ss.length
 len:e.ss.length≤100
 srt:sortedS e.ss=true
 str:∀s∈e.ss,s.length≤1000∧AZ s
structure ZP (cR cM:Addr) (H:Hp) (m rd sd:Addr) (L:List ZA) (s:StL) (nb li lo:Int) (ai:V):Prop where
 ob:∃dx,H m=some (.ins cM dx (mgF rd nb li lo sd ai))
 rows:H rd=some (.dK (kvM L))
 stays:H sd=some (.dT (kvS s))
 ats:AtS H s
 each:∀e∈L,Xk cR H e
 up:YR (Zy L)
 pd:(L.map (·.p)).Nodup
 few:L.length≤60
 sfew:s.length≤100
def Fp(m rd sd:Addr)(L:List ZA)(b:Addr):Prop:=b=m∨b=rd∨b=sd∨∃e∈L,b=e.p∨b=e.k∨b=e.f
theorem Xk.keep{C:Addr}{H a:Hp}{e:ZA}(h:Xk C H e)(b:a e.p=H e.p)(hk:a e.k=H e.k)(c:a e.f=H e.f):Xk C a e :=
 ⟨⟨by rw[b];exact h.at'.ob,by rw[hk];exact h.at'.ks,by rw[c];exact h.at'.fs⟩,h.le,h.len,h.srt,h.str⟩
section
variable {cR cM:Addr} {H H':Hp} {m rd sd:Addr} {L:List ZA} {s:StL} {nb li lo:Int} {ai:V}
theorem ZP.nd(h:ZP cR cM H m rd sd L s nb li lo ai):(Zy L).Nodup:=Uh h.up
theorem ZP.keep(h:ZP cR cM H m rd sd L s nb li lo ai)(k:∀b o,H b=some o→Fp m rd sd L b∨(∃xs,o=.tup xs)→H' b=some o):ZP cR cM H' m rd sd L s nb li lo ai:=by
 refine⟨?_,k _ _ h.rows (.inl (.inr #[8])),k _ _ h.stays (.inl (.inr (.inr #[8]))),fun e a t f=>k _ _ (h.ats e a t f) (.inr ⟨_,rfl⟩),fun e a=>?_,h.up,h.pd,h.few,h.sfew⟩
 ·obtain⟨c,d⟩:=h.ob;exact⟨c,k _ _ d (.inl #[8])⟩
 ·have r:=h.each e a;obtain⟨c,d⟩:=r.at'.ob;exact⟨⟨⟨c,k _ _ d (.inl (.inr (.inr (.inr ⟨e,a,.inl rfl⟩))))⟩,k _ _ r.at'.ks (.inl (.inr (.inr (.inr ⟨e,a,.inr #[8]⟩)))),k _ _ r.at'.fs (.inl (.inr (.inr (.inr ⟨e,a,.inr (.inr rfl)⟩))))⟩,r.le,r.len,r.srt,r.str⟩
theorem ZP.same(h:ZP cR cM H m rd sd L s nb li lo ai)(k:ZG H H'):ZP cR cM H' m rd sd L s nb li lo ai:=h.keep fun b o hb _=>k b o hb
theorem ZP.ne_p(h:ZP cR cM H m rd sd L s nb li lo ai){e:ZA}(he:e∈L):m≠e.p∧m≠e.k∧m≠e.f:=by
 obtain⟨dx,b⟩:=h.ob;have r:=h.each e he;obtain⟨dy,c⟩:=r.at'.ob;refine⟨fun z=>?_,fun z=>?_,fun z=>?_⟩
 ·rw[z,c]at b;injection b with b;injection b with _ _ b;have a:=PB e.k e.f (e.g:Int);rw[b,X6 _ _ _ _ _ _ #[1] #[1] #[1] #[1] #[1] #[1]]at a;cases a
 ·rw[z,r.at'.ks]at b;cases b
 ·rw[z,r.at'.fs]at b;cases b
theorem ZP.ne_m(h:ZP cR cM H m rd sd L s nb li lo ai):m≠rd∧m≠sd∧rd≠sd:=by
 obtain⟨dx,a⟩:=h.ob;refine⟨fun z=>?_,fun z=>?_,fun z=>?_⟩
 ·rw[z,h.rows]at a;cases a
 ·rw[z,h.stays]at a;cases a
 ·have:=h.rows;rw[z,h.stays]at this;cases this
theorem ZP.ne_sd(h:ZP cR cM H m rd sd L s nb li lo ai){e:ZA}(he:e∈L):sd≠e.p∧sd≠e.k∧sd≠e.f∧rd≠e.p∧rd≠e.k∧rd≠e.f:=by
 have r:=h.each e he;obtain⟨dy,c⟩:=r.at'.ob;have a:=h.stays;have b:=h.rows;refine⟨fun z=>?_,fun z=>?_,fun z=>?_,fun z=>?_,fun z=>?_,fun z=>?_⟩
 ·rw[z,c]at a;cases a
 ·rw[z,r.at'.ks]at a;cases a
 ·rw[z,r.at'.fs]at a;cases a
 ·rw[z,c]at b;cases b
 ·rw[z,r.at'.ks]at b;cases b
 ·rw[z,r.at'.fs]at b;cases b
theorem ZP.obj(h:ZP cR cM H m rd sd L s nb li lo ai){nb' li' lo':Int}{best':V}{dx:Addr}:ZP cR cM (upd H m (.ins cM dx (mgF rd nb' li' lo' sd best'))) m rd sd L s nb' li' lo' best':=by
 obtain⟨f,g,n3⟩:=h.ne_m;obtain⟨dy,i⟩:=h.ob;refine⟨⟨dx,Zc⟩,by rw[Zb f.symm];exact h.rows,by rw[Zb g.symm];exact h.stays,fun e d t j=>?_,fun e d=>?_,h.up,h.pd,h.few,h.sfew⟩
 ·have:=h.ats e d t j;rw[Zb (fun z=>by rw[z,i]at this;cases this)];exact this
 ·obtain⟨a,b,c⟩:=h.ne_p d;exact(h.each e d).keep (Zb a.symm) (Zb b.symm) (Zb c.symm)
theorem ZP.put(h:ZP cR cM H m rd sd L s nb li lo ai){k:Int×Int}{v:Option (Addr×Int×Int)}(i:∀t,v=some t→H t.1=some (.tup [.int t.2.1,.int t.2.2]))(j:(Yg s k v).length≤100):ZP cR cM (upd H sd (.dT (kvS (Yg s k v)))) m rd sd L (Yg s k v) nb li lo ai:=by
 obtain⟨n1,l,n⟩:=h.ne_m;obtain⟨o,p⟩:=h.ob;have tup:∀a d,H a=some (.tup d)→(upd H sd (.dT (kvS (Yg s k v)))) a=some (.tup d):=fun a d f=>by rw[Zb (fun z=>by rw[z,h.stays]at f;cases f)];exact f
 refine⟨⟨o,by rw[Zb l];exact p⟩,by rw[Zb n];exact h.rows,Zc,(h.ats.put i).mono tup,fun e g=>?_,h.up,h.pd,h.few,j⟩;obtain⟨a,b,c,_⟩:=h.ne_sd g;exact(h.each e g).keep (Zb a.symm) (Zb b.symm) (Zb c.symm)
end
def OX(g h:Addr):Sp:=fun vs H Q _=>∃ (m rd sd:Addr) (L:List ZA) (s:StL) (nb li lo:Int) (i:V) (a b:ZA) (x y:Str) (d:Nat),vs=[.ref m,.int a.n,.int b.n,.int (d:Int)]∧ZP g h H m rd sd L s nb li lo i∧a∈L∧b∈L∧a.ss[a.g]? = some x∧b.ss[b.g]? = some y∧d≤lcp (cds x) (cds y) ∧
 ∀ (t:Addr) (e f:Int) (c:Hp),(Btr (cds x) a.n (cds y) b.n∧e=a.n∧f=b.n∨¬ Btr (cds x) a.n (cds y) b.n∧e=b.n∧f=a.n)→H t=none→c t=some (.tup [.int e,.int f,.int ((lcp (cds x) (cds y):Nat):Int)]) →
  ZP g h c m rd sd L s nb (li+1) (lo+((lcp (cds x) (cds y):Nat)-(d:Int)+1)) i→(∀b o,H b=some o→b≠m→c b=some o)→Q (.ref t) c
theorem SQ{ss:List Str}{g:Nat}{x:Str}(h:ss[g]? = some x):WD ss g=.str x:=by unfold WD;rw[h]
theorem U1(k f:Addr)(g:Int):(Yx k f g).lookup ("head" : Str)=none:=Tc _ _ _ #[1] #[1] #[1]
theorem Zok(T:Z9 K mg ah aa ae al aj af ak)(X:Mf P w K mg base 2 ah "head" ["self"] (U8 ah))(cK:Df P w K mg base 2 "liken_from" ["one", "other", "far"] PH):Mf P w K mg base 3 aa "meet" ["self", "one", "other", "far"] (OX ah aa):=by
 refine T.t_Merge_meet.mf Tp (fun vs H Q E h=>?_) (fun am f A outer s H vs Q E C h=>?_)
 ·obtain⟨m,j,B,L,s,nb,l,lo,p,a,b,x,y,r,rfl,_⟩:=h;rfl
 obtain⟨m,j,B,L,s,nb,l,lo,p,a,b,x,y,r,rfl,M,Y,v,Z,hy,hf,q⟩:=h;refine⟨_,#[Zf,#[Z6,#[Zw,cK,C,#[Za,#[YN,X,T.cl_Row,C,#[Zr,(ixG C),#[ZQ,‹0›],‹1›]],#[Za,#[YN,X,T.cl_Row,C,#[Zr,(ixG C),#[ZQ,‹0›],‹2›]],#[Za,‹3›,#[Zd]]]],#[5]],#[gT,K,3,#[ZC,#[ZD,4,Tp.nd,#[3]],#[ZC,#[ZD,5,Tp.nd,#[3]],#[ZC,#[ZD,6,Tp.nd,#[3]],(@Yb _)]]]]],#[Zf,#[VZ,‹0›,#[Zj],UP],#[Zf,#[VZ,‹0›,‹6›,UP],#[Zf,#[ZO,(@PW.pt _ _ _ #[Xh,#[Zn,W6,‹4›,#[Zj],(Zu _)],#[Xa,(@PW.pt _ _ _ #[Xu,#[Zn,YI,‹4›,#[Zj],(Zu _)],#[Xi,#[Zn,W6,‹1›,‹2›,(Zu _)]]])]]),#[Zi,#[Zo,#[YU,#[Za,‹1›,#[Za,‹2›,#[Za,‹5›,#[Zd]]]]]]],#[ZE]],#[Zi,#[Zo,#[YU,#[Za,‹2›,#[Za,‹1›,#[Za,‹5›,#[Zd]]]]]]]]]]],?_⟩;obtain⟨dx,J⟩:=M.ob;have N:=M.each a Y;have O:=M.each b v;obtain⟨da,AK⟩:=N.at'.ob;obtain⟨db,AL⟩:=O.at'.ob;have lx:=(N.str x (Qv Z)).1;have ly:=(O.str y (Qv hy)).1;refine⟨_,rfl,m,aa,dx,_,_,rfl,J,T.cl_Merge,T.na_Merge_rows,XT ..,_,rfl,j,_,rfl,ZX.k' (k:=.inl a.n) M.rows (Wd M.nd Y),a.p,da,_,rfl,AK,U1 ..,a.p,a.k,a.f,a.ss,a.g,rfl,N.at',?_⟩;refine⟨_,rfl,m,aa,dx,_,_,rfl,J,T.cl_Merge,T.na_Merge_rows,XT ..,_,rfl,j,_,rfl,ZX.k' (k:=.inl b.n) M.rows (Wd M.nd v),b.p,db,_,rfl,AL,U1 ..,b.p,b.k,b.f,b.ss,b.g,rfl,O.at',?_⟩;rw[SQ Z,SQ hy];refine⟨_,rfl,x,y,r,rfl,lx,ly,hf,fun t ht=>?_⟩;have G:=Zh ht (.tup [.int (ZR (cds x) (cds y)),.int (lcp (cds x) (cds y):Nat),.int ((lcp (cds x) (cds y):Nat)-(r:Int)+1)]);have sv:(upd H t (.tup [.int (ZR (cds x) (cds y)),.int (lcp (cds x) (cds y):Nat),.int ((lcp (cds x) (cds y):Nat)-(r:Int)+1)])) t=some (.tup [.int (ZR (cds x) (cds y)),.int (lcp (cds x) (cds y):Nat),.int ((lcp (cds x) (cds y):Nat)-(r:Int)+1)]):=Zc;generalize upd H t (.tup [.int (ZR (cds x) (cds y)),.int (lcp (cds x) (cds y):Nat),.int ((lcp (cds x) (cds y):Nat)-(r:Int)+1)])=R at G sv ⊢;have M1:=M.same G;refine⟨t,_,rfl,SqT.of sv,rfl,_,_,rfl,_,_,rfl,_,_,rfl,rfl,?_⟩;have dH:=G _ _ J;refine⟨_,rfl,m,aa,dx,_,_,rfl,dH,T.cl_Merge,T.na_Merge_likened,OY ..,_,_,rfl,rfl,dx,_,dH,Wy ..,?_⟩;rw[Lx];have M2:=M1.obj (nb':=nb) (li':=l+1) (lo':=lo) (best':=p) (dx:=dx);have k2:∀b o,H b=some o→b≠m→(upd R m (.ins aa dx (mgF j nb (l+1) lo B p))) b=some o:=fun b o v n=>by rw[Zb n];exact G b o v
 have S:(upd R m (.ins aa dx (mgF j nb (l+1) lo B p))) m=some (.ins aa dx (mgF j nb (l+1) lo B p)):=Zc;generalize upd R m (.ins aa dx (mgF j nb (l+1) lo B p))=H2 at M2 k2 S ⊢;refine⟨_,rfl,m,aa,dx,_,_,rfl,S,T.cl_Merge,T.na_Merge_looked,Ly ..,_,rfl,_,_,rfl,rfl,dx,_,S,Wy ..,?_⟩;rw[Zgz];have U:=M2.obj (nb':=nb) (li':=l+1) (lo':=lo+((lcp (cds x) (cds y):Nat)-(r:Int)+1)) (best':=p) (dx:=dx);have k3:∀b o,H b=some o→b≠m→(upd H2 m (.ins aa dx (mgF j nb (l+1) (lo+((lcp (cds x) (cds y):Nat)-(r:Int)+1)) B p))) b=some o:=fun b o v n=>by rw[Zb n];exact k2 b o v n
 generalize upd H2 m (.ins aa dx (mgF j nb (l+1) (lo+((lcp (cds x) (cds y):Nat)-(r:Int)+1)) B p))=H3 at U k3 ⊢;have u:∀D F:Int,(Btr (cds x) a.n (cds y) b.n∧D=a.n∧F=b.n∨¬ Btr (cds x) a.n (cds y) b.n∧D=b.n∧F=a.n)→∀c,H3 c=none→Q (.ref c) (upd H3 c (.tup [.int D,.int F,.int ((lcp (cds x) (cds y):Nat):Int)])):=fun D F hw c i=>by
  have cD:H c=none:=by
   cases e:H c with
   | none=>rfl
   | some o =>
    by_cases z:c=m
    ·obtain⟨dz,hz⟩:=U.ob;rw[z,hz]at i;cases i
    ·rw[k3 c o e z]at i;cases i
  exact q c D F _ hw cD Zc (U.same (Zh i _)) (fun b o v n=>Zh i _ _ _ (k3 b o v n))
 have I:3≤sizeLine:=by decide
 refine⟨_,rfl,_,_,rfl,rfl,_,rfl,YX (fun d=>?_) (fun d=>?_)⟩
 ·have d':ZR (cds x) (cds y)<0:=of_decide_eq_true d;exact Xz ⟨_,rfl,_,rfl,_,rfl,I,fun c i=>u _ _ (.inl ⟨.inl d',rfl,rfl⟩) c i⟩
 have d1:¬ ZR (cds x) (cds y)<0:=fun z=>d (decide_eq_true z);refine⟨_,rfl,rfl,_,rfl,YX (fun e=>?_) (fun e=>?_)⟩
 ·have V:ZR (cds x) (cds y)=0:=by have:=of_decide_eq_true e;injection this
  refine⟨_,rfl,_,rfl,_,_,rfl,rfl,_,rfl,YX (fun g=>?_) (fun g=>?_)⟩
  ·have W:a.n<b.n:=of_decide_eq_true g;exact⟨_,rfl,_,rfl,_,rfl,I,fun c i=>u _ _ (.inl ⟨.inr ⟨V,W⟩,rfl,rfl⟩) c i⟩
  ·have W:¬ a.n<b.n:=fun z=>g (decide_eq_true z);exact⟨_,rfl,_,rfl,_,rfl,I,fun c i=>u _ _ (.inr ⟨fun z=>by rcases z with z|z;exact d1 z;exact W z.2,rfl,rfl⟩) c i⟩
 ·have V:ZR (cds x) (cds y)≠0:=fun z=>e (decide_eq_true (by rw[z]));exact YY ⟨_,rfl,_,rfl,_,rfl,I,fun c i=>u _ _ (.inr ⟨fun z=>by rcases z with z|z;exact d1 z;exact V z.1,rfl,rfl⟩) c i⟩
theorem ZP.cast{a b:Addr}{H:Hp}{m rd sd:Addr}{L:List ZA}{s:StL}{nb li lo li' lo':Int}{c:V}(h:ZP a b H m rd sd L s nb li lo c)(d:li=li')(e:lo=lo'):ZP a b H m rd sd L s nb li' lo' c:=by subst d;subst e;exact h
theorem Lw{N:List Int}(h:N≠[]):atI (N.map V.int) (-1)=some (.int (N.getLastD 0)):=by
 have e:N=N.dropLast++[N.getLast h]:=(List.dropLast_concat_getLast h).symm;have:=ZnS (N.dropLast.map V.int) (V.int (N.getLast h));rw[Qap,QaL h]
 conv=>lhs;rw[e,Qf]
 exact this
theorem Lv{N:List Int}(h:N≠[]):atI (N.map V.int) 0=some (.int (N.headD 0)):=by
 cases N with
 | nil=>exact absurd rfl h
 | cons a r=>exact Yr (j:=0) rfl
theorem OW(rd:Addr)(nb li lo:Int)(sd:Addr)(a:V):(mgF rd nb li lo sd a).lookup ("play" : Str)=none:=X6 _ _ _ _ _ _ #[1] #[1] #[1] #[1] #[1] #[1]
theorem Lu(rd:Addr)(nb li lo:Int)(sd:Addr)(a:V):(mgF rd nb li lo sd a).lookup ("meet" : Str)=none:=X6 _ _ _ _ _ _ #[1] #[1] #[1] #[1] #[1] #[1]
def Ls(K:#[7])(d e:Addr)(n:Nat):Sp:=fun vs H Q _=>∃ (m rd sd:Addr) (L:List ZA) (s:StL) (nb li lo:Int) (f:V) (l:Addr) (N:List Int),vs=[.ref m,.ref l]∧ZP d e H m rd sd L s nb li lo f∧H l=some (.lst (N.map V.int))∧1≤N.length∧N.length≤60∧0<n∧N.length≤2 ^ (n-1)∧(∀x∈N,x∈Zy L)∧YR N∧(∀k,Xv n N k→Z0 s k=none)∧s.length+N.length≤100 ∧
 ∀ (w:Option Int) (a:StL) (k q:Int) (c:Hp),Win (hdM L) N w→XU (hdM L) a n N→YQ (hdM L) n N k q→(∀j,¬ Xv n N j→Z0 a j=Z0 s j)→a.length+1≤s.length+N.length→ZP d e c m rd sd L a nb (li+k) (lo+q) f→(∀b o,H b=some o→b≠m→b≠sd→c b=some o)→Q (Yv w) c
theorem Lr(T:Z9 K mg ah aa ae al aj af ak)(av:Mf P w K mg base 2 ah "head" ["self"] (U8 ah))(bT:Df P w K mg base 1 "halves" ["numbers"] (Wg K true))(aQ:Mf P w K mg base 3 aa "meet" ["self", "one", "other", "far"] (OX ah aa)) :
  ∀n:Nat,Mf P w K mg base (n+4) aa "play" ["self", "numbers"] (Ls K ah aa n)
 | 0=>by
  refine T.t_Merge_play.mf WE (fun vs H Q E h=>?_) (fun am f A outer s H vs Q E G h=>?_)
  ·obtain⟨m,rd,sd,L,s,nb,li,lo,U,l,N,rfl,_⟩:=h;rfl
  obtain⟨m,rd,sd,L,s,nb,li,lo,U,l,N,rfl,_,_,_,_,z,_⟩:=h;exact absurd z #[2]
 | n+1=>by
  have aY:=Lr T av bT aQ n;refine T.t_Merge_play.mf WE (fun vs H Q E h=>?_) (fun am f A outer s H vs Q E G h=>?_)
  ·obtain⟨m,rd,sd,L,s,nb,li,lo,U,l,N,rfl,_⟩:=h;rfl
  obtain⟨m,rd,sd,L,s,nb,li,lo',U,l,N,rfl,M,B,h1,eS,_,dP,dR,C,cD,hsz,q⟩:=h;rw[Qaa]at dP;refine⟨_,#[Zf,#[ZO,#[Zn,YI,#[Zk,(YB K),#[5],T.b.n_len,Qu,#[Za,‹1›,#[Zd]]],#[Zj],(Zu _)],#[Zi,#[Zo,#[Xn,#[Zn,XF,#[YN,av,T.cl_Row,G,#[Zr,(ixG G),#[ZQ,‹0›],#[Zr,(ixL K),‹1›,#[Zj]]]],#[ZT],(Zu _)],#[ZT],#[Zr,(ixL K),‹1›,#[Zj]]]]],#[ZE]],#[Zf,#[Z6,#[Zw,bT,G,#[Za,‹1›,#[Zd]],#[5]],#[gT,K,2,#[ZC,#[ZD,2,WE.nd,#[3]],#[ZC,#[ZD,3,WE.nd,#[3]],(@Yb _)]]]],#[Zf,#[Zx,4,WE.nd,#[3],#[Xx,aY,T.cl_Merge,G,‹0›,#[Za,‹2›,#[Zd]]]],#[Zf,#[Zx,5,WE.nd,#[3],#[Xx,aY,T.cl_Merge,G,‹0›,#[Za,‹3›,#[Zd]]]],#[Zf,#[ZO,#[Zn,XF,‹4›,#[ZT],(Zu _)],#[Zi,#[Zo,‹5›]],#[ZE]],#[Zf,#[ZO,#[Zn,XF,‹5›,#[ZT],(Zu _)],#[Zi,#[Zo,‹4›]],#[ZE]],#[Zf,#[Z6,#[Xx,aQ,T.cl_Merge,G,‹0›,#[Za,‹4›,#[Za,‹5›,#[Za,#[Zj],#[Zd]]]]],#[gT,K,3,#[ZC,#[ZD,6,WE.nd,#[3]],#[ZC,#[ZD,7,WE.nd,#[3]],#[ZC,#[ZD,8,WE.nd,#[3]],(@Yb _)]]]]],#[Zf,#[Z6,#[YU,#[Za,‹7›,#[Za,‹8›,#[Zd]]]],#[Yt,#[ZQ,‹0›],#[YU,#[Za,#[Zr,(ixL K),‹1›,#[Zj]],#[Za,#[Zr,(ixL K),‹1›,(@US _ _ _ _ _ _ UR #[Zj])],#[Zd]]]],(X9 G)]],#[Zi,#[Zo,‹6›]]]]]]]]]],?_⟩;obtain⟨dx,hm⟩:=M.ob;have hN:N≠[]:=XN h1;have vV:l≠m:=fun z=>by rw[z,hm]at B;cases B
  have AM:l≠sd:=fun z=>by rw[z,M.stays]at B;cases B
  have jY:(((N.map V.int).length:Nat):Int)=(N.length:Int):=by rw[Qa]
  refine⟨_,rfl,l,_,rfl,.inl (SqL.of B),rfl,_,rfl,YX (fun d=>?_) (fun d=>?_)⟩
  ·have mM:N.length=1:=by have:=of_decide_eq_true d;injection this with this;rw[jY]at this;lia
   obtain⟨n0,rfl⟩:∃n0,N=[n0]:=Qah.mp mM;obtain⟨e,he,rfl⟩:=Uc (dR n0 #[4]);have R:=M.each e he;obtain⟨dp,hp⟩:=R.at'.ob;have bw:atI (([e.n]:List Int).map V.int) 0=some (.int e.n):=Yr (j:=0) rfl;refine⟨_,rfl,m,aa,dx,_,_,rfl,hm,T.cl_Merge,T.na_Merge_rows,XT ..,_,rfl,l,_,_,_,rfl,rfl,SqL.of B,bw,rd,_,rfl,ZX.k' (k:=.inl e.n) M.rows (Wd M.nd he),e.p,dp,_,rfl,hp,U1 ..,e.p,e.k,e.f,e.ss,e.g,rfl,R.at',rfl,_,rfl,?_⟩;have bg:XU (hdM L) s (n+1) [e.n]:=fun h2=>by simp at h2
   have bb:YQ (hdM L) (n+1) [e.n] 0 0:=.few (by show 1<2;decide);have W:=Win.sing (hd:=hdM L) (n:=e.n);have hd:=VB M.nd he;have M':=M.cast (li':=li+0) (lo':=lo'+0) #[2] #[2];cases g:e.ss[e.g]? with
   | none=>rw[show WD e.ss e.g=.non by unfold WD;rw[g]];rw[hd,g]at W;exact Yk rfl (q none s 0 0 H W bg bb (fun _ _=>rfl) (Qg _) M' (fun b o h _ _=>h))
   | some x=>rw[SQ g];rw[hd,g]at W;exact YF (fun z=>nomatch z) ⟨_,rfl,l,_,_,_,rfl,rfl,SqL.of B,bw,q (some e.n) s 0 0 H W bg bb (fun _ _=>rfl) (Qg _) M' (fun b o h _ _=>h)⟩
  have c:2≤N.length:=by have:¬ ((N.length:Int)=1):=fun z=>d (decide_eq_true (by rw[jY,z]));lia
  have gz:1≤n:=by
   cases n with
   | zero=>simp at dP;lia
   | succ m=>lia
  have vI:2 ^ n=2*2 ^ (n-1):=by obtain⟨m,rfl⟩:∃m,n=m+1:=⟨n-1,by lia⟩;rw[QaX,Qaa];lia
  have fu:(lo N).length≤2 ^ (n-1)∧(lo N).length≤60:=by unfold lo mid;rw[QA];lia
  have qv:(up N).length≤2 ^ (n-1)∧(up N).length≤60:=by unfold up mid;rw[QZ];lia
  have vA:(lo N).length+(up N).length=N.length:=by rw[← Qr,XV]
  have im:∀x∈lo N,x∈Zy L:=fun x g=>dR x (Qac g);have io:∀x∈up N,x∈Zy L:=fun x g=>dR x (Qad g);refine⟨_,rfl,l,N,rfl,SqL.of B,by lia,fun t f r H2 ht hf su o8 bX js cj s2 At Au=>?_⟩;rw[if_pos rfl]at bX;rw[Pr]at js;rw[Pq]at cj;refine⟨t,_,rfl,SqT.of bX,rfl,_,_,rfl,_,_,rfl,rfl,?_⟩;have M2:=M.same s2;have cA:=s2 _ _ hm;have sI:r≠m:=(Ze hm su).symm;have AN:r≠sd:=(Ze M.stays su).symm;refine⟨_,rfl,m,dx,_,rfl,cA,OW ..,_,rfl,m,rd,sd,L,s,nb,li,lo',U,f,lo N,rfl,M2,js,(WU c).2,fu.2,gz,fu.1,im,S9 C,fun k u=>cD k ⟨c,.inl u⟩,by lia,fun w1 s1 k1 q1 H3 i S1 P1 o1 l1 M3 b3=>?_⟩;have du:=b3 _ _ cj sI AN;obtain⟨AO,pc⟩:=M3.ob;refine⟨_,rfl,m,AO,_,rfl,pc,OW ..,_,rfl,m,rd,sd,L,s1,nb,_,_,U,r,up N,rfl,M3,du,(WC c).2,qv.2,gz,qv.1,io,S7 C,fun k u=>?_,by lia,fun w2 I k2 q2 H4 p S2 P2 o2 l2 M4 b4=>?_⟩
  ·rw[o1 k ((Pt C c u).2 n)];exact cD k ⟨c,.inr (.inl u)⟩
  have m3:¬ Xv n (lo N) (ZV N)∧¬ Xv n (up N) (ZV N):=⟨fun z=>(Pu C c z).1 rfl,fun z=>(Pt C c z).1 rfl⟩;have vW:XU (hdM L) I n (lo N):=S1.congr n _ (fun _ _=>rfl) (fun k u=>o2 k ((Pu C c u).2 n));have o5:Z0 I (ZV N)=none:=by rw[o2 _ m3.2,o1 _ m3.1];exact cD _ ⟨c,.inr (.inr rfl)⟩
  have Z:∀j,¬ Xv (n+1) N j→Z0 I j=Z0 s j:=fun j hj=>by rw[o2 j (fun z=>hj ⟨c,.inr (.inl z)⟩),o1 j (fun z=>hj ⟨c,.inl z⟩)]
  have sJ:∀b o,H b=some o→b≠m→b≠sd→H4 b=some o:=fun b o hb n1 n2=>b4 b o (b3 b o (s2 b o hb) n1 n2) n1 n2;have m4:∀wn,Win (hdM L) N wn→(Win (hdM L) (lo N) none∨Win (hdM L) (up N) none)→Q (Yv wn) H4:=fun wn hw cq=>by
   refine q wn I (k1+k2) (q1+q2) H4 hw (fun _=>⟨vW,S2,fun a b x y wa wb _ _=>?_,fun _=>.inl o5⟩) (.none c P1 P2 cq) Z #[2] (M4.cast #[2] #[2]) sJ;rcases cq with z|z
   ·exact nomatch z.one wa
   ·exact nomatch z.one wb
  cases w1 with
  | none=>exact⟨_,rfl,rfl,_,rfl,Yk rfl ⟨_,rfl,m4 w2 (by have:=Win.right i p;rwa [XV]at this) (.inl i)⟩⟩
  | some a =>
  refine⟨_,rfl,rfl,_,rfl,YF (fun z=>nomatch z) ?_⟩;cases w2 with
  | none=>exact⟨_,rfl,rfl,_,rfl,Yk rfl ⟨_,rfl,m4 (some a) (by have:=Win.left i p;rwa [XV]at this) (.inr p)⟩⟩
  | some b =>
  refine⟨_,rfl,rfl,_,rfl,YF (fun z=>nomatch z) ?_⟩;obtain⟨J,pe,lV⟩:=Uc (im a i.1);obtain⟨O,pf,AQ⟩:=Uc (io b p.1);subst lV;subst AQ;have X:=VB M.nd pe;have Y:=VB M.nd pf;cases g:J.ss[J.g]? with
  | none=>obtain⟨_,z,hz,_⟩:=i;rw[X,g]at hz;cases hz
  | some x =>
  cases hy:O.ss[O.g]? with
  | none=>obtain⟨_,z,hz,_⟩:=p;rw[Y,hy]at hz;cases hz
  | some y =>
  rw[g]at X;rw[hy]at Y;obtain⟨iR,fI⟩:=M4.ob;refine⟨_,rfl,m,iR,_,rfl,fI,Lu ..,_,rfl,_,rfl,m,rd,sd,L,I,nb,_,_,U,J,O,x,y,0,rfl,M4,pe,pf,g,hy,Qs _,fun t5 wi D H5 hw sK m5 M5 b5=>?_⟩;refine⟨t5,_,rfl,SqT.of m5,rfl,_,_,rfl,_,_,rfl,_,_,rfl,rfl,?_⟩;have gZ:2≤sizeLine:=by decide
  refine⟨_,rfl,_,rfl,gZ,fun F sL=>?_⟩;have s6:=Zh sL (.tup [.int D,.int ((lcp (cds x) (cds y):Nat):Int)]);have jy:(upd H5 F (.tup [.int D,.int ((lcp (cds x) (cds y):Nat):Int)])) F=some (.tup [.int D,.int ((lcp (cds x) (cds y):Nat):Int)]):=Zc;have M6:=M5.same s6;generalize upd H5 F (.tup [.int D,.int ((lcp (cds x) (cds y):Nat):Int)])=H6 at s6 jy M6 ⊢;obtain⟨m6,m7⟩:=M6.ob;have vX:H6 l=some (.lst (N.map V.int)):=s6 _ _ (b5 _ _ (sJ _ _ B vV AM) vV);refine⟨_,rfl,m,aa,m6,_,_,rfl,m7,T.cl_Merge,T.na_Merge_stays,Ub ..,_,rfl,l,_,_,_,rfl,rfl,SqL.of vX,Lv hN,_,rfl,_,rfl,l,_,_,_,rfl,rfl,SqL.of vX,Lw hN,gZ,fun t7 AR=>?_⟩;have s7:=Zh AR (.tup [.int (N.headD 0),.int (N.getLastD 0)]);have qw:(upd H6 t7 (.tup [.int (N.headD 0),.int (N.getLastD 0)])) t7=some (.tup ([.inl (ZV N).1,.inl (ZV N).2].map kV)):=Zc;have M7:=M6.same s7;generalize upd H6 t7 (.tup [.int (N.headD 0),.int (N.getLastD 0)])=H7 at s7 qw M7 ⊢;have j2:(kvS I).length<sizeLine:=by unfold kvS;rw[Qa];exact ZB #[2]
  refine⟨sd,_,rfl,YG.t (k:=[.inl (ZV N).1,.inl (ZV N).2]) M7.stays qw j2,?_⟩;rw[show V.ref F=stV (some (F,D,((lcp (cds x) (cds y):Nat):Int))) from rfl,Ta];have bb:=ZmH I (ZV N) (some (F,D,((lcp (cds x) (cds y):Nat):Int)));have J5:=(WU c).2;have M8:=M7.put (k:=ZV N) (v:=some (F,D,((lcp (cds x) (cds y):Nat):Int))) (fun t ht=>by injection ht with ht;rw[← ht];exact s7 _ _ jy) #[2];have bv:J.n≠O.n:=fun z=>by have:=ZN C i.1 p.1;lia
  have AS:∀b o,H b=some o→b≠m→b≠sd→(upd H7 sd (.dT (kvS (Yg I (ZV N) (some (F,D,((lcp (cds x) (cds y):Nat):Int))))))) b=some o:=fun b o hb n1 n2=>by rw[Zb n2];exact s7 _ _ (s6 _ _ (b5 _ _ (sJ _ _ hb n1 n2) n1))
  have W:Win (hdM L) N (some wi):=by
   rcases hw with⟨S,rfl,_⟩|⟨S,rfl,_⟩
   ·have:=Win.both i p X Y S;rwa [XV]at this
   ·have:=Win.both' i p X Y ((Btr.total bv).resolve_left S);rwa [XV]at this
  have AT:D=if ZR (cds x) (cds y)<0∨(ZR (cds x) (cds y)=0∧J.n<O.n) then O.n else J.n:=by
   rcases hw with⟨S,_,rfl⟩|⟨S,_,rfl⟩
   ·exact(if_pos (show ZR (cds x) (cds y)<0∨(ZR (cds x) (cds y)=0∧J.n<O.n) from S)).symm
   ·exact(if_neg (show ¬ (ZR (cds x) (cds y)<0∨(ZR (cds x) (cds y)=0∧J.n<O.n)) from S)).symm
  refine⟨_,rfl,q (some wi) _ (k1+k2+1) (q1+q2+(lcp (cds x) (cds y):Nat)+1) _ W (fun _=>⟨?_,?_,?_,fun cq=>?_⟩) (.both c P1 P2 i p X Y) (fun j hj=>?_) #[2] (M8.cast #[2] #[2]) AS⟩
  ·exact vW.congr n _ (fun _ _=>rfl) (fun k u=>by rw[WT,if_neg (Pu C c u).1])
  ·exact S2.congr n _ (fun _ _=>rfl) (fun k u=>by rw[WT,if_neg (Pt C c u).1])
  ·intro a' b' x' y' wa wb j3 j4;have e1:=Qj (wa.one i);have e2:=Qj (wb.one p);subst e1;subst e2;have e3:=Qj (j3.symm.trans X);have e4:=Qj (j4.symm.trans Y);subst e3;subst e4;exact⟨F,by rw[WT,if_pos rfl,AT]⟩
  ·rcases cq with z|z
   ·exact nomatch z.one i
   ·exact nomatch z.one p
  ·rw[WT,if_neg (fun z=>hj ⟨c,.inr (.inr z)⟩)];exact Z j hj
theorem Xk.mono{C:Addr}{H a:Hp}{e:ZA}(h:Xk C H e)(k:∀b o,H b=some o→b=e.p∨b=e.k∨b=e.f→a b=some o):Xk C a e:=by obtain⟨c,d⟩:=h.at'.ob;exact⟨⟨⟨c,k _ _ d #[8]⟩,k _ _ h.at'.ks (.inr #[8]),k _ _ h.at'.fs (.inr (.inr rfl))⟩,h.le,h.len,h.srt,h.str⟩
theorem Lq(L:List ZA):(kvM L).map (fun a=>kV a.1)=(Zy L).map V.int:=by unfold kvM Zy;rw[Qn,Qn];rfl
theorem Zmc{n:Nat}{N:List Int}{k:Int×Int}(_:Xv n N k):Z0 [] k=none:=rfl
def SO(c d:Addr):Sp:=fun vs H Q _=>∃ (m rd sd:Addr) (L:List ZA) (s:StL) (nb li lo:Int) (g:V),vs=[.ref m]∧ZP c d H m rd sd L s nb li lo g ∧
 ∀ (e:Addr) (f:StL) (w:Option Int) (k q:Int) (a:Hp),H e=none→Win (hdM L) (Zy L) w→XU (hdM L) f 8 (Zy L)→YQ (hdM L) 8 (Zy L) k q→ZP c d a m rd e L f nb (li+k) (lo+q) (Yv w)→(∀b o,H b=some o→b≠m→a b=some o)→Q .non a
theorem Zjd(T:Z9 K mg ah aa ae al aj af ak)(Y:Mf P w K mg base 12 aa "play" ["self", "numbers"] (Ls K ah aa 8)):Mf P w K mg base 13 aa "play_all" ["self"] (SO ah aa):=by
 refine T.t_Merge_play_all.mf ZeY (fun Z H Q E h=>?_) (fun am f A outer s H Z Q E hr h=>?_)
 ·obtain⟨m,j,sd,L,s,nb,p,lo,t,rfl,_⟩:=h;rfl
 obtain⟨m,j,sd,L,s,nb,p,i,t,rfl,M,q⟩:=h;refine⟨_,#[Zf,#[XD,‹0›,(@NA _ _)],#[Zi,#[XD,‹0›,#[Xn,#[Zn,Ws,#[Zk,Ni,#[5],T.b.n_len,Qu,#[Za,#[ZQ,‹0›],#[Zd]]],#[Zj],(Zu _)],#[Xx,Y,T.cl_Merge,hr,‹0›,#[Za,#[W4,Nh,T.b.n_list,boot_list,#[Za,#[ZQ,‹0›],#[Zd]]],#[Zd]]],#[ZT]]]]],?_⟩;refine fun g u=>?_;obtain⟨y,I⟩:=M.ob;have z:=Zh u (.dT []);have J:(upd H g (.dT [])) g=some (.dT (kvS [])):=Zc;have M1:=M.same z;have N:=z _ _ I;have lF:m≠g:=Ze I u;have vY:j≠g:=Ze M.rows u;generalize upd H g (.dT [])=F at z J M1 N ⊢;refine⟨_,rfl,m,aa,y,_,rfl,N,T.cl_Merge,T.na_Merge_stays,Wy ..,?_⟩;rw[Zg3];obtain⟨n1,n2,n3⟩:=M.ne_m;have M2:ZP ah aa (upd F m (.ins aa y (mgF j nb p i g t))) m j g L [] nb p i t:=by refine⟨⟨y,Zc⟩,by rw[Zb n1.symm];exact M1.rows,by rw[Zb lF.symm];exact J,(fun e B=>by cases B),fun e B=>?_,M.up,M.pd,M.few,by decide⟩;obtain⟨a,b,c⟩:=M1.ne_p B;exact(M1.each e B).keep (Zb a.symm) (Zb b.symm) (Zb c.symm)
 have k2:∀b o,H b=some o→b≠m→(upd F m (.ins aa y (mgF j nb p i g t))) b=some o:=fun b o v n=>by rw[Zb n];exact z b o v
 generalize upd F m (.ins aa y (mgF j nb p i g t))=O at M2 k2 ⊢;obtain⟨C,D⟩:=M2.ob;have aw:(((kvM L).length:Nat):Int)=(L.length:Int):=by unfold kvM;rw[Qa]
 have cn:(Zy L).length=L.length:=by unfold Zy;rw[Qa]
 have cm:=M.few;refine⟨_,rfl,m,aa,C,_,_,rfl,D,T.cl_Merge,T.na_Merge_rows,XT ..,j,_,rfl,M2.rows,_,_,rfl,rfl,_,rfl,YX (fun d=>?_) (fun d=>?_)⟩
 ·have fV:0<L.length:=by have:(0:Int)<(((kvM L).length:Nat):Int):=of_decide_eq_true d;lia
  refine⟨_,rfl,m,C,_,rfl,D,OW ..,_,rfl,m,aa,C,_,_,rfl,D,T.cl_Merge,T.na_Merge_rows,XT ..,j,_,rfl,M2.rows,fun l hl=>?_⟩;rw[Lq];have G:=Zh hl (.lst ((Zy L).map V.int));have R:(upd O l (.lst ((Zy L).map V.int))) l=some (.lst ((Zy L).map V.int)):=Zc;have U:=M2.same G;generalize upd O l (.lst ((Zy L).map V.int))=H3 at G R U ⊢;refine⟨m,j,g,L,[],nb,p,i,t,l,Zy L,rfl,U,R,by lia,by lia,by decide,Qw (by lia:(Zy L).length≤60) #[6],fun x hx=>hx,M.up,fun k hk=>Zmc hk,by show 0+_≤_;lia,fun w1 s' k q' H4 W S Pl _ _ X b4=>?_⟩;obtain⟨iR,fI⟩:=X.ob;refine⟨_,rfl,m,aa,iR,_,rfl,fI,T.cl_Merge,T.na_Merge_best,Wy ..,?_⟩;rw[SR];exact q g s' w1 k q' _ u W S Pl X.obj (fun b o v n=>by rw[Zb n];exact b4 b o (G b o (k2 b o v n)) n (Ze v u))
 ·have m8:L=[]:=by
   cases L with
   | nil=>rfl
   | cons e r=>exact absurd (decide_eq_true (show (0:Int)<(((kvM (e::r)).length:Nat):Int) by rw[aw];simp only[List.length_cons];lia)) d
  subst m8;refine⟨_,rfl,m,aa,C,_,rfl,D,T.cl_Merge,T.na_Merge_best,Wy ..,?_⟩;rw[SR];exact q g [] none 0 0 _ u (Win.nil _) (fun h2=>absurd h2 #[6]) (.few #[6]) (M2.obj.cast #[2] #[2]) (fun b o v n=>by rw[Zb n];exact k2 b o v n)
def T9(L:List ZA)(a:List (Addr×List Str)):Prop:=Zy L=Xr 0 a.length∧L.map (fun e=>(e.ss,e.g))=a.map fun x=>(x.2,0)
def Zjy(g d:Addr):Sp:=fun vs H Q _=>∃ (m dx r:Addr) (a:List (Addr×List Str)),vs=[.ref m,.ref r]∧H m=some (.ins d dx [])∧We H r a∧(∀x∈a,sortedS x.2=true) ∧
 ∀ (e f:Addr) (L:List ZA) (s:StL) (w:Option Int) (k q:Int) (c:Hp),ZP g d c m e f L s (a.length:Int) k q (Yv w)→T9 L a→Win (hdM L) (Zy L) w→XU (hdM L) s 8 (Zy L)→YQ (hdM L) 8 (Zy L) k q→(∀b,Fp m e f L b→b=m∨H b=none)→(∀b o,H b=some o→b≠m→c b=some o)→Q .non c
theorem OV(rd:Addr)(nb li lo:Int)(sd:Addr)(a:V):(mgF rd nb li lo sd a).lookup ("play_all" : Str)=none:=X6 _ _ _ _ _ _ #[1] #[1] #[1] #[1] #[1] #[1]
theorem Lp{ss:List Str}(h:sortedS ss=true):Uk ss .non:=by refine .inl ⟨rfl,fun i x y a b=>?_⟩;have:=Mj h i y x b a;have:=Wh (cds y) (cds x);lia
theorem Zhc(T:Z9 K mg ah aa ae al aj af ak)(aN:Df P w K mg base 5 "refuse_break" ["number", "keys"] (SS K))(bC:Cf P w K mg base 4 ah "Row" ["self", "keys"] (Pz ah))(ax:Mf P w K mg base 13 aa "play_all" ["self"] (SO ah aa)):Cf P w K mg base 14 aa "Merge" ["self", "rows"] (Zjy ah aa):=by
 refine T.t_Merge_init.cf Rg (fun vs H Q E h=>?_) (fun am f A outer s H vs Q E hr h=>?_)
 ·obtain⟨m,g,r,l,rfl,_⟩:=h;rfl
 obtain⟨m,g,r,l,rfl,Y,N,dU,q⟩:=h;refine⟨_,#[Zf,#[XD,‹0›,(@TH _ _)],#[Zf,#[Ya,PassesOwn.never,#[iE,K,T.b.n_enumerate,#[Za,‹1›,#[Zd]]],#[gT,K,2,#[ZC,#[ZD,2,Rg.nd,#[3]],#[ZC,#[ZD,3,Rg.nd,#[3]],(@Yb _)]]],#[Zf,#[YD,#[Zw,aN,hr,#[Za,‹2›,#[Za,‹3›,#[Zd]]],#[5]]],#[Zi,#[Z6,#[UK,bC,hr,#[Za,‹3›,#[Zd]]],#[Yt,#[ZQ,‹0›],‹2›,(X9 hr)]]]]],#[Zf,#[XD,‹0›,#[Zk,(YB K),#[5],T.b.n_len,Qu,#[Za,‹1›,#[Zd]]]],#[Zf,#[XD,‹0›,#[Zj]],#[Zf,#[XD,‹0›,#[Zj]],#[Zf,#[XD,‹0›,(@NA _ _)],#[Zf,#[XD,‹0›,#[ZT]],#[Zi,#[YD,#[YN,ax,T.cl_Merge,hr,‹0›]]]]]]]]]],?_⟩;refine fun c iz=>?_;have sM:m≠c:=Ze Y iz;have s1:=Zh iz (.dK []);have eA:(upd H c (.dK [])) c=some (.dK (kvM [])):=Zc;have dH:=s1 _ _ Y;generalize upd H c (.dK [])=H1 at s1 eA dH ⊢;refine⟨_,rfl,m,aa,g,_,rfl,dH,T.cl_Merge,T.na_Merge_rows,(by show 0<1000;decide),?_⟩;have m9:r≠m:=fun z=>by have:=N.at';rw[z,Y]at this;cases this
 have k2:∀b o,H b=some o→b≠m→(upd H1 m (.ins aa g (Zv "rows" (.ref c) []))) b=some o:=fun b o d n=>by rw[Zb n];exact s1 b o d
 have cA:(upd H1 m (.ins aa g (Zv "rows" (.ref c) []))) m=some (.ins aa g (Zv "rows" (.ref c) [])):=Zc;have cj:(upd H1 m (.ins aa g (Zv "rows" (.ref c) []))) c=some (.dK (kvM [])):=by rw[Zb sM.symm];exact eA
 generalize upd H1 m (.ins aa g (Zv "rows" (.ref c) []))=H2 at k2 cA cj ⊢;have cm:=N.few;have AU:(Zv "rows" (.ref c) []).lookup ("rows" : Str)=some (V.ref c):=by rw[Zl,if_pos rfl]
 refine⟨_,rfl,r,_,rfl,SqL.of (k2 _ _ N.at' m9),?_⟩;refine R5 (K:=K) (a:=r) (xs:=l.map fun x=>V.ref x.1) (fun i σ t=>∃ (L:List ZA) (v2 v3:Option V),σ=[some (.ref m),some (.ref r),v2,v3]∧t m=some (.ins aa g (Zv "rows" (.ref c) []))∧t c=some (.dK (kvM L))∧(∀e∈L,Xk ah t e)∧T9 L (l.take i)∧(L.map (·.p)).Nodup∧(∀e∈L,H e.p=none∧H e.k=none∧H e.f=none)∧(∀b o,H b=some o→b≠m→t b=some o)) ⟨[],_,_,rfl,cA,cj,(fun e h=>by cases h),⟨rfl,rfl⟩,List.nodup_nil,(fun e h=>by cases h),k2⟩ (fun i σ t hq=>by obtain⟨_,_,_,_,_,_,_,_,_,_,k5⟩:=hq;exact SqL.of (k5 _ _ N.at' m9)) ?_ ?_
 ·rintro i y σ t p Z ⟨L,v2,v3,rfl,I,F,C,⟨n1,n2⟩,pd,bq,k5⟩ hp;rw[Qk]at Z;cases hz:l[i]? with
  | none=>rw[hz]at Z;cases Z
  | some x =>
  rw[hz]at Z;cases Z;have bH:i<l.length:=(Qd.mp hz).1;have sN:=Qv hz;obtain⟨lx,eF,gY⟩:=N.lst x sN;have AV:x.1≠m:=fun z=>by rw[z,Y]at lx;cases lx
  have sF:L.length=i:=by have:=congrArg List.length n1;unfold Zy at this;rw[Qa,UM,QA]at this;lia
  have au:∀e∈L,e.n≠(i:Int):=fun e he z=>by
   have h1:e.n∈Xr 0 (l.take i).length:=by rw[← n1];exact Qe (f:=fun e:ZA=>e.n) he
   unfold Xr at h1;obtain⟨j,hj,ej⟩:=Qp.mp h1;have:=Qak.mp hj;rw[QA]at this;lia
  have sp:=Zh hp (.tup [.int (i:Int),.ref x.1]);have mY:(upd t p (.tup [.int (i:Int),.ref x.1])) p=some (.tup [.int (i:Int),.ref x.1]):=Zc;generalize upd t p (.tup [.int (i:Int),.ref x.1])=H6 at sp mY ⊢;refine⟨p,_,rfl,SqT.of mY,rfl,_,_,rfl,_,_,rfl,rfl,?_⟩;have vZ:H6 x.1=some (.lst (x.2.map V.str)):=sp _ _ (k5 _ _ lx AV);refine⟨_,rfl,_,rfl,(i:Int),x.1,x.2,rfl,SqL.of vZ,by lia,fun s hs=>(gY s hs).1,Lp (dU x sN),fun H7 s7=>?_⟩;have wc:=sp.trans s7;refine⟨_,rfl,fun u G hu lG AW=>?_⟩;have O:t u=none:=wc.free hu;have wd:(upd (upd H7 G (.own u)) u (.ins ah G [])) x.1=some (.lst (x.2.map V.str)):=by have:=s7 _ _ vZ;rw[Zb (Ze this hu),Zb (Ze this lG)];exact this
  have s8:∀b o,t b=some o→(upd (upd H7 G (.own u)) u (.ins ah G [])) b=some o:=fun b o d=>by have:=wc _ _ d;rw[Zb (Ze this hu),Zb (Ze this lG)];exact this
  have nh:(upd (upd H7 G (.own u)) u (.ins ah G [])) u=some (.ins ah G []):=Zc;generalize upd (upd H7 G (.own u)) u (.ins ah G [])=U at wd s8 nh ⊢;refine⟨u,G,x.1,x.2,rfl,nh,wd,eF,fun s hs=>(gY s hs).1,fun k f H9 hk D sq R k9=>⟨rfl,?_⟩⟩;have s9:∀b o,t b=some o→H9 b=some o:=fun b o d=>k9 b o (s8 b o d) (Ze d O);have X:∀b,U b=none→t b=none:=fun b d=>by
   cases e:t b with
   | none=>rfl
   | some o=>rw[s8 b o e]at d;cases d
  have gD:∀b,b≠m→t b=none→H b=none:=fun b nb d=>by
   cases e:H b with
   | none=>rfl
   | some o=>rw[k5 b o e nb]at d;cases d
  have num:u≠m:=fun z=>by rw[z,I]at O;cases O
  have AX:k≠m:=fun z=>by have:=X k hk;rw[z,I]at this;cases this
  have sI:f≠m:=fun z=>by have:=X f D;rw[z,I]at this;cases this
  have j5:c≠u∧c≠k∧c≠f:=⟨Ze F O,Ze F (X k hk),Ze F (X f D)⟩;have hsz:(kvM L).length<sizeLine:=by unfold kvM;rw[Qa];exact ZB #[2]
  have gz:Zt (kvM L) (.inl (i:Int))=none:=by
   cases hv:Zt (kvM L) (.inl (i:Int)) with
   | none=>rfl
   | some v=>obtain⟨e,he,z⟩:=Qp.mp (Wl hv);injection z with z _;exact absurd (Sum.inl.inj z) (au e he)
  refine⟨_,rfl,m,aa,g,_,_,rfl,s9 _ _ I,T.cl_Merge,T.na_Merge_rows,AU,_,rfl,c,_,rfl,YG.k (k:=.inl (i:Int)) (s9 _ _ F) hsz,?_⟩;rw[Wn _ gz,show kvM L++[((.inl (i:Int):Key),V.ref u)]=kvM (L++[⟨(i:Int),u,k,f,x.2,0⟩]) by unfold kvM;rw[Qf];rfl];refine⟨L++[⟨(i:Int),u,k,f,x.2,0⟩],_,_,rfl,by rw[Zb sM];exact s9 _ _ I,Zc,fun e he=>?_,⟨?_,?_⟩,?_,fun e he=>?_,fun b o d n=>?_⟩
  ·rcases Qo.mp he with he|he
   ·have J:=C e he;obtain⟨de,gf⟩:=J.at'.ob;refine J.mono fun b o d cx=>?_;have nb:b≠c:=fun z=>by
     rw[z,F]at d;injection d with d;subst d;rcases cx with z2|z2|z2
     ·rw[← z2,z,F]at gf;cases gf
     ·have:=J.at'.ks;rw[← z2,z,F]at this;cases this
     ·have:=J.at'.fs;rw[← z2,z,F]at this;cases this
    rw[Zb nb];exact s9 b o d
   ·rw[Ql.mp he];refine Xk.keep (H:=H9) ⟨R,Qs _,eF,dU x sN,gY⟩ (Zb j5.1.symm) (Zb j5.2.1.symm) (Zb j5.2.2.symm)
  ·unfold Zy at n1 ⊢;rw[Qf,n1,QA,QA,Qax #[2],Qax #[2]];unfold Xr;rw[QaP,Qf];simp
  ·rw[Qf,n2,QH,hz,Qf];rfl
  ·rw[Qf];refine QaZ.mpr ⟨pd,by simp,fun a ha b d=>?_⟩;obtain⟨e,he,rfl⟩:=Qp.mp ha;have:b=u:=by simpa using d
   rw[this];obtain⟨de,gf⟩:=(C e he).at'.ob;exact Ze gf O
  ·rcases Qo.mp he with he|he
   ·exact bq e he
   ·rw[Ql.mp he];exact⟨gD u num O,gD k AX (X k hk),gD f sI (X f D)⟩
  ·rw[Zb (Ze d iz)];exact s9 b o (k5 b o d n)
 ·rintro σ t ⟨L,v2,v3,rfl,I,F,C,fW,pd,bq,k5⟩;rw[Qa,QC (Qg _)]at fW;have p1:=Wf "rows" (V.ref c) [];have p2:=Wf "next_number" (V.int (l.length:Int)) (Zv "rows" (.ref c) []);have p3:=Wf "likened" (V.int 0) (Zv "next_number" (.int (l.length:Int)) (Zv "rows" (.ref c) []));have p4:=Wf "looked" (V.int 0) (Zv "likened" (.int 0) (Zv "next_number" (.int (l.length:Int)) (Zv "rows" (.ref c) [])));have p0:([]:List (Str×V)).length=0:=rfl;refine⟨_,rfl,r,_,rfl,.inl (SqL.of (k5 _ _ N.at' m9)),_,rfl,m,aa,g,_,rfl,I,T.cl_Merge,T.na_Merge_next_number,by lia,?_⟩;rw[Qa];refine⟨_,rfl,m,aa,g,_,rfl,Zc,T.cl_Merge,T.na_Merge_likened,by lia,?_⟩;refine⟨_,rfl,m,aa,g,_,rfl,Zc,T.cl_Merge,T.na_Merge_looked,by lia,?_⟩;have k8:∀b,b≠m→(upd (upd (upd t m (.ins aa g (Zv "next_number" (.int (l.length:Int)) (Zv "rows" (.ref c) [])))) m (.ins aa g (Zv "likened" (.int 0) (Zv "next_number" (.int (l.length:Int)) (Zv "rows" (.ref c) []))))) m (.ins aa g (Zv "looked" (.int 0) (Zv "likened" (.int 0) (Zv "next_number" (.int (l.length:Int)) (Zv "rows" (.ref c) [])))))) b=t b:=fun b n=>by rw[Zb n,Zb n,Zb n]
  have sO:(upd (upd (upd t m (.ins aa g (Zv "next_number" (.int (l.length:Int)) (Zv "rows" (.ref c) [])))) m (.ins aa g (Zv "likened" (.int 0) (Zv "next_number" (.int (l.length:Int)) (Zv "rows" (.ref c) []))))) m (.ins aa g (Zv "looked" (.int 0) (Zv "likened" (.int 0) (Zv "next_number" (.int (l.length:Int)) (Zv "rows" (.ref c) [])))))) m=some (.ins aa g (Zv "looked" (.int 0) (Zv "likened" (.int 0) (Zv "next_number" (.int (l.length:Int)) (Zv "rows" (.ref c) []))))):=Zc;generalize (upd (upd (upd t m (.ins aa g (Zv "next_number" (.int (l.length:Int)) (Zv "rows" (.ref c) [])))) m (.ins aa g (Zv "likened" (.int 0) (Zv "next_number" (.int (l.length:Int)) (Zv "rows" (.ref c) []))))) m (.ins aa g (Zv "looked" (.int 0) (Zv "likened" (.int 0) (Zv "next_number" (.int (l.length:Int)) (Zv "rows" (.ref c) []))))))=U at k8 sO ⊢;refine fun B iS=>?_;have lF:m≠B:=Ze sO iS;have p5:=Wf "stays" (V.ref B) (Zv "looked" (.int 0) (Zv "likened" (.int 0) (Zv "next_number" (.int (l.length:Int)) (Zv "rows" (.ref c) []))));refine⟨_,rfl,m,aa,g,_,rfl,by rw[Zb lF];exact sO,T.cl_Merge,T.na_Merge_stays,by lia,?_⟩;refine⟨_,rfl,m,aa,g,_,rfl,Zc,T.cl_Merge,T.na_Merge_best,by lia,?_⟩;have jz:t B=none:=by rw[← k8 B lF.symm];exact iS
  have j6:(upd (upd (upd U B (.dT [])) m (.ins aa g (Zv "stays" (.ref B) (Zv "looked" (.int 0) (Zv "likened" (.int 0) (Zv "next_number" (.int (l.length:Int)) (Zv "rows" (.ref c) []))))))) m (.ins aa g (Zv "best" .non (Zv "stays" (.ref B) (Zv "looked" (.int 0) (Zv "likened" (.int 0) (Zv "next_number" (.int (l.length:Int)) (Zv "rows" (.ref c) [])))))))) m=some (.ins aa g (mgF c (l.length:Int) 0 0 B .non)):=by rw[Wc];exact Zc
  have we:(upd (upd (upd U B (.dT [])) m (.ins aa g (Zv "stays" (.ref B) (Zv "looked" (.int 0) (Zv "likened" (.int 0) (Zv "next_number" (.int (l.length:Int)) (Zv "rows" (.ref c) []))))))) m (.ins aa g (Zv "best" .non (Zv "stays" (.ref B) (Zv "looked" (.int 0) (Zv "likened" (.int 0) (Zv "next_number" (.int (l.length:Int)) (Zv "rows" (.ref c) [])))))))) B=some (.dT (kvS [])):=by rw[Zb lF.symm,Zb lF.symm];exact Zc
  have k9:∀b o,t b=some o→b≠m→(upd (upd (upd U B (.dT [])) m (.ins aa g (Zv "stays" (.ref B) (Zv "looked" (.int 0) (Zv "likened" (.int 0) (Zv "next_number" (.int (l.length:Int)) (Zv "rows" (.ref c) []))))))) m (.ins aa g (Zv "best" .non (Zv "stays" (.ref B) (Zv "looked" (.int 0) (Zv "likened" (.int 0) (Zv "next_number" (.int (l.length:Int)) (Zv "rows" (.ref c) [])))))))) b=some o:=fun b o d n=>by rw[Zb n,Zb n,Zb (Ze d jz),k8 b n];exact d
  generalize (upd (upd (upd U B (.dT [])) m (.ins aa g (Zv "stays" (.ref B) (Zv "looked" (.int 0) (Zv "likened" (.int 0) (Zv "next_number" (.int (l.length:Int)) (Zv "rows" (.ref c) []))))))) m (.ins aa g (Zv "best" .non (Zv "stays" (.ref B) (Zv "looked" (.int 0) (Zv "likened" (.int 0) (Zv "next_number" (.int (l.length:Int)) (Zv "rows" (.ref c) []))))))))=H9 at j6 we k9 ⊢;have sF:L.length=l.length:=by have:=congrArg List.length fW.1;unfold Zy at this;rw[Qa,UM]at this;exact this
  have M9:ZP ah aa H9 m c B L [] (l.length:Int) 0 0 .non:=by
   refine⟨⟨g,j6⟩,k9 _ _ F sM.symm,we,(fun e he=>by cases he),fun e he=>?_,by rw[fW.1];exact LC _,pd,by lia,by decide⟩;have J:=C e he;obtain⟨de,gf⟩:=J.at'.ob;refine J.mono fun b o d cx=>k9 b o d fun z=>?_;have D:=bq e he;have M:=Y;rw[← z]at M;rcases cx with z2|z2|z2
   ·rw[z2,D.1]at M;cases M
   ·rw[z2,D.2.1]at M;cases M
   ·rw[z2,D.2.2]at M;cases M
  refine⟨_,rfl,m,g,_,rfl,j6,OV ..,m,c,B,L,[],_,0,0,.non,rfl,M9,fun aT s' w1 k q' fv fj W S Pl jA AY=>?_⟩;have gD:∀b,b≠m→H9 b=none→H b=none:=fun b nb d=>by
   cases e:H b with
   | none=>rfl
   | some o=>rw[k9 b o (k5 b o e nb) nb]at d;cases d
  refine q c aT L s' w1 k q' fv (jA.cast #[2] #[2]) fW W S Pl (fun b d=>?_) (fun b o d n=>AY b o (k9 b o (k5 b o d n) n) n);rcases d with rfl|rfl|rfl|⟨e,he,d⟩
  ·exact .inl rfl
  ·exact .inr iz
  ·exact .inr (gD _ (fun z=>by rw[z,j6]at fj;cases fj) fj)
  ·have D:=bq e he;rcases d with rfl|rfl|rfl
   ·exact .inr D.1
   ·exact .inr D.2.1
   ·exact .inr D.2.2
theorem Zp6{c:Bool}{e:(Bool→Hp→Prop)→Prop}{T:Bool→Hp→Prop}{b:Hp}(h1:c=true→∀d:Bool→Hp→Prop,(∀a,ZG b a→d false a)→e d)(h2:∀a,ZG b a→T false a):if c=true then e T else T false b:=by
 cases c with
 | true=>rw[if_pos rfl];exact h1 rfl T h2
 | false=>rw[if_neg #[6]];exact h2 b (ZG.refl _)
def Ln(a b:Addr):Sp:=fun vs H Q _=>∃ (m rd sd:Addr) (L:List ZA) (s:StL) (nb li lo:Int) (c:V),vs=[.ref m]∧ZP a b H m rd sd L s nb li lo c∧Q (.int li) H
def Lm(a b:Addr):Sp:=fun vs H Q _=>∃ (m rd sd:Addr) (L:List ZA) (s:StL) (nb li lo:Int) (c:V),vs=[.ref m]∧ZP a b H m rd sd L s nb li lo c∧Q (.int lo) H
theorem ZiB(T:Z9 K mg ah aa ae al aj af ak):Mf P w K mg base 1 aa "likenings" ["self"] (Ln ah aa):=by
 refine T.t_Merge_likenings.mf ZeN (fun a H Q E h=>?_) (fun am f A outer s H a Q E hr h=>?_)
 ·obtain⟨m,b,c,L,s,nb,d,lo,e,rfl,_⟩:=h;rfl
 obtain⟨m,b,c,L,s,nb,d,lo,e,rfl,M,q⟩:=h;refine⟨_,#[Zi,#[Zo,#[ZQ,‹0›]]],?_⟩;obtain⟨g,i⟩:=M.ob;exact⟨_,rfl,m,aa,g,_,_,rfl,i,T.cl_Merge,T.na_Merge_likened,OY ..,q⟩
theorem ZmL(T:Z9 K mg ah aa ae al aj af ak):Mf P w K mg base 1 aa "looks" ["self"] (Lm ah aa):=by
 refine T.t_Merge_looks.mf Zgm (fun a H Q E h=>?_) (fun am f A outer s H a Q E hr h=>?_)
 ·obtain⟨m,b,c,L,s,nb,d,lo,e,rfl,_⟩:=h;rfl
 obtain⟨m,b,c,L,s,nb,d,lo,e,rfl,M,q⟩:=h;refine⟨_,#[Zi,#[Zo,#[ZQ,‹0›]]],?_⟩;obtain⟨g,i⟩:=M.ob;exact⟨_,rfl,m,aa,g,_,_,rfl,i,T.cl_Merge,T.na_Merge_looked,Ly ..,q⟩
def OU(b c:Addr):Sp:=fun vs H Q _=>∃ (m rd sd:Addr) (L:List ZA) (s:StL) (nb li lo:Int) (w:Option Int),vs=[.ref m]∧ZP b c H m rd sd L s nb li lo (Yv w)∧Win (hdM L) (Zy L) w∧∀ (x:V) (a:Hp),VC (L.map toL) a x→ZG H a→Q x a
theorem ZlS(T:Z9 K mg ah aa ae al aj af ak)(r:Mf P w K mg base 2 ah "head" ["self"] (U8 ah)):Mf P w K mg base 3 aa "coming" ["self"] (OU ah aa):=by
 refine T.t_Merge_coming.mf MK (fun u H Q E h=>?_) (fun am f A outer s H u Q E i h=>?_)
 ·obtain⟨m,j,v,L,s,nb,y,lo,w,rfl,_⟩:=h;rfl
 obtain⟨m,j,v,L,s,nb,y,lo,w,rfl,M,W,q⟩:=h;refine⟨_,#[Zf,#[ZO,#[Zn,XF,#[ZQ,‹0›],#[ZT],(Zu _)],#[Zi,#[Zo,#[ZT]]],#[ZE]],#[Zf,#[Zx,1,MK.nd,#[3],#[Zr,(ixG i),#[ZQ,‹0›],#[ZQ,‹0›]]],#[Zi,#[Zo,#[YU,#[Za,#[ZQ,‹0›],#[Za,#[ZQ,‹1›],#[Za,#[YN,r,T.cl_Row,i,‹1›],#[Zd]]]]]]]]],?_⟩;obtain⟨b,c⟩:=M.ob;refine⟨_,rfl,m,aa,b,_,_,rfl,c,T.cl_Merge,T.na_Merge_best,Ua ..,rfl,_,rfl,?_⟩;have l:Win (hdL (L.map toL)) ((L.map toL).map (·.1)) w:=by rw[WA];exact W
 cases w with
 | none=>exact Yk rfl (q _ H (.inl ⟨rfl,l⟩) (ZG.refl H))
 | some a =>
  obtain⟨e,d,rfl⟩:=Uc W.1;have R:=M.each e d;obtain⟨n,o⟩:=R.at'.ob;have B:=VB M.nd d;cases g:e.ss[e.g]? with
  | none=>obtain⟨_,z,p,_⟩:=W;rw[B,g]at p;cases p
  | some x =>
  refine YF (fun z=>nomatch z) ?_;refine⟨_,rfl,m,aa,b,_,_,rfl,c,T.cl_Merge,T.na_Merge_rows,XT ..,_,rfl,m,aa,b,_,_,rfl,c,T.cl_Merge,T.na_Merge_best,Ua ..,j,_,rfl,ZX.k' (k:=.inl e.n) M.rows (Wd M.nd d),?_⟩;refine⟨_,rfl,m,aa,b,_,_,rfl,c,T.cl_Merge,T.na_Merge_best,Ua ..,_,rfl,e.p,ah,n,_,_,rfl,o,T.cl_Row,T.na_Row_gone,Uj ..,_,rfl,e.p,n,_,rfl,o,U1 ..,e.p,e.k,e.f,e.ss,e.g,rfl,R.at',(by show 3≤sizeLine;decide),fun t C=>?_⟩;rw[SQ g];exact q _ _ (.inr ⟨t,toL e,x,rfl,Qe d,g,Zc,l⟩) (Zh C _)
def Ll(b c:Addr):Sp:=fun vs H Q _=>∃ (m rd sd:Addr) (L:List ZA) (s:StL) (nb li lo:Int) (d:V),vs=[.ref m]∧ZP b c H m rd sd L s nb li lo d∧∀a:Hp,ZG H a→Q (.int (YV (L.map toL)).sum) a
theorem Zip(k f:Addr)(g:Int):(Yx k f g).lookup ("to_go" : Str)=none:=Tc _ _ _ #[1] #[1] #[1]
theorem Zmy(T:Z9 K mg ah aa ae al aj af ak)(J:Mf P w K mg base 1 ah "to_go" ["self"] (Ui ah)):Mf P w K mg base 2 aa "left" ["self"] (Ll ah aa):=by
 refine T.t_Merge_left.mf Zg0 (fun N H Q E h=>?_) (fun am f A outer s H N Q E O h=>?_)
 ·obtain⟨m,a,S,L,s,nb,U,lo,W,rfl,_⟩:=h;rfl
 obtain⟨m,a,S,L,s,nb,U,lo,W,rfl,M,q⟩:=h;refine⟨_,#[Zi,#[Zo,#[Zk,(Nv K),#[5],T.b.n_sum,boot_sum,#[Za,(@RU _ _ _ #[WY,P7,(@Zog _ _ _ _ _ _ #[ZQ,‹0›] #[5] #[5]),(fun _ _ _ _=>#[cg,1,P7]),(fun _ _ _ _=>(@Wp _)),(fun _ _ _ _=>#[YN,J,T.cl_Row,O,#[cw,1,P7]])]),#[Zd]]]]],?_⟩;obtain⟨X,Y⟩:=M.ob;have cm:=M.few;refine⟨a,_,M.rows,True.intro,_,rfl,m,aa,X,_,_,rfl,Y,T.cl_Merge,T.na_Merge_rows,XT ..,a,_,rfl,M.rows,fun j B t=>?_⟩;have u:(upd H a (.frz j (.dK (kvM L)))) a=some (.frz j (.dK (kvM L))):=Zc;have k1:∀b x,H b=some x→b≠a→(upd H a (.frz j (.dK (kvM L)))) b=some x:=fun b x h n=>by rw[Zb n];exact h
 generalize upd H a (.frz j (.dK (kvM L)))=Z at u k1 t ⊢;refine Zpl (d:=a) (o:=j) (kvs:=kvM L) (fun i zs D c=>(∃v:Option V,D=[some (.ref m),v])∧zs=(YV ((L.take i).map toL)).map V.int∧i≤L.length∧c B=some (.lst zs)∧ZG Z c) ?_ (fun _ _ _ _ h=>h.2.2.2.2 _ _ u) ?_ ?_
 ·exact⟨⟨none,rfl⟩,rfl,Qs _,Zc,Zh t _⟩
 ·rintro i k x zs D c l ⟨⟨v,rfl⟩,rfl,hi,y,p⟩;unfold kvM at l;rw[Qk]at l;cases r:L[i]? with
  | none=>rw[r]at l;cases l
  | some e =>
  rw[r]at l;cases l;have bH:i<L.length:=(Qd.mp r).1;have C:=Qv r;have R:=M.each e C;obtain⟨_,_,_,n1,n2,n3⟩:=M.ne_sd C;have R2:Xk ah c e:=R.mono fun b o g cx=>p _ _ (k1 b o g (by rcases cx with z|z|z<;>rw[z];exact n1.symm;exact n2.symm;exact n3.symm));obtain⟨dp,hp⟩:=R2.at'.ob;refine⟨_,rfl,e.p,dp,_,rfl,hp,Zip ..,e.p,e.k,e.f,e.ss,e.g,rfl,R2.at',y,(by unfold YV;rw[Qa,Qa,Qa,QA];exact ZB #[2]),⟨_,rfl⟩,?_,bH,Zc,fun b x g=>?_⟩
  ·rw[QH,r,Qf];unfold YV;rw[Qf,Qf];rfl
  ·rw[Zb (Ze g t)];exact p b x g
 rintro zs D c ⟨⟨v,rfl⟩,rfl,_,y,p⟩;have ck:(kvM L).length=L.length:=by unfold kvM;rw[Qa]
 rw[ck,QC (Qg _)]at y;refine⟨j,p _ _ u,?_⟩;have F:(upd c a (.dK (kvM L))) B=some (.lst ((YV (L.map toL)).map V.int)):=by rw[Zb (Ze u t).symm];exact y
 have G:ZG H (upd c a (.dK (kvM L))):=fun b x g=>by
  by_cases e:b=a
  ·rw[e,M.rows]at g;rw[e,Zc];exact g
  ·rw[Zb e];exact p _ _ (k1 b x g e)
 generalize upd c a (.dK (kvM L))=H3 at F G ⊢;refine⟨B,YV (L.map toL),rfl,SqL.of F,(by unfold YV;rw[Qa,Qa];lia),fun n I=>?_,q H3 G⟩;unfold YV at I;obtain⟨e',ba,rfl⟩:=Qp.mp I;obtain⟨e,C,rfl⟩:=Qp.mp ba;have R:=M.each e C;have a1:=R.le;have a2:=R.len;show 0≤((e.ss.length:Int)-(e.g:Int))∧((e.ss.length:Int)-(e.g:Int))≤_;lia
noncomputable def WQ(L:List ZF):List (Int×Option Str):=L.map fun e=>(e.1,e.2.2.1[e.2.2.2]?)
def Wb(H:Hp)(l:Addr)(E:List (Int×Option Str)):Prop:=∃ts:List (Addr×Int×Option Str),ts.map (·.2)=E∧H l=some (.lst (ts.map fun t=>V.ref t.1))∧∀t∈ts,H t.1=some (.tup [.int t.2.1,oV t.2.2])
theorem Lk(ss:List Str)(g:Nat):WD ss g=oV ss[g]?:=by unfold WD oV;cases ss[g]?<;>rfl
def Lj(b c:Addr):Sp:=fun vs H Q _=>∃ (m rd sd:Addr) (L:List ZA) (s:StL) (nb li lo:Int) (d:V),vs=[.ref m]∧ZP b c H m rd sd L s nb li lo d∧∀ (l:Addr) (a:Hp),H l=none→Wb a l (WQ (L.map toL))→ZG H a→Q (.ref l) a
theorem Zlw(T:Z9 K mg ah aa ae al aj af ak)(av:Mf P w K mg base 2 ah "head" ["self"] (U8 ah)):Mf P w K mg base 3 aa "heads" ["self"] (Lj ah aa):=by
 refine T.t_Merge_heads.mf Zgg (fun vs H Q E h=>?_) (fun am f A outer s H vs Q E hr h=>?_)
 ·obtain⟨m,a,sd,L,s,nb,li,lo,ai,rfl,_⟩:=h;rfl
 obtain⟨m,a,sd,L,s,nb,li,lo,ai,rfl,M,q⟩:=h;refine⟨_,#[Zi,#[Zo,(@RU _ _ _ #[WY,Um,(@ZmI _ _ _ _ _ _ _ _ #[ZQ,‹0›] #[5] #[5]),(fun _ _ _ _=>#[gT,K,2,#[ZC,#[cg,1,Um],#[ZC,#[cg,2,Um],(@Yb _)]]]),(fun _ _ _ _=>(@Wp _)),(fun _ _ _ _=>#[YU,#[Za,#[cw,1,Um],#[Za,#[YN,av,T.cl_Row,hr,#[cw,2,Um]],#[Zd]]]])])]],?_⟩;obtain⟨dx,hm⟩:=M.ob;have cm:=M.few;refine⟨a,_,M.rows,True.intro,_,rfl,m,aa,dx,_,_,rfl,hm,T.cl_Merge,T.na_Merge_rows,XT ..,a,_,rfl,M.rows,fun g B c=>?_⟩;have F:(upd H a (.frz g (.dK (kvM L)))) a=some (.frz g (.dK (kvM L))):=Zc;have k1:∀b x,H b=some x→b≠a→(upd H a (.frz g (.dK (kvM L)))) b=some x:=fun b x h n=>by rw[Zb n];exact h
 have A0:H B=none:=by
  cases e:H B with
  | none=>rfl
  | some o =>
   by_cases z:B=a
   ·rw[z]at c;rw[show (upd H a (.frz g (.dK (kvM L)))) a=some (.frz g (.dK (kvM L))) from Zc]at c;cases c
   ·rw[k1 B o e z]at c;cases c
 generalize upd H a (.frz g (.dK (kvM L)))=H1 at F k1 c ⊢;refine Zod (d:=a) (o:=g) (kvs:=kvM L) (fun i zs J r=>(∃N O:Option V,J=[some (.ref m),N,O])∧(∃j:List (Addr×Int×Option Str),j.map (·.2)=WQ ((L.take i).map toL)∧zs=(j.map fun t=>V.ref t.1)∧∀t∈j,r t.1=some (.tup [.int t.2.1,oV t.2.2])∧t.1≠B∧t.1≠a)∧i≤L.length∧r B=some (.lst zs)∧ZG H1 r) ?_ (fun _ _ _ _ h=>h.2.2.2.2 _ _ F) ?_ ?_
 ·exact⟨⟨none,none,rfl⟩,⟨[],rfl,rfl,(fun t h=>by cases h)⟩,Qs _,Zc,Zh c _⟩
 ·rintro i k x zs J r p v ⟨⟨N,O,rfl⟩,⟨j,G,rfl,S⟩,hi,U,y⟩ A1;unfold kvM at v;rw[Qk]at v;cases I:L[i]? with
  | none=>rw[I]at v;cases v
  | some e =>
  rw[I]at v;cases v;have bH:i<L.length:=(Qd.mp I).1;have he:=Qv I;have R:=M.each e he;obtain⟨_,_,_,n1,n2,n3⟩:=M.ne_sd he;have C:=Zh A1 (.tup [kV (.inl e.n),.ref e.p]);have wf:(upd r p (.tup [kV (.inl e.n),.ref e.p])) p=some (.tup [.int e.n,.ref e.p]):=Zc;generalize upd r p (.tup [kV (.inl e.n),.ref e.p])=H3 at C wf ⊢;have R2:Xk ah H3 e:=R.mono fun b o l cx=>C _ _ (y _ _ (k1 b o l (by rcases cx with z|z|z<;>rw[z];exact n1.symm;exact n2.symm;exact n3.symm)));obtain⟨dp,hp⟩:=R2.at'.ob;have ff:=C _ _ U;have mQ:=C _ _ (y _ _ F);have aw:j.length=i:=by have:=congrArg List.length G;unfold WQ at this;rw[Qa,Qa,Qa,QA]at this;lia
  refine⟨p,_,rfl,SqT.of wf,rfl,_,_,rfl,_,_,rfl,rfl,_,rfl,_,rfl,e.p,dp,_,rfl,hp,U1 ..,e.p,e.k,e.f,e.ss,e.g,rfl,R2.at',(by show 2≤sizeLine;decide),fun t D=>?_⟩;rw[Lk];have W:B≠t:=Ze ff D;have lI:a≠t:=Ze mQ D;refine⟨by rw[Zb W];exact ff,(by rw[Qa];exact ZB #[2]),⟨_,_,rfl⟩,⟨j++[(t,e.n,e.ss[e.g]?)],?_,by rw[Qf];rfl,fun u hu'=>?_⟩,bH,Zc,fun b x l=>?_⟩
  ·rw[Qf,G,QH,I,Qf];unfold WQ;rw[Qf];rfl
  ·rcases Qo.mp hu' with hu'|hu'
   ·obtain⟨X,Y,Z⟩:=S u hu';have:=C _ _ X;exact⟨by rw[Zb Y,Zb (Ze this D)];exact this,Y,Z⟩
   ·rw[Ql.mp hu'];exact⟨by rw[Zb W.symm];exact Zc,W.symm,lI.symm⟩
  ·have:=C b x (y b x l);rw[Zb (Ze l c),Zb (Ze this D)];exact this
 rintro zs J r ⟨⟨N,O,rfl⟩,⟨j,G,rfl,S⟩,_,U,y⟩;have ck:(kvM L).length=L.length:=by unfold kvM;rw[Qa]
 rw[ck,QC (Qg _)]at G;refine⟨g,y _ _ F,?_⟩;have A2:B≠a:=(Ze F c).symm;refine q B _ A0 ⟨j,G,by rw[Zb A2];exact U,fun t D=>?_⟩ (fun b x l=>?_)
 ·obtain⟨X,Y,Z⟩:=S t D;rw[Zb Z];exact X
 ·by_cases e:b=a
  ·rw[e,M.rows]at l;rw[e,Zc];exact l
  ·rw[Zb e];exact y _ _ (k1 b x l e)
def Agr(Lo:List ZF)(L:List ZA):Prop:=Lo.map (fun e=>(e.1,e.2.2))=L.map (fun e=>(e.n,(e.ss,e.g)))
theorem T8{Lo:List ZF}{L:List ZA}(h:Agr Lo L){α:Type}(F:Int×List Str×Nat→α):Lo.map (fun e=>F (e.1,e.2.2))=(L.map toL).map (fun e=>F (e.1,e.2.2)):=by have:=congrArg (List.map F) h;rw[Qn,Qn]at this;rw[Qn];exact this
theorem XJ{Lo:List ZF}{L:List ZA}(h:Agr Lo L):Lo.map (·.1)=Zy L:=by have:=T8 h (fun x=>x.1);rw[show (L.map toL).map (fun e=>e.1)=Zy L from WA L]at this;exact this
theorem SN:∀ (A B:List ZF),A.map (fun e=>(e.1,e.2.2))=B.map (fun e=>(e.1,e.2.2))→hdL A=hdL B
 | [],[],_=>rfl
 | [],_::_,h=>by cases h
 | _::_,[],h=>by cases h
 | a::A,b::B,h=>by
  rw[Qh,Qh]at h;injection h with h1 h2;injection h1 with d f;have g:=SN A B h2;funext n;have c:=congrFun g n;unfold hdL at c ⊢;rw[Q2,Q2,d];split
  ·simp only[Option.bind_some];rw[f]
  ·exact c
theorem SM{Lo:List ZF}{L:List ZA}(h:Agr Lo L):hdL Lo=hdM L:=SN _ _ (T8 h (fun x=>x))
theorem Zoo{Lo:List ZF}{L:List ZA}(h:Agr Lo L):WQ Lo=WQ (L.map toL):=T8 h (fun x=>(x.1,x.2.1[x.2.2]?))
theorem ZmC{Lo:List ZF}{L:List ZA}(h:Agr Lo L):YV Lo=YV (L.map toL):=T8 h (fun x=>(x.2.1.length:Int)-(x.2.2:Int))
theorem Li{α c d e:Type}{f:α→d}{i:c→d}{g:α→e}{g':c→e}:∀ (xs:List α) (ys:List c),xs.map f=ys.map i→xs.map g=ys.map g'→xs.map (fun x=>(f x,g x))=ys.map (fun y=>(i y,g' y))
 | [],[],_,_=>rfl
 | [],_::_,h,_=>by cases h
 | _::_,[],h,_=>by cases h
 | a::A,b::B,h,k=>by rw[Qh,Qh]at h k;injection h with h1 h2;injection k with k1 k2;rw[Qh,Qh,Li A B h2 k2,h1,k1]
theorem Zpq{Lo:List ZF}{L:List ZA}{a b:List (Addr×List Str)}(h:SU Lo a)(k:T9 L b)(e:a.map (·.2)=b.map (·.2)):Agr Lo L:=by
 have c:a.length=b.length:=by have:=congrArg List.length e;rw[Qa,Qa]at this;exact this
 have d:a.map (fun x=>(x.2,0))=b.map (fun x=>(x.2,0)):=by have:=congrArg (List.map fun y:List Str=>(y,0)) e;rw[Qn,Qn]at this;exact this
 exact Li Lo L (by rw[h.1,c];exact k.1.symm) (by rw[h.2,d];exact k.2.symm)
theorem Wa{α a:Type}:∀ {P:List (α×a)},(P.map (·.1)).Nodup→∀ {p q:α×a},p∈P→q∈P→p.1=q.1→p=q
 | [],_,_,_,h,_,_=>by cases h
 | x::r,nd,p,q,b,hq,e=>by
  rw[Qh,QR]at nd;rcases QM.mp b with h1|h1
  ·rcases QM.mp hq with h2|h2
   ·rw[h1,h2]
   ·exact absurd (show x.1∈r.map (·.1) by rw[← h1,e];exact Qe (f:=fun x:α×a=>x.1) h2) nd.1
  ·rcases QM.mp hq with h2|h2
   ·exact absurd (show x.1∈r.map (·.1) by rw[← h2,← e];exact Qe (f:=fun x:α×a=>x.1) h1) nd.1
   ·exact Wa nd.2 h1 h2 e
def Zr8(x:V):Prop:=x=.non∨(∃b,x=.bl b)∨(∃i,x=.int i)∨∃s,x=.str s
structure F2 (R:V→V→Prop) (xs ys:List V):Prop where
 len:xs.length=ys.length
 at':∀ (i:Nat) (x y:V),xs[i]? = some x→ys[i]? = some y→R x y
theorem F2.nil{R:V→V→Prop}:F2 R [] []:=⟨rfl,fun i x y h=>by simp at h⟩
theorem F2.cons{R:V→V→Prop}{x y:V}{xs ys:List V}(h:R x y)(t:F2 R xs ys):F2 R (x::xs) (y::ys):=by
 refine⟨by rw[QI,QI,t.len],fun i a b c d=>?_⟩;cases i with
 | zero=>simp at c d;rw[← c,← d];exact h
 | succ i=>exact t.at' i a b (by simpa using c) (by simpa using d)
theorem V9{H:Hp}{n:Nat}{x:V}(h:Zr8 x):IsD H (n+1) x x:=.inl ⟨rfl,h⟩
theorem XI{H:Hp}{n:Nat}(i:Int):IsD H (n+1) (.int i) (.int i):=V9 (.inr (.inr (.inl ⟨i,rfl⟩)))
theorem ZqU{H:Hp}{n:Nat}(o:Option Str):IsD H (n+1) (oV o) (oV o):=by
 cases o with
 | none=>exact V9 #[8]
 | some s=>exact V9 (.inr (.inr (.inr ⟨s,rfl⟩)))
theorem SK{H:Hp}{n:Nat}{p q:Addr}{xs ys:List V}(a:H p=some (.lst xs))(hq:H q=some (.lst ys))(h:xs.length≤1000)(f:F2 (IsD H n) xs ys):IsD H (n+1) (.ref p) (.ref q):=.inr ⟨p,q,xs,ys,rfl,rfl,.inl ⟨a,hq⟩,f.len,h,f.at'⟩
theorem SJ{H:Hp}{n:Nat}{p q:Addr}{xs ys:List V}(a:H p=some (.tup xs))(hq:H q=some (.tup ys))(h:xs.length≤1000)(f:F2 (IsD H n) xs ys):IsD H (n+1) (.ref p) (.ref q):=.inr ⟨p,q,xs,ys,rfl,rfl,.inr ⟨a,hq⟩,f.len,h,f.at'⟩
theorem Wb.same{H a:Hp}{l:Addr}{E:List (Int×Option Str)}(h:Wb H l E)(s:ZG H a):Wb a l E:=by obtain⟨b,c,d,e⟩:=h;exact⟨b,c,s _ _ d,fun t f=>s _ _ (e t f)⟩
theorem Zo1{H:Hp}{l g:Addr}{E:List (Int×Option Str)}{n:Nat}(h:Wb H l E)(k:Wb H g E)(few:E.length≤1000):IsD H (n+3) (.ref l) (.ref g):=by
 obtain⟨j,m,q,r⟩:=h;obtain⟨o,k1,k2,k3⟩:=k;have lt:j.length=E.length:=by rw[← m,Qa]
 have lu:o.length=E.length:=by rw[← k1,Qa]
 refine SK q k2 (by rw[Qa];lia) ⟨by rw[Qa,Qa];lia,fun i x y b c=>?_⟩;rw[Qk]at b c;cases d:j[i]? with
 | none=>rw[d]at b;cases b
 | some t =>
 cases f:o[i]? with
 | none=>rw[f]at c;cases c
 | some u =>
 rw[d]at b;rw[f]at c;cases b;cases c;have e:t.2=u.2:=by have a:=congrArg (fun z=>z[i]?) (m.trans k1.symm);simp only[List.getElem?_map,d,f,Option.map_some]at a;exact Qj a
 have s:=r t (Qv d);have p:=k3 u (Qv f);rw[← e]at p;exact SJ s p (by show 2≤1000;decide) (.cons (XI _) (.cons (ZqU _) .nil))
theorem VC.same{L:List ZF}{H a:Hp}{x:V}(h:VC L H x)(s:ZG H a):VC L a x:=by
 rcases h with h|⟨t,e,z,b,c,d,f,g⟩
 ·exact .inl h
 ·exact .inr ⟨t,e,z,b,c,d,s _ _ f,g⟩
theorem Zom{Lo:List ZF}{L:List ZA}{H:Hp}{x y:V}{n:Nat}(ag:Agr Lo L)(nd:(Zy L).Nodup)(h:VC (L.map toL) H x)(k:VC Lo H y):IsD H (n+2) x y:=by
 have c:=SM ag;have d:=XJ ag;have g:hdL (L.map toL)=hdM L:=rfl;rcases h with⟨rfl,hw⟩|⟨t,e,z,rfl,r,i,j,hw⟩
 ·rcases k with⟨rfl,a⟩|⟨s,b,u,rfl,l,m,o,a⟩
  ·exact V9 #[8]
  ·rw[c,d]at a;rw[g,WA]at hw;exact nomatch hw.one a
 ·rcases k with⟨rfl,a⟩|⟨s,b,u,rfl,l,m,o,a⟩
  ·rw[c,d]at a;rw[g,WA]at hw;exact nomatch hw.one a
  ·rw[c,d]at a;rw[g,WA]at hw;have p:e.1=b.1:=Qj (hw.one a);have v:(e.1,e.2.2)∈(L.map toL).map (fun e=>(e.1,e.2.2)):=Qe (f:=fun e:ZF=>(e.1,e.2.2)) r;have w:(b.1,b.2.2)∈(L.map toL).map (fun e=>(e.1,e.2.2)):=by rw[← T8 ag (fun x=>x)];exact Qe (f:=fun e:ZF=>(e.1,e.2.2)) l
   have A:(((L.map toL).map (fun e=>(e.1,e.2.2))).map (·.1)).Nodup:=by rw[Qn];exact(WA L) ▸ nd
   have B:=Wa A v w p;injection B with _ q;rw[q,m]at i;cases i;rw[p,q]at j;exact SJ j o (by show 3≤1000;decide) (.cons (XI _) (.cons (XI _) (.cons (V9 (.inr (.inr (.inr ⟨_,rfl⟩)))) .nil)))
theorem Zow{L:List ZF}{E:List (Int×Option Str)}(h:SV L E)(up:(L.map (·.1)).Pairwise (·<·)):E=WQ L:=by
 have b:E.map (·.1)=L.map (·.1):=U3 h.per h.up up;have nd:(E.map (·.1)).Nodup:=by rw[b];exact Uh up
 apply List.ext_getElem?;intro i;unfold WQ;rw[Qk];cases c:L[i]? with
 | none =>
  have:E[i]? = none:=by rw[Q7]at c ⊢;have:=congrArg List.length b;rw[Qa,Qa]at this;lia
  rw[this];rfl
 | some e =>
  have f:=h.hd e (Qv c);have a:(E.map (·.1))[i]? = some e.1:=by rw[b,Qk,c];rfl
  rw[Qk]at a;cases d:E[i]? with
  | none=>rw[d]at a;cases a
  | some x=>rw[d]at a;have g:x.1=e.1:=Qj a;rw[Wa nd (Qv d) f g];rfl
theorem Lh{H:Hp}:∀ (ts:List (Addr×Key×V)) (E:List (Int×Option Str)),ts.map (·.2)=kvH E→(∀t∈ts,H t.1=some (.tup [kV t.2.1,t.2.2]))→∃us:List (Addr×Int×Option Str),us.map (·.2)=E∧us.map (·.1)=ts.map (·.1)∧∀t∈us,H t.1=some (.tup [.int t.2.1,oV t.2.2])
 | [],[],_,_=>⟨[],rfl,rfl,fun t h=>by cases h⟩
 | [],_::_,h,_=>by unfold kvH at h;cases h
 | _::_,[],h,_=>by unfold kvH at h;cases h
 | t::ts,e::E,h,k=>by
  unfold kvH at h;rw[Qh,Qh]at h;injection h with h1 h2;obtain⟨us,a,b,c⟩:=Lh ts E h2 fun x hx=>k x (Qx _ hx);refine⟨(t.1,e)::us,by rw[Qh,a],by rw[Qh,Qh,b],fun u hu=>?_⟩;rcases QM.mp hu with rfl|hu
  ·have:=k t #[4];rw[h1]at this;exact this
  ·exact c u hu
theorem Zjr{H:Hp}{l:Addr}{ts:List (Addr×Key×V)}{E:List (Int×Option Str)}(h:ts.map (·.2)=kvH E)(k:∀t∈ts,H t.1=some (.tup [kV t.2.1,t.2.2]))(hl:H l=some (.lst (ts.map fun t=>V.ref t.1))):Wb H l E:=by obtain⟨d,a,b,c⟩:=Lh ts E h k;refine⟨d,a,?_,c⟩;rw[hl];have:=congrArg (List.map V.ref) b;rw[Qn,Qn]at this;exact congrArg (fun z=>some (HO.lst z)) this.symm
theorem Lg(rd:Addr)(nb li lo:Int)(sd:Addr)(a:V):(mgF rd nb li lo sd a).lookup ("likenings" : Str)=none:=X6 _ _ _ _ _ _ #[1] #[1] #[1] #[1] #[1] #[1]
theorem Lf(rd:Addr)(nb li lo:Int)(sd:Addr)(a:V):(mgF rd nb li lo sd a).lookup ("looks" : Str)=none:=X6 _ _ _ _ _ _ #[1] #[1] #[1] #[1] #[1] #[1]
theorem Le(rd:Addr)(nb li lo:Int)(sd:Addr)(a:V):(mgF rd nb li lo sd a).lookup ("coming" : Str)=none:=X6 _ _ _ _ _ _ #[1] #[1] #[1] #[1] #[1] #[1]
theorem Zkm(rd:Addr)(nb li lo:Int)(sd:Addr)(a:V):(mgF rd nb li lo sd a).lookup ("left" : Str)=none:=X6 _ _ _ _ _ _ #[1] #[1] #[1] #[1] #[1] #[1]
theorem Zju(rd:Addr)(nb li lo:Int)(sd:Addr)(a:V):(mgF rd nb li lo sd a).lookup ("heads" : Str)=none:=X6 _ _ _ _ _ _ #[1] #[1] #[1] #[1] #[1] #[1]
def Zns(b c:Addr):Sp:=fun vs H Q _=>∃ (m rd sd:Addr) (L:List ZA) (s:StL) (nb li lo:Int) (w:Option Int) (o ra ga:Addr) (Lo:List ZF) (nb':Int),vs=[.ref m,.ref o]∧ZP b c H m rd sd L s nb li lo (Yv w)∧Win (hdM L) (Zy L) w∧Own H o ra ga Lo nb' li lo∧Agr Lo L∧∀a,ZG H a→Q (.bl true) a
theorem Zlo(T:Z9 K mg ah aa ae al aj af ak)(aG:Df P w K mg base 1 "_law_heads" ["_law_own"] Uf)(aH:Df P w K mg base 5 "_law_same" ["_law_found", "_law_due"] (Tg 4))(bD:Df P w K mg base 2 "_law_coming" ["_law_own"] Pg)(dw:Df P w K mg base 1 "_law_left_of" ["_law_own"] LD)
  (aW:Mf P w K mg base 1 aa "likenings" ["self"] (Ln ah aa)) (bI:Mf P w K mg base 1 aa "looks" ["self"] (Lm ah aa)) (aO:Mf P w K mg base 3 aa "coming" ["self"] (OU ah aa)) (cL:Mf P w K mg base 2 aa "left" ["self"] (Ll ah aa)) (cy:Mf P w K mg base 3 aa "heads" ["self"] (Lj ah aa)) :
  Df P w K mg base 6 "_law_stands" ["_law_merge", "_law_own"] (Zns ah aa):=by
 refine T.t_l_stands.df Tl (fun vs H Q E h=>?_) (fun am f A outer s H vs Q E b h=>?_)
 ·obtain⟨m,d,e,L,s,nb,a,lo,w,o,n,p,Lo,c,rfl,_⟩:=h;rfl
 obtain⟨m,d,e,L,s,nb,a,lo,w,o,n,p,Lo,c,rfl,M,W,r,u,q⟩:=h;refine⟨_,#[Zf,#[Zx,2,Tl.nd,#[3],(@Zjv _ _ _ _ _ _ _ rfl #[5] T.b.n_list #[Zw,aG,b,#[Za,‹1›,#[Zd]],#[5]] #[5] #[5] #[5])],#[Zf,#[Zx,3,Tl.nd,#[3],#[Z2,#[Za,#[Zr,(ixG b),‹1›,#[Zs]],#[Za,#[Zr,(ixG b),‹1›,#[Zs]],#[Zd]]]]],#[Zf,#[ZO,(@PW.pt _ _ _ #[Xu,#[Zn,YI,#[ZJ,V2,#[ZJ,YS,#[Zr,(ixG b),‹1›,#[Zs]],#[Zr,(ixG b),‹1›,#[Zs]]],#[Zj]],#[Zj],(Zu _)],#[Xi,#[XR,#[Yi,#[Zw,aH,b,#[Za,#[Z2,#[Za,#[YN,aW,T.cl_Merge,b,‹0›],#[Za,#[YN,bI,T.cl_Merge,b,‹0›],#[Zd]]]],#[Za,‹3›,#[Zd]]],#[5]]]]]]),#[Zi,#[Zo,#[Yd]]],#[ZE]],#[Zf,#[Zx,4,Tl.nd,#[3],#[Z2,#[Za,#[YN,aO,T.cl_Merge,b,‹0›],#[Za,#[YN,cL,T.cl_Merge,b,‹0›],#[Za,#[YN,cy,T.cl_Merge,b,‹0›],#[Za,#[YN,aW,T.cl_Merge,b,‹0›],#[Za,#[YN,bI,T.cl_Merge,b,‹0›],#[Zd]]]]]]]],#[Zi,#[Zo,#[Zw,aH,b,#[Za,‹4›,#[Za,#[ZJ,NR,#[Z2,#[Za,#[Zw,bD,b,#[Za,‹1›,#[Zd]],#[5]],#[Za,#[Zw,dw,b,#[Za,‹1›,#[Zd]],#[5]],#[Za,‹2›,#[Zd]]]]],‹3›],#[Zd]]],#[5]]]]]]]],?_⟩;have aP:(Lo.map (·.1)).Pairwise (·<·):=by rw[XJ u];exact M.up
 have gZ:2≤sizeLine:=by decide
 refine⟨_,rfl,o,n,p,Lo,c,a,lo,rfl,r,fun D E' H1 hD bo ho s1=>?_⟩;refine⟨D,_,rfl,bo.at',fun l ts v hl bZ bw s2 aU=>?_⟩;have eE:=Zow ho aP;have wk:Wb v l (WQ (L.map toL)):=by rw[← Zoo u,← eE];exact Zjr bZ (fun t I=>(bw t I).2) aU
 have pi:ZG H v:=s1.trans s2;have J:=r.same pi;refine⟨_,rfl,o,_,rfl,ZX.k' (k:=.inr "likenings") J.at' (SX ..),_,rfl,o,_,rfl,ZX.k' (k:=.inr "looks") J.at' (Pn ..),gZ,fun i ni=>?_⟩;have x:=Zh ni (.lst [.int a,.int lo]);have N:(upd v i (.lst [.int a,.int lo])) i=some (.lst [.int a,.int lo]):=Zc;generalize upd v i (.lst [.int a,.int lo])=H3 at x N ⊢;have cB:=J.same x;have eB:=pi.trans x;refine⟨_,rfl,o,_,rfl,ZX.k' (k:=.inr "number") cB.at' (Po ..),_,rfl,o,_,rfl,ZX.k' (k:=.inr "likenings") cB.at' (SX ..),_,_,rfl,rfl,_,_,rfl,rfl,(by show (0:Int)<2;decide),rfl,_,rfl,?_⟩;refine Zp6 (fun _ T' A3=>?_) (fun H4 j=>?_)
 ·have O:=M.same eB;obtain⟨dx,pc⟩:=O.ob;refine⟨_,rfl,m,dx,_,rfl,pc,Lg ..,m,d,e,L,s,nb,a,lo,_,rfl,O,?_⟩;refine⟨_,rfl,m,dx,_,rfl,pc,Lf ..,m,d,e,L,s,nb,a,lo,_,rfl,O,gZ,fun t I=>?_⟩;have j:=Zh I (.lst [.int a,.int lo]);refine⟨_,rfl,.ref t,.ref i,rfl,SK Zc (j _ _ N) (by show 2≤1000;decide) (.cons (XI _) (.cons (XI _) .nil)),fun H5 y=>⟨_,rfl,A3 H5 (j.trans y)⟩⟩
 have mU:=eB.trans j;have M4:=M.same mU;obtain⟨iR,fI⟩:=M4.ob;refine YY ?_;refine⟨_,rfl,m,iR,_,rfl,fI,Le ..,m,d,e,L,s,nb,a,lo,w,rfl,M4,W,fun z H5 hc y=>?_⟩;have mV:=mU.trans y;have M5:=M.same mV;obtain⟨A4,fh⟩:=M5.ob;refine⟨_,rfl,m,A4,_,rfl,fh,Zkm ..,m,d,e,L,s,nb,a,lo,_,rfl,M5,fun H6 R=>?_⟩;have jt:=mV.trans R;have M6:=M.same jt;obtain⟨m6,m7⟩:=M6.ob;refine⟨_,rfl,m,m6,_,rfl,m7,Zju ..,m,d,e,L,s,nb,a,lo,_,rfl,M6,fun B H7 J6 A5 S=>?_⟩;have wl:=jt.trans S;have U:=M.same wl;obtain⟨wm,nk⟩:=U.ob;refine⟨_,rfl,m,wm,_,rfl,nk,Lg ..,m,d,e,L,s,nb,a,lo,_,rfl,U,?_⟩;refine⟨_,rfl,m,wm,_,rfl,nk,Lf ..,m,d,e,L,s,nb,a,lo,_,rfl,U,(by show 5≤sizeLine;decide),fun C sQ=>?_⟩;have F:=Zh sQ (.lst [z,.int (YV (L.map toL)).sum,.ref B,.int a,.int lo]);have qx:(upd H7 C (.lst [z,.int (YV (L.map toL)).sum,.ref B,.int a,.int lo])) C=some (.lst [z,.int (YV (L.map toL)).sum,.ref B,.int a,.int lo]):=Zc;generalize upd H7 C (.lst [z,.int (YV (L.map toL)).sum,.ref B,.int a,.int lo])=H8 at F qx ⊢;have V:=wl.trans F;refine⟨_,rfl,_,rfl,o,n,p,Lo,c,a,lo,rfl,r.same V,fun g H9 A6 X=>?_⟩;have A7:=V.trans X;refine⟨_,rfl,o,n,p,Lo,c,a,lo,rfl,r.same A7,fun fv kT=>?_⟩;refine⟨_,rfl,(by show 3≤sizeLine;decide),fun c3 A8=>?_⟩;have jL:=Zh A8 (.lst [g,.int (YV Lo).sum,.ref l]);have qy:(upd fv c3 (.lst [g,.int (YV Lo).sum,.ref l])) c3=some (.lst [g,.int (YV Lo).sum,.ref l]):=Zc;generalize upd fv c3 (.lst [g,.int (YV Lo).sum,.ref l])=G at jL qy ⊢;have qz:ZG H9 G:=kT.trans jL;have qA:ZG H3 G:=(((((j.trans y).trans R).trans S).trans F).trans X).trans qz;refine⟨_,rfl,c3,i,_,_,rfl,rfl,qy,qA _ _ N,(by show 3+2≤sizeLine;decide),fun c4 A9=>?_⟩;have Y:=Zh A9 (.lst ([g,.int (YV Lo).sum,.ref l]++[.int a,.int lo]));have Z:(upd G c4 (.lst ([g,.int (YV Lo).sum,.ref l]++[.int a,.int lo]))) c4=some (.lst ([g,.int (YV Lo).sum,.ref l]++[.int a,.int lo])):=Zc;generalize upd G c4 (.lst ([g,.int (YV Lo).sum,.ref l]++[.int a,.int lo]))=gE at Y Z ⊢;have qB:=qz.trans Y;have nu:=X.trans qB;have qC:=F.trans nu;have wo:=x.trans (qA.trans Y);have wq:=R.trans (S.trans qC);rw[ZmC u]at Z;refine⟨.ref C,.ref c4,rfl,SK (nu _ _ qx) Z (by show 5≤1000;decide) (.cons (Zom u M.nd (hc.same wq) (A6.same qB)) (.cons (XI _) (.cons (Zo1 (A5.same qC) (wk.same wo) ?_) (.cons (XI _) (.cons (XI _) .nil))))),fun j7 Ba=>q j7 (V.trans (nu.trans Ba))⟩;unfold WQ;have:=M.few;rw[Qa,Qa];lia
noncomputable def ZW(M:List Int)(n:Int):List Int:=if n∈lo M then lo M else up M
noncomputable def Y9(M:List Int)(n:Int):List Int:=if n∈lo M then up M else lo M
noncomputable def ZL:Nat→List Int→Int→List (List Int)
 | 0,_,_=>[]
 | k+1,M,n=>if 2≤M.length then ZL k (ZW M n) n++[M] else []
inductive Sub (N:List Int):List Int→Prop
 | top:Sub N N
 | lo {M:List Int}:Sub N M→2≤M.length→Sub N (lo M)
 | up {M:List Int}:Sub N M→2≤M.length→Sub N (up M)
theorem Sub.trans{A B C:List Int}(h:Sub A B)(k:Sub B C):Sub A C:=by
 induction k with
 | top=>exact h
 | lo _ a b=>exact b.lo a
 | up _ a b=>exact b.up a
theorem Sub.rise{N M:List Int}(h:Sub N M)(r:YR N):YR M:=by
 induction h with
 | top=>exact r
 | lo _ _ a=>exact S9 a
 | up _ _ a=>exact S7 a
theorem Sub.mem{N M:List Int}(h:Sub N M){x:Int}(hx:x∈M):x∈N:=by
 induction h with
 | top=>exact hx
 | lo _ _ a=>exact a (Qac hx)
 | up _ _ a=>exact a (Qad hx)
theorem Sub.len{N M:List Int}(h:Sub N M):M.length≤N.length:=by
 induction h with
 | top=>exact Qg _
 | lo _ a b=>exact Qw (Qar (WU a).1) b
 | up _ a b=>exact Qw (Qar (WC a).1) b
theorem OT{M:List Int}(h:2≤M.length)(n:Int):Sub M (ZW M n):=by
 unfold ZW;split
 ·exact Sub.top.lo h
 ·exact Sub.top.up h
theorem OR{M:List Int}(h:2≤M.length)(n:Int):(ZW M n).length<M.length:=by
 unfold ZW;split
 ·exact(WU h).1
 ·exact(WC h).1
theorem U0{M:List Int}{n:Int}(h:n∈M):n∈ZW M n:=by
 unfold ZW;split
 ·assumption
 ·rename_i a;rw[← XV M]at h;exact(Qo.mp h).resolve_left a
theorem OQ{M:List Int}(r:YR M){n:Int}(hn:n∈ZW M n):n ∉ Y9 M n:=by
 intro h;unfold Y9 ZW at *
 split at h
 ·rename_i a;have:=ZN r a h;lia
 ·rename_i a;exact a h
theorem SI(M:List Int)(n:Int):(ZW M n++Y9 M n).Perm M:=by
 unfold ZW Y9;split
 ·rw[XV]
 ·exact List.perm_append_comm.trans (by rw[XV])
def Kys(M:List Int)(k:Int×Int):Prop:=∃a,Sub M a∧2≤a.length∧k=ZV a
theorem SH{M:List Int}{k:Int×Int}(h:Kys M k):k.1∈M∧k.2∈M:=by obtain⟨b,s,h2,rfl⟩:=h;have a:b≠[]:=XN #[2];exact⟨s.mem (U7 a),s.mem (U6 a)⟩
theorem Ld{M:List Int}(r:YR M)(h2:2≤M.length){k:Int×Int}(h:Kys (lo M) k):k≠ZV M∧¬ Kys (up M) k:=by
 have:=SH h;refine⟨fun z=>?_,fun m=>?_⟩
 ·have a:=Px h2;rw[z,a]at this;have:=ZN r this.2 (U6 (XN (WC h2).2));lia
 ·have:=ZN r this.1 (SH m).1;lia
theorem Lc{M:List Int}(r:YR M)(h2:2≤M.length){k:Int×Int}(h:Kys (up M) k):k≠ZV M∧¬ Kys (lo M) k:=by
 have:=SH h;refine⟨fun z=>?_,fun m=>?_⟩
 ·have a:=Pw h2;rw[z,a]at this;have:=ZN r (U7 (XN (WU h2).2)) this.1;lia
 ·have:=ZN r (SH m).1 this.1;lia
theorem Lb{M:List Int}(r:YR M)(h2:2≤M.length){n:Int}{k:Int×Int}(h:Kys (ZW M n) k):k≠ZV M∧¬ Kys (Y9 M n) k:=by
 unfold ZW at h;unfold Y9;split
 ·rename_i a;rw[if_pos a]at h;exact Ld r h2 h
 ·rename_i a;rw[if_neg a]at h;exact Lc r h2 h
theorem La{M:List Int}(r:YR M)(h2:2≤M.length){n:Int}{k:Int×Int}(h:Kys (Y9 M n) k):k≠ZV M∧¬ Kys (ZW M n) k:=by
 unfold Y9 at h;unfold ZW;split
 ·rename_i a;rw[if_pos a]at h;exact Lc r h2 h
 ·rename_i a;rw[if_neg a]at h;exact Ld r h2 h
theorem OP{M c:List Int}(h:Sub M c):c=M∨(2≤M.length∧(Sub (lo M) c∨Sub (up M) c)):=by
 induction h with
 | top=>exact .inl rfl
 | lo h a b =>
  rcases b with rfl|⟨g,b⟩
  ·exact .inr ⟨a,.inl .top⟩
  ·exact .inr ⟨g,b.imp (fun z=>z.lo a) (fun z=>z.lo a)⟩
 | up h a b =>
  rcases b with rfl|⟨g,b⟩
  ·exact .inr ⟨a,.inr .top⟩
  ·exact .inr ⟨g,b.imp (fun z=>z.up a) (fun z=>z.up a)⟩
theorem Zms{M a:List Int}(n:Int)(h:Sub M a):a=M∨(2≤M.length∧(Sub (ZW M n) a∨Sub (Y9 M n) a)):=by
 rcases OP h with h|⟨g,h⟩
 ·exact .inl h
 ·refine .inr ⟨g,?_⟩;unfold ZW Y9;split
  ·exact h
  ·exact h.symm
def WP(hd:Hd)(s:StL)(A B:List Int)(k:Int×Int):Prop :=
 (∀a b x y,Win hd A (some a)→Win hd B (some b)→hd a=some x→hd b=some y→∃t c,Z0 s k=some (some (t,c,((lcp x y:Nat):Int)))∧((Btr x a y b∧c=b)∨(Btr y b x a∧c=a))) ∧
 ((Win hd A none∨Win hd B none)→Z0 s k=none∨Z0 s k=some none)
theorem WP.swap{hd:Hd}{s:StL}{A B:List Int}{k:Int×Int}(h:WP hd s A B k):WP hd s B A k:=by refine⟨fun a b x y c d f g=>?_,fun hw=>h.2 hw.symm⟩;obtain⟨t,i,e,o⟩:=h.1 b a y x d c g f;exact⟨t,i,by rw[VE x y];exact e,o.symm⟩
def Z3(hd:Hd)(s:StL)(N:List Int):Prop:=∀M,Sub N M→2≤M.length→WP hd s (lo M) (up M) (ZV M)
theorem Z3.sub{hd:Hd}{s:StL}{N M:List Int}(h:Z3 hd s N)(k:Sub N M):Z3 hd s M:=fun a h' h2=>h a (k.trans h') h2
theorem Z3.at_side{hd:Hd}{s:StL}{M:List Int}(h:Z3 hd s M)(h2:2≤M.length)(n:Int):WP hd s (ZW M n) (Y9 M n) (ZV M):=by
 have:=h M .top h2;unfold ZW Y9;split
 ·exact this
 ·exact this.swap
theorem UZ:∀ (n:Nat) (hd:Hd) (s:StL) (N:List Int),YR N→N.length≤2 ^ (n-1)→0<n→XU hd s n N→Z3 hd s N
 | 0,_,_,_,_,_,h,_=>absurd h #[2]
 | n+1,hd,s,N,r,hl,_,h=>fun M hM h2=>by
  rw[Qaa]at hl;rcases OP hM with rfl|⟨g,hM⟩
  ·obtain⟨_,_,c1,c2⟩:=h h2;refine⟨fun a b x y d f j k=>?_,c2⟩;obtain⟨t,e⟩:=c1 a b x y d f j k;have jr:=ZN r d.1 f.1;by_cases c:ZR x y<0∨(ZR x y=0∧a<b)
   ·rw[if_pos c]at e;exact⟨t,b,e,.inl ⟨c,rfl⟩⟩
   ·rw[if_neg c]at e;exact⟨t,a,e,.inr ⟨(Btr.total (show a≠b by lia)).resolve_left c,rfl⟩⟩
  ·obtain⟨l,o,_⟩:=h g;have i:1≤n:=by
    cases n with
    | zero=>simp at hl;lia
    | succ m=>lia
   have hp:2 ^ n=2*2 ^ (n-1):=by obtain⟨m,rfl⟩:∃m,n=m+1:=⟨n-1,by lia⟩;rw[QaX,Qaa];lia
   rcases hM with hM|hM
   ·exact UZ n hd s (lo N) (S9 r) (by unfold lo mid;rw[QA];lia) i l M hM h2
   ·exact UZ n hd s (up N) (S7 r) (by unfold up mid;rw[QZ];lia) i o M hM h2
theorem WP.congr{hd d:Hd}{s s':StL}{A B:List Int}{k:Int×Int}(h:WP hd s A B k)(ha:∀m∈A,d m=hd m)(hb:∀m∈B,d m=hd m)(hk:Z0 s' k=Z0 s k):WP d s' A B k:=by
 refine⟨fun a b x y e f g i=>?_,fun hw=>?_⟩
 ·rw[hk];exact h.1 a b x y (e.congr fun m c=>(ha m c).symm) (f.congr fun m c=>(hb m c).symm) (by rw[← ha a e.1];exact g) (by rw[← hb b f.1];exact i)
 ·rw[hk];exact h.2 (hw.imp (fun w=>w.congr fun m c=>(ha m c).symm) (fun w=>w.congr fun m c=>(hb m c).symm))
theorem Z3.congr{hd b:Hd}{s s':StL}{M:List Int}(h:Z3 hd s M)(c:∀m∈M,b m=hd m)(hk:∀k,Kys M k→Z0 s' k=Z0 s k):Z3 b s' M:=fun d hM h2 =>
 (h d hM h2).congr (fun m a=>c m (hM.mem (Qac a))) (fun m a=>c m (hM.mem (Qad a))) (hk _ ⟨d,hM,h2,rfl⟩)
theorem Zlh{hd:Hd}{s:StL}{M:List Int}{n:Int}(h1:Z3 hd s (ZW M n))(b:Z3 hd s (Y9 M n))(h:WP hd s (ZW M n) (Y9 M n) (ZV M)):Z3 hd s M:=fun a hM h2=>by
 rcases Zms n hM with rfl|⟨g,hM|hM⟩
 ·unfold ZW Y9 at h;split at h
  ·exact h
  ·exact h.swap
 ·exact h1 a hM h2
 ·exact b a hM h2
noncomputable def low(n:Int)(C:List (List Int)):Nat→List Int
 | 0=>[n]
 | i+1=>C.getD i []
theorem SG:∀ (k:Nat) (M:List Int) (n:Int),n∈M→M.length≤2 ^ k→(∀i X,(ZL k M n)[i]? = some X→Sub M X∧2≤X.length∧n∈X∧ZW X n=low n (ZL k M n) i)∧low n (ZL k M n) (ZL k M n).length=M∧(ZL k M n).length≤k
 | 0,M,n,d,hl=>by
  refine⟨fun i X h=>by unfold ZL at h;simp at h,?_,Qg _⟩;have h1:M.length=1:=by have:=Qa0 d;simp at hl;lia
  obtain⟨x,rfl⟩:=Qah.mp h1;have:n=x:=by simpa using d
  rw[this];rfl
 | k+1,M,n,d,hl=>by
  unfold ZL;by_cases e:2≤M.length
  ·rw[if_pos e];have g:(ZW M n).length≤2 ^ k:=by
    rw[QaX]at hl;unfold ZW;split
    ·unfold lo mid;rw[QA];lia
    ·unfold up mid;rw[QZ];lia
   obtain⟨a,b,c⟩:=SG k (ZW M n) n (U0 d) g;refine⟨fun i X h=>?_,?_,by rw[Qr,QB];lia⟩
   ·have f:∀j,j≤(ZL k (ZW M n) n).length→low n (ZL k (ZW M n) n++[M]) j=low n (ZL k (ZW M n) n) j:=fun j hj=>by
     cases j with
     | zero=>rfl
     | succ j=>show (ZL k (ZW M n) n++[M]).getD j []=(ZL k (ZW M n) n).getD j [];rw[QE,QE,QO #[2]]
    by_cases l:i<(ZL k (ZW M n) n).length
    ·rw[QO l]at h;obtain⟨m,o,p,q⟩:=a i X h;exact⟨(OT e n).trans m,o,p,by rw[f i #[2]];exact q⟩
    ·have r:i=(ZL k (ZW M n) n).length:=by have:=(Qd.mp h).1;rw[Qr,QB]at this;lia
     subst r;rw[QK (Qg _),QaY]at h;cases h;exact⟨.top,e,d,by rw[f _ (Qg _),b]⟩
   ·rw[Qr,QB];show (ZL k (ZW M n) n++[M]).getD _ []=M;rw[QE,QK (Qg _),QaY];rfl
  ·rw[if_neg e];refine⟨fun i X h=>by simp at h,?_,Qs _⟩;have h1:M.length=1:=by have:=Qa0 d;lia
   obtain⟨x,rfl⟩:=Qah.mp h1;have:n=x:=by simpa using d
   rw[this];rfl
structure Tk (hd aK:Hd) (N:List Int) (n:Int) (z:List Nat):Prop where
 win:Win hd N (some n)
 key:hd n=some z
 oth:∀b,b≠n→aK b=hd b
 nxt:∀x,aK n=some x→ZR z x≤0
 up:YR N
theorem Tk.ge{hd a:Hd}{N:List Int}{n:Int}{z:List Nat}(h:Tk hd a N n z){b:Int}(hb:b∈N){y:List Nat}(hy:a b=some y):ZR z y≤0:=by
 by_cases e:b=n
 ·exact h.nxt y (by rw[← e];exact hy)
 ·obtain⟨_,x,c,hw⟩:=h.win;rw[h.key]at c;cases c;rw[h.oth b e]at hy;rcases hw b hb y hy with z|z
  ·exact absurd z e
  ·rcases z with z|z<;>lia
inductive Ag (hd:Hd) (z:List Nat):List (List Int×List Int)→Int→Int→Prop
 | nil:Ag hd z [] 0 0
 | no {C:List (List Int×List Int)} {A B:List Int} {k q:Int}:Ag hd z C k q→(Win hd A none∨Win hd B none)→Ag hd z (C++[(A,B)]) k q
 | eq {C:List (List Int×List Int)} {A B:List Int} {k q:Int} {a b:Int} {x y:List Nat}:Ag hd z C k q→Win hd A (some a)→Win hd B (some b)→hd a=some x→hd b=some y→lcp x z=lcp y z→Ag hd z (C++[(A,B)]) (k+1) (q+((lcp x y:Nat)-(lcp x z:Nat)+1))
 | ne {C:List (List Int×List Int)} {A B:List Int} {k q:Int} {a b:Int} {x y:List Nat}:Ag hd z C k q→Win hd A (some a)→Win hd B (some b)→hd a=some x→hd b=some y→lcp x z≠lcp y z→Ag hd z (C++[(A,B)]) (k+1) q
theorem OO{α:Type}{C D:List α}{c d:α}(h:C++[c]=D++[d]):C=D∧c=d:=by have:=List.append_inj' h rfl;exact⟨this.1,by simpa using this.2⟩
theorem Ag.last{hd:Hd}{z:List Nat}{D:List (List Int×List Int)}{k q:Int}(h:Ag hd z D k q):∀ {C:List (List Int×List Int)} {A B:List Int},D=C++[(A,B)]→∃k0 d,Ag hd z C k0 d∧(((Win hd A none∨Win hd B none)∧k=k0∧q=d)∨(∃a b x y,Win hd A (some a)∧Win hd B (some b)∧hd a=some x∧hd b=some y∧k=k0+1∧q=if lcp x z=lcp y z then d+((lcp x y:Nat)-(lcp x z:Nat)+1) else d)):=by
 intro C A B e;cases h with
 | nil=>simp at e
 | no g hw=>obtain⟨rfl,c⟩:=OO e;cases c;exact⟨_,_,g,.inl ⟨hw,rfl,rfl⟩⟩
 | eq g f i j l m=>obtain⟨rfl,c⟩:=OO e;cases c;exact⟨_,_,g,.inr ⟨_,_,_,_,f,i,j,l,rfl,by rw[if_pos m]⟩⟩
 | ne g f i j l m=>obtain⟨rfl,c⟩:=OO e;cases c;exact⟨_,_,g,.inr ⟨_,_,_,_,f,i,j,l,rfl,by rw[if_neg m]⟩⟩
theorem Ag.one{hd:Hd}{z:List Nat}{C:List (List Int×List Int)}{k q:Int}(h:Ag hd z C k q):∀ {k' e:Int},Ag hd z C k' e→k=k'∧q=e:=by
 induction h with
 | nil =>
  intro k' e g;generalize r:([]:List (List Int×List Int))=C at g;cases g with
  | nil=>exact⟨rfl,rfl⟩
  | no _ _=>simp at r
  | eq _ _ _ _ _ _=>simp at r
  | ne _ _ _ _ _ _=>simp at r
 | no g hw f =>
  intro k' e i;obtain⟨k0,D,j,o⟩:=i.last rfl;obtain⟨l,m⟩:=f j;rcases o with⟨_,rfl,rfl⟩|⟨a,b,x,y,c,d,_⟩
  ·exact⟨l,m⟩
  ·rcases hw with hw|hw
   ·exact nomatch hw.one c
   ·exact nomatch hw.one d
 | eq g c d s t u f =>
  intro k' e i;obtain⟨k0,D,j,o⟩:=i.last rfl;obtain⟨l,m⟩:=f j;rcases o with⟨hw,_⟩|⟨a,b,x,y,v,w,n,p,rfl,rfl⟩
  ·rcases hw with hw|hw
   ·exact nomatch hw.one c
   ·exact nomatch hw.one d
  ·have A:=Qj (c.one v);have B:=Qj (d.one w);subst A;subst B;rw[s]at n;cases n;rw[t]at p;cases p;rw[if_pos u];exact⟨by rw[l],by rw[m]⟩
 | ne g c d s t u f =>
  intro k' e i;obtain⟨k0,D,j,o⟩:=i.last rfl;obtain⟨l,m⟩:=f j;rcases o with⟨hw,_⟩|⟨a,b,x,y,v,w,n,p,rfl,rfl⟩
  ·rcases hw with hw|hw
   ·exact nomatch hw.one c
   ·exact nomatch hw.one d
  ·have A:=Qj (c.one v);have B:=Qj (d.one w);subst A;subst B;rw[s]at n;cases n;rw[t]at p;cases p;rw[if_neg u];exact⟨by rw[l],m⟩
theorem K9:∀ (x z y:List Nat),lcp z y<lcp x z→ZR x y=ZR z y
 | [],z,y,h=>by rw[lcp_nil']at h;lia
 | _::_,[],y,h=>by rw[Vb]at h;lia
 | a::x,b::z,[],h=>by unfold ZR;rfl
 | a::x,b::z,c::y,h=>by
  unfold lcp at h;by_cases e:a=b
  ·subst e;rw[if_pos rfl]at h;by_cases d:a=c
   ·subst d;rw[if_pos rfl]at h;unfold ZR;rw[if_pos rfl,if_pos rfl];exact K9 x z y #[2]
   ·unfold ZR;rw[if_neg d,if_neg d]
  ·rw[if_neg e]at h;lia
theorem Zpw{x z y:List Nat}(h:lcp z y<lcp x z):lcp x y=lcp z y:=by have:=PY x y z;rw[VE y z]at this;lia
theorem Zp3{x z y:List Nat}(h:lcp x z=lcp y z):lcp x z≤lcp x y:=by have:=PY x y z;lia
theorem K8{x z y:List Nat}{a b:Int}(h:lcp y z<lcp x z)(c:ZR z y≤0):Btr x a y b∧lcp x y=lcp y z:=by
 rw[VE y z]at h ⊢;refine⟨.inl ?_,Zpw h⟩;rw[K9 x z y h];rcases Int.lt_or_eq_of_le c with g|g
 ·exact g
 ·have e:=PM _ _ g;subst e;rw[Mz]at h;have:=(Vc x z).2;lia
noncomputable abbrev Com:=Option (Int×Int)
def T7(hd:Hd)(z:List Nat)(M:List Int)(c:Com):Prop:=Win hd M (c.map (·.1))∧∀p,c=some p→∃x,hd p.1=some x∧p.2=((lcp x z:Nat):Int)
theorem ZmB{hd c:Hd}{N M:List Int}{n:Int}{z:List Nat}{s:StL}(T:Tk hd c N n z)(hM:Sub N M)(h2:2≤M.length)(i:n∈M)(ok:Z3 hd s N) :
  (Win c (Y9 M n) none∧(Z0 s (ZV M)=none∨Z0 s (ZV M)=some none))∨∃t b y,Win c (Y9 M n) (some b)∧c b=some y∧b∈N∧Z0 s (ZV M)=some (some (t,b,((lcp y z:Nat):Int))):=by
 have r:=hM.rise T.up;have nd:=Uh r;have j:=OQ r (U0 i);have k:=(ok.sub hM).at_side h2 n;have p:∀b∈Y9 M n,b∈M:=fun b d=>(SI M n).mem_iff.mp (Qy _ d);have q:∀b∈ZW M n,b∈M:=fun b d=>(SI M n).mem_iff.mp (QG _ d);have u:Win hd (ZW M n) (some n):=by obtain⟨_,x,f,hw⟩:=T.win;exact⟨U0 i,x,f,fun b d y a=>hw b (hM.mem (q b d)) y a⟩
 have g:∀m∈Y9 M n,c m=hd m:=fun m v=>T.oth m fun e=>j (e ▸ v);have A:(Y9 M n).Nodup:=by unfold Y9;split;exact Uh (S7 r);exact Uh (S9 r)
 obtain⟨w,hw⟩:=Win.ex hd (Y9 M n) A;cases w with
 | none=>exact .inl ⟨hw.congr g,k.2 (.inr hw)⟩
 | some b =>
  obtain⟨y,a⟩:∃y,hd b=some y:=by obtain⟨_,y,a,_⟩:=hw;exact⟨y,a⟩
  obtain⟨t,h,e,o⟩:=k.1 n b z y u hw T.key a;have l:=p b hw.1;have B:b≠n:=fun z=>j (z ▸ hw.1);have C:Btr z n y b:=by obtain⟨_,x,f,D⟩:=T.win;rw[T.key]at f;cases f;exact(D b (hM.mem l) y a).resolve_left B
  have E:h=b:=by
   rcases o with⟨_,e⟩|⟨e,_⟩
   ·exact e
   ·exact(C.asym e).elim
  subst E;exact .inr ⟨t,h,y,hw.congr g,by rw[g h hw.1];exact a,hM.mem l,by rw[VE y z];exact e⟩
theorem K7(ns:List Int):(XX ns).length=(ns.length+1) / 2:=by unfold XX mid;rw[QA];lia
theorem K6(ns:List Int):(WV ns).length=ns.length / 2:=by unfold WV mid;rw[QZ];lia
noncomputable def WO:Nat→List Int→Int→List (List Int)
 | 0,_,_=>[]
 | f+1,ns,n=>if ns.length≤1 then [] else if n∈XX ns then WV ns::WO f (XX ns) n else XX ns::WO f (WV ns) n
noncomputable def XS(ns:List Int)(n:Int):List Int:=if n∈XX ns then XX ns else WV ns
noncomputable def Wx(ns:List Int)(n:Int):List Int:=if n∈XX ns then WV ns else XX ns
theorem SF{ns:List Int}{n:Int}(h:1<ns.length):(XS ns n).length<ns.length:=by
 unfold XS;split
 ·rw[K7];lia
 ·rw[K6];lia
theorem Zme{ns:List Int}{n:Int}(h:1<ns.length):0<(XS ns n).length:=by
 unfold XS;split
 ·rw[K7];lia
 ·rw[K6];lia
theorem ON{f:Nat}{ns:List Int}{n:Int}(h:1<ns.length):WO (f+1) ns n=Wx ns n::WO f (XS ns n) n:=by
 conv=>lhs;unfold WO
 rw[if_neg #[2]];unfold Wx XS;split<;>rfl
theorem VA{f:Nat}{ns:List Int}{n:Int}(h:ns.length≤1):WO f ns n=[]:=by
 cases f with
 | zero=>rfl
 | succ f=>unfold WO;rw[if_pos h]
theorem K5:∀ (f g:Nat) (ns:List Int) (n:Int),ns.length≤f+1→ns.length≤g+1→WO f ns n=WO g ns n
 | 0,g,ns,n,h,_=>by rw[VA #[2],VA #[2]]
 | f+1,0,ns,n,_,h=>by rw[VA #[2],VA #[2]]
 | f+1,g+1,ns,n,h1,h2=>by
  by_cases h:1<ns.length
  ·have:=SF (n:=n) h;rw[ON h,ON h,K5 f g _ n #[2] #[2]]
  ·rw[VA #[2],VA #[2]]
noncomputable def way(ns:List Int)(n:Int):List (List Int):=WO ns.length ns n
theorem K4{ns:List Int}{n:Int}(h:1<ns.length):way ns n=Wx ns n::way (XS ns n) n:=by
 unfold way;cases e:ns.length with
 | zero=>lia
 | succ f=>have:=SF (n:=n) h;rw[ON h,K5 f (XS ns n).length _ n #[2] #[2]]
theorem OM{ns:List Int}{n:Int}(h:ns.length≤1):way ns n=[]:=VA h
theorem OL(n:Int):∀ns:List Int,inV (.int n) (ns.map V.int)=decide (n∈ns)
 | []=>rfl
 | m::r=>by
  have a:=OL n r;unfold inV at a ⊢;rw[Qh,QaK,a];by_cases h:m=n
  ·subst h;simp[eqV]
  ·have:(m == n)=false:=by simpa using h
   simp[eqV,this,List.mem_cons,Ne.symm h]
theorem OK:∀ns:List Int,(ns.map V.int).all WG=true
 | []=>rfl
 | _::r=>by rw[Qh,List.all_cons,OK r];rfl
def Rd(H:Hp):List Addr→List (List Int)→Prop
 | [],[]=>True
 | l::a,d::ds=>H l=some (.lst (d.map V.int))∧Rd H a ds
 | _,_=>False
theorem Rd.len{H:Hp}:∀ {a:List Addr} {ds:List (List Int)},Rd H a ds→a.length=ds.length
 | [],[],_=>rfl
 | [],_::_,h=>h.elim
 | _::_,[],h=>h.elim
 | _::a,_::ds,h=>by rw[QI,QI,Rd.len h.2]
theorem Rd.mono{H b:Hp}:∀ {a:List Addr} {ds:List (List Int)},(∀l∈a,∀o,H l=some o→b l=some o)→Rd H a ds→Rd b a ds
 | [],[],_,_=>trivial
 | [],_::_,_,h=>h.elim
 | _::_,[],_,h=>h.elim
 | l::a,_::ds,k,h=>⟨k l #[4] _ h.1,Rd.mono (fun x hx=>k x (Qx _ hx)) h.2⟩
theorem Rd.app{H:Hp}:∀ {a:List Addr} {ds:List (List Int)} {b:List Addr} {c:List (List Int)},Rd H a ds→Rd H b c→Rd H (a++b) (ds++c)
 | [],[],_,_,_,h=>h
 | [],_::_,_,_,h,_=>h.elim
 | _::_,[],_,_,h,_=>h.elim
 | _::a,_::ds,_,_,h,g=>⟨h.1,Rd.app h.2 g⟩
theorem Rd.rev{H:Hp}:∀ {a:List Addr} {ds:List (List Int)},Rd H a ds→Rd H a.reverse ds.reverse
 | [],[],h=>h
 | [],_::_,h=>h.elim
 | _::_,[],h=>h.elim
 | l::a,d::ds,h=>by rw[QaA,QaA];exact Rd.app (Rd.rev h.2) ⟨h.1,trivial⟩
def OJ:Sp:=fun vs H Q _=>∃ (a:Addr) (ns:List Int) (n:Int),vs=[.ref a,.int n]∧H a=some (.lst (ns.map V.int))∧1≤ns.length∧ns.length≤100 ∧
 ∀ (r:Addr) (b:List Addr) (c:Hp),H r=none→c r=some (.lst (b.map V.ref))→r ∉ b→(∀l∈b,H l=none)→Rd c b (way ns n).reverse→ZG H c→Q (.ref r) c
def Dn(H:Hp)(a o:Addr)(ns:List Int)(n:Int)(b:Addr)(c:List Int)(d:List Addr)(e:Hp):Prop :=
 ∃done:List (List Int),e b=some (.lst (c.map V.int))∧b≠o∧1≤c.length∧c.length≤100∧way ns n=done++way c n∧Rd e d done∧e o=some (.lst (d.map V.ref))∧ZG H e∧(∀l∈d,H l=none)∧o ∉ d∧d.length+c.length≤100
theorem Dn.step{H:Hp}{a o:Addr}{ns:List Int}{n:Int}{b:Addr}{d:List Int}{h:List Addr}{i f:Hp}(D:Dn H a o ns n b d h i)(v:H o=none)(h1:1<d.length)(s:ZG i f){x y:Addr}(hx:f x=some (.lst ((XS d n).map V.int)))(hy:f y=some (.lst ((Wx d n).map V.int)))(nx:i x=none)(j:i y=none) :
  Dn H a o ns n x (XS d n) (h++[y]) (upd f o (.lst (h.map V.ref++[.ref y]))):=by
 obtain⟨done,d1,d2,d3,d4,w,z,m,p,A,q,vC⟩:=D;have r:x≠o:=(Ze m nx).symm;have t:y≠o:=(Ze m j).symm;have sl:=SF (n:=n) h1;have k:∀l,l≠o→∀u,f l=some u→(upd f o (.lst (h.map V.ref++[.ref y]))) l=some u:=fun l hl u g=>by rw[Zb hl];exact g
 refine⟨done++[Wx d n],k x r _ hx,r,Zme h1,by lia,by rw[w,K4 h1,QaW];rfl,?_,?_,fun c u g=>?_,?_,?_,?_⟩
 ·refine Rd.app (Rd.mono (fun l hl u g=>k l (fun e=>q (e ▸ hl)) u (s _ _ g)) z) ⟨k y t _ hy,trivial⟩
 ·rw[Zc,Qf];rfl
 ·rw[Zb (Ze g v)];exact s _ _ (p _ _ g)
 ·intro l hl;rcases Qo.mp hl with hl|hl
  ·exact A l hl
  ·rw[Ql.mp hl];exact p.free j
 ·intro B;rcases Qo.mp B with hl|hl
  ·exact q hl
  ·exact t (Ql.mp hl).symm
 ·rw[Qr,QB];lia
theorem ZqK(T:Z9 K mg ah aa ae al aj af ak)(bT:Df P w K mg base 1 "halves" ["numbers"] (Wg K true)):Df P w K mg base 2 "way_up" ["numbers", "n"] OJ:=by
 refine T.t_way_up.df VJ (fun vs H Q E h=>?_) (fun am f A outer s H vs Q E hr h=>?_)
 ·obtain⟨a,p,n,rfl,_⟩:=h;rfl
 obtain⟨a,p,n,rfl,L,h1,M,q⟩:=h;refine⟨_,#[Zf,#[Zx,2,VJ.nd,#[3],#[Z2,#[Zd]]],#[Zf,#[Zx,3,VJ.nd,#[3],‹0›],#[Zf,(@UV _ _ _ _ _ _ PassesOwn.never #[Zn,Ws,#[Zk,(YB K),#[5],T.b.n_len,Qu,#[Za,‹3›,#[Zd]]],#[Zj],(Zu _)] #[Zf,#[Z6,#[Zw,bT,hr,#[Za,‹3›,#[Zd]],#[5]],#[gT,K,2,#[ZC,#[ZD,4,VJ.nd,#[3]],#[ZC,#[ZD,5,VJ.nd,#[3]],(@Yb _)]]]],#[Zi,#[ZO,#[Zn,(inQ K),‹1›,‹4›,(by with_unfolding_all rfl)],#[Zf,#[YD,#[XO,QJ,QT,QU,Wq,‹2›,#[Za,‹5›,#[Zd]]]],#[Zi,#[Zx,3,VJ.nd,#[3],‹4›]]],#[Zf,#[YD,#[XO,QJ,QT,QU,Wq,‹2›,#[Za,‹4›,#[Zd]]]],#[Zi,#[Zx,3,VJ.nd,#[3],‹5›]]]]]]),#[Zf,#[YD,(@ZqI _ _ _ _ _ _ _ _ _ QJ PySem.F.slot_list_reverse PySem.F.type_list_reverse Zkq ‹2› #[5] #[5])],#[Zi,#[Zo,‹2›]]]]]],?_⟩;refine⟨(by show 0≤sizeLine;decide),fun o g=>?_⟩;have N:a≠o:=Ze L g;refine⟨_,rfl,?_⟩;refine⟨fun m O R=>∃ (b:Addr) (d:List Int) (i:List Addr) (S U:Option V),O=[some (.ref a),some (.int n),some (.ref o),some (.ref b),S,U]∧Dn H a o p n b d i R∧m=d.length,⟨_,a,p,[],none,none,rfl,⟨[],?_,N,h1,M,rfl,trivial,Zc,Zh g _,(fun l j=>by cases j),(fun B=>by cases B),by simpa using M⟩,rfl⟩,?_⟩
 ·rw[Zb N];exact L
 rintro m O R ⟨b,d,i,S,U,rfl,D,rfl⟩;obtain⟨done,W,d2,d3,d4,d5,d6,C,d8,d9,X,vC⟩:=id D;have Bg:(((d.map V.int).length:Nat):Int)=(d.length:Int):=by rw[Qa]
 refine⟨_,rfl,b,_,rfl,.inl (SqL.of W),_,_,rfl,rfl,_,rfl,?_⟩;refine YX (fun c1=>?_) (fun c1=>?_)
 ·have sU:(1:Int)<(((d.map V.int).length:Nat):Int):=of_decide_eq_true c1;have F:1<d.length:=by lia
  refine⟨_,fun ao H' h=>h,?_⟩;refine⟨_,rfl,b,d,rfl,SqL.of W,d4,fun t x y H3 ht Y Z Bh et ex ey G Bi Bj=>?_⟩;refine⟨t,_,rfl,SqT.of et,rfl,_,_,rfl,_,_,rfl,rfl,?_⟩;have r:=G _ _ C;have au:(i.map V.ref).length<sizeLine:=by rw[Qa];exact ZB #[2]
  have sl:=SF (n:=n) F;refine⟨_,rfl,_,rfl,x,_,rfl,.inl (SqL.of ex),rfl,OK _,_,rfl,?_⟩;show if inV (V.int n) ((XX d).map V.int)=true then _ else _
  rw[OL];refine YX (fun c2=>?_) (fun c2=>?_)
  ·have k:n∈XX d:=of_decide_eq_true c2;have I:XS d n=XX d:=by unfold XS;rw[if_pos k]
   have J:Wx d n=WV d:=by unfold Wx;rw[if_pos k]
   refine⟨_,rfl,.inl ⟨rfl,_,SqL.of r⟩,_,rfl,o,_,_,rfl,rfl,r,au,_,rfl,_,?_,x,XS d n,i++[y],_,_,rfl,D.step g F G (by rw[I];exact ex) (by rw[J];exact ey) Y Z,rfl⟩;exact sl
  ·have k:¬ n∈XX d:=fun z=>c2 (decide_eq_true z);have I:XS d n=WV d:=by unfold XS;rw[if_neg k]
   have J:Wx d n=XX d:=by unfold Wx;rw[if_neg k]
   refine⟨_,rfl,.inl ⟨rfl,_,SqL.of r⟩,_,rfl,o,_,_,rfl,rfl,r,au,_,rfl,_,?_,y,XS d n,i++[x],_,_,rfl,D.step g F G (by rw[I];exact ey) (by rw[J];exact ex) Z Y,rfl⟩;exact sl
 ·have sU:¬ (1:Int)<(((d.map V.int).length:Nat):Int):=fun z=>c1 (decide_eq_true z);have e:way p n=done:=by rw[d5,OM #[2],QaO]
  refine⟨_,rfl,.inl ⟨rfl,_,SqL.of C⟩,o,_,rfl,rfl,C,?_⟩;refine⟨_,rfl,q o i.reverse _ g (by rw[Zc,List.map_reverse]) (fun B=>X (List.mem_reverse.mp B)) (fun l j=>d9 l (List.mem_reverse.mp j)) ?_ fun c u v=>?_⟩
  ·rw[e];refine Rd.mono (fun l j u v=>?_) d6.rev;rw[Zb (fun z=>by subst z;exact X (List.mem_reverse.mp j))];exact v
  ·rw[Zb (Ze v g)];exact d8 _ _ v
theorem K3:∀ (k:Nat) (M:List Int) (n:Int),M.length≤2 ^ k→(way M n).reverse=(ZL k M n).map (fun X=>Y9 X n)
 | 0,M,n,h=>by rw[OM (by simpa using h)];rfl
 | k+1,M,n,h=>by
  unfold ZL;by_cases h2:2≤M.length
  ·rw[if_pos h2,K4 #[2],QaA,Qf];have a:(ZW M n).length≤2 ^ k:=by
    rw[QaX]at h;unfold ZW;split
    ·unfold lo mid;rw[QA];lia
    ·unfold up mid;rw[QZ];lia
   have e:=K3 k (ZW M n) n a;rw[← e];rfl
  ·rw[if_neg h2,OM #[2]];rfl
theorem Zm5{M:List Int}(h:2≤M.length)(n:Int):Y9 M n≠[]:=by
 unfold Y9;split
 ·exact XN (WC h).2
 ·exact XN (WU h).2
theorem Zku{M:List Int}(r:YR M)(h:2≤M.length)(n:Int):ZV M=(if (Y9 M n).headD 0<(ZW M n).headD 0 then (Y9 M n).headD 0 else (ZW M n).headD 0,if (Y9 M n).getLastD 0>(ZW M n).getLastD 0 then (Y9 M n).getLastD 0 else (ZW M n).getLastD 0):=by have a:=Pw h;have b:=Px h;have l1:=U7 (XN (WU h).2);have l2:=U6 (XN (WU h).2);have e:=U7 (XN (WC h).2);have f:=U6 (XN (WC h).2);have c:=ZN r l1 e;have d:=ZN r l2 f;unfold ZW Y9;split<;>(refine Prod.ext ?_ ?_<;>dsimp only<;>first|lia|(split<;>lia))
theorem Rd.get{H:Hp}:∀ {c:List Addr} {ds:List (List Int)},Rd H c ds→∀ {i:Nat} {l:Addr} {d:List Int},c[i]? = some l→ds[i]? = some d→H l=some (.lst (d.map V.int))
 | [],[],_,i,l,d,h,_=>by simp at h
 | l::c,d::ds,⟨h1,h2⟩,0,a,b,e,f=>by simp at e f;rw[← e,← f];exact h1
 | l::c,d::ds,⟨h1,h2⟩,i+1,a,b,e,f=>Rd.get h2 (by simpa using e) (by simpa using f)
def K2:Sp:=fun vs H Q _=>∃ (a:Addr) (N:List Int) (n:Int),vs=[.ref a,.int n]∧H a=some (.lst (N.map V.int))∧n∈N∧N.length≤60∧YR N ∧
 ∀ (r:Addr) (c:List Addr) (b:Hp),H r=none→b r=some (.lst (c.map V.ref))→c.length=(ZL 8 N n).length→(∀ (i:Nat) (t:Addr) (X:List Int),c[i]? = some t→(ZL 8 N n)[i]? = some X→b t=some (.tup [.int (ZV X).1,.int (ZV X).2]))→ZG H b→Q (.ref r) b
theorem ZjJ(T:Z9 K mg ah aa ae al aj af ak)(fK:Df P w K mg base 2 "way_up" ["numbers", "n"] OJ):Df P w K mg base 3 "matches_up" ["numbers", "n"] K2:=by
 refine T.t_matches_up.df VL (fun vs H Q E h=>?_) (fun am f A outer s H vs Q E hr h=>?_)
 ·obtain⟨a,N,n,rfl,_⟩:=h;rfl
 obtain⟨a,N,n,rfl,ha,W,eS,aP,q⟩:=h;refine⟨_,#[Zf,#[Zx,2,VL.nd,#[3],#[Z2,#[Zd]]],#[Zf,#[Zx,3,VL.nd,#[3],‹1›],#[Zf,#[Zx,4,VL.nd,#[3],‹1›],#[Zf,#[Ya,PassesOwn.never,#[iL,K,#[Zw,fK,hr,#[Za,‹0›,#[Za,‹1›,#[Zd]]],#[5]]],#[ZD,5,VL.nd,#[3]],#[Zf,#[Zx,3,VL.nd,#[3],#[Zk,(ZlD rfl),#[5],T.b.n_min,boot_min,#[Za,‹3›,#[Za,#[Zr,(ixL K),‹5›,#[Zj]],#[Zd]]]]],#[Zf,#[Zx,4,VL.nd,#[3],#[Zk,(ZlB rfl),#[5],T.b.n_max,boot_max,#[Za,‹4›,#[Za,#[Zr,(ixL K),‹5›,(@US _ _ _ _ _ _ UR #[Zj])],#[Zd]]]]],#[Zi,#[YD,#[XO,QJ,QT,QU,Wq,‹2›,#[Za,#[YU,#[Za,‹3›,#[Za,‹4›,#[Zd]]]],#[Zd]]]]]]]],#[Zi,#[Zo,‹2›]]]]]],?_⟩;have fV:=Qa0 W;have Z:N.length≤2 ^ 8:=Qw eS #[6];obtain⟨nw,nz,qE⟩:=SG 8 N n W Z;refine⟨(by show 0≤sizeLine;decide),fun r G=>?_⟩;have I:=Zh G (.lst []);have g:(upd H r (.lst [])) r=some (.lst []):=Zc;generalize upd H r (.lst [])=H1 at I g ⊢;refine⟨_,rfl,_,rfl,_,rfl,_,rfl,a,N,n,rfl,I _ _ ha,fV,by lia,fun wy v H2 wt qF C1 bq J L=>?_⟩;rw[K3 8 N n Z]at J;have jY:=J.len;rw[Qa]at jY;have pi:=I.trans L;refine⟨wy,rfl,⟨_,SqL.of qF⟩,?_⟩;refine Vw (K:=K) (a:=wy) (xs:=v.map V.ref) (fun i x d=>∃ (M:Option V) (c:List Addr),x=[some (.ref a),some (.int n),some (.ref r),some (.int ((low n (ZL 8 N n) i).headD 0)),some (.int ((low n (ZL 8 N n) i).getLastD 0)),M]∧i≤v.length∧c.length=i∧d r=some (.lst (c.map V.ref))∧(∀ (j:Nat) (t:Addr) (X:List Int),c[j]? = some t→(ZL 8 N n)[j]? = some X→d t=some (.tup [.int (ZV X).1,.int (ZV X).2]))∧(∀t∈c,t≠r∧∃xs,d t=some (.tup xs))∧(∀b o,H2 b=some o→b≠r→d b=some o)) ⟨_,[],rfl,Qs _,rfl,L _ _ g,(fun j t X h=>by simp at h),(fun t h=>by cases h),fun b o h _=>h⟩ (fun i x d _ hq=>by obtain⟨_,_,_,_,_,_,_,_,k3⟩:=hq;exact SqL.of (k3 _ _ qF (fun z=>by rw[z,g]at wt;cases wt))) ?_ ?_
 ·rintro i y x d k ⟨M,c,rfl,hi,O,e,R,pj,k3⟩;rw[Qk]at k;cases m:v[i]? with
  | none=>rw[m]at k;cases k
  | some l =>
  rw[m]at k;cases k;have bH:i<v.length:=(Qd.mp m).1;cases p:(ZL 8 N n)[i]? with
  | none=>rw[Q7]at p;lia
  | some X =>
  obtain⟨x1,x2,x3,x4⟩:=nw i X p;have S:H2 l=some (.lst ((Y9 X n).map V.int)):=J.get m (by rw[Qk,p];rfl);have vB:l≠r:=fun z=>by rw[z]at S;rw[L _ _ g]at S;have:=bq l (Qv m);rw[z,g]at this;cases this
  have dQ:=k3 _ _ S vB;have bv:=Zm5 x2 n;have B:=Zku (x1.rise aP) x2 n;rw[x4]at B;have e3:low n (ZL 8 N n) (i+1)=X:=by show (ZL 8 N n).getD i []=X;rw[QE,p];rfl
  refine⟨_,rfl,_,rfl,l,_,_,_,rfl,rfl,SqL.of dQ,Lv bv,_,_,rfl,?_⟩;refine⟨_,rfl,_,rfl,_,rfl,l,_,_,_,rfl,rfl,SqL.of dQ,Lw bv,_,_,rfl,?_⟩;refine⟨_,rfl,.inl ⟨rfl,_,SqL.of e⟩,_,rfl,_,rfl,(by show 2≤sizeLine;decide),fun t C=>?_⟩;have D:r≠t:=Ze e C;refine⟨r,_,_,rfl,rfl,by rw[Zb D];exact e,(by rw[Qa];exact ZB #[2]),?_⟩;refine⟨some (.ref l),c++[t],?_,bH,by rw[Qr,QB];lia,by rw[Zc,Qf];rfl,fun j u Y hu U=>?_,fun u hu=>?_,fun b o F nb=>?_⟩
  ·rw[e3];have h1:=congrArg Prod.fst B;have h2:=congrArg Prod.snd B;simp only at h1 h2;rw[show X.headD 0=(ZV X).1 from rfl,show X.getLastD 0=(ZV X).2 from rfl,h1,h2];rfl
  ·have pp:∀ (u:Addr) (xs:List V),d u=some (.tup xs)→(upd (upd d t (.tup [.int (if (Y9 X n).headD 0<(low n (ZL 8 N n) i).headD 0 then (Y9 X n).headD 0 else (low n (ZL 8 N n) i).headD 0),.int (if (Y9 X n).getLastD 0>(low n (ZL 8 N n) i).getLastD 0 then (Y9 X n).getLastD 0 else (low n (ZL 8 N n) i).getLastD 0)])) r (.lst (c.map V.ref++[.ref t]))) u=some (.tup xs):=fun u xs hu=>by rw[Zb (fun z=>by rw[z,e]at hu;cases hu),Zb (Ze hu C)];exact hu
   by_cases hj:j<c.length
   ·rw[QO hj]at hu;exact pp u _ (R j u Y hu U)
   ·have ej:j=c.length:=by have:=(Qd.mp hu).1;rw[Qr,QB]at this;lia
    subst ej;rw[QK (Qg _),QaY]at hu;cases hu;rw[O,p]at U;cases U;rw[Zb D.symm,Zc,B]
  ·rcases Qo.mp hu with hu|hu
   ·obtain⟨g1,xs,g2⟩:=pj u hu;exact⟨g1,xs,by rw[Zb g1,Zb (Ze g2 C)];exact g2⟩
   ·rw[Ql.mp hu];exact⟨D.symm,_,by rw[Zb D.symm];exact Zc⟩
  ·have:=k3 b o F nb;rw[Zb nb,Zb (Ze this C)];exact this
 ·rintro x d ⟨M,c,rfl,_,O,e,R,_,k3⟩;rw[Qa]at O;exact⟨_,rfl,q r c d G e #[2] R (fun b o F=>k3 b o (pi b o F) (Ze F G))⟩
def CV(H:Hp)(v:V)(c:Com):Prop:=(c=none∧v=.non)∨∃ (t:Addr) (p:Int×Int),c=some p∧v=.ref t∧H t=some (.tup [.int p.1,.int p.2])
theorem CV.keep{H a:Hp}{v:V}{c:Com}(h:CV H v c)(k:∀t xs,H t=some (.tup xs)→a t=some (.tup xs)):CV a v c:=by
 rcases h with h|⟨t,p,b,d,e⟩
 ·exact .inl h
 ·exact .inr ⟨t,p,b,d,k _ _ e⟩
theorem Znf{s:StL}{k:Int×Int}{a:Option (Addr×Int×Int)}(h:Z0 s k=some a):s.any (fun e=>decide (e.1=k))=true:=QaF.mpr ⟨_,LV h,decide_eq_true rfl⟩
theorem OI{s:StL}{k:Int×Int}{a v:Option (Addr×Int×Int)}(h:Z0 s k=some a):(Yg s k v).length=s.length:=by unfold Yg;rw[if_pos (Znf h),Qa]
def AgS(hd:Hd)(z:List Nat)(A B:List Int)(k q:Int):Prop:=∀C k0 a,Ag hd z C k0 a→Ag hd z (C++[(A,B)]) (k0+k) (a+q)
def K1(e f:Addr):Sp:=fun vs H Q _=>∃ (m rd sd:Addr) (L:List ZA) (s:StL) (nb li lo:Int) (g:V) (h:Addr) (v:V) (c:Com) (z:List Nat) (M:List Int) (n:Int),vs=[.ref m,.ref h,v]∧ZP e f H m rd sd L s nb li lo g∧H h=some (.tup [.int (ZV M).1,.int (ZV M).2])∧CV H v c∧T7 (hdM L) z (ZW M n) c ∧
 ((Win (hdM L) (Y9 M n) none∧(Z0 s (ZV M)=none∨Z0 s (ZV M)=some none))∨∃t b y,Win (hdM L) (Y9 M n) (some b)∧hdM L b=some y∧Z0 s (ZV M)=some (some (t,b,((lcp y z:Nat):Int)))) ∧
 (∀b∈M,∀y,hdM L b=some y→ZR z y≤0)∧YR M∧(∀b∈M,b∈Zy L)∧2≤M.length∧n∈M ∧
 ∀ (i:V) (l:Com) (d:StL) (k q:Int) (a:Hp),CV a i l→T7 (hdM L) z M l→WP (hdM L) d (ZW M n) (Y9 M n) (ZV M)→(∀j,j≠ZV M→Z0 d j=Z0 s j)→AgS (hdM L) z (ZW M n) (Y9 M n) k q →
  ZP e f a m rd sd L d nb (li+k) (lo+q) g→(∀b o,H b=some o→b≠m→b≠sd→a b=some o)→Q i a
theorem K0{L:List ZA}(nd:(Zy L).Nodup){b:Int}(hb:b∈Zy L){y:List Nat}(hy:hdM L b=some y):∃e∈L,e.n=b∧∃x,e.ss[e.g]? = some x∧y=cds x:=by
 obtain⟨e,c,rfl⟩:=Uc hb;rw[VB nd c]at hy;cases a:e.ss[e.g]? with
 | none=>rw[a]at hy;cases hy
 | some x=>rw[a]at hy;cases hy;exact⟨e,c,rfl,x,a,rfl⟩
theorem Zmx(T:Z9 K mg ah aa ae al aj af ak)(aQ:Mf P w K mg base 3 aa "meet" ["self", "one", "other", "far"] (OX ah aa)):Mf P w K mg base 4 aa "play_again" ["self", "meeting", "comer"] (K1 ah aa):=by
 refine T.t_Merge_play_again.mf Uq (fun vs H Q E h=>?_) (fun am f A outer s H vs Q E hr h=>?_)
 ·obtain⟨m,rd,I,L,s,nb,li,lo,ai,tm,v,c,z,M,n,rfl,_⟩:=h;rfl
 obtain⟨m,rd,I,L,s,nb,li,lo',ai,tm,v,c,z,M,n,rfl,Mg,gU,pq,⟨wS,wu⟩,bg,cr,aP,fA,h2,hn,q⟩:=h;refine⟨_,#[Zf,#[Zx,3,Uq.nd,#[3],(@ZqZ _ _ _ _ _ _ _ _ hr #[ZQ,‹0›] ‹1› #[5] #[5] #[5])],#[Zf,#[ZO,#[Zn,XF,‹3›,#[ZT],(Zu _)],#[Zi,#[Zo,‹2›]],#[ZE]],#[Zf,#[ZO,#[Zn,XF,‹2›,#[ZT],(Zu _)],#[Zf,#[Z6,#[ZT],#[Yt,#[ZQ,‹0›],‹1›,(X9 hr)]],#[Zi,#[Zo,‹3›]]],#[ZE]],#[Zf,#[ZO,#[Zn,YI,#[Zr,(ixT K),‹2›,#[Zj]],#[Zr,(ixT K),‹3›,#[Zj]],(Zu _)],#[Zf,#[Z6,#[Xx,aQ,T.cl_Merge,hr,‹0›,#[Za,#[Zr,(ixT K),‹2›,#[Zj]],#[Za,#[Zr,(ixT K),‹3›,#[Zj]],#[Za,#[Zr,(ixT K),‹2›,#[Zj]],#[Zd]]]]],#[gT,K,3,#[ZC,#[ZD,4,Uq.nd,#[3]],#[ZC,#[ZD,5,Uq.nd,#[3]],#[ZC,#[ZD,6,Uq.nd,#[3]],(@Yb _)]]]]],#[Zf,#[Z6,#[YU,#[Za,‹5›,#[Za,‹6›,#[Zd]]]],#[Yt,#[ZQ,‹0›],‹1›,(X9 hr)]],#[Zi,#[Zo,#[YU,#[Za,‹4›,#[Za,#[Zr,(ixT K),‹2›,#[Zj]],#[Zd]]]]]]]],#[ZE]],#[Zf,#[VZ,‹0›,#[Zj],UP],#[Zf,#[ZO,#[Zn,Ws,#[Zr,(ixT K),‹2›,#[Zj]],#[Zr,(ixT K),‹3›,#[Zj]],(Zu _)],#[Zi,#[Zo,‹2›]],#[ZE]],#[Zf,#[Z6,‹2›,#[Yt,#[ZQ,‹0›],‹1›,(X9 hr)]],#[Zi,#[Zo,‹3›]]]]]]]]],?_⟩;obtain⟨dx,N⟩:=Mg.ob;have kD:H tm=some (.tup (([.inl (ZV M).1,.inl (ZV M).2]:List Key).map kV)):=gU;have Y:=SI M n;have dg:=ZX.t (k:=[.inl (ZV M).1,.inl (ZV M).2]) Mg.stays kD;rw[LW]at dg;have sA:∀b∈ZW M n,b∈M:=fun b r=>Y.mem_iff.mp (QG _ r);have sB:∀b∈Y9 M n,b∈M:=fun b r=>Y.mem_iff.mp (Qy _ r);have cq:=OQ aP (U0 hn);have Bk:∀a b,a∈ZW M n→b∈Y9 M n→a≠b:=fun a b ha r e=>by
  subst e;unfold ZW Y9 at *
  split at ha
  ·rename_i hl;rw[if_pos hl]at r;have:=ZN aP ha r;lia
  ·rename_i hl;rw[if_neg hl]at r;have:=ZN aP r ha;lia
 refine⟨_,rfl,m,aa,dx,_,_,rfl,N,T.cl_Merge,T.na_Merge_stays,Ub ..,I,rfl,.inr ⟨_,.inl Mg.stays⟩,_,rfl,_,dg,?_⟩;rcases bg with⟨u,U⟩|⟨t,b,y,u,D,U⟩
 ·have ev:((Z0 s (ZV M)).map stV).getD .non=.non:=by rcases U with e|e<;>rw[e]<;>rfl
  rw[ev];refine⟨_,rfl,rfl,_,rfl,Yk rfl ⟨_,rfl,q v c s 0 0 H pq ⟨(Win.left wS u).perm Y,wu⟩ ⟨(fun a b x y _ wb _ _=>nomatch u.one wb),fun _=>U⟩ (fun _ _=>rfl) (fun C k0 q0 g=>by rw[Qai,Qai];exact .no g (.inr u)) (Mg.cast #[2] #[2]) (fun b o h _ _=>h)⟩⟩
 have Z:=Mg.ats _ (LV U) _ rfl;have e1:((Z0 s (ZV M)).map stV).getD .non=.ref t:=by rw[U];rfl
 rw[e1];have ni:=Mg.sfew;have j2:(kvS s).length<sizeLine:=by unfold kvS;rw[Qa];exact ZB #[2]
 refine⟨_,rfl,rfl,_,rfl,YF (fun z=>nomatch z) ?_⟩;have nv:=sB b u.1;rcases pq with⟨rfl,rfl⟩|⟨F,p,rfl,rfl,J⟩
 ·refine⟨_,rfl,rfl,_,rfl,Yk rfl ?_⟩;refine⟨_,rfl,m,aa,dx,_,_,rfl,N,T.cl_Merge,T.na_Merge_stays,Ub ..,_,rfl,I,_,rfl,YG.t (k:=[.inl (ZV M).1,.inl (ZV M).2]) Mg.stays kD j2,?_⟩;rw[show V.non=stV none from rfl,Ta];have j1:(Yg s (ZV M) none).length≤100:=by rw[OI U];exact ni
  have M2:=Mg.put (k:=ZV M) (v:=none) (fun t W=>by cases W) j1;have B:Win (hdM L) (ZW M n) none:=wS;refine⟨_,rfl,q (.ref t) (some (b,((lcp y z:Nat):Int))) _ 0 0 _ (.inr ⟨t,_,rfl,rfl,?_⟩) ⟨(Win.right B u).perm Y,fun p hp=>?_⟩ ⟨(fun a b x y wa _ _ _=>nomatch B.one wa),fun _=>.inr ?_⟩ (fun j hj=>?_) (fun C k0 q0 g=>?_) (M2.cast #[2] #[2]) (fun b o r _ n2=>by rw[Zb n2];exact r)⟩
  ·rw[Zb (fun z=>by rw[z,Mg.stays]at Z;cases Z)];exact Z
  ·cases hp;exact⟨y,D,rfl⟩
  ·rw[WT,if_pos rfl]
  ·rw[WT,if_neg hj]
  ·rw[Qai,Qai];exact .no g (.inl B)
 obtain⟨a,fa⟩:=p;obtain⟨x,G,wv⟩:=wu _ rfl;simp only at G wv;subst wv;have B:Win (hdM L) (ZW M n) (some a):=wS;have ww:=sA a B.1;have jr:=Bk a b B.1 u.1;obtain⟨O,pe,rfl,i,Bl,rfl⟩:=K0 Mg.nd (fA a ww) G;obtain⟨eb,pf,rfl,l,Bm,rfl⟩:=K0 Mg.nd (fA b nv) D;have c0:atI [V.int O.n,.int ((lcp (cds i) z:Nat):Int)] 0=some (.int O.n):=Yr (j:=0) rfl;have c1:atI [V.int O.n,.int ((lcp (cds i) z:Nat):Int)] 1=some (.int ((lcp (cds i) z:Nat):Int)):=Yr (j:=1) rfl;have d0:atI [V.int eb.n,.int ((lcp (cds l) z:Nat):Int)] 0=some (.int eb.n):=Yr (j:=0) rfl;have d1:atI [V.int eb.n,.int ((lcp (cds l) z:Nat):Int)] 1=some (.int ((lcp (cds l) z:Nat):Int)):=Yr (j:=1) rfl;refine⟨_,rfl,rfl,_,rfl,YF (fun z=>nomatch z) ?_⟩;refine⟨_,rfl,F,_,_,_,rfl,rfl,SqT.of J,c1,_,rfl,t,_,_,_,rfl,rfl,SqT.of Z,d1,rfl,_,rfl,YX (fun d=>?_) (fun d=>?_)⟩
 ·have ef:lcp (cds i) z=lcp (cds l) z:=by have:=of_decide_eq_true d;injection this with this;lia
  have uV:=Zp3 ef;refine⟨_,rfl,m,dx,_,rfl,N,Lu ..,_,rfl,F,_,_,_,rfl,rfl,SqT.of J,c0,_,rfl,t,_,_,_,rfl,rfl,SqT.of Z,d0,_,rfl,F,_,_,_,rfl,rfl,SqT.of J,c1,?_⟩;refine⟨m,rd,I,L,s,nb,li,lo',ai,O,eb,i,l,lcp (cds i) z,rfl,Mg,pe,pf,Bl,Bm,uV,fun t5 wi R H5 hw sK m5 M5 b5=>?_⟩;refine⟨t5,_,rfl,SqT.of m5,rfl,_,_,rfl,_,_,rfl,_,_,rfl,rfl,?_⟩;have gZ:2≤sizeLine:=by decide
  refine⟨_,rfl,_,rfl,gZ,fun S sL=>?_⟩;have s6:=Zh sL (.tup [.int R,.int ((lcp (cds i) (cds l):Nat):Int)]);have jy:(upd H5 S (.tup [.int R,.int ((lcp (cds i) (cds l):Nat):Int)])) S=some (.tup [.int R,.int ((lcp (cds i) (cds l):Nat):Int)]):=Zc;have M6:=M5.same s6;generalize upd H5 S (.tup [.int R,.int ((lcp (cds i) (cds l):Nat):Int)])=H6 at s6 jy M6 ⊢;obtain⟨m6,m7⟩:=M6.ob;have sV:tm≠m:=fun z=>by rw[z,N]at gU;cases gU
  have sW:F≠m:=fun z=>by rw[z,N]at J;cases J
  have wx:H6 tm=some (.tup (([.inl (ZV M).1,.inl (ZV M).2]:List Key).map kV)):=s6 _ _ (b5 _ _ kD sV);refine⟨_,rfl,m,aa,m6,_,_,rfl,m7,T.cl_Merge,T.na_Merge_stays,Ub ..,_,rfl,I,_,rfl,YG.t (k:=[.inl (ZV M).1,.inl (ZV M).2]) M6.stays wx j2,?_⟩;rw[show V.ref S=stV (some (S,R,((lcp (cds i) (cds l):Nat):Int))) from rfl,Ta];have j1:(Yg s (ZV M) (some (S,R,((lcp (cds i) (cds l):Nat):Int)))).length≤100:=by rw[OI U];exact ni
  have M7:=M6.put (k:=ZV M) (v:=some (S,R,((lcp (cds i) (cds l):Nat):Int))) (fun t W=>by injection W with W;rw[← W];exact jy) j1;have b7:∀b o,H b=some o→b≠m→b≠I→(upd H6 I (.dT (kvS (Yg s (ZV M) (some (S,R,((lcp (cds i) (cds l):Nat):Int))))))) b=some o:=fun b o r n1 n2=>by rw[Zb n2];exact s6 _ _ (b5 b o r n1)
  have wz:F≠I:=fun z=>by rw[z,Mg.stays]at J;cases J
  generalize upd H6 I (.dT (kvS (Yg s (ZV M) (some (S,R,((lcp (cds i) (cds l):Nat):Int))))))=H7 at M7 b7 ⊢;refine⟨_,rfl,_,rfl,F,_,_,_,rfl,rfl,SqT.of (b7 _ _ J sW wz),c1,gZ,fun t8 wA=>?_⟩;have wn:Win (hdM L) M (some wi):=by
   rcases hw with⟨X,rfl,_⟩|⟨X,rfl,_⟩
   ·exact(Win.both B u G D X).perm Y
   ·exact(Win.both' B u G D ((Btr.total jr).resolve_left X)).perm Y
  refine q (.ref t8) (some (wi,((lcp (cds i) z:Nat):Int))) _ 1 ((lcp (cds i) (cds l):Nat)-(lcp (cds i) z:Nat)+1) _ (.inr ⟨t8,_,rfl,rfl,Zc⟩) ⟨wn,fun p hp=>?_⟩ ⟨fun a b x' y' wa wb j3 j4=>?_,fun cq=>?_⟩ (fun j hj=>by rw[WT,if_neg hj]) (fun C k0 q0 g=>.eq g B u G D ef) ((M7.same (Zh wA _)).cast rfl rfl) (fun b o r n1 n2=>Zh wA _ _ _ (b7 b o r n1 n2))
  ·cases hp;rcases hw with⟨X,rfl,_⟩|⟨X,rfl,_⟩
   ·exact⟨_,G,rfl⟩
   ·exact⟨_,D,by simp only;rw[ef]⟩
  ·have e1:=Qj (wa.one B);have e2:=Qj (wb.one u);subst e1;subst e2;have e3:=Qj (j3.symm.trans G);have e4:=Qj (j4.symm.trans D);subst e3;subst e4;refine⟨S,R,by rw[WT,if_pos rfl],?_⟩;rcases hw with⟨X,_,rfl⟩|⟨X,_,rfl⟩
   ·exact .inl ⟨X,rfl⟩
   ·exact .inr ⟨(Btr.total jr).resolve_left X,rfl⟩
  ·rcases cq with z|z
   ·exact nomatch z.one B
   ·exact nomatch z.one u
 have wB:lcp (cds i) z≠lcp (cds l) z:=fun e=>d (decide_eq_true (by rw[e]));refine⟨_,rfl,m,aa,dx,_,_,rfl,N,T.cl_Merge,T.na_Merge_likened,OY ..,_,_,rfl,rfl,dx,_,N,Wy ..,?_⟩;rw[Lx];have M2:=Mg.obj (nb':=nb) (li':=li+1) (lo':=lo') (best':=ai) (dx:=dx);have k2:∀b o,H b=some o→b≠m→(upd H m (.ins aa dx (mgF rd nb (li+1) lo' I ai))) b=some o:=fun b o r n=>by rw[Zb n];exact r
 have sW:F≠m:=fun z=>by rw[z,N]at J;cases J
 have Bo:t≠m:=fun z=>by rw[z,N]at Z;cases Z
 have sV:tm≠m:=fun z=>by rw[z,N]at gU;cases gU
 generalize upd H m (.ins aa dx (mgF rd nb (li+1) lo' I ai))=H2 at M2 k2 ⊢;have nA:=k2 _ _ J sW;have kE:=k2 _ _ Z Bo;refine⟨_,rfl,F,_,_,_,rfl,rfl,SqT.of nA,c1,_,rfl,t,_,_,_,rfl,rfl,SqT.of kE,d1,_,_,rfl,rfl,_,rfl,YX (fun g=>?_) (fun g=>?_)⟩
 ·have Bp:lcp (cds l) z<lcp (cds i) z:=by have:((lcp (cds l) z:Nat):Int)<((lcp (cds i) z:Nat):Int):=of_decide_eq_true g;lia
  obtain⟨bt,el⟩:=K8 (a:=O.n) (b:=eb.n) Bp (cr _ nv _ D);refine⟨_,rfl,q (.ref F) (some (O.n,((lcp (cds i) z:Nat):Int))) s 1 0 H2 (.inr ⟨F,_,rfl,rfl,nA⟩) ⟨(Win.both B u G D bt).perm Y,fun p hp=>by cases hp;exact⟨_,G,rfl⟩⟩ ⟨fun a b x' y' wa wb j3 j4=>?_,fun cq=>?_⟩ (fun _ _=>rfl) (fun C k0 q0 g=>by rw[Qai];exact .ne g B u G D wB) (M2.cast rfl #[2]) (fun b o r n1 _=>k2 b o r n1)⟩
  ·have e1:=Qj (wa.one B);have e2:=Qj (wb.one u);subst e1;subst e2;have e3:=Qj (j3.symm.trans G);have e4:=Qj (j4.symm.trans D);subst e3;subst e4;exact⟨t,_,by rw[el];exact U,.inl ⟨bt,rfl⟩⟩
  ·rcases cq with z|z
   ·exact nomatch z.one B
   ·exact nomatch z.one u
 ·have au:lcp (cds i) z<lcp (cds l) z:=by have:¬ ((lcp (cds l) z:Nat):Int)<((lcp (cds i) z:Nat):Int):=fun e=>g (decide_eq_true e);lia
  obtain⟨bt,el⟩:=K8 (a:=eb.n) (b:=O.n) au (cr _ ww _ G);obtain⟨gC,cA⟩:=M2.ob;have wC:H2 tm=some (.tup (([.inl (ZV M).1,.inl (ZV M).2]:List Key).map kV)):=k2 _ _ kD sV;refine⟨_,rfl,_,rfl,m,aa,gC,_,_,rfl,cA,T.cl_Merge,T.na_Merge_stays,Ub ..,_,rfl,I,_,rfl,YG.t (k:=[.inl (ZV M).1,.inl (ZV M).2]) M2.stays wC j2,?_⟩;rw[show V.ref F=stV (some (F,O.n,((lcp (cds i) z:Nat):Int))) from rfl,Ta];have j1:(Yg s (ZV M) (some (F,O.n,((lcp (cds i) z:Nat):Int)))).length≤100:=by rw[OI U];exact ni
  have M3:=M2.put (k:=ZV M) (v:=some (F,O.n,((lcp (cds i) z:Nat):Int))) (fun t W=>by injection W with W;rw[← W];exact nA) j1;refine⟨_,rfl,q (.ref t) (some (eb.n,((lcp (cds l) z:Nat):Int))) _ 1 0 _ (.inr ⟨t,_,rfl,rfl,?_⟩) ⟨(Win.both' B u G D bt).perm Y,fun p hp=>by cases hp;exact⟨_,D,rfl⟩⟩ ⟨fun a b x' y' wa wb j3 j4=>?_,fun cq=>?_⟩ (fun j hj=>by rw[WT,if_neg hj]) (fun C k0 q0 g=>by rw[Qai];exact .ne g B u G D wB) (M3.cast rfl #[2]) (fun b o r n1 n2=>by rw[Zb n2];exact k2 b o r n1)⟩
  ·rw[Zb (fun z=>by rw[z,M2.stays]at kE;cases kE)];exact kE
  ·have e1:=Qj (wa.one B);have e2:=Qj (wb.one u);subst e1;subst e2;have e3:=Qj (j3.symm.trans G);have e4:=Qj (j4.symm.trans D);subst e3;subst e4;exact⟨F,_,by rw[WT,if_pos rfl,VE (cds i) (cds l),el],.inr ⟨bt,rfl⟩⟩
  ·rcases cq with z|z
   ·exact nomatch z.one B
   ·exact nomatch z.one u
noncomputable def Xp(n:Int)(e:ZA):ZA:=if e.n=n then ⟨e.n,e.p,e.k,e.f,e.ss,e.g+1⟩ else e
noncomputable def bump(L:List ZA)(n:Int):List ZA:=L.map (Xp n)
theorem Vz(n:Int)(e:ZA):(Xp n e).n=e.n∧(Xp n e).p=e.p∧(Xp n e).k=e.k∧(Xp n e).f=e.f∧(Xp n e).ss=e.ss:=by unfold Xp;split<;>exact⟨rfl,rfl,rfl,rfl,rfl⟩
theorem SE{n:Int}{e:ZA}(h:e.n=n):Xp n e=⟨e.n,e.p,e.k,e.f,e.ss,e.g+1⟩:=if_pos h
theorem OH{n:Int}{e:ZA}(h:¬ e.n=n):Xp n e=e:=if_neg h
theorem UY(L:List ZA)(n:Int):Zy (bump L n)=Zy L:=by unfold Zy bump;rw[Qn];exact QN fun e _=>(Vz n e).1
theorem Zph(L:List ZA)(n:Int):(bump L n).map (·.p)=L.map (·.p):=by unfold bump;rw[Qn];exact QN fun e _=>(Vz n e).2.1
theorem ZnN(L:List ZA)(n:Int):kvM (bump L n)=kvM L:=by unfold kvM bump;rw[Qn];refine QN fun e _=>?_;simp only[Function.comp];rw[(Vz n e).1,(Vz n e).2.1]
theorem Zpj{m rd sd:Addr}{L:List ZA}{n:Int}{b:Addr}(h:Fp m rd sd (bump L n) b):Fp m rd sd L b:=by
 rcases h with h|h|h|⟨e',a,h⟩
 ·exact .inl h
 ·exact .inr (.inl h)
 ·exact .inr (.inr (.inl h))
 ·obtain⟨e,c,rfl⟩:=Qp.mp a;obtain⟨_,d,f,g,_⟩:=Vz n e;rw[d,f,g]at h;exact .inr (.inr (.inr ⟨e,c,h⟩))
theorem Fp_bump'{m rd sd:Addr}{L:List ZA}{n:Int}{b:Addr}(h:Fp m rd sd L b):Fp m rd sd (bump L n) b:=by
 rcases h with h|h|h|⟨e,a,h⟩
 ·exact .inl h
 ·exact .inr (.inl h)
 ·exact .inr (.inr (.inl h))
 ·obtain⟨_,c,d,f,_⟩:=Vz n e;refine .inr (.inr (.inr ⟨Xp n e,Qe a,?_⟩));rw[c,d,f];exact h
theorem KZ{n b:Int}(h:b≠n):∀L:List ZA,hdM (bump L n) b=hdM L b
 | []=>rfl
 | e::L=>by
  have c:=KZ h L;unfold hdM hdL bump at c ⊢;rw[Qh,Qh,Qh,Q2,Q2];have d:(toL (Xp n e)).1=e.n:=(Vz n e).1;rw[d];by_cases a:e.n=b
  ·rw[decide_eq_true a,decide_eq_true (show (toL e).1=b from a),OH (fun z=>h (a.symm.trans z))]
  ·rw[decide_eq_false a,decide_eq_false (show ¬ (toL e).1=b from a)];exact c
theorem KY{L:List ZA}(nd:(Zy L).Nodup){e:ZA}(he:e∈L):hdM (bump L e.n) e.n=(e.ss[e.g+1]?).map cds:=by have a:Xp e.n e∈bump L e.n:=Qe he;rw[SE rfl]at a;exact VB (L:=bump L e.n) (by rw[UY];exact nd) a
theorem OG(k f:Addr)(g:Int):Yx k f g=([("all_keys",.ref k),("fars",.ref f),("gone",.int g)]:List (Str×V)):=by unfold Yx;rw[Wz,Zz nFK,Wz,Zz nGK,Zz nGF,Wz]
theorem Zg8(k f:Addr)(g v:Int):Zv "gone" (.int v) (Yx k f g)=Yx k f v:=by rw[OG,OG,Zz nGK,Zz nGF,U2]
theorem ZnL(k f:Addr)(g:Int):(Yx k f g).length<1000:=by rw[OG];show 3<1000;decide
theorem Zlt(k f:Addr)(g:Int):(Yx k f g).lookup ("fars" : Str)=some (.ref f):=by unfold Yx;rw[Zl,if_neg nGF,Zl,if_pos rfl]
theorem Zrf{L:List ZA}(pd:(L.map (·.p)).Nodup){e e':ZA}(he:e∈L)(a:e'∈L)(h:e.p=e'.p):e=e':=by
 have b:((L.map fun x=>(x.p,x)).map (·.1)).Nodup:=by rw[Qn];exact pd
 have:=Wa b (Qe (f:=fun x:ZA=>(x.p,x)) he) (Qe (f:=fun x:ZA=>(x.p,x)) a) h;injection this
theorem ZP.bump{b h:Addr}{H:Hp}{m rd sd:Addr}{L:List ZA}{s:StL}{nb li lo:Int}{i:V}(M:ZP b h H m rd sd L s nb li lo i){e:ZA}(he:e∈L)(k:e.g<e.ss.length){dp:Addr} :
  ZP b h (upd H e.p (.ins b dp (Yx e.k e.f ((e.g+1:Nat):Int)))) m rd sd (My.bump L e.n) s nb li lo i:=by
 obtain⟨l,n⟩:=M.ob;obtain⟨dq,c⟩:=(M.each e he).at'.ob;obtain⟨o,_,_⟩:=M.ne_p he;obtain⟨d,_,_,p,_,_⟩:=M.ne_sd he;refine⟨⟨l,by rw[Zb o];exact n⟩,by rw[Zb p,ZnN];exact M.rows,by rw[Zb d];exact M.stays,fun x a t q=>?_,fun e' r=>?_,by rw[UY];exact M.up,by rw[Zph];exact M.pd,by unfold My.bump;rw[Qa];exact M.few,M.sfew⟩
 ·have:=M.ats x a t q;rw[Zb (fun z=>by rw[z,c]at this;cases this)];exact this
 ·obtain⟨x,a,rfl⟩:=Qp.mp r;have R:=M.each x a;have u:∀ {y:ZA},y∈L→y.k≠e.p∧y.f≠e.p:=fun {y} v=>by have j:=M.each y v;exact⟨(fun z=>by have:=j.at'.ks;rw[z,c]at this;cases this),(fun z=>by have:=j.at'.fs;rw[z,c]at this;cases this)⟩
  obtain⟨k1,k2⟩:=u a;by_cases g:x.n=e.n
  ·have ex:x=e:=by
    have d:((L.map fun x=>(x.n,x)).map (·.1)).Nodup:=by rw[Qn];exact M.nd
    have:=Wa d (Qe (f:=fun x:ZA=>(x.n,x)) a) (Qe (f:=fun x:ZA=>(x.n,x)) he) g;injection this
   subst ex;rw[SE rfl];exact⟨⟨⟨dp,Zc⟩,by show (upd H x.p _) x.k=_;rw[Zb k1];exact R.at'.ks,by show (upd H x.p _) x.f=_;rw[Zb k2];exact R.at'.fs⟩,k,R.len,R.srt,R.str⟩
  ·rw[OH g];exact R.keep (Zb (fun z=>g (by rw[Zrf M.pd a he z]))) (Zb k1) (Zb k2)
theorem Zry{L:List ZA}{e:ZA}{x:Str}(nd:(Zy L).Nodup)(up:YR (Zy L))(he:e∈L)(hx:e.ss[e.g]? = some x)(srt:sortedS e.ss=true)(W:Win (hdM L) (Zy L) (some e.n)):Tk (hdM L) (hdM (bump L e.n)) (Zy L) e.n (cds x):=by
 refine⟨W,by rw[VB nd he,hx];rfl,fun b d=>KZ d L,fun y a=>?_,up⟩;rw[KY nd he]at a;cases c:e.ss[e.g+1]? with
 | none=>rw[c]at a;cases a
 | some f=>rw[c]at a;cases a;exact Mj srt e.g x f hx c
theorem Zqz{c:Bool}{b d:VK→Prop}{Q:VK}(P:V→Hp→Prop)(h1:c=true→∀a:VK,(∀v H,P v H→a v H)→b a)(h2:c=false→∀a:VK,(∀v H,P v H→a v H)→d a)(q:∀v H,P v H→Q v H):if c=true then b Q else d Q:=by
 cases c with
 | true=>rw[if_pos rfl];exact h1 rfl Q q
 | false=>rw[if_neg #[6]];exact h2 rfl Q q
noncomputable def WN(n:Int)(C:List (List Int)):List (List Int×List Int):=C.map fun X=>(ZW X n,Y9 X n)
theorem ZiY(rd:Addr)(nb li lo:Int)(sd:Addr)(a:V):(mgF rd nb li lo sd a).lookup ("play_again" : Str)=none:=X6 _ _ _ _ _ _ #[1] #[1] #[1] #[1] #[1] #[1]
def KW(c d:Addr):Sp:=fun vs H Q _=>∃ (m rd sd:Addr) (L:List ZA) (s:StL) (nb li lo:Int) (h:V) (e:ZA) (x:Str),vs=[.ref m,.int e.n]∧ZP c d H m rd sd L s nb li lo h∧e∈L∧e.ss[e.g]? = some x∧Win (hdM L) (Zy L) (some e.n)∧Z3 (hdM L) s (Zy L) ∧
 ∀ (f:StL) (g:Option Int) (k q:Int) (a:Hp),ZP c d a m rd sd (bump L e.n) f nb (li+k) (lo+q) (Yv g)→Win (hdM (bump L e.n)) (Zy L) g→Z3 (hdM (bump L e.n)) f (Zy L)→Ag (hdM (bump L e.n)) (cds x) (WN e.n (ZL 8 (Zy L) e.n)) k q→(∀b o,H b=some o→¬ Fp m rd sd L b→a b=some o)→Q .non a
theorem ZoD(T:Z9 K mg ah aa ae al aj af ak)(av:Mf P w K mg base 2 ah "head" ["self"] (U8 ah))(cP:Df P w K mg base 3 "matches_up" ["numbers", "n"] K2)(bp:Mf P w K mg base 4 aa "play_again" ["self", "meeting", "comer"] (K1 ah aa)):Mf P w K mg base 5 aa "send_out" ["self", "number"] (KW ah aa):=by
 refine T.t_Merge_send_out.mf Ur (fun vs H Q E h=>?_) (fun am f A outer s H vs Q E hr h=>?_)
 ·obtain⟨m,O,G,L,s,nb,li,lo,ai,e,x,rfl,_⟩:=h;rfl
 obtain⟨m,O,G,L,s,nb,li,lo',ai,e,x,rfl,M,S,hx,W,ok,q⟩:=h;refine⟨_,#[Zf,#[Zx,2,Ur.nd,#[3],#[Zr,(ixG hr),#[ZQ,‹0›],‹1›]],#[Zf,#[VZ,‹2›,#[Zj],UP],#[Zf,#[Zx,3,Ur.nd,#[3],#[Xn,#[Zn,XF,#[YN,av,T.cl_Row,hr,‹2›],#[ZT],(Zu _)],#[ZT],#[YU,#[Za,‹1›,#[Za,#[Zr,(ixL K),#[ZQ,‹2›],#[ZQ,‹2›]],#[Zd]]]]]],#[Zf,#[Ya,PassesOwn.never,#[iL,K,#[Zw,cP,hr,#[Za,#[W4,Nh,T.b.n_list,boot_list,#[Za,#[ZQ,‹0›],#[Zd]]],#[Za,‹1›,#[Zd]]],#[5]]],#[ZD,4,Ur.nd,#[3]],#[Zi,#[Zx,3,Ur.nd,#[3],#[Xx,bp,T.cl_Merge,hr,‹0›,#[Za,‹4›,#[Za,‹3›,#[Zd]]]]]]],#[Zi,#[XD,‹0›,#[Xn,#[Zn,XF,‹3›,#[ZT],(Zu _)],#[ZT],#[Zr,(ixT K),‹3›,#[Zj]]]]]]]]],?_⟩;obtain⟨dx,hm⟩:=M.ob;have R:=M.each e S;obtain⟨dp,hp⟩:=R.at'.ob;have hg:e.g<e.ss.length:=(Qd.mp hx).1;have tk:=Zry M.nd M.up S hx R.srt W;refine⟨_,rfl,m,aa,dx,_,_,rfl,hm,T.cl_Merge,T.na_Merge_rows,XT ..,_,rfl,O,_,rfl,ZX.k' (k:=.inl e.n) M.rows (Wd M.nd S),?_⟩;refine⟨_,rfl,e.p,ah,dp,_,_,rfl,hp,T.cl_Row,T.na_Row_gone,Uj ..,_,_,rfl,rfl,dp,_,hp,ZnL ..,?_⟩;rw[Zg8,show ((e.g:Int)+1)=((e.g+1:Nat):Int) by lia];have M1:=M.bump S hg (dp:=dp);have pz:(upd H e.p (.ins ah dp (Yx e.k e.f ((e.g+1:Nat):Int)))) e.p=some (.ins ah dp (Yx e.k e.f ((e.g+1:Nat):Int))):=Zc;have k1:∀b o,H b=some o→b≠e.p→(upd H e.p (.ins ah dp (Yx e.k e.f ((e.g+1:Nat):Int)))) b=some o:=fun b o B n=>by rw[Zb n];exact B
 generalize upd H e.p (.ins ah dp (Yx e.k e.f ((e.g+1:Nat):Int)))=H1 at M1 pz k1 ⊢;have eI:(⟨e.n,e.p,e.k,e.f,e.ss,e.g+1⟩:ZA)∈bump L e.n:=by have:Xp e.n e∈bump L e.n:=Qe S;rwa [SE rfl]at this
 have R1:=M1.each _ eI;have eK:∀ {C:Hp},(∀b o,H1 b=some o→b≠m→b≠G→C b=some o)→∀b o,H b=some o→¬ Fp m O G L b→C b=some o:=fun {C} k b o B nf =>
  k b o (k1 b o B fun z=>nf (.inr (.inr (.inr ⟨e,S,.inl z⟩)))) (fun z=>nf (.inl z)) (fun z=>nf (.inr (.inr (.inl z))))
 have fV:e.n∈Zy L:=W.1;have eS:(Zy L).length≤60:=by unfold Zy;rw[Qa];exact M.few
 have jB:(Zy L).length≤2 ^ 8:=Qw eS #[6];obtain⟨nw,nz,qE⟩:=SG 8 (Zy L) e.n fV jB;have sX:hdM (bump L e.n) e.n=(e.ss[e.g+1]?).map cds:=KY M.nd S;have r6:∀ (c:Com),(c=none∧e.ss[e.g+1]? = none)∨(∃y,e.ss[e.g+1]? = some y∧c=some (e.n,((lcp (cds y) (cds x):Nat):Int)))→T7 (hdM (bump L e.n)) (cds x) [e.n] c:=fun c hc=>by
  have hw:=Win.sing (hd:=hdM (bump L e.n)) (n:=e.n);rcases hc with⟨rfl,hn⟩|⟨y,u,rfl⟩
  ·rw[sX,hn]at hw;exact⟨hw,fun p hp=>by cases hp⟩
  ·rw[sX,u]at hw;exact⟨hw,fun p hp=>by cases hp;exact⟨cds y,by rw[sX,u];rfl,rfl⟩⟩
 refine⟨_,rfl,e.p,dp,_,rfl,pz,U1 ..,e.p,e.k,e.f,e.ss,e.g+1,rfl,R1.at',rfl,_,rfl,?_⟩;rw[Lk];refine Zqz (fun v C=>ZG H1 C∧∃c,CV C v c∧T7 (hdM (bump L e.n)) (cds x) [e.n] c) (fun d Q' U=>?_) (fun d Q' U=>?_) (fun v C ⟨s2,c,pq,hok⟩=>?_)
 ·have hn:e.ss[e.g+1]? = none:=by
   have:=of_decide_eq_true d;cases u:e.ss[e.g+1]? with
   | none=>rfl
   | some y=>rw[u]at this;cases this
  exact U _ _ ⟨ZG.refl _,none,.inl ⟨rfl,rfl⟩,r6 none (.inl ⟨rfl,hn⟩)⟩
 ·obtain⟨y,u⟩:∃y,e.ss[e.g+1]? = some y:=by
   cases u:e.ss[e.g+1]? with
   | none=>rw[u]at d;exact absurd rfl (of_decide_eq_false d)
   | some y=>exact⟨y,rfl⟩
  have Br:e.g+1<e.ss.length:=(Qd.mp u).1;have rW:Xq e.ss (e.g+1)=((lcp (cds y) (cds x):Nat):Int):=by unfold Xq;rw[if_neg #[2],Qaa,QE,QE,hx,u,VE];rfl
  have bw:atI ((List.range e.ss.length).map fun j=>V.int (Xq e.ss j)) ((e.g+1:Nat):Int)=some (.int ((lcp (cds y) (cds x):Nat):Int)):=Yr (by rw[Qk,List.getElem?_range Br,← rW];rfl);refine⟨_,rfl,_,rfl,e.p,ah,dp,_,_,rfl,pz,T.cl_Row,T.na_Row_fars,Zlt ..,_,rfl,e.p,ah,dp,_,_,rfl,pz,T.cl_Row,T.na_Row_gone,Uj ..,e.f,_,_,_,rfl,rfl,SqL.of R1.at'.fs,bw,(by show 2≤sizeLine;decide),fun tc fL=>?_⟩;exact U _ _ ⟨Zh fL _,some (e.n,((lcp (cds y) (cds x):Nat):Int)),.inr ⟨tc,_,rfl,rfl,Zc⟩,r6 _ (.inr ⟨y,u,rfl⟩)⟩
 have M2:=M1.same s2;obtain⟨gC,cA⟩:=M2.ob;refine⟨_,rfl,m,aa,gC,_,_,rfl,cA,T.cl_Merge,T.na_Merge_rows,XT ..,O,_,rfl,M2.rows,fun l hl=>?_⟩;rw[Lq,UY];have s3:=s2.trans (Zh hl (.lst ((Zy L).map V.int)));have dQ:(upd C l (.lst ((Zy L).map V.int))) l=some (.lst ((Zy L).map V.int)):=Zc;have qG:CV (upd C l (.lst ((Zy L).map V.int))) v c:=pq.keep fun t xs ht=>Zh hl _ _ _ ht;generalize upd C l (.lst ((Zy L).map V.int))=H3 at s3 dQ qG ⊢;refine⟨_,rfl,l,Zy L,e.n,rfl,dQ,fV,eS,M.up,fun r ts H4 aE lm eT bZ s4=>?_⟩;have jC:=s3.trans s4;have M4:=M1.same jC;have wD:CV H4 v c:=qG.keep fun t xs ht=>s4 _ _ ht;refine⟨r,rfl,⟨_,SqL.of lm⟩,?_⟩;obtain⟨J7,fI⟩:=M4.ob;obtain⟨J8,dH⟩:=M1.ob;have m9:r≠m:=(Ze (s3 _ _ dH) aE).symm;have vY:r≠G:=(Ze (s3 _ _ M1.stays) aE).symm;refine Vw (K:=K) (a:=r) (xs:=ts.map V.ref) (fun i σ I=>∃ (v':V) (c':Com) (J:StL) (k Z:Int) (v4:Option V),σ=[some (.ref m),some (.int e.n),some (.ref e.p),some v',v4]∧i≤ts.length∧CV I v' c'∧T7 (hdM (bump L e.n)) (cds x) (low e.n (ZL 8 (Zy L) e.n) i) c'∧ZP ah aa I m O G (bump L e.n) J nb (li+k) (lo'+Z) ai∧Z3 (hdM (bump L e.n)) J (low e.n (ZL 8 (Zy L) e.n) i)∧(∀j,¬ Kys (low e.n (ZL 8 (Zy L) e.n) i) j→Z0 J j=Z0 s j)∧Ag (hdM (bump L e.n)) (cds x) (WN e.n ((ZL 8 (Zy L) e.n).take i)) k Z∧(∀b o,H4 b=some o→b≠m→b≠G→I b=some o)) ?_ (fun i σ I _ U=>by obtain⟨_,_,_,_,_,_,_,_,_,_,_,_,_,_,k5⟩:=U;exact SqL.of (k5 _ _ lm m9 vY)) ?_ ?_
 ·refine⟨v,c,s,0,0,_,rfl,Qs _,wD,hok,M4.cast #[2] #[2],fun X F h2=>?_,fun _ _=>rfl,.nil,fun b o h _ _=>h⟩;have:=OP F;rcases this with rfl|⟨g,_⟩
  ·exact absurd h2 (by show ¬ 2≤1;decide)
  ·exact absurd g (by show ¬ 2≤1;decide)
 ·rintro i y σ I u ⟨v',c',J,k,Z,v4,rfl,hi,nB,gq,M5,nC,ez,ag,k5⟩;rw[Qk]at u;cases hz:ts[i]? with
  | none=>rw[hz]at u;cases u
  | some t =>
  rw[hz]at u;cases u;have bH:i<ts.length:=(Qd.mp hz).1;cases F:(ZL 8 (Zy L) e.n)[i]? with
  | none=>rw[Q7]at F;lia
  | some X =>
  obtain⟨x1,D,x3,x4⟩:=nw i X F;have aP:=x1.rise M.up;have e3:low e.n (ZL 8 (Zy L) e.n) (i+1)=X:=by show (ZL 8 (Zy L) e.n).getD i []=X;rw[QE,F];rfl
  have sK:I t=some (.tup [.int (ZV X).1,.int (ZV X).2]):=k5 _ _ (bZ i t X hz F) (fun z=>by have:=bZ i t X hz F;rw[z,fI]at this;cases this) (fun z=>by have:=bZ i t X hz F;rw[z,M4.stays]at this;cases this);obtain⟨nD,fh⟩:=M5.ob;rw[← x4]at gq nC ez;have Bs:=ZmB tk x1 D x3 ok;have eC:Z0 J (ZV X)=Z0 s (ZV X):=ez _ fun z=>(Lb aP D z).1 rfl;refine⟨_,rfl,m,nD,_,rfl,fh,ZiY ..,_,rfl,_,rfl,m,O,G,bump L e.n,J,nb,_,_,ai,t,v',c',cds x,X,e.n,rfl,M5,sK,nB,gq,?_,fun b B y u=>tk.ge (x1.mem B) u,aP,fun b B=>by rw[UY];exact x1.mem B,D,x3,fun v6 c6 s6 k6 q6 H6 wE wF wG j8 wH M6 Bu=>?_⟩
  ·rw[eC];rcases Bs with w|⟨t',b,y,w1,w2,_,w4⟩
   ·exact .inl w
   ·exact .inr ⟨t',b,y,w1,w2,w4⟩
  ·refine⟨v6,c6,s6,k+k6,Z+q6,_,rfl,bH,wE,by rw[e3];exact wF,M6.cast #[2] #[2],?_,fun j N=>?_,?_,fun b o B n1 n2=>Bu b o (k5 b o B n1 n2) n1 n2⟩
   ·rw[e3];refine Zlh (n:=e.n) (nC.congr (fun _ _=>rfl) fun j N=>j8 j (Lb aP D N).1) ?_ wG;have cq:=OQ aP (U0 x3);have so:Sub X (Y9 X e.n):=by unfold Y9;split;exact Sub.top.up D;exact Sub.top.lo D
    refine(ok.sub (x1.trans so)).congr (fun b B=>tk.oth b fun z=>cq (z ▸ B)) fun j N=>?_;rw[j8 j (La aP D N).1,ez j (La aP D N).2]
   ·rw[e3]at N;rw[j8 j (fun z=>N ⟨X,.top,D,z⟩),ez j (fun U=>by obtain⟨Y,y1,y2,y3⟩:=U;exact N ⟨Y,(OT D e.n).trans y1,y2,y3⟩)]
   ·have:=wH _ _ _ ag;unfold WN at this ⊢;rw[QH,F,Qf];exact this
 ·rintro σ I ⟨v',c',J,k,Z,v4,rfl,_,nB,gq,M5,nC,ez,ag,k5⟩;rw[Qa,eT,nz]at gq nC;rw[Qa,eT,QC (Qg _)]at ag;obtain⟨nD,fh⟩:=M5.ob;have fin:∀w':Option Int,w'=c'.map (·.1)→Q .non (upd I m (.ins aa nD (mgF O nb (li+k) (lo'+Z) G (Yv w')))):=fun w' ew=>by subst ew;refine q J _ k Z _ M5.obj gq.1 nC ag fun b o B nf=>?_;rw[Zb (fun z=>nf (.inl z))];exact eK (fun b o B n1 n2=>k5 b o (jC b o B) n1 n2) b o B nf
  rcases nB with⟨rfl,rfl⟩|⟨t,p,rfl,rfl,ht⟩
  ·refine⟨_,rfl,rfl,_,rfl,Yk rfl ?_⟩;refine⟨_,rfl,m,aa,nD,_,rfl,fh,T.cl_Merge,T.na_Merge_best,Wy ..,?_⟩;rw[SR];exact fin none rfl
  ·refine⟨_,rfl,rfl,_,rfl,YF (fun z=>nomatch z) ?_⟩;refine⟨_,rfl,t,_,_,_,rfl,rfl,SqT.of ht,(show atI [V.int p.1,V.int p.2] 0=some (.int p.1) from Yr (j:=0) rfl),_,rfl,m,aa,nD,_,rfl,fh,T.cl_Merge,T.na_Merge_best,Wy ..,?_⟩;rw[SR];exact fin (some p.1) rfl
def UX(L:List ZA)(w:Option Int)(x:V)(a:List ZA)(k q:Int)(b:Hp):Prop :=
 (w=none∧x=.non∧a=L∧k=0∧q=0)∨∃ (e:ZA) (t:Addr) (z:Str),e∈L∧w=some e.n∧x=.ref t∧e.ss[e.g]? = some z∧b t=some (.tup [.int e.n,.int (e.g:Int),.str z])∧a=bump L e.n∧Ag (hdM a) (cds z) (WN e.n (ZL 8 (Zy L) e.n)) k q
theorem ZjS(rd:Addr)(nb li lo:Int)(sd:Addr)(a:V):(mgF rd nb li lo sd a).lookup ("send_out" : Str)=none:=X6 _ _ _ _ _ _ #[1] #[1] #[1] #[1] #[1] #[1]
theorem OF(rd:Addr)(nb li lo:Int)(sd:Addr)(a:V):(mgF rd nb li lo sd a).lookup ("take" : Str)=none:=X6 _ _ _ _ _ _ #[1] #[1] #[1] #[1] #[1] #[1]
def KU(d e:Addr):Sp:=fun vs H Q _=>∃ (m rd sd:Addr) (L:List ZA) (s:StL) (nb li lo:Int) (w:Option Int),vs=[.ref m]∧ZP d e H m rd sd L s nb li lo (Yv w)∧Win (hdM L) (Zy L) w∧Z3 (hdM L) s (Zy L) ∧
 ∀ (x:V) (a:List ZA) (f:StL) (g:Option Int) (k q:Int) (c:Hp),UX L w x a k q c→ZP d e c m rd sd a f nb (li+k) (lo+q) (Yv g)→Win (hdM a) (Zy a) g→Z3 (hdM a) f (Zy a)→(∀b o,H b=some o→¬ Fp m rd sd L b→c b=some o)→Q x c
theorem ZoA(T:Z9 K mg ah aa ae al aj af ak)(G:Mf P w K mg base 3 aa "coming" ["self"] (OU ah aa))(I:Mf P w K mg base 5 aa "send_out" ["self", "number"] (KW ah aa)):Mf P w K mg base 6 aa "take" ["self"] (KU ah aa):=by
 refine T.t_Merge_take.mf MH (fun J H Q E h=>?_) (fun am f A outer s H J Q E u h=>?_)
 ·obtain⟨m,d,g,L,s,nb,i,lo,w,rfl,_⟩:=h;rfl
 obtain⟨m,d,g,L,s,nb,i,c,w,rfl,M,W,ok,q⟩:=h;refine⟨_,#[Zf,#[Zx,1,MH.nd,#[3],#[YN,G,T.cl_Merge,u,‹0›]],#[Zf,#[ZO,#[Zn,V1,‹1›,#[ZT],(Zu _)],#[Zi,#[YD,#[Xx,I,T.cl_Merge,u,‹0›,#[Za,#[ZQ,‹0›],#[Zd]]]]],#[ZE]],#[Zi,#[Zo,‹1›]]]],?_⟩;obtain⟨N,O⟩:=M.ob;refine⟨_,rfl,m,N,_,rfl,O,Le ..,m,d,g,L,s,nb,i,c,w,rfl,M,W,fun x S U j=>?_⟩;have M1:=M.same j;rcases U with⟨rfl,hw⟩|⟨t,e',z,rfl,V,v,B,hw⟩
 ·have l:Win (hdM L) (Zy L) none:=by rw[WA]at hw;exact hw
  have n:=W.one l;subst n;exact⟨_,rfl,rfl,_,rfl,WZ rfl ⟨_,rfl,q .non L s none 0 0 S (.inl ⟨rfl,rfl,rfl,rfl,rfl⟩) (M1.cast #[2] #[2]) W ok (fun b o p _=>j b o p)⟩⟩
 ·obtain⟨e,C,rfl⟩:=Qp.mp V;have l:Win (hdM L) (Zy L) (some e.n):=by rw[WA]at hw;exact hw
  have n:=W.one l;subst n;obtain⟨D,r⟩:=M1.ob;refine⟨_,rfl,rfl,_,rfl,Td (fun z=>nomatch z) ?_⟩;refine⟨_,rfl,m,D,_,rfl,r,ZjS ..,_,rfl,m,aa,D,_,_,rfl,r,T.cl_Merge,T.na_Merge_best,Ua ..,m,d,g,L,s,nb,i,c,_,e,z,rfl,M1,C,v,W,ok,fun X Y k Z F M2 W2 lK ag k2=>?_⟩;have bX:F t=some (.tup [.int e.n,.int (e.g:Int),.str z]):=k2 _ _ B fun hf=>by
   have a:=B;rcases hf with h|h|h|⟨y,hy,h⟩
   ·rw[h,r]at a;cases a
   ·rw[h,M1.rows]at a;cases a
   ·rw[h,M1.stays]at a;cases a
   ·have R:=(M1.each y hy).at';obtain⟨dy,lG⟩:=R.ob;rcases h with h|h|h
    ·rw[h,lG]at a;cases a
    ·rw[h,R.ks]at a;cases a
    ·rw[h,R.fs]at a;cases a
  exact⟨_,rfl,q (.ref t) (bump L e.n) X Y k Z F (.inr ⟨e,t,z,C,rfl,rfl,v,bX,rfl,ag⟩) M2 (by rw[UY];exact W2) (by rw[UY];exact lK) (fun b o p nf=>k2 b o (j b o p) nf)⟩
noncomputable abbrev ZS:=Int×List Str×Nat
noncomputable def pur(Lo:List ZF):List ZS:=Lo.map fun e=>(e.1,e.2.2)
noncomputable def Z1(L:List ZA):List ZS:=L.map fun e=>(e.n,(e.ss,e.g))
noncomputable def hdP(P:List ZS):Hd:=hdL (P.map fun x=>(x.1,0,x.2))
noncomputable def Y5(P:List ZS):List Int:=P.map (·.1)
noncomputable def V8(n:Int)(x:ZS):ZS:=if x.1=n then (x.1,x.2.1,x.2.2+1) else x
noncomputable def X5(P:List ZS)(n:Int):List ZS:=P.map (V8 n)
theorem SD(Lo:List ZF):hdL Lo=hdP (pur Lo):=SN _ _ (by unfold pur;rw[Qn,Qn];rfl)
theorem Sz(L:List ZA):hdM L=hdP (Z1 L):=SN _ _ (by unfold Z1;rw[Qn,Qn,Qn];rfl)
theorem Sy(Lo:List ZF):Lo.map (·.1)=Y5 (pur Lo):=by unfold Y5 pur;rw[Qn];rfl
theorem WM(L:List ZA):Zy L=Y5 (Z1 L):=by unfold Y5 Z1 Zy;rw[Qn];rfl
theorem KS(L:List ZA)(n:Int):Z1 (bump L n)=X5 (Z1 L) n:=by
 unfold Z1 bump X5;rw[Qn,Qn];refine QN fun e _=>?_;simp only[Function.comp];unfold V8;by_cases h:e.n=n
 ·rw[SE h,if_pos h]
 ·rw[OH h,if_neg h]
noncomputable def Ww(n:Int)(e:ZF):ZF:=if e.1=n then (e.1,e.2.1,e.2.2.1,e.2.2.2+1) else e
noncomputable def YO(Lo:List ZF)(n:Int):List ZF:=Lo.map (Ww n)
theorem KR(Lo:List ZF)(n:Int):pur (YO Lo n)=X5 (pur Lo) n:=by
 unfold pur YO X5;rw[Qn,Qn];refine QN fun e _=>?_;simp only[Function.comp];unfold V8 Ww;by_cases h:e.1=n
 ·rw[if_pos h,if_pos h]
 ·rw[if_neg h,if_neg h]
theorem KQ(P:List ZS)(n:Int):Y5 (X5 P n)=Y5 P:=by unfold Y5 X5;rw[Qn];refine QN fun x _=>?_;simp only[Function.comp];unfold V8;split<;>rfl
theorem ZqQ{P:List ZS}(nd:(Y5 P).Nodup){x:ZS}(h:x∈P):hdP P x.1=(x.2.1[x.2.2]?).map cds :=
 Ue (L:=P.map fun x:ZS=>((x.1,0,x.2):ZF)) (e:=(x.1,0,x.2)) (by rw[Qn];exact nd) (Qe (f:=fun x:ZS=>((x.1,0,x.2):ZF)) h)
def V7(P:List ZS)(x:ZS)(z:Str)(k q:Int):Prop:=x∈P∧x.2.1[x.2.2]? = some z∧Win (hdP P) (Y5 P) (some x.1)∧Ag (hdP (X5 P x.1)) (cds z) (WN x.1 (ZL 8 (Y5 P) x.1)) k q
noncomputable abbrev Xc:=Int×Nat×Str
inductive Xj (P:List ZS):List Xc→List ZS→Int→Int→Prop
 | nil:Xj P [] P 0 0
 | snoc {ts:List Xc} {P1:List ZS} {x:ZS} {z:Str} {k q k1 q1:Int}:Xj P ts P1 k q→V7 P1 x z k1 q1→Xj P (ts++[(x.1,x.2.2,z)]) (X5 P1 x.1) (k+k1) (q+q1)
inductive XH:List ZS→Int→Int→Prop
 | stop {P:List ZS}:Win (hdP P) (Y5 P) none→XH P 0 0
 | go {P:List ZS} {x:ZS} {z:Str} {k q k1 q1:Int}:V7 P x z k1 q1→XH (X5 P x.1) k q→XH P (k1+k) (q1+q)
theorem V7.one{P:List ZS}(nd:(Y5 P).Nodup){x y:ZS}{z u:Str}{k q k' a:Int}(h:V7 P x z k q)(g:V7 P y u k' a):x=y∧z=u∧k=k'∧q=a:=by obtain⟨b,c,d,e⟩:=h;obtain⟨f,i,j,l⟩:=g;have m:=Qj (d.one j);have n:=Wa nd b f m;subst n;have o:=Qj (c.symm.trans i);subst o;exact⟨rfl,rfl,e.one l⟩
theorem Xj.num{P a:List ZS}{ts:List Xc}{k q:Int}(h:Xj P ts a k q):Y5 a=Y5 P:=by
 induction h with
 | nil=>rfl
 | snoc _ _ b=>rw[KQ,b]
noncomputable def Xo(P:List ZS):Nat:=(P.map fun x=>x.2.1.length-x.2.2).sum
theorem OE:∀ (P:List ZS),(Y5 P).Nodup→∀ {x:ZS},x∈P→x.2.2<x.2.1.length→Xo (X5 P x.1)+1=Xo P
 | [],_,_,h,_=>by cases h
 | y::P,nd,x,h,a=>by
  unfold Y5 at nd;rw[Qh,QR]at nd;unfold Xo X5;rw[Qh,Qh,Qh,List.sum_cons,List.sum_cons];rcases QM.mp h with rfl|h
  ·have e:P.map (V8 x.1)=P:=by
    conv=>rhs;rw[← List.map_id P]
    refine QN fun u b=>?_;unfold V8;rw[if_neg (fun z:u.1=x.1=>nd.1 (z ▸ Qe (f:=fun x:ZS=>x.1) b))];rfl
   rw[e];unfold V8;rw[if_pos rfl];show x.2.1.length-(x.2.2+1)+_+1=_;lia
  ·have c:=OE P nd.2 h a;unfold Xo X5 at c;have e:V8 x.1 y=y:=if_neg (fun z:y.1=x.1=>nd.1 (z ▸ Qe (f:=fun x:ZS=>x.1) h));rw[e];lia
theorem Xj.left{P a:List ZS}{ts:List Xc}{k q:Int}(h:Xj P ts a k q)(nd:(Y5 P).Nodup):Xo a+ts.length=Xo P:=by
 induction h with
 | nil=>rfl
 | snoc h s ih=>have:=OE _ (by rw[h.num];exact nd) s.1 (Qd.mp s.2.1).1;rw[Qr,QB];lia
theorem KP{L a:List ZA}{w:Option Int}{x:V}{k q:Int}{H:Hp}(W:Win (hdM L) (Zy L) w)(h:UX L w x a k q H):(Win (hdP (Z1 L)) (Y5 (Z1 L)) none∧x=.non∧a=L∧k=0∧q=0)∨∃ (y:ZS) (z:Str) (t:Addr),V7 (Z1 L) y z k q∧Z1 a=X5 (Z1 L) y.1∧x=.ref t∧H t=some (.tup [.int y.1,.int (y.2.2:Int),.str z]):=by
 rw[Sz,WM]at W;rcases h with⟨rfl,c,d,g,i⟩|⟨e,t,z,j,rfl,rfl,l,m,rfl,b⟩
 ·exact .inl ⟨W,c,d,g,i⟩
 ·refine .inr ⟨(e.n,(e.ss,e.g)),z,t,⟨Qe (f:=fun e:ZA=>(e.n,(e.ss,e.g))) j,l,W,?_⟩,KS L e.n,rfl,m⟩;rw[Sz,KS,WM]at b;exact b
def Zrs(K:#[7])(f g:Addr):Sp:=fun vs H Q _=>∃ (m rd sd:Addr) (L:List ZA) (s:StL) (nb li lo:Int) (w:Option Int) (many:Int),vs=[.ref m,.int many]∧ZP f g H m rd sd L s nb li lo (Yv w)∧Win (hdM L) (Zy L) w∧Z3 (hdM L) s (Zy L)∧Xo (Z1 L)≤100000 ∧
 ∀ (r:Addr) (c:List (Addr×Xc)) (a:List ZA) (h:StL) (e:Option Int) (k q:Int) (d:Hp),H r=none→d r=some (.lst (c.map fun u=>V.ref u.1))→(∀u∈c,d u.1=some (.tup [.int u.2.1,.int (u.2.2.1:Int),.str u.2.2.2]))→Xj (Z1 L) (c.map (·.2)) (Z1 a) k q→((c.length:Int)<many→e=none)→(c≠[]→(c.length:Int)≤many)→ZP f g d m rd sd a h nb (li+k) (lo+q) (Yv e)→Win (hdM a) (Zy a) e→Z3 (hdM a) h (Zy a)→(∀b,Fp m rd sd a b↔Fp m rd sd L b)→(∀b o,H b=some o→¬ Fp m rd sd L b→d b=some o)→Q (.ref r) d
theorem UX.fp{L a:List ZA}{w:Option Int}{x:V}{k q:Int}{H:Hp}(h:UX L w x a k q H){m rd sd b:Addr}:Fp m rd sd a b↔Fp m rd sd L b:=by
 rcases h with⟨_,_,rfl,_⟩|⟨e,t,z,_,_,_,_,_,rfl,_⟩
 ·exact Iff.rfl
 ·exact⟨Zpj,Fp_bump'⟩
theorem ZP.fp_live{c d:Addr}{H:Hp}{m rd sd:Addr}{L:List ZA}{s:StL}{nb li lo:Int}{f:V}(M:ZP c d H m rd sd L s nb li lo f){b:Addr}(h:Fp m rd sd L b):∃o,H b=some o∧∀xs,o≠.tup xs:=by
 rcases h with rfl|rfl|rfl|⟨e,g,h⟩
 ·obtain⟨i,a⟩:=M.ob;exact⟨_,a,fun xs z=>by cases z⟩
 ·exact⟨_,M.rows,fun xs z=>by cases z⟩
 ·exact⟨_,M.stays,fun xs z=>by cases z⟩
 ·have R:=(M.each e g).at';obtain⟨i,a⟩:=R.ob;rcases h with rfl|rfl|rfl
  ·exact⟨_,a,fun xs z=>by cases z⟩
  ·exact⟨_,R.ks,fun xs z=>by cases z⟩
  ·exact⟨_,R.fs,fun xs z=>by cases z⟩
theorem ZP.fp_fresh{c d:Addr}{H:Hp}{m rd sd:Addr}{L:List ZA}{s:StL}{nb li lo:Int}{e:V}(M:ZP c d H m rd sd L s nb li lo e){b:Addr}(h:H b=none):¬ Fp m rd sd L b:=fun z=>by obtain⟨o,a,_⟩:=M.fp_live z;rw[h]at a;cases a
theorem ZP.fp_tup{c d:Addr}{H:Hp}{m rd sd:Addr}{L:List ZA}{s:StL}{nb li lo:Int}{e:V}(M:ZP c d H m rd sd L s nb li lo e){b:Addr}{xs:List V}(h:H b=some (.tup xs)):¬ Fp m rd sd L b:=fun z=>by obtain⟨o,a,f⟩:=M.fp_live z;rw[h]at a;cases a;exact f xs rfl
theorem Zqp(T:Z9 K mg ah aa ae al aj af ak)(br:Mf P w K mg base 6 aa "take" ["self"] (KU ah aa)):Mf P w K mg base 7 aa "take_few" ["self", "many"] (Zrs K ah aa):=by
 refine T.t_Merge_take_few.mf MG (fun vs H Q E h=>?_) (fun am f A outer s H vs Q E hr h=>?_)
 ·obtain⟨m,j,l,L,s,nb,U,lo,w,many,rfl,_⟩:=h;rfl
 obtain⟨m,j,l,L,s,nb,U,F,w,many,rfl,M,W,ok,Bv,q⟩:=h;refine⟨_,#[Zf,#[Zx,2,MG.nd,#[3],#[Z2,#[Zd]]],#[Zf,(@UV _ _ _ _ _ _ PassesOwn.never (@PW.pt _ _ _ #[Xu,#[Zn,W6,#[Zk,(YB K),#[5],T.b.n_len,Qu,#[Za,‹2›,#[Zd]]],‹1›,(Zu _)],#[Xi,#[Zn,V1,#[ZQ,‹0›],#[ZT],(Zu _)]]]) #[Zi,#[YD,#[XO,QJ,QT,QU,Wq,‹2›,#[Za,#[YN,br,T.cl_Merge,hr,‹0›],#[Zd]]]]]),#[Zi,#[Zo,‹2›]]]],?_⟩;have nd:(Y5 (Z1 L)).Nodup:=by rw[← WM];exact M.nd
 refine⟨(by show 0≤sizeLine;decide),fun r n=>?_⟩;have X:=M.fp_fresh n;refine⟨fun Y Z i=>∃ (c:List (Addr×Xc)) (d:List ZA) (s':StL) (w':Option Int) (k p:Int),Z=[some (.ref m),some (.int many),some (.ref r)]∧i r=some (.lst (c.map fun u=>V.ref u.1))∧(∀u∈c,u.1≠r∧i u.1=some (.tup [.int u.2.1,.int (u.2.2.1:Int),.str u.2.2.2]))∧Xj (Z1 L) (c.map (·.2)) (Z1 d) k p∧(c≠[]→(c.length:Int)≤many)∧ZP ah aa i m j l d s' nb (U+k) (F+p) (Yv w')∧Win (hdM d) (Zy d) w'∧Z3 (hdM d) s' (Zy d)∧(∀b,Fp m j l d b↔Fp m j l L b)∧(∀b o,H b=some o→¬ Fp m j l L b→i b=some o)∧Y=Xo (Z1 d),⟨_,[],L,s,w,0,0,rfl,Zc,(fun u h=>by cases h),.nil,(fun h=>absurd rfl h),(M.same (Zh n _)).cast #[2] #[2],W,ok,fun _=>Iff.rfl,fun b o g _=>Zh n _ _ _ g,rfl⟩,?_⟩;rintro Y Z i ⟨c,L1,s1,G,k,p,rfl,C,kP,D,j9,M2,v,lK,B,k2,rfl⟩;have J9:(((c.map fun u=>V.ref u.1).length:Nat):Int)=(c.length:Int):=by rw[Qa]
 have Bw:=D.left nd;rw[Qa]at Bw;obtain⟨gC,cA⟩:=M2.ob;have done:((c.length:Int)<many→G=none)→Q (.ref r) i:=fun hd=>q r c L1 s1 G k p i n C (fun u hu=>(kP u hu).2) D hd j9 M2 v lK B k2;refine⟨_,rfl,r,_,rfl,.inl (SqL.of C),_,rfl,_,_,rfl,rfl,_,rfl,YX (fun I=>?_) (fun I=>?_)⟩
 ·have jV:(c.length:Int)<many:=by have:=of_decide_eq_true I;lia
  refine⟨_,rfl,m,aa,gC,_,_,rfl,cA,T.cl_Merge,T.na_Merge_best,Ua ..,rfl,_,rfl,?_⟩;cases G with
  | none=>exact WZ rfl ⟨_,rfl,done fun _=>rfl⟩
  | some a =>
  refine Td (fun z=>nomatch z) ?_;refine⟨_,fun ao H' h=>h,?_⟩;refine⟨_,rfl,.inl ⟨rfl,_,SqL.of C⟩,_,rfl,m,gC,_,rfl,cA,OF ..,m,j,l,L1,s1,nb,_,_,some a,rfl,M2,v,lK,fun x L3 s3 w3 k3 q3 H3 J M3 W3 Bx N=>?_⟩;have O:H3 r=some (.lst (c.map fun u=>V.ref u.1)):=N _ _ C (fun z=>X ((B r).mp z));rcases KP v J with⟨w0,_⟩|⟨y,z,t,R,eL,rfl,S⟩
  ·rw[Sz,WM]at v;exact nomatch w0.one v
  have J':=OE _ (by rw[D.num];exact nd) R.1 (Qd.mp R.2.1).1;have pj:t≠r:=fun e=>by rw[e,O]at S;cases S
  refine⟨r,_,_,rfl,rfl,O,(by rw[Qa,sizeLine_eq];lia),Xo (Z1 L3),by rw[eL];lia,c++[(t,(y.1,y.2.2,z))],L3,s3,w3,k+k3,p+q3,rfl,by rw[Zc,Qf];rfl,fun u hu=>?_,?_,fun _=>by rw[Qr,QB];lia,?_,W3,Bx,fun b=>(J.fp).trans (B b),fun b o g nf=>?_,rfl⟩
  ·rcases Qo.mp hu with hu|hu
   ·obtain⟨g2,g3⟩:=kP u hu;exact⟨g2,by rw[Zb g2];exact N _ _ g3 (M2.fp_tup g3)⟩
   ·rw[Ql.mp hu];exact⟨pj,by rw[Zb pj];exact S⟩
  ·rw[Qf,eL];exact .snoc D R
  ·refine ZP.cast (M3.keep fun b o g cx=>?_) #[2] #[2];rw[Zb (fun e=>?_)]
   ·exact g
   ·subst e;rcases cx with hf|⟨xs,rfl⟩
    ·exact X ((B b).mp (J.fp.mp hf))
    ·rw[O]at g;cases g
  ·rw[Zb (Ze g n)];exact N b o (k2 b o g nf) (fun z=>nf ((B b).mp z))
 ·refine YY ⟨_,rfl,done fun h=>?_⟩;have:¬ ((((c.map fun u=>V.ref u.1).length:Nat):Int)<many):=fun z=>I (decide_eq_true z);lia
def KO:Sp:=fun vs H Q _=>∃ (a:Addr) (N:List Int) (n:Int),vs=[.ref a,.int n]∧H a=some (.lst (N.map V.int))∧n∈N∧N.length≤60∧YR N ∧
 ∀ (r:Addr) (c:List (Addr×Addr×Addr)) (b:Hp),H r=none→b r=some (.lst (c.map fun t=>V.ref t.1))→c.length=(ZL 8 N n).length→(∀ (i:Nat) (t:Addr×Addr×Addr) (X:List Int),c[i]? = some t→(ZL 8 N n)[i]? = some X→b t.1=some (.tup [.ref t.2.1,.ref t.2.2])∧b t.2.1=some (.lst ((ZW X n).map V.int))∧b t.2.2=some (.lst ((Y9 X n).map V.int)))→ZG H b→Q (.ref r) b
theorem OD{M:List Int}(r:YR M){n:Int}(a:n∈M):(n∈up M↔¬ n∈lo M):=by
 constructor
 ·intro h g;have:=ZN r g h;lia
 ·intro h;rw[← XV M]at a;exact(Qo.mp a).resolve_left h
theorem Zo2(T:Z9 K mg ah aa ae al aj af ak)(be:Df P w K mg base 1 "_law_halves" ["_law_numbers"] (Wg K false)):Df P w K mg base 2 "_law_way" ["_law_numbers", "_law_n"] KO:=by
 refine T.t_l_way.df Vg (fun vs H Q E h=>?_) (fun am f A outer s H vs Q E hr h=>?_)
 ·obtain⟨a,N,n,rfl,_⟩:=h;rfl
 obtain⟨a,N,n,rfl,ha,hn,eS,aP,q⟩:=h;refine⟨_,#[Zf,#[V4,2,3,Vg.nd,#[Za,#[W4,(UN K),T.b.n_list,boot_list,#[Za,‹0›,#[Zd]]],#[Za,#[Z2,#[Zd]],#[Zd]]]],#[Zf,(@UV _ _ _ _ _ _ PassesOwn.never #[Zn,Ws,#[Zk,(YB K),#[5],T.b.n_len,Qu,#[Za,‹2›,#[Zd]]],#[Zj],(Zu _)] #[Zf,#[Z6,#[Zw,be,hr,#[Za,‹2›,#[Zd]],#[5]],(@gL _ K _ _ _ 2 _ #[ZC,#[ZD,4,Vg.nd,#[3]],#[ZC,#[ZD,5,Vg.nd,#[3]],(@Yb _)]] #[5] #[5] #[5] #[5])],#[Zf,#[ZO,#[Zn,(inQ K),‹1›,‹5›,(by with_unfolding_all rfl)],#[Zi,#[V4,4,5,Vg.nd,#[Za,‹5›,#[Za,‹4›,#[Zd]]]]],#[ZE]],#[Zf,#[YD,#[XO,QJ,QT,QU,Wq,‹3›,#[Za,#[YU,#[Za,‹4›,#[Za,‹5›,#[Zd]]]],#[Zd]]]],#[Zi,#[Zx,2,Vg.nd,#[3],‹4›]]]]]),#[Zi,#[Zo,(@ZlO _ _ _ _ _ _ _ _ _ _ _ _ (Zsn K) ‹3› (@VW _) (@VW _) (@Vs _ _ _ (@US _ _ _ _ _ _ UR #[Zj])))]]]],?_⟩;refine⟨_,rfl,a,_,rfl,.inl (SqL.of ha),fun S By=>⟨(by show 0≤sizeLine;decide),fun o tf=>⟨_,_,rfl,?_⟩⟩⟩;have sb:ZG H (upd H S (.lst (N.map V.int))):=Zh By _;have hO:H o=none:=sb.free tf;have wJ:S≠o:=Ze (H:=upd H S (.lst (N.map V.int))) Zc tf;have jB:N.length≤2 ^ 8:=Qw eS #[6];refine⟨fun m σ C=>∃ (b:Addr) (M:List Int) (c:List (Addr×Addr×Addr)) (D:List (List Int)) (k:Nat) (I J:Option V),σ=[some (.ref a),some (.int n),some (.ref b),some (.ref o),I,J]∧C b=some (.lst (M.map V.int))∧b≠o∧n∈M∧YR M∧M.length≤60∧M.length≤2 ^ k∧ZL 8 N n=ZL k M n++D.reverse∧c.length=D.length∧C o=some (.lst (c.map fun t=>V.ref t.1))∧(∀ (i:Nat) (t:Addr×Addr×Addr) (X:List Int),c[i]? = some t→D[i]? = some X→C t.1=some (.tup [.ref t.2.1,.ref t.2.2])∧C t.2.1=some (.lst ((ZW X n).map V.int))∧C t.2.2=some (.lst ((Y9 X n).map V.int))∧t.1≠o∧t.2.1≠o∧t.2.2≠o)∧ZG H C∧m=M.length∧k+D.length=8,⟨_,S,N,[],[],8,none,none,rfl,by rw[Zb wJ];exact Zc,wJ,hn,aP,eS,jB,by simp,rfl,Zc,(fun i t X h=>by simp at h),sb.trans (Zh tf _),rfl,rfl⟩,?_⟩;rintro m σ C ⟨b,M,c,D,k,I,J,rfl,j,nb,U,W,C2,wK,Y,Z,ho,bZ,s2,rfl,Ka⟩;have Bg:(((M.map V.int).length:Nat):Int)=(M.length:Int):=by rw[Qa]
 refine⟨_,rfl,b,_,rfl,.inl (SqL.of j),_,_,rfl,rfl,_,rfl,?_⟩;refine YX (fun c1=>?_) (fun c1=>?_)
 ·have sU:(1:Int)<(((M.map V.int).length:Nat):Int):=of_decide_eq_true c1;have hc:2≤M.length:=by lia
  obtain⟨k',rfl⟩:∃k',k=k'+1:=by
   cases k with
   | zero=>simp at wK;lia
   | succ k'=>exact⟨k',rfl⟩
  refine⟨_,fun ao H' h=>h,?_⟩;refine⟨_,rfl,b,M,rfl,SqL.of j,by lia,fun t x y L ht hx hy Bh et ex ey O Bi Bj=>?_⟩;rw[Pr]at ex;rw[Pq]at ey;refine⟨t,_,rfl,SqL.of et,rfl,_,_,rfl,_,_,rfl,rfl,?_⟩;have F:=O _ _ ho;have au:(c.map fun t=>V.ref t.1).length<sizeLine:=by rw[Qa];exact ZB #[2]
  have nox:o≠x:=Ze ho hx;have wL:o≠y:=Ze ho hy;have j2:(ZW M n).length≤2 ^ k':=by
   rw[QaX]at wK;unfold ZW;split
   ·unfold lo mid;rw[QA];lia
   ·unfold up mid;rw[QZ];lia
  have mK:ZL 8 N n=ZL k' (ZW M n) n++(D++[M]).reverse:=by
   rw[Y]
   conv=>lhs;unfold ZL
   rw[if_pos hc,List.reverse_append,QaW];rfl
  have step:∀ (p u v:Addr) (d:Hp),L p=none→L u=some (.lst ((ZW M n).map V.int))→L v=some (.lst ((Y9 M n).map V.int))→u≠o→v≠o→d=upd (upd L p (.tup [.ref u,.ref v])) o (.lst ((c.map fun t=>V.ref t.1)++[.ref p]))→∀I J:Option V,∃m',m'<M.length∧∃ (b:Addr) (G:List Int) (c:List (Addr×Addr×Addr)) (D:List (List Int)) (k:Nat) (w4 w5:Option V),[some (V.ref a),some (V.int n),some (V.ref u),some (V.ref o),I,J]=[some (.ref a),some (.int n),some (.ref b),some (.ref o),w4,w5]∧d b=some (.lst (G.map V.int))∧b≠o∧n∈G∧YR G∧G.length≤60∧G.length≤2 ^ k∧ZL 8 N n=ZL k G n++D.reverse∧c.length=D.length∧d o=some (.lst (c.map fun t=>V.ref t.1))∧(∀ (i:Nat) (t:Addr×Addr×Addr) (X:List Int),c[i]? = some t→D[i]? = some X→d t.1=some (.tup [.ref t.2.1,.ref t.2.2])∧d t.2.1=some (.lst ((ZW X n).map V.int))∧d t.2.2=some (.lst ((Y9 X n).map V.int))∧t.1≠o∧t.2.1≠o∧t.2.2≠o)∧ZG H d∧m'=G.length∧k+D.length=8:=fun p u v d l hu hv pB wM e4 I J=>by
   have wN:p≠o:=(Ze F l).symm;have k4:∀b z,L b=some z→b≠o→d b=some z:=fun b z j nb=>by rw[e4,Zb nb,Zb (Ze j l)];exact j
   refine⟨_,OR hc n,u,ZW M n,c++[(p,u,v)],D++[M],k',I,J,rfl,k4 _ _ hu pB,pB,U0 U,(OT hc n).rise W,by have:=OR hc n;lia,j2,mK,by rw[Qr,Qr,Z];rfl,by rw[e4,Zc,Qf];rfl,fun i t X e B=>?_,fun b z j=>k4 b z (O b z (s2 b z j)) (Ze j hO),rfl,by rw[Qr,QB];lia⟩;by_cases au:i<c.length
   ·rw[QO au]at e;rw[QO #[2]]at B;obtain⟨g1,g2,g3,g4,g5,g6⟩:=bZ i t X e B;exact⟨k4 _ _ (O _ _ g1) g4,k4 _ _ (O _ _ g2) g5,k4 _ _ (O _ _ g3) g6,g4,g5,g6⟩
   ·have ei:i=c.length:=by have:=(Qd.mp e).1;rw[Qr,QB]at this;lia
    subst ei;rw[QK (Qg _),QaY]at e;cases e;rw[Z,QK (Qg _),QaY]at B;cases B;exact⟨by rw[e4,Zb wN];exact Zc,k4 _ _ hu pB,k4 _ _ hv wM,wN,pB,wM⟩
  refine⟨_,rfl,_,rfl,y,_,rfl,.inl (SqL.of ey),rfl,OK _,_,rfl,?_⟩;show if inV (V.int n) ((up M).map V.int)=true then _ else _
  rw[OL];refine YX (fun c2=>?_) (fun c2=>?_)
  ·have g8:n∈up M:=of_decide_eq_true c2;have e1:ZW M n=up M:=by unfold ZW;rw[if_neg ((OD W U).mp g8)]
   have e2:Y9 M n=lo M:=by unfold Y9;rw[if_neg ((OD W U).mp g8)]
   refine⟨_,rfl,_,rfl,_,_,rfl,?_⟩;refine⟨_,rfl,.inl ⟨rfl,_,SqL.of F⟩,_,rfl,_,rfl,(by show 2≤sizeLine;decide),fun p l=>?_⟩;refine⟨o,_,_,rfl,rfl,by rw[Zb (Ze F l)];exact F,au,_,rfl,?_⟩;exact step p y x _ l (by rw[e1];exact ey) (by rw[e2];exact ex) wL.symm nox.symm rfl _ _
  ·have g8:¬ n∈up M:=fun z=>c2 (decide_eq_true z);have hl:n∈lo M:=by
    by_cases g:n∈lo M
    ·exact g
    ·exact absurd ((OD W U).mpr g) g8
   have e1:ZW M n=lo M:=by unfold ZW;rw[if_pos hl]
   have e2:Y9 M n=up M:=by unfold Y9;rw[if_pos hl]
   refine⟨_,rfl,.inl ⟨rfl,_,SqL.of F⟩,_,rfl,_,rfl,(by show 2≤sizeLine;decide),fun p l=>?_⟩;refine⟨o,_,_,rfl,rfl,by rw[Zb (Ze F l)];exact F,au,_,rfl,?_⟩;exact step p x y _ l (by rw[e1];exact ex) (by rw[e2];exact ey) nox.symm wL.symm rfl _ _
 ·have sU:¬ (1:Int)<(((M.map V.int).length:Nat):Int):=fun z=>c1 (decide_eq_true z);have m8:ZL k M n=[]:=by
   cases k with
   | zero=>rfl
   | succ k=>unfold ZL;rw[if_neg #[2]]
  rw[m8,List.nil_append]at Y;refine⟨_,rfl,_,rfl,_,rfl,_,rfl,o,_,rfl,SqL.of ho,by decide,fun r R=>?_⟩;refine q r c.reverse _ (s2.free R) (by rw[Zc,Zlq,List.map_reverse]) (by rw[Y,QaH,QaH];exact Z) (fun i t X e B=>?_) (s2.trans (Zh R _));rw[Y]at B;have bH:i<c.length:=by have:=(Qd.mp e).1;rw[QaH]at this;exact this
  rw[List.getElem?_reverse bH]at e;rw[List.getElem?_reverse #[2],← Z]at B;obtain⟨g1,g2,g3,_⟩:=bZ _ t X e B;exact⟨Zh R _ _ _ g1,Zh R _ _ _ g2,Zh R _ _ _ g3⟩
theorem T6(n:Int)(e:ZF):(Ww n e).1=e.1∧(Ww n e).2.1=e.2.1∧(Ww n e).2.2.1=e.2.2.1:=by unfold Ww;split<;>exact⟨rfl,rfl,rfl⟩
theorem KN(Lo:List ZF)(n:Int):(YO Lo n).map (·.1)=Lo.map (·.1):=by unfold YO;rw[Qn];exact QN fun e _=>(T6 n e).1
theorem Znq(Lo:List ZF)(n:Int):kvR (YO Lo n)=kvR Lo:=by unfold kvR YO;rw[Qn];refine QN fun e _=>?_;simp only[Function.comp];rw[(T6 n e).1,(T6 n e).2.1]
theorem Zpe{Lo:List ZF}(nd:(Lo.map (·.1)).Nodup){e:ZF}(he:e∈Lo):YT (kvG Lo) (.inl e.1) (.int ((e.2.2.2:Int)+1))=kvG (YO Lo e.1):=by
 unfold YT;rw[if_pos]
 ·unfold kvG YO;rw[Qn,Qn];refine QN fun x a=>?_;simp only[Function.comp];unfold Ww;by_cases h:x.1=e.1
  ·have ex:x=e:=Wa nd a he h;subst ex;rw[if_pos rfl,if_pos rfl];show _=(_,V.int (((x.2.2.2+1:Nat)):Int));rw[Int.natCast_add];rfl
  ·rw[if_neg (fun z=>h (Sum.inl.inj z)),if_neg h]
 ·exact QaF.mpr ⟨_,Qe (f:=fun e:ZF=>((.inl e.1:Key),V.int (e.2.2.2:Int))) he,decide_eq_true rfl⟩
theorem Own.ne_l{H:Hp}{o ra ga:Addr}{L:List ZF}{nb li lo:Int}(h:Own H o ra ga L nb li lo){e:ZF}(he:e∈L):e.2.1≠o∧e.2.1≠ra∧e.2.1≠ga:=by
 have a:=(h.lst e he).1;refine⟨fun z=>?_,fun z=>?_,fun z=>?_⟩
 ·rw[z,h.at']at a;cases a
 ·rw[z,h.rows]at a;cases a
 ·rw[z,h.gone]at a;cases a
theorem Own.bump{H:Hp}{o ra ga:Addr}{L:List ZF}{nb li lo:Int}(h:Own H o ra ga L nb li lo){e:ZF}(he:e∈L)(c:e.2.2.2<e.2.2.1.length):Own (upd H ga (.dK (kvG (YO L e.1)))) o ra ga (YO L e.1) nb li lo:=by
 obtain⟨n1,d⟩:=h.ne;have f:=h.ne2 (fun z=>by rw[z]at he;cases he);refine⟨by rw[Zb d.symm];exact h.at',by rw[Zb f.symm,Znq];exact h.rows,Zc,by rw[KN];exact h.nd,by unfold YO;rw[Qa];exact h.few,fun x g=>?_⟩;obtain⟨y,a,rfl⟩:=Qp.mp g;obtain⟨a1,a2,a3,a4⟩:=h.lst y a;obtain⟨_,i,j⟩:=T6 e.1 y;rw[i,j];refine⟨by rw[Zb (h.ne_l a).2.2];exact a1,a2,?_,a4⟩;by_cases b:y.1=e.1
 ·have k:y=e:=Wa h.nd a he b;subst k;unfold Ww;rw[if_pos rfl];exact c
 ·unfold Ww;rw[if_neg b];exact a3
theorem Own.but{H c:Hp}{o ra ga:Addr}{L:List ZF}{nb li lo li' lo':Int}(h:Own H o ra ga L nb li lo)(k:∀b u,H b=some u→b≠o→c b=some u)(f:c o=some (.dK (Y7 ra ga nb li' lo'))):Own c o ra ga L nb li' lo':=by obtain⟨g,i⟩:=h.ne;exact⟨f,k _ _ h.rows g,k _ _ h.gone i,h.nd,h.few,fun e d=>let ⟨a,b⟩:=h.lst e d;⟨k _ _ a (h.ne_l d).1,b⟩⟩
def OC(Lo:List ZF)(x:V)(a:List ZF)(k q:Int)(b:Hp):Prop :=
 (x=.non∧Win (hdL Lo) (Lo.map (·.1)) none∧a=Lo∧k=0∧q=0)∨∃ (e:ZF) (t:Addr) (z:Str),e∈Lo∧Win (hdL Lo) (Lo.map (·.1)) (some e.1)∧x=.ref t∧e.2.2.1[e.2.2.2]? = some z∧b t=some (.tup [.int e.1,.int (e.2.2.2:Int),.str z])∧a=YO Lo e.1∧Ag (hdL a) (cds z) (WN e.1 (ZL 8 (Lo.map (·.1)) e.1)) k q
def ZnO:Sp:=fun vs H Q _=>∃ (o ra ga:Addr) (Lo:List ZF) (nb li lo:Int),vs=[.ref o]∧Own H o ra ga Lo nb li lo∧(Lo.map (·.1)).Pairwise (·<·) ∧
 ∀ (x:V) (c:List ZF) (k q:Int) (a:Hp),OC Lo x c k q a→Own a o ra ga c nb (li+k) (lo+q)→(∀b u,H b=some u→b≠o→b≠ga→a b=some u)→Q x a
theorem Zl8(T:Z9 K mg ah aa ae al aj af ak)(bD:Df P w K mg base 2 "_law_coming" ["_law_own"] Pg)(aG:Df P w K mg base 1 "_law_heads" ["_law_own"] Uf)(gF:Df P w K mg base 2 "_law_way" ["_law_numbers", "_law_n"] KO)(aF:Df P w K mg base 1 "_law_least" ["_law_heads_here", "_law_numbers"] (S3 K))(aV:Df P w K mg base 1 "_law_alike" ["_law_one", "_law_other"] Wi):Df P w K mg base 3 "_law_taken" ["_law_own"] ZnO:=by
 refine T.t_l_taken.df WX (fun vs H Q E h=>?_) (fun am f A outer s H vs Q E j h=>?_)
 ·obtain⟨o,F,p,Lo,nb,B,lo,rfl,_⟩:=h;rfl
 obtain⟨o,F,p,Lo,nb,B,g,rfl,O,bx,q⟩:=h;refine⟨_,#[Zf,#[Zx,1,WX.nd,#[3],#[Zw,bD,j,#[Za,‹0›,#[Zd]],#[5]]],#[Zf,#[ZO,#[Zn,XF,‹1›,#[ZT],(Zu _)],#[Zi,#[Zo,#[ZT]]],#[ZE]],#[Zf,#[Z6,‹1›,#[gT,K,3,#[ZC,#[ZD,2,WX.nd,#[3]],#[ZC,#[ZD,3,WX.nd,#[3]],#[ZC,#[ZD,4,WX.nd,#[3]],(@Yb _)]]]]],#[Zf,#[Z6,#[ZJ,YS,‹3›,#[Zj]],#[Yt,#[Zr,(ixG j),‹0›,#[Zs]],‹2›,(X9 j)]],#[Zf,#[Zx,5,WX.nd,#[3],#[Zw,aG,j,#[Za,‹0›,#[Zd]],#[5]]],#[Zf,#[Ya,PassesOwn.never,#[iL,K,#[Zw,gF,j,#[Za,#[Zk,VN,#[5],T.b.n_sorted,boot_sorted,#[Za,‹5›,#[Zd]]],#[Za,‹2›,#[Zd]]],#[5]]],#[gT,K,2,#[ZC,#[ZD,6,WX.nd,#[3]],#[ZC,#[ZD,7,WX.nd,#[3]],(@Yb _)]]],#[Zf,#[V4,8,9,WX.nd,#[Za,#[Zw,aF,j,#[Za,‹5›,#[Za,‹6›,#[Zd]]],#[5]],#[Za,#[Zw,aF,j,#[Za,‹5›,#[Za,‹7›,#[Zd]]],#[5]],#[Zd]]]],#[Zi,#[ZO,(@PW.pt _ _ _ #[Xu,#[Zn,V1,‹8›,#[ZT],(Zu _)],#[Xi,#[Zn,V1,‹9›,#[ZT],(Zu _)]]]),#[Zf,#[Z6,#[ZJ,YS,#[Zr,(ixG j),‹0›,#[Zs]],#[Zj]],#[Yt,‹0›,#[Zs],(X9 j)]],#[Zf,#[Zx,10,WX.nd,#[3],#[Zw,aV,j,#[Za,#[Zr,(ixG j),‹5›,‹8›],#[Za,‹4›,#[Zd]]],#[5]]],#[Zi,#[ZO,#[Zn,YI,‹10›,#[Zw,aV,j,#[Za,#[Zr,(ixG j),‹5›,‹9›],#[Za,‹4›,#[Zd]]],#[5]],(Zu _)],#[Zi,#[Z6,#[ZJ,YS,#[ZJ,WJ,#[ZJ,YS,#[Zr,(ixG j),‹0›,#[Zs]],#[Zw,aV,j,#[Za,#[Zr,(ixG j),‹5›,‹8›],#[Za,#[Zr,(ixG j),‹5›,‹9›],#[Zd]]],#[5]]],‹10›],#[Zj]],#[Yt,‹0›,#[Zs],(X9 j)]]],#[ZE]]]]],#[ZE]]]]],#[Zi,#[Zo,‹1›]]]]]]]],?_⟩;refine⟨_,rfl,o,F,p,Lo,nb,B,g,rfl,O,fun x H1 hc s1=>?_⟩;have U:=O.same s1;rcases hc with⟨rfl,hw⟩|⟨t,e,z,rfl,W,hz,ht,hw⟩
 ·exact⟨_,rfl,rfl,_,rfl,Yk rfl (q .non Lo 0 0 H1 (.inl ⟨rfl,hw,rfl,rfl,rfl⟩) (by rw[Qai,Qai];exact U) (fun b u c _ _=>s1 b u c))⟩
 refine⟨_,rfl,rfl,_,rfl,YF (fun z=>nomatch z) ?_⟩;refine⟨_,rfl,t,_,rfl,SqT.of ht,rfl,_,_,rfl,_,_,rfl,_,_,rfl,rfl,?_⟩;have Bz:e.2.2.2<e.2.2.1.length:=(Qd.mp hz).1;have hsz:(kvG Lo).length<sizeLine:=by unfold kvG;rw[Qa];exact ZB (by have:=O.few;lia)
 refine⟨_,rfl,_,_,rfl,rfl,_,rfl,o,_,rfl,ZX.k' (k:=.inr "gone") U.at' (VD ..),_,rfl,p,_,rfl,YG.k (k:=.inl e.1) U.gone hsz,?_⟩;rw[Zpe O.nd W];have I:=U.bump W Bz;have k2:∀b u,H b=some u→b≠p→(upd H1 p (.dK (kvG (YO Lo e.1)))) b=some u:=fun b u c n=>by rw[Zb n];exact s1 b u c
 have BA:t≠p:=fun z=>by rw[z,U.gone]at ht;cases ht
 have bX:(upd H1 p (.dK (kvG (YO Lo e.1)))) t=some (.tup [.int e.1,.int (e.2.2.2:Int),.str z]):=by rw[Zb BA];exact ht
 generalize upd H1 p (.dK (kvG (YO Lo e.1)))=H2 at I k2 bX ⊢;refine⟨_,rfl,o,F,p,YO Lo e.1,nb,B,g,rfl,I,fun D G H3 hD J ho s3=>?_⟩;have Y:=KN Lo e.1;have pC:((YO Lo e.1).map (·.1)).Pairwise (·<·):=by rw[Y];exact bx
 have vK:G.length=Lo.length:=by have:=ho.per.length_eq;rw[Y,Qa,Qa]at this;exact this
 have cm:=O.few;refine⟨_,rfl,D,_,G.map (·.1),rfl,J.at',Pj G,by rw[Qa];lia,fun l Z hl aS aP=>?_⟩;have sl:=Zh hl (.lst (Z.map V.int));have wP:(upd H3 l (.lst (Z.map V.int))) l=some (.lst (Z.map V.int)):=Zc;generalize upd H3 l (.lst (Z.map V.int))=H4 at sl wP ⊢;have s4:=s3.trans sl;have dP:=aS.trans ho.per;have cT:Z=Lo.map (·.1):=by rw[← Y];exact U3 dP (Ud aP (dP.nodup_iff.mpr I.nd)) pC
 subst cT;have dR:e.1∈Lo.map (·.1):=Qe W;have eS:(Lo.map (·.1)).length≤60:=by rw[Qa];lia
 have jB:(Lo.map (·.1)).length≤2 ^ 8:=Qw eS #[6];obtain⟨nw,nz,qE⟩:=SG 8 (Lo.map (·.1)) e.1 dR jB;refine⟨_,rfl,l,Lo.map (·.1),e.1,rfl,wP,dR,eS,bx,fun r ts H5 aE cI eT bZ s5=>?_⟩;have mW:=s4.trans s5;have lD:=I.same mW;have nF:=(J.same sl).same s5;refine⟨r,rfl,⟨_,SqL.of cI⟩,?_⟩;have BB:r≠o:=(Ze (s4 _ _ I.at') aE).symm;have wQ:D≠o:=(Ze I.at' hD).symm;have pD:∀n∈Lo.map (·.1),hdL (YO Lo e.1) n=hdE G n:=fun n hn=>ho.same I.nd n (by rw[Y];exact hn);refine Vw (K:=K) (a:=r) (xs:=ts.map fun t=>V.ref t.1) (fun i σ M=>∃ (k v:Int) (v6 v7 v8 v9 tj:Option V),σ=[some (.ref o),some (.ref t),some (.int e.1),some (.int (e.2.2.2:Int)),some (.str z),some (.ref D),v6,v7,v8,v9,tj]∧i≤ts.length∧M o=some (.dK (Y7 F p nb (B+k) (g+v)))∧Ag (hdL (YO Lo e.1)) (cds z) (WN e.1 ((ZL 8 (Lo.map (·.1)) e.1).take i)) k v∧(∀b u,H5 b=some u→b≠o→M b=some u)) ⟨0,0,_,_,_,_,_,rfl,Qs _,by rw[Qai,Qai];exact lD.at',.nil,fun b u h _=>h⟩ (fun i σ M _ hq=>by obtain⟨_,_,_,_,_,_,_,_,_,_,_,k6⟩:=hq;exact SqL.of (k6 _ _ cI BB)) ?_ ?_
 ·rintro i y σ M hy ⟨k,v,v6,v7,v8,v9,tj,rfl,hi,tq,N,k6⟩;rw[Qk]at hy;cases pE:ts[i]? with
  | none=>rw[pE]at hy;cases hy
  | some u =>
  rw[pE]at hy;cases hy;have bH:i<ts.length:=(Qd.mp pE).1;cases hX:(ZL 8 (Lo.map (·.1)) e.1)[i]? with
  | none=>rw[Q7]at hX;lia
  | some X =>
  obtain⟨x1,x2,x3,x4⟩:=nw i X hX;obtain⟨g1,g2,g3⟩:=bZ i u X pE hX;have tu:∀b w',H5 b=some w'→(∀kk,w'≠.dK kk)→b≠o:=fun b w' c hk zz=>by rw[zz,lD.at']at c;injection c with c;exact hk _ c.symm
  have BC:=k6 _ _ g1 (tu _ _ g1 fun _ z=>by cases z);have BD:=k6 _ _ g2 (tu _ _ g2 fun _ z=>by cases z);have BE:=k6 _ _ g3 (tu _ _ g3 fun _ z=>by cases z);have pm:=SI X e.1;have sA:∀b∈ZW X e.1,b∈Lo.map (·.1):=fun b c=>x1.mem (pm.mem_iff.mp (QG _ c));have sB:∀b∈Y9 X e.1,b∈Lo.map (·.1):=fun b c=>x1.mem (pm.mem_iff.mp (Qy _ c));have pF:∀b∈Lo.map (·.1),b∈G.map (·.1):=fun b c=>ho.per.mem_iff.mpr (by rw[Y];exact c);have lA:(ZW X e.1).length≤60:=by have:=OR x2 e.1;have:X.length≤(Lo.map (·.1)).length:=x1.len;lia
  have lB:(Y9 X e.1).length≤60:=by have:X.length≤(Lo.map (·.1)).length:=x1.len;have:=pm.length_eq;rw[Qr]at this;lia
  have ip:Hds M D G:=⟨k6 _ _ nF.at' wQ,nF.nd,nF.ok⟩;refine⟨u.1,_,rfl,SqT.of BC,rfl,_,_,rfl,_,_,rfl,rfl,?_⟩;refine⟨_,rfl,_,rfl,D,u.2.1,G,ZW X e.1,rfl,ip,SqL.of BD,lA,fun b c=>pF b (sA b c),fun R H7 w1 s7=>?_⟩;refine⟨_,rfl,_,rfl,D,u.2.2,G,Y9 X e.1,rfl,ip.same s7,SqL.of (s7 _ _ BE),lB,fun b c=>pF b (sB b c),fun S H8 w2 s8=>⟨_,_,rfl,?_⟩⟩;have lL:=s7.trans s8;have j0:=lL _ _ tq;have tw:Win (hdL (YO Lo e.1)) (ZW X e.1) R:=w1.congr fun m hm=>pD m (sA m hm);have tz:Win (hdL (YO Lo e.1)) (Y9 X e.1) S:=w2.congr fun m hm=>pD m (sB m hm);have j':∀b u,H5 b=some u→b≠o→H8 b=some u:=fun b u c n=>lL _ _ (k6 b u c n);have iU:WN e.1 ((ZL 8 (Lo.map (·.1)) e.1).take (i+1))=WN e.1 ((ZL 8 (Lo.map (·.1)) e.1).take i)++[(ZW X e.1,Y9 X e.1)]:=by unfold WN;rw[QH,hX,Qf];rfl
  cases R with
  | none=>exact⟨_,rfl,rfl,_,rfl,WZ rfl (YY ⟨k,v,_,_,_,_,_,rfl,bH,j0,by rw[iU];exact .no N (.inl tw),j'⟩)⟩
  | some a =>
  refine⟨_,rfl,rfl,_,rfl,Td (fun z=>nomatch z) ?_⟩;cases S with
  | none=>exact⟨_,rfl,rfl,_,rfl,WZ rfl ⟨k,v,_,_,_,_,_,rfl,bH,j0,by rw[iU];exact .no N (.inr tz),j'⟩⟩
  | some b =>
  refine⟨_,rfl,rfl,_,rfl,Td (fun z=>nomatch z) ?_⟩;obtain⟨ma,C,ea,ha⟩:=S0 w1;obtain⟨mb,L,eb,c⟩:=S0 w2;have nG:=ip.same lL;have R:=U4 J.nd (pF a (sA a ma));have S:=U4 J.nd (pF b (sB b mb));rw[ea]at R;rw[eb]at S;have gQ:hdL (YO Lo e.1) a=some (cds C):=by rw[pD a (sA a ma)];exact ha
  have bE:hdL (YO Lo e.1) b=some (cds L):=by rw[pD b (sB b mb)];exact c
  have wR:z.length≤1000:=((O.lst e W).2.2.2 z (Qv hz)).1;have jc:∀l1 l2:Int,(Y7 F p nb l1 l2).length<sizeLine:=fun _ _=>ZB (by show 5≤1000;decide);refine⟨_,rfl,o,_,rfl,ZX.k' (k:=.inr "likenings") j0 (SX ..),_,_,rfl,rfl,_,rfl,o,_,rfl,YG.k (k:=.inr "likenings") j0 (jc _ _),?_⟩;rw[LG];have pG:(upd H8 o (.dK (Y7 F p nb (B+k+1) (g+v)))) o=some (.dK (Y7 F p nb (B+k+1) (g+v))):=Zc;have nH:Hds (upd H8 o (.dK (Y7 F p nb (B+k+1) (g+v)))) D G:=⟨by rw[Zb wQ];exact nG.at',nG.nd,nG.ok⟩;have ka:∀b u,H5 b=some u→b≠o→(upd H8 o (.dK (Y7 F p nb (B+k+1) (g+v)))) b=some u:=fun b u c n=>by rw[Zb n];exact j' b u c n
  generalize upd H8 o (.dK (Y7 F p nb (B+k+1) (g+v)))=H9 at pG nH ka ⊢;refine⟨_,rfl,_,rfl,D,_,rfl,ZX.k' (k:=.inl a) nH.at' R,_,rfl,C,z,rfl,(J.lk ea).1,wR,?_⟩;refine⟨_,rfl,_,rfl,_,rfl,D,_,rfl,ZX.k' (k:=.inl b) nH.at' S,_,rfl,L,z,rfl,(J.lk eb).1,wR,rfl,_,rfl,YX (fun d=>?_) (fun d=>?_)⟩
  ·have ef:lcp (cds C) (cds z)=lcp (cds L) (cds z):=by have:=of_decide_eq_true d;injection this with this;lia
   refine⟨_,rfl,o,_,rfl,ZX.k' (k:=.inr "looks") pG (Pn ..),_,rfl,_,rfl,D,_,rfl,ZX.k' (k:=.inl a) nH.at' R,_,rfl,_,rfl,D,_,rfl,ZX.k' (k:=.inl b) nH.at' S,C,L,rfl,(J.lk ea).1,(J.lk eb).1,_,_,rfl,rfl,_,rfl,_,_,rfl,rfl,_,_,rfl,rfl,_,rfl,o,_,rfl,YG.k (k:=.inr "looks") pG (jc _ _),?_⟩;rw[LF];refine⟨k+1,v+((lcp (cds C) (cds L):Nat)-(lcp (cds C) (cds z):Nat)+1),_,_,_,_,_,rfl,bH,?_,by rw[iU];exact .eq N tw tz gQ bE ef,fun b u c n=>by rw[Zb n];exact ka b u c n⟩;rw[Zc];have e1:B+k+1=B+(k+1):=by lia
   have e2:g+v+((lcp (cds C) (cds L):Nat):Int)-((lcp (cds C) (cds z):Nat):Int)+1=g+(v+((lcp (cds C) (cds L):Nat)-(lcp (cds C) (cds z):Nat)+1)):=by lia
   rw[e1,e2]
  ·have nf:lcp (cds C) (cds z)≠lcp (cds L) (cds z):=fun e=>d (decide_eq_true (by rw[e]));exact⟨k+1,v,_,_,_,_,_,rfl,bH,by rw[show B+(k+1)=B+k+1 by lia];exact pG,by rw[iU];exact .ne N tw tz gQ bE nf,ka⟩
 ·rintro σ M ⟨k,v,v6,v7,v8,v9,tj,rfl,_,tq,N,k6⟩;rw[Qa,eT,QC (Qg _)]at N;have BF:t≠o:=fun zz=>by rw[zz,I.at']at bX;cases bX
  refine⟨_,rfl,q (.ref t) (YO Lo e.1) k v M (.inr ⟨e,t,z,W,hw,rfl,hz,k6 _ _ (mW _ _ bX) BF,rfl,N⟩) (lD.but k6 tq) (fun b u c n1 n2=>k6 b u (mW b u (k2 b u c n2)) n1)⟩
structure MS where
 m:Addr
 rd:Addr
 sd:Addr
 L:List ZA
 s:StL
 nb:Int
 li:Int
 lo:Int
 w:Option Int
structure OS where
 o:Addr
 ra:Addr
 ga:Addr
 Lo:List ZF
 nb:Int
def Y6(Y:OS)(b:Addr):Prop:=b=Y.o∨b=Y.ra∨b=Y.ga∨∃e∈Y.Lo,b=e.2.1
def MFp(X:MS)(b:Addr):Prop:=Fp X.m X.rd X.sd X.L b
structure MOk (cR cM:Addr) (H:Hp) (X:MS):Prop where
 M:ZP cR cM H X.m X.rd X.sd X.L X.s X.nb X.li X.lo (Yv X.w)
 W:Win (hdM X.L) (Zy X.L) X.w
 ok:Z3 (hdM X.L) X.s (Zy X.L)
structure Ye (cR cM:Addr) (H:Hp) (X:MS) (Y:OS):Prop where
 mg:MOk cR cM H X
 ow:Own H Y.o Y.ra Y.ga Y.Lo Y.nb X.li X.lo
 ag:Agr Y.Lo X.L
 sep:∀b,MFp X b→¬ Y6 Y b
theorem MOk.same{a b:Addr}{H c:Hp}{X:MS}(h:MOk a b H X)(s:ZG H c):MOk a b c X:=⟨h.M.same s,h.W,h.ok⟩
theorem MOk.keep{a c:Addr}{H d:Hp}{X:MS}(h:MOk a c H X)(k:∀b o,H b=some o→MFp X b∨(∃xs,o=.tup xs)→d b=some o):MOk a c d X:=⟨h.M.keep k,h.W,h.ok⟩
theorem Own.keep{H c:Hp}{o ra ga:Addr}{L:List ZF}{nb li lo:Int}(h:Own H o ra ga L nb li lo)(k:∀b u,H b=some u→Y6 ⟨o,ra,ga,L,nb⟩ b→c b=some u):Own c o ra ga L nb li lo :=
 ⟨k _ _ h.at' #[8],k _ _ h.rows (.inr #[8]),k _ _ h.gone (.inr (.inr #[8])),h.nd,h.few,fun e d=>let ⟨a,b⟩:=h.lst e d;⟨k _ _ a (.inr (.inr (.inr ⟨e,d,rfl⟩))),b⟩⟩
theorem Ye.same{a b:Addr}{H c:Hp}{X:MS}{Y:OS}(h:Ye a b H X Y)(s:ZG H c):Ye a b c X Y:=⟨h.mg.same s,h.ow.same s,h.ag,h.sep⟩
theorem KL{o ra ga:Addr}{Lo:List ZF}{nb:Int}{n:Int}{b:Addr}(h:Y6 ⟨o,ra,ga,YO Lo n,nb⟩ b):Y6 ⟨o,ra,ga,Lo,nb⟩ b:=by
 rcases h with h|h|h|⟨e',a,h⟩
 ·exact .inl h
 ·exact .inr (.inl h)
 ·exact .inr (.inr (.inl h))
 ·obtain⟨e,c,rfl⟩:=Qp.mp a;rw[(T6 n e).2.1]at h;exact .inr (.inr (.inr ⟨e,c,h⟩))
theorem ZoU{Lo:List ZF}{L:List ZA}(h:Agr Lo L):pur Lo=Z1 L:=h
theorem Own.live{H:Hp}{o ra ga:Addr}{L:List ZF}{nb li lo:Int}(h:Own H o ra ga L nb li lo){b:Addr}(hb:Y6 ⟨o,ra,ga,L,nb⟩ b):∃u,H b=some u∧∀xs,u≠.tup xs:=by
 rcases hb with rfl|rfl|rfl|⟨e,a,rfl⟩
 ·exact⟨_,h.at',fun xs z=>by cases z⟩
 ·exact⟨_,h.rows,fun xs z=>by cases z⟩
 ·exact⟨_,h.gone,fun xs z=>by cases z⟩
 ·exact⟨_,(h.lst e a).1,fun xs z=>by cases z⟩
theorem Zlg{A B:Addr}{H g h:Hp}{X:MS}{Y:OS}(p:Ye A B H X Y){x y:V}{a:List ZA}{s':StL}{l:Option Int}{k q k' v:Int}{w:List ZF}(D:UX X.L X.w x a k q g)
  (M1:ZP A B g X.m X.rd X.sd a s' X.nb (X.li+k) (X.lo+q) (Yv l)) (E:Win (hdM a) (Zy a) l) (ok1:Z3 (hdM a) s' (Zy a)) (k1:∀b o,H b=some o→¬ MFp X b→g b=some o)
  (C:OC Y.Lo y w k' v h) (F:Own h Y.o Y.ra Y.ga w Y.nb (X.li+k') (X.lo+v)) (k2:∀b u,g b=some u→b≠Y.o→b≠Y.ga→h b=some u) (n:Nat) :
  k=k'∧q=v∧Ye A B h ⟨X.m,X.rd,X.sd,a,s',X.nb,X.li+k,X.lo+q,l⟩ ⟨Y.o,Y.ra,Y.ga,w,Y.nb⟩∧IsD h (n+2) x y∧(∀b,MFp ⟨X.m,X.rd,X.sd,a,s',X.nb,X.li+k,X.lo+q,l⟩ b↔MFp X b)∧(∀b,Y6 ⟨Y.o,Y.ra,Y.ga,w,Y.nb⟩ b→Y6 Y b) ∧
   ((Win (hdP (Z1 X.L)) (Y5 (Z1 X.L)) none∧a=X.L∧k=0∧q=0)∨∃ (u:ZS) (z:Str),V7 (Z1 X.L) u z k q∧Z1 a=X5 (Z1 X.L) u.1):=by
 have m:∀b,MFp ⟨X.m,X.rd,X.sd,a,s',X.nb,X.li+k,X.lo+q,l⟩ b↔MFp X b:=fun b=>D.fp;have nd:(Y5 (Z1 X.L)).Nodup:=by rw[← WM];exact p.mg.M.nd
 have j:=ZoU p.ag;have G:∀t d,g t=some (.tup d)→h t=some (.tup d):=fun t d r=>by
  have I:∀b,Y6 Y b→∃u,g b=some u∧∀d,u≠.tup d:=fun b c=>by obtain⟨u,i,s⟩:=p.ow.live c;exact⟨u,k1 b u i (fun z=>p.sep b z c),s⟩
  refine k2 t _ r (fun z=>?_) (fun z=>?_)
  ·obtain⟨u,i,s⟩:=I t (.inl z);rw[r]at i;cases i;exact s d rfl
  ·obtain⟨u,i,s⟩:=I t (.inr (.inr (.inl z)));rw[r]at i;cases i;exact s d rfl
 have J:∀b o,g b=some o→Fp X.m X.rd X.sd a b∨(∃d,o=.tup d)→h b=some o:=fun b o c O=>by
  rcases O with P|⟨d,rfl⟩
  ·have:=p.sep b ((m b).mp P);exact k2 b o c (fun z=>this (.inl z)) (fun z=>this (.inr (.inr (.inl z))))
  ·exact G b d c
 have W:=p.mg.W;have Q:=KP W D;have Kb:=C;rcases Q with⟨K,rfl,rfl,rfl,rfl⟩|⟨u,z,t,st,L,rfl,r⟩
 ·rcases C with⟨rfl,hw,rfl,rfl,rfl⟩|⟨e,t,z,_,hw,_⟩
  ·refine⟨rfl,rfl,⟨⟨M1.keep J,E,ok1⟩,F,p.ag,fun b c=>p.sep b ((m b).mp c)⟩,V9 #[8],m,fun b c=>c,.inl ⟨K,rfl,rfl,rfl⟩⟩
  ·rw[SD,Sy,j]at hw;exact nomatch K.one hw
 ·rcases C with⟨_,hw,_⟩|⟨e,t',R,S,hw,rfl,T,U,rfl,M⟩
  ·rw[SD,Sy,j]at hw;exact nomatch hw.one st.2.2.1
  ·have N:=hw;rw[SD,Sy,j]at N;have Z:V7 (Z1 X.L) (e.1,e.2.2) R k' v:=by refine⟨by rw[← j];exact Qe (f:=fun e:ZF=>(e.1,e.2.2)) S,T,N,?_⟩;rw[SD,KR,Sy,j]at M;exact M
   obtain⟨e1,e2,e3,e4⟩:=st.one nd Z;subst e1;subst e2;subst e3;subst e4;have BG:Agr (YO Y.Lo e.1) a:=by show pur (YO Y.Lo e.1)=Z1 a;rw[KR,j,L]
   refine⟨rfl,rfl,⟨⟨M1.keep J,E,ok1⟩,F,BG,fun b c ho=>p.sep b ((m b).mp c) (KL ho)⟩,?_,m,fun b c=>KL c,.inr ⟨_,z,st,L⟩⟩;exact SJ (G _ _ r) U (by show 3≤1000;decide) (.cons (XI _) (.cons (XI _) (.cons (V9 (.inr (.inr (.inr ⟨_,rfl⟩)))) .nil)))
theorem ZlI{P:List ZS}(nd:(Y5 P).Nodup)(h:Win (hdP P) (Y5 P) none)(ok:∀x∈P,x.2.2≤x.2.1.length):Xo P=0:=by
 unfold Xo;have:∀l:List Nat,(∀a∈l,a=0)→l.sum=0:=fun l e=>by
  induction l with
  | nil=>rfl
  | cons b r j=>rw[List.sum_cons,e b #[4],j fun a c=>e a (Qx _ c)]
 refine this _ fun a c=>?_;obtain⟨x,g,rfl⟩:=Qp.mp c;have d:=h x.1 (Qe (f:=fun x:ZS=>x.1) g);rw[ZqQ nd g]at d;cases i:x.2.1[x.2.2]? with
 | none=>rw[Q7]at i;show x.2.1.length-x.2.2=0;lia
 | some y=>rw[i]at d;cases d
theorem OB{a b:Addr}{H:Hp}{X:MS}(h:MOk a b H X):(Y5 (Z1 X.L)).Nodup:=by rw[← WM];exact h.M.nd
noncomputable def T5(a:List (Addr×List Str)):List ZS:=(Xr 0 a.length).zip (a.map fun x=>(x.2,0))
theorem KJ{α a b:Type}(f:α→a)(g:α→b):∀l:List α,l.map (fun x=>(f x,g x))=(l.map f).zip (l.map g)
 | []=>rfl
 | x::r=>by rw[Qh,Qh,Qh,List.zip_cons_cons,KJ f g r]
theorem Zmt{L:List ZA}{a:List (Addr×List Str)}(h:T9 L a):Z1 L=T5 a:=by unfold Z1 T5;rw[KJ (fun e:ZA=>e.n) (fun e=>(e.ss,e.g)) L,← h.1,← h.2];rfl
def KI(K:#[7])(c d:Addr):Sp:=fun vs H Q _=>∃ (m rd sd:Addr) (L:List ZA) (s:StL) (nb li lo:Int) (h:V) (r:Addr) (ss:List Str),vs=[.ref m,.ref r]∧ZP c d H m rd sd L s nb li lo h∧(∀e∈L,e.n<nb)∧L.length<16∧H r=some (.lst (ss.map V.str))∧ss.length≤100∧(∀x∈ss,x.length≤1000∧AZ x)∧sortedS ss=true ∧
 ∀ (e:ZA) (f:Addr) (g:StL) (w:Option Int) (k q:Int) (a:Hp),e.n=nb→e.ss=ss→e.g=0→H e.p=none→H e.k=none→H e.f=none→H f=none→Win (hdM (L++[e])) (Zy (L++[e])) w→XU (hdM (L++[e])) g 8 (Zy (L++[e]))→YQ (hdM (L++[e])) 8 (Zy (L++[e])) k q→ZP c d a m rd f (L++[e]) g (nb+1) (li+k) (lo+q) (Yv w)→(∀b o,H b=some o→b≠m→b≠rd→a b=some o)→Q (.int nb) a
theorem ZjK(T:Z9 K mg ah aa ae al aj af ak)(aN:Df P w K mg base 5 "refuse_break" ["number", "keys"] (SS K))(bC:Cf P w K mg base 4 ah "Row" ["self", "keys"] (Pz ah))(ax:Mf P w K mg base 13 aa "play_all" ["self"] (SO ah aa)):Mf P w K mg base 14 aa "add_row" ["self", "row"] (KI K ah aa):=by
 refine T.t_Merge_add_row.mf MF (fun vs H Q E h=>?_) (fun am f A outer s H vs Q E G h=>?_)
 ·obtain⟨m,g,p,L,s,nb,B,lo,C,r,j,rfl,_⟩:=h;rfl
 obtain⟨m,g,p,L,s,nb,B,lo',C,r,j,rfl,M,au,cJ,aE,eF,X,dU,q⟩:=h;refine⟨_,#[Zf,#[Zx,2,MF.nd,#[3],#[ZQ,‹0›]],#[Zf,#[YD,#[Zw,aN,G,#[Za,‹2›,#[Za,‹1›,#[Zd]]],#[5]]],#[Zf,#[ZO,#[Zn,Of,#[Zk,Ni,#[5],T.b.n_len,Qu,#[Za,#[ZQ,‹0›],#[Zd]]],(@Zou _ _ _ _ T.g_MOST_ROWS #[5] #[6]),(Zu _)],#[Zi,#[Yy]],#[ZE]],#[Zf,#[Z6,#[UK,bC,G,#[Za,‹1›,#[Zd]]],#[Yt,#[ZQ,‹0›],‹2›,(X9 G)]],#[Zf,#[VZ,‹0›,#[Zj],UP],#[Zf,#[YD,#[YN,ax,T.cl_Merge,G,‹0›]],#[Zi,#[Zo,‹2›]]]]]]]],?_⟩;obtain⟨dx,I⟩:=M.ob;refine⟨_,rfl,m,aa,dx,_,_,rfl,I,T.cl_Merge,T.na_Merge_next_number,Lz ..,?_⟩;refine⟨_,rfl,_,rfl,nb,r,j,rfl,SqL.of aE,by lia,fun x D=>(X x D).1,Lp dU,fun Y J=>?_⟩;have M1:=M.same J;have dH:=J _ _ I;have ck:(((kvM L).length:Nat):Int)=(L.length:Int):=by unfold kvM;rw[Qa]
 refine⟨_,rfl,m,aa,dx,_,_,rfl,dH,T.cl_Merge,T.na_Merge_rows,XT ..,g,_,rfl,M1.rows,_,_,rfl,rfl,_,rfl,YX (fun d=>?_) (fun d=>?_)⟩
 ·have:(16:Int)≤(((kvM L).length:Nat):Int):=of_decide_eq_true d;exact absurd this #[2]
 refine⟨_,rfl,fun u l hu lG AW=>?_⟩;have N:H u=none:=J.free hu;have O:∀b o,H b=some o→(upd (upd Y l (.own u)) u (.ins ah l [])) b=some o:=fun b o c=>by have:=J _ _ c;rw[Zb (Ze this hu),Zb (Ze this lG)];exact this
 have nh:(upd (upd Y l (.own u)) u (.ins ah l [])) u=some (.ins ah l []):=Zc;generalize upd (upd Y l (.own u)) u (.ins ah l [])=H8 at O nh ⊢;refine⟨u,l,r,j,rfl,nh,O _ _ aE,eF,fun x D=>(X x D).1,fun k f F hk hf sq R k9=>⟨rfl,?_⟩⟩;have Z:ZG H F:=fun b o c=>k9 b o (O b o c) (Ze c N);have free:∀b,H8 b=none→H b=none:=fun b c=>by
  cases e:H b with
  | none=>rfl
  | some o=>rw[O b o e]at c;cases c
 have wT:=free k hk;have wU:=free f hf;have i:=M.same Z;have j6:=Z _ _ I;have j5:g≠u∧g≠k∧g≠f:=⟨Ze M.rows N,Ze M.rows wT,Ze M.rows wU⟩;have hsz:(kvM L).length<sizeLine:=by unfold kvM;rw[Qa];exact ZB #[2]
 have gz:Zt (kvM L) (.inl nb)=none:=by
  cases hv:Zt (kvM L) (.inl nb) with
  | none=>rfl
  | some v=>obtain⟨e,he,z⟩:=Qp.mp (Wl hv);injection z with z _;have:=au e he;have:=Sum.inl.inj z;lia
 refine⟨_,rfl,m,aa,dx,_,_,rfl,j6,T.cl_Merge,T.na_Merge_rows,XT ..,_,rfl,g,_,rfl,YG.k (k:=.inl nb) i.rows hsz,?_⟩;rw[Wn _ gz,show kvM L++[((.inl nb:Key),V.ref u)]=kvM (L++[⟨nb,u,k,f,j,0⟩]) by unfold kvM;rw[Qf];rfl];obtain⟨n1,n2,n3⟩:=i.ne_m;have jA:ZP ah aa (upd F g (.dK (kvM (L++[⟨nb,u,k,f,j,0⟩])))) m g p (L++[⟨nb,u,k,f,j,0⟩]) s nb B lo' C:=by
  refine⟨⟨dx,by rw[Zb n1];exact j6⟩,Zc,?_,?_,fun e he=>?_,?_,?_,by rw[Qr,QB];lia,M.sfew⟩
  ·rw[Zb (fun z=>by have:=i.stays;rw[z,i.rows]at this;cases this)];exact i.stays
  ·intro e he t ht;have c:=i.ats e he t ht;rw[Zb (fun z=>by rw[z,i.rows]at c;cases c)];exact c
  ·rcases Qo.mp he with he|he
   ·have S:=i.each e he;obtain⟨de,U⟩:=S.at'.ob;refine S.mono fun b o c cx=>?_;have nb':b≠g:=fun z=>by
     rw[z,i.rows]at c;injection c with c;subst c;rcases cx with z2|z2|z2
     ·rw[← z2,z,i.rows]at U;cases U
     ·have:=S.at'.ks;rw[← z2,z,i.rows]at this;cases this
     ·have:=S.at'.fs;rw[← z2,z,i.rows]at this;cases this
    rw[Zb nb'];exact c
   ·rw[Ql.mp he];refine Xk.keep (H:=F) ⟨R,Qs _,eF,dU,X⟩ (Zb j5.1.symm) (Zb j5.2.1.symm) (Zb j5.2.2.symm)
  ·unfold Zy;rw[Qf];refine List.pairwise_append.mpr ⟨M.up,QaR ..,fun x D y hy=>?_⟩;obtain⟨e,he,rfl⟩:=Qp.mp D;have:y=nb:=by simpa using hy
   rw[this];exact au e he
  ·rw[Qf];refine QaZ.mpr ⟨M.pd,by simp,fun a ha b c=>?_⟩;obtain⟨e,he,rfl⟩:=Qp.mp ha;have:b=u:=by simpa using c
   rw[this];obtain⟨de,U⟩:=(M.each e he).at'.ob;exact Ze U N
 have k10:∀b o,H b=some o→b≠g→(upd F g (.dK (kvM (L++[⟨nb,u,k,f,j,0⟩])))) b=some o:=fun b o c n=>by rw[Zb n];exact Z b o c
 generalize upd F g (.dK (kvM (L++[⟨nb,u,k,f,j,0⟩])))=fv at jA k10 ⊢;have kG:=k10 _ _ I n1;refine⟨_,rfl,m,aa,dx,_,_,rfl,kG,T.cl_Merge,T.na_Merge_next_number,Lz ..,_,_,rfl,rfl,dx,_,kG,Wy ..,?_⟩;rw[ZgG];have W:=jA.obj (nb':=nb+1) (li':=B) (lo':=lo') (best':=C) (dx:=dx);have k11:∀b o,H b=some o→b≠m→b≠g→(upd fv m (.ins aa dx (mgF g (nb+1) B lo' p C))) b=some o:=fun b o c n n'=>by rw[Zb n];exact k10 b o c n'
 generalize upd fv m (.ins aa dx (mgF g (nb+1) B lo' p C))=fY at W k11 ⊢;obtain⟨nK,kH⟩:=W.ob;have pJ:∀b,fY b=none→H b=none:=fun b c=>by
  cases e:H b with
  | none=>rfl
  | some o =>
   by_cases z:b=m
   ·rw[z,kH]at c;cases c
   ·by_cases z':b=g
    ·rw[z',W.rows]at c;cases c
    ·rw[k11 b o e z z']at c;cases c
 refine⟨_,rfl,m,nK,_,rfl,kH,OV ..,m,g,p,_,s,_,_,_,_,rfl,W,fun aT s' w0 k0 q0 gE fj g9 tE tF nL k12=>⟨_,rfl,?_⟩⟩;exact q ⟨nb,u,k,f,j,0⟩ aT s' w0 k0 q0 gE rfl rfl rfl N wT wU (pJ aT fj) g9 tE tF nL (fun b o c n n'=>k12 b o (k11 b o c n n') n)
theorem ZmQ{a:List ZA}{P:List ZS}{ts:List Xc}{k q:Int}{b:Option Int}{many:Nat}(nd:(Y5 P).Nodup)(h:Xj P ts (Z1 a) k q)(h1:(ts.length:Int)<(many:Int)→b=none)(h2:ts≠[]→(ts.length:Int)≤(many:Int))(W:Win (hdM a) (Zy a) b)(ok:∀x∈Z1 a,x.2.2≤x.2.1.length):ts.length=min many (Xo P):=by
 have hl:=h.left nd;by_cases c:(ts.length:Int)<(many:Int)
 ·have e:=h1 c;subst e;rw[Sz,WM]at W;have hz:=ZlI (by rw[h.num];exact nd) W ok;lia
 ·by_cases d:ts=[]
  ·subst d;simp only[List.length_nil]at c ⊢;lia
  ·have:=h2 d;lia
theorem KH{H:Hp}{n:Nat}:∀ (us vs:List (Addr×Xc)),us.map (·.2)=vs.map (·.2)→(∀u∈us,H u.1=some (.tup [.int u.2.1,.int (u.2.2.1:Int),.str u.2.2.2]))→(∀u∈vs,H u.1=some (.tup [.int u.2.1,.int (u.2.2.1:Int),.str u.2.2.2]))→F2 (IsD H (n+2)) (us.map fun u=>V.ref u.1) (vs.map fun u=>V.ref u.1)
 | [],[],_,_,_=>.nil
 | [],_::_,e,_,_=>by cases e
 | _::_,[],e,_,_=>by cases e
 | u::us,v::vs,e,h,g=>by rw[Qh,Qh]at e;obtain⟨c,d⟩:=List.cons.inj e;have f:=h u #[4];have b:=g v #[4];rw[← c]at b;exact .cons (SJ f b (by show 3≤1000;decide) (.cons (XI _) (.cons (XI _) (.cons (V9 (.inr (.inr (.inr ⟨_,rfl⟩)))) .nil)))) (KH us vs d (fun x a=>h x (Qx _ a)) (fun x a=>g x (Qx _ a)))
theorem ZoX(L:List ZF)(e:ZF):kvR (L++[e])=kvR L++[((.inl e.1:Key),V.ref e.2.1)]:=by unfold kvR;rw[Qf];rfl
theorem Zpr(L:List ZF)(e:ZF):kvG (L++[e])=kvG L++[((.inl e.1:Key),V.int (e.2.2.2:Int))]:=by unfold kvG;rw[Qf];rfl
theorem ZmA{L:List ZF}{n:Int}(h:∀e∈L,e.1<n):Zt (kvR L) (.inl n)=none:=by
 cases a:Zt (kvR L) (.inl n) with
 | none=>rfl
 | some v=>obtain⟨e,b,z⟩:=Qp.mp (Wl a);injection z with z _;have:=h e b;have:=Sum.inl.inj z;lia
theorem ZmY{L:List ZF}{n:Int}(h:∀e∈L,e.1<n):Zt (kvG L) (.inl n)=none:=by
 cases a:Zt (kvG L) (.inl n) with
 | none=>rfl
 | some v=>obtain⟨e,b,z⟩:=Qp.mp (Wl a);injection z with z _;have:=h e b;have:=Sum.inl.inj z;lia
theorem Zi5(ra ga:Addr)(nb li lo v:Int):YT (Y7 ra ga nb li lo) (.inr "number") (.int v)=Y7 ra ga v li lo:=by
 unfold YT;rw[if_pos]
 ·unfold Y7;simp only[List.map_cons,List.map_nil];rw[if_neg (fun z=>LN (Sum.inr.inj z)),if_neg (fun z=>absurd (Sum.inr.inj z) #[1]),if_pos True.intro,if_neg (fun z=>absurd (Sum.inr.inj z) #[1]),if_neg (fun z=>absurd (Sum.inr.inj z) #[1])]
 ·exact QaF.mpr ⟨(.inr "number",.int nb),by unfold Y7;simp,decide_eq_true rfl⟩
theorem Own.add{H:Hp}{o ra ga:Addr}{L:List ZF}{nb li lo:Int}(h:Own H o ra ga L nb li lo)(nga:ga≠ra)(c:∀e∈L,e.1<nb)(hf:L.length<60){r:Addr}{ss:List Str}(d:H r=some (.lst (ss.map V.str)))(hl:ss.length≤100)(f:∀s∈ss,s.length≤1000∧AZ s) :
  Own (upd (upd (upd H ra (.dK (kvR (L++[(nb,r,ss,0)])))) ga (.dK (kvG (L++[(nb,r,ss,0)])))) o (.dK (Y7 ra ga (nb+1) li lo))) o ra ga (L++[(nb,r,ss,0)]) (nb+1) li lo:=by
 obtain⟨g,i⟩:=h.ne;have j:∀e∈L++[(nb,r,ss,0)],H e.2.1=some (.lst (e.2.2.1.map V.str))∧e.2.2.1.length≤100∧e.2.2.2≤e.2.2.1.length∧∀s∈e.2.2.1,s.length≤1000∧AZ s:=fun e he=>by
  rcases Qo.mp he with he|he
  ·exact h.lst e he
  ·rw[Ql.mp he];exact⟨d,hl,Qs _,f⟩
 refine⟨Zc,?_,?_,?_,by rw[Qr,QB];lia,fun e he=>?_⟩
 ·rw[Zb g,Zb nga.symm];exact Zc
 ·rw[Zb i];exact Zc
 ·rw[Qf];refine QaZ.mpr ⟨h.nd,by simp,fun a k b l=>?_⟩;obtain⟨e,he,rfl⟩:=Qp.mp k;have:b=nb:=by simpa using l
  have:=c e he;lia
 ·obtain⟨a1,a2⟩:=j e he;refine⟨?_,a2⟩;rw[Zb (fun z=>by rw[z,h.at']at a1;cases a1),Zb (fun z=>by rw[z,h.gone]at a1;cases a1),Zb (fun z=>by rw[z,h.rows]at a1;cases a1)];exact a1
theorem Ye.but{f g:Addr}{H h:Hp}{X:MS}{Y:OS}{p:Addr}{c:Int}(pr:Ye f g H X Y)(L:Y3 H p c)(n:¬ MFp X p)(j:¬ Y6 Y p)(B:But p H h):Ye f g h X Y:=by
 have np:∀b u,H b=some u→(MFp X b∨Y6 Y b∨∃i,u=.tup i)→b≠p:=fun b u a d e=>by
  subst e;rcases d with z|z|⟨i,rfl⟩
  ·exact n z
  ·exact j z
  ·obtain⟨_,_,k,_⟩:=L;rw[k]at a;cases a
 exact⟨pr.mg.keep fun b u a d=>B b u a (np b u a (d.imp id .inr)),pr.ow.keep fun b u a l=>B b u a (np b u a (.inr (.inl l))),pr.ag,pr.sep⟩
theorem KG(rd:Addr)(nb li lo:Int)(sd:Addr)(a:V):(mgF rd nb li lo sd a).lookup ("add_row" : Str)=none:=X6 _ _ _ _ _ _ #[1] #[1] #[1] #[1] #[1] #[1]
theorem Zlx(rd:Addr)(nb li lo:Int)(sd:Addr)(a:V):(mgF rd nb li lo sd a).lookup ("take_few" : Str)=none:=X6 _ _ _ _ _ _ #[1] #[1] #[1] #[1] #[1] #[1]
theorem OA(rd:Addr)(nb li lo:Int)(sd:Addr)(a:V):(mgF rd nb li lo sd a).lookup ("row_of" : Str)=none:=X6 _ _ _ _ _ _ #[1] #[1] #[1] #[1] #[1] #[1]
theorem Zje(k f:Addr)(g:Int):(Yx k f g).lookup ("to_go" : Str)=none:=Tc _ _ _ #[1] #[1] #[1]
def KD(a b:Addr):Sp:=fun vs H Q _=>∃ (m rd sd:Addr) (L:List ZA) (s:StL) (nb li lo:Int) (c:V) (e:ZA),vs=[.ref m,.int e.n]∧ZP a b H m rd sd L s nb li lo c∧e∈L∧Q (.ref e.p) H
theorem Zl2(T:Z9 K mg ah aa ae al aj af ak):Mf P w K mg base 1 aa "row_of" ["self", "n"] (KD ah aa):=by
 refine T.t_Merge_row_of.mf ME (fun i H Q E h=>?_) (fun am f A outer s H i Q E b h=>?_)
 ·obtain⟨m,a,j,L,s,nb,l,lo,n,e,rfl,_⟩:=h;rfl
 obtain⟨m,a,j,L,s,nb,l,lo,n,e,rfl,M,c,q⟩:=h;refine⟨_,#[Zf,#[ZO,#[Zn,(Nj b),‹1›,#[ZQ,‹0›],(by with_unfolding_all rfl)],#[Zi,#[Yy]],#[ZE]],#[Zi,#[Zo,#[Zr,(ixG b),#[ZQ,‹0›],‹1›]]]],?_⟩;obtain⟨d,g⟩:=M.ob;refine⟨_,rfl,_,rfl,m,aa,d,_,_,rfl,g,T.cl_Merge,T.na_Merge_rows,XT ..,a,_,rfl,ZX.k' (k:=.inl e.n) M.rows (Wd M.nd c),_,rfl,YY ?_⟩;exact⟨_,rfl,m,aa,d,_,_,rfl,g,T.cl_Merge,T.na_Merge_rows,XT ..,_,rfl,a,_,rfl,ZX.k' (k:=.inl e.n) M.rows (Wd M.nd c),q⟩
noncomputable def Yu(L:List ZA)(n:Int):List ZA:=L.filter fun e=>decide (e.n≠n)
theorem ZmG(L:List ZA)(n:Int):Xe (kvM L) (.inl n)=kvM (Yu L n):=by unfold Xe kvM Yu;rw[Qaq];congr 1;refine List.filter_congr fun e _=>?_;exact decide_eq_decide.mpr ⟨fun h z=>h (by show (Sum.inl e.n:Key)=_;rw[z]),fun h z=>h (Sum.inl.inj z)⟩
theorem ZP.drop{f g:Addr}{H:Hp}{m rd sd:Addr}{L:List ZA}{s:StL}{nb li lo:Int}{h:V}(M:ZP f g H m rd sd L s nb li lo h)(n:Int):ZP f g (upd H rd (.dK (kvM (Yu L n)))) m rd sd (Yu L n) s nb li lo h:=by
 obtain⟨j,n2,k⟩:=M.ne_m;obtain⟨l,o⟩:=M.ob;refine⟨⟨l,by rw[Zb j];exact o⟩,Zc,by rw[Zb k.symm];exact M.stays,fun e d t p=>?_,fun e d=>?_,?_,?_,Qw (Qay ..) M.few,M.sfew⟩
 ·have:=M.ats e d t p;rw[Zb (fun z=>by rw[z,M.rows]at this;cases this)];exact this
 ·have i:=(QaM.mp d).1;obtain⟨_,_,_,a,b,c⟩:=M.ne_sd i;exact(M.each e i).keep (Zb a.symm) (Zb b.symm) (Zb c.symm)
 ·exact M.up.sublist (Qba _ QaJ)
 ·exact M.pd.sublist (Qba _ QaJ)
def KC(c d:Addr):Sp:=fun vs H Q _=>∃ (m rd sd:Addr) (L:List ZA) (s:StL) (nb li lo:Int) (h:V) (e:ZA),vs=[.ref m,.int e.n]∧ZP c d H m rd sd L s nb li lo h∧e∈L ∧
 ∀ (f:Addr) (g:StL) (w:Option Int) (k q:Int) (a:Hp),H f=none→Win (hdM (Yu L e.n)) (Zy (Yu L e.n)) w→XU (hdM (Yu L e.n)) g 8 (Zy (Yu L e.n))→YQ (hdM (Yu L e.n)) 8 (Zy (Yu L e.n)) k q→ZP c d a m rd f (Yu L e.n) g nb (li+k) (lo+q) (Yv w)→(∀b o,H b=some o→b≠m→b≠rd→a b=some o)→Q (.int ((e.ss.length:Int)-(e.g:Int))) a
theorem Zjs(T:Z9 K mg ah aa ae al aj af ak)(v:Mf P w K mg base 1 ah "to_go" ["self"] (Ui ah))(x:Mf P w K mg base 1 aa "row_of" ["self", "n"] (KD ah aa))(y:Mf P w K mg base 13 aa "play_all" ["self"] (SO ah aa)):Mf P w K mg base 14 aa "drop_row" ["self", "n"] (KC ah aa):=by
 refine T.t_Merge_drop_row.mf Tj (fun B H Q E h=>?_) (fun am f A outer s H B Q E d h=>?_)
 ·obtain⟨m,a,g,L,s,nb,l,lo,p,e,rfl,_⟩:=h;rfl
 obtain⟨m,a,g,L,s,nb,l,i,p,e,rfl,M,j,q⟩:=h;refine⟨_,#[Zf,#[Zx,2,Tj.nd,#[3],#[YN,v,T.cl_Row,d,#[Xx,x,T.cl_Merge,d,‹0›,#[Za,‹1›,#[Zd]]]]],#[Zf,#[YD,#[XO,QW,Qaz,PySem.F.type_dict_pop,RT,#[ZQ,‹0›],#[Za,‹1›,#[Zd]]]],#[Zf,#[YD,#[YN,y,T.cl_Merge,d,‹0›]],#[Zi,#[Zo,‹2›]]]]],?_⟩;obtain⟨r,t⟩:=M.ob;have Re:=M.each e j;obtain⟨C,D⟩:=Re.at'.ob;refine⟨_,rfl,m,r,_,rfl,t,OA ..,_,rfl,m,a,g,L,s,nb,l,i,p,e,rfl,M,j,e.p,C,_,rfl,D,Zje ..,e.p,e.k,e.f,e.ss,e.g,rfl,Re.at',?_⟩;refine⟨_,rfl,m,aa,r,_,_,rfl,t,T.cl_Merge,T.na_Merge_rows,XT ..,.inr (.inr (.inl ⟨rfl,.inl ⟨_,M.rows⟩⟩)),_,rfl,a,_,.inl e.n,_,rfl,rfl,M.rows,Wd M.nd j,?_⟩;rw[ZmG];have k:=M.drop e.n;have k10:∀b o,H b=some o→b≠a→(upd H a (.dK (kvM (Yu L e.n)))) b=some o:=fun b o c n=>by rw[Zb n];exact c
 have free:∀b,(upd H a (.dK (kvM (Yu L e.n)))) b=none→H b=none:=fun b c=>by
  by_cases z:b=a
  ·rw[z,Zc]at c;cases c
  ·rw[Zb z]at c;exact c
 generalize upd H a (.dK (kvM (Yu L e.n)))=fv at k k10 free ⊢;obtain⟨F,G⟩:=k.ob;refine⟨_,rfl,m,F,_,rfl,G,OV ..,m,a,g,_,s,_,_,_,_,rfl,k,fun u I J k0 N O R S U V W k12=>⟨_,rfl,?_⟩⟩;exact q u I J k0 N O (free u R) S U V W (fun b o c n X=>k12 b o (k10 b o c X) n)
noncomputable def X4(L:List ZF)(n:Int):List ZF:=L.filter fun e=>decide (e.1≠n)
theorem Zm6(L:List ZF)(n:Int):Xe (kvR L) (.inl n)=kvR (X4 L n):=by unfold Xe kvR X4;rw[Qaq];congr 1;exact List.filter_congr fun e _=>decide_eq_decide.mpr ⟨fun h z=>h (by show (Sum.inl e.1:Key)=_;rw[z]),fun h z=>h (Sum.inl.inj z)⟩
theorem ZnZ(L:List ZF)(n:Int):Xe (kvG L) (.inl n)=kvG (X4 L n):=by unfold Xe kvG X4;rw[Qaq];congr 1;exact List.filter_congr fun e _=>decide_eq_decide.mpr ⟨fun h z=>h (by show (Sum.inl e.1:Key)=_;rw[z]),fun h z=>h (Sum.inl.inj z)⟩
theorem Own.drop{H:Hp}{o ra ga:Addr}{L:List ZF}{nb li lo:Int}(h:Own H o ra ga L nb li lo)(nga:ga≠ra)(n:Int):Own (upd (upd H ra (.dK (kvR (X4 L n)))) ga (.dK (kvG (X4 L n)))) o ra ga (X4 L n) nb li lo:=by obtain⟨d,f⟩:=h.ne;refine⟨by rw[Zb f.symm,Zb d.symm];exact h.at',by rw[Zb nga.symm];exact Zc,Zc,h.nd.sublist (Qba _ QaJ),Qw (Qay ..) h.few,fun e g=>?_⟩;have c:=(QaM.mp g).1;obtain⟨a,b⟩:=h.lst e c;obtain⟨_,i,j⟩:=h.ne_l c;exact⟨by rw[Zb j,Zb i];exact a,b⟩
theorem Znn{Lo:List ZF}{L:List ZA}(h:Agr Lo L)(n:Int):Agr (X4 Lo n) (Yu L n):=by
 unfold Agr X4 Yu at *
 have:=congrArg (List.filter fun x:ZS=>decide (x.1≠n)) h;rw[Qaq,Qaq]at this;exact this
theorem Zoe{Lo:List ZF}{L:List ZA}(h:Agr Lo L){e:ZA}(he:e∈L):∃a∈Lo,a.1=e.n∧a.2.2=(e.ss,e.g):=by
 have:(e.n,(e.ss,e.g))∈Lo.map (fun e=>(e.1,e.2.2)):=by rw[h];exact Qe (f:=fun e:ZA=>(e.n,(e.ss,e.g))) he
 obtain⟨a,b,c⟩:=Qp.mp this;injection c with d g;exact⟨a,b,d,g⟩
inductive Vy where
 | add|drop|grow
noncomputable def Vy.word:Vy→Str
 | .add => "add"
 | .drop => "drop"
 | .grow => "grow"
noncomputable def Vy.nb(nb:Int):Vy→Int
 | .add=>nb+1
 | _=>nb
noncomputable def KA(P:List ZS)(n:Int)(ks:List Str):Vy→List ZS
 | .add=>P++[(n,ks,0)]
 | .drop=>P.filter fun x=>decide (x.1≠n)
 | .grow=>P.map fun x=>if x.1=n then (x.1,x.2.1++ks,x.2.2) else x
def Zqo(P:List ZS)(nb n:Int)(ks:List Str):Vy→Prop
 | .add=>n=nb∧(∀x∈P,x.1<nb)∧P.length<16∧sortedS ks=true∧ks.length≤100
 | .drop=>∃x∈P,x.1=n
 | .grow=>False
def ZqC(f g:Addr):Sp:=fun vs H Q _=>∃ (X:MS) (Y:OS) (t r:Addr) (d:Vy) (n:Int) (ks:List Str),vs=[.ref X.m,.ref Y.o,.ref t]∧Ye f g H X Y∧Y.ga≠Y.ra∧X.nb=Y.nb∧H t=some (.tup [.str d.word,.int n,.ref r])∧H r=some (.lst (ks.map V.str))∧¬ MFp X r∧¬ Y6 Y r∧(∀x∈ks,x.length≤1000∧AZ x)∧ks.length≤100∧Zqo (Z1 X.L) X.nb n ks d ∧
 ∀ (a:MS) (c:OS) (e:Hp),Ye f g e a c→a.m=X.m→c.o=Y.o→c.ga≠c.ra→a.nb=c.nb→a.nb=d.nb X.nb→Z1 a.L=KA (Z1 X.L) n ks d→(∀b,MFp a b→MFp X b∨H b=none)→(∀b,Y6 c b→Y6 Y b∨H b=none)→(∀b u,H b=some u→¬ MFp X b→¬ Y6 Y b→e b=some u)→Q (.bl true) e
theorem Kz{m o:Addr}{H d h:Hp}{X:MS}{Y:OS}(pr:Ye m o H X Y){f:List ZF}{nb' p k q k' r:Int}{i:Addr}{a:List ZA}{s':StL}{j:Option Int}(s:Own d Y.o Y.ra Y.ga f nb' (X.li+k) (X.lo+q))(y:∀b u,H b=some u→¬ Y6 Y b→d b=some u)(A:∀b u,H b=some u→d b≠none)(B:∀b,Y6 ⟨Y.o,Y.ra,Y.ga,f,nb'⟩ b→Y6 Y b∨H b=none)
  (M2:ZP m o h X.m X.rd i a s' p (X.li+k') (X.lo+r) (Yv j)) (C:Win (hdM a) (Zy a) j) (D:Z3 (hdM a) s' (Zy a)) (t:∀b u,d b=some u→¬ MFp X b→h b=some u) (v:∀b,Fp X.m X.rd i a b→MFp X b∨d b=none) (ag:Agr f a) (E:k=k') (eq:q=r) :
  Ye m o h ⟨X.m,X.rd,i,a,s',p,X.li+k,X.lo+q,j⟩ ⟨Y.o,Y.ra,Y.ga,f,nb'⟩∧(∀b,MFp ⟨X.m,X.rd,i,a,s',p,X.li+k,X.lo+q,j⟩ b→MFp X b∨H b=none)∧(∀b u,H b=some u→¬ MFp X b→¬ Y6 Y b→h b=some u):=by
 subst E;subst eq;have w:∀b,Y6 ⟨Y.o,Y.ra,Y.ga,f,nb'⟩ b→¬ MFp X b:=fun b c x=>by
  rcases B b c with z|z
  ·exact pr.sep b x z
  ·obtain⟨u,g,_⟩:=pr.mg.M.fp_live x;rw[z]at g;cases g
 refine⟨⟨⟨M2,C,D⟩,s.keep fun b u c l=>t b u c (w b l),ag,fun b c l=>?_⟩,fun b c=>?_,fun b u c n F=>t b u (y b u c F) n⟩
 ·rcases v b c with z|z
  ·exact w b l z
  ·obtain⟨u,g,_⟩:=s.live l;rw[z]at g;cases g
 ·rcases v b c with z|z
  ·exact .inl z
  ·cases e:H b with
   | none=>exact .inr rfl
   | some u=>exact absurd z (A b u e)
theorem Ye.nO{c d:Addr}{H:Hp}{X:MS}{Y:OS}(pr:Ye c d H X Y){b:Addr}{u:HO}(hb:H b=some u)(e:MFp X b∨∃xs,u=.tup xs):¬ Y6 Y b:=fun z=>by
 rcases e with f|⟨xs,rfl⟩
 ·exact pr.sep b f z
 ·obtain⟨u',a,g⟩:=pr.ow.live z;rw[hb]at a;cases a;exact g xs rfl
theorem Ky(rd:Addr)(nb li lo:Int)(sd:Addr)(a:V):(mgF rd nb li lo sd a).lookup ("drop_row" : Str)=none:=X6 _ _ _ _ _ _ #[1] #[1] #[1] #[1] #[1] #[1]
theorem Zki(rd:Addr)(nb li lo:Int)(sd:Addr)(a:V):(mgF rd nb li lo sd a).lookup ("grow" : Str)=none:=X6 _ _ _ _ _ _ #[1] #[1] #[1] #[1] #[1] #[1]
theorem ZmJ(T:Z9 K mg ah aa ae al aj af ak)(aH:Df P w K mg base 5 "_law_same" ["_law_found", "_law_due"] (Tg 4))(bS:Df P w K mg base 10 "_law_play" ["_law_own"] Pf)(bi:Mf P w K mg base 14 aa "add_row" ["self", "row"] (KI K ah aa))(bK:Mf P w K mg base 14 aa "drop_row" ["self", "n"] (KC ah aa)):Df P w K mg base 15 "_law_done" ["_law_merge", "_law_own", "_law_deed"] (ZqC ah aa):=by
 refine T.t_l_done.df Vf (fun vs H Q E h=>?_) (fun am f A outer s H vs Q E p h=>?_)
 ·obtain⟨X,Y,t,r,d,n,j,rfl,_⟩:=h;rfl
 obtain⟨X,Y,t,r,d,n,j,rfl,B,o,pK,ht,aE,BH,BI,jj,nN,hd,q⟩:=h;refine⟨_,#[Zf,#[Z6,‹2›,#[gT,K,3,#[ZC,#[ZD,3,Vf.nd,#[3]],#[ZC,#[ZD,4,Vf.nd,#[3]],#[ZC,#[ZD,5,Vf.nd,#[3]],(@Yb _)]]]]],#[Zf,#[Zx,6,Vf.nd,#[3],#[W4,(UN K),T.b.n_list,boot_list,#[Za,‹5›,#[Zd]]]],#[Zf,#[ZO,#[Zn,YI,‹3›,#[Zs],(Zu _)],#[Zf,#[Z6,#[W4,(UN K),T.b.n_list,boot_list,#[Za,‹5›,#[Zd]]],#[Yt,#[Zr,(ixG p),‹1›,#[Zs]],‹4›,(X9 p)]],#[Zf,#[Z6,#[Zj],#[Yt,#[Zr,(ixG p),‹1›,#[Zs]],‹4›,(X9 p)]],#[Zf,#[Z6,#[ZJ,YS,‹4›,#[Zj]],#[Yt,‹1›,#[Zs],(X9 p)]],#[Zf,#[YD,#[Zw,bS,p,#[Za,‹1›,#[Zd]],#[5]]],#[Zi,#[Zo,#[Wt,#[Zw,aH,p,#[Za,#[Xx,bi,T.cl_Merge,p,‹0›,#[Za,‹5›,#[Zd]]],#[Za,‹4›,#[Zd]]],#[5]],(@UW _ _ _ _ _ #[WI,(@eqD _ K _ p #[5]),‹5›,‹6›,(Zu _)])]]]]]]],#[ZE]],#[Zf,#[ZO,#[Zn,YI,‹3›,#[Zs],(Zu _)],#[Zf,#[Zx,7,Vf.nd,#[3],#[ZJ,WJ,#[Zk,(YB K),#[5],T.b.n_len,Qu,#[Za,#[XO,QW,Qaz,PySem.F.type_dict_pop,RT,#[Zr,(ixG p),‹1›,#[Zs]],#[Za,‹4›,#[Zd]]],#[Zd]]],#[XO,QW,Qaz,PySem.F.type_dict_pop,RT,#[Zr,(ixG p),‹1›,#[Zs]],#[Za,‹4›,#[Zd]]]]],#[Zf,#[YD,#[Zw,bS,p,#[Za,‹1›,#[Zd]],#[5]]],#[Zi,#[Zo,#[Zw,aH,p,#[Za,#[Xx,bK,T.cl_Merge,p,‹0›,#[Za,‹4›,#[Zd]]],#[Za,‹7›,#[Zd]]],#[5]]]]]],#[ZE]],#[Zf,#[Yy],#[Zf,#[Yy],#[Zf,#[Yy],#[Zi,#[Yy]]]]]]]]],?_⟩;refine⟨_,rfl,t,_,rfl,SqT.of ht,rfl,_,_,rfl,_,_,rfl,_,_,rfl,rfl,?_⟩;refine⟨_,rfl,r,_,rfl,.inl (SqL.of aE),fun S tH=>?_⟩;have G:=Zh tH (.lst (j.map V.str));have qH:(upd H S (.lst (j.map V.str))) S=some (.lst (j.map V.str)):=Zc;have D:=B.same G;have eA:=G _ _ aE;have BJ:¬ Y6 Y S:=fun z=>by obtain⟨u,U,_⟩:=B.ow.live z;rw[tH]at U;cases U
 have BK:¬ MFp X S:=B.mg.M.fp_fresh tH;generalize upd H S (.lst (j.map V.str))=l at G qH D eA ⊢;have v:=D.ow;obtain⟨n1,n2⟩:=v.ne;have C3:Y.Lo.length=X.L.length:=by have:=congrArg List.length (XJ B.ag);unfold Zy at this;rw[Qa,Qa]at this;exact this
 have cm:=B.ow.few;have wW:(kvR Y.Lo).length<sizeLine:=by unfold kvR;rw[Qa];exact ZB #[2]
 have wX:(kvG Y.Lo).length<sizeLine:=by unfold kvG;rw[Qa];exact ZB #[2]
 have wY:∀x∈j,AZ x:=fun x W=>(jj x W).2;have bx:(Y.Lo.map (·.1)).Pairwise (·<·):=by rw[XJ B.ag];exact B.mg.M.up
 have Z:∀ {O:MS} {R:OS} {H9:Hp},(∀b u,H b=some u→¬ MFp X b→¬ Y6 Y b→H9 b=some u)→Ye ah aa H9 O R→O.m=X.m→R.o=Y.o→R.ga≠R.ra→O.nb=R.nb→O.nb=d.nb X.nb→Z1 O.L=KA (Z1 X.L) n j d→(∀b,MFp O b→MFp X b∨l b=none)→(∀b,Y6 R b→Y6 Y b∨l b=none)→Q (.bl true) H9:=fun k9 p9 a b c d' e f' g h=>q _ _ _ p9 a b c d' e f' (fun b i=>(g b i).imp id fun z=>G.free z) (fun b i=>(h b i).imp id fun z=>G.free z) k9;cases d with
 | add =>
  obtain⟨rfl,au,cJ,BL,_⟩:=hd;have qI:∀e∈X.L,e.n<X.nb:=fun e he=>au _ (Qe (f:=fun e:ZA=>(e.n,(e.ss,e.g))) he);have wZ:X.L.length<16:=by unfold Z1 at cJ;rw[Qa]at cJ;exact cJ
  have kI:∀e∈Y.Lo,e.1<X.nb:=fun e he=>by
   have:e.1∈Zy X.L:=by rw[← XJ B.ag];exact Qe (f:=fun e:ZF=>e.1) he
   obtain⟨e',ba,z⟩:=Qp.mp this;rw[← z];exact qI e' ba
  refine⟨_,rfl,rfl,_,rfl,Yk rfl ?_⟩;refine⟨_,rfl,r,_,rfl,.inl (SqL.of eA),fun c hc=>?_⟩;have sc:=Zh hc (.lst (j.map V.str));have jh:(upd l c (.lst (j.map V.str))) c=some (.lst (j.map V.str)):=Zc;have pL:=D.same sc;have Kc:¬ Y6 Y c:=fun z=>by obtain⟨u,U,_⟩:=v.live z;rw[hc]at U;cases U
  have tI:∀b,(upd l c (.lst (j.map V.str))) b=none→l b=none:=fun b i=>sc.free i;generalize upd l c (.lst (j.map V.str))=H2 at sc jh pL tI ⊢;have I:=pL.ow;refine⟨_,rfl,Y.o,_,rfl,ZX.k' (k:=.inr "rows") I.at' (WS ..),_,rfl,Y.ra,_,rfl,YG.k (k:=.inl X.nb) I.rows wW,?_⟩;rw[Wn _ (ZmA kI),← ZoX Y.Lo (X.nb,c,j,0)];refine⟨_,rfl,Y.o,_,rfl,ZX.k' (k:=.inr "gone") (by rw[Zb n1.symm];exact I.at') (VD ..),_,rfl,Y.ga,_,rfl,YG.k (k:=.inl X.nb) (by rw[Zb o];exact I.gone) wX,?_⟩;rw[Wn _ (ZmY kI),show kvG Y.Lo++[((.inl X.nb:Key),V.int 0)]=kvG (Y.Lo++[(X.nb,c,j,0)]) from(Zpr Y.Lo (X.nb,c,j,0)).symm];refine⟨_,rfl,_,_,rfl,rfl,_,rfl,Y.o,_,rfl,YG.k (k:=.inr "number") (by rw[Zb n2.symm,Zb n1.symm];exact I.at') (ZB (by simp[Y7])),?_⟩;rw[Zi5];rw[← pK]at I;have J:=I.add o kI #[2] jh nN jj;have k3:∀b u,H2 b=some u→¬ Y6 Y b→(upd (upd (upd H2 Y.ra (.dK (kvR (Y.Lo++[(X.nb,c,j,0)])))) Y.ga (.dK (kvG (Y.Lo++[(X.nb,c,j,0)])))) Y.o (.dK (Y7 Y.ra Y.ga (X.nb+1) X.li X.lo))) b=some u:=fun b u i nO=>by rw[Zb (fun z=>nO (.inl z)),Zb (fun z=>nO (.inr (.inr (.inl z)))),Zb (fun z=>nO (.inr (.inl z)))];exact i
  generalize upd (upd (upd H2 Y.ra (.dK (kvR (Y.Lo++[(X.nb,c,j,0)])))) Y.ga (.dK (kvG (Y.Lo++[(X.nb,c,j,0)])))) Y.o (.dK (Y7 Y.ra Y.ga (X.nb+1) X.li X.lo))=H3 at J k3 ⊢;have nP:((Y.Lo++[((X.nb,c,j,0):ZF)]).map (fun e:ZF=>e.1)).Pairwise (·<·):=by
   rw[Qf];refine List.pairwise_append.mpr ⟨bx,QaR ..,fun x W y hy=>?_⟩;obtain⟨e,he,rfl⟩:=Qp.mp W;have:y=X.nb:=by simpa using hy
   rw[this];exact kI e he
  refine⟨_,rfl,Y.o,Y.ra,Y.ga,_,_,_,_,rfl,J,nP,fun e he=>(J.ne_l he).1,fun k6 q6 C tJ fE b4=>?_⟩;have F:∀b u,l b=some u→¬ Y6 Y b→C b=some u:=fun b u i nO=>b4 b u (k3 b u (sc b u i) nO) (fun z=>nO (.inl z));have nQ:MOk ah aa C X:=D.mg.keep fun b u i cx=>F b u i (D.nO i cx);have lm:=F _ _ eA BI;obtain⟨iR,fI⟩:=nQ.M.ob;refine⟨_,rfl,X.m,iR,_,rfl,fI,KG ..,_,rfl,X.m,X.rd,X.sd,X.L,X.s,X.nb,X.li,X.lo,_,r,j,rfl,nQ.M,qI,wZ,lm,nN,jj,BL,fun ne aT s' w' k7 q7 H5 en pM eg BM BN BO jz W5 S5 P5 L k5=>?_⟩;refine⟨_,rfl,.int X.nb,.int X.nb,rfl,XI _,fun H6 M=>⟨_,rfl,Xz ?_⟩⟩;have kM:∀b u,C b=some u→¬ MFp X b→H5 b=some u:=fun b u i nM=>k5 b u i (fun z=>nM (.inl z)) (fun z=>nM (.inr (.inl z)));have ln:=M _ _ (kM _ _ lm BH);have BP:=M _ _ (kM _ _ (F _ _ qH BJ) BK);refine⟨_,rfl,_,rfl,.list (j.map PyData.str),.list (j.map PyData.str),.lst (SqL.of ln) (U9 j),.lst (SqL.of BP) (U9 j),PR j wY,PR j wY,?_⟩;rw[if_neg Qq,Me];have N:Agr (Y.Lo++[((X.nb,c,j,0):ZF)]) (X.L++[ne]):=by show pur (Y.Lo++[((X.nb,c,j,0):ZF)])=Z1 (X.L++[ne]);have h0:pur Y.Lo=Z1 X.L:=B.ag;unfold pur Z1 at h0 ⊢;rw[Qf,Qf,h0,List.map_singleton,List.map_singleton,en,pM,eg]
  obtain⟨tK,tL⟩:=tJ.one (by rw[SM N,XJ N];exact P5);have tM:=UZ 8 (hdM (X.L++[ne])) s' (Zy (X.L++[ne])) L.up (Qw (show (Zy (X.L++[ne])).length≤60 by unfold Zy;rw[Qa];exact L.few) #[6]) #[6] S5;have gG:∀b,Y6 ⟨Y.o,Y.ra,Y.ga,Y.Lo++[((X.nb,c,j,0):ZF)],X.nb+1⟩ b→Y6 Y b∨l b=none:=fun b i=>by
   rcases i with z|z|z|⟨e,he,z⟩
   ·exact .inl (.inl z)
   ·exact .inl (.inr (.inl z))
   ·exact .inl (.inr (.inr (.inl z)))
   ·rcases Qo.mp he with he|he
    ·exact .inl (.inr (.inr (.inr ⟨e,he,z⟩)))
    ·rw[Ql.mp he]at z;exact .inr (by rw[z];exact hc)
  have hv:∀b u,l b=some u→C b≠none:=fun b u i m=>by
   by_cases z:Y6 Y b
   ·obtain⟨u',hu',_⟩:=fE.live (b:=b) (by
     rcases z with z|z|z|⟨e,he,z⟩
     ·exact .inl z
     ·exact .inr (.inl z)
     ·exact .inr (.inr (.inl z))
     ·exact .inr (.inr (.inr ⟨e,QG _ he,z⟩)))
    rw[m]at hu';cases hu'
   ·rw[F b u i z]at m;cases m
  have lM:∀b,Fp X.m X.rd aT (X.L++[ne]) b→MFp X b∨C b=none:=fun b i=>by
   rcases i with z|z|z|⟨e,he,z⟩
   ·exact .inl (.inl z)
   ·exact .inl (.inr (.inl z))
   ·exact .inr (by rw[z];exact jz)
   ·rcases Qo.mp he with he|he
    ·exact .inl (.inr (.inr (.inr ⟨e,he,z⟩)))
    ·rw[Ql.mp he]at z;rcases z with z|z|z
     ·exact .inr (by rw[z];exact BM)
     ·exact .inr (by rw[z];exact BN)
     ·exact .inr (by rw[z];exact BO)
  obtain⟨p5,f5,k15⟩:=Kz D fE F hv gG L W5 tM kM lM N tK tL;refine Z (fun b u i n n'=>M _ _ (k15 b u (G _ _ i) n n')) (p5.same M) rfl rfl o rfl rfl ?_ f5 gG;show Z1 (X.L++[ne])=Z1 X.L++[(X.nb,j,0)];unfold Z1;rw[Qf,List.map_singleton,en,pM,eg]
 | drop =>
  obtain⟨x,W,BQ⟩:=hd;obtain⟨e,he,rfl⟩:=Qp.mp W;have w6:e.n=n:=BQ;subst w6;obtain⟨eo,gk,e1,e2⟩:=Zoe B.ag he;obtain⟨lo1,_,_,_⟩:=v.lst eo gk;have BR:Zt (kvR Y.Lo) (.inl e.n)=some (.ref eo.2.1):=by rw[← e1];exact Pk v.nd gk
  have BS:Zt (kvG Y.Lo) (.inl e.n)=some (.int (eo.2.2.2:Int)):=by rw[← e1];exact SW v.nd gk
  refine⟨_,rfl,rfl,_,rfl,YF (by intro z;injection z with z;exact absurd z #[1]) ?_⟩;refine⟨_,rfl,rfl,_,rfl,Yk rfl ?_⟩;refine⟨_,rfl,Y.o,_,rfl,ZX.k' (k:=.inr "rows") v.at' (WS ..),.inr (.inr (.inl ⟨rfl,.inl ⟨_,v.rows⟩⟩)),_,rfl,Y.ra,_,.inl e.n,_,rfl,rfl,v.rows,BR,?_⟩;rw[Zm6];refine⟨eo.2.1,_,rfl,.inl (SqL.of (by rw[Zb (v.ne_l gk).2.1];exact lo1)),?_⟩;refine⟨_,rfl,Y.o,_,rfl,ZX.k' (k:=.inr "gone") (by rw[Zb n1.symm];exact v.at') (VD ..),.inr (.inr (.inl ⟨rfl,.inl ⟨_,by rw[Zb o];exact v.gone⟩⟩)),_,rfl,Y.ga,_,.inl e.n,_,rfl,rfl,(by rw[Zb o];exact v.gone),BS,?_⟩;rw[ZnZ];refine⟨_,_,rfl,rfl,?_⟩;have J:=v.drop o e.n;have k3:∀b u,l b=some u→¬ Y6 Y b→(upd (upd l Y.ra (.dK (kvR (X4 Y.Lo e.n)))) Y.ga (.dK (kvG (X4 Y.Lo e.n)))) b=some u:=fun b u i nO=>by rw[Zb (fun z=>nO (.inr (.inr (.inl z)))),Zb (fun z=>nO (.inr (.inl z)))];exact i
  have v3:∀b u,l b=some u→(upd (upd l Y.ra (.dK (kvR (X4 Y.Lo e.n)))) Y.ga (.dK (kvG (X4 Y.Lo e.n)))) b≠none:=fun b u i m=>by
   by_cases z:b=Y.ga
   ·rw[z,Zc]at m;cases m
   ·rw[Zb z]at m;by_cases z':b=Y.ra
    ·rw[z',Zc]at m;cases m
    ·rw[Zb z',i]at m;cases m
  generalize upd (upd l Y.ra (.dK (kvR (X4 Y.Lo e.n)))) Y.ga (.dK (kvG (X4 Y.Lo e.n)))=H3 at J k3 v3 ⊢;have nP:((X4 Y.Lo e.n).map (fun e:ZF=>e.1)).Pairwise (·<·):=bx.sublist (Qba _ QaJ);refine⟨_,rfl,Y.o,Y.ra,Y.ga,_,_,_,_,rfl,J,nP,fun e he=>(J.ne_l he).1,fun k6 q6 C tJ fE b4=>?_⟩;have F:∀b u,l b=some u→¬ Y6 Y b→C b=some u:=fun b u i nO=>b4 b u (k3 b u i nO) (fun z=>nO (.inl z));have nQ:MOk ah aa C X:=D.mg.keep fun b u i cx=>F b u i (D.nO i cx);obtain⟨iR,fI⟩:=nQ.M.ob;refine⟨_,rfl,X.m,iR,_,rfl,fI,Ky ..,_,rfl,X.m,X.rd,X.sd,X.L,X.s,X.nb,X.li,X.lo,_,e,rfl,nQ.M,he,fun aT s' w' k7 q7 H5 jz W5 S5 P5 L k5=>?_⟩;refine⟨_,rfl,_,_,rfl,(by rw[e2,Qa];exact XI _),fun H6 M=>?_⟩;have kM:∀b u,C b=some u→¬ MFp X b→H5 b=some u:=fun b u i nM=>k5 b u i (fun z=>nM (.inl z)) (fun z=>nM (.inr (.inl z)));have N:=Znn B.ag e.n;obtain⟨tK,tL⟩:=tJ.one (by rw[SM N,XJ N];exact P5);have tM:=UZ 8 (hdM (Yu X.L e.n)) s' (Zy (Yu X.L e.n)) L.up (Qw (show (Zy (Yu X.L e.n)).length≤60 by unfold Zy;rw[Qa];exact L.few) #[6]) #[6] S5;have gG:∀b,Y6 ⟨Y.o,Y.ra,Y.ga,X4 Y.Lo e.n,Y.nb⟩ b→Y6 Y b∨l b=none:=fun b i=>.inl (by
   rcases i with z|z|z|⟨e',ba,z⟩
   ·exact .inl z
   ·exact .inr (.inl z)
   ·exact .inr (.inr (.inl z))
   ·exact .inr (.inr (.inr ⟨e',(QaM.mp ba).1,z⟩)))
  have hv:∀b u,l b=some u→C b≠none:=fun b u i m=>by
   by_cases z:b=Y.o
   ·rw[z,fE.at']at m;cases m
   ·cases h3:H3 b with
    | none=>exact v3 b u i h3
    | some u3=>rw[b4 b u3 h3 z]at m;cases m
  have lM:∀b,Fp X.m X.rd aT (Yu X.L e.n) b→MFp X b∨C b=none:=fun b i=>by
   rcases i with z|z|z|⟨e',ba,z⟩
   ·exact .inl (.inl z)
   ·exact .inl (.inr (.inl z))
   ·exact .inr (by rw[z];exact jz)
   ·exact .inl (.inr (.inr (.inr ⟨e',(QaM.mp ba).1,z⟩)))
  obtain⟨p5,f5,k15⟩:=Kz D fE F hv gG L W5 tM kM lM N tK tL;refine Z (fun b u i n n'=>M _ _ (k15 b u (G _ _ i) n n')) (p5.same M) rfl rfl o pK rfl ?_ f5 gG;show Z1 (Yu X.L e.n)=(Z1 X.L).filter fun x=>decide (x.1≠e.n);unfold Z1 Yu;rw[Qaq];rfl
 | grow=>exact hd.elim
structure Wk (I:List ZS→Int→Prop) (cR cM:Addr) (HB:Hp) (p:Addr) (H:Hp) (X:MS) (Y:OS):Prop where
 pr:Ye cR cM H X Y
 nga:Y.ga≠Y.ra
 nb:X.nb=Y.nb
 inv:I (Z1 X.L) X.nb
 fM:∀b,MFp X b→HB b=none
 fO:∀b,Y6 Y b→HB b=none
 but:But p HB H
section
variable {I:List ZS→Int→Prop} {cR cM:Addr} {HB:Hp} {p:Addr} {H H':Hp} {X X':MS} {Y Y':OS}
theorem Wk.to(W:Wk I cR cM HB p H X Y)(d:∃u,H p=some u)(f:Ye cR cM H' X' Y')(g:Y'.ga≠Y'.ra)(nb':X'.nb=Y'.nb)(h:I (Z1 X'.L) X'.nb)(fM:∀b,MFp X' b→MFp X b∨H b=none)(fO:∀b,Y6 Y' b→Y6 Y b∨H b=none)(k:∀b u,H b=some u→¬ MFp X b→¬ Y6 Y b→H' b=some u):Wk I cR cM HB p H' X' Y':=by
 have old:∀b,H b=none→HB b=none:=fun b a=>by
  cases e:HB b with
  | none=>rfl
  | some u =>
   by_cases z:b=p
   ·obtain⟨u',c⟩:=d;rw[z,c]at a;cases a
   ·rw[W.but b u e z]at a;cases a
 refine⟨f,g,nb',h,fun b a=>(fM b a).elim (W.fM b) (old b),fun b a=>(fO b a).elim (W.fO b) (old b),fun b u a n=>k b u (W.but b u a n) (fun z=>?_) (fun z=>?_)⟩
 ·rw[W.fM b z]at a;cases a
 ·rw[W.fO b z]at a;cases a
theorem Wk.same(W:Wk I cR cM HB p H X Y)(s:ZG H H'):Wk I cR cM HB p H' X Y:=⟨W.pr.same s,W.nga,W.nb,W.inv,W.fM,W.fO,W.but.trans (But.same s)⟩
theorem Wk.np(W:Wk I cR cM HB p H X Y)(hB:∃u,HB p=some u):¬ MFp X p∧¬ Y6 Y p:=by obtain⟨u,a⟩:=hB;exact⟨fun z=>(by rw[W.fM p z]at a;cases a),fun z=>(by rw[W.fO p z]at a;cases a)⟩
theorem Wk.draw(W:Wk I cR cM HB p H X Y)(hB:∃u,HB p=some u){c:Int}(L:Y3 H p c)(B:But p H H'):Wk I cR cM HB p H' X Y:=⟨W.pr.but L (W.np hB).1 (W.np hB).2 B,W.nga,W.nb,W.inv,W.fM,W.fO,W.but.trans B⟩
theorem Wk.left(W:Wk I cR cM HB p H X Y)(hB:∃u,HB p=some u){c:Int}(L:Y3 H p c)(k:∀b u,H b=some u→¬ MFp X b→¬ Y6 Y b→H' b=some u):Y3 H' p c:=by obtain⟨a,d,e,c0⟩:=L;exact⟨a,d,k _ _ e (W.np hB).1 (W.np hB).2,c0⟩
theorem Wk.imp{J:List ZS→Int→Prop}(W:Wk I cR cM HB p H X Y)(h:I (Z1 X.L) X.nb→J (Z1 X.L) X.nb):Wk J cR cM HB p H X Y:=⟨W.pr,W.nga,W.nb,h W.inv,W.fM,W.fO,W.but⟩
theorem Wk.take(r:∀P nb n,I P nb→I (X5 P n) nb){f c:Hp}(W:Wk I cR cM HB p H X Y)(s:∃u,H p=some u){x y:V}{a:List ZA}{s':StL}{g:Option Int}{k q k' h:Int}{i:List ZF}(t:UX X.L X.w x a k q f)
  (M1:ZP cR cM f X.m X.rd X.sd a s' X.nb (X.li+k) (X.lo+q) (Yv g)) (v:Win (hdM a) (Zy a) g) (ok1:Z3 (hdM a) s' (Zy a)) (k1:∀b o,H b=some o→¬ MFp X b→f b=some o)
  (w:OC Y.Lo y i k' h c) (A:Own c Y.o Y.ra Y.ga i Y.nb (X.li+k') (X.lo+h)) (k2:∀b u,f b=some u→b≠Y.o→b≠Y.ga→c b=some u) :
  ∃ (X':MS) (Y':OS),Wk I cR cM HB p c X' Y'∧X'.m=X.m∧Y'.o=Y.o∧IsD c 4 x y∧(∀b,MFp X' b→MFp X b)∧(∀b,Y6 Y' b→Y6 Y b)∧(∀b u,H b=some u→¬ MFp X b→¬ Y6 Y b→c b=some u):=by
 obtain⟨ek,eq,B,C,j,l,D⟩:=Zlg W.pr t M1 v ok1 k1 w A k2 2;have kk:∀b u,H b=some u→¬ MFp X b→¬ Y6 Y b→c b=some u:=fun b u d n m=>k2 b u (k1 b u d n) (fun z=>m (.inl z)) (fun z=>m (.inr (.inr (.inl z))));refine⟨_,_,W.to s B W.nga W.nb ?_ (fun b d=>.inl ((j b).mp d)) (fun b d=>.inl (l b d)) kk,rfl,rfl,C,fun b d=>(j b).mp d,l,kk⟩;rcases D with⟨_,e,_⟩|⟨u,z,_,E⟩
 ·rw[show a=X.L from e];exact W.inv
 ·show I (Z1 a) X.nb;rw[E];exact r _ _ _ W.inv
end
theorem Zp7{I:List ZS→Int→Prop}{v w:Addr}{c f h g:Hp}{p r o ra ga m rd sd:Addr}{a:List (Addr×List Str)}{Lo:List ZF}{L:List ZA}{st:StL}{i:Option Int}{k0 j k2 x:Int}
  (gI:We c r a) (B:I (T5 a) (a.length:Int)) (C:c o=none) (D:c ra=none) (E:c ga=none) (nga:ga≠ra) (F:∀e∈Lo,c e.2.1=none∧e.2.1≠o)
  (G:SU Lo a) (ow:Own f o ra ga Lo (a.length:Int) k0 j) (H:YQ (hdL Lo) 8 (Lo.map (·.1)) k0 j) (k:ZG c f) (hm:f m=none) (l:ZG f h) (n:ZP v w g m rd sd L st (a.length:Int) k2 x (Yv i)) (q:T9 L a) (J:Win (hdM L) (Zy L) i) (K:XU (hdM L) st 8 (Zy L)) (M:YQ (hdM L) 8 (Zy L) k2 x)
  (y:∀b,Fp m rd sd L b→b=m∨h b=none) (k8:∀b u,h b=some u→b≠m→g b=some u):∃ (X:MS) (Y:OS),Wk I v w c p g X Y∧X.m=m∧Y.o=o:=by
 have A:ZG f g:=fun b o d=>k8 b o (l b o d) (Ze d hm);have N:ZG c g:=k.trans A;have s:Agr Lo L:=Zpq G q rfl;obtain⟨O,P⟩:=H.one (by rw[SM s,XJ s];exact M);subst O;subst P;have Q:=UZ 8 (hdM L) st (Zy L) n.up (Qw (show (Zy L).length≤60 by unfold Zy;rw[Qa];exact n.few) #[6]) #[6] K;have R:=Zmt q;have sF:L.length=a.length:=by have:=congrArg List.length q.1;unfold Zy at this;rw[Qa,UM]at this;exact this
 refine⟨⟨m,rd,sd,L,st,(a.length:Int),k0,j,i⟩,⟨o,ra,ga,Lo,(a.length:Int)⟩,⟨⟨⟨n,J,Q⟩,ow.same A,s,fun b d S=>?_⟩,nga,rfl,?_,fun b d=>?_,fun b d=>?_,But.same N⟩,rfl,rfl⟩
 ·obtain⟨u,t,_⟩:=ow.live S;rcases y b d with z|z
  ·rw[z,hm]at t;cases t
  ·rw[l _ _ t]at z;cases z
 ·show I (Z1 L) _;rw[R];exact B
 ·rcases y b d with z|z
  ·rw[z];exact k.free hm
  ·exact k.free (l.free z)
 ·rcases d with z|z|z|⟨T,U,z⟩
  ·rw[z];exact C
  ·rw[z];exact D
  ·rw[z];exact E
  ·rw[z];exact(F T U).1
theorem ZlT{a:Int}(h0:0≤a)(h:a<1000000):a.natAbs.log2<1920:=by
 by_cases z:a.natAbs=0
 ·rw[z];decide
 ·have b:a.natAbs<2 ^ 20:=by lia
  exact Qt ((Nat.log2_lt z).mpr b) #[6]
theorem Zpc{a:Int}(h:a.natAbs.log2<1920):(Str.ofString (toString a)).length≤1921:=by have e:=int_text_length_le (k:=1920) #[6] h;rw[PySem.ofString_length];lia
theorem Kx{A B:Prop}(h:B):if (!true)=true then A else B:=YY h
theorem Zmn{L:List ZA}{n:Int}(a:n ∉ Zy L):Zt (kvM L) (.inl n)=none:=by
 cases b:Zt (kvM L) (.inl n) with
 | none=>rfl
 | some v=>obtain⟨e,c,z⟩:=Qp.mp (Wl b);injection z with z _;injection z with z;exact absurd (show n∈Zy L by rw[← z];exact Qe (f:=fun e:ZA=>e.n) c) a
def Oz(a b c:Addr):Sp:=fun vs H _ E=>∃ (m rd sd:Addr) (L:List ZA) (s:StL) (nb li lo:Int) (d:V) (n:Int),vs=[.ref m,.int n]∧ZP a b H m rd sd L s nb li lo d∧n ∉ Zy L∧0≤n∧n<1000000∧E (.ref c) none H
theorem Zkf(T:Z9 K mg ah aa ae al aj af ak):M1f P w K mg base 1 aa "row_of" ["self", "n"] (Oz ah aa aj):=by
 refine T.t_Merge_row_of.mf1 ME (fun i H Q E h=>?_) (fun am f A outer s H i Q E d h=>?_)
 ·obtain⟨m,e,j,L,s,nb,l,lo,o,n,rfl,_⟩:=h;rfl
 obtain⟨m,e,j,L,s,nb,l,lo,o,n,rfl,M,p,r,t,q⟩:=h;refine⟨_,#[Zf,#[ZO,#[Zn,(Nj d),‹1›,#[ZQ,‹0›],(by with_unfolding_all rfl)],#[Zi,(@ZrU _ _ _ _ _ _ _ _ _ _ _ _ T.xw_NoRow (fun _ _ h=>h.unwish) d #[Za,(@Zl9 _ _ _ _ _ _ (@MY _ _ _ _ _ #[Zs] (@MY _ _ _ _ _ (@ZoL _ _ _ _ ‹1›) (@Zqs _)))),#[Zd]] #[5] #[6] #[5] #[5])],#[ZE]],#[Zi,#[Yy]]],?_⟩;obtain⟨u,v⟩:=M.ob;refine⟨_,rfl,_,rfl,m,aa,u,_,_,rfl,v,T.cl_Merge,T.na_Merge_rows,XT ..,e,_,rfl,ZX.k' (k:=.inl n) M.rows (Zmn p),_,rfl,Xz ?_⟩;have g:=ZlT r t;have B:=Zpc g;have z:∀ {x y:Str} {n m:Nat},x.length≤n→y.length≤m→n+m≤10000→(x++y).length≤n+m:=fun a b c=>by rw[strLen_append];lia
 have y:∀ {x:Str},x.length≤10000→x.length≤sizeLine:=fun h=>by rw[sizeLine_eq];lia
 have a1:(Str.empty++("there is no row " : Str)).length≤0+16:=z #[6] #[6] #[6];have a2:=z a1 B #[6];exact⟨_,rfl,y (Qw a1 #[6]),_,rfl,_,rfl,g,_,rfl,y (Qw a2 #[6]),y (Qw a2 #[6]),_,rfl,q⟩
def Kw(a b c:Addr):Sp:=fun vs H _ E=>∃ (m rd sd:Addr) (L:List ZA) (s:StL) (nb li lo:Int) (d:V) (n:Int),vs=[.ref m,.int n]∧ZP a b H m rd sd L s nb li lo d∧n ∉ Zy L∧0≤n∧n<1000000∧E (.ref c) none H
theorem ZhZ(T:Z9 K mg ah aa ae al aj af ak)(g:Mf P w K mg base 1 ah "to_go" ["self"] (Ui ah))(i:M1f P w K mg base 1 aa "row_of" ["self", "n"] (Oz ah aa aj)):M1f P w K mg base 14 aa "drop_row" ["self", "n"] (Kw ah aa aj):=by
 refine T.t_Merge_drop_row.mf1 Tj (fun j H Q E h=>?_) (fun am f A outer s H j Q E a h=>?_)
 ·obtain⟨m,b,c,L,s,nb,d,lo,e,n,rfl,_⟩:=h;rfl
 obtain⟨m,b,c,L,s,nb,d,lo,e,n,rfl,M,k,l,o,q⟩:=h;refine⟨_,#[Zf,#[Zx,2,Tj.nd,#[3],#[YN,g,T.cl_Row,a,#[Vk,i,T.cl_Merge,(fun _ _ h=>h.unwish),a,‹0›,#[Za,‹1›,#[Zd]]]]],#[Zf,#[Yy],#[Zf,#[Yy],#[Zi,#[Yy]]]]],?_⟩;obtain⟨p,r⟩:=M.ob;exact⟨_,rfl,m,p,_,rfl,r,OA ..,_,rfl,m,b,c,L,s,nb,d,lo,e,n,rfl,M,k,l,o,q⟩
def Kv(a b c:Addr):Sp:=fun vs H _ E=>∃ (m rd sd:Addr) (L:List ZA) (s:StL) (nb li lo:Int) (d:V) (n:Int) (k:Addr),vs=[.ref m,.int n,.ref k]∧ZP a b H m rd sd L s nb li lo d∧n ∉ Zy L∧0≤n∧n<1000000∧E (.ref c) none H
theorem Znu(T:Z9 K mg ah aa ae al aj af ak)(e:M1f P w K mg base 1 aa "row_of" ["self", "n"] (Oz ah aa aj)):M1f P w K mg base 14 aa "grow" ["self", "n", "keys"] (Kv ah aa aj):=by
 refine T.t_Merge_grow.mf1 MD (fun g H Q E h=>?_) (fun am f A outer s H g Q E i h=>?_)
 ·obtain⟨m,a,b,L,s,nb,c,lo,d,n,k,rfl,_⟩:=h;rfl
 obtain⟨m,a,b,L,s,nb,c,lo,d,n,k,rfl,M,j,l,o,q⟩:=h;refine⟨_,#[Zf,#[Zx,3,MD.nd,#[3],#[Vk,e,T.cl_Merge,(fun _ _ h=>h.unwish),i,‹0›,#[Za,‹1›,#[Zd]]]],#[Zf,#[Yy],#[Zf,#[Yy],#[Zf,#[Yy],#[Zi,#[Yy]]]]]],?_⟩;obtain⟨p,r⟩:=M.ob;exact⟨_,rfl,m,p,_,rfl,r,OA ..,_,rfl,m,a,b,L,s,nb,c,lo,d,n,rfl,M,j,l,o,q⟩
def Zl3(b c:Addr):Sp:=fun vs H Q _=>∃ (ask:Str) (m rd sd:Addr) (L:List ZA) (s:StL) (nb li lo:Int) (d:V) (n:Int) (k:Addr),vs=[.str ask,.ref m,.int n,.ref k]∧(ask = "drop"∨ask = "grow")∧ZP b c H m rd sd L s nb li lo d∧n ∉ Zy L∧0≤n∧n<1000000∧∀a,ZG H a→Q (.str "no row") a
theorem ZjN(T:Z9 K mg ah aa ae al aj af ak)(O:M1f P w K mg base 14 aa "drop_row" ["self", "n"] (Kw ah aa aj))(R:M1f P w K mg base 14 aa "grow" ["self", "n", "keys"] (Kv ah aa aj)) :
  Df P w K mg base 16 "_law_refused" ["_law_ask", "_law_merge", "_law_given", "_law_more"] (Zl3 ah aa):=by
 refine T.t_l_refused.df Up (fun S H Q E h=>?_) (fun am f A outer s H S Q E y h=>?_)
 ·obtain⟨ask,m,g,i,L,s,nb,j,lo,o,n,k,rfl,_⟩:=h;rfl
 obtain⟨ask,m,g,i,L,s,nb,j,lo,o,n,k,rfl,W,M,B,C,D,q⟩:=h;refine⟨_,#[Zf,#[Zx,4,Up.nd,#[3],#[ZT]],#[Xd,(@Zoq _ _ _ _ _ _ _ _ _ _ _ 5 _ _ (fun U E=>#[Zi,#[ZO,#[Zn,YI,‹0›,#[Zs],(Zu _)],#[Zi,#[Yy]],#[Zi,#[ZO,#[Zn,YI,‹0›,#[Zs],(Zu _)],#[Zi,#[Yy]],#[Zi,#[ZO,#[Zn,YI,‹0›,#[Zs],(Zu _)],#[Zi,#[YD,#[Vk,O,T.cl_Merge,(fun _ _ h=>h.unwish),y,‹1›,#[Za,‹2›,#[Zd]]]]],#[Zi,#[YD,#[Vk,R,T.cl_Merge,(fun _ _ h=>h.unwish),y,‹1›,#[Za,‹2›,#[Za,‹3›,#[Zd]]]]]]]]]]]]) (fun e=>#[Zi,#[Zx,4,Up.nd,#[3],‹5›]]) ⟨rfl,rfl⟩ rfl T.m_MergeError T.x_MergeError rfl Up.nd rfl rfl rfl #[6]),#[Zf,#[ZO,#[Zn,XF,‹4›,#[ZT],(Zu _)],#[Zi,#[Yy]],#[ZE]],#[Zf,#[Zx,6,Up.nd,#[3],#[Z2,#[Za,#[Zk,(isX K),#[5],T.b.n_isinstance,boot_isinstance,#[Za,‹4›,#[Za,#[Vl,T.m_Full],#[Zd]]]],#[Za,#[Zk,(isX K),#[5],T.b.n_isinstance,boot_isinstance,#[Za,‹4›,#[Za,#[Vl,T.m_NoRow],#[Zd]]]],#[Za,#[Zk,(isX K),#[5],T.b.n_isinstance,boot_isinstance,#[Za,‹4›,#[Za,#[Vl,T.m_OutOfOrder],#[Zd]]]],#[Zd]]]]]],#[Zf,#[ZO,(@PW.pt _ _ _ #[Xh,#[Zn,Sl,#[XO,QJ,PySem.F.slot_list_count,PySem.F.type_list_count,ZqS,‹6›,#[Za,#[Yd],#[Zd]]],#[Zj],(Zu _)],#[Xh,#[Yi,#[Zk,(isX K),#[5],T.b.n_isinstance,boot_isinstance,#[Za,‹4›,#[Za,#[Vl,T.m_BadLine],#[Zd]]]]],#[Xa,#[XR,#[Yi,#[Zk,(isX K),#[5],T.b.n_isinstance,boot_isinstance,#[Za,‹4›,#[Za,#[X1,T.b.n_ValueError,ZfS],#[Zd]]]]]]]]]),#[Zi,#[Yy]],#[ZE]],#[Zf,#[ZO,#[Yi,#[Zr,(ixL K),‹6›,#[Zj]]],#[Zi,#[Yy]],#[ZE]],#[Zi,#[Zo,#[Zr,(ixL K),#[Z2,#[Za,#[Zs],#[Za,#[Zs],#[Zd]]]],#[XO,QJ,PySem.F.slot_list_index,PySem.F.type_list_index,ZqP,‹6›,#[Za,#[Yd],#[Zd]]]]]]]]]]]],?_⟩;obtain⟨F,p⟩:=M.ob;refine⟨fun G a=>∃ (e:Addr) (I:Option V),G=[some (.str ask),some (.ref m),some (.int n),some (.ref k),some (.ref e),I,none]∧a e=some (exO e aj none)∧ZG H a,?_,?_⟩
 ·rcases W with rfl|rfl
  ·refine⟨_,rfl,rfl,_,rfl,YF (by intro z;injection z with z;revert z;ac_rfl) ?_⟩;refine⟨_,rfl,rfl,_,rfl,YF (by intro z;injection z with z;revert z;ac_rfl) ?_⟩;refine⟨_,rfl,rfl,_,rfl,Yk rfl ?_⟩;refine⟨_,rfl,m,F,_,rfl,p,Ky ..,_,rfl,m,g,i,L,s,nb,j,lo,o,n,rfl,M,B,C,D,?_⟩;exact⟨aj,_,rfl,T.xw_NoRow.cls,by simp,fun e r=>⟨_,rfl,e,_,rfl,Zc,Zh r _⟩⟩
  ·refine⟨_,rfl,rfl,_,rfl,YF (by intro z;injection z with z;revert z;ac_rfl) ?_⟩;refine⟨_,rfl,rfl,_,rfl,YF (by intro z;injection z with z;revert z;ac_rfl) ?_⟩;refine⟨_,rfl,rfl,_,rfl,YF (by intro z;injection z with z;revert z;ac_rfl) ?_⟩;refine⟨_,rfl,m,F,_,rfl,p,Zki ..,_,rfl,_,rfl,m,g,i,L,s,nb,j,lo,o,n,k,rfl,M,B,C,D,?_⟩;exact⟨aj,_,rfl,T.xw_NoRow.cls,by simp,fun e r=>⟨_,rfl,e,_,rfl,Zc,Zh r _⟩⟩
 rintro G a ⟨e,I,rfl,d,X⟩;have kr:∀ {c:Addr} {b:Bool},PySem.W.kitOne K (.ref aj) (.ref c)=some b→∀u,ZI (.ref c) u→PySem.W.kitOne K (.ref aj) u=some b:=fun Y u t=>by cases t;exact Y
 refine⟨_,rfl,rfl,_,rfl,YF (by intro z;cases z) ?_⟩;refine⟨_,rfl,e,aj,none,_,_,rfl,d,T.xg_NoRow,.inl rfl,kr T.ki_NoRow_Full,T.kg,T.kt,?_⟩;refine⟨_,rfl,e,aj,none,_,_,rfl,d,T.xg_NoRow,.inl rfl,kr T.ki_NoRow_NoRow,T.kg,T.kt,?_⟩;refine⟨_,rfl,e,aj,none,_,_,rfl,d,T.xg_NoRow,.inl rfl,kr T.ki_NoRow_OutOfOrder,T.kg,T.kt,?_⟩;refine⟨ZB #[6],fun l Z=>?_⟩;have J:ZG a (upd a l (.lst ([false,true,false].map V.bl))):=Zh Z _;have v:(upd a l (.lst ([false,true,false].map V.bl))) l=some (.lst ([false,true,false].map V.bl)):=Zc;have N:=J _ _ d;refine⟨_,rfl,.inl ⟨rfl,_,SqL.of Zc⟩,l,[false,true,false],true,rfl,rfl,v,?_⟩;refine⟨rfl,_,rfl,WZ #[6] ?_⟩;refine⟨_,rfl,e,aj,none,_,_,rfl,N,T.xg_NoRow,.inl rfl,kr T.ki_NoRow_BadLine,T.kg,T.kt,_,rfl,YY ?_⟩;refine⟨_,rfl,e,aj,none,_,_,rfl,N,T.xg_NoRow,.inl rfl,(fun u t=>by cases t;exact T.ki_NoRow_V),T.kg,T.kt,_,rfl,Kx ?_⟩;refine⟨_,rfl,l,_,_,_,rfl,rfl,SqL.of Zc,rfl,_,rfl,YY ?_⟩;refine⟨ZB #[6],fun l2 aU=>?_⟩;have x:=Zh aU (.lst ([("full" : Str), "no row"].map V.str));refine⟨_,rfl,.inl ⟨rfl,_,SqL.of (x _ _ v)⟩,l,[false,true,false],true,1,rfl,rfl,x _ _ v,by decide,rfl,(fun m p=>by have z:m=0:=#[2];rw[z];decide),?_⟩;exact⟨l2,_,_,_,rfl,rfl,SqL.of Zc,rfl,q _ ((X.trans J).trans x)⟩
theorem Zo7{K:#[7]}{a:Addr}{xs:List V}{k:Nat}{D:Addr}{b:L2.St}{d:Hp}{g:TG}{f:TE}{Q:VK}(Pv:Nat→List V→L2.St→Hp→Prop)(h0:Pv 0 [] (b++List.replicate k none) (upd d D (.lst [])))
  (hl:∀i ys b H,Pv i ys b H→SqT K H a xs)
  (n:∀i x ys b H,xs[i]? = some x→Pv i ys b H→g x b H fun h o=>f h o fun y j=>j D=some (.lst ys)∧ys.length<sizeLine∧Pv (i+1) (ys++[y]) h (upd j D (.lst (ys++[y]))))
  (hd:∀ys b H,Pv xs.length ys b H→Q (.ref D) H):Wo (Itt K a) D k b d g VS f Q:=by
 refine⟨fun i m ys b H=>m=xs.length-i∧i≤xs.length∧Pv i ys b H,⟨xs.length,by simp,Qs _,h0⟩,?_⟩;rintro i m ys b H ⟨rfl,hi,p⟩;have c:=hl i ys b H p;by_cases l:i<xs.length
 ·refine .inr ⟨⟨xs,xs[i],c,Qb l⟩,Pv (i+1),fun gR ao q r=>⟨xs.length-(i+1),by lia,rfl,l,r⟩,fun x q y=>?_⟩;obtain⟨rfl,e⟩:=y;simp only[VS,↓reduceIte];exact n i x ys b _ (e xs c) p
 ·have e:i=xs.length:=by lia
  exact .inl ⟨⟨xs,c,by lia⟩,hd ys b H (e ▸ p)⟩
section
variable {I J:List ZS→Int→Prop} {cR cM:Addr} {HB:Hp} {p:Addr} {H H':Hp} {X X':MS} {Y Y':OS}
theorem Wk.beside(W:Wk I cR cM HB p H X Y){b:Addr}{o:HO}(hb:H b=none)(hp:∃u,H p=some u):Wk I cR cM (upd HB b o) p (upd H b o) X Y:=by
 have d:=W.same (Zh hb o);have f:¬ MFp X b:=W.pr.mg.M.fp_fresh hb;have nO:¬ Y6 Y b:=fun z=>by obtain⟨u,e,_⟩:=W.pr.ow.live z;rw[hb]at e;cases e
 refine⟨d.pr,d.nga,d.nb,d.inv,fun c a=>?_,fun c a=>?_,fun c u a n=>?_⟩
 ·rw[Zb (fun z=>f (by rw[← z];exact a))];exact W.fM c a
 ·rw[Zb (fun z=>nO (by rw[← z];exact a))];exact W.fO c a
 ·by_cases z:c=b
  ·subst z;rw[Zc]at a ⊢;exact a
  ·rw[Zb z]at a ⊢;exact W.but c u a n
theorem Wk.alone{b:Addr}{o:HO}(W:Wk I cR cM (upd HB b o) p H X Y)(hb:HB b=none):Wk I cR cM HB p H X Y:=by have s:=Zh hb o;exact⟨W.pr,W.nga,W.nb,W.inv,fun c a=>s.free (W.fM c a),fun c a=>s.free (W.fO c a),fun c u a n=>W.but c u (s c u a) n⟩
theorem Wk.old(W:Wk I cR cM HB p H X Y)(c:∃u,H p=some u){b:Addr}(hb:H b=none):HB b=none:=by
 cases e:HB b with
 | none=>rfl
 | some u =>
  by_cases z:b=p
  ·obtain⟨u',a⟩:=c;rw[z,a]at hb;cases hb
  ·rw[W.but b u e z]at hb;cases hb
theorem Wk.nO(W:Wk I cR cM HB p H X Y){b:Addr}(hb:H b=none):¬ Y6 Y b:=fun z=>by obtain⟨u,hu,_⟩:=W.pr.ow.live z;rw[hb]at hu;cases hu
theorem Wk.deed{c nb':Int}{a:List ZS}(W:Wk I cR cM HB p H X Y)(hB:∃u,HB p=some u)(L:Y3 H p c)(d:Ye cR cM H' X' Y')(e:Y'.ga≠Y'.ra)(e':X'.nb=Y'.nb)(f:X'.nb=nb')(g:Z1 X'.L=a)(fM:∀b,MFp X' b→MFp X b∨H b=none)(fO:∀b,Y6 Y' b→Y6 Y b∨H b=none)(kk:∀b u,H b=some u→¬ MFp X b→¬ Y6 Y b→H' b=some u)(h:J a nb'):Wk J cR cM HB p H' X' Y'∧Y3 H' p c:=by have i:Wk (fun _ _=>True) cR cM HB p H' X' Y':=(W.imp fun _=>trivial).to L.here d e e' trivial fM fO kk;exact⟨i.imp fun _=>by rw[g,f];exact h,W.left hB L kk⟩
end
def IA(a i:Nat)(P:List ZS)(nb:Int):Prop:=a≤P.length+i∧P.length≤a∧nb=(a:Int)
theorem Zpp{a i:Nat}(P:List ZS)(nb n:Int)(h:IA a i P nb):IA a i (X5 P n) nb:=by
 have e:(X5 P n).length=P.length:=by have:=congrArg List.length (KQ P n);unfold Y5 at this;rw[Qa,Qa]at this;exact this
 unfold IA;rw[e];exact h
theorem Ku{n:Int}:∀ {P:List ZS},(Y5 P).Nodup→P.length≤(P.filter fun x=>decide (x.1≠n)).length+1
 | [],_=>Qs _
 | x::r,nd=>by
  have a:x.1 ∉ Y5 r∧(Y5 r).Nodup:=QR.mp nd;by_cases e:x.1=n
  ·have b:r.filter (fun x:ZS=>decide (x.1≠n))=r:=List.filter_eq_self.mpr fun y c=>decide_eq_true (show y.1≠n from fun z=>a.1 (by rw[e,← z];exact Qe (f:=fun x:ZS=>x.1) c));rw[List.filter_cons_of_neg (by simp[e]),b];exact Qg _
  ·rw[List.filter_cons_of_pos (by simp[e]),QI,QI];have:=Ku (n:=n) a.2;lia
theorem Kt(P:List ZS)(n:Int):Y5 (P.filter fun x=>decide (x.1≠n))=(Y5 P).filter fun x=>decide (x≠n):=by unfold Y5;rw[Qaq];rfl
theorem Zo6{a i:Nat}{P:List ZS}{nb n:Int}(nd:(Y5 P).Nodup)(h:IA a i P nb):IA a (i+1) (P.filter fun x=>decide (x.1≠n)) nb:=by have h1:=Ku (n:=n) nd;have h2:=Qay (fun x:ZS=>decide (x.1≠n)) P;unfold IA at h ⊢;lia
def IB(N:List Int)(b:Int)(i:Nat)(P:List ZS)(nb:Int):Prop:=Y5 P=N.drop i∧nb=b
theorem Ks{N:List Int}{b n nb:Int}{i:Nat}{P:List ZS}(nd:N.Nodup)(c:N[i]? = some n)(h:IB N b i P nb):IB N b (i+1) (P.filter fun x=>decide (x.1≠n)) nb:=by refine⟨?_,h.2⟩;obtain⟨d,rfl⟩:=Qd.mp c;have a:(N.drop i).Nodup:=nd.sublist (List.drop_sublist ..);rw[Kt,h.1];rw[List.drop_eq_getElem_cons d]at a ⊢;rw[List.filter_cons_of_neg #[4]];exact List.filter_eq_self.mpr fun y e=>decide_eq_true (show y≠N[i] from fun z=>(QR.mp a).1 (by rw[← z];exact e))
theorem Kq{N:List Int}{b n nb:Int}{i:Nat}{P:List ZS}(a:N[i]? = some n)(h:IB N b i P nb):n∈Y5 P:=by obtain⟨c,rfl⟩:=Qd.mp a;rw[h.1,List.drop_eq_getElem_cons c];exact Q3
theorem Kp{N:List Int}{b nb:Int}{P:List ZS}(h:IB N b N.length P nb):P=[]∧nb=b:=by refine⟨List.map_eq_nil_iff.mp (show Y5 P=[] from ?_),h.2⟩;rw[h.1,List.drop_length]
noncomputable def nsC(a i:Nat):List Int:=(List.range (min i 4)).map fun k=>((a+(i-4)+k:Nat):Int)
def IC(a i:Nat)(P:List ZS)(nb:Int):Prop:=Y5 P=nsC a i∧nb=((a+i:Nat):Int)
def ID(a i:Nat)(P:List ZS)(nb:Int):Prop:=Y5 P=nsC a i++[((a+i:Nat):Int)]∧nb=((a+i+1:Nat):Int)
theorem Ko{a i:Nat}{P:List ZS}{nb:Int}(h:IC a i P nb):(∀x∈P,x.1<nb)∧P.length<16:=by
 obtain⟨b,c⟩:=h;constructor
 ·intro x d;have:x.1∈nsC a i:=by rw[← b];exact Qe (f:=fun x:ZS=>x.1) d
  obtain⟨k,g,e⟩:=Qp.mp this;have:=Qak.mp g;rw[← e,c];lia
 ·have:=congrArg List.length b;unfold Y5 nsC at this;rw[Qa,Qa,List.length_range]at this;lia
theorem ZqR{a i:Nat}{P:List ZS}{nb:Int}(h:IC a i P nb)(ks:List Str):ID a i (P++[(nb,ks,0)]) (nb+1):=by obtain⟨b,c⟩:=h;refine⟨?_,by rw[c];lia⟩;unfold Y5 at b ⊢;rw[Qf,b,c];rfl
theorem ZpV{a i:Nat}{P:List ZS}{nb:Int}(hi:i<4)(h:ID a i P nb):IC a (i+1) P nb:=by obtain⟨b,c⟩:=h;refine⟨b.trans ?_,c⟩;unfold nsC;rw[Qax #[2],Qax #[2],QaP,Qf,show i-4=0 by lia,show i+1-4=0 by lia];rfl
theorem ZrK{a b c d e:Int}(h1:b≠a)(h2:c≠a)(f:d≠a)(g:e≠a):[a,b,c,d,e].filter (fun x=>decide (x≠a))=[b,c,d,e]:=by simp[List.filter_cons,h1,h2,f,g]
theorem Zo3{a i:Nat}{P:List ZS}{nb:Int}(d:4≤i)(h:ID a i P nb):(((a+i:Nat):Int)-4)∈Y5 P∧IC a (i+1) (P.filter fun x=>decide (x.1≠((a+i:Nat):Int)-4)) nb:=by
 obtain⟨b,f⟩:=h;have c:nsC a i=[((a+(i-4)+0:Nat):Int),((a+(i-4)+1:Nat):Int),((a+(i-4)+2:Nat):Int),((a+(i-4)+3:Nat):Int)]:=by unfold nsC;rw[Nat.min_eq_right d];rfl
 have g:nsC a (i+1)=[((a+(i+1-4)+0:Nat):Int),((a+(i+1-4)+1:Nat):Int),((a+(i+1-4)+2:Nat):Int),((a+(i+1-4)+3:Nat):Int)]:=by unfold nsC;rw[Nat.min_eq_right #[2]];rfl
 have e:((a+i:Nat):Int)-4=((a+(i-4)+0:Nat):Int):=by lia
 rw[e];refine⟨by rw[b,c];exact Q3,?_,f⟩;rw[Kt,b,c,g];rw[Qbb,Qbb,Qbb,Qbb,List.nil_append];rw[ZrK #[2] #[2] #[2] #[2]];refine congr (congrArg _ #[2]) (congr (congrArg _ #[2]) (congr (congrArg _ #[2]) (congrArg (fun x=>[x]) #[2])))
theorem ZlL{P a:List ZS}{ts:List Xc}{k q:Int}(h:Xj P ts a k q):ts=[]→a=P:=by
 cases h with
 | nil=>exact fun _=>rfl
 | snoc _ _=>exact fun e=>absurd e #[4]
theorem ZiE{P d:List ZS}{ts:List Xc}{k q:Int}(h:Xj P ts d k q){t:Xc}(e:ts=[t]):∃ (x:ZS) (z:Str),x∈P∧x.2.1[x.2.2]? = some z∧t=(x.1,x.2.2,z):=by
 cases h with
 | nil=>cases e
 | snoc f st =>
  rename_i b P1 x z _ _ _ _;have c:b=[]:=by
   cases b with
   | nil=>rfl
   | cons a r=>have:=congrArg List.length e;simp at this
  have g:=ZlL f c;subst c;subst g;exact⟨x,z,st.1,st.2.1,by injection e with e _;exact e.symm⟩
def Sx(K:#[7]):Sp:=fun vs H Q _=>∃ (a:Addr) (ns:List Int),vs=[.ref a]∧SqL K H a (ns.map V.int)∧ns.length≤63∧∀b,Q (.bl true) b
def SA(d e a p r:Addr)(f:Int)(g:Hp)(I:List ZS→Int→Prop)(h:Int):L2.St→Hp→Prop:=fun i b=>∃ (X:MS) (Y:OS) (c:Int) (j k l m:Option V),i=[some (.ref a),some (.int f),some (.ref p),some (.ref r),some (.ref Y.o),some (.ref X.m),j,k,l,m]∧Wk I d e g p b X Y∧Y3 b p c∧c≤h
theorem ZqA{f:Addr}{fd:FuncData}(F:Fun K "law" "law" Wj f fd)(T:Z9 K mg ah aa ae al aj af ak):YC P w K mg base CX0 18 f fd ["_law_script"] (Sx K):=by
 have fe:Df P w K mg base 1 "_law_mix" ["_law_cell", "_law_k"] P6:=Zq2 T;have lN:Df P w K mg base 1 "_law_left" ["_law_script", "_law_k"] (MC K):=Zox T;have aq:Df P w K mg base 2 "_law_pick" ["_law_left_here", "_law_many_here"] VG:=Zn0 T fe;have eU:Df P w K mg base 3 "_law_stems" ["_law_left_here"] PV:=ZmO T aq;have gw:Df P w K mg base 3 "_law_key" ["_law_left_here", "_law_stems_here"] PU:=Zqx T aq;have fF:Df P w K mg base 4 "_law_keys" ["_law_left_here", "_law_stems_here", "_law_most"] PQ:=Zoh T aq gw;have fG:Df P w K mg base 3 "_law_many" ["_law_left_here"] PD:=Zpg T aq;have gA:Df P w K mg base 5 "_law_row" ["_law_left_here", "_law_stems_here", "_law_most"] Pe:=Zn3 T fF;have lO:Df P w K mg base 6 "_law_rows" ["_law_left_here"] LA:=Znm T aq eU fG gA;have aH:Df P w K mg base 5 "_law_same" ["_law_found", "_law_due"] (Tg 4):=Mp T 4;have aX:Df P w K mg base 1 "alike_from" ["one", "other", "far"] Th:=Zg9 T;have cW:Df P w K mg base 2 "alike" ["one", "other"] Wi:=ZmZ T aX;have bB:Df P w K mg base 1 "order_at" ["one", "other", "at"] Te:=Zm9 T;have gy:Df P w K mg base 3 "liken" ["one", "other"] PL:=Znh T cW bB;have cK:Df P w K mg base 2 "liken_from" ["one", "other", "far"] PH:=Zg1 T aX bB;have cu:Df P w K mg base 4 "first_break" ["keys"] (PF K):=Zmm T gy;have aN:Df P w K mg base 5 "refuse_break" ["number", "keys"] (SS K):=Zl1 T cu;have fD:Df P w K mg base 3 "alikes" ["row"] (PP K):=ZlK T cW;have bT:Df P w K mg base 1 "halves" ["numbers"] (Wg K true):=Zlp T;have aD:=ZoO T (P:=P) (w:=w) (base:=base);have av:=Zpf T aD;have bC:=ZjZ T fD;have aQ:=Zok T av cK;have aY:=Lr T av bT aQ 8;have ax:=Zjd T aY;have hU:=Zhc T aN bC ax;have aO:=ZlS T av;have cL:=Zmy T aD;have cy:=Zlw T av;have aW:=ZiB T (P:=P) (w:=w) (base:=base);have bI:=ZmL T (P:=P) (w:=w) (base:=base);have aV:Df P w K mg base 1 "_law_alike" ["_law_one", "_law_other"] Wi:=ZjM T;have be:Df P w K mg base 1 "_law_halves" ["_law_numbers"] (Wg K false):=Zi7 T;have aF:=Zlv T (P:=P) (w:=w) (base:=base);have aG:=Zma T (P:=P) (w:=w) (base:=base);have aM:=LO T be aF aV 8;have bS:=ZmX T aG aM;have bD:=Zj2 T aG aF;have dw:=Zmw T (P:=P) (w:=w) (base:=base);have kh:=Zlz T bS;have dX:=Zlo T aG aH bD dw aW bI aO cL cy;have fK:Df P w K mg base 2 "way_up" ["numbers", "n"] OJ:=ZqK T bT;have cP:=ZjJ T fK;have bp:=Zmx T aQ;have bJ:=ZoD T av cP bp;have br:=ZoA T aO bJ;have fk:=Zqp T br;have bi:=ZjK T aN bC ax;have b9:=Zl2 T (P:=P) (w:=w) (base:=base);have bK:=Zjs T aD b9 ax;have aI:=Zkf T (P:=P) (w:=w) (base:=base);have bz:=ZhZ T aD aI;have cz:=Znu T aI;have iX:=ZjN T bz cz;have gF:=Zo2 T be;have ki:=Zl8 T bD aG gF aF aV;have cZ:=ZmJ T aH bS bi bK;refine F.ok Xw (fun vs H Q E h=>?_) (fun am A outer s H vs Q E G h=>?_)
 ·obtain⟨a,ns,rfl,_⟩:=h;rfl
 obtain⟨a,sc,rfl,hS,r9,q⟩:=h;refine⟨_,#[Zf,#[Ya,PassesOwn.never,#[W7,T.b.n_range,#[Za,#[ZJ,YS,#[Zj],#[Zk,(YB K),#[5],T.b.n_len,Qu,#[Za,#[VU,(slL K),‹0›,(@VW _),(@Vs _ _ _ #[Zj])],#[Zd]]]],#[Zd]]],#[ZD,1,Xw.nd,#[3]],#[Zf,#[Zx,2,Xw.nd,#[3],#[Zw,lN,G,#[Za,‹0›,#[Za,‹1›,#[Zd]]],#[5]]],#[Zf,#[Zx,3,Xw.nd,#[3],#[Zw,lO,G,#[Za,‹2›,#[Zd]],#[5]]],#[Xd,#[Z6,#[YU,#[Za,#[Zw,kh,G,#[Za,‹3›,#[Zd]],#[5]],#[Za,#[UK,hU,G,#[Za,‹3›,#[Zd]]],#[Zd]]]],#[gT,K,2,#[ZC,#[ZD,4,Xw.nd,#[3]],#[ZC,#[ZD,5,Xw.nd,(Or.inr rfl)],(@Yb _)]]]],#[Xd,#[Ya,PassesOwn.never,#[W7,T.b.n_range,#[Za,#[Zk,(YB K),#[5],T.b.n_len,Qu,#[Za,‹3›,#[Zd]]],#[Zd]]],#[ZD,6,Xw.nd,#[3]],#[Xd,#[Ya,PassesOwn.never,#[W7,T.b.n_range,#[Za,#[Zw,aq,G,#[Za,‹2›,#[Za,#[Zj],#[Zd]]],#[5]],#[Zd]]],#[ZD,7,Xw.nd,#[3]],#[Zi,#[ZO,#[XR,#[Yi,#[Zw,aH,G,#[Za,#[YN,br,T.cl_Merge,G,#[pv,5,(Or.inr #[3])]],#[Za,#[Zw,ki,G,#[Za,‹4›,#[Zd]],#[5]],#[Zd]]],#[5]]]],#[Zi,#[Zo,#[Yd]]],#[ZE]]]],#[Xd,#[ZO,#[Zn,Ws,#[Zw,aq,G,#[Za,‹2›,#[Za,#[Zj],#[Zd]]],#[5]],#[Zj],(Zu _)],#[Zf,#[Zx,8,Xw.nd,#[3],#[Zk,VN,#[5],T.b.n_sorted,boot_sorted,#[Za,#[Zr,(ixG G),‹4›,#[Zs]],#[Zd]]]],#[Zi,#[ZO,#[XR,#[Yi,#[Zw,cZ,G,#[Za,#[pv,5,(Or.inr #[3])],#[Za,‹4›,#[Za,#[YU,#[Za,#[Zs],#[Za,#[Zr,(ixL K),‹8›,#[Zw,aq,G,#[Za,‹2›,#[Za,#[Zk,(YB K),#[5],T.b.n_len,Qu,#[Za,‹8›,#[Zd]]],#[Zd]]],#[5]]],#[Za,#[Z2,#[Zd]],#[Zd]]]]],#[Zd]]]],#[5]]]],#[Zi,#[Zo,#[Yd]]],#[ZE]]]],#[ZE]],#[Zi,#[ZO,#[XR,#[Yi,#[Zw,dX,G,#[Za,#[pv,5,(Or.inr #[3])],#[Za,‹4›,#[Zd]]],#[5]]]],#[Zi,#[Zo,#[Yd]]],#[ZE]]]]]],#[Xd,#[Ya,PassesOwn.never,#[iL,K,#[Zk,VN,#[5],T.b.n_sorted,boot_sorted,#[Za,#[Zr,(ixG G),‹4›,#[Zs]],#[Zd]]]],#[ZD,9,Xw.nd,#[3]],#[Zi,#[ZO,(@PW.pt _ _ _ #[Xh,#[XR,#[Yi,#[Zw,cZ,G,#[Za,#[pv,5,(Or.inr #[3])],#[Za,‹4›,#[Za,#[YU,#[Za,#[Zs],#[Za,‹9›,#[Za,#[Z2,#[Zd]],#[Zd]]]]],#[Zd]]]],#[5]]]],#[Xa,#[XR,#[Yi,#[Zw,dX,G,#[Za,#[pv,5,(Or.inr #[3])],#[Za,‹4›,#[Zd]]],#[5]]]]]]),#[Zi,#[Zo,#[Yd]]],#[ZE]]]],#[Xd,#[Ya,PassesOwn.never,#[W7,T.b.n_range,#[Za,#[ZJ,V3,#[ZJ,WJ,#[Zj],#[Zk,(YB K),#[5],T.b.n_len,Qu,#[Za,‹3›,#[Zd]]]],#[Zw,aq,G,#[Za,‹2›,#[Za,#[Zj],#[Zd]]],#[5]]],#[Zd]]],#[ZD,6,Xw.nd,#[3]],#[Zf,#[Zx,9,Xw.nd,#[3],#[Zr,(ixG G),‹4›,#[Zs]]],#[Zf,#[ZO,(@PW.pt _ _ _ #[Xh,#[XR,#[Yi,#[Zw,cZ,G,#[Za,#[pv,5,(Or.inr #[3])],#[Za,‹4›,#[Za,#[YU,#[Za,#[Zs],#[Za,‹9›,#[Za,#[Zr,(ixL K),#[Z2,#[Za,#[Z2,#[Za,#[Zs],#[Zd]]],#[Za,#[Z2,#[Za,#[Zs],#[Za,#[Zs],#[Zd]]]],#[Za,#[Z2,#[Zd]],#[Zd]]]]],#[ZJ,V2,‹9›,#[Zj]]],#[Zd]]]]],#[Zd]]]],#[5]]]],#[Xa,#[XR,#[Yi,#[Zw,dX,G,#[Za,#[pv,5,(Or.inr #[3])],#[Za,‹4›,#[Zd]]],#[5]]]]]]),#[Zi,#[Zo,#[Yd]]],#[ZE]],#[Zi,#[ZO,(@PW.pt _ _ _ #[Xu,#[Zn,Ws,‹6›,#[Zj],(Zu _)],#[Xi,#[XR,#[Yi,#[Zw,cZ,G,#[Za,#[pv,5,(Or.inr #[3])],#[Za,‹4›,#[Za,#[YU,#[Za,#[Zs],#[Za,#[ZJ,WJ,‹9›,#[Zj]],#[Za,#[Z2,#[Zd]],#[Zd]]]]],#[Zd]]]],#[5]]]]]]),#[Zi,#[Zo,#[Yd]]],#[ZE]]]]]],#[Xd,#[Ya,PassesOwn.never,#[iL,K,#[Zk,VN,#[5],T.b.n_sorted,boot_sorted,#[Za,#[Zr,(ixG G),‹4›,#[Zs]],#[Zd]]]],#[ZD,9,Xw.nd,#[3]],#[Zi,#[ZO,#[XR,#[Yi,#[Zw,cZ,G,#[Za,#[pv,5,(Or.inr #[3])],#[Za,‹4›,#[Za,#[YU,#[Za,#[Zs],#[Za,‹9›,#[Za,#[Z2,#[Zd]],#[Zd]]]]],#[Zd]]]],#[5]]]],#[Zi,#[Zo,#[Yd]]],#[ZE]]]],#[Xd,#[ZO,#[Zn,(@neD _ K _ G #[5]),#[WY,Ul,(@iT _ K _ _ _ #[YU,#[Za,#[Zs],#[Za,#[Zs],#[Zd]]]] #[5]),(fun _ _ _ _=>#[cg,10,Ul]),(fun _ _ _ _=>(@Wp _)),(fun _ _ _ _=>#[Zw,iX,G,#[Za,#[cw,10,Ul],#[Za,#[cv,5,Ul],#[Za,#[Zj],#[Za,#[Z2,#[Za,#[Zs],#[Zd]]],#[Zd]]]]],(Vq Ul rfl #[1])])],#[Z2,#[Za,#[Zs],#[Za,#[Zs],#[Zd]]]],(Zu _)],#[Zi,#[Zo,#[Yd]]],#[ZE]],#[Zf,#[Zx,9,Xw.nd,#[3],#[Zr,(ixG G),‹4›,#[Zs]]],#[Zf,#[ZO,(@PW.pt _ _ _ #[Xh,#[Zn,V1,#[YN,br,T.cl_Merge,G,#[pv,5,(Or.inr #[3])]],#[ZT],(Zu _)],#[Xa,#[XR,#[Yi,#[Zw,aH,G,#[Za,#[Xx,bi,T.cl_Merge,G,#[pv,5,(Or.inr #[3])],#[Za,#[Z2,#[Za,#[Zs],#[Zd]]],#[Zd]]],#[Za,‹9›,#[Zd]]],#[5]]]]]]),#[Zi,#[Zo,#[Yd]]],#[ZE]],#[Zi,#[ZO,#[XR,#[Yi,#[Zw,aH,G,#[Za,#[Xx,fk,T.cl_Merge,G,#[pv,5,(Or.inr #[3])],#[Za,#[Zj],#[Zd]]],#[Za,#[Z2,#[Za,#[YU,#[Za,‹9›,#[Za,#[Zj],#[Za,#[Zs],#[Zd]]]]],#[Zd]]],#[Zd]]],#[5]]]],#[Zi,#[Zo,#[Yd]]],#[ZE]]]]]]]]]]]]]],#[Zi,#[Zo,#[Yd]]]],?_⟩;have rZ:=NZ (sc.map V.int) none (some 4);have aw:(sc.map V.int).length=sc.length:=by rw[Qa]
 have gZ:2≤sizeLine:=by decide
 refine⟨_,rfl,_,rfl,a,_,rfl,hS,fun e he=>⟨e,_,rfl,.inl (SqL.of Zc),_,_,rfl,rfl,_,rfl,by lia,by lia,?_⟩⟩;have s1:ZG H (upd H e (.lst (WH (sc.map V.int) none (some 4)))):=Zh he _;refine Vv (fun i I H2=>∃v1 v2 v3 v4 v5 v6 v7 v8 v9:Option V,I=[some (.ref a),v1,v2,v3,v4,v5,v6,v7,v8,v9]∧ZG H H2) ⟨_,_,_,_,_,_,_,_,_,rfl,s1⟩ ?_ ?_
 ·rintro ii I H2 hi ⟨v1,v2,v3,v4,v5,v6,v7,v8,v9,rfl,s2⟩;have BX:(ii:Int)<65:=by lia
  refine⟨_,rfl,_,rfl,a,sc,_,rfl,s2.seq hS,r9,by lia,by lia,fun p H3 hp L3 s3=>?_⟩;have xg:H p=none:=s2.free hp;refine⟨_,rfl,p,0,rfl,L3,by decide,fun r rs c5 R aE gI xh pP LB a1 a2 B4=>?_⟩;have BY:r≠p:=by obtain⟨o,ho⟩:=L3.here;exact(Ze ho aE).symm
  have dU:∀x∈rs,sortedS x.2=true:=fun x l=>(xh x l).2.2.2.1;have BZ:ZG H R:=fun b o hb=>B4 b o (s3 b o (s2 b o hb)) (Ze hb xg);have gg:∃u,R p=some u:=LB.here;have B0:0≤c5∧c5≤20000:=by lia
  clear a1 a2 hi rZ aw BX r9;obtain⟨C,mZ⟩:∃C,C=rs.length:=⟨_,rfl⟩;have C4:C≤12:=by rw[mZ];exact pP
  refine⟨SA ah aa a p r (0+(ii:Int)) R (IA C 0) c5,?_,?_⟩
  ·refine⟨_,rfl,r,rs,rfl,gI,fun o ra ga Lo k0 q0 H6 ho jZ jv nga bq ke S bb s6=>?_⟩;refine⟨_,rfl,fun m dx hm B7 Kd=>?_⟩;have s7:ZG H6 (upd (upd H6 dx (.own m)) m (.ins aa dx [])):=fun b o hb=>by rw[Zb (Ze hb hm),Zb (Ze hb B7)];exact hb
   have nk:(upd (upd H6 dx (.own m)) m (.ins aa dx [])) m=some (.ins aa dx []):=Zc;generalize upd (upd H6 dx (.own m)) m (.ins aa dx [])=H7 at s7 nk ⊢;refine⟨m,dx,r,rs,rfl,nk,(gI.same s6).same s7,dU,fun rd sd L st w0 k2 q2 H8 M8 gJ W8 S8 P8 pN k8=>⟨rfl,gZ,fun t ht=>⟨t,_,rfl,SqT.of Zc,rfl,_,_,rfl,_,_,rfl,rfl,?_⟩⟩⟩;have B8:∃ (X:MS) (Y:OS),Wk (IA C 0) ah aa R p H8 X Y∧X.m=m∧Y.o=o:=Zp7 gI (by
    have:(T5 rs).length=rs.length:=by unfold T5;rw[List.length_zip,UM,Qa];exact Nat.min_self _
    unfold IA;rw[this,mZ];exact⟨Qg _,Qg _,rfl⟩) ho jZ jv nga bq ke S bb s6 hm s7 M8 gJ W8 S8 P8 pN k8
   obtain⟨X8,O,W8,rfl,rfl⟩:=B8;have tO:=Zh ht (.tup [.ref O.o,.ref X8.m]);have N:=W8.same tO;generalize upd H8 t (.tup [.ref O.o,.ref X8.m])=H9 at tO N ⊢;have L9:Y3 H9 p c5:=by obtain⟨g1,g2,cV,c0⟩:=LB;exact⟨g1,g2,tO _ _ (k8 _ _ (s7 _ _ (s6 _ _ cV)) (fun z=>by rw[z]at cV;rw[s6 _ _ cV]at hm;cases hm)),c0⟩
   exact⟨X8,O,_,_,_,_,_,rfl,N,L9,Int.le_refl _⟩
  have kj:∀ {H':Hp},But p R H'→We H' r rs:=fun {H'} B=>⟨B _ _ gI.at' BY,gI.few,fun x l=>let ⟨g1,g2⟩:=gI.lst x l;⟨B _ _ g1 (xh x l).2.2.1,g2⟩⟩;have B9:(((rs.map fun x=>V.ref x.1).length:Nat):Int)=(C:Int):=by rw[Qa,mZ]
  rintro I H9 h9;refine⟨SA ah aa a p r (0+(ii:Int)) R (IA C C) (c5+60),?_,?_⟩
  ·obtain⟨X8,O,c8,fN,fP,fQ,fR,rfl,N,L9,km⟩:=h9;refine⟨_,rfl,r,_,rfl,.inl (SqL.of (kj N.but).at'),_,rfl,by lia,by lia,?_⟩;refine Vv (fun i=>SA ah aa a p r (0+(ii:Int)) R (IA C i) (c5+3*(i:Int))) ⟨X8,O,c8,_,_,_,_,rfl,N,L9,by lia⟩ ?_ ?_
   ·rintro i I H5 hi ⟨X0,Y0,c,fN,fP,fQ,fR,rfl,W0,L5,hc⟩;have mj:i<C:=by lia
    have c0:=L5.ge;refine⟨SA ah aa a p r (0+(ii:Int)) R (IA C i) (c+1),?_,?_⟩
    ·refine⟨_,rfl,p,c,_,rfl,L5,by lia,by decide,by decide,fun tk fv Ke Kf tP tQ=>?_⟩;have tR:=W0.draw gg L5 tQ;refine⟨_,rfl,by lia,by lia,?_⟩;refine Vv (fun _=>SA ah aa a p r (0+(ii:Int)) R (IA C i) (c+1)) ⟨X0,Y0,_,_,_,_,_,rfl,tR,tP,Int.le_refl _⟩ ?_ ?_
     ·rintro j I fY hj ⟨X,Y,c1,qK,qL,qM,qN,rfl,W,kn,o9⟩;have pr:=W.pr;have bx:(Y.Lo.map (·.1)).Pairwise (·<·):=by rw[XJ pr.ag];exact pr.mg.M.up
      obtain⟨nK,kH⟩:=pr.mg.M.ob;refine⟨_,rfl,X.m,nK,_,rfl,kH,OF ..,X.m,X.rd,X.sd,X.L,X.s,X.nb,X.li,X.lo,X.w,rfl,pr.mg.M,pr.mg.W,pr.mg.ok,fun x L' s' w' k3 q3 gE hR nL g9 xi k12=>?_⟩;have xj:Own gE Y.o Y.ra Y.ga Y.Lo Y.nb X.li X.lo:=pr.ow.keep fun b u hb dI=>k12 b u hb fun z=>pr.sep b z dI;refine⟨_,rfl,Y.o,Y.ra,Y.ga,Y.Lo,Y.nb,X.li,X.lo,rfl,xj,bx,fun y cQ k4 q4 j7 hT xk k13=>?_⟩;obtain⟨g,M,pQ,eM,eO,nR,_,_,kk⟩:=W.take Zpp kn.here hR nL g9 xi k12 hT xk k13;have nX:=W.left gg kn kk;refine⟨x,y,rfl,nR,fun pR jC=>⟨_,rfl,YY ?_⟩⟩;rw[← eM,← eO];exact⟨g,M,_,_,_,_,_,rfl,pQ.same jC,nX.same jC,o9⟩
     exact fun I fY h=>h
    rintro I fY ⟨X,Y,c1,qK,qL,qM,qN,rfl,W,kn,o9⟩;have c10:=kn.ge;refine⟨SA ah aa a p r (0+(ii:Int)) R (IA C (i+1)) (c+3),?_,?_⟩
    ·refine⟨_,rfl,p,c1,_,rfl,kn,by lia,by decide,by decide,fun dr gE Kg Kh tS xl=>⟨_,_,rfl,rfl,_,rfl,YX (fun _=>?_) (fun _=>?_)⟩⟩
     rotate_left
     ·exact⟨X,Y,_,_,_,_,_,rfl,(W.draw gg kn xl).imp fun h=>⟨by have:=h.1;lia,h.2⟩,tS,by lia⟩
     have g9:=W.draw gg kn xl;have S:=g9.pr.ow;have cm:=S.few;have bx:(Y.Lo.map (·.1)).Pairwise (·<·):=by rw[XJ g9.pr.ag];exact g9.pr.mg.M.up
     refine⟨_,rfl,Y.o,_,rfl,ZX.k' (k:=.inr "rows") S.at' (WS ..),Y.ra,_,Y.Lo.map (·.1),rfl,S.rows,Ug Y.Lo,by rw[Qa];lia,fun U ns cn aS aP=>?_⟩;have cT:ns=Y.Lo.map (·.1):=U3 aS (Ud aP (aS.nodup_iff.mpr S.nd)) bx;subst cT;have tT:=Zh cn (.lst ((Y.Lo.map (·.1)).map V.int));have nY:(upd gE U (.lst ((Y.Lo.map (·.1)).map V.int))) U=some (.lst ((Y.Lo.map (·.1)).map V.int)):=Zc;have nX:=tS.same tT;have pQ:=g9.same tT;have gK:U≠p:=by obtain⟨u,hu⟩:=tS.here;exact(Ze hu cn).symm
     generalize upd gE U (.lst ((Y.Lo.map (·.1)).map V.int))=j7 at tT nY nX pQ ⊢;have eN:Y.Lo.map (·.1)=Y5 (Z1 X.L):=by rw[XJ W.pr.ag,WM]
     have B':(Y.Lo.map (·.1)).length=(Z1 X.L).length:=by rw[eN];unfold Y5;rw[Qa]
     have aw:(((Y.Lo.map (·.1)).map V.int).length:Int)=((Z1 X.L).length:Int):=by rw[Qa,B']
     have Ki:0<(Z1 X.L).length∧(Z1 X.L).length≤12:=by have h:=W.inv;unfold IA at h;lia
     refine⟨_,rfl,_,rfl,_,rfl,_,rfl,_,rfl,U,_,rfl,.inl (SqL.of nY),p,c1+1,_,rfl,nX,by lia,by lia,by lia,fun ix pR Ca Kj Cb xm=>?_⟩;have jE:=pQ.draw gg nX xm;obtain⟨n,Cc,hn⟩:=PN (ns:=Y.Lo.map (·.1)) Ca #[2];refine⟨U,_,_,_,rfl,rfl,SqL.of (xm _ _ nY gK),hn,(by show 0≤sizeLine;decide),fun kl ck=>⟨(by show 3≤sizeLine;decide),fun t ht=>?_⟩⟩;have Cd:n∈Y5 (Z1 X.L):=by rw[← eN];exact Cc
     have gM:=(Zh ck (.lst [])).trans (Zh ht (.tup [.str "drop",.int n,.ref kl]));have Z:=jE.same gM;refine⟨X,Y,t,kl,.drop,n,[],rfl,Z.pr,Z.nga,Z.nb,Zc,Zh ht _ _ _ Zc,jE.pr.mg.M.fp_fresh ck,jE.nO ck,(fun x h=>by cases h),Qs _,Qp.mp Cd,fun g M H' gH eM eO dW nb' iW dB fM fO kk=>⟨_,rfl,YY ?_⟩⟩;obtain⟨W',L'⟩:=Z.deed (J:=IA C (i+1)) gg (Cb.same gM) gH dW nb' iW dB fM fO kk (Zo6 (OB jE.pr.mg) jE.inv);rw[← eM,← eO];exact⟨g,M,_,_,_,_,_,rfl,W',L',by lia⟩
    rintro I gE ⟨g,M,c2,qK,qL,qM,qN,rfl,dC,ko,jh⟩;refine⟨_,rfl,_,rfl,g.m,g.rd,g.sd,g.L,g.s,g.nb,g.li,g.lo,g.w,M.o,M.ra,M.ga,M.Lo,M.nb,rfl,dC.pr.mg.M,dC.pr.mg.W,dC.pr.ow,dC.pr.ag,fun xn jF=>⟨_,rfl,YY ?_⟩⟩;exact⟨g,M,c2,_,_,_,_,rfl,dC.same jF,ko.same jF,by lia⟩
   ·rintro I H5 ⟨X,Y,c,fN,fP,fQ,fR,rfl,W,L,hc⟩;exact⟨X,Y,c,_,_,_,_,rfl,W.imp fun h=>by rw[show ((((rs.map fun x=>V.ref x.1).length:Nat):Int)).toNat=C by lia]at h;exact h,L,by lia⟩
  rintro I fv xp;refine⟨SA ah aa a p r (0+(ii:Int)) R (IC C 0) (c5+60),?_,?_⟩
  ·obtain⟨X8,O,c8,fN,fP,fQ,fR,rfl,N,L9,km⟩:=xp;have S:=N.pr.ow;have cm:=S.few;have bx:(O.Lo.map (·.1)).Pairwise (·<·):=by rw[XJ N.pr.ag];exact N.pr.mg.M.up
   refine⟨_,rfl,O.o,_,rfl,ZX.k' (k:=.inr "rows") S.at' (WS ..),O.ra,_,O.Lo.map (·.1),rfl,S.rows,Ug O.Lo,by rw[Qa];lia,fun U ns cn aS aP=>?_⟩;have cT:ns=O.Lo.map (·.1):=U3 aS (Ud aP (aS.nodup_iff.mpr S.nd)) bx;have gK:U≠p:=by obtain⟨u,hu⟩:=L9.here;exact(Ze hu cn).symm
   have WB:=N.beside (o:=.lst (ns.map V.int)) cn L9.here;have tU:=L9.same (Zh cn (.lst (ns.map V.int)));have tV:R U=none:=N.old L9.here cn;have eN:Y5 (Z1 X8.L)=ns:=by rw[cT,XJ N.pr.ag,WM]
   have tW:ns.Nodup:=by rw[← eN];exact OB N.pr.mg
   have nZ:∃u,(upd R U (.lst (ns.map V.int))) p=some u:=by rw[Zb gK.symm];exact gg
   refine⟨U,rfl,⟨_,SqL.of Zc⟩,?_⟩;refine Vw (K:=K) (a:=U) (xs:=ns.map V.int) (fun i=>SA ah aa a p r (0+(ii:Int)) (upd R U (.lst (ns.map V.int))) (IB ns (C:Int) i) (c5+60)) ⟨X8,O,c8,_,_,_,_,rfl,WB.imp fun h=>⟨eN,h.2.2⟩,tU,km⟩ (fun i I H5 _ h=>by obtain⟨X,Y,c,_,_,_,_,_,W,_,_⟩:=h;exact SqL.of (W.but _ _ Zc gK)) ?_ ?_
   ·rintro i x I H5 l ⟨X,Y,c,fN,fP,fQ,fR,rfl,W,L,hc⟩;rw[Qk]at l;cases hn:ns[i]? with
    | none=>rw[hn]at l;cases l
    | some n =>
    rw[hn]at l;cases l;refine⟨_,rfl,_,rfl,_,rfl,(by show 0≤sizeLine;decide),fun kl ck=>⟨(by show 3≤sizeLine;decide),fun t ht=>?_⟩⟩;have gM:=(Zh ck (.lst [])).trans (Zh ht (.tup [.str "drop",.int n,.ref kl]));have Z:=W.same gM;refine⟨X,Y,t,kl,.drop,n,[],rfl,Z.pr,Z.nga,Z.nb,Zc,Zh ht _ _ _ Zc,W.pr.mg.M.fp_fresh ck,W.nO ck,(fun x h=>by cases h),Qs _,Qp.mp (Kq hn W.inv),fun g M H' gH eM eO dW nb' iW dB fM fO kk=>⟨_,rfl,YY ?_⟩⟩;obtain⟨dC,ko⟩:=Z.deed (J:=IB ns (C:Int) (i+1)) nZ (L.same gM) gH dW nb' iW dB fM fO kk (Ks tW hn W.inv);rw[← eM,← eO];refine⟨_,rfl,_,rfl,g.m,g.rd,g.sd,g.L,g.s,g.nb,g.li,g.lo,g.w,M.o,M.ra,M.ga,M.Lo,M.nb,rfl,dC.pr.mg.M,dC.pr.mg.W,dC.pr.ow,dC.pr.ag,fun xn jF=>⟨_,rfl,YY ?_⟩⟩;exact⟨g,M,c,_,_,_,_,rfl,dC.same jF,ko.same jF,hc⟩
   ·rintro I H5 ⟨X,Y,c,fN,fP,fQ,fR,rfl,W,L,hc⟩;refine⟨X,Y,c,_,_,_,_,rfl,(W.imp fun h=>?_).alone tV,L,hc⟩;rw[Qa]at h;obtain⟨e,eb⟩:=Kp h;rw[e];exact⟨rfl,eb⟩
  rintro I fY xq;refine⟨SA ah aa a p r (0+(ii:Int)) R (fun P nb=>∃i,IC C i P nb∧C+i≤39) (c5+61),?_,?_⟩
  ·obtain⟨X8,O,c8,fN,fP,fQ,fR,rfl,N,L9,km⟩:=xq;have c0:=L9.ge;refine⟨_,rfl,r,_,rfl,.inl (SqL.of (kj N.but).at'),_,_,rfl,rfl,_,rfl,p,c8,_,rfl,L9,by lia,by decide,by decide,fun pk fv Kk Kl tP tQ=>?_⟩;have tR:=N.draw gg L9 tQ;obtain⟨N1,Ce,Km⟩:∃N1:Int,(39-(((rs.map fun x=>V.ref x.1).length:Nat):Int))*pk=N1∧0≤N1∧N1≤39-(C:Int):=by
    rcases(show pk=0∨pk=1 by lia) with rfl|rfl
    ·exact⟨0,by lia,by lia,by lia⟩
    ·exact⟨39-(C:Int),by lia,by lia,by lia⟩
   refine⟨_,_,rfl,rfl,.inr ⟨by lia,by lia⟩,N1,congrArg (fun x=>[V.int x]) Ce,by lia,by lia,?_⟩;refine Vv (fun i=>SA ah aa a p r (0+(ii:Int)) R (IC C i) (c5+61)) ⟨X8,O,_,_,_,_,_,rfl,tR,tP,by lia⟩ ?_ ?_
   ·rintro i I H5 hi ⟨X,Y,c,fN,fP,fQ,fR,rfl,W,L5,hc⟩;have S:=W.pr.ow;have pK:Y.nb=((C+i:Nat):Int):=W.nb.symm.trans W.inv.2;refine⟨_,rfl,Y.o,_,rfl,ZX.k' (k:=.inr "number") S.at' (Po ..),?_⟩;rw[pK];refine⟨_,rfl,_,rfl,_,rfl,(by show 1≤sizeLine;decide),fun d1 xr=>?_⟩;have pS:=Zh xr (.lst [.str "a"]);refine⟨(by show 2≤sizeLine;decide),fun d2 mF=>?_⟩;have fH:=Zh mF (.lst [.str "b",.str "c"]);refine⟨(by show 0≤sizeLine;decide),fun d3 mI=>?_⟩;have pT:=Zh mI (.lst []);refine⟨(by show 3≤sizeLine;decide),fun d4 Cg=>?_⟩;have n5:=Zh Cg (.lst [.ref d1,.ref d2,.ref d3]);have h1:(upd (upd (upd (upd H5 d1 (.lst [.str "a"])) d2 (.lst [.str "b",.str "c"])) d3 (.lst [])) d4 (.lst [.ref d1,.ref d2,.ref d3])) d1=some (.lst (([("a" : Str)]).map V.str)):=n5 _ _ (pT _ _ (fH _ _ Zc));have h2:(upd (upd (upd (upd H5 d1 (.lst [.str "a"])) d2 (.lst [.str "b",.str "c"])) d3 (.lst [])) d4 (.lst [.ref d1,.ref d2,.ref d3])) d2=some (.lst (([("b" : Str), "c"]).map V.str)):=n5 _ _ (pT _ _ Zc);have h3:(upd (upd (upd (upd H5 d1 (.lst [.str "a"])) d2 (.lst [.str "b",.str "c"])) d3 (.lst [])) d4 (.lst [.ref d1,.ref d2,.ref d3])) d3=some (.lst (([]:List Str).map V.str)):=n5 _ _ Zc;have h4:(upd (upd (upd (upd H5 d1 (.lst [.str "a"])) d2 (.lst [.str "b",.str "c"])) d3 (.lst [])) d4 (.lst [.ref d1,.ref d2,.ref d3])) d4=some (.lst [.ref d1,.ref d2,.ref d3]):=Zc;have js:H5 d2=none:=pS.free mF;have mQ:H5 d3=none:=(pS.trans fH).free mI;have xt:=((pS.trans fH).trans pT).trans n5;generalize upd (upd (upd (upd H5 d1 (.lst [.str "a"])) d2 (.lst [.str "b",.str "c"])) d3 (.lst [])) d4 (.lst [.ref d1,.ref d2,.ref d3])=H9 at h1 h2 h3 h4 xt ⊢;clear pS fH pT n5;have az:∀x:Str,(x = "a"∨x = "b"∨x = "c")→x.length≤1000∧AZ x:=fun x l=>by rcases l with rfl|rfl|rfl<;>exact⟨by ac_rfl,by unfold AZ cds;ac_rfl⟩
    obtain⟨kl,ks,bw,ck,xu,jj,qO,Ch⟩:∃ (kl:Addr) (ks:List Str),atI [.ref d1,.ref d2,.ref d3] (((C+i:Nat):Int) % 3)=some (V.ref kl)∧H9 kl=some (.lst (ks.map V.str))∧H5 kl=none∧sortedS ks=true∧ks.length≤100∧∀x∈ks,x.length≤1000∧AZ x:=by
     rcases(show ((C+i:Nat):Int) % 3=0∨((C+i:Nat):Int) % 3=1∨((C+i:Nat):Int) % 3=2 by lia) with h|h|h
     ·rw[h];exact⟨d1,_,rfl,h1,xr,by ac_rfl,by decide,fun x l=>az x (.inl (Ql.mp l))⟩
     ·rw[h];exact⟨d2,_,rfl,h2,js,by ac_rfl,by decide,fun x l=>az x (.inr (by simpa using l))⟩
     ·rw[h];exact⟨d3,_,rfl,h3,mQ,by ac_rfl,by decide,fun x l=>by cases l⟩
    refine⟨_,rfl,_,_,rfl,rfl,(by show (0:Int)<3;decide),d4,_,_,_,rfl,rfl,SqL.of h4,bw,(by show 3≤sizeLine;decide),fun t ht=>?_⟩;have e:=W.inv.2;have gM:=xt.trans (Zh ht (.tup [.str "add",.int ((C+i:Nat):Int),.ref kl]));have Z:=W.same gM;refine⟨X,Y,t,kl,.add,((C+i:Nat):Int),ks,rfl,Z.pr,Z.nga,Z.nb,Zc,Zh ht _ _ _ ck,W.pr.mg.M.fp_fresh xu,W.nO xu,Ch,qO,⟨e.symm,(Ko W.inv).1,(Ko W.inv).2,jj,qO⟩,fun g M H' gH eM eO dW nb' iW dB fM fO kk=>⟨_,rfl,YY ?_⟩⟩;obtain⟨dC,ko⟩:=Z.deed (J:=ID C i) gg (L5.same gM) gH dW nb' iW dB fM fO kk (by have h:=ZqR W.inv ks;rw[e]at h ⊢;exact h);rw[← eM,← eO];refine⟨_,rfl,_,rfl,g.m,g.rd,g.sd,g.L,g.s,g.nb,g.li,g.lo,g.w,M.o,M.ra,M.ga,M.Lo,M.nb,rfl,dC.pr.mg.M,dC.pr.mg.W,dC.pr.ow,dC.pr.ag,fun xn jF=>⟨_,rfl,YY ?_⟩⟩;have n6:=dC.same jF;have xv:=ko.same jF;refine⟨_,rfl,_,_,rfl,rfl,_,rfl,YX (fun d=>?_) (fun d=>?_)⟩
    rotate_left
    ·have d':¬ (3:Int)<0+(i:Int):=fun z=>d (decide_eq_true z);exact⟨g,M,c,_,_,_,_,rfl,n6.imp (ZpV #[2]),xv,hc⟩
    have d':(3:Int)<0+(i:Int):=of_decide_eq_true d;obtain⟨fI,Ci⟩:=Zo3 #[2] n6.inv;refine⟨_,rfl,_,rfl,_,rfl,_,_,rfl,rfl,(by show 0≤sizeLine;decide),fun xw n8=>⟨(by show 3≤sizeLine;decide),fun t' bY=>?_⟩⟩;have xx:=(Zh n8 (.lst [])).trans (Zh bY (.tup [.str "drop",.int (((C+i:Nat):Int)-4),.ref xw]));have pU:=n6.same xx;refine⟨g,M,t',xw,.drop,((C+i:Nat):Int)-4,[],rfl,pU.pr,pU.nga,pU.nb,Zc,Zh bY _ _ _ Zc,n6.pr.mg.M.fp_fresh n8,n6.nO n8,(fun x h=>by cases h),Qs _,Qp.mp fI,fun X2 Y2 K' pL Cj Ck xy Cm xz tX Cn Co Cp=>⟨_,rfl,YY ?_⟩⟩;obtain⟨Cq,Cr⟩:=pU.deed (J:=IC C (i+1)) gg (xv.same xx) pL xy Cm xz tX Cn Co Cp Ci;rw[← Cj,← Ck];exact⟨X2,Y2,c,_,_,_,_,rfl,Cq,Cr,hc⟩
   ·rintro I H5 ⟨X,Y,c,fN,fP,fQ,fR,rfl,W,L,hc⟩;exact⟨X,Y,c,_,_,_,_,rfl,W.imp fun h=>⟨_,h,by lia⟩,L,hc⟩
  rintro I gE pP;refine⟨SA ah aa a p r (0+(ii:Int)) R (fun P nb=>P=[]∧0≤nb∧nb≤39) (c5+61),?_,?_⟩
  ·obtain⟨X8,O,c8,fN,fP,fQ,fR,rfl,N,L9,km⟩:=pP;have S:=N.pr.ow;have cm:=S.few;have bx:(O.Lo.map (·.1)).Pairwise (·<·):=by rw[XJ N.pr.ag];exact N.pr.mg.M.up
   refine⟨_,rfl,O.o,_,rfl,ZX.k' (k:=.inr "rows") S.at' (WS ..),O.ra,_,O.Lo.map (·.1),rfl,S.rows,Ug O.Lo,by rw[Qa];lia,fun U ns cn aS aP=>?_⟩;have cT:ns=O.Lo.map (·.1):=U3 aS (Ud aP (aS.nodup_iff.mpr S.nd)) bx;have gK:U≠p:=by obtain⟨u,hu⟩:=L9.here;exact(Ze hu cn).symm
   have WB:=N.beside (o:=.lst (ns.map V.int)) cn L9.here;have tU:=L9.same (Zh cn (.lst (ns.map V.int)));have tV:R U=none:=N.old L9.here cn;have eN:Y5 (Z1 X8.L)=ns:=by rw[cT,XJ N.pr.ag,WM]
   have tW:ns.Nodup:=by rw[← eN];exact OB N.pr.mg
   have nZ:∃u,(upd R U (.lst (ns.map V.int))) p=some u:=by rw[Zb gK.symm];exact gg
   have xA:0≤X8.nb∧X8.nb≤39:=by obtain⟨i,⟨_,h1⟩,h2⟩:=N.inv;lia
   refine⟨U,rfl,⟨_,SqL.of Zc⟩,?_⟩;refine Vw (K:=K) (a:=U) (xs:=ns.map V.int) (fun i=>SA ah aa a p r (0+(ii:Int)) (upd R U (.lst (ns.map V.int))) (IB ns X8.nb i) (c5+61)) ⟨X8,O,c8,_,_,_,_,rfl,WB.imp fun h=>⟨eN,rfl⟩,tU,km⟩ (fun i I H5 _ h=>by obtain⟨X,Y,c,_,_,_,_,_,W,_,_⟩:=h;exact SqL.of (W.but _ _ Zc gK)) ?_ ?_
   ·rintro i x I H5 l ⟨X,Y,c,fN,fP,fQ,fR,rfl,W,L,hc⟩;rw[Qk]at l;cases hn:ns[i]? with
    | none=>rw[hn]at l;cases l
    | some n =>
    rw[hn]at l;cases l;refine⟨_,rfl,_,rfl,_,rfl,(by show 0≤sizeLine;decide),fun kl ck=>⟨(by show 3≤sizeLine;decide),fun t ht=>?_⟩⟩;have gM:=(Zh ck (.lst [])).trans (Zh ht (.tup [.str "drop",.int n,.ref kl]));have Z:=W.same gM;refine⟨X,Y,t,kl,.drop,n,[],rfl,Z.pr,Z.nga,Z.nb,Zc,Zh ht _ _ _ Zc,W.pr.mg.M.fp_fresh ck,W.nO ck,(fun x h=>by cases h),Qs _,Qp.mp (Kq hn W.inv),fun g M H' gH eM eO dW nb' iW dB fM fO kk=>⟨_,rfl,YY ?_⟩⟩;obtain⟨dC,ko⟩:=Z.deed (J:=IB ns X8.nb (i+1)) nZ (L.same gM) gH dW nb' iW dB fM fO kk (Ks tW hn W.inv);rw[← eM,← eO];exact⟨g,M,c,_,_,_,_,rfl,dC,ko,hc⟩
   ·rintro I H5 ⟨X,Y,c,fN,fP,fQ,fR,rfl,W,L,hc⟩;refine⟨X,Y,c,_,_,_,_,rfl,(W.imp fun h=>?_).alone tV,L,hc⟩;rw[Qa]at h;obtain⟨e,eb⟩:=Kp h;exact⟨e,by rw[eb];exact xA⟩
  rintro I j7 ⟨X,Y,c8,fN,fP,fQ,fR,rfl,W,L,km⟩;clear L LB km B0 B9 kj gg h9 xp xq pP;have eL:X.L=[]:=List.map_eq_nil_iff.mp (show Z1 X.L=[] from W.inv.1);have Cs:=W.inv.2;refine⟨fun I pR=>∃ (v6 v7 v8 v9:Option V),I=[some (.ref a),some (.int (0+(ii:Int))),some (.ref p),some (.ref r),some (.ref Y.o),some (.ref X.m),v6,v7,v8,v9]∧ZG j7 pR,?_,?_⟩
  ·have R':0<1000000:=by decide
   refine⟨ZB #[6],fun tt sQ=>⟨tt,rfl,⟨_,SqT.of Zc⟩,fun D hD=>?_⟩⟩;have st:=Zh sQ (.tup [.str "drop",.str "grow"]);have qP:(upd j7 tt (.tup [.str "drop",.str "grow"])) tt=some (.tup [.str "drop",.str "grow"]):=Zc;generalize upd j7 tt (.tup [.str "drop",.str "grow"])=Ct at st qP hD ⊢;refine Zo7 (K:=K) (a:=tt) (xs:=[.str "drop",.str "grow"]) (fun i zs I pV=>(∃v:Option V,I=[some (.ref a),some (.int (0+(ii:Int))),some (.ref p),some (.ref r),some (.ref Y.o),some (.ref X.m),fN,fP,fQ,fR,v])∧i≤2∧zs=(List.replicate i ("no row" : Str)).map V.str∧pV D=some (.lst zs)∧ZG Ct pV) ⟨⟨none,rfl⟩,by lia,rfl,Zc,Zh hD _⟩ (fun i ys I H h=>SqT.of (h.2.2.2.2 _ _ qP)) ?_ ?_
   ·rintro i x ys I pV l ⟨⟨v,rfl⟩,hi,rfl,n9,jG⟩;have bH:i<2:=(Qd.mp l).1;obtain⟨ask,rfl,nU⟩:∃ask:Str,x=.str ask∧(ask = "drop"∨ask = "grow"):=by
     rcases(show i=0∨i=1 by lia) with rfl|rfl
     ·cases l;exact⟨_,rfl,.inl rfl⟩
     ·cases l;exact⟨_,rfl,.inr rfl⟩
    refine⟨_,rfl,_,rfl,(by show 1≤sizeLine;decide),fun kl ck=>?_⟩;have sk:=Zh ck (.lst [.str "a"]);have Cu:=W.same ((st.trans jG).trans sk);refine⟨ask,X.m,X.rd,X.sd,X.L,X.s,X.nb,X.li,X.lo,Yv X.w,0,kl,rfl,nU,Cu.pr.mg.M,(by rw[eL];exact fun h=>by cases h),by lia,by lia,fun S' xB=>?_⟩;have xC:=xB _ _ (sk _ _ n9);refine⟨xC,(by rw[Qa,Qam];exact ZB #[2]),⟨_,rfl⟩,by lia,by rw[List.replicate_succ',Qf];rfl,Zc,?_⟩;intro b u hb;rw[Zb (Ze hb hD)];exact xB _ _ (sk _ _ (jG b u hb))
   ·rintro zs I pV ⟨⟨v,rfl⟩,hi,rfl,n9,jG⟩;refine⟨(by show 2≤sizeLine;decide),fun D2 ci=>?_⟩;have pW:=Zh ci (.lst [.str "no row",.str "no row"]);refine⟨.list ((List.replicate 2 ("no row" : Str)).map PyData.str),.list ((List.replicate 2 ("no row" : Str)).map PyData.str),.lst (SqL.of (pW _ _ n9)) (U9 _),.lst (SqL.of Zc) (U9 (List.replicate 2 ("no row" : Str))),#[1],#[1],_,rfl,?_⟩;rw[if_pos rfl,Me];exact Kx ⟨_,_,_,_,rfl,(st.trans jG).trans pW⟩
  rintro I pR ⟨v6,v7,v8,v9,rfl,jC⟩;have jE:=W.same jC;have S:=jE.pr.ow;refine⟨_,rfl,Y.o,_,rfl,ZX.k' (k:=.inr "number") S.at' (Po ..),?_⟩;rw[show Y.nb=X.nb from W.nb.symm];have pr:=jE.pr;obtain⟨dx,hm⟩:=pr.mg.M.ob;refine⟨_,rfl,X.m,dx,_,rfl,hm,OF ..,X.m,X.rd,X.sd,X.L,X.s,X.nb,X.li,X.lo,X.w,rfl,pr.mg.M,pr.mg.W,pr.mg.ok,fun x L' s' w' k3 q3 U' hR xD Z C5 k15=>?_⟩;obtain⟨rfl,rfl⟩:x=.non∧L'=[]:=by
   rcases hR with⟨_,h1,h2,_⟩|⟨e,t,z,he,_⟩
   ·exact⟨h1,h2.trans eL⟩
   ·rw[eL]at he;cases he
  refine⟨rfl,_,rfl,WZ rfl ?_⟩;obtain⟨xE,xF⟩:=xD.ob;refine⟨_,rfl,X.m,xE,_,rfl,xF,KG ..,(by show 1≤sizeLine;decide),fun kl ck=>?_⟩;have xG:=Zh ck (.lst [.str "a"]);refine⟨X.m,X.rd,X.sd,[],s',X.nb,_,_,_,kl,["a"],rfl,xD.same xG,(fun e h=>by cases h),by decide,Zc,by decide,(fun x l=>by rw[Ql.mp l];exact⟨by ac_rfl,by unfold AZ cds;ac_rfl⟩),by ac_rfl,fun e aT kN w k q4 V' en pM eg cV jJ Cv fj Cw Cy Z' Cz k17=>?_⟩;refine⟨_,rfl,.int X.nb,.int X.nb,rfl,XI _,fun H18 xH=>⟨_,rfl,YY ?_⟩⟩;have pX:=Cz.same xH;obtain⟨xI,xJ⟩:=pX.ob;have xK:=UZ 8 (hdM ([]++[e])) kN (Zy ([]++[e])) pX.up (Qw (show (Zy ([]++[e])).length≤60 by unfold Zy;rw[Qa];exact pX.few) #[6]) #[6] Cy;have eP:Z1 ([]++[e])=[(X.nb,[("a" : Str)],0)]:=by show [(e.n,(e.ss,e.g))]=_;rw[en,pM,eg]
  have l1:Xo [((X.nb,[("a" : Str)],0):ZS)]=1:=rfl;refine⟨_,rfl,X.m,xI,_,rfl,xJ,Zlx ..,X.m,X.rd,aT,[]++[e],kN,_,_,_,w,3,rfl,pX,Cw,xK,(by rw[eP,l1];decide),fun rr us L3 s3 w3 k4 q5 CA hrr tY kP eW xL j9 CB CC C6 C7 k19=>?_⟩;have oa:=ZmQ (ts:=us.map (·.2)) (many:=3) (by rw[eP];exact QaR ..) eW (by rw[Qa];exact xL) (by rw[Qa];exact fun z=>j9 fun y=>z (by rw[y];rfl)) CC (fun x l=>by obtain⟨e,he,rfl⟩:=Qp.mp l;exact(CB.each e he).le);rw[Qa,eP,l1]at oa;obtain⟨u,rfl⟩:=Qah.mp (oa.trans #[6]);have eu:u.2=(X.nb,0,("a" : Str)):=by obtain⟨x,z,l,hz,et⟩:=ZiE eW rfl;rw[eP]at l;rw[Ql.mp l]at hz et;cases hz;exact et
  refine⟨_,rfl,(by show 3≤sizeLine;decide),fun tp gu=>⟨(by show 1≤sizeLine;decide),fun D hD=>?_⟩⟩;have CD:=Zh gu (.tup [.int X.nb,.int 0,.str "a"]);have jG:=CD.trans (Zh hD (.lst [.ref tp]));have tZ:=Zh hD (.lst [.ref tp]) _ _ (show (upd CA tp (.tup [.int X.nb,.int 0,.str "a"])) tp=some (.tup [.int X.nb,.int 0,.str "a"]) from Zc);refine⟨.ref rr,.ref D,rfl,SK (jG _ _ tY) Zc (by show 1≤1000;decide) (KH [u] [(tp,(X.nb,0,("a" : Str)))] (by show [u.2]=_;rw[eu];rfl) (fun y hy=>jG _ _ (kP y hy)) (fun y hy=>by rw[Ql.mp hy];exact tZ)),fun H22 pW=>⟨_,rfl,YY ?_⟩⟩;refine⟨_,_,_,_,_,_,_,_,_,rfl,fun b v hb=>?_⟩;have hB:=BZ b v hb;have nM:¬ MFp X b:=fun z=>by rw[W.fM b z]at hB;cases hB
  have rV:=k15 b v (jC b v (W.but b v hB (Ze hb xg))) nM;have cJ:=xG b v rV;have CF:=xH b v (k17 b v cJ (fun z=>nM (.inl z)) (fun z=>nM (.inr (.inl z))));refine pW _ _ (jG _ _ (k19 b v CF fun z=>?_));rcases z with z|z|z|⟨e',ba,z⟩
  ·exact nM (.inl z)
  ·exact nM (.inr (.inl z))
  ·rw[z,fj]at cJ;cases cJ
  ·rw[Ql.mp ba]at z;rcases z with z|z|z
   ·rw[z,cV]at cJ;cases cJ
   ·rw[z,jJ]at cJ;cases cJ
   ·rw[z,Cv]at cJ;cases cJ
 ·rintro I H2 ⟨v1,v2,v3,v4,v5,v6,v7,v8,v9,rfl,s2⟩;exact q _
end
theorem ZU{K:#[7]}{h:Heap}{mg:Str→Option Value}{x:Str}{st:Stmt}{ps:List Str}{f:Addr}{od b:Option Addr}{sl:Array (Option Value)}{g kV i d e ct:Value}(X:K.In h)(G:h.Ns mainGlobals mg)
  (a:PySem.W.nsIn K mainGlobals x=some (some (.ref f))) (l:K.lookup f=some ⟨g,od,.func (PySem.W.fnOf x x (Zq st) (Zm st) (Zg st) .none kV i d b e ct),sl⟩) (c:PySem.W.codeIn K e x=true) (k:PySem.W.keepIn K (.ref f)=true)
  (hb:∀ (kV j d:Value) (b:Option Addr) (m ct:Value) (us:List Value),us.length=ps.length→bindArgs (PySem.W.fnOf x x (Zq st) (Zm st) (Zg st) .none kV j d b m ct) ⟨us,[]⟩=pure (ps.zip us)):Top K mg x st ps :=
 ⟨_,_,ZK (st:=st) l c k,Q5 X G a,(ZK (st:=st) l c k).binds hb⟩
theorem Oy{n:Nat}{us:List Value}(h:us.length=n+1):∃a r,us=a::r∧r.length=n:=by obtain⟨a,r,rfl⟩:=List.exists_cons_of_length_eq_add_one h;exact⟨a,r,rfl,Nat.succ.inj h⟩
theorem YE(us:List Value)(h:us.length=1):∃a0,us=[a0]:=Qah.mp h
theorem YJ(us:List Value)(h:us.length=2):∃a0 a1,us=[a0,a1]:=by obtain⟨a,r,rfl,g⟩:=Oy h;obtain⟨b,rfl⟩:=YE r g;exact⟨a,b,rfl⟩
theorem Wv(us:List Value)(h:us.length=3):∃a0 a1 a2,us=[a0,a1,a2]:=by obtain⟨a,r,rfl,g⟩:=Oy h;obtain⟨b,c,rfl⟩:=YJ r g;exact⟨a,b,c,rfl⟩
theorem Kn(us:List Value)(h:us.length=4):∃a0 a1 a2 a3,us=[a0,a1,a2,a3]:=by obtain⟨a,r,rfl,g⟩:=Oy h;obtain⟨b,c,d,rfl⟩:=Wv r g;exact⟨a,b,c,d,rfl⟩
theorem all_mk{l:PySem.W.OpenLaw}{w:World}{K:#[7]}{h:Heap}{mg:Str→Option Value}{fa:Addr}(X:K.In h)(G:h.Ns mainGlobals mg)(CG:mg "law" = some (.ref fa))
  {ah:Addr}
  {aa:Addr}
  {ae:Addr}
  {al:Addr}
  {aj:Addr}
  {af:Addr}
  {ak:Addr}
  {hV iY:Str} {i3:Addr} {hW:List Value} {hZ:List Str} {gN:List Value} {h7:Bool} {gO:Option Bool} {h8:Option Addr} {ic ie ig ij ik:Option Value}
  {og pY:Str} {pZ:Addr} {oh:List Value} {oi:List Str} {lP:List Value} {oj:Bool} {lQ:Option Bool} {on:Option Addr} {oo oq ou oy oz:Option Value}
  {i4:Tok}
  (aCRow:#[Xns,K,"Row",ah]) (pgRow:PySem.W.plainGet K ah Str.empty=true) (hdRow:PySem.W.hasDictIn K ah=true) (poRow:PySem.W.plainOver K ah=true) (saRow:PySem.W.findIn K (.ref ah) "__setattr__" = some (some (.builtin "object.__setattr__"))) (mkRow:PySem.W.makesIn K ah=true) (kcRow:#[Xki,K,ah])
  (nARow_all_keys:PySem.W.findIn K (.ref ah) "all_keys" = some none)
  (nARow_fars:PySem.W.findIn K (.ref ah) "fars" = some none)
  (nARow_gone:PySem.W.findIn K (.ref ah) "gone" = some none)
  (aCMerge:#[Xns,K,"Merge",aa]) (pgMerge:PySem.W.plainGet K aa Str.empty=true) (hdMerge:PySem.W.hasDictIn K aa=true) (poMerge:PySem.W.plainOver K aa=true) (saMerge:PySem.W.findIn K (.ref aa) "__setattr__" = some (some (.builtin "object.__setattr__"))) (mkMerge:PySem.W.makesIn K aa=true) (kcMerge:#[Xki,K,aa])
  (nAMerge_best:PySem.W.findIn K (.ref aa) "best" = some none)
  (nAMerge_likened:PySem.W.findIn K (.ref aa) "likened" = some none)
  (nAMerge_looked:PySem.W.findIn K (.ref aa) "looked" = some none)
  (nAMerge_next_number:PySem.W.findIn K (.ref aa) "next_number" = some none)
  (nAMerge_rows:PySem.W.findIn K (.ref aa) "rows" = some none)
  (nAMerge_stays:PySem.W.findIn K (.ref aa) "stays" = some none)
  (aCMergeError:#[Xns,K,"MergeError",ae])
  (aCFull:#[Xns,K,"Full",al])
  (aCNoRow:#[Xns,K,"NoRow",aj])
  (aCOutOfOrder:#[Xns,K,"OutOfOrder",af])
  (aCBadLine:#[Xns,K,"BadLine",ak])
  (loMergeError:K.lookup ae=some (excClassObj hV iY ae i3 hW XZ true hZ gN h7 gO h8 ic ie ig ij ik "ValueError.__new__"))
  (loNoRow:K.lookup aj=some (excClassObj og pY aj pZ oh (.ref ae::XZ) true oi lP oj lQ on oo oq ou oy oz "ValueError.__new__"))
  (kcNoRow:#[Xki,K,aj])
  (inNoRow:PySem.W.findIn K (.ref aj) "__init__" = some (some (.builtin "ValueError.__init__")))
  (g1NoRow:PySem.W.findIn K (.ref aj) "__getattribute__" = some (some (.builtin "BaseException.__getattribute__")))
  (g2NoRow:PySem.W.findIn K (.ref aj) "__getattr__" = some none)
  (g3NoRow:PySem.W.subIn K (.ref aj) (.type "BaseException")=some true)
  (g4NoRow:PySem.W.hasDictIn K aj=true)
  (g5NoRow:PySem.W.findIn K (.ref aj) "__class__" = some (some (.builtin "object.__class__")))
  (g6NoRow:PySem.W.mroIn K aj (.type "object")=some true)
  (gvNoRow:PySem.W.subIn K (.ref aj) (.type "ValueError")=some true)
  (gsNoRow:PySem.W.subIn K (.ref aj) (.ref aj)=some true)
  (gkNoRow_MergeError:PySem.W.subIn K (.ref aj) (.ref ae)=some true)
  (gkNoRow_Full:PySem.W.subIn K (.ref aj) (.ref al)=some false)
  (gkNoRow_OutOfOrder:PySem.W.subIn K (.ref aj) (.ref af)=some false)
  (gkNoRow_BadLine:PySem.W.subIn K (.ref aj) (.ref ak)=some false)
  (giMergeError:PySem.W.isClsIn K ae=true)
  (gtMergeError:PySem.W.typeIn K (.ref ae)=some (.type "type"))
  (giFull:PySem.W.isClsIn K al=true)
  (gtFull:PySem.W.typeIn K (.ref al)=some (.type "type"))
  (giNoRow:PySem.W.isClsIn K aj=true)
  (gtNoRow:PySem.W.typeIn K (.ref aj)=some (.type "type"))
  (giOutOfOrder:PySem.W.isClsIn K af=true)
  (gtOutOfOrder:PySem.W.typeIn K (.ref af)=some (.type "type"))
  (giBadLine:PySem.W.isClsIn K ak=true)
  (gtBadLine:PySem.W.typeIn K (.ref ak)=some (.type "type"))
  (hkg:PySem.W.specialIn K (.builtin "object.__class__") "__get__" = some (some (.builtin "getset_descriptor.__get__")))
  (hkt:PySem.W.takesIn K (.builtin "object.__class__")=some true)
  (a0:#[Xns,K,"halves",f0]) (l0:#[Xlk,K,f0,oc0,od0,"halves","halves",RN,kV0,dc0,pm0,an0,CH,ct0,sl0]) (c0:#[Xci,K,CH,"halves"]) (k0:#[Xki,K,f0])
  (a1:#[Xns,K,"way_up",f1]) (l1:#[Xlk,K,f1,oc1,od1,"way_up","way_up",RM,kV1,dc1,pm1,an1,CI,ct1,sl1]) (c1:#[Xci,K,CI,"way_up"]) (k1:#[Xki,K,f1])
  (a2:#[Xns,K,"alike",f2]) (l2:#[Xlk,K,f2,oc2,od2,"alike","alike",RL,kV2,dc2,pm2,an2,CJ,ct2,kU]) (c2:#[Xci,K,CJ,"alike"]) (k2:#[Xki,K,f2])
  (a3:#[Xns,K,"liken",f3]) (l3:#[Xlk,K,f3,oc3,od3,"liken","liken",RK,kV3,dc3,pm3,an3,CK,ct3,sl3]) (c3:#[Xci,K,CK,"liken"]) (k3:#[Xki,K,f3])
  (a4:#[Xns,K,"liken_from",f4]) (l4:#[Xlk,K,f4,oc4,od4,"liken_from","liken_from",RJ,kV4,dc4,pm4,an4,CL,ct4,sl4]) (c4:#[Xci,K,CL,"liken_from"]) (k4:#[Xki,K,f4])
  (a5:#[Xns,K,"alike_from",f5]) (l5:#[Xlk,K,f5,oc5,od5,"alike_from","alike_from",RI,kV5,dc5,pm5,an5,CM,ct5,wq]) (c5:#[Xci,K,CM,"alike_from"]) (k5:#[Xki,K,f5])
  (a6:#[Xns,K,"order_at",f6]) (l6:#[Xlk,K,f6,oc6,od6,"order_at","order_at",RH,kV6,dc6,pm6,an6,CN,ct6,sl6]) (c6:#[Xci,K,CN,"order_at"]) (k6:#[Xki,K,f6])
  (a7:#[Xns,K,"first_break",f7]) (l7:#[Xlk,K,f7,oc7,od7,"first_break","first_break",RG,kV7,dc7,pm7,an7,CO,ct7,sl7]) (c7:#[Xci,K,CO,"first_break"]) (k7:#[Xki,K,f7])
  (a8:#[Xns,K,"alikes",f8]) (l8:#[Xlk,K,f8,oc8,od8,"alikes","alikes",RF,kV8,dc8,pm8,an8,CP,ct8,sl8]) (c8:#[Xci,K,CP,"alikes"]) (k8:#[Xki,K,f8])
  (a9:#[Xns,K,"refuse_break",f9]) (l9:#[Xlk,K,f9,oc9,od9,"refuse_break","refuse_break",RE,kV9,dc9,pm9,an9,CQ,ct9,sl9]) (c9:#[Xci,K,CQ,"refuse_break"]) (k9:#[Xki,K,f9])
  (a10:#[Xns,K,"matches_up",xM]) (l10:#[Xlk,K,xM,C8,C9,"matches_up","matches_up",RD,Db,Dc,Dd,De,xN,Dg,Dh]) (c10:#[Xci,K,xN,"matches_up"]) (k10:#[Xki,K,xM])
  (a11:#[Xns,K,"_law_mix",xO]) (l11:#[Xlk,K,xO,Di,Dj,"_law_mix","_law_mix",RC,Dk,Dl,Dm,Do,xP,Dp,Dq]) (c11:#[Xci,K,xP,"_law_mix"]) (k11:#[Xki,K,xO])
  (a12:#[Xns,K,"_law_left",xQ]) (l12:#[Xlk,K,xQ,Dr,Ds,"_law_left","_law_left",RB,Dt,Du,Dv,Dw,xR,Dx,Dy]) (c12:#[Xci,K,xR,"_law_left"]) (k12:#[Xki,K,xQ])
  (a13:#[Xns,K,"_law_pick",xS]) (l13:#[Xlk,K,xS,Dz,DA,"_law_pick","_law_pick",RA,DB,DC,DD,DE,xT,DF,DG]) (c13:#[Xci,K,xT,"_law_pick"]) (k13:#[Xki,K,xS])
  (a14:#[Xns,K,"_law_stems",xU]) (l14:#[Xlk,K,xU,DI,DJ,"_law_stems","_law_stems",Tw,DK,DL,DM,DN,xV,DO,DP]) (c14:#[Xci,K,xV,"_law_stems"]) (k14:#[Xki,K,xU])
  (a15:#[Xns,K,"_law_key",xW]) (l15:#[Xlk,K,xW,DQ,DR,"_law_key","_law_key",Tv,DS,DT,DU,DW,xX,DX,DY]) (c15:#[Xci,K,xX,"_law_key"]) (k15:#[Xki,K,xW])
  (a16:#[Xns,K,"_law_keys",xY]) (l16:#[Xlk,K,xY,DZ,D0,"_law_keys","_law_keys",Rz,D1,D3,D4,D5,xZ,D6,D7]) (c16:#[Xci,K,xZ,"_law_keys"]) (k16:#[Xki,K,xY])
  (a17:#[Xns,K,"_law_row",x0]) (l17:#[Xlk,K,x0,D8,D9,"_law_row","_law_row",Rx,D',Ea,Eb,Ec,x5,Ed,Ee]) (c17:#[Xci,K,x5,"_law_row"]) (k17:#[Xki,K,x0])
  (a18:#[Xns,K,"_law_many",x6]) (l18:#[Xlk,K,x6,Ef,Eg,"_law_many","_law_many",Rw,Eh,Ei,Ej,Ek,x8,El,Em]) (c18:#[Xci,K,x8,"_law_many"]) (k18:#[Xki,K,x6])
  (a19:#[Xns,K,"_law_rows",x9]) (l19:#[Xlk,K,x9,En,Eo,"_law_rows","_law_rows",Tu,Ep,Er,Es,Et,ya,Eu,Ev]) (c19:#[Xci,K,ya,"_law_rows"]) (k19:#[Xki,K,x9])
  (a20:#[Xns,K,"_law_alike",yb]) (l20:#[Xlk,K,yb,Ew,Ex,"_law_alike","_law_alike",Rv,Ey,Ez,EB,EC,yd,ED,EE]) (c20:#[Xci,K,yd,"_law_alike"]) (k20:#[Xki,K,yb])
  (a21:#[Xns,K,"_law_halves",ye]) (l21:#[Xlk,K,ye,EF,EG,"_law_halves","_law_halves",Ru,EH,EI,EJ,EK,yf,EL,EM]) (c21:#[Xci,K,yf,"_law_halves"]) (k21:#[Xki,K,ye])
  (a22:#[Xns,K,"_law_least",yg]) (l22:#[Xlk,K,yg,EN,EO,"_law_least","_law_least",Tt,EQ,ER,ES,ET,yh,EU,EV]) (c22:#[Xci,K,yh,"_law_least"]) (k22:#[Xki,K,yg])
  (a23:#[Xns,K,"_law_same",yi]) (l23:#[Xlk,K,yi,EW,EX,"_law_same","_law_same",Ts,EY,EZ,E1,E2,yj,E3,E4]) (c23:#[Xci,K,yj,"_law_same"]) (k23:#[Xki,K,yi])
  (a24:#[Xns,K,"_law_world",yk]) (l24:#[Xlk,K,yk,E5,E6,"_law_world","_law_world",Rt,E7,E8,E9,Fa,yl,Fb,Fc]) (c24:#[Xci,K,yl,"_law_world"]) (k24:#[Xki,K,yk])
  (a25:#[Xns,K,"_law_heads",ym]) (l25:#[Xlk,K,ym,Fd,Fe,"_law_heads","_law_heads",Rs,Ff,Fg,Fh,Fi,yn,Fj,Fk]) (c25:#[Xci,K,yn,"_law_heads"]) (k25:#[Xki,K,ym])
  (a26:#[Xns,K,"_law_first_play",yp]) (l26:#[Xlk,K,yp,Fl,Fm,"_law_first_play","_law_first_play",Rr,Fn,Fo,Fq,Fs,yq,Ft,Fu]) (c26:#[Xci,K,yq,"_law_first_play"]) (k26:#[Xki,K,yp])
  (a27:#[Xns,K,"_law_play",yr]) (l27:#[Xlk,K,yr,Fv,Fw,"_law_play","_law_play",Rq,Fx,Fy,Fz,FA,yt,FC,FD]) (c27:#[Xci,K,yt,"_law_play"]) (k27:#[Xki,K,yr])
  (a28:#[Xns,K,"_law_way",yu]) (l28:#[Xlk,K,yu,FE,FF,"_law_way","_law_way",Rp,FG,FH,FI,FJ,yv,FK,FL]) (c28:#[Xci,K,yv,"_law_way"]) (k28:#[Xki,K,yu])
  (a29:#[Xns,K,"_law_coming",yw]) (l29:#[Xlk,K,yw,FM,FN,"_law_coming","_law_coming",Ro,FO,FP,FQ,FR,yx,FS,FT]) (c29:#[Xci,K,yx,"_law_coming"]) (k29:#[Xki,K,yw])
  (a30:#[Xns,K,"_law_taken",yy]) (l30:#[Xlk,K,yy,FU,FW,"_law_taken","_law_taken",Rm,FX,FY,FZ,F0,yz,F1,F3]) (c30:#[Xci,K,yz,"_law_taken"]) (k30:#[Xki,K,yy])
  (a31:#[Xns,K,"_law_left_of",yA]) (l31:#[Xlk,K,yA,F4,F5,"_law_left_of","_law_left_of",Tr,F6,F7,F8,F9,yB,F',Ga]) (c31:#[Xci,K,yB,"_law_left_of"]) (k31:#[Xki,K,yA])
  (a32:#[Xns,K,"_law_stands",yC]) (l32:#[Xlk,K,yC,Gb,Gc,"_law_stands","_law_stands",Rl,Gd,Ge,Gf,Gg,yD,Gh,Gi]) (c32:#[Xci,K,yD,"_law_stands"]) (k32:#[Xki,K,yC])
  (a33:#[Xns,K,"_law_refused",yE]) (l33:#[Xlk,K,yE,Gj,Gk,"_law_refused","_law_refused",Rk,Gm,Gn,Go,Gp,yF,Gq,Gr]) (c33:#[Xci,K,yF,"_law_refused"]) (k33:#[Xki,K,yE])
  (a34:#[Xns,K,"_law_done",yG]) (l34:#[Xlk,K,yG,Gs,Gu,"_law_done","_law_done",Rj,Gv,Gw,Gx,Gy,yH,Gz,GA]) (c34:#[Xci,K,yH,"_law_done"]) (k34:#[Xki,K,yG])
  (a35:#[Xns,K,"law",yI]) (l35:#[Xlk,K,yI,GB,GC,"law","law",Wj,yJ,yK,yL,yM,qQ,yN,GD]) (c35:#[Xci,K,qQ,"law"]) (k35:#[Xki,K,yI])
  (a36:#[Xfi,K,ah,"__init__",t4]) (i36:#[Xif,K,t4]) (l36:#[Xlk,K,t4,GF,GG,"__init__","Row.__init__",UG,GH,GI,GJ,GK,yO,GL,GN]) (c36:#[Xci,K,yO,"Row.__init__"]) (k36:#[Xki,K,t4])
  (a37:#[Xfi,K,ah,"to_go",t9]) (i37:#[Xif,K,t9]) (l37:#[Xlk,K,t9,GO,GP,"to_go","Row.to_go",UF,GQ,GR,GS,GU,yP,GV,GW]) (c37:#[Xci,K,yP,"Row.to_go"]) (k37:#[Xki,K,t9])
  (a38:#[Xfi,K,ah,"head",ua]) (i38:#[Xif,K,ua]) (l38:#[Xlk,K,ua,GX,GY,"head","Row.head",UE,GZ,G0,G1,G2,yQ,G3,G4]) (c38:#[Xci,K,yQ,"Row.head"]) (k38:#[Xki,K,ua])
  (a39:#[Xfi,K,aa,"__init__",uc]) (i39:#[Xif,K,uc]) (l39:#[Xlk,K,uc,G5,G6,"__init__","Merge.__init__",UD,G7,G8,G9,G',yR,Ha,Hb]) (c39:#[Xci,K,yR,"Merge.__init__"]) (k39:#[Xki,K,uc])
  (a40:#[Xfi,K,aa,"coming",ud]) (i40:#[Xif,K,ud]) (l40:#[Xlk,K,ud,Hc,He,"coming","Merge.coming",UC,Hg,Hh,Hj,Hk,yS,Hl,Hm]) (c40:#[Xci,K,yS,"Merge.coming"]) (k40:#[Xki,K,ud])
  (a41:#[Xfi,K,aa,"take",ue]) (i41:#[Xif,K,ue]) (l41:#[Xlk,K,ue,Hn,Ho,"take","Merge.take",UB,Hq,Hr,Hs,Ht,yT,Hv,Hw]) (c41:#[Xci,K,yT,"Merge.take"]) (k41:#[Xki,K,ue])
  (a42:#[Xfi,K,aa,"take_few",uf]) (i42:#[Xif,K,uf]) (l42:#[Xlk,K,uf,Hx,Hy,"take_few","Merge.take_few",Z8,Hz,HA,HC,HD,yU,HE,HF]) (c42:#[Xci,K,yU,"Merge.take_few"]) (k42:#[Xki,K,uf])
  (a43:#[Xfi,K,aa,"left",ug]) (i43:#[Xif,K,ug]) (l43:#[Xlk,K,ug,HG,HH,"left","Merge.left",Vj,HI,HJ,HK,HL,yV,HM,HN]) (c43:#[Xci,K,yV,"Merge.left"]) (k43:#[Xki,K,ug])
  (a44:#[Xfi,K,aa,"heads",uh]) (i44:#[Xif,K,uh]) (l44:#[Xlk,K,uh,HP,HQ,"heads","Merge.heads",Vi,HR,HS,HU,HV,yW,HW,HX]) (c44:#[Xci,K,yW,"Merge.heads"]) (k44:#[Xki,K,uh])
  (a45:#[Xfi,K,aa,"likenings",ui]) (i45:#[Xif,K,ui]) (l45:#[Xlk,K,ui,HY,HZ,"likenings","Merge.likenings",Z5,H0,Ia,Ib,Ic,yX,Ie,Ig]) (c45:#[Xci,K,yX,"Merge.likenings"]) (k45:#[Xki,K,ui])
  (a46:#[Xfi,K,aa,"looks",uj]) (i46:#[Xif,K,uj]) (l46:#[Xlk,K,uj,Ih,Ii,"looks","Merge.looks",UA,Ij,Ik,Il,Im,yY,Io,Ip]) (c46:#[Xci,K,yY,"Merge.looks"]) (k46:#[Xki,K,uj])
  (a47:#[Xfi,K,aa,"add_row",uk]) (i47:#[Xif,K,uk]) (l47:#[Xlk,K,uk,Iq,Ir,"add_row","Merge.add_row",Uz,Iu,Iv,Iw,Ix,yZ,Iy,Iz]) (c47:#[Xci,K,yZ,"Merge.add_row"]) (k47:#[Xki,K,uk])
  (a48:#[Xfi,K,aa,"drop_row",ul]) (i48:#[Xif,K,ul]) (l48:#[Xlk,K,ul,IE,IF,"drop_row","Merge.drop_row",Z7,IG,IH,II,IJ,y0,IK,IL]) (c48:#[Xci,K,y0,"Merge.drop_row"]) (k48:#[Xki,K,ul])
  (a49:#[Xfi,K,aa,"grow",um]) (i49:#[Xif,K,um]) (l49:#[Xlk,K,um,IM,IN,"grow","Merge.grow",Uy,IP,IQ,IR,IS,y4,IT,IU]) (c49:#[Xci,K,y4,"Merge.grow"]) (k49:#[Xki,K,um])
  (a50:#[Xfi,K,aa,"row_of",uo]) (i50:#[Xif,K,uo]) (l50:#[Xlk,K,uo,IV,IW,"row_of","Merge.row_of",Ux,IX,IY,IZ,I0,y6,Ja,Jb]) (c50:#[Xci,K,y6,"Merge.row_of"]) (k50:#[Xki,K,uo])
  (a51:#[Xfi,K,aa,"play_all",uq]) (i51:#[Xif,K,uq]) (l51:#[Xlk,K,uq,Jc,Jd,"play_all","Merge.play_all",Uw,Je,Jf,Jg,Jh,y8,Ji,Jj]) (c51:#[Xci,K,y8,"Merge.play_all"]) (k51:#[Xki,K,uq])
  (a52:#[Xfi,K,aa,"play",ur]) (i52:#[Xif,K,ur]) (l52:#[Xlk,K,ur,Jk,Jl,"play","Merge.play",Uv,Jm,Jn,Jo,Jp,y9,Jq,Jr]) (c52:#[Xci,K,y9,"Merge.play"]) (k52:#[Xki,K,ur])
  (a53:#[Xfi,K,aa,"send_out",ut]) (i53:#[Xif,K,ut]) (l53:#[Xlk,K,ut,Js,Jt,"send_out","Merge.send_out",Uu,Ju,Jv,Jw,Jx,zc,Jy,Jz]) (c53:#[Xci,K,zc,"Merge.send_out"]) (k53:#[Xki,K,ut])
  (a54:#[Xfi,K,aa,"play_again",uu]) (i54:#[Xif,K,uu]) (l54:#[Xlk,K,uu,JA,JB,"play_again","Merge.play_again",ZY,JC,JD,JE,JF,zd,JG,JH]) (c54:#[Xci,K,zd,"Merge.play_again"]) (k54:#[Xki,K,uu])
  (a55:#[Xfi,K,aa,"meet",uv]) (i55:#[Xif,K,uv]) (l55:#[Xlk,K,uv,JI,JJ,"meet","Merge.meet",Ut,JK,JL,JM,JN,ze,JO,JP]) (c55:#[Xci,K,ze,"Merge.meet"]) (k55:#[Xki,K,uv])
  (giMOST_ROWS:PySem.W.nsIn K mainGlobals "MOST_ROWS" = some (some (.int 16 i4)))
  (z0:PySem.W.nsIn K mainGlobals "ValueError" = some none) (z1:PySem.W.nsIn K mainGlobals "abs" = some none) (z2:PySem.W.nsIn K mainGlobals "all" = some none) (z3:PySem.W.nsIn K mainGlobals "bool" = some none) (z4:PySem.W.nsIn K mainGlobals "enumerate" = some none) (z5:PySem.W.nsIn K mainGlobals "int" = some none) (z6:PySem.W.nsIn K mainGlobals "isinstance" = some none) (z7:PySem.W.nsIn K mainGlobals "len" = some none) (z8:PySem.W.nsIn K mainGlobals "list" = some none) (z9:PySem.W.nsIn K mainGlobals "max" = some none) (z10:PySem.W.nsIn K mainGlobals "min" = some none) (z11:PySem.W.nsIn K mainGlobals "range" = some none) (z12:PySem.W.nsIn K mainGlobals "sorted" = some none) (z13:PySem.W.nsIn K mainGlobals "str" = some none) (z14:PySem.W.nsIn K mainGlobals "sum" = some none) (z15:PySem.W.nsIn K mainGlobals "tuple" = some none) (z16:PySem.W.nsIn K mainGlobals "zip" = some none) :
  ∃fd:FuncData,(∀ (s:Shared) (v:Value),BindsTo s fd ⟨[v],[]⟩ [("_law_script",v)])∧∀base:Heap,K.In base→base.Ns mainGlobals mg→YC l.prog w K mg base CX0 18 fa fd ["_law_script"] (Sx K):=by
 have e:=CG.symm.trans (Q5 X G a35);cases e;have T:Z9 K mg ah aa ae al aj af ak:=⟨⟨QD X G z0,QD X G z1,QD X G z2,QD X G z3,QD X G z4,QD X G z5,QD X G z6,QD X G z7,QD X G z8,QD X G z9,QD X G z10,QD X G z11,QD X G z12,QD X G z13,QD X G z14,QD X G z15,QD X G z16⟩,ZU X G a0 l0 c0 k0 #[1,YE],ZU X G a1 l1 c1 k1 #[2,YJ],ZU X G a2 l2 c2 k2 #[2,YJ],ZU X G a3 l3 c3 k3 #[2,YJ],ZU X G a4 l4 c4 k4 #[3,Wv],ZU X G a5 l5 c5 k5 #[3,Wv],ZU X G a6 l6 c6 k6 #[3,Wv],ZU X G a7 l7 c7 k7 #[1,YE],ZU X G a8 l8 c8 k8 #[1,YE],ZU X G a9 l9 c9 k9 #[2,YJ],ZU X G a10 l10 c10 k10 #[2,YJ],ZU X G a11 l11 c11 k11 #[2,YJ],ZU X G a12 l12 c12 k12 #[2,YJ],ZU X G a13 l13 c13 k13 #[2,YJ],ZU X G a14 l14 c14 k14 #[1,YE],ZU X G a15 l15 c15 k15 #[2,YJ],ZU X G a16 l16 c16 k16 #[3,Wv],ZU X G a17 l17 c17 k17 #[3,Wv],ZU X G a18 l18 c18 k18 #[1,YE],ZU X G a19 l19 c19 k19 #[1,YE],ZU X G a20 l20 c20 k20 #[2,YJ],ZU X G a21 l21 c21 k21 #[1,YE],ZU X G a22 l22 c22 k22 #[2,YJ],ZU X G a23 l23 c23 k23 #[2,YJ],ZU X G a24 l24 c24 k24 #[1,YE],ZU X G a25 l25 c25 k25 #[1,YE],ZU X G a26 l26 c26 k26 #[2,YJ],ZU X G a27 l27 c27 k27 #[1,YE],ZU X G a28 l28 c28 k28 #[2,YJ],ZU X G a29 l29 c29 k29 #[1,YE],ZU X G a30 l30 c30 k30 #[1,YE],ZU X G a31 l31 c31 k31 #[1,YE],ZU X G a32 l32 c32 k32 #[2,YJ],ZU X G a33 l33 c33 k33 (fun _ _ _ _ _ _ us hl=>by obtain⟨_,_,_,_,rfl⟩:=Kn us hl;exact rfl),ZU X G a34 l34 c34 k34 #[3,Wv],⟨_,_,ZK (st:=UG) l36 c36 k36,⟨mkRow,a36,i36,kcRow⟩,(ZK (st:=UG) l36 c36 k36).binds (ps:=["self", "keys"]) #[2,YJ],Q5 X G aCRow⟩,⟨_,_,ZK (st:=UF) l37 c37 k37,⟨a37,i37,k37⟩,(ZK (st:=UF) l37 c37 k37).binds (ps:=["self"]) #[1,YE]⟩,⟨_,_,ZK (st:=UE) l38 c38 k38,⟨a38,i38,k38⟩,(ZK (st:=UE) l38 c38 k38).binds (ps:=["self"]) #[1,YE]⟩,⟨_,_,ZK (st:=UD) l39 c39 k39,⟨mkMerge,a39,i39,kcMerge⟩,(ZK (st:=UD) l39 c39 k39).binds (ps:=["self", "rows"]) #[2,YJ],Q5 X G aCMerge⟩,⟨_,_,ZK (st:=UC) l40 c40 k40,⟨a40,i40,k40⟩,(ZK (st:=UC) l40 c40 k40).binds (ps:=["self"]) #[1,YE]⟩,⟨_,_,ZK (st:=UB) l41 c41 k41,⟨a41,i41,k41⟩,(ZK (st:=UB) l41 c41 k41).binds (ps:=["self"]) #[1,YE]⟩,⟨_,_,ZK (st:=Z8) l42 c42 k42,⟨a42,i42,k42⟩,(ZK (st:=Z8) l42 c42 k42).binds (ps:=["self", "many"]) #[2,YJ]⟩,⟨_,_,ZK (st:=Vj) l43 c43 k43,⟨a43,i43,k43⟩,(ZK (st:=Vj) l43 c43 k43).binds (ps:=["self"]) #[1,YE]⟩,⟨_,_,ZK (st:=Vi) l44 c44 k44,⟨a44,i44,k44⟩,(ZK (st:=Vi) l44 c44 k44).binds (ps:=["self"]) #[1,YE]⟩,⟨_,_,ZK (st:=Z5) l45 c45 k45,⟨a45,i45,k45⟩,(ZK (st:=Z5) l45 c45 k45).binds (ps:=["self"]) #[1,YE]⟩,⟨_,_,ZK (st:=UA) l46 c46 k46,⟨a46,i46,k46⟩,(ZK (st:=UA) l46 c46 k46).binds (ps:=["self"]) #[1,YE]⟩,⟨_,_,ZK (st:=Uz) l47 c47 k47,⟨a47,i47,k47⟩,(ZK (st:=Uz) l47 c47 k47).binds (ps:=["self", "row"]) #[2,YJ]⟩,⟨_,_,ZK (st:=Z7) l48 c48 k48,⟨a48,i48,k48⟩,(ZK (st:=Z7) l48 c48 k48).binds (ps:=["self", "n"]) #[2,YJ]⟩,⟨_,_,ZK (st:=Uy) l49 c49 k49,⟨a49,i49,k49⟩,(ZK (st:=Uy) l49 c49 k49).binds (ps:=["self", "n", "keys"]) #[3,Wv]⟩,⟨_,_,ZK (st:=Ux) l50 c50 k50,⟨a50,i50,k50⟩,(ZK (st:=Ux) l50 c50 k50).binds (ps:=["self", "n"]) #[2,YJ]⟩,⟨_,_,ZK (st:=Uw) l51 c51 k51,⟨a51,i51,k51⟩,(ZK (st:=Uw) l51 c51 k51).binds (ps:=["self"]) #[1,YE]⟩,⟨_,_,ZK (st:=Uv) l52 c52 k52,⟨a52,i52,k52⟩,(ZK (st:=Uv) l52 c52 k52).binds (ps:=["self", "numbers"]) #[2,YJ]⟩,⟨_,_,ZK (st:=Uu) l53 c53 k53,⟨a53,i53,k53⟩,(ZK (st:=Uu) l53 c53 k53).binds (ps:=["self", "number"]) #[2,YJ]⟩,⟨_,_,ZK (st:=ZY) l54 c54 k54,⟨a54,i54,k54⟩,(ZK (st:=ZY) l54 c54 k54).binds (ps:=["self", "meeting", "comer"]) #[3,Wv]⟩,⟨_,_,ZK (st:=Ut) l55 c55 k55,⟨a55,i55,k55⟩,(ZK (st:=Ut) l55 c55 k55).binds (ps:=["self", "one", "other", "far"]) (fun _ _ _ _ _ _ us hl=>by obtain⟨_,_,_,_,rfl⟩:=Kn us hl;exact rfl)⟩,⟨pgRow,hdRow,poRow,saRow⟩,nARow_all_keys,nARow_fars,nARow_gone,⟨pgMerge,hdMerge,poMerge,saMerge⟩,nAMerge_best,nAMerge_likened,nAMerge_looked,nAMerge_next_number,nAMerge_rows,nAMerge_stays,⟨_,Q5 X G giMOST_ROWS⟩,Q5 X G aCMergeError,Q5 X G aCFull,Q5 X G aCNoRow,Q5 X G aCOutOfOrder,Q5 X G aCBadLine,⟨_,_,_,_,_,_,_,_,_,_,_,_,_,_,_,_,loMergeError⟩,⟨⟨_,_,_,_,_,_,_,_,_,_,_,_,_,_,loNoRow⟩,inNoRow,kcNoRow,Q5 X G aCNoRow⟩,⟨g1NoRow,g2NoRow,g3NoRow,g4NoRow,g5NoRow,g6NoRow⟩,ZnG giMergeError gtMergeError gkNoRow_MergeError,RP giFull gtFull gkNoRow_Full gsNoRow,Zng,RP giOutOfOrder gtOutOfOrder gkNoRow_OutOfOrder gsNoRow,RP giBadLine gtBadLine gkNoRow_BadLine gsNoRow,Zrp gvNoRow,hkg,hkt⟩;exact⟨PySem.W.fnOf "law" "law" (Zq Wj) (Zm Wj) (Zg Wj) .none yJ yK yL yM qQ yN,fun s v=>.of_eq rfl,fun base _ _=>ZqA (ZK (st:=Wj) l35 c35 k35) T⟩
theorem walk{l:PySem.W.OpenLaw}{q:Program}{e:List Str}{g:(Str→Option Value)→Heap→Prop}{b:World→Heap→Prop}{d:DefRec}{K:Params→#[7]}(i:l.most=some 63)(j:d.params.defaults=[])
  (m:∀ (w:World) (h:Heap),b w h→(K w.params).In h)
  (F:∀ (w:World) (mg:Str→Option Value) (fa:Addr) (h:Heap),(K w.params).In h→h.Ns mainGlobals mg→mg d.name=some (.ref fa) →
   ∃c:FuncData,(∀ (s:Shared) (u:Value),BindsTo s c ⟨[u],[]⟩ [("_law_script",u)])∧∀base:Heap,(K w.params).In base→base.Ns mainGlobals mg→YC l.prog w (K w.params) mg base CX0 18 fa c ["_law_script"] (Sx (K w.params))) :
  PySem.W.WalkO q e g b l.row.toRowW d [] (fun f vs=>PySem.call f vs) :=
 L2.walk_of (n:=63) (k:=18) (x := "_law_script") (CX:=fun _=>CX0) (sp:=fun w=>Sx (K w.params)) i #[6] j ⟨rfl,by decide,by decide,rfl⟩ m F (fun _ _ a o p _ r=>⟨a,o,rfl,r,p,fun _=>rfl⟩) fun _ _ _ _ _ z=>z
end My
open PySem PySem.W PyProof.Rows
namespace PySem.W.Fast
def tw16096903388320700604:=Nat
def tw8515567625888348071:=Nat
def tw3518312089533864158:=Nat
def tw9384613518895796896:=Nat
def tw2831661624058548365:=Nat
def tw9980350157650260772:=Nat
def tw17466094499461650449:=Nat
def tw15507057707893160177:=Nat
def tw12251660067979160817:=Nat
def tw3607818704622164467:=Nat
def tw17880695791386314346:=Nat
def tw4450820408869352394:=Nat
def tw12495645792303962325:=Nat
def tw16271362956674505109:=Nat
def tw17393042816742875276:=Nat
def tw12673100340088104055:=Nat
def tw14869499376939003662:=Nat
def tw3128689568777076185:=Nat
def tw15854229953908055984:=Nat
def tw2497832582151986107:=Nat
def tw5030452082174435252:=Nat
def tw14189343453004670804:=Nat
def tw1603431087209957398:=Nat
def tw11836593912078284929:=Nat
def tw11225569718820249432:=Nat
def tw17377801045055414947:=Nat
def tw9419283755495313123:=Nat
def tw17231981294388727971:=Nat
def tw16185818454221104646:=Nat
def tw2653742418588405970:=Nat
def tw15357578041608711119:=Nat
def tw129300387640158823:=Nat
def tw10661936990455748835:=Nat
def tw10834917603918849348:=Nat
def tw16880758540432814062:=Nat
def tw7022506611577868854:=Nat
def tw15263668950897786308:=Nat
def tw1294011199899514668:=Nat
def tw9061838901529123020:=Nat
def tw9184297185424721106:=Nat
def tw342102345361778411:=Nat
def tw1584465891046865163:=Nat
def tw18148880473673436873:=Nat
def tw619997954243399045:=Nat
def tw12807295026565678601:=Nat
def tw10593305382474599639:=Nat
def tw7644283193700063601:=Nat
def tw12322101336457551913:=Nat
def tw17416962384565459338:=Nat
def tw15665113125779646391:=Nat
def tw9168907557293111596:=Nat
def tw13214236710811644951:=Nat
def tw15067344358273889527:=Nat
def tw5209229290169155118:=Nat
def tw17183362063462195614:=Nat
def tw2804812146908999020:=Nat
def tw6596041927963936006:=Nat
def tw3432037682564013979:=Nat
def tw17836141145454845803:=Nat
def tw2889344356081992553:=Nat
def tw1848640760826019596:=Nat
def tw7106371948108810965:=Nat
def tw12010701503463850049:=Nat
def tw13848458693212745130:=Nat
def tw13809802280153414155:=Nat
def tw2438279012032799435:=Nat
def tw6046984891367457450:=Nat
def tw18217496915106482126:=Nat
def tw7532419378382042591:=Nat
def tw17297509358659292836:=Nat
def tw5458609801833260128:=Nat
def tw12699892057761575446:=Nat
def tw7746127250223449506:=Nat
def tw11766594226206998252:=Nat
def tw14903771272852550160:=Nat
def tw9051710087845420703:=Nat
def tw1519953464019251739:=Nat
def tw6881291235571601552:=Nat
def tw352902358437255277:=Nat
def tw5194306312913577506:=Nat
def tw3663920645872684282:=Nat
def tw2476766048165277974:=Nat
def tw8351198646751330133:=Nat
def tw4238262220225618305:=Nat
def tw9846102892587079362:=Nat
def tw10590125124186505531:=Nat
def tw6321282245095622194:=Nat
def tw13751800847186534418:=Nat
def tw11787812491530993634:=Nat
def tw746995644156191584:=Nat
def tw12135811313714166733:=Nat
def tw13767863593648636657:=Nat
def tw5894231006862409485:=Nat
def tw7020750369969259164:=Nat
def tw11314017416725937872:=Nat
def tw5946765075084520006:=Nat
def tw11258494521245572800:=Nat
def tw5616617390262510806:=Nat
def tw18436921321228056166:=Nat
def tw18164364061140229698:=Nat
def tw18403976570414986776:=Nat
def tw411510133883520387:=Nat
def tw2894620689045981636:=Nat
def tw2914248872029735134:=Nat
def tw14919992573778690923:=Nat
def tw18130220569559191962:=Nat
def tw13039568862329999637:=Nat
def tw6134677478851511145:=Nat
def tw17129869983139408388:=Nat
def tw14788561770607700666:=Nat
def tw2063482353482518112:=Nat
def tw4330495506305509353:=Nat
def tw2035430533300779282:=Nat
def tw1959314242126925384:=Nat
def tw7099662622333915867:=Nat
def tw14968830560265707578:=Nat
def tw7868684758616173236:=Nat
def tw4210483198943579746:=Nat
def tw16610248312215567434:=Nat
def tw11431771455448793491:=Nat
def tw424809852488287366:=Nat
def tw18000614783665003627:=Nat
def tw1538350431121487989:=Nat
def tw16474948453795675151:=Nat
def tw7687223218665942460:=Nat
def tw8783687780314049488:=Nat
def tw9143723712193264542:=Nat
def tw14414966573089282873:=Nat
def tw16438814702937614441:=Nat
def tw4365641556406449125:=Nat
def tw7137372354775452974:=Nat
def tw6443460959381828341:=Nat
def tw16794575271993261017:=Nat
def tw10645645145075746446:=Nat
def tw9614075264330391302:=Nat
def tw4338359457663132261:=Nat
def tw14279310513146045863:=Nat
def tw8237324706665126965:=Nat
def tw12203677499665567113:=Nat
def tw1748644883499124442:=Nat
def tw1853394627009213758:=Nat
def tw14217720381608114325:=Nat
def tw12713150853510108964:=Nat
def tw14357169584063846196:=Nat
def tw4884494594716056014:=Nat
def tw3573273120322961588:=Nat
def tw5302678969067781033:=Nat
def tw11730980088493286298:=Nat
def tw11962402194502461930:=Nat
def tw644586654986859600:=Nat
def tw1407711827044745147:=Nat
def tw14225144497219706869:=Nat
def tw10547449164411112810:=Nat
def tw13221409006293244831:=Nat
def tw13467658575584625113:=Nat
def tw9959749339245027356:=Nat
def tw3355249332722863254:=Nat
def tw13389633650567453952:=Nat
def tw5102256018604117768:=Nat
def tw1250849815720644625:=Nat
def tw10902717366151578073:=Nat
def tw6090689183664091090:=Nat
def tw17186491543727904792:=Nat
def tw6659890661848927295:=Nat
def tw2288783267505541454:=Nat
def tw5680067476315829873:=Nat
def tw18045395795723735241:=Nat
def tw18358614327979587104:=Nat
def tw6559346887625034739:=Nat
def tw15429057586150929357:=Nat
def tw3441015999395292270:=Nat
def tw887007351686731788:=Nat
def tw16039927885502718921:=Nat
def tw15036319792370393366:=Nat
def tw17716685275251927525:=Nat
def tw671127714828845604:=Nat
def tw14915458182700307974:=Nat
def tw163807543306164671:=Nat
def tw8949154401981382270:=Nat
def tw348874380703248848:=Nat
def tw2860946527340562463:=Nat
def tw4708751676875009921:=Nat
def tw15215213998276303417:=Nat
def tw2945605826429031174:=Nat
def tw17610166851293457097:=Nat
def tw10314651798590710783:=Nat
def tw1212452830556839729:=Nat
def tw9135756479950847848:=Nat
def tw15844541802962071139:=Nat
def tw17966404864417174400:=Nat
def tw6344650904357510393:=Nat
def tw10059706751296932410:=Nat
def tw11060193592473310437:=Nat
def tw8436869546000382317:=Nat
def tw1135763204141198687:=Nat
def tw4209839788408657441:=Nat
def tw10347454128199530669:=Nat
def tw8436178744228258671:=Nat
def tw4266497835995558573:=Nat
def tw14680436294261244096:=Nat
def tw13273646115602724204:=Nat
def tw4715707677533650359:=Nat
def tw15616223977766521192:=Nat
def tw7350459624987720489:=Nat
def tw3136273401663865437:=Nat
def tw12730970008732338428:=Nat
def tw6775946546073210726:=Nat
def tw12100366909393333119:=Nat
def tw14180938169712337655:=Nat
def tw11772151931535236704:=Nat
def tw2359037554682119673:=Nat
def tw2968726684795419440:=Nat
def tw11542134899082847684:=Nat
def tw14973792333005408736:=Nat
def tw9359834584306013402:=Nat
def tw3514699852318898328:=Nat
def tw16357760795901279220:=Nat
def tw1725082050938876452:=Nat
def tw8131618363210130517:=Nat
def tw4764735665209294182:=Nat
def tw1164117889893756577:=Nat
def tw7635370072155252277:=Nat
def tw18245101996130960040:=Nat
def tw11588141091908262552:=Nat
def tw10594792195283694438:=Nat
def tw5928385191538944983:=Nat
def tw15757128302303951793:=Nat
def tw12564454178673386609:=Nat
def tw1006973603370575211:=Nat
def tw15030018150839439097:=Nat
def tw3331956490265169975:=Nat
def tw9162861911996153898:=Nat
def tw9853465715772711108:=Nat
def tw2715710975733783190:=Nat
def tw4214753994137157777:=Nat
def tw4636954166447022626:=Nat
def tw8867082349858685384:=Nat
def tw9415775086902755843:=Nat
def tw197507675889772166:=Nat
def tw13228616315417141024:=Nat
def tw18251206293927025340:=Nat
def tw489586922595332343:=Nat
def tw3031104744333931349:=Nat
def tw6849513534015367112:=Nat
def tw12568911122235595402:=Nat
def tw18254326610228375574:=Nat
def tw8497315023010649440:=Nat
def tw4545566938576726328:=Nat
def tw3774207786012063498:=Nat
def tw5213971036630933122:=Nat
def tw15577554501723569588:=Nat
def tw10305437126751889356:=Nat
def tw4836375722839079618:=Nat
def tw17822451464947810042:=Nat
def tw10992334019656012107:=Nat
def tw12438249346064412521:=Nat
def tw7525318664509674191:=Nat
def tw3430541400214348353:=Nat
def tw16935049191330001277:=Nat
def tw7209269055144999235:=Nat
def tw13423981789260622439:=Nat
def tw5456484754771940155:=Nat
def tw17692105938567342817:=Nat
def tw3738932492923783223:=Nat
def tw12836024850442669926:=Nat
def tw2719235765520013094:=Nat
def tw2710585638593344540:=Nat
def tw11851559962849590148:=Nat
def tw7727512617591562454:=Nat
def tw3353948470619643649:=Nat
def tw9503647222823162425:=Nat
def tw16720138711657928604:=Nat
def tw11404609552721312981:=Nat
def tw15100043853117569358:=Nat
def tw4675347602963749608:=Nat
def tw11563078068401584229:=Nat
def tw1011172178518382010:=Nat
def tw10270596814399803014:=Nat
def tw6052053571648245013:=Nat
def tw6920999799985072929:=Nat
def tw13070369063035487988:=Nat
def tw1893032014814402993:=Nat
def tw2044918193023886234:=Nat
def tw1155858647842981716:=Nat
def tw4971885186057375433:=Nat
def tw2046759486673361715:=Nat
def tw5164991881448857789:=Nat
def tw14602711591551825366:=Nat
def tw15381642619566888135:=Nat
def tw5693321461339668935:=Nat
def tw13870384058792103091:=Nat
def tw10043137651509995391:=Nat
def tw15535573518682999871:=Nat
def tw14594250842740655335:=Nat
def tw1072428703161870909:=Nat
def tw8129571942800880893:=Nat
def tw8535182249990825897:=Nat
def tw8459447915149505214:=Nat
def tw11493743893262535054:=Nat
def tw6848028370798741291:=Nat
def tw14376368588491762443:=Nat
def tw7202331257304071434:=Nat
def tw7067079181426101035:=Nat
def tw12988897362633704859:=Nat
def tw180831140235575654:=Nat
def tw6998500883121748391:=Nat
def tw3098649178286449151:=Nat
def tw9055330371081734222:=Nat
def tw5636127279718930193:=Nat
def tw2033448868089437287:=Nat
def tw13133470369929013013:=Nat
def tw6073058349204914116:=Nat
def tw8464331700885883423:=Nat
def tw10506421969597955663:=Nat
def tw5982995757421309044:=Nat
def tw11372015099609258544:=Nat
def tw11788584239780794754:=Nat
def tw11373191728014009184:=Nat
def tw4624150127702527096:=Nat
def tw6468676901552449391:=Nat
def tw9023576500522613820:=Nat
def tw9201308987110043834:=Nat
def tw18291971546809278620:=Nat
def tw10627932132395670440:=Nat
def tw4200752120097117908:=Nat
def tw6007079105639007540:=Nat
def tw16682876203777507541:=Nat
def tw7441625076037707219:=Nat
def tw16572197393056387417:=Nat
end PySem.W.Fast
set_option maxRecDepth 100000 in
set_option maxHeartbeats 0 in
theorem PySem.Challenge.cw_mergetree_k19_rows_that_go_holds : PySem.Challenge.rw_mergetree_k19_rows_that_go.Holds := by
 w_on;o_law;k_head;(case hw=>w_witness2)
 k_fill
 refine My.walk (l:=PySem.Challenge.rw_mergetree_k19_rows_that_go) rfl rfl (fun w h Y=>PySem.W.kIn_of Y) ?F;case F =>
  intro w mg fa h KX G hmg
  refine' My.all_mk KX G hmg ?aCRow ?pgRow ?hdRow ?poRow ?saRow ?mkRow ?kcRow ?nARow_all_keys ?nARow_fars ?nARow_gone ?aCMerge ?pgMerge ?hdMerge ?poMerge ?saMerge ?mkMerge ?kcMerge ?nAMerge_best ?nAMerge_likened ?nAMerge_looked ?nAMerge_next_number ?nAMerge_rows ?nAMerge_stays ?aCMergeError ?aCFull ?aCNoRow ?aCOutOfOrder ?aCBadLine ?loMergeError ?loNoRow ?kcNoRow ?inNoRow ?g1NoRow ?g2NoRow ?g3NoRow ?g4NoRow ?g5NoRow ?g6NoRow ?gvNoRow ?gsNoRow ?gkNoRow_MergeError ?gkNoRow_Full ?gkNoRow_OutOfOrder ?gkNoRow_BadLine ?giMergeError ?gtMergeError ?giFull ?gtFull ?giNoRow ?gtNoRow ?giOutOfOrder ?gtOutOfOrder ?giBadLine ?gtBadLine ?hkg ?hkt ?a0 ?l0 ?c0 ?k0 ?a1 ?l1 ?c1 ?k1 ?a2 ?l2 ?c2 ?k2 ?a3 ?l3 ?c3 ?k3 ?a4 ?l4 ?c4 ?k4 ?a5 ?l5 ?c5 ?k5 ?a6 ?l6 ?c6 ?k6 ?a7 ?l7 ?c7 ?k7 ?a8 ?l8 ?c8 ?k8 ?a9 ?l9 ?c9 ?k9 ?a10 ?l10 ?c10 ?k10 ?a11 ?l11 ?c11 ?k11 ?a12 ?l12 ?c12 ?k12 ?a13 ?l13 ?c13 ?k13 ?a14 ?l14 ?c14 ?k14 ?a15 ?l15 ?c15 ?k15 ?a16 ?l16 ?c16 ?k16 ?a17 ?l17 ?c17 ?k17 ?a18 ?l18 ?c18 ?k18 ?a19 ?l19 ?c19 ?k19 ?a20 ?l20 ?c20 ?k20 ?a21 ?l21 ?c21 ?k21 ?a22 ?l22 ?c22 ?k22 ?a23 ?l23 ?c23 ?k23 ?a24 ?l24 ?c24 ?k24 ?a25 ?l25 ?c25 ?k25 ?a26 ?l26 ?c26 ?k26 ?a27 ?l27 ?c27 ?k27 ?a28 ?l28 ?c28 ?k28 ?a29 ?l29 ?c29 ?k29 ?a30 ?l30 ?c30 ?k30 ?a31 ?l31 ?c31 ?k31 ?a32 ?l32 ?c32 ?k32 ?a33 ?l33 ?c33 ?k33 ?a34 ?l34 ?c34 ?k34 ?a35 ?l35 ?c35 ?k35 ?a36 ?i36 ?l36 ?c36 ?k36 ?a37 ?i37 ?l37 ?c37 ?k37 ?a38 ?i38 ?l38 ?c38 ?k38 ?a39 ?i39 ?l39 ?c39 ?k39 ?a40 ?i40 ?l40 ?c40 ?k40 ?a41 ?i41 ?l41 ?c41 ?k41 ?a42 ?i42 ?l42 ?c42 ?k42 ?a43 ?i43 ?l43 ?c43 ?k43 ?a44 ?i44 ?l44 ?c44 ?k44 ?a45 ?i45 ?l45 ?c45 ?k45 ?a46 ?i46 ?l46 ?c46 ?k46 ?a47 ?i47 ?l47 ?c47 ?k47 ?a48 ?i48 ?l48 ?c48 ?k48 ?a49 ?i49 ?l49 ?c49 ?k49 ?a50 ?i50 ?l50 ?c50 ?k50 ?a51 ?i51 ?l51 ?c51 ?k51 ?a52 ?i52 ?l52 ?c52 ?k52 ?a53 ?i53 ?l53 ?c53 ?k53 ?a54 ?i54 ?l54 ?c54 ?k54 ?a55 ?i55 ?l55 ?c55 ?k55 ?giMOST_ROWS ?z0 ?z1 ?z2 ?z3 ?z4 ?z5 ?z6 ?z7 ?z8 ?z9 ?z10 ?z11 ?z12 ?z13 ?z14 ?z15 ?z16
  (case aCRow=>k_is)
  (case pgRow=>k_is)
  (case hdRow=>k_is)
  (case poRow=>k_is)
  (case saRow=>k_is)
  (case mkRow=>k_is)
  (case kcRow=>k_is)
  (case nARow_all_keys=>k_is)
  (case nARow_fars=>k_is)
  (case nARow_gone=>k_is)
  (case aCMerge=>k_is)
  (case pgMerge=>k_is)
  (case hdMerge=>k_is)
  (case poMerge=>k_is)
  (case saMerge=>k_is)
  (case mkMerge=>k_is)
  (case kcMerge=>k_is)
  (case nAMerge_best=>k_is)
  (case nAMerge_likened=>k_is)
  (case nAMerge_looked=>k_is)
  (case nAMerge_next_number=>k_is)
  (case nAMerge_rows=>k_is)
  (case nAMerge_stays=>k_is)
  (case aCMergeError=>k_is)
  (case aCFull=>k_is)
  (case aCNoRow=>k_is)
  (case aCOutOfOrder=>k_is)
  (case aCBadLine=>k_is)
  (case loMergeError=>k_is)
  (case loNoRow=>k_is)
  (case kcNoRow=>k_is)
  (case inNoRow=>k_is)
  (case g1NoRow=>k_is)
  (case g2NoRow=>k_is)
  (case g3NoRow=>k_is)
  (case g4NoRow=>k_is)
  (case g5NoRow=>k_is)
  (case g6NoRow=>k_is)
  (case gvNoRow=>k_is)
  (case gsNoRow=>k_is)
  (case gkNoRow_MergeError=>k_is)
  (case gkNoRow_Full=>k_is)
  (case gkNoRow_OutOfOrder=>k_is)
  (case gkNoRow_BadLine=>k_is)
  (case giMergeError=>k_is)
  (case gtMergeError=>k_is)
  (case giFull=>k_is)
  (case gtFull=>k_is)
  (case giNoRow=>k_is)
  (case gtNoRow=>k_is)
  (case giOutOfOrder=>k_is)
  (case gtOutOfOrder=>k_is)
  (case giBadLine=>k_is)
  (case gtBadLine=>k_is)
  (case hkg=>k_is)
  (case hkt=>k_is)
  (case a0|l0|c0|k0=>k_is)
  (case a1|l1|c1|k1=>k_is)
  (case a2|l2|c2|k2=>k_is)
  (case a3|l3|c3|k3=>k_is)
  (case a4|l4|c4|k4=>k_is)
  (case a5|l5|c5|k5=>k_is)
  (case a6|l6|c6|k6=>k_is)
  (case a7|l7|c7|k7=>k_is)
  (case a8|l8|c8|k8=>k_is)
  (case a9|l9|c9|k9=>k_is)
  (case a10|l10|c10|k10=>k_is)
  (case a11|l11|c11|k11=>k_is)
  (case a12|l12|c12|k12=>k_is)
  (case a13|l13|c13|k13=>k_is)
  (case a14|l14|c14|k14=>k_is)
  (case a15|l15|c15|k15=>k_is)
  (case a16|l16|c16|k16=>k_is)
  (case a17|l17|c17|k17=>k_is)
  (case a18|l18|c18|k18=>k_is)
  (case a19|l19|c19|k19=>k_is)
  (case a20|l20|c20|k20=>k_is)
  (case a21|l21|c21|k21=>k_is)
  (case a22|l22|c22|k22=>k_is)
  (case a23|l23|c23|k23=>k_is)
  (case a24|l24|c24|k24=>k_is)
  (case a25|l25|c25|k25=>k_is)
  (case a26|l26|c26|k26=>k_is)
  (case a27|l27|c27|k27=>k_is)
  (case a28|l28|c28|k28=>k_is)
  (case a29|l29|c29|k29=>k_is)
  (case a30|l30|c30|k30=>k_is)
  (case a31|l31|c31|k31=>k_is)
  (case a32|l32|c32|k32=>k_is)
  (case a33|l33|c33|k33=>k_is)
  (case a34|l34|c34|k34=>k_is)
  (case a35|l35|c35|k35=>k_is)
  (case a36|i36|l36|c36|k36=>k_is)
  (case a37|i37|l37|c37|k37=>k_is)
  (case a38|i38|l38|c38|k38=>k_is)
  (case a39|i39|l39|c39|k39=>k_is)
  (case a40|i40|l40|c40|k40=>k_is)
  (case a41|i41|l41|c41|k41=>k_is)
  (case a42|i42|l42|c42|k42=>k_is)
  (case a43|i43|l43|c43|k43=>k_is)
  (case a44|i44|l44|c44|k44=>k_is)
  (case a45|i45|l45|c45|k45=>k_is)
  (case a46|i46|l46|c46|k46=>k_is)
  (case a47|i47|l47|c47|k47=>k_is)
  (case a48|i48|l48|c48|k48=>k_is)
  (case a49|i49|l49|c49|k49=>k_is)
  (case a50|i50|l50|c50|k50=>k_is)
  (case a51|i51|l51|c51|k51=>k_is)
  (case a52|i52|l52|c52|k52=>k_is)
  (case a53|i53|l53|c53|k53=>k_is)
  (case a54|i54|l54|c54|k54=>k_is)
  (case a55|i55|l55|c55|k55=>k_is)
  (case giMOST_ROWS=>k_is)
  (case z0=>k_is)
  (case z1=>k_is)
  (case z2=>k_is)
  (case z3=>k_is)
  (case z4=>k_is)
  (case z5=>k_is)
  (case z6=>k_is)
  (case z7=>k_is)
  (case z8=>k_is)
  (case z9=>k_is)
  (case z10=>k_is)
  (case z11=>k_is)
  (case z12=>k_is)
  (case z13=>k_is)
  (case z14=>k_is)
  (case z15=>k_is)
  (case z16=>k_is)
