import PyProof.Rows.All
import Wide.All
import OpenK.AllK
import Wide.FinOn
import Lean
import PyProof.EqAt
import PyProof.EqKinds
import PyProof.TupleCall
import PyProof.AttrMissHeap
import KE.KEqDict
import KE.KItemsList
import PyProof.WalksMore
import PyProof.TupleOfStr
import PyProof.DictWalks
import PyProof.WalkInts
import PySem.Challenge.RW_mergetree_k22_twins
set_option maxHeartbeats 4000000
set_option maxRecDepth 100000
set_option Elab.async false
set_option linter.all false
local macro_rules|`(tactic|ac_rfl)=>`(tactic|decide +kernel)
local macro_rules
|`(#[0])=>`(⟨rfl,rfl,rfl,by ac_rfl,rfl,by ac_rfl,by ac_rfl⟩)
|`(#[1,$a])=>`((fun _ _ _ _ _ _ us hl=>by obtain⟨_,h⟩:=$a us hl;subst h;exact rfl))
|`(#[2,$a])=>`((fun _ _ _ _ _ _ us hl=>by obtain⟨_,_,h⟩:=$a us hl;subst h;exact rfl))
|`(#[3,$a])=>`((fun _ _ _ _ _ _ us hl=>by obtain⟨_,_,_,h⟩:=$a us hl;subst h;exact rfl))
|`(#[1])=>`((by ac_rfl))
|`(#[2])=>`((by lia))
|`(#[3])=>`((Or.inl rfl))
|`(#[4])=>`((by simp))
|`(#[5])=>`((by rfl))
|`(#[6])=>`((by decide))
|`(#[7])=>`(PySem.W.Frag)
|`(#[8])=>`((.inl rfl))
|`(#[9,$x])=>`(PySem.wpAny (PySem.model ($x).prog ($x).w) ($x).A)
def Qa:=@List.length_map
def Qb:=@List.getElem?_eq_getElem
def Qc:=@PySem.Heap.get?_push_of_some
def Qd:=@List.mem_map_of_mem
def Qe:=@List.getElem?_eq_some_iff
def Qf:=@List.map_append
def Qg:=@List.map_map
def Qh:=@Nat.le_refl
def Qi:=@List.length_append
def Qj:=@List.map_cons
def Qk:=@List.mem_singleton
def Ql:=@List.mem_map
def Qm:=@List.getElem?_map
def Qn:=@List.mem_append
def Qo:=@List.mem_of_getElem?
def Qp:=@PySem.Heap.lt_size
def Qq:=@Bool.false_ne_true
def Qr:=@Option.some.inj
def Qs:=@PySem.Heap.get?_push_size
def Qt:=@List.mem_cons_of_mem
def Qu:=@Nat.ne_of_lt
def Qv:=@List.take_of_length_le
def Qw:=@Nat.zero_le
def Qx:=@List.mem_append_right
def Qy:=@List.length_singleton
def Qz:=@PySem.boot_len
def QA:=@List.length_take
def QB:=@Nat.le_trans
def QC:=@List.map_congr_left
def QD:=@Nat.lt_of_lt_of_le
def QE:=@List.getD_eq_getElem?_getD
def QF:=@List.mem_cons
def QG:=@List.size_toArray
def QH:=@List.take_add_one
def QI:=@PySem.W.mg_none_of
def QJ:=@List.getElem?_append_left
def QK:=@List.getElem?_append_right
def QL:=@List.length_cons
def QM:=@List.mem_append_left
def QN:=@List.getElem?_eq_none
def QO:=@PySem.F.plainAttrs_list
def QP:=@List.nodup_cons
def QR:=@Int.add_zero
def QS:=@PySem.F.slot_list_append
def QT:=@PySem.F.type_list_append
def QU:=@List.getElem?_set_self
def QV:=@Nat.ne_of_gt
def QW:=@Nat.lt_irrefl
def QX:=@List.getElem_mem
def QY:=@PyProof.Rows.callWith_type1
def QZ:=@PySem.F.plainAttrs_dict
def Q0:=@List.mem_cons_self
def Q1:=@PySem.Heap.size_push
def Q2:=@List.mem_of_mem_take
def Q3:=@PySem.W.kia_one
def Q4:=@PySem.W.kia_tup
def Q5:=@List.length_drop
def Q6:=@Bool.and_eq_true
def Q7:=@List.filterMap_cons
def Q8:=@List.length_filter_le
def Q9:=@List.mem_range
def Qaa:=@List.mem_filter
def Qab:=@List.getElem?_set_ne
def Qac:=@Bool.eq_false_iff
def Qad:=@Array.length_toList
def Qae:=@List.find?_cons
def Qaf:=@List.getLastD_eq_getLast?
def Qag:=@List.getElem?_eq_none_iff
def Qah:=@Nat.add_sub_cancel
def Qai:=@Nat.le_of_lt
def Qaj:=@List.pairwise_append
def Qak:=@List.mem_of_mem_drop
def Qal:=@PySem.mem_of_lookup
def Qam:=@Nat.add_lt_add_left
def Qan:=@List.filter_sublist
def Qao:=@PySem.Heap.get?_update_of_ne
def Qap:=@List.length_replicate
def Qaq:=@List.getElem?_toArray
def Qar:=@List.mem_of_find?_eq_some
def Qas:=@Nat.le_succ
def Qat:=@List.getLast?_eq_getLast
def Qau:=@List.all_eq_true
def Qav:=@Nat.lt_add_of_pos_right
def Qaw:=@PySem.F.slot_dict_items
def Qax:=@List.any_eq_true
def Qay:=@List.find?_cons_of_neg
def Qaz:=@List.length_eq_one_iff
def QaA:=@List.length_set
def QaB:=@Nat.min_eq_left
def QaC:=@List.filter_map
def QaD:=@List.sum_cons
def QaE:=@List.filterMap_append
def QaF:=@PySem.F.slot_dict_pop
def QaG:=@List.mem_iff_getElem?
def QaH:=@List.cons_lt_cons_iff
def QaI:=@List.reverse_cons
def QaJ:=@List.nodup_append
def QaK:=@List.lookup_cons
def QaL:=@Nat.le_add_right
def QaM:=@Nat.sub_self
def QaN:=@List.mem_or_eq_of_mem_set
def QaO:=@PySem.evalArgs_none
def QaP:=@List.length_reverse
def QaQ:=@List.any_cons
def QaR:=@List.eq_of_mem_replicate
def QaS:=@Bool.eq_iff_iff
def QaT:=@List.append_nil
def QaU:=@List.range_succ
def QaV:=@Nat.lt_of_le_of_lt
def QaW:=@Int.emod_lt_of_pos
def QaX:=@PySem.Str.length_append
def QaY:=@PySem.W.kitx_list
def QaZ:=@PySem.W.kitx_dict
def Qa0:=@Int.toNat_natCast
def Qa1:=@List.map_nil
def Qa2:=@Nat.lt_trans
def Qa3:=@Option.map_eq_some_iff
def Qa4:=@List.append_assoc
def Qa5:=@List.Pairwise.map
def Qa6:=@Nat.pow_succ
def Qa7:=@List.length_pos_of_mem
def Qbc:=@Nat.lt_succ_self
def Qbd:=@List.Sublist.map
def Qbe:=@PySem.W.mg_of
namespace L2
open PySem PySem.Spec PyProof.Rows
abbrev Key:=Sum Int Str
noncomputable def Wj:Key→Value→Bool
 | .inl k,v=>Value.isInt k v
 | .inr x,v=>Value.isStrOf x v
noncomputable def NZ(w:World):Key→Int
 | .inl k=>hashInt k
 | .inr x=>hashStr w x
theorem Xh:∀ {k:Key} {v:Value},Wj k v=true→(∃i t,k=Sum.inl i∧v=Value.int i t)∨(∃x t,k=Sum.inr x∧v=Value.str x t)
 | .inl i,v,h=>by obtain⟨t,e⟩:=Value.isInt_shape (k:=i) (v:=v) h;exact .inl ⟨i,t,rfl,e⟩
 | .inr x,v,h=>by obtain⟨t,e⟩:=Value.isStrOf_shape (x:=x) (v:=v) h;exact .inr ⟨x,t,rfl,e⟩
theorem ZlY(i:Int)(t:Tok):Wj (.inl i) (.int i t)=true:=by simp[Wj,Value.isInt]
theorem Zmi(x:Str)(t:Tok):Wj (.inr x) (.str x t)=true:=by simp[Wj,Value.isStrOf]
theorem Zq1(a b:Int):decide ((Sum.inl a:Key)=Sum.inl b)=(a == b):=by
 by_cases e:a=b
 ·subst e;simp
 ·have h:¬ (Sum.inl a:Key)=Sum.inl b:=fun q=>e (Sum.inl.inj q);rw[decide_eq_false h];exact(beq_eq_false_iff_ne.mpr e).symm
theorem Zq7(a b:Str):decide ((Sum.inr a:Key)=Sum.inr b)=decide (a=b):=by
 by_cases e:a=b
 ·subst e;simp
 ·have h:¬ (Sum.inr a:Key)=Sum.inr b:=fun q=>e (Sum.inr.inj q);rw[decide_eq_false h,decide_eq_false e]
theorem Zrp(a:Int)(b:Str):decide ((Sum.inl a:Key)=Sum.inr b)=false:=decide_eq_false (fun q=>nomatch q)
theorem ZqV(a:Str)(b:Int):decide ((Sum.inr a:Key)=Sum.inl b)=false:=decide_eq_false (fun q=>nomatch q)
noncomputable def ZF(prog:Program)(w:World):PySem.KeyKind prog w Key where
 is:=Wj
 hash:=NZ w
 inj:=fun v a b g f=>by
  rcases Xh g with⟨i,t,rfl,rfl⟩|⟨x,t,rfl,rfl⟩
  ·rcases Xh f with⟨j,u,rfl,e⟩|⟨y,u,rfl,e⟩
   ·injection e with c _;rw[c]
   ·exact nomatch e
  ·rcases Xh f with⟨j,u,rfl,e⟩|⟨y,u,rfl,e⟩
   ·exact nomatch e
   ·injection e with c _;rw[c]
 byValue:=fun k v h=>by rcases Xh h with⟨i,t,rfl,rfl⟩|⟨x,t,rfl,rfl⟩<;>rfl
 pyHash:=fun d h=>by
  rcases Xh d with⟨i,t,rfl,rfl⟩|⟨x,t,rfl,rfl⟩
  ·exact wpAny_pyHash_int h
  ·exact wpAny_pyHash_str h
 eqBool:=fun l d h=>by
  rcases Xh l with⟨i,t,rfl,rfl⟩|⟨x,t,rfl,rfl⟩
  ·rcases Xh d with⟨j,u,rfl,rfl⟩|⟨y,u,rfl,rfl⟩
   ·rw[Zq1]at h;exact wpAny_eqBool_int h
   ·rw[Zrp]at h;exact SeqAt.EqAt.int_str i t y u _ _ _ _ h
  ·rcases Xh d with⟨j,u,rfl,rfl⟩|⟨y,u,rfl,rfl⟩
   ·rw[ZqV]at h;exact SeqAt.EqAt.str_int x t j u _ _ _ _ h
   ·rw[Zq7]at h;exact wpAny_eqBool_str h
 «strs»:=fun k x t v h=>by
  rcases Xh h with⟨i,u,rfl,e⟩|⟨y,u,rfl,e⟩
  ·exact nomatch e
  ·injection e with c _;subst c;cases v<;>rfl
theorem ZkA(prog:Program)(w:World)(k:Key)(v:Value):(ZF prog w).is k v=Wj k v:=rfl
theorem ZjR(prog:Program)(w:World)(i:Int)(t:Tok):(ZF prog w).is (.inl i) (.int i t)=true:=ZlY i t
theorem ZjF(prog:Program)(w:World)(x:Str)(t:Tok):(ZF prog w).is (.inr x) (.str x t)=true:=Zmi x t
inductive V where
 | non|bl (b:Bool)|int (i:Int)|str (x:Str)|byt (b:Array UInt8)|flt (b:UInt64)|ref (a:Addr)|ty (n:String)
 deriving DecidableEq
def ZM:V→Value→Prop
 | .non,u=>u=Value.none
 | .bl b,u=>u=Value.bool b
 | .int i,u=>∃t,u=Value.int i t
 | .str x,u=>∃t,u=Value.str x t
 | .byt b,u=>∃t,u=Value.bytes b t
 | .flt b,u=>∃t,u=Value.float b t
 | .ref a,u=>u=Value.ref a
 | .ty n,u=>u=Value.type n
abbrev ZL:List V→List Value→Prop:=Paired ZM
theorem ZL.length{xs:List V}{us:List Value}(r:ZL xs us):xs.length=us.length:=Paired.length r
theorem ZL.get:∀ {xs:List V} {us:List Value} {i:Nat} {x:V},ZL xs us→xs[i]? = some x→∃u,us[i]? = some u∧ZM x u
 | _,_,_,_,.nil,e=>by simp at e
 | _,_,0,_,.cons r _,e=>by simp at e;subst e;exact⟨_,rfl,r⟩
 | _,_,i+1,x,.cons _ t,e=>by obtain⟨u,h1,h2⟩:=ZL.get (i:=i) (x:=x) t (by simpa using e);exact⟨u,by simpa using h1,h2⟩
theorem ZL.set{x:V}{u:Value}(r:ZM x u):∀ {xs:List V} {us:List Value} (i:Nat),ZL xs us→ZL (xs.set i x) (us.set i u)
 | _,_,_,.nil=>.nil
 | _,_,0,.cons _ t=>.cons r t
 | _,_,i+1,.cons q t=>.cons q (ZL.set r i t)
theorem ZL.append:∀ {xs ys:List V} {us ws:List Value},ZL xs us→ZL ys ws→ZL (xs++ys) (us++ws)
 | _,_,_,_,.nil,s=>s
 | _,_,_,_,.cons r t,s=>.cons r (ZL.append t s)
theorem ZL.take:∀ {xs:List V} {us:List Value} (n:Nat),ZL xs us→ZL (xs.take n) (us.take n)
 | _,_,0,_=>.nil
 | _,_,_+1,.nil=>.nil
 | _,_,n+1,.cons r t=>.cons r (ZL.take n t)
theorem ZL.drop:∀ {xs:List V} {us:List Value} (n:Nat),ZL xs us→ZL (xs.drop n) (us.drop n)
 | _,_,0,r=>r
 | _,_,_+1,.nil=>.nil
 | _,_,n+1,.cons _ t=>ZL.drop n t
def Yi:Option V→Option Value→Prop
 | some v,some u=>ZM v u
 | none,none=>True
 | _,_=>False
def KV{a:Type}:List (a×V)→List (a×Value)→Prop:=Paired fun (p:a×V) (q:a×Value)=>p.1=q.1∧ZM p.2 q.2
noncomputable def kV:Key→V
 | .inl i=>.int i
 | .inr x=>.str x
inductive HO where
  | lst (xs:List V)
  | tup (xs:List V)
  | dK (kvs:List (Key×V))|dT (kvs:List (List Key×V))
  | set (S:Int→Bool) (n:Nat)
  | ins (C dx:Addr) (fs:List (Str×V))
  | own (x:Addr)
  | xd (fs:List (Str×V))
  | met (f x:Addr)
  | rng (lo hi:Int)
  | frz (o:Obj) (u:HO)
  | tbl (ps:Array Value)
  | ext (φ:Heap→Prop)
abbrev Hp:=Addr→Option HO
noncomputable def upd(H:Hp)(a:Addr)(o:HO):Hp:=fun b=>if b=a then some o else H b
theorem Zd{H:Hp}{a:Addr}{o:HO}:upd H a o a=some o:=by unfold upd;rw[if_pos rfl]
theorem Zc{H:Hp}{a b:Addr}{o:HO}(h:b≠a):upd H a o b=H b:=by unfold upd;rw[if_neg h]
theorem ZpM{H:Hp}{a:Addr}{o u:HO}:upd (upd H a o) a u=upd H a u:=by funext b;unfold upd;split<;>rfl
theorem RV{H:Hp}{a b:Addr}{o u:HO}(h:H a=some o)(h':H b=some u)(d:o≠u):a≠b:=by intro e;subst e;rw[h]at h';exact d (Qr h')
theorem Zb{H:Hp}{a b:Addr}{o:HO}(h:H a=some o)(h':H b=none):a≠b:=by intro e;subst e;rw[h]at h';cases h'
section
variable (P:Program) (w:World)
def Z7(H:Hp)(h:Heap)(a:Addr):HO→Prop
 | .lst xs=>xs.length≤sizeLine∧∃ (its:List Value) (n:Nat),ZL xs its∧h.get? a=some { cls:=.type "list",data:=.seq its.toArray n }
 | .tup xs=>xs.length≤sizeLine∧∃its:List Value,ZL xs its∧IsTup h a its.toArray
 | .dK b=>b.length≤sizeLine∧(a == sysModules)=false∧∃g,KV b g∧h.DictOf (ZF P w) a g
 | .dT b=>b.length≤sizeLine∧(a == sysModules)=false∧∃xs:List (List Key×Addr×Value),
   Paired (fun (p:List Key×V) (q:List Key×Addr×Value)=>p.1=q.1∧H q.2.1=some (.tup (p.1.map kV))∧ZM p.2 q.2.2) b xs ∧
   ∃o i l,h.get? a=some o∧o.ExactDict∧o.data=.dict i l∧i.toList=xs.map (entryOfKey (tupleKind (ZF P w)))∧(xs.map (·.1)).Nodup
 | .set S n=>h.SetOf (intKind P w) a S n
 | .ins C d fs=>H d=some (.own a)∧fs.length≤1000∧d≠a∧h.get? a=some (PySem.W.instObj C d) ∧
   ∃c,h.Ns1 d c∧(∀f,Yi (fs.lookup f) (c f))∧PySem.Within c (fs.map (·.1))
 | .own _=>∃o,h.get? a=some o
 | .xd fs=>∃c,h.Ns1 a c∧∀f,Yi (fs.lookup f) (c f)
 | .rng lo m=>∃t u v,h.get? a=some { cls:=.type "range",data:=.fields #[.int lo t,.int m u,.int 1 v] }
 | .frz o u=>h.get? a=some o∧Z7 H h a u
 | .tbl r=>h.get? a=some { cls:=.none,data:=.fields r }
 | .met f x=>h.get? a=some (PySem.W.methodObj (.ref f) (.ref x))
 | .ext e=>e h∧(∃o,h.get? a=some o)∧∀j k:Heap,e j→(∀o,j.get? a=some o→k.get? a=some o)→e k
def HOk(H:Hp)(h:Heap):Prop:=∀a o,H a=some o→Z7 P w H h a o
end
section
variable {P:Program} {w:World} {H H':Hp} {h h':Heap} {a:Addr} {o:HO}
theorem Z7.lt(x:Z7 P w H h a o):a<h.objs.size:=by
 cases o with
 | lst c=>obtain⟨_,_,_,_,e⟩:=x;exact Qp e
 | tup c=>obtain⟨_,_,_,p⟩:=x;exact p.lt
 | dK b=>obtain⟨_,_,_,_,o,_,_,e,_⟩:=x;exact Qp e
 | dT b=>obtain⟨_,_,_,_,o,_,_,e,_⟩:=x;exact Qp e
 | set S n=>obtain⟨o,_,_,_,e,_⟩:=x;exact Qp e
 | ins C dx fs=>obtain⟨_,_,_,e,_⟩:=x;exact Qp e
 | own y=>obtain⟨_,e⟩:=x;exact Qp e
 | xd fs=>obtain⟨_,⟨_,_,_,e,_⟩,_⟩:=x;exact Qp e
 | rng lo hi=>obtain⟨_,_,_,e⟩:=x;exact Qp e
 | frz ob u=>obtain⟨e,_⟩:=x;exact Qp e
 | tbl ps=>exact Qp (show h.get? a=some _ from x)
 | met f y=>exact Qp (show h.get? a=some _ from x)
 | ext φ=>obtain⟨_,⟨_,e⟩,_⟩:=x;exact Qp e
theorem Paired.mapP{α c:Type}{F G:α→c→Prop}:∀ {d:List α} {e:List c},Paired F d e→(∀a b,F a b→G a b)→Paired G d e
 | _,_,.nil,_=>.nil
 | _,_,.cons r t,f=>.cons (f _ _ r) (Paired.mapP t f)
theorem Z7.stay(x:Z7 P w H h a o)(k:∀b u,(b=a∨H b=some (.own a))→h.get? b=some u→h'.get? b=some u)
  (B:∀b,H b=some (.own a)→H' b=some (.own a)) (D:∀b xs,H b=some (.tup xs)→H' b=some (.tup xs)):Z7 P w H' h' a o:=by
 induction o with
 | lst xs=>obtain⟨z,its,n,r,e⟩:=x;exact⟨z,its,n,r,k _ _ #[8] e⟩
 | tup xs=>obtain⟨z,its,r,g,e,c⟩:=x;exact⟨z,its,r,g,k _ _ #[8] e,c⟩
 | dK l=>obtain⟨z,y,E,r,g,i,j,e,c⟩:=x;exact⟨z,y,E,r,g,i,j,k _ _ #[8] e,c⟩
 | dT l=>obtain⟨z,y,xs,r,g,i,j,e,c⟩:=x;exact⟨z,y,xs,Paired.mapP r fun p q z=>⟨z.1,D _ _ z.2.1,z.2.2⟩,g,i,j,k _ _ #[8] e,c⟩
 | set S n=>obtain⟨g,i,j,t,e,c⟩:=x;exact⟨g,i,j,t,k _ _ #[8] e,c⟩
 | ins C dx fs=>obtain⟨d,z,ne,e,m,⟨s,i,j,F,c⟩,r⟩:=x;exact⟨B _ d,z,ne,k _ _ #[8] e,m,⟨s,i,j,k _ _ (.inr d) F,c⟩,r⟩
 | own y=>obtain⟨g,e⟩:=x;exact⟨g,k _ _ #[8] e⟩
 | xd fs=>obtain⟨m,⟨s,i,j,e,c⟩,r⟩:=x;exact⟨m,⟨s,i,j,k _ _ #[8] e,c⟩,r⟩
 | rng lo hi=>obtain⟨t,u,v,e⟩:=x;exact⟨t,u,v,k _ _ #[8] e⟩
 | frz g u G=>obtain⟨e,q⟩:=x;exact⟨k _ _ #[8] e,G q⟩
 | tbl A=>have e:h.get? a=some { cls:=.none,data:=.fields A }:=x;show h'.get? a=some { cls:=.none,data:=.fields A };exact k a _ #[8] e
 | met f y=>have e:h.get? a=some (PySem.W.methodObj (.ref f) (.ref y)):=x;show h'.get? a=some (PySem.W.methodObj (.ref f) (.ref y));exact k a _ #[8] e
 | ext φ=>obtain⟨p,⟨o,e⟩,st⟩:=x;exact⟨st _ _ p fun o q=>k _ _ #[8] q,⟨o,k _ _ #[8] e⟩,st⟩
theorem HOk.lt(x:HOk P w H h)(e:H a=some o):a<h.objs.size:=(x a o e).lt
theorem HOk.fresh(x:HOk P w H h)(e:h.objs.size≤a):H a=none:=by
 cases q:H a with
 | none=>rfl
 | some u=>exact absurd (QD (x.lt q) e) (QW _)
theorem HOk.kept(x:HOk P w H h)(k:∀b u,h.get? b=some u→h'.get? b=some u):HOk P w H h':=fun a o e =>
 (x a o e).stay (fun b u _ q=>k b u q) (fun _ q=>q) fun _ _ q=>q
theorem HOk.laid(x:HOk P w H h)(k:∀b u,h.get? b=some u→h'.get? b=some u)(hp:h.objs.size≤a)(new:Z7 P w (upd H a o) h' a o):HOk P w (upd H a o) h':=fun b u e=>by
 have d:=x.fresh hp;by_cases f:b=a
 ·subst f;rw[Zd]at e;cases e;exact new
 ·rw[Zc f]at e;exact(x b u e).stay (fun c v _ q=>k c v q) (fun c q=>by rw[Zc (Zb q d)];exact q) fun c xs q=>by rw[Zc (Zb q d)];exact q
end
def Rd(H:Hp)(a:Addr)(u:HO):Prop:=H a=some u∨∃o,H a=some (.frz o u)
theorem Rd.ok{P:Program}{w:World}{H:Hp}{h:Heap}{a:Addr}{u:HO}(r:Rd H a u)(x:HOk P w H h):Z7 P w H h a u:=by
 rcases r with r|⟨o,r⟩
 ·exact x a u r
 ·obtain⟨_,q⟩:=x a _ r;exact q
def Mut:Option HO→Prop
 | some (.lst _)=>True
 | some (.dK _)=>True
 | some (.dT _)=>True
 | some (.set _ _)=>True
 | some (.ins _ _ _)=>True
 | some (.ext _)=>True
 | _=>False
section
variable {P:Program} {w:World} {H:Hp} {h h':Heap} {x e:Addr} {o':HO}
theorem HOk.write(ok:HOk P w H h)(a:Mut (H x))(he:e=x∨H e=some (.own x))(k:∀b u,b≠e→h.get? b=some u→h'.get? b=some u)(l:∃u,h'.get? e=some u)
  (new:Z7 P w (upd H x o') h' x o'):HOk P w (upd H x o') h':=fun b u q=>by
 have i:∀c y,H c=some (.own y)→c≠x:=fun c y r z=>by subst z;rw[r]at a;exact a
 have m:∀c d,H c=some (.tup d)→c≠x:=fun c d r z=>by subst z;rw[r]at a;exact a
 by_cases f:b=x
 ·subst f;rw[Zd]at q;cases q;exact new
 ·rw[Zc f]at q;by_cases g:b=e
  ·have j:H b=some (.own x):=by
    rcases he with z|z
    ·exact absurd (g.trans z) f
    ·rw[g];exact z
   rw[q]at j;cases j;obtain⟨v,n⟩:=l;exact⟨v,by rw[g];exact n⟩
  ·refine(ok b u q).stay (fun c v hc r=>k c v ?_ r) (fun c r=>by rw[Zc (i c b r)];exact r) fun c d r=>by rw[Zc (m c d r)];exact r
   rcases hc with rfl|hc
   ·exact g
   ·rintro rfl;rcases he with z|z
    ·exact i c b hc z
    ·rw[hc]at z;cases z;exact f rfl
end
structure Un (fs ex:List Addr) (H H':Hp) (h h':Heap):Prop where
 keep:∀b o,h.get? b=some o→H b=none→b ∉ fs→b ∉ ex→h'.get? b=some o
 slot:∀b o,h.get? b=some o→H b=none→b∈fs→b ∉ ex→∃sl,h'.get? b=some { o with slots:=sl }
 free:∀b o,h.get? b=some o→H b=none→b ∉ ex→H' b=none
 there:∀b o,h.get? b=some o→b ∉ ex→∃o',h'.get? b=some o'
 tups:∀b xs,H b=some (.tup xs)→H' b=some (.tup xs)
 frzs:∀b o u,H b=some (.frz o u)→H' b=some (.frz o u)
 tbls:∀b ps,H b=some (.tbl ps)→∃more,H' b=some (.tbl (ps++more))
section
variable {fs lM ex ex':List Addr} {H H1 H2:Hp} {h h1 h2 h':Heap} {a x e:Addr} {o:HO}
theorem Un.any(u:Un fs ex H H1 h h1){b:Addr}{ob:Obj}(q:h.get? b=some ob)(n:H b=none)(hx:b ∉ ex):∃sl,h1.get? b=some { ob with slots:=sl }:=by
 by_cases a:b∈fs
 ·exact u.slot b ob q n a hx
 ·exact⟨ob.slots,u.keep b ob q n a hx⟩
theorem Un.kept(k:∀b u,h.get? b=some u→h'.get? b=some u):Un fs ex H H h h' :=
 ⟨fun b a q _ _ _=>k b a q,fun b a q _ _ _=>⟨a.slots,k b a q⟩,fun _ _ _ n _=>n,fun b a q _=>⟨a,k b a q⟩,fun _ _ q=>q,fun _ _ _ q=>q,fun _ ps q=>⟨#[],by rw[q];simp⟩⟩
theorem Un.refl:Un fs ex H H h h:=Un.kept fun _ _ q=>q
theorem Un.laid(k:∀b u,h.get? b=some u→h'.get? b=some u)(hp:h.objs.size≤a)(c:H a=none):Un fs ex H (upd H a o) h h' where
 keep:=fun b u q _ _ _=>k b u q
 slot:=fun b u q _ _ _=>⟨u.slots,k b u q⟩
 free:=fun b u q n _=>by rw[Zc (Qu (QD (Qp q) hp))];exact n
 there:=fun b u q _=>⟨u,k b u q⟩
 tups:=fun b d q=>by rw[Zc (Zb q c)];exact q
 frzs:=fun b u d q=>by rw[Zc (Zb q c)];exact q
 tbls:=fun b ps q=>⟨#[],by rw[Zc (Zb q c),q];simp⟩
theorem Un.write(a:Mut (H x))(he:e=x∨H e=some (.own x))(k:∀b u,b≠e→h.get? b=some u→h'.get? b=some u)(i:∃u,h'.get? e=some u):Un fs ex H (upd H x o) h h':=by
 have d:∀b,H b=none→b≠x:=fun b n z=>by subst z;rw[n]at a;exact a
 have f:∀b,H b=none→b≠e:=fun b n z=>by
  subst z;rcases he with r|r
  ·exact d b n r
  ·rw[n]at r;cases r
 have c:∀b u,H b=some u→¬ Mut (some u)→b≠x:=fun b u q j z=>by subst z;rw[q]at a;exact j a
 refine⟨fun b u q n _ _=>k b u (f b n) q,fun b u q n _ _=>⟨u.slots,k b u (f b n) q⟩,fun b u q n _=>by rw[Zc (d b n)];exact n,fun b u q _=>?_,
  fun b l q=>by rw[Zc (c b _ q fun z=>z)];exact q,fun b u l q=>by rw[Zc (c b _ q fun z=>z)];exact q,fun b ps q=>⟨#[],by rw[Zc (c b _ q fun z=>z),q];simp⟩⟩
 by_cases g:b=e
 ·subst g;exact i
 ·exact⟨u,k b u g q⟩
end
noncomputable def trk(h:Heap)(H:Hp):List Addr:=(List.range h.objs.size).filter fun a=>(H a).isSome
noncomputable def WL(h:Heap)(H:Hp):Heap:=PySem.W.hideAll h (trk h H)
theorem ZmI(h:Heap)(H:Hp):(WL h H).objs.size=h.objs.size:=PySem.W.hideAll_size _ _
theorem Zos{h:Heap}{H:Hp}{b:Addr}{o:Obj}(e:h.get? b=some o)(n:H b=none):(WL h H).get? b=some o :=
 PySem.W.hideAll_get _ e fun a=>by have q:(H b).isSome=true:=(Qaa.mp a).2;rw[n]at q;simp at q
theorem ZoX{h:Heap}{H:Hp}{b:Addr}{o:Obj}(e:(WL h H).get? b=some o):h.get? b=some o∧H b=none:=by
 have a:h.get? b=some o:=PySem.W.of_hideAll (trk h H) e;refine⟨a,?_⟩;cases q:H b with
 | none=>rfl
 | some x=>have c:b∈trk h H:=List.mem_filter.mpr ⟨Q9.mpr (Qp a),by simp[q]⟩;have z:(WL h H).get? b=none:=PySem.W.hideAll_none (trk h H) c;rw[z]at e;cases e
noncomputable def Zpa(g h:Heap)(L:Addr):List (Addr×Obj):=(List.range h.objs.size).filterMap fun a=>if a=L∨(g.get? a).isSome=true then none else (h.get? a).map fun o=>(a,o)
noncomputable def rest(g h:Heap)(L d:Addr):List (Addr×Obj):=(Zpa g h L).filter fun p=>decide (p.1≠d)
structure Mod (K:#[7]) (mg:Str→Option Value) (base:Heap):Prop where
 kin:K.In base
 glob:base.Ns mainGlobals mg
 blt:∃mb,base.Ns builtinsNs mb∧∀x:Str,x ≠ "__name__"→mb x=bootBuiltins x
 nolimit:base.NoLimit
structure Cx where
 prog:Program
 w:World
 K:#[7]
 mg:Str→Option Value
 base:Heap
 A:Around
 N:List Str
 s₀:Shared
 H₀:Hp
 env:Env
 outer:List Env
 stack:List Env
 ex:List Addr
 fn:Str→Bool
 calm:Bool
 pn:List (Addr×Obj)
 xe:Value→Shared→Prop
noncomputable def frs(l:List Env):List Addr:=l.filterMap (·.frame)
noncomputable abbrev Cx.fs(X:Cx):List Addr:=frs X.outer
def Vis(a:Scope)(x:Str):Prop:=a.names.lookup x=some .local∨a.names.lookup x=some .cell∨a.names.lookup x=some .free
def Loc(a:Scope)(x:Str):Prop:=a.names.lookup x=some .local∨a.names.lookup x=some .cell
def ZsI(env:Env)(h:Heap)(m:Str→Option Value)(x:Str)(u:Value):Prop :=
 (env.kindOf x=some .local∧m x=some u)∨((env.kindOf x=some .cell∨env.kindOf x=some .free)∧∃c,env.cells.lookup x=some c∧h.IsCell c (some u))
structure Cx.Ok (X:Cx):Prop where
 mod:Mod X.K X.mg X.base
 kind:X.env.scope.kind=.function
 glob:X.env.globals=mainGlobals
 blt:X.env.builtins=builtinsNs
 above:X.s₀.heap.objs.size≤X.env.locals
 inj:∀x y c,X.env.cells.lookup x=some c→X.env.cells.lookup y=some c→x=y
 has:∀x,(X.env.kindOf x=some .cell∨X.env.kindOf x=some .free)→∃c,X.env.cells.lookup x=some c
 cab:∀x c,X.fn x=true→X.env.cells.lookup x=some c→X.s₀.heap.objs.size≤c
 hd:X.calm=true→X.A.handled=none
 frames:X.A.frames=some X.stack
 stk:X.stack=X.outer∨(X.stack=X.env::X.outer∧X.env.frame=some X.env.locals)
 exf:∀b∈X.ex,b≠X.env.locals∧∀x c,X.env.cells.lookup x=some c→c≠b
 bs:∀b o,X.base.get? b=some o→X.s₀.heap.get? b=some o∧X.H₀ b=none
 bsz:X.base.objs.size≤X.s₀.heap.objs.size
 noex:∀b o,X.base.get? b=some o→b ∉ X.ex
 exfs:∀b∈X.ex,b ∉ X.fs
 funs:X.s₀.heap.FunFrames X.base X.outer
 frf:∀b∈X.fs,X.H₀ b=none
structure Inv (X:Cx) (aa:List (Addr×Obj)) (σ:List (Option V)) (H:Hp) (s:Shared):Prop where
 ok:X.Ok
 os:s.os=X.s₀.os
 bare:AllBare s.gens
 base:Un X.fs X.ex X.H₀ H X.s₀.heap s.heap
 loc:∃m,s.heap.Ns X.env.locals m∧∀ (i:Nat) (x:Str) (v:V),X.N[i]? = some x→σ[i]? = some (some v)→Vis X.env.scope x→∃u,ZM v u∧ZsI X.env s.heap m x u
 cell:∀x c,X.env.cells.lookup x=some c→∃v,s.heap.IsCell c v
 free:H X.env.locals=none
 freeC:∀x c,X.env.cells.lookup x=some c→H c=none
 pin:∀p∈X.pn++aa,s.heap.get? p.1=some p.2∧H p.1=none∧p.1≠X.env.locals∧p.1 ∉ X.fs∧∀v,p.2.data≠.cell v
 hok:HOk X.prog X.w H s.heap
 len:σ.length=X.N.length
section
variable {X:Cx} {aa:List (Addr×Obj)} {σ:List (Option V)} {H H':Hp} {s:Shared} {h':Heap}
theorem Cx.Ok.nofr(ok:X.Ok){b:Addr}{o:Obj}(e:X.base.get? b=some o):b ∉ X.fs:=fun hb=>by have:=(ok.funs.mem hb).1;rw[e]at this;cases this
theorem Inv.bs(I:Inv X aa σ H s):∀b o,X.base.get? b=some o→s.heap.get? b=some o∧H b=none:=fun b o e =>
 ⟨I.base.keep b o (I.ok.bs b o e).1 (I.ok.bs b o e).2 (I.ok.nofr e) (I.ok.noex b o e),I.base.free b o (I.ok.bs b o e).1 (I.ok.bs b o e).2 (I.ok.noex b o e)⟩
theorem Inv.bk(I:Inv X aa σ H s):∀b o,X.base.get? b=some o→s.heap.get? b=some o:=fun b o e=>(I.bs b o e).1
theorem Inv.mod(I:Inv X aa σ H s):Mod X.K X.mg X.base:=I.ok.mod
theorem Inv.kIn(I:Inv X aa σ H s):X.K.In s.heap:=I.ok.mod.kin.keeps I.bk
theorem Inv.lt(I:Inv X aa σ H s):X.env.locals<s.heap.objs.size:=let ⟨_,a,_⟩:=I.loc;a.lt
theorem Inv.sz(I:Inv X aa σ H s):X.s₀.heap.objs.size≤s.heap.objs.size:=QB I.ok.above (Qai I.lt)
theorem Inv.nofs(I:Inv X aa σ H s){a:Addr}(h:s.heap.objs.size≤a):a ∉ X.fs:=fun hb=>by obtain⟨_,o,b,_⟩:=I.ok.funs.mem hb;exact absurd (QD (Qp b) (QB I.sz h)) (QW _)
theorem Inv.cne(I:Inv X aa σ H s):∀x c,X.env.cells.lookup x=some c→c≠X.env.locals:=fun x c e z=>by obtain⟨v,o,a,b⟩:=I.cell x c e;obtain⟨m,⟨o',es,ep,d,f,_⟩,_⟩:=I.loc;rw[z,d]at a;cases a;rw[f]at b;cases b
theorem Inv.funs(I:Inv X aa σ H s):s.heap.FunFrames X.base X.outer:=by
 have all:∀ (l:List Env),(∀b∈frs l,b∈X.fs)→X.s₀.heap.FunFrames X.base l→s.heap.FunFrames X.base l:=by
  intro l;induction l with
  | nil=>intro _ _;trivial
  | cons env r g=>intro f h;obtain⟨i,⟨L,o,a,j,k,m⟩,n⟩:=h;have c:L∈X.fs:=f L (by unfold frs;rw[Q7,a];exact Q0);obtain⟨sl,e⟩:=I.base.slot L o k (I.ok.frf L c) c fun z=>I.ok.exfs L z c;exact⟨i,⟨L,_,a,j,e,m⟩,g (fun b d=>f b (by unfold frs;rw[Q7,a];exact Qt _ d)) n⟩
 exact all X.outer (fun _ d=>d) I.ok.funs
theorem Inv.stack(I:Inv X aa σ H s):s.heap.FunFrames X.base X.stack:=by
 rcases I.ok.stk with e|⟨e,a⟩
 ·rw[e];exact I.funs
 ·rw[e];obtain⟨m,b,_⟩:=I.loc;refine .cons (by rw[I.ok.kind];decide) a b ?_ I.funs;exact Heap.get?_none_of_le (QB I.ok.bsz I.ok.above)
theorem Inv.stkSub(I:Inv X aa σ H s):∀b∈frs X.stack,b∈X.env.locals::X.fs:=fun b hb=>by
 rcases I.ok.stk with e|⟨e,a⟩
 ·rw[e]at hb;exact Qt _ hb
 ·rw[e]at hb;unfold frs at hb;rw[Q7,a]at hb;exact hb
theorem Inv.stkFree(I:Inv X aa σ H s):∀b∈frs X.stack,H b=none:=fun b hb=>by
 rcases QF.mp (I.stkSub b hb) with e|hb
 ·rw[e];exact I.free
 ·obtain⟨_,o,a,_⟩:=I.ok.funs.mem hb;exact I.base.free b o a (I.ok.frf b hb) fun z=>I.ok.exfs b z hb
theorem Inv.step{g':Array GenState}{t':Nat}{d':Drawn}{ch:List Addr}(I:Inv X aa σ H s)
  (w:∀b∈ch,(b∈X.ex∨X.s₀.heap.objs.size≤b)∧b≠X.env.locals∧(∀x c,X.env.cells.lookup x=some c→c≠b)∧∀p∈X.pn++aa,p.1≠b)
  (keep:∀b o,b≠X.env.locals→b ∉ X.fs→b ∉ ch→s.heap.get? b=some o→H b=none→h'.get? b=some o)
  (slot:∀b o,b≠X.env.locals→b∈X.fs→b ∉ ch→s.heap.get? b=some o→H b=none→∃sl,h'.get? b=some { o with slots:=sl }) (free:∀b o,b ∉ ch→s.heap.get? b=some o→H b=none→H' b=none)
  (h:∀b o,b ∉ ch→s.heap.get? b=some o→∃y,h'.get? b=some y)
  (A:∀b g,H b=some (.tup g)→H' b=some (.tup g)) (B:∀b o u,H b=some (.frz o u)→H' b=some (.frz o u)) (C:∀b F,H b=some (.tbl F)→∃more,H' b=some (.tbl (F++more)))
  (Q:∀m,s.heap.Ns X.env.locals m→h'.Ns X.env.locals m) (J:HOk X.prog X.w H' h') (R:AllBare g') :
  Inv X aa σ H' { s with heap:=h',gens:=g',drawn:=d',toks:=t' }:=by
 have L:∀b o,X.s₀.heap.get? b=some o→b≠X.env.locals:=fun b o e=>Qu (QD (Qp e) I.ok.above);have G:∀b o,X.s₀.heap.get? b=some o→b ∉ X.ex→b ∉ ch:=fun b o e a j=>by
  rcases(w b j).1 with z|z
  ·exact a z
  ·exact absurd (QD (Qp e) z) (QW _)
 have M:∀x c,X.env.cells.lookup x=some c→∀v,s.heap.IsCell c v→h'.IsCell c v:=fun x c e v ⟨o,t,K⟩=>by
  have D:c ∉ ch:=fun z=>(w c z).2.2.1 x c e rfl;by_cases N:c∈X.fs
  ·obtain⟨sl,q⟩:=slot c o (I.cne x c e) N D t (I.freeC x c e);exact⟨_,q,K⟩
  ·exact⟨o,keep c o (I.cne x c e) N D t (I.freeC x c e),K⟩
 refine⟨I.ok,I.os,R,⟨fun b o e n j a=>?_,fun b o e n j a=>?_,fun b o e n a=>?_,fun b o e a=>?_,fun b g e=>A b g (I.base.tups b g e),fun b o g e=>B b o g (I.base.frzs b o g e),fun b F e=>?_⟩,?_,fun x c e=>?_,?_,fun x c e=>?_,fun p O=>?_,J,I.len⟩
 ·exact keep b o (L b o e) j (G b o e a) (I.base.keep b o e n j a) (I.base.free b o e n a)
 ·obtain⟨sl,f⟩:=I.base.slot b o e n j a;obtain⟨S,E⟩:=slot b _ (L b o e) j (G b o e a) f (I.base.free b o e n a);exact⟨S,E⟩
 ·obtain⟨y,f⟩:=I.base.there b o e a;exact free b y (G b o e a) f (I.base.free b o e n a)
 ·obtain⟨y,f⟩:=I.base.there b o e a;exact h b y (G b o e a) f
 ·obtain⟨T,f⟩:=I.base.tbls b F e;obtain⟨U,E⟩:=C b _ f;exact⟨T++U,by rw[E,Array.append_assoc]⟩
 ·obtain⟨m,V,W⟩:=I.loc;refine⟨m,Q m V,fun i x v f E Y=>?_⟩;obtain⟨u,r,l⟩:=W i x v f E Y;refine⟨u,r,?_⟩;rcases l with l|⟨k,c,e,z⟩
  ·exact .inl l
  ·exact .inr ⟨k,c,e,M x c e _ z⟩
 ·obtain⟨v,z⟩:=I.cell x c e;exact⟨v,M x c e v z⟩
 ·obtain⟨m,⟨o,_,_,t,_⟩,_⟩:=I.loc;exact free _ o (fun z=>(w _ z).2.1 rfl) t I.free
 ·obtain⟨v,o,t,K⟩:=I.cell x c e;exact free c o (fun z=>(w c z).2.2.1 x c e rfl) t (I.freeC x c e)
 ·obtain⟨e,n,ne,P,d⟩:=I.pin p O;have D:p.1 ∉ ch:=fun z=>(w p.1 z).2.2.2 p O rfl;exact⟨keep p.1 p.2 ne P D e n,free p.1 p.2 D e n,ne,P,d⟩
theorem Inv.un{t':Nat}(I:Inv X aa σ H s)(u:Un X.fs [] H H' s.heap h')(hok:HOk X.prog X.w H' h'):Inv X aa σ H' { s with heap:=h',toks:=t' }:=by obtain⟨m,⟨o,es,ep,c,r⟩,_⟩:=id I.loc;obtain⟨sl,f⟩:=u.any c I.free #[4];exact I.step (g':=s.gens) (d':=s.drawn) (ch:=[]) (fun _ z=>nomatch z) (fun b o _ a _ e n=>u.keep b o e n a #[4]) (fun b o _ a _ e n=>u.slot b o e n a #[4]) (fun b o _ e n=>u.free b o e n #[4]) (fun b o _ e=>u.there b o e #[4]) u.tups u.frzs u.tbls (fun m' g=>by obtain⟨o',h,i,d,j⟩:=g;rw[c]at d;cases d;exact⟨_,h,i,f,j⟩) hok I.bare
theorem Inv.call{g':Array GenState}{t':Nat}{d':Drawn}{ch:List Addr}(I:Inv X aa σ H s)(u:Un (frs X.stack) ch H H' s.heap h')(hok:HOk X.prog X.w H' h')(i:AllBare g')
  (f:∀b∈ch,(b∈X.ex∨X.s₀.heap.objs.size≤b)∧b≠X.env.locals∧(∀x c,X.env.cells.lookup x=some c→c≠b)∧∀p∈X.pn++aa,p.1≠b) :
  Inv X aa σ H' { s with heap:=h',gens:=g',drawn:=d',toks:=t' }:=by
 obtain⟨m,⟨o,es,ep,g,r⟩,_⟩:=id I.loc;obtain⟨sl,d⟩:=u.any g I.free fun z=>(f _ z).2.1 rfl;exact I.step (ch:=ch) f (fun b o d j a e n=>u.keep b o e n (fun z=>(QF.mp (I.stkSub b z)).elim d j) a) (fun b o _ _ a e n=>u.any e n a) (fun b o a e n=>u.free b o e n a) (fun b o a e=>u.there b o e a) u.tups u.frzs u.tbls (fun m' k=>by obtain⟨o',l,q,h,t⟩:=k;rw[g]at h;cases h;exact⟨_,l,q,d,t⟩) hok i
theorem Inv.turned{t':Nat}{it:Addr}(I:Inv X aa σ H s)(k:∀b o,b≠it→s.heap.get? b=some o→h'.get? b=some o)(g:H it=none)(d:it≠X.env.locals)
  (h1:it∈X.ex∨X.s₀.heap.objs.size≤it) (h2:∀x c,X.env.cells.lookup x=some c→c≠it) (h:∀p∈X.pn++aa,p.1≠it):Inv X aa σ H { s with heap:=h',toks:=t' }:=by
 have f:∀b u,H b=some u→b≠it:=fun b u e z=>by rw[z,g]at e;cases e
 refine I.step (g':=s.gens) (d':=s.drawn) (ch:=[it]) (fun b i=>?_) (fun b o _ _ a e _=>k b o (fun z=>a (by simp[z])) e) (fun b o _ _ a e _=>⟨o.slots,k b o (fun z=>a (by simp[z])) e⟩) (fun _ _ _ _ n=>n)
  (fun b o a e=>⟨o,k b o (fun z=>a (by simp[z])) e⟩) (fun _ _ e=>e) (fun _ _ _ e=>e) (fun b ps e=>⟨#[],by rw[e];simp⟩) (fun m j=>?_) (fun b u e=>?_) I.bare
 ·have e:b=it:=by simpa using i
  subst e;exact⟨h1,d,h2,h⟩
 ·obtain⟨o,l,t,w,r⟩:=j;exact⟨o,l,t,k _ o (Ne.symm d) w,r⟩
 ·refine(I.hok b u e).stay (fun c v a q=>k c v ?_ q) (fun _ q=>q) fun _ _ q=>q;rcases a with z|z
  ·rw[z];exact f b u e
  ·exact f c _ z
theorem Inv.tok(I:Inv X aa σ H s)(t:Nat):Inv X aa σ H { s with toks:=t }:=I.un (h':=s.heap) (t':=t) Un.refl I.hok
theorem Inv.kept{t':Nat}(I:Inv X aa σ H s)(k:∀b u,s.heap.get? b=some u→h'.get? b=some u):Inv X aa σ H { s with heap:=h',toks:=t' }:=I.un (Un.kept k) (I.hok.kept k)
theorem Inv.laid{a:Addr}{o:HO}{t':Nat}(I:Inv X aa σ H s)(k:∀b u,s.heap.get? b=some u→h'.get? b=some u)(hp:s.heap.objs.size≤a)(new:Z7 X.prog X.w (upd H a o) h' a o) :
  Inv X aa σ (upd H a o) { s with heap:=h',toks:=t' }:=I.un (Un.laid k hp (I.hok.fresh hp)) (I.hok.laid k hp new)
theorem Inv.write{x e:Addr}{o:HO}{t':Nat}(I:Inv X aa σ H s)(a:Mut (H x))(he:e=x∨H e=some (.own x))(k:∀b u,b≠e→s.heap.get? b=some u→h'.get? b=some u)(c:∃u,h'.get? e=some u)
  (new:Z7 X.prog X.w (upd H x o) h' x o):Inv X aa σ (upd H x o) { s with heap:=h',toks:=t' }:=I.un (Un.write a he k c) (I.hok.write a he k c new)
theorem Inv.pins_of{a:List (Addr×Obj)}(I:Inv X aa σ H s)(h:∀p∈a,s.heap.get? p.1=some p.2∧H p.1=none∧p.1≠X.env.locals∧p.1 ∉ X.fs∧∀v,p.2.data≠.cell v):Inv X a σ H s :=
 ⟨I.ok,I.os,I.bare,I.base,I.loc,I.cell,I.free,I.freeC,fun p b=>(Qn.mp b).elim (fun z=>I.pin p (QM _ z)) (h p),I.hok,I.len⟩
theorem NY{N:List Str}(c:N.Nodup){i j:Nat}{x:Str}(a:N[i]? = some x)(b:N[j]? = some x):i=j:=by obtain⟨h1,d⟩:=Qe.mp a;obtain⟨h2,e⟩:=Qe.mp b;exact(List.getElem_inj c).mp (d.trans e.symm)
theorem NX{M:Model}{A:Around}{E:Value→Shared→Prop}{i:Nat}{x:Str}{v:V}{u:Value}{Q:Unit→Shared→Prop}(I:Inv X aa σ H s)(T:X.N.Nodup)(B:X.N[i]? = some x)(hx:Loc X.env.scope x)(r:ZM v u)
  (h:∀s',Inv X aa (σ.set i (some v)) H s'→(∃a,Heap.SameBut a s.heap s'.heap∧(a=X.env.locals∨X.env.cells.lookup x=some a))→Q () s') (hf:X.fn x=true∨X.env.scope.names.lookup x=some .local:=by first|exact .inl rfl|exact .inr rfl|assumption):wpAny M A (storeName X.env x u) Q E s:=by
 obtain⟨m,F,U⟩:=id I.loc;have vX:(X.env.scope.kind == .class||(X.env.scope.kind == .module&&X.env.locals != X.env.globals))=false:=by rw[I.ok.kind];rfl
 have W:i<σ.length:=by rw[I.len];exact(Qe.mp B).1
 have cne:=I.cne;have Y:∀ {a:Addr} {h':Heap},(∃o,s.heap.get? a=some o∧H a=none)→Heap.SameBut a s.heap h'→HOk X.prog X.w H h':=fun {a h'} ha f b ob e=>by
  obtain⟨_,_,Z⟩:=ha;refine(I.hok b ob e).stay (fun c C hc q=>(f.2 c ?_).trans q) (fun _ q=>q) fun _ _ q=>q;rintro rfl;rcases hc with rfl|hc
  ·rw[Z]at e;cases e
  ·rw[Z]at hc;cases hc
 rcases hx with hk|hk
 ·refine wpAny_storeName_local hk F (fun h' Ay f=>?_) vX;obtain⟨oL,_,_,mH,_⟩:=id F;refine h _ ⟨I.ok,I.os,I.bare,⟨fun b o e n t hx=>?_,fun b o e n t hx=>?_,I.base.free,fun b o e hx=>?_,I.base.tups,I.base.frzs,I.base.tbls⟩,⟨_,Ay,fun j y G g l J=>?_⟩,fun y c e=>?_,I.free,I.freeC,fun p K=>?_,Y ⟨oL,mH,I.free⟩ f,by simpa using I.len⟩ ⟨_,f,.inl rfl⟩
  ·exact(f.2 b (Qu (QD (Qp e) I.ok.above))).trans (I.base.keep b o e n t hx)
  ·obtain⟨L,g⟩:=I.base.slot b o e n t hx;exact⟨L,(f.2 b (Qu (QD (Qp e) I.ok.above))).trans g⟩
  ·obtain⟨N,g⟩:=I.base.there b o e hx;exact⟨N,(f.2 b (Qu (QD (Qp e) I.ok.above))).trans g⟩
  ·by_cases w:j=i
   ·subst w;rw[B]at g;cases g;rw[QU W]at l;cases l;exact⟨u,r,.inl ⟨hk,by simp⟩⟩
   ·rw[Qab (Ne.symm w)]at l;obtain⟨O,P,q⟩:=U j y G g l J;refine⟨O,P,?_⟩;rcases q with⟨k,e⟩|⟨k,c,e,z⟩
    ·refine .inl ⟨k,?_⟩;have:y≠x:=fun e=>w (NY T g (e ▸ B));simp[this,e]
    ·exact .inr ⟨k,c,e,z.sameBut f (cne y c e)⟩
  ·obtain⟨C,z⟩:=I.cell y c e;exact⟨C,z.sameBut f (cne y c e)⟩
  ·obtain⟨e,n,ne,R,d⟩:=I.pin p K;exact⟨(f.2 p.1 ne).trans e,n,ne,R,d⟩
 ·have S:X.fn x=true:=by
   rcases hf with z|z
   ·exact z
   ·rw[z]at hk;cases hk
  obtain⟨c,hc⟩:=I.ok.has x (.inl hk);obtain⟨C,z⟩:=I.cell x c hc;refine wpAny_storeName_cell I.ok.kind hk hc z (fun h' iD f=>?_);obtain⟨oc,vY,vZ⟩:=id z;refine h { s with heap:=h' } ⟨I.ok,I.os,I.bare,⟨fun b o e n t hx=>?_,fun b o e n t hx=>?_,I.base.free,fun b o e hx=>?_,I.base.tups,I.base.frzs,I.base.tbls⟩,⟨m,F.sameBut f (Ne.symm (cne x c hc)),fun j y G g l J=>?_⟩,fun y D e=>?_,I.free,I.freeC,fun p K=>?_,Y ⟨oc,vY,I.freeC x c hc⟩ f,by simpa using I.len⟩ ⟨c,f,.inr hc⟩
  ·exact(f.2 b (Qu (QD (Qp e) (I.ok.cab x c S hc)))).trans (I.base.keep b o e n t hx)
  ·obtain⟨L,g⟩:=I.base.slot b o e n t hx;exact⟨L,(f.2 b (Qu (QD (Qp e) (I.ok.cab x c S hc)))).trans g⟩
  ·obtain⟨N,g⟩:=I.base.there b o e hx;exact⟨N,(f.2 b (Qu (QD (Qp e) (I.ok.cab x c S hc)))).trans g⟩
  ·by_cases w:j=i
   ·subst w;rw[B]at g;cases g;rw[QU W]at l;cases l;exact⟨u,r,.inr ⟨.inl hk,c,hc,iD⟩⟩
   ·rw[Qab (Ne.symm w)]at l;obtain⟨O,P,q⟩:=U j y G g l J;refine⟨O,P,?_⟩;rcases q with q|⟨k,D,e,z'⟩
    ·exact .inl q
    ·refine .inr ⟨k,D,e,z'.sameBut f ?_⟩;rintro rfl;exact w (NY T g (I.ok.inj _ _ _ e hc ▸ B))
  ·by_cases wc:D=c
   ·subst wc;exact⟨_,iD⟩
   ·obtain⟨w2,z2⟩:=I.cell y D e;exact⟨w2,z2.sameBut f wc⟩
  ·obtain⟨e,n,ne,R,d⟩:=I.pin p K;refine⟨(f.2 p.1 ?_).trans e,n,ne,R,d⟩;intro q;rw[q,vY]at e;have q':oc=p.2:=Qr e;exact d C (by rw[← q'];exact vZ)
theorem UG{M:Model}{A:Around}{E:Value→Shared→Prop}{i:Nat}{x:Str}{v:V}{u:Value}{Q:Unit→Shared→Prop}(I:Inv X aa σ H s)(a:X.N.Nodup)(b:X.N[i]? = some x)(hx:Loc X.env.scope x)(r:ZM v u)
  (h:∀s',Inv X aa (σ.set i (some v)) H s'→Q () s') (c:X.fn x=true∨X.env.scope.names.lookup x=some .local:=by first|exact .inl rfl|exact .inr rfl|assumption):wpAny M A (storeName X.env x u) Q E s :=
 NX I a b hx r (fun s' d _=>h s' d) c
theorem Inv.call'{s':Shared}{ch:List Addr}(I:Inv X aa σ H s)(a:s'.os=s.os)(u:Un (frs X.stack) ch H H' s.heap s'.heap)(hok:HOk X.prog X.w H' s'.heap)(d:AllBare s'.gens)
  (f:∀b∈ch,(b∈X.ex∨X.s₀.heap.objs.size≤b)∧b≠X.env.locals∧(∀x c,X.env.cells.lookup x=some c→c≠b)∧∀p∈X.pn++aa,p.1≠b):Inv X aa σ H' s':=by
 obtain⟨h',g',d',t',g⟩:=s';have e:g=s.os:=a;subst e;exact I.call (g':=g') (t':=t') (d':=d') u hok d f
end
abbrev XK:=Value→Option Addr→Hp→Prop
abbrev St:=List (Option V)
abbrev VK:=V→Hp→Prop
abbrev TE:=St→Hp→VK→Prop
abbrev TT:=St→Hp→(Bool→Hp→Prop)→Prop
abbrev TA:=St→Hp→(List V→Hp→Prop)→Prop
structure Xq where
 nx:St→Hp→Prop
 rt:VK
 bk:St→Hp→Prop:=fun _ _=>False
 ct:St→Hp→Prop:=fun _ _=>False
abbrev TS:=Xq→St→Hp→Prop
def EP(X:Cx)(a:List (Addr×Obj))(b:St)(Q:VK)(u:Value)(s':Shared):Prop:=∃v H',Inv X a b H' s'∧ZM v u∧Q v H'
def TP(X:Cx)(a:List (Addr×Obj))(c:St)(Q:Bool→Hp→Prop)(b:Bool)(s':Shared):Prop:=∃H',Inv X a c H' s'∧Q b H'
def AP(X:Cx)(a:List (Addr×Obj))(b:St)(Q:List V→Hp→Prop)(us:List Value)(s':Shared):Prop:=∃vs H',Inv X a b H' s'∧ZL vs us∧Q vs H'
def SP(X:Cx)(c:List (Addr×Obj))(D:Xq)(f:Flow)(s':Shared):Prop :=
 match f with
 | .next=>∃b a,Inv X c b a s'∧D.nx b a
 | .brk=>∃b a,Inv X c b a s'∧D.bk b a
 | .cont=>∃b a,Inv X c b a s'∧D.ct b a
 | .ret u=>∃v b a,Inv X c b a s'∧ZM v u∧D.rt v a
def PE(X:Cx)(e:Expr)(t:TE):Prop :=
 ∀ (b:List (Addr×Obj)) (s:Shared) (a:St) (H:Hp) (Q:VK),Inv X b a H s→t a H Q→#[9,X] (eval e X.env) (EP X b a Q) X.xe s
def PT(X:Cx)(e:Expr)(t:TT):Prop :=
 ∀ (b:List (Addr×Obj)) (s:Shared) (a:St) (H:Hp) (Q:Bool→Hp→Prop),Inv X b a H s→t a H Q→#[9,X] (isTrue e X.env (eval e X.env)) (TP X b a Q) X.xe s
def PW(X:Cx)(e:Expr)(t:TT):Prop :=
 ∀ (c:Sem Value) (b:List (Addr×Obj)) (s:Shared) (a:St) (H:Hp) (Q:Bool→Hp→Prop),Inv X b a H s→t a H Q→#[9,X] (isTrue e X.env c) (TP X b a Q) X.xe s
theorem PW.pt{X:Cx}{e:Expr}{t:TT}(h:PW X e t):PT X e t:=h _
def PA(X:Cx)(d:List Expr)(t:TA):Prop :=
 ∀ (a:Pos) (c:List (Addr×Obj)) (s:Shared) (b:St) (H:Hp) (Q:List V→Hp→Prop),Inv X c b H s→t b H Q→#[9,X] (spliced (backTo a (starEach d X.env))) (AP X c b Q) X.xe s
def PS(X:Cx)(st:Stmt)(t:TS):Prop :=
 ∀ (a:List (Addr×Obj)) (s:Shared) (b:St) (H:Hp) (D:Xq),Inv X a b H s→t D b H→#[9,X] (exec st X.env) (SP X a D) X.xe s
def PSs(X:Cx)(st:List Stmt)(t:TS):Prop :=
 ∀ (a:List (Addr×Obj)) (s:Shared) (b:St) (H:Hp) (D:Xq),Inv X a b H s→t D b H→#[9,X] (execs st X.env) (SP X a D) X.xe s
theorem thn{α:Type}{t:Sem α}{Q b:α→Shared→Prop}{M:Model}{A:Around}{E:Value→Shared→Prop}{s:Shared}(h:wpAny M A t Q E s)(c:∀a s,Q a s→b a s):wpAny M A t b E s:=wpAny_mono h c fun _ _ x=>x
section
variable {X:Cx}
inductive EA {α:Type} (A B:α→Prop):Prop where
 | mk (v:α) (a:A v) (b:B v)
def Tx(i:Nat):TE:=fun a H Q=>EA (fun v=>a[i]? = some (some v)) (fun v=>Q v H)
def tC(v:V):TE:=fun _ H Q=>Q v H
theorem RU{i:Nat}{x:Str}{pos:Pos}(f:X.N[i]? = some x)(hv:Vis X.env.scope x)(hd:(x == ("__debug__" : Str))=false:=by decide)(g:(x == ("__classdict__" : Str))=false:=by decide):PE X (.Name x pos) (Tx i):=by
 intro j s k H Q I h;obtain⟨v,e,h⟩:=h;obtain⟨m,n,o⟩:=I.loc;obtain⟨u,r,l⟩:=o i x v f e hv;have a:EP X j k Q u s:=⟨v,H,I,r,h⟩;rcases l with⟨hk,p⟩|⟨hk,c,b,d⟩
 ·exact wpAny_Name (wpAny_loadName_local I.ok.kind hk n p a) hd
 ·rcases hk with hk|hk
  ·exact wpAny_Name (wpAny_loadName_cell I.ok.kind hk b d a) hd
  ·exact wpAny_Name (wpAny_loadName_free I.ok.kind hk b d a g) hd
theorem Zj{i j pos}:PE X (.Constant (.int i) j pos) (tC (.int i)):=fun _ _ _ H _ I h=>wpAny_Constant_int ⟨.int i,H,I.tok _,⟨_,rfl⟩,h⟩
theorem Xp{b j pos}:PE X (.Constant (.bool b) j pos) (tC (.bl b)):=fun _ _ _ H _ I h=>Constant_bool ⟨.bl b,H,I,rfl,h⟩
theorem ZZ{j pos}:PE X (.Constant .none j pos) (tC .non):=fun _ _ _ H _ I h=>Constant_none ⟨.non,H,I,rfl,h⟩
theorem Zw{x j pos}:PE X (.Constant (.str x) j pos) (tC (.str x)):=fun _ _ _ H _ I h=>Calls.Constant_str ⟨.str x,H,I.tok _,⟨_,rfl⟩,h⟩
def Gl(X:Cx)(x:Str):Prop:=X.env.kindOf x=some .globalImplicit
theorem RT{E:Value→Shared→Prop}{a:List (Addr×Obj)}{s:Shared}{b:St}{H:Hp}{x:Str}{u:Value}{pos:Pos}{Q:Value→Shared→Prop}(I:Inv X a b H s)(c:Gl X x)(hm:X.mg x=some u)(h:Q u s)
  (hd:(x == ("__debug__" : Str))=false:=by decide):#[9,X] (eval (.Name x pos) X.env) Q E s :=
 Calls.Name_function_global I.ok.kind c (Calls.loadGlobal_global (by rw[I.ok.glob];exact I.mod.glob.keeps I.bk) hm h) hd
theorem Wi{E:Value→Shared→Prop}{a:List (Addr×Obj)}{s:Shared}{b:St}{H:Hp}{x:Str}{u:Value}{pos:Pos}{Q:Value→Shared→Prop}(I:Inv X a b H s)(c:Gl X x)(hm:X.mg x=none)(hv:bootBuiltins x=some u)(h:Q u s)
  (d:x ≠ "__name__":=by decide) (hd:(x == ("__debug__" : Str))=false:=by decide):#[9,X] (eval (.Name x pos) X.env) Q E s:=by
 obtain⟨mb,e,f⟩:=I.mod.blt;exact Calls.Name_function_global I.ok.kind c (Calls.loadGlobal_builtin (by rw[I.ok.glob];exact I.mod.glob.keeps I.bk) hm (by rw[I.ok.blt];exact e.keeps I.bk) ((f x d).trans hv) h) hd
theorem ZpC{x:Str}{v:V}{u:Value}{pos:Pos}(a:Gl X x)(hm:X.mg x=some u)(r:ZM v u)(hd:(x == ("__debug__" : Str))=false:=by decide):PE X (.Name x pos) (tC v) :=
 fun _ _ _ H _ I h=>RT I a hm ⟨v,H,I,r,h⟩ hd
theorem ZpJ{x:Str}{v:V}{u:Value}{pos:Pos}(a:Gl X x)(hm:X.mg x=none)(hv:bootBuiltins x=some u)(r:ZM v u)(b:x ≠ "__name__":=by decide)(hd:(x == ("__debug__" : Str))=false:=by decide):PE X (.Name x pos) (tC v) :=
 fun _ _ _ H _ I h=>Wi I a hm hv ⟨v,H,I,r,h⟩ b hd
variable {a b:Expr} {ta tb:TE} {pos:Pos}
def tB(t:TE):TT:=fun a H Q=>t a H fun x b=>EA (fun c=>x=.bl c) (fun c=>Q c b)
theorem X5{e:Expr}{t:TE}(h:PE X e t)(he:∀a,isTrue e X.env a=(do let v ← a;standAt e.pos;holding [v] (truthy v)):=by intro _;rfl):PT X e (tB t):=by intro b s c H Q I hw;refine isTrue_plain (thn (h b s c H _ I hw) ?_) (he _);rintro v s1 ⟨x,f,g,i,j⟩;obtain⟨d,rfl,q⟩:=j;cases i;exact wpAny_truthy_bool ⟨f,g,q⟩
variable {tA pC:TT} {rest:List Expr}
def Ztb(t u:TT):TT:=fun a H Q=>t a H fun c b=>if c=true then u a b Q else Q false b
def tOr(t u:TT):TT:=fun a H Q=>t a H fun c b=>if c=true then Q true b else u a b Q
def ZsX(t:TT):TT:=fun a H Q=>t a H fun c b=>Q (!c) b
theorem XT(ha:PT X a tA):PW X (.BoolOp .And [a] pos) tA:=by
 intro wh b s d H Q I h;refine isTrue_and (thn (ha b s d H Q I h) fun c s1 e=>?_);cases c with
 | true=>exact isTrue_and_nil e
 | false=>exact e
theorem Vn(ha:PT X a tA):PW X (.BoolOp .Or [a] pos) tA:=by
 intro wh b s d H Q I h;refine isTrue_or (thn (ha b s d H Q I h) fun c s1 e=>?_);cases c with
 | false=>exact isTrue_or_nil e
 | true=>exact e
theorem Yf(ha:PT X a tA)(hb:PW X (.BoolOp .And (b::rest) pos) pC):PW X (.BoolOp .And (a::b::rest) pos) (Ztb tA pC):=by
 intro j d s e H Q I h;refine isTrue_and (thn (ha d s e H _ I h) ?_);rintro c k ⟨f,g,i⟩;cases c with
 | true=>exact hb j d k e f Q g i
 | false=>exact⟨f,g,i⟩
theorem Wh(ha:PT X a tA)(hb:PW X (.BoolOp .Or (b::rest) pos) pC):PW X (.BoolOp .Or (a::b::rest) pos) (tOr tA pC):=by
 intro j d s e H Q I h;refine isTrue_or (thn (ha d s e H _ I h) ?_);rintro c k ⟨f,g,i⟩;cases c with
 | true=>exact⟨f,g,i⟩
 | false=>exact hb j d k e f Q g i
theorem Xg(ha:PT X a tA):PT X (.UnaryOp .Not a pos) (ZsX tA):=by intro b s d H Q I h;exact isTrue_not (ha b s d H (fun c e=>Q (!c) e) I h)
def ZrM(ta tb:TE):TE:=fun a H Q=>ta a H fun x b=>∃c,x=.bl c∧if c=true then tb a b Q else Q (.bl false) b
def Zr8(ta:TE):TE:=fun a H Q=>ta a H fun x b=>∃c,x=.bl c∧Q (.bl (!c)) b
theorem Vm{op}{t:TE}(h:PE X a t):PE X (.BoolOp op [a] pos) t:=fun b s c H Q I hw=>BoolOp_one (h b s c H Q I hw)
theorem WK(ha:PE X a ta)(hb:PE X (.BoolOp .And (b::rest) pos) tb):PE X (.BoolOp .And (a::b::rest) pos) (ZrM ta tb):=by
 intro e s f H Q I h;refine BoolOp_and (thn (ha e s f H _ I h) ?_);rintro v j ⟨x,g,i,k,d⟩;obtain⟨c,rfl,d⟩:=d;cases k;refine wpAny_truthy_bool ?_;cases c with
 | true=>exact hb e j f g Q i d
 | false=>exact⟨.bl false,g,i,rfl,d⟩
theorem Zq5(ha:PE X a ta):PE X (.UnaryOp .Not a pos) (Zr8 ta):=by intro d s e H Q I h;refine UnaryOp_ (thn (ha d s e H _ I h) ?_);rintro v s1 ⟨x,f,g,i,b⟩;obtain⟨c,rfl,b⟩:=b;cases i;exact not_of (wpAny_truthy_bool ⟨.bl (!c),f,g,rfl,b⟩)
def tIf(t:TT)(ta tb:TE):TE:=fun a H Q=>t a H fun c b=>if c=true then ta a b Q else tb a b Q
theorem Xo{c:Expr}(hc:PT X c tA)(ha:PE X a ta)(hb:PE X b tb):PE X (.IfExp c a b pos) (tIf tA ta tb):=by
 intro e s f H Q I h;refine wpAny_IfExp (thn (hc e s f H _ I h) ?_);rintro d g ⟨i,j,k⟩;cases d with
 | true=>exact ha e g f i Q j k
 | false=>exact hb e g f i Q j k
end
def SqL(K:#[7])(H:Hp)(a:Addr)(xs:List V):Prop :=
 Rd H a (.lst xs) ∨
  ∃ (o:Obj) (its:Array Value) (n:Nat),K.lookup a=some o∧o.cls=.type "list"∧o.dict=none∧o.data=.seq its n∧its.size≤sizeLine∧ZL xs its.toList
def SqT(K:#[7])(H:Hp)(a:Addr)(xs:List V):Prop :=
 Rd H a (.tup xs) ∨
  ∃ (o:Obj) (its:Array Value) (n:Nat),K.lookup a=some o∧o.cls=.type "tuple"∧o.data=.seq its n∧its.size≤sizeLine∧ZL xs its.toList
noncomputable def ZsR:Value→Option V
 | .none=>some .non
 | .bool b=>some (.bl b)
 | .int i _=>some (.int i)
 | .str x _=>some (.str x)
 | .bytes b _=>some (.byt b)
 | .float b _=>some (.flt b)
 | .ref a=>some (.ref a)
 | .type n=>some (.ty n)
 | _=>none
theorem ZM.abs{x:V}{u:Value}(r:ZM x u):ZsR u=some x:=by
 cases x with
 | non=>cases r;rfl
 | bl _=>cases r;rfl
 | int _=>obtain⟨t,rfl⟩:=r;rfl
 | str _=>obtain⟨t,rfl⟩:=r;rfl
 | byt _=>obtain⟨t,rfl⟩:=r;rfl
 | flt _=>obtain⟨t,rfl⟩:=r;rfl
 | ref _=>cases r;rfl
 | ty _=>cases r;rfl
theorem ZM.inj{x y:V}{u:Value}(r:ZM x u)(q:ZM y u):x=y:=Qr (r.abs.symm.trans q.abs)
theorem ZL.inj:∀ {xs ys:List V} {us:List Value},ZL xs us→ZL ys us→xs=ys
 | _,_,_,.nil,.nil=>rfl
 | _,_,_,.cons r t,.cons a t'=>by rw[r.inj a,ZL.inj t t']
section
variable {X:Cx} {aa:List (Addr×Obj)} {σ:St} {H:Hp} {s:Shared} {a:Addr} {xs ys:List V}
theorem SqL.of{K:#[7]}(h:H a=some (.lst xs)):SqL K H a xs:=.inl (.inl h)
theorem SqT.of{K:#[7]}(h:H a=some (.tup xs)):SqT K H a xs:=.inl (.inl h)
theorem Inv.list(I:Inv X aa σ H s)(h:SqL X.K H a xs):∃its:List Value,ZL xs its∧PlainL s.heap a its.toArray∧xs.length≤sizeLine:=by
 rcases h with h|⟨o,its,n,b,c,d,f,hz,r⟩
 ·obtain⟨z,its,n,r,e⟩:=h.ok I.hok;exact⟨its,r,⟨_,n,e,rfl,rfl,rfl⟩,z⟩
 ·refine⟨its.toList,r,⟨o,n,I.kIn a o b,c,d,by simpa using f⟩,?_⟩;have e:=r.length;simp only[Array.length_toList]at e;lia
theorem Inv.tuple(I:Inv X aa σ H s)(h:SqT X.K H a xs):∃its:List Value,ZL xs its∧IsTup s.heap a its.toArray∧xs.length≤sizeLine:=by
 rcases h with h|⟨o,its,n,b,c,d,hz,r⟩
 ·obtain⟨z,its,r,p⟩:=h.ok I.hok;exact⟨its,r,p,z⟩
 ·refine⟨its.toList,r,⟨o,I.kIn a o b,c,n,by simpa using d⟩,?_⟩;have e:=r.length;simp only[Array.length_toList]at e;lia
theorem Inv.list_inj(I:Inv X aa σ H s)(h:SqL X.K H a xs)(h':SqL X.K H a ys):xs=ys:=by
 obtain⟨its,r,⟨o,n,e,_,_,d⟩,_⟩:=I.list h;obtain⟨b,g,⟨o',n',c,_,_,f⟩,_⟩:=I.list h';rw[e]at c;cases c;rw[d]at f;injection f with i _;have:its=b:=by simpa using congrArg Array.toList i
 subst this;exact r.inj g
theorem Inv.tuple_inj(I:Inv X aa σ H s)(h:SqT X.K H a xs)(h':SqT X.K H a ys):xs=ys:=by
 obtain⟨its,r,⟨o,e,_,n,d⟩,_⟩:=I.tuple h;obtain⟨b,g,⟨o',c,_,n',f⟩,_⟩:=I.tuple h';rw[e]at c;cases c;rw[d]at f;injection f with i _;have:its=b:=by simpa using congrArg Array.toList i
 subst this;exact r.inj g
end
noncomputable abbrev Cx.wish(X:Cx)(E:Value→Shared→Prop):Cx:={ X with xe:=E }
noncomputable abbrev Cx.nox(X:Cx):Cx:=X.wish fun _ _=>False
theorem Cx.Ok.wish{X:Cx}(ok:X.Ok)(E:Value→Shared→Prop):(X.wish E).Ok :=
 ⟨ok.mod,ok.kind,ok.glob,ok.blt,ok.above,ok.inj,ok.has,ok.cab,ok.hd,ok.frames,ok.stk,ok.exf,ok.bs,ok.bsz,ok.noex,ok.exfs,ok.funs,ok.frf⟩
theorem Cx.Ok.unwish{X:Cx}{E:Value→Shared→Prop}(ok:(X.wish E).Ok):X.Ok :=
 ⟨ok.mod,ok.kind,ok.glob,ok.blt,ok.above,ok.inj,ok.has,ok.cab,ok.hd,ok.frames,ok.stk,ok.exf,ok.bs,ok.bsz,ok.noex,ok.exfs,ok.funs,ok.frf⟩
section
variable {X:Cx} {aa:List (Addr×Obj)} {σ:St} {H:Hp} {s:Shared} {E:Value→Shared→Prop}
theorem Inv.wish(I:Inv X aa σ H s)(E:Value→Shared→Prop):Inv (X.wish E) aa σ H s:=⟨I.ok.wish E,I.os,I.bare,I.base,I.loc,I.cell,I.free,I.freeC,I.pin,I.hok,I.len⟩
theorem Inv.unwish(I:Inv (X.wish E) aa σ H s):Inv X aa σ H s:=⟨I.ok.unwish,I.os,I.bare,I.base,I.loc,I.cell,I.free,I.freeC,I.pin,I.hok,I.len⟩
theorem SP.unwish{D:Xq}{f:Flow}{s':Shared}(h:SP (X.wish E) aa D f s'):SP X aa D f s':=by
 cases f with
 | next=>obtain⟨a,b,I,q⟩:=h;exact⟨a,b,I.unwish,q⟩
 | brk=>obtain⟨a,b,I,q⟩:=h;exact⟨a,b,I.unwish,q⟩
 | cont=>obtain⟨a,b,I,q⟩:=h;exact⟨a,b,I.unwish,q⟩
 | ret u=>obtain⟨v,a,b,I,r,q⟩:=h;exact⟨v,a,b,I.unwish,r,q⟩
theorem PSs.nox{st:List Stmt}{t:TS}(h:PSs X.nox st t):PSs X st t:=fun aa s σ H D I hw =>
 wpAny_mono (h aa s σ H D (I.wish _) hw) (fun _ _ q=>q.unwish) fun _ _ z=>False.elim z
end
section
variable {X:Cx} {st:Stmt} {rest:List Stmt} {t u:TS} {e:Expr} {te:TE} {pos:Pos}
def ZsA:TS:=fun D a H=>D.nx a H
def Zs3(t u:TS):TS:=fun D a H=>t { D with nx:=u D } a H
theorem ZH:PSs X [] ZsA:=fun _ _ a H _ I h=>wpAny_execs_nil ⟨a,H,I,h⟩
theorem Zf(h1:PS X st t)(h2:PSs X rest u):PSs X (st::rest) (Zs3 t u):=by
 intro a s b H D I h;refine wpAny_execs_cons (thn (h1 a s b H { D with nx:=u D } I h) fun f c q=>?_);cases f with
 | next=>obtain⟨d,e,g,q⟩:=q;exact h2 a c d e D g q
 | ret v=>exact q
 | brk=>exact q
 | cont=>exact q
theorem Zi(h1:PS X st t):PSs X [st] t:=by
 intro a s b H D I h;refine wpAny_execs_cons (thn (h1 a s b H D I h) fun f s1 q=>?_);cases f with
 | next=>exact wpAny_execs_nil q
 | ret v=>exact q
 | brk=>exact q
 | cont=>exact q
theorem Inv.quiet{a:List (Addr×Obj)}{b:St}{H:Hp}{s:Shared}(I:Inv X a b H s):interactive X.env=false:=by simp[interactive,I.ok.kind]
def Zst(te:TE):TS:=fun D a H=>te a H fun _ b=>D.nx a b
theorem YL(he:PE X e te)(b:swapsWith e none pos.line X.env=pure false:=by rfl):PS X (.Expr e pos) (Zst te):=by intro c s a H D I h;exact wpAny_Expr_any (thn (he c s a H _ I h) fun v s1 ⟨x,d,f,r1,g⟩=>⟨a,d,f,g⟩) I.quiet b
def ZsP(te:TE):TS:=fun D a H=>te a H D.rt
theorem Zp(he:PE X e te):PS X (.Return (some e) pos) (ZsP te):=by intro b s a H D I h;exact wpAny_Return_some (thn (he b s a H _ I h) fun v s1 ⟨x,c,d,f,g⟩=>⟨x,a,c,d,f,g⟩)
def ZsQ(c:TT)(t u:TS):TS:=fun D a H=>c a H fun b d=>if b=true then t D a d else u D a d
theorem ZW{c:Expr}{a b:List Stmt}{g:TT}(hc:PT X c g)(ha:PSs X a t)(hb:PSs X b u):PS X (.If c a b pos) (ZsQ g t u):=by
 intro e s f H D I h;refine wpAny_If (thn (hc e s f H _ I h) ?_);rintro d i ⟨j,k,l⟩;cases d with
 | true=>exact ha e i f j D k l
 | false=>exact hb e i f j D k l
end
abbrev TG:=V→St→Hp→(St→Hp→Prop)→Prop
abbrev TGs:=List V→St→Hp→(St→Hp→Prop)→Prop
def PG(X:Cx)(e:Expr)(t:TG):Prop :=
 ∀ (a:List (Addr×Obj)) (s:Shared) (b:St) (H:Hp) (v:V) (u:Value) (Q:St→Hp→Prop),Inv X a b H s→ZM v u→t v b H Q →
  #[9,X] (assign e X.env u) (fun _ f=>∃c d,Inv X a c d f∧Q c d) X.xe s
def PGs(X:Cx)(ts:List Expr)(t:TGs):Prop :=
 ∀ (a:List (Addr×Obj)) (s:Shared) (b:St) (H:Hp) (c:List V) (d:List Value) (Q:St→Hp→Prop),Inv X a b H s→ZL c d→t c b H Q →
  #[9,X] (assignInOrder ((assignEach ts X.env).map (·.2)) d) (fun _ g=>∃e f,Inv X a e f g∧Q e f) X.xe s
abbrev Tw:=V→V→V→Hp→(Hp→Prop)→Prop
def RS(X:Cx)(t:Tw):Prop :=
 ∀ (a:List (Addr×Obj)) (s:Shared) (b:St) (H:Hp) (o i v:V) (c d u:Value) (Q:Hp→Prop),Inv X a b H s→ZM o c→ZM i d→ZM v u→t o i v H Q →
  #[9,X] (setItem c d u) (fun _ f=>∃e,Inv X a b e f∧Q e) X.xe s
abbrev TIp:=V→V→Hp→VK→Prop
def PIp(X:Cx)(op:Operator)(t:TIp):Prop :=
 ∀ (a:List (Addr×Obj)) (s:Shared) (b:St) (H:Hp) (x y:V) (v u:Value) (Q:VK),Inv X a b H s→ZM x v→ZM y u→t x y H Q →
  #[9,X] (inplaceOp op v u) (EP X a b Q) X.xe s
section
variable {X:Cx} {pos:Pos}
def Tv(i:Nat):TG:=fun v a H Q=>Q (a.set i (some v)) H
theorem ZE{i:Nat}{x:Str}(a:X.N.Nodup)(b:X.N[i]? = some x)(hx:Loc X.env.scope x)(c:X.fn x=true∨X.env.scope.names.lookup x=some .local:=by first|exact .inl rfl|exact .inr rfl|assumption):PG X (.Name x pos) (Tv i):=by intro aa s σ H v u Q I r h;exact wpAny_assign_Name (UG I a b hx r (fun s' d=>⟨_,H,d,h⟩) c)
def ZsY:TGs:=fun vs a H Q=>vs=[]∧Q a H
inductive RGc (vs:List V) (B:V→List V→Prop):Prop where
 | mk (v:V) (r:List V) (e:vs=v::r) (q:B v r)
def Zsa(t:TG)(u:TGs):TGs:=fun vs a H Q=>RGc vs fun v r=>t v a H fun b H'=>u r b H' Q
theorem Yy:PGs X [] ZsY:=by intro aa s a H vs us Q I r h;obtain⟨e,h⟩:=h;subst e;cases r;exact assignInOrder_nil ⟨a,H,I,h⟩
theorem Zu{e:Expr}{a:List Expr}{t:TG}{u:TGs}(h1:PG X e t)(h2:PGs X a u)
  (c:(assignEach (e::a) X.env).map (·.2)=assign e X.env::(assignEach a X.env).map (·.2):=by rfl):PGs X (e::a) (Zsa t u):=by
 intro b s d H vs us Q I r h;obtain⟨v,vr,f,h⟩:=h;subst f;cases r with
 | cons r g=>rw[c];refine assignInOrder_cons (thn (h1 b s d H _ _ _ I r h) ?_);rintro _ i ⟨j,k,l,m⟩;exact h2 b i j k _ _ Q l g m
inductive RGt (K:#[7]) (H:Hp) (n:Nat) (v:V) (B:List V→Prop):Prop where
 | mk (a:Addr) (xs:List V) (e:v=.ref a) (s:SqT K H a xs) (l:xs.length=n) (q:B xs)
def NW(K:#[7])(n:Nat)(t:TGs):TG:=fun v a H Q=>RGt K H n v fun xs=>t xs a H Q
theorem ZqT{c:List Expr}{k:Nat}{t:TGs}{n:Nat}(hc:X.calm=true)(h:PGs X c t)
  (i:(assignEach c X.env).length=n:=by rfl) (j:(assignEach c X.env).findIdx? (·.1)=none:=by rfl):PG X (.Tuple c k pos) (NW X.K n t):=by
 intro d s f H v u Q I r hw;obtain⟨a,l,m,p,q,hw⟩:=hw;subst m;cases r;obtain⟨its,g,w,hz⟩:=I.tuple p;refine assign_Tuple_tuple (I.ok.hd hc) w (by simp[i,← q,g.length]) j fun x y=>?_;have z:Inv X d f H { s with heap:=x }:=I.kept (t':=s.toks) fun b o e=>y b o (Qu (Qp e)) e;exact h d _ f H l _ Q z (by simpa using g) hw
def Zs8(to b:TE)(t:Tw):TG:=fun v a H Q=>to a H fun o c=>b a c fun i d=>t o i v d fun e=>Q a e
theorem YI{o i:Expr}{to e:TE}{t:Tw}(f:PE X o to)(g:PE X i e)(j:RS X t)
  (ha:∀v,assign (.Subscript o i pos) X.env v=(do
   let a ← holding [v] (eval o X.env);let b ← holding [v,a] (eval i X.env)
   standAt pos
   holding [v,a,b] (setItem a b v)
   release [v,a,b] []):=by intro _;rfl):PG X (.Subscript o i pos) (Zs8 to e t):=by
 intro d s c H v u Q I r h;rw[ha];refine wpAny_bind (wpAny_holding (thn (f d s c H _ I h) ?_));rintro a k ⟨x,l,m,n,p⟩;refine wpAny_bind (wpAny_holding (thn (g d k c l _ m p) ?_));rintro b q ⟨y,w,z,A,B⟩;refine wpAny_bind (wpAny_standAt (wpAny_bind (wpAny_holding (thn (j d q c w x y v a b u _ z n A r B) ?_))));rintro _ s3 ⟨C,D,E⟩;exact wpAny_release ⟨c,C,D,E⟩
def RR(b:TE)(g:TG):TS:=fun D a H=>b a H fun x c=>g x a c D.nx
theorem Z0{a e:Expr}{b:TE}{g:TG}(he:PE X e b)(f:PG X a g)(i:swapsWithSole [a] e pos.line X.env=pure false:=by rfl)(hw:swappedStores [a] e X.env=pure none:=by rfl)
  (j:(assignEach [a] X.env).map (·.2)=[assign a X.env]:=by rfl):PS X (.Assign [a] e pos) (RR b g):=by
 intro c s d H D I h;refine wpAny_Assign_stores (thn (he c s d H _ I h) ?_) i hw;rintro v k ⟨x,l,m,n,o⟩;rw[j];exact thn (f c k d l x v _ m n o) fun _ s2 q=>q
theorem ZD{i:Nat}{x:Str}{e:Expr}{a:TE}{b:Pos}(c:X.N.Nodup)(d:X.N[i]? = some x)(hx:Loc X.env.scope x)(he:PE X e a)(f:swapsWith e (some (.Name x b)) pos.line X.env=pure false:=by rfl)(g:X.fn x=true∨X.env.scope.names.lookup x=some .local:=by first|exact .inl rfl|exact .inr rfl|assumption) :
  PS X (.Assign [.Name x b] e pos) (RR a (Tv i)):=by
 intro j s k H D I h;refine wpAny_Assign_Name (thn (he j s k H _ I h) ?_) f;rintro v s1 ⟨y,l,m,n,o⟩;exact UG m c d hx n (fun s2 p=>⟨_,l,p,o⟩) g
def ZsH(i j:Nat)(b:TA):TS:=fun D a H=>b a H fun vs c=>∃v w,vs=[v,w]∧D.nx ((a.set i (some v)).set j (some w)) c
theorem Wg{i j:Nat}{x y:Str}{a b:Expr}{r:TA}{g k pt:Pos}{l k2 m}(hc:X.calm=true)(t:X.N.Nodup)(C:X.N[i]? = some x)(E:X.N[j]? = some y)(F:i≠j)
  (hx:X.env.scope.names.lookup x=some .local) (hy:X.env.scope.names.lookup y=some .local) (ha:PA X [a,b] r)
  (hw:swappedStores [.Tuple [.Name x g,.Name y k] l pt] (.Tuple [a,b] k2 m) X.env=pure (some [x,y]))
  (G:swapsWithSole [.Tuple [.Name x g,.Name y k] l pt] (.Tuple [a,b] k2 m) pos.line X.env=pure false:=by rfl) :
  PS X (.Assign [.Tuple [.Name x g,.Name y k] l pt] (.Tuple [a,b] k2 m) pos) (ZsH i j r):=by
 intro u s z H D I h;rw[exec_Assign_arm];refine wpAny_bind (wpAny_standAt ?_);rw[G];refine wpAny_bind (wpAny_pure ?_);rw[if_neg #[6]];refine wpAny_bind (Tuple_ (thn (ha _ u s z H _ I h) ?_));rintro J c ⟨vs,A,K,L,n⟩;obtain⟨v,w,M,n⟩:=n;subst M;obtain⟨d,f,rfl,N,O⟩:∃d f,J=[d,f]∧ZM v d∧ZM w f:=by
  cases L with
  | cons p q =>
   cases q with
   | cons P Q=>cases Q;exact⟨_,_,rfl,p,P⟩
 refine wpAny_newObj_type ?_ (by show 2≤sizeLine;decide);have R:Inv X u z A { c with heap:=c.heap.push { cls:=.type "tuple",data:=.seq [d,f].toArray } }:=K.kept (t':=c.toks) fun b o e=>Qc _ e;rw[hw];refine wpAny_bind (wpAny_pure ?_);show #[9,X] (do rule "assign.swapped-stores";let items ← unpackItems (.ref c.heap.objs.size) 2 none;assignInOrder [fun v=>bindName X.env y v,fun v=>bindName X.env x v] items.reverse;pure Flow.next) _ _ _;refine wpAny_bind (wpAny_rule (wpAny_bind (unpackItems_tuple (items:=#[d,f]) (I.ok.hd hc) (IsTup.new c.heap _) fun h' S=>?_)));have T:=R.kept (h':=h') (t':=c.toks) fun b o e=>S b o (Qu (Qp e)) e;show wpAny _ _ (assignInOrder [fun v=>bindName X.env y v,fun v=>bindName X.env x v] [f,d] >>= fun _=>pure Flow.next) _ _ _;refine wpAny_bind (assignInOrder_cons (wpAny_bindName (UG T t E (.inl hy) O (fun s2 U=>?_) (.inr hy))));refine assignInOrder_cons (wpAny_bindName (UG U t C (.inl hx) N (fun s3 B=>assignInOrder_nil (wpAny_pure ?_)) (.inr hx)));rw[List.set_comm _ _ (Ne.symm F)]at B;exact⟨_,A,B,n⟩
def Zs6(i:Nat)(b:TE)(c:TIp):TS:=fun D a H=>∃x,a[i]? = some (some x)∧b a H fun y d=>c x y d fun z e=>D.nx (a.set i (some z)) e
theorem Zq2{i:Nat}{x:Str}{e:Expr}{b:TE}{op:Operator}{d:TIp}{j:Pos}(n:X.N.Nodup)(f:X.N[i]? = some x)(hx:Loc X.env.scope x)(he:PE X e b)(o:PIp X op d)(p:X.fn x=true∨X.env.scope.names.lookup x=some .local:=by first|exact .inl rfl|exact .inr rfl|assumption) :
  PS X (.AugAssign (.Name x j) op e pos) (Zs6 i b d):=by
 intro a s g H D I h;obtain⟨v,q,h⟩:=h;obtain⟨m,t,A⟩:=I.loc;have B:Vis X.env.scope x:=by rcases hx with k|k;exact .inl k;exact .inr (.inl k)
 obtain⟨u,r,l⟩:=A i x v f q B;refine wpAny_AugAssign_Name ?_;have go:#[9,X] (eval e X.env) (fun w C=>#[9,X] (inplaceOp op u w) (fun r E=>#[9,X] (storeName X.env x r) (fun _=>SP X a D .next) X.xe E) X.xe C) X.xe s:=by refine thn (he a s g H _ I h) ?_;rintro w F ⟨y,G,J,K,L⟩;refine thn (o a F g G v y u w _ J r K L) ?_;rintro z s2 ⟨zv,M,N,O,P⟩;exact UG N n f hx O (fun s3 Q=>⟨_,M,Q,P⟩) p
 rcases l with⟨hk,R⟩|⟨hk,c,S,T⟩
 ·exact wpAny_loadName_local I.ok.kind hk t R go
 ·rcases hk with hk|hk
  ·exact wpAny_loadName_cell I.ok.kind hk S T go
  ·rcases hx with k|k
   ·have:X.env.scope.names.lookup x=some .free:=hk;rw[k]at this;cases this
   ·have:X.env.scope.names.lookup x=some .free:=hk;rw[k]at this;cases this
def ipI(f:Int→Int→Int):TIp:=fun x y H Q=>∃i j,x=.int i∧y=.int j∧Q (.int (f i j)) H
theorem Zrh:PIp X .Add (ipI fun i j=>i+j):=by intro aa s σ H x y v u Q I a b h;obtain⟨i,j,c,d,q⟩:=h;subst c;subst d;obtain⟨t,rfl⟩:=a;obtain⟨t',rfl⟩:=b;exact iadd_int ⟨.int _,H,I.tok _,⟨_,rfl⟩,q⟩
end
section
variable {X:Cx} {pos:Pos}
def Zrm(c:TT)(h:TS):TS:=fun D a H=>∃W:Nat→St→Hp→Prop,(∃m,W m a H)∧∀m a H,W m a H →
 c a H fun b d=>if b=true then ∃N:St→Hp→Prop,(∀e f,N e f→∃g,g<m∧W g e f)∧h { D with nx:=N,ct:=N,bk:=D.nx } a d else D.nx a d
theorem UF{c:Expr}{r:List Stmt}{t:TT}{u:TS}(hp:PassesOwn (model X.prog X.w) X.A X.env X.xe)(hc:PT X c t)(hb:PSs X r u):PS X (.While c r [] pos) (Zrm t u):=by
 intro k s C H D I h;obtain⟨W,⟨E,F⟩,a⟩:=h;refine wpAny_While (codeAny_whileLoop (fun n G=>∃w x,Inv X k w x G∧W n w x) ?_ E ⟨C,H,I,F⟩);rintro n J ⟨g,y,K,L⟩;refine wpAny_passesOwn hp (thn (hc k J g y _ K (a n g y L)) ?_);rintro b M ⟨z,A,i⟩;cases b with
 | true =>
  obtain⟨N,B,i⟩:=i;rw[if_pos rfl];refine wpAny_passesOwn hp (thn (hb k M g z _ A i) fun f s3 j=>?_);cases f with
  | next=>obtain⟨d,e,l,m⟩:=j;obtain⟨o,p,q⟩:=B d e m;exact⟨o,p,d,e,l,q⟩
  | cont=>obtain⟨d,e,l,m⟩:=j;obtain⟨o,p,q⟩:=B d e m;exact⟨o,p,d,e,l,q⟩
  | brk=>exact j
  | ret v=>exact j
 | false=>rw[if_neg Qq];exact wpAny_execs_nil ⟨g,z,A,i⟩
end
structure It where
 go:Nat→Hp→Prop
 yld:Nat→Hp→V→Hp→Prop
 stop:Nat→Hp→Prop
def XD(X:Cx)(a:List (Addr×Obj))(H:Hp)(b:Addr):Prop :=
 H b=none∧b≠X.env.locals∧b ∉ X.fs∧(b∈X.ex∨X.s₀.heap.objs.size≤b)∧(∀x c,X.env.cells.lookup x=some c→c≠b)∧∀p∈X.pn++a,p.1≠b
theorem Inv.fpOk{X:Cx}{a:List (Addr×Obj)}{d:St}{H H':Hp}{s:Shared}{b:Addr}(I:Inv X a d H s)(hb:s.heap.objs.size≤b)(f:H' b=none):XD X a H' b:=by
 refine⟨f,QV (QD I.lt hb),I.nofs hb,.inr (QB I.sz hb),fun x c e z=>?_,fun p g z=>?_⟩
 ·obtain⟨v,q⟩:=I.cell x c e;exact absurd (QD q.lt (by rw[z];exact hb)) (QW _)
 ·exact absurd (QD (Qp (I.pin p g).1) (by rw[z];exact hb)) (QW _)
structure Wf (P:Program) (w:World) (K:#[7]) (tg:Expr) (J:It) (fp:List Addr) (it:Addr) (tn:Nat→Heap→Prop):Prop where
 mem:it∈fp
 obj:∀i h,tn i h→∀b∈fp,∃o,h.get? b=some o∧∀v,o.data≠.cell v
 keep:∀i h h',tn i h→(∀b∈fp,∀o,h.get? b=some o→h'.get? b=some o)→tn i h'
 item:∀ (X:Cx),X.prog=P→X.w=w→X.K=K→X.calm=true→∀ (i:Nat) (aa:List (Addr×Obj)) (s:Shared) (σ:St) (H:Hp) (E:Value→Shared→Prop),Inv X aa σ H s→(∀b∈fp,XD X aa H b)→tn i s.heap→J.go i H →
  wpAny (model P w) X.A (pyNext (.ref it)) (fun r s1=>∃u,r=some u ∧
   wpAny (model P w) X.A (letOwnedTupleGo tg (.ref it) u) (fun _ s2=>∃x H',Inv X aa σ H' s2∧ZM x u∧J.yld i H x H'∧tn (i+1) s2.heap∧∀b∈fp,H' b=none) E s1) E s
 done:∀ (X:Cx),X.prog=P→X.w=w→X.K=K→X.calm=true→∀ (i:Nat) (aa:List (Addr×Obj)) (s:Shared) (σ:St) (H:Hp) (E:Value→Shared→Prop),Inv X aa σ H s→(∀b∈fp,XD X aa H b)→tn i s.heap→J.stop i H →
  wpAny (model P w) X.A (pyNext (.ref it)) (fun r s1=>r=none∧Inv X aa σ H s1) E s
 self:∀ (A:Around) (i:Nat) (s:Shared) (Q:Value→Shared→Prop) (E:Value→Shared→Prop),tn i s.heap→Q (.ref it) s→wpAny (model P w) A (pyIter (.ref it)) Q E s
abbrev TI:=St→Hp→(It→Hp→Prop)→Prop
def PIE(X:Cx)(c:List (Addr×Obj))(g:St)(h:Expr)(R:It→Hp→Prop)(i:Value)(d:Shared):Prop :=
 ∃ (e:Addr) (fp:List Addr) (f:Nat→Heap→Prop) (J:It) (a:Hp),i=.ref e∧Inv X c g a d∧Wf X.prog X.w X.K h J fp e f∧f 0 d.heap∧(∀b∈fp,XD X c a b)∧R J a
def PI(X:Cx)(c iter:Expr)(d:TI):Prop :=
 ∀ (b:List (Addr×Obj)) (s:Shared) (a:St) (H:Hp) (R:It→Hp→Prop),Inv X b a H s→d a H R →
  #[9,X] (eval iter X.env) (fun v e=>#[9,X] (pyIter v) (PIE X b a c R) X.xe e) X.xe s
theorem Tu{M:Model}{A:Around}{E:Value→Shared→Prop}{s:Shared}{b:Expr}{it:Addr}{u:Value}{o:Obj}{n:String}{vs:Array Value}{Q:Unit→Shared→Prop}(c:s.heap.get? it=some o)(hc:o.cls=.type n)(hd:o.data=.fields vs)
  (d:["enumerate", "zip", "dict_itemiterator", "dict_reverseitemiterator", "odict_iterator", "itertools.zip_longest", "itertools.pairwise"].contains n=false) (a:Q () s):wpAny M A (letOwnedTupleGo b (.ref it) u) Q E s:=by
 unfold letOwnedTupleGo;cases b<;>first
  | exact wpAny_pure a
  | (cases u<;>first
    | exact wpAny_pure a
    | (refine wpAny_bind (wpAny_load c ?_);rw[hc,hd];show wpAny M A (if (["enumerate", "zip", "dict_itemiterator", "dict_reverseitemiterator", "odict_iterator", "itertools.zip_longest", "itertools.pairwise"].contains n&&vs[0]? == some (rawInt _))=true then _ else _) Q E s;rw[if_neg (by intro h;rw[d,Bool.false_and]at h;cases h)];exact wpAny_pure a))
noncomputable def Itl(K:#[7])(a:Addr):It :=
 ⟨fun i H=>∃b x,SqL K H a b∧b[i]? = some x,fun i H x c=>c=H∧∀b,SqL K H a b→b[i]? = some x,fun i H=>∃b,SqL K H a b∧b.length≤i⟩
noncomputable def Itr(lo:Int)(n:Nat):It:=⟨fun i _=>i<n,fun i H x H'=>H'=H∧x=.int (lo+i),fun i _=>n≤i⟩
theorem Zme{P:Program}{w:World}{K:#[7]}{M:Expr}(a it:Addr):Wf P w K M (Itl K a) [it] it (fun i h=>h.IsListIter it a i) where
 mem:=by simp
 obj:=fun i h st b f=>by
  have e:b=it:=by simpa using f
  subst e;obtain⟨o,e,c,d⟩:=st;exact⟨o,e,fun v z=>by rw[d]at z;cases z⟩
 keep:=fun i h g st k=>st.at fun o e=>k it #[4] o e
 item:=by intro X m hw n F i G s J H E I j st q;subst m hw n;obtain⟨N,x,l,r⟩:=q;obtain⟨its,t,p,O⟩:=I.list l;obtain⟨u,Q,R⟩:=t.get r;obtain⟨y,A,S,B,C,D⟩:=j it #[4];refine wpAny_pyNext_list_item st p.isList (x:=u) (by simpa using Q) fun g L T=>?_;have U:Inv X G J H { s with heap:=g }:=I.turned (t':=s.toks) (fun b o f e=>(T.2 b f).trans e) y A B C D;obtain⟨o,e,c,d⟩:=id L;exact⟨u,rfl,Tu (s:={ s with heap:=g }) e c d #[6] ⟨x,H,U,R,⟨rfl,fun ys V=>by rw[I.list_inj V l];exact r⟩,L,fun b f=>(j b f).1⟩⟩
 done:=by intro X m hw n F i G s J H E I j st q;subst m hw n;obtain⟨N,l,r⟩:=q;obtain⟨its,t,p,O⟩:=I.list l;obtain⟨y,A,S,B,C,D⟩:=j it #[4];have hl:=t.length;exact wpAny_pyNext_list_end (I.ok.hd F) st p.isList (by simp;lia) fun g W=>⟨rfl,I.turned (t':=s.toks) (fun b o f e=>W b o f e) y A B C D⟩
 self:=fun _ _ _ _ _ st h=>wpAny_pyIter_listiter st h
theorem ZkB{P:Program}{w:World}{K:#[7]}{C:Expr}(it:Addr)(lo:Int)(n:Nat):Wf P w K C (Itr lo n) [it] it (fun i h=>IsRangeIter h it (lo+(i:Nat)*1) ((n:Int)-(i:Nat)) 1) where
 mem:=by simp
 obj:=fun i h st b a=>by
  have e:b=it:=by simpa using a
  subst e;exact⟨_,st,fun v z=>by have D:Data.fields _=Data.cell v:=z;cases D⟩
 keep:=fun i h c st k=>k it #[4] _ st
 item:=by intro X f hw g j i x s y H E I d st l;subst f hw g;obtain⟨m,p,F,q,r,u⟩:=d it #[4];have W:=Walks.range (prog:=X.prog) (w:=X.w) (I.ok.hd j) it lo 1 n;refine W.item i s _ _ l st fun v c A G B kk=>?_;obtain⟨t,rfl⟩:=G;have J:Inv X x y H { s with heap:=c,toks:=A }:=I.turned (fun b o a e=>kk b o (by simpa using a) e) m p q r u;refine⟨_,rfl,Tu (s:={ s with heap:=c,toks:=A }) (n := "range_iterator") B rfl rfl #[6] ⟨.int (lo+i),H,J,⟨t,?_⟩,⟨rfl,rfl⟩,B,fun b a=>(d b a).1⟩⟩;rw[Int.mul_one]
 done:=by intro X f hw g j i x s y H E I d st l;subst f hw g;obtain⟨m,p,F,q,r,u⟩:=d it #[4];exact wpAny_pyNext_range_end (I.ok.hd j) st (by have:n≤i:=l;lia) fun c L=>⟨rfl,I.turned (t':=s.toks) (fun b o a e=>L b o a e) m p q r u⟩
 self:=fun _ _ _ _ _ st h=>wpAny_pyIter_rangeiter st h
section
variable {X:Cx} {tg:Expr}
def NV(K:#[7])(c:TE):TI:=fun d H R=>c d H fun x b=>∃a,x=.ref a∧(∃xs,SqL K b a xs)∧R (Itl K a) b
theorem ZpK{l:Expr}{f:TE}(hl:PE X l f):PI X tg l (NV X.K f):=by
 intro g s i H R I h;refine thn (hl g s i H _ I h) ?_;rintro v c ⟨x,j,d,k,m⟩;obtain⟨a,e,⟨xs,n⟩,q⟩:=m;subst e;cases k;obtain⟨its,rv,p,hz⟩:=d.list n;refine wpAny_pyIter_list p.isList ?_;refine⟨c.heap.objs.size,[c.heap.objs.size],_,_,j,rfl,d.kept (t':=c.toks) fun b o e=>Qc _ e,Zme a _,⟨_,Qs _ rfl,rfl,rfl⟩,fun b r=>?_,q⟩;have e:b=c.heap.objs.size:=by simpa using r
 subst e;exact d.fpOk (Qh _) (d.hok.fresh (Qh _))
theorem NU{c:List (Addr×Obj)}{d:St}{H:Hp}{s:Shared}{R:It→Hp→Prop}{E:Value→Shared→Prop}{lo a:Int}{t u v:Tok}{tk:Nat}(I:Inv X c d H s)(h1:-(2 ^ 62)≤lo)(h2:lo<2 ^ 62)(g:-(2 ^ 62)≤a)(h4:a<2 ^ 62)
  (q:R (Itr lo (a-lo).toNat) H):#[9,X] (pyIter (.ref s.heap.objs.size)) (PIE X c d tg R) E { s with heap:=s.heap.push { cls:=.type "range",data:=.fields #[.int lo t,.int a u,.int 1 v] },toks:=tk }:=by
 refine wpAny_pyIter_range (IsRange.new ..) (small_one h1 h2 g h4) ?_;have f:Inv X c d H { s with heap:=s.heap.push { cls:=.type "range",data:=.fields #[.int lo t,.int a u,.int 1 v] },toks:=tk }:=I.kept fun b o e=>Qc _ e;refine⟨(s.heap.push { cls:=.type "range",data:=.fields #[.int lo t,.int a u,.int 1 v] }).objs.size,[(s.heap.push { cls:=.type "range",data:=.fields #[.int lo t,.int a u,.int 1 v] }).objs.size],_,_,H,rfl,
  f.kept (t':=tk) fun b o e=>Qc _ e,ZkB _ lo (a-lo).toNat,?_,fun b h=>?_,q⟩
 ·have i:lo+((0:Nat):Int)*1=lo:=by simp
  have j:(((a-lo).toNat:Nat):Int)-((0:Nat):Int)=Builtin.Range.rangeSize lo a 1:=by rw[rangeSize_one];split<;>lia
  show IsRangeIter _ _ (lo+((0:Nat):Int)*1) ((((a-lo).toNat:Nat):Int)-((0:Nat):Int)) 1;rw[i,j];exact Qs _ rfl
 ·have e:b=(s.heap.push { cls:=.type "range",data:=.fields #[.int lo t,.int a u,.int 1 v] }).objs.size:=by simpa using h
  subst e;exact f.fpOk (Qh _) (f.hok.fresh (Qh _))
def Zr2(a:TA):TI:=fun b H R=>a b H fun vs c=>∃j:Int,vs=[.int j] ∧ -(2 ^ 62)≤j∧j<2 ^ 62∧R (Itr 0 j.toNat) c
def Zsg(a:TA):TI:=fun b H R=>a b H fun vs c=>∃i j:Int,vs=[.int i,.int j]∧(-(2 ^ 62)≤i∧i<2 ^ 62 ∧ -(2 ^ 62)≤j∧j<2 ^ 62)∧R (Itr i (j-i).toNat) c
theorem Xe{a:Expr}{c:TA}{p pos:Pos}(d:Gl X "range")(hm:X.mg "range" = none)(ha:PA X [a] c)(f:starEach [a] X.env=[(false,eval a X.env)]:=by rfl):PI X tg (.Call (.Name "range" p) [a] [] pos) (Zr2 c):=by
 intro g s i H R I h;refine Call_ (Wi I d hm boot_range (QY (thn (ha pos g s i H _ I h) ?_) f rfl));rintro us s1 ⟨vs,H1,k,l,b⟩;obtain⟨j,e,b,m,q⟩:=b;subst e;cases l with
 | cons r n=>cases n;obtain⟨t,rfl⟩:=r;exact call_range_1 (NU k #[2] #[2] b m (by simpa using q))
theorem ZmN{a b:Expr}{f:TA}{p pos:Pos}(k:Gl X "range")(hm:X.mg "range" = none)(ha:PA X [a,b] f)(l:starEach [a,b] X.env=[(false,eval a X.env),(false,eval b X.env)]:=by rfl)(g:starEach [b] X.env=[(false,eval b X.env)]:=by rfl) :
  PI X tg (.Call (.Name "range" p) [a,b] [] pos) (Zsg f):=by
 intro m s n H R I h;refine Call_ (Wi I k hm boot_range (QY (thn (ha pos m s n H _ I h) ?_) (by rw[l,g]) (by rw[g];rfl)));rintro us s1 ⟨vs,H1,o,u,c⟩;obtain⟨i,j,e,⟨c,v,w,x⟩,q⟩:=c;subst e;cases u with
 | cons r d =>
  cases d with
  | cons y d=>cases d;obtain⟨t,rfl⟩:=r;obtain⟨t',rfl⟩:=y;exact call_range_2 (NU o c v w x q)
def ZsL(e:TI)(g:TG)(f:TS):TS:=fun D a H=>e a H fun J h=>∃W:Nat→Nat→St→Hp→Prop,(∃m,W 0 m a h)∧∀i m a H,W i m a H →
 (J.stop i H∧D.nx a H)∨(J.go i H∧∃N:St→Hp→Prop,(∀c b,N c b→∃d,d<m∧W (i+1) d c b)∧∀x b,J.yld i H x b→g x a b fun j k=>f { D with nx:=N,ct:=N,bk:=D.nx } j k)
noncomputable def Vl(fp:List Addr)(h:Heap):List (Addr×Obj):=fp.filterMap fun b=>(h.get? b).map fun o=>(b,o)
theorem Vk{fp:List Addr}{h:Heap}{b:Addr}{o:Obj}(hb:b∈fp)(e:h.get? b=some o):(b,o)∈Vl fp h:=List.mem_filterMap.mpr ⟨b,hb,by rw[e];rfl⟩
theorem Zmv{fp:List Addr}{h:Heap}{p:Addr×Obj}(hp:p∈Vl fp h):p.1∈fp∧h.get? p.1=some p.2:=by
 obtain⟨b,a,e⟩:=List.mem_filterMap.mp hp;cases q:h.get? b with
 | none=>rw[q]at e;cases e
 | some o=>rw[q]at e;have c:(b,o)=p:=Qr e;subst c;exact⟨a,q⟩
theorem Inv.pinned{a:List (Addr×Obj)}{c:St}{H:Hp}{s:Shared}{fp:List Addr}(I:Inv X a c H s)(h:∀b∈fp,XD X a H b)(i:∀b∈fp,∃o,s.heap.get? b=some o∧∀v,o.data≠.cell v):Inv X (a++Vl fp s.heap) c H s :=
 I.pins_of fun p j=>(Qn.mp j).elim (fun z=>I.pin p (Qx _ z)) fun z=>by obtain⟨f,e⟩:=Zmv z;obtain⟨k,l,m,_⟩:=h p.1 f;obtain⟨o,g,d⟩:=i p.1 f;rw[e]at g;cases g;exact⟨e,k,l,m,d⟩
theorem Inv.unpinned{a pl:List (Addr×Obj)}{b:St}{H:Hp}{s:Shared}(I:Inv X (a++pl) b H s):Inv X a b H s:=I.pins_of fun p hp=>I.pin p (Qx _ (QM _ hp))
theorem X4{iter:Expr}{F:List Stmt}{G:TI}{g:TG}{K:TS}{pos:Pos}(hp:PassesOwn (model X.prog X.w) X.A X.env X.xe)(hc:X.calm=true)(Z:PI X tg iter G)(hg:PG X tg g)(hb:PSs X F K)
  (hs:∀x,foldedSetIterable iter X.env x=pure x:=by intro _;rfl):PS X (.For tg iter F [] pos) (ZsL G g K):=by
 intro p s L H D I h;refine wpAny_For (thn (Z p s L H _ I h) fun v s1 h1=>thn h1 fun pD s2 h2=>?_) hs;obtain⟨it,fp,M,J,H2,e,I2,T,j4,O,W,⟨m0,w0⟩,q⟩:=h2;subst e;have A:∀ {k:Hp},(∀b∈fp,k b=none)→∀b∈fp,XD X p k b:=fun hn b hb=>⟨hn b hb,(O b hb).2⟩;refine codeAny_forLoop_any (fun n P=>∃i t k,Inv X p t k P∧M i P.heap∧(∀b∈fp,k b=none)∧W i n t k) ?_ m0 ⟨0,L,H2,I2,j4,fun b hb=>(O b hb).1,w0⟩;rintro n Q ⟨i,w,z,R,S,U,w3⟩;rcases q i n w z w3 with⟨stop,qn⟩|⟨go,N,hN,step⟩
 ·refine wpAny_passesOwn hp (thn (T.done X rfl rfl rfl hc i p Q w z X.xe R (A U) S stop) ?_);rintro r s4 ⟨B,I4⟩;subst B;exact wpAny_execs_nil ⟨w,z,I4,qn⟩
 ·refine wpAny_passesOwn hp (thn (T.item X rfl rfl rfl hc i p Q w z X.xe R (A U) S go) ?_);rintro r s4 ⟨u,B,h4⟩;subst B;refine wpAny_passesOwn hp (thn h4 ?_);rintro _ V ⟨x,Y,I5,r5,y5,C,j5⟩;have AA:=I5.pinned (A j5) (T.obj _ _ C);refine wpAny_passesOwn hp (thn (hg _ V w Y x u _ AA r5 (step x Y y5)) ?_);rintro _ s6 ⟨AB,H6,I6,q6⟩;refine wpAny_passesOwn hp (thn (hb _ s6 AB H6 _ I6 q6) fun f E l=>?_);have again:∀ {a:St} {c:Hp},Inv X (p++Vl fp V.heap) a c E→N a c→∃m,m<n∧∃i t k,Inv X p t k E∧M i E.heap∧(∀b∈fp,k b=none)∧W i m t k:=fun {a c} j y=>by obtain⟨m',hm,w7⟩:=hN a c y;refine⟨m',hm,i+1,a,c,j.unpinned,T.keep _ _ _ C fun b hb o e=>(j.pin (b,o) (Qx _ (Qx _ (Vk hb e)))).1,fun b hb=>?_,w7⟩;obtain⟨o,e,d⟩:=T.obj _ _ C b hb;exact(j.pin (b,o) (Qx _ (Qx _ (Vk hb e)))).2.1
  cases f with
  | next=>obtain⟨a,c,j,y⟩:=l;exact again j y
  | cont=>obtain⟨a,c,j,y⟩:=l;exact again j y
  | brk=>obtain⟨a,c,j,l⟩:=l;exact⟨a,c,j.unpinned,l⟩
  | ret v=>obtain⟨x7,a,c,j,r7,l⟩:=l;exact⟨x7,a,c,j.unpinned,r7,l⟩
end
theorem UE{K:#[7]}{a:Addr}{xs:List V}{g:TG}{j:TS}{D:Xq}{b:St}{H:Hp}(Pv:Nat→St→Hp→Prop)(h0:Pv 0 b H)(hl:∀i b H,i≤xs.length→Pv i b H→SqL K H a xs)
  (n:∀i x b H,xs[i]? = some x→Pv i b H→g x b H fun d f=>j { D with nx:=Pv (i+1),ct:=Pv (i+1),bk:=D.nx } d f) (hd:∀b H,Pv xs.length b H→D.nx b H) :
  ∃W:Nat→Nat→St→Hp→Prop,(∃m,W 0 m b H)∧∀i m b H,W i m b H →
   ((Itl K a).stop i H∧D.nx b H)∨((Itl K a).go i H∧∃N:St→Hp→Prop,(∀h c,N h c→∃k,k<m∧W (i+1) k h c)∧∀x c,(Itl K a).yld i H x c→g x b c fun d f=>j { D with nx:=N,ct:=N,bk:=D.nx } d f):=by
 refine⟨fun i m b H=>m=xs.length-i∧i≤xs.length∧Pv i b H,⟨xs.length,by simp,Qw _,h0⟩,?_⟩;rintro i m b H ⟨rfl,o,p⟩;have q:=hl i b H o p;by_cases l:i<xs.length
 ·refine .inr ⟨⟨xs,xs[i],q,by simp[l]⟩,Pv (i+1),fun h c r=>⟨xs.length-(i+1),by lia,rfl,l,r⟩,fun x c y=>?_⟩;obtain⟨e,y⟩:=y;subst e;exact n i x b _ (y xs q) p
 ·have e:i=xs.length:=by lia
  subst e;exact .inl ⟨⟨xs,q,Qh _⟩,hd b H p⟩
theorem Vj{lo:Int}{n:Nat}{g:TG}{j:TS}{D:Xq}{a:St}{H:Hp}(Pv:Nat→St→Hp→Prop)(h0:Pv 0 a H)
  (l:∀i a H,i<n→Pv i a H→g (.int (lo+i)) a H fun c d=>j { D with nx:=Pv (i+1),ct:=Pv (i+1),bk:=D.nx } c d) (hd:∀a H,Pv n a H→D.nx a H) :
  ∃W:Nat→Nat→St→Hp→Prop,(∃m,W 0 m a H)∧∀i m a H,W i m a H →
   ((Itr lo n).stop i H∧D.nx a H)∨((Itr lo n).go i H∧∃N:St→Hp→Prop,(∀f b,N f b→∃k,k<m∧W (i+1) k f b)∧∀x b,(Itr lo n).yld i H x b→g x a b fun c d=>j { D with nx:=N,ct:=N,bk:=D.nx } c d):=by
 refine⟨fun i m a H=>m=n-i∧i≤n∧Pv i a H,⟨n,by simp,Qw _,h0⟩,?_⟩;rintro i m a H ⟨rfl,hi,p⟩;by_cases h:i<n
 ·refine .inr ⟨h,Pv (i+1),fun f b o=>⟨n-(i+1),by lia,rfl,h,o⟩,fun x b y=>?_⟩;obtain⟨e,y⟩:=y;subst e y;exact l i a _ h p
 ·have e:i=n:=by lia
  subst e;exact .inl ⟨Qh _,hd a H p⟩
abbrev R2:=V→V→Hp→VK→Prop
def OpR(X:Cx)(f:Value→Value→Sem Value)(r:R2):Prop :=
 ∀ (a:List (Addr×Obj)) (s:Shared) (b:St) (H:Hp) (x y:V) (v u:Value) (Q:VK),Inv X a b H s→ZM x v→ZM y u→r x y H Q →
  #[9,X] (f v u) (EP X a b Q) X.xe s
def UnR(X:Cx)(f:Value→Sem Value)(r:V→Hp→VK→Prop):Prop :=
 ∀ (a:List (Addr×Obj)) (s:Shared) (b:St) (H:Hp) (x:V) (v:Value) (Q:VK),Inv X a b H s→ZM x v→r x H Q →
  #[9,X] (f v) (EP X a b Q) X.xe s
def Y1(X:Cx)(f:Value)(r:List V→Hp→VK→Prop):Prop :=
 ∀ (a:List (Addr×Obj)) (s:Shared) (b:St) (H:Hp) (c:List V) (d:List Value) (Q:VK),Inv X a b H s→ZL c d→r c H Q →
  #[9,X] (call f d) (EP X a b Q) X.xe s
def tOp(r:R2)(b c:TE):TE:=fun a H Q=>b a H fun x d=>c a d fun y e=>r x y e Q
def tUn(r:V→Hp→VK→Prop)(a:TE):TE:=fun b H Q=>a b H fun x c=>r x c Q
inductive RI2 (x y:V) (B:Int→Int→Prop):Prop where
 | mk (i j:Int) (a:x=.int i) (b:y=.int j) (q:B i j)
inductive RI3 (x y:V) (C B:Int→Int→Prop):Prop where
 | mk (i j:Int) (a:x=.int i) (b:y=.int j) (c:C i j) (q:B i j)
def rI(C:Int→Int→Prop)(g:Int→Int→V):R2:=fun x y H Q=>RI3 x y C (fun i j=>Q (g i j) H)
def rI0(g:Int→Int→V):R2:=fun x y H Q=>RI2 x y (fun i j=>Q (g i j) H)
def rU(g:Int→V):V→Hp→VK→Prop:=fun x H Q=>EA (fun i=>x=.int i) (fun i=>Q (g i) H)
section
variable {X:Cx} {a b c:Expr} {ta tb tc:TE} {pos:Pos}
theorem RQ(ha:PE X a ta)(hb:PE X b tb){e:List (Addr×Obj)}{s:Shared}{c:St}{H:Hp}{R:V→V→Hp→Prop}(I:Inv X e c H s)
  (h:ta c H fun x i=>tb c i fun y d=>R x y d) {Q:Value→Shared→Prop} {f:Value→Value→Sem Value}
  (j:∀v u g x y d,Inv X e c d g→ZM x v→ZM y u→R x y d→#[9,X] (f v u) Q X.xe g) :
  #[9,X] (eval a X.env) (fun v k=>#[9,X] (eval b X.env) (fun u l=>#[9,X] (f v u) Q X.xe l) X.xe k) X.xe s:=by
 refine thn (ha e s c H _ I h) ?_;rintro v m ⟨x,i,n,o,p⟩;refine thn (hb e m c i _ n p) ?_;rintro u g ⟨y,d,q,r,t⟩;exact j v u g x y d q o r t
theorem ZJ{op:Operator}{r:R2}(c:OpR X (binaryOp op) r)(ha:PE X a ta)(hb:PE X b tb):PE X (.BinOp a op b pos) (tOp r ta tb):=by intro d s e H Q I h;exact wpAny_BinOp (RQ ha hb I h fun v u f x y g i j k q=>c d f e g x y v u Q i j k q)
theorem WJ{op:UnaryOp}{r:V→Hp→VK→Prop}(d:UnR X (unaryOp op) r)(ha:PE X a ta):PE X (.UnaryOp op a pos) (tUn r ta):=by intro b s c H Q I h;exact UnaryOp_ (thn (ha b s c H _ I h) fun v e ⟨x,f,g,i,j⟩=>d b e c f x v Q g i j)
theorem opI{f:Value→Value→Sem Value}{C:Int→Int→Prop}{g:Int→Int→Int}
  (rule:∀ (i j:Int) (t u:Tok) (s:Shared) (Q:Value→Shared→Prop) (E:Value→Shared→Prop),C i j→Q (.int (g i j) s.toks) { s with toks:=s.toks+1 }→#[9,X] (f (.int i t) (.int j u)) Q E s) :
  OpR X f (rI C fun i j=>.int (g i j)):=by
 intro aa s σ H x y v u Q I a b h;obtain⟨i,j,rfl,rfl,c,q⟩:=h;obtain⟨t,rfl⟩:=a;obtain⟨d,rfl⟩:=b;exact rule i j t d s _ _ c ⟨.int (g i j),H,I.tok _,⟨_,rfl⟩,q⟩
theorem NT{f:Value→Value→Sem Value}{g:Int→Int→Int}
  (rule:∀ (i j:Int) (t u:Tok) (s:Shared) (Q:Value→Shared→Prop) (E:Value→Shared→Prop),Q (.int (g i j) s.toks) { s with toks:=s.toks+1 }→#[9,X] (f (.int i t) (.int j u)) Q E s) :
  OpR X f (rI0 fun i j=>.int (g i j)):=by
 intro aa s σ H x y v u Q I a b h;obtain⟨i,j,rfl,rfl,q⟩:=h;obtain⟨t,rfl⟩:=a;obtain⟨c,rfl⟩:=b;exact rule i j t c s _ _ ⟨.int (g i j),H,I.tok _,⟨_,rfl⟩,q⟩
theorem RP{f:Value→Value→Sem Value}{g:Int→Int→Bool}
  (rule:∀ (i j:Int) (t u:Tok) (s:Shared) (Q:Value→Shared→Prop) (E:Value→Shared→Prop),Q (.bool (g i j)) s→#[9,X] (f (.int i t) (.int j u)) Q E s) :
  OpR X f (rI0 fun i j=>.bl (g i j)):=by
 intro aa s σ H x y v u Q I a b h;obtain⟨i,j,rfl,rfl,q⟩:=h;obtain⟨t,rfl⟩:=a;obtain⟨c,rfl⟩:=b;exact rule i j t c s _ _ ⟨.bl (g i j),H,I,rfl,q⟩
def ZsS(i j:Int):Prop:=0<j∧j<1073741824
def NS(i j:Int):Prop:=0≤j∧j≤1000000∧i.natAbs<2 ^ 64
def RO(i j:Int):Prop:=(-(2 ^ 64)<i∧i<2 ^ 64)∨(-(2 ^ 64)<j∧j<2 ^ 64)
theorem RO.ok{i j:Int}(h:RO i j):IntMulOk i j:=by
 rcases h with⟨a,b⟩|⟨a,b⟩
 ·exact .of_left (intBits_le_64 a b)
 ·exact .of_right (intBits_le_64 a b)
theorem YO:OpR X (binaryOp .Add) (rI0 fun i j=>.int (i+j)):=NT fun _ _ _ _ _ _ _ q=>add_int q
theorem VZ:OpR X (binaryOp .Sub) (rI0 fun i j=>.int (i-j)):=NT fun _ _ _ _ _ _ _ q=>sub_int q
theorem VY:OpR X (binaryOp .Mult) (rI RO fun i j=>.int (i*j)):=opI fun _ _ _ _ _ _ _ hc q=>mul_int q hc.ok
theorem Tt:OpR X (binaryOp .FloorDiv) (rI ZsS fun i j=>.int (i / j)):=opI fun i j _ _ _ _ _ hc q=>by have h1:(0:Int)<j:=hc.1;have h2:j<1073741824:=hc.2;exact floordiv_int #[2] (by rw[Int.fdiv_eq_ediv_of_nonneg i #[2]];exact q) (.inl (PyProof.noPylong_small #[2]))
theorem Vi:OpR X (binaryOp .Mod) (rI (fun _ j=>0<j) fun i j=>.int (i % j)):=opI fun i j _ _ _ _ _ hc q=>by have h1:(0:Int)<j:=hc;exact mod_int' #[2] (by rw[Int.fmod_eq_emod_of_nonneg i #[2]];exact q)
theorem NR:OpR X (binaryOp .Pow) (rI NS fun i j=>.int (i ^ j.toNat)):=opI fun _ _ _ _ _ _ _ hc q=>pow_int_small hc.1 hc.2.1 hc.2.2 q
theorem unI{f:Value→Sem Value}{g:Int→Int}
  (rule:∀ (i:Int) (t:Tok) (s:Shared) (Q:Value→Shared→Prop) (E:Value→Shared→Prop),Q (.int (g i) s.toks) { s with toks:=s.toks+1 }→#[9,X] (f (.int i t)) Q E s) :
  UnR X f (rU fun i=>.int (g i)):=by
 intro aa s σ H x v Q I a h;obtain⟨i,rfl,q⟩:=h;obtain⟨t,rfl⟩:=a;exact rule i t s _ _ ⟨.int (g i),H,I.tok _,⟨_,rfl⟩,q⟩
theorem VX:UnR X (unaryOp .USub) (rU fun i=>.int (-i)):=unI fun _ _ _ _ _ q=>neg_int q
end
noncomputable def NQ:V→V→Bool
 | .non,.non=>true|.non,.int _=>true|.int _,.non=>true|.non,.bl _=>true|.bl _,.non=>true|.non,.str _=>true|.str _,.non=>true
 | .int _,.int _=>true|.bl _,.bl _=>true|.str _,.str _=>true|.byt _,.byt _=>true
 | .int _,.str _=>true|.str _,.int _=>true|.bl _,.str _=>true|.str _,.bl _=>true
 | _,_=>false
def rEq:R2:=fun x y H Q=>NQ x y=true∧Q (.bl (decide (x=y))) H
def rNe:R2:=fun x y H Q=>NQ x y=true∧Q (.bl (!decide (x=y))) H
theorem NP{i j:Int}:decide (V.int i=V.int j)=(i == j):=by rw[QaS];simp
theorem NO{i j:Bool}:decide (V.bl i=V.bl j)=(i == j):=by rw[QaS];simp
theorem NN{i j:Str}:decide (V.str i=V.str j)=(i == j):=by rw[QaS];simp
theorem NM{i j:Array UInt8}:decide (V.byt i=V.byt j)=(i.toList == j.toList):=by rw[QaS];cases i;cases j;simp
section
variable {X:Cx} {a b c:Expr} {ta tb tc:TE} {pos:Pos}
theorem ZY{a:List (Addr×Obj)}{b:St}{H:Hp}{s:Shared}{Q:VK}{k k':Bool}(I:Inv X a b H s)(q:Q (.bl k) H)(e:k=k'):EP X a b Q (.bool k') s:=by subst e;exact⟨.bl k,H,I,rfl,q⟩
theorem YH:OpR X (compareOp .Eq) rEq:=by
 intro aa s σ H x y v u Q I d a h;obtain⟨c,q⟩:=h;cases x with
 | non =>
  cases d;cases y with
  | non=>cases a;exact PySem.EqNone.eq_none_none (ZY I q #[4])
  | bl j=>cases a;exact PySem.EqNone.eq_none_bool (ZY I q #[4])
  | int j=>obtain⟨b,rfl⟩:=a;exact PySem.EqNone.eq_none_int (ZY I q #[4])
  | str j=>obtain⟨b,rfl⟩:=a;exact PySem.EqNone.eq_none_str (ZY I q #[4])
  | _=>exact absurd (show false=true from c) Qq
 | bl i =>
  cases d;cases y with
  | non=>cases a;exact PySem.EqNone.eq_bool_none (ZY I q #[4])
  | bl j=>cases a;exact eq_bool (ZY I q NO)
  | str j=>obtain⟨b,rfl⟩:=a;exact PySem.EqMixed.eq_bool_str (ZY I q #[4])
  | _=>exact absurd (show false=true from c) Qq
 | int i =>
  obtain⟨t,rfl⟩:=d;cases y with
  | non=>cases a;exact PySem.EqNone.eq_int_none (ZY I q #[4])
  | int j=>obtain⟨b,rfl⟩:=a;exact eq_int (ZY I q NP)
  | str j=>obtain⟨b,rfl⟩:=a;exact PySem.EqMixed.eq_int_str (ZY I q #[4])
  | _=>exact absurd (show false=true from c) Qq
 | str i =>
  obtain⟨t,rfl⟩:=d;cases y with
  | non=>cases a;exact PySem.EqNone.eq_str_none (ZY I q #[4])
  | bl j=>cases a;exact PySem.EqMixed.eq_str_bool (ZY I q #[4])
  | int j=>obtain⟨b,rfl⟩:=a;exact PySem.EqMixed.eq_str_int (ZY I q #[4])
  | str j=>obtain⟨b,rfl⟩:=a;exact eq_str (ZY I q NN)
  | _=>exact absurd (show false=true from c) Qq
 | byt i =>
  obtain⟨t,rfl⟩:=d;cases y with
  | byt j=>obtain⟨b,rfl⟩:=a;exact PySem.W.eq_bytes (ZY I q NM)
  | _=>exact absurd (show false=true from c) Qq
 | _=>cases y<;>exact absurd (show false=true from c) Qq
theorem NL:OpR X (compareOp .NotEq) rNe:=by
 intro aa s σ H x y v u Q I d a h;obtain⟨c,q⟩:=h;cases x with
 | non =>
  cases d;cases y with
  | non=>cases a;exact PySem.EqNone.ne_none_none (ZY I q #[4])
  | bl j=>cases a;exact PySem.EqNone.ne_none_bool (ZY I q #[4])
  | int j=>obtain⟨b,rfl⟩:=a;exact PySem.EqNone.ne_none_int (ZY I q #[4])
  | str j=>obtain⟨b,rfl⟩:=a;exact PySem.EqNone.ne_none_str (ZY I q #[4])
  | _=>exact absurd (show false=true from c) Qq
 | bl i =>
  cases d;cases y with
  | non=>cases a;exact PySem.EqNone.ne_bool_none (ZY I q #[4])
  | bl j=>cases a;exact ne_bool (ZY I q (congrArg not NO))
  | str j=>obtain⟨b,rfl⟩:=a;exact PySem.EqMixed.ne_bool_str (ZY I q #[4])
  | _=>exact absurd (show false=true from c) Qq
 | int i =>
  obtain⟨t,rfl⟩:=d;cases y with
  | non=>cases a;exact PySem.EqNone.ne_int_none (ZY I q #[4])
  | int j=>obtain⟨b,rfl⟩:=a;exact ne_int (ZY I q (congrArg not NP))
  | str j=>obtain⟨b,rfl⟩:=a;exact PySem.EqMixed.ne_int_str (ZY I q #[4])
  | _=>exact absurd (show false=true from c) Qq
 | str i =>
  obtain⟨t,rfl⟩:=d;cases y with
  | non=>cases a;exact PySem.EqNone.ne_str_none (ZY I q #[4])
  | bl j=>cases a;exact PySem.EqMixed.ne_str_bool (ZY I q #[4])
  | int j=>obtain⟨b,rfl⟩:=a;exact PySem.EqMixed.ne_str_int (ZY I q #[4])
  | str j=>obtain⟨b,rfl⟩:=a;exact ne_str (ZY I q (congrArg not NN))
  | _=>exact absurd (show false=true from c) Qq
 | byt i =>
  obtain⟨t,rfl⟩:=d;cases y with
  | byt j=>obtain⟨b,rfl⟩:=a;exact PySem.W.ne_bytes (ZY I q (congrArg not NM))
  | _=>exact absurd (show false=true from c) Qq
 | _=>cases y<;>exact absurd (show false=true from c) Qq
theorem XS:OpR X (compareOp .Lt) (rI0 fun i j=>.bl (decide (i<j))):=RP fun _ _ _ _ _ _ _ q=>lt_int q
theorem We:OpR X (compareOp .Gt) (rI0 fun i j=>.bl (decide (j<i))):=RP fun _ _ _ _ _ _ _ q=>gt_int q
theorem NK:OpR X (compareOp .GtE) (rI0 fun i j=>.bl (decide (j≤i))):=RP fun _ _ _ _ _ _ _ q=>ge_int q
theorem Zms:OpR X (compareOp .Lt) (fun x y H Q=>∃i j,x=.str i∧y=.str j∧Q (.bl (decide (i.cps.toList<j.cps.toList))) H):=by intro aa s σ H x y v u Q I a b h;obtain⟨i,j,rfl,rfl,q⟩:=h;obtain⟨t,rfl⟩:=a;obtain⟨t',rfl⟩:=b;exact lt_str (ZY I q rfl)
theorem XR:OpR X (compareOp .Is) (fun x y H Q=>y=.non∧Q (.bl (decide (x=.non))) H):=by
 intro aa s σ H x y v u Q I a b h;obtain⟨rfl,q⟩:=h;cases b;refine is_none_gen (ZY I q ?_);cases x<;>first
  | (cases a;rfl)
  | (obtain⟨t,rfl⟩:=a;rfl)
theorem Vh:OpR X (compareOp .IsNot) (fun x y H Q=>y=.non∧Q (.bl (!decide (x=.non))) H):=by
 intro aa s σ H x y v u Q I a b h;obtain⟨rfl,q⟩:=h;cases b;refine isnot_none_gen (ZY I q ?_);cases x<;>first
  | (cases a;rfl)
  | (obtain⟨t,rfl⟩:=a;rfl)
theorem Zs(b:Expr){op:CmpOp}(h:op≠.In:=by decide)(h2:op≠.NotIn:=by decide):behindInMarks op b=false:=by
 have a:(op == CmpOp.In)=false:=by cases op<;>first|rfl|exact absurd rfl h
 have c:(op == CmpOp.NotIn)=false:=by cases op<;>first|rfl|exact absurd rfl h2
 cases b<;>simp[behindInMarks,a,c]
theorem XA{op:CmpOp}{r:R2}(c:OpR X (compareOp op) r)(ha:PE X a ta)(hb:PE X b tb)(hm:behindInMarks op b=false):PE X (.Compare a [op] [b] pos) (tOp r ta tb):=by intro d s e H Q I h;exact wpAny_Compare1 (RQ ha hb I h fun v u f x y g i j k q=>c d f e g x y v u Q i j k q) hm
def ZsD(t:TE):TT:=fun a H Q=>t a H fun x H'=>EA (fun k=>x=.bl k) (fun k=>Q k H')
theorem Zl{op:CmpOp}{r:R2}(g:OpR X (compareOp op) r)(ha:PE X a ta)(hb:PE X b tb)(hm:behindInMarks op b=false):PT X (.Compare a [op] [b] pos) (ZsD (tOp r ta tb)):=by
 intro d s f H Q I h;refine wpAny_isTrue_Compare1 (thn (ha d s f H _ I h) fun v i ⟨x,j,l,m,n⟩=>thn (hb d i f j _ l n) fun u o ⟨y,p,q,t,w⟩=>
  thn (g d o f p x y v u _ q m t w) fun c s3 ⟨z,A,B,C,k,e,D⟩=>?_) hm
 subst e;cases C;exact wpAny_truthy_bool ⟨A,B,D⟩
theorem Vg:(sizeLine:Nat)<2 ^ 63:=by rw[sizeLine_eq];decide
theorem RN:OpR X (binaryOp .Add) (fun x y H Q=>∃i j,x=.str i∧y=.str j∧i.length+j.length≤sizeLine∧Q (.str (i++j)) H):=by intro aa s σ H x y v u Q I a b h;obtain⟨i,j,rfl,rfl,c,q⟩:=h;obtain⟨t,rfl⟩:=a;obtain⟨d,rfl⟩:=b;exact add_str (fun d tk=>⟨.str (i++j),H,I.tok _,⟨_,rfl⟩,q⟩) c
theorem Yb{x:V}{us:List Value}(r:ZL [x] us):∃u,us=[u]∧ZM x u:=by
 cases r with
 | cons a b=>cases b;exact⟨_,rfl,a⟩
theorem Ts{x y:V}{us:List Value}(r:ZL [x,y] us):∃u a,us=[u,a]∧ZM x u∧ZM y a:=by
 cases r with
 | cons b c =>
  cases c with
  | cons d e=>cases e;exact⟨_,_,rfl,b,d⟩
theorem NJ:Y1 X (.builtin "abs") (fun xs H Q=>∃i,xs=[.int i]∧Q (.int (if i<0 then -i else i)) H):=by intro aa s σ H xs us Q I r h;obtain⟨i,rfl,q⟩:=h;obtain⟨u,rfl,t,rfl⟩:=Yb r;exact call_abs_int fun u tk=>⟨.int (if i<0 then -i else i),H,I.tok _,⟨_,rfl⟩,q⟩
theorem Zmx(hc:X.calm=true):Y1 X (.builtin "max") (fun xs H Q=>∃i j,xs=[.int i,.int j]∧Q (.int (if j>i then j else i)) H):=by
 intro aa s σ H xs us Q I r h;obtain⟨i,j,rfl,q⟩:=h;obtain⟨u,w',rfl,⟨t,rfl⟩,⟨t',rfl⟩⟩:=Ts r;refine max_two_ints (I.ok.hd hc) fun h' tk k=>⟨_,H,I.kept k,?_,q⟩;by_cases a:j>i
 ·rw[if_pos a,if_pos a];exact⟨_,rfl⟩
 ·rw[if_neg a,if_neg a];exact⟨_,rfl⟩
theorem ZmU(hc:X.calm=true):Y1 X (.builtin "min") (fun xs H Q=>∃i j,xs=[.int i,.int j]∧Q (.int (if j<i then j else i)) H):=by
 intro aa s σ H xs us Q I r h;obtain⟨i,j,rfl,q⟩:=h;obtain⟨u,w',rfl,⟨t,rfl⟩,⟨t',rfl⟩⟩:=Ts r;refine min_two_ints (I.ok.hd hc) fun h' tk k=>⟨_,H,I.kept k,?_,q⟩;by_cases a:j<i
 ·rw[if_pos a,if_pos a];exact⟨_,rfl⟩
 ·rw[if_neg a,if_neg a];exact⟨_,rfl⟩
theorem NI:Y1 X (.type "int") (fun xs H Q=>(∃i,xs=[.int i]∧Q (.int i) H)∨∃k,xs=[.bl k]∧Q (.int (if k then 1 else 0)) H):=by
 intro aa s σ H xs us Q I r h;rcases h with⟨i,rfl,q⟩|⟨k,rfl,q⟩
 ·obtain⟨u,rfl,t,rfl⟩:=Yb r;exact call_int_int ⟨.int i,H,I,⟨_,rfl⟩,q⟩
 ·obtain⟨u,rfl,a⟩:=Yb r;cases a;exact call_int_bool ⟨.int (if k then 1 else 0),H,I.tok _,⟨_,rfl⟩,q⟩
end
structure VW (h:Heap) (x dx C:Addr) (mA:Str→Option Value):Prop where
 obj:h.get? x=some (PySem.W.instObj C dx)
 ns:h.Ns1 dx mA
 ne:dx≠x
theorem ZmC{h:Heap}{dx:Addr}{b:Str→Option Value}(n:h.Ns1 dx b):∃c,h.get? dx=some c∧∀name,PySem.W.lookIn name c=some (b name):=by
 obtain⟨o,d,ep,f,g,i,_,j⟩:=n;refine⟨o,f,fun name=>?_⟩;have e:=j name;unfold nsFind findBy at e;rw[← Array.find?_toList]at e;unfold PySem.W.lookIn;rw[g];dsimp only;split
 ·rename_i y q;rw[q]at e;exact congrArg some e
 ·rename_i q;rw[q]at e;have a:d.toList.any (·.refKey)=false:=by rw[List.any_eq_false];intro y k;obtain⟨z,t,l⟩:=i y (Array.mem_toList_iff.mp k);simp[DictEntry.refKey,l]
  have m:¬ d.toList.any (·.refKey)=true:=by rw[a];exact Qq
  rw[if_neg m];exact congrArg some e
theorem VW.look{h:Heap}{x dx C:Addr}{b:Str→Option Value}(I:VW h x dx C b):∃a,PySem.W.InstAt h x (PySem.W.instObj C dx) C (some a)∧∀name,PySem.W.lookIn name a=some (b name) :=
 let ⟨a,c,d⟩:=ZmC I.ns
 ⟨a,⟨I.obj,rfl,rfl,c⟩,d⟩
section
variable {prog:Program} {w:World} {A:Around} {E:Value→Shared→Prop} {s:Shared} {K:#[7]} {x dx C f:Addr} {mA:Str→Option Value} {name:Str} {v:Value}
theorem Zpg{a:Bool}{Q:Value→Shared→Prop}(X:K.In s.heap)(I:VW s.heap x dx C mA)(b:PySem.W.plainGet K C name=true)(c:PySem.W.hasDictIn K C=true)
  (ha:PySem.W.findIn K (.ref C) name=some none) (hv:mA name=some v) (d:PySem.W.handedIn v=true) (h:Q v { s with toks:=s.toks+1 }) :
  wpAny (model prog w) A (getAttr (.ref x) name a) Q E s:=by
 obtain⟨od,J,e⟩:=I.look;exact PySem.W.get_value X J (PySem.W.plainGet_of b).1 (PySem.W.findObj_own c ha rfl (by rw[e,hv])) d h
theorem ZnY{pl:Sem Bool}{Q:Value×List Value→Shared→Prop}(X:K.In s.heap)(I:VW s.heap x dx C mA)(a:PySem.W.plainGet K C name=true)
  (b:PySem.W.findIn K (.ref C) name=some (some (.ref f))) (c:PySem.W.isFn K (.ref f)=true) (hv:mA name=none) (h:Q (.ref f,[.ref x]) s) :
  wpAny (model prog w) A (getMethod (.ref x) name pl) Q E s:=by
 obtain⟨d,J,e⟩:=I.look;exact PySem.W.method_fn X J (PySem.W.plainGet_of a).1 (PySem.W.plainGet_of a).2 b (beq_iff_eq.mp c) (by show (PySem.W.lookIn name d).map (·.isSome)=some false;rw[e,hv];rfl) h
theorem ZpN{ns:List Str}{Q:Unit→Shared→Prop}(X:K.In s.heap)(I:VW s.heap x dx C mA)
  (e:PySem.W.findIn K (.ref C) "__setattr__" = some (some (.builtin "object.__setattr__"))) (hp:PySem.W.plainOver K C=true) (f:PySem.W.takerIn K C name=some none) (g:PySem.W.hasDictIn K C=true)
  (hw:PySem.Within mA ns) (hsz:ns.length≤sizeLine)
  (h:∀h',VW h' x dx C (fun y=>if y=name then some v else mA y)→Heap.SameBut dx s.heap h'→Q () { s with heap:=h',toks:=s.toks+2 }) :
  wpAny (model prog w) A (setAttr (.ref x) name v) Q E s:=by
 obtain⟨od,J,hl⟩:=I.look;refine PySem.W.set_plain X J e (PySem.W.osa_open (s:={ s with toks:=s.toks+1 }) (r:=none) X J hp f fun b=>?_);obtain⟨cd,i,j⟩:=PySem.W.any_some g;have k:s.heap.get? x=some ⟨.ref C,some dx,.plain,#[]⟩:=I.obj;refine wpAny_bind (wpAny_pure (wpAny_bind (wpAny_bind (wpAny_loadPart k (wpAny_bind (PySem.W.Looks.here (s:={ s with toks:=s.toks+1 }) (PySem.W.looks_clsIn X i) ?_))))));rw[j];refine wpAny_pure (a:=some dx) (wpAny_bind (wpAny_pure (wpAny_bind ?_)));refine wpAny_nsSet1 (s:={ s with toks:=s.toks+1 }) I.ns fun h' c d=>?_;obtain⟨oD,esD,epD,l,m,n⟩:=c.count (PySem.Within.cons name v hw);refine wpAny_bind (wpAny_lookBehind l (by rw[m];exact pastItsLine_dict (QB n (by rw[QL];lia))) ?_);exact wpAny_pure (h _ ⟨(d.2 _ (Ne.symm I.ne)).trans I.obj,c,I.ne⟩ d)
theorem ZoF{R:Result→Shared→Prop}{vs:List Value}{kw:List (Str×Value)}(X:K.In s.heap)(hm:PySem.W.makesIn K C=true)
  (a:PySem.W.findIn K (.ref C) "__init__" = some (some (.ref f))) (b:PySem.W.typeIn K (.ref f)=some (.type "function"))
  (h:codeAny (model prog w) (A.under (.builtin "type.__call__" ⟨.ref C::vs,kw⟩)) (.call (.ref f) ⟨.ref (s.heap.objs.size+1)::vs,kw⟩) (PySem.W.InitBack (s.heap.objs.size+1) R)
   { s with heap:=(s.heap.push PySem.W.emptyDict).push (PySem.W.instObj C s.heap.objs.size) }) :
  codeAny (model prog w) A (.call (.ref C) ⟨vs,kw⟩) R s:=by
 obtain⟨hh,g,d,t,os⟩:=s;exact PySem.W.make_core (PySem.W.makes_of X hm) (PySem.W.looks_findIn X a) (fun self=>PySem.W.bind_fn X self b) #[8] h
end
noncomputable def ZA(f:Str)(v:V):List (Str×V)→List (Str×V)
 | []=>[(f,v)]
 | (g,x)::r=>if g=f then (g,v)::r else (g,x)::ZA f v r
theorem Zn(f g:Str)(v:V):∀fs:List (Str×V),(ZA f v fs).lookup g=if g=f then some v else fs.lookup g
 | []=>by
  show List.lookup g [(f,v)]=_;by_cases h:g=f
  ·have hb:(g == f)=true:=beq_iff_eq.mpr h;simp only[List.lookup,hb,if_pos h]
  ·have hb:(g == f)=false:=beq_eq_false_iff_ne.mpr h;simp only[List.lookup,hb,if_neg h]
 | (k,x)::r=>by
  have b:=Zn f g v r;rw[show ZA f v ((k,x)::r)=(if k=f then (k,v)::r else (k,x)::ZA f v r) from rfl];by_cases a:k=f
  ·rw[if_pos a];by_cases h:g=k
   ·have hb:(g == k)=true:=beq_iff_eq.mpr h;simp only[List.lookup,hb,if_pos (h.trans a)]
   ·have hb:(g == k)=false:=beq_eq_false_iff_ne.mpr h;simp only[List.lookup,hb,if_neg (fun e:g=f=>h (e.trans a.symm))]
  ·rw[if_neg a];by_cases h:g=k
   ·have hb:(g == k)=true:=beq_iff_eq.mpr h;simp only[List.lookup,hb,if_neg (fun e:g=f=>a (h.symm.trans e))]
   ·have hb:(g == k)=false:=beq_eq_false_iff_ne.mpr h;simp only[List.lookup,hb];exact b
theorem RM(f:Str)(v:V):∀fs:List (Str×V),f∈(ZA f v fs).map (·.1)∧∀g,g∈fs.map (·.1)→g∈(ZA f v fs).map (·.1)
 | []=>⟨by simp[ZA],fun g h=>by simp at h⟩
 | (k,x)::r=>by
  obtain⟨i1,i2⟩:=RM f v r;rw[show ZA f v ((k,x)::r)=(if k=f then (k,v)::r else (k,x)::ZA f v r) from rfl];by_cases a:k=f
  ·rw[if_pos a];subst a;exact⟨by simp,fun g h=>by simpa using h⟩
  ·rw[if_neg a];refine⟨?_,fun g h=>?_⟩
   ·rw[Qj];exact Qt _ i1
   ·rw[Qj]at h ⊢;rcases QF.mp h with e|e
    ·exact List.mem_cons.mpr (.inl e)
    ·exact Qt _ (i2 g e)
theorem NH(f:Str)(v:V):∀fs:List (Str×V),(ZA f v fs).length≤fs.length+1
 | []=>by simp[ZA]
 | (k,x)::r=>by
  have ih:=NH f v r;rw[show ZA f v ((k,x)::r)=(if k=f then (k,v)::r else (k,x)::ZA f v r) from rfl];by_cases a:k=f
  ·rw[if_pos a,QL,QL];lia
  ·rw[if_neg a,QL,QL];lia
theorem Yi.some_of{v:V}{o:Option Value}(r:Yi (some v) o):∃u,o=some u∧ZM v u:=by
 cases o with
 | none=>exact(show False from r).elim
 | some u=>exact⟨u,rfl,r⟩
theorem Yi.none_of{o:Option Value}(r:Yi none o):o=none:=by
 cases o with
 | none=>rfl
 | some u=>exact(show False from r).elim
theorem Zmq{v:V}{u:Value}(r:ZM v u):PySem.W.handedIn u=true:=by
 cases v with
 | non=>cases (show u=Value.none from r);rfl
 | bl b=>cases (show u=Value.bool b from r);rfl
 | int i=>obtain⟨t,e⟩:=(show ∃t,u=Value.int i t from r);cases e;rfl
 | str x=>obtain⟨t,e⟩:=(show ∃t,u=Value.str x t from r);cases e;rfl
 | byt b=>obtain⟨t,e⟩:=(show ∃t,u=Value.bytes b t from r);cases e;rfl
 | flt b=>obtain⟨t,e⟩:=(show ∃t,u=Value.float b t from r);cases e;rfl
 | ref a=>cases (show u=Value.ref a from r);rfl
 | ty n=>cases (show u=Value.type n from r);rfl
section
variable {P:Program} {w:World} {H H':Hp} {h h':Heap} {a C dx:Addr} {fs lM:List (Str×V)}
theorem UD(hok:HOk P w H h)(e:H a=some (.ins C dx fs)):∃b,VW h a dx C b∧(∀f,Yi (fs.lookup f) (b f))∧PySem.Within b (fs.map (·.1))∧fs.length≤1000∧H dx=some (.own a):=by obtain⟨d,z,ne,c,b,n,r,q⟩:=(show Z7 P w H h a (.ins C dx fs) from hok a _ e);exact⟨b,⟨c,n,ne⟩,r,q,z,d⟩
end
structure Cls (K:#[7]) (C:Addr):Prop where
 pg:PySem.W.plainGet K C Str.empty=true
 hd:PySem.W.hasDictIn K C=true
 po:PySem.W.plainOver K C=true
 sa:PySem.W.findIn K (.ref C) "__setattr__" = some (some (.builtin "object.__setattr__"))
theorem Cls.get{K:#[7]}{C:Addr}(c:Cls K C)(f:Str):PySem.W.plainGet K C f=true:=c.pg
def X3(K:#[7])(C:Addr)(f:Str):Prop:=PySem.W.findIn K (.ref C) f=some none
theorem X3.taker{K:#[7]}{C:Addr}{f:Str}(n:X3 K C f):PySem.W.takerIn K C f=some none:=by unfold PySem.W.takerIn;rw[show PySem.W.findIn K (.ref C) f=some none from n];rfl
structure Con (K:#[7]) (C:Addr) (f:Str) (v:V) (u:Value):Prop where
 at_:PySem.W.findIn K (.ref C) f=some (some u)
 rel:ZM v u
 get:PySem.W.specialIn K u "__get__" = some none
 cp:PySem.W.copiedNames.contains f=false
structure UC (K:#[7]) (C:Addr) (m:Str) (f:Addr):Prop where
 at_:PySem.W.findIn K (.ref C) m=some (some (.ref f))
 fn:PySem.W.isFn K (.ref f)=true
 kp:PySem.W.keepIn K (.ref f)=true
section
variable {X:Cx} {aa:List (Addr×Obj)} {σ:St} {H:Hp} {s:Shared} {a C dx:Addr} {fs:List (Str×V)} {f:Str} {v:V} {A:Around} {E:Value→Shared→Prop}
theorem NG{b:Bool}{Q:Value→Shared→Prop}(I:Inv X aa σ H s)(e:H a=some (.ins C dx fs))(c:Cls X.K C)(n:X3 X.K C f)(l:fs.lookup f=some v)
  (h:∀u s',Inv X aa σ H s'→ZM v u→Q u s'):wpAny (model X.prog X.w) A (getAttr (.ref a) f b) Q E s:=by
 obtain⟨g,O,r,_,_,_⟩:=UD I.hok e;obtain⟨u,i,d⟩:=Yi.some_of (v:=v) (o:=g f) (by rw[← l];exact r f);exact Zpg I.kIn O (c.get f) c.hd n i (Zmq d) (h u _ (I.tok _) d)
theorem NF{m:Str}{g:Addr}{pl:Sem Bool}{Q:Value×List Value→Shared→Prop}(I:Inv X aa σ H s)(e:H a=some (.ins C dx fs))(c:Cls X.K C)(k:UC X.K C m g)(l:fs.lookup m=none)
  (h:Q (.ref g,[.ref a]) s):wpAny (model X.prog X.w) A (getMethod (.ref a) m pl) Q E s:=by
 obtain⟨b,O,r,_,_,_⟩:=UD I.hok e;have d:b m=none:=Yi.none_of (by rw[← l];exact r m);exact ZnY I.kIn O (c.get m) k.at_ k.fn d h
theorem NE{y:V}{u:Value}{Q:Unit→Shared→Prop}(I:Inv X aa σ H s)(e:H a=some (.ins C dx fs))(c:Cls X.K C)(n:X3 X.K C f)(hl:fs.length<1000)(l:ZM y u)
  (h:∀s',Inv X aa σ (upd H a (.ins C dx (ZA f y fs))) s'→Q () s'):wpAny (model X.prog X.w) A (setAttr (.ref a) f u) Q E s:=by
 obtain⟨i,O,r,j,_,k⟩:=UD I.hok e;have m:(fs.map (·.1)).length≤sizeLine:=by rw[Qa,sizeLine_eq];lia
 refine ZpN I.kIn O c.sa c.po n.taker c.hd j m fun p d t=>h _ ?_;have v:∃o,p.get? dx=some o:=let ⟨o,_,_,w,_⟩:=d.ns;⟨o,w⟩;refine I.write (x:=a) (e:=dx) (by rw[e];exact True.intro) (.inr k) (fun b q B z=>(t.2 b B).trans z) v ?_;refine⟨by rw[Zc O.ne];exact k,?_,O.ne,d.obj,_,d.ns,fun g=>?_,fun g D=>?_⟩
 ·have:=NH f y fs;lia
 ·show Yi ((ZA f y fs).lookup g) (if g=f then some u else i g);rw[Zn];by_cases q:g=f
  ·rw[if_pos q,if_pos q];exact l
  ·rw[if_neg q,if_neg q];exact r g
 ·by_cases q:g=f
  ·rw[q];exact(RM f y fs).1
  ·refine(RM f y fs).2 g (j g fun z=>D ?_);show (if g=f then some u else i g)=none;rw[if_neg q];exact z
theorem Inv.made(I:Inv X aa σ H s):Inv X aa σ (upd (upd H s.heap.objs.size (.own (s.heap.objs.size+1))) (s.heap.objs.size+1) (.ins C s.heap.objs.size []))
  { s with heap:=(s.heap.push PySem.W.emptyDict).push (PySem.W.instObj C s.heap.objs.size) }:=by
 have c:(s.heap.push PySem.W.emptyDict).get? s.heap.objs.size=some PySem.W.emptyDict:=Qs s.heap rfl;have d:((s.heap.push PySem.W.emptyDict).push (PySem.W.instObj C s.heap.objs.size)).get? (s.heap.objs.size+1)=some (PySem.W.instObj C s.heap.objs.size):=by have:=Qs (s.heap.push PySem.W.emptyDict) (o:=PySem.W.instObj C s.heap.objs.size) rfl;rwa [Q1]at this
 have f:(s.heap.push PySem.W.emptyDict).Ns s.heap.objs.size (fun _=>none):=⟨PySem.W.emptyDict,#[],_,c,rfl,(fun e g=>absurd g #[4]),fun _=>rfl⟩;have h:=I.laid (a:=s.heap.objs.size) (o:=.own (s.heap.objs.size+1)) (h':=s.heap.push PySem.W.emptyDict) (t':=s.toks) (fun b u q=>Qc _ q) (Qh _) ⟨_,c⟩;refine h.laid (a:=s.heap.objs.size+1) (o:=.ins C s.heap.objs.size []) (t':=s.toks) (fun b u q=>Qc _ q) (Nat.le_of_eq (Q1 _ _)) ?_;have ne:s.heap.objs.size≠s.heap.objs.size+1:=Qu (Qbc _);refine⟨by rw[Zc ne,Zd],Qw _,ne,d,fun _=>none,(Heap.Ns1.of_empty f).at fun o q=>Qc _ q,fun _=>True.intro,fun y i=>absurd rfl i⟩
theorem ZoZ{prog:Program}{w:World}{env:Env}{e:Expr}{f:Str}{pos:Pos}{s:Shared}{Q:Value→Shared→Prop}(hb:attributeBase e f env (eval e env)=eval e env)
  (h:wpAny (model prog w) A (eval e env) (fun o a=>wpAny (model prog w) A (getAttr o f true) Q E a) E s):wpAny (model prog w) A (eval (.Attribute e f pos) env) Q E s :=
 Attribute_any_ h (by rw[arm_eval_Attribute,hb])
end
inductive Zs2 (K:#[7]) (f:Str) (x:V) (H:Hp) (B:V→Prop):Prop where
 | mk (a C dx:Addr) (fs:List (Str×V)) (v:V) (e:x=.ref a) (g:H a=some (.ins C dx fs)) (c:Cls K C) (n:X3 K C f) (l:fs.lookup f=some v) (q:B v)
def Ztd(K:#[7])(b:TE)(f:Str):TE:=fun c H Q=>b c H fun x a=>Zs2 K f x a (fun v=>Q v a)
inductive RSF (K:#[7]) (f:Str) (x:V) (H:Hp) (B:Addr→HO→Prop) (y:V):Prop where
 | mk (a C dx:Addr) (fs:List (Str×V)) (e:x=.ref a) (g:H a=some (.ins C dx fs)) (c:Cls K C) (n:X3 K C f) (l:fs.length<1000) (q:B a (.ins C dx (ZA f y fs)))
def ZsU(K:#[7])(d e:TE)(f:Str):TS:=fun D b H=>e b H fun y g=>d b g fun x c=>RSF K f x c (fun a o=>D.nx b (upd c a o)) y
def ND(X:Cx)(op:Operator)(rd:V→V→Hp→VK→Prop):Prop :=
 ∀ (a:List (Addr×Obj)) (s:Shared) (b:St) (H:Hp) (x y:V) (u v:Value) (Q:VK),Inv X a b H s→ZM x u→ZM y v→rd x y H Q→#[9,X] (inplaceOp op u v) (EP X a b Q) X.xe s
def Zo2(K:#[7])(h i:TE)(rd:V→V→Hp→VK→Prop)(f:Str):TS:=fun D b H=>h b H fun x d=>∃a C dx fs v,x=.ref a∧d a=some (.ins C dx fs)∧Cls K C∧X3 K C f∧fs.lookup f=some v ∧
 i b d fun y j=>rd v y j fun z e=>∃g c,e a=some (.ins C g c)∧c.length<1000∧D.nx b (upd e a (.ins C g (ZA f z c)))
section
variable {X:Cx} {o e value:Expr} {f:Str} {pos bP bQ:Pos} {ta tv:TE}
theorem ZK(he:PE X e ta)(hb:attributeBase e f X.env (eval e X.env)=eval e X.env):PE X (.Attribute e f pos) (Ztd X.K ta f):=by intro b s d H Q I h;refine ZoZ hb (thn (he b s d H _ I h) ?_);rintro u s1 ⟨x,g,i,j,a,C,dx,fs,v,ex,k,c,n,l,q⟩;subst ex;obtain rfl:u=Value.ref a:=j;exact NG i k c n l fun u' s2 m o=>⟨v,g,m,o,q⟩
theorem YD(ha:PE X o ta)(hv:PE X value tv)(e:swapsWith value (some (.Attribute o f bP)) pos.line X.env=pure false):PS X (.Assign [.Attribute o f bP] value pos) (ZsU X.K ta tv f):=by intro d s b H D I h;refine plainObj_wpAny_Assign_Attribute (thn (hv d s b H _ I h) fun u g ⟨y,i,j,k,q⟩=>thn (ha d g b i _ j q) ?_) e;rintro m s2 ⟨x,H2,p,r,a,C,dx,fs,ex,t,c,n,l,v⟩;subst ex;obtain rfl:m=Value.ref a:=r;exact NE p t c n l k fun s3 w=>⟨b,_,w,v⟩
theorem VU{op:Operator}{rd:V→V→Hp→VK→Prop}(ha:PE X o ta)(hv:PE X value tv)(e:ND X op rd):PS X (.AugAssign (.Attribute o f bQ) op value pos) (Zo2 X.K ta tv rd f):=by intro d s b H D I h;refine wpAny_AugAssign_AttributeAny (thn (ha d s b H _ I h) ?_);rintro g s1 ⟨x,i,j,k,a,C,dx,fs,v,ex,m,c,n,l,q⟩;subst ex;obtain rfl:g=Value.ref a:=k;refine NG j m c n l fun u p r t=>thn (hv d p b i _ r q) fun w A ⟨y,B,E,F,G⟩=>thn (e d A b B v y u w _ E t F G) ?_;rintro w4 s4 ⟨z,H3,J,K,sq,lM,L,M,N⟩;exact NE J L c n M K fun s5 O=>⟨b,_,O,N⟩
def Ztg:V→V→Hp→VK→Prop:=fun x y H Q=>RI2 x y (fun i j=>Q (.int (i+j)) H)
theorem UB:ND X .Add Ztg:=by rintro aa s σ H x y u v Q I b c ⟨i,j,rfl,rfl,q⟩;obtain⟨t,rfl⟩:=(show ∃t,u=Value.int i t from b);obtain⟨a,rfl⟩:=(show ∃a,v=Value.int j a from c);exact PyProof.Rows.iadd_int ⟨.int (i+j),H,I.tok _,⟨_,rfl⟩,q⟩
end
section
variable {X:Cx} {aa:List (Addr×Obj)} {σ:St} {H:Hp} {s:Shared} {A:Around} {E:Value→Shared→Prop} {Q:Value→Shared→Prop} {c:Value} {b:Bool}
inductive Xz (K:#[7]) (H:Hp):V→Value→Prop where
 | non:Xz K H .non (.type "NoneType")
 | bl (x:Bool):Xz K H (.bl x) (.type "bool")
 | int (i:Int):Xz K H (.int i) (.type "int")
 | str (x:Str):Xz K H (.str x) (.type "str")
 | flt (x:UInt64):Xz K H (.flt x) (.type "float")
 | lst {a:Addr} {xs:List V} (e:H a=some (.lst xs)):Xz K H (.ref a) (.type "list")
 | frz {a:Addr} {o:Obj} {xs:List V} (e:H a=some (.frz o (.lst xs))):Xz K H (.ref a) (.type "list")
 | tup {a:Addr} {xs:List V} (e:H a=some (.tup xs)):Xz K H (.ref a) (.type "tuple")
 | dK {a:Addr} {kvs:List (Key×V)} (e:H a=some (.dK kvs)):Xz K H (.ref a) (.type "dict")
 | dT {a:Addr} {kvs:List (List Key×V)} (e:H a=some (.dT kvs)):Xz K H (.ref a) (.type "dict")
 | ins {a C dx:Addr} {fs:List (Str×V)} (e:H a=some (.ins C dx fs)) (cl:Cls K C) (ha:PySem.W.findIn K (.ref C) "__class__" = some (some (.builtin "object.__class__")))
   (hn:PySem.W.specialIn K (.builtin "object.__class__") "__get__" = some (some (.builtin "getset_descriptor.__get__"))) (eF:PySem.W.takesIn K (.builtin "object.__class__")=some true)
   (hm:PySem.W.mroIn K C (.type "object")=some true):Xz K H (.ref a) (.ref C)
theorem Zmh{x:V}{u t:Value}(I:Inv X aa σ H s)(d:ZM x u)(ty:Xz X.K H x t)(e:PySem.W.kitOne X.K t c=some b)(h:∀tk,Q (.bool b) { s with toks:=tk }) :
  wpAny (model X.prog X.w) A (call (.builtin "isinstance") [u,c]) Q E s:=by
 cases ty with
 | non=>cases (show u=Value.none from d);exact Q3 PySem.W.kitx_none I.kIn True.intro e (fun z=>nomatch z) h
 | bl y=>cases (show u=Value.bool y from d);exact Q3 PySem.W.kitx_bool I.kIn True.intro e (fun z=>nomatch z) h
 | int i=>obtain⟨t,q⟩:=(show ∃t,u=Value.int i t from d);cases q;exact Q3 PySem.W.kitx_int I.kIn True.intro e (fun z=>nomatch z) h
 | str y=>obtain⟨t,q⟩:=(show ∃t,u=Value.str y t from d);cases q;exact Q3 PySem.W.kitx_str I.kIn True.intro e (fun z=>nomatch z) h
 | flt y=>obtain⟨t,q⟩:=(show ∃t,u=Value.float y t from d);cases q;exact Q3 PySem.W.kitx_float I.kIn True.intro e (fun z=>nomatch z) h
 | @lst a k f=>cases (show u=Value.ref a from d);obtain⟨_,_,n,_,g⟩:=(show Z7 X.prog X.w H s.heap a (.lst k) from I.hok a _ f);exact Q3 QaY I.kIn ⟨_,g,rfl⟩ e (fun z=>nomatch z) h
 | @frz a r k f=>cases (show u=Value.ref a from d);obtain⟨_,_,_,n,_,g⟩:=(show Z7 X.prog X.w H s.heap a (.frz r (.lst k)) from I.hok a _ f);exact Q3 QaY I.kIn ⟨_,g,rfl⟩ e (fun z=>nomatch z) h
 | @tup a k f=>cases (show u=Value.ref a from d);obtain⟨_,_,_,p⟩:=(show Z7 X.prog X.w H s.heap a (.tup k) from I.hok a _ f);obtain⟨o,g,l,_⟩:=p;exact Q3 PySem.W.kitx_tuple I.kIn ⟨o,g,l⟩ e (fun z=>nomatch z) h
 | @dK a j f=>cases (show u=Value.ref a from d);obtain⟨_,_,vs,_,p⟩:=(show Z7 X.prog X.w H s.heap a (.dK j) from I.hok a _ f);obtain⟨o,v,w,g,l,_⟩:=p;exact Q3 QaZ I.kIn ⟨o,g,l.1⟩ e (fun z=>nomatch z) h
 | @dT a j f=>cases (show u=Value.ref a from d);obtain⟨_,_,k,_,o,v,w,g,l,_⟩:=(show Z7 X.prog X.w H s.heap a (.dT j) from I.hok a _ f);exact Q3 QaZ I.kIn ⟨o,g,l.1⟩ e (fun z=>nomatch z) h
 | @ins a C dx fs f m B D F G=>cases (show u=Value.ref a from d);obtain⟨mA,O,_⟩:=UD I.hok f;obtain⟨od,J,_⟩:=O.look;exact Q3 (PySem.W.kitx_own (m.get _) m.hd B D F G) I.kIn J e (fun z=>nomatch z) h
end
structure Y5 (k:Nat) (A:Around):Prop where
 hd:A.handled=none
 dp:A.depth+3*k+5<recursionLimit
 un:A.units+16*k+200<cLine
 gd:A.guards=some []
theorem Y5.mono{j k:Nat}{A:Around}(r:Y5 k A)(h:j≤k):Y5 j A:=⟨r.hd,by have:=r.dp;lia,by have:=r.un;lia,r.gd⟩
theorem Y5.deeper{k:Nat}{A:Around}(r:Y5 (k+1) A)(env:Env):Y5 k (A.deeper env) :=
 ⟨r.hd,by have:=r.dp;show A.depth+1+3*k+5<_;lia,by have:=r.un;show A.units+3+16*k+200<_;lia,r.gd⟩
theorem Zk6{A:Around}{C:Addr}{us:List Value}{kw:List (Str×Value)}:(A.under (.builtin "type.__call__" ⟨.ref C::us,kw⟩)).depth=A.depth+1:=by first|rfl|simp[Around.under,Code.weight,Code.isCreation,Code.isGuard,Code.isCaller,Code.frames,Code.isFrame,guardIds]
theorem Zla{A:Around}{C:Addr}{us:List Value}{kw:List (Str×Value)}:(A.under (.builtin "type.__call__" ⟨.ref C::us,kw⟩)).units=A.units+1:=by first|rfl|simp[Around.under,Code.cUnits,Code.frames,Code.isFrame]
theorem Y5.make{k:Nat}{A:Around}(r:Y5 (k+1) A)(C:Addr)(us:List Value)(kw:List (Str×Value)):Y5 k (A.under (.builtin "type.__call__" ⟨.ref C::us,kw⟩)) :=
 ⟨r.hd,by have:=r.dp;rw[Zk6];lia,by have:=r.un;rw[Zla];lia,by rw[show (A.under (.builtin "type.__call__" ⟨.ref C::us,kw⟩)).guards=A.guards from by first|rfl|simp[Around.under,pushGuards,Code.guards,Code.isGuard,guardIds]];exact r.gd⟩
theorem Y5.depth{k:Nat}{A:Around}(r:Y5 k A):A.depth<recursionLimit:=by have:=r.dp;lia
theorem Y5.units{k:Nat}{A:Around}(r:Y5 k A):A.units+64<cLine:=by have:=r.un;lia
def RL:TA:=fun _ H Q=>Q [] H
def ZrR(b:TE)(c:TA):TA:=fun a H Q=>b a H fun x d=>c a d fun xs e=>Q (x::xs) e
section
variable {X:Cx} {e:Expr} {es:List Expr} {te:TE} {t:TA} {pos:Pos}
theorem Ze:PA X [] RL:=fun _ _ _ _ H Q I h=>Calls.spliced_nil ⟨[],H,I,.nil,h⟩
theorem Za(ha:PE X e te)(c:PA X es t)(d:starEach (e::es) X.env=(false,eval e X.env)::starEach es X.env:=by rfl):PA X (e::es) (ZrR te t):=by intro pos a s b H Q I h;rw[d];show wpAny _ _ (spliced ((false,eval e X.env)::backTo pos (starEach es X.env))) _ _ s;refine Calls.spliced_cons (thn (ha a s b H _ I h) ?_);rintro u f ⟨x,g,i,j,k⟩;exact thn (c pos a f b g _ i k) fun us s2 ⟨l,m,n,o,p⟩=>⟨x::l,m,n,.cons j o,p⟩
def Zs5(t:TA):TE:=fun b H Q=>t b H fun xs a=>xs.length≤sizeLine∧∀p,a p=none→Q (.ref p) (upd a p (.tup xs))
def ZsM(t:TA):TE:=fun b H Q=>t b H fun xs a=>xs.length≤sizeLine∧∀p,a p=none→Q (.ref p) (upd a p (.lst xs))
theorem YV{f}(h:PA X es t):PE X (.Tuple es f pos) (Zs5 t):=by intro g s i H Q I j;refine wpAny_Tuple_spliced (thn (h pos g s i H _ I j) fun k a ⟨l,c,d,r,z,q⟩=>⟨by rw[← r.length];exact z,?_⟩);have m:c a.heap.objs.size=none:=d.hok.fresh (Qh _);refine⟨.ref a.heap.objs.size,upd c a.heap.objs.size (.tup l),d.laid (t':=a.toks) (fun b u e=>Qc _ e) (Qh _) ?_,rfl,q _ m⟩;exact⟨z,k,r,⟨_,Qs _ rfl,rfl,_,rfl⟩⟩
theorem YU(h:PA X es t):PE X (.List es pos) (ZsM t):=by intro f s g H Q I i;refine wpAny_List_spliced (thn (h pos f s g H _ I i) fun j a ⟨k,c,d,r,z,q⟩=>⟨by rw[← r.length];exact z,?_⟩);have l:c a.heap.objs.size=none:=d.hok.fresh (Qh _);refine⟨.ref a.heap.objs.size,upd c a.heap.objs.size (.lst k),d.laid (t':=a.toks) (fun b u e=>Qc _ e) (Qh _) ?_,rfl,q _ l⟩;exact⟨z,j,0,r,Qs _ rfl⟩
end
abbrev Sp:=List V→Hp→VK→XK→Prop
abbrev CXT:=List Env→Hp→Shared→XK→Value→Shared→Prop
structure VT (P:Program) (w:World) (K:#[7]) (mg:Str→Option Value) (base:Heap) (A:Around) (outer:List Env) (s:Shared) (H:Hp):Prop where
 frames:A.frames=some outer
 mod:Mod K mg base
 bs:∀b o,base.get? b=some o→s.heap.get? b=some o∧H b=none
 bsz:base.objs.size≤s.heap.objs.size
 funs:s.heap.FunFrames base outer
 frf:∀b∈frs outer,H b=none
 hok:HOk P w H s.heap
 bare:AllBare s.gens
def CE(outer:List Env)(P:Program)(w:World)(H:Hp)(s:Shared)(Q:VK)(u:Value)(s':Shared):Prop :=
 ∃v a,s'.os=s.os∧AllBare s'.gens∧Un (frs outer) [] H a s.heap s'.heap∧HOk P w a s'.heap∧ZM v u∧Q v a
def CR(CX:CXT)(outer:List Env)(P:Program)(w:World)(H:Hp)(s:Shared)(Q:VK)(E:XK)(r:Result)(s':Shared):Prop :=
 match r with
 | .ok (.ret u)=>CE outer P w H s Q u s'
 | .ok _=>False
 | .error e=>CX outer H s E e s'
structure X2 (P:Program) (w:World) (K:#[7]) (mg:Str→Option Value) (base:Heap) (CX:CXT) (k:Nat) (f:Addr) (fd:FuncData) (ps:List Str) (sp:Sp):Prop where
 len:∀vs H Q E,sp vs H Q E→vs.length=ps.length
 run:∀ (A:Around) (outer:List Env) (s:Shared) (H:Hp) (args:Args) (us:List Value) (vs:List V) (Q:VK) (E:XK),Y5 k A→VT P w K mg base A outer s H→BindsTo s fd args (ps.zip us)→ZL vs us→sp vs H Q E →
  codeAny (model P w) A (.call (.ref f) args) (CR CX outer P w H s Q E) s
theorem VT.make{P:Program}{w:World}{K:#[7]}{mg:Str→Option Value}{base:Heap}{A:Around}{outer:List Env}{s:Shared}{H:Hp}(e:VT P w K mg base A outer s H)(C:Addr)(us:List Value)(kw:List (Str×Value)) :
  VT P w K mg base (A.under (.builtin "type.__call__" ⟨.ref C::us,kw⟩)) outer s H:=⟨by first|exact e.frames|(simpa [Around.under,Code.envs,Code.isFrame,pushEnvs] using e.frames),e.mod,e.bs,e.bsz,e.funs,e.frf,e.hok,e.bare⟩
section
variable {X:Cx} {aa:List (Addr×Obj)} {σ:St} {H:Hp} {s s':Shared}
theorem Inv.env0(I:Inv X aa σ H s):VT X.prog X.w X.K X.mg X.base X.A X.stack s H :=
 ⟨I.ok.frames,I.ok.mod,I.bs,QB I.ok.bsz I.sz,I.stack,I.stkFree,I.hok,I.bare⟩
theorem Inv.after{Q:VK}{u:Value}(I:Inv X aa σ H s)(h:CE X.stack X.prog X.w H s Q u s'):EP X aa σ Q u s':=by obtain⟨v,e,os,a,un,c,r,q⟩:=h;obtain⟨f,g,d,t,i⟩:=s';obtain rfl:i=s.os:=os;exact⟨v,e,I.call (h':=f) (g':=g) (d':=d) (t':=t) (ch:=[]) un c a (fun b z=>absurd z #[4]),r,q⟩
end
def NC(sp:Sp)(a:List V)(E:XK)(t:TA):TE:=fun b H Q=>t b H fun vs c=>sp (vs++a) c Q E
inductive RMt (C:Addr) (m:Str) (x:V) (H:Hp) (B:Prop):Prop where
 | mk (a dx:Addr) (fs:List (Str×V)) (e:x=.ref a) (g:H a=some (.ins C dx fs)) (l:fs.lookup m=none) (q:B)
def Tr(C:Addr)(m:Str)(sp:Sp)(c:List V)(E:XK)(d:TE)(t:TA):TE:=fun a H Q=>d a H fun x b=>RMt C m x b (t a b fun vs e=>sp (x::(vs++c)) e Q E)
def NA(C:Addr)(sp:Sp)(b:List V)(E:XK)(t:TA):TE:=fun c H Q=>t c H fun vs a=>∀x dx,a x=none→a dx=none→dx≠x →
 sp (.ref x::(vs++b)) (upd (upd a dx (.own x)) x (.ins C dx [])) (fun v d=>v=.non∧Q (.ref x) d) E
def XQ(K:#[7])(b:FuncData)(ps:List Str)(ds:List Value):Prop :=
 ∀ (s:Shared) (a:List Value),K.In s.heap→(a++ds).length=ps.length→BindsTo s b ⟨a,[]⟩ (ps.zip (a++ds))
theorem XQ.all{K:#[7]}{a:FuncData}{ps:List Str}(h:∀us:List Value,us.length=ps.length→bindArgs a ⟨us,[]⟩=pure (ps.zip us)):XQ K a ps []:=fun s us _ hl=>by rw[QaT]at hl ⊢;exact .of_eq (h us hl)
def VS(CX:CXT)(X:Cx)(E:XK):Prop:=∀ (a:List (Addr×Obj)) (b:St) (H:Hp) (s:Shared) (e:Value) (s':Shared),Inv X a b H s→CX X.stack H s E e s'→X.xe e s'
section
variable {X:Cx} {CX:CXT} {k:Nat} {f C:Addr} {fd:FuncData} {ps:List Str} {sp:Sp} {cC:List V} {ds:List Value} {E:XK} {x m:Str} {p pos av:Pos} {e o:Expr} {es:List Expr} {ta:TE} {t:TA}
theorem RK{b:List (Addr×Obj)}{c:St}{H:Hp}{s:Shared}{Q:VK}{us:List Value}{vs:List V}(F:X2 X.prog X.w X.K X.mg X.base CX k f fd ps sp)(g:Y5 k X.A)(hb:XQ X.K fd ps ds)(hd:ZL cC ds)(hx:VS CX X E)
  (I:Inv X b c H s) (r:ZL vs us) (h:sp (vs++cC) H Q E):#[9,X] (call (.ref f) us) (EP X b c Q) X.xe s:=by
 have d:ZL (vs++cC) (us++ds):=r.append hd;have i:(us++ds).length=ps.length:=by rw[← d.length];exact F.len _ _ _ _ h
 refine wpAny_call (codeAny_mono (F.run X.A X.stack s H ⟨us,[]⟩ (us++ds) (vs++cC) Q E g I.env0 (hb s us I.kIn i) d h) fun r j a=>?_);cases r with
 | error e=>exact hx b c H s e j I a
 | ok l =>
  cases l with
  | ret u=>exact I.after a
  | next=>exact False.elim a
  | brk=>exact False.elim a
  | cont=>exact False.elim a
theorem Zo4(F:X2 X.prog X.w X.K X.mg X.base CX k f fd ps sp)(b:Y5 k X.A)(c:Gl X x)(hm:X.mg x=some (.ref f))(hk:PySem.W.keepIn X.K (.ref f)=true)(hb:XQ X.K fd ps ds)(hd:ZL cC ds)(hx:VS CX X E)
  (ha:PA X (e::es) t) (d:(x == ("__debug__" : Str))=false:=by decide) (he:starEach (e::es) X.env=(false,eval e X.env)::starEach es X.env:=by rfl) (g:(backTo pos (starEach es X.env)).any (·.1)=false:=by rfl) :
  PE X (.Call (.Name x p) (e::es) [] pos) (NC sp cC E t):=by
 intro i s j H Q I h;refine wpAny_Call_Name_kw (RT I c hm ?_ d);refine PySem.W.callWith_K (h₀:=X.base) I.ok.mod.kin hk (thn (ha pos i s j H _ I h) fun us s1 ⟨vs,H1,a,r,q⟩=>⟨a.kIn,?_⟩) he g;exact RK F b hb hd hx a r q
theorem ZoR{pl:Sem Bool}(he:PE X o ta)(c:Cls X.K C)(hm:UC X.K C m f)(F:X2 X.prog X.w X.K X.mg X.base CX k f fd ps sp)(n:Y5 k X.A)(hb:XQ X.K fd ps ds)(hd:ZL cC ds)(hx:VS CX X E)(ha:PA X (e::es) t)
  (p:starEach (e::es) X.env=(false,eval e X.env)::starEach es X.env:=by rfl) (v:(backTo pos (starEach es X.env)).any (·.1)=false:=by rfl)
  (w:eval (.Call (.Attribute o m av) (e::es) [] pos) X.env=(do
   let b ← eval o X.env
   standAt av.atName
   let (f,first) ← holding [b] (getMethod b m pl)
   callWith pos f first (backTo pos (starEach (e::es) X.env)) (backToKw pos (keywordEach [] X.env))):=by rfl) :
  PE X (.Call (.Attribute o m av) (e::es) [] pos) (Tr C m sp cC E ta t):=by
 intro d s g H Q I h;refine PySem.W.methodCall_KW (pl:=pl) (thn (he d s g H _ I h) ?_) w;rintro u y ⟨x,z,i,A,a,dx,fs,ex,B,l,q⟩;subst ex;obtain rfl:u=Value.ref a:=A;refine NF i B c hm l ?_;refine PySem.W.callWith_K (first:=[.ref a]) (h₀:=X.base) I.ok.mod.kin hm.kp (thn (ha pos d y g z _ i q) fun us s2 ⟨vs,H2,j,r,D⟩=>⟨j.kIn,?_⟩) p v;exact RK (us:=.ref a::us) (vs:=.ref a::vs) F n hb hd hx j (.cons rfl r) D
theorem Zn0{pl:Sem Bool}(he:PE X o ta)(c:Cls X.K C)(hm:UC X.K C m f)(F:X2 X.prog X.w X.K X.mg X.base CX k f fd ps sp)(e:Y5 k X.A)(hb:XQ X.K fd ps ds)(hd:ZL cC ds)(hx:VS CX X E)
  (g:eval (.Call (.Attribute o m av) [] [] pos) X.env=(do
   let d ← eval o X.env
   standAt av.atName
   let (f,first) ← holding [d] (getMethod d m pl)
   callWith pos f first (backTo pos (starEach [] X.env)) (backToKw pos (keywordEach [] X.env))):=by rfl) :
  PE X (.Call (.Attribute o m av) [] [] pos) (Tr C m sp cC E ta RL):=by
 intro i s j H Q I h;refine PySem.W.methodCall_KW (pl:=pl) (thn (he i s j H _ I h) ?_) g;rintro u s1 ⟨x,H1,b,n,a,dx,fs,ex,p,l,q⟩;subst ex;obtain rfl:u=Value.ref a:=n;refine NF b p c hm l ?_;exact PySem.W.callWith_K0 (first:=[.ref a]) b.kIn hm.kp (RK (us:=[.ref a]) (vs:=[.ref a]) F e hb hd hx b (.cons rfl .nil) q)
structure Mk (K:#[7]) (C f:Addr):Prop where
 makes:PySem.W.makesIn K C=true
 init:PySem.W.findIn K (.ref C) "__init__" = some (some (.ref f))
 fn:PySem.W.isFn K (.ref f)=true
 kp:PySem.W.keepIn K (.ref C)=true
theorem Zou{c:List (Addr×Obj)}{d:St}{H:Hp}{s:Shared}{Q:VK}{us:List Value}{vs:List V}(M:Mk X.K C f)(F:X2 X.prog X.w X.K X.mg X.base CX k f fd ps sp)(j:Y5 (k+1) X.A)(hb:XQ X.K fd ps ds)(hd:ZL cC ds)
  (hx:VS CX X E) (I:Inv X c d H s) (r:ZL vs us)
  (h:∀x dx,H x=none→H dx=none→dx≠x→sp (.ref x::(vs++cC)) (upd (upd H dx (.own x)) x (.ins C dx [])) (fun v l=>v=.non∧Q (.ref x) l) E) :
  #[9,X] (call (.ref C) us) (EP X c d Q) X.xe s:=by
 have g:=h (s.heap.objs.size+1) s.heap.objs.size (I.hok.fresh (Qas _)) (I.hok.fresh (Qh _)) (Qu (Qbc _));have b:=Inv.made (C:=C) I;have i:ZL (V.ref (s.heap.objs.size+1)::(vs++cC)) (Value.ref (s.heap.objs.size+1)::(us++ds)):=.cons rfl (r.append hd);have m:(Value.ref (s.heap.objs.size+1)::us++ds).length=ps.length:=by have e:=i.length;rw[F.len _ _ _ _ g]at e;exact e.symm
 refine wpAny_call (ZoF (f:=f) I.kIn M.makes M.init (beq_iff_eq.mp M.fn) (codeAny_mono (F.run _ X.stack _ _ ⟨Value.ref (s.heap.objs.size+1)::us,[]⟩ (Value.ref (s.heap.objs.size+1)::(us++ds)) _ _ E (j.make C us [])
  (b.env0.make C us []) (hb _ (Value.ref (s.heap.objs.size+1)::us) b.kIn m) i g) fun r n a=>?_))
 cases r with
 | error e=>exact hx c d _ _ e n b a
 | ok o =>
  cases o with
  | ret u=>obtain⟨v,p,q,t,w,y⟩:=b.after a;subst w;exact⟨t,⟨V.ref (s.heap.objs.size+1),p,q,rfl,y⟩⟩
  | next=>exact False.elim a
  | brk=>exact False.elim a
  | cont=>exact False.elim a
theorem Zpk(M:Mk X.K C f)(F:X2 X.prog X.w X.K X.mg X.base CX k f fd ps sp)(b:Y5 (k+1) X.A)(c:Gl X x)(hm:X.mg x=some (.ref C))(hb:XQ X.K fd ps ds)(hd:ZL cC ds)(hx:VS CX X E)
  (ha:PA X (e::es) t) (d:(x == ("__debug__" : Str))=false:=by decide) (he:starEach (e::es) X.env=(false,eval e X.env)::starEach es X.env:=by rfl) (g:(backTo pos (starEach es X.env)).any (·.1)=false:=by rfl) :
  PE X (.Call (.Name x p) (e::es) [] pos) (NA C sp cC E t):=by
 intro i s j H Q I h;refine wpAny_Call_Name_kw (RT I c hm ?_ d);refine PySem.W.callWith_K (h₀:=X.base) I.ok.mod.kin M.kp (thn (ha pos i s j H _ I h) fun us s1 ⟨vs,H1,a,r,q⟩=>⟨a.kIn,?_⟩) he g;exact Zou M F b hb hd hx a r q
end
section
variable {X:Cx} {CX:CXT} {k:Nat} {f C:Addr} {fd:FuncData} {ps ks:List Str} {sp:Sp} {E:XK} {x m:Str} {p pos av DA:Pos} {e o:Expr} {es:List Expr} {kws:List Keyword} {te ta:TE} {t tk:TA} {nm:Option Str}
structure KBinds (K:#[7]) (fd:FuncData) (ps ks:List Str) (g:List Value→List Value→List Value) (gV:List V→List V→List V):Prop where
 to:∀ (s:Shared) (us ws:List Value),K.In s.heap→(g us ws).length=ps.length→BindsTo s fd ⟨us,ks.zip ws⟩ (ps.zip (g us ws))
 rel:∀ {vs:List V} {us:List Value} {zs:List V} {ws:List Value},ZL vs us→ZL zs ws→ZL (gV vs zs) (g us ws)
variable {g:List Value→List Value→List Value} {gV:List V→List V→List V}
end
structure Zr (N P:List Str) (sc:Scope):Prop where
 kind:sc.kind=.function
 co:sc.isCoroutine=false
 gen:sc.isGenerator=false
 nd:N.Nodup
 pre:N.take P.length=P
 par:∀x∈P,sc.names.lookup x=some .local∨sc.names.lookup x=some .cell
 nofree:∀y∈sc.names,y.2≠.free
theorem Nz{kindOf:Str→Option NameKind}{x:Str}:∀ {binds:List (Str×Value)} {m:Str→Option Value},(∀v,(x,v) ∉ binds)→bindL kindOf binds m x=m x
 | [],_,_=>rfl
 | (n,v)::r,m,h=>by
  unfold bindL;rw[Nz fun w hw=>h w (Qt _ hw)];split
  ·have:x≠n:=by rintro rfl;exact h v Q0
   simp[this]
  ·rfl
theorem Ny{kindOf:Str→Option NameKind}{x:Str}:∀ {binds:List (Str×Value)} {m:Str→Option Value},(∀v,(x,v) ∉ binds)→bindC kindOf binds m x=m x
 | [],_,_=>rfl
 | (n,v)::r,m,h=>by
  unfold bindC;rw[Ny fun w hw=>h w (Qt _ hw)];split
  ·rfl
  ·have:x≠n:=by rintro rfl;exact h v Q0
   simp[this]
theorem Nx{kindOf:Str→Option NameKind}{x:Str}{v:Value}:∀ {P:List Str} {vs:List Value} {i:Nat} {m:Str→Option Value},P.Nodup→P[i]? = some x→vs[i]? = some v→kindOf x=some .local →
  bindL kindOf (P.zip vs) m x=some v
 | [],_,_,_,_,h,_,_=>by simp at h
 | _::_,[],_,_,_,_,h,_=>by simp at h
 | p::P,w::vs,0,m,nd,h1,h2,hk=>by simp at h1 h2;subst h1;subst h2;show bindL kindOf ((p,w)::P.zip vs) m p=_;unfold bindL;rw[Nz fun v hv=>(QP.mp nd).1 (List.of_mem_zip hv).1,if_pos hk];simp
 | p::P,w::vs,i+1,m,nd,h1,h2,hk=>by show bindL kindOf ((p,w)::P.zip vs) m x=_;unfold bindL;exact Nx (i:=i) (QP.mp nd).2 (by simpa using h1) (by simpa using h2) hk
theorem Nw{kindOf:Str→Option NameKind}{x:Str}{v:Value}:∀ {P:List Str} {vs:List Value} {i:Nat} {m:Str→Option Value},P.Nodup→P[i]? = some x→vs[i]? = some v→kindOf x≠some .local →
  bindC kindOf (P.zip vs) m x=some v
 | [],_,_,_,_,h,_,_=>by simp at h
 | _::_,[],_,_,_,_,h,_=>by simp at h
 | p::P,w::vs,0,m,nd,h1,h2,hk=>by simp at h1 h2;subst h1;subst h2;show bindC kindOf ((p,w)::P.zip vs) m p=_;unfold bindC;rw[Ny fun v hv=>(QP.mp nd).1 (List.of_mem_zip hv).1,if_neg hk];simp
 | p::P,w::vs,i+1,m,nd,h1,h2,hk=>by show bindC kindOf ((p,w)::P.zip vs) m x=_;unfold bindC;exact Nw (i:=i) (QP.mp nd).2 (by simpa using h1) (by simpa using h2) hk
noncomputable def Xd(N:List Str)(vs:List V):St:=vs.map some++List.replicate (N.length-vs.length) none
noncomputable def WI(CX:CXT)(P:Program)(w:World)(K:#[7])(mg:Str→Option Value)(base:Heap)(N:List Str)(a:Str)(b:Scope)(f:Addr)(c:Value)(A:Around)(outer:List Env)(s:Shared)(H:Hp)(E:XK):Cx where
 prog:=P
 w:=w
 K:=K
 mg:=mg
 base:=base
 A:=A.deeper (envOfC a b s.heap.objs.size f c)
 N:=N
 s₀:=s
 H₀:=H
 env:=envOfC a b s.heap.objs.size f c
 outer:=outer
 stack:=envOfC a b s.heap.objs.size f c::outer
 ex:=[]
 calm:=true
 fn:=fun _=>true
 pn:=[]
 xe:=fun e g=>wpAny (model P w) (A.deeper (envOfC a b s.heap.objs.size f c)) (leaving (envOfC a b s.heap.objs.size f c) e) (fun _ d=>CX outer H s E e d) (fun h d=>CX outer H s E h d) g
theorem Nv{a:Scope}{n:Nat}{x:Str}(h:a.names.lookup x=some .cell):∃c,(cellsFrom n a.names []).lookup x=some c:=by have q:=PySem.W.cellsFrom_some a.names n [] (.inl h);exact Option.isSome_iff_exists.mp q
theorem Zl8{CX:CXT}{P:Program}{w:World}{K:#[7]}{mg:Str→Option Value}{base:Heap}{N ps:List Str}{m:Str}{j:Scope}{f:Addr}{o:Value}{A:Around}{outer:List Env}{s D:Shared}{H:Hp}{E:XK}{us:List Value}{vs:List V}
  (S:Zr N ps j) (hd:A.handled=none) (g:VT P w K mg base A outer s H) (hl:vs.length=ps.length) (r:ZL vs us)
  (x:InCallC s s.heap.objs.size (bindL (envOfC m j s.heap.objs.size f o).kindOf (ps.zip us) fun _=>none) (cellsFrom (s.heap.objs.size+1) j.names []) (bindC (envOfC m j s.heap.objs.size f o).kindOf (ps.zip us) fun _=>none) D) :
  Inv (WI CX P w K mg base N m j f o A outer s H E) [] (Xd N vs) H D:=by
 have bL:ps.length≤N.length:=by have:=congrArg List.length S.pre;rw[QA]at this;lia
 obtain⟨t,tk,rfl,F⟩:=x.done;have C:∀b:Addr,b ∉ (WI CX P w K mg base N m j f o A outer s H E).ex:=fun b z=>absurd (show b∈([]:List Addr) from z) #[4];refine⟨⟨g.mod,S.kind,rfl,rfl,Qh _,fun y z c t d=>?_,fun y hy=>?_,fun y c _ h=>?_,fun _=>hd,Around.frames_deeper g.frames,.inr ⟨rfl,rfl⟩,fun b z=>absurd z (C b),g.bs,g.bsz,fun b _ _=>C b,fun b z=>absurd z (C b),g.funs,g.frf⟩,
  rfl,g.bare,Un.kept F,⟨_,x.toInCall.ns,fun i y v t d h3=>?_⟩,fun y c h=>⟨_,x.cell y c h⟩,g.hok.fresh (Qh _),fun y c h=>?_,fun p l=>absurd (show p∈([]:List (Addr×Obj)) from l) #[4],g.hok.kept F,?_⟩
 ·exact name_of_addr x.apart (Qal t) (Qal d)
 ·have hy:j.names.lookup y=some .cell∨j.names.lookup y=some .free:=hy;rcases hy with hy|hy
  ·exact Nv hy
  ·exact absurd rfl (S.nofree _ (Qal hy))
 ·exact Qai (x.above y c (Qal h))
 ·have B:i<vs.length:=by
   unfold Xd at d;by_cases B:i<vs.length
   ·exact B
   ·rw[QK (by simpa using B)]at d;rw[List.getElem?_replicate]at d;split at d<;>cases d
  have J:vs[i]? = some v:=by
   unfold Xd at d;rw[QJ (by simpa using B),Qm]at d;cases e:vs[i]? with
   | none=>rw[e]at d;cases d
   | some a=>rw[e]at d;cases d;rfl
  obtain⟨u,G,L⟩:=r.get J;have l:ps[i]? = some y:=by rw[← S.pre,List.getElem?_take_of_lt #[2]];exact t
  have I:ps.Nodup:=by rw[← S.pre];exact S.nd.sublist (List.take_sublist _ _)
  refine⟨u,L,?_⟩;rcases S.par y (Qo l) with k|k
  ·exact .inl ⟨k,Nx I l G k⟩
  ·obtain⟨c,e⟩:=Nv (n:=s.heap.objs.size+1) k;refine .inr ⟨.inl k,c,e,?_⟩;have q:=x.cell y c e;rw[Nw I l G (by show j.names.lookup y≠_;rw[k];decide)]at q;exact q
 ·exact g.hok.fresh (Qai (x.above y c (Qal h)))
 ·unfold Xd;show _=N.length;rw[Qi,Qa,Qap];lia
theorem ZrN{CX:CXT}{P:Program}{w:World}{K:#[7]}{mg:Str→Option Value}{base:Heap}{k:Nat}{f:Addr}{name c:Str}{B:Arguments}{l:List Stmt}{a:Scope}{C kV D F d ct O:Value}{G R:Option Addr}
  {T:Array (Option Value)} {N ps:List Str} {sp:Sp} (lk:K.lookup f=some ⟨O,R,.func (PySem.W.fnOf name c B l a C kV D F G d ct),T⟩) (U:PySem.W.codeIn K d c=true) (S:Zr N ps a)
  (len:∀vs H Q E,sp vs H Q E→vs.length=ps.length)
  (W:∀ (A:Around) (outer:List Env) (s:Shared) (H:Hp) (vs:List V) (Q:VK) (E:XK),Y5 k (A.deeper (envOfC c a s.heap.objs.size f d))→sp vs H Q E →
   ∃t,PSs (WI CX P w K mg base N c a f d A outer s H E) l t∧t { nx:=fun _ H'=>Q .non H',rt:=Q } (Xd N vs) H) :
  X2 P w K mg base CX (k+1) f (PySem.W.fnOf name c B l a C kV D F G d ct) ps sp:=by
 refine⟨len,fun A outer s H args X vs Q E m h Y r L=>?_⟩;have Z:=len _ _ _ _ L;have KX:K.In s.heap:=h.mod.kin.keeps fun b o e=>(h.bs b o e).1;have AG:s.heap.NoLimit:=h.mod.nolimit.keeps fun b o e=>(h.bs b o e).1;have sv:∀y∈ps.zip X,a.names.lookup y.1=some .local∨(a.names.lookup y.1=some .cell∧((cellsFrom (s.heap.objs.size+1) a.names []).lookup y.1).isSome=true):=fun ⟨n,v⟩ hy=>by
  rcases S.par n (List.of_mem_zip hy).1 with q|q
  ·exact .inl q
  ·exact .inr ⟨q,PySem.W.cellsFrom_some _ _ _ (.inl q)⟩
 refine codeAny_call_function m.depth (KX _ _ lk) rfl S.co S.gen rfl (PySem.W.codeRec_of KX U) (Y _ _ _ _ ?_);refine wpAny_newFunctionEnv_cells S.kind sv fun env he M x=>?_;subst he;refine⟨AG.keeps x.toInCall.keep,codeAny_func ?_⟩;obtain⟨t,ht,hq⟩:=W A outer s H vs Q E (m.deeper _) L;have I:Inv (WI CX P w K mg base N c a f d A outer s H E) [] (Xd N vs) H M:=Zl8 S m.hd h Z r x;refine wpAny_mono (ht [] M (Xd N vs) H _ I hq) (fun fl p g=>?_) fun e p g=>g;have i:∀ {j:St} {H':Hp} {v:V} {u:Value},Inv (WI CX P w K mg base N c a f d A outer s H E) [] j H' p→ZM v u→Q v H'→CE outer P w H s Q u p :=
  fun {j H' v u} J z q=>⟨v,H',J.os,J.bare,J.base,J.hok,z,q⟩
 cases fl with
 | ret u=>obtain⟨v,j,H',J,z,q⟩:=g;exact i J z q
 | next=>obtain⟨j,H',J,q⟩:=g;exact i (v:=V.non) (u:=Value.none) J rfl q
 | brk=>obtain⟨_,_,_,q⟩:=g;exact False.elim q
 | cont=>obtain⟨_,_,_,q⟩:=g;exact False.elim q
section
variable {X:Cx} {x:Str} {p pos:Pos} {e:Expr} {es:List Expr} {t:TA} {id T:String} {r:List V→Hp→VK→Prop}
def tCB(r:List V→Hp→VK→Prop)(t:TA):TE:=fun a H Q=>t a H fun vs b=>r vs b Q
theorem Zk(hc:Y1 X (.builtin id) r)(c:Gl X x)(hm:X.mg x=none)(hv:bootBuiltins x=some (.builtin id))(ha:PA X (e::es) t)(d:x ≠ "__name__":=by decide)(f:(x == ("__debug__" : Str))=false:=by decide)
  (g:starEach (e::es) X.env=(false,eval e X.env)::starEach es X.env:=by rfl) (i:(backTo pos (starEach es X.env)).any (·.1)=false:=by rfl):PE X (.Call (.Name x p) (e::es) [] pos) (tCB r t):=by
 intro a s b H Q I h;refine wpAny_Call_Name_kw (Wi I c hm hv ?_ d f);exact PyProof.Rows.callWith_builtin1 (thn (ha pos a s b H _ I h) fun j k ⟨l,m,n,o,q⟩=>hc a k b m l j Q n o q) g i
theorem Ya(hc:Y1 X (.type T) r)(c:Gl X x)(hm:X.mg x=none)(hv:bootBuiltins x=some (.type T))(ha:PA X (e::es) t)(d:x ≠ "__name__":=by decide)(f:(x == ("__debug__" : Str))=false:=by decide)
  (g:starEach (e::es) X.env=(false,eval e X.env)::starEach es X.env:=by rfl) (i:(backTo pos (starEach es X.env)).any (·.1)=false:=by rfl):PE X (.Call (.Name x p) (e::es) [] pos) (tCB r t):=by
 intro a s b H Q I h;refine wpAny_Call_Name_kw (Wi I c hm hv ?_ d f);exact QY (thn (ha pos a s b H _ I h) fun j k ⟨l,m,n,o,q⟩=>hc a k b m l j Q n o q) g i
end
end L2
namespace HT
open PySem PyProof.Rows
section
variable {prog:Program} {w:World} {A:Around} {E:Value→Shared→Prop} {s:Shared}
noncomputable def sIx(n d:Nat):Option Int→Nat
 | none=>d
 | some v=>if v<0 then (v+(n:Int)).toNat else min v.toNat n
theorem sIx_nat(n d k:Nat):sIx n d (some (k:Int))=min k n:=by show (if (k:Int)<0 then ((k:Int)+(n:Int)).toNat else min (k:Int).toNat n)=min k n;rw[if_neg #[2],Qa0]
end
end HT
namespace L2
open PySem PySem.Spec PyProof.Rows
abbrev TO:=St→Hp→(Option Int→Hp→Prop)→Prop
def PO(X:Cx)(e:Option Expr)(t:TO):Prop :=
 ∀ (b:List (Addr×Obj)) (s:Shared) (a:St) (H:Hp) (Q:Option Int→Hp→Prop),Inv X b a H s→t a H Q →
  #[9,X] (evalPart e X.env) (fun u d=>∃o c,Inv X b a c d∧IsPart u o∧Q o c) X.xe s
def Zpi:TO:=fun _ H Q=>Q none H
def Zsj(t:TE):TO:=fun a H Q=>t a H fun x b=>EA (fun i=>x=.int i) (fun i=>Q (some i) b)
theorem Nu{ns:List Int}:∀ {us:List Value},ZL (ns.map V.int) us→IntsAre us ns:=by
 induction ns with
 | nil=>intro us r;rw[Qa1]at r;cases r;exact .nil
 | cons n ns a =>
  intro us r;rw[Qj]at r;cases r with
  | cons b c=>obtain⟨t,e⟩:=b;subst e;exact .cons n t (a c)
section
variable {X:Cx} {e:Expr} {te:TE} {lo hi:Option Expr} {tl th:TO} {pos p2:Pos}
theorem WH:PO X none Zpi:=by intro aa s σ H Q I h;rw[evalPart_none];exact wpAny_pure ⟨none,H,I,.none,h⟩
theorem Wd(h:PE X e te):PO X (some e) (Zsj te):=by intro a s b H Q I hw;rw[evalPart_some];refine thn (h a s b H _ I hw) ?_;rintro u s1 ⟨x,c,d,f,g⟩;obtain⟨i,rfl,q⟩:=g;obtain⟨t,rfl⟩:=f;exact⟨some i,c,d,.int i t,q⟩
def SlR(X:Cx)(r:V→Option Int→Option Int→Hp→VK→Prop):Prop :=
 ∀ (a:List (Addr×Obj)) (s:Shared) (b:St) (H:Hp) (x:V) (v c d:Value) (lo hi:Option Int) (e:Addr) (Q:VK),Inv X a b H s→ZM x v→s.heap.IsSliceOf e c d .none→IsPart c lo→IsPart d hi→r x lo hi H Q →
  ∃T id,typeLookup (.type T) "__getitem__" = pure (some (.builtin id))∧s.TypeIs v T∧#[9,X] (getItem v (.ref e)) (EP X a b Q) X.xe s
def tSl(r:V→Option Int→Option Int→Hp→VK→Prop)(te:TE)(tl th:TO):TE:=fun a H Q=>te a H fun x b=>tl a b fun l c=>th a c fun u d=>r x l u d Q
theorem WG{r:V→Option Int→Option Int→Hp→VK→Prop}(j:SlR X r)(he:PE X e te)(hl:PO X lo tl)(hu:PO X hi th):PE X (.Subscript e (.Slice lo hi none p2) pos) (tSl r te tl th):=by intro c s d H Q I h;refine Subscript_ (thn (he c s d H _ I h) ?_);rintro v k ⟨x,m,n,o,p⟩;refine wpAny_Slice (thn (hl c k d m _ n p) fun f t ⟨l,w,y,z,A⟩=>thn (hu c t d w _ y A) ?_);rintro g a ⟨u,i,B,C,D⟩;rw[evalPart_none];refine wpAny_pure ?_;have E:Inv X c d i { a with heap:=a.heap.push { cls:=.type "slice",data:=.fields #[f,g,.none] } }:=B.kept (t':=a.toks) fun b ob q=>Qc _ q;obtain⟨T,id,F,G,J⟩:=j c { a with heap:=a.heap.push { cls:=.type "slice",data:=.fields #[f,g,.none] } } d i x v f g l u a.heap.objs.size Q E o (Heap.IsSliceOf.new ..) z C D;show #[9,X] (subscriptTail e (.Slice lo hi none p2) v (.ref a.heap.objs.size)) (EP X c d Q) X.xe { a with heap:=a.heap.push { cls:=.type "slice",data:=.fields #[f,g,.none] } };exact tail_any (ops:=[.ref a.heap.objs.size,v]) G F J (by with_unfolding_all rfl)
noncomputable def WY(xs:List V)(lo hi:Option Int):List V:=(xs.drop (HT.sIx xs.length 0 lo)).take (HT.sIx xs.length xs.length hi-HT.sIx xs.length 0 lo)
theorem ZjO(xs:List V)(lo hi:Option Int):(WY xs lo hi).length≤xs.length:=by unfold WY;rw[QA,Q5];lia
end
noncomputable def ixN(n:Nat)(i:Int):Option Nat:=if 0≤i then (if i<n then some i.toNat else none) else if -(n:Int)≤i then some (i+n).toNat else none
noncomputable def atI{α:Type}(xs:List α)(i:Int):Option α:=(ixN xs.length i).bind fun j=>xs[j]?
theorem Nt{n:Nat}{i:Int}{j:Nat}(h:ixN n i=some j):seqIndex? i n=some j∧j<n ∧ -(n:Int)≤i∧i<n:=by
 unfold ixN at h;by_cases b:0≤i
 ·rw[if_pos b]at h;by_cases a:i<n
  ·rw[if_pos a]at h;have e:i.toNat=j:=Qr h;exact⟨by rw[seqIndex_of b a,e],by lia,by lia,a⟩
  ·rw[if_neg a]at h;cases h
 ·rw[if_neg b]at h;by_cases a:-(n:Int)≤i
  ·rw[if_pos a]at h;have e:(i+n).toNat=j:=Qr h;exact⟨by rw[seqIndex_neg #[2] a,e],by lia,a,by lia⟩
  ·rw[if_neg a]at h;cases h
theorem RJ{α:Type}{xs:List α}{i:Int}{v:α}(h:atI xs i=some v):∃j,seqIndex? i xs.length=some j∧xs[j]? = some v∧j<xs.length ∧ -(xs.length:Int)≤i∧i<xs.length:=by
 unfold atI at h;cases e:ixN xs.length i with
 | none=>rw[e]at h;cases h
 | some j=>rw[e]at h;obtain⟨a,b,c,d⟩:=Nt e;exact⟨j,a,h,b,c,d⟩
theorem Yx{α:Type}{xs:List α}{j:Nat}{v:α}(h:xs[j]? = some v):atI xs (j:Int)=some v:=by
 have hj:j<xs.length:=(Qe.mp h).1;have e:ixN xs.length (j:Int)=some j:=by unfold ixN;rw[if_pos #[2],if_pos #[2]];simp
 unfold atI;rw[e];exact h
theorem Zna{α:Type}(xs:List α)(v:α):atI (xs++[v]) (-1)=some v:=by
 have a:(xs++[v]).length=xs.length+1:=by simp
 have e:ixN (xs++[v]).length (-1)=some xs.length:=by unfold ixN;rw[a,if_neg #[6],if_pos #[2]];congr 1;lia
 unfold atI;rw[e];show (xs++[v])[xs.length]? = some v;simp
def Zpm(b:Expr):Prop:=∀o i,subscripted b false o i=operate [o,i] (getItem o i)
def IxR(X:Cx)(r:R2):Prop :=
 ∀ (value a:Expr) (b:List (Addr×Obj)) (s:Shared) (c:St) (H:Hp) (x y:V) (v u:Value) (Q:VK),Inv X b c H s→ZM x v→ZM y u→r x y H Q →
  subscripted a false v u=operate [v,u] (getItem v u)→#[9,X] (subscriptTail value a v u) (EP X b c Q) X.xe s
def MtR(X:Cx)(id:String)(r:V→List V→Hp→VK→Prop):Prop :=
 ∀ (a:List (Addr×Obj)) (s:Shared) (b:St) (H:Hp) (x:V) (c:List V) (v:Value) (d:List Value) (Q:VK),Inv X a b H s→ZM x v→ZL c d→r x c H Q →
  #[9,X] (call (.builtin id) (v::d)) (EP X a b Q) X.xe s
section
variable {X:Cx} {a b:Expr} {ta tb:TE} {pos:Pos}
theorem Zo{r:R2}(c:IxR X r)(ha:PE X a ta)(hb:PE X b tb)(d:Zpm b):PE X (.Subscript a b pos) (tOp r ta tb):=by intro e s f H Q I h;exact Subscript_ (RQ ha hb I h fun v u g x y i j k l q=>c a b e g f i x y v u Q j k l q (d _ _))
inductive RIx (S:Addr→List V→Prop) (x y:V) (B:V→Prop):Prop where
 | mk (p:Addr) (xs:List V) (i:Int) (v:V) (a:x=.ref p) (b:y=.int i) (c:S p xs) (d:atI xs i=some v) (q:B v)
def Nr(K:#[7]):R2:=fun x y H Q=>RIx (SqL K H) x y (fun v=>Q v H)
def Nq(K:#[7]):R2:=fun x y H Q=>RIx (SqT K H) x y (fun v=>Q v H)
def Zs1:R2:=fun x y H Q=>∃z i c,x=.str z∧y=.int i∧z.length≤sizeLine∧atI z.cps.toList i=some c∧Q (.str ⟨#[c]⟩) H
theorem ZpH:IxR X (Nr X.K):=by
 intro value cD e s f H x y v u Q I m n h g;obtain⟨p,xs,i,z,rfl,rfl,o,A,q⟩:=h;cases m;obtain⟨t,rfl⟩:=n;obtain⟨its,r,c,hz⟩:=I.list o;obtain⟨j,b,B,h3,C,D⟩:=RJ A;obtain⟨w,k,E⟩:=r.get B;have F:=r.length;have hn:=Vg;have a:EP X e f Q w s:=⟨z,H,I,E,q⟩;by_cases l:0≤i
 ·have d:i.toNat=j:=by rw[seqIndex_of l D]at b;exact Qr b
  exact item_listR c.isList l #[2] (by rw[d];simpa using k) a g
 ·have d:(i+(its.toArray.size:Int)).toNat=j:=by rw[seqIndex_neg #[2] C]at b;rw[QG,← F];exact Qr b
  exact subscriptTail_builtinR (x:=w) c.isList.typeIs slot_list_getitem.lookup
   (wpAny_getItem_list_neg (Q:=fun r G=>r=w∧EP X e f Q r G) c.isList #[2] (by rw[QG]<;>lia) #[2] (by rw[d];simpa using k) ⟨rfl,a⟩) g
theorem ZqM:IxR X (Nq X.K):=by
 intro value cD b s c H x y v u Q I e f h g;obtain⟨p,xs,i,z,rfl,rfl,k,l,q⟩:=h;cases e;obtain⟨t,rfl⟩:=f;obtain⟨its,r,d,hz⟩:=I.tuple k;obtain⟨j,m,n,h3,h4,h5⟩:=RJ l;obtain⟨w,o,A⟩:=r.get n;have B:=r.length;have hn:=Vg;have a:EP X b c Q w s:=⟨z,H,I,A,q⟩;exact subscriptTail_builtinR (x:=w) d.typeIs slot_tuple_getitem.lookup
  (getItem_tuple (j:=j) (Q:=fun r C=>r=w∧EP X b c Q r C) d #[2] #[2] (by rw[QG,← B];exact m) (by simpa using o) ⟨rfl,a⟩) g
theorem VR:IxR X Zs1:=by
 intro value cD aa s σ H x y v u Q I b d h e;obtain⟨z,i,c,rfl,rfl,hz,f,q⟩:=h;obtain⟨t,rfl⟩:=b;obtain⟨t',rfl⟩:=d;obtain⟨j,a,g,h3,k,l⟩:=RJ f;have m:z.cps.toList.length=z.length:=by simp[Str.length]
 rw[m]at a k l;have hn:=Vg;exact tail_any (typeIs_str s z t) slot_str_getitem.lookup (getItem_str (c:=c) (by have n:decide (i < -(2 ^ 63:Int))=false:=decide_eq_false #[2];have o:decide (i≥2 ^ 63)=false:=decide_eq_false #[2];rw[n,o,Bool.or_false]) (by rw[a];simpa using g) ⟨.str ⟨#[c]⟩,H,I.tok _,⟨_,rfl⟩,q⟩) e
theorem Zlb(its:List Value)(n j:Nat)(u:Value):Obj.mapSeq (·.setIfInBounds j u) { cls:=.type "list",data:=.seq its.toArray n }={ cls:=.type "list",data:=.seq (its.set j u).toArray n }:=by simp[Obj.mapSeq]
theorem Inv.lst{a:List (Addr×Obj)}{b:St}{H:Hp}{s:Shared}{p:Addr}{xs:List V}(I:Inv X a b H s)(h:H p=some (.lst xs)) :
  ∃ (its:List Value) (n:Nat),ZL xs its∧s.heap.get? p=some { cls:=.type "list",data:=.seq its.toArray n }∧xs.length≤sizeLine:=by
 obtain⟨z,its,n,r,e⟩:=I.hok p _ h;exact⟨its,n,r,e,z⟩
theorem Inv.lstUpd{c:List (Addr×Obj)}{d:St}{H:Hp}{s:Shared}{p:Addr}{xs ys:List V}{its its':List Value}{n a:Nat}{f:Obj→Obj}(I:Inv X c d H s)(h:H p=some (.lst xs))
  (i:s.heap.get? p=some { cls:=.type "list",data:=.seq its.toArray n }) (g:f { cls:=.type "list",data:=.seq its.toArray n }={ cls:=.type "list",data:=.seq its'.toArray a }) (r:ZL ys its') (j:ys.length≤sizeLine) (t:Nat) :
  Inv X c d (upd H p (.lst ys)) { s with heap:=s.heap.update p f,toks:=t }:=by
 have e:(s.heap.update p f).get? p=some { cls:=.type "list",data:=.seq its'.toArray a }:=by rw[Heap.get?_update_self f i (by rw[g]<;>rfl),g]
 refine I.write (x:=p) (e:=p) (by rw[h];trivial) #[8] (fun b u k q=>(Heap.get?_update_other _ _ (Ne.symm k)).trans q) ⟨_,e⟩ ?_;exact⟨j,its',a,r,e⟩
def Zsc:V→V→V→Hp→(Hp→Prop)→Prop:=fun o i v H Q=>∃p xs k j,o=.ref p∧i=.int k∧H p=some (.lst xs)∧ixN xs.length k=some j∧Q (upd H p (.lst (xs.set j v)))
theorem Np:RS X Zsc:=by
 intro w s x H o i v ov iv u Q I y z A h;obtain⟨p,B,k,j,rfl,rfl,e,C,q⟩:=h;cases y;obtain⟨t,rfl⟩:=z;obtain⟨its,n,r,b,D⟩:=I.lst e;obtain⟨a,h2,f,g⟩:=Nt C;have c:=r.length;have hn:=Vg;have l:Inv X w x (upd H p (.lst (B.set j v))) { s with heap:=s.heap.update p (Obj.mapSeq (·.setIfInBounds j u)) } :=
  I.lstUpd e b (Zlb its n j u) (r.set A j) (by rw[QaA];exact D) s.toks
 by_cases m:0≤k
 ·have d:k.toNat=j:=by rw[seqIndex_of m g]at a;exact Qr a
  exact PySem.W.ki_setAt b m #[2] (by rw[QG,← c];exact g) (by rw[d];exact⟨_,l,q⟩)
 ·have d:(k+(its.toArray.size:Int)).toNat=j:=by rw[seqIndex_neg #[2] f]at a;rw[QG,← c];exact Qr a
  exact PySem.W.ki_setBack b #[2] (by rw[QG,← c];exact f) #[2] (by rw[d];exact⟨_,l,q⟩)
theorem Zje(lo a:Option Int)(n:Nat):(sliceBounds lo a none n).1=((HT.sIx n 0 lo:Nat):Int)∧(sliceBounds lo a none n).2.1=((HT.sIx n n a:Nat):Int)∧(sliceBounds lo a none n).2.2=1:=by
 refine⟨?_,?_,rfl⟩
 ·cases lo with
  | none=>simp[sliceBounds,HT.sIx]
  | some i =>
   simp only[sliceBounds,HT.sIx,Option.getD_none,show (1:Int)>0 by decide,if_true];by_cases h:i<0
   ·simp only[h,if_true]<;>lia
   ·simp only[h,if_false]<;>lia
 ·cases a with
  | none=>simp[sliceBounds,HT.sIx]
  | some i =>
   simp only[sliceBounds,HT.sIx,Option.getD_none,show (1:Int)>0 by decide,if_true];by_cases h:i<0
   ·simp only[h,if_true]<;>lia
   ·simp only[h,if_false]<;>lia
theorem ZhA(its:List Value)(lo a:Option Int):slicePick its.toArray lo a none=((its.drop (HT.sIx its.length 0 lo)).take (HT.sIx its.length its.length a-HT.sIx its.length 0 lo)).toArray:=by obtain⟨b,c,d⟩:=Zje lo a its.toArray.size;unfold slicePick;rw[b,c,d];simp only[sliceRange_one,pick_run,List.size_toArray]<;>rfl
inductive RSl (K:#[7]) (x:V) (lo hi:Option Int) (H:Hp) (B:Addr→Hp→Prop):Prop where
 | mk (a:Addr) (xs:List V) (e:x=.ref a) (s:SqL K H a xs) (q:∀p,H p=none→B p (upd H p (.lst (WY xs lo hi))))
def No(K:#[7]):V→Option Int→Option Int→Hp→VK→Prop:=fun x lo a H Q=>RSl K x lo a H fun p H'=>Q (.ref p) H'
theorem Zo1:SlR X (No X.K):=by intro aa s σ H x v vl vu lo d sl Q I f g i j h;obtain⟨a,c,rfl,k,q⟩:=h;cases f;obtain⟨its,r,e,l⟩:=I.list k;have m:=r.length;refine⟨"list",_,slot_list_getitem.lookup,e.isList.typeIs,?_⟩;refine wpAny_getItem_list_slice e.isList g i j .none #[4] ?_ (by rw[QG]<;>lia);rw[ZhA,← m];refine⟨.ref s.heap.objs.size,_,I.laid (t':=s.toks) (o:=.lst (WY c lo d)) (fun b ob q=>Qc _ q) (Qh _) ?_,rfl,q _ (I.hok.fresh (Qh _))⟩;exact⟨QB (ZjO c lo d) l,_,0,(r.drop (HT.sIx c.length 0 lo)).take (HT.sIx c.length c.length d-HT.sIx c.length 0 lo),Qs _ rfl⟩
noncomputable def WF:V→Bool
 | .non=>true
 | .bl _=>true
 | .int _=>true
 | .str _=>true
 | _=>false
noncomputable def eqV:V→V→Bool
 | .non,.non=>true
 | .bl a,.bl b=>a == b
 | .bl a,.int b=>(if a then 1 else 0) == b
 | .int a,.bl b=>a == (if b then 1 else 0)
 | .int a,.int b=>a == b
 | .str a,.str b=>a == b
 | _,_=>false
theorem Zrx{A:Around}{s:Shared}{y x:V}{u v:Value}(e:ZM y u)(c:ZM x v)(g:WF y=true)(f:WF x=true):SeqAt.EqAt A s u v (eqV y x):=by
 cases y with
 | non =>
  cases e;cases x with
  | non=>cases c;exact SeqAt.EqAt.same _
  | bl b=>cases c;exact SeqAt.EqAt.none_bool b
  | int b=>obtain⟨t,rfl⟩:=c;exact SeqAt.EqAt.none_int b t
  | str b=>obtain⟨t,rfl⟩:=c;exact SeqAt.EqAt.none_str b t
  | _=>exact absurd (show false=true from f) Qq
 | bl a =>
  cases e;cases x with
  | non=>cases c;exact SeqAt.EqAt.bool_none a
  | bl b=>cases c;exact SeqAt.EqAt.bool_bool a b
  | int b=>obtain⟨t,rfl⟩:=c;exact SeqAt.EqAt.bool_int a b t
  | str b=>obtain⟨t,rfl⟩:=c;exact SeqAt.EqAt.bool_str a b t
  | _=>exact absurd (show false=true from f) Qq
 | int a =>
  obtain⟨d,rfl⟩:=e;cases x with
  | non=>cases c;exact SeqAt.EqAt.int_none a d
  | bl b=>cases c;exact SeqAt.EqAt.int_bool a d b
  | int b=>obtain⟨t,rfl⟩:=c;exact SeqAt.EqAt.int_int a d b t
  | str b=>obtain⟨t,rfl⟩:=c;exact SeqAt.EqAt.int_str a d b t
  | _=>exact absurd (show false=true from f) Qq
 | str a =>
  obtain⟨d,rfl⟩:=e;cases x with
  | non=>cases c;exact SeqAt.EqAt.str_none a d
  | bl b=>cases c;exact SeqAt.EqAt.str_bool a d b
  | int b=>obtain⟨t,rfl⟩:=c;exact SeqAt.EqAt.str_int a d b t
  | str b=>obtain⟨t,rfl⟩:=c;exact SeqAt.EqAt.str_str a d b t
  | _=>exact absurd (show false=true from f) Qq
 | _=>exact absurd (show false=true from g) Qq
noncomputable def eqU(x:V)(u:Value):Bool:=match u with
 | .none=>eqV .non x
 | .bool b=>eqV (.bl b) x
 | .int i _=>eqV (.int i) x
 | .str z _=>eqV (.str z) x
 | _=>false
theorem Nm{x y:V}{u:Value}(r:ZM y u)(f:WF y=true):eqU x u=eqV y x:=by
 cases y with
 | non=>cases r;rfl
 | bl b=>cases r;rfl
 | int i=>obtain⟨t,rfl⟩:=r;rfl
 | str z=>obtain⟨t,rfl⟩:=r;rfl
 | _=>exact absurd (show false=true from f) Qq
theorem RI{x:V}:∀ {xs:List V} {us:List Value},ZL xs us→xs.all WF=true→us.any (eqU x)=xs.any fun y=>eqV y x
 | _,_,.nil,_=>rfl
 | y::xs,u::us,.cons r t,f=>by rw[List.all_cons,Q6]at f;rw[QaQ,QaQ,Nm r f.1,RI t f.2]
theorem RH{A:Around}{s:Shared}{x:V}{v:Value}(a:ZM x v)(b:WF x=true):∀ {xs:List V} {us:List Value},ZL xs us→xs.all WF=true→∀u∈us,SeqAt.EqAt A s u v (eqU x u)
 | _,_,.nil,_=>fun u hu=>by cases hu
 | y::xs,u::us,.cons r t,f=>fun u' hu=>by
  rw[List.all_cons,Q6]at f;rcases QF.mp hu with rfl|hu
  ·rw[Nm r f.1];exact Zrx r a f.1 b
  ·exact RH a b t f.2 u' hu
noncomputable def inV(x:V)(xs:List V):Bool:=xs.any fun y=>eqV y x
def rIn(K:#[7])(a:Bool):R2:=fun x y H Q=>∃p xs,y=.ref p∧(SqL K H p xs∨SqT K H p xs)∧WF x=true∧xs.all WF=true∧Q (.bl (if a then !inV x xs else inV x xs)) H
theorem Zl2:OpR X (compareOp .In) (rIn X.K false):=by
 intro aa s σ H x y v u Q I b d h;obtain⟨p,xs,rfl,hq,c,fs,q⟩:=h;cases d;rcases hq with hq|hq
 ·obtain⟨its,r,a,e⟩:=I.list hq;refine SeqAt.in_listAt (eqU x) a.isList (fun w hw=>RH b c r fs w (by simpa using hw)) ⟨.bl _,H,I,rfl,?_⟩;rw[show its.toArray.any (eqU x)=its.any (eqU x) by simp,RI r fs];exact q
 ·obtain⟨its,r,a,e⟩:=I.tuple hq;refine SeqAt.in_tupleAt (eqU x) a (fun w hw=>RH b c r fs w (by simpa using hw)) ⟨.bl _,H,I,rfl,?_⟩;rw[show its.toArray.any (eqU x)=its.any (eqU x) by simp,RI r fs];exact q
theorem Zjc:Y1 X (.builtin "len") (fun xs H Q=>∃p ys,xs=[.ref p]∧(SqL X.K H p ys∨SqT X.K H p ys)∧Q (.int ys.length) H):=by
 intro aa s σ H xs us Q I r h;obtain⟨p,ys,rfl,hq,q⟩:=h;obtain⟨u,rfl,d⟩:=Yb r;cases d;have hn:=Vg;rcases hq with hq|hq
 ·obtain⟨its,a,b,e⟩:=I.list hq;have c:=a.length;exact Calls.call_len_list b.isList (by simp only[List.size_toArray]<;>lia) ⟨.int ys.length,H,I.tok _,⟨s.toks+1,by rw[QG,c]⟩,q⟩
 ·obtain⟨its,a,b,e⟩:=I.tuple hq;have c:=a.length;exact len_tuple b (by simp only[List.size_toArray]<;>lia) ⟨.int ys.length,H,I.tok _,⟨s.toks+1,by rw[QG,c]⟩,q⟩
theorem Wc:Y1 X (.builtin "len") (fun xs H Q=>∃z,xs=[.str z]∧z.length≤sizeLine∧Q (.int z.length) H):=by intro aa s σ H xs us Q I r h;obtain⟨z,rfl,hz,q⟩:=h;obtain⟨u,rfl,t,rfl⟩:=Yb r;have hn:=Vg;exact len_str #[2] ⟨.int z.length,H,I.tok _,⟨_,rfl⟩,q⟩
theorem ZiN:Y1 X (.type "list") (fun xs H Q=>∃p ys,xs=[.ref p]∧(SqL X.K H p ys∨SqT X.K H p ys)∧∀l,H l=none→Q (.ref l) (upd H l (.lst ys))):=by
 intro w s x H xs us Q I r h;obtain⟨p,ys,rfl,hq,q⟩:=h;obtain⟨u,rfl,y⟩:=Yb r;cases y;have f:∀ (its:List Value),ZL ys its→ys.length≤sizeLine→∀ (a:Heap) (c:Nat),(∀b v,s.heap.get? b=some v→a.get? b=some v) →
   a.get? s.heap.objs.size=some { cls:=.type "list",dict:=none,data:=.seq its.toArray c,slots:=#[] }→EP X w x Q (.ref s.heap.objs.size) { s with heap:=a }:=fun its d g a c i e =>
  ⟨.ref s.heap.objs.size,_,I.laid (t':=s.toks) i (Qh _) (show Z7 X.prog X.w _ a _ (.lst ys) from⟨g,its,c,d,e⟩),rfl,q _ (I.hok.fresh (Qh _))⟩
 rcases hq with hq|hq
 ·obtain⟨its,d,j,g⟩:=I.list hq;have z:=d.length;obtain⟨o,k,m,n,t⟩:=j.isList;exact call_list_seq p #[8] k m t (fun a c i e=>f its d g a c i e) (by simp only[List.size_toArray]<;>lia)
 ·obtain⟨its,d,j,g⟩:=I.tuple hq;have z:=d.length;obtain⟨o,k,m,n,t⟩:=j;exact call_list_seq p (.inr rfl) k m t (fun a c i e=>f its d g a c i e) (by simp only[List.size_toArray]<;>lia)
def tyV(K:#[7])(T:String)(x:V)(H:Hp):Prop:=match x with
 | .str _=>T = "str"
 | .int _=>T = "int"
 | .ref p=>(T = "list"∧∃b,SqL K H p b)∨(T = "tuple"∧∃o,K.lookup p=some o∧o.cls=.type "tuple"∧o.dict=none) ∨
   (T = "dict"∧((∃a,H p=some (.dK a))∨∃a,H p=some (.dT a)))∨(T = "set"∧∃S n,H p=some (.set S n))
 | _=>False
theorem Nl{j:List (Addr×Obj)}{k:St}{H:Hp}{s:Shared}{T:String}{x:V}{v:Value}(I:Inv X j k H s)(r:ZM x v)(ty:tyV X.K T x H) :
  s.TypeIs v T∧∀a,v=.ref a→∃ob,s.heap.get? a=some ob∧ob.dict=none:=by
 cases x with
 | str z=>obtain⟨t,rfl⟩:=r;cases (show T = "str" from ty);exact⟨typeIs_str s z t,fun _ e=>nomatch e⟩
 | int i=>obtain⟨t,rfl⟩:=r;cases (show T = "int" from ty);exact⟨typeIs_int s i t,fun _ e=>nomatch e⟩
 | ref p =>
  cases r;rcases ty with⟨rfl,xs,l⟩|⟨rfl,o,b,m,d⟩|⟨rfl,b⟩|⟨rfl,S,n,b⟩
  ·obtain⟨its,_,h,_⟩:=I.list l;refine⟨h.isList.typeIs,fun a e=>?_⟩;cases e;obtain⟨o,n,e,c,d,_⟩:=h;exact⟨o,e,d⟩
  ·refine⟨⟨o,I.kIn p o b,m⟩,fun a e=>?_⟩;cases e;exact⟨o,I.kIn _ o b,d⟩
  ·have z:∃o,s.heap.get? p=some o∧o.ExactDict:=by
    rcases b with⟨f,b⟩|⟨f,b⟩
    ·obtain⟨_,_,_,_,o,_,_,e,ex,_⟩:=I.hok p _ b;exact⟨o,e,ex⟩
    ·obtain⟨_,_,_,_,o,_,_,e,ex,_⟩:=I.hok p _ b;exact⟨o,e,ex⟩
   obtain⟨o,e,ex⟩:=z;refine⟨⟨o,e,ex.1⟩,fun a g=>?_⟩;cases g;exact⟨o,e,ex.2.1⟩
  ·obtain⟨o,_,_,_,e,ex,_⟩:=I.hok p _ b;refine⟨⟨o,e,ex.1⟩,fun a g=>?_⟩;cases g;exact⟨o,e,ex.2.1⟩
 | _=>exact False.elim ty
def ZsJ(K:#[7])(T:String)(r:V→List V→Hp→VK→Prop)(to:TE):TE:=fun b H Q=>to b H fun x a=>tyV K T x a∧r x [] a Q
def tBM(K:#[7])(T:String)(r:V→List V→Hp→VK→Prop)(to:TE)(t:TA):TE:=fun a H Q=>to a H fun x b=>tyV K T x b∧t a b fun xs c=>r x xs c Q
variable {o e:Expr} {es:List Expr} {to:TE} {t:TA} {name:Str} {av ax:Pos} {T id:String} {r:V→List V→Hp→VK→Prop}
theorem ZrH(e:PlainAttrs T)(slot:Slot T name id)(f:typeOf (.builtin id)=pure (.type "method_descriptor"))(hm:MtR X id r)(g:PE X o to)
  (i:attributeBase o name X.env (eval o X.env)=eval o X.env:=by rfl) (j:(av.endLine == ax.line)=true:=by rfl):PE X (.Call (.Attribute o name av) [] [] ax) (ZsJ X.K T r to):=by
 intro a s b H Q I h;refine wpAny_Call_method0_late i j (thn (g a s b H _ I h) ?_);rintro v k ⟨x,l,c,d,ty,m⟩;obtain⟨n,p⟩:=Nl c d ty;exact⟨T,id,e,slot,f,n,p,Calls.callWith_builtin rfl (QaO (hm a k b l x [] v [] Q c d .nil m))⟩
theorem Xy(g:PlainAttrs T)(slot:Slot T name id)(i:typeOf (.builtin id)=pure (.type "method_descriptor"))(hm:MtR X id r)(j:PE X o to)(ha:PA X (e::es) t)
  (k:attributeBase o name X.env (eval o X.env)=eval o X.env:=by rfl)
  (l:((backTo ax (starEach (e::es) X.env)).all (fun x=>!x.1)&&(backToKw ax (keywordEach [] X.env)).all (fun x=>x.1.isSome)
   && decide ((e::es).length+([]:List Keyword).length+(if ([]:List Keyword).isEmpty then 0 else 1)<30))=true:=by rfl)
  (m:(av.endLine == ax.line)=true:=by rfl) (n:starEach (e::es) X.env=(false,eval e X.env)::starEach es X.env:=by rfl) (p:(backTo ax (starEach es X.env)).any (·.1)=false:=by rfl) :
  PE X (.Call (.Attribute o name av) (e::es) [] ax) (tBM X.K T r to t):=by
 intro a s b H Q I h;refine wpAny_Call_method_late k l m rfl (thn (j a s b H _ I h) ?_);rintro v q ⟨x,u,c,d,ty,w⟩;obtain⟨y,z⟩:=Nl c d ty;refine⟨T,id,g,slot,i,y,z,?_⟩;have f:=ha ax a q b u _ c w;rw[n]at f ⊢;refine Calls.callWith_builtin (by show (false||(backTo ax (starEach es X.env)).any (·.1))=false;rw[p]<;>rfl) (Calls.evalArgs_plain ?_);exact thn f fun A B ⟨C,D,E,F,G⟩=>hm a B b D x C v A Q E d F G
end
def MtM(X:Cx)(id:String)(r:V→List V→Hp→VK→Prop):Prop :=
 ∀ (a:List (Addr×Obj)) (s:Shared) (b:St) (H:Hp) (x:V) (c:List V) (v:Value) (d:List Value) (Q:VK),Inv X a b H s→ZM x v→ZL c d→r x c H Q →
  #[9,X] (call (.builtin id) (v::d)) (EP X a b Q) X.xe s
theorem ZL.one:∀ {x:V} {us:List Value},ZL [x] us→∃u,us=[u]∧ZM x u
 | _,_,.cons r .nil=>⟨_,rfl,r⟩
theorem ZL.two:∀ {x y:V} {us:List Value},ZL [x,y] us→∃u v,us=[u,v]∧ZM x u∧ZM y v
 | _,_,_,.cons r (.cons q .nil)=>⟨_,_,rfl,r,q⟩
theorem ZL.zero:∀ {us:List Value},ZL [] us→us=[]
 | _,.nil=>rfl
theorem ZL.reverse{xs:List V}{us:List Value}(h:ZL xs us):ZL xs.reverse us.reverse:=by
 induction h with
 | nil=>exact .nil
 | cons r t a=>rw[QaI,QaI];exact ZL.append a (.cons r .nil)
section
variable {X:Cx} {aa:List (Addr×Obj)} {σ:St} {H:Hp} {s:Shared} {l b:Addr} {xs ys zs:List V}
theorem Inv.lset{its its':List Value}{n:Nat}{f:Array Value→Array Value}{t':Nat}(I:Inv X aa σ H s)(a:H l=some (.lst xs))
  (e:s.heap.get? l=some { cls:=.type "list",data:=.seq its.toArray n }) (b:f its.toArray=its'.toArray) (hv:ZL ys its') (c:ys.length≤sizeLine) :
  Inv X aa σ (upd H l (.lst ys)) { s with heap:=s.heap.update l (Obj.mapSeq f),toks:=t' }:=by
 have q:=PySem.IsL.update e f;rw[b]at q;refine I.write (x:=l) (e:=l) (by rw[a];exact trivial) #[8] (fun b' u d g=>(Heap.get?_update_other s.heap (Obj.mapSeq f) (Ne.symm d)).trans g) ⟨_,q⟩ ?_;exact⟨c,its',_,hv,q⟩
theorem Inv.lnew{its:List Value}{t':Nat}(I:Inv X aa σ H s)(hv:ZL ys its)(a:ys.length≤sizeLine) :
  Inv X aa σ (upd H s.heap.objs.size (.lst ys)) { s with heap:=s.heap.push { cls:=.type "list",data:=.seq its.toArray },toks:=t' } :=
 I.laid (fun _ _ q=>Qc _ q) (Qh _) ⟨a,its,0,hv,Qs _ rfl⟩
theorem Inv.fresh(I:Inv X aa σ H s):H s.heap.objs.size=none:=I.hok.fresh (Qh _)
theorem Inv.lstM(I:Inv X aa σ H s)(a:H l=some (.lst xs)):xs.length≤sizeLine∧∃ (its:List Value) (n:Nat),ZL xs its∧xs.length=its.length∧s.heap.get? l=some { cls:=.type "list",data:=.seq its.toArray n }:=by obtain⟨z,its,n,r,e⟩:=I.hok l _ a;exact⟨z,its,n,r,r.length,e⟩
end
section
variable {X:Cx}
inductive RAp (x:V) (vs:List V) (H:Hp) (B:Hp→Prop):Prop where
 | mk (l:Addr) (xs:List V) (y:V) (a:x=.ref l) (b:vs=[y]) (c:H l=some (.lst xs)) (d:xs.length<sizeLine) (q:B (upd H l (.lst (xs++[y]))))
def Zp0:V→List V→Hp→VK→Prop:=fun x vs H Q=>RAp x vs H fun H'=>Q .non H'
theorem WE:MtM X "list.append" Zp0:=by intro aa s σ H x vs v us Q I b c h;obtain⟨l,xs,y,rfl,rfl,a,hz,q⟩:=h;cases b;obtain⟨u,rfl,d⟩:=c.one;obtain⟨z,its,n,r,hl,e⟩:=I.lstM a;refine call_meets F.slot_list_append ⟨_,e,rfl⟩ F.entry_list_append (F.args_list_append_2 _ _) (PySem.list_append l its.toArray n u (by rw[QG];lia)) ⟨e,?_⟩;refine⟨.non,_,I.lset (its':=its++[u]) a e #[4] (r.append (.cons d .nil)) ?_,rfl,q⟩;rw[Qi,Qy];lia
def Zm0:V→List V→Hp→VK→Prop:=fun x vs H Q=>∃l xs,x=.ref l∧vs=[]∧H l=some (.lst xs)∧Q .non (upd H l (.lst xs.reverse))
theorem Zk9:MtM X "list.reverse" Zm0:=by intro aa s σ H x vs v us Q I b c h;obtain⟨l,xs,rfl,rfl,a,q⟩:=h;cases b;have d:=c.zero;subst d;obtain⟨z,its,n,r,hl,e⟩:=I.lstM a;refine call_meets F.slot_list_reverse ⟨_,e,rfl⟩ F.entry_list_reverse (F.args_list_reverse_1 _) (AutoSeq1.list_reverse_list_0 l its.toArray n (by rw[QG];lia)) ⟨e,?_⟩;refine⟨.non,_,I.lset (its':=its.reverse) a e #[4] r.reverse ?_,rfl,q⟩;rw[QaP];lia
def ZsO:R2:=fun x y H Q=>∃l b xs zs,x=.ref l∧y=.ref b∧H l=some (.lst xs)∧H b=some (.lst zs)∧xs.length+zs.length≤sizeLine∧∀p,H p=none→Q (.ref p) (upd H p (.lst (xs++zs)))
theorem VQ:OpR X (binaryOp .Add) ZsO:=by
 intro aa s σ H x y v u Q I c d h;obtain⟨l,b,xs,zs,rfl,rfl,f,g,hz,q⟩:=h;cases c;cases d;obtain⟨z,its,n,r,hl,e⟩:=I.lstM f;obtain⟨z2,a,n2,i,bm,j⟩:=I.lstM g;refine PySem.P.add_list e j ?_ (by rw[QG,QG];lia);have k:its.toArray++a.toArray=(its++a).toArray:=by simp
 rw[k];exact⟨.ref _,_,I.lnew (t':=s.toks) (r.append i) (by rw[Qi];lia),rfl,q _ I.fresh⟩
end
end L2
namespace Att
open PySem PySem.W PySem.Calls PyProof.Rows
theorem Zgy{P:Params}{h:Heap}:∀ (ns:List Int) (vs:List Value),WellAll P h vs (ns.map WData.int)→IntsAre vs ns:=by
 intro ns;induction ns with
 | nil=>intro vs w;rw[Qa1]at w;cases w;exact .nil
 | cons n ns c =>
  intro vs w;rw[Qj]at w;cases w with
  | cons a b=>cases a;exact .cons _ _ (c _ b)
theorem Zmn{l:OpenLaw}{n:Nat}(i:l.most=some n){P:Params}{h:Heap}{args:List WData}{e:List Value}
  (f:l.row.toRowW.claim.pre args=true) (j:WellAll P h e args) :
  ∃a vs ns,e=[Value.ref a]∧args=[WData.list (ns.map WData.int)]∧h.get? a=some { cls:=.type "list",data:=.seq vs.toArray }∧IntsAre vs ns∧ns.length≤n:=by
 have k:WShape.hasAll [] args [.list .int]=true:=(pre_splitW f).1;have g:l.pre.holds [] { args:=args }=true:=(pre_splitW f).2;obtain⟨d,r,rfl,m,o⟩:=hasAllW_cons k;obtain rfl:=hasAllW_nil o;obtain⟨xs,rfl,p⟩:=hasW_list m;obtain⟨ns,rfl⟩:=items_int p;have s:ns.length≤n:=by
  unfold OpenLaw.pre at g;have b:(WTm.not (.lt (.lit (.int (n:Int))) (.len (.arg 0)))).holds [] { args:=[.list (ns.map .int)] }=true:=by have b:=(holds_andW g).1;rw[i]at b;exact b
  have c:=condW_of b (w_not (w_lt w_lit (w_len_list (w_arg rfl))));rw[Qa]at c;refine Nat.le_of_not_lt fun q=>?_;have t:(n:Int)<((ns.length:Nat):Int):=by lia
  first
   | (rw[decide_eq_true t]at c;exact absurd c #[6])
   | (simp at c;lia)
 cases j with
 | cons u v =>
  cases v;cases u with
  | list w x=>exact⟨_,_,ns,rfl,rfl,w,Zgy ns _ x,s⟩
theorem ZmD(l:OpenLaw)(args:List WData):l.row.toRowW.claim.post args (.bool true) args=true :=
 postW_of (r:=l.row.toRowW) (X:=(true == true))
  (show WShape.has [] (.bool true) .bool=true by first|rfl|decide|simp[WShape.has,WShape.arms,WShape.armsAll])
  (show (WTm.eq .res (.lit (.bool true))).value [] { args:=args,res:=some (.bool true),after:=args }=some (.bool (true == true)) from w_eq_bool (w_res rfl) w_lit) rfl
theorem attach_call{l:OpenLaw}{n:Nat}{q:Program}{j:List Str}{k:(Str→Option Value)→Heap→Prop}{m:World→Heap→Prop}{d:DefRec}
  (s:l.most=some n) (t:d.params.defaults=[])
  (call:∀ (w:World) (s₀ b:Shared) (mg g:Str→Option Value) (fa:Addr) (o:Obj) (h c i:Value) (a:Addr) (vs:List Value) (ns:List Int),
   Ground q j [] k w s₀ mg g b.heap→m w b.heap →
   b.heap.get? fa=some o→o.data=.func (docDef d.name d.params d.body d.scope h c i)→b.heap.CodeRec c d.name→mg d.name=some (.ref fa) →
   b.heap.get? a=some { cls:=.type "list",data:=.seq vs.toArray }→IntsAre vs ns→ns.length≤n→b.gens = #[] →
   codeAny (model l.prog w) callerA (.call (.ref fa) ⟨[.ref a],[]⟩) (fun r e=>r=.ok (.ret (.bool true))∧OldK b.heap e.heap∧e.os=b.os∧AllBare e.gens) b) :
  WalkO q j k m l.row.toRowW d [] (fun f vs=>PySem.call f vs):=by
 intro w s₀ b mg g G Y fa o h c i u kV v x y p hmg z args mN as A DB iJ B fQ;obtain rfl:u=.none:=Dflts.none p t;obtain rfl:kV=.none:=Dflts.noKw p;obtain⟨a,vs,ns,rfl,rfl,C,D,E⟩:=Zmn s A B;refine enter_call (codeAny_mono (call w s₀ b mg g fa o h c i a vs ns G Y v (fd_plain x) y hmg C D E z) fun r e F=>?_);obtain⟨rfl,H,I,J⟩:=F;exact⟨.inl ⟨.bool true,.bool true,[],rfl,fun _=>rfl,.bool true,ZmD l _,fun _=>⟨List.Pairwise.nil,fun _ K=>(nomatch K)⟩⟩,H,I,J⟩
end Att
namespace L2
open PySem PySem.Spec PyProof.Rows
theorem RG:∀ {vs:List Value} {ns:List Int},IntsAre vs ns→ZL (ns.map V.int) vs
 | _,_,.nil=>.nil
 | _,_,.cons n t h=>.cons ⟨t,rfl⟩ (RG h)
def RF(H:Hp):Prop:=∀b,H b=none∨∃o xs,H b=some (.frz o (.lst xs))
theorem ZoJ{P:Program}{w:World}{K:#[7]}{mg A:Str→Option Value}{CX:CXT}{k:Nat}{fa a:Addr}{D:FuncData}{x:Str}{sp:Sp}{c:Shared}{vs:List Value}{ns:List Int}
  (KX:K.In c.heap) (E:c.heap.Ns mainGlobals mg) (hb:c.heap.Ns builtinsNs A) (Q:∀x:Str,x ≠ "__name__"→A x=bootBuiltins x) (R:c.heap.NoLimit) (S:c.gens = #[])
  (ha:c.heap.get? a=some { cls:=.type "list",data:=.seq vs.toArray }) (G:IntsAre vs ns) (hl:ns.length≤sizeLine) (T:Y5 k callerA)
  (F:∀f:Heap,K.In f→f.Ns mainGlobals mg→X2 P w K mg f CX k fa D [x] sp) (U:∀ (s:Shared) (u:Value),BindsTo s D ⟨[u],[]⟩ [(x,u)])
  (W:∀H:Hp,RF H→SqL K H a (ns.map V.int)→sp [.ref a] H (fun v _=>v=.bl true) fun _ _ _=>False)
  (X:∀H e g,CX [] H c (fun _ _ _=>False) e g→False) :
  codeAny (model P w) callerA (.call (.ref fa) ⟨[.ref a],[]⟩) (fun r g=>r=.ok (.ret (.bool true))∧OldK c.heap g.heap∧g.os=c.os∧AllBare g.gens) c:=by
 have I:=RG G;have Y:=G.length;have core:∀H:Hp,RF H→SqL K H a (ns.map V.int)→HOk P w H c.heap→(∀b,H b≠none→b=a)→(H a≠none→K.lookup a=none) →
   codeAny (model P w) callerA (.call (.ref fa) ⟨[.ref a],[]⟩) (fun r g=>r=.ok (.ret (.bool true))∧OldK c.heap g.heap∧g.os=c.os∧AllBare g.gens) c:=by
  intro H J Z i L hK;have M:∀ {b:Addr} {o:Obj},c.heap.get? b=some o→H b=none→(WL c.heap H).get? b=some o:=fun e n=>Zos e n;have mL:∀ {b:Addr} {o:Obj} {j:Array DictEntry} {l:Nat},c.heap.get? b=some o→o.data=.dict j l→H b=none:=fun {b o j l} e d=>by
   cases q:H b with
   | none=>rfl
   | some u=>have B:b=a:=L b (by rw[q];simp);subst B;rw[ha]at e;cases e;have d':Data.seq vs.toArray _=Data.dict j l:=d;cases d'
  have y:∀ {b:Addr} {m:Str→Option Value},c.heap.Ns b m→(WL c.heap H).Ns b m:=fun {b m} ⟨o,j,l,e,d,r⟩=>⟨o,j,l,M e (mL e d),d,r⟩;have N:K.In (WL c.heap H):=fun b o e=>M (KX b o e) (by
   cases q:H b with
   | none=>rfl
   | some u=>have B:b=a:=L b (by rw[q];simp);subst B;rw[hK (by rw[q];simp)]at e;cases e)
  have hM:Mod K mg (WL c.heap H):=⟨N,y E,⟨A,y hb,Q⟩,let ⟨mc,h1,h2⟩:=R;⟨mc,y h1,h2⟩⟩;have e0:VT P w K mg (WL c.heap H) callerA [] c H:=⟨rfl,hM,fun b o e=>ZoX e,Nat.le_of_eq (ZmI _ _),trivial,fun b hb=>absurd (show b∈([]:List Addr) from hb) #[4],i,.of_eq S⟩;refine codeAny_mono ((F _ N (y E)).run callerA [] c H ⟨[.ref a],[]⟩ [.ref a] [.ref a] _ _ T e0 (U c (.ref a)) (.cons rfl .nil) (W H J Z)) fun r g h=>?_;cases r with
  | error e=>exact(X H e g h).elim
  | ok fl =>
   cases fl with
   | next=>exact False.elim h
   | brk=>exact False.elim h
   | cont=>exact False.elim h
   | ret u =>
    obtain⟨v,H',os,p,un,wl,r',q⟩:=h;have q':v=.bl true:=q;subst q';obtain rfl:u=Value.bool true:=r';refine⟨rfl,OldK.of_keep fun b o e=>?_,os,p⟩;cases q:H b with
    | none=>exact un.keep b o e q (by intro z;exact absurd (show b∈([]:List Addr) from z) #[4]) #[4]
    | some u =>
     rcases J b with z|⟨ob,xs,z⟩
     ·rw[q]at z;cases z
     ·have z2:=un.frzs b ob _ z;obtain⟨O,_⟩:=i b _ z;obtain⟨e2,_⟩:=wl b _ z2;rw[e]at O;cases O;exact e2
 cases C:K.lookup a with
 | some o=>have e:=KX a o C;rw[ha]at e;cases e;refine core (fun _=>none) (fun _=>.inl rfl) (.inr ⟨_,vs.toArray,_,C,rfl,rfl,rfl,by rw[QG,Y];exact hl,by simpa using I⟩) (fun b u z=>by have t:(none:Option HO)=some u:=z;cases t) (fun b z=>absurd rfl z) fun z=>absurd rfl z
 | none =>
  refine core (fun b=>if b=a then some (.frz { cls:=.type "list",data:=.seq vs.toArray } (.lst (ns.map V.int))) else none) (fun b=>?_) (.inl (.inr ⟨{ cls:=.type "list",data:=.seq vs.toArray },if_pos rfl⟩)) (fun b u z=>?_) (fun b z=>?_) fun _=>C
  ·by_cases hb:b=a
   ·exact .inr ⟨_,_,if_pos hb⟩
   ·exact .inl (if_neg hb)
  ·by_cases hb:b=a
   ·have t:=(if_pos hb).symm.trans z;cases t;subst hb;exact⟨ha,by rw[Qa];exact hl,vs,_,I,ha⟩
   ·have t:=(if_neg hb).symm.trans z;cases t
  ·by_cases hb:b=a
   ·exact hb
   ·exact absurd (if_neg hb) z
theorem walk_of{l:PySem.W.OpenLaw}{n k:Nat}{q:Program}{i:List Str}{j:(Str→Option Value)→Heap→Prop}{c:World→Heap→Prop}{d:DefRec}{K:Params→#[7]}{CX:World→CXT}{sp:World→Sp}{x:Str}
  (m:l.most=some n) (p:n≤sizeLine) (r:d.params.defaults=[]) (t:Y5 k callerA)
  (y:∀ (w:World) (h:Heap),c w h→(K w.params).In h)
  (F:∀ (w:World) (mg:Str→Option Value) (fa:Addr) (h:Heap),(K w.params).In h→h.Ns mainGlobals mg→mg d.name=some (.ref fa) →
   ∃b:FuncData,(∀ (s:Shared) (u:Value),BindsTo s b ⟨[u],[]⟩ [(x,u)]) ∧
    ∀base:Heap,(K w.params).In base→base.Ns mainGlobals mg→X2 l.prog w (K w.params) mg base (CX w) k fa b [x] (sp w))
  (z:∀ (w:World) (H:Hp) (a:Addr) (ns:List Int),ns.length≤n→RF H→SqL (K w.params) H a (ns.map V.int)→sp w [.ref a] H (fun v _=>v=.bl true) fun _ _ _=>False)
  (A:∀ (w:World) (H:Hp) (s:Shared) (e:Value) (s':Shared),CX w [] H s (fun _ _ _=>False) e s'→False) :
  PySem.W.WalkO q i j c l.row.toRowW d [] (fun f vs=>PySem.call f vs):=by
 refine Att.attach_call m r fun w s₀ B mg mb fa o pm cd cV a vs ns G Y ho hd eW hmg C D g E=>?_;have KX:=y w _ Y;obtain⟨b,I,J⟩:=F w mg fa _ KX G.T.g hmg;exact ZoJ KX G.T.g G.T.b G.T.builtins G.T.nolimit E C D (QB g p) t J I (fun H L M=>z w H a ns g L M) fun H e s'=>A w H B e s'
noncomputable def YC(s:Stmt)(j:Nat):Stmt:=match s with
 | .ClassDef _ _ _ a _ _ _ _ _ _ _=>a.getD j (.Pass ⟨0,0,0,0⟩)
 | _=>.Pass ⟨0,0,0,0⟩
noncomputable def Zq(s:Stmt):Arguments:=match s with
 | .FunctionDef _ a _ _ _ _ _ _ _ _=>a
 | _=>{ posonlyargs:=[],args:=[],vararg:=none,kwonlyargs:=[],kw_defaults:=[],kwarg:=none,defaults:=[] }
noncomputable def Zm(s:Stmt):List Stmt:=match s with
 | .FunctionDef _ _ b _ _ _ _ _ _ _=>b
 | _=>[]
noncomputable def Zg(s:Stmt):Scope:=match s with
 | .FunctionDef _ _ _ _ _ _ a _ _ _=>a
 | _=>{ kind:=.function,names:=[],isGenerator:=false,isCoroutine:=false }
abbrev CX0:CXT:=fun _ _ _ _ _ _=>False
abbrev E0:XK:=fun _ _ _=>False
theorem Tq{X:Cx}:VS CX0 X E0:=fun _ _ _ _ _ _ _ h=>h.elim
structure Fun (K:#[7]) (x aq:Str) (st:Stmt) (f:Addr) (fd:FuncData):Prop where
 ex:∃ (oc:Value) (od:Option Addr) (kV cV pm:Value) (an:Option Addr) (ai ct:Value) (jo:Array (Option Value)),
  fd=PySem.W.fnOf x aq (Zq st) (Zm st) (Zg st) .none kV cV pm an ai ct∧K.lookup f=some ⟨oc,od,.func fd,jo⟩∧PySem.W.codeIn K ai aq=true
 kp:PySem.W.keepIn K (.ref f)=true
section
variable {P:Program} {w:World} {K:#[7]} {mg:Str→Option Value} {base:Heap}
theorem Fun.ok{x b:Str}{st:Stmt}{f:Addr}{c:FuncData}{N ps:List Str}{k:Nat}{sp:Sp}(F:Fun K x b st f c)(S:Zr N ps (Zg st))(len:∀vs H Q E,sp vs H Q E→vs.length=ps.length)
  (d:∀ (a:Value) (A:Around) (outer:List Env) (s:Shared) (H:Hp) (vs:List V) (Q:VK) (E:XK),Y5 k (A.deeper (envOfC b (Zg st) s.heap.objs.size f a))→sp vs H Q E →
   ∃t,PSs (WI CX0 P w K mg base N b (Zg st) f a A outer s H E).nox (Zm st) t∧t { nx:=fun _ H'=>Q .non H',rt:=Q } (Xd N vs) H):X2 P w K mg base CX0 (k+1) f c ps sp:=by
 obtain⟨oc,od,kV,cV,pm,an,a,ct,jo,rfl,lk,e⟩:=F.ex;refine ZrN lk e S len fun A outer s H vs Q E g i=>?_;obtain⟨t,h,q⟩:=d a A outer s H vs Q E g i;exact⟨t,h.nox,q⟩
theorem Fun.binds{x e:Str}{st:Stmt}{f:Addr}{g:FuncData}{ps:List Str}(F:Fun K x e st f g)
  (h:∀ (kV a b:Value) (c:Option Addr) (d ct:Value) (us:List Value),us.length=ps.length→bindArgs (PySem.W.fnOf x e (Zq st) (Zm st) (Zg st) .none kV a b c d ct) ⟨us,[]⟩=pure (ps.zip us)):XQ K g ps []:=by
 obtain⟨oc,od,kV,a,b,c,d,ct,jo,rfl,lk,eW⟩:=F.ex;exact .all (h kV a b c d ct)
theorem ZI{x a:Str}{st:Stmt}{f:Addr}{h:Value}{i d:Option Addr}{j:Array (Option Value)}{kV e g b ct:Value}(l:K.lookup f=some ⟨h,i,.func (PySem.W.fnOf x a (Zq st) (Zm st) (Zg st) .none kV e g d b ct),j⟩)
  (c:PySem.W.codeIn K b a=true) (k:PySem.W.keepIn K (.ref f)=true):Fun K x a st f (PySem.W.fnOf x a (Zq st) (Zm st) (Zg st) .none kV e g d b ct):=⟨⟨h,i,kV,e,g,d,b,ct,j,rfl,l,c⟩,k⟩
end
theorem UA{A:Around}{k:Nat}(a:Y5 k A):A.units+1<cLine:=QaV (Nat.add_le_add_left (by decide:1≤64) _) a.units
theorem Zy{n:Nat}(h:n≤1000):n<sizeLine:=QaV h #[6]
section
variable {X:Cx}
theorem pv(i:Nat){x:Str}{pos:Pos}(a:X.N[i]? = some x:=by rfl)(hv:Vis X.env.scope x:=by first|exact Or.inl rfl|exact Or.inr #[3]|exact Or.inr (Or.inr rfl))(hd:(x == ("__debug__" : Str))=false:=by decide)
  (b:(x == ("__classdict__" : Str))=false:=by decide):PE X (.Name x pos) (Tx i):=RU a hv hd b
end
theorem YZ{A B:Prop}(h:B):if false=true then A else B:=by rw[if_neg Qq];exact h
theorem Xu{A B:Prop}(h:A):if true=true then A else B:=by rw[if_pos rfl];exact h
theorem Y3{c A B:Prop}[Decidable c](h1:c→A)(h2:¬ c→B):if c then A else B:=by
 by_cases h:c
 ·rw[if_pos h];exact h1 h
 ·rw[if_neg h];exact h2 h
theorem WD{c A B:Prop}[Decidable c](hc:c)(h:B):if (!decide c)=true then A else B:=by rw[decide_eq_true hc];exact YZ h
def ZG(H H':Hp):Prop:=∀b o,H b=some o→H' b=some o
theorem ZG.refl(H:Hp):ZG H H:=fun _ _ h=>h
theorem ZG.trans{H d e:Hp}(a:ZG H d)(b:ZG d e):ZG H e:=fun c o h=>b c o (a c o h)
theorem ZG.free{H H':Hp}(e:ZG H H'){l:Addr}(h:H' l=Option.none):H l=Option.none:=by
 cases q:H l with
 | none=>rfl
 | some o=>rw[e l o q]at h;cases h
theorem ZG.seq{K:#[7]}{H H':Hp}{a:Addr}{xs:List V}(e:ZG H H')(h:SqL K H a xs):SqL K H' a xs:=by
 rcases h with(h|⟨o,h⟩)|h
 ·exact .inl (.inl (e _ _ h))
 ·exact .inl (.inr ⟨o,e _ _ h⟩)
 ·exact .inr h
noncomputable def Y7(b:List (Str×Addr)):List (Str×NameKind)→List (Str×Addr)→List (Str×Addr)
 | [],a=>a
 | (n,k)::r,a=>if k == .free then Y7 b r ((n,(b.lookup n).getD 0)::a) else Y7 b r a
theorem Nk{d:Scope}{env:Env}(h:∀y∈d.names,y.2=.free→∃c,env.cells.lookup y.1=some c) :
  closureFor d env=pure (Y7 env.cells d.names []):=by
 have go:∀ (a:List (Str×NameKind)) (b:List (Str×Addr)),(∀y∈a,y.2=.free→∃c,env.cells.lookup y.1=some c) →
   (forIn a b fun (x:Str×NameKind) (r:List (Str×Addr))=>if (x.2 == NameKind.free)=true then (do let c ← cellOf env x.1;pure (ForInStep.yield ((x.1,c)::r))) else pure (ForInStep.yield r):Sem (List (Str×Addr)))=pure (Y7 env.cells a b):=by
  intro a;induction a with
  | nil=>intro b _;rfl
  | cons y r j =>
   intro b f;obtain⟨n,k⟩:=y;rw[List.forIn_cons];cases e:(k == NameKind.free) with
   | false =>
    have g:Y7 env.cells ((n,k)::r) b=Y7 env.cells r b:=by show (if (k == NameKind.free)=true then _ else _)=_;rw[e];rfl
    rw[g,← j b fun z i=>f z (Qt _ i)];simp only[e,Bool.false_eq_true,if_false,pure_bind]
   | true =>
    have m:k=.free:=by simpa using e
    obtain⟨c,l⟩:=f (n,k) Q0 m;have g:Y7 env.cells ((n,k)::r) b=Y7 env.cells r ((n,c)::b):=by show (if (k == NameKind.free)=true then _ else _)=_;rw[e,l];rfl
    have o:cellOf env n=pure c:=by unfold cellOf;rw[l]
    rw[g,← j ((n,c)::b) fun z i=>f z (Qt _ i)];simp only[e,if_true,o,pure_bind]
 have q:=go d.names [] h;unfold closureFor;first
  | (rw[show (forIn d.names ([]:List (Str×Addr)) _:Sem (List (Str×Addr)))=pure (Y7 env.cells d.names []) from q];rfl)
  | (simp only[bind_pure];exact q)
  | exact q
theorem RE(a:List (Str×Addr)):∀ (names:List (Str×NameKind)) (b:List (Str×Addr)) (x:Str) (c:Addr),(Y7 a names b).lookup x=some c →
  (∃y∈names,y.1=x∧y.2=.free∧c=(a.lookup x).getD 0)∨b.lookup x=some c
 | [],b,x,c,h=>.inr h
 | (n,k)::r,b,x,c,h=>by
  by_cases hk:(k == NameKind.free)=true
  ·have e:Y7 a ((n,k)::r) b=Y7 a r ((n,(a.lookup n).getD 0)::b):=by show (if (k == NameKind.free)=true then _ else _)=_;rw[if_pos hk]
   rw[e]at h;rcases RE a r _ x c h with⟨y,d,q⟩|q
   ·exact .inl ⟨y,Qt _ d,q⟩
   ·rw[QaK]at q;by_cases f:(x == n)=true
    ·rw[f]at q;have g:x=n:=by simpa using f
     subst g;exact .inl ⟨(x,k),Q0,rfl,by simpa using hk,(Qr q).symm⟩
    ·have g:(x == n)=false:=by simpa using f
     rw[g]at q;exact .inr q
  ·have e:Y7 a ((n,k)::r) b=Y7 a r b:=by show (if (k == NameKind.free)=true then _ else _)=_;rw[if_neg hk]
   rw[e]at h;rcases RE a r _ x c h with⟨y,d,q⟩|q
   ·exact .inl ⟨y,Qt _ d,q⟩
   ·exact .inr q
theorem RD(a:List (Str×Addr)):∀ (names:List (Str×NameKind)) (b:List (Str×Addr)) (x:Str),((∃y∈names,y.1=x∧y.2=.free)∨∃c,b.lookup x=some c) →
  ∃c,(Y7 a names b).lookup x=some c
 | [],b,x,h=>by
  rcases h with⟨y,hy,_⟩|h
  ·cases hy
  ·exact h
 | (n,k)::r,b,x,h=>by
  by_cases hk:(k == NameKind.free)=true
  ·have e:Y7 a ((n,k)::r) b=Y7 a r ((n,(a.lookup n).getD 0)::b):=by show (if (k == NameKind.free)=true then _ else _)=_;rw[if_pos hk]
   rw[e];refine RD a r _ x ?_;by_cases d:(x == n)=true
   ·exact .inr ⟨_,by rw[QaK,d]⟩
   ·have f:(x == n)=false:=by simpa using d
    rcases h with⟨y,hy,q⟩|⟨c,q⟩
    ·rcases QF.mp hy with rfl|hy
     ·exact absurd (by simpa using q.1.symm) d
     ·exact .inl ⟨y,hy,q⟩
    ·exact .inr ⟨c,by rw[QaK,f];exact q⟩
  ·have e:Y7 a ((n,k)::r) b=Y7 a r b:=by show (if (k == NameKind.free)=true then _ else _)=_;rw[if_neg hk]
   rw[e];refine RD a r _ x ?_;rcases h with⟨y,hy,q⟩|h
   ·rcases QF.mp hy with rfl|hy
    ·exact absurd (by simpa using q.2) hk
    ·exact .inl ⟨y,hy,q⟩
   ·exact .inr h
structure Z5 (N N':List Str) (o c:Scope):Prop where
 kind:c.kind=.function
 okind:o.kind=.function
 nocell:∀y∈c.names,y.2≠.cell
 loc:∀y∈c.names,y.2=.local→c.names.lookup y.1=some .local
 free:∀y∈c.names,y.2=.free→c.names.lookup y.1=some .free∧(o.names.lookup y.1=some .cell∨o.names.lookup y.1=some .free)
 len:N.length≤N'.length
 same:∀i∈List.range N.length,∀x∈N'[i]?,c.names.lookup x=some .local∨c.names.lookup x=some .free→c.names.lookup x=some .free∧N[i]? = some x
 nd:N'.Nodup
noncomputable def YR(X:Cx)(c:Scope)(a:List Str)(C:Addr)(s:Shared)(H:Hp)(fp:List Addr):Cx :=
 { X with N:=a,s₀:=s,H₀:=H,env:=compEnvC c (Y7 X.env.cells c.names []) C X.env,outer:=X.stack,stack:=X.stack,ex:=fp,fn:=fun _=>false,pn:=[],xe:=fun _ _=>False }
theorem Nj{env:Env}(c:env.scope.kind=.function):∀ (names:List (Str×NameKind)) (x:Str),
  (names.map fun (p:Str×NameKind)=>if (p.2 == NameKind.free&&env.scope.kind == .function&&env.kindOf p.1 == some .cell)=true then (p.1,NameKind.cell) else (p.1,p.2)).lookup x =
   match names.lookup x with
   | some .free=>if env.kindOf x=some .cell then some .cell else some .free
   | k=>k
 | [],x=>rfl
 | (n,k)::r,x=>by
  have g:=Nj c r x;rw[Qj];by_cases f:(x == n)=true
  ·have a:x=n:=by simpa using f
   subst a;have d:List.lookup x ((x,k)::r)=some k:=by rw[QaK];simp
   rw[d];by_cases e:k=.free
   ·subst e;by_cases b:env.kindOf x=some .cell
    ·simp[List.lookup_cons,c,b]
    ·simp[List.lookup_cons,c,b]
   ·have h:(k == NameKind.free)=false:=by simpa using e
    rw[h];simp only[Bool.false_and,Bool.false_eq_true,if_false,List.lookup_cons,beq_self_eq_true];all_goals (cases k<;>first|rfl|exact absurd rfl e)
  ·have a:(x == n)=false:=by simpa using f
   have d:List.lookup x ((n,k)::r)=List.lookup x r:=by rw[QaK,a]
   rw[d,← g];by_cases b:(k == NameKind.free&&env.scope.kind == .function&&env.kindOf n == some .cell)=true
   ·simp only[b,if_true,List.lookup_cons,a]
   ·simp only[b,if_false,List.lookup_cons,a,Bool.false_eq_true]
section
variable {X:Cx} {N N':List Str} {o c:Scope}
theorem Uz(S:Z5 N N' o c)(a:X.env.scope=o)(b:List (Str×Addr))(C:Addr)(x:Str):(compEnvC c b C X.env).kindOf x =
  match c.names.lookup x with
  | some .free=>if X.env.kindOf x=some .cell then some .cell else some .free
  | k=>k:=Nj (env:=X.env) (by rw[a];exact S.okind) c.names x
theorem Tp{names:List (Str×NameKind)}{x:Str}{k:NameKind}(h:names.lookup x=some k):(x,k)∈names:=Qal h
theorem Vf(S:Z5 N N' o c)(g:X.env.scope=o)(ok:X.Ok){x:Str}{a:Addr}(h:(Y7 X.env.cells c.names []).lookup x=some a) :
  X.env.cells.lookup x=some a∧c.names.lookup x=some .free:=by
 rcases RE _ _ _ _ _ h with⟨y,i,rfl,j,e⟩|q
 ·have d:=S.free y i j;have k:X.env.kindOf y.1=some .cell∨X.env.kindOf y.1=some .free:=by show X.env.scope.names.lookup y.1=_∨X.env.scope.names.lookup y.1=_;rw[g];exact d.2
  obtain⟨b,f⟩:=ok.has y.1 k;rw[f]at e;exact⟨by rw[f,e];rfl,d.1⟩
 ·cases q
theorem Ni(S:Z5 N N' o c)(d:X.env.scope=o)(ok:X.Ok){x:Str}(h:c.names.lookup x=some .free):∃a,(Y7 X.env.cells c.names []).lookup x=some a∧X.env.cells.lookup x=some a:=by obtain⟨a,b⟩:=RD X.env.cells c.names [] x (.inl ⟨(x,.free),Tp h,rfl,rfl⟩);exact⟨a,b,(Vf S d ok b).1⟩
theorem Zp8(S:Z5 N N' o c)(f:X.env.scope=o){l:List (Addr×Obj)}{n:St}{H:Hp}{s:Shared}{fp:List Addr}(I:Inv X l n H s)
  (i:∀b∈fp,XD X l H b) (p:∀b∈fp,b<s.heap.objs.size):(YR X c N' s.heap.objs.size s H fp).Ok where
 mod:=I.ok.mod
 kind:=S.kind
 glob:=I.ok.glob
 blt:=I.ok.blt
 above:=Qh _
 inj:=fun x y a r t=>I.ok.inj x y a (Vf S f I.ok r).1 (Vf S f I.ok t).1
 has:=fun x u=>by
  have e:=Uz (X:=X) S f (Y7 X.env.cells c.names []) s.heap.objs.size x;have g:(compEnvC c (Y7 X.env.cells c.names []) s.heap.objs.size X.env).kindOf x=some .cell∨(compEnvC c (Y7 X.env.cells c.names []) s.heap.objs.size X.env).kindOf x=some .free:=u;rw[e]at g;cases q:c.names.lookup x with
  | none=>rw[q]at g;rcases g with z|z<;>cases z
  | some k =>
   by_cases m:k=.free
   ·subst m;obtain⟨a,v,_⟩:=Ni S f I.ok q;exact⟨a,v⟩
   ·rw[q]at g;have w:k=.cell:=by cases k<;>first|rfl|exact absurd rfl m|(rcases g with z|z<;>cases z)
    subst w;exact absurd rfl (S.nocell _ (Tp q))
 cab:=fun x a h=>by cases (show false=true from h)
 hd:=I.ok.hd
 frames:=I.ok.frames
 stk:=.inl rfl
 exf:=fun b d=>⟨Qu (p b d),fun x a h=>(i b d).2.2.2.2.1 x a (Vf S f I.ok h).1⟩
 bs:=fun b j e=>I.bs b j e
 bsz:=QB I.ok.bsz I.sz
 noex:=fun b j e d=>by
  rcases(i b d).2.2.2.1 with z|z
  ·exact I.ok.noex b j e z
  ·exact absurd (QD (Qp e) (QB I.ok.bsz z)) (QW _)
 exfs:=fun b d A=>by
  rcases QF.mp (I.stkSub b A) with z|z
  ·exact(i b d).2.1 z
  ·exact(i b d).2.2.1 z
 funs:=I.stack
 frf:=I.stkFree
theorem Nh(S:Z5 N N' o c)(t:X.N=N)(g:X.env.scope=o){B:List (Addr×Obj)}{f:St}{H:Hp}{s:Shared}{fp:List Addr}{w:Heap}{tk:Nat}{C:Str→Option Value}(I:Inv X B f H s)
  (E:∀b∈fp,XD X B H b) (F:∀b∈fp,b<s.heap.objs.size) (G:w.Ns s.heap.objs.size C) (hk:∀b ob,s.heap.get? b=some ob→w.get? b=some ob) :
  Inv (YR X c N' s.heap.objs.size s H fp) [] (f++List.replicate (N'.length-N.length) none) H { s with heap:=w,toks:=tk } where
 ok:=Zp8 S g I E F
 os:=rfl
 bare:=I.bare
 base:=Un.kept hk
 loc:=by
  refine⟨C,G,fun i x v J j K=>?_⟩;obtain⟨m,hn,L⟩:=I.loc;have M:f.length=N.length:=by rw[I.len,t]
  have y:i<f.length:=by
   by_cases y:i<f.length
   ·exact y
   ·rw[QK #[2],List.getElem?_replicate]at j;split at j<;>cases j
  have O:f[i]? = some (some v):=by rw[QJ y]at j;exact j
  have D:=Uz (X:=X) S g (Y7 X.env.cells c.names []) s.heap.objs.size x;have P:c.names.lookup x=some .local∨c.names.lookup x=some .free:=by
   have n:(compEnvC c (Y7 X.env.cells c.names []) s.heap.objs.size X.env).kindOf x=some .local∨(compEnvC c (Y7 X.env.cells c.names []) s.heap.objs.size X.env).kindOf x=some .cell∨(compEnvC c (Y7 X.env.cells c.names []) s.heap.objs.size X.env).kindOf x=some .free:=K;rw[D]at n;cases q:c.names.lookup x with
   | none=>rw[q]at n;rcases n with z|z|z<;>cases z
   | some k =>
    cases k with
    | «local»=>exact .inl rfl
    | free=>exact .inr rfl
    | cell=>exact absurd rfl (S.nocell _ (Tp q))
    | _=>rw[q]at n;rcases n with z|z|z<;>cases z
  obtain⟨A,Q⟩:=S.same i (Q9.mpr #[2]) x (by rw[show N'[i]? = some x from J];rfl) P;have hok:X.env.kindOf x=some .cell∨X.env.kindOf x=some .free:=by show X.env.scope.names.lookup x=_∨X.env.scope.names.lookup x=_;rw[g];exact(S.free _ (Tp A) rfl).2
  obtain⟨u,r,l⟩:=L i x v (by rw[t];exact Q) O (.inr hok);refine⟨u,r,.inr ⟨?_,?_⟩⟩
  ·show (compEnvC c (Y7 X.env.cells c.names []) s.heap.objs.size X.env).kindOf x=some .cell∨(compEnvC c (Y7 X.env.cells c.names []) s.heap.objs.size X.env).kindOf x=some .free;rw[D,A];show (if X.env.kindOf x=some .cell then some NameKind.cell else some NameKind.free)=some .cell∨(if X.env.kindOf x=some .cell then some NameKind.cell else some NameKind.free)=some .free;by_cases q:X.env.kindOf x=some .cell
   ·rw[if_pos q];exact .inl rfl
   ·rw[if_neg q];exact .inr rfl
  ·obtain⟨a,R,T⟩:=Ni S g I.ok A;refine⟨a,R,?_⟩;rcases l with⟨z,_⟩|⟨_,a',e,ob,U,V⟩
   ·rcases hok with q|q<;>rw[q]at z<;>cases z
   ·rw[T]at e;cases e;exact⟨ob,hk _ _ U,V⟩
 cell:=fun x a h=>by obtain⟨v,ob,e,d⟩:=I.cell x a (Vf S g I.ok h).1;exact⟨v,ob,hk _ _ e,d⟩
 free:=I.hok.fresh (Qh _)
 freeC:=fun x a h=>I.freeC x a (Vf S g I.ok h).1
 pin:=fun p W=>absurd (show p∈([]:List (Addr×Obj)) from W) #[4]
 hok:=I.hok.kept hk
 len:=by
  have M:f.length=N.length:=by rw[I.len,t]
  have:=S.len;show (f++List.replicate (N'.length-N.length) none).length=N'.length;rw[Qi,Qap];lia
end
noncomputable abbrev RC(a:List Expr)(env:Env):Sem Bool :=
 forIn a true fun k r=>if r=true then do let ok ← isTrue k env (eval k env);pure (ForInStep.yield ok) else pure (ForInStep.yield r)
def PTs(X:Cx)(c:List Expr)(t:TT):Prop :=
 ∀ (b:List (Addr×Obj)) (s:Shared) (a:St) (H:Hp) (Q:Bool→Hp→Prop),Inv X b a H s→t a H Q→#[9,X] (RC c X.env) (TP X b a Q) X.xe s
def VP:TT:=fun _ H Q=>Q true H
theorem Xn{X:Cx}:PTs X [] VP:=fun _ _ _ H _ I h=>wpAny_tests_nil ⟨H,I,h⟩
theorem RB{X:Cx}{e:Expr}{t:TT}(h:PT X e t):PTs X [e] t:=fun a s b H Q I q=>wpAny_tests_one (h a s b H Q I q)
section
variable {prog:Program} {w:World} {A:Around} {R:Result→Shared→Prop} {s:Shared}
theorem Zjh{c b iter:Expr}{d:List Expr}{k:Scope}{pos:Pos}{it f:Value}{env:Env}{E:Value→Shared→Prop}(I:Nat→Shared→Prop)
  (B:∀e s',E e s'→False)
  (turn:∀n s,I n s→wpAny (model prog w) A (pyNext it) (fun r g=>match r with
   | none=>R (.ok .next) g
   | some v=>wpAny (model prog w) A (letOwnedTupleGo b it v) (fun _ s₀=>wpAny (model prog w) A (assign b env v) (fun _ l =>
     wpAny (model prog w) A (RC d env) (fun ok i =>
      if ok=true then wpAny (model prog w) A (eval c env) (fun x o =>
       wpAny (model prog w) A (call (.builtin "list.append") [f,x]) (fun _ p=>∃m,m<n∧I m p) E o) E i
      else ∃m,m<n∧I m i) E l) E s₀) E g) E s)
  (n:Nat) (h:I n s):codeAny (model prog w) A (.compLoop (.ListComp c [⟨b,iter,d,0⟩] k pos) 0 it f env) R s:=by
 have go:∀ {j:Type} {t:Sem j} {Q:j→Shared→Prop} {s:Shared},wpAny (model prog w) A t Q E s→wpAny (model prog w) A t Q (notedBy (model prog w) A env fun e s'=>R (.error e) s') s :=
  fun {j t Q s} q=>wpAny_mono q (fun _ _ z=>z) fun e s' z=>(B e s' z).elim
 refine codeAny_loop rfl I (fun n s C=>?_) n h;show wpAny _ A ((compTurn (.ListComp c [⟨b,iter,d,0⟩] k pos) 0 it f env).onRaise (fun x=>do noteFrame x env;theTreesLotGoes x)) _ _ s;refine wpAny_noted ?_;rw[compTurn_list];refine wpAny_bind (wpAny_standAt (wpAny_bind (thn (go (turn n s C)) fun r g u=>?_)));cases r with
 | none=>exact wpAny_pure u
 | some v =>
  refine wpAny_bind (thn (go u) fun _ s₀ a=>wpAny_bind (thn (go a) fun _ l D=>wpAny_bind (thn (go D) fun ok i y=>?_)));cases ok with
  | false=>exact wpAny_pure ⟨rfl,y⟩
  | true=>exact wpAny_bind (wpAny_bind (thn (go y) fun x o F=>wpAny_bind (thn (go F) fun _ p G=>wpAny_pure (wpAny_pure ⟨rfl,G⟩))))
end
def WC(J:It)(D:Addr)(k:Nat)(q:St)(r:Hp)(g:TG)(s:TT)(t:TE)(Q:VK):Prop :=
 ∃W:Nat→Nat→List V→St→Hp→Prop,(∃m,W 0 m [] (q++List.replicate k none) (upd r D (.lst []))) ∧
  ∀i m a e c,W i m a e c→(J.stop i c∧Q (.ref D) c) ∨
   (J.go i c∧∃N:List V→St→Hp→Prop,(∀f h j,N f h j→∃l,l<m∧W (i+1) l f h j)∧∀x n,J.yld i c x n→g x e n fun d u=>s d u fun b o =>
    if b=true then t d o fun y p=>p D=some (.lst a)∧a.length<sizeLine∧N (a++[y]) d (upd p D (.lst (a++[y]))) else N a d o)
def RA(n:Nat)(c:TI)(g:TG)(d:TT)(e:TE):TE:=fun a H Q=>c a H fun J b=>∀D,b D=none→WC J D n a b g d e Q
section
variable {X:Cx} {N N':List Str} {o c:Scope}
theorem Ng{eI tg iter:Expr}{bn:List Expr}{pos bP:Pos}{wi:TI}{g:TG}{tc:TT}{te:TE}{use:Option (Value→Sem Unit)}{QQ:Value→Shared→Prop}(S:Z5 N N' o c)(hN:X.N=N)(ho:X.env.scope=o)(hc:X.calm=true)
  (hi:PI X tg iter wi) (hg:∀C s H fp,PG (YR X c N' C s H fp) tg g) (ht:∀C s H fp,PTs (YR X c N' C s H fp) bn tc) (he:∀C s H fp,PE (YR X c N' C s H fp) eI te)
  (hs:∀x,foldedSetIterable iter X.env x=pure x) {V:List (Addr×Obj)} {s:Shared} {σ:St} {H:Hp} {Q:VK} (I:Inv X V σ H s) (h:RA (N'.length-N.length) wi g tc te σ H Q)
  (post:∀ (D C:Addr) (t:Shared) (l:Hp) (m:Str→Option Value),Inv X V σ l t→l C=none→t.heap.Ns C m→C≠X.env.locals→X.s₀.heap.objs.size≤C→(∀x a,X.env.cells.lookup x=some a→a≠C)→(∀p∈X.pn++V,p.1≠C) →
   Q (.ref D) l→compPost (model X.prog X.w) X.A X.xe use QQ (.ref D) C (.ok .next) t) :
  #[9,X] (comprehension (.ListComp eI [⟨tg,iter,bn,0⟩] c pos) c X.env bP (newList []) false (eval iter X.env) use) QQ X.xe s:=by
 have j8:closureFor c X.env=pure (Y7 X.env.cells c.names []):=Nk fun y hy hf=>by refine I.ok.has y.1 ?_;show X.env.scope.names.lookup y.1=_∨X.env.scope.names.lookup y.1=_;rw[ho];exact(S.free y hy hf).2
 refine wpAny_comprehension_free (use:=use) rfl hs j8 S.kind S.loc (thn (hi V s σ H _ I h) fun v s1 h1=>thn h1 fun pD f h2=>?_);obtain⟨it,fp,tn,J,G,e,I2,T,j4,f2,hR⟩:=h2;subst e;have hD:G f.heap.objs.size=none:=I2.fresh;have M:Inv X V σ (upd G f.heap.objs.size (.lst [])) { f with heap:=f.heap.push { cls:=.type "list",data:=.seq ([]:List Value).toArray } } :=
  I2.lnew (ys:=[]) (its:=[]) (t':=f.toks) .nil (Qw _)
 have mQ:∀b∈fp,b<f.heap.objs.size:=fun b k=>by obtain⟨A,e,_⟩:=T.obj 0 _ j4 b k;exact Qp e
 refine wpAny_newObj_type (wpAny_newFunctionEnv S.nocell (by intro y hy;simp at hy) (fun K iK iM=>?_) S.kind);have O:∃j:Shared,j={ f with heap:=f.heap.push { cls:=.type "list",data:=.seq ([]:List Value).toArray } }:=⟨_,rfl⟩;obtain⟨j,j9⟩:=O;have O:j.heap=f.heap.push { cls:=.type "list",data:=.seq ([]:List Value).toArray }:=by rw[j9]
 have jt:j.heap.objs.size=f.heap.objs.size+1:=by rw[O,Q1]
 have mR:∀b∈fp,b<j.heap.objs.size:=fun b k=>QD (mQ b k) (by rw[jt];exact Qas _);have f3:∀b∈fp,XD X V (upd G f.heap.objs.size (.lst [])) b:=fun b k=>⟨by rw[Zc (Qu (mQ b k))];exact(f2 b k).1,(f2 b k).2⟩;have lO:tn 0 j.heap:=T.keep 0 _ _ j4 fun b _ A e=>by rw[O];exact Qc _ e
 rw[← j9]at M;show codeAny (model X.prog X.w) X.A (.compStart _ 0 (.ref it) (.ref f.heap.objs.size) (compEnvC c (Y7 X.env.cells c.names []) (f.heap.push { cls:=.type "list",data:=.seq ([]:List Value).toArray }).objs.size X.env))
  (compPost (model X.prog X.w) X.A X.xe use QQ (.ref f.heap.objs.size) (f.heap.push { cls:=.type "list",data:=.seq ([]:List Value).toArray }).objs.size)
  { f with heap:=K,toks:=f.toks+([]:List (Str×Value)).length }
 have dN:K.Ns j.heap.objs.size (fun x=>([]:List (Str×Value)).reverse.lookup x):=by rw[O];exact iK
 have mS:∀b A,j.heap.get? b=some A→K.get? b=some A:=fun b A e=>by rw[O]at e;exact iM.extBut b A (Qu (Qp e)) (Qc _ e)
 rw[← O];have sF:({ f with heap:=K,toks:=f.toks+([]:List (Str×Value)).length }:Shared)={ j with heap:=K,toks:=f.toks }:=by rw[j9];rfl
 rw[sF];obtain⟨W,⟨m0,w0⟩,turn⟩:=hR f.heap.objs.size hD;have I4:=Nh (tk:=f.toks) S hN ho M f3 mR dN mS;have mT:tn 0 K:=T.keep 0 _ _ lO fun b _ A e=>mS b A e;generalize w:YR X c N' j.heap.objs.size j (upd G f.heap.objs.size (.lst [])) fp=Y at I4;have P:Y.prog=X.prog:=by rw[← w];rfl
 have R:Y.w=X.w:=by rw[← w];rfl
 have YK:Y.K=X.K:=by rw[← w];rfl
 have Yc:Y.calm=true:=by rw[← w];exact hc
 have YA:Y.A=X.A:=by rw[← w];rfl
 have ju:Y.env=compEnvC c (Y7 X.env.cells c.names []) j.heap.objs.size X.env:=by rw[← w];rfl
 have Yl:Y.env.locals=j.heap.objs.size:=by rw[ju];rfl
 have ie:Y.xe=fun _ _=>False:=by rw[← w];rfl
 have mU:=hg j.heap.objs.size j (upd G f.heap.objs.size (.lst [])) fp;have aI:=ht j.heap.objs.size j (upd G f.heap.objs.size (.lst [])) fp;have aE:=he j.heap.objs.size j (upd G f.heap.objs.size (.lst [])) fp;rw[w]at mU aI aE;have dW:∀ {B:Hp},(∀b∈fp,B b=none)→∀b∈fp,XD Y [] B b:=fun {B} hn b k=>by
  obtain⟨_,q1,q2,q3,q4,_⟩:=f3 b k;have z1:=I4.ok.exf b (by rw[← w];exact k);refine⟨hn b k,z1.1,I4.ok.exfs b (by rw[← w];exact k),.inl (by rw[← w];exact k),z1.2,fun p hp=>?_⟩;have fi:p∈([]:List (Addr×Obj)):=by
   have:Y.pn=[]:=by rw[← w];rfl
   rw[this]at hp;exact hp
  cases fi
 have fin:∀ (t:Shared) (L:St) (l:Hp),Inv Y [] L l t→Q (.ref f.heap.objs.size) l→compPost (model X.prog X.w) X.A X.xe use QQ (.ref f.heap.objs.size) j.heap.objs.size (.ok .next) t:=fun t L l F q=>by
  obtain⟨m,hn,_⟩:=id F.loc;rw[Yl]at hn;have iN:l j.heap.objs.size=none:=by have:=F.free;rw[Yl]at this;exact this
  have un:Un (frs X.stack) fp (upd G f.heap.objs.size (.lst [])) l j.heap t.heap:=by have:=F.base;rw[← w]at this;exact this
  have sG:t.os=j.os:=by have:=F.os;rw[← w]at this;exact this
  have fj:HOk X.prog X.w l t.heap:=by have:=F.hok;rw[P,R]at this;exact this
  refine post _ _ t l m (M.call' (s':=t) (ch:=fp) sG un fj F.bare fun b k=>?_) iN hn (QV M.lt) M.sz (fun x a e=>?_) (fun p hp=>?_) q
  ·obtain⟨_,q1,_,q3,q4,q5⟩:=f3 b k;exact⟨q3,q1,q4,q5⟩
  ·obtain⟨v,A,e',_⟩:=M.cell x a e;exact Qu (Qp e')
  ·exact Qu (Qp (M.pin p hp).1)
 have jv:codeAny (model X.prog X.w) X.A (.compLoop (.ListComp eI [⟨tg,iter,bn,0⟩] c pos) 0 (.ref it) (.ref f.heap.objs.size) (compEnvC c (Y7 X.env.cells c.names []) j.heap.objs.size X.env))
   (compPost (model X.prog X.w) X.A X.xe use QQ (.ref f.heap.objs.size) j.heap.objs.size) { j with heap:=K,toks:=f.toks }:=by
  rw[← ju,← YA];refine Zjh (E:=fun _ _=>False) (fun n s'=>∃i ys ak B,Inv Y [] ak B s'∧tn i s'.heap∧(∀b∈fp,B b=none)∧W i n ys ak B) (fun _ _ z=>z) ?_ m0
   ⟨0,[],_,_,I4,mT,fun b k=>(f3 b k).1,?_⟩
  ·rintro n t ⟨i,ys,L,l,F,iH,j5,w5⟩;rcases turn i n ys L l w5 with⟨stop,qn⟩|⟨go,Nn,mV,step⟩
   ·refine thn (T.done Y P R YK Yc i [] t L l _ F (dW j5) iH stop) ?_;rintro r s6 ⟨hr,I6⟩;subst hr;have fq:=fin s6 L l I6 qn;rw[← YA]at fq;exact fq
   ·refine thn (T.item Y P R YK Yc i [] t L l _ F (dW j5) iH go) ?_;rintro r s6 ⟨u,hr,h6⟩;subst hr;refine thn h6 ?_;rintro _ s7 ⟨x,H7,I7,r7,y7,j',sH⟩;have sI:=I7.pinned (dW sH) (T.obj _ _ j');have gH:∀ {ka:St} {U:Hp} {Z:Shared},Inv Y ([]++Vl fp s7.heap) ka U Z→Inv Y [] ka U Z∧tn (i+1) Z.heap∧∀b∈fp,U b=none:=fun {ka U Z} I9=>by refine⟨I9.unpinned,T.keep _ _ _ j' fun b k A e=>(I9.pin (b,A) (Qx _ (Qx _ (Vk k e)))).1,fun b k=>?_⟩;obtain⟨A,e,d⟩:=T.obj _ _ j' b k;exact(I9.pin (b,A) (Qx _ (Qx _ (Vk k e)))).2.1
    have P1:=mU _ s7 L H7 x u _ sI r7 (step x H7 y7);rw[P,R,ie]at P1;refine thn P1 ?_;rintro _ s8 ⟨gw,H8,I8,q8⟩;have P2:=aI _ s8 gw H8 _ I8 q8;rw[P,R,ie]at P2;refine thn P2 ?_;rintro ok Z ⟨U,I9,q9⟩;cases ok with
    | false=>rw[if_neg Qq]at q9;rw[if_neg Qq];obtain⟨b1,b2,b3⟩:=gH I9;obtain⟨m',cq,w9⟩:=mV _ _ _ q9;exact⟨m',cq,i+1,ys,gw,U,b1,b2,b3,w9⟩
    | true=>rw[if_pos rfl]at q9;rw[if_pos rfl];have P3:=aE _ Z gw U _ I9 q9;rw[P,R,ie]at P3;refine thn P3 ?_;rintro y iO ⟨vy,bg,sJ,sK,sL,hsz,sM⟩;have P4:=WE (X:=Y) _ iO gw bg (.ref f.heap.objs.size) [vy] (.ref f.heap.objs.size) [y] (fun _ B=>Nn (ys++[vy]) gw B) sJ rfl (.cons sK .nil) ⟨_,ys,vy,rfl,rfl,sL,hsz,sM⟩;rw[P,R,ie]at P4;refine thn P4 ?_;rintro _ eJ ⟨_,fk,sN,_,sO⟩;obtain⟨b1,b2,b3⟩:=gH sN;obtain⟨m',cq,AJ⟩:=mV _ _ _ sO;exact⟨m',cq,i+1,ys++[vy],gw,fk,b1,b2,b3,AJ⟩
  ·exact w0
 have lp:=T.self X.A 0 { j with heap:=K,toks:=f.toks } (fun sP s'=>codeAny (model X.prog X.w) X.A (.compLoop (.ListComp eI [⟨tg,iter,bn,0⟩] c pos) 0 sP (.ref f.heap.objs.size) (compEnvC c (Y7 X.env.cells c.names []) j.heap.objs.size X.env))
   (compPost (model X.prog X.w) X.A X.xe use QQ (.ref f.heap.objs.size) j.heap.objs.size) s') (fun _ _=>False) mT jv
 exact codeAny_compStart_list jv (wpAny_mono lp (fun _ _ z=>z) fun _ _ z=>z.elim)
theorem Inv.let{c:List (Addr×Obj)}{d:St}{H:Hp}{s:Shared}{C:Addr}{h':Heap}(I:Inv X c d H s)(f:H C=none)(g:C≠X.env.locals)(h1:X.s₀.heap.objs.size≤C)
  (h2:∀x a,X.env.cells.lookup x=some a→a≠C) (h:∀p∈X.pn++c,p.1≠C) (i:Heap.SameBut C s.heap h'):Inv X c d H { s with heap:=h' } :=
 I.turned (t':=s.toks) (fun b j k e=>i.extBut b j k e) f g (.inr h1) h2 h
theorem Xt{b a iter:Expr}{d:List Expr}{pos:Pos}{e:TI}{g:TG}{f:TT}{i:TE}(S:Z5 N N' o c)(j:X.N=N)(k:X.env.scope=o)(hc:X.calm=true)
  (l:PI X a iter e) (n:∀C s H fp,PG (YR X c N' C s H fp) a g) (p:∀C s H fp,PTs (YR X c N' C s H fp) d f) (he:∀C s H fp,PE (YR X c N' C s H fp) b i)
  (r:∀x,foldedSetIterable iter X.env x=pure x:=by intro _;rfl) :
  PE X (.ListComp b [⟨a,iter,d,0⟩] c pos) (RA (N'.length-N.length) e g f i):=by
 intro aa s σ H Q I h;rw[eval_ListComp];refine Ng (use:=none) S j k hc l n p he r I h fun D C s5 t m u v w y z A B q=>⟨m,w,fun h' E=>?_⟩;exact⟨.ref D,t,u.let v y z A B E,rfl,q⟩
theorem Uy{i:Nat}{x:Str}{e b iter:Expr}{f:List Expr}{pos d j:Pos}{k:TI}{g:TG}{l:TT}{n:TE}(u:X.N.Nodup)(hx:X.N[i]? = some x)(hl:Loc X.env.scope x)(S:Z5 N N' o c)(w:X.N=N)(y:X.env.scope=o)(hc:X.calm=true)
  (A:PI X b iter k) (B:∀C s H fp,PG (YR X c N' C s H fp) b g) (E:∀C s H fp,PTs (YR X c N' C s H fp) f l) (he:∀C s H fp,PE (YR X c N' C s H fp) e n)
  (F:swapsWith (.ListComp e [⟨b,iter,f,0⟩] c pos) (some (.Name x d)) j.line X.env=pure true)
  (G:∀x,foldedSetIterable iter X.env x=pure x:=by intro _;rfl) (J:X.fn x=true∨X.env.scope.names.lookup x=some .local:=by first|exact .inl rfl|exact .inr rfl|assumption) :
  PS X (.Assign [.Name x d] (.ListComp e [⟨b,iter,f,0⟩] c pos) j) (RR (RA (N'.length-N.length) k g l n) (Tv i)):=by
 intro K s σ H D I h;rw[exec_Assign_Name_used _ _ _ _ F];refine wpAny_bind (wpAny_standAt (wpAny_bind ?_));show wpAny _ X.A (do let _ ← comprehension (.ListComp e [⟨b,iter,f,0⟩] c pos) c X.env _ (newList []) false (eval iter X.env) (some (assign (.Name x d) X.env))) _ _ s;refine wpAny_bind (thn (Ng (QQ:=fun _ p=>SP X K D .next p) (use:=some (assign (.Name x d) X.env)) S w y hc A B E he G I h ?_) fun _ p M=>wpAny_pure (wpAny_pure M));intro L C s5 O m P Q R r T t U q;show wpAny _ X.A (assign (.Name x d) X.env (.ref L)) _ _ _;refine wpAny_assign_Name (NX (v:=.ref L) P u hx hl rfl (?_) J);rintro s6 V ⟨a,W,Y⟩;have Z:C≠a:=by
  rcases Y with z|z
  ·rw[z];exact r
  ·exact(t x a z).symm
 exact⟨m,R.sameBut W Z,fun h' wo=>⟨_,O,V.let Q r T t U wo,q⟩⟩
end
theorem Nf{ys:List Str}:∀ {us:List Value},ZL (ys.map V.str) us→StrsAre us ys:=by
 induction ys with
 | nil=>intro us r;rw[Qa1]at r;cases r;exact .nil
 | cons y ys a =>
  intro us r;rw[Qj]at r;cases r with
  | cons b c=>obtain⟨t,e⟩:=b;subst e;exact .cons _ _ (a c)
theorem Nd:∀ {vs:List Value} {ys:List Str},StrsAre vs ys→ZL (ys.map V.str) vs
 | _,_,.nil=>.nil
 | _,_,.cons _ t h=>.cons ⟨t,rfl⟩ (Nd h)
section
variable {X:Cx}
def Nc(K:#[7]):List V→Hp→VK→Prop:=fun xs H Q=>∃x c t b,xs=[x,.ty c]∧Xz K H x t∧PySem.W.kitOne K t (.type c)=some b∧Q (.bl b) H
theorem ZnU:Y1 X (.builtin "isinstance") (Nc X.K):=by intro aa s σ H xs us Q I r h;obtain⟨x,c,t,b,rfl,ty,e,q⟩:=h;obtain⟨u,w',rfl,a,d⟩:=Ts r;cases d;exact Zmh I a ty e fun tk=>⟨.bl b,H,I.tok _,rfl,q⟩
def Nb(K:#[7]):List V→Hp→VK→Prop:=fun xs H Q=>∃ (x:V) (a:Addr) (c:List String) (t:Value) (b:Bool),xs=[x,.ref a]∧H a=some (.tup (c.map V.ty))∧Xz K H x t∧PySem.W.kitAny K t (c.map Value.type)=some b∧Q (.bl b) H
theorem Zpl{a:List String}:∀ {us:List Value},ZL (a.map V.ty) us→us=a.map Value.type:=by
 induction a with
 | nil=>intro us r;rw[Qa1]at r;cases r;rfl
 | cons y ys b =>
  intro us r;rw[Qj]at r;cases r with
  | cons c d=>rw[show _=Value.type y from c,b d];rfl
theorem ZmJ:Y1 X (.builtin "isinstance") (Nb X.K):=by
 intro A s B H k us Q I r h;obtain⟨x,D,E,t,b,rfl,F,ty,e,q⟩:=h;obtain⟨u,w',rfl,d,G⟩:=Ts r;cases G;obtain⟨_,its,K,⟨L,f,M,n,N⟩⟩:=I.hok D _ F;have P:=Zpl K;subst P;obtain⟨R,S,T,sl⟩:=L;have U:R=Value.type "tuple":=M;have V:T=Data.seq (E.map Value.type).toArray n:=N;subst U;subst V;have c:∀v,EP X A B Q (.bool b) { s with toks:=v }:=fun v=>⟨.bl b,H,I.tok _,rfl,q⟩;cases ty with
 | non=>cases (show u=Value.none from d);exact Q4 PySem.W.kitx_none I.kIn True.intro f e (fun z=>nomatch z) c
 | bl y=>cases (show u=Value.bool y from d);exact Q4 PySem.W.kitx_bool I.kIn True.intro f e (fun z=>nomatch z) c
 | int i=>obtain⟨t,q⟩:=(show ∃t,u=Value.int i t from d);cases q;exact Q4 PySem.W.kitx_int I.kIn True.intro f e (fun z=>nomatch z) c
 | str y=>obtain⟨t,q⟩:=(show ∃t,u=Value.str y t from d);cases q;exact Q4 PySem.W.kitx_str I.kIn True.intro f e (fun z=>nomatch z) c
 | flt y=>obtain⟨t,q⟩:=(show ∃t,u=Value.float y t from d);cases q;exact Q4 PySem.W.kitx_float I.kIn True.intro f e (fun z=>nomatch z) c
 | @lst a k g=>cases (show u=Value.ref a from d);obtain⟨_,_,n,_,j⟩:=(show Z7 X.prog X.w H s.heap a (.lst k) from I.hok a _ g);exact Q4 QaY I.kIn ⟨_,j,rfl⟩ f e (fun z=>nomatch z) c
 | @frz a W k g=>cases (show u=Value.ref a from d);obtain⟨_,_,_,n,_,j⟩:=(show Z7 X.prog X.w H s.heap a (.frz W (.lst k)) from I.hok a _ g);exact Q4 QaY I.kIn ⟨_,j,rfl⟩ f e (fun z=>nomatch z) c
 | @tup a k g=>cases (show u=Value.ref a from d);obtain⟨_,_,_,p⟩:=(show Z7 X.prog X.w H s.heap a (.tup k) from I.hok a _ g);obtain⟨o,j,m,_⟩:=p;exact Q4 PySem.W.kitx_tuple I.kIn ⟨o,j,m⟩ f e (fun z=>nomatch z) c
 | @dK a l g=>cases (show u=Value.ref a from d);obtain⟨_,_,vs,_,p⟩:=(show Z7 X.prog X.w H s.heap a (.dK l) from I.hok a _ g);obtain⟨o,Y,Z,j,m,_⟩:=p;exact Q4 QaZ I.kIn ⟨o,j,m.1⟩ f e (fun z=>nomatch z) c
 | @dT a l g=>cases (show u=Value.ref a from d);obtain⟨_,_,k,_,o,Y,Z,j,m,_⟩:=(show Z7 X.prog X.w H s.heap a (.dT l) from I.hok a _ g);exact Q4 QaZ I.kIn ⟨o,j,m.1⟩ f e (fun z=>nomatch z) c
 | @ins a C dx fs g w ha hn eF hm=>cases (show u=Value.ref a from d);obtain⟨mA,O,_⟩:=UD I.hok g;obtain⟨S,J,_⟩:=O.look;exact Q4 (PySem.W.kitx_own (w.get _) w.hd ha hn eF hm) I.kIn J f e (fun z=>nomatch z) c
theorem Znb(hc:X.calm=true):Y1 X (.builtin "all") (fun xs H Q=>∃ (p:Addr) (bs:List Bool),xs=[.ref p]∧SqL X.K H p (bs.map V.bl)∧Q (.bl (bs.all id)) H):=by
 intro aa s σ H xs us Q I r h;obtain⟨p,bs,rfl,o,q⟩:=h;obtain⟨u,rfl,t⟩:=Yb r;cases t;obtain⟨its,f,w,hz⟩:=I.list o;have g:=w.isList;have x:p<s.heap.objs.size:=by obtain⟨_,e,_⟩:=g;exact Qp e
 refine call_all_walk (wpAny_pyIter_list g ?_);refine⟨s.heap.objs.size,[s.heap.objs.size,p],[s.heap.objs.size],its.toArray.size,_,_,fun i=>(bs[i]?).getD true,rfl,Walks.list (A:=X.A.in1) (I.ok.hd hc) _ p (Qu x) its.toArray,
  ⟨⟨_,Qs _ rfl,rfl,rfl⟩,g.push _⟩,fun i v y B E' C D=>?_,fun h' tk E=>?_⟩
 ·have l:its[i]? = some v:=by simpa using C
  have c:i<its.length:=(Qe.mp l).1;have a:=f.length;have j:(bs.map V.bl)[i]? = some (V.bl (bs[i]'(by rw[Qa]at a;lia))):=by rw[Qm,Qb (by rw[Qa]at a;lia)];rfl
  obtain⟨u',d,F⟩:=f.get j;rw[l]at d;cases d;obtain rfl:v=Value.bool _:=F;have m:B ((bs[i]?).getD true) y:=D;rw[Qb (by rw[Qa]at a;lia)]at m;exact wpAny_truthy_bool m
 ·have e:((List.range its.toArray.size).all fun i=>(bs[i]?).getD true)=bs.all id:=by
   have a:=f.length;rw[Qa]at a;rw[QG,← a,QaS,Qau,Qau];constructor
   ·intro z b j;obtain⟨i,c,rfl⟩:=List.mem_iff_getElem.mp j;have:=z i (Q9.mpr c);rw[Qb c]at this;exact this
   ·intro z i c;have n:=Q9.mp c;rw[Qb n];exact z _ (QX n)
  refine⟨.bl (bs.all id),H,I.kept fun b G k=>E b G (fun J=>?_) (Qc _ k),by rw[e];rfl,q⟩;rw[Qk.mp J]at k;exact QW _ (Qp k)
theorem Zjf:Y1 X (.builtin "sorted") (fun xs H Q=>∃ (p:Addr) (ss:List Str),xs=[.ref p]∧SqL X.K H p (ss.map V.str)∧ss.length<64 ∧
  ∀ (l:Addr) (a:List Str),H l=none→a.Perm ss→sortedS a=true→Q (.ref l) (upd H l (.lst (a.map V.str)))):=by
 intro aa s σ H xs us Q I r h;obtain⟨p,ss,rfl,d,sQ,q⟩:=h;obtain⟨u,rfl,f⟩:=Yb r;cases f;obtain⟨its,c,g,i⟩:=I.list d;have j:=c.length;rw[Qa]at j i;refine sorted_strs g.isList (Nf c) #[2] fun b a a1 a2 a3=>?_;obtain⟨e,k⟩:=sortedAll_at s.heap its b;have hp:=a2.length_eq;refine⟨.ref (s.heap.objs.size+1),_,I.laid (t':=s.toks) (o:=.lst (a.map V.str)) (fun _ _=>sortedAll_old) (Qas _) ⟨by rw[Qa];lia,b.toList,e,Nd a1,by simpa using k⟩,rfl,q _ a (I.hok.fresh (Qas _)) a2 a3⟩
theorem ZpX:MtR X "str.join" (fun x vs H Q=>∃ (sep:Str) (p:Addr) (ys:List Str),x=.str sep∧vs=[.ref p]∧SqL X.K H p (ys.map V.str)∧(ys.map (·.length)).sum+ys.length*sep.length≤16777216∧Q (.str (Txt.join sep ys)) H):=by intro aa s σ H x vs v us Q I a b h;obtain⟨sep,p,ys,rfl,rfl,c,d,q⟩:=h;obtain⟨t,rfl⟩:=a;obtain⟨u,rfl,e⟩:=b.one;cases e;obtain⟨its,f,g,_⟩:=I.list c;exact join_list g.isList (Nf f) d fun t' k=>⟨.str _,H,I.tok _,⟨_,rfl⟩,q⟩
theorem Zp4:OpR X (binaryOp .Mult) (fun x y H Q=>∃a n,x=.str a∧y=.int n∧0≤n∧n≤1000000∧(a.length:Int)*n≤1000000∧Q (.str (Txt.mul a n)) H):=by
 intro aa s σ H x y v u Q I d f h;obtain⟨a,n,rfl,rfl,g,i,h2,q⟩:=h;obtain⟨t,rfl⟩:=d;obtain⟨t',rfl⟩:=f;have j:a.length*n.toNat≤1000000:=by
  have e:((a.length*n.toNat:Nat):Int)=(a.length:Int)*n:=by rw[Int.natCast_mul,Int.toNat_of_nonneg g]
  lia
 refine PySem.P.mul_str ?_ (fun c1 c2=>?_) (fun c1 c2=>?_) ?_
 ·have l:decide (n < -(2 ^ 63:Int))=false:=decide_eq_false #[2];have c:decide (n≥2 ^ 63)=false:=decide_eq_false #[2];rw[l,c];rfl
 ·have m:(1:Int)≤n:=by lia
  have q1:(a.length:Int)*1≤(a.length:Int)*n:=Int.mul_le_mul_of_nonneg_left m (Int.natCast_nonneg _);have q2:(1000000:Int)≤(2 ^ 63-1) / n:=by rw[Int.le_ediv_iff_mul_le #[2]];have:(1000000:Int)*n≤1000000*1000000:=Int.mul_le_mul_of_nonneg_left i #[6];lia
  lia
 ·unfold Builtin.Str.tooLong;have o:sizeLine=16777216:=sizeLine_eq;exact decide_eq_false #[2]
 ·have e:Txt.mul a n=if n<1 then Str.empty else if (n == 1||a.length == 0)=true then a else ⟨(List.replicate n.toNat a.cps).foldl (·++·) #[]⟩:=rfl
  rw[e]at q;by_cases c1:n<1
  ·rw[if_pos c1]at q ⊢;exact⟨by decide,.str _,H,I.tok _,⟨_,rfl⟩,q⟩
  ·rw[if_neg c1]at q ⊢;by_cases c2:(n == 1||a.length == 0)=true
   ·rw[if_pos c2]at q ⊢;exact⟨.str _,H,I,⟨_,rfl⟩,q⟩
   ·rw[if_neg c2]at q ⊢;refine⟨?_,.str _,H,I.tok _,⟨_,rfl⟩,q⟩;have p:∀ (k:Nat) (b:Array Nat),((List.replicate k a.cps).foldl (·++·) b).size=b.size+k*a.cps.size:=by
     intro k;induction k with
     | zero=>intro b;simp
     | succ k r=>intro b;rw[List.replicate_succ,List.foldl_cons,r,Array.size_append,Nat.succ_mul];lia
    show ((List.replicate n.toNat a.cps).foldl (·++·) #[]).size≤sizeLine;rw[p];have c:a.cps.size=a.length:=rfl;have:n.toNat*a.cps.size≤1000000:=by rw[c,Nat.mul_comm];exact j
    have o:sizeLine=16777216:=sizeLine_eq;simp only[List.size_toArray,List.length_nil];lia
def Zte:V→Option Int→Option Int→Hp→VK→Prop:=fun x lo a H Q=>∃z,x=.str z∧z.length≤sizeLine∧Q (.str (Txt.slice z lo a)) H
theorem Na:SlR X Zte:=by
 intro m s n H x v vl vu lo o sl Q I p b r e h;obtain⟨z,rfl,c,q⟩:=h;obtain⟨t,rfl⟩:=p;have a:∀f k,EP X m n Q (.str (Txt.slice z lo o) f) { s with toks:=k }:=fun f k=>⟨.str _,H,I.tok _,⟨_,rfl⟩,q⟩;refine⟨"str",_,PySem.F.slot_str_getitem.lookup,typeIs_str _ _ _,?_⟩;cases r with
 | none =>
  cases e with
  | none=>exact wpAny_getItem_str_slice (l:=none) (u:=none) (st:=none) b rfl (post_val_or_str ⟨QB (Txt.slice_le z _ _) c,a⟩)
  | int j d=>exact wpAny_getItem_str_slice (l:=none) (u:=some (j,d)) (st:=none) b rfl (post_val_or_str ⟨QB (Txt.slice_le z _ _) c,a⟩)
 | int i g =>
  cases e with
  | none=>exact wpAny_getItem_str_slice (l:=some (i,g)) (u:=none) (st:=none) b rfl (post_val_or_str ⟨QB (Txt.slice_le z _ _) c,a⟩)
  | int j d=>exact wpAny_getItem_str_slice (l:=some (i,g)) (u:=some (j,d)) (st:=none) b rfl (post_val_or_str ⟨QB (Txt.slice_le z _ _) c,a⟩)
end
inductive Src where
 | l (a:Addr)|t (a:Addr)|s (z:Str)
noncomputable def Src.val:Src→V
 | .l a=>.ref a
 | .t a=>.ref a
 | .s z=>.str z
noncomputable def Zqc(c:Nat):V:=.str ⟨#[c]⟩
def Src.its(K:#[7])(H:Hp):Src→List V→Prop
 | .l a,xs=>SqL K H a xs
 | .t a,xs=>SqT K H a xs
 | .s z,xs=>xs=z.cps.toList.map Zqc
def Src.at(h:Heap)(i:Addr):Src→Nat→Prop
 | .l a,k=>h.IsListIter i a k
 | .t a,k=>h.IsTupleIter i a k
 | .s z,k=>∃tk,h.IsStrIter i (strIterType z) z tk k
def Src.raw(h:Heap):Src→List Value→Prop
 | .l a,us=>h.IsList a us.toArray
 | .t a,us=>h.IsTuple a us.toArray
 | .s _,_=>True
def Src.fit:Src→List Value→Nat→Value→Prop
 | .l _,us,k,u=>us[k]? = some u
 | .t _,us,k,u=>us[k]? = some u
 | .s z,_,k,u=>∃c tk,z.cps[k]? = some c∧u=.str ⟨#[c]⟩ tk
noncomputable def Src.many:Src→List Value→Nat
 | .l _,us=>us.length
 | .t _,us=>us.length
 | .s z,_=>z.cps.size
def Src.off:Src→Addr→Prop
 | .l a,b=>a≠b
 | .t a,b=>a≠b
 | .s _,_=>True
theorem Src.at_obj{h:Heap}{i:Addr}:∀ {S:Src} {k:Nat},S.at h i k→∃o vs,h.get? i=some o∧o.data=.fields vs
 | .l _,_,⟨o,e,_,d⟩=>⟨o,_,e,d⟩
 | .t _,_,⟨o,e,_,d⟩=>⟨o,_,e,d⟩
 | .s _,_,⟨_,o,e,_,d⟩=>⟨o,_,e,d⟩
theorem Src.at_keep{h h':Heap}{i:Addr}(k':∀o,h.get? i=some o→h'.get? i=some o):∀ {S:Src} {k:Nat},S.at h i k→S.at h' i k
 | .l _,_,⟨o,e,d⟩=>⟨o,k' o e,d⟩
 | .t _,_,⟨o,e,d⟩=>⟨o,k' o e,d⟩
 | .s _,_,⟨tk,o,e,d⟩=>⟨tk,o,k' o e,d⟩
theorem Src.raw_keep{h h':Heap}{b:Addr}(k':∀c o,c≠b→h.get? c=some o→h'.get? c=some o):∀ {S:Src} {us:List Value},S.off b→S.raw h us→S.raw h' us
 | .l _,_,f,⟨o,e,d⟩=>⟨o,k' _ o f e,d⟩
 | .t _,_,f,⟨o,e,d⟩=>⟨o,k' _ o f e,d⟩
 | .s _,_,_,_=>trivial
section
variable {prog:Program} {w:World} {A:Around} {E:Value→Shared→Prop} {s:Shared}
theorem Zji{it t:Addr}{i:Nat}{items:Array Value}{x:Value}{Q:Value→Shared→Prop}(c:s.heap.IsTupleIter it t i)(d:s.heap.IsTuple t items)(hx:items[i]? = some x)
  (e:∀h',h'.IsTupleIter it t (i+1)→Heap.SameBut it s.heap h'→Q x { s with heap:=h' }):wpAny (model prog w) A (Builtin.SmallTypes.nextOf (.ref it)) Q E s:=by
 obtain⟨o,b,f,a⟩:=id c;obtain⟨ol,g,_,nl,h⟩:=d;unfold Builtin.SmallTypes.nextOf;refine wpAny_bind (wpAny_callSpecial?_slot (name:=Str.ofString "__next__") c.typeIs F.slot_tuple_iterator_next
  (wpAny_call_entry F.slot_tuple_iterator_next c.typeIs F.entry_tuple_iterator_next ?_ (F.args_tuple_iterator_next_1 _)))
 show wpAny _ _ (field (.ref it) 0 >>= _) _ _ s;refine wpAny_bind (wpAny_field b a (x:=.ref t) rfl ?_);show wpAny _ _ (if (Value.ref t == Value.none)=true then _ else _) _ _ s;rw[if_neg (show ¬ ((Value.ref t == Value.none)=true) from Qq)];show wpAny _ _ (field (.ref it) 1 >>= _) _ _ s;refine wpAny_bind (wpAny_field b a (x:=.int i 0) rfl ?_);show wpAny _ _ (seqItems? (.ref t) >>= _) _ _ s;refine wpAny_bind (wpAny_seqItems g h ?_);simp only[Int.toNat_natCast,hx];refine wpAny_bind (wpAny_setField b a #[4] (wpAny_pure ⟨x,rfl,wpAny_pure (e _ ?_ (Heap.SameBut.update ..))⟩));exact⟨_,Heap.get?_update_self _ b (Obj.isFreed_of_fields (Obj.data_mapFields a _)),(Obj.cls_mapFields ..).trans f,by
  rw[Obj.data_mapFields a];simp[rawInt]⟩
theorem Rz{i:Addr}{k:Nat}{us:List Value}{Q:Value→Shared→Prop}:∀ {S:Src},S.at s.heap i k→S.raw s.heap us→k<S.many us →
  (∀h' tk u,S.fit us k u→S.at h' i (k+1)→Heap.SameBut i s.heap h'→Q u { s with heap:=h',toks:=tk })→wpAny (model prog w) A (Builtin.SmallTypes.nextOf (.ref i)) Q E s
 | .l a,c,h,b,g=>wpAny_nextOf_list_item c h (x:=us[k]'b) (by rw[Qaq];exact Qb b) fun h' d f=>g h' s.toks _ (Qb b) d f
 | .t a,c,h,b,g=>Zji c h (x:=us[k]'b) (by rw[Qaq];exact Qb b) fun h' d f=>g h' s.toks _ (Qb b) d f
 | .s z,⟨tk,c⟩,h,b,g=>by
  have j:z.cps[k]? = some z.cps[k]:=Array.getElem?_eq_getElem b;by_cases l:z.cps.all (·<128)=true
  ·have e:strIterType z = "str_ascii_iterator":=by unfold strIterType;rw[if_pos l]
   rw[e]at c;exact wpAny_nextOf_ascii_item c j fun h' d f=>g h' _ _ ⟨_,_,j,rfl⟩ ⟨tk,by rw[e];exact d⟩ f
  ·have e:strIterType z = "str_iterator":=by unfold strIterType;rw[if_neg l]
   rw[e]at c;exact wpAny_nextOf_wide_item c j fun h' d f=>g h' _ _ ⟨_,_,j,rfl⟩ ⟨tk,by rw[e];exact d⟩ f
theorem Zf8{it t:Addr}{i:Nat}{items:Array Value}{Q:Value→Shared→Prop}(f:A.handled=none)(b:s.heap.IsTupleIter it t i)(g:s.heap.IsTuple t items)(hx:items[i]? = none)
  (h:∀h' e,Heap.ExtBut it s.heap h'→(∃o,h'.get? e=some o∧o.cls=.type "StopIteration")→E (.ref e) { s with heap:=h' }):wpAny (model prog w) A (Builtin.SmallTypes.nextOf (.ref it)) Q E s:=by
 obtain⟨o,c,hc,d⟩:=id b;obtain⟨ol,j,_,nl,k⟩:=g;unfold Builtin.SmallTypes.nextOf;refine wpAny_bind (wpAny_callSpecial?_slot (name:=Str.ofString "__next__") b.typeIs F.slot_tuple_iterator_next
  (wpAny_call_entry F.slot_tuple_iterator_next b.typeIs F.entry_tuple_iterator_next ?_ (F.args_tuple_iterator_next_1 _)))
 show wpAny _ _ (field (.ref it) 0 >>= _) _ _ s;refine wpAny_bind (wpAny_field c d (x:=.ref t) rfl ?_);show wpAny _ _ (if (Value.ref t == Value.none)=true then _ else _) _ _ s;rw[if_neg (show ¬ ((Value.ref t == Value.none)=true) from Qq)];show wpAny _ _ (field (.ref it) 1 >>= _) _ _ s;refine wpAny_bind (wpAny_field c d (x:=.int i 0) rfl ?_);show wpAny _ _ (seqItems? (.ref t) >>= _) _ _ s;refine wpAny_bind (wpAny_seqItems j k ?_);simp only[Int.toNat_natCast,hx];refine wpAny_bind (wpAny_rule (wpAny_bind (wpAny_setField c d #[4] ?_)));show wpAny _ _ (newExc (.type "StopIteration") [] >>= _) _ _ _;refine wpAny_bind ?_;simp only[newExc,newTuple];refine wpAny_bind (wpAny_newObj_type ?_ (by size_fits));refine wpAny_bind (m:=firstArgMember _ _) (wpAny_of_eq (a:=Value.none) (by first|rfl|(simp only[firstArgMember];rfl)) ?_);refine wpAny_newObj_type ?_ (by size_fits);simp only[raiseNew];refine wpAny_bind (wpAny_handled ?_);first|rw[show A.in1.handled=none from f]|rw[f]
 refine wpAny_bind (wpAny_pure (wpAny_throw ?_));exact h _ _ (((Heap.SameBut.update ..).extBut.push _).push _) ⟨_,Qs _ rfl,rfl⟩
theorem M0{i:Addr}{k:Nat}{us:List Value}{Q:Value→Shared→Prop}(f:A.handled=none):∀ {S:Src},S.at s.heap i k→S.raw s.heap us→S.many us≤k →
  (∀h' e,Heap.ExtBut i s.heap h'→(∃o,h'.get? e=some o∧o.cls=.type "StopIteration")→E (.ref e) { s with heap:=h' })→wpAny (model prog w) A (Builtin.SmallTypes.nextOf (.ref i)) Q E s
 | .l a,b,g,d,c=>wpAny_nextOf_list_end f b g (by rw[Qaq];exact QN d) c
 | .t a,b,g,d,c=>Zf8 f b g (by rw[Qaq];exact QN d) c
 | .s z,⟨tk,b⟩,g,d,c=>by
  have h:z.cps[k]? = none:=Array.getElem?_eq_none d;by_cases j:z.cps.all (·<128)=true
  ·have e:strIterType z = "str_ascii_iterator":=by unfold strIterType;rw[if_pos j]
   rw[e]at b;exact wpAny_nextOf_ascii_end f b h c
  ·have e:strIterType z = "str_iterator":=by unfold strIterType;rw[if_neg j]
   rw[e]at b;exact wpAny_nextOf_wide_end f b h c
structure To (z TI TO i1 i2:Addr) (S1 S2:Src):Prop where
 TIz:TI≠z
 TOz:TO≠z
 i1z:i1≠z
 i2z:i2≠z
 TITO:TI≠TO
 TIi1:TI≠i1
 TIi2:TI≠i2
 TOi1:TO≠i1
 TOi2:TO≠i2
 i12:i1≠i2
 s1z:S1.off z
 s1TO:S1.off TO
 s1i1:S1.off i1
 s1i2:S1.off i2
 s2z:S2.off z
 s2TO:S2.off TO
 s2i1:S2.off i1
 s2i2:S2.off i2
theorem Zob{z TI TO i1 i2:Addr}{S1 S2:Src}{k:Nat}{q r:List Value}{a b:Value}{Q:Option Value→Shared→Prop}(D:To z TI TO i1 i2 S1 S2)
  (g:IsZip s.heap z TI TO .none) (V:IsPair s.heap TI (.ref i1) (.ref i2)) (W:IsPair s.heap TO a b)
  (h1:S1.at s.heap i1 k) (h2:S2.at s.heap i2 k) (X:S1.raw s.heap q) (Y:S2.raw s.heap r) (Z:k<S1.many q) (m2:k<S2.many r)
  (hQ:∀h' tk x y,S1.fit q k x→S2.fit r k y→IsZip h' z TI TO (rawInt s.heap.objs.size)→IsPair h' TO x y→S1.at h' i1 (k+1)→S2.at h' i2 (k+1)→IsPair h' s.heap.objs.size x y→h'.objs.size=s.heap.objs.size+1 →
   (∀c o,c≠z→c≠TO→c≠i1→c≠i2→s.heap.get? c=some o→h'.get? c=some o)→Q (some (.ref s.heap.objs.size)) { s with heap:=h',toks:=tk }) :
  wpAny (model prog w) A (pyNext (.ref z)) Q E s:=by
 have L:s.TypeIs (.ref z) "zip":=⟨_,g,rfl⟩;unfold pyNext;refine wpAny_bind (wpAny_attempt (wpAny_callSpecial?_slot (name:=Str.ofString "__next__") L F.slot_zip_next (wpAny_call_entry F.slot_zip_next L F.entry_zip_next ?_ (F.args_zip_next_1 _))));show wpAny _ _ (field (.ref z) 2 >>= _) _ _ _;refine wpAny_bind (wpAny_field g rfl (x:=.bool false) rfl ?_);show wpAny _ _ (field (.ref z) 3 >>= _) _ _ _;refine wpAny_bind (wpAny_field g rfl (x:=.ref TI) rfl (wpAny_bind (wpAny_seqItems V rfl ?_)));show wpAny _ _ (Builtin.SmallTypes.ownedTupleIsFree (.ref z) >>= _) _ _ _;unfold Builtin.SmallTypes.ownedTupleIsFree;refine wpAny_bind (wpAny_bind (wpAny_field g rfl (x:=.none) rfl (wpAny_pure ?_)));simp only[if_true];refine wpAny_bind (wpAny_rule (wpAny_bind (wpAny_field g rfl (x:=.ref TO) rfl (wpAny_bind (wpAny_setField_rec g #[4] fun M v f=>?_)))));replace v:IsZip M z TI TO .ellipsis:=v;refine wpAny_bind ?_;simp only[List.zipIdx_cons,List.zipIdx_nil,List.forIn_cons,List.forIn_nil];refine wpAny_bind (wpAny_bind (wpAny_onRaise ?_));show wpAny _ _ (Builtin.SmallTypes.nextOf (.ref i1) >>= _) _ _ _;refine wpAny_bind (Rz (S:=S1) (us:=q) (k:=k) (S1.at_keep (fun o e=>f.extBut _ o D.i1z e) h1) (S1.raw_keep (fun c o n e=>f.extBut c o n e) D.s1z X) Z fun B sS x fx mX dY=>wpAny_pure ?_);have h:Heap.SameBut i1 M B:=dY;have N:IsPair B TO a b:=h.extBut _ _ D.TOi1 (f.extBut _ _ D.TOz W);refine wpAny_bind (wpAny_seqItems N rfl (wpAny_bind (wpAny_updateSeq_pair N fun C G fT=>wpAny_bind (wpAny_letGo (wpAny_pure ?_)))));replace G:IsPair C TO x b:=G;have i:Heap.SameBut TO B C:=fT;refine wpAny_bind (wpAny_bind (wpAny_onRaise ?_));show wpAny _ _ (Builtin.SmallTypes.nextOf (.ref i2) >>= _) _ _ _;refine wpAny_bind (Rz (S:=S2) (us:=r) (k:=k)
  (S2.at_keep (fun o e=>i.extBut _ o D.TOi2.symm (h.extBut _ o D.i12.symm (f.extBut _ o D.i2z e))) h2)
  (S2.raw_keep (fun c o n e=>i.extBut c o n e) D.s2TO (S2.raw_keep (fun c o n e=>h.extBut c o n e) D.s2i1 (S2.raw_keep (fun c o n e=>f.extBut c o n e) D.s2z Y))) m2 fun H sU y fy sV iQ=>wpAny_pure ?_)
 have j:Heap.SameBut i2 C H:=iQ;have O:IsPair H TO x b:=j.extBut _ _ D.TOi2 G;refine wpAny_bind (wpAny_seqItems O rfl (wpAny_bind (wpAny_updateSeq_pair O fun d t iR=>wpAny_bind (wpAny_letGo (wpAny_pure (wpAny_pure ?_))))));replace t:IsPair d TO x y:=t;have l:Heap.SameBut TO H d:=iR;refine wpAny_bind (wpAny_seqItems t rfl (wpAny_bind (wpAny_newTuple ?_)));have m:d.objs.size=s.heap.objs.size:=by rw[l.1,j.1,i.1,h.1,f.1]
 have P:IsZip d z TI TO .ellipsis:=l.extBut _ _ D.TOz.symm (j.extBut _ _ D.i2z.symm (i.extBut _ _ D.TOz.symm (h.extBut _ _ D.i1z.symm v)));have sW:∀c o,c≠z→c≠TO→c≠i1→c≠i2→s.heap.get? c=some o→d.get? c=some o:=fun c o c1 c2 c3 c4 e =>
  l.extBut _ _ c2 (j.extBut _ _ c4 (i.extBut _ _ c2 (h.extBut _ _ c3 (f.extBut _ _ c1 e))))
 have sX:S1.at d i1 (k+1):=S1.at_keep (fun o e=>l.extBut _ o D.TOi1.symm (j.extBut _ o D.i12 (i.extBut _ o D.TOi1.symm e))) mX;have sY:S2.at d i2 (k+1):=S2.at_keep (fun o e=>l.extBut _ o D.TOi2.symm e) sV;have R:z<d.objs.size:=Qp P;show wpAny _ _ (Builtin.SmallTypes.ownedTupleHandOut (.ref z) (.ref d.objs.size) >>= _) _ _ _;refine wpAny_bind ?_;unfold Builtin.SmallTypes.ownedTupleHandOut;have sZ:IsZip (d.push { cls:=.type "tuple",data:=.seq #[x,y] }) z TI TO .ellipsis:=Qc _ P;refine wpAny_bind (wpAny_setField_rec sZ #[4] fun wu I J=>?_);replace I:IsZip wu z TI TO (rawInt d.objs.size):=I;refine wpAny_setField_rec I #[4] fun p u K=>?_;replace u:IsZip p z TI TO (rawInt d.objs.size):=u;have up:∀c o,c≠z→d.get? c=some o→p.get? c=some o:=fun c o c1 e=>K.extBut _ _ c1 (J.extBut _ _ c1 (Qc _ e));have T:IsPair p d.objs.size x y:=K.extBut _ _ (QV R) (J.extBut _ _ (QV R) (Qs _ rfl));have U:p.objs.size=d.objs.size+1:=by rw[K.1,J.1,Q1]
 rw[m]at u T U;refine wpAny_pure ⟨_,rfl,wpAny_pure ?_⟩;show Q (some (.ref d.objs.size)) _;rw[m];exact hQ p sU x y fx fy u (up _ _ D.TOz t) (S1.at_keep (fun o e=>up _ o D.i1z e) sX) (S2.at_keep (fun o e=>up _ o D.i2z e) sY) T U fun c o c1 c2 c3 c4 e=>up c o c1 (sW c o c1 c2 c3 c4 e)
theorem Zm6{z TI TO i1 i2:Addr}{S1 S2:Src}{k:Nat}{h m:List Value}{a b:Value}{Q:Option Value→Shared→Prop}(C:A.handled=none)(D:To z TI TO i1 i2 S1 S2)
  (g:IsZip s.heap z TI TO .none) (O:IsPair s.heap TI (.ref i1) (.ref i2)) (P:IsPair s.heap TO a b)
  (h1:S1.at s.heap i1 k) (h2:S2.at s.heap i2 k) (G:S1.raw s.heap h) (R:S2.raw s.heap m) (U:S1.many h≤k∨S2.many m≤k)
  (V:∀h' tk,(∀c o,c≠z→c≠TO→c≠i1→c≠i2→s.heap.get? c=some o→h'.get? c=some o)→Q none { s with heap:=h',toks:=tk }) :
  wpAny (model prog w) A (pyNext (.ref z)) Q E s:=by
 have H:s.TypeIs (.ref z) "zip":=⟨_,g,rfl⟩;unfold pyNext;have done:∀ (h':Heap) (tk:Nat) (e:Addr),(∀c o,c≠z→c≠TO→c≠i1→c≠i2→s.heap.get? c=some o→h'.get? c=some o)→(∃o,h'.get? e=some o∧o.cls=.type "StopIteration") →
   wpAny (model prog w) A (do if (← isInstance (.ref e) (.type "StopIteration")) then pure none else throw (.ref e):Sem (Option Value)) Q E { s with heap:=h',toks:=tk }:=fun h' tk e W ⟨o,X,Y⟩=>
  wpAny_bind (wpAny_isInstance (T := "StopIteration") (b:=true) ⟨o,X,Y⟩ isSubtype_stop (wpAny_pure (V h' tk W)))
 refine wpAny_bind (wpAny_attempt (wpAny_callSpecial?_slot (name:=Str.ofString "__next__") H F.slot_zip_next (wpAny_call_entry F.slot_zip_next H F.entry_zip_next ?_ (F.args_zip_next_1 _))));show wpAny _ _ (field (.ref z) 2 >>= _) _ _ _;refine wpAny_bind (wpAny_field g rfl (x:=.bool false) rfl ?_);show wpAny _ _ (field (.ref z) 3 >>= _) _ _ _;refine wpAny_bind (wpAny_field g rfl (x:=.ref TI) rfl (wpAny_bind (wpAny_seqItems O rfl ?_)));show wpAny _ _ (Builtin.SmallTypes.ownedTupleIsFree (.ref z) >>= _) _ _ _;unfold Builtin.SmallTypes.ownedTupleIsFree;refine wpAny_bind (wpAny_bind (wpAny_field g rfl (x:=.none) rfl (wpAny_pure ?_)));simp only[if_true];refine wpAny_bind (wpAny_rule (wpAny_bind (wpAny_field g rfl (x:=.ref TO) rfl (wpAny_bind (wpAny_setField_rec g #[4] fun I p d=>?_)))));replace p:IsZip I z TI TO .ellipsis:=p;refine wpAny_bind ?_;simp only[List.zipIdx_cons,List.zipIdx_nil,List.forIn_cons,List.forIn_nil];refine wpAny_bind (wpAny_bind (wpAny_onRaise ?_));show wpAny _ _ (Builtin.SmallTypes.nextOf (.ref i1) >>= _) _ _ _;by_cases Z:k<S1.many h
 ·have m2:S2.many m≤k:=by rcases U with z'|z';lia;exact z'
  refine wpAny_bind (Rz (S:=S1) (us:=h) (k:=k) (S1.at_keep (fun o e=>d.extBut _ o D.i1z e) h1) (S1.raw_keep (fun c o n e=>d.extBut c o n e) D.s1z G) Z fun i sS x fx mX q=>wpAny_pure ?_);have j:Heap.SameBut i1 I i:=q;have J:IsPair i TO a b:=j.extBut _ _ D.TOi1 (d.extBut _ _ D.TOz P);refine wpAny_bind (wpAny_seqItems J rfl (wpAny_bind (wpAny_updateSeq_pair J fun u gD r=>wpAny_bind (wpAny_letGo (wpAny_pure ?_)))));have t:Heap.SameBut TO i u:=r;refine wpAny_bind (wpAny_bind (wpAny_onRaise ?_));show wpAny _ _ (Builtin.SmallTypes.nextOf (.ref i2) >>= _) _ _ _;refine wpAny_bind (M0 (S:=S2) (us:=m) (k:=k) C
   (S2.at_keep (fun o e=>t.extBut _ o D.TOi2.symm (j.extBut _ o D.i12.symm (d.extBut _ o D.i2z e))) h2)
   (S2.raw_keep (fun c o n e=>t.extBut c o n e) D.s2TO (S2.raw_keep (fun c o n e=>j.extBut c o n e) D.s2i1 (S2.raw_keep (fun c o n e=>d.extBut c o n e) D.s2z R))) m2 fun fg e K v=>?_)
  obtain⟨y,f,l⟩:=v;have L:IsZip fg z TI TO .ellipsis:=K _ _ D.i2z.symm (t.extBut _ _ D.TOz.symm (j.extBut _ _ D.i1z.symm p));have B:e≠z:=fun x=>by subst x;rw[L]at f;cases f;simp at l
  exact wpAny_setField_rec L #[4] fun bi _ M=>done bi _ e (fun c o c1 c2 c3 c4 x=>M.extBut _ _ c1 (K _ _ c4 (t.extBut _ _ c2 (j.extBut _ _ c3 (d.extBut _ _ c1 x))))) ⟨y,M.extBut _ _ B f,l⟩
 ·refine wpAny_bind (M0 (S:=S1) (us:=h) (k:=k) C (S1.at_keep (fun o e=>d.extBut _ o D.i1z e) h1) (S1.raw_keep (fun c o n e=>d.extBut c o n e) D.s1z G) #[2] fun i e q v=>?_);obtain⟨y,f,l⟩:=v;have N:IsZip i z TI TO .ellipsis:=q _ _ D.i1z.symm p;have B:e≠z:=fun x=>by subst x;rw[N]at f;cases f;simp at l
  exact wpAny_setField_rec N #[4] fun u _ r=>done u _ e (fun c o c1 _ c3 _ x=>r.extBut _ _ c1 (q _ _ c3 (d.extBut _ _ c1 x))) ⟨y,r.extBut _ _ B f,l⟩
end
noncomputable def Src.iter(tk:Tok):Src→Obj
 | .l a=>{ cls:=.type "list_iterator",data:=.fields #[.ref a,.int 0 0] }
 | .t a=>{ cls:=.type "tuple_iterator",data:=.fields #[.ref a,.int 0 0] }
 | .s z=>{ cls:=.type (strIterType z),data:=.fields #[.str z tk,.int 0 0] }
noncomputable def Src.value(tk:Tok):Src→Value
 | .l a=>.ref a
 | .t a=>.ref a
 | .s z=>.str z tk
theorem Src.iter_at{h:Heap}{i:Addr}{tk:Tok}:∀ {S:Src},h.get? i=some (S.iter tk)→S.at h i 0
 | .l _,e=>⟨_,e,rfl,rfl⟩
 | .t _,e=>⟨_,e,rfl,rfl⟩
 | .s _,e=>⟨tk,_,e,rfl,rfl⟩
theorem Src.pyIter{prog:Program}{w:World}{A:Around}{E:Value→Shared→Prop}{s:Shared}{tk:Tok}{us:List Value}{Q:Value→Shared→Prop}:∀ {S:Src},S.raw s.heap us →
  Q (.ref s.heap.objs.size) { s with heap:=s.heap.push (S.iter tk) }→wpAny (model prog w) A (pyIter (S.value tk)) Q E s
 | .l _,r,q=>wpAny_pyIter_list r q
 | .t _,r,q=>wpAny_pyIter_tuple r q
 | .s _,_,q=>wpAny_pyIter_strU q
theorem Src.raw_push{h:Heap}{ob:Obj}:∀ {S:Src} {us:List Value},S.raw h us→S.raw (h.push ob) us
 | .l _,_,⟨o,e,d⟩=>⟨o,Qc _ e,d⟩
 | .t _,_,⟨o,e,d⟩=>⟨o,Qc _ e,d⟩
 | .s _,_,_=>trivial
noncomputable abbrev zH1(h:Heap)(S1:Src)(a:Tok):Heap:=h.push (S1.iter a)
noncomputable abbrev zH2(h:Heap)(S1 S2:Src)(a b:Tok):Heap:=(zH1 h S1 a).push (S2.iter b)
noncomputable abbrev zH3(h:Heap)(S1 S2:Src)(a b:Tok):Heap:=(zH2 h S1 S2 a b).push { cls:=.type "tuple",data:=.seq #[.ref h.objs.size,.ref (zH1 h S1 a).objs.size] }
noncomputable abbrev zH4(h:Heap)(S1 S2:Src)(a b:Tok):Heap:=(zH3 h S1 S2 a b).push { cls:=.type "tuple",data:=.seq #[.none,.none] }
noncomputable abbrev zH5(h:Heap)(S1 S2:Src)(a b:Tok):Heap:=(zH4 h S1 S2 a b).push { cls:=.type "zip",data:=.fields #[.none,.bool false,.bool false,.ref (zH2 h S1 S2 a b).objs.size,.ref (zH3 h S1 S2 a b).objs.size] }
theorem ZpY(S1 S2:Src)(a e:Tok)(i j:List Value) :
  Meets (Builtin.«zip.__new__» ⟨[.type "zip",S1.value a,S2.value e],[]⟩) (fun _ R s=>S1.raw s.heap i∧S2.raw s.heap j ∧
   R (.ok (.ret (.ref (zH4 s.heap S1 S2 a e).objs.size))) { s with heap:=zH5 s.heap S1 S2 a e }) :=
 .of_wp fun b w A R s h=>by
  obtain⟨c,g,d,f,os⟩:=s;obtain⟨m,n,h⟩:=h;have m6:=sub_zip;have k:∀ {A:Around} {E:Value→Shared→Prop} {Q:Value→Shared→Prop},Q (.ref c.objs.size) ⟨zH1 c S1 a,g,d,f,os⟩→wpAny (model b w) A (pyIter (S1.value a)) Q E ⟨c,g,d,f,os⟩:=
   fun {A E Q} q=>Src.pyIter (s:=⟨c,g,d,f,os⟩) (us:=i) m q
  have l:∀ {A:Around} {E:Value→Shared→Prop} {Q:Value→Shared→Prop},Q (.ref (zH1 c S1 a).objs.size) ⟨zH2 c S1 S2 a e,g,d,f,os⟩→wpAny (model b w) A (pyIter (S2.value e)) Q E ⟨zH1 c S1 a,g,d,f,os⟩:=
   fun {A E Q} q=>Src.pyIter (s:=⟨zH1 c S1 a,g,d,f,os⟩) (us:=j) (S2.raw_push n) q
  generalize S1.value a=v1 at k ⊢;generalize S2.value e=v2 at l ⊢
  wp_walk using k,l
  exact⟨_,rfl,h⟩
section
variable {prog:Program} {w:World} {A:Around} {E:Value→Shared→Prop} {s:Shared}
theorem ZnO{S1 S2:Src}{a b:Tok}{e f:List Value}{Q:Value→Shared→Prop}(m:S1.raw s.heap e)(n:S2.raw s.heap f)
  (h:∀h',IsZip h' (s.heap.objs.size+4) (s.heap.objs.size+2) (s.heap.objs.size+3) .none→IsPair h' (s.heap.objs.size+2) (.ref s.heap.objs.size) (.ref (s.heap.objs.size+1)) →
   IsPair h' (s.heap.objs.size+3) .none .none→S1.at h' s.heap.objs.size 0→S2.at h' (s.heap.objs.size+1) 0→h'.objs.size=s.heap.objs.size+5 →
   (∀c o,s.heap.get? c=some o→h'.get? c=some o)→Q (.ref (s.heap.objs.size+4)) { s with heap:=h' }) :
  wpAny (model prog w) A (call (.type "zip") [S1.value a,S2.value b]) Q E s:=by
 refine callType_new F.called_zip #[6] (F.typeCall_zip_2 _ _) (F.newCall_zip_2 _ _) (fun obj=>F.args_object_init_3 obj _ _) F.entry_zip_new (ZpY S1 S2 a b e f) ⟨m,n,?_⟩;have z1:(zH1 s.heap S1 a).objs.size=s.heap.objs.size+1:=Q1 ..;have z2:(zH2 s.heap S1 S2 a b).objs.size=s.heap.objs.size+2:=by rw[Q1,z1]
 have z3:(zH3 s.heap S1 S2 a b).objs.size=s.heap.objs.size+3:=by rw[Q1,z2]
 have z4:(zH4 s.heap S1 S2 a b).objs.size=s.heap.objs.size+4:=by rw[Q1,z3]
 have z5:(zH5 s.heap S1 S2 a b).objs.size=s.heap.objs.size+5:=by rw[Q1,z4]
 have g:∀ (i:Tok) (S:Src),(S.iter i).isFreed=false:=fun i S=>by cases S<;>rfl
 have d:(zH5 s.heap S1 S2 a b).get? (zH4 s.heap S1 S2 a b).objs.size=some _:=Qs _ rfl;have j:(zH5 s.heap S1 S2 a b).get? (zH3 s.heap S1 S2 a b).objs.size=some _:=Qc _ (Qs _ rfl);have k:(zH5 s.heap S1 S2 a b).get? (zH2 s.heap S1 S2 a b).objs.size=some _:=Qc _ (Qc _ (Qs _ rfl));have l:(zH5 s.heap S1 S2 a b).get? (zH1 s.heap S1 a).objs.size=some (S2.iter b):=Qc _ (Qc _ (Qc _ (Qs _ (g _ _))));have p:(zH5 s.heap S1 S2 a b).get? s.heap.objs.size=some (S1.iter a):=Qc _ (Qc _ (Qc _ (Qc _ (Qs _ (g _ _)))));show _∧_;rw[z2,z3,z4]at d;rw[z1,z2]at k;rw[z3]at j;rw[z1]at l;rw[z4];exact⟨⟨_,d,rfl⟩,h _ d k j (Src.iter_at p) (Src.iter_at l) z5 fun c o x =>
  Qc _ (Qc _ (Qc _ (Qc _ (Qc _ x))))⟩
end
noncomputable def Itz(K:#[7])(S1 S2:Src):It :=
 ⟨fun i H=>∃a b,S1.its K H a∧S2.its K H b∧i<a.length∧i<b.length,
  fun i H v c=>∃p,H p=none∧v=.ref p∧∀a b,S1.its K H a→S2.its K H b→∀x y,a[i]? = some x→b[i]? = some y→c=upd H p (.tup [x,y]),
  fun i H=>∃a b,S1.its K H a∧S2.its K H b∧(a.length≤i∨b.length≤i)⟩
section
variable {X:Cx} {aa:List (Addr×Obj)} {σ:St} {H:Hp} {s:Shared}
theorem Inv.src(I:Inv X aa σ H s):∀ {S:Src} {xs:List V},S.its X.K H xs→∃us,S.raw s.heap us∧S.many us=xs.length∧∀k u x,S.fit us k u→xs[k]? = some x→ZM x u
 | .l a,xs,h=>by obtain⟨its,e,pl,_⟩:=I.list h;refine⟨its,pl.isList,e.length.symm,fun k u x f b=>?_⟩;obtain⟨g,d,r⟩:=e.get b;rw[show its[k]? = some u from f]at d;cases d;exact r
 | .t a,xs,h=>by obtain⟨its,e,pl,_⟩:=I.tuple h;refine⟨its,pl,e.length.symm,fun k u x f b=>?_⟩;obtain⟨g,d,r⟩:=e.get b;rw[show its[k]? = some u from f]at d;cases d;exact r
 | .s z,xs,h=>by
  refine⟨[],trivial,?_,fun k u x f b=>?_⟩
  ·rw[show xs=_ from h,Qa];simp[Src.many]
  ·obtain⟨c,i,d,j⟩:=f;subst j;rw[show xs=_ from h,Qm]at b;have l:z.cps.toList[k]? = some c:=by simpa using d
   rw[l]at b;cases b;exact⟨i,rfl⟩
theorem Inv.src_off(I:Inv X aa σ H s){b:Addr}(hb:XD X aa H b):∀ {S:Src} {xs:List V},S.its X.K H xs→S.off b
 | .l a,xs,h=>by
  rcases h with(h|⟨ob,h⟩)|⟨o,its,n,hk,_⟩
  ·exact Zb h hb.1
  ·exact Zb h hb.1
  ·rintro rfl;have e:=I.ok.mod.kin a o hk;rcases hb.2.2.2.1 with z|z
   ·exact I.ok.noex a o e z
   ·exact absurd (QD (Qp e) (QB I.ok.bsz z)) (QW _)
 | .t a,xs,h=>by
  rcases h with(h|⟨ob,h⟩)|⟨o,its,n,hk,_⟩
  ·exact Zb h hb.1
  ·exact Zb h hb.1
  ·rintro rfl;have e:=I.ok.mod.kin a o hk;rcases hb.2.2.2.1 with z|z
   ·exact I.ok.noex a o e z
   ·exact absurd (QD (Qp e) (QB I.ok.bsz z)) (QW _)
 | .s z,xs,h=>trivial
theorem Inv.zipped{fp:List Addr}{h':Heap}{tk:Nat}{x y:V}{u v:Value}(I:Inv X aa σ H s)(g:∀b∈fp,XD X aa H b)(k:ZM x u)(l:ZM y v)
  (hp:IsPair h' s.heap.objs.size u v) (hfh:∀b∈fp,∃o,h'.get? b=some o) (hk:∀c o,c ∉ fp→s.heap.get? c=some o→h'.get? c=some o) :
  Inv X aa σ (upd H s.heap.objs.size (.tup [x,y])) { s with heap:=h',toks:=tk }:=by
 have p:H s.heap.objs.size=none:=I.fresh;have ne:∀b a,s.heap.get? b=some a→b≠s.heap.objs.size:=fun b a e=>Qu (Qp e);have h:∀b u,H b=some u→b≠s.heap.objs.size:=fun b u e=>Zb e p;have i:∀b u,H b=some u→b ∉ fp:=fun b u e d=>by rw[(g b d).1]at e;cases e
 refine I.step (g':=s.gens) (d':=s.drawn) (ch:=fp) (fun b d=>⟨(g b d).2.2.2.1,(g b d).2.1,(g b d).2.2.2.2.1,(g b d).2.2.2.2.2⟩)
  (fun b a _ _ f e _=>hk b a f e) (fun b a _ _ f e _=>⟨a.slots,hk b a f e⟩) (fun b a _ e n=>by rw[Zc (ne b a e)];exact n) (fun b a f e=>⟨a,hk b a f e⟩)
  (fun b t e=>by rw[Zc (h b _ e)];exact e) (fun b a u e=>by rw[Zc (h b _ e)];exact e) (fun b ps e=>⟨#[],by rw[Zc (h b _ e),e];simp⟩) (fun m w=>?_) (fun b j e=>?_) I.bare
 ·obtain⟨a,A,B,C,r⟩:=w;exact⟨a,A,B,hk _ a (fun z=>(g _ z).2.1 rfl) C,r⟩
 ·by_cases d:b=s.heap.objs.size
  ·subst d;rw[Zd]at e;cases e;exact⟨by show 2≤sizeLine;decide,[u,v],.cons k (.cons l .nil),⟨_,hp,rfl,_,rfl⟩⟩
  ·rw[Zc d]at e;refine(I.hok b j e).stay (fun c D f q=>hk c D ?_ q) (fun c q=>by rw[Zc (h c _ q)];exact q) fun c t q=>by rw[Zc (h c _ q)];exact q
   rcases f with z|z
   ·rw[z];exact i b j e
   ·exact i c _ z
end
theorem ZnQ{P:Program}{w:World}{K:#[7]}{bw:List Expr}{x1:Nat}{bQ:Pos}{S1 S2:Src}{z TI TO i1 i2:Addr}
  (Q:TI≠z) (W:TO≠z) (Y:i1≠z) (Z:i2≠z) (d5:TI≠TO) (d6:TI≠i1) (d7:TI≠i2) (d8:TO≠i1) (d9:TO≠i2) (iU:i1≠i2) :
  Wf P w K (.Tuple bw x1 bQ) (Itz K S1 S2) [z,TI,TO,i1,i2] z
   (fun i h=>IsZip h z TI TO .none∧IsPair h TI (.ref i1) (.ref i2)∧(∃a b,IsPair h TO a b)∧S1.at h i1 i∧S2.at h i2 i) where
 mem:=by simp
 obj:=fun i h st b j=>by
  obtain⟨J,L,⟨a,b',M⟩,N,O⟩:=st;have nf:∀ {o:Obj} {A:Array Value},o.data=.fields A→∀v,o.data≠.cell v:=fun d v e=>by rw[d]at e;cases e
  simp only[List.mem_cons,List.not_mem_nil,or_false]at j;rcases j with rfl|rfl|rfl|rfl|rfl
  ·exact⟨_,J,nf rfl⟩
  ·exact⟨_,L,fun v e=>by cases e⟩
  ·exact⟨_,M,fun v e=>by cases e⟩
  ·obtain⟨o,A,e,d⟩:=Src.at_obj N;exact⟨o,e,nf d⟩
  ·obtain⟨o,A,e,d⟩:=Src.at_obj O;exact⟨o,e,nf d⟩
 keep:=fun i h R st k=>by obtain⟨J,L,⟨a,b',M⟩,N,O⟩:=st;exact⟨k z #[4] _ J,k TI #[4] _ L,⟨a,b',k TO #[4] _ M⟩,Src.at_keep (fun o e=>k i1 #[4] o e) N,Src.at_keep (fun o e=>k i2 #[4] o e) O⟩
 item:=by
  intro X hP hw hK f i aa s σ H E I g st hg;subst hP hw hK;obtain⟨J,L,⟨a,b',M⟩,N,O⟩:=st;obtain⟨xs,ys,B,C,l1,l2⟩:=hg;obtain⟨dA,r1,m1,f1⟩:=I.src B;obtain⟨cE,r2,m2,f2⟩:=I.src C;have T:=g z #[4];have D:To z TI TO i1 i2 S1 S2:=⟨Q,W,Y,Z,d5,d6,d7,d8,d9,iU,I.src_off T B,I.src_off (g TO #[4]) B,I.src_off (g i1 #[4]) B,I.src_off (g i2 #[4]) B,
   I.src_off T C,I.src_off (g TO #[4]) C,I.src_off (g i1 #[4]) C,I.src_off (g i2 #[4]) C⟩
  refine Zob D J L M N O r1 r2 #[2] #[2] fun R tk x y fx fy a1 a2 a3 a4 a5 a6 a7=>?_;have rx:=f1 i x _ fx (Qb l1);have ry:=f2 i y _ fy (Qb l2);refine⟨_,rfl,wpAny_letOwnedTupleGo_zip a1 fun iV qU jx=>?_⟩;have G:Heap.SameBut z R iV:=jx;have qV:IsPair R TI (.ref i1) (.ref i2):=a7 _ _ Q d5 d6 d7 L;have lt:∀ {b:Addr} {o:Obj},s.heap.get? b=some o→s.heap.objs.size≠b:=fun e=>QV (Qp e);have AO:s.heap.objs.size≠z:=lt J;have I2:Inv X aa σ (upd H s.heap.objs.size (.tup [xs[i],ys[i]])) { s with heap:=iV,toks:=tk }:=by
   refine I.zipped (fp:=[z,TI,TO,i1,i2]) g rx ry (G.extBut _ _ AO a5) (fun b j=>?_) fun c o f e=>?_
   ·simp only[List.mem_cons,List.not_mem_nil,or_false]at j;rcases j with rfl|rfl|rfl|rfl|rfl
    ·exact⟨_,qU⟩
    ·exact⟨_,G.extBut _ _ Q qV⟩
    ·exact⟨_,G.extBut _ _ W a2⟩
    ·obtain⟨o,A,e,_⟩:=Src.at_obj a3;exact⟨o,G.extBut _ _ Y e⟩
    ·obtain⟨o,A,e,_⟩:=Src.at_obj a4;exact⟨o,G.extBut _ _ Z e⟩
   ·simp only[List.mem_cons,List.not_mem_nil,or_false,not_or]at f;exact G.extBut _ _ f.1 (a7 c o f.1 f.2.2.1 f.2.2.2.1 f.2.2.2.2 e)
  refine⟨.ref s.heap.objs.size,_,I2,rfl,⟨s.heap.objs.size,I.fresh,rfl,fun AQ fh w1 w2 x' y' e1 e2=>?_⟩,⟨qU,G.extBut _ _ Q qV,⟨_,_,G.extBut _ _ W a2⟩,Src.at_keep (fun o e=>G.extBut _ o Y e) a3,Src.at_keep (fun o e=>G.extBut _ o Z e) a4⟩,fun b j=>?_⟩
  ·have same:∀ {S:Src} {us A:List V},S.its X.K H us→S.its X.K H A→us=A:=fun {S us A} p q=>by
    cases S with
    | l a=>exact I.list_inj p q
    | t a=>exact I.tuple_inj p q
    | s z=>rw[show us=_ from p,show A=_ from q]
   have e3:=same w1 B;have e4:=same w2 C;subst e3;subst e4;rw[Qb l1]at e1;rw[Qb l2]at e2;cases e1;cases e2;rfl
  ·rw[Zc (fun e=>by
    obtain⟨o,e1,_⟩:∃o,s.heap.get? b=some o∧True:=by
     simp only[List.mem_cons,List.not_mem_nil,or_false]at j;rcases j with rfl|rfl|rfl|rfl|rfl
     ·exact⟨_,J,trivial⟩
     ·exact⟨_,L,trivial⟩
     ·exact⟨_,M,trivial⟩
     ·obtain⟨o,A,e,_⟩:=Src.at_obj N;exact⟨o,e,trivial⟩
     ·obtain⟨o,A,e,_⟩:=Src.at_obj O;exact⟨o,e,trivial⟩
    exact lt e1 e.symm)]
   exact(g b j).1
 done:=by
  intro X hP hw hK f i aa s σ H E I g st hg;subst hP hw hK;obtain⟨J,L,⟨a,b',M⟩,N,O⟩:=st;obtain⟨xs,ys,B,C,l⟩:=hg;obtain⟨dA,r1,m1,f1⟩:=I.src B;obtain⟨cE,r2,m2,f2⟩:=I.src C;have T:=g z #[4];have D:To z TI TO i1 i2 S1 S2:=⟨Q,W,Y,Z,d5,d6,d7,d8,d9,iU,I.src_off T B,I.src_off (g TO #[4]) B,I.src_off (g i1 #[4]) B,I.src_off (g i2 #[4]) B,
   I.src_off T C,I.src_off (g TO #[4]) C,I.src_off (g i1 #[4]) C,I.src_off (g i2 #[4]) C⟩
  refine Zm6 (I.ok.hd f) D J L M N O r1 r2 #[2] fun R tk hk=>⟨rfl,?_⟩;have U:∀c o,c ∉ [z,TI,TO,i1,i2]→s.heap.get? c=some o→R.get? c=some o:=fun c o f e=>by simp only[List.mem_cons,List.not_mem_nil,or_false,not_or]at f;exact hk c o f.1 f.2.2.1 f.2.2.2.1 f.2.2.2.2 e
  have m7:∀b u,H b=some u→b ∉ [z,TI,TO,i1,i2]:=fun b u e j=>by rw[(g b j).1]at e;cases e
  refine I.step (g':=s.gens) (d':=s.drawn) (ch:=[z,TI,TO,i1,i2]) (fun b j=>⟨(g b j).2.2.2.1,(g b j).2.1,(g b j).2.2.2.2.1,(g b j).2.2.2.2.2⟩)
   (fun b F _ _ f e _=>U b F f e) (fun b F _ _ f e _=>⟨F.slots,U b F f e⟩) (fun b F _ e n=>n) (fun b F f e=>⟨F,U b F f e⟩)
   (fun b xs e=>e) (fun b F u e=>e) (fun b ps e=>⟨#[],by rw[e];simp⟩) (fun m hm=>?_) (fun b ub e=>?_) I.bare
  ·obtain⟨F,es,ep,ho,r⟩:=hm;exact⟨F,es,ep,U _ F (fun z=>(g _ z).2.1 rfl) ho,r⟩
  ·refine(I.hok b ub e).stay (fun c w' f q=>U c w' ?_ q) (fun c q=>q) fun c xs q=>q;rcases f with z'|z'
   ·rw[z'];exact m7 b ub e
   ·exact m7 c _ z'
 self:=fun _ _ _ _ _ st h=>wpAny_pyIter_zip st.1 h
def MZ(K:#[7])(b:TA):TI:=fun c H R=>b c H fun vs a=>∃S1 S2 xs ys,vs=[Src.val S1,Src.val S2]∧S1.its K a xs∧S2.its K a ys∧R (Itz K S1 S2) a
theorem Zrb{X:Cx}{a b:Expr}{i:TA}{p pos:Pos}{A:List Expr}{B:Nat}{C:Pos}(D:Gl X "zip")(hm:X.mg "zip" = none)(ha:PA X [a,b] i)
  (E:starEach [a,b] X.env=[(false,eval a X.env),(false,eval b X.env)]:=by rfl) (j:starEach [b] X.env=[(false,eval b X.env)]:=by rfl) :
  PI X (.Tuple A B C) (.Call (.Name "zip" p) [a,b] [] pos) (MZ X.K i):=by
 intro k s m H R I h;refine Call_ (Wi I D hm boot_zip (QY (thn (ha pos k s m H _ I h) ?_) (by rw[E,j]) (by rw[j];rfl)));rintro us c ⟨vs,o,d,f,F⟩;obtain⟨S1,S2,xs,ys,e,G,J,q⟩:=F;subst e;obtain⟨u1,u2,rfl,K,L⟩:=f.two;have v:∀ {S:Src} {u:Value},ZM S.val u→∃g,u=S.value g:=fun {S u} r=>by
  cases S with
  | l a=>exact⟨0,r⟩
  | t a=>exact⟨0,r⟩
  | s z=>obtain⟨g,e⟩:=r;exact⟨g,e⟩
 obtain⟨t1,rfl⟩:=v K;obtain⟨t2,rfl⟩:=v L;obtain⟨dA,f,m1,f1⟩:=d.src G;obtain⟨cE,M,m2,f2⟩:=d.src J;refine ZnO f M fun N w O P a1 a2 a3 Q=>wpAny_pyIter_zip w ?_;have T:Inv X k m o { c with heap:=N }:=d.kept (t':=c.toks) Q;have n:=c.heap.objs.size;refine⟨_,_,_,_,o,rfl,T,ZnQ (S1:=S1) (S2:=S2) (z:=c.heap.objs.size+4) (TI:=c.heap.objs.size+2) (TO:=c.heap.objs.size+3) (i1:=c.heap.objs.size) (i2:=c.heap.objs.size+1)
  (Qu (Qam #[6] _)) (Qu (Qam #[6] _)) (Qu (Qav #[6])) (Qu (Qam #[6] _))
  (Qu (Qam #[6] _)) (QV (Qav #[6])) (QV (Qam #[6] _)) (QV (Qav #[6]))
  (QV (Qam #[6] _)) (Qu (Qav #[6])),⟨w,O,⟨_,_,P⟩,a1,a2⟩,fun b x=>?_,q⟩
 have y:c.heap.objs.size≤b:=by
  simp only[List.mem_cons,List.not_mem_nil,or_false]at x;rcases x with rfl|rfl|rfl|rfl|rfl
  ·exact QaL _ 4
  ·exact QaL _ 2
  ·exact QaL _ 3
  ·exact Qh _
  ·exact QaL _ 1
 exact d.fpOk y (d.hok.fresh y)
section
variable {X:Cx} (K:#[7])
theorem ixL(h:X.K=K:=by rfl):IxR X (Nr K):=by subst h;exact ZpH
theorem ixT(h:X.K=K:=by rfl):IxR X (Nq K):=by subst h;exact ZqM
theorem slL(h:X.K=K:=by rfl):SlR X (No K):=by subst h;exact Zo1
def ZrQ:List V→Hp→VK→Prop:=fun xs H Q=>∃p ys,xs=[.ref p]∧(SqL K H p ys∨SqT K H p ys)∧Q (.int ys.length) H
theorem YB(h:X.K=K:=by rfl):Y1 X (.builtin "len") (ZrQ K):=by subst h;exact Zjc
theorem Xc(h:X.K=K:=by rfl):Y1 X (.builtin "isinstance") (Nc K):=by subst h;exact ZnU
theorem Zr9(h:X.K=K:=by rfl):Y1 X (.builtin "isinstance") (Nb K):=by subst h;exact ZmJ
def Zr7:List V→Hp→VK→Prop:=fun xs H Q=>∃ (p:Addr) (bs:List Bool),xs=[.ref p]∧SqL K H p (bs.map V.bl)∧Q (.bl (bs.all id)) H
theorem MY(hc:X.calm=true:=by rfl)(h:X.K=K:=by rfl):Y1 X (.builtin "all") (Zr7 K):=by subst h;exact Znb hc
def Zr6:List V→Hp→VK→Prop:=fun xs H Q=>∃ (p:Addr) (ss:List Str),xs=[.ref p]∧SqL K H p (ss.map V.str)∧ss.length<64 ∧
  ∀ (l:Addr) (a:List Str),H l=none→a.Perm ss→sortedS a=true→Q (.ref l) (upd H l (.lst (a.map V.str)))
theorem Rx(h:X.K=K:=by rfl):Y1 X (.builtin "sorted") (Zr6 K):=by subst h;exact Zjf
def Zss:V→List V→Hp→VK→Prop:=fun x vs H Q=>∃ (sep:Str) (p:Addr) (ys:List Str),x=.str sep∧vs=[.ref p]∧SqL K H p (ys.map V.str)∧(ys.map (·.length)).sum+ys.length*sep.length≤16777216∧Q (.str (Txt.join sep ys)) H
theorem ZrU(h:X.K=K:=by rfl):MtR X "str.join" (Zss K):=by subst h;exact ZpX
theorem iL{b l:Expr}{a:TE}(hl:PE X l a)(h:X.K=K:=by rfl):PI X b l (NV K a):=by subst h;exact ZpK hl
theorem gT{a:List Expr}{k:Nat}{t:TGs}{n:Nat}{pos:Pos}(h:PGs X a t)(b:X.K=K:=by rfl)(hc:X.calm=true:=by rfl)
  (c:(assignEach a X.env).length=n:=by rfl) (d:(assignEach a X.env).findIdx? (·.1)=none:=by rfl):PG X (.Tuple a k pos) (NW K n t):=by subst b;exact ZqT hc h c d
theorem iZ{a b:Expr}{c:TA}{p pos:Pos}{d:List Expr}{e:Nat}{f:Pos}(hm:X.mg "zip" = none)(ha:PA X [a,b] c)(g:Gl X "zip":=by rfl)(h:X.K=K:=by rfl)
  (i:starEach [a,b] X.env=[(false,eval a X.env),(false,eval b X.env)]:=by rfl) (j:starEach [b] X.env=[(false,eval b X.env)]:=by rfl) :
  PI X (.Tuple d e f) (.Call (.Name "zip" p) [a,b] [] pos) (MZ K c):=by subst h;exact Zrb g hm ha i j
end
structure Df (P:Program) (w:World) (K:#[7]) (mg:Str→Option Value) (base:Heap) (k:Nat) (x:Str) (ps:List Str) (sp:Sp):Prop where
 ex:∃f fd,X2 P w K mg base CX0 k f fd ps sp∧mg x=some (.ref f)∧PySem.W.keepIn K (.ref f)=true∧XQ K fd ps []
section
variable {P:Program} {w:World} {K:#[7]} {mg:Str→Option Value} {base:Heap}
structure Top (K:#[7]) (mg:Str→Option Value) (x:Str) (st:Stmt) (ps:List Str):Prop where
 ex:∃f fd,Fun K x x st f fd∧mg x=some (.ref f)∧XQ K fd ps []
theorem Top.df{x:Str}{st:Stmt}{N ps:List Str}{k:Nat}{sp:Sp}(T:Top K mg x st ps)(S:Zr N ps (Zg st))(len:∀vs H Q E,sp vs H Q E→vs.length=ps.length)
  (c:∀ (a:Value) (f:Addr) (A:Around) (outer:List Env) (s:Shared) (H:Hp) (vs:List V) (Q:VK) (E:XK),Y5 k (A.deeper (envOfC x (Zg st) s.heap.objs.size f a))→sp vs H Q E →
   ∃t,PSs (WI CX0 P w K mg base N x (Zg st) f a A outer s H E).nox (Zm st) t∧t { nx:=fun _ H'=>Q .non H',rt:=Q } (Xd N vs) H):Df P w K mg base (k+1) x ps sp:=by
 obtain⟨f,d,F,m,b⟩:=T.ex;exact⟨f,d,F.ok S len (fun a A outer s H vs Q E e h=>c a f A outer s H vs Q E e h),m,F.kp,b⟩
end
section
variable {X:Cx} {k j:Nat} {x:Str} {ps:List Str} {sp:Sp} {e:Expr} {es:List Expr} {t:TA} {p pos:Pos}
theorem Zz(F:Df X.prog X.w X.K X.mg X.base k x ps sp)(a:Y5 j X.A)(ha:PA X (e::es) t)(c:k≤j:=by decide)(d:Gl X x:=by rfl)(g:(x == ("__debug__" : Str))=false:=by decide)
  (h:starEach (e::es) X.env=(false,eval e X.env)::starEach es X.env:=by rfl) (i:(backTo pos (starEach es X.env)).any (·.1)=false:=by rfl) :
  PE X (.Call (.Name x p) (e::es) [] pos) (NC sp [] E0 t):=by
 obtain⟨f,fd,F,m,l,b⟩:=F.ex;exact Zo4 F (a.mono c) d m l b .nil Tq ha g h i
theorem XO{T:String}(hm:X.mg x=none)(hv:bootBuiltins x=some (.type T))(a:Gl X x:=by rfl)(b:x ≠ "__name__":=by decide)(hd:(x == ("__debug__" : Str))=false:=by decide):PE X (.Name x pos) (tC (.ty T)) :=
 ZpJ a hm hv rfl b hd
end
theorem Tn{lo:Int}{n k:Nat}{D:Addr}{a:St}{c:Hp}{g:TG}{d:TE}{Q:VK}(Pv:Nat→List V→St→Hp→Prop)(h0:Pv 0 [] (a++List.replicate k none) (upd c D (.lst [])))
  (j:∀i ys a H,i<n→Pv i ys a H→g (.int (lo+i)) a H fun f l=>d f l fun y h=>h D=some (.lst ys)∧ys.length<sizeLine∧Pv (i+1) (ys++[y]) f (upd h D (.lst (ys++[y]))))
  (hd:∀ys a H,Pv n ys a H→Q (.ref D) H):WC (Itr lo n) D k a c g VP d Q:=by
 refine⟨fun i m ys a H=>m=n-i∧i≤n∧Pv i ys a H,⟨n,by simp,Qw _,h0⟩,?_⟩;rintro i m ys a H ⟨rfl,hi,p⟩;by_cases b:i<n
 ·refine .inr ⟨b,Pv (i+1),fun fh ak o q=>⟨n-(i+1),by lia,rfl,b,q⟩,fun x o y=>?_⟩;obtain⟨e,y⟩:=y;subst e y;simp only[VP,↓reduceIte];exact j i ys a _ b p
 ·have e:i=n:=by lia
  subst e;exact .inl ⟨Qh _,hd ys a H p⟩
theorem MX{K:#[7]}{S1 S2:Src}{xs ys:List V}{k:Nat}{D:Addr}{a:St}{d:Hp}{g:TG}{f:TE}{Q:VK}(Pv:Nat→List V→St→Hp→Prop)(h0:Pv 0 [] (a++List.replicate k none) (upd d D (.lst [])))
  (hl:∀i zs a H,Pv i zs a H→S1.its K H xs∧S2.its K H ys)
  (l:∀i zs a H x y p,xs[i]? = some x→ys[i]? = some y→Pv i zs a H→H p=none→g (.ref p) a (upd H p (.tup [x,y])) fun h n=>f h n fun z j=>j D=some (.lst zs)∧zs.length<sizeLine∧Pv (i+1) (zs++[z]) h (upd j D (.lst (zs++[z]))))
  (hd:∀zs a H,Pv (min xs.length ys.length) zs a H→Q (.ref D) H):WC (Itz K S1 S2) D k a d g VP f Q:=by
 refine⟨fun i m zs a H=>m=min xs.length ys.length-i∧i≤min xs.length ys.length∧Pv i zs a H,⟨min xs.length ys.length,by simp,Qw _,h0⟩,?_⟩;rintro i m zs a H ⟨rfl,hi,p⟩;obtain⟨b,c⟩:=hl i zs a H p;by_cases o:i<min xs.length ys.length
 ·have l1:i<xs.length:=by lia
  have l2:i<ys.length:=by lia
  refine .inr ⟨⟨xs,ys,b,c,l1,l2⟩,Pv (i+1),fun fh ak q s=>⟨min xs.length ys.length-(i+1),by lia,rfl,o,s⟩,fun x q y=>?_⟩;obtain⟨r,t,rfl,e⟩:=y;have u:=e xs ys b c _ _ (Qb l1) (Qb l2);subst u;simp only[VP,↓reduceIte];exact l i zs a H _ _ r (Qb l1) (Qb l2) p t
 ·have e:i=min xs.length ys.length:=by lia
  refine .inl ⟨⟨xs,ys,b,c,by lia⟩,hd zs a H (e ▸ p)⟩
section
variable {X:Cx} {N N':List Str} {o c:Scope} {x:Str} {pos:Pos} {C:Addr} {s:Shared} {H:Hp} {fp:List Addr}
theorem Rw(S:Z5 N N' o c)(a:X.env.scope=o)(hl:c.names.lookup x=some .local):(YR X c N' C s H fp).env.scope.names.lookup x=some .local:=by have e:=Uz (X:=X) S a (Y7 X.env.cells c.names []) C x;rw[hl]at e;exact e
theorem Wb(S:Z5 N N' o c)(a:X.env.scope=o)(hl:c.names.lookup x=some .globalImplicit):Gl (YR X c N' C s H fp) x:=by have e:=Uz (X:=X) S a (Y7 X.env.cells c.names []) C x;rw[hl]at e;exact e
theorem ZnL(S:Z5 N N' o c)(b:X.env.scope=o)(hl:c.names.lookup x=some .free):Vis (YR X c N' C s H fp).env.scope x:=by
 have e:=Uz (X:=X) S b (Y7 X.env.cells c.names []) C x;rw[hl]at e;have a:(YR X c N' C s H fp).env.scope.names.lookup x=if X.env.kindOf x=some .cell then some NameKind.cell else some NameKind.free:=e
 by_cases z:X.env.kindOf x=some .cell
 ·rw[if_pos z]at a;exact .inr (.inl a)
 ·rw[if_neg z]at a;exact .inr (.inr a)
theorem cv(i:Nat)(S:Z5 N N' o c)(a:X.env.scope=o)(hl:c.names.lookup x=some .free)(b:N'[i]? = some x:=by rfl)(hd:(x == ("__debug__" : Str))=false:=by decide)(d:(x == ("__classdict__" : Str))=false:=by decide) :
  PE (YR X c N' C s H fp) (.Name x pos) (Tx i):=RU b (ZnL S a hl) hd d
theorem cw(i:Nat)(S:Z5 N N' o c)(a:X.env.scope=o)(hl:c.names.lookup x=some .local)(b:N'[i]? = some x:=by rfl)(hd:(x == ("__debug__" : Str))=false:=by decide)(d:(x == ("__classdict__" : Str))=false:=by decide) :
  PE (YR X c N' C s H fp) (.Name x pos) (Tx i):=RU b (.inl (Rw S a hl)) hd d
theorem cg(i:Nat)(S:Z5 N N' o c)(a:X.env.scope=o)(hl:c.names.lookup x=some .local)(b:N'[i]? = some x:=by rfl):PG (YR X c N' C s H fp) (.Name x pos) (Tv i) :=
 ZE S.nd b (.inl (Rw S a hl)) (.inr (Rw S a hl))
end
mutual
inductive DV (K:#[7]) (H:Hp):V→PyData→Prop where
 | non:DV K H .non .none
 | bl (b:Bool):DV K H (.bl b) (.bool b)
 | int (i:Int):DV K H (.int i) (.int i)
 | str (s:Str):DV K H (.str s) (.str s)
 | lst {a:Addr} {xs:List V} {ds:List PyData}:SqL K H a xs→DVs K H xs ds→DV K H (.ref a) (.list ds)
 | tup {a:Addr} {xs:List V} {ds:List PyData}:SqT K H a xs→DVs K H xs ds→DV K H (.ref a) (.tuple ds)
inductive DVs (K:#[7]) (H:Hp):List V→List PyData→Prop where
 | nil:DVs K H [] []
 | cons {x:V} {d:PyData} {xs:List V} {ds:List PyData}:DV K H x d→DVs K H xs ds→DVs K H (x::xs) (d::ds)
end
section
variable {X:Cx} {aa:List (Addr×Obj)} {σ:St} {H:Hp} {s:Shared}
mutual
theorem Inv.reads(I:Inv X aa σ H s):∀ {x:V} {d:PyData} {u:Value},DV X.K H x d→ZM x u→∃a,Reads s.heap u d a
 | _,_,_,.non,r=>by cases r;exact⟨_,.none⟩
 | _,_,_,.bl b,r=>by cases r;exact⟨_,.bool b⟩
 | _,_,_,.int i,r=>by obtain⟨t,rfl⟩:=r;exact⟨_,.int i t⟩
 | _,_,_,.str z,r=>by obtain⟨t,rfl⟩:=r;exact⟨_,.str z t⟩
 | _,_,_,.lst h c,r=>by cases r;obtain⟨its,f,⟨o,n,e,g,_,j⟩,_⟩:=I.list h;obtain⟨a,q⟩:=Inv.readsAll I c f;exact⟨_,reads_list_at e g j (by simpa using q)⟩
 | _,_,_,.tup h c,r=>by cases r;obtain⟨its,f,⟨o,e,g,n,j⟩,_⟩:=I.tuple h;obtain⟨a,q⟩:=Inv.readsAll I c f;exact⟨_,reads_tuple_at e g j (by simpa using q)⟩
theorem Inv.readsAll(I:Inv X aa σ H s):∀ {xs:List V} {ds:List PyData} {us:List Value},DVs X.K H xs ds→ZL xs us→∃a,ReadsAll s.heap us ds a
 | _,_,_,.nil,r=>by cases r;exact⟨_,.nil⟩
 | _,_,_,.cons h b,r=>by
  cases r with
  | cons c d=>obtain⟨a,e⟩:=Inv.reads I h c;obtain⟨bs,f⟩:=Inv.readsAll I b d;exact⟨_,.cons e f⟩
end
def Tl(K:#[7])(a:Bool):R2:=fun x y H Q=>∃d e,DV K H x d∧DV K H y e∧SeqAt.shaped d=true∧SeqAt.shaped e=true∧Q (.bl (if a then !PyData.eqv d e else PyData.eqv d e)) H
theorem Zre(hu:X.A.units+64<cLine):OpR X (compareOp .Eq) (Tl X.K false):=by intro aa s σ H x y v u Q I a b h;obtain⟨d,e,c,f,g,i,q⟩:=h;obtain⟨as,j⟩:=I.reads c a;obtain⟨bs,k⟩:=I.reads f b;exact eq_dataH j k g i hu ⟨.bl _,H,I,rfl,q⟩
theorem Zrz(hu:X.A.units+64<cLine):OpR X (compareOp .NotEq) (Tl X.K true):=by intro aa s σ H x y v u Q I a b h;obtain⟨d,e,c,f,g,i,q⟩:=h;obtain⟨as,j⟩:=I.reads c a;obtain⟨bs,k⟩:=I.reads f b;exact ne_dataH j k g i hu ⟨.bl _,H,I,rfl,q⟩
end
theorem eqD{X:Cx}(K:#[7]){k:Nat}(a:Y5 k X.A)(h:X.K=K:=by rfl):OpR X (compareOp .Eq) (Tl K false):=by subst h;exact Zre a.units
theorem neD{X:Cx}(K:#[7]){k:Nat}(a:Y5 k X.A)(h:X.K=K:=by rfl):OpR X (compareOp .NotEq) (Tl K true):=by subst h;exact Zrz a.units
mutual
theorem DV.mono{K:#[7]}{H H':Hp}(s:ZG H H'):∀ {x:V} {d:PyData},DV K H x d→DV K H' x d
 | _,_,.non=>.non
 | _,_,.bl b=>.bl b
 | _,_,.int i=>.int i
 | _,_,.str z=>.str z
 | _,_,.lst h a=>.lst (s.seq h) (DVs.mono s a)
 | _,_,.tup h a=>.tup (by
   rcases h with(h|⟨ob,h⟩)|h
   ·exact .inl (.inl (s _ _ h))
   ·exact .inl (.inr ⟨ob,s _ _ h⟩)
   ·exact .inr h) (DVs.mono s a)
theorem DVs.mono{K:#[7]}{H H':Hp}(s:ZG H H'):∀ {xs:List V} {ds:List PyData},DVs K H xs ds→DVs K H' xs ds
 | _,_,.nil=>.nil
 | _,_,.cons h a=>.cons (DV.mono s h) (DVs.mono s a)
end
noncomputable def Ite(K:#[7])(a:Addr):It :=
 ⟨fun i H=>∃b,SqL K H a b∧i<b.length,
  fun i H v c=>∃p,H p=none∧v=.ref p∧∀b,SqL K H a b→∀x,b[i]? = some x→c=upd H p (.tup [.int i,x]),
  fun i H=>∃b,SqL K H a b∧b.length≤i⟩
theorem Zl6{P:Program}{w:World}{K:#[7]}{Q:List Expr}{R:Nat}{S:Pos}{a e it:Addr}(F:e≠it) :
  Wf P w K (.Tuple Q R S) (Ite K a) [e,it] e (fun i h=>(∃l,IsEnum h e it i l)∧h.IsListIter it a i) where
 mem:=by simp
 obj:=fun i h st b d=>by
  obtain⟨⟨l,f⟩,o,g,j,T⟩:=st;simp only[List.mem_cons,List.not_mem_nil,or_false]at d;rcases d with rfl|rfl
  ·exact⟨_,f,fun v z=>by cases z⟩
  ·exact⟨o,g,fun v z=>by rw[T]at z;cases z⟩
 keep:=fun i h p st k=>by obtain⟨⟨l,f⟩,g⟩:=st;exact⟨⟨l,k e #[4] _ f⟩,g.at fun o q=>k it #[4] o q⟩
 item:=by
  intro X r hw t j i G s J H E I m st y;subst r hw t;obtain⟨⟨l,f⟩,g⟩:=st;obtain⟨L,n,l1⟩:=y;obtain⟨its,A,B,_⟩:=I.list n;obtain⟨u,U,V⟩:=A.get (Qb l1);refine wpAny_pyNext_enum_item f g B.isList (x:=u) (by simpa using U) F fun p a1 a2 a3 a4 a5=>?_;have lt:∀ {b:Addr} {o:Obj},s.heap.get? b=some o→s.heap.objs.size≠b:=fun q=>QV (Qp q);have W:s.heap.objs.size≠e:=lt f;refine⟨_,rfl,wpAny_letOwnedTupleGo_enum a1 fun C M Y=>?_⟩;have D:Heap.SameBut e p C:=Y;have N:C.IsListIter it a (i+1):=a2.extBut D.extBut F.symm;have Z:Inv X G J (upd H s.heap.objs.size (.tup [.int i,L[i]])) { s with heap:=C,toks:=s.toks+1 }:=by
   refine I.zipped (fp:=[e,it]) (u:=.int i s.toks) (v:=u) m ⟨_,rfl⟩ V (D.extBut _ _ W a3) (fun b d=>?_) fun c o j q=>?_
   ·simp only[List.mem_cons,List.not_mem_nil,or_false]at d;rcases d with rfl|rfl
    ·exact⟨_,M⟩
    ·obtain⟨o,q,_⟩:=N;exact⟨o,q⟩
   ·simp only[List.mem_cons,List.not_mem_nil,or_false,not_or]at j;exact D.extBut _ _ j.1 (a5 c o j.1 j.2 q)
  refine⟨.ref s.heap.objs.size,_,Z,rfl,⟨s.heap.objs.size,I.fresh,rfl,fun AQ w1 x' O=>?_⟩,⟨⟨_,M⟩,N⟩,fun b d=>?_⟩
  ·have e3:=I.list_inj w1 n;subst e3;rw[Qb l1]at O;cases O;rfl
  ·rw[Zc (fun z=>by
    obtain⟨o,q⟩:∃o,s.heap.get? b=some o:=by
     simp only[List.mem_cons,List.not_mem_nil,or_false]at d;rcases d with rfl|rfl
     ·exact⟨_,f⟩
     ·obtain⟨o,q,_⟩:=g;exact⟨o,q⟩
    exact lt q z.symm)]
   exact(m b d).1
 done:=by intro X r hw t j i G s J H E I m st y;subst r hw t;obtain⟨⟨l,f⟩,g⟩:=st;obtain⟨L,n,l1⟩:=y;obtain⟨its,A,B,_⟩:=I.list n;obtain⟨f0,f1,f2,f3,f4,f5⟩:=m it #[4];have hl:=A.length;exact wpAny_pyNext_enum_end (I.ok.hd j) f g B.isList (by rw[Qaq];exact QN #[2]) fun p eb=>⟨rfl,I.turned (t':=s.toks) (fun b o d q=>eb b o d q) f0 f1 f3 f4 f5⟩
 self:=fun _ _ _ _ _ st h=>by obtain⟨⟨l,f⟩,_⟩:=st;exact wpAny_pyIter_enum f h
def MW(K:#[7])(c:TA):TI:=fun d H R=>c d H fun vs b=>∃a xs,vs=[V.ref a]∧SqL K b a xs∧R (Ite K a) b
theorem ZpF{X:Cx}{l:Expr}{f:TA}{p pos:Pos}{o:List Expr}{r:Nat}{t:Pos}(v:Gl X "enumerate")(hm:X.mg "enumerate" = none)(ha:PA X [l] f)
  (w:starEach [l] X.env=[(false,eval l X.env)]:=by rfl):PI X (.Tuple o r t) (.Call (.Name "enumerate" p) [l] [] pos) (MW X.K f):=by
 intro g s i H R I h;refine Call_ (Wi I v hm boot_enumerate (QY (thn (ha pos g s i H _ I h) ?_) w rfl));rintro us c ⟨vs,j,d,x,y⟩;obtain⟨a,xs,e,z,q⟩:=y;subst e;obtain⟨u,rfl,A⟩:=x.one;cases A;obtain⟨its,rv,B,_⟩:=d.list z;refine call_enumerate_list B.isList fun C k D hsz E=>wpAny_pyIter_enum k ?_;have F:Inv X g i j { c with heap:=C }:=d.kept (t':=c.toks) E;refine⟨_,_,_,_,j,rfl,F,Zl6 (a:=a) (e:=c.heap.objs.size+1) (it:=c.heap.objs.size) (QV (Qbc _)),⟨⟨_,k⟩,D⟩,fun b m=>?_,q⟩;have n:c.heap.objs.size≤b:=by
  simp only[List.mem_cons,List.not_mem_nil,or_false]at m;rcases m with rfl|rfl
  ·exact QaL _ 1
  ·exact Qh _
 exact d.fpOk n (d.hok.fresh n)
theorem iE{X:Cx}(K:#[7]){l:Expr}{a:TA}{p pos:Pos}{b:List Expr}{c:Nat}{d:Pos}(hm:X.mg "enumerate" = none)(ha:PA X [l] a)(e:Gl X "enumerate":=by rfl)(f:X.K=K:=by rfl)
  (g:starEach [l] X.env=[(false,eval l X.env)]:=by rfl):PI X (.Tuple b c d) (.Call (.Name "enumerate" p) [l] [] pos) (MW K a):=by subst f;exact ZpF e hm ha g
theorem Rv{K:#[7]}{a:Addr}{xs:List V}{g:TG}{l:TS}{D:Xq}{b:St}{H:Hp}(Pv:Nat→St→Hp→Prop)(h0:Pv 0 b H)(hl:∀i b H,Pv i b H→SqL K H a xs)
  (o:∀i x b H p,xs[i]? = some x→Pv i b H→H p=none→g (.ref p) b (upd H p (.tup [.int i,x])) fun f h=>l { D with nx:=Pv (i+1),ct:=Pv (i+1),bk:=D.nx } f h) (hd:∀b H,Pv xs.length b H→D.nx b H) :
  ∃W:Nat→Nat→St→Hp→Prop,(∃m,W 0 m b H)∧∀i m b H,W i m b H →
   ((Ite K a).stop i H∧D.nx b H)∨((Ite K a).go i H∧∃N:St→Hp→Prop,(∀j c,N j c→∃n,n<m∧W (i+1) n j c)∧∀x c,(Ite K a).yld i H x c→g x b c fun f h=>l { D with nx:=N,ct:=N,bk:=D.nx } f h):=by
 refine⟨fun i m b H=>m=xs.length-i∧i≤xs.length∧Pv i b H,⟨xs.length,by simp,Qw _,h0⟩,?_⟩;rintro i m b H ⟨rfl,hi,p⟩;have k:=hl i b H p;by_cases d:i<xs.length
 ·refine .inr ⟨⟨xs,k,d⟩,Pv (i+1),fun j c q=>⟨xs.length-(i+1),by lia,rfl,d,q⟩,fun x c y=>?_⟩;obtain⟨r,s,rfl,e⟩:=y;have t:=e xs k _ (Qb d);subst t;exact o i _ b H r (Qb d) p s
 ·have e:i=xs.length:=by lia
  exact .inl ⟨⟨xs,k,by lia⟩,hd b H (e ▸ p)⟩
def Zrs(K:#[7]):List V→Hp→VK→Prop:=fun xs H Q=>∃p ys,xs=[.ref p]∧(SqL K H p ys∨SqT K H p ys)∧∀l,H l=none→Q (.ref l) (upd H l (.lst ys))
theorem VO{X:Cx}(K:#[7])(h:X.K=K:=by rfl):Y1 X (.type "list") (Zrs K):=by subst h;exact ZiN
section
variable {prog:Program} {w:World} {A:Around} {E:Value→Shared→Prop} {s:Shared}
theorem MV{it t:Addr}{items:Array Value}(c:t≠it):∀ (n i:Nat) (s:Shared) (Q:List Value→Shared→Prop),s.heap.IsListIter it t i→s.heap.IsList t items→i+n≤items.size →
  (∀h',h'.IsListIter it t (i+n)→Heap.SameBut it s.heap h'→Q ((items.toList.drop i).take n) { s with heap:=h' })→wpAny (model prog w) A (draw (.ref it) n) Q E s
 | 0,i,s,Q,a,_,_,b=>by show wpAny _ _ (pure []) Q E s;exact wpAny_pure (by simpa using b s.heap a (Heap.SameBut.refl ..))
 | n+1,i,s,Q,a,d,m9,b=>by
  have e:i<items.size:=by lia
  show wpAny _ _ (pyNext (.ref it) >>= _) Q E s;refine wpAny_bind (wpAny_pyNext_list_item a d (x:=items[i]) (by simp[e]) fun aA g f=>?_);refine wpAny_bind (wpAny_holding (MV c n (i+1) _ _ g (d.extBut f.extBut c) #[2] fun h j k=>wpAny_pure ?_));have l:items.toList.drop i=items[i]::items.toList.drop (i+1):=by simp[List.drop_eq_getElem_cons,e]
  have:=b h (by rw[show i+(n+1)=i+1+n by lia];exact j) (f.trans k);rw[l,List.take_succ_cons]at this;exact this
theorem Zf2{t:Addr}{items:Array Value}{Q:List Value→Shared→Prop}(g:A.handled=none)(a:s.heap.IsList t items)
  (h:∀h',Heap.ExtBut s.heap.objs.size s.heap h'→Q items.toList { s with heap:=h' }):wpAny (model prog w) A (unpackItems (.ref t) items.size none) Q E s:=by
 have c:t≠s.heap.objs.size:=by obtain⟨o,i,_⟩:=a;exact Qu (Qp i)
 unfold unpackItems;refine wpAny_bind ?_
 ·unfold notIterableAtAll;refine wpAny_bind (wpAny_specialOf a.typeIs slot_list_iter.lookup ?_);refine wpAny_pure ?_;simp only[Bool.false_eq_true,if_false];refine wpAny_bind (wpAny_holding (wpAny_pyIter_list a ?_));refine wpAny_bind (wpAny_holding (MV c items.size 0 _ _ ⟨_,Qs _ rfl,rfl,rfl⟩ (a.push _) #[2] fun j k d=>?_));have l:List.take items.size (List.drop 0 items.toList)=items.toList:=by rw[List.drop_zero];exact Qv #[4]
  rw[l];rw[if_neg #[4]];have m:j.IsList t items:=(a.push _).extBut d.extBut c;refine wpAny_bind (wpAny_holding (wpAny_pyNext_list_end g k m #[4] fun n p=>?_));simp only[Option.isSome_none,Bool.false_eq_true,if_false];refine wpAny_pure (h n fun b o f e=>p b o f (d.extBut b o f (Qc _ e)))
theorem Zjp{t:Addr}{items:Array Value}{a:List (Bool×(Value→Sem Unit))}{Q:Unit→Shared→Prop}(b:A.handled=none)(c:s.heap.IsList t items)
  (d:a.length=items.size) (e:a.findIdx? (·.1)=none)
  (h:∀h',Heap.ExtBut s.heap.objs.size s.heap h'→wpAny (model prog w) A (assignInOrder (a.map (·.2)) items.toList) Q E { s with heap:=h' }) :
  wpAny (model prog w) A (unpack (.ref t) a) Q E s:=by
 unfold unpack;rw[d,e];exact wpAny_bind (wpAny_holding (Zf2 b c h))
theorem ZfE{env:Env}{a:List Expr}{b}{pos:Pos}{t:Addr}{items:Array Value}{Q:Unit→Shared→Prop}(c:A.handled=none)(d:s.heap.IsList t items)
  (e:(assignEach a env).length=items.size) (f:(assignEach a env).findIdx? (·.1)=none)
  (h:∀h',Heap.ExtBut s.heap.objs.size s.heap h'→wpAny (model prog w) A (assignInOrder ((assignEach a env).map (·.2)) items.toList) Q E { s with heap:=h' }) :
  wpAny (model prog w) A (assign (.Tuple a b pos) env (.ref t)) Q E s:=by
 rw[assign_Tuple];exact wpAny_bind (wpAny_standAt (Zjp c d e f h))
end
def Zth(K:#[7])(n:Nat)(t:TGs):TG:=fun v b H Q=>∃a xs,v=.ref a∧SqL K H a xs∧xs.length=n∧t xs b H Q
theorem gL{X:Cx}(K:#[7]){c:List Expr}{k:Nat}{t:TGs}{n:Nat}{pos:Pos}(h:PGs X c t)(i:X.K=K:=by rfl)(hc:X.calm=true:=by rfl)
  (j:(assignEach c X.env).length=n:=by rfl) (l:(assignEach c X.env).findIdx? (·.1)=none:=by rfl):PG X (.Tuple c k pos) (Zth K n t):=by
 subst i;intro d s f H v u Q I r hw;obtain⟨a,m,p,q,w,hw⟩:=hw;subst p;cases r;obtain⟨its,g,x,hz⟩:=I.list q;refine ZfE (I.ok.hd hc) x.isList (by simp[j,← w,g.length]) l fun y z=>?_;have A:Inv X d f H { s with heap:=y }:=I.kept (t':=s.toks) fun b o e=>z b o (Qu (Qp e)) e;exact h d _ f H m _ Q A (by simpa using g) hw
noncomputable def Ve(xs:List V)(lo a:Option Int)(st:Int):List V :=
 (sliceRange (sliceBounds lo a (some st) xs.length).1 (sliceBounds lo a (some st) xs.length).2.1 (sliceBounds lo a (some st) xs.length).2.2).filterMap fun i=>xs[i]?
theorem MU{xs:List V}{us:List Value}(r:ZL xs us):∀is:List Nat,ZL (is.filterMap fun i=>xs[i]?) (is.filterMap fun i=>us[i]?)
 | []=>.nil
 | i::is=>by
  have b:=MU r is;by_cases c:i<xs.length
  ·have a:xs[i]? = some xs[i]:=Qb c;obtain⟨u,d,e⟩:=r.get a;rw[Q7,Q7,a,d];exact .cons e b
  ·have a:xs[i]? = none:=QN #[2];have f:us[i]? = none:=QN (by rw[← r.length];lia);rw[Q7,Q7,a,f];exact b
def Ru(X:Cx)(r:V→Option Int→Option Int→Int→Hp→VK→Prop):Prop :=
 ∀ (a:List (Addr×Obj)) (s:Shared) (b:St) (H:Hp) (x:V) (v c d e:Value) (lo f:Option Int) (st:Int) (g:Addr) (Q:VK),Inv X a b H s→ZM x v→s.heap.IsSliceOf g c d e→IsPart c lo→IsPart d f→IsPart e (some st)→r x lo f st H Q →
  ∃T id,typeLookup (.type T) "__getitem__" = pure (some (.builtin id))∧s.TypeIs v T∧#[9,X] (getItem v (.ref g)) (EP X a b Q) X.xe s
def Ztf(r:V→Option Int→Option Int→Int→Hp→VK→Prop)(b:TE)(c d ts:TO):TE:=fun a H Q=>b a H fun x e=>c a e fun l f=>d a f fun u g=>ts a g fun k h=>∃i,k=some i∧r x l u i h Q
section
variable {X:Cx} {e st:Expr} {te:TE} {lo hi:Option Expr} {tl th ts:TO} {pos p2:Pos}
theorem Zmw{r:V→Option Int→Option Int→Int→Hp→VK→Prop}(o:Ru X r)(he:PE X e te)(hl:PO X lo tl)(hu:PO X hi th)(p:PO X (some st) ts):PE X (.Subscript e (.Slice lo hi (some st) p2) pos) (Ztf r te tl th ts):=by intro c s d H Q I h;refine Subscript_ (thn (he c s d H _ I h) ?_);rintro v t ⟨x,w,y,z,A⟩;refine wpAny_Slice (thn (hl c t d w _ y A) fun f B ⟨l,C,D,E,F⟩=>thn (hu c B d C _ D F) fun g G ⟨u,J,K,L,M⟩=>thn (p c G d J _ K M) ?_);rintro j a ⟨k,n,N,O,m⟩;obtain⟨i,rfl,m⟩:=m;have P:Inv X c d n { a with heap:=a.heap.push { cls:=.type "slice",data:=.fields #[f,g,j] } }:=N.kept (t':=a.toks) fun b ob q=>Qc _ q;obtain⟨T,id,R,S,U⟩:=o c { a with heap:=a.heap.push { cls:=.type "slice",data:=.fields #[f,g,j] } } d n x v f g j l u i a.heap.objs.size Q P z (Heap.IsSliceOf.new ..) E L O m;show #[9,X] (subscriptTail e (.Slice lo hi (some st) p2) v (.ref a.heap.objs.size)) (EP X c d Q) X.xe { a with heap:=a.heap.push { cls:=.type "slice",data:=.fields #[f,g,j] } };exact tail_any (ops:=[v,.ref a.heap.objs.size]) S R U (by with_unfolding_all rfl)
def MT(K:#[7]):V→Option Int→Option Int→Int→Hp→VK→Prop:=fun x lo hi st H Q=>∃a xs,x=.ref a∧SqL K H a xs∧st≠0∧∀p,H p=none→Q (.ref p) (upd H p (.lst (Ve xs lo hi st)))
theorem Zoc:Ru X (MT X.K):=by
 intro aa s σ H x v vl vu vs lo hi st sl Q I j k l m n h;obtain⟨a,c,rfl,p,t,q⟩:=h;cases j;obtain⟨its,r,f,u⟩:=I.list p;have g:=r.length;refine⟨"list",_,slot_list_getitem.lookup,f.isList.typeIs,?_⟩;refine wpAny_getItem_list_slice f.isList k l m n (by intro e;exact t (Qr e)) ?_ (by rw[QG]<;>lia);have d:=slicePick_size_le its.toArray lo hi (some st);have i:ZL (Ve c lo hi st) (slicePick its.toArray lo hi (some st)).toList:=by unfold slicePick Ve;simp only[List.size_toArray,← g];have:=MU r (sliceRange (sliceBounds lo hi (some st) c.length).1 (sliceBounds lo hi (some st) c.length).2.1 (sliceBounds lo hi (some st) c.length).2.2);simpa using this
 refine⟨.ref s.heap.objs.size,_,I.laid (t':=s.toks) (o:=.lst (Ve c lo hi st)) (fun b ob q=>Qc _ q) (Qh _) ?_,rfl,q _ (I.hok.fresh (Qh _))⟩;refine⟨?_,(slicePick its.toArray lo hi (some st)).toList,0,i,?_⟩
 ·have w:its.toArray.size=c.length:=by rw[QG];exact g.symm
  rw[i.length,Qad];exact QB d (by rw[w];exact u)
 ·simpa using Qs _ rfl
theorem ZsZ(K:#[7])(h:X.K=K:=by rfl):Ru X (MT K):=by subst h;exact Zoc
end
theorem Zgv(n:Nat):sliceRange ((n:Int)-1) (-1) (-1)=(List.range n).map fun i=>n-1-i:=by
 unfold sliceRange;have a:(if (-1:Int)>0 then (if (n:Int)-1 < -1 then (-1-((n:Int)-1) + -1-1) / -1 else 0) else (if (n:Int)-1 > -1 then ((n:Int)-1 - -1 - -1-1) / (- -1) else 0)).toNat=n:=by
  rw[if_neg #[6]];by_cases h:(n:Int)-1 > -1
  ·rw[if_pos h,show (- -1:Int)=1 by decide,Int.ediv_one];lia
  ·rw[if_neg h];lia
 simp only[];rw[a];apply QC;intro k b;have:=Q9.mp b;lia
theorem ZhD{α:Type}(xs:List α):((List.range xs.length).map fun i=>xs.length-1-i).filterMap (fun i=>xs[i]?)=xs.reverse:=by
 rw[List.filterMap_map];have e:∀n,n≤xs.length→(List.range n).filterMap ((fun i=>xs[i]?) ∘ fun i=>xs.length-1-i)=xs.reverse.take n:=by
  intro n;induction n with
  | zero=>intro _;rfl
  | succ n b=>intro hn;rw[QaU,QaE,b #[2]];have a:xs[xs.length-1-n]? = some xs[xs.length-1-n]:=Qb #[2];rw[Q7];simp only[Function.comp,a,List.filterMap_nil];rw[QH,List.getElem?_reverse #[2],a];rfl
 rw[e _ (Qh _)];exact Qv #[4]
theorem ZmK(xs:List V):Ve xs none none (-1)=xs.reverse:=by have e:sliceRange (sliceBounds none none (some (-1)) xs.length).1 (sliceBounds none none (some (-1)) xs.length).2.1 (sliceBounds none none (some (-1)) xs.length).2.2=sliceRange ((xs.length:Int)-1) (-1) (-1):=rfl;unfold Ve;rw[e,Zgv,ZhD]
section
variable {X:Cx}
theorem inQ(K:#[7])(h:X.K=K:=by rfl):OpR X (compareOp .In) (rIn K false):=by subst h;exact Zl2
end
end L2
namespace L2
open PySem PySem.Spec PyProof.Rows
section
variable {X:Cx} {aa:List (Addr×Obj)} {σ:St} {H:Hp} {s:Shared}
def Zsq:TE:=fun _ H Q=>∀p,H p=none→Q (.ref p) (upd H p (.dT []))
theorem MR{pos:Pos}:PE X (.Dict [] [] pos) Zsq:=by intro aa s σ H Q I h;have a:sysModules<s.heap.objs.size:=Qa2 #[6] (show mainGlobals<s.heap.objs.size from(I.mod.glob.keeps I.bk).lt);refine wpAny_Dict_empty ⟨.ref s.heap.objs.size,upd H s.heap.objs.size (.dT []),?_,rfl,h _ (I.hok.fresh (Qh _))⟩;refine I.laid (t':=s.toks) (fun _ _ q=>Qc _ q) (Qh _) ?_;refine⟨Qw _,?_,[],.nil,_,#[],0,Qs _ rfl,⟨rfl,rfl,rfl⟩,rfl,rfl,List.nodup_nil⟩;exact beq_eq_false_iff_ne.mpr fun z=>QW _ (z ▸ a)
end
noncomputable def XN(lo:Int)(n:Nat):List Int:=(List.range n).map fun (k:Nat)=>lo+k
theorem Tj(lo:Int)(n:Nat):(XN lo n).length=n:=by simp[XN]
section
variable {X:Cx}
theorem Ti(ns:List Int):∀n,n≤ns.length→preSum (fun j=>ns.getD j 0) n=(ns.take n).sum
 | 0,_=>rfl
 | n+1,h=>by
  have a:=Ti ns n #[2];have e:ns.take (n+1)=ns.take n++[ns.getD n 0]:=by rw[QH,Qb #[2],QE,Qb #[2]];rfl
  rw[e,List.sum_append,← a];simp[preSum]
end
section
variable {prog:Program} {w:World} {A:Around} {E:Value→Shared→Prop} {s:Shared} {κ:PyProof.Rows.KeyKind} {k0:SortKind} {eU:Array Keyed} {st:SortSt}
structure SB (k0:SortKind) (eU:Array Keyed) (st:SortSt):Prop where
 perm:(arrOf st).Perm eU
 kind:kindOf st=k0
 failed:failedOf st=none
 pend:pendingOf st = #[]
end
noncomputable def kLt:Key→Key→Bool
 | .inl i,.inl j=>decide (i<j)
 | .inr x,.inr y=>decide (x.cps.toList<y.cps.toList)
 | .inl _,.inr _=>true
 | .inr _,.inl _=>false
theorem ZkY:∀a:Key,kLt a a=false
 | .inl i=>decide_eq_false #[2]
 | .inr x=>decide_eq_false (List.lt_irrefl _)
theorem ZmW:∀a b c:Key,kLt a b=true→kLt b c=true→kLt a c=true
 | .inl i,.inl j,.inl k,h1,h2=>by have:=of_decide_eq_true h1;have:=of_decide_eq_true h2;exact decide_eq_true #[2]
 | .inr x,.inr y,.inr z,h1,h2=>decide_eq_true (List.lt_trans (of_decide_eq_true h1) (of_decide_eq_true h2))
 | .inl _,.inl _,.inr _,_,_=>rfl
 | .inl _,.inr _,.inr _,_,_=>rfl
 | .inl _,.inr _,.inl _,_,h=>by cases h
 | .inr _,.inl _,_,h,_=>by cases h
 | .inr _,.inr _,.inl _,_,h=>by cases h
noncomputable def YG:List Key→List Key→Bool
 | [],[]=>false
 | [],_::_=>true
 | _::_,[]=>false
 | x::xs,y::ys=>if x=y then YG xs ys else kLt x y
theorem Rt(x y:Key)(xs ys:List Key):YG (x::xs) (y::ys)=if x=y then YG xs ys else kLt x y:=rfl
theorem Rs:∀a:List Key,YG a a=false
 | []=>rfl
 | x::r=>by unfold YG;rw[if_pos rfl];exact Rs r
theorem MQ:∀a b c:List Key,YG a b=true→YG b c=true→YG a c=true
 | [],[],_,h,_=>by cases h
 | [],_::_,[],_,h=>by cases h
 | [],_::_,_::_,_,_=>rfl
 | _::_,[],_,h,_=>by cases h
 | _::_,_::_,[],_,h=>by cases h
 | x::r,y::s,z::t,h1,h2=>by
  have i:=MQ r s t;unfold YG at h1 h2 ⊢;by_cases f:x=y
  ·rw[if_pos f]at h1;by_cases d:y=z
   ·rw[if_pos d]at h2;rw[if_pos (f.trans d)];exact i h1 h2
   ·rw[if_neg d]at h2;rw[if_neg (fun e=>d (f.symm.trans e)),f];exact h2
  ·rw[if_neg f]at h1;by_cases d:y=z
   ·rw[if_neg (fun e=>f (e.trans d.symm)),← d];exact h1
   ·rw[if_neg d]at h2;have g:=ZmW _ _ _ h1 h2;rw[if_neg (fun e=>by rw[e,ZkY]at g;cases g)];exact g
noncomputable def Xx(ks:List Key):List Bool:=ks.map fun k=>k.isLeft
abbrev WB:=List (Addr×List Key)
noncomputable def VN(ts:WB):List V:=ts.map fun t=>V.ref t.1
def AtT(H:Hp)(ts:WB):Prop:=∀t∈ts,H t.1=some (.tup (t.2.map kV))
theorem MP:∀ {ts:WB} {us:List Value},ZL (VN ts) us→us=ts.map fun t=>Value.ref t.1
 | [],_,h=>by cases h;rfl
 | t::r,_,h=>by
  cases h with
  | cons a b=>rw[MP b];cases a;rfl
theorem Zm2(A:Around)(s:Shared){k m:Key}{p q:Value}(hp:ZM (kV k) p)(hq:ZM (kV m) q)(a:k.isLeft=m.isLeft):∃e,SeqAt.EqAt A s p q e∧(e=true↔k=m):=by
 cases k with
 | inl i =>
  cases m with
  | inl j=>obtain⟨t,rfl⟩:=hp;obtain⟨u,rfl⟩:=hq;exact⟨_,SeqAt.EqAt.int_int i t j u,by simp⟩
  | inr y=>cases a
 | inr x =>
  cases m with
  | inl j=>cases a
  | inr y=>obtain⟨t,rfl⟩:=hp;obtain⟨u,rfl⟩:=hq;exact⟨_,SeqAt.EqAt.str_str x t y u,by simp⟩
theorem Zno(A:Around)(s:Shared){k m:Key}{p q:Value}(hp:ZM (kV k) p)(hq:ZM (kV m) q)(a:k.isLeft=m.isLeft)(prog:Program)(w:World)(E:Value→Shared→Prop)(Q:Value→Shared→Prop)(h:Q (.bool (kLt k m)) s) :
  wpAny (model prog w) A (richCompare .Lt p q) Q E s:=by
 cases k with
 | inl i =>
  cases m with
  | inl j=>obtain⟨t,rfl⟩:=hp;obtain⟨u,rfl⟩:=hq;exact(PyProof.Rows.lt_int h:wpAny (model prog w) A (compareOp .Lt (.int i t) (.int j u)) Q E s)
  | inr y=>cases a
 | inr x =>
  cases m with
  | inl j=>cases a
  | inr y=>obtain⟨t,rfl⟩:=hp;obtain⟨u,rfl⟩:=hq;exact(PyProof.Rows.lt_str h:wpAny (model prog w) A (compareOp .Lt (.str x t) (.str y u)) Q E s)
section
open PySem.SeqAt
open PySem.AutoSeq1 (wpAny_loadPart')
open PySem.MeetsSeq PySem.MeetsSeq2 PySem.MeetsSeq3
theorem ZhM(l b:Addr)(items o:Array Value)(n L:Nat)(M N:Option Addr)(sl O:Array (Option Value))(ks m:List Key)(E:ZL (ks.map kV) items.toList)(F:ZL (m.map kV) o.toList)(G:Xx ks=Xx m) :
  Meets (Builtin.«tuple.__lt__» ⟨[.ref l,.ref b],[]⟩)
   (fun _ R s=>s.heap.get? l=some { cls:=.type "tuple",dict:=M,data:=.seq items n,slots:=sl }∧s.heap.get? b=some { cls:=.type "tuple",dict:=N,data:=.seq o L,slots:=O } ∧
    R (.ok (.ret (.bool (YG ks m)))) s) :=
 .of_wp fun c w A R s h=>by
  obtain⟨p,g,d,r,os⟩:=s;obtain⟨P,Q,h⟩:=h;have f2:=AutoSeq1.sub_tuple_tuple;have z1:items.size=ks.length:=by have:=E.length;simpa using this.symm
  have z2:o.size=m.length:=by have:=F.length;simpa using this.symm
  have z3:ks.length=m.length:=by have:=congrArg List.length G;simpa [Xx] using this
  wp_walk using wpAny_loadPart' P,wpAny_loadPart' Q,wpAny_forIn_list _ (fun rest b v=>b.1=none∧v=⟨p,g,d,r,os⟩∧∃ (t ws:List Value) (f a:List Key),rest=t.zip ws ∧
   ZL (f.map kV) t∧ZL (a.map kV) ws∧Xx f=Xx a∧R (.ok (.ret (.bool (YG f a)))) ⟨p,g,d,r,os⟩) _
  case turn =>
   rintro⟨y,x⟩ rest b v ⟨z,rfl,t,ws,f,a,j,u,B,k,i⟩;cases f with
   | nil=>cases u;rw[List.zip_nil_left]at j;cases j
   | cons k1 kr =>
    cases a with
    | nil=>cases k
    | cons S T =>
     cases u with
     | cons C H =>
      cases B with
      | cons D I =>
       rw[List.zip_cons_cons]at j;injection j with U V;injection U with W X;subst W X;rw[Rt]at i;unfold Xx at k;rw[Qj,Qj]at k;injection k with J Y;obtain⟨e,Z,K⟩:=Zm2 A.in1 ⟨p,g,d,r,os⟩ C D J;refine wpAny_bind (Z c w _ _ ?_);cases e with
       | true =>
        rw[if_pos (K.mp rfl)]at i
        wp_walk
        exact⟨rfl,rfl,_,_,_,_,V,H,I,Y,i⟩
       | false =>
        rw[if_neg (fun q=>absurd (K.mpr q) Qq)]at i;have AS:=Zno A.in1 ⟨p,g,d,r,os⟩ C D J c w
        wp_walk using AS
        exact⟨_,rfl,by simpa using i⟩
  case fin =>
   rintro⟨b1,b2⟩ v ⟨z,rfl,t,ws,f,a,j,u,B,k,i⟩;simp only at z;subst z;have hv:YG f a=decide (items.size<o.size):=by
    rw[decide_eq_false #[2]];cases f with
    | nil =>
     cases a with
     | nil=>rfl
     | cons _ _=>cases k
    | cons k1 kr =>
     cases a with
     | nil=>cases k
     | cons S T =>
      cases u with
      | cons C H =>
       cases B with
       | cons D I=>rw[List.zip_cons_cons]at j;cases j
   rw[hv]at i
   wp_walk
   exact⟨_,rfl,by simpa [Builtin.Tuple.tupleCompareSizes] using i⟩
  case h=>exact⟨rfl,rfl,items.toList,o.toList,ks,m,rfl,E,F,G,h⟩
end
section
variable {prog:Program} {w:World} {A:Around} {E:Value→Shared→Prop} {s:Shared}
theorem ZkQ{l b:Addr}{items c:Array Value}{ks a:List Key}{Q:Value→Shared→Prop}(hl:IsTup s.heap l items)(hb:IsTup s.heap b c)(k:ZL (ks.map kV) items.toList)(m:ZL (a.map kV) c.toList)(o:Xx ks=Xx a)
  (hu:A.units<cLine) (h:Q (.bool (YG ks a)) s):wpAny (model prog w) A (richCompare .Lt (.ref l) (.ref b)) Q E s:=by
 obtain⟨⟨cls,p,data,q⟩,d,e,n,f⟩:=id hl;obtain⟨⟨DC,r,data2,t⟩,g,i,u,j⟩:=id hb;simp only at e f i j;subst e f i j;exact richCompare_meets_room (op:=.Lt) ⟨_,d,rfl⟩ ⟨_,g,rfl⟩ PySem.F.slot_tuple_lt PySem.F.entry_tuple_lt (PySem.F.args_tuple_lt_2 _ _) (ZhM l b items c n u p r q t ks a k m o)
  ⟨d,g,show Value.bool (YG ks a)≠Value.notImplemented∧Q (.bool (YG ks a)) s from⟨(fun x=>nomatch x),h⟩⟩ hu
end
section
variable {prog:Program} {w:World}
theorem Zl4{A:Around}{a:Args}:(A.under (.builtin "min.loop" a)).units≤A.units+1:=by show A.units+(Code.builtin "min.loop" a).cUnits≤A.units+1;first|exact Qh _|simp[Code.cUnits,Code.frames,Code.isFrame]
theorem Rr{A:Around}{R:Result→Shared→Prop}{l I S:Addr}{ts:WB}{sh:List Bool}{h0:Heap}{kw:List (Str×Value)}(B:A.handled=none)(hu:A.units+4<cLine)(C:h0.IsList l (ts.map fun t=>Value.ref t.1).toArray)
  (n:h0.get? I=none) (p:h0.get? S=none) (g:S≠I) (s:∀t∈ts,∃its:List Value,ZL (t.2.map kV) its∧IsTup h0 t.1 its.toArray) (v:∀t∈ts,Xx t.2=sh) (x:Shared)
  (q:∀ (h':Heap) (t:Addr×List Key),(∀b o,h0.get? b=some o→h'.get? b=some o)→t∈ts→(∀u∈ts,YG u.2 t.2=false)→R (.ok (.ret (.ref t.1))) { x with heap:=h' }) :
  ∀ (k j:Nat) (h:Heap) (t:Addr×List Key) (c:Nat),ts.length-j=k→j≤ts.length→(∀b o,h0.get? b=some o→h.get? b=some o)→h.IsListIter I l j→h.get? S=some { cls:=.type "list",data:=.seq #[.ref t.1,.ref t.1] c }→t∈ts →
   (∀u∈ts.take j,YG u.2 t.2=false)→codeAny (model prog w) A (.builtin "min.loop" { pos:=[.ref I,.none,.ref S],kw:=kw }) R { x with heap:=h }
 | k,j,h,t,c,hk,hj,keep,L,D,y,E=>by
  refine codeAny_builtin F.entry_min_loop ?_;show wpAny _ _ (seqItems? (.ref S) >>= _) _ _ _;refine wpAny_bind (wpAny_seqItems D rfl ?_);have M:h.IsList l (ts.map fun t=>Value.ref t.1).toArray:=by obtain⟨o,i,r⟩:=C;exact⟨o,keep _ _ i,r⟩
  by_cases z:j<ts.length
  ·have G:((ts.map fun t=>Value.ref t.1).toArray)[j]? = some (Value.ref ts[j].1):=by simp[z]
   refine wpAny_bind (wpAny_tryCatch (wpAny_pyNext_list_item L M G fun f N O=>?_));have H:∀b o,h0.get? b=some o→f.get? b=some o:=fun b o d=>by
    have nb:b≠I:=fun e=>by rw[e,n]at d;cases d
    rw[O.2 b nb];exact keep b o d
   have m:f.get? S=some { cls:=.type "list",data:=.seq #[.ref t.1,.ref t.1] c }:=by rw[O.2 S g];exact D
   refine wpAny_bind (wpAny_pure ?_);have J:ts[j]∈ts:=QX z;obtain⟨i1,T,U⟩:=s _ J;obtain⟨i2,V,W⟩:=s _ y;have P:∀ {a:Addr} {its:List Value},IsTup h0 a its.toArray→IsTup f a its.toArray:=fun ⟨o,i,X⟩=>⟨o,H _ _ i,X⟩;have Y:Xx ts[j].2=Xx t.2:=(v _ J).trans (v _ y).symm;refine wpAny_bind (wpAny_tryCatch (wpAny_holding (wpAny_bind (ZkQ (P U) (P W) (by simpa using T) (by simpa using V) Y (QaV Zl4 #[2]) (wpAny_bind (wpAny_holding (wpAny_truthy_bool (wpAny_bind (wpAny_letGo (wpAny_pure ?_))))))))));cases d:YG ts[j].2 t.2 with
   | true =>
    refine wpAny_bind (wpAny_updateSeq m rfl ?_ (by show 2≤_;rw[sizeLine_eq];decide) (by show 2≤_;rw[sizeLine_eq];decide));refine wpAny_bind (wpAny_letGo (wpAny_pure ⟨rfl,?_⟩));refine Rr B hu C n p g s v x q (k-1) (j+1) _ ts[j] c #[2] #[2] (fun b o K=>?_) ?_ ?_ J (fun u hu'=>?_)
    ·have nb:S≠b:=fun e=>by rw[← e,p]at K;cases K
     exact Qao _ nb (H b o K)
    ·obtain⟨o,i,r⟩:=N;exact⟨o,Qao _ g i,r⟩
    ·have:=get?_update_seq (c := "list") m (fun _=>#[.ref ts[j].1,.ref ts[j].1]);simpa using this
    ·rw[QH,Qb z]at hu';rcases Qn.mp hu' with hu'|hu'
     ·have:=E u hu';cases Z:YG u.2 ts[j].2 with
      | false=>rfl
      | true=>rw[MQ _ _ _ Z d]at this;cases this
     ·have:u=ts[j]:=by simpa using hu'
      rw[this];exact Rs _
   | false =>
    refine wpAny_bind (wpAny_letGo (wpAny_pure ⟨rfl,?_⟩));refine Rr B hu C n p g s v x q (k-1) (j+1) f t c #[2] #[2] H N m y (fun u hu'=>?_);rw[QH,Qb z]at hu';rcases Qn.mp hu' with hu'|hu'
    ·exact E u hu'
    ·have:u=ts[j]:=by simpa using hu'
     rw[this];exact d
  ·have G:((ts.map fun t=>Value.ref t.1).toArray)[j]? = none:=by simp;lia
   refine wpAny_bind (wpAny_tryCatch (wpAny_pyNext_list_end B L M G fun f Q=>?_));have m:f.get? S=some { cls:=.type "list",data:=.seq #[.ref t.1,.ref t.1] c }:=Q S _ g D;refine wpAny_bind (wpAny_updateSeq m rfl ?_ (by show 2≤_;rw[sizeLine_eq];decide) (by show 0≤_;lia));refine wpAny_bind (wpAny_letGo (wpAny_pure ?_));refine q _ t (fun b o d=>?_) y (fun u hu'=>E u (by rw[Qv #[2]];exact hu'));have nb:S≠b:=fun e=>by rw[← e,p]at d;cases d
   have nI:b≠I:=fun e=>by rw[e,n]at d;cases d
   exact Qao _ nb (Q b o nI (keep b o d))
termination_by k=>k
theorem Zml{A:Around}{R:Result→Shared→Prop}{l I S:Addr}{ts:WB}{sh:List Bool}{h0 h:Heap}{c:Nat}{kw:List (Str×Value)}(v:A.handled=none)(hu:A.units+4<cLine)(y:h0.IsList l (ts.map fun t=>Value.ref t.1).toArray)
  (i:h0.get? I=none) (z:h0.get? S=none) (j:S≠I) (H:∀t∈ts,∃its:List Value,ZL (t.2.map kV) its∧IsTup h0 t.1 its.toArray) (J:∀t∈ts,Xx t.2=sh) (g:Shared) (keep:∀b o,h0.get? b=some o→h.get? b=some o) (B:h.IsListIter I l 0) (C:h.get? S=some { cls:=.type "list",data:=.seq #[] c })
  (K:ts≠[]∨∃n d kr,kw=(n,d)::kr∧∀f:Heap,(∀b o,h0.get? b=some o→f.get? b=some o)→R (.ok (.ret d)) { g with heap:=f })
  (q:∀ (f:Heap) (t:Addr×List Key),(∀b o,h0.get? b=some o→f.get? b=some o)→t∈ts→(∀u∈ts,YG u.2 t.2=false)→R (.ok (.ret (.ref t.1))) { g with heap:=f }) :
  codeAny (model prog w) A (.builtin "min.loop" { pos:=[.ref I,.none,.ref S],kw:=kw }) R { g with heap:=h }:=by
 refine codeAny_builtin F.entry_min_loop ?_;show wpAny _ _ (seqItems? (.ref S) >>= _) _ _ _;refine wpAny_bind (wpAny_seqItems C rfl ?_);have D:h.IsList l (ts.map fun t=>Value.ref t.1).toArray:=by obtain⟨o,k,r⟩:=y;exact⟨o,keep _ _ k,r⟩
 cases ts with
 | nil =>
  obtain⟨n,d,kr,rfl,L⟩:=K.resolve_left #[4];refine wpAny_bind (wpAny_tryCatch (wpAny_pyNext_list_end v B D #[4] fun m M=>?_));show wpAny _ _ (rule _ >>= _) _ _ _;refine wpAny_bind (wpAny_rule (wpAny_pure ?_));refine L _ fun b o a=>?_;have N:b≠I:=fun e=>by rw[e,i]at a;cases a
  exact M b o N (keep b o a)
 | cons t r =>
  refine wpAny_bind (wpAny_tryCatch (wpAny_pyNext_list_item B D (x:=.ref t.1) #[4] fun m O E=>?_));have P:∀b o,h0.get? b=some o→m.get? b=some o:=fun b o a=>by
   have nb:b≠I:=fun e=>by rw[e,i]at a;cases a
   rw[E.2 b nb];exact keep b o a
  have G:m.get? S=some { cls:=.type "list",data:=.seq #[] c }:=by rw[E.2 S j];exact C
  refine wpAny_bind (wpAny_pure ?_);show wpAny _ _ (updateSeq S _ >>= _) _ _ _;refine wpAny_bind (wpAny_updateSeq G rfl ?_ (by show 0≤_;lia) (by show 2≤_;rw[sizeLine_eq];decide));refine wpAny_pure ⟨rfl,?_⟩;refine Rr v hu y i z j H J g q _ 1 _ t (c+1) rfl #[4] (fun b o p=>?_) ?_ ?_ #[4] (fun u s=>?_)
  ·have nb:S≠b:=fun e=>by rw[← e,z]at p;cases p
   exact Qao _ nb (P b o p)
  ·obtain⟨o,k,r⟩:=O;exact⟨o,Qao _ j k,r⟩
  ·have:=get?_update_seq (c := "list") G (fun _=>#[.ref t.1,.ref t.1]);simpa using this
  ·have:u=t:=by simpa using s
   rw[this];exact Rs _
end
section
variable {X:Cx}
def MO(K:#[7]):List V→Hp→VK→Prop:=fun vs H Q=>∃ (p:Addr) (ts:WB) (sh:List Bool),vs=[.ref p]∧SqL K H p (VN ts)∧AtT H ts∧ts≠[]∧(∀t∈ts,Xx t.2=sh) ∧
 ∀t:Addr×List Key,t∈ts→(∀u∈ts,YG u.2 t.2=false)→Q (.ref t.1) H
theorem Znm{prog:Program}{w:World}{A:Around}{R:Result→Shared→Prop}{s:Shared}{l:Addr}{ts:WB}{sh:List Bool}{kw:List (Str×Value)}{g:List (Str×Value)}(j:A.handled=none)(hu:A.units+4<cLine)(p:s.heap.IsList l (ts.map fun t=>Value.ref t.1).toArray)
  (r:(kw=[]∧g=[])∨∃d,kw=[(Str.ofString "default",d)]∧g=[(Str.ofString "default",d)])
  (y:∀t∈ts,∃its:List Value,ZL (t.2.map kV) its∧IsTup s.heap t.1 its.toArray) (z:∀t∈ts,Xx t.2=sh)
  (B:ts≠[]∨∃n d kr,g=(n,d)::kr∧∀h':Heap,(∀b o,s.heap.get? b=some o→h'.get? b=some o)→R (.ok (.ret d)) { s with heap:=h' })
  (q:∀ (h':Heap) (t:Addr×List Key),(∀b o,s.heap.get? b=some o→h'.get? b=some o)→t∈ts→(∀u∈ts,YG u.2 t.2=false)→R (.ok (.ret (.ref t.1))) { s with heap:=h' }) :
  codeAny (model prog w) A (.call (.builtin "min") { pos:=[.ref l],kw:=kw }) R s:=by
 refine codeAny_call_builtin_at rfl F.entry_min ?_;have C:checkBuiltinCall "min" { pos:=[.ref l],kw:=kw }=pure ():=by rcases r with⟨rfl,_⟩|⟨d,rfl,_⟩<;>rfl
 rw[C];refine wpAny_pure ?_;have go:∀ {k:Around},k.handled=none→wpAny (model prog w) k (pyIter (.ref l) >>= fun D=>newList [] >>= fun b=>again (.builtin "min.loop" { pos:=[D,.none,b],kw:=g })) (fun m i=>match m with
   | Fin.done f=>R (Except.ok f) i
   | Fin.again v=>v.quiet=true∧codeAny (model prog w) A v R i) (fun e i=>R (Except.error e) i) s:=fun {k} hA'=>by
  refine wpAny_bind (wpAny_pyIter_list p ?_);refine wpAny_bind (wpAny_newList ?_ (by show 0≤_;lia));refine wpAny_pure ⟨rfl,?_⟩;have x:∀b,s.heap.objs.size≤b→s.heap.get? b=none:=fun b E=>by
   cases e:s.heap.get? b with
   | none=>rfl
   | some o=>exact absurd (Qp e) (Nat.not_lt.mpr E)
  have a:(s.heap.push { cls:=Value.type "list_iterator",data:=Data.fields #[Value.ref l,Value.int 0 0] }).objs.size=s.heap.objs.size+1:=size_push' _ _;refine Zml (h0:=s.heap) (c:=0) j hu p (x _ (Qh _)) (x _ (by rw[a];exact Qas _)) (by rw[a];exact Nat.succ_ne_self _) y z s (fun b o h=>Qc _ (Qc _ h)) ⟨_,Qc _ (Qs _ rfl),rfl,rfl⟩ (Qs _ rfl) B q
 rcases r with⟨rfl,rfl⟩|⟨d,rfl,rfl⟩
 ·exact go j
 ·exact go j
theorem ZmR(hc:X.calm=true)(hu:X.A.units+64<cLine):Y1 X (.builtin "min") (MO X.K):=by
 intro aa s σ H vs us Q I r h;obtain⟨p,ts,sh,rfl,b,c,d,e,q⟩:=h;obtain⟨u,rfl,f⟩:=Yb r;cases f;obtain⟨its,g,j,hz⟩:=I.list b;have k:=MP g;subst k;refine wpAny_call (Znm (sh:=sh) (I.ok.hd hc) #[2] j.isList (.inl ⟨rfl,rfl⟩) (fun t a=>?_) e (.inl d) fun h' t l a m=>?_)
 ·obtain⟨i,v,q,_⟩:=I.tuple (SqT.of (K:=X.K) (c t a));exact⟨i,v,q⟩
 ·exact⟨.ref t.1,H,I.kept (t':=s.toks) l,rfl,q t a m⟩
theorem ZsK(K:#[7]){k:Nat}(a:Y5 k X.A)(hc:X.calm=true:=by rfl)(h:X.K=K:=by rfl):Y1 X (.builtin "min") (MO K):=by subst h;exact ZmR hc a.units
end
section
variable {X:Cx}
def MN(K:#[7]):List V→Hp→VK→Prop:=fun vs H Q=>∃ (p:Addr) (ns:List Int),vs=[.ref p]∧SqL K H p (ns.map V.int)∧ns.length≤1000∧(∀n∈ns,0≤n∧n≤10000000000000)∧Q (.int ns.sum) H
theorem ZmS(hc:X.calm=true):Y1 X (.builtin "sum") (MN X.K):=by
 intro aa s σ H vs us Q I r h;obtain⟨p,a,rfl,o,hn,d,q⟩:=h;obtain⟨u,rfl,t⟩:=Yb r;cases t;obtain⟨its,v,w,_⟩:=I.list o;have f:=Nu v;obtain⟨b,e⟩:=f.allInts.items;have g:a=b.toList.map (·.1):=by rw[← f.numsOf,← nums_intItems,← e]
 have c:b.size=a.length:=by rw[g,Qa,Qad]
 have i:numAt b=fun j=>a.getD j 0:=by funext j;rw[numAt_eq,g]
 have k:=w.isList;rw[e]at k;have bound:∀n,n≤a.length→0≤(a.take n).sum∧(a.take n).sum≤10000000000000*n:=by
  intro n;induction n with
  | zero=>intro _;exact⟨by simp,by simp⟩
  | succ n l =>
   intro h;have l:=l #[2];have x:=d a[n] (QX #[2]);have y:a.take (n+1)=a.take n++[a[n]]:=by rw[QH,Qb #[2]];rfl
   rw[y,List.sum_append];have z:([a[n]]:List Int).sum=a[n]:=by simp
   rw[z];lia
 refine sum_intList (I.ok.hd hc) k (fun j hj=>?_) fun h' tk A B=>⟨.int _,H,I.kept B,⟨A,rfl⟩,?_⟩
 ·rw[i];have x:=d a[j] (QX #[2]);have m:a.getD j 0=a[j]:=by rw[QE,Qb #[2]];rfl
  have hp:=bound (j+1) #[2];refine⟨⟨?_,?_⟩,⟨?_,?_⟩⟩
  ·show -(2 ^ 63)≤a.getD j 0;rw[m];lia
  ·show a.getD j 0<2 ^ 63;rw[m];lia
  ·rw[Ti a (j+1) #[2]];lia
  ·rw[Ti a (j+1) #[2]];lia
 ·rw[i,c,Ti a a.length (Qh _),Qv (Qh _)];exact q
theorem MM(K:#[7])(hc:X.calm=true:=by rfl)(h:X.K=K:=by rfl):Y1 X (.builtin "sum") (MN K):=by subst h;exact ZmS hc
end
end L2
namespace Hf
open L2
abbrev PW:=List (Int×Nat)
noncomputable def val(P:PW):Int:=(P.map fun p=>p.1*(p.2:Int)).sum
noncomputable def ws(P:PW):List Int:=P.map (·.1)
noncomputable def ds(P:PW):List Nat:=P.map (·.2)
noncomputable def zs(z:Nat):List Int:=List.replicate z 0
noncomputable def kr(w E:Nat)(D:List Nat):Nat:=(D.map fun d=>w ^ (E-d)).sum
inductive Hu (w:Nat):List Int→Nat→Int→Prop
 | stop {e:Int} {m:Nat}:Hu w [e] m 0
 | step {E L:List Int} {m:Nat} {C:Int}:1<L.length→E.Perm L→L.Pairwise (·≤·)→Hu w (L.drop m++[(L.take m).sum]) w C→Hu w E m (C+(L.take m).sum)
def Fit(w n m:Nat):Prop:=n=1∨∃t,n=m+t*(w-1)
structure Fits (w n m:Nat):Prop where
 w2:2≤w
 m2:2≤m
 mw:m≤w
 ok:Fit w n m
end Hf
namespace L2
open PySem PySem.Spec PyProof.Rows
section
variable {prog:Program} {w:World} {A:Around} {R:Result→Shared→Prop} {s:Shared}
theorem ZhH{c d b iter:Expr}{f:List Expr}{k:Scope}{pos:Pos}{it:Value}{D:Addr}{env:Env}{E:Value→Shared→Prop}(I:Nat→Shared→Prop)
  (G:∀e s',E e s'→False)
  (turn:∀n s,I n s→wpAny (model prog w) A (pyNext it) (fun r g=>match r with
   | none=>R (.ok .next) g
   | some v=>wpAny (model prog w) A (letOwnedTupleGo b it v) (fun _ s₀=>wpAny (model prog w) A (assign b env v) (fun _ l =>
     wpAny (model prog w) A (RC f env) (fun ok i =>
      if ok=true then wpAny (model prog w) A (eval c env) (fun o p=>wpAny (model prog w) A (eval d env) (fun u y =>
       wpAny (model prog w) A (dictSet D o u) (fun _ B=>∃m,m<n∧I m B) E y) E p) E i
      else ∃m,m<n∧I m i) E l) E s₀) E g) E s)
  (n:Nat) (h:I n s):codeAny (model prog w) A (.compLoop (.DictComp c d [⟨b,iter,f,0⟩] k pos) 0 it (.ref D) env) R s:=by
 have go:∀ {j:Type} {t:Sem j} {Q:j→Shared→Prop} {s:Shared},wpAny (model prog w) A t Q E s→wpAny (model prog w) A t Q (notedBy (model prog w) A env fun e s'=>R (.error e) s') s :=
  fun {j t Q s} q=>wpAny_mono q (fun _ _ z=>z) fun e s' z=>(G e s' z).elim
 refine codeAny_loop rfl I (fun n s H=>?_) n h;show wpAny _ A ((compTurn (.DictComp c d [⟨b,iter,f,0⟩] k pos) 0 it (.ref D) env).onRaise (fun x=>do noteFrame x env;theTreesLotGoes x)) _ _ s;refine wpAny_noted ?_;rw[compTurn_dict];refine wpAny_bind (wpAny_standAt (wpAny_bind (thn (go (turn n s H)) fun r g C=>?_)));cases r with
 | none=>exact wpAny_pure C
 | some v =>
  refine wpAny_bind (thn (go C) fun _ s₀ a=>wpAny_bind (thn (go a) fun _ l J=>wpAny_bind (thn (go J) fun ok i F=>?_)));cases ok with
  | false=>exact wpAny_pure ⟨rfl,F⟩
  | true=>exact wpAny_bind (wpAny_bind (thn (go F) fun o p K=>wpAny_bind (wpAny_holding (thn (go K) fun u y L=>wpAny_bind (wpAny_standAt (wpAny_holding (thn (go L) fun _ B M=>wpAny_pure ⟨rfl,M⟩)))))))
end
section
variable {κ:Type} [DecidableEq κ]
noncomputable def Z8(kvs:List (κ×V))(k:κ):Option V:=(kvs.find? fun a=>decide (a.1=k)).map (·.2)
noncomputable def Y6(kvs:List (κ×V))(k:κ)(v:V):List (κ×V) :=
 if (kvs.any fun a=>decide (a.1=k))=true then kvs.map (fun a=>if a.1=k then (a.1,v) else a) else kvs++[(k,v)]
noncomputable def Xb(kvs:List (κ×V))(k:κ):List (κ×V):=kvs.filter fun a=>decide (a.1≠k)
theorem Vd{p:κ×V}{r:List (κ×V)}{k:κ}(e:p.1=k):Z8 (p::r) k=some p.2:=by simp[Z8,List.find?_cons,e]
theorem Vc{p:κ×V}{r:List (κ×V)}{k:κ}(e:¬ p.1=k):Z8 (p::r) k=Z8 r k:=by simp[Z8,List.find?_cons,e]
theorem Th(k:κ):∀kvs:List (κ×V),(kvs.any fun a=>decide (a.1=k))=(Z8 kvs k).isSome
 | []=>rfl
 | p::r=>by
  rw[QaQ];by_cases e:p.1=k
  ·simp only[Vd e,decide_eq_true e,Bool.true_or,Option.isSome_some]
  ·rw[Vc e,decide_eq_false e,Bool.false_or];exact Th k r
theorem Tg(kvs:List (κ×V))(k:κ)(v:V):(Y6 kvs k v).length≤kvs.length+1:=by
 unfold Y6;split
 ·rw[Qa];lia
 ·rw[Qi,QL,List.length_nil];lia
theorem WA{kvs:List (κ×V)}{k:κ}(v:V)(h:Z8 kvs k=none):Y6 kvs k v=kvs++[(k,v)]:=by unfold Y6;rw[Th,h];exact if_neg #[6]
theorem Yi.isSome_eq{o:Option V}{u:Option Value}(r:Yi o u):o.isSome=u.isSome:=by
 cases o with
 | none=>cases u with
  | none=>rfl
  | some _=>exact(show False from r).elim
 | some _=>cases u with
  | none=>exact(show False from r).elim
  | some _=>rfl
theorem Yi.getD{o:Option V}{u:Option Value}{d:V}{d':Value}(r:Yi o u)(rd:ZM d d'):ZM (o.getD d) (u.getD d'):=by
 cases o with
 | none=>cases u with
  | none=>exact rd
  | some _=>exact(show False from r).elim
 | some _=>cases u with
  | none=>exact(show False from r).elim
  | some _=>exact r
theorem KV.val{kvs:List (κ×V)}{vs:List (κ×Value)}(r:KV kvs vs)(k:κ):Yi (Z8 kvs k) (valueAt vs k):=by
 unfold KV at r;induction r with
 | nil=>exact True.intro
 | @cons p q ps a h t f =>
  obtain⟨d,g⟩:=h;by_cases e:p.1=k
  ·have c:q.1=k:=d.symm.trans e;have b:valueAt (q::a) k=some q.2:=by simp[valueAt,List.find?_cons,c]
   rw[Vd e,b];exact g
  ·have c:¬ q.1=k:=fun z=>e (d.trans z);have b:valueAt (q::a) k=valueAt a k:=by simp[valueAt,List.find?_cons,c]
   rw[Vc e,b];exact f
theorem KV.any{kvs:List (κ×V)}{vs:List (κ×Value)}(r:KV kvs vs)(k:κ):(kvs.any fun a=>decide (a.1=k))=vs.any fun a=>decide (a.1=k):=by
 unfold KV at r;induction r with
 | nil=>rfl
 | cons h t b=>rw[QaQ,QaQ,b,h.1]
theorem KV.repl{kvs:List (κ×V)}{vs:List (κ×Value)}(r:KV kvs vs)(k:κ){y:V}{u:Value}(c:ZM y u) :
  KV (kvs.map fun a=>if a.1=k then (a.1,y) else a) (vs.map fun a=>if a.1=k then (a.1,u) else a):=by
 unfold KV at r ⊢;induction r with
 | nil=>exact .nil
 | @cons p q ps qs h t d =>
  rw[Qj,Qj];refine .cons ?_ d;obtain⟨b,f⟩:=h;by_cases e:p.1=k
  ·rw[if_pos e,if_pos (b.symm.trans e)];exact⟨b,c⟩
  ·rw[if_neg e,if_neg (fun z=>e (b.trans z))];exact⟨b,f⟩
theorem KV.put{kvs:List (κ×V)}{vs:List (κ×Value)}(r:KV kvs vs)(k:κ){y:V}{u:Value}(a:ZM y u):KV (Y6 kvs k y) (stored vs k u):=by
 unfold Y6 stored;rw[r.any k];by_cases e:(vs.any fun b=>decide (b.1=k))=true
 ·rw[if_pos e,if_pos e];exact r.repl k a
 ·rw[if_neg e,if_neg e];exact Paired.snoc r ⟨rfl,a⟩
theorem KV.drop{kvs:List (κ×V)}{vs:List (κ×Value)}(r:KV kvs vs)(k:κ):KV (Xb kvs k) (without vs k):=by
 unfold KV at r ⊢;unfold Xb without;induction r with
 | nil=>exact .nil
 | @cons p q ps qs h t d =>
  obtain⟨c,f⟩:=h;rw[List.filter_cons,List.filter_cons];by_cases e:p.1=k
  ·have a:¬ decide (p.1≠k)=true:=by simp[e]
   have b:¬ decide (q.1≠k)=true:=by simp[c.symm.trans e]
   rw[if_neg a,if_neg b];exact d
  ·have g:¬ q.1=k:=fun z=>e (c.trans z);have a:decide (p.1≠k)=true:=by simp[e]
   have b:decide (q.1≠k)=true:=by simp[g]
   rw[if_pos a,if_pos b];exact .cons ⟨c,f⟩ d
theorem KV.length{kvs:List (κ×V)}{vs:List (κ×Value)}(r:KV kvs vs):kvs.length=vs.length:=Paired.length r
theorem Zn8(kvs:List (κ×V))(k:κ):(Xb kvs k).length≤kvs.length:=Q8 _ _
end
theorem Wz{P:Program}{w:World}{k:Key}{u:Value}(r:ZM (kV k) u):(ZF P w).is k u=true:=by
 cases k with
 | inl i=>obtain⟨t,e⟩:=(show ∃t,u=Value.int i t from r);subst e;exact ZjR P w i t
 | inr x=>obtain⟨t,e⟩:=(show ∃t,u=Value.str x t from r);subst e;exact ZjF P w x t
theorem ML{P:Program}{w:World}:∀ {ks:List Key} {us:List Value},ZL (ks.map kV) us→ItemsAre (ZF P w) ks us
 | [],_,r=>by rw[Qa1]at r;cases r;exact .nil
 | k::ks,_,r=>by
  rw[Qj]at r;cases r with
  | cons h t=>exact .cons (Wz h) (ML t)
abbrev KT(H:Hp):List (List Key×V)→List (List Key×Addr×Value)→Prop:=Paired fun p q=>p.1=q.1∧H q.2.1=some (.tup (p.1.map kV))∧ZM p.2 q.2.2
theorem KT.val{H:Hp}{kvs:List (List Key×V)}{xs:List (List Key×Addr×Value)}(r:KT H kvs xs)(k:List Key):Yi (Z8 kvs k) ((atKey xs k).map (·.2)):=by
 induction r with
 | nil=>exact True.intro
 | @cons p q ps a h t f =>
  obtain⟨d,_,g⟩:=h;by_cases e:p.1=k
  ·have c:q.1=k:=d.symm.trans e;have b:atKey (q::a) k=some q.2:=by simp[atKey,List.find?_cons,c]
   rw[Vd e,b];exact g
  ·have c:¬ q.1=k:=fun z=>e (d.trans z);have b:atKey (q::a) k=atKey a k:=by simp[atKey,List.find?_cons,c]
   rw[Vc e,b];exact f
theorem KT.repl{H:Hp}{kvs:List (List Key×V)}{xs:List (List Key×Addr×Value)}(r:KT H kvs xs)(k:List Key){y:V}{u:Value}(d:ZM y u) :
  KT H (kvs.map fun b=>if b.1=k then (b.1,y) else b) (xs.map (putAt k u)):=by
 induction r with
 | nil=>exact .nil
 | @cons p q ps qs h t f =>
  rw[Qj,Qj];refine .cons ?_ f;obtain⟨a,c,g⟩:=h;unfold putAt;by_cases e:p.1=k
  ·rw[if_pos e,if_pos (a.symm.trans e)];exact⟨a,c,d⟩
  ·rw[if_neg e,if_neg (fun z=>e (a.trans z))];exact⟨a,c,g⟩
theorem KT.put{H:Hp}{kvs:List (List Key×V)}{xs:List (List Key×Addr×Value)}(r:KT H kvs xs)(k:List Key){b:Addr}{y:V}{u:Value}(hb:H b=some (.tup (k.map kV)))(a:ZM y u) :
  KT H (Y6 kvs k y) (storedH xs k b u):=by
 have e:(kvs.any fun c=>decide (c.1=k))=(atKey xs k).isSome:=by rw[Th,(r.val k).isSome_eq,Option.isSome_map]
 unfold Y6 storedH;rw[e];by_cases q:(atKey xs k).isSome=true
 ·rw[if_pos q,if_pos q];exact r.repl k a
 ·rw[if_neg q,if_neg q];exact Paired.snoc r ⟨rfl,hb,a⟩
theorem KT.keeps{H H':Hp}{kvs:List (List Key×V)}{xs:List (List Key×Addr×Value)}(r:KT H kvs xs)(a:∀b ys,H b=some (.tup ys)→H' b=some (.tup ys)):KT H' kvs xs :=
 Paired.mapP r fun _ _ z=>⟨z.1,a _ _ z.2.1,z.2.2⟩
section
variable {P:Program} {w:World} {H:Hp} {h:Heap} {a:Addr}
theorem MK{u:HO}(ok:HOk P w H h)(e:Rd H a u):Z7 P w H h a u:=e.ok ok
theorem VM{kvs:List (Key×V)}(ok:HOk P w H h)(e:Rd H a (.dK kvs)):kvs.length≤sizeLine∧(a == sysModules)=false∧∃vs,KV kvs vs∧h.DictOf (ZF P w) a vs :=
 show Z7 P w H h a (.dK kvs) from MK ok e
theorem VL{kvs:List (Key×V)}(ok:HOk P w H h)(e:H a=some (.dK kvs)):kvs.length≤sizeLine∧(a == sysModules)=false∧∃vs,KV kvs vs∧h.DictOf (ZF P w) a vs:=VM ok (.inl e)
theorem Ux{ks:List Key}(ok:HOk P w H h)(e:H a=some (.tup (ks.map kV))):(tupleKind (ZF P w)).is h ks a:=by obtain⟨_,its,r,o,b,c,n,d⟩:=(show Z7 P w H h a (.tup (ks.map kV)) from ok a _ e);exact⟨o,its.toArray,n,b,c,d,by simpa using ML r⟩
theorem Vb{kvs:List (List Key×V)}(ok:HOk P w H h)(e:Rd H a (.dT kvs)):kvs.length≤sizeLine∧(a == sysModules)=false ∧
  ∃xs,KT H kvs xs∧h.DictOfH (tupleKind (ZF P w)) a xs:=by
 obtain⟨z,y,xs,r,o,c,d,f,g,i,j,k⟩:=(show Z7 P w H h a (.dT kvs) from MK ok e);refine⟨z,y,xs,r,o,c,d,f,g,i,j,fun x hx=>?_,k⟩;have all:∀ {l:List (List Key×V)} {m:List (List Key×Addr×Value)},KT H l m→∀x∈m,(tupleKind (ZF P w)).is h x.1 x.2.1:=by
  intro l m q;induction q with
  | nil=>intro x hx;exact nomatch hx
  | @cons p q ps qs b t n =>
   intro x hx;rcases QF.mp hx with e|hx
   ·subst e;exact Ux ok (by rw[← b.1];exact b.2.1)
   ·exact n x hx
 exact all r x hx
theorem MJ{kvs:List (List Key×V)}(ok:HOk P w H h)(e:H a=some (.dT kvs)):kvs.length≤sizeLine∧(a == sysModules)=false ∧
  ∃xs,KT H kvs xs∧h.DictOfH (tupleKind (ZF P w)) a xs:=Vb ok (.inl e)
end
def ZP(H:Hp)(a:Addr)(y:V)(r:Option V):Prop :=
 (∃c k,Rd H a (.dK c)∧y=kV k∧r=Z8 c k)∨∃c k b,Rd H a (.dT c)∧y=.ref b∧H b=some (.tup (k.map kV))∧r=Z8 c k
def YN(H:Hp)(a:Addr)(y v:V)(H':Hp):Prop :=
 (∃c k,H a=some (.dK c)∧y=kV k∧c.length<sizeLine∧H'=upd H a (.dK (Y6 c k v))) ∨
 ∃c k b,H a=some (.dT c)∧y=.ref b∧H b=some (.tup (k.map kV))∧c.length<sizeLine∧H'=upd H a (.dT (Y6 c k v))
theorem ZP.k{H:Hp}{a:Addr}{kvs:List (Key×V)}{k:Key}(e:H a=some (.dK kvs)):ZP H a (kV k) (Z8 kvs k):=.inl ⟨kvs,k,.inl e,rfl,rfl⟩
theorem ZP.t{H:Hp}{a b:Addr}{kvs:List (List Key×V)}{k:List Key}(e:H a=some (.dT kvs))(c:H b=some (.tup (k.map kV))):ZP H a (.ref b) (Z8 kvs k):=.inr ⟨kvs,k,b,.inl e,rfl,c,rfl⟩
theorem YN.k{H:Hp}{a:Addr}{kvs:List (Key×V)}{k:Key}{v:V}(e:H a=some (.dK kvs))(hl:kvs.length<sizeLine):YN H a (kV k) v (upd H a (.dK (Y6 kvs k v))):=.inl ⟨kvs,k,e,rfl,hl,rfl⟩
theorem YN.t{H:Hp}{a b:Addr}{kvs:List (List Key×V)}{k:List Key}{v:V}(e:H a=some (.dT kvs))(c:H b=some (.tup (k.map kV)))(hl:kvs.length<sizeLine) :
  YN H a (.ref b) v (upd H a (.dT (Y6 kvs k v))):=.inr ⟨kvs,k,b,e,rfl,c,hl,rfl⟩
section
variable {X:Cx} {aa:List (Addr×Obj)} {σ:St} {H:Hp} {s:Shared} {a:Addr} {y v:V} {u r:Value} {o:Option V} {A:Around} {E:Value→Shared→Prop}
theorem Inv.big(I:Inv X aa σ H s):sysModules<s.heap.objs.size:=by have h:mainGlobals<s.heap.objs.size:=(I.mod.glob.keeps I.bk).lt;exact Qa2 #[6] h
theorem ZmT{Q:Value→Shared→Prop}(hu:A.units+1<cLine)(I:Inv X aa σ H s)(g:ZP H a y (some v))(n:ZM y u)(h:∀d s',Inv X aa σ H s'→ZM v d→Q d s') :
  wpAny (model X.prog X.w) A (getItem (.ref a) u) Q E s:=by
 rcases g with⟨f,k,e,i,l⟩|⟨f,k,b,e,i,q,l⟩
 ·subst i;obtain⟨z,r,t,c,j⟩:=VM I.hok e;obtain⟨d,hw,m⟩:=Yi.some_of (v:=v) (o:=valueAt t k) (by rw[l];exact c.val k);exact wpAny_getItem_of (Wz n) j.mapOf hw (h d _ (I.tok _) m)
 ·subst i;cases (show u=Value.ref b from n);obtain⟨z,r,w,c,j⟩:=Vb I.hok e;obtain⟨d,hw,m⟩:=Yi.some_of (v:=v) (o:=(atKey w k).map (·.2)) (by rw[l];exact c.val k);obtain⟨p,x,B⟩:=Qa3.mp hw;refine wpAny_getItem_heap (tupleKind_room_in1 hu) (Ux I.hok q) j x ?_;rw[B];exact h d _ (I.tok _) m
theorem Zpe{Q:Value→Shared→Prop}(hu:A.units+1<cLine)(I:Inv X aa σ H s)(g:ZP H a y o)(m:ZM y u)(h:∀s',Inv X aa σ H s'→Q (.bool (!o.isSome)) s') :
  wpAny (model X.prog X.w) A (compareOp .NotIn u (.ref a)) Q E s:=by
 rcases g with⟨d,k,e,f,l⟩|⟨d,k,b,e,f,n,l⟩
 ·subst f;obtain⟨z,i,vs,c,j⟩:=VM I.hok e;refine wpAny_notIn_of (Wz m) i j.mapOf ?_;rw[← (c.val k).isSome_eq,← l];exact h _ (I.tok _)
 ·subst f;cases (show u=Value.ref b from m);obtain⟨z,i,xs,c,j⟩:=Vb I.hok e;refine wpAny_notIn_heap (tupleKind_room_in1 hu) (Ux I.hok n) i j ?_;have q:=(c.val k).isSome_eq;rw[Option.isSome_map]at q;rw[← q,← l];exact h _ (I.tok _)
theorem Uw{h':Heap}{t':Nat}{ob:HO}(I:Inv X aa σ H s)(c:Mut (H a))(d:Heap.SameBut a s.heap h')(he:∃q,h'.get? a=some q)(new:Z7 X.prog X.w (upd H a ob) h' a ob) :
  Inv X aa σ (upd H a ob) { s with heap:=h',toks:=t' } :=
 I.write (x:=a) (e:=a) c #[8] (fun b q f z=>(d.2 b f).trans z) he new
theorem Va{P:Program}{w:World}{H':Hp}{h':Heap}{kvs:List (Key×V)}{vs:List (Key×Value)}(z:kvs.length≤sizeLine)(hd:(a == sysModules)=false)(rel:KV kvs vs)(b:h'.DictOf (ZF P w) a vs) :
  Z7 P w H' h' a (.dK kvs):=⟨z,hd,vs,rel,b⟩
theorem ZlX{H':Hp}{Q:Unit→Shared→Prop}(hu:A.units+1<cLine)(I:Inv X aa σ H s)(g:YN H a y v H')(B:ZM y u)(C:ZM v r)(h:∀s',Inv X aa σ H' s'→Q () s') :
  wpAny (model X.prog X.w) A (setItem (.ref a) u r) Q E s:=by
 rcases g with⟨d,k,e,m,l,n⟩|⟨d,k,b,e,m,D,l,n⟩
 ·subst m n;obtain⟨z,o,J,f,p⟩:=VL I.hok e;have t:J.length≤sizeLine:=by rw[← f.length];exact z
  have w:(Y6 d k v).length≤sizeLine:=by have:=Tg d k v;lia
  refine wpAny_setItem_pairs (hsz:=t) (Wz B) p fun F i x=>h _ ?_;have K:∃q,F.get? a=some q:=let ⟨q,_,_,j,_⟩:=i;⟨q,j⟩;exact Uw I (by rw[e];exact True.intro) x K (Va w o (f.put k C) i)
 ·subst m n;cases (show u=Value.ref b from B);obtain⟨z,o,L,f,p⟩:=MJ I.hok e;have t:L.length≤sizeLine:=by rw[← Paired.length f];exact z
  have w:(Y6 d k v).length≤sizeLine:=by have:=Tg d k v;lia
  refine wpAny_setItem_heap (hsz:=t) (tupleKind_room_in1 hu) (Ux I.hok D) p fun F i x=>h _ ?_;obtain⟨q,M,N,j,O,P,R,_,S⟩:=i;refine Uw I (by rw[e];exact True.intro) x ⟨q,j⟩ ⟨w,o,_,(f.put k D C).keeps fun c ys G=>?_,q,M,N,j,O,P,R,S⟩;rw[Zc (RV G e (fun z=>nomatch z))];exact G
end
section
variable {X:Cx} {aa:List (Addr×Obj)} {σ:St} {H:Hp} {s:Shared} {a:Addr} {kvs:List (Key×V)} {k:Key} {u:Value} {A:Around} {E:Value→Shared→Prop}
theorem Zr5{v:V}{more:List Value}{Q:Value→Shared→Prop}(I:Inv X aa σ H s)(e:H a=some (.dK kvs))(d:ZM (kV k) u)(l:Z8 kvs k=some v)(hm:more=[]∨∃x,more=[x])
  (h:∀c s',Inv X aa σ (upd H a (.dK (Xb kvs k))) s'→ZM v c→Q c s'):wpAny (model X.prog X.w) A (call (.builtin "dict.pop") (.ref a::u::more)) Q E s:=by
 obtain⟨z,m,f,b,g⟩:=VL I.hok e;obtain⟨c,hw,n⟩:=Yi.some_of (v:=v) (o:=valueAt f k) (by rw[← l];exact b.val k);have p:(keyPart u).isSome=true:=by
  cases k with
  | inl i=>obtain⟨t,q⟩:=(show ∃t,u=Value.int i t from d);subst q;rfl
  | inr x=>obtain⟨t,q⟩:=(show ∃t,u=Value.str x t from d);subst q;rfl
 have r:argsOk "dict.pop" ⟨.ref a::u::more,[]⟩:=by
  rcases hm with q|⟨x,q⟩
  ·subst q;exact PySem.F.args_dict_pop_2 _ _
  ·subst q;exact PySem.F.args_dict_pop_3 _ _ _
 refine call_meetsIn QaF g.typeIs PySem.F.entry_dict_pop r (meets_dict_pop_there (ZF X.prog X.w) a (Wz d) more hm p)
  ⟨f,c,g,by rw[← b.length];exact z,hw,fun w j y=>h c _ ?_ n⟩
 have B:∃q,w.get? a=some q:=let ⟨q,_,_,C,_⟩:=j;⟨q,C⟩;exact Uw I (by rw[e];exact True.intro) y B (Va (QB (Zn8 kvs k) z) m (b.drop k) j)
theorem Zsi{Q:Value→Shared→Prop}(I:Inv X aa σ H s)(e:Rd H a (.dK kvs))(h:∀t s',Inv X aa σ H s'→Q (.int kvs.length t) s'):wpAny (model X.prog X.w) A (call (.builtin "len") [.ref a]) Q E s:=by obtain⟨z,c,vs,b,d⟩:=VM I.hok e;refine call_len_dict c d (by rw[← b.length];rw[sizeLine_eq]at z;lia) ?_;rw[← b.length];exact h _ _ (I.tok _)
end
theorem Zjw{X:Cx}{f:List (Addr×Obj)}{h:St}{H:Hp}{s:Shared}{a:Addr}{y:V}{o:Option V}(I:Inv X f h H s)(g:ZP H a y o):s.TypeIs (.ref a) "dict":=by
 rcases g with⟨c,k,e,_,_⟩|⟨c,k,b,e,_,_,_⟩
 ·obtain⟨_,_,vs,_,d⟩:=VM I.hok e;exact d.typeIs
 ·obtain⟨_,_,xs,_,d⟩:=Vb I.hok e;exact d.typeIs
theorem Rq{P:Program}{w:World}{H:Hp}(h:Heap)(hb:sysModules<h.objs.size):Z7 P w H (h.push { cls:=.type "dict",data:=.dict #[] }) h.objs.size (.dK []) :=
 ⟨Qw _,beq_eq_false_iff_ne.mpr (Ne.symm (Qu hb)),[],.nil,Heap.DictOf.new h⟩
def ZqG:TE:=fun _ H Q=>∀p,H p=none→Q (.ref p) (upd H p (.dK []))
section
variable {X:Cx} {pos:Pos}
theorem Uv:PE X (.Dict [] [] pos) ZqG:=fun aa s σ H Q I h =>
 wpAny_Dict_empty ⟨.ref s.heap.objs.size,_,I.laid (a:=s.heap.objs.size) (o:=.dK []) (t':=s.toks) (fun _ _ q=>Qc _ q) (Qh _) (Rq s.heap I.big),rfl,h _ (I.hok.fresh (Qh _))⟩
end
def Rp:List (TE×TE)→St→Hp→(List (V×V)→Hp→Prop)→Prop
 | [],_,H,Q=>Q [] H
 | (tk,b)::r,a,H,Q=>tk a H fun x c=>b a c fun y d=>Rp r a d fun ps e=>Q ((x,y)::ps) e
abbrev VV:List (V×V)→List (Value×Value)→Prop:=Paired fun p q=>ZM p.1 q.1∧ZM p.2 q.2
def PPs(X:Cx)(pos:Pos)(keys:List (Option Expr))(e:List Expr)(f:List (TE×TE)):Prop :=
 ∀ (b:List (Addr×Obj)) (s:Shared) (a:St) (H:Hp) (Q:List (V×V)→Hp→Prop),Inv X b a H s→Rp f a H Q →
  #[9,X] (evalPairs (pairTrees keys e X.env pos)) (fun g h=>∃c d,Inv X b a d h∧VV c g∧Q c d) X.xe s
theorem ZoS{X:Cx}{pos:Pos}:PPs X pos [] [] []:=fun aa s σ H Q I h=>pairTrees_nil_walk ⟨[],H,I,.nil,h⟩
theorem VJ{X:Cx}{pos:Pos}{k v:Expr}{ks:List (Option Expr)}{vs:List Expr}{tk d:TE}{e:List (TE×TE)}(hk:PE X k tk)(hv:PE X v d)(f:PPs X pos ks vs e) :
  PPs X pos (some k::ks) (v::vs) ((tk,d)::e):=fun a s b H Q I h =>
 pairTrees_cons_walk (thn (hk a s b H _ I h) fun u g ⟨x,i,j,l,m⟩=>thn (hv a g b i _ j m) fun w2 n ⟨y,o,p,q,r⟩=>
  thn (f a n b o _ p r) fun ws s3 ⟨t,w,z,c,A⟩=>⟨(x,y)::t,w,z,.cons ⟨l,q⟩ c,A⟩)
noncomputable def Xm(kvs more:List (Key×V)):List (Key×V):=more.foldl (fun b a=>Y6 b a.1 a.2) kvs
theorem KV.merge:∀ {more:List (Key×V)} {a:List (Key×Value)} {kvs:List (Key×V)} {vs:List (Key×Value)},KV more a→KV kvs vs→KV (Xm kvs more) (merged vs a):=by
 intro more a kvs vs r;unfold KV at r;induction r generalizing kvs vs with
 | nil=>intro q;exact q
 | @cons p q ps qs h t b =>
  intro c;have e:KV (Y6 kvs p.1 p.2) (stored vs q.1 q.2):=by have:=c.put p.1 h.2;rw[← h.1];exact this
  exact b e
theorem Ro:∀ (more kvs:List (Key×V)),(Xm kvs more).length≤kvs.length+more.length
 | [],kvs=>by show kvs.length≤kvs.length+0;lia
 | p::r,kvs=>by have h1:=Ro r (Y6 kvs p.1 p.2);have h2:=Tg kvs p.1 p.2;show (Xm (Y6 kvs p.1 p.2) r).length≤_;rw[QL];lia
theorem MI{P:Program}{w:World}:∀ {kvs:List (Key×V)} {ws:List (Value×Value)},VV (kvs.map fun e=>(kV e.1,e.2)) ws→∃d,Carries (ZF P w) ws d∧KV kvs d
 | [],_,r=>by rw[Qa1]at r;cases r;exact⟨[],True.intro,.nil⟩
 | p::kvs,_,r=>by
  rw[Qj]at r;cases r with
  | @cons a b as bs h t=>obtain⟨d,c,q⟩:=MI (P:=P) (w:=w) t;obtain⟨b1,f⟩:=b;exact⟨(p.1,f)::d,⟨Wz h.1,rfl,c⟩,.cons ⟨rfl,h.2⟩ q⟩
def ZsG(c:List (TE×TE)):TE:=fun d H Q=>∀p,H p=none→Rp c d (upd H p (.dK [])) fun ps a=>a p=some (.dK [])∧∃kvs:List (Key×V),ps=kvs.map (fun b=>(kV b.1,b.2))∧kvs.length≤15∧Q (.ref p) (upd a p (.dK (Xm [] kvs)))
theorem Zqb{X:Cx}{pos:Pos}{keys:List (Option Expr)}{d:List Expr}{g:List (TE×TE)}(h:PPs X pos keys d g)(k:keys.all (·.isSome)=true)(hl:keys.length=d.length)(h0:keys≠[])
  (l:keys.length≤15):PE X (.Dict keys d pos) (ZsG g):=by
 intro m s n H Q I q;have p:=I.hok.fresh (Qh s.heap.objs.size);have r:=I.laid (a:=s.heap.objs.size) (o:=.dK []) (h':=s.heap.push { cls:=.type "dict",data:=.dict #[] }) (t':=s.toks) (fun _ _ q=>Qc _ q) (Qh _) (Rq s.heap I.big);refine wpAny_Dict_walk (knd:=ZF X.prog X.w) k hl h0 l (thn (h m _ n _ _ r (q _ p)) ?_);rintro ws s2 ⟨ps,H2,i,f,e,b,t,lk,u⟩;subst t;obtain⟨v,c,x⟩:=MI (P:=X.prog) (w:=X.w) f;obtain⟨z,y,vs0,A,B⟩:=VL i.hok e;cases A;refine⟨v,c,B,fun h' j C=>⟨.ref s.heap.objs.size,_,?_,rfl,u⟩⟩;have D:(Xm [] b).length≤sizeLine:=by have E:=Ro b [];rw[List.length_nil]at E;rw[sizeLine_eq];lia
 have F:∃q,h'.get? s.heap.objs.size=some q:=let ⟨q,_,_,G,_⟩:=j;⟨q,G⟩;exact Uw i (by rw[e];exact True.intro) C F (Va D y (x.merge .nil) j)
structure M1 (X:Cx) (o:Expr) (m:Str) (av:Pos) (e:Expr) (ax:Pos):Prop where
 base:attributeBase o m X.env (eval o X.env)=eval o X.env
 few:((backTo ax (starEach [e] X.env)).all (fun x=>!x.1)&&(backToKw ax (keywordEach [] X.env)).all (fun x=>x.1.isSome)
  && decide (([e]:List Expr).length+([]:List Keyword).length+(if ([]:List Keyword).isEmpty then 0 else 1)<30))=true
 line:(av.endLine == ax.line)=true
 trees:backTo ax (starEach [e] X.env)=[(false,eval e X.env)]
structure M2 (X:Cx) (o:Expr) (m:Str) (av:Pos) (e f:Expr) (ax:Pos):Prop where
 base:attributeBase o m X.env (eval o X.env)=eval o X.env
 few:((backTo ax (starEach [e,f] X.env)).all (fun x=>!x.1)&&(backToKw ax (keywordEach [] X.env)).all (fun x=>x.1.isSome)
  && decide (([e,f]:List Expr).length+([]:List Keyword).length+(if ([]:List Keyword).isEmpty then 0 else 1)<30))=true
 line:(av.endLine == ax.line)=true
 trees:backTo ax (starEach [e,f] X.env)=[(false,eval e X.env),(false,eval f X.env)]
def IsD(H:Hp)(a:Addr):Prop:=(∃kvs,Rd H a (.dK kvs))∨∃kvs,Rd H a (.dT kvs)
theorem ZqB{X:Cx}{j:List (Addr×Obj)}{k:St}{H:Hp}{s:Shared}{a:Addr}(I:Inv X j k H s)(d:IsD H a) :
  s.TypeIs (.ref a) "dict"∧(∀b,Value.ref a=.ref b→∃ob,s.heap.get? b=some ob∧ob.dict=none)∧(a == sysModules)=false:=by
 rcases d with⟨f,e⟩|⟨f,e⟩
 ·obtain⟨_,g,vs,_,c⟩:=VM I.hok e;refine⟨c.typeIs,fun b q=>?_,g⟩;cases q;obtain⟨ob,_,_,h,i,_⟩:=c;exact⟨ob,h,i.2.1⟩
 ·obtain⟨_,g,xs,_,c⟩:=Vb I.hok e;refine⟨c.typeIs,fun b q=>?_,g⟩;cases q;obtain⟨ob,_,_,h,i,_⟩:=c;exact⟨ob,h,i.2.1⟩
section
variable {X:Cx} {aa:List (Addr×Obj)} {σ:St} {H:Hp} {s:Shared} {a:Addr} {y d:V} {u r:Value} {o:Option V} {A:Around} {E:Value→Shared→Prop}
theorem Zrn{Q:Value→Shared→Prop}(hu:A.units+1<cLine)(I:Inv X aa σ H s)(g:ZP H a y o)(m:ZM y u)(h:∀n s',Inv X aa σ H s'→ZM (o.getD .non) n→Q n s') :
  wpAny (model X.prog X.w) A (call (.builtin "dict.get") [.ref a,u]) Q E s:=by
 rcases g with⟨f,k,e,i,l⟩|⟨f,k,b,e,i,p,l⟩
 ·subst i;obtain⟨z,j,vs,c,d⟩:=VM I.hok e;refine call_meetsIn PySem.F.slot_dict_get d.typeIs PySem.F.entry_dict_get (PySem.F.args_dict_get_2 _ _) (meets_dict_get (ZF X.prog X.w) a (Wz m) j) ⟨_,d.mapOf,h _ _ (I.tok _) ?_⟩;rw[l];exact(c.val k).getD rfl
 ·subst i;cases (show u=Value.ref b from m);obtain⟨z,j,q,c,d⟩:=Vb I.hok e;refine call_meetsIn PySem.F.slot_dict_get d.typeIs PySem.F.entry_dict_get (PySem.F.args_dict_get_2 _ _) (meetsH_dict_get (tupleKind (ZF X.prog X.w)) a b j) ⟨tupleKind_room_in1 hu,k,q,Ux I.hok p,d,h _ _ (I.tok _) ?_⟩;rw[l];exact(c.val k).getD rfl
end
def MH(e ty:TE):TE:=fun b H Q=>e b H fun x c=>∃a,x=.ref a∧IsD c a∧ty b c fun y d=>∃o,ZP d a y o∧Q (o.getD .non) d
section
variable {X:Cx} {o e f:Expr} {av ax:Pos} {td ty tx:TE}
theorem Zof(hu:X.A.units+1<cLine)(i:PE X o td)(he:PE X e ty)(m:M1 X o "get" av e ax):PE X (.Call (.Attribute o "get" av) [e] [] ax) (MH td ty):=by intro b s c H Q I h;refine wpAny_Call_method m.base m.few m.line QZ PySem.F.slot_dict_get PySem.F.type_dict_get (thn (i b s c H _ I h) ?_);rintro u j ⟨x,k,f,l,a,ex,d,n⟩;subst ex;obtain rfl:u=Value.ref a:=l;obtain⟨p,q,_⟩:=ZqB f d;refine⟨p,q,?_⟩;rw[m.trees];refine Calls.callWith_builtin rfl (Calls.evalArgs_plain (Calls.spliced_cons (thn (he b j c k _ f n) fun iv s2 ⟨y,r,t,v,ov,g,w⟩=>Calls.spliced_nil ?_)));exact Zrn hu t g v fun w' s3 z A=>⟨_,r,z,A,w⟩
end
section
variable {X:Cx}
theorem Zl5:Y1 X (.builtin "len") (fun xs H Q=>∃a kvs,xs=[V.ref a]∧H a=some (.dK kvs)∧Q (.int kvs.length) H):=by intro aa s σ H xs us Q I r h;obtain⟨a,kvs,rfl,b,q⟩:=h;obtain⟨u,rfl,c⟩:=Yb r;cases c;exact Zsi I (.inl b) fun t s' d=>⟨.int kvs.length,H,d,⟨t,rfl⟩,q⟩
end
section
variable {κ:Type} [DecidableEq κ]
theorem ZoT{kvs:List (κ×V)}{k:κ}{v:V}(h:Z8 kvs k=some v):k∈kvs.map (·.1):=by
 have q:(kvs.any fun a=>decide (a.1=k))=true:=by rw[Th,h];all_goals rfl
 obtain⟨p,b,e⟩:=List.any_eq_true.mp q;exact List.mem_map.mpr ⟨p,b,of_decide_eq_true e⟩
end
structure Mf (P:Program) (w:World) (K:#[7]) (mg:Str→Option Value) (base:Heap) (k:Nat) (C:Addr) (m:Str) (ps:List Str) (sp:Sp):Prop where
 ex:∃f fd,X2 P w K mg base CX0 k f fd ps sp∧UC K C m f∧XQ K fd ps []
structure Cf (P:Program) (w:World) (K:#[7]) (mg:Str→Option Value) (base:Heap) (k:Nat) (C:Addr) (x:Str) (ps:List Str) (sp:Sp):Prop where
 ex:∃f fd,X2 P w K mg base CX0 k f fd ps sp∧Mk K C f∧XQ K fd ps []∧mg x=some (.ref C)
structure Yz (K:#[7]) (C:Addr) (m aq:Str) (st:Stmt) (ps:List Str):Prop where
 ex:∃f fd,Fun K m aq st f fd∧UC K C m f∧XQ K fd ps []
structure Tf (K:#[7]) (mg:Str→Option Value) (C:Addr) (x aq:Str) (st:Stmt) (ps:List Str):Prop where
 ex:∃f fd,Fun K "__init__" aq st f fd∧Mk K C f∧XQ K fd ps []∧mg x=some (.ref C)
section
variable {P:Program} {w:World} {K:#[7]} {mg:Str→Option Value} {base:Heap}
theorem Yz.mf{C:Addr}{m c:Str}{st:Stmt}{N ps:List Str}{k:Nat}{sp:Sp}(T:Yz K C m c st ps)(S:Zr N ps (Zg st))(len:∀vs H Q E,sp vs H Q E→vs.length=ps.length)
  (d:∀ (a:Value) (f:Addr) (A:Around) (outer:List Env) (s:Shared) (H:Hp) (vs:List V) (Q:VK) (E:XK),Y5 k (A.deeper (envOfC c (Zg st) s.heap.objs.size f a))→sp vs H Q E →
   ∃t,PSs (WI CX0 P w K mg base N c (Zg st) f a A outer s H E).nox (Zm st) t∧t { nx:=fun _ H'=>Q .non H',rt:=Q } (Xd N vs) H):Mf P w K mg base (k+1) C m ps sp:=by
 obtain⟨f,e,F,m,b⟩:=T.ex;exact⟨f,e,F.ok S len (fun a A outer s H vs Q E g h=>d a f A outer s H vs Q E g h),m,b⟩
theorem Tf.cf{C:Addr}{x c:Str}{st:Stmt}{N ps:List Str}{k:Nat}{sp:Sp}(T:Tf K mg C x c st ps)(S:Zr N ps (Zg st))(len:∀vs H Q E,sp vs H Q E→vs.length=ps.length)
  (d:∀ (a:Value) (f:Addr) (A:Around) (outer:List Env) (s:Shared) (H:Hp) (vs:List V) (Q:VK) (E:XK),Y5 k (A.deeper (envOfC c (Zg st) s.heap.objs.size f a))→sp vs H Q E →
   ∃t,PSs (WI CX0 P w K mg base N c (Zg st) f a A outer s H E).nox (Zm st) t∧t { nx:=fun _ H'=>Q .non H',rt:=Q } (Xd N vs) H):Cf P w K mg base (k+1) C x ps sp:=by
 obtain⟨f,e,F,m,b,g⟩:=T.ex;exact⟨f,e,F.ok S len (fun a A outer s H vs Q E i h=>d a f A outer s H vs Q E i h),m,b,g⟩
end
section
variable {X:Cx} {k j:Nat} {C:Addr} {m x:Str} {ps:List Str} {sp:Sp} {o e:Expr} {es:List Expr} {ta:TE} {t:TA} {p av pos:Pos} {pl:Sem Bool}
theorem X1(F:Mf X.prog X.w X.K X.mg X.base k C m ps sp)(c:Cls X.K C)(d:Y5 j X.A)(he:PE X o ta)(ha:PA X (e::es) t)(h:k≤j:=by decide)
  (i:starEach (e::es) X.env=(false,eval e X.env)::starEach es X.env:=by rfl) (l:(backTo pos (starEach es X.env)).any (·.1)=false:=by rfl)
  (n:eval (.Call (.Attribute o m av) (e::es) [] pos) X.env=(do
   let a ← eval o X.env
   standAt av.atName
   let (f,first) ← holding [a] (getMethod a m pl)
   callWith pos f first (backTo pos (starEach (e::es) X.env)) (backToKw pos (keywordEach [] X.env))):=by rfl) :
  PE X (.Call (.Attribute o m av) (e::es) [] pos) (Tr C m sp [] E0 ta t):=by
 obtain⟨f,fd,F,g,b⟩:=F.ex;exact ZoR he c g F (d.mono h) b .nil Tq ha i l n
theorem YT(F:Mf X.prog X.w X.K X.mg X.base k C m ps sp)(c:Cls X.K C)(d:Y5 j X.A)(he:PE X o ta)(e:k≤j:=by decide)
  (h:eval (.Call (.Attribute o m av) [] [] pos) X.env=(do
   let a ← eval o X.env
   standAt av.atName
   let (f,first) ← holding [a] (getMethod a m pl)
   callWith pos f first (backTo pos (starEach [] X.env)) (backToKw pos (keywordEach [] X.env))):=by rfl) :
  PE X (.Call (.Attribute o m av) [] [] pos) (Tr C m sp [] E0 ta RL):=by
 obtain⟨f,fd,F,g,b⟩:=F.ex;exact Zn0 he c g F (d.mono e) b .nil Tq h
theorem VI(F:Cf X.prog X.w X.K X.mg X.base k C x ps sp)(a:Y5 j X.A)(ha:PA X (e::es) t)(c:k+1≤j:=by decide)(d:Gl X x:=by rfl)(h:(x == ("__debug__" : Str))=false:=by decide)
  (i:starEach (e::es) X.env=(false,eval e X.env)::starEach es X.env:=by rfl) (l:(backTo pos (starEach es X.env)).any (·.1)=false:=by rfl) :
  PE X (.Call (.Name x p) (e::es) [] pos) (NA C sp [] E0 t):=by
 obtain⟨f,fd,F,g,b,m⟩:=F.ex;exact Zpk g F (a.mono c) d m b .nil Tq ha h i l
end
section
variable {X:Cx} {aa:List (Addr×Obj)} {σ:St} {H:Hp} {s:Shared} {d:Addr} {o:Obj} {u:HO}
theorem Inv.freeze(I:Inv X aa σ H s)(e:H d=some u)(a:Mut (some u))(c:s.heap.get? d=some o):Inv X aa σ (upd H d (.frz o u)) s:=by
 have h:=I.write (x:=d) (e:=d) (o:=.frz o u) (t':=s.toks) (h':=s.heap) (by rw[e];exact a) #[8] (fun b v _ q=>q) ⟨o,c⟩ ?_
 ·exact h
 ·refine⟨c,(I.hok d u e).stay (fun b v _ q=>q) (fun b q=>?_) (fun b xs q=>?_)⟩
  ·rw[Zc (fun z=>by rw[z,e]at q;cases q;exact a)];exact q
  ·rw[Zc (fun z=>by rw[z,e]at q;cases q;exact a)];exact q
theorem Inv.nofrz(I:Inv X aa σ H s)(e:H d=some u)(b:Mut (some u)):∀a u',X.H₀ d≠some (.frz a u'):=fun a u' z=>by have:=I.base.frzs d a u' z;rw[e]at this;cases this;exact b
theorem Inv.thaw(I:Inv X aa σ H s)(e:H d=some (.frz o u))(mu:Mut (some u))(n:∀g u',X.H₀ d≠some (.frz g u')):Inv X aa σ (upd H d u) s:=by
 have h:∀b,H b=none→b≠d:=fun b z=>Zb (H:=H) e z |>.symm;refine⟨I.ok,I.os,I.bare,⟨I.base.keep,I.base.slot,fun b v a1 a2 a3=>?_,I.base.there,fun b f q=>?_,fun b g u' q=>?_,fun b j q=>?_⟩,I.loc,I.cell,?_,fun x c q=>?_,fun p k=>?_,?_,I.len⟩
 ·have:=I.base.free b v a1 a2 a3;rw[Zc (h b this)];exact this
 ·have:=I.base.tups b f q;rw[Zc (fun z=>by rw[z,e]at this;cases this)];exact this
 ·have:=I.base.frzs b g u' q;rw[Zc (fun z=>by rw[z]at q;exact n g u' q)];exact this
 ·obtain⟨more,this⟩:=I.base.tbls b j q;refine⟨more,?_⟩;rw[Zc (fun z=>by rw[z,e]at this;cases this)];exact this
 ·rw[Zc (h _ I.free)];exact I.free
 ·rw[Zc (h _ (I.freeC x c q))];exact I.freeC x c q
 ·obtain⟨a1,a2,a3⟩:=I.pin p k;exact⟨a1,by rw[Zc (h _ a2)];exact a2,a3⟩
 ·intro b v q;have own:∀c a,H c=some (.own a)→(upd H d u) c=some (.own a):=fun c a q=>by rw[Zc (fun z=>by rw[z,e]at q;cases q)];exact q
  have tup:∀c f,H c=some (.tup f)→(upd H d u) c=some (.tup f):=fun c f q=>by rw[Zc (fun z=>by rw[z,e]at q;cases q)];exact q
  by_cases i:b=d
  ·subst i;rw[Zd]at q;cases q;obtain⟨_,l⟩:=(show Z7 X.prog X.w H s.heap b (.frz o u) from I.hok b _ e);exact l.stay (fun c v _ q=>q) (fun c q=>own c b q) tup
  ·rw[Zc i]at q;exact(I.hok b v q).stay (fun c v _ q=>q) (fun c q=>own c b q) tup
end
def Zse(t:TE):TE:=fun a H Q=>∃d u,H d=some u∧Mut (some u)∧t a H fun v H'=>∃o,H' d=some (.frz o u)∧Q v (upd H' d u)
theorem Uu{X:Cx}{e:Expr}{t:TE}(h:PE X e t):PE X e (Zse t):=by intro b s c H Q I q;obtain⟨d,u,f,a,q⟩:=q;have n:=I.nofrz f a;refine thn (h b s c H _ I q) ?_;rintro v s1 ⟨x,H1,g,i,o,j,k⟩;exact⟨x,_,g.thaw j a n,i,k⟩
theorem Te{P:Program}{w:World}{k:Key}{v:Value}(h:(ZF P w).is k v=true):ZM (kV k) v:=by
 rw[ZkA]at h;rcases Xh h with⟨i,t,rfl,rfl⟩|⟨x,t,rfl,rfl⟩
 ·exact⟨t,rfl⟩
 ·exact⟨t,rfl⟩
def MG:List V→Hp→VK→Prop:=fun xs H Q=>∃d kvs,xs=[.ref d]∧H d=some (.dK kvs)∧∀l,H l=none→Q (.ref l) (upd H l (.lst (kvs.map fun a=>kV a.1)))
theorem MF{P:Program}{w:World}:∀ (kvs:List (Key×V)) (vs:List (Key×Value)) (us:List Value),KV kvs vs→us.length=vs.length→(∀ (j:Nat) (v:Value),us[j]? = some v→∃k x,vs[j]? = some (k,x)∧(ZF P w).is k v=true)→ZL (kvs.map fun f=>kV f.1) us:=by
 intro kvs vs us r;unfold KV at r;induction r generalizing us with
 | nil =>
  intro c _;cases us with
  | nil=>exact .nil
  | cons a b=>simp at c
 | @cons p q ps qs h t g =>
  intro c d;cases us with
  | nil=>simp at c
  | cons a b =>
   obtain⟨k,x,e,i⟩:=d 0 a rfl;have l:q=(k,x):=by simpa using e
   rw[Qj];refine .cons ?_ (g b (by simpa using c) fun j v m=>?_)
   ·rw[h.1,l];exact Te i
   ·simpa using d (j+1) v (by simpa using m)
theorem Zku{X:Cx}(hc:X.calm=true):Y1 X (.type "list") MG:=by intro aa s σ H xs us Q I r h;obtain⟨d,b,rfl,m,q⟩:=h;obtain⟨u,rfl,n⟩:=Yb r;cases n;obtain⟨z,lo,k,f,p⟩:=(show Z7 X.prog X.w H s.heap d (.dK b) from I.hok d _ m);obtain⟨ep,t⟩:=p.dictAt;have hl:b.length=k.length:=f.length;refine PySem.W.kdl_call (PySem.W.kdl_dict lo) (I.ok.hd hc) t #[2] fun h' x g c y A l=>?_;have B:ZL (b.map fun i=>kV i.1) g.toList:=MF (P:=X.prog) (w:=X.w) b k g.toList f (by rw[Qad];exact l.1) fun j v e=>l.2 j v (by rw[← Array.getElem?_toList];exact e);refine⟨.ref s.heap.objs.size,_,I.laid (a:=s.heap.objs.size) (o:=.lst (b.map fun i=>kV i.1)) (t':=x) y (Qh _) ?_,rfl,q _ (I.hok.fresh (Qh _))⟩;exact⟨by rw[Qa];exact z,g.toList,c,B,by simpa using A⟩
theorem Inv.dictF{X:Cx}{h:List (Addr×Obj)}{i:St}{H:Hp}{s:Shared}{d:Addr}{o:Obj}{kvs:List (Key×V)}{b:Array DictEntry}{ep:Nat}(I:Inv X h i H s)(e:H d=some (.frz o (.dK kvs)))(hd:o.data=.dict b ep) :
  ∃vs,KV kvs vs∧s.heap.DictAt (ZF X.prog X.w) d vs ep:=by
 obtain⟨c,_,_,vs,a,o',pA,pB,f,j,g,k⟩:=(show Z7 X.prog X.w H s.heap d (.frz o (.dK kvs)) from I.hok d _ e);rw[c]at f;cases f;rw[hd]at g;cases g;exact⟨vs,a,o,b,c,j,hd,k⟩
theorem Td{kvs:List (Key×V)}{vs:List (Key×Value)}(r:KV kvs vs):∀ (i:Nat) (k:Key) (x:V),kvs[i]? = some (k,x)→∃u,vs[i]? = some (k,u)∧ZM x u:=by
 unfold KV at r;induction r with
 | nil=>intro i k x h;simp at h
 | @cons p q ps qs h t b =>
  intro i k x a;cases i with
  | zero =>
   have e:p=(k,x):=by simpa using a
   refine⟨q.2,?_,?_⟩
   ·have:q=(k,q.2):=by rw[show k=q.1 by rw[← h.1,e]]
    simpa using this
   ·have:=h.2;rw[e]at this;exact this
  | succ i=>simpa using b i k x (by simpa using a)
noncomputable def Itv(d:Addr)(o:Obj)(kvs:List (Key×V)):It :=
 ⟨fun i H=>H d=some (.frz o (.dK kvs))∧i<kvs.length,fun i H v a=>a=H∧∃k,kvs[i]? = some (k,v),fun i H=>H d=some (.frz o (.dK kvs))∧kvs.length≤i⟩
noncomputable def Itk(d:Addr)(o:Obj)(kvs:List (Key×V)):It :=
 ⟨fun i H=>H d=some (.frz o (.dK kvs))∧i<kvs.length,fun i H v a=>a=H∧∃k x,kvs[i]? = some (k,x)∧v=kV k,fun i H=>H d=some (.frz o (.dK kvs))∧kvs.length≤i⟩
theorem ZlW{P:Program}{w:World}{K:#[7]}{N:Expr}{d it:Addr}{o:Obj}{kvs:List (Key×V)}{O:Array DictEntry}{ep:Nat}(hd:o.data=.dict O ep):Wf P w K N (Itv d o kvs) [it] it (fun i h=>h.IsValIter it d i kvs.length ep) where
 mem:=by simp
 obj:=fun i h st b f=>by
  have e:b=it:=by simpa using f
  subst e;obtain⟨o,e,c,d⟩:=st;exact⟨o,e,fun v z=>by rw[d]at z;cases z⟩
 keep:=fun i h g st k=>by obtain⟨o,e,r⟩:=st;exact⟨o,k it #[4] o e,r⟩
 item:=by intro X m hw n J i L s M H E I j st p;subst m hw n;obtain⟨q,t,Q,x,y,A⟩:=j it #[4];obtain⟨B,C⟩:=p;obtain⟨D,a,F⟩:=I.dictF B hd;have l:kvs.length=D.length:=a.length;obtain⟨u,R,S⟩:=Td a i kvs[i].1 kvs[i].2 (Qb C);refine wpAny_pyNext_values_item (by rw[← l];exact st) F R fun g G T=>?_;rw[← l]at G;have U:Inv X L M H { s with heap:=g }:=I.turned (t':=s.toks) (fun b o f e=>(T.2 b f).trans e) q t x y A;obtain⟨o1,W,c1,Y⟩:=id G;exact⟨_,rfl,Tu (s:={ s with heap:=g }) W c1 Y #[6] ⟨kvs[i].2,H,U,S,⟨rfl,kvs[i].1,Qb C⟩,G,fun b f=>(j b f).1⟩⟩
 done:=by intro X m hw n J i L s M H E I j st p;subst m hw n;obtain⟨q,t,Q,x,y,A⟩:=j it #[4];obtain⟨B,C⟩:=p;obtain⟨D,a,F⟩:=I.dictF B hd;have l:kvs.length=D.length:=a.length;exact wpAny_pyNext_values_end (I.ok.hd J) (by rw[← l];exact st) F (QN #[2]) fun g Z=>⟨rfl,I.turned (t':=s.toks) (fun b o f e=>Z b o f e) q t x y A⟩
 self:=fun _ _ _ _ _ st h=>wpAny_pyIter_valiter st h
theorem Zl3{P:Program}{w:World}{K:#[7]}{N:Expr}{d it:Addr}{o:Obj}{kvs:List (Key×V)}{O:Array DictEntry}{ep:Nat}(hd:o.data=.dict O ep):Wf P w K N (Itk d o kvs) [it] it (fun i h=>h.IsKeyIter it d i kvs.length ep) where
 mem:=by simp
 obj:=fun i h st b f=>by
  have e:b=it:=by simpa using f
  subst e;obtain⟨o,e,c,d⟩:=st;exact⟨o,e,fun v z=>by rw[d]at z;cases z⟩
 keep:=fun i h g st k=>by obtain⟨o,e,r⟩:=st;exact⟨o,k it #[4] o e,r⟩
 item:=by intro X m hw n J i L s M H E I j st p;subst m hw n;obtain⟨q,t,Q,x,y,A⟩:=j it #[4];obtain⟨B,C⟩:=p;obtain⟨D,a,F⟩:=I.dictF B hd;have l:kvs.length=D.length:=a.length;obtain⟨u,R,ru⟩:=Td a i kvs[i].1 kvs[i].2 (Qb C);refine wpAny_pyNext_dict_item (by rw[← l];exact st) F R fun key g S G T=>?_;rw[← l]at G;have U:Inv X L M H { s with heap:=g }:=I.turned (t':=s.toks) (fun b o f e=>(T.2 b f).trans e) q t x y A;obtain⟨o1,W,c1,Y⟩:=id G;exact⟨_,rfl,Tu (s:={ s with heap:=g }) W c1 Y #[6] ⟨kV kvs[i].1,H,U,Te S,⟨rfl,kvs[i].1,kvs[i].2,Qb C,rfl⟩,G,fun b f=>(j b f).1⟩⟩
 done:=by intro X m hw n J i L s M H E I j st p;subst m hw n;obtain⟨q,t,Q,x,y,A⟩:=j it #[4];obtain⟨B,C⟩:=p;obtain⟨D,a,F⟩:=I.dictF B hd;have l:kvs.length=D.length:=a.length;exact wpAny_pyNext_dict_end (I.ok.hd J) (by rw[← l];exact st) F (QN #[2]) fun g Z=>⟨rfl,I.turned (t':=s.toks) (fun b o f e=>Z b o f e) q t x y A⟩
 self:=fun _ _ _ _ _ st h=>wpAny_pyIter_keyiter st h
def Zsu(b:TE):TI:=fun c H R=>b c H fun x a=>∃d kvs,x=.ref d∧a d=some (.dK kvs)∧∀o,R (Itk d o kvs) (upd a d (.frz o (.dK kvs)))
theorem Zp2{X:Cx}{r l:Expr}{g:TE}(hl:PE X l g):PI X r l (Zsu g):=by
 intro t s u H R I h;refine thn (hl t s u H _ I h) ?_;rintro v a ⟨x,i,j,w,y⟩;obtain⟨d,kvs,e,k,q⟩:=y;subst e;cases w;obtain⟨z,lo,m,c,o,A,ep,n,B,p,C⟩:=(show Z7 X.prog X.w i a.heap d (.dK kvs) from j.hok d _ k);have D:kvs.length=m.length:=c.length;have f:=j.freeze k True.intro n;refine wpAny_pyIter_dict (knd:=ZF X.prog X.w) (kvs:=m) (ep:=ep) lo ⟨o,A,n,B,p,C⟩ ?_;rw[← D];refine⟨a.heap.objs.size,[a.heap.objs.size],_,Itk d o kvs,upd i d (.frz o (.dK kvs)),rfl,f.kept (t':=a.toks) fun b o e=>Qc _ e,Zl3 p,⟨_,Qs _ rfl,rfl,rfl⟩,fun b E=>?_,q o⟩;have e:b=a.heap.objs.size:=by simpa using E
 subst e;exact f.fpOk (Qh _) (f.hok.fresh (Qh _))
def ME:List V→Hp→VK→Prop:=fun xs H Q=>∃d kvs ns,xs=[.ref d]∧H d=some (.dK kvs)∧kvs.map (·.1)=ns.map Sum.inl∧ns.length<64 ∧
 ∀ (l:Addr) (a:List Int),H l=none→a.Perm ns→a.Pairwise (·≤·)→Q (.ref l) (upd H l (.lst (a.map V.int)))
theorem ZiH{X:Cx}(hc:X.calm=true):Y1 X (.builtin "sorted") ME:=by
 intro G s J H xs us Q I r h;obtain⟨d,c,n,rfl,K,x,y,q⟩:=h;obtain⟨u,rfl,L⟩:=Yb r;cases L;obtain⟨z,lo,A,i,M⟩:=(show Z7 X.prog X.w H s.heap d (.dK c) from I.hok d _ K);obtain⟨ep,N⟩:=M.dictAt;have hl:c.length=A.length:=i.length;have AU:c.length=n.length:=by have:=congrArg List.length x;simpa using this
 refine Calls.call_function_entry kind_sorted plain_sorted entry_sorted (args_sorted1 _) ?_;unfold Builtin.«sorted»;refine wpAny_bind (m:=checkCount "sorted" 1 1 _) (wpAny_pure ?_);refine wpAny_bind (PySem.W.kdu_collect (PySem.W.kdl_dict (knd:=ZF X.prog X.w) lo) (I.ok.hd hc) N #[2] fun f l g O B=>?_);have p:ZL (c.map fun k=>kV k.1) g.toList:=MF (P:=X.prog) (w:=X.w) c A g.toList i (by rw[Qad];exact B.1) fun j v e=>B.2 j v (by rw[← Array.getElem?_toList];exact e);have R:(c.map fun k=>kV k.1)=n.map V.int:=by
  have:(c.map fun k=>kV k.1)=(c.map (·.1)).map kV:=by rw[Qg];rfl
  rw[this,x,Qg];rfl
 rw[R]at p;have S:g.toList.length=n.length:=by rw[← p.length,Qa]
 refine wpAny_bind (wpAny_newList ?_ (by rw[S];exact Qai (QD y (by rw[sizeLine_eq];decide))));have t:(f.push (seqObj "list" g.toList.toArray 0)).get? f.objs.size=some (seqObj "list" g.toList.toArray 0):=Qs _ rfl;show wpAny _ _ _ _ _ { s with heap:=f.push (seqObj "list" g.toList.toArray 0),toks:=l };refine wpAny_bind (wpAny_holding (wpAny_call_entry slot_list_sort ⟨_,t,rfl⟩ entry_list_sort (list_sort_tree t (Nu p) #[2] fun out C a1 a2 a3=>⟨_,rfl,?_⟩) (args_list_sort _)));refine wpAny_pure ⟨_,rfl,?_⟩;obtain⟨e,T⟩:=sortedHeap_at (out:=out) t;have D:Inv X G J H { s with heap:=f,toks:=l }:=I.kept (t':=l) O;have U:∀b o,f.get? b=some o→(sortedHeap (f.push (seqObj "list" g.toList.toArray 0)) f.objs.size g.toList out).get? b=some o:=fun b o E=>by have F:=Qp E;rw[sortedHeap_old (Qu F) (by rw[size_push'];exact Nat.lt_succ_of_lt F)];exact Qc _ E
 refine⟨.ref f.objs.size,_,D.laid (a:=f.objs.size) (o:=.lst (C.map V.int)) (t':=l) U (Qh _) ?_,rfl,q _ C (D.hok.fresh (Qh _)) a2 a3⟩;have W:=a2.length_eq;exact⟨by rw[Qa,W];exact Qai (QD y (by rw[sizeLine_eq];decide)),out.toList,e,RG a1,by simpa using T⟩
def ZrT(b:TE):TI:=fun c H R=>b c H fun x a=>∃d kvs,x=.ref d∧a d=some (.dK kvs)∧∀o,R (Itv d o kvs) (upd a d (.frz o (.dK kvs)))
theorem ZpI{X:Cx}{F o:Expr}{to:TE}{t u:Pos}(G:PE X o to)(J:attributeBase o "values" X.env (eval o X.env)=eval o X.env:=by rfl)(K:(t.endLine == u.line)=true:=by rfl) :
  PI X F (.Call (.Attribute o "values" t) [] [] u) (ZrT to):=by
 intro w s y H R I h;refine wpAny_Call_method0_late J K (thn (G w s y H _ I h) ?_);rintro v c ⟨x,k,A,L,M⟩;obtain⟨d,f,e,B,q⟩:=M;subst e;cases L;obtain⟨z,lo,i,l,g,C,D,j,m,n,E⟩:=(show Z7 X.prog X.w k c.heap d (.dK f) from A.hok d _ B);have N:f.length=i.length:=l.length;have O:=A.freeze B True.intro j;have p:c.heap.DictOf (ZF X.prog X.w) d i:=⟨g,C,D,j,m,n,E⟩;refine⟨"dict", "dict.values",QZ,PySem.F.slot_dict_values,PySem.F.type_dict_values,p.typeIs,fun a e=>?_,?_⟩
 ·cases e;exact⟨g,j,m.2.1⟩
 refine Calls.callWith_builtin rfl (QaO ?_);refine call_meetsIn PySem.F.slot_dict_values p.typeIs PySem.F.entry_dict_values (PySem.F.args_dict_values_1 _) (meets_dict_values (ZF X.prog X.w) d lo) ⟨⟨i,p⟩,?_⟩;have P:(c.heap.push { cls:=.type "dict_values",data:=.fields #[.ref d] }).IsValuesView c.heap.objs.size d:=⟨_,Qs _ rfl,rfl,rfl⟩;have Q:(c.heap.push { cls:=.type "dict_values",data:=.fields #[.ref d] }).DictAt (ZF X.prog X.w) d i D:=⟨g,C,Qc _ j,m,n,E⟩;refine wpAny_pyIter_values (s:={ c with heap:=c.heap.push { cls:=.type "dict_values",data:=.fields #[.ref d] } }) P Q ?_;rw[← N];have r:Inv X w y (upd k d (.frz g (.dK f))) { c with heap:=c.heap.push { cls:=.type "dict_values",data:=.fields #[.ref d] } }:=O.kept (t':=c.toks) fun b o e=>Qc _ e;refine⟨_,[_],_,Itv d g f,upd k d (.frz g (.dK f)),rfl,r.kept (t':=c.toks) fun b o e=>Qc _ e,ZlW n,⟨_,Qs _ rfl,rfl,rfl⟩,fun b S=>?_,q g⟩;have e:=Qk.mp S;rw[e];exact r.fpOk (Qh _) (r.hok.fresh (Qh _))
noncomputable def Iti(d:Addr)(o:Obj)(kvs:List (Key×V)):It :=
 ⟨fun i H=>H d=some (.frz o (.dK kvs))∧i<kvs.length,
  fun i H v a=>∃p k x,H p=none∧v=.ref p∧kvs[i]? = some (k,x)∧a=upd H p (.tup [kV k,x]),
  fun i H=>H d=some (.frz o (.dK kvs))∧kvs.length≤i⟩
theorem Zld{P:Program}{w:World}{K:#[7]}{O:List Expr}{Q:Nat}{R:Pos}{d it:Addr}{o:Obj}{kvs:List (Key×V)}{S:Array DictEntry}{ep:Nat}(hd:o.data=.dict S ep) :
  Wf P w K (.Tuple O Q R) (Iti d o kvs) [it] it (fun i h=>∃ok j,IsItemIter h it d i kvs.length ep ok j) where
 mem:=by simp
 obj:=fun i h st b g=>by
  have e:b=it:=by simpa using g
  subst e;obtain⟨ok,j,a⟩:=st;exact⟨_,a,fun v z=>by cases z⟩
 keep:=fun i h p st k=>by obtain⟨ok,j,a⟩:=st;exact⟨ok,j,k it #[4] _ a⟩
 item:=by
  intro X r hw t l i D s F H E I m st x;subst r hw t;obtain⟨ok,j,a⟩:=st;obtain⟨y,A⟩:=x;obtain⟨B,f,C⟩:=I.dictF y hd;have n:kvs.length=B.length:=f.length;obtain⟨u,T,U⟩:=Td f i kvs[i].1 kvs[i].2 (Qb A);refine wpAny_pyNext_items_item (by rw[← n];exact a) C T fun key p W a1 a2 a3 a4=>?_;rw[← n]at a1;have lt:∀ {b:Addr} {o:Obj},s.heap.get? b=some o→s.heap.objs.size≠b:=fun q=>QV (Qp q);have G:s.heap.objs.size≠it:=lt a;refine⟨_,rfl,wpAny_letOwnedTupleGo_items a1 fun J L Y=>?_⟩;have M:Heap.SameBut it p J:=Y;have Z:Inv X D F (upd H s.heap.objs.size (.tup [kV kvs[i].1,kvs[i].2])) { s with heap:=J,toks:=s.toks }:=by
   refine I.zipped (fp:=[it]) (u:=key) (v:=u) m (Te W) U (M.extBut _ _ G a2) (fun b g=>?_) fun c o l q=>?_
   ·have e:=Qk.mp g;subst e;exact⟨_,L⟩
   ·have N:c≠it:=fun z=>l (by rw[z];simp);exact M.extBut _ _ N (a4 c o N q)
  refine⟨.ref s.heap.objs.size,_,Z,rfl,⟨s.heap.objs.size,kvs[i].1,kvs[i].2,I.fresh,rfl,Qb A,rfl⟩,⟨_,_,L⟩,fun b g=>?_⟩;have e:=Qk.mp g;subst e;rw[Zc G.symm];exact(m _ g).1
 done:=by intro X r hw t l i D s F H E I m st x;subst r hw t;obtain⟨ok,j,a⟩:=st;obtain⟨f0,f1,f2,f3,f4,f5⟩:=m it #[4];obtain⟨y,A⟩:=x;obtain⟨B,f,C⟩:=I.dictF y hd;have n:kvs.length=B.length:=f.length;exact wpAny_pyNext_items_end (I.ok.hd l) (by rw[← n];exact a) C (QN #[2]) fun p eb=>⟨rfl,I.turned (t':=s.toks) (fun b o g e=>eb b o g e) f0 f1 f3 f4 f5⟩
 self:=fun _ _ _ _ _ st h=>by obtain⟨ok,j,a⟩:=st;exact PySem.W.kcp_self a h
def ZqX(b:TE):TI:=fun c H R=>b c H fun x a=>∃d kvs,x=.ref d∧a d=some (.dK kvs)∧∀o,R (Iti d o kvs) (upd a d (.frz o (.dK kvs)))
theorem Ut{X:Cx}{F:List Expr}{G:Nat}{J:Pos}{o:Expr}{to:TE}{t u:Pos}(K:PE X o to)(L:attributeBase o "items" X.env (eval o X.env)=eval o X.env:=by rfl)(M:(t.endLine == u.line)=true:=by rfl) :
  PI X (.Tuple F G J) (.Call (.Attribute o "items" t) [] [] u) (ZqX to):=by
 intro w s y H R I h;refine wpAny_Call_method0_late L M (thn (K w s y H _ I h) ?_);rintro v c ⟨x,k,A,N,O⟩;obtain⟨d,f,e,B,q⟩:=O;subst e;cases N;obtain⟨z,lo,i,l,g,C,D,j,m,n,E⟩:=(show Z7 X.prog X.w k c.heap d (.dK f) from A.hok d _ B);have P:f.length=i.length:=l.length;have Q:=A.freeze B True.intro j;have p:c.heap.DictOf (ZF X.prog X.w) d i:=⟨g,C,D,j,m,n,E⟩;refine⟨"dict", "dict.items",QZ,Qaw,PySem.F.type_dict_items,p.typeIs,fun a e=>?_,?_⟩
 ·cases e;exact⟨g,j,m.2.1⟩
 refine Calls.callWith_builtin rfl (QaO ?_);refine call_meetsIn Qaw p.typeIs PySem.F.entry_dict_items (PySem.F.args_dict_items_1 _) (meets_dict_items (ZF X.prog X.w) d lo) ⟨⟨i,p⟩,?_⟩;have S:(c.heap.push { cls:=.type "dict_items",data:=.fields #[.ref d] }).IsItemsView c.heap.objs.size d:=⟨_,Qs _ rfl,rfl,rfl⟩;have T:(c.heap.push { cls:=.type "dict_items",data:=.fields #[.ref d] }).DictAt (ZF X.prog X.w) d i D:=⟨g,C,Qc _ j,m,n,E⟩;refine wpAny_pyIter_items (s:={ c with heap:=c.heap.push { cls:=.type "dict_items",data:=.fields #[.ref d] } }) S T ?_;rw[← P];have r:Inv X w y (upd k d (.frz g (.dK f))) { c with heap:=c.heap.push { cls:=.type "dict_items",data:=.fields #[.ref d] } }:=Q.kept (t':=c.toks) fun b o e=>Qc _ e;refine⟨_,[_],_,Iti d g f,upd k d (.frz g (.dK f)),rfl,r.kept (t':=c.toks) fun b o e=>Qc _ e,Zld n,⟨_,_,Qs _ rfl⟩,fun b U=>?_,q g⟩;have e:=Qk.mp U;rw[e];exact r.fpOk (Qh _) (r.hok.fresh (Qh _))
theorem ZpA{X:Cx}{b:List (Addr×Obj)}{s:Shared}{c:St}{H:Hp}{d:Addr}{kvs:List (Key×V)}{k:Key}{v:V}{e u:Value}{Q:Hp→Prop}(I:Inv X b c H s)(f:H d=some (.dK kvs))(hz:kvs.length<sizeLine)(h:ZM (kV k) e)(i:ZM v u)
  (q:Q (upd H d (.dK (Y6 kvs k v)))):#[9,X] (dictSet d e u) (fun _ s'=>∃H',Inv X b c H' s'∧Q H') X.xe s:=by
 obtain⟨_,j,vs,a,l⟩:=VL I.hok f;refine wpAny_dictSet_pairs (knd:=ZF X.prog X.w) (k:=k) (Wz h) l (fun h' g m=>?_) (by rw[← a.length];lia);refine⟨_,?_,q⟩;obtain⟨o,n,_⟩:=Heap.dictOf_iff.mp g;exact Uw I (by rw[f];exact True.intro) m ⟨o,n⟩ (Va (QB (Tg kvs k v) #[2]) j (a.put k i) g)
def MD(J:It)(D:Addr)(k:Nat)(q:St)(r:Hp)(g:TG)(s:TT)(tk t:TE)(Q:VK):Prop :=
 ∃W:Nat→Nat→List (Key×V)→St→Hp→Prop,(∃m,W 0 m [] (q++List.replicate k none) (upd r D (.dK []))) ∧
  ∀i m a e c,W i m a e c→(J.stop i c∧Q (.ref D) c) ∨
   (J.go i c∧∃N:List (Key×V)→St→Hp→Prop,(∀f h j,N f h j→∃l,l<m∧W (i+1) l f h j)∧∀x n,J.yld i c x n→g x e n fun d u=>s d u fun b o =>
    if b=true then tk d o fun v w=>t d w fun y p=>∃k:Key,v=kV k∧p D=some (.dK a)∧a.length<sizeLine∧N (Y6 a k y) d (upd p D (.dK (Y6 a k y))) else N a d o)
def MC(n:Nat)(c:TI)(g:TG)(d:TT)(tk e:TE):TE:=fun a H Q=>c a H fun J b=>∀D,b D=none→MD J D n a b g d tk e Q
section
variable {X:Cx} {N N':List Str} {o c:Scope}
theorem Zmu{kx vx tg iter:Expr}{bn:List Expr}{pos bP:Pos}{wi:TI}{g:TG}{tc:TT}{tk te:TE}{use:Option (Value→Sem Unit)}{QQ:Value→Shared→Prop}(S:Z5 N N' o c)(hN:X.N=N)(ho:X.env.scope=o)(hc:X.calm=true)
  (hi:PI X tg iter wi) (hg:∀C s H fp,PG (YR X c N' C s H fp) tg g) (ht:∀C s H fp,PTs (YR X c N' C s H fp) bn tc) (hk:∀C s H fp,PE (YR X c N' C s H fp) kx tk) (he:∀C s H fp,PE (YR X c N' C s H fp) vx te)
  (hs:∀x,foldedSetIterable iter X.env x=pure x) {V:List (Addr×Obj)} {s:Shared} {σ:St} {H:Hp} {Q:VK} (I:Inv X V σ H s) (h:MC (N'.length-N.length) wi g tc tk te σ H Q)
  (post:∀ (D C:Addr) (t:Shared) (l:Hp) (m:Str→Option Value),Inv X V σ l t→l C=none→t.heap.Ns C m→C≠X.env.locals→X.s₀.heap.objs.size≤C→(∀x a,X.env.cells.lookup x=some a→a≠C)→(∀p∈X.pn++V,p.1≠C) →
   Q (.ref D) l→compPost (model X.prog X.w) X.A X.xe use QQ (.ref D) C (.ok .next) t) :
  #[9,X] (comprehension (.DictComp kx vx [⟨tg,iter,bn,0⟩] c pos) c X.env bP newDict false (eval iter X.env) use) QQ X.xe s:=by
 have j8:closureFor c X.env=pure (Y7 X.env.cells c.names []):=Nk fun y hy hf=>by refine I.ok.has y.1 ?_;show X.env.scope.names.lookup y.1=_∨X.env.scope.names.lookup y.1=_;rw[ho];exact(S.free y hy hf).2
 refine wpAny_comprehension_free (use:=use) rfl hs j8 S.kind S.loc (thn (hi V s σ H _ I h) fun v s1 h1=>thn h1 fun pD f h2=>?_);obtain⟨it,fp,tn,J,B,e,I2,T,j4,f2,hR⟩:=h2;subst e;have hD:B f.heap.objs.size=none:=I2.fresh;have O:Inv X V σ (upd B f.heap.objs.size (.dK [])) { f with heap:=f.heap.push { cls:=.type "dict",data:=.dict #[] } } :=
  I2.laid (t':=f.toks) (fun _ _ q=>Qc _ q) (Qh _) (Rq _ (Qa2 #[6] (show mainGlobals<f.heap.objs.size from(I2.mod.glob.keeps I2.bk).lt)))
 have mQ:∀b∈fp,b<f.heap.objs.size:=fun b k=>by obtain⟨A,e,_⟩:=T.obj 0 _ j4 b k;exact Qp e
 refine wpAny_newObj_type (wpAny_newFunctionEnv S.nocell (by intro y hy;simp at hy) (fun G iK iM=>?_) S.kind);have P:∃j:Shared,j={ f with heap:=f.heap.push { cls:=.type "dict",data:=.dict #[] } }:=⟨_,rfl⟩;obtain⟨j,j9⟩:=P;have P:j.heap=f.heap.push { cls:=.type "dict",data:=.dict #[] }:=by rw[j9]
 have jt:j.heap.objs.size=f.heap.objs.size+1:=by rw[P,Q1]
 have mR:∀b∈fp,b<j.heap.objs.size:=fun b k=>QD (mQ b k) (by rw[jt];exact Qas _);have f3:∀b∈fp,XD X V (upd B f.heap.objs.size (.dK [])) b:=fun b k=>⟨by rw[Zc (Qu (mQ b k))];exact(f2 b k).1,(f2 b k).2⟩;have lO:tn 0 j.heap:=T.keep 0 _ _ j4 fun b _ A e=>by rw[P];exact Qc _ e
 rw[← j9]at O;show codeAny (model X.prog X.w) X.A (.compStart _ 0 (.ref it) (.ref f.heap.objs.size) (compEnvC c (Y7 X.env.cells c.names []) (f.heap.push { cls:=.type "dict",data:=.dict #[] }).objs.size X.env))
  (compPost (model X.prog X.w) X.A X.xe use QQ (.ref f.heap.objs.size) (f.heap.push { cls:=.type "dict",data:=.dict #[] }).objs.size)
  { f with heap:=G,toks:=f.toks+([]:List (Str×Value)).length }
 have dN:G.Ns j.heap.objs.size (fun x=>([]:List (Str×Value)).reverse.lookup x):=by rw[P];exact iK
 have mS:∀b A,j.heap.get? b=some A→G.get? b=some A:=fun b A e=>by rw[P]at e;exact iM.extBut b A (Qu (Qp e)) (Qc _ e)
 rw[← P];have sF:({ f with heap:=G,toks:=f.toks+([]:List (Str×Value)).length }:Shared)={ j with heap:=G,toks:=f.toks }:=by rw[j9];rfl
 rw[sF];obtain⟨W,⟨m0,w0⟩,turn⟩:=hR f.heap.objs.size hD;have I4:=Nh (tk:=f.toks) S hN ho O f3 mR dN mS;have mT:tn 0 G:=T.keep 0 _ _ lO fun b _ A e=>mS b A e;generalize w:YR X c N' j.heap.objs.size j (upd B f.heap.objs.size (.dK [])) fp=Y at I4;have K:Y.prog=X.prog:=by rw[← w];rfl
 have L:Y.w=X.w:=by rw[← w];rfl
 have YK:Y.K=X.K:=by rw[← w];rfl
 have Yc:Y.calm=true:=by rw[← w];exact hc
 have YA:Y.A=X.A:=by rw[← w];rfl
 have ju:Y.env=compEnvC c (Y7 X.env.cells c.names []) j.heap.objs.size X.env:=by rw[← w];rfl
 have Yl:Y.env.locals=j.heap.objs.size:=by rw[ju];rfl
 have ie:Y.xe=fun _ _=>False:=by rw[← w];rfl
 have mU:=hg j.heap.objs.size j (upd B f.heap.objs.size (.dK [])) fp;have aI:=ht j.heap.objs.size j (upd B f.heap.objs.size (.dK [])) fp;have fR:=hk j.heap.objs.size j (upd B f.heap.objs.size (.dK [])) fp;have aE:=he j.heap.objs.size j (upd B f.heap.objs.size (.dK [])) fp;rw[w]at mU aI fR aE;have dW:∀ {R:Hp},(∀b∈fp,R b=none)→∀b∈fp,XD Y [] R b:=fun {R} hn b k=>by
  obtain⟨_,q1,q2,q3,q4,_⟩:=f3 b k;have z1:=I4.ok.exf b (by rw[← w];exact k);refine⟨hn b k,z1.1,I4.ok.exfs b (by rw[← w];exact k),.inl (by rw[← w];exact k),z1.2,fun p hp=>?_⟩;have fi:p∈([]:List (Addr×Obj)):=by
   have:Y.pn=[]:=by rw[← w];rfl
   rw[this]at hp;exact hp
  cases fi
 have fin:∀ (t:Shared) (M:St) (l:Hp),Inv Y [] M l t→Q (.ref f.heap.objs.size) l→compPost (model X.prog X.w) X.A X.xe use QQ (.ref f.heap.objs.size) j.heap.objs.size (.ok .next) t:=fun t M l F q=>by
  obtain⟨m,hn,_⟩:=id F.loc;rw[Yl]at hn;have iN:l j.heap.objs.size=none:=by have:=F.free;rw[Yl]at this;exact this
  have un:Un (frs X.stack) fp (upd B f.heap.objs.size (.dK [])) l j.heap t.heap:=by have:=F.base;rw[← w]at this;exact this
  have sG:t.os=j.os:=by have:=F.os;rw[← w]at this;exact this
  have fj:HOk X.prog X.w l t.heap:=by have:=F.hok;rw[K,L]at this;exact this
  refine post _ _ t l m (O.call' (s':=t) (ch:=fp) sG un fj F.bare fun b k=>?_) iN hn (QV O.lt) O.sz (fun x a e=>?_) (fun p hp=>?_) q
  ·obtain⟨_,q1,_,q3,q4,q5⟩:=f3 b k;exact⟨q3,q1,q4,q5⟩
  ·obtain⟨v,A,e',_⟩:=O.cell x a e;exact Qu (Qp e')
  ·exact Qu (Qp (O.pin p hp).1)
 have jv:codeAny (model X.prog X.w) X.A (.compLoop (.DictComp kx vx [⟨tg,iter,bn,0⟩] c pos) 0 (.ref it) (.ref f.heap.objs.size) (compEnvC c (Y7 X.env.cells c.names []) j.heap.objs.size X.env))
   (compPost (model X.prog X.w) X.A X.xe use QQ (.ref f.heap.objs.size) j.heap.objs.size) { j with heap:=G,toks:=f.toks }:=by
  rw[← ju,← YA];refine ZhH (E:=fun _ _=>False) (fun n s'=>∃i ys ak R,Inv Y [] ak R s'∧tn i s'.heap∧(∀b∈fp,R b=none)∧W i n ys ak R) (fun _ _ z=>z) ?_ m0
   ⟨0,[],_,_,I4,mT,fun b k=>(f3 b k).1,?_⟩
  ·rintro n t ⟨i,ys,M,l,F,iH,j5,w5⟩;rcases turn i n ys M l w5 with⟨stop,qn⟩|⟨go,Nn,mV,step⟩
   ·refine thn (T.done Y K L YK Yc i [] t M l _ F (dW j5) iH stop) ?_;rintro r s6 ⟨hr,I6⟩;subst hr;have fq:=fin s6 M l I6 qn;rw[← YA]at fq;exact fq
   ·refine thn (T.item Y K L YK Yc i [] t M l _ F (dW j5) iH go) ?_;rintro r s6 ⟨u,hr,h6⟩;subst hr;refine thn h6 ?_;rintro _ s7 ⟨x,H7,I7,r7,y7,j',sH⟩;have sI:=I7.pinned (dW sH) (T.obj _ _ j');have gH:∀ {ka:St} {U:Hp} {Z:Shared},Inv Y ([]++Vl fp s7.heap) ka U Z→Inv Y [] ka U Z∧tn (i+1) Z.heap∧∀b∈fp,U b=none:=fun {ka U Z} I9=>by refine⟨I9.unpinned,T.keep _ _ _ j' fun b k A e=>(I9.pin (b,A) (Qx _ (Qx _ (Vk k e)))).1,fun b k=>?_⟩;obtain⟨A,e,d⟩:=T.obj _ _ j' b k;exact(I9.pin (b,A) (Qx _ (Qx _ (Vk k e)))).2.1
    have P1:=mU _ s7 M H7 x u _ sI r7 (step x H7 y7);rw[K,L,ie]at P1;refine thn P1 ?_;rintro _ s8 ⟨gw,H8,I8,q8⟩;have P2:=aI _ s8 gw H8 _ I8 q8;rw[K,L,ie]at P2;refine thn P2 ?_;rintro ok Z ⟨U,I9,q9⟩;cases ok with
    | false=>rw[if_neg Qq]at q9;rw[if_neg Qq];obtain⟨b1,b2,b3⟩:=gH I9;obtain⟨m',cq,w9⟩:=mV _ _ _ q9;exact⟨m',cq,i+1,ys,gw,U,b1,b2,b3,w9⟩
    | true=>rw[if_pos rfl]at q9;rw[if_pos rfl];have P3:=fR _ Z gw U _ I9 q9;rw[K,L,ie]at P3;refine thn P3 ?_;rintro kv iO ⟨vk,bg,sJ,sK,sM⟩;have P4:=aE _ iO gw bg _ sJ sM;rw[K,L,ie]at P4;refine thn P4 ?_;rintro y eJ ⟨vy,fk,sN,AV,kk,eb,sL,hsz,sO⟩;subst eb;have P5:=ZpA (X:=Y) sN sL hsz sK AV sO;rw[K,L,ie]at P5;refine thn P5 ?_;rintro _ ik ⟨fE,AW,AX⟩;obtain⟨b1,b2,b3⟩:=gH AW;obtain⟨m',cq,AY⟩:=mV _ _ _ AX;exact⟨m',cq,i+1,Y6 ys kk vy,gw,fE,b1,b2,b3,AY⟩
  ·exact w0
 have lp:=T.self X.A 0 { j with heap:=G,toks:=f.toks } (fun sP s'=>codeAny (model X.prog X.w) X.A (.compLoop (.DictComp kx vx [⟨tg,iter,bn,0⟩] c pos) 0 sP (.ref f.heap.objs.size) (compEnvC c (Y7 X.env.cells c.names []) j.heap.objs.size X.env))
   (compPost (model X.prog X.w) X.A X.xe use QQ (.ref f.heap.objs.size) j.heap.objs.size) s') (fun _ _=>False) mT jv
 exact codeAny_compStart_dict jv (wpAny_mono lp (fun _ _ z=>z) fun _ _ z=>z.elim)
theorem ZoG{b d a iter:Expr}{e:List Expr}{pos:Pos}{f:TI}{g:TG}{i:TT}{tk j:TE}(S:Z5 N N' o c)(k:X.N=N)(l:X.env.scope=o)(hc:X.calm=true)
  (n:PI X a iter f) (p:∀C s H fp,PG (YR X c N' C s H fp) a g) (r:∀C s H fp,PTs (YR X c N' C s H fp) e i) (hk:∀C s H fp,PE (YR X c N' C s H fp) b tk) (he:∀C s H fp,PE (YR X c N' C s H fp) d j)
  (t:∀x,foldedSetIterable iter X.env x=pure x:=by intro _;rfl) :
  PE X (.DictComp b d [⟨a,iter,e,0⟩] c pos) (MC (N'.length-N.length) f g i tk j):=by
 intro aa s σ H Q I h;show wpAny _ _ (comprehension (.DictComp b d [⟨a,iter,e,0⟩] c pos) c X.env _ newDict false (eval iter X.env)) _ _ _;refine Zmu (use:=none) S k l hc n p r hk he t I h fun D C s5 u m v w y z A B E q=>⟨m,y,fun h' F=>?_⟩;exact⟨.ref D,u,v.let w z A B E F,rfl,q⟩
end
theorem Zgc:typeLookup (.type "list") "keys" = pure none:=by rw[typeLookup_type,builtinLookup_eq_fast];kernel_rfl
theorem getAttr?_keys_list{prog:Program}{w:World}{A:Around}{E:Value→Shared→Prop}{s:Shared}{a:Addr}{o:Obj}{xs:Array Value}{k:Nat}{Q:Option Value→Shared→Prop}
  (hx:s.heap.get? a=some o) (hc:o.cls=.type "list") (b:o.data=.seq xs k) (hd:o.dict=none) (l:A.handled=none)
  (h:∀h' tk e,Heap.NewExcOf s.heap h' e "AttributeError"→Q none { s with heap:=h',toks:=tk }) :
  wpAny (model prog w) A (getAttr? (.ref a) "keys") Q E s:=by
 obtain⟨c,dct,dat,m⟩:=o;simp only at hc b hd;subst hc b hd;obtain⟨n,g,d,tk,os⟩:=s;have f:∀i,(⟨n,g,d,i,os⟩:Shared).TypeIs (.ref a) "list":=fun _=>⟨_,hx,rfl⟩;have f1:=sub_AttributeError;have f3:=F.slot_list_getattribute.lookup;have f4:=F.slot_list_getattribute.bind (.ref a);have f5:=am_list_getattr_none;unfold getAttr? getAttrBy? getAttrBy;repeat (any_goals (first|assumption|exact f _|((with_reducible show wpAny _ _ (call (Value.builtin "list.__getattribute__") _ _) _ _ _);refine call_meets F.slot_list_getattribute (f _) am_entry_list_getattribute (F.args_list_getattribute_2 _ _) (meets_getattribute_miss_list a xs k m "keys" _ Zgc #[6] (by size_fits)) ⟨hx,l,fun h' i e j=>?_⟩)|wp_step))
 obtain⟨t',u',he⟩:=j.there;show wpAny _ _ (getattributeRaised _ _ _ _ _ _ _) _ _ _;unfold getattributeRaised;repeat (any_goals (first|assumption|wp_step))
 exact h _ _ _ j.of
theorem MB:entryFor table "dict.update.loop" = some Builtin.«dict.update.loop»:=entryFor_of_tree (by kernel_rfl)
theorem Tc:plainId "dict.update.loop" = true:=by ac_rfl
section
variable {prog:Program} {w:World} {A:Around} {R:Result→Shared→Prop} {I:Addr} {fp wr:List Addr} {G:Array GenState→Array GenState→Prop} {n:Nat} {P:Nat→Value→Prop} {St:Nat→Shared→Prop} {K:Type} [DecidableEq K] {knd:KeyKind prog w K}
theorem Zk7(more:List (K×Value)):∀kvs:List (K×Value),(merged kvs more).length≤kvs.length+more.length:=by
 induction more with
 | nil=>intro kvs;exact Qh _
 | cons x r a =>
  intro kvs;have h:=a (stored kvs x.1 x.2);have h2:(stored kvs x.1 x.2).length≤kvs.length+1:=by
   unfold stored;split
   ·rw[Qa];lia
   ·rw[Qi];exact Qh _
  show (merged (stored kvs x.1 x.2) r).length≤_;rw[QL];lia
theorem Zc8(W:WalksS prog w A.in1 I fp wr G n P St)(D:Addr)(H:D ∉ fp)(ks:List (K×Value))(g:ks.length=n)(As:Nat→Addr)(t:∀j,j<n→As j≠D∧As j ∉ wr)
  (Q:∀i v,P i v→v=.ref (As i)) (hsz:n≤sizeLine) :
  ∀ (k i:Nat) (z:Int) (s:Shared),n-i=k→i≤n→St i s→s.heap.DictOf knd D (merged [] (ks.take i)) →
   (∀j (f:j<n),∃l,IsTup s.heap (As j) #[l,(ks[j]'(g ▸ f)).2]∧knd.is (ks[j]'(g ▸ f)).1 l=true) →
   (∀s',Moved (D::wr) G s s'→s'.heap.DictOf knd D (merged [] ks)→R (.ok (.ret .none)) s') →
   codeAny (model prog w) A (.builtin "dict.update.loop" ⟨[.ref D,.ref I,rawInt z,.none],[]⟩) R s:=by
 have J:D ∉ wr:=fun h=>H (W.sub _ h);have L:∀b∈wr,b∈D::wr:=fun b m=>Qt _ m;intro k;induction k with
 | zero =>
  intro i z s S U u q x y;have V:i=n:=by lia
  subst V;refine codeAny_builtin MB ?_;rw[Around.under_plainId Tc _];show wpAny _ A.in1 (pyNext (.ref I) >>= _) _ _ s;refine wpAny_bind (W.done s _ _ u fun s' a=>?_);show wpAny _ A.in1 (Builtin.Dict.addKeywords D [] >>= fun _=>ret Value.none) _ _ s';refine wpAny_bind (wpAny_pure (wpAny_pure (y s' (a.mono L) ?_)));rw[Qv #[2]]at q;obtain⟨o,B,C,c,rest⟩:=q;exact⟨o,B,C,a.heap D _ J c,rest⟩
 | succ k X =>
  intro i z s S U u q x y;have d:i<n:=by lia
  refine codeAny_builtin MB ?_;rw[Around.under_plainId Tc _];show wpAny _ A.in1 (pyNext (.ref I) >>= _) _ _ s;refine wpAny_bind (W.item i s _ _ d u fun v s' Y Z a=>?_);have ev:=Q i v Y;subst ev;obtain⟨l,ht,A0⟩:=x i d;have aI:IsTup s'.heap (As i) #[l,(ks[i]'(g ▸ d)).2]:=by obtain⟨o,c,r⟩:=ht;exact⟨o,a.heap _ _ (t i d).2 c,r⟩
  have tH:s'.heap.DictOf knd D (merged [] (ks.take i)):=by obtain⟨o,B,C,c,rest⟩:=q;exact⟨o,B,C,a.heap D _ J c,rest⟩
  show wpAny _ A.in1 (holding [Value.ref (As i)] _ >>= _) _ _ s';refine wpAny_bind (wpAny_holding ?_);obtain⟨ot,M,tI,nt,A1⟩:=id aI;refine wpAny_bind ?_;have tJ:wpAny (model prog w) A.in1 (Builtin.Dict.pairItems (Value.ref (As i))) (fun p E=>p=[l,(ks[i]'(g ▸ d)).2]∧E=s') (fun e s'=>False) s':=by unfold Builtin.Dict.pairItems;refine wpAny_bind (wpAny_typeOf (T := "tuple") ⟨ot,M,tI⟩ ?_);rw[if_pos #[6]];exact wpAny_bind (wpAny_seqItems M A1 (wpAny_pure ⟨rfl,rfl⟩))
  refine wpAny_tryCatch (wpAny_mono tJ (fun p E h2=>?_) fun _ _ z=>z.elim);obtain⟨rfl,rfl⟩:=h2;have m9:(merged [] (ks.take i)).length≤sizeLine:=by have N:=Zk7 (ks.take i) [];rw[QA]at N;simp only[List.length_nil]at N;lia
  refine wpAny_holding (wpAny_dictSet_pairs A0 tH (fun O aS F=>?_) m9);have lR:O.DictOf knd D (merged [] (ks.take (i+1))):=by rw[merged_take_succ [] ks i _ (Qb (g ▸ d))];exact aS
  refine wpAny_pure ⟨plainId_quiet Tc _,X (i+1) (z+1) _ #[2] d (W.frame _ E _ _ Z (Qas _) fun b m o e=>?_) lR (fun j f=>?_) fun mK wF wG=>?_⟩
  ·rw[F.2 b (fun h:b=D=>H (by rw[← h];exact m))];exact e
  ·obtain⟨kj,⟨o,c,r⟩,A2⟩:=x j f;refine⟨kj,⟨o,?_,r⟩,A2⟩;have fm:=(t j f).1;show O.get? (As j)=some o;rw[F.2 _ fm];exact a.heap _ _ (t j f).2 c
  ·refine y mK (Moved.trans W.gtrans ((a.mono L).then_heap (Qas _) fun b o m e=>?_) wF) wG;rw[F.2 b (fun h:b=D=>m (by rw[h];exact Q0))];exact e
end
section
variable {prog:Program} {w:World} {A:Around} {E:Value→Shared→Prop} {s:Shared} {K:Type} [DecidableEq K] {knd:KeyKind prog w K}
theorem Zhu{l:Addr}{items:Array Value}{ks:List (K×Value)}{As:Nat→Addr}{Q:Value→Shared→Prop}(x:A.handled=none)(hl:PlainL s.heap l items)(p:ks.length=items.size)(hsz:items.size≤sizeLine)
  (M:∀ (i:Nat) (v:Value),items[i]? = some v→v=.ref (As i)) (y:∀j (d:j<items.size),∃f,IsTup s.heap (As j) #[f,(ks[j]'(p ▸ d)).2]∧knd.is (ks[j]'(p ▸ d)).1 f=true)
  (h:∀h' tk,h'.DictOf knd s.heap.objs.size (merged [] ks)→(∀b o,s.heap.get? b=some o→h'.get? b=some o)→Q (.ref s.heap.objs.size) { s with heap:=h',toks:=tk }) :
  wpAny (model prog w) A (call (.type "dict") [.ref l]) Q E s:=by
 refine callType_codes (Q₁:=fun obj B=>obj=.ref s.heap.objs.size∧B={ s with heap:=s.heap.push { cls:=.type "dict",data:=.dict #[] } }) F.kt_called_dict (F.kt_typeCall_dict_1 _) F.entry_dict_init (kt_code_dict_new _ ⟨rfl,rfl⟩) ?_;rintro obj B ⟨rfl,rfl⟩;have g:(s.heap.push { cls:=.type "dict",data:=.dict #[] }).DictOf knd s.heap.objs.size []:=Heap.DictOf.new s.heap;obtain⟨q,N,C,t,O,D⟩:=hl;have G:l<s.heap.objs.size:=Qp C;have u:(s.heap.push { cls:=.type "dict",data:=.dict #[] }).get? l=some q:=Qc _ C;refine⟨g.typeIs,F.args_dict_init_2 _ _,?_⟩;unfold Builtin.«dict.__init__»;refine wpAny_bind ?_;unfold Builtin.Dict.selfAndRest;refine wpAny_bind (wpAny_notOrdered_dict g.typeIs ?_);show wpAny _ _ (pure (s.heap.objs.size,[Value.ref l])) _ _ _;refine wpAny_pure ?_;show wpAny _ _ (Builtin.Dict.updateFrom "dict.__init__" s.heap.objs.size (.ref l) [] .none) _ _ _;unfold Builtin.Dict.updateFrom;refine wpAny_bind (wpAny_typeOf (T := "list") ⟨q,u,t⟩ ?_);rw[if_pos #[6]];refine wpAny_bind (getAttr?_keys_list u t D O (by simp[x]) fun a tk e P=>?_);rw[if_pos #[6]];have k:∀b o,(s.heap.push { cls:=.type "dict",data:=.dict #[] }).get? b=some o→a.get? b=some o:=fun b o z=>P.keeps b o z;have H:a.IsList l items:=⟨q,k _ _ u,t,N,D⟩;refine wpAny_bind (wpAny_rule (wpAny_bind (wpAny_pyIter_list H ?_)));have m:s.heap.objs.size<a.objs.size:=by obtain⟨o,I,J,c,_⟩:=g;exact Qp (k _ _ c)
 have R:l<a.objs.size:=Qa2 G m;have S:l≠a.objs.size:=Qu R;have U:s.heap.objs.size ∉ [a.objs.size,l]:=by simp only[List.mem_cons,List.not_mem_nil,or_false,not_or];exact⟨Qu m,QV G⟩
 refine wpAny_pure ⟨plainId_quiet Tc _,?_⟩;have V:A.in1.in1.handled=none:=by simp[x]
 have k2:∀b o,s.heap.get? b=some o→(a.push { cls:=.type "list_iterator",data:=.fields #[.ref l,.int 0 0] }).get? b=some o:=fun b o z=>Qc _ (k b o (Qc _ z));refine Zc8 (A:=A.in1) (knd:=knd) ((Walks.list V _ l S items).toS) s.heap.objs.size U ks p As (fun j d=>?_) M hsz (items.size-0) 0 0 _ #[2] (Qw _)
  ⟨⟨_,Qs _ rfl,rfl,rfl⟩,(H.push _)⟩ ?hS0 (fun j d=>?_) ?hR
 ·obtain⟨f,⟨o,c,_⟩,_⟩:=y j d;have:=Qp c;refine⟨Qu this,?_⟩;simp only[List.mem_cons,List.not_mem_nil,or_false];exact Qu (Qa2 this m)
 case hS0=>obtain⟨o,I,J,c,r⟩:=g;exact⟨o,I,J,Qc _ (k _ _ c),r⟩
 ·obtain⟨f,⟨o,c,r⟩,W⟩:=y j d;exact⟨f,⟨o,k2 _ _ c,r⟩,W⟩
 case hR=>intro X n Y;obtain⟨h',Z,d',pL,su⟩:=X;have eg:Z=s.gens:=n.gens;have ed:d'=s.drawn:=n.drawn;have eo:su=s.os:=n.os;subst eg;subst ed;subst eo;refine⟨rfl,h h' pL Y fun b o e=>?_⟩;have L:=Qp e;exact n.heap b o (by simp only[List.mem_cons,List.not_mem_nil,or_false,not_or];exact⟨Qu L,Qu (Qa2 L m)⟩) (k2 b o e)
end
def MA(K:#[7]):List V→Hp→VK→Prop:=fun xs H Q=>∃ (a:Addr) (ts:List (Addr×Key×V)),xs=[.ref a]∧SqL K H a (ts.map fun t=>V.ref t.1)∧(∀t∈ts,H t.1=some (.tup [kV t.2.1,t.2.2]))∧ts.length≤1000 ∧
 ∀D,H D=none→Q (.ref D) (upd H D (.dK (Xm [] (ts.map (·.2)))))
theorem Mz{X:Cx}{e:List (Addr×Obj)}{f:St}{H:Hp}{s:Shared}(I:Inv X e f H s):∀ (ts:List (Addr×Key×V)),(∀t∈ts,H t.1=some (.tup [kV t.2.1,t.2.2])) →
  ∃ks:List (Key×Value),KV (ts.map (·.2)) ks∧∀ (j:Nat) (t:Addr×Key×V) (b:Key×Value),ts[j]? = some t→ks[j]? = some b→∃a,IsTup s.heap t.1 #[a,b.2]∧(ZF X.prog X.w).is b.1 a=true
 | [],_=>⟨[],.nil,fun j t b h _=>by simp at h⟩
 | t::ts,h=>by
  obtain⟨ks,r,hk⟩:=Mz I ts fun x hx=>h x (Qt _ hx);obtain⟨its,g,i,_⟩:=I.tuple (SqT.of (K:=X.K) (h t #[4]));obtain⟨a,u,rfl,k,l⟩:∃a u,its=[a,u]∧ZM (kV t.2.1) a∧ZM t.2.2 u:=by
   cases g with
   | cons m n =>
    cases n with
    | cons o p=>cases p;exact⟨_,_,rfl,m,o⟩
  refine⟨(t.2.1,u)::ks,.cons ⟨rfl,l⟩ r,fun j x b c d=>?_⟩;cases j with
  | zero=>simp only[List.getElem?_cons_zero,Option.some.injEq]at c d;subst c;subst d;exact⟨a,i,Wz k⟩
  | succ j=>exact hk j x b (by simpa using c) (by simpa using d)
theorem ZkI{X:Cx}(hc:X.calm=true):Y1 X (.type "dict") (MA X.K):=by
 intro aa s σ H xs us Q I r h;obtain⟨a,b,rfl,n,p,t,q⟩:=h;obtain⟨u,rfl,c⟩:=Yb r;cases c;obtain⟨its,d,w,_⟩:=I.list n;obtain⟨ks,e,y⟩:=Mz I b p;have h1:ks.length=b.length:=by have:=e.length;simpa using this.symm
 have f:its.length=b.length:=by have:=d.length;simpa using this.symm
 have A:∀ (i:Nat) (v:Value),its.toArray[i]? = some v→v=.ref ((b[i]?.map (·.1)).getD 0):=fun i v B=>by
  have g:its[i]? = some v:=by simpa using B
  have k:i<b.length:=by rw[← f];exact(Qe.mp g).1
  have:=d.get (i:=i) (x:=.ref b[i].1) (by rw[Qm,Qb k];rfl);obtain⟨u,l,c⟩:=this;rw[g]at l;cases l;cases c;rw[Qb k];rfl
 refine Zhu (knd:=ZF X.prog X.w) (ks:=ks) (As:=fun i=>(b[i]?.map (·.1)).getD 0) (I.ok.hd hc) w (by rw[QG];lia) (by rw[QG,f];exact Qai (Zy t)) A (fun j C=>?_) fun h' D E F=>?_
 ·have m:j<b.length:=by rw[QG]at C;lia
  have:=y j b[j] (ks[j]'#[2]) (Qb m) (Qb _);rw[Qb m];exact this
 ·have G:(Xm [] (b.map (·.2))).length≤sizeLine:=by have:=Ro (b.map (·.2)) [];rw[Qa,List.length_nil]at this;exact Qai (Zy #[2])
  refine⟨.ref s.heap.objs.size,_,I.laid (a:=s.heap.objs.size) (o:=.dK (Xm [] (b.map (·.2)))) (t':=D) F (Qh _) ?_,rfl,q _ (I.hok.fresh (Qh _))⟩;exact Va G (beq_eq_false_iff_ne.mpr fun z=>QW _ (z ▸ I.big)) (e.merge .nil) E
theorem Zsl{X:Cx}(K:#[7])(hc:X.calm=true:=by rfl)(h:X.K=K:=by rfl):Y1 X (.type "dict") (MA K):=by subst h;exact ZkI hc
def Zpp:R2:=fun y x H Q=>∃a o,x=.ref a∧ZP H a y o∧Q (.bl (!o.isSome)) H
def Ztc:R2:=fun x y H Q=>∃a v,x=.ref a∧ZP H a y (some v)∧Q v H
section
variable {X:Cx} {k:Nat}
theorem ZrE(b:Y5 k X.A):OpR X (compareOp .NotIn) Zpp:=by intro aa s σ H x y v u Q I c d h;obtain⟨a,o,rfl,g,q⟩:=h;cases d;exact Zpe (UA b) I g c fun s3 e=>⟨.bl (!o.isSome),H,e,rfl,q⟩
noncomputable def ZrL:Tw:=fun o i v H Q=>∃a H',o=.ref a∧YN H a i v H'∧Q H'
theorem Ym(b:Y5 k X.A):RS X ZrL:=by intro aa s σ H o i v ov iv u Q I c d e h;obtain⟨a,f,rfl,g,q⟩:=h;cases c;exact ZlX (UA b) I g d e fun s4 j=>⟨f,j,q⟩
theorem ZkX{prog:Program}{w:World}{A:Around}{E:Value→Shared→Prop}{s:Shared}{value b:Expr}{o i:Value}{T id:String}{Q:Value→Shared→Prop}(c:s.TypeIs o T)
  (hl:typeLookup (.type T) "__getitem__" = pure (some (.builtin id))) (e:subscripted b false o i=operate [o,i] (getItem o i)) (h:wpAny (model prog w) A (getItem o i) Q E s) :
  wpAny (model prog w) A (subscriptTail value b o i) Q E s:=by
 unfold subscriptTail;refine wpAny_bind ?_;rw[getitemInPython_of_ne c.not_modules];refine wpAny_bind (wpAny_specialOf c hl ?_);have a:wpAny (model prog w) A (subscripted b false o i) (fun r d=>wpAny (model prog w) A (letTemporaryGo value o r >>= fun _=>pure r) Q E d) E s:=by rw[e];exact wpAny_operating (wpAny_mono h (fun r d f=>wpAny_bind (wpAny_letTemporaryGo (wpAny_pure f))) fun _ _ x=>x)
 first
  | exact wpAny_pure (wpAny_bind a)
  | exact wpAny_bind (wpAny_pure (wpAny_bind a))
  | exact wpAny_bind a
theorem ixG(b:Y5 k X.A):IxR X Ztc:=by intro value cD aa s σ H x y v u Q I c d h e;obtain⟨a,z,rfl,g,q⟩:=h;cases c;exact ZkX (Zjw I g) PySem.F.slot_dict_getitem.lookup e (ZmT (UA b) I g d fun w' s' f i=>⟨z,H,f,i,q⟩)
def Zs0(c:Bool):R2:=fun x y H Q=>∃a b kvs,x=.ref a∧y=.ref b∧H a=some (.dK kvs)∧H b=some (.dK [])∧Q (.bl (if c then !kvs.isEmpty else kvs.isEmpty)) H
theorem Rm:Y1 X (.builtin "len") (fun xs H Q=>∃a kvs,xs=[V.ref a]∧H a=some (.dK kvs)∧Q (.int kvs.length) H):=Zl5
theorem Us(hc:X.calm=true:=by rfl):Y1 X (.builtin "sorted") ME:=ZiH hc
theorem Mx(hc:X.calm=true:=by rfl):Y1 X (.type "list") MG:=Zku hc
end
mutual
inductive DH (H:Hp):V→PyData→Prop where
 | non:DH H .non .none
 | bl (b:Bool):DH H (.bl b) (.bool b)
 | int (i:Int):DH H (.int i) (.int i)
 | str (s:Str):DH H (.str s) (.str s)
 | lst {a:Addr} {xs:List V} {ds:List PyData}:H a=some (.lst xs)→DHs H xs ds→DH H (.ref a) (.list ds)
 | tup {a:Addr} {xs:List V} {ds:List PyData}:H a=some (.tup xs)→DHs H xs ds→DH H (.ref a) (.tuple ds)
inductive DHs (H:Hp):List V→List PyData→Prop where
 | nil:DHs H [] []
 | cons {x:V} {d:PyData} {xs:List V} {ds:List PyData}:DH H x d→DHs H xs ds→DHs H (x::xs) (d::ds)
end
mutual
theorem DH.mono{H H':Hp}(s:ZG H H'):∀ {x:V} {d:PyData},DH H x d→DH H' x d
 | _,_,.non=>.non
 | _,_,.bl b=>.bl b
 | _,_,.int i=>.int i
 | _,_,.str z=>.str z
 | _,_,.lst h a=>.lst (s _ _ h) (DHs.mono s a)
 | _,_,.tup h a=>.tup (s _ _ h) (DHs.mono s a)
theorem DHs.mono{H H':Hp}(s:ZG H H'):∀ {xs:List V} {ds:List PyData},DHs H xs ds→DHs H' xs ds
 | _,_,.nil=>.nil
 | _,_,.cons h a=>.cons (DH.mono s h) (DHs.mono s a)
end
mutual
theorem DH.dv{K:#[7]}{H:Hp}:∀ {x:V} {d:PyData},DH H x d→DV K H x d
 | _,_,.non=>.non
 | _,_,.bl b=>.bl b
 | _,_,.int i=>.int i
 | _,_,.str z=>.str z
 | _,_,.lst h a=>.lst (SqL.of h) (DHs.dv a)
 | _,_,.tup h a=>.tup (SqT.of h) (DHs.dv a)
theorem DHs.dv{K:#[7]}{H:Hp}:∀ {xs:List V} {ds:List PyData},DHs H xs ds→DVs K H xs ds
 | _,_,.nil=>.nil
 | _,_,.cons h a=>.cons (DH.dv h) (DHs.dv a)
end
theorem Rl:∀ (more a:List (Key×V)),((a++more).map (·.1)).Nodup→Xm a more=a++more
 | [],a,_=>by show a=_;rw[QaT]
 | x::r,a,h=>by
  have hx:Z8 a x.1=none:=by
   cases b:Z8 a x.1 with
   | none=>rfl
   | some v=>have:=ZoT b;rw[Qf,Qj]at h;have:=(List.nodup_append.mp h).2.2 x.1 this x.1 #[4];exact absurd rfl this
  show Xm (Y6 a x.1 x.2) r=_;rw[WA _ hx,Rl r (a++[x]) (by rw[Qa4];exact h),Qa4];rfl
theorem Wa{kvs:List (Key×V)}{k:Key}{v:V}(h:Z8 kvs k=some v):(k,v)∈kvs:=by
 unfold Z8 at h;obtain⟨p,a,rfl⟩:=Qa3.mp h;have b:=List.find?_some a;have c:=Qar a;have:p.1=k:=by simpa using b
 rw[← this];exact c
theorem Tb{kvs:List (Key×V)}(a:(kvs.map (·.1)).Nodup){k:Key}{v:V}(h:(k,v)∈kvs):Z8 kvs k=some v:=by
 induction kvs with
 | nil=>cases h
 | cons p r b =>
  obtain⟨c,d⟩:=QP.mp (by simpa using a:(p.1::r.map (·.1)).Nodup);rcases QF.mp h with rfl|h
  ·exact Vd rfl
  ·rw[Vc fun e=>c (e ▸ Qd (f:=(·.1)) h)];exact b d h
theorem Mw{α:Type}(xs:List α):∀n,n≤xs.length→((List.range n).filterMap fun i=>xs[i]?)=xs.take n
 | 0,_=>by simp
 | n+1,h=>by
  have a:n<xs.length:=by lia
  rw[QaU,QaE,Mw xs n #[2],QH];simp[List.getElem?_eq_getElem a]
theorem Ta(x:Str)(n:Nat):(Txt.slice x none (some (n:Int))).cps.toList=x.cps.toList.take n:=by
 have hl:x.cps.toList.length=x.length:=by simp[Str.length]
 have e:Builtin.Str.strSliceIndices none (some (n:Int)) 1 x.length=List.range (min n x.length):=by
  unfold Builtin.Str.strSliceIndices sliceRange;have b:¬ ((n:Int)<0):=by lia
  simp only[show (1:Int)>0 by decide,if_true,b,if_false];have c:max 0 (min (n:Int) (x.length:Int))=((min n x.length:Nat):Int):=by lia
  rw[c];split
  ·have a:((((min n x.length:Nat):Int)-0+1-1) / 1).toNat=min n x.length:=by rw[Int.ediv_one];lia
   rw[a];have:((fun (k:Nat)=>((0:Int)+1*(k:Int)).toNat))=id:=by funext k;simp
   rw[this,List.map_id]
  ·have a:min n x.length=0:=by lia
   rw[a];rfl
 unfold Txt.slice;rw[e];split
 ·rename_i h;have:min n x.length=x.length:=by simpa using h
  rw[Qv #[2]]
 ·show List.filterMap _ _=_;have:=Mw x.cps.toList (min n x.length) #[2];simp only[Array.getElem?_toList]at this;rw[this];rcases Nat.le_total n x.length with h|h
  ·rw[QaB h]
  ·rw[Nat.min_eq_right h,Qv #[2],Qv #[2]]
end L2
namespace L2
open PySem PySem.Spec PyProof.Rows
theorem ZP.fz{H:Hp}{a:Addr}{o:Obj}{kvs:List (Key×V)}{k:Key}{r:Option V}(e:H a=some (.frz o (.dK kvs)))(h:Z8 kvs k=r):ZP H a (kV k) r:=.inl ⟨kvs,k,.inr ⟨o,e⟩,rfl,h.symm⟩
theorem Zpd{d:Addr}{o:Obj}{kvs:List (Key×V)}{k:Nat}{D:Addr}{a:L2.St}{f:Hp}{g:TG}{h:TT}{j:TE}{Q:VK}(Pv:Nat→List V→L2.St→Hp→Prop)(h0:Pv 0 [] (a++List.replicate k none) (upd f D (.lst [])))
  (hl:∀i ys a H,Pv i ys a H→H d=some (.frz o (.dK kvs)))
  (s:∀i k x ys a H,kvs[i]? = some (k,x)→Pv i ys a H→g (kV k) a H fun c t=>h c t fun b l=>if b=true then j c l fun y n=>n D=some (.lst ys)∧ys.length<sizeLine∧Pv (i+1) (ys++[y]) c (upd n D (.lst (ys++[y]))) else Pv (i+1) ys c l)
  (hd:∀ys a H,Pv kvs.length ys a H→Q (.ref D) H):WC (Itk d o kvs) D k a f g h j Q:=by
 refine⟨fun i m ys a H=>m=kvs.length-i∧i≤kvs.length∧Pv i ys a H,⟨kvs.length,by simp,Qw _,h0⟩,?_⟩;rintro i m ys a H ⟨rfl,hi,p⟩;have q:=hl i ys a H p;by_cases r:i<kvs.length
 ·refine .inr ⟨⟨q,r⟩,Pv (i+1),fun fh ak u v=>⟨kvs.length-(i+1),by lia,rfl,r,v⟩,fun x u y=>?_⟩;obtain⟨rfl,k',w,e,rfl⟩:=y;exact s i k' w ys a _ e p
 ·have e:i=kvs.length:=by lia
  exact .inl ⟨⟨q,by lia⟩,hd ys a H (e ▸ p)⟩
theorem Zo8{d:Addr}{o:Obj}{kvs:List (Key×V)}{k:Nat}{D:Addr}{a:L2.St}{f:Hp}{g:TG}{h:TT}{j:TE}{Q:VK}(Pv:Nat→List V→L2.St→Hp→Prop)(h0:Pv 0 [] (a++List.replicate k none) (upd f D (.lst [])))
  (hl:∀i ys a H,Pv i ys a H→H d=some (.frz o (.dK kvs)))
  (s:∀i k x ys a H,kvs[i]? = some (k,x)→Pv i ys a H→g x a H fun c t=>h c t fun b l=>if b=true then j c l fun y n=>n D=some (.lst ys)∧ys.length<sizeLine∧Pv (i+1) (ys++[y]) c (upd n D (.lst (ys++[y]))) else Pv (i+1) ys c l)
  (hd:∀ys a H,Pv kvs.length ys a H→Q (.ref D) H):WC (Itv d o kvs) D k a f g h j Q:=by
 refine⟨fun i m ys a H=>m=kvs.length-i∧i≤kvs.length∧Pv i ys a H,⟨kvs.length,by simp,Qw _,h0⟩,?_⟩;rintro i m ys a H ⟨rfl,hi,p⟩;have q:=hl i ys a H p;by_cases r:i<kvs.length
 ·refine .inr ⟨⟨q,r⟩,Pv (i+1),fun fh ak u v=>⟨kvs.length-(i+1),by lia,rfl,r,v⟩,fun x u y=>?_⟩;obtain⟨rfl,k',e⟩:=y;exact s i k' x ys a _ e p
 ·have e:i=kvs.length:=by lia
  exact .inl ⟨⟨q,by lia⟩,hd ys a H (e ▸ p)⟩
theorem Mv{d:Addr}{o:Obj}{kvs:List (Key×V)}{k:Nat}{D:Addr}{a:L2.St}{f:Hp}{g:TG}{h:TT}{j:TE}{Q:VK}(Pv:Nat→List V→L2.St→Hp→Prop)(h0:Pv 0 [] (a++List.replicate k none) (upd f D (.lst [])))
  (hl:∀i ys a H,Pv i ys a H→H d=some (.frz o (.dK kvs)))
  (t:∀i k x ys a H p,kvs[i]? = some (k,x)→Pv i ys a H→H p=none→g (.ref p) a (upd H p (.tup [kV k,x])) fun c u=>h c u fun b l=>if b=true then j c l fun y n=>n D=some (.lst ys)∧ys.length<sizeLine∧Pv (i+1) (ys++[y]) c (upd n D (.lst (ys++[y]))) else Pv (i+1) ys c l)
  (hd:∀ys a H,Pv kvs.length ys a H→Q (.ref D) H):WC (Iti d o kvs) D k a f g h j Q:=by
 refine⟨fun i m ys a H=>m=kvs.length-i∧i≤kvs.length∧Pv i ys a H,⟨kvs.length,by simp,Qw _,h0⟩,?_⟩;rintro i m ys a H ⟨rfl,hi,p⟩;have q:=hl i ys a H p;by_cases s:i<kvs.length
 ·refine .inr ⟨⟨q,s⟩,Pv (i+1),fun fh ak v w=>⟨kvs.length-(i+1),by lia,rfl,s,w⟩,fun x v y=>?_⟩;obtain⟨r,k',z,A,rfl,e,rfl⟩:=y;exact t i k' z ys a H r e p A
 ·have e:i=kvs.length:=by lia
  exact .inl ⟨⟨q,by lia⟩,hd ys a H (e ▸ p)⟩
noncomputable def off(p:Addr)(H:Hp):Hp:=fun b=>if b=p then none else H b
def Zsx:V→List V→Hp→VK→Prop:=fun x vs H Q=>∃a kvs k v,x=.ref a∧vs=[kV k]∧H a=some (.dK kvs)∧Z8 kvs k=some v∧Q v (upd H a (.dK (Xb kvs k)))
theorem Rk{X:Cx}:MtM X "dict.pop" Zsx:=by intro aa s σ H x vs v us Q I b c h;obtain⟨a,kvs,k,y,rfl,rfl,d,e,q⟩:=h;cases b;obtain⟨u,rfl,f⟩:=c.one;exact Zr5 I d f e #[8] fun w' s' g i=>⟨y,_,g,i,q⟩
theorem Rj{X:Cx}{s:Stmt}:PS X s (fun _ _ _=>False):=fun aa s' σ H D I h=>h.elim
theorem Inv.laidMany{X:Cx}{d:List (Addr×Obj)}{f:St}{H H':Hp}{s:Shared}{h':Heap}{t':Nat}(I:Inv X d f H s)(k:∀b u,s.heap.get? b=some u→h'.get? b=some u)
  (same:∀b o,H b=some o→H' b=some o) (low:∀b,b<s.heap.objs.size→H' b=H b) (new:∀b o,H b=none→H' b=some o→Z7 X.prog X.w H' h' b o):Inv X d f H' { s with heap:=h',toks:=t' }:=by
 refine I.un (t':=t') ⟨fun b u q _ _ _=>k b u q,fun b u q _ _ _=>⟨u.slots,k b u q⟩,fun b u q n _=>by rw[low b (Qp q)];exact n,fun b u q _=>⟨u,k b u q⟩,fun b g q=>same b _ q,fun b u g q=>same b _ q,fun b ps q=>⟨#[],by rw[same b _ q];simp⟩⟩ fun b u e=>?_;cases a:H b with
 | none=>exact new b u a e
 | some v=>have:=same b v a;rw[this]at e;cases e;exact(I.hok b _ a).stay (fun c x _ q=>k c x q) (fun c q=>same c _ q) fun c g q=>same c _ q
noncomputable def VH(ts:List (Addr×Key×V))(l:Addr)(H:Hp):Hp:=fun b=>if b=l then some (.lst (ts.map fun t=>V.ref t.1)) else
 match ts.find? fun t=>decide (t.1=b) with
 | some t=>some (.tup [kV t.2.1,t.2.2])
 | none=>H b
theorem Mu(ts:List (Addr×Key×V))(l:Addr)(H:Hp):VH ts l H l=some (.lst (ts.map fun t=>V.ref t.1)):=by unfold VH;rw[if_pos rfl]
theorem ZpP{ts:List (Addr×Key×V)}(nd:(ts.map (·.1)).Nodup){t:Addr×Key×V}(h:t∈ts):(ts.find? fun x=>decide (x.1=t.1))=some t:=by
 induction ts with
 | nil=>cases h
 | cons x r a =>
  rw[Qj,QP]at nd;rw[Qae];rcases QF.mp h with rfl|h
  ·rw[decide_eq_true rfl]
  ·rw[decide_eq_false (fun z:x.1=t.1=>nd.1 (by rw[z];exact Qd (f:=fun x:Addr×Key×V=>x.1) h))];exact a nd.2 h
theorem Mt{ts:List (Addr×Key×V)}{l:Addr}{H:Hp}(nd:(ts.map (·.1)).Nodup)(hl:l ∉ ts.map (·.1)){t:Addr×Key×V}(h:t∈ts):VH ts l H t.1=some (.tup [kV t.2.1,t.2.2]):=by unfold VH;rw[if_neg (fun z:t.1=l=>hl (by rw[← z];exact Qd (f:=fun x:Addr×Key×V=>x.1) h)),ZpP nd h]
theorem S4{ts:List (Addr×Key×V)}{l:Addr}{H:Hp}{b:Addr}(hl:b≠l)(h:b ∉ ts.map (·.1)):VH ts l H b=H b:=by
 unfold VH;rw[if_neg hl];cases e:ts.find? fun t=>decide (t.1=b) with
 | none=>rfl
 | some t=>have a:=List.find?_some e;have c:=Qar e;have d:t.1=b:=of_decide_eq_true a;exact absurd (by rw[← d];exact Qd (f:=fun x:Addr×Key×V=>x.1) c) h
def Zmt(to:TE):TE:=fun f H Q=>to f H fun x a=>∃d kvs,x=.ref d∧a d=some (.dK kvs) ∧
 ∀ (l:Addr) (e:List (Addr×Key×V)) (c:Hp),a l=none→e.map (·.2)=kvs→(∀t∈e,a t.1=none∧c t.1=some (.tup [kV t.2.1,t.2.2]))→(∀b o,a b=some o→c b=some o)→c l=some (.lst (e.map fun t=>V.ref t.1))→Q (.ref l) c
theorem Zj0{X:Cx}{o:Expr}{to:TE}{A B pos p:Pos}(hc:X.calm=true)(C:Gl X "list")(hm:X.mg "list" = none)(ho:PE X o to)(di:attributeBase o "items" X.env (eval o X.env)=eval o X.env:=by rfl)(dk:(A.endLine == B.line)=true:=by rfl)
  (W:starEach [.Call (.Attribute o "items" A) [] [] B] X.env=[(false,eval (.Call (.Attribute o "items" A) [] [] B) X.env)]:=by rfl) :
  PE X (.Call (.Name "list" p) [.Call (.Attribute o "items" A) [] [] B] [] pos) (Zmt to):=by
 intro aa s σ H Q I h;refine wpAny_Call_Name_kw (Wi I C hm boot_list ?_ #[6] #[6]);refine QY (e:=.Call (.Attribute o "items" A) [] [] B) (rest:=[]) ?_ W rfl;rw[W];refine Calls.spliced_cons ?_;refine wpAny_Call_method0_late di dk (thn (ho aa s σ H _ I h) ?_);rintro v i ⟨x,L,G,r1,q1⟩;obtain⟨d,l,e,hd,q⟩:=q1;subst e;cases r1;obtain⟨z,lo,J,D,M,Y,Z,N,O,h3,h4⟩:=(show Z7 X.prog X.w L i.heap d (.dK l) from G.hok d _ hd);have ao:l.length=J.length:=D.length;have P:i.heap.DictOf (ZF X.prog X.w) d J:=⟨M,Y,Z,N,O,h3,h4⟩;refine⟨"dict", "dict.items",QZ,Qaw,PySem.F.type_dict_items,P.typeIs,fun a e=>?_,?_⟩
 ·cases e;exact⟨M,N,O.2.1⟩
 refine Calls.callWith_builtin rfl (QaO ?_);refine call_meetsIn Qaw P.typeIs PySem.F.entry_dict_items (PySem.F.args_dict_items_1 _) (meets_dict_items (ZF X.prog X.w) d lo) ⟨⟨J,P⟩,?_⟩;have hv:(i.heap.push { cls:=.type "dict_items",data:=.fields #[.ref d] }).IsItemsView i.heap.objs.size d:=⟨_,Qs _ rfl,rfl,rfl⟩;have da:(i.heap.push { cls:=.type "dict_items",data:=.fields #[.ref d] }).DictAt (ZF X.prog X.w) d J Z:=⟨M,Y,Qc _ N,O,h3,h4⟩;refine Calls.spliced_nil ?_;refine PySem.W.kdx_call (s:={ i with heap:=i.heap.push { cls:=.type "dict_items",data:=.fields #[.ref d] } }) (G.ok.hd hc) hv da #[2] fun h' tk ap c E k hL wJ R gK=>?_;have wK:(i.heap.push { cls:=.type "dict_items",data:=.fields #[.ref d] }).objs.size=i.heap.objs.size+1:=Q1 _ _;have eQ:E.length=l.length:=by lia
 obtain⟨m,n,K⟩:∃m:List (Addr×Key×V),m.map (·.1)=E∧m.map (·.2)=l:=⟨E.zip l,by rw[List.map_fst_zip #[2]],by rw[List.map_snd_zip #[2]]⟩;have F:∀a∈E,i.heap.objs.size+1<a:=fun a ha=>by have:=R.above a ha;rw[wK]at this;exact this
 have S:(m.map (·.1)).Nodup:=by rw[n];exact R.rise.imp fun h=>Qu h
 have T:(i.heap.push { cls:=.type "dict_items",data:=.fields #[.ref d] }).objs.size ∉ m.map (·.1):=by rw[n];intro z;have:=F _ z;lia
 have y:∀b,i.heap.objs.size≤b→L b=none:=fun b g=>G.hok.fresh g;have tup:∀t∈m,∃key u,ZM (kV t.2.1) key∧ZM t.2.2 u∧h'.get? t.1=some { cls:=.type "tuple",data:=.seq #[key,u] }:=fun t w=>by
  obtain⟨j,hj⟩:=QaG.mp w;have ja:E[j]? = some t.1:=by rw[← n,Qm,hj];rfl
  have jk:l[j]? = some (t.2.1,t.2.2):=by rw[← K,Qm,hj];rfl
  obtain⟨key,k',x,iI,fR,C⟩:=R.pairs j t.1 ja;obtain⟨u,hu,U⟩:=Td D j t.2.1 t.2.2 jk;rw[iI]at hu;cases hu;exact⟨key,_,Te fR,U,C⟩
 refine⟨.ref (i.heap.push { cls:=.type "dict_items",data:=.fields #[.ref d] }).objs.size,VH m (i.heap.push { cls:=.type "dict_items",data:=.fields #[.ref d] }).objs.size L,?_,rfl,q _ m _ (y _ #[2]) K (fun t w=>⟨y _ ?_,Mt S T w⟩) (fun b o g=>?_) (Mu _ _ _)⟩
 ·refine G.laidMany (h':=h') (t':=tk) (fun b u e=>k b u (Qc _ e)) (fun b o g=>?_) (fun b g=>?_) (fun b o hn g=>?_)
  ·rw[S4 (fun z=>by rw[z,y _ #[2]]at g;cases g) (fun z=>by rw[n]at z;rw[y b (by have:=F b z;lia)]at g;cases g)];exact g
  ·exact S4 (by rw[wK];exact Qu (Nat.lt_succ_of_lt g)) (fun z=>by rw[n]at z;have:=F b z;lia)
  ·by_cases h5:b=(i.heap.push { cls:=.type "dict_items",data:=.fields #[.ref d] }).objs.size
   ·subst h5;rw[Mu]at g;cases g;refine⟨by have:=congrArg List.length K;rw[Qa]at this ⊢;lia,ap.toList,c,?_,by simpa using hL⟩;rw[gK,← n,Qg];clear n K S T tup;induction m with
    | nil=>exact .nil
    | cons t r ih=>exact .cons rfl ih
   ·by_cases h6:b∈m.map (·.1)
    ·obtain⟨t,w,rfl⟩:=Ql.mp h6;rw[Mt S T w]at g;cases g;obtain⟨key,u,rk,U,C⟩:=tup t w;exact⟨by show 2≤sizeLine;decide,[key,u],.cons rk (.cons U .nil),_,C,rfl,_,rfl⟩
    ·rw[S4 h5 h6,hn]at g;cases g
 ·have:=F t.1 (by rw[← n];exact Qd (f:=fun x:Addr×Key×V=>x.1) w);lia
 ·rw[S4 (fun z=>by rw[z,y _ #[2]]at g;cases g) (fun z=>by rw[n]at z;rw[y b (by have:=F b z;lia)]at g;cases g)];exact g
theorem Zq6{X:Cx}{k:Nat}{o e:Expr}{b ty:TE}{c a:Pos}(f:Y5 k X.A)(g:PE X o b)(he:PE X e ty)(hb:attributeBase o "get" X.env (eval o X.env)=eval o X.env:=by rfl)
  (h:(c.endLine == a.line)=true:=by rfl) (d:backTo a (starEach [e] X.env)=[(false,eval e X.env)]:=by rfl):PE X (.Call (.Attribute o "get" c) [e] [] a) (MH b ty):=by
 refine Zof (UA f) g he ⟨hb,?_,h,d⟩;rw[d];rfl
section
variable {X:Cx}
theorem ZpQ{x:Str}{n:Int}{pos:Pos}(hm:∃tk,X.mg x=some (.int n tk))(a:Gl X x:=by rfl)(hd:(x == ("__debug__" : Str))=false:=by decide):PE X (.Name x pos) (tC (.int n)):=by obtain⟨tk,h⟩:=hm;exact ZpC a h ⟨tk,rfl⟩ hd
end
section
variable {X:Cx}
theorem Ms:OpR X (compareOp .GtE) (fun x y H Q=>∃i j,x=.str i∧y=.str j∧Q (.bl (!decide (i.cps.toList<j.cps.toList))) H):=by intro aa s σ H x y v u Q I a b h;obtain⟨i,j,rfl,rfl,q⟩:=h;obtain⟨t,rfl⟩:=a;obtain⟨t',rfl⟩:=b;exact PySem.P.ge_str (ZY I q rfl)
end
def ZsV(t u:TS):TS:=fun D b H=>∃M:St→Hp→Prop,t { D with nx:=M } b H∧∀a H',M a H'→u D a H'
theorem VG{X:Cx}{st:Stmt}{rest:List Stmt}{t u:TS}(h1:PS X st t)(h2:PSs X rest u):PSs X (st::rest) (ZsV t u):=by
 intro a s d H D I h;obtain⟨M,h,e⟩:=h;refine wpAny_execs_cons (thn (h1 a s d H { D with nx:=M } I h) fun f g q=>?_);cases f with
 | next=>obtain⟨b,c,i,q⟩:=q;exact h2 a g b c D i (e b c q)
 | ret v=>exact q
 | brk=>exact q
 | cont=>exact q
theorem Zpu{d:Addr}{o:Obj}{kvs:List (Key×V)}{k:Nat}{D:Addr}{a:L2.St}{f:Hp}{g:TG}{h:TT}{tk j:TE}{Q:VK}(Pv:Nat→List (Key×V)→L2.St→Hp→Prop)(h0:Pv 0 [] (a++List.replicate k none) (upd f D (.dK [])))
  (hl:∀i ys a H,Pv i ys a H→H d=some (.frz o (.dK kvs)))
  (t:∀i k x ys a H p,kvs[i]? = some (k,x)→Pv i ys a H→H p=none→g (.ref p) a (upd H p (.tup [kV k,x])) fun c u=>h c u fun b l=>if b=true then tk c l fun v w=>j c w fun y n=>∃k:Key,v=kV k∧n D=some (.dK ys)∧ys.length<sizeLine∧Pv (i+1) (Y6 ys k y) c (upd n D (.dK (Y6 ys k y))) else Pv (i+1) ys c l)
  (hd:∀ys a H,Pv kvs.length ys a H→Q (.ref D) H):MD (Iti d o kvs) D k a f g h tk j Q:=by
 refine⟨fun i m ys a H=>m=kvs.length-i∧i≤kvs.length∧Pv i ys a H,⟨kvs.length,by simp,Qw _,h0⟩,?_⟩;rintro i m ys a H ⟨rfl,hi,p⟩;have q:=hl i ys a H p;by_cases s:i<kvs.length
 ·refine .inr ⟨⟨q,s⟩,Pv (i+1),fun fh ak z A=>⟨kvs.length-(i+1),by lia,rfl,s,A⟩,fun x z y=>?_⟩;obtain⟨r,k',B,C,rfl,e,rfl⟩:=y;exact t i k' B ys a H r e p C
 ·have e:i=kvs.length:=by lia
  exact .inl ⟨⟨q,by lia⟩,hd ys a H (e ▸ p)⟩
section
variable {prog:Program} {w:World} {A:Around} {E:Value→Shared→Prop} {s:Shared} {K:Type} [DecidableEq K] {knd:KeyKind prog w K}
theorem Mr{o:Addr}{Q:Value→Shared→Prop}(e:s.TypeIs (.ref o) "dict")(ah:o<s.heap.objs.size)
  (h:∀f:Value→Shared→Prop,wpAny (model prog w) A.in1.in1 (Builtin.Dict.mergeDict "dict.__init__" s.heap.objs.size o) (fun _ s'=>Q (.ref s.heap.objs.size) s') f { s with heap:=s.heap.push { cls:=.type "dict",data:=.dict #[] } }) :
  wpAny (model prog w) A (call (.type "dict") [.ref o]) Q E s:=by
 refine callType_codes (Q₁:=fun obj c=>obj=.ref s.heap.objs.size∧c={ s with heap:=s.heap.push { cls:=.type "dict",data:=.dict #[] } }) F.kt_called_dict (F.kt_typeCall_dict_1 _) F.entry_dict_init (kt_code_dict_new _ ⟨rfl,rfl⟩) ?_;rintro obj c ⟨rfl,rfl⟩;have d:(s.heap.push { cls:=.type "dict",data:=.dict #[] }).DictOf (intKind prog w) s.heap.objs.size []:=Heap.DictOf.new s.heap;have a:({ s with heap:=s.heap.push { cls:=.type "dict",data:=.dict #[] } }:Shared).TypeIs (.ref o) "dict":=by obtain⟨g,i,j⟩:=e;exact⟨g,Qc _ i,j⟩
 refine⟨d.typeIs,F.args_dict_init_2 _ _,?_⟩;unfold Builtin.«dict.__init__»;refine wpAny_bind ?_;unfold Builtin.Dict.selfAndRest;refine wpAny_bind (wpAny_notOrdered_dict d.typeIs ?_);show wpAny _ _ (pure (s.heap.objs.size,[Value.ref o])) _ _ _;refine wpAny_pure ?_;show wpAny _ _ (Builtin.Dict.updateFrom "dict.__init__" s.heap.objs.size (.ref o) [] .none) _ _ _;unfold Builtin.Dict.updateFrom;refine wpAny_bind (wpAny_typeOf (T := "dict") a ?_);rw[if_neg #[6]];refine wpAny_bind ?_;unfold Builtin.Dict.merge;refine wpAny_bind ?_;unfold Builtin.Dict.readDirectly;refine wpAny_bind (wpAny_isInstance (b:=true) a rfl ?_);rw[if_neg #[6]];refine wpAny_bind (wpAny_specialOf (r:=some (.builtin "dict.__iter__")) a rfl ?_);refine wpAny_pure ?_;rw[if_pos #[6]];refine wpAny_bind (wpAny_pure ?_);refine thn (h _) fun _ s' q=>?_;refine wpAny_bind ?_;unfold Builtin.Dict.addKeywords;refine wpAny_bind ?_;rw[List.forIn_nil];refine wpAny_pure (wpAny_pure ?_);exact wpAny_pure ⟨rfl,q⟩
theorem Zj4{o:Addr}{more:List (K×Value)}{Q:Value→Shared→Prop}(a:s.heap.DictOf knd o more)(j:(o == sysModules)=false)(hn:more.length≤sizeLine)
  (h:∀h',h'.DictOf knd s.heap.objs.size more→(∀b ob,s.heap.get? b=some ob→h'.get? b=some ob)→Q (.ref s.heap.objs.size) { s with heap:=h' }) :
  wpAny (model prog w) A (call (.type "dict") [.ref o]) Q E s:=by
 have d:o<s.heap.objs.size:=by obtain⟨ob,e,f,c,_⟩:=a;exact Qp c
 have k:(s.heap.push { cls:=.type "dict",data:=.dict #[] }).DictOf knd o more:=by obtain⟨ob,e,f,c,r⟩:=a;exact⟨ob,e,f,Qc _ c,r⟩
 have l:(more.map (·.1)).Nodup:=by obtain⟨_,_,_,_,_,_,_,_,h⟩:=a;exact h
 refine Mr (A:=A) a.typeIs d fun E'=>?_;refine wpAny_mergeDict (knd:=knd) (kvs:=[]) (more:=more) (QV d) j (Heap.DictOf.new s.heap) k (hsz:=by show 0+more.length≤sizeLine;lia) fun h' g lQ m=>?_;rw[merged_nil_of_nodup _ l]at g;refine h h' g fun b ob i=>?_;have n:=Qc { cls:=.type "dict",data:=.dict #[] } i;rw[← n];exact m.2 b (Qu (Qp i))
end
def ZqU:List V→Hp→VK→Prop:=fun xs H Q=>∃ (a:Addr) (kvs:List (Key×V)),xs=[.ref a]∧H a=some (.dK kvs)∧∀D,H D=none→Q (.ref D) (upd H D (.dK kvs))
theorem Mq{X:Cx}:Y1 X (.type "dict") ZqU:=by intro aa s σ H xs us Q I r h;obtain⟨a,b,rfl,d,q⟩:=h;obtain⟨u,rfl,e⟩:=Yb r;cases e;obtain⟨z,f,g,c,i⟩:=VL I.hok d;have hl:g.length=b.length:=c.length.symm;refine Zj4 i f #[2] fun h' j k=>?_;refine⟨.ref s.heap.objs.size,_,I.laid (a:=s.heap.objs.size) (o:=.dK b) (t':=s.toks) k (Qh _) ?_,rfl,q _ (I.hok.fresh (Qh _))⟩;exact Va z (beq_eq_false_iff_ne.mpr fun y=>QW _ (y ▸ I.big)) c j
theorem Mp{α a:Type}[DecidableEq a](f:α→a)(c:a):∀l:List α,(l.map f).Nodup→(l.filter fun x=>f x == c).length≤1
 | [],_=>Qw _
 | x::r,h=>by
  rw[Qj,QP]at h;rw[List.filter_cons];split
  ·rename_i e;have e':f x=c:=by simpa using e
   have:r.filter (fun x=>f x == c)=[]:=List.filter_eq_nil_iff.mpr fun y b z=>h.1 (by rw[e',← (show f y=c by simpa using z)];exact Qd b);rw[this];exact Qh _
  ·exact Mp f c r h.2
section
variable {prog:Program} {w:World} {A:Around} {E:Value→Shared→Prop} {s:Shared} {K:Type} [DecidableEq K] {knd:HeapKind prog w K}
theorem Zi0{id:String}{o:Addr}{f:Obj}{a:Array DictEntry}{ep:Nat}{xs:List (K×Addr×Value)}{Q:Array DictEntry→Shared→Prop}(h1:s.heap.get? o=some f)(i:f.data=.dict a ep)(g:a.toList=xs.map (entryOfKey knd))(j:(xs.map fun x=>knd.hash x.1).Nodup)(k:∀x∈xs,s.TypeIs (.ref x.2.1) "tuple")(q:Q a s) :
  wpAny (model prog w) A (Builtin.Dict.entriesForEmpty id o) Q E s:=by
 unfold Builtin.Dict.entriesForEmpty;refine wpAny_bind (wpAny_dictEntries h1 i ?_);refine wpAny_bind (wpAny_forIn_array' _ (fun rest _ c=>c=s∧∀e∈rest,e∈a.toList) _ ?_ ?_ a _ ⟨rfl,fun e d=>d⟩)
 ·rintro e rest b c ⟨rfl,h⟩;have d:e∈xs.map (entryOfKey knd):=by rw[← g];exact h e #[4]
  obtain⟨x,l,rfl⟩:=Ql.mp d;refine wpAny_bind ?_;show wpAny _ _ (do let r ← specialOf (.ref x.2.1) (Str.ofString "__eq__");pure (r == some (.builtin "object.__eq__"))) _ _ _;refine wpAny_bind (wpAny_specialOf (T := "tuple") (r:=some (.builtin "tuple.__eq__")) (k x l) rfl ?_);refine wpAny_pure ?_;rw[if_pos #[6],if_neg]
  ·exact wpAny_pure ⟨rfl,fun m n=>h m (Qt _ n)⟩
  ·have p:(a.toList.map fun e=>e.hash).Nodup:=by rw[g,Qg];exact j
   have:=Mp (fun e:DictEntry=>e.hash) (entryOfKey knd x).hash a.toList p;rw[← Qad,Array.toList_filter];lia
 ·rintro b c ⟨rfl,_⟩;exact wpAny_pure q
theorem Zk2{p:String}{d o:Addr}{xs:List (K×Addr×Value)}{Q:Unit→Shared→Prop}(q:d≠o)(t:(o == sysModules)=false)(hd:s.heap.get? d=some { cls:=.type "dict",data:=.dict #[] })(u:s.heap.DictOfH knd o xs)(hn:xs.length≤sizeLine)(v:(xs.map fun x=>knd.hash x.1).Nodup)(y:∀x∈xs,s.TypeIs (.ref x.2.1) "tuple")
  (h:∀k,k.DictOfH knd d xs→Heap.SameBut d s.heap k→Q () { s with heap:=k }):wpAny (model prog w) A (Builtin.Dict.mergeDict p d o) Q E s:=by
 obtain⟨oo,a,ep,g,i,j,c,B,m⟩:=u;unfold Builtin.Dict.mergeDict;rw[if_neg (by simpa using q)];refine wpAny_bind ?_;unfold Builtin.Dict.showsAll;rw[if_neg (by rw[t];decide)];refine wpAny_pure ?_;refine wpAny_bind (wpAny_dictEntries g j ?_);by_cases l:xs=[]
 ·subst l;have C:a = #[]:=by
   have:a.toList=[]:=by rw[c];rfl
   exact Array.toList_eq_nil_iff.mp this
  subst C;have D:=h s.heap ⟨_,#[],0,hd,⟨rfl,rfl,rfl⟩,rfl,rfl,fun x i=>(by cases i),m⟩ ⟨rfl,fun b _=>rfl⟩;rw[if_neg #[4]];refine wpAny_bind (wpAny_dictEpoch g j ?_);refine wpAny_bind (wpAny_dictEntries g j ?_);refine wpAny_bind ?_;rw[Std.Legacy.Range.forIn_eq_forIn_range'];show wpAny _ _ (forIn ([]:List Nat) PUnit.unit _) _ _ _;rw[List.forIn_nil];exact wpAny_pure (wpAny_pure D)
 ·have F:¬ a.all (fun e=>(keyPart e.key).isSome)=true:=fun z=>by obtain⟨x,r,rfl⟩:=List.exists_cons_of_ne_nil l;rw[← Array.all_toList,c,Qj,List.all_cons]at z;cases z
  rw[if_pos (by rw[Qac.mpr F,Bool.and_false];rfl)];refine wpAny_bind (wpAny_dictEntries hd rfl ?_);rw[if_pos #[5]];refine wpAny_bind (Zi0 g j c v y ?_);have f:a.size=xs.length:=by rw[← Qad,c,Qa]
  have fG:0<xs.length:=List.length_pos_iff.mpr l;rw[if_pos (by rw[show a.isEmpty=false from(by rw[Array.isEmpty_eq_false_iff];exact fun z=>by rw[z]at f;exact absurd f (by show ¬ 0=_;lia))];rfl)];refine wpAny_bind (wpAny_updateDictKeysTo hd rfl ?_ (by show a.size≤_;lia));refine wpAny_pure ?_;have n:Heap.SameBut d s.heap (s.heap.update d (Obj.mapDictKeys fun _=>a)):=Heap.SameBut.update _ _ _;refine h _ ⟨_,a,1,Heap.get?_update_self _ hd rfl,⟨rfl,rfl,rfl⟩,rfl,c,fun x i=>knd.keeps (B x i) hd rfl n,m⟩ n
end
theorem KT.same{H H':Hp}(k:∀b u,H b=some u→H' b=some u):∀ {kvs:List (List Key×V)} {xs:List (List Key×Addr×Value)},KT H kvs xs→KT H' kvs xs
 | _,_,.nil=>.nil
 | _,_,.cons ⟨a,b,c⟩ r=>.cons ⟨a,k _ _ b,c⟩ (KT.same k r)
theorem KT.keys{H:Hp}:∀ {kvs:List (List Key×V)} {xs:List (List Key×Addr×Value)},KT H kvs xs→kvs.map (·.1)=xs.map (·.1)
 | _,_,.nil=>rfl
 | _,_,.cons ⟨a,_,_⟩ r=>by rw[Qj,Qj,KT.keys r,a]
def ZrC:List V→Hp→VK→Prop:=fun xs H Q=>∃ (a:Addr) (kvs:List (List Key×V)),xs=[.ref a]∧H a=some (.dT kvs)∧(∀ (P:Program) (w:World),∀x∈kvs.map (·.1),∀y∈kvs.map (·.1),(tupleKind (ZF P w)).hash x=(tupleKind (ZF P w)).hash y→x=y)∧∀D,H D=none→Q (.ref D) (upd H D (.dT kvs))
theorem Zky{X:Cx}:Y1 X (.type "dict") ZrC:=by
 intro aa s σ H xs us Q I r h;obtain⟨a,f,rfl,J,K,q⟩:=h;obtain⟨u,rfl,L⟩:=Yb r;cases L;obtain⟨z,M,j,g,v⟩:=MJ I.hok J;have E:a<s.heap.objs.size:=by obtain⟨d,l,m,c,_⟩:=v;exact Qp c
 have F:H s.heap.objs.size=none:=I.hok.fresh (Qh _);have mono:∀x∈j,(tupleKind (ZF X.prog X.w)).is s.heap x.1 x.2.1→(tupleKind (ZF X.prog X.w)).is (s.heap.push { cls:=.type "dict",data:=.dict #[] }) x.1 x.2.1:=by rintro x _ ⟨o,its,n,c,r⟩;exact⟨o,its,n,Qc _ c,r⟩
 have w:(s.heap.push { cls:=.type "dict",data:=.dict #[] }).DictOfH (tupleKind (ZF X.prog X.w)) a j:=by obtain⟨d,l,m,c,k,B,C,p,D⟩:=v;exact⟨d,l,m,Qc _ c,k,B,C,fun x t=>mono x t (p x t),D⟩
 have hl:j.length=f.length:=by have:=congrArg List.length g.keys;rw[Qa,Qa]at this;exact this.symm
 refine Mr (A:=X.A) v.typeIs E fun E'=>?_;refine Zk2 (knd:=tupleKind (ZF X.prog X.w)) (QV E) M (Qs _ rfl) w #[2] ?_ (fun x t=>?_) fun N O P=>?_
 ·have G:=K X.prog X.w;rw[g.keys]at G;obtain⟨_,_,_,_,_,_,_,_,R⟩:=w;rw[show (j.map fun x=>(tupleKind (ZF X.prog X.w)).hash x.1)=(j.map (·.1)).map (tupleKind (ZF X.prog X.w)).hash by rw[Qg];rfl];exact List.pairwise_map.mpr (List.Pairwise.imp_of_mem (fun S i h e=>h (G _ S _ i e)) R)
 ·obtain⟨_,_,_,_,_,_,_,p,_⟩:=w;obtain⟨o,its,n,c,k,_⟩:=p x t;exact⟨o,c,k⟩
 ·have T:∀b d,s.heap.get? b=some d→N.get? b=some d:=fun b d i=>by rw[P.2 b (Qu (Qp i))];exact Qc _ i
  have U:=g.same (H':=upd H s.heap.objs.size (.dT f)) fun b u i=>by rw[Zc (Zb i F)];exact i
  refine⟨.ref s.heap.objs.size,_,I.laid (a:=s.heap.objs.size) (o:=.dT f) (t':=s.toks) T (Qh _) ?_,rfl,q _ F⟩;obtain⟨d,l,m,c,k,B,C,p,D⟩:=O;exact⟨z,beq_eq_false_iff_ne.mpr fun y=>QW _ (y ▸ I.big),j,U,d,l,m,c,k,B,C,D⟩
noncomputable def Mo(a b:Nat):Int:=reduceHash (Builtin.Tuple.tupleHashOf [hashInt (a:Int),hashInt (b:Int)])
noncomputable def Ri:List (Nat×Nat):=(List.range 36).flatMap fun b=>(List.range b).map fun a=>(a,b)
noncomputable def apart:List Int→Bool
 | []=>true
 | x::r=>r.all (fun y=>x != y)&&apart r
theorem Mn:∀l:List Int,apart l=true→l.Nodup
 | [],_=>.nil
 | x::r,h=>by unfold apart at h;rw[Q6,Qau]at h;exact List.nodup_cons.mpr ⟨fun hx=>by have:=h.1 x hx;simp at this,Mn r h.2⟩
theorem ZjP:apart (Ri.map fun p=>Mo p.1 p.2)=true:=by ac_rfl
theorem Mm{α b:Type}(f:α→b):∀l:List α,(l.map f).Nodup→∀x∈l,∀y∈l,f x=f y→x=y
 | [],_,_,h,_,_,_=>by cases h
 | a::r,nd,x,hx,y,hy,e=>by
  rw[Qj,QP]at nd;rcases QF.mp hx with h1|h1
  ·rcases QF.mp hy with h2|h2
   ·rw[h1,h2]
   ·exact absurd (by rw[← h1,e];exact Qd h2) nd.1
  ·rcases QF.mp hy with h2|h2
   ·exact absurd (by rw[← h2,← e];exact Qd h1) nd.1
   ·exact Mm f r nd.2 x h1 y h2 e
theorem Zmg{P:Program}{w:World}{a b c d:Int}(h:0≤a∧a<b∧b<36)(h':0≤c∧c<d∧d<36)(e:(tupleKind (ZF P w)).hash [.inl a,.inl b]=(tupleKind (ZF P w)).hash [.inl c,.inl d]):a=c∧b=d:=by obtain⟨a,rfl⟩:∃n:Nat,a=n:=⟨a.toNat,by lia⟩;obtain⟨b,rfl⟩:∃n:Nat,b=n:=⟨b.toNat,by lia⟩;obtain⟨c,rfl⟩:∃n:Nat,c=n:=⟨c.toNat,by lia⟩;obtain⟨d,rfl⟩:∃n:Nat,d=n:=⟨d.toNat,by lia⟩;have mem:∀a b:Nat,a<b→b<36→(a,b)∈Ri:=fun a b f g=>List.mem_flatMap.mpr ⟨b,Q9.mpr g,List.mem_map.mpr ⟨a,Q9.mpr f,rfl⟩⟩;have:=Mm (fun p:Nat×Nat=>Mo p.1 p.2) Ri (Mn _ ZjP) (a,b) (mem a b #[2] #[2]) (c,d) (mem c d #[2] #[2]) e;injection this with i j;exact⟨by rw[i],by rw[j]⟩
structure CompScC (N N':List Str) (o c:Scope):Prop where
 kind:c.kind=.function
 okind:o.kind=.function
 cel:∀y∈c.names,y.2=.cell→c.names.lookup y.1=some .cell
 loc:∀y∈c.names,y.2=.local→c.names.lookup y.1=some .local
 free:∀y∈c.names,y.2=.free→c.names.lookup y.1=some .free∧(o.names.lookup y.1=some .cell∨o.names.lookup y.1=some .free)
 len:N.length≤N'.length
 same:∀i∈List.range N.length,∀x∈N'[i]?,c.names.lookup x=some .local∨c.names.lookup x=some .free∨c.names.lookup x=some .cell→c.names.lookup x=some .free∧N[i]? = some x
 nd:N'.Nodup
end L2
namespace L2
open PySem PySem.Spec PyProof.Rows
def Has(b:PyProof.Rows.KeyKind)(p:Keyed):Prop:=∃a,b.keyOf p.1=some a
noncomputable def kyd(a:PyProof.Rows.KeyKind)(p:Keyed):a.α:=(a.keyOf p.1).getD a.dflt
section
variable {κ:PyProof.Rows.KeyKind}
def kS(κ:PyProof.Rows.KeyKind)(l:List Keyed):Prop:=l.Pairwise fun p q=>κ.kle (kyd κ p) (kyd κ q)
def kLe(κ:PyProof.Rows.KeyKind)(l m:List Keyed):Prop:=∀x∈l,∀y∈m,κ.kle (kyd κ x) (kyd κ y)
structure Mg (κ:PyProof.Rows.KeyKind) (all out l m:List Keyed):Prop where
 perm:(out++(l++m)).Perm all
 so:kS κ out
 sl:kS κ l
 sm:kS κ m
 ol:kLe κ out l
 om:kLe κ out m
structure Mh (κ:PyProof.Rows.KeyKind) (all l m out:List Keyed):Prop where
 perm:((l++m)++out).Perm all
 so:kS κ out
 sl:kS κ l
 sm:kS κ m
 lo:kLe κ l out
 mo:kLe κ m out
structure LoPre (κ:PyProof.Rows.KeyKind) (a b:Array Keyed):Prop where
 ha:∀p∈a.toList,Has κ p
 hb:∀p∈b.toList,Has κ p
 sa:kS κ a.toList
 sb:kS κ b.toList
 a0:0<a.size
 b0:0<b.size
 fst:∀i,i<a.size→κ.kle (KK κ b 0) (KK κ a i)
 lst:∀i,i<b.size→κ.kle (KK κ b i) (KK κ a (a.size-1))
def Lo(κ:PyProof.Rows.KeyKind)(a b out:Array Keyed)(c d:Nat):Prop:=Mg κ (a.toList++b.toList) out.toList (a.toList.drop c) (b.toList.drop d)
variable {a b out:Array Keyed} {ia ib:Nat}
variable {na nb:Nat}
end
noncomputable def Ml:Nat→List (List Keyed)→List (Nat×Nat)
 | _,[]=>[]
 | o,r::a=>(o,r.length)::Ml (o+r.length) a
noncomputable def Zs7(p:Nat×Nat×Nat):Nat×Nat:=(p.1,p.2.1)
section
variable {prog:Program} {w:World} {A:Around} {E:Value→Shared→Prop} {s:Shared} {κ:PyProof.Rows.KeyKind} {k0:SortKind} {st:SortSt} {eU:Array Keyed}
structure Rn (κ:PyProof.Rows.KeyKind) (k0:SortKind) (eU:Array Keyed) (st:SortSt) (rs:List (List Keyed)) (rest:List Keyed):Prop where
 kind:kindOf st=k0
 failed:failedOf st=none
 arr:(arrOf st).toList=rs.flatten++rest
 perm:(arrOf st).Perm eU
 srt:∀r∈rs,kS κ r
 ne:∀r∈rs,r≠[]
 pend:(pendingOf st).toList.map Zs7=Ml 0 rs
end
section
variable {prog:Program} {w:World} {A:Around} {E:Value→Shared→Prop} {s:Shared} {κ:PyProof.Rows.KeyKind} {k0:SortKind} {st nj:SortSt} {eU:Array Keyed} {α:Type} {lo:Nat}
structure Ph (k0:SortKind) (eU:Array Keyed) (lo:Nat) (nj st:SortSt):Prop where
 kind:kindOf st=k0
 failed:failedOf st=none
 pend:pendingOf st=pendingOf nj
 perm:(arrOf st).Perm eU
 pre:∀k,k<lo→(arrOf st)[k]? = (arrOf nj)[k]?
end
end L2
set_option maxHeartbeats 4000000
namespace L2
open PySem PySem.Spec PyProof.Rows
variable {X:Cx}
end L2
set_option maxHeartbeats 4000000
namespace L2
open PySem PySem.Spec PyProof.Rows
end L2
set_option maxHeartbeats 4000000
namespace L2
open PySem PySem.Spec PyProof.Rows
end L2
set_option maxHeartbeats 4000000
namespace L2
open PySem PySem.Spec PyProof.Rows
@[reducible] def intKd:PyProof.Rows.KeyKind where
 α:=Int
 blt a b:=decide (a<b)
 irrefl a:=by simp
 trans a b c h1 h2:=by simp only[decide_eq_true_eq]at *;lia
 negTrans a b c h:=by
  simp only[decide_eq_true_eq]at *
  lia
 total a b h1 h2:=by simp only[decide_eq_false_iff_not]at *;lia
 keyOf v:=match v with|.int x _=>some x|_=>none
 dflt:=0
def rSrtIA(K:#[7]):List V→Hp→VK→Prop:=fun xs H Q=>∃ (p:Addr) (ns:List Int),xs=[.ref p]∧SqL K H p (ns.map V.int)∧∀ (l:Addr) (a:List Int),H l=none→a.Perm ns→a.Pairwise (·≤·)→Q (.ref l) (upd H l (.lst (a.map V.int)))
end L2
set_option maxHeartbeats 4000000
namespace L2
open PySem PySem.Spec PyProof.Rows
noncomputable def txt:Value→Str
 | .str x _=>x
 | _ => ""
section
variable {prog:Program} {w:World} {A:Around} {E:Value→Shared→Prop} {s:Shared}
def Zsy(w:World)(a:Array (Int×Value)):Prop:=∀e∈a.toList,∃x u,e.2=.str x u∧e.1=NZ w (.inr x)
noncomputable def Mj(a:Array (Int×Value)):List Str:=a.toList.map fun e=>txt e.2
structure SetAt (w:World) (L:Bool) (T:Str→Prop) (o:Obj) (es:Array (Int×Value)) (ep:Nat) (t:SetTable):Prop where
 ex:o.ExactSet
 da:o.data=.set es ep t
 el:Zsy w es
 nd:(Mj es).Nodup
 me:∀x,T x↔x∈Mj es
 sz:es.size<scanBound
 ft:t.fits es.size=true
 ld:t.led=L
 pl:es.size≠0→t.plain=false
end
end L2
set_option maxHeartbeats 4000000
namespace L2
open PySem PySem.Spec PyProof.Rows
end L2
set_option maxHeartbeats 4000000
namespace L2
open PySem PySem.Spec PyProof.Rows
end L2
set_option maxHeartbeats 4000000
namespace L2
open PySem PySem.Spec PyProof.Rows
end L2
set_option maxHeartbeats 4000000
namespace L2
open PySem PySem.Spec PyProof.Rows
end L2
set_option maxHeartbeats 4000000
namespace L2
open PySem PySem.Spec PyProof.Rows
end L2
set_option maxHeartbeats 4000000
namespace L2
open PySem PySem.Spec PyProof.Rows
end L2
set_option maxHeartbeats 4000000
namespace L2
open PySem PySem.Spec PyProof.Rows
theorem Mi:∀ {kvs:List (Key×V)} {vs:List (Key×Value)},KV kvs vs→vs.map (·.1)=kvs.map (·.1)
 | _,_,.nil=>rfl
 | _,_,.cons r t=>by rw[Qj,Qj,Mi t,r.1]
def Me:List V→Hp→VK→Prop:=fun xs H Q=>∃ (d:Addr) (kvs:List (Key×V)) (ns:List Int),xs=[.ref d]∧H d=some (.dK kvs)∧kvs.map (·.1)=ns.map Sum.inl∧0<ns.length∧∀M:Int,M∈ns→(∀a∈ns,a≤M)→Q (.int M) H
theorem Zl1{X:Cx}(hc:X.calm=true):Y1 X (.builtin "max") Me:=by
 intro aa s σ H xs us Q I r h;obtain⟨d,c,g,rfl,F,C,aW,q⟩:=h;obtain⟨u,rfl,G⟩:=Yb r;cases G;obtain⟨z,lo,l,m,J⟩:=(show Z7 X.prog X.w H s.heap d (.dK c) from I.hok d _ F);obtain⟨K,w⟩:=J.dictAt;have hl:c.length=l.length:=m.length;have AU:c.length=g.length:=by have:=congrArg List.length C;simpa using this
 have L:=(Mi m).trans C;have at_int:∀ {i:Nat} {v:Value},(∃k x,l[i]? = some (k,x)∧(ZF X.prog X.w).is k v=true)→∃t,v=.int (g.getD i 0) t:=fun {i v} p=>by
  obtain⟨k,x,y,p⟩:=p;have f:(l.map (·.1))[i]? = some k:=by rw[Qm,y];rfl
  rw[L,Qm]at f;cases B:g[i]? with
  | none=>rw[B]at f;cases f
  | some n =>
   rw[B]at f;have D:k=Sum.inl n:=(Qr f).symm;rw[QE,B];rcases Xh (show Wj k v=true from p) with⟨i',t,a,b⟩|⟨x',t,a,b⟩
   ·rw[D]at a;cases a;exact⟨t,b⟩
   ·rw[D]at a;cases a
 refine call_max_walk (wpAny_pyIter_dict lo w ?_);have E:d<s.heap.objs.size:=w.lt_size;refine⟨_,_,_,_,_,_,_,rfl,Walks.dictKeys (A:=X.A.in1) (knd:=ZF X.prog X.w) (I.ok.hd hc) s.heap.objs.size d (Qu E) l K,⟨⟨_,Qs _ rfl,rfl,rfl⟩,w.push _⟩,(fun b hb=>?_),by lia,CmpOf.ints_gt (fun i=>g.getD i 0) (fun i v p=>?_),fun v M N O y=>?_⟩
 ·show b<(s.heap.push _).objs.size;rw[Q1];rcases QF.mp hb with rfl|hb
  ·exact Qbc _
  ·rcases QF.mp hb with rfl|hb
   ·exact Nat.lt_succ_of_lt E
   ·cases hb
 ·exact at_int p
 ·obtain⟨h1,P⟩:=argBest_gt (fun i=>g.getD i 0) (l.length-1);obtain⟨t',rfl⟩:=at_int O;have R:∀b o,s.heap.get? b=some o→M.get? b=some o:=fun b o e=>by
   refine y b o (fun hm=>?_) (Qc _ e);rcases QF.mp hm with f|hm
   ·exact absurd (f ▸ Qp e) (QW _)
   ·cases hm
  refine⟨.int _,H,I.kept (t':=N) R,⟨t',rfl⟩,q _ ?_ fun a S=>?_⟩
  ·rw[QE,Qb #[2]];exact QX _
  ·obtain⟨j,T,rfl⟩:=List.getElem_of_mem S;have:=P j #[2];rw[QE,Qb T]at this;exact this
theorem Zta{X:Cx}(hc:X.calm=true:=by rfl):Y1 X (.builtin "max") Me:=Zl1 hc
section
variable {X:Cx} {k:Nat}
theorem neE(f:Y5 k X.A):OpR X (compareOp .NotEq) (Zs0 true):=by
 intro aa s σ H x y v u Q I g i h;obtain⟨a,b,c,rfl,rfl,j,l,q⟩:=h;cases g;cases i;obtain⟨_,m,d,n,o⟩:=VL I.hok j;obtain⟨_,p,vb,t,w⟩:=VL I.hok l;cases t;have z:=n.length;refine PySem.W.keq_ne (r:=true) m p o w (QaV (Qas _) (UA f)) (fun e=>?_) ⟨.bl _,H,I,rfl,?_⟩
 ·have:d=[]:=List.length_eq_zero_iff.mp e;rw[this];exact .nil
 ·have:(!(d.length == ([]:List (Key×Value)).length&&true)) = !c.isEmpty:=by rw[← z];cases c<;>rfl
  rw[this];exact q
end
end L2
set_option maxHeartbeats 9000000
namespace My
open PySem L2 PyProof.Rows
noncomputable abbrev Yv:=@List.tail Stmt
noncomputable abbrev Yq(x:List Stmt):=Yv (Yv x)
noncomputable abbrev Yu(x:List Stmt):=Yq (Yq x)
noncomputable abbrev YF(x:List Stmt):=Yu (Yu x)
noncomputable abbrev Zt16(x:List Stmt):=YF (YF x)
noncomputable abbrev Zt32(x:List Stmt):=Zt16 (Zt16 x)
local macro_rules|`(‹$i:num›)=>`(@pv _ $i _ _ (by rfl) (Or.inl rfl) (by decide) (by decide))
local macro_rules|`(tactic|trivial)=>`(tactic|first|exact .inl rfl|exact .inr rfl|decide|exact Nat.le_refl _|lia)
local macro_rules
|`(#[Xns,$a,$b,$c])=>`(PySem.W.nsIn $a mainGlobals $b=some (some (.ref $c)))
|`(#[Xfi,$a,$b,$c,$d])=>`(PySem.W.findIn $a (.ref $b) $c=some (some (.ref $d)))
|`(#[Xlk,$z,$a,$b,$c,$d,$e,$f,$g,$h,$i,$j,$k,$l,$m])=>`(($z).lookup $a=some ⟨$b,$c,.func (PySem.W.fnOf $d $e (Zq $f) (Zm $f) (Zg $f) .none $g $h $i $j $k $l),$m⟩)
|`(#[Xci,$a,$b,$c])=>`(PySem.W.codeIn $a $b $c=true)
|`(#[Xki,$a,$b])=>`(PySem.W.keepIn $a (.ref $b)=true)
|`(#[Xif,$a,$b])=>`(PySem.W.isFn $a (.ref $b)=true)
|`(#[Zf,$a,$b])=>`(@Zf _ _ _ _ _ $a $b)
|`(#[ZD,$a,$b,$c,$d])=>`(@ZD _ _ $a _ _ _ _ $b rfl $c $d (by rfl) (by trivial))
|`(#[ZJ,$a,$b,$c])=>`(@ZJ _ _ _ _ _ _ _ _ $a $b $c)
|`(#[Zj])=>`(@Zj _ _ _ _)
|`(#[Zi,$a])=>`(@Zi _ _ _ $a)
|`(#[Zp,$a])=>`(@Zp _ _ _ _ $a)
|`(#[Xo,$a,$b,$c])=>`(@Xo _ _ _ _ _ _ _ _ $a $b $c)
|`(#[Zl,$a,$b,$c,$d])=>`(@Zl _ _ _ _ _ _ _ _ $a $b $c $d)
|`(#[Zk,$a,$b,$c,$d,$e])=>`(@Zk _ _ _ _ _ _ _ _ _ $a $b $c $d $e (by decide) (by decide) (by rfl) (by rfl))
|`(#[Za,$a,$b])=>`(@Za _ _ _ _ _ $a $b (by rfl))
|`(#[Ze])=>`(@Ze _)
|`(#[Zo,$a,$b,$c])=>`(@Zo _ _ _ _ _ _ _ $a $b $c (fun _ _=>rfl))
|`(#[YU,$a])=>`(@YU _ _ _ _ $a)
|`(#[Ya,$a,$b,$c,$d,$e])=>`(@Ya _ _ _ _ _ _ _ _ _ $a $b $c $d $e (by decide) (by decide) (by rfl) (by rfl))
|`(#[XA,$a,$b,$c,$d])=>`(@XA _ _ _ _ _ _ _ _ $a $b $c $d)
|`(#[Z0,$a,$b])=>`(@Z0 _ _ _ _ _ _ $a $b (by rfl) (by rfl) (by rfl))
|`(#[YI,$a,$b,$c])=>`(@YI _ _ _ _ _ _ _ $a $b $c (by intro _;rfl))
|`(#[ZW,$a,$b,$c])=>`(@ZW _ _ _ _ _ _ _ _ $a $b $c)
|`(#[ZH])=>`(@ZH _)
|`(#[Zz,$a,$b,$c,$d])=>`(@Zz _ _ _ _ _ _ _ _ _ _ _ $a $b $c (by trivial) $d (by decide) (by rfl) (by rfl))
|`(#[Zw])=>`(@Zw _ _ _ _)
|`(#[Xt,$a,$b,$c,$d,$e])=>`(@Xt _ _ _ _ _ _ _ _ _ _ _ _ _ _ $a rfl rfl rfl $b $c $d $e (by intro _;rfl))
|`(#[Xe,$a,$b])=>`(@Xe _ _ _ _ _ _ rfl $a $b (by rfl))
|`(#[pv,$a,$b])=>`(@pv _ $a _ _ (by rfl) $b (by decide) (by decide))
|`(#[cg,$a,$b])=>`(@cg _ _ _ _ _ _ _ _ _ _ _ $a $b rfl (by ac_rfl) (by rfl))
|`(#[cv,$a,$b])=>`(@cv _ _ _ _ _ _ _ _ _ _ _ $a $b rfl (by ac_rfl) (by rfl) (by decide) (by decide))
|`(#[Xy,$a,$b,$c,$d,$e,$f])=>`(@Xy _ _ _ _ _ _ _ _ _ _ _ _ $a $b $c $d $e $f (by rfl) (by rfl) (by rfl) (by rfl) (by rfl))
|`(#[Yf,$a,$b])=>`(@Yf _ _ _ _ _ _ _ $a $b)
|`(#[XT,$a])=>`(@XT _ _ _ _ $a)
|`(#[X5,$a])=>`(@X5 _ _ _ $a (by intro _;rfl))
|`(#[YV,$a])=>`(@YV _ _ _ _ _ $a)
|`(#[XO,$a,$b])=>`(@XO _ _ _ _ $a $b (by rfl) (by decide) (by decide))
|`(#[Wh,$a,$b])=>`(@Wh _ _ _ _ _ _ _ $a $b)
|`(#[Xp])=>`(@Xp _ _ _ _)
|`(#[WK,$a,$b])=>`(@WK _ _ _ _ _ _ _ $a $b)
|`(#[gT,$a,$b,$c])=>`(@gT _ $a _ _ _ $b _ $c (by rfl) (by rfl) (by rfl) (by rfl))
|`(#[Zu,$a,$b])=>`(@Zu _ _ _ _ _ $a $b (by rfl))
|`(#[cw,$a,$b])=>`(@cw _ _ _ _ _ _ _ _ _ _ _ $a $b rfl (by ac_rfl) (by rfl) (by decide) (by decide))
|`(#[ZZ])=>`(@ZZ _ _ _)
|`(#[X4,$a,$b,$c,$d])=>`(@X4 _ _ _ _ _ _ _ _ $a rfl $b $c $d (by intro _;rfl))
|`(#[ZE,$a,$b,$c])=>`(@ZE _ _ $a _ $b rfl $c (by trivial))
|`(#[YL,$a])=>`(@YL _ _ _ _ $a (by rfl))
|`(#[iE,$a,$b,$c])=>`(@iE _ $a _ _ _ _ _ _ _ $b $c (by rfl) (by rfl) (by rfl))
|`(#[WJ,$a,$b])=>`(@WJ _ _ _ _ _ _ $a $b)
|`(#[WG,$a,$b,$c,$d])=>`(@WG _ _ _ _ _ _ _ _ _ _ $a $b $c $d)
|`(#[ZK,$a])=>`(@ZK _ _ _ _ _ $a (by rfl))
|`(#[YT,$a,$b,$c,$d])=>`(@YT _ _ _ _ _ _ _ _ _ _ _ _ $a $b $c $d (by trivial) (by rfl))
|`(#[YD,$a,$b])=>`(@YD _ _ _ _ _ _ _ _ $a $b (by rfl))
|`(#[Uy,$a,$b,$c,$d,$e,$f,$g])=>`(@Uy _ _ _ _ _ $a _ _ _ _ _ _ _ _ _ _ _ _ $b rfl (Or.inl rfl) $c rfl rfl rfl $d $e $f $g (by rfl) (by intro _;rfl) (by trivial))
|`(#[iL,$a,$b])=>`(@iL _ $a _ _ _ $b (by rfl))
|`(#[Wg,$a,$b,$c,$d])=>`(@Wg _ _ $a $b _ _ _ _ _ _ _ _ _ _ _ rfl $c rfl rfl (by decide) rfl rfl $d rfl (by rfl))
|`(#[VJ,$a,$b,$c])=>`(@VJ _ _ _ _ _ _ _ _ _ $a $b $c)
|`(#[VU,$a,$b,$c])=>`(@VU _ _ _ _ _ _ _ _ _ _ $a $b $c)
|`(#[X1,$a,$b,$c,$d,$e])=>`(@X1 _ _ _ _ _ _ _ _ _ _ _ _ _ _ _ $a $b $c $d $e (by trivial) (by rfl) (by rfl) (by rfl))
|`(#[VI,$a,$b,$c])=>`(@VI _ _ _ _ _ _ _ _ _ _ _ _ $a $b $c (by trivial) (by rfl) (by decide) (by rfl) (by rfl))
|`(#[Ut,$a])=>`(@Ut _ _ _ _ _ _ _ _ $a (by rfl) (by rfl))
|`(#[Xg,$a])=>`(@Xg _ _ _ _ $a)
noncomputable def hdS:List Stmt→Stmt
 | a::_=>a
 | []=>.Pass ⟨0,0,0,0⟩
noncomputable abbrev Y2:List Stmt:=PySem.Challenge.pw_mergetree_k22_twins.main.body
noncomputable abbrev Ur:Stmt:=hdS (Zt16 (Yq (Yv Y2)))
noncomputable abbrev Ye:Stmt:=hdS (Zt16 (Yu Y2))
noncomputable abbrev Rh:Stmt:=hdS (Yu (Yq Y2))
noncomputable abbrev Rg:Stmt:=hdS (Yu (Yq (Yv Y2)))
noncomputable abbrev Rf:Stmt:=hdS (YF (Yv Y2))
noncomputable abbrev Rc:Stmt:=hdS (YF (Yq Y2))
noncomputable abbrev P9:Stmt:=hdS (YF (Yq (Yv Y2)))
noncomputable abbrev P7:Stmt:=hdS (YF (Yu Y2))
noncomputable abbrev P6:Stmt:=hdS (YF (Yu (Yv Y2)))
noncomputable abbrev P0:Stmt:=hdS (YF (Yu (Yq (Yv Y2))))
noncomputable abbrev PZ:Stmt:=hdS (Zt16 Y2)
noncomputable abbrev PY:Stmt:=hdS (Zt16 (Yu (Yv Y2)))
noncomputable abbrev PX:Stmt:=hdS (Zt16 (Yu (Yq Y2)))
noncomputable abbrev PV:Stmt:=hdS (Zt16 (YF Y2))
noncomputable abbrev PU:Stmt:=hdS (Zt16 (YF (Yv Y2)))
noncomputable abbrev PR:Stmt:=hdS (Zt16 (YF (Yq Y2)))
noncomputable abbrev S0:Stmt:=hdS (Zt16 (YF (Yq (Yv Y2))))
noncomputable abbrev SY:Stmt:=hdS (Zt16 (YF (Yu Y2)))
noncomputable abbrev PQ:Stmt:=hdS (Zt16 (YF (Yu (Yv Y2))))
noncomputable abbrev PP:Stmt:=hdS (Zt16 (YF (Yu (Yq Y2))))
noncomputable abbrev PN:Stmt:=hdS (Zt16 (YF (Yu (Yq (Yv Y2)))))
noncomputable abbrev SX:Stmt:=hdS (Zt32 Y2)
noncomputable abbrev PM:Stmt:=hdS (Zt32 (Yv Y2))
noncomputable abbrev PL:Stmt:=hdS (Zt32 (Yq Y2))
noncomputable abbrev SW:Stmt:=hdS (Zt32 (Yq (Yv Y2)))
noncomputable abbrev SV:Stmt:=hdS (Zt32 (Yu Y2))
noncomputable abbrev PH:Stmt:=hdS (Zt32 (Yu (Yv Y2)))
noncomputable abbrev PF:Stmt:=hdS (Zt32 (Yu (Yq Y2)))
noncomputable abbrev PD:Stmt:=hdS (Zt32 (Yu (Yq (Yv Y2))))
noncomputable abbrev PB:Stmt:=hdS (Zt32 (YF Y2))
noncomputable abbrev Pz:Stmt:=hdS (Zt32 (YF (Yv Y2)))
noncomputable abbrev Py:Stmt:=hdS (Zt32 (YF (Yq Y2)))
noncomputable abbrev Px:Stmt:=hdS (Zt32 (YF (Yq (Yv Y2))))
noncomputable abbrev SU:Stmt:=hdS (Zt32 (YF (Yu Y2)))
noncomputable abbrev Pw:Stmt:=hdS (Zt32 (YF (Yu (Yv Y2))))
noncomputable abbrev U9:Stmt:=hdS (Zt32 (YF (Yu (Yq Y2))))
noncomputable abbrev Pu:Stmt:=hdS (Zt32 (YF (Yu (Yq (Yv Y2)))))
noncomputable abbrev SS:Stmt:=hdS (Zt32 (Zt16 Y2))
noncomputable abbrev Wy:Stmt:=hdS (Zt32 (Zt16 (Yv Y2)))
noncomputable abbrev Uq:Stmt:=YC Ur 0
noncomputable abbrev Up:Stmt:=YC Ur 1
noncomputable abbrev Uo:Stmt:=YC Ur 2
noncomputable abbrev Um:Stmt:=YC Ur 3
noncomputable abbrev Ul:Stmt:=YC Ur 4
noncomputable abbrev Uk:Stmt:=YC Ye 0
noncomputable abbrev Uj:Stmt:=YC Ye 1
noncomputable abbrev Ui:Stmt:=YC Ye 2
noncomputable abbrev Uh:Stmt:=YC Ye 3
noncomputable abbrev U8:Stmt:=YC Ye 4
noncomputable abbrev U7:Stmt:=YC Ye 5
noncomputable abbrev Z6:Stmt:=YC Ye 6
noncomputable abbrev Ug:Stmt:=YC Ye 7
noncomputable abbrev U6:Stmt:=YC Ye 8
noncomputable abbrev Uf:Stmt:=YC Ye 9
noncomputable abbrev Ue:Stmt:=YC Ye 10
noncomputable abbrev Ud:Stmt:=YC Ye 11
noncomputable abbrev Uc:Stmt:=YC Ye 12
noncomputable abbrev Ub:Stmt:=YC Ye 13
noncomputable abbrev Ua:Stmt:=YC Ye 14
noncomputable abbrev T9:Stmt:=YC Ye 15
noncomputable abbrev Z1:Stmt:=YC Ye 16
noncomputable abbrev T8:Stmt:=YC Ye 17
theorem Md:Zr ["_law_cell", "_law_k", "_law_m"] ["_law_cell", "_law_k"] (Zg PV):=#[0]
theorem Mc:Zr ["_law_script", "_law_k", "_law_cell"] ["_law_script", "_law_k"] (Zg PU):=#[0]
theorem Mb:Zr ["_law_left_here", "_law_many_here", "_law_digit"] ["_law_left_here", "_law_many_here"] (Zg PR):=#[0]
theorem Ma:Zr ["_law_left_here", "_law_some"] ["_law_left_here"] (Zg S0):=#[0]
theorem LZ:Zr ["_law_left_here", "_law_stems_here", "_law_tail"] ["_law_left_here", "_law_stems_here"] (Zg SY):=#[0]
theorem Pt:Zr ["one", "other", "far", "at"] ["one", "other", "far"] (Zg P7):=#[0]
theorem Zop:Zr ["one", "other"] ["one", "other"] (Zg Rf):=#[0]
theorem Ps:Zr ["_law_one", "_law_other", "_law_far"] ["_law_one", "_law_other"] (Zg PM):=#[0]
theorem LY:Zr ["_law_found", "_law_due"] ["_law_found", "_law_due"] (Zg SV):=#[0]
theorem T7:Zr ["_law_left_here", "_law_stems_here", "_law_most", "_law_found", "_law_k", "_law_key_here"] ["_law_left_here", "_law_stems_here", "_law_most"] (Zg PQ):=#[0]
theorem SR:Zr ["row", "told", "place", "key"] ["row"] (Zg PZ):=#[0]
theorem Zkd:Zr ["one", "other", "at"] ["one", "other", "at"] (Zg P6):=#[0]
theorem ZoH:Zr ["one", "other"] ["one", "other"] (Zg Rc):=#[0]
theorem LX:Zr ["one", "other", "far", "at"] ["one", "other", "far"] (Zg P9):=#[0]
theorem LW:Zr ["keys", "place"] ["keys"] (Zg P0):=#[0]
theorem LV:Zr ["numbers", "middle"] ["numbers"] (Zg Rh):=#[0]
theorem LU:Zr ["_law_numbers", "_law_cut"] ["_law_numbers"] (Zg PL):=#[0]
theorem LS:Zr ["_law_left_here", "_law_way_here"] ["_law_left_here"] (Zg PN):=#[0]
theorem Zi8:Zr ["self"] ["self"] (Zg Uo):=#[0]
theorem ZjM:Zr ["self"] ["self"] (Zg Um):=#[0]
theorem Zjx:Zr ["self", "keys"] ["self", "keys"] (Zg Uq):=#[0]
theorem Pr:Zr ["self", "rows", "number", "keys"] ["self", "rows"] (Zg Uk):=#[0]
theorem LR:Zr ["self", "row"] ["self"] (Zg Uj):=#[0]
theorem ZhC:Zr ["self"] ["self"] (Zg U8):=#[0]
theorem Zhz:Zr ["self"] ["self"] (Zg U7):=#[0]
theorem Zff:Zr ["self"] ["self"] (Zg Z6):=#[0]
theorem Zg6:Zr ["self"] ["self"] (Zg Ug):=#[0]
theorem Zfv:Zr ["self"] ["self"] (Zg Ub):=#[0]
theorem Wx:Zr ["self", "numbers", "first_side", "other_side", "one", "other", "winner", "loser", "far"] ["self", "numbers"] (Zg Ua):=#[0]
theorem SQ:Zr ["self", "one", "other", "far", "order", "alike_far", "seen"] ["self", "one", "other", "far"] (Zg T8):=#[0]
theorem LQ:Zr ["number", "keys", "place"] ["number", "keys"] (Zg PY):=#[0]
theorem Zot:Zr ["_law_left_here", "_law_stems_here", "_law_most"] ["_law_left_here", "_law_stems_here", "_law_most"] (Zg PP):=#[0]
theorem Pq:Zr ["_law_left_here", "_law_stems_here", "_law_most"] ["_law_left_here"] (Zg SX):=#[0]
theorem LP:Zr ["_law_heads_here", "_law_numbers", "_law_some"] ["_law_heads_here", "_law_numbers"] (Zg SW):=#[0]
theorem SO:Zr ["_law_rows_here", "_law_own", "_law_n", "_law_row_here"] ["_law_rows_here"] (Zg PH):=#[0]
theorem Pp:Zr ["_law_own", "_law_heads_here", "_law_n"] ["_law_own"] (Zg PF):=#[0]
theorem U5:Zr ["_law_heads_here", "_law_numbers", "_law_one", "_law_other", "_law_here", "_law_there", "_law_a", "_law_b"] ["_law_heads_here", "_law_numbers"] (Zg PD):=#[0]
theorem SN:Zr ["_law_own", "_law_heads_here", "_law_likenings", "_law_looks"] ["_law_own"] (Zg PB):=#[0]
theorem Po:Zr ["_law_own", "_law_heads_here", "_law_n"] ["_law_own"] (Zg Py):=#[0]
theorem Zjm:Zr ["_law_own"] ["_law_own"] (Zg SU):=#[0]
theorem SM:Zr ["_law_merge", "_law_own", "_law_heads_here", "_law_so_far", "_law_told"] ["_law_merge", "_law_own"] (Zg Pw):=#[0]
theorem LO:Zr ["self", "thing"] ["self"] (Zg Ui):=#[0]
theorem LN:Zr ["self", "many", "things"] ["self", "many"] (Zg Uh):=#[0]
theorem T6:Zr ["self", "number", "row", "comer", "meeting"] ["self", "number"] (Zg T9):=#[0]
theorem T5:Zr ["self", "meeting", "comer", "stayer", "winner", "loser", "far"] ["self", "meeting", "comer"] (Zg Z1):=#[0]
theorem VF:Zr ["numbers", "n", "matches", "least", "greatest", "others"] ["numbers", "n"] (Zg PX):=#[0]
theorem VE:Zr ["numbers", "n", "others", "side", "first", "rest"] ["numbers", "n"] (Zg Rg):=#[0]
theorem U4:Zr ["_law_numbers", "_law_n", "_law_some", "_law_way_here", "_law_one", "_law_other"] ["_law_numbers", "_law_n"] (Zg Pz):=#[0]
theorem WX:Zr ["_law_own", "_law_thing", "_law_n", "_law_place", "_law_key_here", "_law_heads_here", "_law_here", "_law_there", "_law_a", "_law_b", "_law_far"] ["_law_own"] (Zg Px):=#[0]
theorem LM:Zr ["self", "row", "number"] ["self", "row"] (Zg Uf):=#[0]
theorem Zgw:Zr ["self", "keys"] ["self", "keys"] (Zg Ul):=#[0]
theorem Zgt:Zr ["self", "n"] ["self", "n"] (Zg Uc):=#[0]
theorem LL:Zr ["self", "n", "many"] ["self", "n"] (Zg Ue):=#[0]
theorem Pn:Zr ["self", "n", "keys", "row", "sent_nothing"] ["self", "n", "keys"] (Zg Ud):=#[0]
theorem Ww:Zr ["_law_left_here", "_law_own", "_law_stems_here", "_law_numbers", "_law_way_here", "_law_n", "_law_least_here", "_law_keys_here", "_law_most"] ["_law_left_here", "_law_own", "_law_stems_here"] (Zg U9):=#[0]
theorem VD:Zr ["_law_merge", "_law_own", "_law_deed", "_law_word", "_law_n", "_law_keys_here", "_law_kept", "_law_many_here", "_law_sent_none"] ["_law_merge", "_law_own", "_law_deed"] (Zg Pu):=#[0]
theorem LK:Zr ["self", "other"] ["self"] (Zg Up):=#[0]
theorem LJ:Zr ["self", "other"] ["self"] (Zg U6):=#[0]
theorem LI:Zr ["_law_own", "_law_made"] ["_law_own"] (Zg SS):=#[0]
theorem XJ:Zr ["_law_script", "_law_k", "_law_left_here", "_law_rows_here", "_law_stems_here", "_law_some", "_law_turn", "_law_merge", "_law_own", "_law_again", "_law_due"] ["_law_script"] (Zg Wy):=#[0]
noncomputable abbrev zsc(l:List (Str×NameKind)):Scope:={ kind:=.function,names:=l,isGenerator:=false,isCoroutine:=false,more:=[] }
noncomputable def ZpS:Scope:=zsc [(".0",.«local»),("_law_k",.«local»),("_law_pick",.globalImplicit),("_law_left_here",.free),("_law_some",.free)]
theorem T4:Z5 ["_law_left_here", "_law_some"] ["_law_left_here", "_law_some", "_law_k"] (Zg S0) ZpS:=⟨rfl,rfl,by ac_rfl,by ac_rfl,by ac_rfl,by decide,by ac_rfl,by ac_rfl⟩
noncomputable def ZpE:Scope:=zsc [(".0",.«local»),("_law_k",.«local»),("_law_pick",.globalImplicit),("_law_left_here",.free)]
theorem SK:Z5 ["_law_left_here", "_law_stems_here", "_law_tail"] ["_law_left_here", "_law_stems_here", "_law_tail", "_law_k"] (Zg SY) ZpE:=⟨rfl,rfl,by ac_rfl,by ac_rfl,by ac_rfl,by decide,by ac_rfl,by ac_rfl⟩
noncomputable def ZoV:Scope:=zsc [(".0",.«local»),("_law_one",.«local»),("_law_other",.«local»),("_law_same",.globalImplicit)]
theorem U3:Z5 ["_law_found", "_law_due"] ["_law_found", "_law_due", "_law_one", "_law_other"] (Zg SV) ZoV:=⟨rfl,rfl,by ac_rfl,by ac_rfl,by ac_rfl,by decide,by ac_rfl,by ac_rfl⟩
noncomputable def Zqf:Scope:=zsc [(".0",.«local»),("row",.«local»)]
theorem Pm:Z5 ["self"] ["self", "row"] (Zg U8) Zqf:=⟨rfl,rfl,by ac_rfl,by ac_rfl,by ac_rfl,by decide,by ac_rfl,by ac_rfl⟩
noncomputable def ZpB:Scope:=zsc [(".0",.«local»),("number",.«local»),("row",.«local»)]
theorem T3:Z5 ["self"] ["self", "number", "row"] (Zg U7) ZpB:=⟨rfl,rfl,by ac_rfl,by ac_rfl,by ac_rfl,by decide,by ac_rfl,by ac_rfl⟩
noncomputable def ZpO:Scope:=zsc [(".0",.«local»),("_law_k",.«local»),("_law_row",.globalImplicit),("_law_left_here",.free),("_law_most",.free),("_law_stems_here",.free)]
theorem U2:Z5 ["_law_left_here", "_law_stems_here", "_law_most"] ["_law_left_here", "_law_stems_here", "_law_most", "_law_k"] (Zg SX) ZpO:=⟨rfl,rfl,by ac_rfl,by ac_rfl,by ac_rfl,by decide,by ac_rfl,by ac_rfl⟩
noncomputable def Zqg:Scope:=zsc [(".0",.«local»),("_law_n",.«local»),("_law_heads_here",.free)]
theorem VC:Z5 ["_law_heads_here", "_law_numbers", "_law_some"] ["_law_heads_here", "_law_numbers", "_law_some", "_law_n"] (Zg SW) Zqg:=⟨rfl,rfl,by ac_rfl,by ac_rfl,by ac_rfl,by decide,by ac_rfl,by ac_rfl⟩
noncomputable def Zpx:Scope:=zsc [(".0",.«local»),("_law_n",.«local»),("len",.globalImplicit),("_law_own",.free)]
theorem VB:Z5 ["_law_own"] ["_law_own", "_law_n"] (Zg SU) Zpx:=⟨rfl,rfl,by ac_rfl,by ac_rfl,by ac_rfl,by decide,by ac_rfl,by ac_rfl⟩
noncomputable def ZpD:Scope:=zsc [(".0",.«local»),("_law_key_here",.«local»),("_law_least_here",.free)]
theorem T0:Z5 ["_law_left_here", "_law_own", "_law_stems_here", "_law_numbers", "_law_way_here", "_law_n", "_law_least_here", "_law_keys_here", "_law_most"] ["_law_left_here", "_law_own", "_law_stems_here", "_law_numbers", "_law_way_here", "_law_n", "_law_least_here", "_law_keys_here", "_law_most", "_law_key_here"] (Zg U9) ZpD:=⟨rfl,rfl,by ac_rfl,by ac_rfl,by ac_rfl,by decide,by ac_rfl,by ac_rfl⟩
noncomputable def Zo6:Scope:=zsc [(".0",.«local»),("_law_key_here",.«local»),("_law_least_here",.free)]
theorem SJ:Z5 ["_law_left_here", "_law_own", "_law_stems_here", "_law_numbers", "_law_way_here", "_law_n", "_law_least_here", "_law_keys_here", "_law_most"] ["_law_left_here", "_law_own", "_law_stems_here", "_law_numbers", "_law_way_here", "_law_n", "_law_least_here", "_law_keys_here", "_law_most", "_law_key_here"] (Zg U9) Zo6:=⟨rfl,rfl,by ac_rfl,by ac_rfl,by ac_rfl,by decide,by ac_rfl,by ac_rfl⟩
noncomputable def Zm8:Scope:=zsc [(".0",.«local»),("_law_key_here",.«local»),("_law_least_here",.free)]
theorem TZ:Z5 ["_law_left_here", "_law_own", "_law_stems_here", "_law_numbers", "_law_way_here", "_law_n", "_law_least_here", "_law_keys_here", "_law_most"] ["_law_left_here", "_law_own", "_law_stems_here", "_law_numbers", "_law_way_here", "_law_n", "_law_least_here", "_law_keys_here", "_law_most", "_law_key_here"] (Zg U9) Zm8:=⟨rfl,rfl,by ac_rfl,by ac_rfl,by ac_rfl,by decide,by ac_rfl,by ac_rfl⟩
noncomputable def ZmY:Scope:=zsc [(".0",.«local»),("number",.«local»),("row",.«local»)]
theorem TY:Z5 ["self", "other"] ["self", "other", "number", "row"] (Zg U6) ZmY:=⟨rfl,rfl,by ac_rfl,by ac_rfl,by ac_rfl,by decide,by ac_rfl,by ac_rfl⟩
noncomputable def Zn6:Scope:=zsc [(".0",.«local»),("_law_n",.«local»),("_law_row_here",.«local»),("list",.globalImplicit)]
theorem U1:Z5 ["_law_own", "_law_made"] ["_law_own", "_law_made", "_law_n", "_law_row_here"] (Zg SS) Zn6:=⟨rfl,rfl,by ac_rfl,by ac_rfl,by ac_rfl,by decide,by ac_rfl,by ac_rfl⟩
noncomputable def Zny:Scope:=zsc [(".0",.«local»),("_law_one",.«local»),("_law_known",.«local»),("_law_stands",.globalImplicit)]
theorem U0:Z5 ["_law_script", "_law_k", "_law_left_here", "_law_rows_here", "_law_stems_here", "_law_some", "_law_turn", "_law_merge", "_law_own", "_law_again", "_law_due"] ["_law_script", "_law_k", "_law_left_here", "_law_rows_here", "_law_stems_here", "_law_some", "_law_turn", "_law_merge", "_law_own", "_law_again", "_law_due", "_law_one", "_law_known"] (Zg Wy) Zny:=⟨rfl,rfl,by ac_rfl,by ac_rfl,by ac_rfl,by decide,by ac_rfl,by ac_rfl⟩
noncomputable def ZnI:Scope:=zsc [(".0",.«local»),("_law_turn",.«local»),("_law_taken",.globalImplicit),("_law_own",.free)]
theorem SI:Z5 ["_law_script", "_law_k", "_law_left_here", "_law_rows_here", "_law_stems_here", "_law_some", "_law_turn", "_law_merge", "_law_own", "_law_again", "_law_due"] ["_law_script", "_law_k", "_law_left_here", "_law_rows_here", "_law_stems_here", "_law_some", "?_law_turn", "_law_merge", "_law_own", "_law_again", "_law_due", "_law_turn"] (Zg Wy) ZnI:=⟨rfl,rfl,by ac_rfl,by ac_rfl,by ac_rfl,by decide,by ac_rfl,by ac_rfl⟩
structure Bt (mg:Str→Option Value):Prop where
 n_abs:mg "abs" = none
 n_all:mg "all" = none
 n_bool:mg "bool" = none
 n_dict:mg "dict" = none
 n_enumerate:mg "enumerate" = none
 n_int:mg "int" = none
 n_isinstance:mg "isinstance" = none
 n_len:mg "len" = none
 n_list:mg "list" = none
 n_max:mg "max" = none
 n_min:mg "min" = none
 n_range:mg "range" = none
 n_sorted:mg "sorted" = none
 n_str:mg "str" = none
 n_sum:mg "sum" = none
 n_tuple:mg "tuple" = none
 n_zip:mg "zip" = none
structure Z9 (K:#[7]) (mg:Str→Option Value) (ab:Addr) (U:Addr):Prop where
 b:Bt mg
 t_halves:Top K mg "halves" Rh ["numbers"]
 t_way_up:Top K mg "way_up" Rg ["numbers", "n"]
 t_alike:Top K mg "alike" Rf ["one", "other"]
 t_liken:Top K mg "liken" Rc ["one", "other"]
 t_liken_from:Top K mg "liken_from" P9 ["one", "other", "far"]
 t_alike_from:Top K mg "alike_from" P7 ["one", "other", "far"]
 t_order_at:Top K mg "order_at" P6 ["one", "other", "at"]
 t_first_break:Top K mg "first_break" P0 ["keys"]
 t_alikes:Top K mg "alikes" PZ ["row"]
 t_refuse_break:Top K mg "refuse_break" PY ["number", "keys"]
 t_matches_up:Top K mg "matches_up" PX ["numbers", "n"]
 t_l_mix:Top K mg "_law_mix" PV ["_law_cell", "_law_k"]
 t_l_left:Top K mg "_law_left" PU ["_law_script", "_law_k"]
 t_l_pick:Top K mg "_law_pick" PR ["_law_left_here", "_law_many_here"]
 t_l_stems:Top K mg "_law_stems" S0 ["_law_left_here"]
 t_l_key:Top K mg "_law_key" SY ["_law_left_here", "_law_stems_here"]
 t_l_keys:Top K mg "_law_keys" PQ ["_law_left_here", "_law_stems_here", "_law_most"]
 t_l_row:Top K mg "_law_row" PP ["_law_left_here", "_law_stems_here", "_law_most"]
 t_l_many:Top K mg "_law_many" PN ["_law_left_here"]
 t_l_rows:Top K mg "_law_rows" SX ["_law_left_here"]
 t_l_alike:Top K mg "_law_alike" PM ["_law_one", "_law_other"]
 t_l_halves:Top K mg "_law_halves" PL ["_law_numbers"]
 t_l_least:Top K mg "_law_least" SW ["_law_heads_here", "_law_numbers"]
 t_l_same:Top K mg "_law_same" SV ["_law_found", "_law_due"]
 t_l_world:Top K mg "_law_world" PH ["_law_rows_here"]
 t_l_heads:Top K mg "_law_heads" PF ["_law_own"]
 t_l_first_play:Top K mg "_law_first_play" PD ["_law_heads_here", "_law_numbers"]
 t_l_play:Top K mg "_law_play" PB ["_law_own"]
 t_l_way:Top K mg "_law_way" Pz ["_law_numbers", "_law_n"]
 t_l_coming:Top K mg "_law_coming" Py ["_law_own"]
 t_l_taken:Top K mg "_law_taken" Px ["_law_own"]
 t_l_left_of:Top K mg "_law_left_of" SU ["_law_own"]
 t_l_stands:Top K mg "_law_stands" Pw ["_law_merge", "_law_own"]
 t_l_late:Top K mg "_law_late" U9 ["_law_left_here", "_law_own", "_law_stems_here"]
 t_l_done:Top K mg "_law_done" Pu ["_law_merge", "_law_own", "_law_deed"]
 t_l_twin_of:Top K mg "_law_twin_of" SS ["_law_own"]
 t_Row_init:Tf K mg ab "Row" "Row.__init__" Uq ["self", "keys"]
 t_Row_copied:Yz K ab "copied" "Row.copied" Up ["self"]
 t_Row_to_go:Yz K ab "to_go" "Row.to_go" Uo ["self"]
 t_Row_head:Yz K ab "head" "Row.head" Um ["self"]
 t_Row_lengthen:Yz K ab "lengthen" "Row.lengthen" Ul ["self", "keys"]
 t_Merge_init:Tf K mg U "Merge" "Merge.__init__" Uk ["self", "rows"]
 t_Merge_coming:Yz K U "coming" "Merge.coming" Uj ["self"]
 t_Merge_take:Yz K U "take" "Merge.take" Ui ["self"]
 t_Merge_take_few:Yz K U "take_few" "Merge.take_few" Uh ["self", "many"]
 t_Merge_left:Yz K U "left" "Merge.left" U8 ["self"]
 t_Merge_heads:Yz K U "heads" "Merge.heads" U7 ["self"]
 t_Merge_likenings:Yz K U "likenings" "Merge.likenings" Z6 ["self"]
 t_Merge_looks:Yz K U "looks" "Merge.looks" Ug ["self"]
 t_Merge_twin:Yz K U "twin" "Merge.twin" U6 ["self"]
 t_Merge_add_row:Yz K U "add_row" "Merge.add_row" Uf ["self", "row"]
 t_Merge_drop_row:Yz K U "drop_row" "Merge.drop_row" Ue ["self", "n"]
 t_Merge_grow:Yz K U "grow" "Merge.grow" Ud ["self", "n", "keys"]
 t_Merge_row_of:Yz K U "row_of" "Merge.row_of" Uc ["self", "n"]
 t_Merge_play_all:Yz K U "play_all" "Merge.play_all" Ub ["self"]
 t_Merge_play:Yz K U "play" "Merge.play" Ua ["self", "numbers"]
 t_Merge_send_out:Yz K U "send_out" "Merge.send_out" T9 ["self", "number"]
 t_Merge_play_again:Yz K U "play_again" "Merge.play_again" Z1 ["self", "meeting", "comer"]
 t_Merge_meet:Yz K U "meet" "Merge.meet" T8 ["self", "one", "other", "far"]
 cl_Row:Cls K ab
 na_Row_all_keys:X3 K ab "all_keys"
 na_Row_fars:X3 K ab "fars"
 na_Row_gone:X3 K ab "gone"
 cl_Merge:Cls K U
 na_Merge_best:X3 K U "best"
 na_Merge_likened:X3 K U "likened"
 na_Merge_looked:X3 K U "looked"
 na_Merge_next_number:X3 K U "next_number"
 na_Merge_rows:X3 K U "rows"
 na_Merge_stays:X3 K U "stays"
 g_MOST_ROWS:∃tk,mg "MOST_ROWS" = some (.int 16 tk)
def Y8(H:Hp)(p:Addr)(c:Int):Prop:=∃a b:Int,H p=some (.lst [.int a,.int b,.int c])∧0≤c
def But(p:Addr)(H H':Hp):Prop:=∀b o,H b=some o→b≠p→H' b=some o
theorem But.trans{p:Addr}{H d e:Hp}(a:But p H d)(b:But p d e):But p H e:=fun c o h n=>b c o (a c o h n) n
theorem But.same{p:Addr}{H b:Hp}(a:ZG H b):But p H b:=fun c o h _=>a c o h
theorem Zh{H:Hp}{p:Addr}(h:H p=none)(o:HO):ZG H (upd H p o):=fun b u q=>by rw[Zc (Zb q h)];exact q
theorem Yo{n:Nat}(h:n≤1000):n≤sizeLine:=Qai (Zy h)
def Pk:Sp:=fun vs H Q _=>∃a k:Int,vs=[.int a,.int k] ∧ -(2 ^ 62)<k∧k<2 ^ 62∧∀r:Int,0≤r→r<2000000000→Q (.int r) H
def LH(K:#[7]):Sp:=fun vs H Q _=>∃ (a:Addr) (ns:List Int) (k:Int),vs=[.ref a,.int k]∧SqL K H a (ns.map V.int)∧ns.length≤63∧0≤k∧k<100 ∧
 ∀ (p:Addr) (b:Hp),H p=none→Y8 b p 0→ZG H b→Q (.ref p) b
def V9:Sp:=fun vs H Q _=>∃ (p:Addr) (c m:Int),vs=[.ref p,.int m]∧Y8 H p c∧c<2 ^ 60∧0<m∧m<1000000 ∧
 ∀ (r:Int) (a:Hp),0≤r→r<m→Y8 a p (c+1)→But p H a→Q (.int r) a
theorem at_int{ns:List Int}{k:Int}(h0:0≤k)(h:k<(ns.length:Int)):∃v:Int,atI (ns.map V.int) k=some (.int v):=by
 have a:k.toNat<ns.length:=by lia
 have b:k=((k.toNat:Nat):Int):=by lia
 have q:atI (ns.map V.int) ((k.toNat:Nat):Int)=some (.int ns[k.toNat]):=Yx (by rw[Qm,Qb a]<;>rfl);rw[← b]at q;exact⟨_,q⟩
theorem Pj{ss:List Str}{k:Int}(h0:0≤k)(h:k<(ss.length:Int)):∃s∈ss,atI (ss.map V.str) k=some (.str s):=by
 have a:k.toNat<ss.length:=by lia
 have b:k=((k.toNat:Nat):Int):=by lia
 have q:atI (ss.map V.str) ((k.toNat:Nat):Int)=some (.str ss[k.toNat]):=Yx (by rw[Qm,Qb a]<;>rfl);rw[← b]at q;exact⟨_,QX a,q⟩
theorem LG(b:Bool):-(2 ^ 64)<(if b=true then (1:Int) else 0)∧(if b=true then (1:Int) else 0)<2 ^ 64:=by cases b<;>decide
theorem VA{z:Str}{k:Int}(h0:0≤k)(h:k<(z.length:Int)):∃c:Nat,z.cps.toList[k.toNat]? = some c∧atI z.cps.toList k=some c:=by
 have hl:z.cps.toList.length=z.length:=by simp[Str.length]
 have a:k.toNat<z.cps.toList.length:=by lia
 have b:k=((k.toNat:Nat):Int):=by lia
 have q:atI z.cps.toList ((k.toNat:Nat):Int)=some z.cps.toList[k.toNat]:=Yx (Qb a);rw[← b]at q;exact⟨_,Qb a,q⟩
theorem ZoN(sep:Str)(ys:List Str):(Txt.join sep ys).length≤(ys.map (·.length)).sum+ys.length*sep.length:=by
 have e:Txt.join sep ys=Str.join sep ys:=by simpa using join_plain_closes sep ys
 rw[e];exact StrLaws.join_length_le sep ys
theorem LF:∀ss:List Str,(∀s∈ss,s.length≤1)→(ss.map (·.length)).sum≤ss.length
 | [],_=>Qh _
 | s::r,h=>by have h1:=h s Q0;have h2:=LF r fun x a=>h x (Qt _ a);rw[Qj,QaD,QL];lia
noncomputable def lcp:List Nat→List Nat→Nat
 | a::r,b::s=>if a=b then lcp r s+1 else 0
 | _,_=>0
theorem UZ:∀ (x y:List Nat),lcp x y≤x.length∧lcp x y≤y.length
 | [],_=>⟨Qw _,Qw _⟩
 | _::_,[]=>⟨Qw _,Qw _⟩
 | a::r,b::s=>by
  have h:=UZ r s;unfold lcp;split
  ·exact⟨Nat.succ_le_succ h.1,Nat.succ_le_succ h.2⟩
  ·exact⟨Qw _,Qw _⟩
theorem Vz:∀ (x y:List Nat),lcp x y=lcp y x
 | [],[]=>rfl
 | [],_::_=>rfl
 | _::_,[]=>rfl
 | a::r,b::s=>by
  unfold lcp;by_cases h:a=b
  ·rw[if_pos h,if_pos h.symm,Vz r s]
  ·rw[if_neg h,if_neg fun e=>h e.symm]
theorem LD:∀x:List Nat,lcp x x=x.length
 | []=>rfl
 | a::r=>by unfold lcp;rw[if_pos rfl,LD r];rfl
theorem UY(x:List Nat):lcp x []=0:=by cases x<;>rfl
theorem lcp_nil'(x:List Nat):lcp [] x=0:=by cases x<;>rfl
theorem Pg:∀ (x y:List Nat) (k:Nat),k≤lcp x y→∀a,x[k]? = some a→y[k]? = some a→k+1≤lcp x y
 | [],_,k,_,a,h,_=>by simp at h
 | _::_,[],k,_,a,_,h=>by simp at h
 | a::r,b::s,0,_,c,h1,h2=>by simp at h1 h2;unfold lcp;rw[if_pos (by rw[h1,h2])];lia
 | a::r,b::s,k+1,h,c,h1,h2=>by
  unfold lcp at h ⊢;by_cases e:a=b
  ·rw[if_pos e]at h ⊢;have:=Pg r s k #[2] c (by simpa using h1) (by simpa using h2);lia
  ·rw[if_neg e]at h;lia
theorem LC:∀ (x y:List Nat) (k:Nat),k<lcp x y→x[k]? = y[k]?
 | [],_,k,h=>by unfold lcp at h;lia
 | _::_,[],k,h=>by unfold lcp at h;lia
 | a::r,b::s,0,h=>by
  unfold lcp at h;by_cases e:a=b
  ·simp[e]
  ·rw[if_neg e]at h;lia
 | a::r,b::s,k+1,h=>by
  unfold lcp at h;by_cases e:a=b
  ·rw[if_pos e]at h;simpa using LC r s k #[2]
  ·rw[if_neg e]at h;lia
theorem UX(x y:List Nat)(k:Nat)(h:k≤lcp x y)(n:x.length≤k∨y.length≤k∨∃a b,x[k]? = some a∧y[k]? = some b∧a≠b):lcp x y=k:=by
 have l:=UZ x y;rcases n with n|n|⟨a,b,c,d,ne⟩
 ·lia
 ·lia
 ·by_cases q:k<lcp x y
  ·have:=LC x y k q;rw[c,d]at this;exact absurd (Qr this) ne
  ·lia
theorem Pf:∀ (x y z:List Nat),(lcp x y≤lcp x z∧lcp y z=lcp x y)∨(lcp x y≤lcp y z∧lcp x z=lcp x y)∨(lcp x z≤lcp x y∧lcp y z=lcp x z)
 | [],y,z=>.inr (.inl ⟨by rw[lcp_nil'];exact Qw _,by rw[lcp_nil',lcp_nil']⟩)
 | x,[],z=>.inl ⟨by rw[UY];exact Qw _,by rw[UY,lcp_nil']⟩
 | x,y,[]=>.inr (.inr ⟨by rw[UY];exact Qw _,by rw[UY,UY]⟩)
 | a::r,b::s,c::t=>by
  have ih:=Pf r s t;unfold lcp;by_cases f:a=b
  ·by_cases d:b=c
   ·rw[if_pos f,if_pos d,if_pos (f.trans d)];lia
   ·rw[if_pos f,if_neg d,if_neg fun e=>d (f.symm.trans e)];lia
  ·rw[if_neg f];by_cases d:b=c
   ·rw[if_pos d,if_neg fun e=>f (e.trans d.symm)];lia
   ·rw[if_neg d];lia
noncomputable abbrev cds(z:Str):List Nat:=z.cps.toList
def AZ(z:Str):Prop:=∀c∈cds z,97≤c∧c≤122
theorem ZpT(x y:Str):cds (x++y)=cds x++cds y:=by show (x++y).cps.toList=_;rw[PySem.Str.cps_append];simp
theorem AZ.app{x y:Str}(a:AZ x)(b:AZ y):AZ (x++y):=fun c h=>by rw[ZpT]at h;exact(Qn.mp h).elim (a c) (b c)
theorem AZ.nil:AZ "":=by unfold AZ cds;ac_rfl
theorem AZ.join:∀ys:List Str,(∀s∈ys,AZ s)→AZ (Str.join "" ys)
 | [],_=>fun c h=>by cases (show c∈([]:List Nat) from h)
 | [x],h=>h x #[4]
 | x::y::r,h=>((h x #[4]).app AZ.nil).app (AZ.join (y::r) fun s a=>h s (Qt _ a))
theorem AZ.joinT(ys:List Str)(h:∀s∈ys,AZ s):AZ (Txt.join "" ys):=by
 have e:Txt.join "" ys=Str.join "" ys:=by simpa using join_plain_closes "" ys
 rw[e];exact AZ.join ys h
theorem AZ.one{z:Str}(a:AZ z){k:Nat}{c:Nat}(h:z.cps.toList[k]? = some c):AZ ⟨#[c]⟩:=fun d hd=>by
 have e:d=c:=by simpa using hd
 rw[e];exact a c (Qo h)
theorem AZ.ok{z:Str}(a:AZ z):PyData.strOk z=true:=by unfold PyData.strOk;rw[Array.all_eq_true];intro i hi;have:=a z.cps[i] #[4];exact decide_eq_true #[2]
theorem ZqW:AZ "ababcz":=by unfold AZ cds;ac_rfl
def V8:Sp:=fun vs H Q _=>∃x y:Str,vs=[.str x,.str y]∧x.length≤1000∧y.length≤1000∧Q (.int (lcp (cds x) (cds y))) H
def SH:Sp:=fun vs H Q _=>∃ (x y:Str) (a:Nat),vs=[.str x,.str y,.int a]∧x.length≤1000∧y.length≤1000∧a≤lcp (cds x) (cds y)∧Q (.int (lcp (cds x) (cds y))) H
def IsD(H:Hp):Nat→V→V→Prop
 | 0,_,_=>False
 | n+1,x,y=>(x=y∧(x=.non∨(∃b,x=.bl b)∨(∃i,x=.int i)∨∃s,x=.str s)) ∨
   (∃ (p q:Addr) (xs ys:List V),x=.ref p∧y=.ref q∧((H p=some (.lst xs)∧H q=some (.lst ys))∨(H p=some (.tup xs)∧H q=some (.tup ys)))∧xs.length=ys.length∧xs.length≤1000∧∀ (i:Nat) (x y:V),xs[i]? = some x→ys[i]? = some y→IsD H n x y)
theorem IsD.mono{H H':Hp}(s:ZG H H'):∀ {n:Nat} {x y:V},IsD H n x y→IsD H' n x y
 | 0,_,_,h=>h.elim
 | n+1,x,y,h=>by
  rcases h with h|⟨p,q,xs,ys,c,d,h,hl,e,f⟩
  ·exact .inl h
  ·refine .inr ⟨p,q,xs,ys,c,d,?_,hl,e,fun i x y a b=>(f i x y a b).mono s⟩;rcases h with⟨a,b⟩|⟨a,b⟩
   ·exact .inl ⟨s _ _ a,s _ _ b⟩
   ·exact .inr ⟨s _ _ a,s _ _ b⟩
def SG(n:Nat):Sp:=fun vs H Q _=>∃x y:V,vs=[x,y]∧IsD H n x y∧∀H',ZG H H'→Q (.bl true) H'
section
variable (K:#[7])
open PySem.W
theorem Zmp:kitAny K (.type "int") (["list", "tuple"].map Value.type)=some false:=by unfold kitAny kitOne kitCls;rfl
theorem Znk:kitAny K (.type "bool") (["list", "tuple"].map Value.type)=some false:=by unfold kitAny kitOne kitCls;rfl
theorem ZmE:kitAny K (.type "str") (["list", "tuple"].map Value.type)=some false:=by unfold kitAny kitOne kitCls;rfl
theorem ZmQ:kitAny K (.type "NoneType") (["list", "tuple"].map Value.type)=some false:=by unfold kitAny kitOne kitCls;rfl
theorem ZmB:kitAny K (.type "list") (["list", "tuple"].map Value.type)=some true:=by unfold kitAny kitOne kitCls;rfl
theorem ZlV:kitAny K (.type "tuple") (["list", "tuple"].map Value.type)=some true:=by unfold kitAny kitOne kitCls;rfl
theorem LA:kitOne K (.type "list") (.type "list")=some true:=by unfold kitOne kitCls;rfl
theorem Lz:kitOne K (.type "list") (.type "tuple")=some false:=by unfold kitOne kitCls;rfl
theorem Ly:kitOne K (.type "tuple") (.type "list")=some false:=by unfold kitOne kitCls;rfl
theorem Lx:kitOne K (.type "tuple") (.type "tuple")=some true:=by unfold kitOne kitCls;rfl
theorem ZmL:kitOne K (.type "int") (.type "str")=some false:=by unfold kitOne kitCls;rfl
theorem Lw:kitOne K (.type "int") (.type "bool")=some false:=by unfold kitOne kitCls;rfl
theorem Zl7:kitOne K (.type "int") (.type "int")=some true:=by unfold kitOne kitCls;rfl
theorem Pe:kitOne K (.type "str") (.type "str")=some true:=by unfold kitOne kitCls;rfl
theorem Lv:kitOne K (.type "NoneType") (.type "str")=some false:=by unfold kitOne kitCls;rfl
theorem Zoe:kitOne K (.type "bool") (.type "str")=some false:=by unfold kitOne kitCls;rfl
theorem Lu:kitOne K (.type "bool") (.type "bool")=some true:=by unfold kitOne kitCls;rfl
end
section
variable {P:Program} {w:World} {K:#[7]} {mg:Str→Option Value} {base:Heap} {ab U:Addr}
theorem ZrB(T:Z9 K mg ab U):Df P w K mg base 1 "_law_mix" ["_law_cell", "_law_k"] Pk:=by
 refine T.t_l_mix.df Md (fun b H Q E h=>?_) (fun ai f A outer s H b Q E hr h=>?_)
 ·obtain⟨a,k,rfl,_⟩:=h;rfl
 obtain⟨a,k,rfl,k1,k2,q⟩:=h;refine⟨_,#[Zf,#[ZD,2,Md.nd,#[3],#[ZJ,Vi,#[ZJ,VY,#[ZJ,YO,#[ZJ,YO,#[ZJ,Vi,‹0›,#[Zj]],#[ZJ,VY,#[ZJ,VY,‹1›,‹1›],#[Zj]]],#[Zj]],#[Zj]],#[Zj]]],#[Zi,#[Zp,#[ZJ,Vi,#[ZJ,VY,‹2›,‹2›],#[Zj]]]]],?_⟩;refine⟨_,rfl,_,_,rfl,rfl,(by show (0:Int)<_;decide),_,rfl,_,rfl,_,_,rfl,rfl,.inl ⟨by lia,by lia⟩,_,_,rfl,rfl,.inr ⟨by decide,by decide⟩,_,_,rfl,rfl,_,_,rfl,rfl,_,_,rfl,rfl,.inr ⟨by decide,by decide⟩,_,_,rfl,rfl,(by show (0:Int)<_;decide),?_⟩;have m0:=Int.emod_nonneg ((a % 2147483629+k*k*7919+11)*48271) (show (2147483647:Int)≠0 by decide);have m1:=QaW ((a % 2147483629+k*k*7919+11)*48271) (show (0:Int)<2147483647 by decide);refine⟨_,rfl,_,rfl,_,_,rfl,rfl,.inl ⟨by lia,by lia⟩,_,_,rfl,rfl,(by show (0:Int)<_;decide),?_⟩;exact q _ (Int.emod_nonneg _ #[6]) (Int.lt_trans (QaW _ #[6]) #[6])
theorem Zpt(T:Z9 K mg ab U):Df P w K mg base 1 "_law_left" ["_law_script", "_law_k"] (LH K):=by
 refine T.t_l_left.df Mc (fun i H Q E h=>?_) (fun ai f A outer s H i Q E hr h=>?_)
 ·obtain⟨a,ns,k,rfl,_⟩:=h;rfl
 obtain⟨a,ns,k,rfl,d,tP,k0,k1,q⟩:=h;refine⟨_,#[Zf,#[ZD,2,Mc.nd,#[3],#[Xo,#[Zl,XS,‹1›,#[Zk,(YB K),#[5],T.b.n_len,Qz,#[Za,‹0›,#[Ze]]],(Zs _)],#[Zo,(ixL K),‹0›,‹1›],#[Zj]]],#[Zi,#[Zp,#[YU,#[Za,#[ZJ,VY,#[Zk,NJ,#[5],T.b.n_abs,boot_abs,#[Za,‹2›,#[Ze]]],#[Ya,NI,#[5],T.b.n_int,boot_int,#[Za,#[XA,NK,#[Zk,NJ,#[5],T.b.n_abs,boot_abs,#[Za,‹2›,#[Ze]]],#[ZJ,NR,#[Zj],#[Zj]],(Zs _)],#[Ze]]]],#[Za,#[ZJ,YO,‹2›,#[ZJ,VY,#[Zj],‹1›]],#[Za,#[Zj],#[Ze]]]]]]]],?_⟩;have j:(ns.map V.int).length=ns.length:=Qa _;have e:NS 10 18:=⟨by decide,by decide,by decide⟩;refine⟨_,rfl,_,rfl,a,_,rfl,.inl d,_,_,rfl,rfl,_,rfl,?_⟩;refine Y3 (fun c=>?_) (fun c=>?_)
 ·have g:k<(((ns.map V.int).length:Nat):Int):=of_decide_eq_true c;rw[j]at g;obtain⟨v,l⟩:=at_int (ns:=ns) k0 g;refine⟨_,rfl,_,rfl,a,_,_,_,rfl,rfl,d,l,?_⟩;refine⟨_,rfl,_,rfl,_,rfl,_,rfl,_,_,rfl,rfl,e,_,_,rfl,rfl,.inr ⟨_,rfl,_,_,rfl,rfl,.inr (LG _),_,rfl,_,rfl,_,_,rfl,rfl,.inl ⟨by decide,by decide⟩,_,_,rfl,rfl,(by show 3≤sizeLine;decide),fun p b=>?_⟩⟩;exact q p _ b ⟨_,_,Zd,Int.le_refl _⟩ (Zh b _)
 ·refine⟨_,rfl,_,rfl,_,rfl,_,rfl,_,_,rfl,rfl,e,_,_,rfl,rfl,.inr ⟨_,rfl,_,_,rfl,rfl,.inr (LG _),_,rfl,_,rfl,_,_,rfl,rfl,.inl ⟨by decide,by decide⟩,_,_,rfl,rfl,(by show 3≤sizeLine;decide),fun p b=>?_⟩⟩;exact q p _ b ⟨_,_,Zd,Int.le_refl _⟩ (Zh b _)
theorem ZpZ(T:Z9 K mg ab U)(j:Df P w K mg base 1 "_law_mix" ["_law_cell", "_law_k"] Pk):Df P w K mg base 2 "_law_pick" ["_law_left_here", "_law_many_here"] V9:=by
 refine T.t_l_pick.df Mb (fun t H Q E h=>?_) (fun ai f A outer s H t Q E k h=>?_)
 ·obtain⟨p,c,m,rfl,_⟩:=h;rfl
 obtain⟨p,c,m,rfl,⟨a,b,l,c0⟩,c1,i,m1,q⟩:=h;refine⟨_,#[Zf,#[Z0,#[ZJ,YO,#[Zo,(ixL K),‹0›,#[Zj]],#[Zj]],#[YI,‹0›,#[Zj],Np]],#[Zf,#[ZW,#[Zl,We,#[Zo,(ixL K),‹0›,#[Zj]],#[Zj],(Zs _)],#[Zf,#[ZD,2,Mb.nd,#[3],#[ZJ,Vi,#[Zo,(ixL K),‹0›,#[Zj]],‹1›]],#[Zf,#[Z0,#[ZJ,Tt,#[Zo,(ixL K),‹0›,#[Zj]],‹1›],#[YI,‹0›,#[Zj],Np]],#[Zi,#[Zp,‹2›]]]],#[ZH]],#[Zi,#[Zp,#[ZJ,Vi,#[ZJ,Tt,#[Zz,j,k,#[Za,#[Zz,j,k,#[Za,#[Zo,(ixL K),‹0›,#[Zj]],#[Za,#[Zo,(ixL K),‹0›,#[Zj]],#[Ze]]],#[5]],#[Za,#[ZJ,YO,#[Zo,(ixL K),‹0›,#[Zj]],#[Zj]],#[Ze]]],#[5]],#[Zj]],‹1›]]]]],?_⟩;have g:(upd H p (.lst [.int a,.int b,.int (c+1)])) p=some (.lst [.int a,.int b,.int (c+1)]):=Zd;refine⟨_,rfl,p,_,_,_,rfl,rfl,SqL.of l,rfl,_,_,rfl,rfl,_,rfl,p,_,_,2,rfl,rfl,l,rfl,?_⟩;refine⟨_,rfl,p,_,_,_,rfl,rfl,SqL.of g,rfl,_,_,rfl,rfl,_,rfl,?_⟩;refine Y3 (fun d=>?_) (fun d=>?_)
 ·refine⟨_,rfl,p,_,_,_,rfl,rfl,SqL.of g,rfl,_,rfl,_,_,rfl,rfl,i,?_⟩;refine⟨_,rfl,p,_,_,_,rfl,rfl,SqL.of g,rfl,_,rfl,_,_,rfl,rfl,⟨i,by lia⟩,_,rfl,p,_,_,0,rfl,rfl,g,rfl,?_⟩;refine⟨_,rfl,?_⟩;refine q _ _ (Int.emod_nonneg _ #[2]) (QaW _ i) ⟨a / m,b,Zd,by lia⟩ fun e o h n=>?_;rw[Zc n,Zc n];exact h
 ·refine⟨_,rfl,p,_,_,_,rfl,rfl,SqL.of g,rfl,_,rfl,p,_,_,_,rfl,rfl,SqL.of g,rfl,_,_,rfl,by lia,by lia,fun r r0 r1=>?_⟩;refine⟨_,rfl,p,_,_,_,rfl,rfl,SqL.of g,rfl,_,_,rfl,rfl,_,_,rfl,by lia,by lia,fun r' lS iY=>?_⟩;refine⟨_,_,rfl,rfl,⟨by decide,by decide⟩,_,rfl,_,_,rfl,rfl,i,?_⟩;refine q _ _ (Int.emod_nonneg _ #[2]) (QaW _ i) ⟨a,b,Zd,by lia⟩ fun e o h n=>?_;rw[Zc n];exact h
noncomputable def WW:List Str:=["", "a", "ab", "aba", "abab", "b", "zebra", "aaaaaaaa", "knowswho", "z", "abababababab",Txt.mul "a" 24]
theorem Zks:∀s∈WW,s.length≤24:=by ac_rfl
theorem ZkR:∀s∈WW,AZ s:=by unfold AZ cds;ac_rfl
def Pd:Sp:=fun vs H Q _=>∃ (p:Addr) (c:Int),vs=[.ref p]∧Y8 H p c∧c<2 ^ 50 ∧
 ∀ (l:Addr) (a:List Str) (d:Int) (b:Hp),H l=none→b l=some (.lst (a.map V.str))→1≤a.length→a.length≤4→(∀s∈a,s.length≤24∧AZ s)→Y8 b p d→c≤d→d≤c+5→But p H b→Q (.ref l) b
def Pc:Sp:=fun vs H Q _=>∃ (p l:Addr) (c:Int) (ss:List Str),vs=[.ref p,.ref l]∧Y8 H p c∧c<2 ^ 50∧H l=some (.lst (ss.map V.str))∧1≤ss.length∧ss.length≤4∧(∀s∈ss,s.length≤24∧AZ s) ∧
 ∀ (z:Str) (a:Int) (b:Hp),z.length≤28→AZ z→Y8 b p a→c≤a→a≤c+6→But p H b→Q (.str z) b
theorem Zov(T:Z9 K mg ab U)(W:Df P w K mg base 2 "_law_pick" ["_law_left_here", "_law_many_here"] V9):Df P w K mg base 3 "_law_stems" ["_law_left_here"] Pd:=by
 refine T.t_l_stems.df Ma (fun vs H Q E h=>?_) (fun ai f A outer s H vs Q E X h=>?_)
 ·obtain⟨p,c,rfl,_⟩:=h;rfl
 obtain⟨p,c,rfl,C,c1,q⟩:=h;refine⟨_,#[Zf,#[ZD,1,Ma.nd,(Or.inr rfl),#[YU,#[Za,#[Zw],#[Za,#[Zw],#[Za,#[Zw],#[Za,#[Zw],#[Za,#[Zw],#[Za,#[Zw],#[Za,#[Zw],#[Za,#[Zw],#[Za,#[Zw],#[Za,#[Zw],#[Za,#[Zw],#[Za,#[ZJ,Zp4,#[Zw],#[Zj]],#[Ze]]]]]]]]]]]]]]],#[Zi,#[Zp,#[Xt,T4,#[Xe,T.b.n_range,#[Za,#[ZJ,YO,#[Zj],#[Zz,W,X,#[Za,#[pv,0,(Or.inr #[3])],#[Za,#[Zj],#[Ze]]],#[5]]],#[Ze]]],(fun _ _ _ _=>#[cg,2,T4]),(fun _ _ _ _=>(@Xn _)),(fun _ _ _ _=>#[Zo,(ixL K),#[cv,1,T4],#[Zz,W,X,#[Za,#[cv,0,T4],#[Za,#[Zj],#[Ze]]],(Wb T4 rfl #[1])]])]]]],?_⟩;refine⟨_,_,rfl,rfl,by decide,by decide,by decide,(by show 12≤sizeLine;decide),fun l Y=>?_⟩;have F:p≠l:=by obtain⟨a,b,d,_⟩:=C;exact Zb d Y
 have A7:Y8 (upd H l (.lst (WW.map V.str))) p c:=by obtain⟨a,b,d,c0⟩:=C;exact⟨a,b,by rw[Zc F];exact d,c0⟩
 refine⟨_,rfl,p,c,_,rfl,A7,by lia,by decide,by decide,fun r H1 r0 r1 Z t=>?_⟩;refine⟨_,_,rfl,rfl,_,rfl,by lia,by lia,fun D g=>?_⟩;have c0:0≤c:=by obtain⟨a,b,d,c0⟩:=C;exact c0
 have pO:H1 l=some (.lst (WW.map V.str)):=t l _ Zd F.symm;have k:p≠D:=by obtain⟨a,b,d,_⟩:=Z;exact Zb d g
 have y:l≠D:=Zb pO g;refine Tn (fun i z G j=>∃ (ss:List Str) (v:Option V) (c2:Int),G=[some (.ref p),some (.ref l),v]∧z=ss.map V.str∧ss.length=i∧(∀s∈ss,s.length≤24∧AZ s)∧Y8 j p c2∧c+1≤c2∧c2≤c+1+i ∧
   j l=some (.lst (WW.map V.str))∧j D=some (.lst z)∧But p H j) ?_ ?_ ?_
 ·refine⟨[],none,c+1,rfl,rfl,rfl,(fun s m=>by cases m),?_,by lia,by lia,?_,Zd,?_⟩
  ·obtain⟨a,b,d,I⟩:=Z;exact⟨a,b,by rw[Zc k];exact d,I⟩
  ·rw[Zc y];exact pO
  ·intro b o e n;have e1:(upd H l (.lst (WW.map V.str))) b=some o:=by rw[Zc (Zb e Y)];exact e
   have B:=t b o e1 n;rw[Zc (Zb B g)];exact B
 ·rintro i z G j hi ⟨ss,v,c2,rfl,rfl,J,m,L,b1,b2,bm,M,N⟩;refine⟨_,rfl,_,rfl,p,c2,_,rfl,L,by lia,by decide,by decide,fun r' H3 lS iY L3 O=>?_⟩;obtain⟨s,fX,eD⟩:=Pj (ss:=WW) lS iY;have im:H3 D=some (.lst (ss.map V.str)):=O D _ M k.symm;have dC:H3 l=some (.lst (WW.map V.str)):=O l _ bm F.symm;refine⟨l,_,_,_,rfl,rfl,SqL.of dC,eD,im,(by rw[Qa,J];exact Zy #[2]),ss++[s],_,c2+1,rfl,?_,?_,?_,?_,by lia,by lia,?_,Zd,?_⟩
  ·rw[Qf];rfl
  ·rw[Qi,J];rfl
  ·intro x hx;rcases Qn.mp hx with hx|hx
   ·exact m x hx
   ·rw[Qk.mp hx];exact⟨Zks s fX,ZkR s fX⟩
  ·obtain⟨a,b,d,I⟩:=L3;exact⟨a,b,by rw[Zc k];exact d,I⟩
  ·rw[Zc y];exact dC
  ·intro b o e n;have B:=O b o (N b o e n) n;have R:H D=none:=by
    cases S:H D with
    | none=>rfl
    | some u =>
     have tQ:D≠p:=k.symm;have z1:(upd H l (.lst (WW.map V.str))) D=some u:=by rw[Zc y.symm];exact S
     rw[t D u z1 tQ]at g;cases g
   rw[Zc (Zb e R)];exact B
 ·rintro z G j ⟨ss,v,c2,rfl,rfl,J,m,L,b1,b2,bm,M,N⟩;have R:H D=none:=by
   cases S:H D with
   | none=>rfl
   | some u =>
    have z1:(upd H l (.lst (WW.map V.str))) D=some u:=by rw[Zc y.symm];exact S
    rw[t D u z1 k.symm]at g;cases g
  exact q D ss c2 j R M #[2] #[2] m L #[2] #[2] N
theorem Zra(T:Z9 K mg ab U)(F:Df P w K mg base 2 "_law_pick" ["_law_left_here", "_law_many_here"] V9):Df P w K mg base 3 "_law_key" ["_law_left_here", "_law_stems_here"] Pc:=by
 refine T.t_l_key.df LZ (fun vs H Q E h=>?_) (fun ai f A outer s H vs Q E G h=>?_)
 ·obtain⟨p,l,c,ss,rfl,_⟩:=h;rfl
 obtain⟨p,l,c,ss,rfl,I,c1,J,n1,n4,jB,q⟩:=h;refine⟨_,#[Zf,#[ZD,2,LZ.nd,#[3],#[Xy,PySem.F.plainAttrs_str,PySem.F.slot_str_join,PySem.F.type_str_join,(ZrU K),#[Zw],#[Za,#[Xt,SK,#[Xe,T.b.n_range,#[Za,#[Zz,F,G,#[Za,#[pv,0,(Or.inr #[3])],#[Za,#[Zj],#[Ze]]],#[5]],#[Ze]]],(fun _ _ _ _=>#[cg,3,SK]),(fun _ _ _ _=>(@Xn _)),(fun _ _ _ _=>#[Zo,VR,#[Zw],#[Zz,F,G,#[Za,#[cv,0,SK],#[Za,#[Zj],#[Ze]]],(Wb SK rfl #[1])]])],#[Ze]]]],#[Zi,#[Zp,#[ZJ,RN,#[Zo,(ixL K),‹1›,#[Zz,F,G,#[Za,#[pv,0,(Or.inr #[3])],#[Za,#[Zk,(YB K),#[5],T.b.n_len,Qz,#[Za,‹1›,#[Ze]]],#[Ze]]],#[5]]],‹2›]]]],?_⟩;have c0:0≤c:=by obtain⟨a,b,g,c0⟩:=I;exact c0
 have L:p≠l:=by
  obtain⟨a,b,g,_⟩:=I;refine RV g J fun e=>?_;have e1:=congrArg List.length (HO.lst.inj e);cases ss with
  | nil=>cases e1
  | cons x r=>exact absurd (HO.lst.inj e) (by intro z;cases z)
 refine⟨rfl,_,rfl,p,c,_,rfl,I,by lia,by decide,by decide,fun r H1 r0 r1 L1 M=>?_⟩;refine⟨_,rfl,by lia,by lia,fun D t=>?_⟩;have y:p≠D:=by obtain⟨a,b,g,_⟩:=L1;exact Zb g t
 have pO:=M l _ J L.symm;have lT:l≠D:=Zb pO t;have wM:H D=none:=by
  cases w':H D with
  | none=>rfl
  | some u=>rw[M D u w' y.symm]at t;cases t
 refine Tn (fun i B N k=>∃ (d:List Str) (v:Option V) (c2:Int),N=[some (.ref p),some (.ref l),none,v]∧B=d.map V.str∧d.length=i∧(∀s∈d,s.length≤1∧AZ s)∧Y8 k p c2∧c+1≤c2∧c2≤c+1+i ∧
   k D=some (.lst B)∧But p H k) ?_ ?_ ?_
 ·refine⟨[],none,c+1,rfl,rfl,rfl,(fun s j=>by cases j),?_,by lia,by lia,Zd,?_⟩
  ·obtain⟨a,b,g,O⟩:=L1;exact⟨a,b,by rw[Zc y];exact g,O⟩
  ·intro b o e n;rw[Zc (Zb e wM)];exact M b o e n
 ·rintro i B N k hi ⟨d,v,c2,rfl,rfl,R,j,S,b1,b2,W,C⟩;refine⟨_,rfl,p,c2,_,rfl,S,by lia,by decide,by decide,fun r' X Y iY Z m=>?_⟩;obtain⟨ch,A8,dR⟩:=VA (z := "ababcz") Y iY;have im:X D=some (.lst (d.map V.str)):=m D _ W y.symm;refine⟨_,_,_,rfl,rfl,#[1],dR,im,(by rw[Qa,R];exact Zy #[2]),d++[⟨#[ch]⟩],_,c2+1,rfl,?_,?_,?_,?_,by lia,by lia,Zd,?_⟩
  ·rw[Qf];rfl
  ·rw[Qi,R];rfl
  ·intro x hx;rcases Qn.mp hx with hx|hx
   ·exact j x hx
   ·rw[Qk.mp hx];exact⟨Qh 1,ZqW.one A8⟩
  ·obtain⟨a,b,g,O⟩:=Z;exact⟨a,b,by rw[Zc y];exact g,O⟩
  ·intro b o e n;rw[Zc (Zb e wM)];exact m b o (C b o e n) n
 ·rintro B N k ⟨d,v,c2,rfl,rfl,R,j,S,b1,b2,W,C⟩;have wN:=LF d fun s h=>(j s h).1;have jC:=ZoN "" d;have e0:("" : Str).length=0:=by ac_rfl
  rw[e0]at jC;have bm:=C l _ J L.symm;refine⟨_,D,d,rfl,rfl,SqL.of W,(by rw[e0];lia),?_⟩;have ao:(((ss.map V.str).length:Nat):Int)=(ss.length:Int):=by rw[Qa]
  refine⟨_,rfl,_,rfl,_,rfl,l,_,rfl,.inl (SqL.of bm),p,c2,_,rfl,S,by lia,by lia,by lia,fun r' X Y iY Z m=>?_⟩;obtain⟨st,fX,eD⟩:=Pj (ss:=ss) Y #[2];have bK:=(jB st fX).1;refine⟨l,_,_,_,rfl,rfl,SqL.of (m l _ bm L.symm),eD,_,rfl,_,_,rfl,rfl,Yo #[2],?_⟩;refine q _ (c2+1) X ?_ ((jB st fX).2.app (AZ.joinT d fun s h=>(j s h).2)) Z #[2] #[2] (C.trans m);rw[QaX];lia
theorem ZhL(T:Z9 K mg ab U):Df P w K mg base 1 "alike_from" ["one", "other", "far"] SH:=by
 refine T.t_alike_from.df Pt (fun D H Q E h=>?_) (fun ai f A outer s H D Q E hr h=>?_)
 ·obtain⟨x,y,c,rfl,_⟩:=h;rfl
 obtain⟨x,y,c,rfl,p,r,F,q⟩:=h;refine⟨_,#[Zf,#[ZD,3,Pt.nd,#[3],‹2›],#[Zf,(@UF _ _ _ _ _ _ PassesOwn.never (@PW.pt _ _ _ #[Yf,#[Zl,XS,‹3›,#[Zk,Wc,#[5],T.b.n_len,Qz,#[Za,‹0›,#[Ze]]],(Zs _)],#[Yf,#[Zl,XS,‹3›,#[Zk,Wc,#[5],T.b.n_len,Qz,#[Za,‹1›,#[Ze]]],(Zs _)],#[XT,#[Zl,YH,#[Zo,VR,‹0›,‹3›],#[Zo,VR,‹1›,‹3›],(Zs _)]]]]) #[Zi,(@Zq2 _ _ 3 _ _ _ _ _ _ Pt.nd rfl #[3] #[Zj] Zrh (by trivial))]),#[Zi,#[Zp,‹3›]]]],?_⟩;refine⟨_,rfl,?_⟩;have lx:(cds x).length=x.length:=by simp[Str.length]
 have ly:(cds y).length=y.length:=by simp[Str.length]
 have ll:=UZ (cds x) (cds y);refine⟨fun m t g=>∃k:Nat,t=[some (.str x),some (.str y),some (.int c),some (.int k)]∧g=H∧k≤lcp (cds x) (cds y)∧m=lcp (cds x) (cds y)-k,⟨_,c,rfl,rfl,F,rfl⟩,?_⟩;rintro m t g ⟨k,rfl,rfl,d,rfl⟩;refine⟨_,rfl,_,rfl,x,rfl,Yo p,_,_,rfl,rfl,_,rfl,?_⟩;refine Y3 (fun i=>?_) (fun i=>?_)
 ·have u:(k:Int)<(x.length:Int):=of_decide_eq_true i;refine⟨_,rfl,_,rfl,y,rfl,Yo r,_,_,rfl,rfl,_,rfl,?_⟩;refine Y3 (fun j=>?_) (fun j=>?_)
  ·have v:(k:Int)<(y.length:Int):=of_decide_eq_true j;obtain⟨a,l,G⟩:=VA (z:=x) (k:=k) #[2] u;obtain⟨b,n,I⟩:=VA (z:=y) (k:=k) #[2] v;rw[Qa0]at l n;refine⟨_,rfl,_,rfl,x,_,a,rfl,rfl,Yo p,G,_,rfl,_,rfl,y,_,b,rfl,rfl,Yo r,I,rfl,_,rfl,?_⟩;refine Y3 (fun o=>?_) (fun o=>?_)
   ·have J:a=b:=by have:=of_decide_eq_true o;injection this with e;injection e with e;simpa using e
    subst J;have:=Pg _ _ k d a l n;refine⟨fun B C=>B=[some (.str x),some (.str y),some (.int c),some (.int ((k+1:Nat):Int))]∧C=g,fun B C ⟨L,M⟩=>⟨_,?_,k+1,L,M,this,rfl⟩,?_⟩
    ·lia
    ·exact⟨_,rfl,_,_,rfl,rfl,rfl,rfl⟩
   ·refine⟨_,rfl,?_⟩;have e:=UX _ _ k d (.inr (.inr ⟨a,b,l,n,fun e=>o (by subst e;exact decide_eq_true rfl)⟩));rw[e]at q;exact q
  ·refine YZ ⟨_,rfl,?_⟩;have v:¬ (k:Int)<(y.length:Int):=of_decide_eq_false (Qac.mpr j);have e:=UX _ _ k d (.inr (.inl #[2]));rw[e]at q;exact q
 ·refine YZ ⟨_,rfl,?_⟩;have u:¬ (k:Int)<(x.length:Int):=of_decide_eq_false (Qac.mpr i);have e:=UX _ _ k d (.inl #[2]);rw[e]at q;exact q
theorem Zm1(T:Z9 K mg ab U)(a:Df P w K mg base 1 "alike_from" ["one", "other", "far"] SH):Df P w K mg base 2 "alike" ["one", "other"] V8:=by
 refine T.t_alike.df Zop (fun b H Q E h=>?_) (fun ai f A outer s H b Q E c h=>?_)
 ·obtain⟨x,y,rfl,_⟩:=h;rfl
 obtain⟨x,y,rfl,d,e,q⟩:=h;refine⟨_,#[Zi,#[Zp,#[Zz,a,c,#[Za,‹0›,#[Za,‹1›,#[Za,#[Zj],#[Ze]]]],#[5]]]],?_⟩;exact⟨_,rfl,_,rfl,x,y,0,rfl,d,e,Qw _,q⟩
theorem Zk3(T:Z9 K mg ab U):Df P w K mg base 1 "_law_alike" ["_law_one", "_law_other"] V8:=by
 refine T.t_l_alike.df Ps (fun C H Q E h=>?_) (fun ai f A outer s H C Q E hr h=>?_)
 ·obtain⟨x,y,rfl,_⟩:=h;rfl
 obtain⟨x,y,rfl,o,p,q⟩:=h;refine⟨_,#[Zf,#[ZD,2,Ps.nd,#[3],#[Zj]],#[Zf,(@UF _ _ _ _ _ _ PassesOwn.never (@PW.pt _ _ _ #[Yf,#[Zl,XS,‹2›,#[Zk,Wc,#[5],T.b.n_len,Qz,#[Za,‹0›,#[Ze]]],(Zs _)],#[Yf,#[Zl,XS,‹2›,#[Zk,Wc,#[5],T.b.n_len,Qz,#[Za,‹1›,#[Ze]]],(Zs _)],#[XT,#[Zl,YH,#[Zo,VR,‹0›,‹2›],#[Zo,VR,‹1›,‹2›],(Zs _)]]]]) #[Zi,#[ZD,2,Ps.nd,#[3],#[ZJ,YO,‹2›,#[Zj]]]]),#[Zi,#[Zp,‹2›]]]],?_⟩;have lx:(cds x).length=x.length:=by simp[Str.length]
 have ly:(cds y).length=y.length:=by simp[Str.length]
 have ll:=UZ (cds x) (cds y);refine⟨fun m r d=>∃k:Nat,r=[some (.str x),some (.str y),some (.int k)]∧d=H∧k≤lcp (cds x) (cds y)∧m=lcp (cds x) (cds y)-k,⟨_,0,rfl,rfl,Qw _,rfl⟩,?_⟩;rintro m r d ⟨k,rfl,rfl,c,rfl⟩;refine⟨_,rfl,_,rfl,x,rfl,Yo o,_,_,rfl,rfl,_,rfl,?_⟩;refine Y3 (fun g=>?_) (fun g=>?_)
 ·have t:(k:Int)<(x.length:Int):=of_decide_eq_true g;refine⟨_,rfl,_,rfl,y,rfl,Yo p,_,_,rfl,rfl,_,rfl,?_⟩;refine Y3 (fun i=>?_) (fun i=>?_)
  ·have u:(k:Int)<(y.length:Int):=of_decide_eq_true i;obtain⟨a,j,D⟩:=VA (z:=x) (k:=k) #[2] t;obtain⟨b,l,F⟩:=VA (z:=y) (k:=k) #[2] u;rw[Qa0]at j l;refine⟨_,rfl,_,rfl,x,_,a,rfl,rfl,Yo o,D,_,rfl,_,rfl,y,_,b,rfl,rfl,Yo p,F,rfl,_,rfl,?_⟩;refine Y3 (fun n=>?_) (fun n=>?_)
   ·have G:a=b:=by have:=of_decide_eq_true n;injection this with e;injection e with e;simpa using e
    subst G;have:=Pg _ _ k c a j l;refine⟨fun v B=>v=[some (.str x),some (.str y),some (.int ((k+1:Nat):Int))]∧B=d,fun v B ⟨I,J⟩=>⟨_,?_,k+1,I,J,this,rfl⟩,?_⟩
    ·lia
    ·exact⟨_,rfl,_,_,rfl,rfl,rfl,rfl⟩
   ·refine⟨_,rfl,?_⟩;have e:=UX _ _ k c (.inr (.inr ⟨a,b,j,l,fun e=>n (by subst e;exact decide_eq_true rfl)⟩));rw[e]at q;exact q
  ·refine YZ ⟨_,rfl,?_⟩;have u:¬ (k:Int)<(y.length:Int):=of_decide_eq_false (Qac.mpr i);have e:=UX _ _ k c (.inr (.inl #[2]));rw[e]at q;exact q
 ·refine YZ ⟨_,rfl,?_⟩;have t:¬ (k:Int)<(x.length:Int):=of_decide_eq_false (Qac.mpr g);have e:=UX _ _ k c (.inl #[2]);rw[e]at q;exact q
theorem YE{c A B:Prop}[Decidable c](hc:c)(h:A):if decide c=true then A else B:=by rw[if_pos (decide_eq_true hc)];exact h
theorem Yn{c A B:Prop}[Decidable c](hc:¬ c)(h:B):if decide c=true then A else B:=by rw[if_neg (by rw[decide_eq_false hc];exact Qq)];exact h
theorem Ls(T:Z9 K mg ab U):∀n:Nat,Df P w K mg base (n+1) "_law_same" ["_law_found", "_law_due"] (SG n)
 | 0=>by
  refine T.t_l_same.df LY (fun vs H Q E h=>?_) (fun ai f A outer s H vs Q E m h=>?_)
  ·obtain⟨x,y,rfl,_⟩:=h;rfl
  obtain⟨x,y,rfl,h,_⟩:=h;exact h.elim
 | n+1=>by
  have aH:=Ls T n;refine T.t_l_same.df LY (fun vs H Q E h=>?_) (fun ai f A outer s H vs Q E m h=>?_)
  ·obtain⟨x,y,rfl,_⟩:=h;rfl
  obtain⟨x,y,rfl,u,q⟩:=h;refine⟨_,#[Zf,#[ZW,#[X5,#[Zk,(Zr9 K),#[5],T.b.n_isinstance,boot_isinstance,#[Za,‹1›,#[Za,#[YV,#[Za,#[XO,T.b.n_list,boot_list],#[Za,#[XO,T.b.n_tuple,boot_tuple],#[Ze]]]],#[Ze]]]]],#[Zf,#[ZW,(@PW.pt _ _ _ #[Wh,#[Zl,NL,#[Zk,(Xc K),#[5],T.b.n_isinstance,boot_isinstance,#[Za,‹0›,#[Za,#[XO,T.b.n_list,boot_list],#[Ze]]]],#[Zk,(Xc K),#[5],T.b.n_isinstance,boot_isinstance,#[Za,‹1›,#[Za,#[XO,T.b.n_list,boot_list],#[Ze]]]],(Zs _)],(@Vn _ _ _ _ #[Zl,NL,#[Zk,(Xc K),#[5],T.b.n_isinstance,boot_isinstance,#[Za,‹0›,#[Za,#[XO,T.b.n_tuple,boot_tuple],#[Ze]]]],#[Zk,(Xc K),#[5],T.b.n_isinstance,boot_isinstance,#[Za,‹1›,#[Za,#[XO,T.b.n_tuple,boot_tuple],#[Ze]]]],(Zs _)])]),#[Zi,#[Zp,#[Xp]]],#[ZH]],#[Zi,#[Zp,#[WK,#[XA,YH,#[Zk,(YB K),#[5],T.b.n_len,Qz,#[Za,‹0›,#[Ze]]],#[Zk,(YB K),#[5],T.b.n_len,Qz,#[Za,‹1›,#[Ze]]],(Zs _)],(@Vm _ _ _ _ _ #[Zk,(MY K),#[5],T.b.n_all,boot_all,#[Za,#[Xt,U3,(@iZ _ K _ _ _ _ _ _ _ _ T.b.n_zip #[Za,‹0›,#[Za,‹1›,#[Ze]]] #[5] #[5] #[5] #[5]),(fun _ _ _ _=>#[gT,K,2,#[Zu,#[cg,2,U3],#[Zu,#[cg,3,U3],(@Yy _)]]]),(fun _ _ _ _=>(@Xn _)),(fun _ _ _ _=>#[Zz,aH,m,#[Za,#[cw,2,U3],#[Za,#[cw,3,U3],#[Ze]]],(Wb U3 rfl #[1])])],#[Ze]]])]]]],#[ZH]],#[Zf,#[ZW,(@PW.pt _ _ _ #[Wh,#[Zl,XR,‹1›,#[ZZ],(Zs _)],(@Vn _ _ _ _ #[X5,#[Zk,(Xc K),#[5],T.b.n_isinstance,boot_isinstance,#[Za,‹1›,#[Za,#[XO,T.b.n_str,boot_str],#[Ze]]]]])]),#[Zi,#[Zp,#[WK,#[XA,YH,‹0›,‹1›,(Zs _)],(@Vm _ _ _ _ _ #[XA,YH,#[Zk,(Xc K),#[5],T.b.n_isinstance,boot_isinstance,#[Za,‹0›,#[Za,#[XO,T.b.n_str,boot_str],#[Ze]]]],#[Zk,(Xc K),#[5],T.b.n_isinstance,boot_isinstance,#[Za,‹1›,#[Za,#[XO,T.b.n_str,boot_str],#[Ze]]]],(Zs _)])]]],#[ZH]],#[Zf,#[ZW,#[X5,#[Zk,(Xc K),#[5],T.b.n_isinstance,boot_isinstance,#[Za,‹1›,#[Za,#[XO,T.b.n_bool,boot_bool],#[Ze]]]]],#[Zi,#[Zp,#[WK,#[Zk,(Xc K),#[5],T.b.n_isinstance,boot_isinstance,#[Za,‹0›,#[Za,#[XO,T.b.n_bool,boot_bool],#[Ze]]]],(@Vm _ _ _ _ _ #[XA,YH,‹0›,‹1›,(Zs _)])]]],#[ZH]],#[Zi,#[Zp,#[WK,#[Zk,(Xc K),#[5],T.b.n_isinstance,boot_isinstance,#[Za,‹0›,#[Za,#[XO,T.b.n_int,boot_int],#[Ze]]]],#[WK,(@Zq5 _ _ _ _ #[Zk,(Xc K),#[5],T.b.n_isinstance,boot_isinstance,#[Za,‹0›,#[Za,#[XO,T.b.n_bool,boot_bool],#[Ze]]]]),(@Vm _ _ _ _ _ #[XA,YH,‹0›,‹1›,(Zs _)])]]]]]]],?_⟩;refine⟨_,rfl,(by show 2≤sizeLine;decide),fun c v=>?_⟩;have R:ZG H (upd H c (.tup (["list", "tuple"].map V.ty))):=Zh v _;rcases u with⟨rfl,rfl|⟨b,rfl⟩|⟨i,rfl⟩|⟨z,rfl⟩⟩|⟨p,t,xs,ys,rfl,rfl,⟨B,C⟩|⟨B,C⟩,hl,hz,hi⟩
  ·refine⟨_,c,["list", "tuple"],_,_,rfl,Zd,.non,ZmQ K,_,rfl,YZ ?_⟩;refine⟨_,rfl,rfl,_,rfl,YE rfl (Xu ?_)⟩;refine⟨_,rfl,_,rfl,rfl,_,rfl,YE rfl ?_⟩;exact⟨_,rfl,_, "str",_,_,rfl,.non,Lv K,_,rfl,_, "str",_,_,rfl,.non,Lv K,rfl,q _ R⟩
  ·refine⟨_,c,["list", "tuple"],_,_,rfl,Zd,.bl b,Znk K,_,rfl,YZ ?_⟩;refine⟨_,rfl,rfl,_,rfl,Yn (by intro z;cases z) ?_⟩;refine⟨_,rfl,_, "str",_,_,rfl,.bl b,Zoe K,_,rfl,YZ ?_⟩;refine⟨_,rfl,_, "bool",_,_,rfl,.bl b,Lu K,_,rfl,Xu ?_⟩;refine⟨_,rfl,_, "bool",_,_,rfl,.bl b,Lu K,_,rfl,Xu ?_⟩;refine⟨_,rfl,_,rfl,rfl,?_⟩;have e:decide (V.bl b=V.bl b)=true:=decide_eq_true rfl;rw[e];exact q _ R
  ·refine⟨_,c,["list", "tuple"],_,_,rfl,Zd,.int i,Zmp K,_,rfl,YZ ?_⟩;refine⟨_,rfl,rfl,_,rfl,Yn (by intro z;cases z) ?_⟩;refine⟨_,rfl,_, "str",_,_,rfl,.int i,ZmL K,_,rfl,YZ ?_⟩;refine⟨_,rfl,_, "bool",_,_,rfl,.int i,Lw K,_,rfl,YZ ?_⟩;refine⟨_,rfl,_, "int",_,_,rfl,.int i,Zl7 K,_,rfl,Xu ?_⟩;refine⟨_,rfl,_, "bool",_,_,rfl,.int i,Lw K,_,rfl,_,rfl,Xu ?_⟩;refine⟨_,rfl,_,rfl,rfl,?_⟩;have e:decide (V.int i=V.int i)=true:=decide_eq_true rfl;rw[e];exact q _ R
  ·refine⟨_,c,["list", "tuple"],_,_,rfl,Zd,.str z,ZmE K,_,rfl,YZ ?_⟩;refine⟨_,rfl,rfl,_,rfl,Yn (by intro z;cases z) ?_⟩;refine⟨_,rfl,_, "str",_,_,rfl,.str z,Pe K,_,rfl,Xu ?_⟩;refine⟨_,rfl,_,rfl,rfl,_,rfl,YE rfl ?_⟩;exact⟨_,rfl,_, "str",_,_,rfl,.str z,Pe K,_,rfl,_, "str",_,_,rfl,.str z,Pe K,rfl,q _ R⟩
  ·have j:(upd H c (.tup (["list", "tuple"].map V.ty))) p=some (.lst xs):=by rw[Zc (Zb B v)];exact B
   have g:(upd H c (.tup (["list", "tuple"].map V.ty))) t=some (.lst ys):=by rw[Zc (Zb C v)];exact C
   refine⟨_,c,["list", "tuple"],_,_,rfl,Zd,.lst g,ZmB K,_,rfl,Xu ?_⟩;refine⟨_,rfl,_, "list",_,_,rfl,.lst j,LA K,_,rfl,_, "list",_,_,rfl,.lst g,LA K,rfl,_,rfl,WD rfl ?_⟩;refine⟨_,rfl,_, "tuple",_,_,rfl,.lst j,Lz K,_,rfl,_, "tuple",_,_,rfl,.lst g,Lz K,rfl,_,rfl,WD rfl ?_⟩;refine⟨_,rfl,p,xs,rfl,.inl (SqL.of j),_,rfl,t,ys,rfl,.inl (SqL.of g),rfl,_,rfl,YE (by rw[hl]) ?_⟩;refine⟨_,rfl,_,rfl,.l p,.l t,xs,ys,rfl,SqL.of j,SqL.of g,fun D u=>?_⟩;have I:ZG H (upd H c (.tup (["list", "tuple"].map V.ty))):=Zh v _;refine MX (K:=K) (xs:=xs) (ys:=ys) (fun i zs k a=>(∃J L,k=[some (.ref p),some (.ref t),J,L])∧zs=List.replicate i (.bl true)∧ZG H a∧a D=some (.lst zs)∧i≤xs.length) ?_ ?_ ?_ ?_
   ·exact⟨⟨none,none,rfl⟩,rfl,I.trans (Zh u _),Zd,Qw _⟩
   ·rintro i zs k a ⟨_,_,d,_⟩;exact⟨SqL.of (d _ _ B),SqL.of (d _ _ C)⟩
   ·rintro i zs k a F G r M S ⟨⟨J,L,rfl⟩,rfl,d,l,A9⟩ m;have W:i<xs.length:=(Qe.mp M).1;have X:D≠r:=Zb l m;have N:ZG H (upd a r (.tup [F,G])):=d.trans (Zh m _);refine⟨r,_,rfl,SqT.of Zd,rfl,_,_,rfl,_,_,rfl,rfl,?_⟩;refine⟨_,rfl,_,rfl,F,G,rfl,(hi i F G M S).mono N,fun Y O=>?_⟩;have Z:Y D=some (.lst (List.replicate i (.bl true))):=O _ _ (by rw[Zc X];exact l);refine⟨Z,(by rw[Qap];exact Zy #[2]),⟨_,_,rfl⟩,?_,?_,Zd,W⟩
    ·rw[List.replicate_succ']
    ·intro b o e;have e1:=O b o (N b o e);rw[Zc (fun z=>by subst z;exact nomatch (I b o e).symm.trans u)];exact e1
   ·rintro zs k a ⟨_,rfl,d,l,_⟩;refine⟨D,List.replicate (min xs.length ys.length) true,rfl,SqL.of (by rw[List.map_replicate];exact l),?_⟩;have e:(List.replicate (min xs.length ys.length) true).all id=true:=by rw[Qau];intro b hb;exact(QaR hb)
    rw[e];exact q a d
  ·have j:(upd H c (.tup (["list", "tuple"].map V.ty))) p=some (.tup xs):=by rw[Zc (Zb B v)];exact B
   have g:(upd H c (.tup (["list", "tuple"].map V.ty))) t=some (.tup ys):=by rw[Zc (Zb C v)];exact C
   refine⟨_,c,["list", "tuple"],_,_,rfl,Zd,.tup g,ZlV K,_,rfl,Xu ?_⟩;refine⟨_,rfl,_, "list",_,_,rfl,.tup j,Ly K,_,rfl,_, "list",_,_,rfl,.tup g,Ly K,rfl,_,rfl,WD rfl ?_⟩;refine⟨_,rfl,_, "tuple",_,_,rfl,.tup j,Lx K,_,rfl,_, "tuple",_,_,rfl,.tup g,Lx K,rfl,_,rfl,WD rfl ?_⟩;refine⟨_,rfl,p,xs,rfl,.inr (SqT.of j),_,rfl,t,ys,rfl,.inr (SqT.of g),rfl,_,rfl,YE (by rw[hl]) ?_⟩;refine⟨_,rfl,_,rfl,.t p,.t t,xs,ys,rfl,SqT.of j,SqT.of g,fun D u=>?_⟩;have I:ZG H (upd H c (.tup (["list", "tuple"].map V.ty))):=Zh v _;refine MX (K:=K) (xs:=xs) (ys:=ys) (fun i zs k a=>(∃J L,k=[some (.ref p),some (.ref t),J,L])∧zs=List.replicate i (.bl true)∧ZG H a∧a D=some (.lst zs)∧i≤xs.length) ?_ ?_ ?_ ?_
   ·exact⟨⟨none,none,rfl⟩,rfl,I.trans (Zh u _),Zd,Qw _⟩
   ·rintro i zs k a ⟨_,_,d,_⟩;exact⟨SqT.of (d _ _ B),SqT.of (d _ _ C)⟩
   ·rintro i zs k a F G r M S ⟨⟨J,L,rfl⟩,rfl,d,l,A9⟩ m;have W:i<xs.length:=(Qe.mp M).1;have X:D≠r:=Zb l m;have N:ZG H (upd a r (.tup [F,G])):=d.trans (Zh m _);refine⟨r,_,rfl,SqT.of Zd,rfl,_,_,rfl,_,_,rfl,rfl,?_⟩;refine⟨_,rfl,_,rfl,F,G,rfl,(hi i F G M S).mono N,fun Y O=>?_⟩;have Z:Y D=some (.lst (List.replicate i (.bl true))):=O _ _ (by rw[Zc X];exact l);refine⟨Z,(by rw[Qap];exact Zy #[2]),⟨_,_,rfl⟩,?_,?_,Zd,W⟩
    ·rw[List.replicate_succ']
    ·intro b o e;have e1:=O b o (N b o e);rw[Zc (fun z=>by subst z;exact nomatch (I b o e).symm.trans u)];exact e1
   ·rintro zs k a ⟨_,rfl,d,l,_⟩;refine⟨D,List.replicate (min xs.length ys.length) true,rfl,SqL.of (by rw[List.map_replicate];exact l),?_⟩;have e:(List.replicate (min xs.length ys.length) true).all id=true:=by rw[Qau];intro b hb;exact(QaR hb)
    rw[e];exact q a d
theorem Y8.new{H:Hp}{p l:Addr}{c:Int}{o:HO}(h:Y8 H p c)(n:H l=none):Y8 (upd H l o) p c:=by obtain⟨a,b,d,c0⟩:=h;exact⟨a,b,by rw[Zc (Zb d n)];exact d,c0⟩
theorem Y8.ge{H:Hp}{p:Addr}{c:Int}(h:Y8 H p c):0≤c:=by obtain⟨a,b,hp,c0⟩:=h;exact c0
theorem Y8.here{H:Hp}{p:Addr}{c:Int}(h:Y8 H p c):∃o,H p=some o:=by obtain⟨a,b,hp,c0⟩:=h;exact⟨_,hp⟩
theorem Y8.at{H:Hp}{p l:Addr}{c:Int}{o:HO}(h:Y8 H p c)(n:p≠l):Y8 (upd H l o) p c:=by obtain⟨a,b,d,c0⟩:=h;exact⟨a,b,by rw[Zc n];exact d,c0⟩
theorem Lr:∀ss:List Str,(∀s∈ss,AZ s)→PyData.canLayAll0 (ss.map PyData.str)=true
 | [],_=>rfl
 | x::r,h=>by simp[PyData.canLayAll0,PyData.canLay0,(h x #[4]).ok,Lr r fun s a=>h s (List.mem_cons_of_mem _ a)]
theorem Lq:∀ss:List Str,PyData.depthAll (ss.map PyData.str)=0
 | []=>rfl
 | _::r=>by simp[PyData.depthAll,PyData.depth,Lq r]
theorem UW(ss:List Str)(h:∀s∈ss,AZ s):SeqAt.shaped (.list (ss.map PyData.str))=true:=by simp[SeqAt.shaped,PyData.canLay0,PyData.depth,Lr ss h,Lq]
theorem Vy{K:#[7]}{H:Hp}:∀ss:List Str,DVs K H (ss.map V.str) (ss.map PyData.str)
 | []=>.nil
 | s::r=>.cons (.str s) (Vy r)
def Pb:Sp:=fun vs H Q _=>∃ (p l:Addr) (c a:Int) (ss:List Str),vs=[.ref p,.ref l,.int a]∧Y8 H p c∧c<2 ^ 40∧0≤a∧a≤60∧H l=some (.lst (ss.map V.str))∧1≤ss.length∧ss.length≤4∧(∀s∈ss,s.length≤24∧AZ s) ∧
 ∀ (r:Addr) (d:List Str) (e:Int) (b:Hp),H r=none→b r=some (.lst (d.map V.str))→(d.length:Int)≤a→(∀s∈d,s.length≤28∧AZ s)→Y8 b p e→c≤e→e≤c+600→But p H b→Q (.ref r) b
theorem ZpG(T:Z9 K mg ab U)(R:Df P w K mg base 2 "_law_pick" ["_law_left_here", "_law_many_here"] V9)(gN:Df P w K mg base 3 "_law_key" ["_law_left_here", "_law_stems_here"] Pc):Df P w K mg base 4 "_law_keys" ["_law_left_here", "_law_stems_here", "_law_most"] Pb:=by
 refine T.t_l_keys.df T7 (fun vs H Q E h=>?_) (fun ai f A outer s H vs Q E y h=>?_)
 ·obtain⟨p,l,c,J,ss,rfl,_⟩:=h;rfl
 obtain⟨p,l,c,J,ss,rfl,L,c1,m0,m1,S,n1,n4,jB,q⟩:=h;refine⟨_,#[Zf,#[ZD,3,T7.nd,#[3],#[YU,#[Ze]]],#[Zf,#[X4,PassesOwn.never,#[Xe,T.b.n_range,#[Za,#[Zz,R,y,#[Za,‹0›,#[Za,#[ZJ,YO,‹2›,#[Zj]],#[Ze]]],#[5]],#[Ze]]],#[ZE,4,T7.nd,#[3]],#[Zf,#[ZD,5,T7.nd,#[3],#[Zz,gN,y,#[Za,‹0›,#[Za,‹1›,#[Ze]]],#[5]]],#[Zf,#[ZW,(@PW.pt _ _ _ #[Yf,#[Zl,(@neD _ K _ y #[5]),‹3›,#[YU,#[Ze]],(Zs _)],#[XT,#[Zl,YH,#[Zz,R,y,#[Za,‹0›,#[Za,#[Zj],#[Ze]]],#[5]],#[Zj],(Zs _)]]]),#[Zi,#[ZD,5,T7.nd,#[3],#[Zo,(ixL K),‹3›,#[Zz,R,y,#[Za,‹0›,#[Za,#[Zk,(YB K),#[5],T.b.n_len,Qz,#[Za,‹3›,#[Ze]]],#[Ze]]],#[5]]]]],#[ZH]],#[Zi,#[YL,#[Xy,QO,QS,QT,WE,‹3›,#[Za,‹5›,#[Ze]]]]]]]],#[Zi,#[Zp,‹3›]]]],?_⟩;have c0:=L.ge;refine⟨(by show 0≤sizeLine;decide),fun r m=>?_⟩;have B:p≠r:=by obtain⟨o,ho⟩:=L.here;exact Zb ho m
 have wP:l≠r:=Zb S m;have fV:p≠l:=by
  obtain⟨a,b,hp,_⟩:=L;refine RV hp S fun e=>?_;cases ss with
  | nil=>exact absurd (congrArg List.length (HO.lst.inj e)) #[4]
  | cons x r=>exact absurd (HO.lst.inj e) (by intro z;cases z)
 refine⟨_,rfl,_,rfl,_,_,rfl,rfl,p,c,_,rfl,L.new m,by lia,by lia,by lia,fun n H1 w0 w1 L1 B1=>?_⟩;refine⟨_,rfl,by lia,by lia,?_⟩;have cA:H1 r=some (.lst []):=B1 r _ Zd B.symm;have Ba:But p H H1:=(But.same (Zh m _)).trans B1;refine Vj (fun i W t=>∃ (g:List Str) (C D:Option V) (c2:Int),W=[some (.ref p),some (.ref l),some (.int J),some (.ref r),C,D]∧t r=some (.lst (g.map V.str))∧g.length=i∧(∀s∈g,s.length≤28∧AZ s)∧Y8 t p c2∧c+1≤c2∧c2≤c+1+8*i∧(∀b o,H b=some o→b≠p→t b=some o)) ⟨[],none,none,c+1,rfl,cA,rfl,(fun s hs=>by cases hs),L1,by lia,by lia,Ba⟩ ?_ ?_
 ·rintro i W t hi ⟨g,C,D,c2,rfl,X,Y,F,L2,a1,a2,M⟩;have DD:(i:Int)<61:=by lia
  have bm:=M l _ S fV.symm;refine⟨_,rfl,_,rfl,p,l,c2,ss,rfl,L2,by lia,bm,n1,n4,jB,fun key c3 H3 eT qZ L3 a3 a4 B3=>?_⟩;have cG:=B3 r _ X B.symm;have j:∀ (k2:Str) (c4:Int) (k:Hp),k2.length≤28∧AZ k2→Y8 k p c4→c2≤c4→c4≤c2+8→k r=some (.lst (g.map V.str))→(∀b o,H b=some o→b≠p→k b=some o) →
    ∃ (Z:List Str) (C D:Option V) (c5:Int),[some (V.ref p),some (V.ref l),some (V.int J),some (V.ref r),some (V.int (0+(i:Int))),some (V.str k2)]=[some (.ref p),some (.ref l),some (.int J),some (.ref r),C,D] ∧
     (upd k r (.lst (g.map V.str++[.str k2]))) r=some (.lst (Z.map V.str))∧Z.length=i+1∧(∀s∈Z,s.length≤28∧AZ s)∧Y8 (upd k r (.lst (g.map V.str++[.str k2]))) p c5∧c+1≤c5∧c5≤c+1+8*((i+1:Nat):Int) ∧
     (∀b o,H b=some o→b≠p→(upd k r (.lst (g.map V.str++[.str k2]))) b=some o):=fun k2 c4 k hk L4 b1 b2 gP B4=>by
   refine⟨g++[k2],_,_,c4,rfl,?_,by rw[Qi,Y];rfl,?_,L4.at B,by lia,by lia,fun b o e n=>?_⟩
   ·rw[Zd,Qf];rfl
   ·intro x hx;rcases Qn.mp hx with hx|hx
    ·exact F x hx
    ·rw[Qk.mp hx];exact hk
   ·rw[Zc (Zb e m)];exact B4 b o e n
  have ah:(g.map V.str).length<sizeLine:=by rw[Qa,Y];exact Zy #[2]
  refine⟨_,rfl,(by show 0≤sizeLine;decide),fun e N=>?_⟩;have G:(upd H3 e (.lst [])) r=some (.lst (g.map V.str)):=by rw[Zc (Zb cG N)];exact cG
  refine⟨.list (g.map PyData.str),.list [],.lst (SqL.of G) (Vy g),.lst (SqL.of Zd) .nil,UW g (fun s h=>(F s h).2),#[1],_,rfl,?_⟩;have tT:∀b o,H b=some o→b≠p→(upd H3 e (.lst [])) b=some o:=fun b o z n=>Zh N _ b o (B3 b o (M b o z n) n);cases g with
  | nil =>
   have ev:(if true=true then !PyData.eqv (.list (([]:List Str).map PyData.str)) (.list []) else PyData.eqv (.list (([]:List Str).map PyData.str)) (.list []))=false:=by ac_rfl
   rw[ev];refine YZ (YZ ?_);refine⟨_,rfl,.inl ⟨rfl,_,SqL.of G⟩,_,rfl,r,_,_,rfl,rfl,G,ah,?_⟩;exact j key c3 _ ⟨eT,qZ⟩ (L3.new N) #[2] #[2] G tT
  | cons u v =>
   have ev:(if true=true then !PyData.eqv (.list ((u::v).map PyData.str)) (.list []) else PyData.eqv (.list ((u::v).map PyData.str)) (.list []))=true:=by simp[PyData.eqv,PyData.eqvAll]
   rw[ev];refine Xu ⟨_,rfl,p,c3,_,rfl,L3.new N,by lia,by decide,by decide,fun d H5 d0 d1 L5 B5=>?_⟩;have I:=B5 r _ G B.symm;refine⟨rfl,_,rfl,Y3 (fun _=>?_) (fun _=>?_)⟩
   ·have ao:((((u::v).map V.str).length:Nat):Int)=((u::v).length:Int):=by rw[Qa]
    have fG:(0:Int)<((u::v).length:Int):=by simp
    refine⟨_,rfl,_,rfl,_,rfl,r,_,rfl,.inl (SqL.of I),p,c3+1,_,rfl,L5,by lia,by lia,by lia,fun d' H6 Bb kA L6 B6=>?_⟩;obtain⟨st,fX,eD⟩:=Pj (ss:=u::v) Bb #[2];have O:=B6 r _ I B.symm;refine⟨r,_,_,_,rfl,rfl,SqL.of O,eD,?_⟩;refine⟨_,rfl,.inl ⟨rfl,_,SqL.of O⟩,_,rfl,r,_,_,rfl,rfl,O,ah,?_⟩;exact j st _ _ (F st fX) L6 #[2] #[2] O fun b o z n=>B6 b o (B5 b o (tT b o z n) n) n
   ·refine⟨_,rfl,.inl ⟨rfl,_,SqL.of I⟩,_,rfl,r,_,_,rfl,rfl,I,ah,?_⟩;exact j key _ _ ⟨eT,qZ⟩ L5 #[2] #[2] I fun b o z n=>B5 b o (tT b o z n) n
 ·rintro W t ⟨g,C,D,c2,rfl,X,Y,F,L2,a1,a2,M⟩;exact⟨_,rfl,q r g c2 t m X #[2] F L2 #[2] #[2] M⟩
noncomputable def Xs(ss:List Str)(i:Nat):Int:=if i=0 then 0 else (lcp (cds (ss.getD (i-1) "")) (cds (ss.getD i "")):Nat)
def SF(K:#[7]):Sp:=fun vs H Q _=>∃ (a:Addr) (ss:List Str),vs=[.ref a]∧SqL K H a (ss.map V.str)∧ss.length≤100∧(∀s∈ss,s.length≤1000) ∧
 ∀ (r:Addr) (b:Hp),H r=none→b r=some (.lst ((List.range ss.length).map fun j=>.int (Xs ss j)))→ZG H b→Q (.ref r) b
theorem Zmc(T:Z9 K mg ab U)(O:Df P w K mg base 2 "alike" ["one", "other"] V8):Df P w K mg base 3 "alikes" ["row"] (SF K):=by
 refine T.t_alikes.df SR (fun R H Q E h=>?_) (fun ai f A outer s H R Q E S h=>?_)
 ·obtain⟨a,c,rfl,_⟩:=h;rfl
 obtain⟨a,c,rfl,v,hn,G,q⟩:=h;refine⟨_,#[Zf,#[ZD,1,SR.nd,#[3],#[YU,#[Ze]]],#[Zf,#[X4,PassesOwn.never,#[iE,K,T.b.n_enumerate,#[Za,‹0›,#[Ze]]],#[gT,K,2,#[Zu,#[ZE,2,SR.nd,#[3]],#[Zu,#[ZE,3,SR.nd,#[3]],(@Yy _)]]],#[Zi,#[YL,#[Xy,QO,QS,QT,WE,‹1›,#[Za,#[Xo,#[Zl,YH,‹2›,#[Zj],(Zs _)],#[Zj],#[Zz,O,S,#[Za,#[Zo,(ixL K),‹0›,#[ZJ,VZ,‹2›,#[Zj]]],#[Za,‹3›,#[Ze]]],#[5]]],#[Ze]]]]]],#[Zi,#[Zp,‹1›]]]],?_⟩;refine⟨(by show 0≤sizeLine;decide),fun r B=>?_⟩;have I:ZG H (upd H r (.lst [])):=Zh B _;refine⟨_,rfl,a,c.map V.str,rfl,I.seq v,?_⟩;refine Rv (K:=K) (a:=a) (xs:=c.map V.str) (fun i C d=>(∃g k:Option V,C=[some (.ref a),some (.ref r),g,k])∧d r=some (.lst ((List.range i).map fun j=>.int (Xs c j)))∧ZG H d∧i≤c.length) ⟨⟨none,none,rfl⟩,Zd,I,Qw _⟩ (fun _ _ _ W=>by obtain⟨_,_,l,_⟩:=W;exact l.seq v) ?_ ?_
 ·rintro i x C d p m ⟨⟨g,k,rfl⟩,n,l,X⟩ J;rw[Qm]at m;cases t:c[i]? with
  | none=>rw[t]at m;cases m
  | some y =>
   rw[t]at m;cases m;have Y:i<c.length:=(Qe.mp t).1;have Z:r≠p:=Zb n J;have L:ZG H (upd d p (.tup [.int i,.str y])):=l.trans (Zh J _);have D:(upd d p (.tup [.int i,.str y])) r=some (.lst ((List.range i).map fun j=>.int (Xs c j))):=by rw[Zc Z];exact n
   have M:((List.range i).map fun j=>V.int (Xs c j)).length<sizeLine:=by rw[Qa,List.length_range];exact Zy #[2]
   have u:∀z:Int,z=Xs c i→(∃g k:Option V,[some (V.ref a),some (V.ref r),some (V.int i),some (V.str y)]=[some (.ref a),some (.ref r),g,k]) ∧
     (upd (upd d p (.tup [.int i,.str y])) r (.lst (((List.range i).map fun j=>.int (Xs c j))++[.int z]))) r=some (.lst ((List.range (i+1)).map fun j=>.int (Xs c j))) ∧
     ZG H (upd (upd d p (.tup [.int i,.str y])) r (.lst (((List.range i).map fun j=>.int (Xs c j))++[.int z])))∧i+1≤c.length:=fun z e=>by
    refine⟨⟨_,_,rfl⟩,?_,fun b o h=>?_,Y⟩
    ·rw[Zd,QaU,Qf,e];rfl
    ·rw[Zc (Zb h B)];exact L b o h
   refine⟨p,_,rfl,SqT.of Zd,rfl,_,_,rfl,_,_,rfl,rfl,?_⟩;refine⟨_,rfl,.inl ⟨rfl,_,SqL.of D⟩,_,rfl,rfl,_,rfl,?_⟩;by_cases N:i=0
   ·subst N;exact YE rfl ⟨r,_,_,rfl,rfl,D,M,u 0 rfl⟩
   ·have F:i-1<c.length:=by lia
    have ei:((i:Int)-1)=((i-1:Nat):Int):=by lia
    have bo:atI (c.map V.str) ((i:Int)-1)=some (.str c[i-1]):=by rw[ei];exact Yx (by rw[Qm,Qb F]<;>rfl)
    refine Yn (fun z=>by injection z with z;lia) ⟨_,rfl,_,rfl,_,_,rfl,rfl,a,_,_,_,rfl,rfl,L.seq v,bo,_,rfl,c[i-1],y,rfl,G _ (QX F),G _ (Qo t),r,_,_,rfl,rfl,D,M,u _ ?_⟩;unfold Xs;rw[if_neg N,QE,QE,Qb F,t];rfl
 ·rintro C d ⟨⟨g,k,rfl⟩,n,l,X⟩;rw[Qa]at n;exact⟨_,rfl,q r d B n l⟩
noncomputable def ZT:List Nat→List Nat→Int
 | [],[]=>0
 | [],_::_ =>-1
 | _::_,[]=>1
 | a::r,b::s=>if a=b then ZT r s else if a<b then -1 else 1
theorem Lp:∀ (x y:List Nat),Spec.ltCps y x=false→ZT x y≤0
 | [],[],_=>by unfold ZT;lia
 | [],_::_,_=>by unfold ZT;lia
 | _::_,[],h=>by unfold Spec.ltCps at h;cases h
 | a::r,b::s,h=>by
  have c:=Lp r s;unfold Spec.ltCps at h;unfold ZT;rw[Bool.or_eq_false_iff,Bool.and_eq_false_iff]at h;obtain⟨d,f⟩:=h;have tU:¬ b<a:=of_decide_eq_false d;by_cases e:a=b
  ·rw[if_pos e];rcases f with z|z
   ·rw[e]at z;simp at z
   ·exact c z
  ·rw[if_neg e,if_pos #[2]];lia
theorem SE:∀ (x y z:List Nat),ZT x y≤0→ZT y z≤0→ZT x z≤0
 | [],_,[],_,_=>by unfold ZT;lia
 | [],_,_::_,_,_=>by unfold ZT;lia
 | _::_,[],_,h,_=>by unfold ZT at h;lia
 | _::_,_::_,[],_,h=>by unfold ZT at h;lia
 | a::r,b::s,c::t,h1,h2=>by
  unfold ZT at h1 h2 ⊢;have g:=SE r s t;by_cases f:a=b
  ·rw[if_pos f]at h1;by_cases d:b=c
   ·rw[if_pos d]at h2;rw[if_pos (f.trans d)];exact g h1 h2
   ·rw[if_neg d]at h2;rw[if_neg (fun e=>d (f.symm.trans e))];split at h2
    ·rw[if_pos #[2]];lia
    ·lia
  ·rw[if_neg f]at h1;split at h1
   ·by_cases d:b=c
    ·rw[if_neg (fun e=>f (e.trans d.symm)),if_pos #[2]];lia
    ·rw[if_neg d]at h2;split at h2
     ·rw[if_neg #[2],if_pos #[2]];lia
     ·lia
   ·lia
theorem Ln:∀ (ss:List Str) (p:Str),risingS p ss=true→∀ (k:Nat) (x y:Str),(p::ss)[k]? = some x→ss[k]? = some y→ZT (cds x) (cds y)≤0
 | [],p,_,k,x,y,_,h=>by simp at h
 | z::r,p,h,0,x,y,h1,h2=>by unfold risingS at h;rw[Q6]at h;simp at h1 h2;subst h1 h2;exact Lp _ _ (by simpa using h.1)
 | z::r,p,h,k+1,x,y,h1,h2=>by unfold risingS at h;rw[Q6]at h;exact Ln r z h.2 k x y (by simpa using h1) (by simpa using h2)
theorem Lm{ss:List Str}(h:sortedS ss=true)(k:Nat)(x y:Str)(h1:ss[k]? = some x)(h2:ss[k+1]? = some y):ZT (cds x) (cds y)≤0:=by
 cases ss with
 | nil=>simp at h1
 | cons p r=>exact Ln r p h k x y h1 (by simpa using h2)
theorem Ll:∀ss:List Str,PyData.eqvAll (ss.map PyData.str) (ss.map PyData.str)=true
 | []=>by simp[PyData.eqvAll]
 | x::r=>by simp[PyData.eqvAll,PyData.eqv,Ll r]
theorem Lk(ss:List Str):PyData.eqv (.list (ss.map PyData.str)) (.list (ss.map PyData.str))=true:=by simp[PyData.eqv,Ll ss]
theorem Lj{ss:List Str}{k:Nat}(h:k<ss.length):atI (ss.map V.str) (k:Int)=some (.str ss[k]):=Yx (by rw[Qm,Qb h]<;>rfl)
theorem Y8.same{H H':Hp}{p:Addr}{c:Int}(h:Y8 H p c)(s:ZG H H'):Y8 H' p c:=by obtain⟨a,b2,hb,c0⟩:=h;exact⟨a,b2,s _ _ hb,c0⟩
noncomputable def mid(ns:List Int):Nat:=(ns.length+1) / 2
noncomputable def X0(ns:List Int):List Int:=ns.take (mid ns)
noncomputable def WV(ns:List Int):List Int:=ns.drop (mid ns)
theorem Li(ns:List Int):((((ns.map V.int).length:Nat):Int)+1) / 2=((mid ns:Nat):Int):=by rw[Qa];unfold mid;lia
theorem Pa{ns:List Int}{k:Int}(h0:0≤k)(h:k<(ns.length:Int)):∃v∈ns,atI (ns.map V.int) k=some (.int v):=by
 have a:k.toNat<ns.length:=by lia
 have b:k=((k.toNat:Nat):Int):=by lia
 have q:atI (ns.map V.int) ((k.toNat:Nat):Int)=some (.int ns[k.toNat]):=Yx (by rw[Qm,Qb a]<;>rfl);rw[← b]at q;exact⟨_,QX a,q⟩
theorem Lh(ns:List Int)(m:Nat)(h:m≤ns.length):WY (ns.map V.int) none (some (m:Int))=(ns.take m).map V.int:=by
 unfold WY;have e:HT.sIx (ns.map V.int).length (ns.map V.int).length (some (m:Int))=m:=by unfold HT.sIx;simp only[List.length_map];rw[if_neg #[2]];lia
 have a:HT.sIx (ns.map V.int).length 0 none=0:=rfl;rw[e,a,List.drop_zero,Nat.sub_zero,List.map_take]
theorem Lg(ns:List Int)(m:Nat)(h:m≤ns.length):WY (ns.map V.int) (some (m:Int)) none=(ns.drop m).map V.int:=by
 unfold WY;have e:HT.sIx (ns.map V.int).length 0 (some (m:Int))=m:=by unfold HT.sIx;simp only[List.length_map];rw[if_neg #[2]];lia
 have a:HT.sIx (ns.map V.int).length (ns.map V.int).length none=(ns.map V.int).length:=rfl;rw[e,a,List.map_drop,Qv (by rw[Q5,Qa];lia)]
theorem Lf(z:Str):(cds z).length=z.length:=by simp[Str.length]
theorem Le:∀ (x y:List Nat),(lcp x y=x.length→lcp x y=y.length→ZT x y=0)∧(lcp x y=x.length→lcp x y≠y.length→ZT x y = -1)∧(lcp x y≠x.length→lcp x y=y.length→ZT x y=1) ∧
  ∀a b,x[lcp x y]? = some a→y[lcp x y]? = some b→ZT x y=if a<b then -1 else 1
 | [],[]=>⟨fun _ _=>rfl,fun _ h=>absurd rfl h,fun h _=>absurd rfl h,fun a b h _=>by simp at h⟩
 | [],_::_=>⟨fun _ h=>by unfold lcp at h;simp at h,fun _ _=>rfl,fun h _=>absurd rfl h,fun a b h _=>by simp at h⟩
 | _::_,[]=>⟨fun h _=>by unfold lcp at h;simp at h,fun h _=>by unfold lcp at h;simp at h,fun _ _=>rfl,fun a b _ h=>by simp at h⟩
 | a::r,b::s=>by
  obtain⟨h1,h2,f,h4⟩:=Le r s;unfold lcp ZT;by_cases e:a=b
  ·rw[if_pos e,if_pos e];simp only[List.length_cons,List.getElem?_cons_succ];exact⟨fun p q=>h1 #[2] #[2],fun p q=>h2 #[2] #[2],fun p q=>f #[2] #[2],h4⟩
  ·rw[if_neg e,if_neg e];simp only[List.length_cons,List.getElem?_cons_zero];refine⟨fun p=>by lia,fun p=>by lia,fun _ p=>by lia,fun c d p q=>?_⟩;cases p;cases q;rfl
theorem V7:∀ (x y:List Nat),ZT y x =-ZT x y
 | [],[]=>rfl
 | [],_::_=>rfl
 | _::_,[]=>rfl
 | a::r,b::s=>by
  have c:=V7 r s;unfold ZT;by_cases e:a=b
  ·rw[if_pos e,if_pos e.symm,c]
  ·rw[if_neg e,if_neg fun z=>e z.symm];by_cases l:a<b
   ·rw[if_pos l,if_neg #[2]];rfl
   ·rw[if_neg l,if_pos #[2]]
theorem ZrK(a b:Nat):decide ((⟨#[a]⟩:Str).cps.toList<(⟨#[b]⟩:Str).cps.toList)=decide (a<b):=by
 have e:([a]:List Nat)<[b]↔a<b:=by
  constructor
  ·intro h;cases h with
   | rel h=>exact h
   | cons h=>cases h
  ·exact fun h=>List.Lex.rel h
 exact decide_eq_decide.mpr e
theorem Ld:∀x:List Nat,ZT x x=0
 | []=>rfl
 | a::r=>by unfold ZT;rw[if_pos rfl];exact Ld r
theorem O9:∀ (x y:List Nat),ZT x y=0→x=y
 | [],[],_=>rfl
 | [],_::_,h=>by unfold ZT at h;lia
 | _::_,[],h=>by unfold ZT at h;lia
 | a::r,b::s,h=>by
  unfold ZT at h;by_cases e:a=b
  ·rw[if_pos e]at h;rw[e,O9 r s h]
  ·rw[if_neg e]at h;split at h<;>lia
def O8:Sp:=fun vs H Q _=>∃x y:Str,vs=[.str x,.str y]∧x.length≤1000∧y.length≤1000∧Q (.int (ZT (cds x) (cds y))) H
def SD:Sp:=fun vs H Q _=>∃x y:Str,vs=[.str x,.str y,.int (lcp (cds x) (cds y):Nat)]∧x.length≤1000∧y.length≤1000∧Q (.int (ZT (cds x) (cds y))) H
theorem Znl(T:Z9 K mg ab U):Df P w K mg base 1 "order_at" ["one", "other", "at"] SD:=by
 refine T.t_order_at.df Zkd (fun r H Q E h=>?_) (fun ai f A outer s H r Q E hr h=>?_)
 ·obtain⟨x,y,rfl,_⟩:=h;rfl
 obtain⟨x,y,rfl,g,i,q⟩:=h;refine⟨_,#[Zf,#[ZW,(@PW.pt _ _ _ #[Yf,#[Zl,YH,‹2›,#[Zk,Wc,#[5],T.b.n_len,Qz,#[Za,‹0›,#[Ze]]],(Zs _)],#[XT,#[Zl,YH,‹2›,#[Zk,Wc,#[5],T.b.n_len,Qz,#[Za,‹1›,#[Ze]]],(Zs _)]]]),#[Zi,#[Zp,#[Zj]]],#[ZH]],#[Zf,#[ZW,#[Zl,YH,‹2›,#[Zk,Wc,#[5],T.b.n_len,Qz,#[Za,‹0›,#[Ze]]],(Zs _)],#[Zi,#[Zp,#[WJ,VX,#[Zj]]]],#[ZH]],#[Zf,#[ZW,#[Zl,YH,‹2›,#[Zk,Wc,#[5],T.b.n_len,Qz,#[Za,‹1›,#[Ze]]],(Zs _)],#[Zi,#[Zp,#[Zj]]],#[ZH]],#[Zi,#[Zp,#[Xo,#[Zl,Zms,#[Zo,VR,‹0›,‹2›],#[Zo,VR,‹1›,‹2›],(Zs _)],#[WJ,VX,#[Zj]],#[Zj]]]]]]],?_⟩;obtain⟨t,u,v,B⟩:=Le (cds x) (cds y);have ll:=UZ (cds x) (cds y);have lx:=Lf x;have ly:=Lf y;have inj:∀ {m n:Nat},V.int (m:Int)=V.int (n:Int)→m=n:=fun {m n} e=>by injection e with e;lia
 refine⟨_,rfl,_,rfl,x,rfl,Yo g,rfl,_,rfl,Y3 (fun d=>?_) (fun d=>?_)⟩
 ·have j:=inj (of_decide_eq_true d);refine⟨_,rfl,_,rfl,y,rfl,Yo i,rfl,_,rfl,Y3 (fun c=>?_) (fun c=>?_)⟩
  ·have l:=inj (of_decide_eq_true c);rw[t #[2] #[2]]at q;exact q
  ·have l:¬ lcp (cds x) (cds y)=y.length:=fun e=>c (by rw[e];exact decide_eq_true rfl);refine⟨_,rfl,_,rfl,x,rfl,Yo g,rfl,_,rfl,YE (by rw[j]) ?_⟩;rw[u #[2] #[2]]at q;exact⟨_,rfl,q⟩
 ·have j:¬ lcp (cds x) (cds y)=x.length:=fun e=>d (by rw[e];exact decide_eq_true rfl);refine YZ ⟨_,rfl,_,rfl,x,rfl,Yo g,rfl,_,rfl,Yn (fun e=>j (inj e)) ?_⟩;refine⟨_,rfl,_,rfl,y,rfl,Yo i,rfl,_,rfl,Y3 (fun c=>?_) (fun c=>?_)⟩
  ·have l:=inj (of_decide_eq_true c);rw[v #[2] #[2]]at q;exact q
  ·have l:¬ lcp (cds x) (cds y)=y.length:=fun e=>c (by rw[e];exact decide_eq_true rfl);obtain⟨a,o,C⟩:=VA (z:=x) (k:=(lcp (cds x) (cds y):Nat)) #[2] #[2];obtain⟨b,p,D⟩:=VA (z:=y) (k:=(lcp (cds x) (cds y):Nat)) #[2] #[2];rw[Qa0]at o p;refine⟨_,rfl,_,rfl,x,_,a,rfl,rfl,Yo g,C,_,rfl,_,rfl,y,_,b,rfl,rfl,Yo i,D,_,_,rfl,rfl,_,rfl,?_⟩;rw[ZrK];rw[B a b o p]at q;refine Y3 (fun e=>?_) (fun e=>?_)
   ·rw[if_pos (of_decide_eq_true e)]at q;exact⟨_,rfl,q⟩
   ·rw[if_neg (fun z=>e (decide_eq_true z))]at q;exact q
theorem ZoC(T:Z9 K mg ab U)(d:Df P w K mg base 2 "alike" ["one", "other"] V8)(e:Df P w K mg base 1 "order_at" ["one", "other", "at"] SD):Df P w K mg base 3 "liken" ["one", "other"] O8:=by
 refine T.t_liken.df ZoH (fun g H Q E h=>?_) (fun ai f A outer s H g Q E a h=>?_)
 ·obtain⟨x,y,rfl,_⟩:=h;rfl
 obtain⟨x,y,rfl,b,c,q⟩:=h;refine⟨_,#[Zi,#[Zp,#[Zz,e,a,#[Za,‹0›,#[Za,‹1›,#[Za,#[Zz,d,a,#[Za,‹0›,#[Za,‹1›,#[Ze]]],#[5]],#[Ze]]]],#[5]]]],?_⟩;exact⟨_,rfl,_,rfl,_,rfl,_,rfl,x,y,rfl,b,c,x,y,rfl,b,c,q⟩
theorem TX{c A B:Prop}[Decidable c](hc:¬ c)(h:A):if (!decide c)=true then A else B:=by rw[if_pos (by rw[decide_eq_false hc];rfl)];exact h
def O7:Sp:=fun vs H Q _=>∃ (x y:Str) (a:Nat),vs=[.str x,.str y,.int a]∧x.length≤1000∧y.length≤1000∧a≤lcp (cds x) (cds y) ∧
 ∀t,H t=none→Q (.ref t) (upd H t (.tup [.int (ZT (cds x) (cds y)),.int (lcp (cds x) (cds y):Nat),.int ((lcp (cds x) (cds y):Nat)-(a:Int)+1)]))
theorem ZhJ(T:Z9 K mg ab U)(e:Df P w K mg base 1 "alike_from" ["one", "other", "far"] SH)(g:Df P w K mg base 1 "order_at" ["one", "other", "at"] SD):Df P w K mg base 2 "liken_from" ["one", "other", "far"] O7:=by
 refine T.t_liken_from.df LX (fun i H Q E h=>?_) (fun ai f A outer s H i Q E a h=>?_)
 ·obtain⟨x,y,b,rfl,_⟩:=h;rfl
 obtain⟨x,y,b,rfl,c,d,j,q⟩:=h;refine⟨_,#[Zf,#[ZD,3,LX.nd,#[3],#[Zz,e,a,#[Za,‹0›,#[Za,‹1›,#[Za,‹2›,#[Ze]]]],#[5]]],#[Zi,#[Zp,#[YV,#[Za,#[Zz,g,a,#[Za,‹0›,#[Za,‹1›,#[Za,‹3›,#[Ze]]]],#[5]],#[Za,‹3›,#[Za,#[ZJ,YO,#[ZJ,VZ,‹3›,‹2›],#[Zj]],#[Ze]]]]]]]],?_⟩;refine⟨_,rfl,_,rfl,_,rfl,x,y,b,rfl,c,d,j,?_⟩;refine⟨_,rfl,_,rfl,_,rfl,x,y,rfl,c,d,?_⟩;refine⟨_,rfl,_,rfl,_,rfl,_,_,rfl,rfl,_,_,rfl,rfl,(by show 3≤sizeLine;decide),fun t k=>?_⟩;exact q t k
def TW(ss:List Str)(v:V):Prop :=
 (v=.non∧∀i x y,ss[i+1]? = some x→ss[i]? = some y→0≤ZT (cds x) (cds y)) ∨
 ∃k:Nat,v=.int ((k+1:Nat):Int)∧k+1<ss.length∧(∀x y,ss[k+1]? = some x→ss[k]? = some y→ZT (cds x) (cds y)<0)∧∀i,i<k→∀x y,ss[i+1]? = some x→ss[i]? = some y→0≤ZT (cds x) (cds y)
theorem ZpV{ss:List Str}{v g:V}(h:TW ss v)(h':TW ss g):v=g:=by
 rcases h with⟨rfl,a⟩|⟨k,rfl,l,b,c⟩
 ·rcases h' with⟨rfl,_⟩|⟨k',rfl,d,f,_⟩
  ·rfl
  ·have:=a k' _ _ (Qb d) (Qb #[2]);have:=f _ _ (Qb d) (Qb #[2]);lia
 ·rcases h' with⟨rfl,a⟩|⟨k',rfl,d,f,i⟩
  ·have:=a k _ _ (Qb l) (Qb #[2]);have:=b _ _ (Qb l) (Qb #[2]);lia
  ·have e:k=k':=by
    rcases Nat.lt_trichotomy k k' with h|h|h
    ·have:=i k h _ _ (Qb l) (Qb #[2]);have:=b _ _ (Qb l) (Qb #[2]);lia
    ·exact h
    ·have:=c k' h _ _ (Qb d) (Qb #[2]);have:=f _ _ (Qb d) (Qb #[2]);lia
   rw[e]
def O6(K:#[7]):Sp:=fun vs H Q _=>∃ (a:Addr) (ss:List Str),vs=[.ref a]∧SqL K H a (ss.map V.str)∧ss.length≤200∧(∀s∈ss,s.length≤1000)∧∀ (v:V) (H':Hp),TW ss v→ZG H H'→Q v H'
theorem ZnJ(T:Z9 K mg ab U)(t:Df P w K mg base 3 "liken" ["one", "other"] O8):Df P w K mg base 4 "first_break" ["keys"] (O6 K):=by
 refine T.t_first_break.df LW (fun u H Q E h=>?_) (fun ai f A outer s H u Q E B h=>?_)
 ·obtain⟨a,b,rfl,_⟩:=h;rfl
 obtain⟨a,b,rfl,n,hn,p,q⟩:=h;refine⟨_,#[Zf,#[X4,PassesOwn.never,(@ZmN _ _ _ _ _ _ _ rfl T.b.n_range #[Za,#[Zj],#[Za,#[Zk,(YB K),#[5],T.b.n_len,Qz,#[Za,‹0›,#[Ze]]],#[Ze]]] #[5] #[5]),#[ZE,1,LW.nd,#[3]],#[Zi,#[ZW,#[Zl,XS,#[Zz,t,B,#[Za,#[Zo,(ixL K),‹0›,‹1›],#[Za,#[Zo,(ixL K),‹0›,#[ZJ,VZ,‹1›,#[Zj]]],#[Ze]]],#[5]],#[Zj],(Zs _)],#[Zi,#[Zp,‹1›]],#[ZH]]]],#[Zi,#[Zp,#[ZZ]]]],?_⟩;have hl:(((b.map V.str).length:Nat):Int)=(b.length:Int):=by rw[Qa]
 refine⟨_,rfl,a,_,rfl,.inl n,_,_,rfl,⟨by lia,by lia,by lia,by lia⟩,?_⟩;refine Vj (fun i o k=>(∃v:Option V,o=[some (.ref a),v])∧ZG H k∧∀j,j<i→∀x y,b[j+1]? = some x→b[j]? = some y→0≤ZT (cds x) (cds y)) ⟨⟨none,rfl⟩,ZG.refl H,fun j h=>by lia⟩ ?_ ?_
 ·rintro i o k hi ⟨⟨v,rfl⟩,g,m⟩;have l:i+1<b.length:=by lia
  have r:(1+(i:Int))=((i+1:Nat):Int):=by lia
  have C:(1+(i:Int)-1)=((i:Nat):Int):=by lia
  refine⟨_,rfl,_,rfl,a,_,_,_,rfl,rfl,g.seq n,(by rw[r];exact Lj l),_,rfl,_,rfl,_,_,rfl,rfl,a,_,_,_,rfl,rfl,g.seq n,(by rw[C];exact Lj #[2]),b[i+1],b[i],rfl,p _ (QX l),p _ (QX #[2]),_,_,rfl,rfl,_,rfl,?_⟩;refine Y3 (fun d=>?_) (fun d=>?_)
  ·have D:ZT (cds b[i+1]) (cds b[i])<0:=of_decide_eq_true d;refine⟨_,rfl,q _ k (.inr ⟨i,by rw[r],l,fun x y c e=>?_,m⟩) g⟩;rw[Qb l]at c;rw[Qb #[2]]at e;cases c;cases e;lia
  ·have D:¬ ZT (cds b[i+1]) (cds b[i])<0:=fun z=>d (decide_eq_true z);refine⟨⟨_,rfl⟩,g,fun j hj x y c e=>?_⟩;by_cases F:j=i
   ·subst F;rw[Qb l]at c;rw[Qb #[2]]at e;cases c;cases e;lia
   ·exact m j #[2] x y c e
 ·rintro o k ⟨⟨v,rfl⟩,g,m⟩;refine q _ k (.inl ⟨rfl,fun j x y c e=>?_⟩) g;have:=(Qe.mp c).1;exact m j #[2] x y c e
def V6(K:#[7])(tup:Bool):Sp:=fun vs H Q _=>∃ (a:Addr) (ns:List Int),vs=[.ref a]∧SqL K H a (ns.map V.int)∧ns.length≤100 ∧
 ∀ (t f r:Addr) (b:Hp),H t=none→H f=none→H r=none→f≠r→b t=some (if tup=true then .tup [.ref f,.ref r] else .lst [.ref f,.ref r])→b f=some (.lst ((X0 ns).map V.int))→b r=some (.lst ((WV ns).map V.int))→ZG H b→t≠f→t≠r→Q (.ref t) b
theorem Lc{H:Hp}{f r t:Addr}{A B T:HO}(j:H f=none)(b:(upd H f A) r=none)(a:(upd (upd H f A) r B) t=none) :
  H r=none∧H t=none∧f≠r∧t≠f∧t≠r∧(upd (upd (upd H f A) r B) t T) f=some A∧(upd (upd (upd H f A) r B) t T) r=some B∧ZG H (upd (upd (upd H f A) r B) t T):=by
 have c:f≠r:=Zb (H:=upd H f A) (o:=A) Zd b;have d:(upd (upd H f A) r B) f=some A:=by rw[Zc c];exact Zd
 have e:f≠t:=Zb d a;have g:r≠t:=Zb (H:=upd (upd H f A) r B) (o:=B) Zd a;have h:ZG H (upd H f A):=Zh j _;have i:=h.trans (Zh b B);have k:=i.trans (Zh a T);exact⟨h.free b,i.free a,c,e.symm,g.symm,by rw[Zc e];exact d,by rw[Zc g];exact Zd,k⟩
theorem ZmG(T:Z9 K mg ab U):Df P w K mg base 1 "halves" ["numbers"] (V6 K true):=by
 refine T.t_halves.df LV (fun j H Q E h=>?_) (fun ai f A outer s H j Q E hr h=>?_)
 ·obtain⟨a,b,rfl,_⟩:=h;rfl
 obtain⟨a,b,rfl,c,hn,q⟩:=h;refine⟨_,#[Zf,#[ZD,1,LV.nd,#[3],#[ZJ,Tt,#[ZJ,YO,#[Zk,(YB K),#[5],T.b.n_len,Qz,#[Za,‹0›,#[Ze]]],#[Zj]],#[Zj]]],#[Zi,#[Zp,#[YV,#[Za,#[WG,(slL K),‹0›,(@WH _),(@Wd _ _ _ ‹1›)],#[Za,#[WG,(slL K),‹0›,(@Wd _ _ _ ‹1›),(@WH _)],#[Ze]]]]]]],?_⟩;refine⟨_,rfl,a,_,rfl,.inl c,_,_,rfl,rfl,_,_,rfl,rfl,⟨by decide,by decide⟩,?_⟩;have k:mid b≤b.length∨b=[]:=by
  cases b with
  | nil=>exact .inr rfl
  | cons x r=>left;unfold mid;rw[QL];lia
 have g:mid b≤b.length:=by
  rcases k with h|h
  ·exact h
  ·subst h;decide
 have m:=Li b;simp only[m];refine⟨_,rfl,_,rfl,_,rfl,a,_,rfl,c,fun l d=>?_⟩;refine⟨_,rfl,_,rfl,_,rfl,a,_,rfl,(Zh d _).seq c,fun r i=>⟨(by show 2≤sizeLine;decide),fun t e=>?_⟩⟩;rw[Lh b _ g]at i e ⊢;rw[Lg b _ g]at e ⊢;obtain⟨z1,z2,z3,z4,z5,z6,z7,z8⟩:=Lc (T:=.tup [.ref l,.ref r]) d i e;exact q t l r _ z2 d z1 z3 Zd z6 z7 z8 z4 z5
theorem Zkr(T:Z9 K mg ab U):Df P w K mg base 1 "_law_halves" ["_law_numbers"] (V6 K false):=by
 refine T.t_l_halves.df LU (fun j H Q E h=>?_) (fun ai f A outer s H j Q E hr h=>?_)
 ·obtain⟨a,b,rfl,_⟩:=h;rfl
 obtain⟨a,b,rfl,c,hn,q⟩:=h;refine⟨_,#[Zf,#[ZD,1,LU.nd,#[3],#[ZJ,Tt,#[ZJ,YO,#[Zk,(YB K),#[5],T.b.n_len,Qz,#[Za,‹0›,#[Ze]]],#[Zj]],#[Zj]]],#[Zi,#[Zp,#[YU,#[Za,#[WG,(slL K),‹0›,(@WH _),(@Wd _ _ _ ‹1›)],#[Za,#[WG,(slL K),‹0›,(@Wd _ _ _ ‹1›),(@WH _)],#[Ze]]]]]]],?_⟩;refine⟨_,rfl,a,_,rfl,.inl c,_,_,rfl,rfl,_,_,rfl,rfl,⟨by decide,by decide⟩,?_⟩;have k:mid b≤b.length∨b=[]:=by
  cases b with
  | nil=>exact .inr rfl
  | cons x r=>left;unfold mid;rw[QL];lia
 have g:mid b≤b.length:=by
  rcases k with h|h
  ·exact h
  ·subst h;decide
 have m:=Li b;simp only[m];refine⟨_,rfl,_,rfl,_,rfl,a,_,rfl,c,fun l d=>?_⟩;refine⟨_,rfl,_,rfl,_,rfl,a,_,rfl,(Zh d _).seq c,fun r i=>⟨(by show 2≤sizeLine;decide),fun t e=>?_⟩⟩;rw[Lh b _ g]at i e ⊢;rw[Lg b _ g]at e ⊢;obtain⟨z1,z2,z3,z4,z5,z6,z7,z8⟩:=Lc (T:=.lst [.ref l,.ref r]) d i e;exact q t l r _ z2 d z1 z3 Zd z6 z7 z8 z4 z5
def O5:Sp:=fun vs H Q _=>∃ (p:Addr) (c:Int),vs=[.ref p]∧Y8 H p c∧c<2 ^ 50∧∀ (v a:Int) (H':Hp),0≤v→v≤12→Y8 H' p a→c≤a→a≤c+3→But p H H'→Q (.int v) H'
theorem Zpw(T:Z9 K mg ab U)(a:Df P w K mg base 2 "_law_pick" ["_law_left_here", "_law_many_here"] V9):Df P w K mg base 3 "_law_many" ["_law_left_here"] O5:=by
 refine T.t_l_many.df LS (fun j H Q E h=>?_) (fun ai f A outer s H j Q E b h=>?_)
 ·obtain⟨p,c,rfl,_⟩:=h;rfl
 obtain⟨p,c,rfl,d,c1,q⟩:=h;refine⟨_,#[Zf,#[ZD,1,LS.nd,#[3],#[Zz,a,b,#[Za,‹0›,#[Za,#[Zj],#[Ze]]],#[5]]],#[Zi,#[Zp,#[Zo,(ixL K),#[YU,#[Za,#[Zj],#[Za,#[Zj],#[Za,#[Zj],#[Za,#[Zj],#[Za,#[Zj],#[Za,#[Zj],#[Za,#[Zz,a,b,#[Za,‹0›,#[Za,#[Zj],#[Ze]]],#[5]],#[Za,#[ZJ,YO,#[Zj],#[Zz,a,b,#[Za,‹0›,#[Za,#[Zj],#[Ze]]],#[5]]],#[Ze]]]]]]]]]],‹1›]]]],?_⟩;have c0:=d.ge;refine⟨_,rfl,p,c,_,rfl,d,by lia,by decide,by decide,fun wy H1 k l m n=>?_⟩;refine⟨_,rfl,p,c+1,_,rfl,m,by lia,by decide,by decide,fun o H2 iU wQ L2 r=>?_⟩;refine⟨_,rfl,p,c+1+1,_,rfl,L2,by lia,by decide,by decide,fun t H3 d20 d21 u x=>⟨_,_,rfl,rfl,(by show 8≤sizeLine;decide),fun e g=>?_⟩⟩;obtain⟨v,y,z⟩:=Pa (ns:=[2,3,4,5,6,3,o,7+t]) k l;have i:0≤v∧v≤12:=by simp only[List.mem_cons,List.not_mem_nil,or_false]at y;lia
 exact⟨_,rfl,e,_,_,_,rfl,rfl,SqL.of Zd,z,q v _ _ i.1 i.2 (u.new g) #[2] #[2] (((n.trans r).trans x).trans (But.same (Zh g _)))⟩
theorem V5(f:Str)(v:V):∀fs:List (Str×V),(ZA f v fs).length≤fs.length+1
 | []=>Qh _
 | p::r=>by
  unfold ZA;split
  ·exact Qas _
  ·exact Nat.succ_le_succ (V5 f v r)
noncomputable def Y0(k f:Addr)(g:Int):List (Str×V):=ZA "gone" (.int g) (ZA "fars" (.ref f) (ZA "all_keys" (.ref k) []))
theorem nGF:¬ (("fars" : Str) = "gone"):=by ac_rfl
theorem nGK:¬ (("all_keys" : Str) = "gone"):=by ac_rfl
theorem nFK:¬ (("all_keys" : Str) = "fars"):=by ac_rfl
theorem V4(k f:Addr)(g:Int):(Y0 k f g).lookup ("all_keys" : Str)=some (.ref k):=by unfold Y0;rw[Zn,if_neg nGK,Zn,if_neg nFK,Zn,if_pos rfl]
theorem UV(k f:Addr)(g:Int):(Y0 k f g).lookup ("gone" : Str)=some (.int g):=by unfold Y0;rw[Zn,if_pos rfl]
theorem UU(k f:Addr)(g:Int){m:Str}(h1:¬ m = "gone")(h2:¬ m = "fars")(a:¬ m = "all_keys"):(Y0 k f g).lookup m=none:=by unfold Y0;rw[Zn,if_neg h1,Zn,if_neg h2,Zn,if_neg a];rfl
structure Wu (C:Addr) (H:Hp) (p k f:Addr) (ss:List Str) (g:Nat):Prop where
 ob:∃dx,H p=some (.ins C dx (Y0 k f g))
 ks:H k=some (.lst (ss.map V.str))
 fs:H f=some (.lst ((List.range ss.length).map fun j=>.int (Xs ss j)))
def SA(C:Addr):Sp:=fun vs H Q _=>∃ (p k f:Addr) (ss:List Str) (g:Nat),vs=[.ref p]∧Wu C H p k f ss g∧Q (.int ((ss.length:Int)-(g:Int))) H
theorem Zpv(T:Z9 K mg ab U):Mf P w K mg base 1 ab "to_go" ["self"] (SA ab):=by
 refine T.t_Row_to_go.mf Zi8 (fun c H Q E h=>?_) (fun ai f A outer s H c Q E hr h=>?_)
 ·obtain⟨p,k,f,d,g,rfl,_⟩:=h;rfl
 obtain⟨p,k,f,d,g,rfl,R,q⟩:=h;refine⟨_,#[Zi,#[Zp,#[ZJ,VZ,#[Zk,(YB K),#[5],T.b.n_len,Qz,#[Za,#[ZK,‹0›],#[Ze]]],#[ZK,‹0›]]]],?_⟩;obtain⟨⟨a,b⟩,e,hf⟩:=R;refine⟨_,rfl,p,ab,a,_,_,rfl,b,T.cl_Row,T.na_Row_all_keys,V4 _ _ _,k,_,rfl,.inl (SqL.of e),_,rfl,p,ab,a,_,_,rfl,b,T.cl_Row,T.na_Row_gone,UV _ _ _,_,_,rfl,rfl,?_⟩;rw[Qa];exact q
noncomputable def Xl(ss:List Str)(g:Nat):V:=match ss[g]? with
 | some z=>.str z
 | none=>.non
def Vx(C:Addr):Sp:=fun vs H Q _=>∃ (p k f:Addr) (ss:List Str) (g:Nat),vs=[.ref p]∧Wu C H p k f ss g∧Q (Xl ss g) H
theorem Zp6(T:Z9 K mg ab U)(i:Mf P w K mg base 1 ab "to_go" ["self"] (SA ab)):Mf P w K mg base 2 ab "head" ["self"] (Vx ab):=by
 refine T.t_Row_head.mf ZjM (fun j H Q E h=>?_) (fun ai f A outer s H j Q E l h=>?_)
 ·obtain⟨p,k,f,a,g,rfl,_⟩:=h;rfl
 obtain⟨p,k,f,a,g,rfl,R,q⟩:=h;refine⟨_,#[Zi,#[Zp,#[Xo,#[Zl,We,#[YT,i,T.cl_Row,l,‹0›],#[Zj],(Zs _)],#[Zo,(ixL K),#[ZK,‹0›],#[ZK,‹0›]],#[ZZ]]]],?_⟩;obtain⟨⟨b,c⟩,m,hf⟩:=id R;refine⟨_,rfl,p,b,_,rfl,c,UU _ _ _ #[1] #[1] #[1],p,k,f,a,g,rfl,R,_,_,rfl,rfl,_,rfl,?_⟩;refine Y3 (fun d=>?_) (fun d=>?_)
 ·have n:(0:Int)<(a.length:Int)-(g:Int):=of_decide_eq_true d;have e:g<a.length:=by lia
  refine⟨_,rfl,p,ab,b,_,_,rfl,c,T.cl_Row,T.na_Row_all_keys,V4 _ _ _,_,rfl,p,ab,b,_,_,rfl,c,T.cl_Row,T.na_Row_gone,UV _ _ _,k,_,_,_,rfl,rfl,SqL.of m,Yx (by rw[Qm,Qb e]<;>rfl),?_⟩;unfold Xl at q;rw[Qb e]at q;exact q
 ·have n:¬ (0:Int)<(a.length:Int)-(g:Int):=fun z=>d (decide_eq_true z);unfold Xl at q;rw[QN #[2]]at q;exact q
def Sz(C:Addr):Sp:=fun vs H Q _=>∃ (p dx a:Addr) (ss:List Str),vs=[.ref p,.ref a]∧H p=some (.ins C dx [])∧H a=some (.lst (ss.map V.str))∧ss.length≤100∧(∀s∈ss,s.length≤1000) ∧
 ∀ (k f:Addr) (c:Hp),H k=none→H f=none→k≠f→Wu C c p k f ss 0→(∀b o,H b=some o→b≠p→c b=some o)→Q .non c
theorem Zk4(T:Z9 K mg ab U)(z:Df P w K mg base 3 "alikes" ["row"] (SF K)):Cf P w K mg base 4 ab "Row" ["self", "keys"] (Sz ab):=by
 refine T.t_Row_init.cf Zjx (fun B H Q E h=>?_) (fun ai f A outer s H B Q E C h=>?_)
 ·obtain⟨p,c,a,d,rfl,_⟩:=h;rfl
 obtain⟨p,c,a,d,rfl,m,i,D,F,q⟩:=h;refine⟨_,#[Zf,#[YD,‹0›,#[Ya,(VO K),#[5],T.b.n_list,boot_list,#[Za,‹1›,#[Ze]]]],#[Zf,#[YD,‹0›,#[Zz,z,C,#[Za,‹1›,#[Ze]],#[5]]],#[Zi,#[YD,‹0›,#[Zj]]]]],?_⟩;refine⟨_,rfl,a,_,rfl,.inl (SqL.of i),fun k j=>?_⟩;have l:p≠k:=Zb m j;have G:a≠p:=fun e=>by rw[e,m]at i;cases i
 have I:a≠k:=Zb i j;refine⟨_,rfl,p,ab,c,[],rfl,(by rw[Zc l];exact m),T.cl_Row,T.na_Row_all_keys,(by show 0<1000;decide),?_⟩;have J:(upd (upd H k (.lst (d.map V.str))) p (.ins ab c (ZA "all_keys" (.ref k) []))) a=some (.lst (d.map V.str)):=by rw[Zc G,Zc I];exact i
 have r:(upd (upd H k (.lst (d.map V.str))) p (.ins ab c (ZA "all_keys" (.ref k) []))) p=some (.ins ab c (ZA "all_keys" (.ref k) [])):=Zd;have v:(upd (upd H k (.lst (d.map V.str))) p (.ins ab c (ZA "all_keys" (.ref k) []))) k=some (.lst (d.map V.str)):=by rw[Zc l.symm];exact Zd
 have x:∀b o,H b=some o→b≠p→(upd (upd H k (.lst (d.map V.str))) p (.ins ab c (ZA "all_keys" (.ref k) []))) b=some o:=fun b o h n=>by rw[Zc n,Zc (Zb h j)];exact h
 refine⟨_,rfl,a,d,rfl,SqL.of J,D,F,fun f H3 g L t=>?_⟩;have M:H f=none:=by
  cases N:H f with
  | none=>rfl
  | some u =>
   by_cases e:f=p
   ·rw[e,r]at g;cases g
   ·rw[x f u N e]at g;cases g
 have O:k≠f:=Zb v g;have y:p≠f:=Zb r g;refine⟨_,rfl,p,ab,c,_,rfl,t _ _ r,T.cl_Row,T.na_Row_fars,(by show 1<1000;decide),?_⟩;refine⟨_,rfl,p,ab,c,_,rfl,Zd,T.cl_Row,T.na_Row_gone,?_,?_⟩
 ·have h1:=V5 "all_keys" (V.ref k) [];have h2:=V5 "fars" (V.ref f) (ZA "all_keys" (V.ref k) []);have h3:([]:List (Str×V)).length=0:=rfl;lia
 ·refine q k f _ j M O ⟨⟨c,Zd⟩,?_,?_⟩ fun b o h n=>?_
  ·rw[Zc l.symm,Zc l.symm];exact t _ _ v
  ·rw[Zc y.symm,Zc y.symm];exact L
  ·rw[Zc n,Zc n];exact t _ _ (x b o h n)
theorem Lb{K:#[7]}{a:Addr}{xs:List V}{k:Nat}{D:Addr}{c:L2.St}{h:Hp}{g:TG}{j:TT}{l:TE}{Q:VK}(Pv:Nat→List V→L2.St→Hp→Prop)(h0:Pv 0 [] (c++List.replicate k none) (upd h D (.lst [])))
  (hl:∀i ys c H,Pv i ys c H→SqL K H a xs)
  (r:∀i x ys c H,xs[i]? = some x→Pv i ys c H→g x c H fun d s=>j d s fun b n=>if b=true then l d n fun y o=>o D=some (.lst ys)∧ys.length<sizeLine∧Pv (i+1) (ys++[y]) d (upd o D (.lst (ys++[y]))) else Pv (i+1) ys d n)
  (hd:∀ys c H,Pv xs.length ys c H→Q (.ref D) H):WC (Itl K a) D k c h g j l Q:=by
 refine⟨fun i m ys c H=>m=xs.length-i∧i≤xs.length∧Pv i ys c H,⟨xs.length,by simp,Qw _,h0⟩,?_⟩;rintro i m ys c H ⟨rfl,hi,p⟩;have f:=hl i ys c H p;by_cases q:i<xs.length
 ·refine .inr ⟨⟨xs,xs[i],f,Qb q⟩,Pv (i+1),fun fh ak t u=>⟨xs.length-(i+1),by lia,rfl,q,u⟩,fun x t y=>?_⟩;obtain⟨rfl,e⟩:=y;exact r i x ys c _ (e xs f) p
 ·have e:i=xs.length:=by lia
  exact .inl ⟨⟨xs,f,by lia⟩,hd ys c H (e ▸ p)⟩
theorem Zmm{K:#[7]}{a:Addr}{xs:List V}{k:Nat}{D:Addr}{b:L2.St}{d:Hp}{g:TG}{f:TE}{Q:VK}(Pv:Nat→List V→L2.St→Hp→Prop)(h0:Pv 0 [] (b++List.replicate k none) (upd d D (.lst [])))
  (hl:∀i ys b H,Pv i ys b H→SqL K H a xs)
  (n:∀i x ys b H,xs[i]? = some x→Pv i ys b H→g x b H fun h o=>f h o fun y j=>j D=some (.lst ys)∧ys.length<sizeLine∧Pv (i+1) (ys++[y]) h (upd j D (.lst (ys++[y]))))
  (hd:∀ys b H,Pv xs.length ys b H→Q (.ref D) H):WC (Itl K a) D k b d g VP f Q:=by
 refine⟨fun i m ys b H=>m=xs.length-i∧i≤xs.length∧Pv i ys b H,⟨xs.length,by simp,Qw _,h0⟩,?_⟩;rintro i m ys b H ⟨rfl,hi,p⟩;have c:=hl i ys b H p;by_cases l:i<xs.length
 ·refine .inr ⟨⟨xs,xs[i],c,Qb l⟩,Pv (i+1),fun fh ak q r=>⟨xs.length-(i+1),by lia,rfl,l,r⟩,fun x q y=>?_⟩;obtain⟨rfl,e⟩:=y;simp only[VP,↓reduceIte];exact n i x ys b _ (e xs c) p
 ·have e:i=xs.length:=by lia
  exact .inl ⟨⟨xs,c,by lia⟩,hd ys b H (e ▸ p)⟩
theorem La:∀x y:List Nat,x<y↔ZT x y<0
 | [],[]=>by unfold ZT;exact⟨fun h=>absurd h #[4],fun h=>absurd h #[2]⟩
 | [],_::_=>by unfold ZT;exact⟨fun _=>by lia,fun _=>List.nil_lt_cons _ _⟩
 | _::_,[]=>by unfold ZT;exact⟨fun h=>absurd h (List.not_lt_nil _),fun h=>absurd h #[2]⟩
 | a::r,b::s=>by
  have c:=La r s;unfold ZT;rw[QaH];by_cases e:a=b
  ·rw[if_pos e,← c];exact⟨fun h=>h.elim (fun z=>by lia) (fun z=>z.2),fun h=>.inr ⟨e,h⟩⟩
  ·rw[if_neg e];by_cases l:a<b
   ·rw[if_pos l];exact⟨fun _=>by lia,fun _=>.inl l⟩
   ·rw[if_neg l];exact⟨fun h=>h.elim (fun z=>absurd z l) (fun z=>absurd z.1 e),fun h=>absurd h #[2]⟩
theorem Znj{H:Hp}{D:Addr}{ys:List V}(h:H D=some (.lst ys))(o:HO):∀a xs,H a=some (.tup xs)→(upd H D o) a=some (.tup xs):=fun a xs e=>by
 have nb:a≠D:=by intro z;rw[z,h]at e;cases e
 rw[Zc nb];exact e
noncomputable abbrev Hd:=Int→Option (List Nat)
def Btr(x:List Nat)(a:Int)(y:List Nat)(b:Int):Prop:=ZT x y<0∨(ZT x y=0∧a<b)
def Win(hd:Hd)(N:List Int):Option Int→Prop
 | none=>∀n∈N,hd n=none
 | some a=>a∈N∧∃x,hd a=some x∧∀b∈N,∀y,hd b=some y→b=a∨Btr x a y b
theorem Btr.asym{x y:List Nat}{a b:Int}(h:Btr x a y b)(g:Btr y b x a):False:=by have e:=V7 x y;rcases h with h|⟨h,h2⟩<;>rcases g with g|⟨g,g2⟩<;>lia
theorem Btr.total{x y:List Nat}{a b:Int}(h:a≠b):Btr x a y b∨Btr y b x a:=by have e:=V7 x y;unfold Btr;lia
theorem Btr.trans{x y z:List Nat}{a b c:Int}(h:Btr x a y b)(g:Btr y b z c):Btr x a z c:=by
 have t1:=SE x y z;have t2:=SE z x y;have t3:=SE y z x;have e1:=V7 x y;have e2:=V7 y z;have e3:=V7 x z;unfold Btr at *
 lia
theorem Win.one{hd:Hd}{N:List Int}{v w:Option Int}(h:Win hd N v)(g:Win hd N w):v=w:=by
 cases v with
 | none =>
  cases w with
  | none=>rfl
  | some b=>obtain⟨d,y,c,_⟩:=g;rw[h b d]at c;cases c
 | some a =>
  obtain⟨i,x,f,j⟩:=h;cases w with
  | none=>rw[g a i]at f;cases f
  | some b =>
   obtain⟨d,y,c,k⟩:=g;rcases j b d y c with e|e
   ·rw[e]
   ·rcases k a i x f with e'|e'
    ·rw[e']
    ·exact(e.asym e').elim
theorem Win.nil(hd:Hd):Win hd [] none:=fun n h=>by cases h
theorem Win.sing{hd:Hd}{n:Int}:Win hd [n] (if (hd n).isSome then some n else none):=by
 cases h:hd n with
 | none=>intro m a;rw[Qk.mp a];exact h
 | some x=>exact⟨by simp,x,h,fun b c y hy=>.inl (Qk.mp c)⟩
theorem Win.both{hd:Hd}{A B:List Int}{a b:Int}{x y:List Nat}(ha:Win hd A (some a))(hb:Win hd B (some b))(hx:hd a=some x)(hy:hd b=some y)(h:Btr x a y b):Win hd (A++B) (some a):=by
 obtain⟨a1,x',f,a2⟩:=ha;obtain⟨b1,y',g,i⟩:=hb;rw[hx]at f;cases f;rw[hy]at g;cases g;refine⟨QM _ a1,x,hx,fun c hc z d=>?_⟩;rcases Qn.mp hc with hc|hc
 ·exact a2 c hc z d
 ·rcases i c hc z d with e|e
  ·subst e;rw[hy]at d;cases d;exact .inr h
  ·exact .inr (h.trans e)
theorem Win.both'{hd:Hd}{A B:List Int}{a b:Int}{x y:List Nat}(ha:Win hd A (some a))(hb:Win hd B (some b))(hx:hd a=some x)(hy:hd b=some y)(h:Btr y b x a):Win hd (A++B) (some b):=by have:=Win.both hb ha hy hx h;obtain⟨d,z,e,f⟩:=this;exact⟨by rcases Qn.mp d with h|h<;>simp[h],z,e,fun c g=>f c (by rcases Qn.mp g with h|h<;>simp[h])⟩
theorem Win.left{hd:Hd}{A B:List Int}{w:Option Int}(ha:Win hd A w)(hb:Win hd B none):Win hd (A++B) w:=by
 cases w with
 | none=>intro n d;rcases Qn.mp d with h|h;exact ha n h;exact hb n h
 | some a =>
  obtain⟨a1,x,e,a2⟩:=ha;refine⟨QM _ a1,x,e,fun c hc z b=>?_⟩;rcases Qn.mp hc with hc|hc
  ·exact a2 c hc z b
  ·rw[hb c hc]at b;cases b
theorem Win.right{hd:Hd}{A B:List Int}{w:Option Int}(ha:Win hd A none)(hb:Win hd B w):Win hd (A++B) w:=by
 cases w with
 | none=>intro n d;rcases Qn.mp d with h|h;exact ha n h;exact hb n h
 | some a =>
  obtain⟨a1,x,e,a2⟩:=hb;refine⟨Qx _ a1,x,e,fun c hc z b=>?_⟩;rcases Qn.mp hc with hc|hc
  ·rw[ha c hc]at b;cases b
  ·exact a2 c hc z b
theorem Win.ex(hd:Hd):∀N:List Int,N.Nodup→∃w,Win hd N w
 | [],_=>⟨none,Win.nil hd⟩
 | n::N,d=>by
  obtain⟨f,g⟩:=QP.mp d;obtain⟨w,hw⟩:=Win.ex hd N g;have a:Win hd [n] (if (hd n).isSome then some n else none):=Win.sing;cases h:hd n with
  | none=>rw[h]at a;exact⟨w,Win.right (A:=[n]) a hw⟩
  | some x =>
   rw[h]at a;cases w with
   | none=>exact⟨some n,Win.left (A:=[n]) a hw⟩
   | some b =>
    obtain⟨i,y,c,b2⟩:=id hw;have j:n≠b:=fun e=>f (e ▸ i);rcases Btr.total (x:=x) (y:=y) j with e|e
    ·exact⟨some n,Win.both (A:=[n]) a hw h c e⟩
    ·exact⟨some b,Win.both' (A:=[n]) a hw h c e⟩
theorem Win.congr{hd c:Hd}{N:List Int}(h:∀n∈N,c n=hd n){w:Option Int}(hw:Win hd N w):Win c N w:=by
 cases w with
 | none=>intro n d;rw[h n d];exact hw n d
 | some a=>obtain⟨a1,x,f,a2⟩:=hw;exact⟨a1,x,by rw[h a a1];exact f,fun b e y g=>a2 b e y (by rw[← h b e];exact g)⟩
noncomputable def lo(N:List Int):List Int:=N.take (mid N)
noncomputable def up(N:List Int):List Int:=N.drop (mid N)
theorem XZ(N:List Int):lo N++up N=N:=List.take_append_drop _ _
theorem WU{N:List Int}(h:2≤N.length):(lo N).length<N.length∧1≤(lo N).length:=by unfold lo mid;rw[QA];lia
theorem Wt{N:List Int}(h:2≤N.length):(up N).length<N.length∧1≤(up N).length:=by unfold up mid;rw[Q5];lia
noncomputable def ZR(N:List Int):Int×Int:=(N.headD 0,N.getLastD 0)
abbrev StL:=List ((Int×Int)×Option (Addr×Int×Int))
noncomputable def stV:Option (Addr×Int×Int)→V
 | none=>.non
 | some t=>.ref t.1
noncomputable def kvS(s:StL):List (List Key×V):=s.map fun e=>([.inl e.1.1,.inl e.1.2],stV e.2)
def AtS(H:Hp)(s:StL):Prop:=∀e∈s,∀t,e.2=some t→H t.1=some (.tup [.int t.2.1,.int t.2.2])
noncomputable def Z2(s:StL)(k:Int×Int):Option (Option (Addr×Int×Int)):=(s.find? fun e=>decide (e.1=k)).map (·.2)
noncomputable def Yt(s:StL)(k:Int×Int)(v:Option (Addr×Int×Int)):StL:=if s.any (fun e=>decide (e.1=k)) then s.map (fun e=>if e.1=k then (e.1,v) else e) else s++[(k,v)]
theorem AtS.mono{H H':Hp}{s:StL}(h:AtS H s)(k:∀a xs,H a=some (.tup xs)→H' a=some (.tup xs)):AtS H' s:=fun e he t b=>k _ _ (h e he t b)
theorem O4{a b:Int×Int}(h:([.inl a.1,.inl a.2]:List Key)=[.inl b.1,.inl b.2]):a=b:=by obtain⟨a1,a2⟩:=a;obtain⟨b1,b2⟩:=b;injection h with f c;injection c with c _;have d:=Sum.inl.inj f;have e:=Sum.inl.inj c;simp only at d e;rw[d,e]
theorem K9(k:Int×Int):∀s:StL,Z8 (kvS s) [.inl k.1,.inl k.2]=(Z2 s k).map stV
 | []=>rfl
 | e::s=>by
  have a:=K9 k s;by_cases h:e.1=k
  ·unfold kvS Z2;rw[Qj,Vd (by rw[h])];simp[List.find?_cons,h]
  ·unfold kvS at a ⊢;rw[Qj,Vc (fun z=>h (O4 z)),a];unfold Z2;simp[List.find?_cons,h]
theorem Zp7(k:Int×Int)(s:StL):((kvS s).any fun a=>decide (a.1=([.inl k.1,.inl k.2]:List Key)))=s.any fun e=>decide (e.1=k):=by
 unfold kvS;rw[List.any_map];congr 1;funext e;simp only[Function.comp];by_cases h:e.1=k
 ·rw[decide_eq_true h,decide_eq_true (by rw[h])]
 ·rw[decide_eq_false h,decide_eq_false (fun z=>h (O4 z))]
theorem Sy(s:StL)(k:Int×Int)(v:Option (Addr×Int×Int)):Y6 (kvS s) [.inl k.1,.inl k.2] (stV v)=kvS (Yt s k v):=by
 unfold Y6 Yt;rw[Zp7];split
 ·unfold kvS;rw[Qg,Qg];congr 1;funext e;simp only[Function.comp];by_cases h:e.1=k
  ·rw[if_pos h,if_pos (by rw[h])]
  ·rw[if_neg h,if_neg (fun z=>h (O4 z))]
 ·unfold kvS;rw[Qf];rfl
theorem ZnF(s:StL)(k:Int×Int)(v:Option (Addr×Int×Int)):(Yt s k v).length≤s.length+1:=by
 unfold Yt;split
 ·rw[Qa];lia
 ·rw[Qi];exact Qh _
theorem WT(s:StL)(k j:Int×Int)(v:Option (Addr×Int×Int)):Z2 (Yt s k v) j=if j=k then some v else Z2 s j:=by
 unfold Yt;split
 ·rename_i h;induction s with
  | nil=>simp at h
  | cons e s f =>
   unfold Z2 at f ⊢;by_cases b:e.1=k
   ·by_cases a:j=k
    ·subst a;simp[List.find?_cons,b]
    ·have c:¬ k=j:=fun z=>a z.symm;rw[Qj,if_pos b,Qay (by simp[b,c]),Qay (by simp[b,c]),if_neg a];by_cases d:s.any (fun e=>decide (e.1=k))=true
     ·have:=f d;rw[if_neg a]at this;exact this
     ·have:s.map (fun e=>if e.1=k then (e.1,v) else e)=s:=by
       rw[List.map_eq_iff];intro i;cases l:s[i]? with
       | none=>rfl
       | some x=>have g:¬ x.1=k:=fun z=>d (Qax.mpr ⟨x,Qo l,by simpa using z⟩);simp[g]
      rw[this]
   ·have d:s.any (fun e=>decide (e.1=k))=true:=by simpa [b] using h
    rw[Qj,if_neg b];by_cases a:e.1=j
    ·have:¬ j=k:=fun z=>b (a.trans z);rw[List.find?_cons_of_pos (by simpa using a),List.find?_cons_of_pos (by simpa using a),if_neg this]
    ·rw[Qay (by simpa using a),Qay (by simpa using a)];exact f d
 ·rename_i h;unfold Z2;rw[List.find?_append];by_cases a:j=k
  ·subst a;have:s.find? (fun e=>decide (e.1=j))=none:=by rw[List.find?_eq_none];intro x g z;exact h (Qax.mpr ⟨x,g,z⟩)
   rw[this];simp
  ·have c:¬ k=j:=fun z=>a z.symm;rw[if_neg a];simp[c]
theorem AtS.put{H:Hp}{s:StL}{k:Int×Int}{v:Option (Addr×Int×Int)}(h:AtS H s)(hv:∀t,v=some t→H t.1=some (.tup [.int t.2.1,.int t.2.2])):AtS H (Yt s k v):=by
 unfold Yt;split
 ·intro e he t a;obtain⟨x,b,rfl⟩:=Ql.mp he;split at a
  ·exact hv t a
  ·exact h x b t a
 ·intro e he t a;rcases Qn.mp he with he|he
  ·exact h e he t a
  ·rw[Qk.mp he]at a;exact hv t a
theorem K8{s:StL}{k:Int×Int}{v:Option (Addr×Int×Int)}(h:Z2 s k=some v):(k,v)∈s:=by
 unfold Z2 at h;obtain⟨e,a,rfl⟩:=Qa3.mp h;have b:=List.find?_some a;have:e.1=k:=by simpa using b
 rw[← this];exact Qar a
def Zs4(hd:Hd)(s:StL)(N:List Int):Prop :=
 (∀a b x y,Win hd (lo N) (some a)→Win hd (up N) (some b)→hd a=some x→hd b=some y→∃t,Z2 s (ZR N)=some (some (t,if ZT x y<0∨(ZT x y=0∧a<b) then b else a,((lcp x y:Nat):Int)))) ∧
 ((Win hd (lo N) none∨Win hd (up N) none)→Z2 s (ZR N)=none∨Z2 s (ZR N)=some none)
def XY(hd:Hd)(s:StL):Nat→List Int→Prop
 | 0,_=>True
 | n+1,N=>2≤N.length→XY hd s n (lo N)∧XY hd s n (up N)∧Zs4 hd s N
def Xw:Nat→List Int→Int×Int→Prop
 | 0,_,_=>False
 | n+1,N,k=>2≤N.length∧(Xw n (lo N) k∨Xw n (up N) k∨k=ZR N)
abbrev YS(N:List Int):Prop:=N.Pairwise (·<·)
theorem Sx{N:List Int}(h:YS N):YS (lo N):=h.sublist (List.take_sublist _ _)
theorem Sw{N:List Int}(h:YS N):YS (up N):=h.sublist (List.drop_sublist _ _)
theorem TV{N:List Int}(h:YS N):N.Nodup:=h.imp fun {a b} jF e=>by lia
theorem ZO{N:List Int}(h:YS N){a b:Int}(ha:a∈lo N)(hb:b∈up N):a<b:=by
 have:YS (lo N++up N):=by rw[XZ];exact h
 exact(Qaj.mp this).2.2 a ha b hb
theorem UT{N:List Int}(h:N≠[]):N.headD 0∈N:=by
 cases N with
 | nil=>exact absurd rfl h
 | cons a r=>simp
theorem US{N:List Int}(h:N≠[]):N.getLastD 0∈N:=by rw[Qaf,Qat h];exact List.getLast_mem h
theorem XI{N:List Int}(h:1≤N.length):N≠[]:=fun z=>by rw[z]at h;simp at h
theorem O3{N:List Int}(h:2≤N.length):(ZR N).2=(up N).getLastD 0:=by
 have a:=XI (Wt h).2;show N.getLastD 0=_;rw[Qaf,Qaf]
 conv=>lhs;rw[← XZ N]
 rw[List.getLast?_append,Qat a];rfl
theorem O2{N:List Int}(h:2≤N.length):(ZR N).1=(lo N).headD 0:=by
 have b:=XI (WU h).2;show N.headD 0=_
 conv=>lhs;rw[← XZ N]
 cases c:lo N with
 | nil=>exact absurd c b
 | cons a r=>rfl
theorem UR:∀ (n:Nat) (N:List Int) (k:Int×Int),Xw n N k→k.1∈N∧k.2∈N
 | 0,_,_,h=>h.elim
 | n+1,N,k,⟨h2,h⟩=>by
  rcases h with h|h|rfl
  ·have:=UR n _ k h;rw[← XZ N];exact⟨QM _ this.1,QM _ this.2⟩
  ·have:=UR n _ k h;rw[← XZ N];exact⟨Qx _ this.1,Qx _ this.2⟩
  ·have a:N≠[]:=XI #[2];exact⟨UT a,US a⟩
theorem O1{N:List Int}(a:YS N)(h2:2≤N.length){n:Nat}{k:Int×Int}(h:Xw n (lo N) k):k≠ZR N∧∀m,¬ Xw m (up N) k:=by
 have:=UR n _ k h;refine⟨fun z=>?_,fun m b=>?_⟩
 ·have c:=O3 h2;rw[z,c]at this;have:=ZO a this.2 (US (XI (Wt h2).2));lia
 ·have:=ZO a this.1 (UR m _ k b).1;lia
theorem O0{N:List Int}(a:YS N)(h2:2≤N.length){n:Nat}{k:Int×Int}(h:Xw n (up N) k):k≠ZR N∧∀m,¬ Xw m (lo N) k:=by
 have:=UR n _ k h;refine⟨fun z=>?_,fun m b=>?_⟩
 ·have c:=O2 h2;rw[z,c]at this;have:=ZO a (UT (XI (WU h2).2)) this.1;lia
 ·have:=ZO a (UR m _ k b).1 this.1;lia
theorem XY.congr{hd d:Hd}{s s':StL}:∀ (n:Nat) (N:List Int),(∀m∈N,d m=hd m)→(∀k,Xw n N k→Z2 s' k=Z2 s k)→XY hd s n N→XY d s' n N
 | 0,_,_,_,_=>True.intro
 | n+1,N,j,hk,h=>fun h2=>by
  obtain⟨a,b,c1,c2⟩:=h h2;have f:∀m∈lo N,d m=hd m:=fun m c=>j m (by rw[← XZ N];exact QM _ c);have g:∀m∈up N,d m=hd m:=fun m c=>j m (by rw[← XZ N];exact Qx _ c);have l:∀m∈lo N,hd m=d m:=fun m c=>(f m c).symm;have e:∀m∈up N,hd m=d m:=fun m c=>(g m c).symm;refine⟨XY.congr n _ f (fun k i=>hk k ⟨h2,.inl i⟩) a,XY.congr n _ g (fun k i=>hk k ⟨h2,.inr (.inl i)⟩) b,fun a b x y o p q r=>?_,fun hw=>?_⟩
  ·rw[hk _ ⟨h2,.inr (.inr rfl)⟩];exact c1 a b x y (Win.congr l o) (Win.congr e p) (by rw[← f a o.1];exact q) (by rw[← g b p.1];exact r)
  ·rw[hk _ ⟨h2,.inr (.inr rfl)⟩];refine c2 ?_;rcases hw with hw|hw
   ·exact .inl (Win.congr l hw)
   ·exact .inr (Win.congr e hw)
inductive YW (hd:Hd):Nat→List Int→Int→Int→Prop
 | few {n:Nat} {N:List Int}:N.length<2→YW hd n N 0 0
 | none {n:Nat} {N:List Int} {k l k' l':Int}:2≤N.length→YW hd n (lo N) k l→YW hd n (up N) k' l'→(Win hd (lo N) none∨Win hd (up N) none)→YW hd (n+1) N (k+k') (l+l')
 | both {n:Nat} {N:List Int} {k l k' l':Int} {a b:Int} {x y:List Nat}:2≤N.length→YW hd n (lo N) k l→YW hd n (up N) k' l'→Win hd (lo N) (some a)→Win hd (up N) (some b)→hd a=some x→hd b=some y→YW hd (n+1) N (k+k'+1) (l+l'+(lcp x y:Nat)+1)
theorem YW.one{hd:Hd}:∀ {n m:Nat} {N:List Int} {k l k' g:Int},YW hd n N k l→YW hd m N k' g→k=k'∧l=g
 | _,_,_,_,_,_,_,.few h,p=>by
  cases p with
  | few _=>exact⟨rfl,rfl⟩
  | none h2 _ _ _=>lia
  | both h2 _ _ _ _ _ _=>lia
 | _,_,_,_,_,_,_,.none h2 a b hw,p=>by
  cases p with
  | few h=>lia
  | none _ c d _=>obtain⟨r,s⟩:=YW.one a c;obtain⟨t,u⟩:=YW.one b d;exact⟨by lia,by lia⟩
  | both _ c d e f i j =>
   rcases hw with hw|hw
   ·exact nomatch hw.one e
   ·exact nomatch hw.one f
 | _,_,_,_,_,_,_,.both h2 a b e f i j,p=>by
  cases p with
  | few h=>lia
  | none _ c d hw =>
   rcases hw with hw|hw
   ·exact nomatch hw.one e
   ·exact nomatch hw.one f
  | both _ c d v w o q=>obtain⟨r,s⟩:=YW.one a c;obtain⟨t,u⟩:=YW.one b d;have x:=Qr (e.one v);have y:=Qr (f.one w);subst x y;rw[i]at o;cases o;rw[j]at q;cases q;exact⟨by lia,by lia⟩
noncomputable def kk(e:Str×Int):List Key:=[.inr e.1,.inl e.2]
noncomputable def oV:Option Str→V
 | none=>.non
 | some s=>.str s
noncomputable def Y4:Option Int→V
 | none=>.non
 | some a=>.int a
noncomputable def kvH(E:List (Int×Option Str)):List (Key×V):=E.map fun e=>(.inl e.1,oV e.2)
noncomputable def lk(E:List (Int×Option Str))(n:Int):Option Str:=(E.find? fun e=>decide (e.1=n)).bind (·.2)
noncomputable def hdE(E:List (Int×Option Str)):Hd:=fun n=>(lk E n).map cds
theorem Sv:∀ {E:List (Int×Option Str)},(E.map (·.1)).Nodup→∀ {e:Int×Option Str},e∈E→lk E e.1=e.2
 | [],_,_,h=>by cases h
 | x::r,nd,e,h=>by
  rw[Qj,QP]at nd;unfold lk;rw[Qae];rcases QF.mp h with rfl|h
  ·rw[decide_eq_true rfl];rfl
  ·rw[decide_eq_false (fun z:x.1=e.1=>nd.1 (by rw[z];exact Qd (f:=fun x:Int×Option Str=>x.1) h))];exact Sv nd.2 h
theorem Zq3{E:List (Int×Option Str)}(h:(E.map (·.1)).Nodup):((kvH E).map (·.1)).Nodup:=by
 have e:(kvH E).map (·.1)=(E.map (·.1)).map (Sum.inl:Int→Key):=by unfold kvH;rw[Qg,Qg];rfl
 rw[e];exact Qa5 _ (fun a b c z=>c (Sum.inl.inj z)) h
theorem UQ{E:List (Int×Option Str)}(h:(E.map (·.1)).Nodup){n:Int}(b:n∈E.map (·.1)):Z8 (kvH E) (.inl n)=some (oV (lk E n)):=by obtain⟨e,a,rfl⟩:=Ql.mp b;rw[Sv h a];exact Tb (Zq3 h) (Qd (f:=fun e:Int×Option Str=>((.inl e.1:Key),oV e.2)) a)
noncomputable def prs(E:List (Int×Option Str))(N:List Int):List (Str×Int):=N.filterMap fun n=>(lk E n).map fun s=>(s,n)
theorem Su{E:List (Int×Option Str)}{N:List Int}{s:Str}{n:Int}:(s,n)∈prs E N↔n∈N∧lk E n=some s:=by
 unfold prs;rw[List.mem_filterMap];constructor
 ·rintro⟨m,a,e⟩;cases h:lk E m with
  | none=>rw[h]at e;cases e
  | some x=>rw[h]at e;injection e with e;injection e with b c;rw[← c,← b];exact⟨a,h⟩
 ·rintro⟨d,h⟩;exact⟨n,d,by rw[h];rfl⟩
theorem ZpL{x y:Str}(h:cds x=cds y):x=y:=by obtain⟨⟨a⟩⟩:=x;obtain⟨⟨b⟩⟩:=y;have:a=b:=h;rw[this]
theorem Zp9{s s':Str}{a b:Int}(h:YG (kk (s',b)) (kk (s,a))=false):b=a∨Btr (cds s) a (cds s') b:=by
 unfold kk at h;rw[Rt]at h;by_cases e:(Sum.inr s':Key)=Sum.inr s
 ·rw[if_pos e,Rt]at h;have f:s'=s:=Sum.inr.inj e;by_cases c:(Sum.inl b:Key)=Sum.inl a
  ·exact .inl (Sum.inl.inj c)
  ·rw[if_neg c]at h;have d:¬ b<a:=of_decide_eq_false h;have g:b≠a:=fun z=>c (by rw[z]);exact .inr (.inr ⟨by rw[f,Ld],by lia⟩)
 ·rw[if_neg e]at h;have d:¬ cds s'<cds s:=of_decide_eq_false h;rw[La]at d;have g:=V7 (cds s') (cds s);have h3:ZT (cds s) (cds s')≠0:=fun z=>e (by rw[ZpL (O9 _ _ z)]);exact .inr (.inl #[2])
theorem Zri{E:List (Int×Option Str)}{N:List Int}{s:Str}{a:Int}(h:(s,a)∈prs E N)(hm:∀e∈prs E N,YG (kk e) (kk (s,a))=false):Win (hdE E) N (some a):=by
 obtain⟨f,g⟩:=Su.mp h;refine⟨f,cds s,by unfold hdE;rw[g];rfl,fun b i y c=>?_⟩;unfold hdE at c;cases d:lk E b with
 | none=>rw[d]at c;cases c
 | some j=>rw[d]at c;cases c;exact Zp9 (hm (j,b) (Su.mpr ⟨i,d⟩))
theorem Zn4{E:List (Int×Option Str)}{N:List Int}(h:prs E N=[]):Win (hdE E) N none:=fun n a=>by
 unfold hdE;cases b:lk E n with
 | none=>rfl
 | some s=>have:=Su.mpr ⟨a,b⟩;rw[h]at this;cases this
noncomputable def K7:Key→PyData
 | .inl i=>.int i
 | .inr s=>.str s
noncomputable def tD(k:List Key):PyData:=.tuple (k.map K7)
theorem OZ{K:#[7]}{H:Hp}:∀ks:List Key,DVs K H (ks.map kV) (ks.map K7)
 | []=>.nil
 | .inl i::r=>.cons (.int i) (OZ r)
 | .inr s::r=>.cons (.str s) (OZ r)
theorem K6{K:#[7]}{H:Hp}:∀ts:WB,AtT H ts→DVs K H (VN ts) (ts.map fun t=>tD t.2)
 | [],_=>.nil
 | t::r,h=>.cons (.tup (SqT.of (h t #[4])) (OZ t.2)) (K6 r fun x hx=>h x (Qt _ hx))
theorem K5:∀L:List (Str×Int),(∀e∈L,AZ e.1)→PyData.canLayAll0 (L.map fun e=>tD (kk e))=true∧PyData.depthAll (L.map fun e=>tD (kk e))≤1
 | [],_=>⟨rfl,by simp[PyData.depthAll]⟩
 | e::r,h=>by obtain⟨a,b⟩:=K5 r fun x hx=>h x (Qt _ hx);have c:tD (kk e)=.tuple [.str e.1,.int e.2]:=rfl;have d:=(h e #[4]).ok;refine⟨by simp[PyData.canLayAll0,PyData.canLay0,c,d,a],?_⟩;rw[Qj,c];simp only[PyData.depthAll,PyData.depth];lia
theorem K4(L:List (Str×Int))(h:∀e∈L,AZ e.1):SeqAt.shaped (.list (L.map fun e=>tD (kk e)))=true:=by obtain⟨a,b⟩:=K5 L h;simp[SeqAt.shaped,PyData.canLay0,PyData.depth,a];lia
structure Hds (H:Hp) (D:Addr) (E:List (Int×Option Str)):Prop where
 at':H D=some (.dK (kvH E))
 nd:(E.map (·.1)).Nodup
 ok:∀e∈E,∀s,e.2=some s→s.length≤1000∧AZ s
theorem Hds.lk{H:Hp}{D:Addr}{E:List (Int×Option Str)}(h:Hds H D E){n:Int}{s:Str}(e:lk E n=some s):s.length≤1000∧AZ s:=by
 unfold My.lk at e;cases a:E.find? fun e=>decide (e.1=n) with
 | none=>rw[a]at e;cases e
 | some x=>rw[a]at e;exact h.ok x (Qar a) s e
theorem Hds.same{H H':Hp}{D:Addr}{E:List (Int×Option Str)}(h:Hds H D E)(s:ZG H H'):Hds H' D E:=⟨s _ _ h.at',h.nd,h.ok⟩
def Ss(K:#[7]):Sp:=fun vs H Q _=>∃ (D l:Addr) (E:List (Int×Option Str)) (N:List Int),vs=[.ref D,.ref l]∧Hds H D E∧SqL K H l (N.map V.int)∧N.length≤60∧(∀n∈N,n∈E.map (·.1)) ∧
 ∀ (v:Option Int) (a:Hp),Win (hdE E) N v→ZG H a→Q (Y4 v) a
theorem ZmF(T:Z9 K mg ab U):Df P w K mg base 1 "_law_least" ["_law_heads_here", "_law_numbers"] (Ss K):=by
 refine T.t_l_least.df LP (fun vs H Q E h=>?_) (fun ai f A outer s H vs Q E M h=>?_)
 ·obtain⟨D,l,E,N,rfl,_⟩:=h;rfl
 obtain⟨D,l,d,N,rfl,S,hl,fb,aV,q⟩:=h;refine⟨_,#[Zf,#[Uy,2,LP.nd,VC,#[iL,K,‹1›],(fun _ _ _ _=>#[cg,3,VC]),(fun _ _ _ _=>(@RB _ _ _ #[Zl,Vh,#[Zo,(ixG M),#[cv,0,VC],#[cw,3,VC]],#[ZZ],(Zs _)])),(fun _ _ _ _=>#[YV,#[Za,#[Zo,(ixG M),#[cv,0,VC],#[cw,3,VC]],#[Za,#[cw,3,VC],#[Ze]]]])],#[Zi,#[Zp,#[Xo,#[Zl,(@neD _ K _ M #[5]),‹2›,#[YU,#[Ze]],(Zs _)],#[Zo,(ixT K),#[Zk,(ZsK K M),#[5],T.b.n_min,boot_min,#[Za,‹2›,#[Ze]]],#[Zj]],#[ZZ]]]]],?_⟩;refine⟨_,rfl,l,rfl,⟨_,hl⟩,fun B hB=>?_⟩;refine Lb (K:=K) (a:=l) (xs:=N.map V.int) (fun i zs W j=>(∃v:Option V,W=[some (.ref D),some (.ref l),none,v])∧(∃c:WB,zs=VN c∧AtT j c∧c.length≤i∧c.map (·.2)=(prs d (N.take i)).map kk)∧i≤N.length∧j B=some (.lst zs)∧ZG H j) ?_ (fun _ _ _ _ h=>h.2.2.2.2.seq hl) ?_ ?_
 ·exact⟨⟨none,rfl⟩,⟨[],rfl,(fun t h=>by cases h),Qh _,rfl⟩,Qw _,Zd,Zh hB _⟩
 ·rintro i x zs W j C ⟨⟨v,rfl⟩,⟨c,rfl,F,fc,k⟩,hi,m,G⟩;rw[Qm]at C;cases p:N[i]? with
  | none=>rw[p]at C;cases C
  | some n =>
  rw[p]at C;cases C;have bc:i<N.length:=(Qe.mp p).1;have hv:=UQ S.nd (aV n (Qo p));have bZ:=G _ _ S.at';have O:ZP j D (kV (.inl n)) (some (oV (lk d n))):=by rw[← hv];exact ZP.k bZ
  refine⟨_,rfl,_,rfl,D,_,rfl,O,rfl,_,rfl,?_⟩;cases R:lk d n with
  | none=>rw[R]at O;refine YZ ⟨⟨_,rfl⟩,⟨c,rfl,F,by lia,?_⟩,bc,m,G⟩;rw[k,QH,p];unfold prs;rw[QaE];simp[R]
  | some z =>
   rw[R]at O;refine Xu ⟨_,rfl,_,rfl,D,_,rfl,O,_,rfl,(by show 2≤sizeLine;decide),fun t tX=>?_⟩;have X:=Zh tX (.tup [.str z,.int n]);have I:=X _ _ m;have Be:B≠t:=Zb m tX;refine⟨I,(by unfold VN;rw[Qa];exact Zy #[2]),⟨_,rfl⟩,⟨c++[(t,kk (z,n))],by unfold VN;rw[Qf];rfl,fun y hy=>?_,by rw[Qi,Qy];lia,?_⟩,bc,Zd,fun b o hb=>?_⟩
   ·rcases Qn.mp hy with hy|hy
    ·exact Znj I _ _ _ (X _ _ (F y hy))
    ·rw[Qk.mp hy,Zc Be.symm];exact Zd
   ·rw[Qf,k,QH,p];unfold prs;rw[QaE,Qf];simp[R]
   ·rw[Zc (Zb hb hB)];exact X _ _ (G b o hb)
 rintro zs W j ⟨⟨v,rfl⟩,⟨c,rfl,F,fc,k⟩,_,m,G⟩;rw[Qa,Qv (Qh _)]at k;have Bf:∀e∈prs d N,AZ e.1:=fun e J=>(S.lk (Su.mp (show (e.1,e.2)∈prs d N from J)).2).2;have pT:(c.map fun t=>tD t.2)=(prs d N).map fun e=>tD (kk e):=by have:=congrArg (List.map tD) k;rw[Qg,Qg]at this;exact this
 refine⟨_,rfl,(by show 0≤sizeLine;decide),fun Y Bg=>?_⟩;have L:=Zh Bg (.lst []);have Bh:DVs K (upd j Y (.lst [])) (VN c) ((prs d N).map fun e=>tD (kk e)):=by rw[← pT];exact K6 c (fun t g=>L _ _ (F t g))
 refine⟨.list ((prs d N).map fun e=>tD (kk e)),.list [],.lst (SqL.of (L _ _ m)) Bh,.lst (SqL.of Zd) .nil,K4 _ Bf,K4 [] (fun e h=>by cases h),_,rfl,?_⟩;have I:=L _ _ m;have Z:AtT (upd j Y (.lst [])) c:=fun t g=>L _ _ (F t g);have eR:=G.trans L;generalize upd j Y (.lst [])=H3 at I Z eR ⊢;cases hp:prs d N with
 | nil=>rw[show (if true=true then !PyData.eqv (.list (([]:List (Str×Int)).map fun e=>tD (kk e))) (.list []) else PyData.eqv (.list (([]:List (Str×Int)).map fun e=>tD (kk e))) (.list []))=false by ac_rfl];exact YZ (q none H3 (Zn4 hp) eR)
 | cons e0 er =>
  rw[show (if true=true then !PyData.eqv (.list ((e0::er).map fun e=>tD (kk e))) (.list []) else PyData.eqv (.list ((e0::er).map fun e=>tD (kk e))) (.list []))=true by simp[PyData.eqv,PyData.eqvAll]];have aW:c≠[]:=fun z=>by rw[z,hp]at k;cases k
  have nF:∀t∈c,∃e∈prs d N,t.2=kk e:=fun t g=>by have:=Qd (f:=fun t:Addr×List Key=>t.2) g;rw[k]at this;obtain⟨e,J,r⟩:=Ql.mp this;exact⟨e,J,r.symm⟩
  refine Xu ⟨_,rfl,B,c,[false,true],rfl,SqL.of I,Z,aW,fun t g=>?_,fun t g nc=>?_⟩
  ·obtain⟨e,_,r⟩:=nF t g;rw[r];rfl
  ·obtain⟨e,J,r⟩:=nF t g;have pU:=Z t g;rw[r]at pU;refine⟨t.1,_,_,_,rfl,rfl,SqT.of pU,(show atI ((kk e).map kV) ((1:Nat):Int)=some (.int e.2) from Yx rfl),?_⟩;refine q (some e.2) H3 (Zri (s:=e.1) J fun u hu=>?_) eR;have:kk u∈c.map (·.2):=by rw[k];exact Qd hu
   obtain⟨t',aI,e3⟩:=Ql.mp this;have:=nc t' aI;rw[e3,r]at this;exact this
theorem OY(N:List Int):X0 N=lo N:=rfl
theorem OX(N:List Int):WV N=up N:=rfl
theorem Sr{E:List (Int×Option Str)}{N:List Int}{a:Int}(h:Win (hdE E) N (some a)):a∈N∧∃z,lk E a=some z∧hdE E a=some (cds z):=by
 obtain⟨d,x,b,_⟩:=h;refine⟨d,?_⟩;cases c:lk E a with
 | none=>unfold hdE at b;rw[c]at b;cases b
 | some z=>exact⟨z,rfl,by unfold hdE;rw[c];rfl⟩
def K3(K:#[7])(n:Nat):Sp:=fun vs H Q _=>∃ (D l:Addr) (E:List (Int×Option Str)) (N:List Int),vs=[.ref D,.ref l]∧Hds H D E∧SqL K H l (N.map V.int)∧N.length≤60∧0<n∧N.length≤2 ^ (n-1)∧(∀m∈N,m∈E.map (·.1)) ∧
 ∀ (t:Addr) (k q:Int) (a:Hp),YW (hdE E) n N k q→H t=none→a t=some (.tup [.int k,.int q])→ZG H a→Q (.ref t) a
theorem K2(T:Z9 K mg ab U)(bd:Df P w K mg base 1 "_law_halves" ["_law_numbers"] (V6 K false))(J:Df P w K mg base 1 "_law_least" ["_law_heads_here", "_law_numbers"] (Ss K))(aY:Df P w K mg base 1 "_law_alike" ["_law_one", "_law_other"] V8) :
  ∀n:Nat,Df P w K mg base (n+1) "_law_first_play" ["_law_heads_here", "_law_numbers"] (K3 K n)
 | 0=>by
  refine T.t_l_first_play.df U5 (fun vs H Q E h=>?_) (fun ai f A outer s H vs Q E i h=>?_)
  ·obtain⟨D,l,E,N,rfl,_⟩:=h;rfl
  obtain⟨D,l,E,N,rfl,_,_,_,z,_⟩:=h;exact absurd z #[2]
 | n+1=>by
  have aO:=K2 T bd J aY n;refine T.t_l_first_play.df U5 (fun vs H Q E h=>?_) (fun ai f A outer s H vs Q E i h=>?_)
  ·obtain⟨D,l,E,N,rfl,_⟩:=h;rfl
  obtain⟨D,l,g,N,rfl,j,hl,fb,_,cr,aV,q⟩:=h;rw[Qah]at cr;refine⟨_,#[Zf,#[ZW,#[Zl,XS,#[Zk,(YB K),#[5],T.b.n_len,Qz,#[Za,‹1›,#[Ze]]],#[Zj],(Zs _)],#[Zi,#[Zp,#[YV,#[Za,#[Zj],#[Za,#[Zj],#[Ze]]]]]],#[ZH]],#[Zf,#[Z0,#[Zz,bd,i,#[Za,‹1›,#[Ze]],#[5]],(@gL _ K _ _ _ 2 _ #[Zu,#[ZE,2,U5.nd,#[3]],#[Zu,#[ZE,3,U5.nd,#[3]],(@Yy _)]] #[5] #[5] #[5] #[5])],#[Zf,#[Wg,4,5,U5.nd,#[Za,#[Zz,aO,i,#[Za,‹0›,#[Za,‹2›,#[Ze]]],#[5]],#[Za,#[Zz,aO,i,#[Za,‹0›,#[Za,‹3›,#[Ze]]],#[5]],#[Ze]]]],#[Zf,#[Wg,6,7,U5.nd,#[Za,#[Zz,J,i,#[Za,‹0›,#[Za,‹2›,#[Ze]]],#[5]],#[Za,#[Zz,J,i,#[Za,‹0›,#[Za,‹3›,#[Ze]]],#[5]],#[Ze]]]],#[Zf,#[ZW,(@PW.pt _ _ _ #[Wh,#[Zl,XR,‹6›,#[ZZ],(Zs _)],(@Vn _ _ _ _ #[Zl,XR,‹7›,#[ZZ],(Zs _)])]),#[Zi,#[Zp,#[YV,#[Za,#[ZJ,YO,#[Zo,(ixT K),‹4›,#[Zj]],#[Zo,(ixT K),‹5›,#[Zj]]],#[Za,#[ZJ,YO,#[Zo,(ixT K),‹4›,#[Zj]],#[Zo,(ixT K),‹5›,#[Zj]]],#[Ze]]]]]],#[ZH]],#[Zi,#[Zp,#[YV,#[Za,#[ZJ,YO,#[ZJ,YO,#[Zo,(ixT K),‹4›,#[Zj]],#[Zo,(ixT K),‹5›,#[Zj]]],#[Zj]],#[Za,#[ZJ,YO,#[ZJ,YO,#[ZJ,YO,#[Zo,(ixT K),‹4›,#[Zj]],#[Zo,(ixT K),‹5›,#[Zj]]],#[Zz,aY,i,#[Za,#[Zo,(ixG i),‹0›,‹6›],#[Za,#[Zo,(ixG i),‹0›,‹7›],#[Ze]]],#[5]]],#[Zj]],#[Ze]]]]]]]]]]],?_⟩;have fF:(((N.map V.int).length:Nat):Int)=(N.length:Int):=by rw[Qa]
  refine⟨_,rfl,l,_,rfl,.inl hl,_,_,rfl,rfl,_,rfl,Y3 (fun d=>?_) (fun d=>?_)⟩
  ·have ah:N.length<2:=by have:=of_decide_eq_true d;rw[fF]at this;lia
   exact⟨(by show 2≤sizeLine;decide),fun t c=>q t 0 0 _ (.few ah) c Zd (Zh c _)⟩
  have cj:2≤N.length:=by have:¬ ((N.length:Int)<2):=fun z=>d (decide_eq_true (by rw[fF];exact z));lia
  have fY:1≤n:=by
   cases n with
   | zero=>simp at cr;lia
   | succ m=>lia
  have wT:2 ^ n=2*2 ^ (n-1):=by obtain⟨m,rfl⟩:∃m,n=m+1:=⟨n-1,by lia⟩;rw[Qa6,Qah];lia
  have L:(lo N).length≤2 ^ (n-1)∧(lo N).length≤60:=by unfold lo mid;rw[QA];lia
  have M:(up N).length≤2 ^ (n-1)∧(up N).length≤60:=by unfold up mid;rw[Q5];lia
  have O:∀m∈lo N,m∈g.map (·.1):=fun m R=>aV m (Q2 R);have S:∀m∈up N,m∈g.map (·.1):=fun m R=>aV m (Qak R);refine⟨_,rfl,l,N,rfl,hl,by lia,fun t f r H2 c hf gR pV ca W X s2 Bi Bj=>?_⟩;rw[OY]at W;rw[OX]at X;refine⟨t,_,rfl,SqL.of ca,rfl,_,_,rfl,_,_,rfl,rfl,?_⟩;refine⟨_,rfl,_,rfl,D,f,g,lo N,rfl,j.same s2,SqL.of W,L.2,fY,L.1,O,fun k k1 y H3 p1 tY h1 Y=>?_⟩;have eR:=s2.trans Y;refine⟨_,rfl,_,rfl,D,r,g,up N,rfl,j.same eR,SqL.of (Y _ _ X),M.2,fY,M.1,S,fun o k2 B H4 p2 DE h2 Z=>⟨_,_,rfl,?_⟩⟩;have nG:=eR.trans Z;have wU:=Y.trans Z;refine⟨_,rfl,_,rfl,D,f,g,lo N,rfl,j.same nG,SqL.of (wU _ _ W),L.2,O,fun C H5 w1 F=>?_⟩;have nH:=nG.trans F;have nJ:=wU.trans F;refine⟨_,rfl,_,rfl,D,r,g,up N,rfl,j.same nH,SqL.of (nJ _ _ X),M.2,S,fun G I w2 s6=>⟨_,_,rfl,?_⟩⟩;have v:=nH.trans s6;have p:=s6 _ _ (F _ _ (Z _ _ h1));have u:=s6 _ _ (F _ _ h2);have x:(Win (hdE g) (lo N) none∨Win (hdE g) (up N) none)→∀t H',I t=none→H'=upd I t (.tup [.int (k1+k2),.int (y+B)])→Q (.ref t) H':=fun hw t H' c e=>by subst e;exact q t _ _ _ (.none cj p1 p2 hw) (v.free c) Zd (v.trans (Zh c _))
  have a10:atI [V.int k1,.int y] ((0:Nat):Int)=some (.int k1):=Yx rfl;have a11:atI [V.int k1,.int y] ((1:Nat):Int)=some (.int y):=Yx rfl;have a20:atI [V.int k2,.int B] ((0:Nat):Int)=some (.int k2):=Yx rfl;have a21:atI [V.int k2,.int B] ((1:Nat):Int)=some (.int B):=Yx rfl;cases C with
  | none=>refine⟨_,rfl,rfl,_,rfl,YE rfl ?_⟩;refine⟨_,rfl,k,_,_,_,rfl,rfl,SqT.of p,a10,_,rfl,o,_,_,_,rfl,rfl,SqT.of u,a20,_,_,rfl,rfl,_,rfl,k,_,_,_,rfl,rfl,SqT.of p,a11,_,rfl,o,_,_,_,rfl,rfl,SqT.of u,a21,_,_,rfl,rfl,(by show 2≤sizeLine;decide),fun t c=>x (.inl w1) t _ c rfl⟩
  | some a =>
  refine⟨_,rfl,rfl,_,rfl,Yn (fun z=>nomatch z) ?_⟩;cases G with
  | none=>refine⟨_,rfl,rfl,_,rfl,YE rfl ?_⟩;refine⟨_,rfl,k,_,_,_,rfl,rfl,SqT.of p,a10,_,rfl,o,_,_,_,rfl,rfl,SqT.of u,a20,_,_,rfl,rfl,_,rfl,k,_,_,_,rfl,rfl,SqT.of p,a11,_,rfl,o,_,_,_,rfl,rfl,SqT.of u,a21,_,_,rfl,rfl,(by show 2≤sizeLine;decide),fun t c=>x (.inr w2) t _ c rfl⟩
  | some b =>
  refine⟨_,rfl,rfl,_,rfl,Yn (fun z=>nomatch z) ?_⟩;obtain⟨ma,za,ea,ga⟩:=Sr w1;obtain⟨mb,zb,eb,gb⟩:=Sr w2;have iy:=j.same v;have C:=UQ j.nd (O a ma);have G:=UQ j.nd (S b mb);rw[ea]at C;rw[eb]at G;have da:ZP I D (kV (.inl a)) (some (.str za)):=by rw[show some (V.str za)=Z8 (kvH g) (.inl a) from C.symm];exact ZP.k iy.at'
  have db:ZP I D (kV (.inl b)) (some (.str zb)):=by rw[show some (V.str zb)=Z8 (kvH g) (.inl b) from G.symm];exact ZP.k iy.at'
  refine⟨_,rfl,k,_,_,_,rfl,rfl,SqT.of p,a10,_,rfl,o,_,_,_,rfl,rfl,SqT.of u,a20,_,_,rfl,rfl,_,_,rfl,rfl,_,rfl,k,_,_,_,rfl,rfl,SqT.of p,a11,_,rfl,o,_,_,_,rfl,rfl,SqT.of u,a21,_,_,rfl,rfl,_,rfl,_,rfl,D,_,rfl,da,_,rfl,_,rfl,D,_,rfl,db,za,zb,rfl,(j.lk ea).1,(j.lk eb).1,_,_,rfl,rfl,_,_,rfl,rfl,(by show 2≤sizeLine;decide),fun t c=>?_⟩;exact q t _ _ _ (.both cj p1 p2 w1 w2 ga gb) (v.free c) Zd (v.trans (Zh c _))
noncomputable abbrev ZB:=Int×Addr×List Str×Nat
noncomputable def kvR(L:List ZB):List (Key×V):=L.map fun e=>(.inl e.1,.ref e.2.1)
noncomputable def kvG(L:List ZB):List (Key×V):=L.map fun e=>(.inl e.1,.int (e.2.2.2:Int))
noncomputable def Z3(ra ga:Addr)(nb li lo:Int):List (Key×V):=[(.inr "rows",.ref ra),(.inr "gone",.ref ga),(.inr "number",.int nb),(.inr "likenings",.int li),(.inr "looks",.int lo)]
theorem X9(ra ga:Addr)(nb li lo:Int):Z8 (Z3 ra ga nb li lo) (.inr "rows")=some (.ref ra):=by simp[Z8,Z3]
theorem ZsN:¬ (("rows" : Str) = "gone"):=by ac_rfl
theorem K1:¬ (("rows" : Str) = "number"):=by ac_rfl
theorem ZsW:¬ (("gone" : Str) = "number"):=by ac_rfl
theorem K0:¬ (("rows" : Str) = "likenings"):=by ac_rfl
theorem KZ:¬ (("gone" : Str) = "likenings"):=by ac_rfl
theorem KY:¬ (("number" : Str) = "likenings"):=by ac_rfl
theorem KW:¬ (("rows" : Str) = "looks"):=by ac_rfl
theorem KU:¬ (("gone" : Str) = "looks"):=by ac_rfl
theorem KS:¬ (("number" : Str) = "looks"):=by ac_rfl
theorem OW:¬ (("likenings" : Str) = "looks"):=by ac_rfl
theorem WS{k k':Key}{v:V}{r:List (Key×V)}(h:¬ k=k'):Z8 ((k,v)::r) k'=Z8 r k':=Vc h
theorem Sq{k:Key}{v:V}{r:List (Key×V)}:Z8 ((k,v)::r) k=some v:=Vd rfl
theorem Wr(ra ga:Addr)(nb li lo:Int):Z8 (Z3 ra ga nb li lo) (.inr "gone")=some (.ref ga):=by unfold Z3;rw[WS (fun z=>ZsN (Sum.inr.inj z)),Sq]
theorem So(ra ga:Addr)(nb li lo:Int):Z8 (Z3 ra ga nb li lo) (.inr "number")=some (.int nb):=by unfold Z3;rw[WS (fun z=>K1 (Sum.inr.inj z)),WS (fun z=>ZsW (Sum.inr.inj z)),Sq]
theorem Sn(ra ga:Addr)(nb li lo:Int):Z8 (Z3 ra ga nb li lo) (.inr "likenings")=some (.int li):=by unfold Z3;rw[WS (fun z=>K0 (Sum.inr.inj z)),WS (fun z=>KZ (Sum.inr.inj z)),WS (fun z=>KY (Sum.inr.inj z)),Sq]
theorem OV(ra ga:Addr)(nb li lo:Int):Z8 (Z3 ra ga nb li lo) (.inr "looks")=some (.int lo):=by unfold Z3;rw[WS (fun z=>KW (Sum.inr.inj z)),WS (fun z=>KU (Sum.inr.inj z)),WS (fun z=>KS (Sum.inr.inj z)),WS (fun z=>OW (Sum.inr.inj z)),Sq]
structure Own (H:Hp) (o ra ga:Addr) (L:List ZB) (nb li lo:Int):Prop where
 at':H o=some (.dK (Z3 ra ga nb li lo))
 rows:H ra=some (.dK (kvR L))
 gone:H ga=some (.dK (kvG L))
 nd:(L.map (·.1)).Nodup
 few:L.length≤60
 lst:∀e∈L,H e.2.1=some (.lst (e.2.2.1.map V.str))∧e.2.2.1.length≤100∧e.2.2.2≤e.2.2.1.length∧∀s∈e.2.2.1,s.length≤1000∧AZ s
theorem Own.same{H H':Hp}{o ra ga:Addr}{L:List ZB}{nb li lo:Int}(h:Own H o ra ga L nb li lo)(s:ZG H H'):Own H' o ra ga L nb li lo :=
 ⟨s _ _ h.at',s _ _ h.rows,s _ _ h.gone,h.nd,h.few,fun e c=>let ⟨a,b⟩:=h.lst e c;⟨s _ _ a,b⟩⟩
theorem Sl(L:List ZB):(kvR L).map (·.1)=(L.map (·.1)).map (Sum.inl:Int→Key):=by unfold kvR;rw[Qg,Qg];rfl
theorem Zoa(L:List ZB):(kvG L).map (·.1)=(L.map (·.1)).map (Sum.inl:Int→Key):=by unfold kvG;rw[Qg,Qg];rfl
theorem Sk{ns:List Int}(h:ns.Nodup):(ns.map (Sum.inl:Int→Key)).Nodup:=Qa5 _ (fun a b c z=>c (Sum.inl.inj z)) h
theorem TU{L:List ZB}(nd:(L.map (·.1)).Nodup){e:ZB}(he:e∈L):Z8 (kvR L) (.inl e.1)=some (.ref e.2.1):=Tb (by rw[Sl];exact Sk nd) (Qd (f:=fun e:ZB=>((.inl e.1:Key),V.ref e.2.1)) he)
theorem TR{L:List ZB}(nd:(L.map (·.1)).Nodup){e:ZB}(he:e∈L):Z8 (kvG L) (.inl e.1)=some (.int (e.2.2.2:Int)):=Tb (by rw[Zoa];exact Sk nd) (Qd (f:=fun e:ZB=>((.inl e.1:Key),V.int (e.2.2.2:Int))) he)
theorem ZP.k'{H:Hp}{a:Addr}{kvs:List (Key×V)}{k:Key}{r:Option V}(e:H a=some (.dK kvs))(h:Z8 kvs k=r):ZP H a (kV k) r:=by rw[← h];exact ZP.k e
theorem Zp3(ss:List Str)(g:Nat)(h:g≤ss.length):atI (ss.map V.str++[V.non]) (g:Int)=some (oV ss[g]?):=by
 refine Yx ?_;by_cases a:g<ss.length
 ·rw[QJ (by rw[Qa];exact a),Qm,Qb a];rfl
 ·have e:g=ss.length:=by lia
  rw[QK (by rw[Qa];lia),Qa,e,QaM,QN (Qh _)];rfl
structure Sj (L:List ZB) (E:List (Int×Option Str)):Prop where
 per:(E.map (·.1)).Perm (L.map (·.1))
 up:(E.map (·.1)).Pairwise (·<·)
 hd:∀e∈L,(e.1,e.2.2.1[e.2.2.2]?)∈E
def TQ:Sp:=fun vs H Q _=>∃ (o ra ga:Addr) (L:List ZB) (nb li lo:Int),vs=[.ref o]∧Own H o ra ga L nb li lo ∧
 ∀ (D:Addr) (E:List (Int×Option Str)) (a:Hp),H D=none→Hds a D E→Sj L E→ZG H a→Q (.ref D) a
theorem ZlZ(T:Z9 K mg ab U):Df P w K mg base 1 "_law_heads" ["_law_own"] TQ:=by
 refine T.t_l_heads.df Pp (fun vs H Q E h=>?_) (fun ai f A outer s H vs Q E u h=>?_)
 ·obtain⟨o,O,ga,L,nb,li,lo,rfl,_⟩:=h;rfl
 obtain⟨o,O,ga,L,nb,li,lo,rfl,m,q⟩:=h;refine⟨_,#[Zf,#[ZD,1,Pp.nd,#[3],(@Uv _ _)],#[Zf,#[X4,PassesOwn.never,#[iL,K,#[Zk,Us,#[5],T.b.n_sorted,boot_sorted,#[Za,#[Zo,(ixG u),‹0›,#[Zw]],#[Ze]]]],#[ZE,2,Pp.nd,#[3]],#[Zi,#[Z0,#[Zo,(ixL K),#[ZJ,VQ,#[Zo,(ixG u),#[Zo,(ixG u),‹0›,#[Zw]],‹2›],#[YU,#[Za,#[ZZ],#[Ze]]]],#[Zo,(ixG u),#[Zo,(ixG u),‹0›,#[Zw]],‹2›]],#[YI,‹1›,‹2›,(Ym u)]]]],#[Zi,#[Zp,‹1›]]]],?_⟩;refine fun D R=>?_;have S:=Zh R (.dK []);have W:(upd H D (.dK [])) D=some (.dK []):=Zd;generalize upd H D (.dK [])=H1 at S W ⊢;have aL:=m.same S;have bW:=m.few;refine⟨_,rfl,o,_,rfl,ZP.k' (k:=.inr "rows") aL.at' (X9 ..),O,_,L.map (·.1),rfl,aL.rows,Sl L,by rw[Qa];lia,fun l c X B aT=>?_⟩;have s2:=S.trans (Zh X (.lst (c.map V.int)));have Y:(upd H1 l (.lst (c.map V.int))) l=some (.lst (c.map V.int)):=Zd;have bZ:=Zh X (.lst (c.map V.int)) _ _ W;have Bk:D≠l:=Zb W X;generalize upd H1 l (.lst (c.map V.int))=H2 at s2 Y bZ ⊢;have Z:c.Nodup:=B.nodup_iff.mpr m.nd;have cF:c.length=L.length:=by rw[B.length_eq,Qa]
 refine⟨l,rfl,⟨_,SqL.of Y⟩,?_⟩;refine UE (K:=K) (a:=l) (xs:=c.map V.int) (fun i G g=>∃ (E:List (Int×Option Str)) (v2:Option V),G=[some (.ref o),some (.ref D),v2]∧g D=some (.dK (kvH E))∧E.map (·.1)=c.take i∧(∀e∈L,e.1∈c.take i→(e.1,e.2.2.1[e.2.2.2]?)∈E)∧(∀x∈E,∃e∈L,x=(e.1,e.2.2.1[e.2.2.2]?))∧(∀b x,H b=some x→g b=some x)∧g l=some (.lst (c.map V.int))) ⟨[],_,rfl,bZ,rfl,(fun e _ h=>by simp at h),(fun x h=>by cases h),s2,Y⟩ (fun i G g _ hq=>by obtain⟨_,_,_,_,_,_,_,_,h⟩:=hq;exact SqL.of h) ?_ ?_
 ·rintro i x G g hx ⟨r,v2,rfl,im,p,I,t4,J,dC⟩;rw[Qm]at hx;cases t:c[i]? with
  | none=>rw[t]at hx;cases hx
  | some n =>
  rw[t]at hx;cases hx;have bc:i<c.length:=(Qe.mp t).1;obtain⟨e,d,rfl⟩:=Ql.mp (B.mem_iff.mp (Qo t));have M:=m.same J;obtain⟨la,dJ,lg,gz⟩:=M.lst e d;refine⟨_,rfl,o,_,rfl,ZP.k' (k:=.inr "rows") M.at' (X9 ..),_,rfl,O,_,rfl,ZP.k' (k:=.inl e.1) M.rows (TU m.nd d),(by show 1≤sizeLine;decide),fun c1 Bl=>?_⟩;have s4:=Zh Bl (.lst [.non]);refine⟨e.2.1,c1,_,_,rfl,rfl,s4 _ _ la,Zd,(by rw[Qa];exact Qai (Zy (by simp;lia))),fun c2 fC=>?_⟩;have C:=s4.trans (Zh fC (.lst (e.2.2.1.map V.str++[.non])));have rf:(upd (upd g c1 (.lst [.non])) c2 (.lst (e.2.2.1.map V.str++[.non]))) c2=some (.lst (e.2.2.1.map V.str++[.non])):=Zd;generalize upd (upd g c1 (.lst [.non])) c2 (.lst (e.2.2.1.map V.str++[.non]))=H5 at C rf ⊢;have gA:=M.same C;have t9:=C _ _ im;refine⟨_,rfl,o,_,rfl,ZP.k' (k:=.inr "gone") gA.at' (Wr ..),_,rfl,ga,_,rfl,ZP.k' (k:=.inl e.1) gA.gone (TR m.nd d),c2,_,_,_,rfl,rfl,SqL.of rf,Zp3 _ _ lg,_,rfl,_,rfl,D,_,rfl,YN.k (k:=.inl e.1) t9 ?_,?_⟩
  ·have:=congrArg List.length p;rw[Qa,QA]at this;unfold kvH;rw[Qa];exact Zy #[2]
  have ua:Z8 (kvH r) (.inl e.1)=none:=by
   cases hv:Z8 (kvH r) (.inl e.1) with
   | none=>rfl
   | some v =>
    obtain⟨y,hy,z⟩:=Ql.mp (Wa hv);injection z with z _;have N:e.1∈c.take i:=by rw[← p,← Sum.inl.inj z];exact Qd (f:=fun x:Int×Option Str=>x.1) hy
    obtain⟨j,hj⟩:=QaG.mp N;have jC:=(Qe.mp hj).1;rw[QA]at jC;rw[List.getElem?_take_of_lt #[2]]at hj;have:=(List.getElem?_inj #[2] Z).mp (hj.trans t.symm);lia
  rw[WA _ ua];have tO:kvH r++[((.inl e.1:Key),oV e.2.2.1[e.2.2.2]?)]=kvH (r++[(e.1,e.2.2.1[e.2.2.2]?)]):=by unfold kvH;rw[Qf];rfl
  rw[tO];refine⟨r++[(e.1,e.2.2.1[e.2.2.2]?)],_,rfl,Zd,?_,fun e' aE hm=>?_,fun x hx=>?_,fun b x F=>?_,?_⟩
  ·rw[Qf,p,QH,t];rfl
  ·rw[QH,t]at hm;rcases Qn.mp hm with hm|hm
   ·exact QM _ (I e' aE hm)
   ·have N:e'.1=e.1:=by simpa using hm
    have h2:e'=e:=by
     obtain⟨a,ha⟩:=QaG.mp d;obtain⟨b,F⟩:=QaG.mp aE;have e1:(L.map (·.1))[a]? = some e.1:=by rw[Qm,ha];rfl
     have e2:(L.map (·.1))[b]? = some e.1:=by rw[Qm,F,← N];rfl
     have:=(List.getElem?_inj (by exact(Qe.mp e1).1) m.nd).mp (e1.trans e2.symm);rw[this,F]at ha;exact Qr ha
    rw[h2];exact Qx _ #[4]
  ·rcases Qn.mp hx with hx|hx
   ·exact t4 x hx
   ·exact⟨e,d,by simpa using hx⟩
  ·rw[Zc (Zb F R)];exact C _ _ (J b x F)
  ·rw[Zc Bk.symm];exact C _ _ dC
 ·rintro G g ⟨r,v2,rfl,im,p,I,t4,J,dC⟩;rw[Qa,Qv (Qh _)]at p I;refine⟨_,rfl,q D r g R ⟨im,by rw[p];exact Z,fun x hx s hs=>?_⟩ ⟨by rw[p];exact B,?_,fun e d=>I e d (B.mem_iff.mpr (Qd d))⟩ J⟩
  ·obtain⟨e,d,rfl⟩:=t4 x hx;exact(m.lst e d).2.2.2 s (Qo hs)
  ·rw[p];exact List.Pairwise.imp₂ (fun a b N h2=>by lia) aT Z
noncomputable def hdL(L:List ZB):Hd:=fun n=>((L.find? fun e=>decide (e.1=n)).bind fun e=>e.2.2.1[e.2.2.2]?).map cds
theorem TN:∀ {L:List ZB},(L.map (·.1)).Nodup→∀ {e:ZB},e∈L→hdL L e.1=(e.2.2.1[e.2.2.2]?).map cds
 | [],_,_,h=>by cases h
 | x::r,nd,e,h=>by
  rw[Qj,QP]at nd;unfold hdL;rw[Qae];rcases QF.mp h with rfl|h
  ·rw[decide_eq_true rfl];rfl
  ·rw[decide_eq_false (fun z:x.1=e.1=>nd.1 (by rw[z];exact Qd (f:=fun x:ZB=>x.1) h))];exact TN nd.2 h
theorem Sj.same{L:List ZB}{E:List (Int×Option Str)}(h:Sj L E)(nd:(L.map (·.1)).Nodup):∀n∈L.map (·.1),hdL L n=hdE E n:=fun n b=>by obtain⟨e,a,rfl⟩:=Ql.mp b;rw[TN nd a];unfold hdE;rw[Sv (h.per.nodup_iff.mpr nd) (h.hd e a)]
theorem Win.perm{hd:Hd}{N M:List Int}{v:Option Int}(h:Win hd N v)(p:N.Perm M):Win hd M v:=by
 cases v with
 | none=>exact fun n c=>h n (p.mem_iff.mpr c)
 | some a=>obtain⟨d,x,e,f⟩:=h;exact⟨p.mem_iff.mp d,x,e,fun b g=>f b (p.mem_iff.mpr g)⟩
theorem YW.congr{hd c:Hd}:∀ {n:Nat} {N:List Int} {k q:Int},YW hd n N k q→(∀m∈N,c m=hd m)→YW c n N k q
 | _,_,_,_,.few h,_=>.few h
 | _,N,_,_,.none h2 a b hw,h=>by have h1:∀m∈lo N,c m=hd m:=fun m hm=>h m (Q2 hm);have d:∀m∈up N,c m=hd m:=fun m hm=>h m (Qak hm);exact .none h2 (a.congr h1) (b.congr d) (hw.imp (fun w=>w.congr h1) (fun w=>w.congr d))
 | _,N,_,_,.both h2 a b e f g i,h=>by have h1:∀m∈lo N,c m=hd m:=fun m hm=>h m (Q2 hm);have d:∀m∈up N,c m=hd m:=fun m hm=>h m (Qak hm);exact .both h2 (a.congr h1) (b.congr d) (e.congr h1) (f.congr d) ((h1 _ e.1).trans g) ((d _ f.1).trans i)
theorem Si{A B:List Int}(p:A.Perm B)(ha:A.Pairwise (·<·))(hb:B.Pairwise (·<·)):A=B:=List.Perm.eq_of_pairwise (fun a b _ _ h1 h2=>by lia) ha hb p
theorem OU{A:List Int}(h:A.Pairwise (·≤·))(nd:A.Nodup):A.Pairwise (·<·):=List.Pairwise.imp₂ (fun a b h1 h2=>by lia) h nd
def Vw(L:List ZB)(H:Hp)(x:V):Prop:=(x=.non∧Win (hdL L) (L.map (·.1)) none)∨∃ (t:Addr) (e:ZB) (z:Str),x=.ref t∧e∈L∧e.2.2.1[e.2.2.2]? = some z∧H t=some (.tup [.int e.1,.int (e.2.2.2:Int),.str z])∧Win (hdL L) (L.map (·.1)) (some e.1)
theorem OT(E:List (Int×Option Str)):(kvH E).map (·.1)=(E.map (·.1)).map (Sum.inl:Int→Key):=by unfold kvH;rw[Qg,Qg];rfl
def OR:Sp:=fun vs H Q _=>∃ (o ra ga:Addr) (L:List ZB) (nb li lo:Int),vs=[.ref o]∧Own H o ra ga L nb li lo∧∀ (x:V) (H':Hp),Vw L H' x→ZG H H'→Q x H'
theorem Zk1(T:Z9 K mg ab U)(R:Df P w K mg base 1 "_law_heads" ["_law_own"] TQ)(S:Df P w K mg base 1 "_law_least" ["_law_heads_here", "_law_numbers"] (Ss K)):Df P w K mg base 2 "_law_coming" ["_law_own"] OR:=by
 refine T.t_l_coming.df Po (fun W H Q E h=>?_) (fun ai f A outer s H W Q E g h=>?_)
 ·obtain⟨o,G,u,L,nb,I,lo,rfl,_⟩:=h;rfl
 obtain⟨o,G,u,L,nb,I,lo,rfl,b,q⟩:=h;refine⟨_,#[Zf,#[ZD,1,Po.nd,#[3],#[Zz,R,g,#[Za,‹0›,#[Ze]],#[5]]],#[Zf,#[ZD,2,Po.nd,#[3],#[Zz,S,g,#[Za,‹1›,#[Za,#[Zk,Us,#[5],T.b.n_sorted,boot_sorted,#[Za,‹1›,#[Ze]]],#[Ze]]],#[5]]],#[Zi,#[Zp,#[Xo,#[Zl,XR,‹2›,#[ZZ],(Zs _)],#[ZZ],#[YV,#[Za,‹2›,#[Za,#[Zo,(ixG g),#[Zo,(ixG g),‹0›,#[Zw]],‹2›],#[Za,#[Zo,(ixG g),‹1›,‹2›],#[Ze]]]]]]]]]],?_⟩;refine⟨_,rfl,o,G,u,L,nb,I,lo,rfl,b,fun D i J hD j c X=>?_⟩;have wV:i.length=L.length:=by have:=c.per.length_eq;rw[Qa,Qa]at this;exact this
 have bW:=b.few;refine⟨_,rfl,_,rfl,D,_,i.map (·.1),rfl,j.at',OT i,by rw[Qa];lia,fun l d Y p aT=>?_⟩;have r:=Zh Y (.lst (d.map V.int));have M:(upd J l (.lst (d.map V.int))) l=some (.lst (d.map V.int)):=Zd;generalize upd J l (.lst (d.map V.int))=H2 at r M ⊢;have Z:=X.trans r;have cF:d.length≤60:=by rw[p.length_eq,Qa];lia
 refine⟨D,l,i,d,rfl,j.same r,SqL.of M,cF,fun n hn=>p.mem_iff.mp hn,fun v H3 hw N=>?_⟩;have y:=Z.trans N;have wW:=(j.same r).same N;have B:Win (hdL L) (L.map (·.1)) v:=(hw.perm (p.trans c.per)).congr (c.same b.nd);cases v with
 | none=>exact⟨_,rfl,rfl,_,rfl,YE rfl (q _ H3 (.inl ⟨rfl,B⟩) y)⟩
 | some a =>
  obtain⟨e,m,ea⟩:=Ql.mp B.1;have mI:e.1=a:=ea;subst mI;obtain⟨_,x,C,_⟩:=B;rw[TN b.nd m]at C;cases F:e.2.2.1[e.2.2.2]? with
  | none=>rw[F]at C;cases C
  | some z =>
  have hv:Z8 (kvH i) (.inl e.1)=some (.str z):=by rw[UQ j.nd (c.per.mem_iff.mpr (Qd m)),Sv j.nd (c.hd e m),F];rfl
  have O:=b.same y;refine⟨_,rfl,rfl,_,rfl,Yn (fun z=>nomatch z) ⟨_,rfl,_,rfl,o,_,rfl,ZP.k' (k:=.inr "gone") O.at' (Wr ..),_,rfl,u,_,rfl,ZP.k' (k:=.inl e.1) O.gone (TR b.nd m),_,rfl,_,rfl,D,_,rfl,ZP.k' (k:=.inl e.1) wW.at' hv,(by show 3≤sizeLine;decide),fun t ht=>?_⟩⟩;refine q _ _ (.inr ⟨t,e,z,rfl,m,F,Zd,?_⟩) (y.trans (Zh ht _));exact(hw.perm (p.trans c.per)).congr (c.same b.nd)
theorem KR(ra ga:Addr)(nb li lo v:Int):Y6 (Z3 ra ga nb li lo) (.inr "likenings") (.int v)=Z3 ra ga nb v lo:=by unfold Y6 Z3;have a1:¬ (("looks" : Str) = "likenings"):=fun h=>OW h.symm;simp[K0,KZ,KY,a1]
theorem KQ(ra ga:Addr)(nb li lo v:Int):Y6 (Z3 ra ga nb li lo) (.inr "looks") (.int v)=Z3 ra ga nb li v:=by unfold Y6 Z3;simp[KW,KU,KS,OW]
def OQ:Sp:=fun vs H Q _=>∃ (o ra ga:Addr) (L:List ZB) (nb li lo:Int),vs=[.ref o]∧Own H o ra ga L nb li lo∧(L.map (·.1)).Pairwise (·<·)∧(∀e∈L,e.2.1≠o) ∧
 ∀ (k b:Int) (a:Hp),YW (hdL L) 8 (L.map (·.1)) k b→Own a o ra ga L nb (li+k) (lo+b)→But o H a→Q .non a
theorem Own.set{H:Hp}{o ra ga:Addr}{L:List ZB}{nb li lo li' lo':Int}(h:Own H o ra ga L nb li lo)(d:∀e∈L,e.2.1≠o)(f:ra≠o)(g:ga≠o):Own (upd H o (.dK (Z3 ra ga nb li' lo'))) o ra ga L nb li' lo' :=
 ⟨Zd,by rw[Zc f];exact h.rows,by rw[Zc g];exact h.gone,h.nd,h.few,fun e c=>let ⟨a,b⟩:=h.lst e c;⟨by rw[Zc (d e c)];exact a,b⟩⟩
theorem Own.ne{H:Hp}{o ra ga:Addr}{L:List ZB}{nb li lo:Int}(h:Own H o ra ga L nb li lo):ra≠o∧ga≠o:=by
 constructor
 ·rintro rfl;have:=h.rows.symm.trans h.at';injection this with this;injection this with this;cases L with
  | nil=>cases this
  | cons e r=>unfold kvR Z3 at this;injection this with this _;injection this with this _;cases this
 ·rintro rfl;have:=h.gone.symm.trans h.at';injection this with this;injection this with this;cases L with
  | nil=>cases this
  | cons e r=>unfold kvG Z3 at this;injection this with this _;injection this with this _;cases this
theorem Znd(T:Z9 K mg ab U)(Y:Df P w K mg base 1 "_law_heads" ["_law_own"] TQ)(Z:Df P w K mg base 9 "_law_first_play" ["_law_heads_here", "_law_numbers"] (K3 K 8)):Df P w K mg base 10 "_law_play" ["_law_own"] OQ:=by
 refine T.t_l_play.df SN (fun vs H Q E h=>?_) (fun ai f A outer s H vs Q E d h=>?_)
 ·obtain⟨o,e,g,L,nb,a,lo,rfl,_⟩:=h;rfl
 obtain⟨o,e,g,L,nb,a,lo,rfl,i,be,B,q⟩:=h;refine⟨_,#[Zf,#[ZD,1,SN.nd,#[3],#[Zz,Y,d,#[Za,‹0›,#[Ze]],#[5]]],#[Zf,#[Z0,#[Zz,Z,d,#[Za,‹1›,#[Za,#[Zk,Us,#[5],T.b.n_sorted,boot_sorted,#[Za,‹1›,#[Ze]]],#[Ze]]],#[5]],#[gT,K,2,#[Zu,#[ZE,2,SN.nd,#[3]],#[Zu,#[ZE,3,SN.nd,#[3]],(@Yy _)]]]],#[Zf,#[Z0,#[ZJ,YO,#[Zo,(ixG d),‹0›,#[Zw]],‹2›],#[YI,‹0›,#[Zw],(Ym d)]],#[Zi,#[Z0,#[ZJ,YO,#[Zo,(ixG d),‹0›,#[Zw]],‹3›],#[YI,‹0›,#[Zw],(Ym d)]]]]]],?_⟩;refine⟨_,rfl,o,e,g,L,nb,a,lo,rfl,i,fun D j C hD F r s1=>?_⟩;have wV:j.length=L.length:=by have:=r.per.length_eq;rw[Qa,Qa]at this;exact this
 have bW:=i.few;refine⟨_,rfl,_,rfl,D,_,j.map (·.1),rfl,F.at',OT j,by rw[Qa];lia,fun l c hl u aT=>?_⟩;have v:=Zh hl (.lst (c.map V.int));have G:(upd C l (.lst (c.map V.int))) l=some (.lst (c.map V.int)):=Zd;generalize upd C l (.lst (c.map V.int))=H2 at v G ⊢;have s2:=s1.trans v;have I:=u.trans r.per;have J:c=L.map (·.1):=Si I (OU aT (I.nodup_iff.mpr i.nd)) be;have M:c.length≤60:=by rw[u.length_eq,Qa];lia
 refine⟨D,l,j,c,rfl,F.same v,SqL.of G,M,by decide,QB M #[6],fun n hn=>u.mem_iff.mp hn,fun t k N O bL ht pU s3=>?_⟩;refine⟨t,_,rfl,SqT.of pU,rfl,_,_,rfl,_,_,rfl,rfl,?_⟩;have R:=s2.trans s3;have y:=i.same R;obtain⟨S,W⟩:=i.ne;have gI:(Z3 e g nb a lo).length<sizeLine:=Zy (by show 5≤1000;decide);refine⟨_,rfl,o,_,rfl,ZP.k' (k:=.inr "likenings") y.at' (Sn ..),_,rfl,_,_,rfl,rfl,_,rfl,o,_,rfl,YN.k (k:=.inr "likenings") y.at' gI,?_⟩;rw[KR];have p:=y.set (li':=a+k) (lo':=lo) B S W;have X:But o H (upd O o (.dK (Z3 e g nb (a+k) lo))):=fun b x z n=>by rw[Zc n];exact R b x z
 generalize upd O o (.dK (Z3 e g nb (a+k) lo))=H4 at p X ⊢;have wX:(Z3 e g nb (a+k) lo).length<sizeLine:=Zy (by show 5≤1000;decide);refine⟨_,rfl,o,_,rfl,ZP.k' (k:=.inr "looks") p.at' (OV ..),_,rfl,_,_,rfl,rfl,_,rfl,o,_,rfl,YN.k (k:=.inr "looks") p.at' wX,?_⟩;rw[KQ];refine q k N _ ?_ (p.set (li':=a+k) (lo':=lo+N) B S W) (fun b x z n=>by rw[Zc n];exact X b x z n);rw[← J];exact bL.congr fun m hm=>r.same i.nd m (by rw[← J];exact hm)
noncomputable def YY(L:List ZB):List Int:=L.map fun e=>(e.2.2.1.length:Int)-(e.2.2.2:Int)
def KP:Sp:=fun vs H Q _=>∃ (o ra ga:Addr) (L:List ZB) (nb li lo:Int),vs=[.ref o]∧Own H o ra ga L nb li lo∧∀H':Hp,ZG H H'→Q (.int (YY L).sum) H'
theorem Own.ne2{H:Hp}{o ra ga:Addr}{L:List ZB}{nb li lo:Int}(h:Own H o ra ga L nb li lo)(hl:L≠[]):ga≠ra:=by
 rintro rfl;have:=h.rows.symm.trans h.gone;injection this with this;injection this with this;cases L with
 | nil=>exact hl rfl
 | cons e r=>unfold kvR kvG at this;injection this with this _;injection this with _ this;cases this
theorem ZoI(T:Z9 K mg ab U):Df P w K mg base 1 "_law_left_of" ["_law_own"] KP:=by
 refine T.t_l_left_of.df Zjm (fun S H Q E h=>?_) (fun ai f A outer s H S Q E t h=>?_)
 ·obtain⟨o,a,J,L,nb,W,lo,rfl,_⟩:=h;rfl
 obtain⟨o,a,J,L,nb,W,lo,rfl,c,q⟩:=h;refine⟨_,#[Zi,#[Zp,#[Zk,(MM K),#[5],T.b.n_sum,boot_sum,#[Za,(@Uu _ _ _ #[Xt,VB,(@Zp2 _ _ _ _ #[Zo,(ixG t),#[pv,0,(Or.inr #[3])],#[Zw]]),(fun _ _ _ _=>#[cg,1,VB]),(fun _ _ _ _=>(@Xn _)),(fun _ _ _ _=>#[ZJ,VZ,#[Zk,(YB K),(Wb VB rfl #[1]),T.b.n_len,Qz,#[Za,#[Zo,(ixG t),#[Zo,(ixG t),#[cv,0,VB],#[Zw]],#[cw,1,VB]],#[Ze]]],#[Zo,(ixG t),#[Zo,(ixG t),#[cv,0,VB],#[Zw]],#[cw,1,VB]]])]),#[Ze]]]]],?_⟩;obtain⟨X,ng⟩:=c.ne;have bW:=c.few;refine⟨a,_,c.rows,True.intro,_,rfl,o,_,rfl,ZP.k' (k:=.inr "rows") c.at' (X9 ..),a,_,rfl,c.rows,fun m B C=>?_⟩;have u:(upd H a (.frz m (.dK (kvR L)))) a=some (.frz m (.dK (kvR L))):=Zd;have k1:∀b x,H b=some x→b≠a→(upd H a (.frz m (.dK (kvR L)))) b=some x:=fun b x h n=>by rw[Zc n];exact h
 generalize upd H a (.frz m (.dK (kvR L)))=Y at u k1 C ⊢;refine Zpd (d:=a) (o:=m) (kvs:=kvR L) (fun i zs F j=>(∃v:Option V,F=[some (.ref o),v])∧zs=(YY (L.take i)).map V.int∧i≤L.length∧j B=some (.lst zs)∧ZG Y j) ?_ (fun _ _ _ _ h=>h.2.2.2.2 _ _ u) ?_ ?_
 ·exact⟨⟨none,rfl⟩,rfl,Qw _,Zd,Zh C _⟩
 ·rintro i k x zs F j p ⟨⟨v,rfl⟩,rfl,hi,D,g⟩;unfold kvR at p;rw[Qm]at p;cases y:L[i]? with
  | none=>rw[y]at p;cases p
  | some e =>
  rw[y]at p;cases p;have Z:i<L.length:=(Qe.mp y).1;have l:=Qo y;have G:=c.ne2 (fun z=>by rw[z]at l;cases l);obtain⟨I,dJ,lg,_⟩:=c.lst e l;have Bn:e.2.1≠a:=fun z=>by rw[z,c.rows]at I;cases I
  have M:=g _ _ (k1 o _ c.at' X.symm);refine⟨_,rfl,o,_,rfl,ZP.k' (k:=.inr "rows") M (X9 ..),_,rfl,a,_,rfl,ZP.fz (k:=.inl e.1) (g _ _ u) (TU c.nd l),e.2.1,_,rfl,.inl (SqL.of (g _ _ (k1 _ _ I Bn))),_,rfl,o,_,rfl,ZP.k' (k:=.inr "gone") M (Wr ..),_,rfl,J,_,rfl,ZP.k' (k:=.inl e.1) (g _ _ (k1 _ _ c.gone G)) (TR c.nd l),_,_,rfl,rfl,D,(by unfold YY;rw[Qa,Qa,QA];exact Zy #[2]),⟨_,rfl⟩,?_,Z,Zd,fun b x r=>?_⟩
  ·rw[QH,y];unfold YY;rw[Qf,Qf,Qa];rfl
  ·rw[Zc (Zb r C)];exact g b x r
 rintro zs F j ⟨⟨v,rfl⟩,rfl,_,D,g⟩;have gC:(kvR L).length=L.length:=by unfold kvR;rw[Qa]
 rw[gC,Qv (Qh _)]at D;refine⟨m,g _ _ u,?_⟩;have N:(upd j a (.dK (kvR L))) B=some (.lst ((YY L).map V.int)):=by rw[Zc (Zb u C).symm];exact D
 have O:ZG H (upd j a (.dK (kvR L))):=fun b x r=>by
  by_cases e:b=a
  ·rw[e,c.rows]at r;rw[e,Zd];exact r
  ·rw[Zc e];exact g _ _ (k1 b x r e)
 generalize upd j a (.dK (kvR L))=H3 at N O ⊢;refine⟨B,YY L,rfl,SqL.of N,(by unfold YY;rw[Qa];lia),fun n R=>?_,q H3 O⟩;unfold YY at R;obtain⟨e,l,rfl⟩:=Ql.mp R;obtain⟨_,dJ,lg,_⟩:=c.lst e l;lia
theorem Zj9:([.inr "rows",.inr "gone",.inr "number",.inr "likenings",.inr "looks"]:List Key).Nodup:=by ac_rfl
structure Vv (H:Hp) (r:Addr) (rs:List (Addr×List Str)):Prop where
 at':H r=some (.lst (rs.map fun x=>V.ref x.1))
 few:rs.length≤60
 lst:∀x∈rs,H x.1=some (.lst (x.2.map V.str))∧x.2.length≤100∧∀s∈x.2,s.length≤1000∧AZ s
theorem Vv.same{H H':Hp}{r:Addr}{c:List (Addr×List Str)}(h:Vv H r c)(s:ZG H H'):Vv H' r c:=⟨s _ _ h.at',h.few,fun x hx=>let ⟨a,b⟩:=h.lst x hx;⟨s _ _ a,b⟩⟩
def Sh(L:List ZB)(a:List (Addr×List Str)):Prop:=L.map (·.1)=XN 0 a.length∧L.map (fun e=>e.2.2)=a.map fun x=>(x.2,0)
theorem KO(n:Nat):(XN 0 n).Pairwise (·<·):=by unfold XN;exact Qa5 _ (fun a b h=>by lia) (List.pairwise_lt_range)
def ZoO:Sp:=fun vs H Q _=>∃ (r:Addr) (a:List (Addr×List Str)),vs=[.ref r]∧Vv H r a ∧
 ∀ (o b c:Addr) (L:List ZB) (k f:Int) (d:Hp),H o=none→H b=none→H c=none→c≠b→(∀e∈L,H e.2.1=none∧e.2.1≠o)→Sh L a→Own d o b c L (a.length:Int) k f→YW (hdL L) 8 (L.map (·.1)) k f→ZG H d→Q (.ref o) d
theorem ZmH(T:Z9 K mg ab U)(bz:Df P w K mg base 10 "_law_play" ["_law_own"] OQ):Df P w K mg base 11 "_law_world" ["_law_rows_here"] ZoO:=by
 refine T.t_l_world.df SO (fun vs H Q E h=>?_) (fun ai f A outer s H vs Q E F h=>?_)
 ·obtain⟨r,l,rfl,_⟩:=h;rfl
 obtain⟨r,l,rfl,G,q⟩:=h;refine⟨_,#[Zf,#[ZD,1,SO.nd,#[3],(@Zqb _ _ _ _ _ #[VJ,#[Zw],(@Uv _ _),#[VJ,#[Zw],(@Uv _ _),#[VJ,#[Zw],#[Zk,(YB K),#[5],T.b.n_len,Qz,#[Za,‹0›,#[Ze]]],#[VJ,#[Zw],#[Zj],#[VJ,#[Zw],#[Zj],(@ZoS _ _)]]]]] rfl rfl (by intro z;cases z) (by show 5≤15;decide))],#[Zf,#[X4,PassesOwn.never,#[iE,K,T.b.n_enumerate,#[Za,‹0›,#[Ze]]],#[gT,K,2,#[Zu,#[ZE,2,SO.nd,#[3]],#[Zu,#[ZE,3,SO.nd,#[3]],(@Yy _)]]],#[Zf,#[Z0,#[Ya,(VO K),#[5],T.b.n_list,boot_list,#[Za,‹3›,#[Ze]]],#[YI,#[Zo,(ixG F),‹1›,#[Zw]],‹2›,(Ym F)]],#[Zi,#[Z0,#[Zj],#[YI,#[Zo,(ixG F),‹1›,#[Zw]],‹2›,(Ym F)]]]]],#[Zf,#[YL,#[Zz,bz,F,#[Za,‹1›,#[Ze]],#[5]]],#[Zi,#[Zp,‹1›]]]]],?_⟩;refine fun o S=>?_;have W:=Zh S (.dK []);have X:(upd H o (.dK [])) o=some (.dK []):=Zd;generalize upd H o (.dK [])=H1 at W X ⊢;refine fun d kG=>?_;have I:=Zh kG (.dK []);have nA:(upd H1 d (.dK [])) d=some (.dK []):=Zd;have nK:d≠o:=(Zb X kG).symm;generalize upd H1 d (.dK [])=H2 at I nA ⊢;refine fun g Y=>?_;have Z:=Zh Y (.dK []);have wY:(upd H2 g (.dK [])) g=some (.dK []):=Zd;have B:g≠d:=(Zb nA Y).symm;have pW:g≠o:=(Zb (I _ _ X) Y).symm;generalize upd H2 g (.dK [])=H3 at Z wY ⊢;have s3:ZG H H3:=(W.trans I).trans Z;have rg:H d=none:=W.free kG;have rh:H g=none:=(W.trans I).free Y;have fI:=(I.trans Z) _ _ X;have Bo:=Z _ _ nA;have nL:∀nb:Int,Xm [] (Z3 d g nb 0 0)=Z3 d g nb 0 0:=fun nb=>(Rl (Z3 d g nb 0 0) [] (show ((([]:List (Key×V))++Z3 d g nb 0 0).map fun kv=>kv.1).Nodup from Zj9)).trans (List.nil_append _);refine⟨_,rfl,r,_,rfl,.inl (SqL.of (s3 _ _ G.at')),fI,Z3 d g (((l.map fun x=>V.ref x.1).length:Nat):Int) 0 0,rfl,(by show 5≤15;decide),?_⟩;rw[nL,Qa];have cY:Own (upd H3 o (.dK (Z3 d g (l.length:Int) 0 0))) o d g [] (l.length:Int) 0 0 :=
  ⟨Zd,by rw[Zc nK];exact Bo,by rw[Zc pW];exact wY,List.nodup_nil,by decide,fun e h=>by cases h⟩
 have s4:ZG H (upd H3 o (.dK (Z3 d g (l.length:Int) 0 0))):=fun b x m=>by rw[Zc (Zb m S)];exact s3 b x m
 generalize upd H3 o (.dK (Z3 d g (l.length:Int) 0 0))=H4 at cY s4 ⊢;refine⟨_,rfl,r,_,rfl,SqL.of (s4 _ _ G.at'),?_⟩;refine Rv (K:=K) (a:=r) (xs:=l.map fun x=>V.ref x.1) (fun i σ C=>∃ (L:List ZB) (v2 v3:Option V),σ=[some (.ref r),some (.ref o),v2,v3]∧Own C o d g L (l.length:Int) 0 0∧Sh L (l.take i)∧(∀e∈L,H e.2.1=none∧e.2.1≠o)∧ZG H C) ⟨[],_,_,rfl,cY,⟨rfl,rfl⟩,(fun e h=>by cases h),s4⟩ (fun i σ C hq=>by obtain⟨_,_,_,_,_,_,_,J⟩:=hq;exact SqL.of (J _ _ G.at')) ?_ ?_
 ·rintro i y σ C p M ⟨L,v2,v3,rfl,ow,⟨n1,n2⟩,dr,J⟩ hp;rw[Qm]at M;cases N:l[i]? with
  | none=>rw[N]at M;cases M
  | some x =>
  rw[N]at M;cases M;have bc:i<l.length:=(Qe.mp N).1;have bW:=G.few;obtain⟨lx,dJ,gz⟩:=G.lst x (Qo N);have pX:L.length=i:=by have:=congrArg List.length n1;rw[Qa,Tj,QA]at this;lia
  have ah:∀e∈L,e.1≠(i:Int):=fun e he z=>by
   have h1:e.1∈XN 0 (l.take i).length:=by rw[← n1];exact Qd (f:=fun e:ZB=>e.1) he
   unfold XN at h1;obtain⟨j,hj,ej⟩:=Ql.mp h1;have:=Q9.mp hj;rw[QA]at this;lia
  have sp:=Zh hp (.tup [.int (i:Int),.ref x.1]);have nN:(upd C p (.tup [.int (i:Int),.ref x.1])) p=some (.tup [.int (i:Int),.ref x.1]):=Zd;have s6:=J.trans sp;have n:=ow.same sp;generalize upd C p (.tup [.int (i:Int),.ref x.1])=H6 at nN s6 n ⊢;refine⟨p,_,rfl,SqT.of nN,rfl,_,_,rfl,_,_,rfl,rfl,?_⟩;refine⟨_,rfl,x.1,_,rfl,.inl (SqL.of (s6 _ _ lx)),fun c D=>?_⟩;have s7:=s6.trans (Zh D (.lst (x.2.map V.str)));have t:=n.same (Zh D (.lst (x.2.map V.str)));have wZ:(upd H6 c (.lst (x.2.map V.str))) c=some (.lst (x.2.map V.str)):=Zd;have Bp:H c=none:=s6.free D;have Bq:c≠o:=(Zb n.at' D).symm;have Br:c≠d:=(Zb n.rows D).symm;have Bs:c≠g:=(Zb n.gone D).symm;generalize upd H6 c (.lst (x.2.map V.str))=H7 at s7 t wZ ⊢;have hsz:(kvR L).length<sizeLine:=by unfold kvR;rw[Qa];exact Zy #[2]
  have w6:(kvG L).length<sizeLine:=by unfold kvG;rw[Qa];exact Zy #[2]
  have fY:Z8 (kvR L) (.inl (i:Int))=none:=by
   cases O:Z8 (kvR L) (.inl (i:Int)) with
   | none=>rfl
   | some v=>obtain⟨e,he,z⟩:=Ql.mp (Wa O);injection z with z _;exact absurd (Sum.inl.inj z) (ah e he)
  have lP:Z8 (kvG L) (.inl (i:Int))=none:=by
   cases O:Z8 (kvG L) (.inl (i:Int)) with
   | none=>rfl
   | some v=>obtain⟨e,he,z⟩:=Ql.mp (Wa O);injection z with z _;exact absurd (Sum.inl.inj z) (ah e he)
  refine⟨_,rfl,o,_,rfl,ZP.k' (k:=.inr "rows") t.at' (X9 ..),_,rfl,d,_,rfl,YN.k (k:=.inl (i:Int)) t.rows hsz,?_⟩;rw[WA _ fY,show kvR L++[((.inl (i:Int):Key),V.ref c)]=kvR (L++[((i:Int),c,x.2,0)]) by unfold kvR;rw[Qf];rfl];have kH:(upd H7 d (.dK (kvR (L++[((i:Int),c,x.2,0)])))) o=some (.dK (Z3 d g (l.length:Int) 0 0)):=by rw[Zc nK.symm];exact t.at'
  have Bu:(upd H7 d (.dK (kvR (L++[((i:Int),c,x.2,0)])))) g=some (.dK (kvG L)):=by rw[Zc B];exact t.gone
  refine⟨_,rfl,o,_,rfl,ZP.k' (k:=.inr "gone") kH (Wr ..),_,rfl,g,_,rfl,YN.k (k:=.inl (i:Int)) Bu w6,?_⟩;rw[WA _ lP,show kvG L++[((.inl (i:Int):Key),V.int 0)]=kvG (L++[((i:Int),c,x.2,0)]) by unfold kvG;rw[Qf];rfl];refine⟨L++[((i:Int),c,x.2,0)],_,_,rfl,⟨by rw[Zc pW.symm];exact kH,by rw[Zc B.symm];exact Zd,Zd,?_,by rw[Qi,Qy];lia,fun e he=>?_⟩,⟨?_,?_⟩,fun e he=>?_,fun b y m=>?_⟩
  ·rw[Qf];refine QaJ.mpr ⟨ow.nd,by simp,fun u hu v O=>?_⟩;obtain⟨e,he,rfl⟩:=Ql.mp hu;have:v=(i:Int):=by simpa using O
   rw[this];exact ah e he
  ·rcases Qn.mp he with he|he
   ·obtain⟨R,b2⟩:=t.lst e he;have e1:e.2.1≠d:=fun z=>by rw[z,t.rows]at R;cases R
    have e2:e.2.1≠g:=fun z=>by rw[z,t.gone]at R;cases R
    exact⟨by rw[Zc e2,Zc e1];exact R,b2⟩
   ·rw[Qk.mp he];exact⟨by rw[Zc Bs,Zc Br];exact wZ,dJ,Qw _,gz⟩
  ·rw[Qf,n1,QA,QA,QaB #[2],QaB #[2]];unfold XN;rw[QaU,Qf];simp
  ·rw[Qf,n2,QH,N,Qf];rfl
  ·rcases Qn.mp he with he|he
   ·exact dr e he
   ·rw[Qk.mp he];exact⟨Bp,Bq⟩
  ·rw[Zc (Zb m rh),Zc (Zb m rg)];exact s7 b y m
 ·rintro σ C ⟨L,v2,v3,rfl,ow,bY,dr,J⟩;rw[Qa,Qv (Qh _)]at bY;refine⟨_,rfl,o,d,g,L,_,0,0,rfl,ow,by rw[bY.1];exact KO _,fun e he=>(dr e he).2,fun k q' H6 bL n b6=>?_⟩;rw[Int.zero_add,Int.zero_add]at n;exact⟨_,rfl,q o d g L k q' H6 S rg rh B dr bY n bL (fun b x m=>b6 b x (J b x m) (Zb m S))⟩
def Sg:Sp:=fun vs H Q _=>∃ (p l:Addr) (c a:Int) (ss:List Str),vs=[.ref p,.ref l,.int a]∧Y8 H p c∧c<2 ^ 40∧0≤a∧a≤60∧H l=some (.lst (ss.map V.str))∧1≤ss.length∧ss.length≤4∧(∀s∈ss,s.length≤24∧AZ s) ∧
 ∀ (r:Addr) (b:List Str) (e:Int) (d:Hp),H r=none→d r=some (.lst (b.map V.str))→(b.length:Int)≤a→sortedS b=true→(∀s∈b,s.length≤28∧AZ s)→Y8 d p e→c≤e→e≤c+600→But p H d→Q (.ref r) d
theorem Zqd(T:Z9 K mg ab U)(m:Df P w K mg base 4 "_law_keys" ["_law_left_here", "_law_stems_here", "_law_most"] Pb):Df P w K mg base 5 "_law_row" ["_law_left_here", "_law_stems_here", "_law_most"] Sg:=by
 refine T.t_l_row.df Zot (fun n H Q E h=>?_) (fun ai f A outer s H n Q E o h=>?_)
 ·obtain⟨p,l,c,b,d,rfl,_⟩:=h;rfl
 obtain⟨p,l,c,b,d,rfl,g,t,u,v,y,B,C,D,q⟩:=h;refine⟨_,#[Zi,#[Zp,#[Zk,(Rx K),#[5],T.b.n_sorted,boot_sorted,#[Za,#[Zz,m,o,#[Za,‹0›,#[Za,‹1›,#[Za,‹2›,#[Ze]]]],#[5]],#[Ze]]]]],?_⟩;refine⟨_,rfl,_,rfl,_,rfl,p,l,c,b,d,rfl,g,t,u,v,y,B,C,D,fun r F G H1 ay I J L i a1 a2 j=>?_⟩;refine⟨r,F,rfl,SqL.of I,by lia,fun l2 M a k N=>?_⟩;obtain⟨ob,wm⟩:=g.here;have O:H l2=none:=by
  cases e:H l2 with
  | none=>rfl
  | some x =>
   by_cases z:l2=p
   ·obtain⟨o1,R⟩:=i.here;rw[z,R]at a;cases a
   ·have:=j l2 x e z;rw[this]at a;cases a
 exact q l2 M G _ O Zd (by rw[k.length_eq];exact J) N (fun s S=>L s (k.mem_iff.mp S)) (i.new a) a1 a2 (j.trans (But.same (Zh a _)))
def KN:Sp:=fun vs H Q _=>∃ (p:Addr) (c:Int),vs=[.ref p]∧Y8 H p c∧c<2 ^ 30 ∧
 ∀ (r:Addr) (b:List (Addr×List Str)) (d:Int) (a:Hp),H r=none→Vv a r b→(∀x∈b,H x.1=none∧x.1≠r∧x.1≠p∧sortedS x.2=true∧x.2.length≤60)→b.length≤12→Y8 a p d→c≤d→d≤c+10000→But p H a→Q (.ref r) a
theorem ZnH(T:Z9 K mg ab U)(af:Df P w K mg base 2 "_law_pick" ["_law_left_here", "_law_many_here"] V9)(dD:Df P w K mg base 3 "_law_stems" ["_law_left_here"] Pd)(gc:Df P w K mg base 3 "_law_many" ["_law_left_here"] O5)(cu:Df P w K mg base 5 "_law_row" ["_law_left_here", "_law_stems_here", "_law_most"] Sg):Df P w K mg base 6 "_law_rows" ["_law_left_here"] KN:=by
 refine T.t_l_rows.df Pq (fun vs H Q E h=>?_) (fun ai f A outer s H vs Q E n h=>?_)
 ·obtain⟨p,c,rfl,_⟩:=h;rfl
 obtain⟨p,c,rfl,I,c1,q⟩:=h;refine⟨_,#[Zf,#[ZD,1,Pq.nd,(Or.inr rfl),#[Zz,dD,n,#[Za,#[pv,0,(Or.inr #[3])],#[Ze]],#[5]]],#[Zf,#[ZD,2,Pq.nd,(Or.inr rfl),#[Zo,(ixL K),#[YU,#[Za,#[Zj],#[Za,#[Zj],#[Za,#[Zj],#[Za,#[Zj],#[Za,#[Zj],#[Za,#[Zj],#[Za,#[Zj],#[Za,#[Zj],#[Ze]]]]]]]]]],#[Zz,af,n,#[Za,#[pv,0,(Or.inr #[3])],#[Za,#[Zj],#[Ze]]],#[5]]]],#[Zi,#[Zp,#[Xt,U2,#[Xe,T.b.n_range,#[Za,#[Zz,gc,n,#[Za,#[pv,0,(Or.inr #[3])],#[Ze]],#[5]],#[Ze]]],(fun _ _ _ _=>#[cg,3,U2]),(fun _ _ _ _=>(@Xn _)),(fun _ _ _ _=>#[Zz,cu,n,#[Za,#[cv,0,U2],#[Za,#[cv,1,U2],#[Za,#[cv,2,U2],#[Ze]]]],(Wb U2 rfl #[1])])]]]]],?_⟩;have c0:=I.ge;refine⟨_,rfl,p,c,rfl,I,by lia,fun l ss c2 H1 ud il n1 n4 jB L1 a1 a2 B1=>?_⟩;have J:p≠l:=by obtain⟨o,d⟩:=I.here;exact Zb d ud
 refine⟨(by show 8≤sizeLine;decide),fun e t=>?_⟩;have Bv:p≠e:=by obtain⟨o,d⟩:=L1.here;exact Zb d t
 refine⟨_,rfl,p,c2,_,rfl,L1.new t,by lia,by decide,by decide,fun i L i0 i1 L2 M=>?_⟩;obtain⟨m,hm,bo⟩:=Pa (ns:=[5,5,4,6,3,7,5,20]) i0 i1;have Bw:L e=some (.lst (([5,5,4,6,3,7,5,20]:List Int).map V.int)):=M e _ Zd Bv.symm;have cL:0≤m∧m≤20:=by simp only[List.mem_cons,List.not_mem_nil,or_false]at hm;lia
 have bm:L l=some (.lst (ss.map V.str)):=M l _ (Zh t _ _ _ il) J.symm;have pY:But p H L:=(B1.trans (But.same (Zh t _))).trans M;refine⟨e,_,_,_,rfl,rfl,SqL.of Bw,bo,?_⟩;refine⟨_,rfl,p,_,rfl,L2,by lia,fun mn c3 H3 m0 m12 N a3 a4 B3=>?_⟩;have dC:=B3 l _ bm J.symm;have O:=pY.trans B3;refine⟨_,rfl,by lia,by lia,fun D a=>?_⟩;have Bx:H D=none:=by
  cases R:H D with
  | none=>rfl
  | some x =>
   by_cases z:D=p
   ·obtain⟨o1,jH⟩:=N.here;rw[z,jH]at a;cases a
   ·have:=O D x R z;rw[this]at a;cases a
 have fW:p≠D:=by obtain⟨o,d⟩:=N.here;exact Zb d a
 have lT:l≠D:=Zb dC a;refine Tn (fun i zs S g=>(∃v:Option V,S=[some (.ref p),some (.ref l),some (.int m),v])∧(∃j:List (Addr×List Str),zs=j.map (fun x=>V.ref x.1)∧j.length=i∧∀x∈j,g x.1=some (.lst (x.2.map V.str))∧H x.1=none∧x.1≠D∧x.1≠p∧sortedS x.2=true∧x.2.length≤60∧∀s∈x.2,s.length≤28∧AZ s)∧g D=some (.lst zs)∧(∃c4:Int,Y8 g p c4∧c3≤c4∧c4≤c3+600*i)∧But p H3 g) ?_ ?_ ?_
 ·exact⟨⟨none,rfl⟩,⟨[],rfl,rfl,(fun x h=>by cases h)⟩,Zd,⟨c3,N.new a,by lia,by lia⟩,But.same (Zh a _)⟩
 ·rintro i zs S g hi ⟨⟨v,rfl⟩,⟨j,rfl,By,u⟩,y,⟨c4,B,b1,b2⟩,k⟩;have xa:i<12:=by lia
  refine⟨_,rfl,_,rfl,_,rfl,p,l,c4,m,ss,rfl,B,by lia,cL.1,by lia,k l _ dC J.symm,n1,n4,jB,fun r ts c5 H5 C cH bF eC i7 L5 d1 d2 W=>?_⟩;have t9:=W D _ y fW.symm;have lU:D≠r:=Zb y C;have X:p≠r:=by obtain⟨o,d⟩:=B.here;exact Zb d C
  have xb:H r=none:=by
   cases R:H r with
   | none=>rfl
   | some x=>have:=k r x (O r x R X.symm) X.symm;rw[this]at C;cases C
  refine⟨t9,(by rw[Qa];exact Zy #[2]),⟨_,rfl⟩,⟨j++[(r,ts)],by rw[Qf];rfl,by rw[Qi,Qy];lia,fun x hx=>?_⟩,Zd,⟨c5,L5.at fW,by lia,by lia⟩,fun b x hb nb=>?_⟩
  ·rcases Qn.mp hx with hx|hx
   ·obtain⟨Y,Z,F,G,g5⟩:=u x hx;exact⟨by rw[Zc F];exact W _ _ Y G,Z,F,G,g5⟩
   ·rw[Qk.mp hx];exact⟨by rw[Zc lU.symm];exact cH,xb,lU.symm,X.symm,eC,by show ts.length≤60;lia,i7⟩
  ·rw[Zc (Zb hb a)];exact W b x (k b x hb nb) nb
 rintro zs S g ⟨⟨v,rfl⟩,⟨j,rfl,By,u⟩,y,⟨c4,B,b1,b2⟩,k⟩;refine q D j c4 g Bx ⟨y,by lia,fun x hx=>?_⟩ (fun x hx=>?_) #[2] B #[2] #[2] (O.trans k)
 ·obtain⟨Y,_,_,_,_,g6,g7⟩:=u x hx;exact⟨Y,by lia,fun s hs=>⟨by have:=(g7 s hs).1;lia,(g7 s hs).2⟩⟩
 ·obtain⟨_,Z,F,G,g5,g6,_⟩:=u x hx;exact⟨Z,F,G,g5,g6⟩
def TM(K:#[7]):Sp:=fun vs H Q _=>∃ (n:Int) (a:Addr) (ss:List Str),vs=[.int n,.ref a]∧SqL K H a (ss.map V.str)∧ss.length≤200∧(∀s∈ss,s.length≤1000)∧TW ss .non∧∀H',ZG H H'→Q .non H'
theorem Zmd(T:Z9 K mg ab U)(c:Df P w K mg base 4 "first_break" ["keys"] (O6 K)):Df P w K mg base 5 "refuse_break" ["number", "keys"] (TM K):=by
 refine T.t_refuse_break.df LQ (fun d H Q E h=>?_) (fun ai f A outer s H d Q E g h=>?_)
 ·obtain⟨n,a,b,rfl,_⟩:=h;rfl
 obtain⟨n,a,b,rfl,i,j,k,l,q⟩:=h;refine⟨_,#[Zf,#[ZD,2,LQ.nd,#[3],#[Zz,c,g,#[Za,‹1›,#[Ze]],#[5]]],#[Zi,#[ZW,#[Zl,Vh,‹2›,#[ZZ],(Zs _)],#[Zi,(@Rj _ _)],#[ZH]]]],?_⟩;refine⟨_,rfl,a,b,rfl,i,j,k,fun v m o p=>?_⟩;have e:=ZpV o l;subst e;exact⟨_,rfl,rfl,_,rfl,YZ (q m p)⟩
structure Zx where
 n:Int
 p:Addr
 k:Addr
 f:Addr
 ss:List Str
 g:Nat
noncomputable def toL(e:Zx):ZB:=(e.n,e.p,e.ss,e.g)
noncomputable def hdM(L:List Zx):Hd:=hdL (L.map toL)
noncomputable def Zv(L:List Zx):List Int:=L.map (·.n)
theorem Wq(L:List Zx):(L.map toL).map (·.1)=Zv L:=by rw[Qg];rfl
noncomputable def kvM(L:List Zx):List (Key×V):=L.map fun e=>(.inl e.n,.ref e.p)
theorem Vu{L:List Zx}(nd:(Zv L).Nodup){e:Zx}(he:e∈L):hdM L e.n=(e.ss[e.g]?).map cds :=
 TN (L:=L.map toL) (by rw[Wq];exact nd) (Qd (f:=toL) he)
theorem Zox(L:List Zx):(kvM L).map (·.1)=(Zv L).map (Sum.inl:Int→Key):=by unfold kvM Zv;rw[Qg,Qg];rfl
theorem V3{L:List Zx}(nd:(Zv L).Nodup){e:Zx}(he:e∈L):Z8 (kvM L) (.inl e.n)=some (.ref e.p):=Tb (by rw[Zox];exact Sk nd) (Qd (f:=fun e:Zx=>((.inl e.n:Key),V.ref e.p)) he)
theorem TK{L:List Zx}{n:Int}(h:n∈Zv L):∃e∈L,e.n=n:=Ql.mp h
noncomputable def mgF(rd:Addr)(nb li lo:Int)(sd:Addr)(a:V):List (Str×V):=[("rows",.ref rd),("next_number",.int nb),("likened",.int li),("looked",.int lo),("stays",.ref sd),("best",a)]
theorem OP:¬ (("rows" : Str) = "next_number"):=by ac_rfl
theorem OO:¬ (("rows" : Str) = "likened"):=by ac_rfl
theorem ON:¬ (("rows" : Str) = "looked"):=by ac_rfl
theorem OM:¬ (("rows" : Str) = "stays"):=by ac_rfl
theorem OL:¬ (("rows" : Str) = "best"):=by ac_rfl
theorem OK:¬ (("next_number" : Str) = "likened"):=by ac_rfl
theorem OJ:¬ (("next_number" : Str) = "looked"):=by ac_rfl
theorem OI:¬ (("next_number" : Str) = "stays"):=by ac_rfl
theorem OH:¬ (("next_number" : Str) = "best"):=by ac_rfl
theorem OG:¬ (("likened" : Str) = "looked"):=by ac_rfl
theorem OF:¬ (("likened" : Str) = "stays"):=by ac_rfl
theorem OE:¬ (("likened" : Str) = "best"):=by ac_rfl
theorem OD:¬ (("looked" : Str) = "stays"):=by ac_rfl
theorem OC:¬ (("looked" : Str) = "best"):=by ac_rfl
theorem OB:¬ (("stays" : Str) = "best"):=by ac_rfl
theorem Wp(f:Str)(v x:V)(r:List (Str×V)):ZA f v ((f,x)::r)=(f,v)::r:=by unfold ZA;rw[if_pos rfl]
theorem ZC{f g:Str}(h:¬ g=f)(v x:V)(r:List (Str×V)):ZA f v ((g,x)::r)=(g,x)::ZA f v r:=by show (if g=f then (g,v)::r else (g,x)::ZA f v r)=_;rw[if_neg h]
theorem Xj(f:Str)(v:V):ZA f v []=[(f,v)]:=rfl
theorem V2(rd:Addr)(nb li lo:Int)(sd:Addr)(a:V):mgF rd nb li lo sd a=ZA "best" a (ZA "stays" (.ref sd) (ZA "looked" (.int lo) (ZA "likened" (.int li) (ZA "next_number" (.int nb) (ZA "rows" (.ref rd) []))))):=by rw[Xj,ZC OP,Xj,ZC OO,ZC OK,Xj,ZC ON,ZC OJ,ZC OG,Xj,ZC OM,ZC OI,ZC OF,ZC OD,Xj,ZC OL,ZC OH,ZC OE,ZC OC,ZC OB,Xj];rfl
section
variable (rd:Addr) (nb li lo:Int) (sd:Addr) (ae:V)
theorem XX:(mgF rd nb li lo sd ae).lookup ("rows" : Str)=some (.ref rd):=by rw[V2,Zn,if_neg OL,Zn,if_neg OM,Zn,if_neg ON,Zn,if_neg OO,Zn,if_neg OP,Zn,if_pos rfl]
theorem OA:(mgF rd nb li lo sd ae).lookup ("next_number" : Str)=some (.int nb):=by rw[V2,Zn,if_neg OH,Zn,if_neg OI,Zn,if_neg OJ,Zn,if_neg OK,Zn,if_pos rfl]
theorem Sf:(mgF rd nb li lo sd ae).lookup ("likened" : Str)=some (.int li):=by rw[V2,Zn,if_neg OE,Zn,if_neg OF,Zn,if_neg OG,Zn,if_pos rfl]
theorem Oz:(mgF rd nb li lo sd ae).lookup ("looked" : Str)=some (.int lo):=by rw[V2,Zn,if_neg OC,Zn,if_neg OD,Zn,if_pos rfl]
theorem UP:(mgF rd nb li lo sd ae).lookup ("stays" : Str)=some (.ref sd):=by rw[V2,Zn,if_neg OB,Zn,if_pos rfl]
theorem UO:(mgF rd nb li lo sd ae).lookup ("best" : Str)=some ae:=by rw[V2,Zn,if_pos rfl]
theorem Yh{m:Str}(h1:¬ m = "rows")(h2:¬ m = "next_number")(a:¬ m = "likened")(h4:¬ m = "looked")(b:¬ m = "stays")(c:¬ m = "best"):(mgF rd nb li lo sd ae).lookup m=none:=by rw[V2,Zn,if_neg c,Zn,if_neg b,Zn,if_neg h4,Zn,if_neg a,Zn,if_neg h2,Zn,if_neg h1];rfl
theorem Zi4(x:Addr):ZA "rows" (.ref x) (mgF rd nb li lo sd ae)=mgF x nb li lo sd ae:=by unfold mgF;rw[Wp]
theorem KL(v:Int):ZA "next_number" (.int v) (mgF rd nb li lo sd ae)=mgF rd v li lo sd ae:=by unfold mgF;rw[ZC OP,Wp]
theorem Oy(v:Int):ZA "likened" (.int v) (mgF rd nb li lo sd ae)=mgF rd nb v lo sd ae:=by unfold mgF;rw[ZC OO,ZC OK,Wp]
theorem KJ(v:Int):ZA "looked" (.int v) (mgF rd nb li lo sd ae)=mgF rd nb li v sd ae:=by unfold mgF;rw[ZC ON,ZC OJ,ZC OG,Wp]
theorem KI(x:Addr):ZA "stays" (.ref x) (mgF rd nb li lo sd ae)=mgF rd nb li lo x ae:=by unfold mgF;rw[ZC OM,ZC OI,ZC OF,ZC OD,Wp]
theorem TH(x:V):ZA "best" x (mgF rd nb li lo sd ae)=mgF rd nb li lo sd x:=by unfold mgF;rw[ZC OL,ZC OH,ZC OE,ZC OC,ZC OB,Wp]
theorem XH:(mgF rd nb li lo sd ae).length<1000:=by show 6<1000;decide
end
structure X8 (C:Addr) (H:Hp) (e:Zx):Prop where
 at':Wu C H e.p e.k e.f e.ss e.g
 le:e.g≤e.ss.length
 len:e.ss.length≤100
 srt:sortedS e.ss=true
 str:∀s∈e.ss,s.length≤1000∧AZ s
def Kb(nb:Int)(s:StL)(L:List Zx):Prop:=(∀x∈s,0≤x.1.1∧x.1.1<x.1.2∧x.1.2≤nb)∧∀n∈nb::Zv L,0≤n∧n≤nb
theorem Kb.nn{nb:Int}{s:StL}{L:List Zx}(h:Kb nb s L):0≤nb:=(h.2 nb (Q0 ..)).1
theorem Kb.of{nb:Int}{L:List Zx}(h0:0≤nb)(h:∀n∈Zv L,0≤n∧n≤nb):∀n∈nb::Zv L,0≤n∧n≤nb:=fun n a=>by
 rcases QF.mp a with e|h1
 ·rw[e];exact⟨h0,Int.le_refl _⟩
 ·exact h n h1
theorem Kb.to{nb:Int}{s:StL}{L:List Zx}(h:Kb nb s L):∀n∈Zv L,0≤n∧n≤nb:=fun n a=>h.2 n (Qt _ a)
theorem Kb.mono{nb nb':Int}{s:StL}{L:List Zx}(h:Kb nb s L)(hb:nb≤nb'):Kb nb' s L:=by have h0:=h.nn;exact⟨fun x d=>let ⟨a,b,c⟩:=h.1 x d;⟨a,b,by lia⟩,Kb.of #[2] fun n e=>let ⟨a,b⟩:=h.to n e;⟨a,by lia⟩⟩
theorem Kb.put{nb:Int}{s:StL}{L:List Zx}(h:Kb nb s L){k:Int×Int}{v:Option (Addr×Int×Int)}(hk:0≤k.1∧k.1<k.2∧k.2≤nb):Kb nb (Yt s k v) L:=by
 refine⟨fun x hx=>?_,h.2⟩;unfold Yt at hx;split at hx
 ·obtain⟨y,a,rfl⟩:=Ql.mp hx;by_cases e:y.1=k
  ·rw[if_pos e];exact h.1 y a
  ·rw[if_neg e];exact h.1 y a
 ·rcases Qn.mp hx with hx|hx
  ·exact h.1 x hx
  ·rw[Qk.mp hx];exact hk
theorem Kb.key{nb:Int}{s:StL}{L:List Zx}(h:Kb nb s L){N:List Int}(up:YS N)(h2:2≤N.length)(hm:∀x∈N,x∈Zv L):0≤(ZR N).1∧(ZR N).1<(ZR N).2∧(ZR N).2≤nb:=by
 cases N with
 | nil=>exact absurd h2 #[6]
 | cons a r =>
  cases r with
  | nil=>exact absurd h2 (by show ¬ 2≤1;decide)
  | cons b r =>
   have e:(ZR (a::b::r)).2=(b::r).getLast #[4]:=by unfold ZR;show (a::b::r).getLastD 0=_;rw[Qaf,Qat #[4]];rfl
   have c:(b::r).getLast #[4]∈b::r:=List.getLast_mem _;have lt:a<(b::r).getLast #[4]:=(List.pairwise_cons.mp up).1 _ c;rw[e];exact⟨(h.to a (hm a (Q0 ..))).1,lt,(h.to _ (hm _ (Qt _ c))).2⟩
structure ZQ (cR cM:Addr) (H:Hp) (m rd sd:Addr) (L:List Zx) (s:StL) (nb li lo:Int) (ae:V):Prop where
 ob:∃dx,H m=some (.ins cM dx (mgF rd nb li lo sd ae))
 rows:H rd=some (.dK (kvM L))
 stays:H sd=some (.dT (kvS s))
 ats:AtS H s
 each:∀e∈L,X8 cR H e
 up:YS (Zv L)
 pd:(L.map (·.p)).Nodup
 few:L.length≤60
 sfew:s.length≤100
 kb:Kb nb s L
def Fp(m rd sd:Addr)(L:List Zx)(b:Addr):Prop:=b=m∨b=rd∨b=sd∨∃e∈L,b=e.p∨b=e.k∨b=e.f
theorem X8.keep{C:Addr}{H H':Hp}{e:Zx}(h:X8 C H e)(hp:H' e.p=H e.p)(hk:H' e.k=H e.k)(a:H' e.f=H e.f):X8 C H' e :=
 ⟨⟨by rw[hp];exact h.at'.ob,by rw[hk];exact h.at'.ks,by rw[a];exact h.at'.fs⟩,h.le,h.len,h.srt,h.str⟩
section
variable {cR cM:Addr} {H H':Hp} {m rd sd:Addr} {L:List Zx} {s:StL} {nb li lo:Int} {ae:V}
theorem ZQ.nd(h:ZQ cR cM H m rd sd L s nb li lo ae):(Zv L).Nodup:=TV h.up
theorem ZQ.keep(h:ZQ cR cM H m rd sd L s nb li lo ae)(k:∀b o,H b=some o→Fp m rd sd L b∨(∃xs,o=.tup xs)→H' b=some o):ZQ cR cM H' m rd sd L s nb li lo ae:=by
 refine⟨?_,k _ _ h.rows (.inl (.inr #[8])),k _ _ h.stays (.inl (.inr (.inr #[8]))),fun e a t f=>k _ _ (h.ats e a t f) (.inr ⟨_,rfl⟩),fun e a=>?_,h.up,h.pd,h.few,h.sfew,h.kb⟩
 ·obtain⟨c,d⟩:=h.ob;exact⟨c,k _ _ d (.inl #[8])⟩
 ·have r:=h.each e a;obtain⟨c,d⟩:=r.at'.ob;exact⟨⟨⟨c,k _ _ d (.inl (.inr (.inr (.inr ⟨e,a,.inl rfl⟩))))⟩,k _ _ r.at'.ks (.inl (.inr (.inr (.inr ⟨e,a,.inr #[8]⟩)))),k _ _ r.at'.fs (.inl (.inr (.inr (.inr ⟨e,a,.inr (.inr rfl)⟩))))⟩,r.le,r.len,r.srt,r.str⟩
theorem ZQ.same(h:ZQ cR cM H m rd sd L s nb li lo ae)(k:ZG H H'):ZQ cR cM H' m rd sd L s nb li lo ae:=h.keep fun b o hb _=>k b o hb
theorem ZQ.ne_p(h:ZQ cR cM H m rd sd L s nb li lo ae){e:Zx}(he:e∈L):m≠e.p∧m≠e.k∧m≠e.f:=by
 obtain⟨dx,b⟩:=h.ob;have r:=h.each e he;obtain⟨dy,c⟩:=r.at'.ob;refine⟨fun z=>?_,fun z=>?_,fun z=>?_⟩
 ·rw[z,c]at b;injection b with b;injection b with _ _ b;have a:=V4 e.k e.f (e.g:Int);rw[b,Yh _ _ _ _ _ _ #[1] #[1] #[1] #[1] #[1] #[1]]at a;cases a
 ·rw[z,r.at'.ks]at b;cases b
 ·rw[z,r.at'.fs]at b;cases b
theorem ZQ.ne_m(h:ZQ cR cM H m rd sd L s nb li lo ae):m≠rd∧m≠sd∧rd≠sd:=by
 obtain⟨dx,a⟩:=h.ob;refine⟨fun z=>?_,fun z=>?_,fun z=>?_⟩
 ·rw[z,h.rows]at a;cases a
 ·rw[z,h.stays]at a;cases a
 ·have:=h.rows;rw[z,h.stays]at this;cases this
theorem ZQ.ne_sd(h:ZQ cR cM H m rd sd L s nb li lo ae){e:Zx}(he:e∈L):sd≠e.p∧sd≠e.k∧sd≠e.f∧rd≠e.p∧rd≠e.k∧rd≠e.f:=by
 have r:=h.each e he;obtain⟨dy,c⟩:=r.at'.ob;have a:=h.stays;have b:=h.rows;refine⟨fun z=>?_,fun z=>?_,fun z=>?_,fun z=>?_,fun z=>?_,fun z=>?_⟩
 ·rw[z,c]at a;cases a
 ·rw[z,r.at'.ks]at a;cases a
 ·rw[z,r.at'.fs]at a;cases a
 ·rw[z,c]at b;cases b
 ·rw[z,r.at'.ks]at b;cases b
 ·rw[z,r.at'.fs]at b;cases b
theorem ZQ.obj(h:ZQ cR cM H m rd sd L s nb li lo ae){nb' li' lo':Int}{best':V}{dx:Addr}(hb:nb≤nb':=by lia):ZQ cR cM (upd H m (.ins cM dx (mgF rd nb' li' lo' sd best'))) m rd sd L s nb' li' lo' best':=by
 obtain⟨f,g,n3⟩:=h.ne_m;obtain⟨dy,i⟩:=h.ob;refine⟨⟨dx,Zd⟩,by rw[Zc f.symm];exact h.rows,by rw[Zc g.symm];exact h.stays,fun e d t j=>?_,fun e d=>?_,h.up,h.pd,h.few,h.sfew,h.kb.mono hb⟩
 ·have:=h.ats e d t j;rw[Zc (fun z=>by rw[z,i]at this;cases this)];exact this
 ·obtain⟨a,b,c⟩:=h.ne_p d;exact(h.each e d).keep (Zc a.symm) (Zc b.symm) (Zc c.symm)
theorem ZQ.put(h:ZQ cR cM H m rd sd L s nb li lo ae){k:Int×Int}{v:Option (Addr×Int×Int)}(hv:∀t,v=some t→H t.1=some (.tup [.int t.2.1,.int t.2.2]))(i:(Yt s k v).length≤100)(hk:0≤k.1∧k.1<k.2∧k.2≤nb):ZQ cR cM (upd H sd (.dT (kvS (Yt s k v)))) m rd sd L (Yt s k v) nb li lo ae:=by
 obtain⟨n1,j,l⟩:=h.ne_m;obtain⟨n,o⟩:=h.ob;have tup:∀a d,H a=some (.tup d)→(upd H sd (.dT (kvS (Yt s k v)))) a=some (.tup d):=fun a d f=>by rw[Zc (fun z=>by rw[z,h.stays]at f;cases f)];exact f
 refine⟨⟨n,by rw[Zc j];exact o⟩,by rw[Zc l];exact h.rows,Zd,(h.ats.put hv).mono tup,fun e g=>?_,h.up,h.pd,h.few,i,h.kb.put hk⟩;obtain⟨a,b,c,_⟩:=h.ne_sd g;exact(h.each e g).keep (Zc a.symm) (Zc b.symm) (Zc c.symm)
end
def Ox(g h:Addr):Sp:=fun vs H Q _=>∃ (m rd sd:Addr) (L:List Zx) (s:StL) (nb li lo:Int) (i:V) (a b:Zx) (x y:Str) (d:Nat),vs=[.ref m,.int a.n,.int b.n,.int (d:Int)]∧ZQ g h H m rd sd L s nb li lo i∧a∈L∧b∈L∧a.ss[a.g]? = some x∧b.ss[b.g]? = some y∧d≤lcp (cds x) (cds y) ∧
 ∀ (t:Addr) (e f:Int) (c:Hp),(Btr (cds x) a.n (cds y) b.n∧e=a.n∧f=b.n∨¬ Btr (cds x) a.n (cds y) b.n∧e=b.n∧f=a.n)→H t=none→c t=some (.tup [.int e,.int f,.int ((lcp (cds x) (cds y):Nat):Int)]) →
  ZQ g h c m rd sd L s nb (li+1) (lo+((lcp (cds x) (cds y):Nat)-(d:Int)+1)) i→(∀b o,H b=some o→b≠m→c b=some o)→Q (.ref t) c
theorem TF{ss:List Str}{g:Nat}{x:Str}(h:ss[g]? = some x):Xl ss g=.str x:=by unfold Xl;rw[h]
theorem Vt(k f:Addr)(g:Int):(Y0 k f g).lookup ("head" : Str)=none:=UU _ _ _ #[1] #[1] #[1]
theorem ZoY(T:Z9 K mg ab U)(Y:Mf P w K mg base 2 ab "head" ["self"] (Vx ab))(cN:Df P w K mg base 2 "liken_from" ["one", "other", "far"] O7):Mf P w K mg base 3 U "meet" ["self", "one", "other", "far"] (Ox ab U):=by
 refine T.t_Merge_meet.mf SQ (fun vs H Q E h=>?_) (fun ai f A outer s H vs Q E C h=>?_)
 ·obtain⟨m,j,B,L,s,nb,l,lo,p,a,b,x,y,r,rfl,_⟩:=h;rfl
 obtain⟨m,j,B,L,s,nb,l,lo,p,a,b,x,y,r,rfl,M,Z,v,hx,hy,hf,q⟩:=h;refine⟨_,#[Zf,#[Z0,#[Zz,cN,C,#[Za,#[YT,Y,T.cl_Row,C,#[Zo,(ixG C),#[ZK,‹0›],‹1›]],#[Za,#[YT,Y,T.cl_Row,C,#[Zo,(ixG C),#[ZK,‹0›],‹2›]],#[Za,‹3›,#[Ze]]]],#[5]],#[gT,K,3,#[Zu,#[ZE,4,SQ.nd,#[3]],#[Zu,#[ZE,5,SQ.nd,#[3]],#[Zu,#[ZE,6,SQ.nd,#[3]],(@Yy _)]]]]],#[Zf,#[VU,‹0›,#[Zj],UB],#[Zf,#[VU,‹0›,‹6›,UB],#[Zf,#[ZW,(@PW.pt _ _ _ #[Wh,#[Zl,XS,‹4›,#[Zj],(Zs _)],(@Vn _ _ _ _ (@PW.pt _ _ _ #[Yf,#[Zl,YH,‹4›,#[Zj],(Zs _)],#[XT,#[Zl,XS,‹1›,‹2›,(Zs _)]]]))]),#[Zi,#[Zp,#[YV,#[Za,‹1›,#[Za,‹2›,#[Za,‹5›,#[Ze]]]]]]],#[ZH]],#[Zi,#[Zp,#[YV,#[Za,‹2›,#[Za,‹1›,#[Za,‹5›,#[Ze]]]]]]]]]]],?_⟩;obtain⟨dx,J⟩:=M.ob;have N:=M.each a Z;have O:=M.each b v;obtain⟨da,Bz⟩:=N.at'.ob;obtain⟨db,BA⟩:=O.at'.ob;have lx:=(N.str x (Qo hx)).1;have ly:=(O.str y (Qo hy)).1;refine⟨_,rfl,m,U,dx,_,_,rfl,J,T.cl_Merge,T.na_Merge_rows,XX ..,_,rfl,j,_,rfl,ZP.k' (k:=.inl a.n) M.rows (V3 M.nd Z),a.p,da,_,rfl,Bz,Vt ..,a.p,a.k,a.f,a.ss,a.g,rfl,N.at',?_⟩;refine⟨_,rfl,m,U,dx,_,_,rfl,J,T.cl_Merge,T.na_Merge_rows,XX ..,_,rfl,j,_,rfl,ZP.k' (k:=.inl b.n) M.rows (V3 M.nd v),b.p,db,_,rfl,BA,Vt ..,b.p,b.k,b.f,b.ss,b.g,rfl,O.at',?_⟩;rw[TF hx,TF hy];refine⟨_,rfl,x,y,r,rfl,lx,ly,hf,fun t ht=>?_⟩;have G:=Zh ht (.tup [.int (ZT (cds x) (cds y)),.int (lcp (cds x) (cds y):Nat),.int ((lcp (cds x) (cds y):Nat)-(r:Int)+1)]);have tY:(upd H t (.tup [.int (ZT (cds x) (cds y)),.int (lcp (cds x) (cds y):Nat),.int ((lcp (cds x) (cds y):Nat)-(r:Int)+1)])) t=some (.tup [.int (ZT (cds x) (cds y)),.int (lcp (cds x) (cds y):Nat),.int ((lcp (cds x) (cds y):Nat)-(r:Int)+1)]):=Zd;generalize upd H t (.tup [.int (ZT (cds x) (cds y)),.int (lcp (cds x) (cds y):Nat),.int ((lcp (cds x) (cds y):Nat)-(r:Int)+1)])=R at G tY ⊢;have M1:=M.same G;refine⟨t,_,rfl,SqT.of tY,rfl,_,_,rfl,_,_,rfl,_,_,rfl,rfl,?_⟩;have cL:=G _ _ J;refine⟨_,rfl,m,U,dx,_,_,rfl,cL,T.cl_Merge,T.na_Merge_likened,Sf ..,_,_,rfl,rfl,dx,_,cL,XH ..,?_⟩;rw[Oy];have M2:=M1.obj (nb':=nb) (li':=l+1) (lo':=lo) (best':=p) (dx:=dx);have k2:∀b o,H b=some o→b≠m→(upd R m (.ins U dx (mgF j nb (l+1) lo B p))) b=some o:=fun b o v n=>by rw[Zc n];exact G b o v
 have S:(upd R m (.ins U dx (mgF j nb (l+1) lo B p))) m=some (.ins U dx (mgF j nb (l+1) lo B p)):=Zd;generalize upd R m (.ins U dx (mgF j nb (l+1) lo B p))=H2 at M2 k2 S ⊢;refine⟨_,rfl,m,U,dx,_,_,rfl,S,T.cl_Merge,T.na_Merge_looked,Oz ..,_,rfl,_,_,rfl,rfl,dx,_,S,XH ..,?_⟩;rw[KJ];have V:=M2.obj (nb':=nb) (li':=l+1) (lo':=lo+((lcp (cds x) (cds y):Nat)-(r:Int)+1)) (best':=p) (dx:=dx);have k3:∀b o,H b=some o→b≠m→(upd H2 m (.ins U dx (mgF j nb (l+1) (lo+((lcp (cds x) (cds y):Nat)-(r:Int)+1)) B p))) b=some o:=fun b o v n=>by rw[Zc n];exact k2 b o v n
 generalize upd H2 m (.ins U dx (mgF j nb (l+1) (lo+((lcp (cds x) (cds y):Nat)-(r:Int)+1)) B p))=H3 at V k3 ⊢;have u:∀D F:Int,(Btr (cds x) a.n (cds y) b.n∧D=a.n∧F=b.n∨¬ Btr (cds x) a.n (cds y) b.n∧D=b.n∧F=a.n)→∀c,H3 c=none→Q (.ref c) (upd H3 c (.tup [.int D,.int F,.int ((lcp (cds x) (cds y):Nat):Int)])):=fun D F hw c i=>by
  have dS:H c=none:=by
   cases e:H c with
   | none=>rfl
   | some o =>
    by_cases z:c=m
    ·obtain⟨dz,hz⟩:=V.ob;rw[z,hz]at i;cases i
    ·rw[k3 c o e z]at i;cases i
  exact q c D F _ hw dS Zd (V.same (Zh i _)) (fun b o v n=>Zh i _ _ _ (k3 b o v n))
 have I:3≤sizeLine:=by decide
 refine⟨_,rfl,_,_,rfl,rfl,_,rfl,Y3 (fun d=>?_) (fun d=>?_)⟩
 ·have d':ZT (cds x) (cds y)<0:=of_decide_eq_true d;exact Xu ⟨_,rfl,_,rfl,_,rfl,I,fun c i=>u _ _ (.inl ⟨.inl d',rfl,rfl⟩) c i⟩
 have d1:¬ ZT (cds x) (cds y)<0:=fun z=>d (decide_eq_true z);refine⟨_,rfl,rfl,_,rfl,Y3 (fun e=>?_) (fun e=>?_)⟩
 ·have W:ZT (cds x) (cds y)=0:=by have:=of_decide_eq_true e;injection this
  refine⟨_,rfl,_,rfl,_,_,rfl,rfl,_,rfl,Y3 (fun g=>?_) (fun g=>?_)⟩
  ·have X:a.n<b.n:=of_decide_eq_true g;exact⟨_,rfl,_,rfl,_,rfl,I,fun c i=>u _ _ (.inl ⟨.inr ⟨W,X⟩,rfl,rfl⟩) c i⟩
  ·have X:¬ a.n<b.n:=fun z=>g (decide_eq_true z);exact⟨_,rfl,_,rfl,_,rfl,I,fun c i=>u _ _ (.inr ⟨fun z=>by rcases z with z|z;exact d1 z;exact X z.2,rfl,rfl⟩) c i⟩
 ·have W:ZT (cds x) (cds y)≠0:=fun z=>e (decide_eq_true (by rw[z]));exact YZ ⟨_,rfl,_,rfl,_,rfl,I,fun c i=>u _ _ (.inr ⟨fun z=>by rcases z with z|z;exact d1 z;exact W z.1,rfl,rfl⟩) c i⟩
theorem ZQ.cast{a b:Addr}{H:Hp}{m rd sd:Addr}{L:List Zx}{s:StL}{nb li lo li' lo':Int}{c:V}(h:ZQ a b H m rd sd L s nb li lo c)(d:li=li')(e:lo=lo'):ZQ a b H m rd sd L s nb li' lo' c:=by subst d;subst e;exact h
theorem KH{N:List Int}(h:N≠[]):atI (N.map V.int) (-1)=some (.int (N.getLastD 0)):=by
 have e:N=N.dropLast++[N.getLast h]:=(List.dropLast_concat_getLast h).symm;have:=Zna (N.dropLast.map V.int) (V.int (N.getLast h));rw[Qaf,Qat h]
 conv=>lhs;rw[e,Qf]
 exact this
theorem KG{N:List Int}(h:N≠[]):atI (N.map V.int) 0=some (.int (N.headD 0)):=by
 cases N with
 | nil=>exact absurd rfl h
 | cons a r=>exact Yx (j:=0) rfl
theorem Ow(rd:Addr)(nb li lo:Int)(sd:Addr)(a:V):(mgF rd nb li lo sd a).lookup ("play" : Str)=none:=Yh _ _ _ _ _ _ #[1] #[1] #[1] #[1] #[1] #[1]
theorem KD(rd:Addr)(nb li lo:Int)(sd:Addr)(a:V):(mgF rd nb li lo sd a).lookup ("meet" : Str)=none:=Yh _ _ _ _ _ _ #[1] #[1] #[1] #[1] #[1] #[1]
def KC(K:#[7])(d e:Addr)(n:Nat):Sp:=fun vs H Q _=>∃ (m rd sd:Addr) (L:List Zx) (s:StL) (nb li lo:Int) (f:V) (l:Addr) (N:List Int),vs=[.ref m,.ref l]∧ZQ d e H m rd sd L s nb li lo f∧H l=some (.lst (N.map V.int))∧1≤N.length∧N.length≤60∧0<n∧N.length≤2 ^ (n-1)∧(∀x∈N,x∈Zv L)∧YS N∧(∀k,Xw n N k→Z2 s k=none)∧s.length+N.length≤100 ∧
 ∀ (w:Option Int) (a:StL) (k q:Int) (c:Hp),Win (hdM L) N w→XY (hdM L) a n N→YW (hdM L) n N k q→(∀j,¬ Xw n N j→Z2 a j=Z2 s j)→a.length+1≤s.length+N.length→ZQ d e c m rd sd L a nb (li+k) (lo+q) f→(∀b o,H b=some o→b≠m→b≠sd→c b=some o)→Q (Y4 w) c
theorem KA(T:Z9 K mg ab U)(al:Mf P w K mg base 2 ab "head" ["self"] (Vx ab))(bS:Df P w K mg base 1 "halves" ["numbers"] (V6 K true))(aU:Mf P w K mg base 3 U "meet" ["self", "one", "other", "far"] (Ox ab U)) :
  ∀n:Nat,Mf P w K mg base (n+4) U "play" ["self", "numbers"] (KC K ab U n)
 | 0=>by
  refine T.t_Merge_play.mf Wx (fun vs H Q E h=>?_) (fun ai f A outer s H vs Q E G h=>?_)
  ·obtain⟨m,rd,sd,L,s,nb,li,lo,W,l,N,rfl,_⟩:=h;rfl
  obtain⟨m,rd,sd,L,s,nb,li,lo,W,l,N,rfl,_,_,_,_,z,_⟩:=h;exact absurd z #[2]
 | n+1=>by
  have bb:=KA T al bS aU n;refine T.t_Merge_play.mf Wx (fun vs H Q E h=>?_) (fun ai f A outer s H vs Q E G h=>?_)
  ·obtain⟨m,rd,sd,L,s,nb,li,lo,W,l,N,rfl,_⟩:=h;rfl
  obtain⟨m,rd,sd,L,s,nb,li,lo',W,l,N,rfl,M,C,h1,fb,_,cr,aV,u,dS,hsz,q⟩:=h;rw[Qah]at cr;refine⟨_,#[Zf,#[ZW,#[Zl,YH,#[Zk,(YB K),#[5],T.b.n_len,Qz,#[Za,‹1›,#[Ze]]],#[Zj],(Zs _)],#[Zi,#[Zp,#[Xo,#[Zl,XR,#[YT,al,T.cl_Row,G,#[Zo,(ixG G),#[ZK,‹0›],#[Zo,(ixL K),‹1›,#[Zj]]]],#[ZZ],(Zs _)],#[ZZ],#[Zo,(ixL K),‹1›,#[Zj]]]]],#[ZH]],#[Zf,#[Z0,#[Zz,bS,G,#[Za,‹1›,#[Ze]],#[5]],#[gT,K,2,#[Zu,#[ZE,2,Wx.nd,#[3]],#[Zu,#[ZE,3,Wx.nd,#[3]],(@Yy _)]]]],#[Zf,#[ZD,4,Wx.nd,#[3],#[X1,bb,T.cl_Merge,G,‹0›,#[Za,‹2›,#[Ze]]]],#[Zf,#[ZD,5,Wx.nd,#[3],#[X1,bb,T.cl_Merge,G,‹0›,#[Za,‹3›,#[Ze]]]],#[Zf,#[ZW,#[Zl,XR,‹4›,#[ZZ],(Zs _)],#[Zi,#[Zp,‹5›]],#[ZH]],#[Zf,#[ZW,#[Zl,XR,‹5›,#[ZZ],(Zs _)],#[Zi,#[Zp,‹4›]],#[ZH]],#[Zf,#[Z0,#[X1,aU,T.cl_Merge,G,‹0›,#[Za,‹4›,#[Za,‹5›,#[Za,#[Zj],#[Ze]]]]],#[gT,K,3,#[Zu,#[ZE,6,Wx.nd,#[3]],#[Zu,#[ZE,7,Wx.nd,#[3]],#[Zu,#[ZE,8,Wx.nd,#[3]],(@Yy _)]]]]],#[Zf,#[Z0,#[YV,#[Za,‹7›,#[Za,‹8›,#[Ze]]]],#[YI,#[ZK,‹0›],#[YV,#[Za,#[Zo,(ixL K),‹1›,#[Zj]],#[Za,#[Zo,(ixL K),‹1›,#[WJ,VX,#[Zj]]],#[Ze]]]],(Ym G)]],#[Zi,#[Zp,‹6›]]]]]]]]]],?_⟩;obtain⟨dx,hm⟩:=M.ob;have hN:N≠[]:=XI h1;have xh:l≠m:=fun z=>by rw[z,hm]at C;cases C
  have lX:l≠sd:=fun z=>by rw[z,M.stays]at C;cases C
  have fF:(((N.map V.int).length:Nat):Int)=(N.length:Int):=by rw[Qa]
  refine⟨_,rfl,l,_,rfl,.inl (SqL.of C),rfl,_,rfl,Y3 (fun d=>?_) (fun d=>?_)⟩
  ·have xi:N.length=1:=by have:=of_decide_eq_true d;injection this with this;rw[fF]at this;lia
   obtain⟨n0,rfl⟩:∃n0,N=[n0]:=Qaz.mp xi;obtain⟨e,he,rfl⟩:=TK (aV n0 #[4]);have R:=M.each e he;obtain⟨dp,hp⟩:=R.at'.ob;have bo:atI (([e.n]:List Int).map V.int) 0=some (.int e.n):=Yx (j:=0) rfl;refine⟨_,rfl,m,U,dx,_,_,rfl,hm,T.cl_Merge,T.na_Merge_rows,XX ..,_,rfl,l,_,_,_,rfl,rfl,SqL.of C,bo,rd,_,rfl,ZP.k' (k:=.inl e.n) M.rows (V3 M.nd he),e.p,dp,_,rfl,hp,Vt ..,e.p,e.k,e.f,e.ss,e.g,rfl,R.at',rfl,_,rfl,?_⟩;have bK:XY (hdM L) s (n+1) [e.n]:=fun h2=>by simp at h2
   have bL:YW (hdM L) (n+1) [e.n] 0 0:=.few (by show 1<2;decide);have X:=Win.sing (hd:=hdM L) (n:=e.n);have hd:=Vu M.nd he;have M':=M.cast (li':=li+0) (lo':=lo'+0) #[2] #[2];cases g:e.ss[e.g]? with
   | none=>rw[show Xl e.ss e.g=.non by unfold Xl;rw[g]];rw[hd,g]at X;exact YE rfl (q none s 0 0 H X bK bL (fun _ _=>rfl) (Qh _) M' (fun b o h _ _=>h))
   | some x=>rw[TF g];rw[hd,g]at X;exact Yn (fun z=>nomatch z) ⟨_,rfl,l,_,_,_,rfl,rfl,SqL.of C,bo,q (some e.n) s 0 0 H X bK bL (fun _ _=>rfl) (Qh _) M' (fun b o h _ _=>h)⟩
  have c:2≤N.length:=by have:¬ ((N.length:Int)=1):=fun z=>d (decide_eq_true (by rw[fF,z]));lia
  have fY:1≤n:=by
   cases n with
   | zero=>simp at cr;lia
   | succ m=>lia
  have wT:2 ^ n=2*2 ^ (n-1):=by obtain⟨m,rfl⟩:∃m,n=m+1:=⟨n-1,by lia⟩;rw[Qa6,Qah];lia
  have fQ:(lo N).length≤2 ^ (n-1)∧(lo N).length≤60:=by unfold lo mid;rw[QA];lia
  have rj:(up N).length≤2 ^ (n-1)∧(up N).length≤60:=by unfold up mid;rw[Q5];lia
  have wN:(lo N).length+(up N).length=N.length:=by rw[← Qi,XZ]
  have iw:∀x∈lo N,x∈Zv L:=fun x g=>aV x (Q2 g);have ix:∀x∈up N,x∈Zv L:=fun x g=>aV x (Qak g);refine⟨_,rfl,l,N,rfl,SqL.of C,by lia,fun t f r H2 ht hf gR pV ca lV b9 s2 Bi Bj=>?_⟩;rw[if_pos rfl]at ca;rw[OY]at lV;rw[OX]at b9;refine⟨t,_,rfl,SqT.of ca,rfl,_,_,rfl,_,_,rfl,rfl,?_⟩;have M2:=M.same s2;have bG:=s2 _ _ hm;have ue:r≠m:=(Zb hm gR).symm;have BC:r≠sd:=(Zb M.stays gR).symm;refine⟨_,rfl,m,dx,_,rfl,bG,Ow ..,_,rfl,m,rd,sd,L,s,nb,li,lo',W,f,lo N,rfl,M2,lV,(WU c).2,fQ.2,fY,fQ.1,iw,Sx u,fun k B=>dS k ⟨c,.inl B⟩,by lia,fun w1 s1 k1 q1 H3 i S1 P1 o1 l1 M3 b3=>?_⟩;have cG:=b3 _ _ b9 ue BC;obtain⟨BD,p6⟩:=M3.ob;refine⟨_,rfl,m,BD,_,rfl,p6,Ow ..,_,rfl,m,rd,sd,L,s1,nb,_,_,W,r,up N,rfl,M3,cG,(Wt c).2,rj.2,fY,rj.1,ix,Sw u,fun k B=>?_,by lia,fun w2 I k2 q2 H4 p S2 P2 o2 l2 M4 b4=>?_⟩
  ·rw[o1 k ((O0 u c B).2 n)];exact dS k ⟨c,.inr (.inl B)⟩
  have nP:¬ Xw n (lo N) (ZR N)∧¬ Xw n (up N) (ZR N):=⟨fun z=>(O1 u c z).1 rfl,fun z=>(O0 u c z).1 rfl⟩;have xj:XY (hdM L) I n (lo N):=S1.congr n _ (fun _ _=>rfl) (fun k B=>o2 k ((O1 u c B).2 n));have pQ:Z2 I (ZR N)=none:=by rw[o2 _ nP.2,o1 _ nP.1];exact dS _ ⟨c,.inr (.inr rfl)⟩
  have oth:∀j,¬ Xw (n+1) N j→Z2 I j=Z2 s j:=fun j hj=>by rw[o2 j (fun z=>hj ⟨c,.inr (.inl z)⟩),o1 j (fun z=>hj ⟨c,.inl z⟩)]
  have uf:∀b o,H b=some o→b≠m→b≠sd→H4 b=some o:=fun b o hb n1 n2=>b4 b o (b3 b o (s2 b o hb) n1 n2) n1 n2;have nQ:∀wn,Win (hdM L) N wn→(Win (hdM L) (lo N) none∨Win (hdM L) (up N) none)→Q (Y4 wn) H4:=fun wn hw cJ=>by
   refine q wn I (k1+k2) (q1+q2) H4 hw (fun _=>⟨xj,S2,fun a b x y wa wb _ _=>?_,fun _=>.inl pQ⟩) (.none c P1 P2 cJ) oth #[2] (M4.cast #[2] #[2]) uf;rcases cJ with z|z
   ·exact nomatch z.one wa
   ·exact nomatch z.one wb
  cases w1 with
  | none=>exact⟨_,rfl,rfl,_,rfl,YE rfl ⟨_,rfl,nQ w2 (by have:=Win.right i p;rwa [XZ]at this) (.inl i)⟩⟩
  | some a =>
  refine⟨_,rfl,rfl,_,rfl,Yn (fun z=>nomatch z) ?_⟩;cases w2 with
  | none=>exact⟨_,rfl,rfl,_,rfl,YE rfl ⟨_,rfl,nQ (some a) (by have:=Win.left i p;rwa [XZ]at this) (.inr p)⟩⟩
  | some b =>
  refine⟨_,rfl,rfl,_,rfl,Yn (fun z=>nomatch z) ?_⟩;obtain⟨J,p7,mI⟩:=TK (iw a i.1);obtain⟨O,p8,BE⟩:=TK (ix b p.1);subst mI;subst BE;have Y:=Vu M.nd p7;have Z:=Vu M.nd p8;cases g:J.ss[J.g]? with
  | none=>obtain⟨_,z,hz,_⟩:=i;rw[Y,g]at hz;cases hz
  | some x =>
  cases hy:O.ss[O.g]? with
  | none=>obtain⟨_,z,hz,_⟩:=p;rw[Z,hy]at hz;cases hz
  | some y =>
  rw[g]at Y;rw[hy]at Z;obtain⟨gW,gf⟩:=M4.ob;refine⟨_,rfl,m,gW,_,rfl,gf,KD ..,_,rfl,_,rfl,m,rd,sd,L,I,nb,_,_,W,J,O,x,y,0,rfl,M4,p7,p8,g,hy,Qw _,fun t5 wi D H5 hw ug nR M5 b5=>?_⟩;refine⟨t5,_,rfl,SqT.of nR,rfl,_,_,rfl,_,_,rfl,_,_,rfl,rfl,?_⟩;have gX:2≤sizeLine:=by decide
  refine⟨_,rfl,_,rfl,gX,fun F nT=>?_⟩;have s6:=Zh nT (.tup [.int D,.int ((lcp (cds x) (cds y):Nat):Int)]);have jL:(upd H5 F (.tup [.int D,.int ((lcp (cds x) (cds y):Nat):Int)])) F=some (.tup [.int D,.int ((lcp (cds x) (cds y):Nat):Int)]):=Zd;have M6:=M5.same s6;generalize upd H5 F (.tup [.int D,.int ((lcp (cds x) (cds y):Nat):Int)])=H6 at s6 jL M6 ⊢;obtain⟨nU,lZ⟩:=M6.ob;have xk:H6 l=some (.lst (N.map V.int)):=s6 _ _ (b5 _ _ (uf _ _ C xh lX) xh);refine⟨_,rfl,m,U,nU,_,_,rfl,lZ,T.cl_Merge,T.na_Merge_stays,UP ..,_,rfl,l,_,_,_,rfl,rfl,SqL.of xk,KG hN,_,rfl,_,rfl,l,_,_,_,rfl,rfl,SqL.of xk,KH hN,gX,fun t7 BF=>?_⟩;have s7:=Zh BF (.tup [.int (N.headD 0),.int (N.getLastD 0)]);have rl:(upd H6 t7 (.tup [.int (N.headD 0),.int (N.getLastD 0)])) t7=some (.tup ([.inl (ZR N).1,.inl (ZR N).2].map kV)):=Zd;have M7:=M6.same s7;generalize upd H6 t7 (.tup [.int (N.headD 0),.int (N.getLastD 0)])=H7 at s7 rl M7 ⊢;have dO:(kvS I).length<sizeLine:=by unfold kvS;rw[Qa];exact Zy #[2]
  refine⟨sd,_,rfl,YN.t (k:=[.inl (ZR N).1,.inl (ZR N).2]) M7.stays rl dO,?_⟩;rw[show V.ref F=stV (some (F,D,((lcp (cds x) (cds y):Nat):Int))) from rfl,Sy];have bL:=ZnF I (ZR N) (some (F,D,((lcp (cds x) (cds y):Nat):Int)));have l1':=(WU c).2;have M8:=M7.put (k:=ZR N) (v:=some (F,D,((lcp (cds x) (cds y):Nat):Int))) (fun t ht=>by injection ht with ht;rw[← ht];exact s7 _ _ jL) #[2] (M.kb.key u c aV);have aW:J.n≠O.n:=fun z=>by have:=ZO u i.1 p.1;lia
  have BG:∀b o,H b=some o→b≠m→b≠sd→(upd H7 sd (.dT (kvS (Yt I (ZR N) (some (F,D,((lcp (cds x) (cds y):Nat):Int))))))) b=some o:=fun b o hb n1 n2=>by rw[Zc n2];exact s7 _ _ (s6 _ _ (b5 _ _ (uf _ _ hb n1 n2) n1))
  have X:Win (hdM L) N (some wi):=by
   rcases hw with⟨S,rfl,_⟩|⟨S,rfl,_⟩
   ·have:=Win.both i p Y Z S;rwa [XZ]at this
   ·have:=Win.both' i p Y Z ((Btr.total aW).resolve_left S);rwa [XZ]at this
  have BH:D=if ZT (cds x) (cds y)<0∨(ZT (cds x) (cds y)=0∧J.n<O.n) then O.n else J.n:=by
   rcases hw with⟨S,_,rfl⟩|⟨S,_,rfl⟩
   ·exact(if_pos (show ZT (cds x) (cds y)<0∨(ZT (cds x) (cds y)=0∧J.n<O.n) from S)).symm
   ·exact(if_neg (show ¬ (ZT (cds x) (cds y)<0∨(ZT (cds x) (cds y)=0∧J.n<O.n)) from S)).symm
  refine⟨_,rfl,q (some wi) _ (k1+k2+1) (q1+q2+(lcp (cds x) (cds y):Nat)+1) _ X (fun _=>⟨?_,?_,?_,fun cJ=>?_⟩) (.both c P1 P2 i p Y Z) (fun j hj=>?_) #[2] (M8.cast #[2] #[2]) BG⟩
  ·exact xj.congr n _ (fun _ _=>rfl) (fun k B=>by rw[WT,if_neg (O1 u c B).1])
  ·exact S2.congr n _ (fun _ _=>rfl) (fun k B=>by rw[WT,if_neg (O0 u c B).1])
  ·intro a' b' x' y' wa wb kJ kK;have e1:=Qr (wa.one i);have e2:=Qr (wb.one p);subst e1;subst e2;have e3:=Qr (kJ.symm.trans Y);have e4:=Qr (kK.symm.trans Z);subst e3;subst e4;exact⟨F,by rw[WT,if_pos rfl,BH]⟩
  ·rcases cJ with z|z
   ·exact nomatch z.one i
   ·exact nomatch z.one p
  ·rw[WT,if_neg (fun z=>hj ⟨c,.inr (.inr z)⟩)];exact oth j hj
theorem X8.mono{C:Addr}{H H':Hp}{e:Zx}(h:X8 C H e)(k:∀b o,H b=some o→b=e.p∨b=e.k∨b=e.f→H' b=some o):X8 C H' e:=by obtain⟨a,c⟩:=h.at'.ob;exact⟨⟨⟨a,k _ _ c #[8]⟩,k _ _ h.at'.ks (.inr #[8]),k _ _ h.at'.fs (.inr (.inr rfl))⟩,h.le,h.len,h.srt,h.str⟩
theorem Kz(L:List Zx):(kvM L).map (fun a=>kV a.1)=(Zv L).map V.int:=by unfold kvM Zv;rw[Qg,Qg];rfl
theorem Zm5{n:Nat}{N:List Int}{k:Int×Int}(_:Xw n N k):Z2 [] k=none:=rfl
def TD(c d:Addr):Sp:=fun vs H Q _=>∃ (m rd sd:Addr) (L:List Zx) (s:StL) (nb li lo:Int) (g:V),vs=[.ref m]∧ZQ c d H m rd sd L s nb li lo g ∧
 ∀ (e:Addr) (f:StL) (w:Option Int) (k q:Int) (a:Hp),H e=none→Win (hdM L) (Zv L) w→XY (hdM L) f 8 (Zv L)→YW (hdM L) 8 (Zv L) k q→ZQ c d a m rd e L f nb (li+k) (lo+q) (Y4 w)→(∀b o,H b=some o→b≠m→a b=some o)→Q .non a
theorem Zjv(T:Z9 K mg ab U)(bb:Mf P w K mg base 12 U "play" ["self", "numbers"] (KC K ab U 8)):Mf P w K mg base 13 U "play_all" ["self"] (TD ab U):=by
 refine T.t_Merge_play_all.mf Zfv (fun vs H Q E h=>?_) (fun ai f A outer s H vs Q E hr h=>?_)
 ·obtain⟨m,j,sd,L,s,nb,p,lo,t,rfl,_⟩:=h;rfl
 obtain⟨m,j,sd,L,s,nb,p,i,t,rfl,M,q⟩:=h;refine⟨_,#[Zf,#[YD,‹0›,(@MR _ _)],#[Zi,#[YD,‹0›,#[Xo,#[Zl,We,#[Zk,Rm,#[5],T.b.n_len,Qz,#[Za,#[ZK,‹0›],#[Ze]]],#[Zj],(Zs _)],#[X1,bb,T.cl_Merge,hr,‹0›,#[Za,#[Ya,Mx,#[5],T.b.n_list,boot_list,#[Za,#[ZK,‹0›],#[Ze]]],#[Ze]]],#[ZZ]]]]],?_⟩;refine fun g u=>?_;obtain⟨y,J⟩:=M.ob;have z:=Zh u (.dT []);have N:(upd H g (.dT [])) g=some (.dT (kvS [])):=Zd;have M1:=M.same z;have O:=z _ _ J;have md:m≠g:=Zb J u;have xl:j≠g:=Zb M.rows u;generalize upd H g (.dT [])=F at z N M1 O ⊢;refine⟨_,rfl,m,U,y,_,rfl,O,T.cl_Merge,T.na_Merge_stays,XH ..,?_⟩;rw[KI];obtain⟨n1,n2,n3⟩:=M.ne_m;have M2:ZQ ab U (upd F m (.ins U y (mgF j nb p i g t))) m j g L [] nb p i t:=by refine⟨⟨y,Zd⟩,by rw[Zc n1.symm];exact M1.rows,by rw[Zc md.symm];exact N,(fun e B=>by cases B),fun e B=>?_,M.up,M.pd,M.few,by decide,⟨(fun x G=>by cases G),M.kb.2⟩⟩;obtain⟨a,b,c⟩:=M1.ne_p B;exact(M1.each e B).keep (Zc a.symm) (Zc b.symm) (Zc c.symm)
 have k2:∀b o,H b=some o→b≠m→(upd F m (.ins U y (mgF j nb p i g t))) b=some o:=fun b o v n=>by rw[Zc n];exact z b o v
 generalize upd F m (.ins U y (mgF j nb p i g t))=R at M2 k2 ⊢;obtain⟨C,D⟩:=M2.ob;have ao:(((kvM L).length:Nat):Int)=(L.length:Int):=by unfold kvM;rw[Qa]
 have cF:(Zv L).length=L.length:=by unfold Zv;rw[Qa]
 have bW:=M.few;refine⟨_,rfl,m,U,C,_,_,rfl,D,T.cl_Merge,T.na_Merge_rows,XX ..,j,_,rfl,M2.rows,_,_,rfl,rfl,_,rfl,Y3 (fun d=>?_) (fun d=>?_)⟩
 ·have fG:0<L.length:=by have:(0:Int)<(((kvM L).length:Nat):Int):=of_decide_eq_true d;lia
  refine⟨_,rfl,m,C,_,rfl,D,Ow ..,_,rfl,m,U,C,_,_,rfl,D,T.cl_Merge,T.na_Merge_rows,XX ..,j,_,rfl,M2.rows,fun l hl=>?_⟩;rw[Kz];have I:=Zh hl (.lst ((Zv L).map V.int));have X:(upd R l (.lst ((Zv L).map V.int))) l=some (.lst ((Zv L).map V.int)):=Zd;have Y:=M2.same I;generalize upd R l (.lst ((Zv L).map V.int))=H3 at I X Y ⊢;refine⟨m,j,g,L,[],nb,p,i,t,l,Zv L,rfl,Y,X,by lia,by lia,by decide,QB (by lia:(Zv L).length≤60) #[6],fun x G=>G,M.up,fun k hk=>Zm5 hk,by show 0+_≤_;lia,fun w1 s' k q' H4 W S Pl _ _ Z b4=>?_⟩;obtain⟨gW,gf⟩:=Z.ob;refine⟨_,rfl,m,U,gW,_,rfl,gf,T.cl_Merge,T.na_Merge_best,XH ..,?_⟩;rw[TH];exact q g s' w1 k q' _ u W S Pl Z.obj (fun b o v n=>by rw[Zc n];exact b4 b o (I b o (k2 b o v n)) n (Zb v u))
 ·have nV:L=[]:=by
   cases L with
   | nil=>rfl
   | cons e r=>exact absurd (decide_eq_true (show (0:Int)<(((kvM (e::r)).length:Nat):Int) by rw[ao];simp only[List.length_cons];lia)) d
  subst nV;refine⟨_,rfl,m,U,C,_,rfl,D,T.cl_Merge,T.na_Merge_best,XH ..,?_⟩;rw[TH];exact q g [] none 0 0 _ u (Win.nil _) (fun h2=>absurd h2 #[6]) (.few #[6]) (M2.obj.cast #[2] #[2]) (fun b o v n=>by rw[Zc n];exact k2 b o v n)
def Se(L:List Zx)(a:List (Addr×List Str)):Prop:=Zv L=XN 0 a.length∧L.map (fun e=>(e.ss,e.g))=a.map fun x=>(x.2,0)
def Ky(g d:Addr):Sp:=fun vs H Q _=>∃ (m dx r:Addr) (a:List (Addr×List Str)),vs=[.ref m,.ref r]∧H m=some (.ins d dx [])∧Vv H r a∧(∀x∈a,sortedS x.2=true) ∧
 ∀ (e f:Addr) (L:List Zx) (s:StL) (w:Option Int) (k q:Int) (c:Hp),ZQ g d c m e f L s (a.length:Int) k q (Y4 w)→Se L a→Win (hdM L) (Zv L) w→XY (hdM L) s 8 (Zv L)→YW (hdM L) 8 (Zv L) k q→(∀b,Fp m e f L b→b=m∨H b=none)→(∀b o,H b=some o→b≠m→c b=some o)→Q .non c
theorem Sd(rd:Addr)(nb li lo:Int)(sd:Addr)(a:V):(mgF rd nb li lo sd a).lookup ("play_all" : Str)=none:=Yh _ _ _ _ _ _ #[1] #[1] #[1] #[1] #[1] #[1]
theorem Ov{ss:List Str}(h:sortedS ss=true):TW ss .non:=by refine .inl ⟨rfl,fun i x y a b=>?_⟩;have:=Lm h i y x b a;have:=V7 (cds y) (cds x);lia
theorem ZhO(T:Z9 K mg ab U)(au:Df P w K mg base 5 "refuse_break" ["number", "keys"] (TM K))(aR:Cf P w K mg base 4 ab "Row" ["self", "keys"] (Sz ab))(aj:Mf P w K mg base 13 U "play_all" ["self"] (TD ab U)):Cf P w K mg base 14 U "Merge" ["self", "rows"] (Ky ab U):=by
 refine T.t_Merge_init.cf Pr (fun vs H Q E h=>?_) (fun ai f A outer s H vs Q E hr h=>?_)
 ·obtain⟨m,g,r,l,rfl,_⟩:=h;rfl
 obtain⟨m,g,r,l,rfl,Z,N,eC,q⟩:=h;refine⟨_,#[Zf,#[YD,‹0›,(@Uv _ _)],#[Zf,#[X4,PassesOwn.never,#[iE,K,T.b.n_enumerate,#[Za,‹1›,#[Ze]]],#[gT,K,2,#[Zu,#[ZE,2,Pr.nd,#[3]],#[Zu,#[ZE,3,Pr.nd,#[3]],(@Yy _)]]],#[Zf,#[YL,#[Zz,au,hr,#[Za,‹2›,#[Za,‹3›,#[Ze]]],#[5]]],#[Zi,#[Z0,#[VI,aR,hr,#[Za,‹3›,#[Ze]]],#[YI,#[ZK,‹0›],‹2›,(Ym hr)]]]]],#[Zf,#[YD,‹0›,#[Zk,(YB K),#[5],T.b.n_len,Qz,#[Za,‹1›,#[Ze]]]],#[Zf,#[YD,‹0›,#[Zj]],#[Zf,#[YD,‹0›,#[Zj]],#[Zf,#[YD,‹0›,(@MR _ _)],#[Zf,#[YD,‹0›,#[ZZ]],#[Zi,#[YL,#[YT,aj,T.cl_Merge,hr,‹0›]]]]]]]]]],?_⟩;refine fun c iJ=>?_;have uh:m≠c:=Zb Z iJ;have s1:=Zh iJ (.dK []);have cA:(upd H c (.dK [])) c=some (.dK (kvM [])):=Zd;have cL:=s1 _ _ Z;generalize upd H c (.dK [])=H1 at s1 cA cL ⊢;refine⟨_,rfl,m,U,g,_,rfl,cL,T.cl_Merge,T.na_Merge_rows,(by show 0<1000;decide),?_⟩;have nW:r≠m:=fun z=>by have:=N.at';rw[z,Z]at this;cases this
 have k2:∀b o,H b=some o→b≠m→(upd H1 m (.ins U g (ZA "rows" (.ref c) []))) b=some o:=fun b o d n=>by rw[Zc n];exact s1 b o d
 have bG:(upd H1 m (.ins U g (ZA "rows" (.ref c) []))) m=some (.ins U g (ZA "rows" (.ref c) [])):=Zd;have b9:(upd H1 m (.ins U g (ZA "rows" (.ref c) []))) c=some (.dK (kvM [])):=by rw[Zc uh.symm];exact cA
 generalize upd H1 m (.ins U g (ZA "rows" (.ref c) []))=H2 at k2 bG b9 ⊢;have bW:=N.few;have BI:(ZA "rows" (.ref c) []).lookup ("rows" : Str)=some (V.ref c):=by rw[Zn,if_pos rfl]
 refine⟨_,rfl,r,_,rfl,SqL.of (k2 _ _ N.at' nW),?_⟩;refine Rv (K:=K) (a:=r) (xs:=l.map fun x=>V.ref x.1) (fun i σ t=>∃ (L:List Zx) (v2 v3:Option V),σ=[some (.ref m),some (.ref r),v2,v3]∧t m=some (.ins U g (ZA "rows" (.ref c) []))∧t c=some (.dK (kvM L))∧(∀e∈L,X8 ab t e)∧Se L (l.take i)∧(L.map (·.p)).Nodup∧(∀e∈L,H e.p=none∧H e.k=none∧H e.f=none)∧(∀b o,H b=some o→b≠m→t b=some o)) ⟨[],_,_,rfl,bG,b9,(fun e h=>by cases h),⟨rfl,rfl⟩,List.nodup_nil,(fun e h=>by cases h),k2⟩ (fun i σ t hq=>by obtain⟨_,_,_,_,_,_,_,_,_,_,k5⟩:=hq;exact SqL.of (k5 _ _ N.at' nW)) ?_ ?_
 ·rintro i y σ t p hy ⟨L,v2,v3,rfl,I,F,C,⟨n1,n2⟩,pd,dr,k5⟩ hp;rw[Qm]at hy;cases hz:l[i]? with
  | none=>rw[hz]at hy;cases hy
  | some x =>
  rw[hz]at hy;cases hy;have bc:i<l.length:=(Qe.mp hz).1;have uk:=Qo hz;obtain⟨lx,dJ,gz⟩:=N.lst x uk;have BJ:x.1≠m:=fun z=>by rw[z,Z]at lx;cases lx
  have pX:L.length=i:=by have:=congrArg List.length n1;unfold Zv at this;rw[Qa,Tj,QA]at this;lia
  have ah:∀e∈L,e.n≠(i:Int):=fun e he z=>by
   have h1:e.n∈XN 0 (l.take i).length:=by rw[← n1];exact Qd (f:=fun e:Zx=>e.n) he
   unfold XN at h1;obtain⟨j,hj,ej⟩:=Ql.mp h1;have:=Q9.mp hj;rw[QA]at this;lia
  have sp:=Zh hp (.tup [.int (i:Int),.ref x.1]);have nN:(upd t p (.tup [.int (i:Int),.ref x.1])) p=some (.tup [.int (i:Int),.ref x.1]):=Zd;generalize upd t p (.tup [.int (i:Int),.ref x.1])=H6 at sp nN ⊢;refine⟨p,_,rfl,SqT.of nN,rfl,_,_,rfl,_,_,rfl,rfl,?_⟩;have xm:H6 x.1=some (.lst (x.2.map V.str)):=sp _ _ (k5 _ _ lx BJ);refine⟨_,rfl,_,rfl,(i:Int),x.1,x.2,rfl,SqL.of xm,by lia,fun s hs=>(gz s hs).1,Ov (eC x uk),fun H7 s7=>?_⟩;have xn:=sp.trans s7;refine⟨_,rfl,fun u G hu gh xp=>?_⟩;have O:t u=none:=xn.free hu;have xq:(upd (upd H7 G (.own u)) u (.ins ab G [])) x.1=some (.lst (x.2.map V.str)):=by have:=s7 _ _ xm;rw[Zc (Zb this hu),Zc (Zb this gh)];exact this
  have s8:∀b o,t b=some o→(upd (upd H7 G (.own u)) u (.ins ab G [])) b=some o:=fun b o d=>by have:=xn _ _ d;rw[Zc (Zb this hu),Zc (Zb this gh)];exact this
  have kL:(upd (upd H7 G (.own u)) u (.ins ab G [])) u=some (.ins ab G []):=Zd;generalize upd (upd H7 G (.own u)) u (.ins ab G [])=X at xq s8 kL ⊢;refine⟨u,G,x.1,x.2,rfl,kL,xq,dJ,fun s hs=>(gz s hs).1,fun k f H9 hk D pR R k9=>⟨rfl,?_⟩⟩;have s9:∀b o,t b=some o→H9 b=some o:=fun b o d=>k9 b o (s8 b o d) (Zb d O);have Y:∀b,X b=none→t b=none:=fun b d=>by
   cases e:t b with
   | none=>rfl
   | some o=>rw[s8 b o e]at d;cases d
  have gY:∀b,b≠m→t b=none→H b=none:=fun b nb d=>by
   cases e:H b with
   | none=>rfl
   | some o=>rw[k5 b o e nb]at d;cases d
  have num:u≠m:=fun z=>by rw[z,I]at O;cases O
  have BK:k≠m:=fun z=>by have:=Y k hk;rw[z,I]at this;cases this
  have ue:f≠m:=fun z=>by have:=Y f D;rw[z,I]at this;cases this
  have kN:c≠u∧c≠k∧c≠f:=⟨Zb F O,Zb F (Y k hk),Zb F (Y f D)⟩;have hsz:(kvM L).length<sizeLine:=by unfold kvM;rw[Qa];exact Zy #[2]
  have fY:Z8 (kvM L) (.inl (i:Int))=none:=by
   cases hv:Z8 (kvM L) (.inl (i:Int)) with
   | none=>rfl
   | some v=>obtain⟨e,he,z⟩:=Ql.mp (Wa hv);injection z with z _;exact absurd (Sum.inl.inj z) (ah e he)
  refine⟨_,rfl,m,U,g,_,_,rfl,s9 _ _ I,T.cl_Merge,T.na_Merge_rows,BI,_,rfl,c,_,rfl,YN.k (k:=.inl (i:Int)) (s9 _ _ F) hsz,?_⟩;rw[WA _ fY,show kvM L++[((.inl (i:Int):Key),V.ref u)]=kvM (L++[⟨(i:Int),u,k,f,x.2,0⟩]) by unfold kvM;rw[Qf];rfl];refine⟨L++[⟨(i:Int),u,k,f,x.2,0⟩],_,_,rfl,by rw[Zc uh];exact s9 _ _ I,Zd,fun e he=>?_,⟨?_,?_⟩,?_,fun e he=>?_,fun b o d n=>?_⟩
  ·rcases Qn.mp he with he|he
   ·have J:=C e he;obtain⟨de,bT⟩:=J.at'.ob;refine J.mono fun b o d aM=>?_;have nb:b≠c:=fun z=>by
     rw[z,F]at d;injection d with d;subst d;rcases aM with z2|z2|z2
     ·rw[← z2,z,F]at bT;cases bT
     ·have:=J.at'.ks;rw[← z2,z,F]at this;cases this
     ·have:=J.at'.fs;rw[← z2,z,F]at this;cases this
    rw[Zc nb];exact s9 b o d
   ·rw[Qk.mp he];refine X8.keep (H:=H9) ⟨R,Qw _,dJ,eC x uk,gz⟩ (Zc kN.1.symm) (Zc kN.2.1.symm) (Zc kN.2.2.symm)
  ·unfold Zv at n1 ⊢;rw[Qf,n1,QA,QA,QaB #[2],QaB #[2]];unfold XN;rw[QaU,Qf];simp
  ·rw[Qf,n2,QH,hz,Qf];rfl
  ·rw[Qf];refine QaJ.mpr ⟨pd,by simp,fun a ha b d=>?_⟩;obtain⟨e,he,rfl⟩:=Ql.mp ha;have:b=u:=by simpa using d
   rw[this];obtain⟨de,bT⟩:=(C e he).at'.ob;exact Zb bT O
  ·rcases Qn.mp he with he|he
   ·exact dr e he
   ·rw[Qk.mp he];exact⟨gY u num O,gY k BK (Y k hk),gY f ue (Y f D)⟩
  ·rw[Zc (Zb d iJ)];exact s9 b o (k5 b o d n)
 ·rintro σ t ⟨L,v2,v3,rfl,I,F,C,bY,pd,dr,k5⟩;rw[Qa,Qv (Qh _)]at bY;have p1:=V5 "rows" (V.ref c) [];have p2:=V5 "next_number" (V.int (l.length:Int)) (ZA "rows" (.ref c) []);have p3:=V5 "likened" (V.int 0) (ZA "next_number" (.int (l.length:Int)) (ZA "rows" (.ref c) []));have p4:=V5 "looked" (V.int 0) (ZA "likened" (.int 0) (ZA "next_number" (.int (l.length:Int)) (ZA "rows" (.ref c) [])));have p0:([]:List (Str×V)).length=0:=rfl;refine⟨_,rfl,r,_,rfl,.inl (SqL.of (k5 _ _ N.at' nW)),_,rfl,m,U,g,_,rfl,I,T.cl_Merge,T.na_Merge_next_number,by lia,?_⟩;rw[Qa];refine⟨_,rfl,m,U,g,_,rfl,Zd,T.cl_Merge,T.na_Merge_likened,by lia,?_⟩;refine⟨_,rfl,m,U,g,_,rfl,Zd,T.cl_Merge,T.na_Merge_looked,by lia,?_⟩;have k8:∀b,b≠m→(upd (upd (upd t m (.ins U g (ZA "next_number" (.int (l.length:Int)) (ZA "rows" (.ref c) [])))) m (.ins U g (ZA "likened" (.int 0) (ZA "next_number" (.int (l.length:Int)) (ZA "rows" (.ref c) []))))) m (.ins U g (ZA "looked" (.int 0) (ZA "likened" (.int 0) (ZA "next_number" (.int (l.length:Int)) (ZA "rows" (.ref c) [])))))) b=t b:=fun b n=>by rw[Zc n,Zc n,Zc n]
  have gZ:(upd (upd (upd t m (.ins U g (ZA "next_number" (.int (l.length:Int)) (ZA "rows" (.ref c) [])))) m (.ins U g (ZA "likened" (.int 0) (ZA "next_number" (.int (l.length:Int)) (ZA "rows" (.ref c) []))))) m (.ins U g (ZA "looked" (.int 0) (ZA "likened" (.int 0) (ZA "next_number" (.int (l.length:Int)) (ZA "rows" (.ref c) [])))))) m=some (.ins U g (ZA "looked" (.int 0) (ZA "likened" (.int 0) (ZA "next_number" (.int (l.length:Int)) (ZA "rows" (.ref c) []))))):=Zd;generalize (upd (upd (upd t m (.ins U g (ZA "next_number" (.int (l.length:Int)) (ZA "rows" (.ref c) [])))) m (.ins U g (ZA "likened" (.int 0) (ZA "next_number" (.int (l.length:Int)) (ZA "rows" (.ref c) []))))) m (.ins U g (ZA "looked" (.int 0) (ZA "likened" (.int 0) (ZA "next_number" (.int (l.length:Int)) (ZA "rows" (.ref c) []))))))=X at k8 gZ ⊢;refine fun B jb=>?_;have md:m≠B:=Zb gZ jb;have p5:=V5 "stays" (V.ref B) (ZA "looked" (.int 0) (ZA "likened" (.int 0) (ZA "next_number" (.int (l.length:Int)) (ZA "rows" (.ref c) []))));refine⟨_,rfl,m,U,g,_,rfl,by rw[Zc md];exact gZ,T.cl_Merge,T.na_Merge_stays,by lia,?_⟩;refine⟨_,rfl,m,U,g,_,rfl,Zd,T.cl_Merge,T.na_Merge_best,by lia,?_⟩;have jM:t B=none:=by rw[← k8 B md.symm];exact jb
  have jc:(upd (upd (upd X B (.dT [])) m (.ins U g (ZA "stays" (.ref B) (ZA "looked" (.int 0) (ZA "likened" (.int 0) (ZA "next_number" (.int (l.length:Int)) (ZA "rows" (.ref c) []))))))) m (.ins U g (ZA "best" .non (ZA "stays" (.ref B) (ZA "looked" (.int 0) (ZA "likened" (.int 0) (ZA "next_number" (.int (l.length:Int)) (ZA "rows" (.ref c) [])))))))) m=some (.ins U g (mgF c (l.length:Int) 0 0 B .non)):=by rw[V2];exact Zd
  have xr:(upd (upd (upd X B (.dT [])) m (.ins U g (ZA "stays" (.ref B) (ZA "looked" (.int 0) (ZA "likened" (.int 0) (ZA "next_number" (.int (l.length:Int)) (ZA "rows" (.ref c) []))))))) m (.ins U g (ZA "best" .non (ZA "stays" (.ref B) (ZA "looked" (.int 0) (ZA "likened" (.int 0) (ZA "next_number" (.int (l.length:Int)) (ZA "rows" (.ref c) [])))))))) B=some (.dT (kvS [])):=by rw[Zc md.symm,Zc md.symm];exact Zd
  have k9:∀b o,t b=some o→b≠m→(upd (upd (upd X B (.dT [])) m (.ins U g (ZA "stays" (.ref B) (ZA "looked" (.int 0) (ZA "likened" (.int 0) (ZA "next_number" (.int (l.length:Int)) (ZA "rows" (.ref c) []))))))) m (.ins U g (ZA "best" .non (ZA "stays" (.ref B) (ZA "looked" (.int 0) (ZA "likened" (.int 0) (ZA "next_number" (.int (l.length:Int)) (ZA "rows" (.ref c) [])))))))) b=some o:=fun b o d n=>by rw[Zc n,Zc n,Zc (Zb d jM),k8 b n];exact d
  generalize (upd (upd (upd X B (.dT [])) m (.ins U g (ZA "stays" (.ref B) (ZA "looked" (.int 0) (ZA "likened" (.int 0) (ZA "next_number" (.int (l.length:Int)) (ZA "rows" (.ref c) []))))))) m (.ins U g (ZA "best" .non (ZA "stays" (.ref B) (ZA "looked" (.int 0) (ZA "likened" (.int 0) (ZA "next_number" (.int (l.length:Int)) (ZA "rows" (.ref c) []))))))))=H9 at jc xr k9 ⊢;have pX:L.length=l.length:=by have:=congrArg List.length bY.1;unfold Zv at this;rw[Qa,Tj]at this;exact this
  have M9:ZQ ab U H9 m c B L [] (l.length:Int) 0 0 .non:=by
   refine⟨⟨g,jc⟩,k9 _ _ F uh.symm,xr,(fun e he=>by cases he),fun e he=>?_,by rw[bY.1];exact KO _,pd,by lia,by decide,⟨(fun x hx=>by cases hx),Kb.of #[2] fun n hn=>by rw[bY.1]at hn;unfold XN at hn;obtain⟨j,hj,ej⟩:=Ql.mp hn;have:=Q9.mp hj;lia⟩⟩;have J:=C e he;obtain⟨de,bT⟩:=J.at'.ob;refine J.mono fun b o d aM=>k9 b o d fun z=>?_;have D:=dr e he;have M:=Z;rw[← z]at M;rcases aM with z2|z2|z2
   ·rw[z2,D.1]at M;cases M
   ·rw[z2,D.2.1]at M;cases M
   ·rw[z2,D.2.2]at M;cases M
  refine⟨_,rfl,m,g,_,rfl,jc,Sd ..,m,c,B,L,[],_,0,0,.non,rfl,M9,fun az s' w1 k q' bg dL W S Pl g8 BL=>?_⟩;have gY:∀b,b≠m→H9 b=none→H b=none:=fun b nb d=>by
   cases e:H b with
   | none=>rfl
   | some o=>rw[k9 b o (k5 b o e nb) nb]at d;cases d
  refine q c az L s' w1 k q' bg (g8.cast #[2] #[2]) bY W S Pl (fun b d=>?_) (fun b o d n=>BL b o (k9 b o (k5 b o d n) n) n);rcases d with rfl|rfl|rfl|⟨e,he,d⟩
  ·exact .inl rfl
  ·exact .inr iJ
  ·exact .inr (gY _ (fun z=>by rw[z,jc]at dL;cases dL) dL)
  ·have D:=dr e he;rcases d with rfl|rfl|rfl
   ·exact .inr D.1
   ·exact .inr D.2.1
   ·exact .inr D.2.2
theorem Zrk{c:Bool}{e:(Bool→Hp→Prop)→Prop}{T:Bool→Hp→Prop}{b:Hp}(h1:c=true→∀d:Bool→Hp→Prop,(∀a,ZG b a→d false a)→e d)(h2:∀a,ZG b a→T false a):if c=true then e T else T false b:=by
 cases c with
 | true=>rw[if_pos rfl];exact h1 rfl T h2
 | false=>rw[if_neg #[6]];exact h2 b (ZG.refl _)
def Kx(a b:Addr):Sp:=fun vs H Q _=>∃ (m rd sd:Addr) (L:List Zx) (s:StL) (nb li lo:Int) (c:V),vs=[.ref m]∧ZQ a b H m rd sd L s nb li lo c∧Q (.int li) H
def Kw(a b:Addr):Sp:=fun vs H Q _=>∃ (m rd sd:Addr) (L:List Zx) (s:StL) (nb li lo:Int) (c:V),vs=[.ref m]∧ZQ a b H m rd sd L s nb li lo c∧Q (.int lo) H
theorem Zjg(T:Z9 K mg ab U):Mf P w K mg base 1 U "likenings" ["self"] (Kx ab U):=by
 refine T.t_Merge_likenings.mf Zff (fun a H Q E h=>?_) (fun ai f A outer s H a Q E hr h=>?_)
 ·obtain⟨m,b,c,L,s,nb,d,lo,e,rfl,_⟩:=h;rfl
 obtain⟨m,b,c,L,s,nb,d,lo,e,rfl,M,q⟩:=h;refine⟨_,#[Zi,#[Zp,#[ZK,‹0›]]],?_⟩;obtain⟨g,i⟩:=M.ob;exact⟨_,rfl,m,U,g,_,_,rfl,i,T.cl_Merge,T.na_Merge_likened,Sf ..,q⟩
theorem ZnN(T:Z9 K mg ab U):Mf P w K mg base 1 U "looks" ["self"] (Kw ab U):=by
 refine T.t_Merge_looks.mf Zg6 (fun a H Q E h=>?_) (fun ai f A outer s H a Q E hr h=>?_)
 ·obtain⟨m,b,c,L,s,nb,d,lo,e,rfl,_⟩:=h;rfl
 obtain⟨m,b,c,L,s,nb,d,lo,e,rfl,M,q⟩:=h;refine⟨_,#[Zi,#[Zp,#[ZK,‹0›]]],?_⟩;obtain⟨g,i⟩:=M.ob;exact⟨_,rfl,m,U,g,_,_,rfl,i,T.cl_Merge,T.na_Merge_looked,Oz ..,q⟩
def Ou(a b:Addr):Sp:=fun vs H Q _=>∃ (m rd sd:Addr) (L:List Zx) (s:StL) (nb li lo:Int) (w:Option Int),vs=[.ref m]∧ZQ a b H m rd sd L s nb li lo (Y4 w)∧Win (hdM L) (Zv L) w∧∀ (x:V) (H':Hp),Vw (L.map toL) H' x→ZG H H'→Q x H'
theorem Zmj(T:Z9 K mg ab U)(r:Mf P w K mg base 2 ab "head" ["self"] (Vx ab)):Mf P w K mg base 3 U "coming" ["self"] (Ou ab U):=by
 refine T.t_Merge_coming.mf LR (fun u H Q E h=>?_) (fun ai f A outer s H u Q E i h=>?_)
 ·obtain⟨m,j,v,L,s,nb,y,lo,w,rfl,_⟩:=h;rfl
 obtain⟨m,j,v,L,s,nb,y,lo,w,rfl,M,W,q⟩:=h;refine⟨_,#[Zf,#[ZW,#[Zl,XR,#[ZK,‹0›],#[ZZ],(Zs _)],#[Zi,#[Zp,#[ZZ]]],#[ZH]],#[Zf,#[ZD,1,LR.nd,#[3],#[Zo,(ixG i),#[ZK,‹0›],#[ZK,‹0›]]],#[Zi,#[Zp,#[YV,#[Za,#[ZK,‹0›],#[Za,#[ZK,‹1›],#[Za,#[YT,r,T.cl_Row,i,‹1›],#[Ze]]]]]]]]],?_⟩;obtain⟨b,c⟩:=M.ob;refine⟨_,rfl,m,U,b,_,_,rfl,c,T.cl_Merge,T.na_Merge_best,UO ..,rfl,_,rfl,?_⟩;have l:Win (hdL (L.map toL)) ((L.map toL).map (·.1)) w:=by rw[Wq];exact W
 cases w with
 | none=>exact YE rfl (q _ H (.inl ⟨rfl,l⟩) (ZG.refl H))
 | some a =>
  obtain⟨e,d,rfl⟩:=TK W.1;have R:=M.each e d;obtain⟨n,o⟩:=R.at'.ob;have B:=Vu M.nd d;cases g:e.ss[e.g]? with
  | none=>obtain⟨_,z,p,_⟩:=W;rw[B,g]at p;cases p
  | some x =>
  refine Yn (fun z=>nomatch z) ?_;refine⟨_,rfl,m,U,b,_,_,rfl,c,T.cl_Merge,T.na_Merge_rows,XX ..,_,rfl,m,U,b,_,_,rfl,c,T.cl_Merge,T.na_Merge_best,UO ..,j,_,rfl,ZP.k' (k:=.inl e.n) M.rows (V3 M.nd d),?_⟩;refine⟨_,rfl,m,U,b,_,_,rfl,c,T.cl_Merge,T.na_Merge_best,UO ..,_,rfl,e.p,ab,n,_,_,rfl,o,T.cl_Row,T.na_Row_gone,UV ..,_,rfl,e.p,n,_,rfl,o,Vt ..,e.p,e.k,e.f,e.ss,e.g,rfl,R.at',(by show 3≤sizeLine;decide),fun t C=>?_⟩;rw[TF g];exact q _ _ (.inr ⟨t,toL e,x,rfl,Qd d,g,Zd,l⟩) (Zh C _)
def Kv(a b:Addr):Sp:=fun vs H Q _=>∃ (m rd sd:Addr) (L:List Zx) (s:StL) (nb li lo:Int) (c:V),vs=[.ref m]∧ZQ a b H m rd sd L s nb li lo c∧∀H':Hp,ZG H H'→Q (.int (YY (L.map toL)).sum) H'
theorem Zi1(k f:Addr)(g:Int):(Y0 k f g).lookup ("to_go" : Str)=none:=UU _ _ _ #[1] #[1] #[1]
theorem Znf(T:Z9 K mg ab U)(J:Mf P w K mg base 1 ab "to_go" ["self"] (SA ab)):Mf P w K mg base 2 U "left" ["self"] (Kv ab U):=by
 refine T.t_Merge_left.mf ZhC (fun N H Q E h=>?_) (fun ai f A outer s H N Q E O h=>?_)
 ·obtain⟨m,a,S,L,s,nb,W,lo,X,rfl,_⟩:=h;rfl
 obtain⟨m,a,S,L,s,nb,W,lo,X,rfl,M,q⟩:=h;refine⟨_,#[Zi,#[Zp,#[Zk,(MM K),#[5],T.b.n_sum,boot_sum,#[Za,(@Uu _ _ _ #[Xt,Pm,(@ZpI _ _ _ _ _ _ #[ZK,‹0›] #[5] #[5]),(fun _ _ _ _=>#[cg,1,Pm]),(fun _ _ _ _=>(@Xn _)),(fun _ _ _ _=>#[YT,J,T.cl_Row,O,#[cw,1,Pm]])]),#[Ze]]]]],?_⟩;obtain⟨Y,Z⟩:=M.ob;have bW:=M.few;refine⟨a,_,M.rows,True.intro,_,rfl,m,U,Y,_,_,rfl,Z,T.cl_Merge,T.na_Merge_rows,XX ..,a,_,rfl,M.rows,fun j B t=>?_⟩;have u:(upd H a (.frz j (.dK (kvM L)))) a=some (.frz j (.dK (kvM L))):=Zd;have k1:∀b x,H b=some x→b≠a→(upd H a (.frz j (.dK (kvM L)))) b=some x:=fun b x h n=>by rw[Zc n];exact h
 generalize upd H a (.frz j (.dK (kvM L)))=H1 at u k1 t ⊢;refine Zo8 (d:=a) (o:=j) (kvs:=kvM L) (fun i zs D c=>(∃v:Option V,D=[some (.ref m),v])∧zs=(YY ((L.take i).map toL)).map V.int∧i≤L.length∧c B=some (.lst zs)∧ZG H1 c) ?_ (fun _ _ _ _ h=>h.2.2.2.2 _ _ u) ?_ ?_
 ·exact⟨⟨none,rfl⟩,rfl,Qw _,Zd,Zh t _⟩
 ·rintro i k x zs D c l ⟨⟨v,rfl⟩,rfl,hi,y,p⟩;unfold kvM at l;rw[Qm]at l;cases r:L[i]? with
  | none=>rw[r]at l;cases l
  | some e =>
  rw[r]at l;cases l;have bc:i<L.length:=(Qe.mp r).1;have C:=Qo r;have R:=M.each e C;obtain⟨_,_,_,n1,n2,n3⟩:=M.ne_sd C;have R2:X8 ab c e:=R.mono fun b o g aM=>p _ _ (k1 b o g (by rcases aM with z|z|z<;>rw[z];exact n1.symm;exact n2.symm;exact n3.symm));obtain⟨dp,hp⟩:=R2.at'.ob;refine⟨_,rfl,e.p,dp,_,rfl,hp,Zi1 ..,e.p,e.k,e.f,e.ss,e.g,rfl,R2.at',y,(by unfold YY;rw[Qa,Qa,Qa,QA];exact Zy #[2]),⟨_,rfl⟩,?_,bc,Zd,fun b x g=>?_⟩
  ·rw[QH,r,Qf];unfold YY;rw[Qf,Qf];rfl
  ·rw[Zc (Zb g t)];exact p b x g
 rintro zs D c ⟨⟨v,rfl⟩,rfl,_,y,p⟩;have gC:(kvM L).length=L.length:=by unfold kvM;rw[Qa]
 rw[gC,Qv (Qh _)]at y;refine⟨j,p _ _ u,?_⟩;have F:(upd c a (.dK (kvM L))) B=some (.lst ((YY (L.map toL)).map V.int)):=by rw[Zc (Zb u t).symm];exact y
 have G:ZG H (upd c a (.dK (kvM L))):=fun b x g=>by
  by_cases e:b=a
  ·rw[e,M.rows]at g;rw[e,Zd];exact g
  ·rw[Zc e];exact p _ _ (k1 b x g e)
 generalize upd c a (.dK (kvM L))=H3 at F G ⊢;refine⟨B,YY (L.map toL),rfl,SqL.of F,(by unfold YY;rw[Qa,Qa];lia),fun n I=>?_,q H3 G⟩;unfold YY at I;obtain⟨e',aE,rfl⟩:=Ql.mp I;obtain⟨e,C,rfl⟩:=Ql.mp aE;have R:=M.each e C;have a1:=R.le;have a2:=R.len;show 0≤((e.ss.length:Int)-(e.g:Int))∧((e.ss.length:Int)-(e.g:Int))≤_;lia
noncomputable def WR(L:List ZB):List (Int×Option Str):=L.map fun e=>(e.1,e.2.2.1[e.2.2.2]?)
def V1(H:Hp)(l:Addr)(E:List (Int×Option Str)):Prop:=∃ts:List (Addr×Int×Option Str),ts.map (·.2)=E∧H l=some (.lst (ts.map fun t=>V.ref t.1))∧∀t∈ts,H t.1=some (.tup [.int t.2.1,oV t.2.2])
theorem Ku(ss:List Str)(g:Nat):Xl ss g=oV ss[g]?:=by unfold Xl oV;cases ss[g]?<;>rfl
def Kt(a b:Addr):Sp:=fun vs H Q _=>∃ (m rd sd:Addr) (L:List Zx) (s:StL) (nb li lo:Int) (c:V),vs=[.ref m]∧ZQ a b H m rd sd L s nb li lo c∧∀ (l:Addr) (H':Hp),H l=none→V1 H' l (WR (L.map toL))→ZG H H'→Q (.ref l) H'
theorem ZmO(T:Z9 K mg ab U)(al:Mf P w K mg base 2 ab "head" ["self"] (Vx ab)):Mf P w K mg base 3 U "heads" ["self"] (Kt ab U):=by
 refine T.t_Merge_heads.mf Zhz (fun vs H Q E h=>?_) (fun ai f A outer s H vs Q E hr h=>?_)
 ·obtain⟨m,a,sd,L,s,nb,li,lo,ae,rfl,_⟩:=h;rfl
 obtain⟨m,a,sd,L,s,nb,li,lo,ae,rfl,M,q⟩:=h;refine⟨_,#[Zi,#[Zp,(@Uu _ _ _ #[Xt,T3,#[Ut,#[ZK,‹0›]],(fun _ _ _ _=>#[gT,K,2,#[Zu,#[cg,1,T3],#[Zu,#[cg,2,T3],(@Yy _)]]]),(fun _ _ _ _=>(@Xn _)),(fun _ _ _ _=>#[YV,#[Za,#[cw,1,T3],#[Za,#[YT,al,T.cl_Row,hr,#[cw,2,T3]],#[Ze]]]])])]],?_⟩;obtain⟨dx,hm⟩:=M.ob;have bW:=M.few;refine⟨a,_,M.rows,True.intro,_,rfl,m,U,dx,_,_,rfl,hm,T.cl_Merge,T.na_Merge_rows,XX ..,a,_,rfl,M.rows,fun g B c=>?_⟩;have F:(upd H a (.frz g (.dK (kvM L)))) a=some (.frz g (.dK (kvM L))):=Zd;have k1:∀b x,H b=some x→b≠a→(upd H a (.frz g (.dK (kvM L)))) b=some x:=fun b x h n=>by rw[Zc n];exact h
 have xt:H B=none:=by
  cases e:H B with
  | none=>rfl
  | some o =>
   by_cases z:B=a
   ·rw[z]at c;rw[show (upd H a (.frz g (.dK (kvM L)))) a=some (.frz g (.dK (kvM L))) from Zd]at c;cases c
   ·rw[k1 B o e z]at c;cases c
 generalize upd H a (.frz g (.dK (kvM L)))=H1 at F k1 c ⊢;refine Mv (d:=a) (o:=g) (kvs:=kvM L) (fun i zs J r=>(∃N O:Option V,J=[some (.ref m),N,O])∧(∃j:List (Addr×Int×Option Str),j.map (·.2)=WR ((L.take i).map toL)∧zs=(j.map fun t=>V.ref t.1)∧∀t∈j,r t.1=some (.tup [.int t.2.1,oV t.2.2])∧t.1≠B∧t.1≠a)∧i≤L.length∧r B=some (.lst zs)∧ZG H1 r) ?_ (fun _ _ _ _ h=>h.2.2.2.2 _ _ F) ?_ ?_
 ·exact⟨⟨none,none,rfl⟩,⟨[],rfl,rfl,(fun t h=>by cases h)⟩,Qw _,Zd,Zh c _⟩
 ·rintro i k x zs J r p v ⟨⟨N,O,rfl⟩,⟨j,G,rfl,S⟩,hi,W,y⟩ nX;unfold kvM at v;rw[Qm]at v;cases I:L[i]? with
  | none=>rw[I]at v;cases v
  | some e =>
  rw[I]at v;cases v;have bc:i<L.length:=(Qe.mp I).1;have he:=Qo I;have R:=M.each e he;obtain⟨_,_,_,n1,n2,n3⟩:=M.ne_sd he;have C:=Zh nX (.tup [kV (.inl e.n),.ref e.p]);have nY:(upd r p (.tup [kV (.inl e.n),.ref e.p])) p=some (.tup [.int e.n,.ref e.p]):=Zd;generalize upd r p (.tup [kV (.inl e.n),.ref e.p])=H3 at C nY ⊢;have R2:X8 ab H3 e:=R.mono fun b o l aM=>C _ _ (y _ _ (k1 b o l (by rcases aM with z|z|z<;>rw[z];exact n1.symm;exact n2.symm;exact n3.symm)));obtain⟨dp,hp⟩:=R2.at'.ob;have cI:=C _ _ W;have nB:=C _ _ (y _ _ F);have ao:j.length=i:=by have:=congrArg List.length G;unfold WR at this;rw[Qa,Qa,Qa,QA]at this;lia
  refine⟨p,_,rfl,SqT.of nY,rfl,_,_,rfl,_,_,rfl,rfl,_,rfl,_,rfl,e.p,dp,_,rfl,hp,Vt ..,e.p,e.k,e.f,e.ss,e.g,rfl,R2.at',(by show 2≤sizeLine;decide),fun t D=>?_⟩;rw[Ku];have X:B≠t:=Zb cI D;have mj:a≠t:=Zb nB D;refine⟨by rw[Zc X];exact cI,(by rw[Qa];exact Zy #[2]),⟨_,_,rfl⟩,⟨j++[(t,e.n,e.ss[e.g]?)],?_,by rw[Qf];rfl,fun u hu'=>?_⟩,bc,Zd,fun b x l=>?_⟩
  ·rw[Qf,G,QH,I,Qf];unfold WR;rw[Qf];rfl
  ·rcases Qn.mp hu' with hu'|hu'
   ·obtain⟨Y,Z,g3⟩:=S u hu';have:=C _ _ Y;exact⟨by rw[Zc Z,Zc (Zb this D)];exact this,Z,g3⟩
   ·rw[Qk.mp hu'];exact⟨by rw[Zc X.symm];exact Zd,X.symm,mj.symm⟩
  ·have:=C b x (y b x l);rw[Zc (Zb l c),Zc (Zb this D)];exact this
 rintro zs J r ⟨⟨N,O,rfl⟩,⟨j,G,rfl,S⟩,_,W,y⟩;have gC:(kvM L).length=L.length:=by unfold kvM;rw[Qa]
 rw[gC,Qv (Qh _)]at G;refine⟨g,y _ _ F,?_⟩;have ul:B≠a:=(Zb F c).symm;refine q B _ xt ⟨j,G,by rw[Zc ul];exact W,fun t D=>?_⟩ (fun b x l=>?_)
 ·obtain⟨Y,Z,g3⟩:=S t D;rw[Zc g3];exact Y
 ·by_cases e:b=a
  ·rw[e,M.rows]at l;rw[e,Zd];exact l
  ·rw[Zc e];exact y _ _ (k1 b x l e)
def Agr(Lo:List ZB)(L:List Zx):Prop:=Lo.map (fun e=>(e.1,e.2.2))=L.map (fun e=>(e.n,(e.ss,e.g)))
theorem TC{Lo:List ZB}{L:List Zx}(h:Agr Lo L){α:Type}(F:Int×List Str×Nat→α):Lo.map (fun e=>F (e.1,e.2.2))=(L.map toL).map (fun e=>F (e.1,e.2.2)):=by have:=congrArg (List.map F) h;rw[Qg,Qg]at this;rw[Qg];exact this
theorem Xi{Lo:List ZB}{L:List Zx}(h:Agr Lo L):Lo.map (·.1)=Zv L:=by have:=TC h (fun x=>x.1);rw[show (L.map toL).map (fun e=>e.1)=Zv L from Wq L]at this;exact this
theorem Sc:∀ (A B:List ZB),A.map (fun e=>(e.1,e.2.2))=B.map (fun e=>(e.1,e.2.2))→hdL A=hdL B
 | [],[],_=>rfl
 | [],_::_,h=>by cases h
 | _::_,[],h=>by cases h
 | a::A,b::B,h=>by
  rw[Qj,Qj]at h;injection h with h1 h2;injection h1 with d h4;have f:=Sc A B h2;funext n;have c:=congrFun f n;unfold hdL at c ⊢;rw[Qae,Qae,d];split
  ·simp only[Option.bind_some];rw[h4]
  ·exact c
theorem TB{Lo:List ZB}{L:List Zx}(h:Agr Lo L):hdL Lo=hdM L:=Sc _ _ (TC h (fun x=>x))
theorem Zpb{Lo:List ZB}{L:List Zx}(h:Agr Lo L):WR Lo=WR (L.map toL):=TC h (fun x=>(x.1,x.2.1[x.2.2]?))
theorem Zm4{Lo:List ZB}{L:List Zx}(h:Agr Lo L):YY Lo=YY (L.map toL):=TC h (fun x=>(x.2.1.length:Int)-(x.2.2:Int))
theorem Ks{α c d e:Type}{f:α→d}{i:c→d}{g:α→e}{g':c→e}:∀ (xs:List α) (ys:List c),xs.map f=ys.map i→xs.map g=ys.map g'→xs.map (fun x=>(f x,g x))=ys.map (fun y=>(i y,g' y))
 | [],[],_,_=>rfl
 | [],_::_,h,_=>by cases h
 | _::_,[],h,_=>by cases h
 | a::A,b::B,h,k=>by rw[Qj,Qj]at h k;injection h with h1 h2;injection k with k1 k2;rw[Qj,Qj,Ks A B h2 k2,h1,k1]
theorem Zpy{Lo:List ZB}{L:List Zx}{a b:List (Addr×List Str)}(h:Sh Lo a)(k:Se L b)(e:a.map (·.2)=b.map (·.2)):Agr Lo L:=by
 have c:a.length=b.length:=by have:=congrArg List.length e;rw[Qa,Qa]at this;exact this
 have d:a.map (fun x=>(x.2,0))=b.map (fun x=>(x.2,0)):=by have:=congrArg (List.map fun y:List Str=>(y,0)) e;rw[Qg,Qg]at this;exact this
 exact Ks Lo L (by rw[h.1,c];exact k.1.symm) (by rw[h.2,d];exact k.2.symm)
theorem WQ{α a:Type}:∀ {P:List (α×a)},(P.map (·.1)).Nodup→∀ {p q:α×a},p∈P→q∈P→p.1=q.1→p=q
 | [],_,_,_,h,_,_=>by cases h
 | x::r,nd,p,q,hp,hq,e=>by
  rw[Qj,QP]at nd;rcases QF.mp hp with h1|h1
  ·rcases QF.mp hq with h2|h2
   ·rw[h1,h2]
   ·exact absurd (show x.1∈r.map (·.1) by rw[← h1,e];exact Qd (f:=fun x:α×a=>x.1) h2) nd.1
  ·rcases QF.mp hq with h2|h2
   ·exact absurd (show x.1∈r.map (·.1) by rw[← h2,← e];exact Qd (f:=fun x:α×a=>x.1) h1) nd.1
   ·exact WQ nd.2 h1 h2 e
def Zsk(x:V):Prop:=x=.non∨(∃b,x=.bl b)∨(∃i,x=.int i)∨∃s,x=.str s
structure F2 (R:V→V→Prop) (xs ys:List V):Prop where
 len:xs.length=ys.length
 at':∀ (i:Nat) (x y:V),xs[i]? = some x→ys[i]? = some y→R x y
theorem F2.nil{R:V→V→Prop}:F2 R [] []:=⟨rfl,fun i x y h=>by simp at h⟩
theorem F2.cons{R:V→V→Prop}{x y:V}{xs ys:List V}(h:R x y)(t:F2 R xs ys):F2 R (x::xs) (y::ys):=by
 refine⟨by rw[QL,QL,t.len],fun i a b c d=>?_⟩;cases i with
 | zero=>simp at c d;rw[← c,← d];exact h
 | succ i=>exact t.at' i a b (by simpa using c) (by simpa using d)
theorem V0{H:Hp}{n:Nat}{x:V}(h:Zsk x):IsD H (n+1) x x:=.inl ⟨rfl,h⟩
theorem Xv{H:Hp}{n:Nat}(i:Int):IsD H (n+1) (.int i) (.int i):=V0 (.inr (.inr (.inl ⟨i,rfl⟩)))
theorem ZqI{H:Hp}{n:Nat}(o:Option Str):IsD H (n+1) (oV o) (oV o):=by
 cases o with
 | none=>exact V0 #[8]
 | some s=>exact V0 (.inr (.inr (.inr ⟨s,rfl⟩)))
theorem Sb{H:Hp}{n:Nat}{p q:Addr}{xs ys:List V}(hp:H p=some (.lst xs))(hq:H q=some (.lst ys))(h:xs.length≤1000)(f:F2 (IsD H n) xs ys):IsD H (n+1) (.ref p) (.ref q):=.inr ⟨p,q,xs,ys,rfl,rfl,.inl ⟨hp,hq⟩,f.len,h,f.at'⟩
theorem Sa{H:Hp}{n:Nat}{p q:Addr}{xs ys:List V}(hp:H p=some (.tup xs))(hq:H q=some (.tup ys))(h:xs.length≤1000)(f:F2 (IsD H n) xs ys):IsD H (n+1) (.ref p) (.ref q):=.inr ⟨p,q,xs,ys,rfl,rfl,.inr ⟨hp,hq⟩,f.len,h,f.at'⟩
theorem V1.same{H H':Hp}{l:Addr}{E:List (Int×Option Str)}(h:V1 H l E)(s:ZG H H'):V1 H' l E:=by obtain⟨a,b,c,d⟩:=h;exact⟨a,b,s _ _ c,fun t e=>s _ _ (d t e)⟩
theorem Zo5{H:Hp}{l g:Addr}{E:List (Int×Option Str)}{n:Nat}(h:V1 H l E)(k:V1 H g E)(few:E.length≤1000):IsD H (n+3) (.ref l) (.ref g):=by
 obtain⟨j,m,q,r⟩:=h;obtain⟨o,k1,k2,k3⟩:=k;have lt:j.length=E.length:=by rw[← m,Qa]
 have lu:o.length=E.length:=by rw[← k1,Qa]
 refine Sb q k2 (by rw[Qa];lia) ⟨by rw[Qa,Qa];lia,fun i x y b c=>?_⟩;rw[Qm]at b c;cases d:j[i]? with
 | none=>rw[d]at b;cases b
 | some t =>
 cases f:o[i]? with
 | none=>rw[f]at c;cases c
 | some u =>
 rw[d]at b;rw[f]at c;cases b;cases c;have e:t.2=u.2:=by have a:=congrArg (fun z=>z[i]?) (m.trans k1.symm);simp only[List.getElem?_map,d,f,Option.map_some]at a;exact Qr a
 have s:=r t (Qo d);have p:=k3 u (Qo f);rw[← e]at p;exact Sa s p (by show 2≤1000;decide) (.cons (Xv _) (.cons (ZqI _) .nil))
theorem Vw.same{L:List ZB}{H H':Hp}{x:V}(h:Vw L H x)(s:ZG H H'):Vw L H' x:=by
 rcases h with h|⟨t,e,z,a,b,c,d,f⟩
 ·exact .inl h
 ·exact .inr ⟨t,e,z,a,b,c,s _ _ d,f⟩
theorem Zpj{Lo:List ZB}{L:List Zx}{H:Hp}{x y:V}{n:Nat}(ag:Agr Lo L)(nd:(Zv L).Nodup)(h:Vw (L.map toL) H x)(k:Vw Lo H y):IsD H (n+2) x y:=by
 have c:=TB ag;have d:=Xi ag;have g:hdL (L.map toL)=hdM L:=rfl;rcases h with⟨rfl,hw⟩|⟨t,e,z,rfl,r,i,j,hw⟩
 ·rcases k with⟨rfl,a⟩|⟨s,b,u,rfl,l,m,o,a⟩
  ·exact V0 #[8]
  ·rw[c,d]at a;rw[g,Wq]at hw;exact nomatch hw.one a
 ·rcases k with⟨rfl,a⟩|⟨s,b,u,rfl,l,m,o,a⟩
  ·rw[c,d]at a;rw[g,Wq]at hw;exact nomatch hw.one a
  ·rw[c,d]at a;rw[g,Wq]at hw;have p:e.1=b.1:=Qr (hw.one a);have v:(e.1,e.2.2)∈(L.map toL).map (fun e=>(e.1,e.2.2)):=Qd (f:=fun e:ZB=>(e.1,e.2.2)) r;have w:(b.1,b.2.2)∈(L.map toL).map (fun e=>(e.1,e.2.2)):=by rw[← TC ag (fun x=>x)];exact Qd (f:=fun e:ZB=>(e.1,e.2.2)) l
   have A:(((L.map toL).map (fun e=>(e.1,e.2.2))).map (·.1)).Nodup:=by rw[Qg];exact(Wq L) ▸ nd
   have B:=WQ A v w p;injection B with _ q;rw[q,m]at i;cases i;rw[p,q]at j;exact Sa j o (by show 3≤1000;decide) (.cons (Xv _) (.cons (Xv _) (.cons (V0 (.inr (.inr (.inr ⟨_,rfl⟩)))) .nil)))
theorem Zpz{L:List ZB}{E:List (Int×Option Str)}(h:Sj L E)(up:(L.map (·.1)).Pairwise (·<·)):E=WR L:=by
 have b:E.map (·.1)=L.map (·.1):=Si h.per h.up up;have nd:(E.map (·.1)).Nodup:=by rw[b];exact TV up
 apply List.ext_getElem?;intro i;unfold WR;rw[Qm];cases c:L[i]? with
 | none =>
  have:E[i]? = none:=by rw[Qag]at c ⊢;have:=congrArg List.length b;rw[Qa,Qa]at this;lia
  rw[this];rfl
 | some e =>
  have f:=h.hd e (Qo c);have a:(E.map (·.1))[i]? = some e.1:=by rw[b,Qm,c];rfl
  rw[Qm]at a;cases d:E[i]? with
  | none=>rw[d]at a;cases a
  | some x=>rw[d]at a;have g:x.1=e.1:=Qr a;rw[WQ nd (Qo d) f g];rfl
theorem Kq{H:Hp}:∀ (ts:List (Addr×Key×V)) (E:List (Int×Option Str)),ts.map (·.2)=kvH E→(∀t∈ts,H t.1=some (.tup [kV t.2.1,t.2.2]))→∃us:List (Addr×Int×Option Str),us.map (·.2)=E∧us.map (·.1)=ts.map (·.1)∧∀t∈us,H t.1=some (.tup [.int t.2.1,oV t.2.2])
 | [],[],_,_=>⟨[],rfl,rfl,fun t h=>by cases h⟩
 | [],_::_,h,_=>by unfold kvH at h;cases h
 | _::_,[],h,_=>by unfold kvH at h;cases h
 | t::ts,e::E,h,k=>by
  unfold kvH at h;rw[Qj,Qj]at h;injection h with h1 h2;obtain⟨us,a,b,c⟩:=Kq ts E h2 fun x hx=>k x (Qt _ hx);refine⟨(t.1,e)::us,by rw[Qj,a],by rw[Qj,Qj,b],fun u hu=>?_⟩;rcases QF.mp hu with rfl|hu
  ·have:=k t #[4];rw[h1]at this;exact this
  ·exact c u hu
theorem ZjD{H:Hp}{l:Addr}{ts:List (Addr×Key×V)}{E:List (Int×Option Str)}(h:ts.map (·.2)=kvH E)(k:∀t∈ts,H t.1=some (.tup [kV t.2.1,t.2.2]))(hl:H l=some (.lst (ts.map fun t=>V.ref t.1))):V1 H l E:=by obtain⟨d,a,b,c⟩:=Kq ts E h k;refine⟨d,a,?_,c⟩;rw[hl];have:=congrArg (List.map V.ref) b;rw[Qg,Qg]at this;exact congrArg (fun z=>some (HO.lst z)) this.symm
theorem Kp(rd:Addr)(nb li lo:Int)(sd:Addr)(a:V):(mgF rd nb li lo sd a).lookup ("likenings" : Str)=none:=Yh _ _ _ _ _ _ #[1] #[1] #[1] #[1] #[1] #[1]
theorem Ko(rd:Addr)(nb li lo:Int)(sd:Addr)(a:V):(mgF rd nb li lo sd a).lookup ("looks" : Str)=none:=Yh _ _ _ _ _ _ #[1] #[1] #[1] #[1] #[1] #[1]
theorem Kn(rd:Addr)(nb li lo:Int)(sd:Addr)(a:V):(mgF rd nb li lo sd a).lookup ("coming" : Str)=none:=Yh _ _ _ _ _ _ #[1] #[1] #[1] #[1] #[1] #[1]
theorem ZkP(rd:Addr)(nb li lo:Int)(sd:Addr)(a:V):(mgF rd nb li lo sd a).lookup ("left" : Str)=none:=Yh _ _ _ _ _ _ #[1] #[1] #[1] #[1] #[1] #[1]
theorem ZjT(rd:Addr)(nb li lo:Int)(sd:Addr)(a:V):(mgF rd nb li lo sd a).lookup ("heads" : Str)=none:=Yh _ _ _ _ _ _ #[1] #[1] #[1] #[1] #[1] #[1]
def ZnX(a b:Addr):Sp:=fun vs H Q _=>∃ (m rd sd:Addr) (L:List Zx) (s:StL) (nb li lo:Int) (w:Option Int) (o ra ga:Addr) (Lo:List ZB) (nb':Int),vs=[.ref m,.ref o]∧ZQ a b H m rd sd L s nb li lo (Y4 w)∧Win (hdM L) (Zv L) w∧Own H o ra ga Lo nb' li lo∧Agr Lo L∧∀H',ZG H H'→Q (.bl true) H'
theorem Zmb(T:Z9 K mg ab U)(aC:Df P w K mg base 1 "_law_heads" ["_law_own"] TQ)(aH:Df P w K mg base 5 "_law_same" ["_law_found", "_law_due"] (SG 4))(bA:Df P w K mg base 2 "_law_coming" ["_law_own"] OR)(ck:Df P w K mg base 1 "_law_left_of" ["_law_own"] KP)
  (aZ:Mf P w K mg base 1 U "likenings" ["self"] (Kx ab U)) (bH:Mf P w K mg base 1 U "looks" ["self"] (Kw ab U)) (aP:Mf P w K mg base 3 U "coming" ["self"] (Ou ab U)) (cP:Mf P w K mg base 2 U "left" ["self"] (Kv ab U)) (cy:Mf P w K mg base 3 U "heads" ["self"] (Kt ab U)) :
  Df P w K mg base 6 "_law_stands" ["_law_merge", "_law_own"] (ZnX ab U):=by
 refine T.t_l_stands.df SM (fun vs H Q E h=>?_) (fun ai f A outer s H vs Q E b h=>?_)
 ·obtain⟨m,d,e,L,s,nb,a,lo,w,o,n,p,Lo,c,rfl,_⟩:=h;rfl
 obtain⟨m,d,e,L,s,nb,a,lo,w,o,n,p,Lo,c,rfl,M,W,r,u,q⟩:=h;refine⟨_,#[Zf,#[ZD,2,SM.nd,#[3],(@Zj0 _ _ _ _ _ _ _ rfl #[5] T.b.n_list #[Zz,aC,b,#[Za,‹1›,#[Ze]],#[5]] #[5] #[5] #[5])],#[Zf,#[ZD,3,SM.nd,#[3],#[YU,#[Za,#[Zo,(ixG b),‹1›,#[Zw]],#[Za,#[Zo,(ixG b),‹1›,#[Zw]],#[Ze]]]]],#[Zf,#[ZW,(@PW.pt _ _ _ #[Yf,#[Zl,YH,#[ZJ,Vi,#[ZJ,YO,#[Zo,(ixG b),‹1›,#[Zw]],#[Zo,(ixG b),‹1›,#[Zw]]],#[Zj]],#[Zj],(Zs _)],#[XT,#[Xg,#[X5,#[Zz,aH,b,#[Za,#[YU,#[Za,#[YT,aZ,T.cl_Merge,b,‹0›],#[Za,#[YT,bH,T.cl_Merge,b,‹0›],#[Ze]]]],#[Za,‹3›,#[Ze]]],#[5]]]]]]),#[Zi,#[Zp,#[Xp]]],#[ZH]],#[Zf,#[ZD,4,SM.nd,#[3],#[YU,#[Za,#[YT,aP,T.cl_Merge,b,‹0›],#[Za,#[YT,cP,T.cl_Merge,b,‹0›],#[Za,#[YT,cy,T.cl_Merge,b,‹0›],#[Za,#[YT,aZ,T.cl_Merge,b,‹0›],#[Za,#[YT,bH,T.cl_Merge,b,‹0›],#[Ze]]]]]]]],#[Zi,#[Zp,#[Zz,aH,b,#[Za,‹4›,#[Za,#[ZJ,VQ,#[YU,#[Za,#[Zz,bA,b,#[Za,‹1›,#[Ze]],#[5]],#[Za,#[Zz,ck,b,#[Za,‹1›,#[Ze]],#[5]],#[Za,‹2›,#[Ze]]]]],‹3›],#[Ze]]],#[5]]]]]]]],?_⟩;have aT:(Lo.map (·.1)).Pairwise (·<·):=by rw[Xi u];exact M.up
 have gX:2≤sizeLine:=by decide
 refine⟨_,rfl,o,n,p,Lo,c,a,lo,rfl,r,fun D E' H1 hD bp ho s1=>?_⟩;refine⟨D,_,rfl,bp.at',fun l ts v hl bF bo s2 bm=>?_⟩;have eE:=Zpz ho aT;have xu:V1 v l (WR (L.map toL)):=by rw[← Zpb u,← eE];exact ZjD bF (fun t I=>(bo t I).2) bm
 have qc:ZG H v:=s1.trans s2;have J:=r.same qc;refine⟨_,rfl,o,_,rfl,ZP.k' (k:=.inr "likenings") J.at' (Sn ..),_,rfl,o,_,rfl,ZP.k' (k:=.inr "looks") J.at' (OV ..),gX,fun i n5=>?_⟩;have x:=Zh n5 (.lst [.int a,.int lo]);have N:(upd v i (.lst [.int a,.int lo])) i=some (.lst [.int a,.int lo]):=Zd;generalize upd v i (.lst [.int a,.int lo])=H3 at x N ⊢;have bO:=J.same x;have eR:=qc.trans x;refine⟨_,rfl,o,_,rfl,ZP.k' (k:=.inr "number") bO.at' (So ..),_,rfl,o,_,rfl,ZP.k' (k:=.inr "likenings") bO.at' (Sn ..),_,_,rfl,rfl,_,_,rfl,rfl,(by show (0:Int)<2;decide),rfl,_,rfl,?_⟩;refine Zrk (fun _ T' BM=>?_) (fun H4 j=>?_)
 ·have O:=M.same eR;obtain⟨dx,p6⟩:=O.ob;refine⟨_,rfl,m,dx,_,rfl,p6,Kp ..,m,d,e,L,s,nb,a,lo,_,rfl,O,?_⟩;refine⟨_,rfl,m,dx,_,rfl,p6,Ko ..,m,d,e,L,s,nb,a,lo,_,rfl,O,gX,fun t I=>?_⟩;have j:=Zh I (.lst [.int a,.int lo]);refine⟨_,rfl,.ref t,.ref i,rfl,Sb Zd (j _ _ N) (by show 2≤1000;decide) (.cons (Xv _) (.cons (Xv _) .nil)),fun H5 y=>⟨_,rfl,BM H5 (j.trans y)⟩⟩
 have nG:=eR.trans j;have M4:=M.same nG;obtain⟨gW,gf⟩:=M4.ob;refine YZ ?_;refine⟨_,rfl,m,gW,_,rfl,gf,Kn ..,m,d,e,L,s,nb,a,lo,w,rfl,M4,W,fun z H5 hc y=>?_⟩;have nH:=nG.trans y;have M5:=M.same nH;obtain⟨BN,dE⟩:=M5.ob;refine⟨_,rfl,m,BN,_,rfl,dE,ZkP ..,m,d,e,L,s,nb,a,lo,_,rfl,M5,fun H6 R=>?_⟩;have jG:=nH.trans R;have M6:=M.same jG;obtain⟨nU,lZ⟩:=M6.ob;refine⟨_,rfl,m,nU,_,rfl,lZ,ZjT ..,m,d,e,L,s,nb,a,lo,_,rfl,M6,fun B H7 hlh BO S=>?_⟩;have xv:=jG.trans S;have V:=M.same xv;obtain⟨xw,n8⟩:=V.ob;refine⟨_,rfl,m,xw,_,rfl,n8,Kp ..,m,d,e,L,s,nb,a,lo,_,rfl,V,?_⟩;refine⟨_,rfl,m,xw,_,rfl,n8,Ko ..,m,d,e,L,s,nb,a,lo,_,rfl,V,(by show 5≤sizeLine;decide),fun C BP=>?_⟩;have F:=Zh BP (.lst [z,.int (YY (L.map toL)).sum,.ref B,.int a,.int lo]);have rm:(upd H7 C (.lst [z,.int (YY (L.map toL)).sum,.ref B,.int a,.int lo])) C=some (.lst [z,.int (YY (L.map toL)).sum,.ref B,.int a,.int lo]):=Zd;generalize upd H7 C (.lst [z,.int (YY (L.map toL)).sum,.ref B,.int a,.int lo])=H8 at F rm ⊢;have X:=xv.trans F;refine⟨_,rfl,_,rfl,o,n,p,Lo,c,a,lo,rfl,r.same X,fun g H9 BQ Y=>?_⟩;have BR:=X.trans Y;refine⟨_,rfl,o,n,p,Lo,c,a,lo,rfl,r.same BR,fun bg iO=>?_⟩;refine⟨_,rfl,(by show 3≤sizeLine;decide),fun c3 BS=>?_⟩;have eJ:=Zh BS (.lst [g,.int (YY Lo).sum,.ref l]);have rn:(upd bg c3 (.lst [g,.int (YY Lo).sum,.ref l])) c3=some (.lst [g,.int (YY Lo).sum,.ref l]):=Zd;generalize upd bg c3 (.lst [g,.int (YY Lo).sum,.ref l])=G at eJ rn ⊢;have rp:ZG H9 G:=iO.trans eJ;have rq:ZG H3 G:=(((((j.trans y).trans R).trans S).trans F).trans Y).trans rp;refine⟨_,rfl,c3,i,_,_,rfl,rfl,rn,rq _ _ N,(by show 3+2≤sizeLine;decide),fun c4 BU=>?_⟩;have Z:=Zh BU (.lst ([g,.int (YY Lo).sum,.ref l]++[.int a,.int lo]));have n9:(upd G c4 (.lst ([g,.int (YY Lo).sum,.ref l]++[.int a,.int lo]))) c4=some (.lst ([g,.int (YY Lo).sum,.ref l]++[.int a,.int lo])):=Zd;generalize upd G c4 (.lst ([g,.int (YY Lo).sum,.ref l]++[.int a,.int lo]))=fE at Z n9 ⊢;have rA:=rp.trans Z;have oa:=Y.trans rA;have rB:=F.trans oa;have xx:=x.trans (rq.trans Z);have xy:=R.trans (S.trans rB);rw[Zm4 u]at n9;refine⟨.ref C,.ref c4,rfl,Sb (oa _ _ rm) n9 (by show 5≤1000;decide) (.cons (Zpj u M.nd (hc.same xy) (BQ.same rA)) (.cons (Xv _) (.cons (Zo5 (BO.same rB) (xu.same xx) ?_) (.cons (Xv _) (.cons (Xv _) .nil))))),fun uo qd=>q uo (X.trans (oa.trans qd))⟩;unfold WR;have:=M.few;rw[Qa,Qa];lia
noncomputable def ZX(M:List Int)(n:Int):List Int:=if n∈lo M then lo M else up M
noncomputable def Zt(M:List Int)(n:Int):List Int:=if n∈lo M then up M else lo M
noncomputable def ZN:Nat→List Int→Int→List (List Int)
 | 0,_,_=>[]
 | k+1,M,n=>if 2≤M.length then ZN k (ZX M n) n++[M] else []
inductive Sub (N:List Int):List Int→Prop
 | top:Sub N N
 | lo {M:List Int}:Sub N M→2≤M.length→Sub N (lo M)
 | up {M:List Int}:Sub N M→2≤M.length→Sub N (up M)
theorem Sub.trans{A B C:List Int}(h:Sub A B)(k:Sub B C):Sub A C:=by
 induction k with
 | top=>exact h
 | lo _ a b=>exact b.lo a
 | up _ a b=>exact b.up a
theorem Sub.rise{N M:List Int}(h:Sub N M)(r:YS N):YS M:=by
 induction h with
 | top=>exact r
 | lo _ _ a=>exact Sx a
 | up _ _ a=>exact Sw a
theorem Sub.mem{N M:List Int}(h:Sub N M){x:Int}(hx:x∈M):x∈N:=by
 induction h with
 | top=>exact hx
 | lo _ _ a=>exact a (Q2 hx)
 | up _ _ a=>exact a (Qak hx)
theorem Sub.len{N M:List Int}(h:Sub N M):M.length≤N.length:=by
 induction h with
 | top=>exact Qh _
 | lo _ a b=>exact QB (Qai (WU a).1) b
 | up _ a b=>exact QB (Qai (Wt a).1) b
theorem Ot{M:List Int}(h:2≤M.length)(n:Int):Sub M (ZX M n):=by
 unfold ZX;split
 ·exact Sub.top.lo h
 ·exact Sub.top.up h
theorem Oq{M:List Int}(h:2≤M.length)(n:Int):(ZX M n).length<M.length:=by
 unfold ZX;split
 ·exact(WU h).1
 ·exact(Wt h).1
theorem UN{M:List Int}{n:Int}(h:n∈M):n∈ZX M n:=by
 unfold ZX;split
 ·assumption
 ·rename_i a;rw[← XZ M]at h;exact(Qn.mp h).resolve_left a
theorem Op{M:List Int}(r:YS M){n:Int}(hn:n∈ZX M n):n ∉ Zt M n:=by
 intro h;unfold Zt ZX at *
 split at h
 ·rename_i a;have:=ZO r a h;lia
 ·rename_i a;exact a h
theorem R9(M:List Int)(n:Int):(ZX M n++Zt M n).Perm M:=by
 unfold ZX Zt;split
 ·rw[XZ]
 ·exact List.perm_append_comm.trans (by rw[XZ])
def Kys(M:List Int)(k:Int×Int):Prop:=∃a,Sub M a∧2≤a.length∧k=ZR a
theorem R8{M:List Int}{k:Int×Int}(h:Kys M k):k.1∈M∧k.2∈M:=by obtain⟨b,s,h2,rfl⟩:=h;have a:b≠[]:=XI #[2];exact⟨s.mem (UT a),s.mem (US a)⟩
theorem Km{M:List Int}(r:YS M)(h2:2≤M.length){k:Int×Int}(h:Kys (lo M) k):k≠ZR M∧¬ Kys (up M) k:=by
 have:=R8 h;refine⟨fun z=>?_,fun m=>?_⟩
 ·have a:=O3 h2;rw[z,a]at this;have:=ZO r this.2 (US (XI (Wt h2).2));lia
 ·have:=ZO r this.1 (R8 m).1;lia
theorem Kl{M:List Int}(r:YS M)(h2:2≤M.length){k:Int×Int}(h:Kys (up M) k):k≠ZR M∧¬ Kys (lo M) k:=by
 have:=R8 h;refine⟨fun z=>?_,fun m=>?_⟩
 ·have a:=O2 h2;rw[z,a]at this;have:=ZO r (UT (XI (WU h2).2)) this.1;lia
 ·have:=ZO r (R8 m).1 this.1;lia
theorem Kk{M:List Int}(r:YS M)(h2:2≤M.length){n:Int}{k:Int×Int}(h:Kys (ZX M n) k):k≠ZR M∧¬ Kys (Zt M n) k:=by
 unfold ZX at h;unfold Zt;split
 ·rename_i a;rw[if_pos a]at h;exact Km r h2 h
 ·rename_i a;rw[if_neg a]at h;exact Kl r h2 h
theorem Kj{M:List Int}(r:YS M)(h2:2≤M.length){n:Int}{k:Int×Int}(h:Kys (Zt M n) k):k≠ZR M∧¬ Kys (ZX M n) k:=by
 unfold Zt at h;unfold ZX;split
 ·rename_i a;rw[if_pos a]at h;exact Kl r h2 h
 ·rename_i a;rw[if_neg a]at h;exact Km r h2 h
theorem Oo{M c:List Int}(h:Sub M c):c=M∨(2≤M.length∧(Sub (lo M) c∨Sub (up M) c)):=by
 induction h with
 | top=>exact .inl rfl
 | lo h a b =>
  rcases b with rfl|⟨g,b⟩
  ·exact .inr ⟨a,.inl .top⟩
  ·exact .inr ⟨g,b.imp (fun z=>z.lo a) (fun z=>z.lo a)⟩
 | up h a b =>
  rcases b with rfl|⟨g,b⟩
  ·exact .inr ⟨a,.inr .top⟩
  ·exact .inr ⟨g,b.imp (fun z=>z.up a) (fun z=>z.up a)⟩
theorem Zok{M a:List Int}(n:Int)(h:Sub M a):a=M∨(2≤M.length∧(Sub (ZX M n) a∨Sub (Zt M n) a)):=by
 rcases Oo h with h|⟨g,h⟩
 ·exact .inl h
 ·refine .inr ⟨g,?_⟩;unfold ZX Zt;split
  ·exact h
  ·exact h.symm
def WP(hd:Hd)(s:StL)(A B:List Int)(k:Int×Int):Prop :=
 (∀a b x y,Win hd A (some a)→Win hd B (some b)→hd a=some x→hd b=some y→∃t c,Z2 s k=some (some (t,c,((lcp x y:Nat):Int)))∧((Btr x a y b∧c=b)∨(Btr y b x a∧c=a))) ∧
 ((Win hd A none∨Win hd B none)→Z2 s k=none∨Z2 s k=some none)
theorem WP.swap{hd:Hd}{s:StL}{A B:List Int}{k:Int×Int}(h:WP hd s A B k):WP hd s B A k:=by refine⟨fun a b x y c d f g=>?_,fun hw=>h.2 hw.symm⟩;obtain⟨t,i,e,o⟩:=h.1 b a y x d c g f;exact⟨t,i,by rw[Vz x y];exact e,o.symm⟩
def ZV(hd:Hd)(s:StL)(N:List Int):Prop:=∀M,Sub N M→2≤M.length→WP hd s (lo M) (up M) (ZR M)
theorem ZV.sub{hd:Hd}{s:StL}{N M:List Int}(h:ZV hd s N)(k:Sub N M):ZV hd s M:=fun a h' h2=>h a (k.trans h') h2
theorem ZV.at_side{hd:Hd}{s:StL}{M:List Int}(h:ZV hd s M)(h2:2≤M.length)(n:Int):WP hd s (ZX M n) (Zt M n) (ZR M):=by
 have:=h M .top h2;unfold ZX Zt;split
 ·exact this
 ·exact this.swap
theorem UM:∀ (n:Nat) (hd:Hd) (s:StL) (N:List Int),YS N→N.length≤2 ^ (n-1)→0<n→XY hd s n N→ZV hd s N
 | 0,_,_,_,_,_,h,_=>absurd h #[2]
 | n+1,hd,s,N,r,hl,_,h=>fun M hM h2=>by
  rw[Qah]at hl;rcases Oo hM with rfl|⟨g,hM⟩
  ·obtain⟨_,_,c1,c2⟩:=h h2;refine⟨fun a b x y d f j k=>?_,c2⟩;obtain⟨t,e⟩:=c1 a b x y d f j k;have jF:=ZO r d.1 f.1;by_cases c:ZT x y<0∨(ZT x y=0∧a<b)
   ·rw[if_pos c]at e;exact⟨t,b,e,.inl ⟨c,rfl⟩⟩
   ·rw[if_neg c]at e;exact⟨t,a,e,.inr ⟨(Btr.total (show a≠b by lia)).resolve_left c,rfl⟩⟩
  ·obtain⟨l,o,_⟩:=h g;have i:1≤n:=by
    cases n with
    | zero=>simp at hl;lia
    | succ m=>lia
   have hp:2 ^ n=2*2 ^ (n-1):=by obtain⟨m,rfl⟩:∃m,n=m+1:=⟨n-1,by lia⟩;rw[Qa6,Qah];lia
   rcases hM with hM|hM
   ·exact UM n hd s (lo N) (Sx r) (by unfold lo mid;rw[QA];lia) i l M hM h2
   ·exact UM n hd s (up N) (Sw r) (by unfold up mid;rw[Q5];lia) i o M hM h2
theorem WP.congr{hd d:Hd}{s s':StL}{A B:List Int}{k:Int×Int}(h:WP hd s A B k)(ha:∀m∈A,d m=hd m)(hb:∀m∈B,d m=hd m)(hk:Z2 s' k=Z2 s k):WP d s' A B k:=by
 refine⟨fun a b x y e f g i=>?_,fun hw=>?_⟩
 ·rw[hk];exact h.1 a b x y (e.congr fun m c=>(ha m c).symm) (f.congr fun m c=>(hb m c).symm) (by rw[← ha a e.1];exact g) (by rw[← hb b f.1];exact i)
 ·rw[hk];exact h.2 (hw.imp (fun w=>w.congr fun m c=>(ha m c).symm) (fun w=>w.congr fun m c=>(hb m c).symm))
theorem ZV.congr{hd b:Hd}{s s':StL}{M:List Int}(h:ZV hd s M)(c:∀m∈M,b m=hd m)(hk:∀k,Kys M k→Z2 s' k=Z2 s k):ZV b s' M:=fun d hM h2 =>
 (h d hM h2).congr (fun m a=>c m (hM.mem (Q2 a))) (fun m a=>c m (hM.mem (Qak a))) (hk _ ⟨d,hM,h2,rfl⟩)
theorem ZmV{hd:Hd}{s:StL}{M:List Int}{n:Int}(h1:ZV hd s (ZX M n))(b:ZV hd s (Zt M n))(h:WP hd s (ZX M n) (Zt M n) (ZR M)):ZV hd s M:=fun a hM h2=>by
 rcases Zok n hM with rfl|⟨g,hM|hM⟩
 ·unfold ZX Zt at h;split at h
  ·exact h
  ·exact h.swap
 ·exact h1 a hM h2
 ·exact b a hM h2
noncomputable def low(n:Int)(C:List (List Int)):Nat→List Int
 | 0=>[n]
 | i+1=>C.getD i []
theorem R7:∀ (k:Nat) (M:List Int) (n:Int),n∈M→M.length≤2 ^ k→(∀i X,(ZN k M n)[i]? = some X→Sub M X∧2≤X.length∧n∈X∧ZX X n=low n (ZN k M n) i)∧low n (ZN k M n) (ZN k M n).length=M∧(ZN k M n).length≤k
 | 0,M,n,d,hl=>by
  refine⟨fun i X h=>by unfold ZN at h;simp at h,?_,Qh _⟩;have h1:M.length=1:=by have:=Qa7 d;simp at hl;lia
  obtain⟨x,rfl⟩:=Qaz.mp h1;have:n=x:=by simpa using d
  rw[this];rfl
 | k+1,M,n,d,hl=>by
  unfold ZN;by_cases e:2≤M.length
  ·rw[if_pos e];have g:(ZX M n).length≤2 ^ k:=by
    rw[Qa6]at hl;unfold ZX;split
    ·unfold lo mid;rw[QA];lia
    ·unfold up mid;rw[Q5];lia
   obtain⟨a,b,c⟩:=R7 k (ZX M n) n (UN d) g;refine⟨fun i X h=>?_,?_,by rw[Qi,Qy];lia⟩
   ·have f:∀j,j≤(ZN k (ZX M n) n).length→low n (ZN k (ZX M n) n++[M]) j=low n (ZN k (ZX M n) n) j:=fun j hj=>by
     cases j with
     | zero=>rfl
     | succ j=>show (ZN k (ZX M n) n++[M]).getD j []=(ZN k (ZX M n) n).getD j [];rw[QE,QE,QJ #[2]]
    by_cases l:i<(ZN k (ZX M n) n).length
    ·rw[QJ l]at h;obtain⟨m,o,p,q⟩:=a i X h;exact⟨(Ot e n).trans m,o,p,by rw[f i #[2]];exact q⟩
    ·have r:i=(ZN k (ZX M n) n).length:=by have:=(Qe.mp h).1;rw[Qi,Qy]at this;lia
     subst r;rw[QK (Qh _),QaM]at h;cases h;exact⟨.top,e,d,by rw[f _ (Qh _),b]⟩
   ·rw[Qi,Qy];show (ZN k (ZX M n) n++[M]).getD _ []=M;rw[QE,QK (Qh _),QaM];rfl
  ·rw[if_neg e];refine⟨fun i X h=>by simp at h,?_,Qw _⟩;have h1:M.length=1:=by have:=Qa7 d;lia
   obtain⟨x,rfl⟩:=Qaz.mp h1;have:n=x:=by simpa using d
   rw[this];rfl
structure Tk (hd aS:Hd) (N:List Int) (n:Int) (z:List Nat):Prop where
 win:Win hd N (some n)
 key:hd n=some z
 oth:∀b,b≠n→aS b=hd b
 nxt:∀x,aS n=some x→ZT z x≤0
 up:YS N
theorem Tk.ge{hd a:Hd}{N:List Int}{n:Int}{z:List Nat}(h:Tk hd a N n z){b:Int}(hb:b∈N){y:List Nat}(hy:a b=some y):ZT z y≤0:=by
 by_cases e:b=n
 ·exact h.nxt y (by rw[← e];exact hy)
 ·obtain⟨_,x,c,hw⟩:=h.win;rw[h.key]at c;cases c;rw[h.oth b e]at hy;rcases hw b hb y hy with z|z
  ·exact absurd z e
  ·rcases z with z|z<;>lia
inductive Ag (hd:Hd) (z:List Nat):List (List Int×List Int)→Int→Int→Prop
 | nil:Ag hd z [] 0 0
 | no {C:List (List Int×List Int)} {A B:List Int} {k q:Int}:Ag hd z C k q→(Win hd A none∨Win hd B none)→Ag hd z (C++[(A,B)]) k q
 | eq {C:List (List Int×List Int)} {A B:List Int} {k q:Int} {a b:Int} {x y:List Nat}:Ag hd z C k q→Win hd A (some a)→Win hd B (some b)→hd a=some x→hd b=some y→lcp x z=lcp y z→Ag hd z (C++[(A,B)]) (k+1) (q+((lcp x y:Nat)-(lcp x z:Nat)+1))
 | ne {C:List (List Int×List Int)} {A B:List Int} {k q:Int} {a b:Int} {x y:List Nat}:Ag hd z C k q→Win hd A (some a)→Win hd B (some b)→hd a=some x→hd b=some y→lcp x z≠lcp y z→Ag hd z (C++[(A,B)]) (k+1) q
theorem Om{α:Type}{C D:List α}{c d:α}(h:C++[c]=D++[d]):C=D∧c=d:=by have:=List.append_inj' h rfl;exact⟨this.1,by simpa using this.2⟩
theorem Ag.last{hd:Hd}{z:List Nat}{D:List (List Int×List Int)}{k q:Int}(h:Ag hd z D k q):∀ {C:List (List Int×List Int)} {A B:List Int},D=C++[(A,B)]→∃k0 d,Ag hd z C k0 d∧(((Win hd A none∨Win hd B none)∧k=k0∧q=d)∨(∃a b x y,Win hd A (some a)∧Win hd B (some b)∧hd a=some x∧hd b=some y∧k=k0+1∧q=if lcp x z=lcp y z then d+((lcp x y:Nat)-(lcp x z:Nat)+1) else d)):=by
 intro C A B e;cases h with
 | nil=>simp at e
 | no g hw=>obtain⟨rfl,c⟩:=Om e;cases c;exact⟨_,_,g,.inl ⟨hw,rfl,rfl⟩⟩
 | eq g f i j l m=>obtain⟨rfl,c⟩:=Om e;cases c;exact⟨_,_,g,.inr ⟨_,_,_,_,f,i,j,l,rfl,by rw[if_pos m]⟩⟩
 | ne g f i j l m=>obtain⟨rfl,c⟩:=Om e;cases c;exact⟨_,_,g,.inr ⟨_,_,_,_,f,i,j,l,rfl,by rw[if_neg m]⟩⟩
theorem Ag.one{hd:Hd}{z:List Nat}{C:List (List Int×List Int)}{k q:Int}(h:Ag hd z C k q):∀ {k' e:Int},Ag hd z C k' e→k=k'∧q=e:=by
 induction h with
 | nil =>
  intro k' e g;generalize r:([]:List (List Int×List Int))=C at g;cases g with
  | nil=>exact⟨rfl,rfl⟩
  | no _ _=>simp at r
  | eq _ _ _ _ _ _=>simp at r
  | ne _ _ _ _ _ _=>simp at r
 | no g hw f =>
  intro k' e i;obtain⟨k0,D,j,o⟩:=i.last rfl;obtain⟨l,m⟩:=f j;rcases o with⟨_,rfl,rfl⟩|⟨a,b,x,y,c,d,_⟩
  ·exact⟨l,m⟩
  ·rcases hw with hw|hw
   ·exact nomatch hw.one c
   ·exact nomatch hw.one d
 | eq g c d s t u f =>
  intro k' e i;obtain⟨k0,D,j,o⟩:=i.last rfl;obtain⟨l,m⟩:=f j;rcases o with⟨hw,_⟩|⟨a,b,x,y,v,w,n,p,rfl,rfl⟩
  ·rcases hw with hw|hw
   ·exact nomatch hw.one c
   ·exact nomatch hw.one d
  ·have A:=Qr (c.one v);have B:=Qr (d.one w);subst A;subst B;rw[s]at n;cases n;rw[t]at p;cases p;rw[if_pos u];exact⟨by rw[l],by rw[m]⟩
 | ne g c d s t u f =>
  intro k' e i;obtain⟨k0,D,j,o⟩:=i.last rfl;obtain⟨l,m⟩:=f j;rcases o with⟨hw,_⟩|⟨a,b,x,y,v,w,n,p,rfl,rfl⟩
  ·rcases hw with hw|hw
   ·exact nomatch hw.one c
   ·exact nomatch hw.one d
  ·have A:=Qr (c.one v);have B:=Qr (d.one w);subst A;subst B;rw[s]at n;cases n;rw[t]at p;cases p;rw[if_neg u];exact⟨by rw[l],m⟩
theorem Ki:∀ (x z y:List Nat),lcp z y<lcp x z→ZT x y=ZT z y
 | [],z,y,h=>by rw[lcp_nil']at h;lia
 | _::_,[],y,h=>by rw[UY]at h;lia
 | a::x,b::z,[],h=>by unfold ZT;rfl
 | a::x,b::z,c::y,h=>by
  unfold lcp at h;by_cases e:a=b
  ·subst e;rw[if_pos rfl]at h;by_cases d:a=c
   ·subst d;rw[if_pos rfl]at h;unfold ZT;rw[if_pos rfl,if_pos rfl];exact Ki x z y #[2]
   ·unfold ZT;rw[if_neg d,if_neg d]
  ·rw[if_neg e]at h;lia
theorem Zo3{x z y:List Nat}(h:lcp z y<lcp x z):lcp x y=lcp z y:=by have:=Pf x y z;rw[Vz y z]at this;lia
theorem Zrc{x z y:List Nat}(h:lcp x z=lcp y z):lcp x z≤lcp x y:=by have:=Pf x y z;lia
theorem Kh{x z y:List Nat}{a b:Int}(h:lcp y z<lcp x z)(c:ZT z y≤0):Btr x a y b∧lcp x y=lcp y z:=by
 rw[Vz y z]at h ⊢;refine⟨.inl ?_,Zo3 h⟩;rw[Ki x z y h];rcases Int.lt_or_eq_of_le c with g|g
 ·exact g
 ·have e:=O9 _ _ g;subst e;rw[LD]at h;have:=(UZ x z).2;lia
noncomputable abbrev Com:=Option (Int×Int)
def Tz(hd:Hd)(z:List Nat)(M:List Int)(c:Com):Prop:=Win hd M (c.map (·.1))∧∀p,c=some p→∃x,hd p.1=some x∧p.2=((lcp x z:Nat):Int)
theorem Znh{hd c:Hd}{N M:List Int}{n:Int}{z:List Nat}{s:StL}(T:Tk hd c N n z)(hM:Sub N M)(h2:2≤M.length)(i:n∈M)(ok:ZV hd s N) :
  (Win c (Zt M n) none∧(Z2 s (ZR M)=none∨Z2 s (ZR M)=some none))∨∃t b y,Win c (Zt M n) (some b)∧c b=some y∧b∈N∧Z2 s (ZR M)=some (some (t,b,((lcp y z:Nat):Int))):=by
 have r:=hM.rise T.up;have nd:=TV r;have j:=Op r (UN i);have k:=(ok.sub hM).at_side h2 n;have p:∀b∈Zt M n,b∈M:=fun b d=>(R9 M n).mem_iff.mp (Qx _ d);have q:∀b∈ZX M n,b∈M:=fun b d=>(R9 M n).mem_iff.mp (QM _ d);have u:Win hd (ZX M n) (some n):=by obtain⟨_,x,f,hw⟩:=T.win;exact⟨UN i,x,f,fun b d y a=>hw b (hM.mem (q b d)) y a⟩
 have g:∀m∈Zt M n,c m=hd m:=fun m v=>T.oth m fun e=>j (e ▸ v);have A:(Zt M n).Nodup:=by unfold Zt;split;exact TV (Sw r);exact TV (Sx r)
 obtain⟨w,hw⟩:=Win.ex hd (Zt M n) A;cases w with
 | none=>exact .inl ⟨hw.congr g,k.2 (.inr hw)⟩
 | some b =>
  obtain⟨y,a⟩:∃y,hd b=some y:=by obtain⟨_,y,a,_⟩:=hw;exact⟨y,a⟩
  obtain⟨t,h,e,o⟩:=k.1 n b z y u hw T.key a;have l:=p b hw.1;have B:b≠n:=fun z=>j (z ▸ hw.1);have C:Btr z n y b:=by obtain⟨_,x,f,D⟩:=T.win;rw[T.key]at f;cases f;exact(D b (hM.mem l) y a).resolve_left B
  have E:h=b:=by
   rcases o with⟨_,e⟩|⟨e,_⟩
   ·exact e
   ·exact(C.asym e).elim
  subst E;exact .inr ⟨t,h,y,hw.congr g,by rw[g h hw.1];exact a,hM.mem l,by rw[Vz y z];exact e⟩
theorem Kg(ns:List Int):(X0 ns).length=(ns.length+1) / 2:=by unfold X0 mid;rw[QA];lia
theorem Kf(ns:List Int):(WV ns).length=ns.length / 2:=by unfold WV mid;rw[Q5];lia
noncomputable def WO:Nat→List Int→Int→List (List Int)
 | 0,_,_=>[]
 | f+1,ns,n=>if ns.length≤1 then [] else if n∈X0 ns then WV ns::WO f (X0 ns) n else X0 ns::WO f (WV ns) n
noncomputable def XV(ns:List Int)(n:Int):List Int:=if n∈X0 ns then X0 ns else WV ns
noncomputable def Wo(ns:List Int)(n:Int):List Int:=if n∈X0 ns then WV ns else X0 ns
theorem R4{ns:List Int}{n:Int}(h:1<ns.length):(XV ns n).length<ns.length:=by
 unfold XV;split
 ·rw[Kg];lia
 ·rw[Kf];lia
theorem ZnE{ns:List Int}{n:Int}(h:1<ns.length):0<(XV ns n).length:=by
 unfold XV;split
 ·rw[Kg];lia
 ·rw[Kf];lia
theorem Ol{f:Nat}{ns:List Int}{n:Int}(h:1<ns.length):WO (f+1) ns n=Wo ns n::WO f (XV ns n) n:=by
 conv=>lhs;unfold WO
 rw[if_neg #[2]];unfold Wo XV;split<;>rfl
theorem Vs{f:Nat}{ns:List Int}{n:Int}(h:ns.length≤1):WO f ns n=[]:=by
 cases f with
 | zero=>rfl
 | succ f=>unfold WO;rw[if_pos h]
theorem Ke:∀ (f g:Nat) (ns:List Int) (n:Int),ns.length≤f+1→ns.length≤g+1→WO f ns n=WO g ns n
 | 0,g,ns,n,h,_=>by rw[Vs #[2],Vs #[2]]
 | f+1,0,ns,n,_,h=>by rw[Vs #[2],Vs #[2]]
 | f+1,g+1,ns,n,h1,h2=>by
  by_cases h:1<ns.length
  ·have:=R4 (n:=n) h;rw[Ol h,Ol h,Ke f g _ n #[2] #[2]]
  ·rw[Vs #[2],Vs #[2]]
noncomputable def way(ns:List Int)(n:Int):List (List Int):=WO ns.length ns n
theorem Kd{ns:List Int}{n:Int}(h:1<ns.length):way ns n=Wo ns n::way (XV ns n) n:=by
 unfold way;cases e:ns.length with
 | zero=>lia
 | succ f=>have:=R4 (n:=n) h;rw[Ol h,Ke f (XV ns n).length _ n #[2] #[2]]
theorem Oj{ns:List Int}{n:Int}(h:ns.length≤1):way ns n=[]:=Vs h
theorem Oi(n:Int):∀ns:List Int,inV (.int n) (ns.map V.int)=decide (n∈ns)
 | []=>rfl
 | m::r=>by
  have a:=Oi n r;unfold inV at a ⊢;rw[Qj,QaQ,a];by_cases h:m=n
  ·subst h;simp[eqV]
  ·have:(m == n)=false:=by simpa using h
   simp[eqV,this,List.mem_cons,Ne.symm h]
theorem Oh:∀ns:List Int,(ns.map V.int).all WF=true
 | []=>rfl
 | _::r=>by rw[Qj,List.all_cons,Oh r];rfl
def Rd(H:Hp):List Addr→List (List Int)→Prop
 | [],[]=>True
 | l::a,d::ds=>H l=some (.lst (d.map V.int))∧Rd H a ds
 | _,_=>False
theorem Rd.len{H:Hp}:∀ {a:List Addr} {ds:List (List Int)},Rd H a ds→a.length=ds.length
 | [],[],_=>rfl
 | [],_::_,h=>h.elim
 | _::_,[],h=>h.elim
 | _::a,_::ds,h=>by rw[QL,QL,Rd.len h.2]
theorem Rd.mono{H H':Hp}:∀ {a:List Addr} {ds:List (List Int)},(∀l∈a,∀o,H l=some o→H' l=some o)→Rd H a ds→Rd H' a ds
 | [],[],_,_=>trivial
 | [],_::_,_,h=>h.elim
 | _::_,[],_,h=>h.elim
 | l::a,_::ds,k,h=>⟨k l #[4] _ h.1,Rd.mono (fun x hx=>k x (Qt _ hx)) h.2⟩
theorem Rd.app{H:Hp}:∀ {a:List Addr} {ds:List (List Int)} {b:List Addr} {c:List (List Int)},Rd H a ds→Rd H b c→Rd H (a++b) (ds++c)
 | [],[],_,_,_,h=>h
 | [],_::_,_,_,h,_=>h.elim
 | _::_,[],_,_,h,_=>h.elim
 | _::a,_::ds,_,_,h,g=>⟨h.1,Rd.app h.2 g⟩
theorem Rd.rev{H:Hp}:∀ {a:List Addr} {ds:List (List Int)},Rd H a ds→Rd H a.reverse ds.reverse
 | [],[],h=>h
 | [],_::_,h=>h.elim
 | _::_,[],h=>h.elim
 | l::a,d::ds,h=>by rw[QaI,QaI];exact Rd.app (Rd.rev h.2) ⟨h.1,trivial⟩
def Og:Sp:=fun vs H Q _=>∃ (a:Addr) (ns:List Int) (n:Int),vs=[.ref a,.int n]∧H a=some (.lst (ns.map V.int))∧1≤ns.length∧ns.length≤100 ∧
 ∀ (r:Addr) (b:List Addr) (c:Hp),H r=none→c r=some (.lst (b.map V.ref))→r ∉ b→(∀l∈b,H l=none)→Rd c b (way ns n).reverse→ZG H c→Q (.ref r) c
def Dn(H:Hp)(a o:Addr)(ns:List Int)(n:Int)(b:Addr)(c:List Int)(d:List Addr)(e:Hp):Prop :=
 ∃done:List (List Int),e b=some (.lst (c.map V.int))∧b≠o∧1≤c.length∧c.length≤100∧way ns n=done++way c n∧Rd e d done∧e o=some (.lst (d.map V.ref))∧ZG H e∧(∀l∈d,H l=none)∧o ∉ d∧d.length+c.length≤100
theorem Dn.step{H:Hp}{a o:Addr}{ns:List Int}{n:Int}{b:Addr}{d:List Int}{h:List Addr}{i f:Hp}(D:Dn H a o ns n b d h i)(v:H o=none)(h1:1<d.length)(s:ZG i f){x y:Addr}(hx:f x=some (.lst ((XV d n).map V.int)))(hy:f y=some (.lst ((Wo d n).map V.int)))(nx:i x=none)(j:i y=none) :
  Dn H a o ns n x (XV d n) (h++[y]) (upd f o (.lst (h.map V.ref++[.ref y]))):=by
 obtain⟨done,d1,d2,d3,d4,w,z,m,p,A,q,wQ⟩:=D;have r:x≠o:=(Zb m nx).symm;have t:y≠o:=(Zb m j).symm;have sl:=R4 (n:=n) h1;have k:∀l,l≠o→∀u,f l=some u→(upd f o (.lst (h.map V.ref++[.ref y]))) l=some u:=fun l hl u g=>by rw[Zc hl];exact g
 refine⟨done++[Wo d n],k x r _ hx,r,ZnE h1,by lia,by rw[w,Kd h1,Qa4];rfl,?_,?_,fun c u g=>?_,?_,?_,?_⟩
 ·refine Rd.app (Rd.mono (fun l hl u g=>k l (fun e=>q (e ▸ hl)) u (s _ _ g)) z) ⟨k y t _ hy,trivial⟩
 ·rw[Zd,Qf];rfl
 ·rw[Zc (Zb g v)];exact s _ _ (p _ _ g)
 ·intro l hl;rcases Qn.mp hl with hl|hl
  ·exact A l hl
  ·rw[Qk.mp hl];exact p.free j
 ·intro B;rcases Qn.mp B with hl|hl
  ·exact q hl
  ·exact t (Qk.mp hl).symm
 ·rw[Qi,Qy];lia
theorem ZqN(T:Z9 K mg ab U)(bS:Df P w K mg base 1 "halves" ["numbers"] (V6 K true)):Df P w K mg base 2 "way_up" ["numbers", "n"] Og:=by
 refine T.t_way_up.df VE (fun vs H Q E h=>?_) (fun ai f A outer s H vs Q E hr h=>?_)
 ·obtain⟨a,p,n,rfl,_⟩:=h;rfl
 obtain⟨a,p,n,rfl,L,h1,M,q⟩:=h;refine⟨_,#[Zf,#[ZD,2,VE.nd,#[3],#[YU,#[Ze]]],#[Zf,#[ZD,3,VE.nd,#[3],‹0›],#[Zf,(@UF _ _ _ _ _ _ PassesOwn.never #[Zl,We,#[Zk,(YB K),#[5],T.b.n_len,Qz,#[Za,‹3›,#[Ze]]],#[Zj],(Zs _)] #[Zf,#[Z0,#[Zz,bS,hr,#[Za,‹3›,#[Ze]],#[5]],#[gT,K,2,#[Zu,#[ZE,4,VE.nd,#[3]],#[Zu,#[ZE,5,VE.nd,#[3]],(@Yy _)]]]],#[Zi,#[ZW,#[Zl,(inQ K),‹1›,‹4›,(by with_unfolding_all rfl)],#[Zf,#[YL,#[Xy,QO,QS,QT,WE,‹2›,#[Za,‹5›,#[Ze]]]],#[Zi,#[ZD,3,VE.nd,#[3],‹4›]]],#[Zf,#[YL,#[Xy,QO,QS,QT,WE,‹2›,#[Za,‹4›,#[Ze]]]],#[Zi,#[ZD,3,VE.nd,#[3],‹5›]]]]]]),#[Zf,#[YL,(@ZrH _ _ _ _ _ _ _ _ _ QO PySem.F.slot_list_reverse PySem.F.type_list_reverse Zk9 ‹2› #[5] #[5])],#[Zi,#[Zp,‹2›]]]]]],?_⟩;refine⟨(by show 0≤sizeLine;decide),fun o g=>?_⟩;have N:a≠o:=Zb L g;refine⟨_,rfl,?_⟩;refine⟨fun m O R=>∃ (b:Addr) (d:List Int) (i:List Addr) (S W:Option V),O=[some (.ref a),some (.int n),some (.ref o),some (.ref b),S,W]∧Dn H a o p n b d i R∧m=d.length,⟨_,a,p,[],none,none,rfl,⟨[],?_,N,h1,M,rfl,trivial,Zd,Zh g _,(fun l j=>by cases j),(fun B=>by cases B),by simpa using M⟩,rfl⟩,?_⟩
 ·rw[Zc N];exact L
 rintro m O R ⟨b,d,i,S,W,rfl,D,rfl⟩;obtain⟨done,X,d2,d3,d4,d5,d6,C,d8,d9,Y,wQ⟩:=id D;have BZ:(((d.map V.int).length:Nat):Int)=(d.length:Int):=by rw[Qa]
 refine⟨_,rfl,b,_,rfl,.inl (SqL.of X),_,_,rfl,rfl,_,rfl,?_⟩;refine Y3 (fun c1=>?_) (fun c1=>?_)
 ·have uq:(1:Int)<(((d.map V.int).length:Nat):Int):=of_decide_eq_true c1;have F:1<d.length:=by lia
  refine⟨_,fun ak H' h=>h,?_⟩;refine⟨_,rfl,b,d,rfl,SqL.of X,d4,fun t x y H3 ht Z hy B0 et ex ey G B8 B'=>?_⟩;refine⟨t,_,rfl,SqT.of et,rfl,_,_,rfl,_,_,rfl,rfl,?_⟩;have r:=G _ _ C;have ah:(i.map V.ref).length<sizeLine:=by rw[Qa];exact Zy #[2]
  have sl:=R4 (n:=n) F;refine⟨_,rfl,_,rfl,x,_,rfl,.inl (SqL.of ex),rfl,Oh _,_,rfl,?_⟩;show if inV (V.int n) ((X0 d).map V.int)=true then _ else _
  rw[Oi];refine Y3 (fun c2=>?_) (fun c2=>?_)
  ·have k:n∈X0 d:=of_decide_eq_true c2;have I:XV d n=X0 d:=by unfold XV;rw[if_pos k]
   have J:Wo d n=WV d:=by unfold Wo;rw[if_pos k]
   refine⟨_,rfl,.inl ⟨rfl,_,SqL.of r⟩,_,rfl,o,_,_,rfl,rfl,r,ah,_,rfl,_,?_,x,XV d n,i++[y],_,_,rfl,D.step g F G (by rw[I];exact ex) (by rw[J];exact ey) Z hy,rfl⟩;exact sl
  ·have k:¬ n∈X0 d:=fun z=>c2 (decide_eq_true z);have I:XV d n=WV d:=by unfold XV;rw[if_neg k]
   have J:Wo d n=X0 d:=by unfold Wo;rw[if_neg k]
   refine⟨_,rfl,.inl ⟨rfl,_,SqL.of r⟩,_,rfl,o,_,_,rfl,rfl,r,ah,_,rfl,_,?_,y,XV d n,i++[x],_,_,rfl,D.step g F G (by rw[I];exact ey) (by rw[J];exact ex) hy Z,rfl⟩;exact sl
 ·have uq:¬ (1:Int)<(((d.map V.int).length:Nat):Int):=fun z=>c1 (decide_eq_true z);have e:way p n=done:=by rw[d5,Oj #[2],QaT]
  refine⟨_,rfl,.inl ⟨rfl,_,SqL.of C⟩,o,_,rfl,rfl,C,?_⟩;refine⟨_,rfl,q o i.reverse _ g (by rw[Zd,List.map_reverse]) (fun B=>Y (List.mem_reverse.mp B)) (fun l j=>d9 l (List.mem_reverse.mp j)) ?_ fun c u v=>?_⟩
  ·rw[e];refine Rd.mono (fun l j u v=>?_) d6.rev;rw[Zc (fun z=>by subst z;exact Y (List.mem_reverse.mp j))];exact v
  ·rw[Zc (Zb v g)];exact d8 _ _ v
theorem Kc:∀ (k:Nat) (M:List Int) (n:Int),M.length≤2 ^ k→(way M n).reverse=(ZN k M n).map (fun X=>Zt X n)
 | 0,M,n,h=>by rw[Oj (by simpa using h)];rfl
 | k+1,M,n,h=>by
  unfold ZN;by_cases h2:2≤M.length
  ·rw[if_pos h2,Kd #[2],QaI,Qf];have a:(ZX M n).length≤2 ^ k:=by
    rw[Qa6]at h;unfold ZX;split
    ·unfold lo mid;rw[QA];lia
    ·unfold up mid;rw[Q5];lia
   have e:=Kc k (ZX M n) n a;rw[← e];rfl
  ·rw[if_neg h2,Oj #[2]];rfl
theorem ZnP{M:List Int}(h:2≤M.length)(n:Int):Zt M n≠[]:=by
 unfold Zt;split
 ·exact XI (Wt h).2
 ·exact XI (WU h).2
theorem ZkH{M:List Int}(r:YS M)(h:2≤M.length)(n:Int):ZR M=(if (Zt M n).headD 0<(ZX M n).headD 0 then (Zt M n).headD 0 else (ZX M n).headD 0,if (Zt M n).getLastD 0>(ZX M n).getLastD 0 then (Zt M n).getLastD 0 else (ZX M n).getLastD 0):=by have a:=O2 h;have b:=O3 h;have l1:=UT (XI (WU h).2);have l2:=US (XI (WU h).2);have e:=UT (XI (Wt h).2);have f:=US (XI (Wt h).2);have c:=ZO r l1 e;have d:=ZO r l2 f;unfold ZX Zt;split<;>(refine Prod.ext ?_ ?_<;>dsimp only<;>first|lia|(split<;>lia))
theorem Rd.get{H:Hp}:∀ {c:List Addr} {ds:List (List Int)},Rd H c ds→∀ {i:Nat} {l:Addr} {d:List Int},c[i]? = some l→ds[i]? = some d→H l=some (.lst (d.map V.int))
 | [],[],_,i,l,d,h,_=>by simp at h
 | l::c,d::ds,⟨h1,h2⟩,0,a,b,e,f=>by simp at e f;rw[← e,← f];exact h1
 | l::c,d::ds,⟨h1,h2⟩,i+1,a,b,e,f=>Rd.get h2 (by simpa using e) (by simpa using f)
def Ka:Sp:=fun vs H Q _=>∃ (a:Addr) (N:List Int) (n:Int),vs=[.ref a,.int n]∧H a=some (.lst (N.map V.int))∧n∈N∧N.length≤60∧YS N ∧
 ∀ (r:Addr) (c:List Addr) (b:Hp),H r=none→b r=some (.lst (c.map V.ref))→c.length=(ZN 8 N n).length→(∀ (i:Nat) (t:Addr) (X:List Int),c[i]? = some t→(ZN 8 N n)[i]? = some X→b t=some (.tup [.int (ZR X).1,.int (ZR X).2]))→ZG H b→Q (.ref r) b
theorem Zlf(T:Z9 K mg ab U)(gj:Df P w K mg base 2 "way_up" ["numbers", "n"] Og):Df P w K mg base 3 "matches_up" ["numbers", "n"] Ka:=by
 refine T.t_matches_up.df VF (fun vs H Q E h=>?_) (fun ai f A outer s H vs Q E hr h=>?_)
 ·obtain⟨a,N,n,rfl,_⟩:=h;rfl
 obtain⟨a,N,n,rfl,ha,Z,fb,aT,q⟩:=h;refine⟨_,#[Zf,#[ZD,2,VF.nd,#[3],#[YU,#[Ze]]],#[Zf,#[ZD,3,VF.nd,#[3],‹1›],#[Zf,#[ZD,4,VF.nd,#[3],‹1›],#[Zf,#[X4,PassesOwn.never,#[iL,K,#[Zz,gj,hr,#[Za,‹0›,#[Za,‹1›,#[Ze]]],#[5]]],#[ZE,5,VF.nd,#[3]],#[Zf,#[ZD,3,VF.nd,#[3],#[Zk,(ZmU rfl),#[5],T.b.n_min,boot_min,#[Za,‹3›,#[Za,#[Zo,(ixL K),‹5›,#[Zj]],#[Ze]]]]],#[Zf,#[ZD,4,VF.nd,#[3],#[Zk,(Zmx rfl),#[5],T.b.n_max,boot_max,#[Za,‹4›,#[Za,#[Zo,(ixL K),‹5›,#[WJ,VX,#[Zj]]],#[Ze]]]]],#[Zi,#[YL,#[Xy,QO,QS,QT,WE,‹2›,#[Za,#[YV,#[Za,‹3›,#[Za,‹4›,#[Ze]]]],#[Ze]]]]]]]],#[Zi,#[Zp,‹2›]]]]]],?_⟩;have fG:=Qa7 Z;have jN:N.length≤2 ^ 8:=QB fb #[6];obtain⟨oh,oi,rC⟩:=R7 8 N n Z jN;refine⟨(by show 0≤sizeLine;decide),fun r G=>?_⟩;have I:=Zh G (.lst []);have g:(upd H r (.lst [])) r=some (.lst []):=Zd;generalize upd H r (.lst [])=H1 at I g ⊢;refine⟨_,rfl,_,rfl,_,rfl,_,rfl,a,N,n,rfl,I _ _ ha,fG,by lia,fun wy v H2 xz rD DF dr J L=>?_⟩;rw[Kc 8 N n jN]at J;have fF:=J.len;rw[Qa]at fF;have qc:=I.trans L;refine⟨wy,rfl,⟨_,SqL.of rD⟩,?_⟩;refine UE (K:=K) (a:=wy) (xs:=v.map V.ref) (fun i x d=>∃ (M:Option V) (c:List Addr),x=[some (.ref a),some (.int n),some (.ref r),some (.int ((low n (ZN 8 N n) i).headD 0)),some (.int ((low n (ZN 8 N n) i).getLastD 0)),M]∧i≤v.length∧c.length=i∧d r=some (.lst (c.map V.ref))∧(∀ (j:Nat) (t:Addr) (X:List Int),c[j]? = some t→(ZN 8 N n)[j]? = some X→d t=some (.tup [.int (ZR X).1,.int (ZR X).2]))∧(∀t∈c,t≠r∧∃xs,d t=some (.tup xs))∧(∀b o,H2 b=some o→b≠r→d b=some o)) ⟨_,[],rfl,Qw _,rfl,L _ _ g,(fun j t X h=>by simp at h),(fun t h=>by cases h),fun b o h _=>h⟩ (fun i x d _ hq=>by obtain⟨_,_,_,_,_,_,_,_,k3⟩:=hq;exact SqL.of (k3 _ _ rD (fun z=>by rw[z,g]at xz;cases xz))) ?_ ?_
 ·rintro i y x d k ⟨M,c,rfl,hi,O,e,R,qf,k3⟩;rw[Qm]at k;cases m:v[i]? with
  | none=>rw[m]at k;cases k
  | some l =>
  rw[m]at k;cases k;have bc:i<v.length:=(Qe.mp m).1;cases p:(ZN 8 N n)[i]? with
  | none=>rw[Qag]at p;lia
  | some X =>
  obtain⟨x1,x2,x3,x4⟩:=oh i X p;have S:H2 l=some (.lst ((Zt X n).map V.int)):=J.get m (by rw[Qm,p];rfl);have wP:l≠r:=fun z=>by rw[z]at S;rw[L _ _ g]at S;have:=dr l (Qo m);rw[z,g]at this;cases this
  have dC:=k3 _ _ S wP;have aW:=ZnP x2 n;have B:=ZkH (x1.rise aT) x2 n;rw[x4]at B;have e3:low n (ZN 8 N n) (i+1)=X:=by show (ZN 8 N n).getD i []=X;rw[QE,p];rfl
  refine⟨_,rfl,_,rfl,l,_,_,_,rfl,rfl,SqL.of dC,KG aW,_,_,rfl,?_⟩;refine⟨_,rfl,_,rfl,_,rfl,l,_,_,_,rfl,rfl,SqL.of dC,KH aW,_,_,rfl,?_⟩;refine⟨_,rfl,.inl ⟨rfl,_,SqL.of e⟩,_,rfl,_,rfl,(by show 2≤sizeLine;decide),fun t C=>?_⟩;have D:r≠t:=Zb e C;refine⟨r,_,_,rfl,rfl,by rw[Zc D];exact e,(by rw[Qa];exact Zy #[2]),?_⟩;refine⟨some (.ref l),c++[t],?_,bc,by rw[Qi,Qy];lia,by rw[Zd,Qf];rfl,fun j u Y hu W=>?_,fun u hu=>?_,fun b o F nb=>?_⟩
  ·rw[e3];have h1:=congrArg Prod.fst B;have h2:=congrArg Prod.snd B;simp only at h1 h2;rw[show X.headD 0=(ZR X).1 from rfl,show X.getLastD 0=(ZR X).2 from rfl,h1,h2];rfl
  ·have qg:∀ (u:Addr) (xs:List V),d u=some (.tup xs)→(upd (upd d t (.tup [.int (if (Zt X n).headD 0<(low n (ZN 8 N n) i).headD 0 then (Zt X n).headD 0 else (low n (ZN 8 N n) i).headD 0),.int (if (Zt X n).getLastD 0>(low n (ZN 8 N n) i).getLastD 0 then (Zt X n).getLastD 0 else (low n (ZN 8 N n) i).getLastD 0)])) r (.lst (c.map V.ref++[.ref t]))) u=some (.tup xs):=fun u xs hu=>by rw[Zc (fun z=>by rw[z,e]at hu;cases hu),Zc (Zb hu C)];exact hu
   by_cases hj:j<c.length
   ·rw[QJ hj]at hu;exact qg u _ (R j u Y hu W)
   ·have ej:j=c.length:=by have:=(Qe.mp hu).1;rw[Qi,Qy]at this;lia
    subst ej;rw[QK (Qh _),QaM]at hu;cases hu;rw[O,p]at W;cases W;rw[Zc D.symm,Zd,B]
  ·rcases Qn.mp hu with hu|hu
   ·obtain⟨g1,xs,g2⟩:=qf u hu;exact⟨g1,xs,by rw[Zc g1,Zc (Zb g2 C)];exact g2⟩
   ·rw[Qk.mp hu];exact⟨D.symm,_,by rw[Zc D.symm];exact Zd⟩
  ·have:=k3 b o F nb;rw[Zc nb,Zc (Zb this C)];exact this
 ·rintro x d ⟨M,c,rfl,_,O,e,R,_,k3⟩;rw[Qa]at O;exact⟨_,rfl,q r c d G e #[2] R (fun b o F=>k3 b o (qc b o F) (Zb F G))⟩
def CV(H:Hp)(v:V)(c:Com):Prop:=(c=none∧v=.non)∨∃ (t:Addr) (p:Int×Int),c=some p∧v=.ref t∧H t=some (.tup [.int p.1,.int p.2])
theorem CV.keep{H H':Hp}{v:V}{c:Com}(h:CV H v c)(k:∀t xs,H t=some (.tup xs)→H' t=some (.tup xs)):CV H' v c:=by
 rcases h with h|⟨t,p,a,b,d⟩
 ·exact .inl h
 ·exact .inr ⟨t,p,a,b,k _ _ d⟩
theorem Zod{s:StL}{k:Int×Int}{a:Option (Addr×Int×Int)}(h:Z2 s k=some a):s.any (fun e=>decide (e.1=k))=true:=Qax.mpr ⟨_,K8 h,decide_eq_true rfl⟩
theorem Of{s:StL}{k:Int×Int}{a v:Option (Addr×Int×Int)}(h:Z2 s k=some a):(Yt s k v).length=s.length:=by unfold Yt;rw[if_pos (Zod h),Qa]
def AgS(hd:Hd)(z:List Nat)(A B:List Int)(k q:Int):Prop:=∀C k0 a,Ag hd z C k0 a→Ag hd z (C++[(A,B)]) (k0+k) (a+q)
def J9(e f:Addr):Sp:=fun vs H Q _=>∃ (m rd sd:Addr) (L:List Zx) (s:StL) (nb li lo:Int) (g:V) (h:Addr) (v:V) (c:Com) (z:List Nat) (M:List Int) (n:Int),vs=[.ref m,.ref h,v]∧ZQ e f H m rd sd L s nb li lo g∧H h=some (.tup [.int (ZR M).1,.int (ZR M).2])∧CV H v c∧Tz (hdM L) z (ZX M n) c ∧
 ((Win (hdM L) (Zt M n) none∧(Z2 s (ZR M)=none∨Z2 s (ZR M)=some none))∨∃t b y,Win (hdM L) (Zt M n) (some b)∧hdM L b=some y∧Z2 s (ZR M)=some (some (t,b,((lcp y z:Nat):Int)))) ∧
 (∀b∈M,∀y,hdM L b=some y→ZT z y≤0)∧YS M∧(∀b∈M,b∈Zv L)∧2≤M.length∧n∈M ∧
 ∀ (i:V) (l:Com) (d:StL) (k q:Int) (a:Hp),CV a i l→Tz (hdM L) z M l→WP (hdM L) d (ZX M n) (Zt M n) (ZR M)→(∀j,j≠ZR M→Z2 d j=Z2 s j)→AgS (hdM L) z (ZX M n) (Zt M n) k q →
  ZQ e f a m rd sd L d nb (li+k) (lo+q) g→(∀b o,H b=some o→b≠m→b≠sd→a b=some o)→Q i a
theorem J8{L:List Zx}(nd:(Zv L).Nodup){b:Int}(hb:b∈Zv L){y:List Nat}(hy:hdM L b=some y):∃e∈L,e.n=b∧∃x,e.ss[e.g]? = some x∧y=cds x:=by
 obtain⟨e,c,rfl⟩:=TK hb;rw[Vu nd c]at hy;cases a:e.ss[e.g]? with
 | none=>rw[a]at hy;cases hy
 | some x=>rw[a]at hy;cases hy;exact⟨e,c,rfl,x,a,rfl⟩
theorem Zn5(T:Z9 K mg ab U)(aU:Mf P w K mg base 3 U "meet" ["self", "one", "other", "far"] (Ox ab U)):Mf P w K mg base 4 U "play_again" ["self", "meeting", "comer"] (J9 ab U):=by
 refine T.t_Merge_play_again.mf T5 (fun vs H Q E h=>?_) (fun ai f A outer s H vs Q E hr h=>?_)
 ·obtain⟨m,rd,I,L,s,nb,li,lo,ae,tm,v,c,z,M,n,rfl,_⟩:=h;rfl
 obtain⟨m,rd,I,L,s,nb,li,lo',ae,tm,v,c,z,M,n,rfl,Mg,ig,qh,⟨wS,xA⟩,bK,cj,aT,gx,h2,hn,q⟩:=h;refine⟨_,#[Zf,#[ZD,3,T5.nd,#[3],(@Zq6 _ _ _ _ _ _ _ _ hr #[ZK,‹0›] ‹1› #[5] #[5] #[5])],#[Zf,#[ZW,#[Zl,XR,‹3›,#[ZZ],(Zs _)],#[Zi,#[Zp,‹2›]],#[ZH]],#[Zf,#[ZW,#[Zl,XR,‹2›,#[ZZ],(Zs _)],#[Zf,#[Z0,#[ZZ],#[YI,#[ZK,‹0›],‹1›,(Ym hr)]],#[Zi,#[Zp,‹3›]]],#[ZH]],#[Zf,#[ZW,#[Zl,YH,#[Zo,(ixT K),‹2›,#[Zj]],#[Zo,(ixT K),‹3›,#[Zj]],(Zs _)],#[Zf,#[Z0,#[X1,aU,T.cl_Merge,hr,‹0›,#[Za,#[Zo,(ixT K),‹2›,#[Zj]],#[Za,#[Zo,(ixT K),‹3›,#[Zj]],#[Za,#[Zo,(ixT K),‹2›,#[Zj]],#[Ze]]]]],#[gT,K,3,#[Zu,#[ZE,4,T5.nd,#[3]],#[Zu,#[ZE,5,T5.nd,#[3]],#[Zu,#[ZE,6,T5.nd,#[3]],(@Yy _)]]]]],#[Zf,#[Z0,#[YV,#[Za,‹5›,#[Za,‹6›,#[Ze]]]],#[YI,#[ZK,‹0›],‹1›,(Ym hr)]],#[Zi,#[Zp,#[YV,#[Za,‹4›,#[Za,#[Zo,(ixT K),‹2›,#[Zj]],#[Ze]]]]]]]],#[ZH]],#[Zf,#[VU,‹0›,#[Zj],UB],#[Zf,#[ZW,#[Zl,We,#[Zo,(ixT K),‹2›,#[Zj]],#[Zo,(ixT K),‹3›,#[Zj]],(Zs _)],#[Zi,#[Zp,‹2›]],#[ZH]],#[Zf,#[Z0,‹2›,#[YI,#[ZK,‹0›],‹1›,(Ym hr)]],#[Zi,#[Zp,‹3›]]]]]]]]],?_⟩;obtain⟨dx,N⟩:=Mg.ob;have lE:H tm=some (.tup (([.inl (ZR M).1,.inl (ZR M).2]:List Key).map kV)):=ig;have Z:=R9 M n;have dg:=ZP.t (k:=[.inl (ZR M).1,.inl (ZR M).2]) Mg.stays lE;rw[K9]at dg;have sA:∀b∈ZX M n,b∈M:=fun b r=>Z.mem_iff.mp (QM _ r);have sB:∀b∈Zt M n,b∈M:=fun b r=>Z.mem_iff.mp (Qx _ r);have cJ:=Op aT (UN hn);have Ca:∀a b,a∈ZX M n→b∈Zt M n→a≠b:=fun a b ha r e=>by
  subst e;unfold ZX Zt at *
  split at ha
  ·rename_i hl;rw[if_pos hl]at r;have:=ZO aT ha r;lia
  ·rename_i hl;rw[if_neg hl]at r;have:=ZO aT r ha;lia
 refine⟨_,rfl,m,U,dx,_,_,rfl,N,T.cl_Merge,T.na_Merge_stays,UP ..,I,rfl,.inr ⟨_,.inl Mg.stays⟩,_,rfl,_,dg,?_⟩;rcases bK with⟨u,W⟩|⟨t,b,y,u,D,W⟩
 ·have ev:((Z2 s (ZR M)).map stV).getD .non=.non:=by rcases W with e|e<;>rw[e]<;>rfl
  rw[ev];refine⟨_,rfl,rfl,_,rfl,YE rfl ⟨_,rfl,q v c s 0 0 H qh ⟨(Win.left wS u).perm Z,xA⟩ ⟨(fun a b x y _ wb _ _=>nomatch u.one wb),fun _=>W⟩ (fun _ _=>rfl) (fun C k0 q0 g=>by rw[QR,QR];exact .no g (.inr u)) (Mg.cast #[2] #[2]) (fun b o h _ _=>h)⟩⟩
 have bo:=Mg.ats _ (K8 W) _ rfl;have e1:((Z2 s (ZR M)).map stV).getD .non=.ref t:=by rw[W];rfl
 rw[e1];have n5:=Mg.sfew;have dO:(kvS s).length<sizeLine:=by unfold kvS;rw[Qa];exact Zy #[2]
 refine⟨_,rfl,rfl,_,rfl,Yn (fun z=>nomatch z) ?_⟩;have og:=sB b u.1;rcases qh with⟨rfl,rfl⟩|⟨F,p,rfl,rfl,J⟩
 ·refine⟨_,rfl,rfl,_,rfl,YE rfl ?_⟩;refine⟨_,rfl,m,U,dx,_,_,rfl,N,T.cl_Merge,T.na_Merge_stays,UP ..,_,rfl,I,_,rfl,YN.t (k:=[.inl (ZR M).1,.inl (ZR M).2]) Mg.stays lE dO,?_⟩;rw[show V.non=stV none from rfl,Sy];have il:(Yt s (ZR M) none).length≤100:=by rw[Of W];exact n5
  have M2:=Mg.put (k:=ZR M) (v:=none) (fun t X=>by cases X) il (Mg.kb.key aT h2 gx);have B:Win (hdM L) (ZX M n) none:=wS;refine⟨_,rfl,q (.ref t) (some (b,((lcp y z:Nat):Int))) _ 0 0 _ (.inr ⟨t,_,rfl,rfl,?_⟩) ⟨(Win.right B u).perm Z,fun p hp=>?_⟩ ⟨(fun a b x y wa _ _ _=>nomatch B.one wa),fun _=>.inr ?_⟩ (fun j hj=>?_) (fun C k0 q0 g=>?_) (M2.cast #[2] #[2]) (fun b o r _ n2=>by rw[Zc n2];exact r)⟩
  ·rw[Zc (fun z=>by rw[z,Mg.stays]at bo;cases bo)];exact bo
  ·cases hp;exact⟨y,D,rfl⟩
  ·rw[WT,if_pos rfl]
  ·rw[WT,if_neg hj]
  ·rw[QR,QR];exact .no g (.inl B)
 obtain⟨a,fa⟩:=p;obtain⟨x,G,xB⟩:=xA _ rfl;simp only at G xB;subst xB;have B:Win (hdM L) (ZX M n) (some a):=wS;have xC:=sA a B.1;have jF:=Ca a b B.1 u.1;obtain⟨O,p7,rfl,i,Cb,rfl⟩:=J8 Mg.nd (gx a xC) G;obtain⟨eb,p8,rfl,l,Cc,rfl⟩:=J8 Mg.nd (gx b og) D;have c0:atI [V.int O.n,.int ((lcp (cds i) z:Nat):Int)] 0=some (.int O.n):=Yx (j:=0) rfl;have c1:atI [V.int O.n,.int ((lcp (cds i) z:Nat):Int)] 1=some (.int ((lcp (cds i) z:Nat):Int)):=Yx (j:=1) rfl;have d0:atI [V.int eb.n,.int ((lcp (cds l) z:Nat):Int)] 0=some (.int eb.n):=Yx (j:=0) rfl;have d1:atI [V.int eb.n,.int ((lcp (cds l) z:Nat):Int)] 1=some (.int ((lcp (cds l) z:Nat):Int)):=Yx (j:=1) rfl;refine⟨_,rfl,rfl,_,rfl,Yn (fun z=>nomatch z) ?_⟩;refine⟨_,rfl,F,_,_,_,rfl,rfl,SqT.of J,c1,_,rfl,t,_,_,_,rfl,rfl,SqT.of bo,d1,rfl,_,rfl,Y3 (fun d=>?_) (fun d=>?_)⟩
 ·have ef:lcp (cds i) z=lcp (cds l) z:=by have:=of_decide_eq_true d;injection this with this;lia
  have m9:=Zrc ef;refine⟨_,rfl,m,dx,_,rfl,N,KD ..,_,rfl,F,_,_,_,rfl,rfl,SqT.of J,c0,_,rfl,t,_,_,_,rfl,rfl,SqT.of bo,d0,_,rfl,F,_,_,_,rfl,rfl,SqT.of J,c1,?_⟩;refine⟨m,rd,I,L,s,nb,li,lo',ae,O,eb,i,l,lcp (cds i) z,rfl,Mg,p7,p8,Cb,Cc,m9,fun t5 wi R H5 hw ug nR M5 b5=>?_⟩;refine⟨t5,_,rfl,SqT.of nR,rfl,_,_,rfl,_,_,rfl,_,_,rfl,rfl,?_⟩;have gX:2≤sizeLine:=by decide
  refine⟨_,rfl,_,rfl,gX,fun S nT=>?_⟩;have s6:=Zh nT (.tup [.int R,.int ((lcp (cds i) (cds l):Nat):Int)]);have jL:(upd H5 S (.tup [.int R,.int ((lcp (cds i) (cds l):Nat):Int)])) S=some (.tup [.int R,.int ((lcp (cds i) (cds l):Nat):Int)]):=Zd;have M6:=M5.same s6;generalize upd H5 S (.tup [.int R,.int ((lcp (cds i) (cds l):Nat):Int)])=H6 at s6 jL M6 ⊢;obtain⟨nU,lZ⟩:=M6.ob;have ur:tm≠m:=fun z=>by rw[z,N]at ig;cases ig
  have oj:F≠m:=fun z=>by rw[z,N]at J;cases J
  have xD:H6 tm=some (.tup (([.inl (ZR M).1,.inl (ZR M).2]:List Key).map kV)):=s6 _ _ (b5 _ _ lE ur);refine⟨_,rfl,m,U,nU,_,_,rfl,lZ,T.cl_Merge,T.na_Merge_stays,UP ..,_,rfl,I,_,rfl,YN.t (k:=[.inl (ZR M).1,.inl (ZR M).2]) M6.stays xD dO,?_⟩;rw[show V.ref S=stV (some (S,R,((lcp (cds i) (cds l):Nat):Int))) from rfl,Sy];have il:(Yt s (ZR M) (some (S,R,((lcp (cds i) (cds l):Nat):Int)))).length≤100:=by rw[Of W];exact n5
  have M7:=M6.put (k:=ZR M) (v:=some (S,R,((lcp (cds i) (cds l):Nat):Int))) (fun t X=>by injection X with X;rw[← X];exact jL) il (Mg.kb.key aT h2 gx);have b7:∀b o,H b=some o→b≠m→b≠I→(upd H6 I (.dT (kvS (Yt s (ZR M) (some (S,R,((lcp (cds i) (cds l):Nat):Int))))))) b=some o:=fun b o r n1 n2=>by rw[Zc n2];exact s6 _ _ (b5 b o r n1)
  have xE:F≠I:=fun z=>by rw[z,Mg.stays]at J;cases J
  generalize upd H6 I (.dT (kvS (Yt s (ZR M) (some (S,R,((lcp (cds i) (cds l):Nat):Int))))))=H7 at M7 b7 ⊢;refine⟨_,rfl,_,rfl,F,_,_,_,rfl,rfl,SqT.of (b7 _ _ J oj xE),c1,gX,fun t8 xF=>?_⟩;have wn:Win (hdM L) M (some wi):=by
   rcases hw with⟨Y,rfl,_⟩|⟨Y,rfl,_⟩
   ·exact(Win.both B u G D Y).perm Z
   ·exact(Win.both' B u G D ((Btr.total jF).resolve_left Y)).perm Z
  refine q (.ref t8) (some (wi,((lcp (cds i) z:Nat):Int))) _ 1 ((lcp (cds i) (cds l):Nat)-(lcp (cds i) z:Nat)+1) _ (.inr ⟨t8,_,rfl,rfl,Zd⟩) ⟨wn,fun p hp=>?_⟩ ⟨fun a b x' y' wa wb kJ kK=>?_,fun cJ=>?_⟩ (fun j hj=>by rw[WT,if_neg hj]) (fun C k0 q0 g=>.eq g B u G D ef) ((M7.same (Zh xF _)).cast rfl rfl) (fun b o r n1 n2=>Zh xF _ _ _ (b7 b o r n1 n2))
  ·cases hp;rcases hw with⟨Y,rfl,_⟩|⟨Y,rfl,_⟩
   ·exact⟨_,G,rfl⟩
   ·exact⟨_,D,by simp only;rw[ef]⟩
  ·have e1:=Qr (wa.one B);have e2:=Qr (wb.one u);subst e1;subst e2;have e3:=Qr (kJ.symm.trans G);have e4:=Qr (kK.symm.trans D);subst e3;subst e4;refine⟨S,R,by rw[WT,if_pos rfl],?_⟩;rcases hw with⟨Y,_,rfl⟩|⟨Y,_,rfl⟩
   ·exact .inl ⟨Y,rfl⟩
   ·exact .inr ⟨(Btr.total jF).resolve_left Y,rfl⟩
  ·rcases cJ with z|z
   ·exact nomatch z.one B
   ·exact nomatch z.one u
 have xG:lcp (cds i) z≠lcp (cds l) z:=fun e=>d (decide_eq_true (by rw[e]));refine⟨_,rfl,m,U,dx,_,_,rfl,N,T.cl_Merge,T.na_Merge_likened,Sf ..,_,_,rfl,rfl,dx,_,N,XH ..,?_⟩;rw[Oy];have M2:=Mg.obj (nb':=nb) (li':=li+1) (lo':=lo') (best':=ae) (dx:=dx);have k2:∀b o,H b=some o→b≠m→(upd H m (.ins U dx (mgF rd nb (li+1) lo' I ae))) b=some o:=fun b o r n=>by rw[Zc n];exact r
 have oj:F≠m:=fun z=>by rw[z,N]at J;cases J
 have Cd:t≠m:=fun z=>by rw[z,N]at bo;cases bo
 have ur:tm≠m:=fun z=>by rw[z,N]at ig;cases ig
 generalize upd H m (.ins U dx (mgF rd nb (li+1) lo' I ae))=H2 at M2 k2 ⊢;have on:=k2 _ _ J oj;have lF:=k2 _ _ bo Cd;refine⟨_,rfl,F,_,_,_,rfl,rfl,SqT.of on,c1,_,rfl,t,_,_,_,rfl,rfl,SqT.of lF,d1,_,_,rfl,rfl,_,rfl,Y3 (fun g=>?_) (fun g=>?_)⟩
 ·have Ce:lcp (cds l) z<lcp (cds i) z:=by have:((lcp (cds l) z:Nat):Int)<((lcp (cds i) z:Nat):Int):=of_decide_eq_true g;lia
  obtain⟨bt,el⟩:=Kh (a:=O.n) (b:=eb.n) Ce (cj _ og _ D);refine⟨_,rfl,q (.ref F) (some (O.n,((lcp (cds i) z:Nat):Int))) s 1 0 H2 (.inr ⟨F,_,rfl,rfl,on⟩) ⟨(Win.both B u G D bt).perm Z,fun p hp=>by cases hp;exact⟨_,G,rfl⟩⟩ ⟨fun a b x' y' wa wb kJ kK=>?_,fun cJ=>?_⟩ (fun _ _=>rfl) (fun C k0 q0 g=>by rw[QR];exact .ne g B u G D xG) (M2.cast rfl #[2]) (fun b o r n1 _=>k2 b o r n1)⟩
  ·have e1:=Qr (wa.one B);have e2:=Qr (wb.one u);subst e1;subst e2;have e3:=Qr (kJ.symm.trans G);have e4:=Qr (kK.symm.trans D);subst e3;subst e4;exact⟨t,_,by rw[el];exact W,.inl ⟨bt,rfl⟩⟩
  ·rcases cJ with z|z
   ·exact nomatch z.one B
   ·exact nomatch z.one u
 ·have ah:lcp (cds i) z<lcp (cds l) z:=by have:¬ ((lcp (cds l) z:Nat):Int)<((lcp (cds i) z:Nat):Int):=fun e=>g (decide_eq_true e);lia
  obtain⟨bt,el⟩:=Kh (a:=eb.n) (b:=O.n) ah (cj _ xC _ G);obtain⟨gg,bG⟩:=M2.ob;have xH:H2 tm=some (.tup (([.inl (ZR M).1,.inl (ZR M).2]:List Key).map kV)):=k2 _ _ lE ur;refine⟨_,rfl,_,rfl,m,U,gg,_,_,rfl,bG,T.cl_Merge,T.na_Merge_stays,UP ..,_,rfl,I,_,rfl,YN.t (k:=[.inl (ZR M).1,.inl (ZR M).2]) M2.stays xH dO,?_⟩;rw[show V.ref F=stV (some (F,O.n,((lcp (cds i) z:Nat):Int))) from rfl,Sy];have il:(Yt s (ZR M) (some (F,O.n,((lcp (cds i) z:Nat):Int)))).length≤100:=by rw[Of W];exact n5
  have M3:=M2.put (k:=ZR M) (v:=some (F,O.n,((lcp (cds i) z:Nat):Int))) (fun t X=>by injection X with X;rw[← X];exact on) il (Mg.kb.key aT h2 gx);refine⟨_,rfl,q (.ref t) (some (eb.n,((lcp (cds l) z:Nat):Int))) _ 1 0 _ (.inr ⟨t,_,rfl,rfl,?_⟩) ⟨(Win.both' B u G D bt).perm Z,fun p hp=>by cases hp;exact⟨_,D,rfl⟩⟩ ⟨fun a b x' y' wa wb kJ kK=>?_,fun cJ=>?_⟩ (fun j hj=>by rw[WT,if_neg hj]) (fun C k0 q0 g=>by rw[QR];exact .ne g B u G D xG) (M3.cast rfl #[2]) (fun b o r n1 n2=>by rw[Zc n2];exact k2 b o r n1)⟩
  ·rw[Zc (fun z=>by rw[z,M2.stays]at lF;cases lF)];exact lF
  ·have e1:=Qr (wa.one B);have e2:=Qr (wb.one u);subst e1;subst e2;have e3:=Qr (kJ.symm.trans G);have e4:=Qr (kK.symm.trans D);subst e3;subst e4;exact⟨F,_,by rw[WT,if_pos rfl,Vz (cds i) (cds l),el],.inr ⟨bt,rfl⟩⟩
  ·rcases cJ with z|z
   ·exact nomatch z.one B
   ·exact nomatch z.one u
noncomputable def Xr(n:Int)(e:Zx):Zx:=if e.n=n then ⟨e.n,e.p,e.k,e.f,e.ss,e.g+1⟩ else e
noncomputable def bump(L:List Zx)(n:Int):List Zx:=L.map (Xr n)
theorem Vr(n:Int)(e:Zx):(Xr n e).n=e.n∧(Xr n e).p=e.p∧(Xr n e).k=e.k∧(Xr n e).f=e.f∧(Xr n e).ss=e.ss:=by unfold Xr;split<;>exact⟨rfl,rfl,rfl,rfl,rfl⟩
theorem R3{n:Int}{e:Zx}(h:e.n=n):Xr n e=⟨e.n,e.p,e.k,e.f,e.ss,e.g+1⟩:=if_pos h
theorem Oe{n:Int}{e:Zx}(h:¬ e.n=n):Xr n e=e:=if_neg h
theorem Vq(L:List Zx)(n:Int):Zv (bump L n)=Zv L:=by unfold Zv bump;rw[Qg];exact QC fun e _=>(Vr n e).1
theorem Zpq(L:List Zx)(n:Int):(bump L n).map (·.p)=L.map (·.p):=by unfold bump;rw[Qg];exact QC fun e _=>(Vr n e).2.1
theorem ZnD(L:List Zx)(n:Int):kvM (bump L n)=kvM L:=by unfold kvM bump;rw[Qg];refine QC fun e _=>?_;simp only[Function.comp];rw[(Vr n e).1,(Vr n e).2.1]
theorem Zpr{m rd sd:Addr}{L:List Zx}{n:Int}{b:Addr}(h:Fp m rd sd (bump L n) b):Fp m rd sd L b:=by
 rcases h with h|h|h|⟨e',a,h⟩
 ·exact .inl h
 ·exact .inr (.inl h)
 ·exact .inr (.inr (.inl h))
 ·obtain⟨e,c,rfl⟩:=Ql.mp a;obtain⟨_,d,f,g,_⟩:=Vr n e;rw[d,f,g]at h;exact .inr (.inr (.inr ⟨e,c,h⟩))
theorem Fp_bump'{m rd sd:Addr}{L:List Zx}{n:Int}{b:Addr}(h:Fp m rd sd L b):Fp m rd sd (bump L n) b:=by
 rcases h with h|h|h|⟨e,a,h⟩
 ·exact .inl h
 ·exact .inr (.inl h)
 ·exact .inr (.inr (.inl h))
 ·obtain⟨_,c,d,f,_⟩:=Vr n e;refine .inr (.inr (.inr ⟨Xr n e,Qd a,?_⟩));rw[c,d,f];exact h
theorem J7{n b:Int}(h:b≠n):∀L:List Zx,hdM (bump L n) b=hdM L b
 | []=>rfl
 | e::L=>by
  have c:=J7 h L;unfold hdM hdL bump at c ⊢;rw[Qj,Qj,Qj,Qae,Qae];have d:(toL (Xr n e)).1=e.n:=(Vr n e).1;rw[d];by_cases a:e.n=b
  ·rw[decide_eq_true a,decide_eq_true (show (toL e).1=b from a),Oe (fun z=>h (a.symm.trans z))]
  ·rw[decide_eq_false a,decide_eq_false (show ¬ (toL e).1=b from a)];exact c
theorem J6{L:List Zx}(nd:(Zv L).Nodup){e:Zx}(he:e∈L):hdM (bump L e.n) e.n=(e.ss[e.g+1]?).map cds:=by have a:Xr e.n e∈bump L e.n:=Qd he;rw[R3 rfl]at a;exact Vu (L:=bump L e.n) (by rw[Vq];exact nd) a
theorem Od(k f:Addr)(g:Int):Y0 k f g=([("all_keys",.ref k),("fars",.ref f),("gone",.int g)]:List (Str×V)):=by unfold Y0;rw[Xj,ZC nFK,Xj,ZC nGK,ZC nGF,Xj]
theorem J5(k f:Addr)(g v:Int):ZA "gone" (.int v) (Y0 k f g)=Y0 k f v:=by rw[Od,Od,ZC nGK,ZC nGF,Wp]
theorem R0(k f:Addr)(g:Int):(Y0 k f g).length<1000:=by rw[Od];show 3<1000;decide
theorem Zmy(k f:Addr)(g:Int):(Y0 k f g).lookup ("fars" : Str)=some (.ref f):=by unfold Y0;rw[Zn,if_neg nGF,Zn,if_pos rfl]
theorem J4{L:List Zx}(pd:(L.map (·.p)).Nodup){e e':Zx}(he:e∈L)(a:e'∈L)(h:e.p=e'.p):e=e':=by
 have b:((L.map fun x=>(x.p,x)).map (·.1)).Nodup:=by rw[Qg];exact pd
 have:=WQ b (Qd (f:=fun x:Zx=>(x.p,x)) he) (Qd (f:=fun x:Zx=>(x.p,x)) a) h;injection this
theorem ZQ.bump{b h:Addr}{H:Hp}{m rd sd:Addr}{L:List Zx}{s:StL}{nb li lo:Int}{i:V}(M:ZQ b h H m rd sd L s nb li lo i){e:Zx}(he:e∈L)(k:e.g<e.ss.length){dp:Addr} :
  ZQ b h (upd H e.p (.ins b dp (Y0 e.k e.f ((e.g+1:Nat):Int)))) m rd sd (My.bump L e.n) s nb li lo i:=by
 obtain⟨l,n⟩:=M.ob;obtain⟨dq,c⟩:=(M.each e he).at'.ob;obtain⟨o,_,_⟩:=M.ne_p he;obtain⟨d,_,_,p,_,_⟩:=M.ne_sd he;refine⟨⟨l,by rw[Zc o];exact n⟩,by rw[Zc p,ZnD];exact M.rows,by rw[Zc d];exact M.stays,fun x a t q=>?_,fun e' r=>?_,by rw[Vq];exact M.up,by rw[Zpq];exact M.pd,by unfold My.bump;rw[Qa];exact M.few,M.sfew,⟨M.kb.1,by rw[Vq];exact M.kb.2⟩⟩
 ·have:=M.ats x a t q;rw[Zc (fun z=>by rw[z,c]at this;cases this)];exact this
 ·obtain⟨x,a,rfl⟩:=Ql.mp r;have R:=M.each x a;have u:∀ {y:Zx},y∈L→y.k≠e.p∧y.f≠e.p:=fun {y} v=>by have j:=M.each y v;exact⟨(fun z=>by have:=j.at'.ks;rw[z,c]at this;cases this),(fun z=>by have:=j.at'.fs;rw[z,c]at this;cases this)⟩
  obtain⟨k1,k2⟩:=u a;by_cases g:x.n=e.n
  ·have ex:x=e:=by
    have d:((L.map fun x=>(x.n,x)).map (·.1)).Nodup:=by rw[Qg];exact M.nd
    have:=WQ d (Qd (f:=fun x:Zx=>(x.n,x)) a) (Qd (f:=fun x:Zx=>(x.n,x)) he) g;injection this
   subst ex;rw[R3 rfl];exact⟨⟨⟨dp,Zd⟩,by show (upd H x.p _) x.k=_;rw[Zc k1];exact R.at'.ks,by show (upd H x.p _) x.f=_;rw[Zc k2];exact R.at'.fs⟩,k,R.len,R.srt,R.str⟩
  ·rw[Oe g];exact R.keep (Zc (fun z=>g (by rw[J4 M.pd a he z]))) (Zc k1) (Zc k2)
theorem Zsp{L:List Zx}{e:Zx}{x:Str}(nd:(Zv L).Nodup)(up:YS (Zv L))(he:e∈L)(hx:e.ss[e.g]? = some x)(srt:sortedS e.ss=true)(W:Win (hdM L) (Zv L) (some e.n)):Tk (hdM L) (hdM (bump L e.n)) (Zv L) e.n (cds x):=by
 refine⟨W,by rw[Vu nd he,hx];rfl,fun b d=>J7 d L,fun y a=>?_,up⟩;rw[J6 nd he]at a;cases c:e.ss[e.g+1]? with
 | none=>rw[c]at a;cases a
 | some f=>rw[c]at a;cases a;exact Lm srt e.g x f hx c
theorem ZqJ{c:Bool}{b d:VK→Prop}{Q:VK}(P:V→Hp→Prop)(h1:c=true→∀a:VK,(∀v H,P v H→a v H)→b a)(h2:c=false→∀a:VK,(∀v H,P v H→a v H)→d a)(q:∀v H,P v H→Q v H):if c=true then b Q else d Q:=by
 cases c with
 | true=>rw[if_pos rfl];exact h1 rfl Q q
 | false=>rw[if_neg #[6]];exact h2 rfl Q q
noncomputable def WN(n:Int)(C:List (List Int)):List (List Int×List Int):=C.map fun X=>(ZX X n,Zt X n)
theorem ZjA(rd:Addr)(nb li lo:Int)(sd:Addr)(a:V):(mgF rd nb li lo sd a).lookup ("play_again" : Str)=none:=Yh _ _ _ _ _ _ #[1] #[1] #[1] #[1] #[1] #[1]
def J3(c d:Addr):Sp:=fun vs H Q _=>∃ (m rd sd:Addr) (L:List Zx) (s:StL) (nb li lo:Int) (h:V) (e:Zx) (x:Str),vs=[.ref m,.int e.n]∧ZQ c d H m rd sd L s nb li lo h∧e∈L∧e.ss[e.g]? = some x∧Win (hdM L) (Zv L) (some e.n)∧ZV (hdM L) s (Zv L) ∧
 ∀ (f:StL) (g:Option Int) (k q:Int) (a:Hp),ZQ c d a m rd sd (bump L e.n) f nb (li+k) (lo+q) (Y4 g)→Win (hdM (bump L e.n)) (Zv L) g→ZV (hdM (bump L e.n)) f (Zv L)→Ag (hdM (bump L e.n)) (cds x) (WN e.n (ZN 8 (Zv L) e.n)) k q→(∀b o,H b=some o→¬ Fp m rd sd L b→a b=some o)→Q .non a
theorem ZoQ(T:Z9 K mg ab U)(al:Mf P w K mg base 2 ab "head" ["self"] (Vx ab))(cQ:Df P w K mg base 3 "matches_up" ["numbers", "n"] Ka)(br:Mf P w K mg base 4 U "play_again" ["self", "meeting", "comer"] (J9 ab U)):Mf P w K mg base 5 U "send_out" ["self", "number"] (J3 ab U):=by
 refine T.t_Merge_send_out.mf T6 (fun vs H Q E h=>?_) (fun ai f A outer s H vs Q E hr h=>?_)
 ·obtain⟨m,O,G,L,s,nb,li,lo,ae,e,x,rfl,_⟩:=h;rfl
 obtain⟨m,O,G,L,s,nb,li,lo',ae,e,x,rfl,M,S,hx,W,ok,q⟩:=h;refine⟨_,#[Zf,#[ZD,2,T6.nd,#[3],#[Zo,(ixG hr),#[ZK,‹0›],‹1›]],#[Zf,#[VU,‹2›,#[Zj],UB],#[Zf,#[ZD,3,T6.nd,#[3],#[Xo,#[Zl,XR,#[YT,al,T.cl_Row,hr,‹2›],#[ZZ],(Zs _)],#[ZZ],#[YV,#[Za,‹1›,#[Za,#[Zo,(ixL K),#[ZK,‹2›],#[ZK,‹2›]],#[Ze]]]]]],#[Zf,#[X4,PassesOwn.never,#[iL,K,#[Zz,cQ,hr,#[Za,#[Ya,Mx,#[5],T.b.n_list,boot_list,#[Za,#[ZK,‹0›],#[Ze]]],#[Za,‹1›,#[Ze]]],#[5]]],#[ZE,4,T6.nd,#[3]],#[Zi,#[ZD,3,T6.nd,#[3],#[X1,br,T.cl_Merge,hr,‹0›,#[Za,‹4›,#[Za,‹3›,#[Ze]]]]]]],#[Zi,#[YD,‹0›,#[Xo,#[Zl,XR,‹3›,#[ZZ],(Zs _)],#[ZZ],#[Zo,(ixT K),‹3›,#[Zj]]]]]]]]],?_⟩;obtain⟨dx,hm⟩:=M.ob;have R:=M.each e S;obtain⟨dp,hp⟩:=R.at'.ob;have hg:e.g<e.ss.length:=(Qe.mp hx).1;have tk:=Zsp M.nd M.up S hx R.srt W;refine⟨_,rfl,m,U,dx,_,_,rfl,hm,T.cl_Merge,T.na_Merge_rows,XX ..,_,rfl,O,_,rfl,ZP.k' (k:=.inl e.n) M.rows (V3 M.nd S),?_⟩;refine⟨_,rfl,e.p,ab,dp,_,_,rfl,hp,T.cl_Row,T.na_Row_gone,UV ..,_,_,rfl,rfl,dp,_,hp,R0 ..,?_⟩;rw[J5,show ((e.g:Int)+1)=((e.g+1:Nat):Int) by lia];have M1:=M.bump S hg (dp:=dp);have qi:(upd H e.p (.ins ab dp (Y0 e.k e.f ((e.g+1:Nat):Int)))) e.p=some (.ins ab dp (Y0 e.k e.f ((e.g+1:Nat):Int))):=Zd;have k1:∀b o,H b=some o→b≠e.p→(upd H e.p (.ins ab dp (Y0 e.k e.f ((e.g+1:Nat):Int)))) b=some o:=fun b o B n=>by rw[Zc n];exact B
 generalize upd H e.p (.ins ab dp (Y0 e.k e.f ((e.g+1:Nat):Int)))=H1 at M1 qi k1 ⊢;have cq:(⟨e.n,e.p,e.k,e.f,e.ss,e.g+1⟩:Zx)∈bump L e.n:=by have:Xr e.n e∈bump L e.n:=Qd S;rwa [R3 rfl]at this
 have R1:=M1.each _ cq;have e8:∀ {C:Hp},(∀b o,H1 b=some o→b≠m→b≠G→C b=some o)→∀b o,H b=some o→¬ Fp m O G L b→C b=some o:=fun {C} k b o B nf =>
  k b o (k1 b o B fun z=>nf (.inr (.inr (.inr ⟨e,S,.inl z⟩)))) (fun z=>nf (.inl z)) (fun z=>nf (.inr (.inr (.inl z))))
 have fG:e.n∈Zv L:=W.1;have fb:(Zv L).length≤60:=by unfold Zv;rw[Qa];exact M.few
 have jN:(Zv L).length≤2 ^ 8:=QB fb #[6];obtain⟨oh,oi,rC⟩:=R7 8 (Zv L) e.n fG jN;have ut:hdM (bump L e.n) e.n=(e.ss[e.g+1]?).map cds:=J6 M.nd S;have xI:∀ (c:Com),(c=none∧e.ss[e.g+1]? = none)∨(∃y,e.ss[e.g+1]? = some y∧c=some (e.n,((lcp (cds y) (cds x):Nat):Int)))→Tz (hdM (bump L e.n)) (cds x) [e.n] c:=fun c hc=>by
  have hw:=Win.sing (hd:=hdM (bump L e.n)) (n:=e.n);rcases hc with⟨rfl,hn⟩|⟨y,u,rfl⟩
  ·rw[ut,hn]at hw;exact⟨hw,fun p hp=>by cases hp⟩
  ·rw[ut,u]at hw;exact⟨hw,fun p hp=>by cases hp;exact⟨cds y,by rw[ut,u];rfl,rfl⟩⟩
 refine⟨_,rfl,e.p,dp,_,rfl,qi,Vt ..,e.p,e.k,e.f,e.ss,e.g+1,rfl,R1.at',rfl,_,rfl,?_⟩;rw[Ku];refine ZqJ (fun v C=>ZG H1 C∧∃c,CV C v c∧Tz (hdM (bump L e.n)) (cds x) [e.n] c) (fun d Q' Z=>?_) (fun d Q' Z=>?_) (fun v C ⟨s2,c,qh,hok⟩=>?_)
 ·have hn:e.ss[e.g+1]? = none:=by
   have:=of_decide_eq_true d;cases u:e.ss[e.g+1]? with
   | none=>rfl
   | some y=>rw[u]at this;cases this
  exact Z _ _ ⟨ZG.refl _,none,.inl ⟨rfl,rfl⟩,xI none (.inl ⟨rfl,hn⟩)⟩
 ·obtain⟨y,u⟩:∃y,e.ss[e.g+1]? = some y:=by
   cases u:e.ss[e.g+1]? with
   | none=>rw[u]at d;exact absurd rfl (of_decide_eq_false d)
   | some y=>exact⟨y,rfl⟩
  have Ch:e.g+1<e.ss.length:=(Qe.mp u).1;have tF:Xs e.ss (e.g+1)=((lcp (cds y) (cds x):Nat):Int):=by unfold Xs;rw[if_neg #[2],Qah,QE,QE,hx,u,Vz];rfl
  have bo:atI ((List.range e.ss.length).map fun j=>V.int (Xs e.ss j)) ((e.g+1:Nat):Int)=some (.int ((lcp (cds y) (cds x):Nat):Int)):=Yx (by rw[Qm,List.getElem?_range Ch,← tF];rfl);refine⟨_,rfl,_,rfl,e.p,ab,dp,_,_,rfl,qi,T.cl_Row,T.na_Row_fars,Zmy ..,_,rfl,e.p,ab,dp,_,_,rfl,qi,T.cl_Row,T.na_Row_gone,UV ..,e.f,_,_,_,rfl,rfl,SqL.of R1.at'.fs,bo,(by show 2≤sizeLine;decide),fun tc gk=>?_⟩;exact Z _ _ ⟨Zh gk _,some (e.n,((lcp (cds y) (cds x):Nat):Int)),.inr ⟨tc,_,rfl,rfl,Zd⟩,xI _ (.inr ⟨y,u,rfl⟩)⟩
 have M2:=M1.same s2;obtain⟨gg,bG⟩:=M2.ob;refine⟨_,rfl,m,U,gg,_,_,rfl,bG,T.cl_Merge,T.na_Merge_rows,XX ..,O,_,rfl,M2.rows,fun l hl=>?_⟩;rw[Kz,Vq];have s3:=s2.trans (Zh hl (.lst ((Zv L).map V.int)));have dC:(upd C l (.lst ((Zv L).map V.int))) l=some (.lst ((Zv L).map V.int)):=Zd;have rE:CV (upd C l (.lst ((Zv L).map V.int))) v c:=qh.keep fun t xs ht=>Zh hl _ _ _ ht;generalize upd C l (.lst ((Zv L).map V.int))=H3 at s3 dC rE ⊢;refine⟨_,rfl,l,Zv L,e.n,rfl,dC,fG,fb,M.up,fun r ts H4 ay gP fc bF s4=>?_⟩;have jO:=s3.trans s4;have M4:=M1.same jO;have xJ:CV H4 v c:=rE.keep fun t xs ht=>s4 _ _ ht;refine⟨r,rfl,⟨_,SqL.of gP⟩,?_⟩;obtain⟨dm4,gf⟩:=M4.ob;obtain⟨dm1,cL⟩:=M1.ob;have nW:r≠m:=(Zb (s3 _ _ cL) ay).symm;have xl:r≠G:=(Zb (s3 _ _ M1.stays) ay).symm;refine UE (K:=K) (a:=r) (xs:=ts.map V.ref) (fun i σ I=>∃ (v':V) (c':Com) (J:StL) (k q':Int) (v4:Option V),σ=[some (.ref m),some (.int e.n),some (.ref e.p),some v',v4]∧i≤ts.length∧CV I v' c'∧Tz (hdM (bump L e.n)) (cds x) (low e.n (ZN 8 (Zv L) e.n) i) c'∧ZQ ab U I m O G (bump L e.n) J nb (li+k) (lo'+q') ae∧ZV (hdM (bump L e.n)) J (low e.n (ZN 8 (Zv L) e.n) i)∧(∀j,¬ Kys (low e.n (ZN 8 (Zv L) e.n) i) j→Z2 J j=Z2 s j)∧Ag (hdM (bump L e.n)) (cds x) (WN e.n ((ZN 8 (Zv L) e.n).take i)) k q'∧(∀b o,H4 b=some o→b≠m→b≠G→I b=some o)) ?_ (fun i σ I _ Z=>by obtain⟨_,_,_,_,_,_,_,_,_,_,_,_,_,_,k5⟩:=Z;exact SqL.of (k5 _ _ gP nW xl)) ?_ ?_
 ·refine⟨v,c,s,0,0,_,rfl,Qw _,xJ,hok,M4.cast #[2] #[2],fun X F h2=>?_,fun _ _=>rfl,.nil,fun b o h _ _=>h⟩;have:=Oo F;rcases this with rfl|⟨g,_⟩
  ·exact absurd h2 (by show ¬ 2≤1;decide)
  ·exact absurd g (by show ¬ 2≤1;decide)
 ·rintro i y σ I u ⟨v',c',J,k,q',v4,rfl,hi,oq,fj,M5,ou,eQ,ag,k5⟩;rw[Qm]at u;cases hz:ts[i]? with
  | none=>rw[hz]at u;cases u
  | some t =>
  rw[hz]at u;cases u;have bc:i<ts.length:=(Qe.mp hz).1;cases F:(ZN 8 (Zv L) e.n)[i]? with
  | none=>rw[Qag]at F;lia
  | some X =>
  obtain⟨x1,D,x3,x4⟩:=oh i X F;have aT:=x1.rise M.up;have e3:low e.n (ZN 8 (Zv L) e.n) (i+1)=X:=by show (ZN 8 (Zv L) e.n).getD i []=X;rw[QE,F];rfl
  have ug:I t=some (.tup [.int (ZR X).1,.int (ZR X).2]):=k5 _ _ (bF i t X hz F) (fun z=>by have:=bF i t X hz F;rw[z,gf]at this;cases this) (fun z=>by have:=bF i t X hz F;rw[z,M4.stays]at this;cases this);obtain⟨ox,dE⟩:=M5.ob;rw[← x4]at fj ou eQ;have Ci:=Znh tk x1 D x3 ok;have eT:Z2 J (ZR X)=Z2 s (ZR X):=eQ _ fun z=>(Kk aT D z).1 rfl;refine⟨_,rfl,m,ox,_,rfl,dE,ZjA ..,_,rfl,_,rfl,m,O,G,bump L e.n,J,nb,_,_,ae,t,v',c',cds x,X,e.n,rfl,M5,ug,oq,fj,?_,fun b B y u=>tk.ge (x1.mem B) u,aT,fun b B=>by rw[Vq];exact x1.mem B,D,x3,fun v6 c6 s6 k6 q6 H6 xK xL xM kP xN M6 Cj=>?_⟩
  ·rw[eT];rcases Ci with w|⟨t',b,y,w1,w2,_,w4⟩
   ·exact .inl w
   ·exact .inr ⟨t',b,y,w1,w2,w4⟩
  ·refine⟨v6,c6,s6,k+k6,q'+q6,_,rfl,bc,xK,by rw[e3];exact xL,M6.cast #[2] #[2],?_,fun j N=>?_,?_,fun b o B n1 n2=>Cj b o (k5 b o B n1 n2) n1 n2⟩
   ·rw[e3];refine ZmV (n:=e.n) (ou.congr (fun _ _=>rfl) fun j N=>kP j (Kk aT D N).1) ?_ xM;have cJ:=Op aT (UN x3);have so:Sub X (Zt X e.n):=by unfold Zt;split;exact Sub.top.up D;exact Sub.top.lo D
    refine(ok.sub (x1.trans so)).congr (fun b B=>tk.oth b fun z=>cJ (z ▸ B)) fun j N=>?_;rw[kP j (Kj aT D N).1,eQ j (Kj aT D N).2]
   ·rw[e3]at N;rw[kP j (fun z=>N ⟨X,.top,D,z⟩),eQ j (fun Z=>by obtain⟨Y,y1,y2,y3⟩:=Z;exact N ⟨Y,(Ot D e.n).trans y1,y2,y3⟩)]
   ·have:=xN _ _ _ ag;unfold WN at this ⊢;rw[QH,F,Qf];exact this
 ·rintro σ I ⟨v',c',J,k,q',v4,rfl,_,oq,fj,M5,ou,eQ,ag,k5⟩;rw[Qa,fc,oi]at fj ou;rw[Qa,fc,Qv (Qh _)]at ag;obtain⟨ox,dE⟩:=M5.ob;have fin:∀w':Option Int,w'=c'.map (·.1)→Q .non (upd I m (.ins U ox (mgF O nb (li+k) (lo'+q') G (Y4 w')))):=fun w' ew=>by subst ew;refine q J _ k q' _ M5.obj fj.1 ou ag fun b o B nf=>?_;rw[Zc (fun z=>nf (.inl z))];exact e8 (fun b o B n1 n2=>k5 b o (jO b o B) n1 n2) b o B nf
  rcases oq with⟨rfl,rfl⟩|⟨t,p,rfl,rfl,ht⟩
  ·refine⟨_,rfl,rfl,_,rfl,YE rfl ?_⟩;refine⟨_,rfl,m,U,ox,_,rfl,dE,T.cl_Merge,T.na_Merge_best,XH ..,?_⟩;rw[TH];exact fin none rfl
  ·refine⟨_,rfl,rfl,_,rfl,Yn (fun z=>nomatch z) ?_⟩;refine⟨_,rfl,t,_,_,_,rfl,rfl,SqT.of ht,(show atI [V.int p.1,V.int p.2] 0=some (.int p.1) from Yx (j:=0) rfl),_,rfl,m,U,ox,_,rfl,dE,T.cl_Merge,T.na_Merge_best,XH ..,?_⟩;rw[TH];exact fin (some p.1) rfl
def UL(L:List Zx)(w:Option Int)(x:V)(a:List Zx)(k q:Int)(H':Hp):Prop :=
 (w=none∧x=.non∧a=L∧k=0∧q=0)∨∃ (e:Zx) (t:Addr) (z:Str),e∈L∧w=some e.n∧x=.ref t∧e.ss[e.g]? = some z∧H' t=some (.tup [.int e.n,.int (e.g:Int),.str z])∧a=bump L e.n∧Ag (hdM a) (cds z) (WN e.n (ZN 8 (Zv L) e.n)) k q
theorem ZkZ(rd:Addr)(nb li lo:Int)(sd:Addr)(a:V):(mgF rd nb li lo sd a).lookup ("send_out" : Str)=none:=Yh _ _ _ _ _ _ #[1] #[1] #[1] #[1] #[1] #[1]
theorem Oc(rd:Addr)(nb li lo:Int)(sd:Addr)(a:V):(mgF rd nb li lo sd a).lookup ("take" : Str)=none:=Yh _ _ _ _ _ _ #[1] #[1] #[1] #[1] #[1] #[1]
def J2(d e:Addr):Sp:=fun vs H Q _=>∃ (m rd sd:Addr) (L:List Zx) (s:StL) (nb li lo:Int) (w:Option Int),vs=[.ref m]∧ZQ d e H m rd sd L s nb li lo (Y4 w)∧Win (hdM L) (Zv L) w∧ZV (hdM L) s (Zv L) ∧
 ∀ (x:V) (a:List Zx) (f:StL) (g:Option Int) (k q:Int) (c:Hp),UL L w x a k q c→ZQ d e c m rd sd a f nb (li+k) (lo+q) (Y4 g)→Win (hdM a) (Zv a) g→ZV (hdM a) f (Zv a)→(∀b o,H b=some o→¬ Fp m rd sd L b→c b=some o)→Q x c
theorem Zpn(T:Z9 K mg ab U)(G:Mf P w K mg base 3 U "coming" ["self"] (Ou ab U))(I:Mf P w K mg base 5 U "send_out" ["self", "number"] (J3 ab U)):Mf P w K mg base 6 U "take" ["self"] (J2 ab U):=by
 refine T.t_Merge_take.mf LO (fun J H Q E h=>?_) (fun ai f A outer s H J Q E u h=>?_)
 ·obtain⟨m,d,g,L,s,nb,i,lo,w,rfl,_⟩:=h;rfl
 obtain⟨m,d,g,L,s,nb,i,c,w,rfl,M,W,ok,q⟩:=h;refine⟨_,#[Zf,#[ZD,1,LO.nd,#[3],#[YT,G,T.cl_Merge,u,‹0›]],#[Zf,#[ZW,#[Zl,Vh,‹1›,#[ZZ],(Zs _)],#[Zi,#[YL,#[X1,I,T.cl_Merge,u,‹0›,#[Za,#[ZK,‹0›],#[Ze]]]]],#[ZH]],#[Zi,#[Zp,‹1›]]]],?_⟩;obtain⟨N,O⟩:=M.ob;refine⟨_,rfl,m,N,_,rfl,O,Kn ..,m,d,g,L,s,nb,i,c,w,rfl,M,W,fun x S V j=>?_⟩;have M1:=M.same j;rcases V with⟨rfl,hw⟩|⟨t,e',z,rfl,X,v,B,hw⟩
 ·have l:Win (hdM L) (Zv L) none:=by rw[Wq]at hw;exact hw
  have n:=W.one l;subst n;exact⟨_,rfl,rfl,_,rfl,WD rfl ⟨_,rfl,q .non L s none 0 0 S (.inl ⟨rfl,rfl,rfl,rfl,rfl⟩) (M1.cast #[2] #[2]) W ok (fun b o p _=>j b o p)⟩⟩
 ·obtain⟨e,C,rfl⟩:=Ql.mp X;have l:Win (hdM L) (Zv L) (some e.n):=by rw[Wq]at hw;exact hw
  have n:=W.one l;subst n;obtain⟨D,r⟩:=M1.ob;refine⟨_,rfl,rfl,_,rfl,TX (fun z=>nomatch z) ?_⟩;refine⟨_,rfl,m,D,_,rfl,r,ZkZ ..,_,rfl,m,U,D,_,_,rfl,r,T.cl_Merge,T.na_Merge_best,UO ..,m,d,g,L,s,nb,i,c,_,e,z,rfl,M1,C,v,W,ok,fun Y Z k q' F M2 W2 mq ag k2=>?_⟩;have ca:F t=some (.tup [.int e.n,.int (e.g:Int),.str z]):=k2 _ _ B fun hf=>by
   have a:=B;rcases hf with h|h|h|⟨y,hy,h⟩
   ·rw[h,r]at a;cases a
   ·rw[h,M1.rows]at a;cases a
   ·rw[h,M1.stays]at a;cases a
   ·have R:=(M1.each y hy).at';obtain⟨dy,gh⟩:=R.ob;rcases h with h|h|h
    ·rw[h,gh]at a;cases a
    ·rw[h,R.ks]at a;cases a
    ·rw[h,R.fs]at a;cases a
  exact⟨_,rfl,q (.ref t) (bump L e.n) Y Z k q' F (.inr ⟨e,t,z,C,rfl,rfl,v,ca,rfl,ag⟩) M2 (by rw[Vq];exact W2) (by rw[Vq];exact mq) (fun b o p nf=>k2 b o (j b o p) nf)⟩
noncomputable abbrev Y9:=Int×List Str×Nat
noncomputable def pur(Lo:List ZB):List Y9:=Lo.map fun e=>(e.1,e.2.2)
noncomputable def ZU(L:List Zx):List Y9:=L.map fun e=>(e.n,(e.ss,e.g))
noncomputable def hdP(P:List Y9):Hd:=hdL (P.map fun x=>(x.1,0,x.2))
noncomputable def YX(P:List Y9):List Int:=P.map (·.1)
noncomputable def Wn(n:Int)(x:Y9):Y9:=if x.1=n then (x.1,x.2.1,x.2.2+1) else x
noncomputable def X7(P:List Y9)(n:Int):List Y9:=P.map (Wn n)
theorem Vp(Lo:List ZB):hdL Lo=hdP (pur Lo):=Sc _ _ (by unfold pur;rw[Qg,Qg];rfl)
theorem UK(L:List Zx):hdM L=hdP (ZU L):=Sc _ _ (by unfold ZU;rw[Qg,Qg,Qg];rfl)
theorem Wm(Lo:List ZB):Lo.map (·.1)=YX (pur Lo):=by unfold YX pur;rw[Qg];rfl
theorem Xa(L:List Zx):Zv L=YX (ZU L):=by unfold YX ZU Zv;rw[Qg];rfl
theorem J1(L:List Zx)(n:Int):ZU (bump L n)=X7 (ZU L) n:=by
 unfold ZU bump X7;rw[Qg,Qg];refine QC fun e _=>?_;simp only[Function.comp];unfold Wn;by_cases h:e.n=n
 ·rw[R3 h,if_pos h]
 ·rw[Oe h,if_neg h]
noncomputable def W7(n:Int)(e:ZB):ZB:=if e.1=n then (e.1,e.2.1,e.2.2.1,e.2.2.2+1) else e
noncomputable def YQ(Lo:List ZB)(n:Int):List ZB:=Lo.map (W7 n)
theorem RZ(Lo:List ZB)(n:Int):pur (YQ Lo n)=X7 (pur Lo) n:=by
 unfold pur YQ X7;rw[Qg,Qg];refine QC fun e _=>?_;simp only[Function.comp];unfold Wn W7;by_cases h:e.1=n
 ·rw[if_pos h,if_pos h]
 ·rw[if_neg h,if_neg h]
theorem Zl0(P:List Y9)(n:Int):YX (X7 P n)=YX P:=by unfold YX X7;rw[Qg];refine QC fun x _=>?_;simp only[Function.comp];unfold Wn;split<;>rfl
theorem Zq9{P:List Y9}(nd:(YX P).Nodup){x:Y9}(h:x∈P):hdP P x.1=(x.2.1[x.2.2]?).map cds :=
 TN (L:=P.map fun x:Y9=>((x.1,0,x.2):ZB)) (e:=(x.1,0,x.2)) (by rw[Qg];exact nd) (Qd (f:=fun x:Y9=>((x.1,0,x.2):ZB)) h)
def Wl(P:List Y9)(x:Y9)(z:Str)(k q:Int):Prop:=x∈P∧x.2.1[x.2.2]? = some z∧Win (hdP P) (YX P) (some x.1)∧Ag (hdP (X7 P x.1)) (cds z) (WN x.1 (ZN 8 (YX P) x.1)) k q
noncomputable abbrev W6:=Int×Nat×Str
inductive XF (P:List Y9):List W6→List Y9→Int→Int→Prop
 | nil:XF P [] P 0 0
 | snoc {ts:List W6} {P1:List Y9} {x:Y9} {z:Str} {k q k1 q1:Int}:XF P ts P1 k q→Wl P1 x z k1 q1→XF P (ts++[(x.1,x.2.2,z)]) (X7 P1 x.1) (k+k1) (q+q1)
inductive Xq:List Y9→Int→Int→Prop
 | stop {P:List Y9}:Win (hdP P) (YX P) none→Xq P 0 0
 | go {P:List Y9} {x:Y9} {z:Str} {k q k1 q1:Int}:Wl P x z k1 q1→Xq (X7 P x.1) k q→Xq P (k1+k) (q1+q)
theorem Wl.one{P:List Y9}(nd:(YX P).Nodup){x y:Y9}{z u:Str}{k q k' a:Int}(h:Wl P x z k q)(g:Wl P y u k' a):x=y∧z=u∧k=k'∧q=a:=by obtain⟨b,c,d,e⟩:=h;obtain⟨f,i,j,l⟩:=g;have m:=Qr (d.one j);have n:=WQ nd b f m;subst n;have o:=Qr (c.symm.trans i);subst o;exact⟨rfl,rfl,e.one l⟩
theorem XF.num{P a:List Y9}{ts:List W6}{k q:Int}(h:XF P ts a k q):YX a=YX P:=by
 induction h with
 | nil=>rfl
 | snoc _ _ b=>rw[Zl0,b]
noncomputable def Yg(P:List Y9):Nat:=(P.map fun x=>x.2.1.length-x.2.2).sum
theorem Ob:∀ (P:List Y9),(YX P).Nodup→∀ {x:Y9},x∈P→x.2.2<x.2.1.length→Yg (X7 P x.1)+1=Yg P
 | [],_,_,h,_=>by cases h
 | y::P,nd,x,h,a=>by
  unfold YX at nd;rw[Qj,QP]at nd;unfold Yg X7;rw[Qj,Qj,Qj,QaD,QaD];rcases QF.mp h with rfl|h
  ·have e:P.map (Wn x.1)=P:=by
    conv=>rhs;rw[← List.map_id P]
    refine QC fun u b=>?_;unfold Wn;rw[if_neg (fun z:u.1=x.1=>nd.1 (z ▸ Qd (f:=fun x:Y9=>x.1) b))];rfl
   rw[e];unfold Wn;rw[if_pos rfl];show x.2.1.length-(x.2.2+1)+_+1=_;lia
  ·have c:=Ob P nd.2 h a;unfold Yg X7 at c;have e:Wn x.1 y=y:=if_neg (fun z:y.1=x.1=>nd.1 (z ▸ Qd (f:=fun x:Y9=>x.1) h));rw[e];lia
theorem XF.left{P a:List Y9}{ts:List W6}{k q:Int}(h:XF P ts a k q)(nd:(YX P).Nodup):Yg a+ts.length=Yg P:=by
 induction h with
 | nil=>rfl
 | snoc h s ih=>have:=Ob _ (by rw[h.num];exact nd) s.1 (Qe.mp s.2.1).1;rw[Qi,Qy];lia
theorem J0{L a:List Zx}{w:Option Int}{x:V}{k q:Int}{H:Hp}(W:Win (hdM L) (Zv L) w)(h:UL L w x a k q H):(Win (hdP (ZU L)) (YX (ZU L)) none∧x=.non∧a=L∧k=0∧q=0)∨∃ (y:Y9) (z:Str) (t:Addr),Wl (ZU L) y z k q∧ZU a=X7 (ZU L) y.1∧x=.ref t∧H t=some (.tup [.int y.1,.int (y.2.2:Int),.str z]):=by
 rw[UK,Xa]at W;rcases h with⟨rfl,c,d,g,i⟩|⟨e,t,z,j,rfl,rfl,l,m,rfl,b⟩
 ·exact .inl ⟨W,c,d,g,i⟩
 ·refine .inr ⟨(e.n,(e.ss,e.g)),z,t,⟨Qd (f:=fun e:Zx=>(e.n,(e.ss,e.g))) j,l,W,?_⟩,J1 L e.n,rfl,m⟩;rw[UK,J1,Xa]at b;exact b
def Zsv(K:#[7])(f g:Addr):Sp:=fun vs H Q _=>∃ (m rd sd:Addr) (L:List Zx) (s:StL) (nb li lo:Int) (w:Option Int) (many:Int),vs=[.ref m,.int many]∧ZQ f g H m rd sd L s nb li lo (Y4 w)∧Win (hdM L) (Zv L) w∧ZV (hdM L) s (Zv L)∧Yg (ZU L)≤100000 ∧
 ∀ (r:Addr) (c:List (Addr×W6)) (a:List Zx) (h:StL) (e:Option Int) (k q:Int) (d:Hp),H r=none→d r=some (.lst (c.map fun u=>V.ref u.1))→(∀u∈c,d u.1=some (.tup [.int u.2.1,.int (u.2.2.1:Int),.str u.2.2.2]))→XF (ZU L) (c.map (·.2)) (ZU a) k q→((c.length:Int)<many→e=none)→(c≠[]→(c.length:Int)≤many)→ZQ f g d m rd sd a h nb (li+k) (lo+q) (Y4 e)→Win (hdM a) (Zv a) e→ZV (hdM a) h (Zv a)→(∀b,Fp m rd sd a b↔Fp m rd sd L b)→(∀b o,H b=some o→¬ Fp m rd sd L b→d b=some o)→Q (.ref r) d
theorem UL.fp{L a:List Zx}{w:Option Int}{x:V}{k q:Int}{H:Hp}(h:UL L w x a k q H){m rd sd b:Addr}:Fp m rd sd a b↔Fp m rd sd L b:=by
 rcases h with⟨_,_,rfl,_⟩|⟨e,t,z,_,_,_,_,_,rfl,_⟩
 ·exact Iff.rfl
 ·exact⟨Zpr,Fp_bump'⟩
theorem ZQ.fp_live{c d:Addr}{H:Hp}{m rd sd:Addr}{L:List Zx}{s:StL}{nb li lo:Int}{f:V}(M:ZQ c d H m rd sd L s nb li lo f){b:Addr}(h:Fp m rd sd L b):∃o,H b=some o∧∀xs,o≠.tup xs:=by
 rcases h with rfl|rfl|rfl|⟨e,g,h⟩
 ·obtain⟨i,a⟩:=M.ob;exact⟨_,a,fun xs z=>by cases z⟩
 ·exact⟨_,M.rows,fun xs z=>by cases z⟩
 ·exact⟨_,M.stays,fun xs z=>by cases z⟩
 ·have R:=(M.each e g).at';obtain⟨i,a⟩:=R.ob;rcases h with rfl|rfl|rfl
  ·exact⟨_,a,fun xs z=>by cases z⟩
  ·exact⟨_,R.ks,fun xs z=>by cases z⟩
  ·exact⟨_,R.fs,fun xs z=>by cases z⟩
theorem ZQ.fp_fresh{c d:Addr}{H:Hp}{m rd sd:Addr}{L:List Zx}{s:StL}{nb li lo:Int}{e:V}(M:ZQ c d H m rd sd L s nb li lo e){b:Addr}(h:H b=none):¬ Fp m rd sd L b:=fun z=>by obtain⟨o,a,_⟩:=M.fp_live z;rw[h]at a;cases a
theorem ZQ.fp_tup{c d:Addr}{H:Hp}{m rd sd:Addr}{L:List Zx}{s:StL}{nb li lo:Int}{e:V}(M:ZQ c d H m rd sd L s nb li lo e){b:Addr}{xs:List V}(h:H b=some (.tup xs)):¬ Fp m rd sd L b:=fun z=>by obtain⟨o,a,f⟩:=M.fp_live z;rw[h]at a;cases a;exact f xs rfl
theorem ZrD(T:Z9 K mg ab U)(bu:Mf P w K mg base 6 U "take" ["self"] (J2 ab U)):Mf P w K mg base 7 U "take_few" ["self", "many"] (Zsv K ab U):=by
 refine T.t_Merge_take_few.mf LN (fun vs H Q E h=>?_) (fun ai f A outer s H vs Q E hr h=>?_)
 ·obtain⟨m,j,l,L,s,nb,X,lo,w,many,rfl,_⟩:=h;rfl
 obtain⟨m,j,l,L,s,nb,X,F,w,many,rfl,M,W,ok,uu,q⟩:=h;refine⟨_,#[Zf,#[ZD,2,LN.nd,#[3],#[YU,#[Ze]]],#[Zf,(@UF _ _ _ _ _ _ PassesOwn.never (@PW.pt _ _ _ #[Yf,#[Zl,XS,#[Zk,(YB K),#[5],T.b.n_len,Qz,#[Za,‹2›,#[Ze]]],‹1›,(Zs _)],#[XT,#[Zl,Vh,#[ZK,‹0›],#[ZZ],(Zs _)]]]) #[Zi,#[YL,#[Xy,QO,QS,QT,WE,‹2›,#[Za,#[YT,bu,T.cl_Merge,hr,‹0›],#[Ze]]]]]),#[Zi,#[Zp,‹2›]]]],?_⟩;have nd:(YX (ZU L)).Nodup:=by rw[← Xa];exact M.nd
 refine⟨(by show 0≤sizeLine;decide),fun r n=>?_⟩;have Y:=M.fp_fresh n;refine⟨fun Z σ i=>∃ (c:List (Addr×W6)) (d:List Zx) (s':StL) (w':Option Int) (k p:Int),σ=[some (.ref m),some (.int many),some (.ref r)]∧i r=some (.lst (c.map fun u=>V.ref u.1))∧(∀u∈c,u.1≠r∧i u.1=some (.tup [.int u.2.1,.int (u.2.2.1:Int),.str u.2.2.2]))∧XF (ZU L) (c.map (·.2)) (ZU d) k p∧(c≠[]→(c.length:Int)≤many)∧ZQ ab U i m j l d s' nb (X+k) (F+p) (Y4 w')∧Win (hdM d) (Zv d) w'∧ZV (hdM d) s' (Zv d)∧(∀b,Fp m j l d b↔Fp m j l L b)∧(∀b o,H b=some o→¬ Fp m j l L b→i b=some o)∧Z=Yg (ZU d),⟨_,[],L,s,w,0,0,rfl,Zd,(fun u h=>by cases h),.nil,(fun h=>absurd rfl h),(M.same (Zh n _)).cast #[2] #[2],W,ok,fun _=>Iff.rfl,fun b o g _=>Zh n _ _ _ g,rfl⟩,?_⟩;rintro Z σ i ⟨c,L1,s1,G,k,p,rfl,C,dn,D,kQ,M2,v,mq,B,k2,rfl⟩;have oz:(((c.map fun u=>V.ref u.1).length:Nat):Int)=(c.length:Int):=by rw[Qa]
 have Ck:=D.left nd;rw[Qa]at Ck;obtain⟨gg,bG⟩:=M2.ob;have done:((c.length:Int)<many→G=none)→Q (.ref r) i:=fun hd=>q r c L1 s1 G k p i n C (fun u hu=>(dn u hu).2) D hd kQ M2 v mq B k2;refine⟨_,rfl,r,_,rfl,.inl (SqL.of C),_,rfl,_,_,rfl,rfl,_,rfl,Y3 (fun I=>?_) (fun I=>?_)⟩
 ·have kA:(c.length:Int)<many:=by have:=of_decide_eq_true I;lia
  refine⟨_,rfl,m,U,gg,_,_,rfl,bG,T.cl_Merge,T.na_Merge_best,UO ..,rfl,_,rfl,?_⟩;cases G with
  | none=>exact WD rfl ⟨_,rfl,done fun _=>rfl⟩
  | some a =>
  refine TX (fun z=>nomatch z) ?_;refine⟨_,fun ak H' h=>h,?_⟩;refine⟨_,rfl,.inl ⟨rfl,_,SqL.of C⟩,_,rfl,m,gg,_,rfl,bG,Oc ..,m,j,l,L1,s1,nb,_,_,some a,rfl,M2,v,mq,fun x L3 s3 w3 k3 q3 H3 J M3 W3 uv N=>?_⟩;have O:H3 r=some (.lst (c.map fun u=>V.ref u.1)):=N _ _ C (fun z=>Y ((B r).mp z));rcases J0 v J with⟨w0,_⟩|⟨y,z,t,R,eL,rfl,S⟩
  ·rw[UK,Xa]at v;exact nomatch w0.one v
  have hbl:=Ob _ (by rw[D.num];exact nd) R.1 (Qe.mp R.2.1).1;have qf:t≠r:=fun e=>by rw[e,O]at S;cases S
  refine⟨r,_,_,rfl,rfl,O,(by rw[Qa,sizeLine_eq];lia),Yg (ZU L3),by rw[eL];lia,c++[(t,(y.1,y.2.2,z))],L3,s3,w3,k+k3,p+q3,rfl,by rw[Zd,Qf];rfl,fun u hu=>?_,?_,fun _=>by rw[Qi,Qy];lia,?_,W3,uv,fun b=>(J.fp).trans (B b),fun b o g nf=>?_,rfl⟩
  ·rcases Qn.mp hu with hu|hu
   ·obtain⟨g2,g3⟩:=dn u hu;exact⟨g2,by rw[Zc g2];exact N _ _ g3 (M2.fp_tup g3)⟩
   ·rw[Qk.mp hu];exact⟨qf,by rw[Zc qf];exact S⟩
  ·rw[Qf,eL];exact .snoc D R
  ·refine ZQ.cast (M3.keep fun b o g aM=>?_) #[2] #[2];rw[Zc (fun e=>?_)]
   ·exact g
   ·subst e;rcases aM with hf|⟨xs,rfl⟩
    ·exact Y ((B b).mp (J.fp.mp hf))
    ·rw[O]at g;cases g
  ·rw[Zc (Zb g n)];exact N b o (k2 b o g nf) (fun z=>nf ((B b).mp z))
 ·refine YZ ⟨_,rfl,done fun h=>?_⟩;have:¬ ((((c.map fun u=>V.ref u.1).length:Nat):Int)<many):=fun z=>I (decide_eq_true z);lia
def JZ:Sp:=fun vs H Q _=>∃ (a:Addr) (N:List Int) (n:Int),vs=[.ref a,.int n]∧H a=some (.lst (N.map V.int))∧n∈N∧N.length≤60∧YS N ∧
 ∀ (r:Addr) (c:List (Addr×Addr×Addr)) (b:Hp),H r=none→b r=some (.lst (c.map fun t=>V.ref t.1))→c.length=(ZN 8 N n).length→(∀ (i:Nat) (t:Addr×Addr×Addr) (X:List Int),c[i]? = some t→(ZN 8 N n)[i]? = some X→b t.1=some (.tup [.ref t.2.1,.ref t.2.2])∧b t.2.1=some (.lst ((ZX X n).map V.int))∧b t.2.2=some (.lst ((Zt X n).map V.int)))→ZG H b→Q (.ref r) b
theorem Oa{M:List Int}(r:YS M){n:Int}(a:n∈M):(n∈up M↔¬ n∈lo M):=by
 constructor
 ·intro h g;have:=ZO r g h;lia
 ·intro h;rw[← XZ M]at a;exact(Qn.mp a).resolve_left h
theorem Zp5(T:Z9 K mg ab U)(bd:Df P w K mg base 1 "_law_halves" ["_law_numbers"] (V6 K false)):Df P w K mg base 2 "_law_way" ["_law_numbers", "_law_n"] JZ:=by
 refine T.t_l_way.df U4 (fun vs H Q E h=>?_) (fun ai f A outer s H vs Q E hr h=>?_)
 ·obtain⟨a,N,n,rfl,_⟩:=h;rfl
 obtain⟨a,N,n,rfl,ha,hn,fb,aT,q⟩:=h;refine⟨_,#[Zf,#[Wg,2,3,U4.nd,#[Za,#[Ya,(VO K),#[5],T.b.n_list,boot_list,#[Za,‹0›,#[Ze]]],#[Za,#[YU,#[Ze]],#[Ze]]]],#[Zf,(@UF _ _ _ _ _ _ PassesOwn.never #[Zl,We,#[Zk,(YB K),#[5],T.b.n_len,Qz,#[Za,‹2›,#[Ze]]],#[Zj],(Zs _)] #[Zf,#[Z0,#[Zz,bd,hr,#[Za,‹2›,#[Ze]],#[5]],(@gL _ K _ _ _ 2 _ #[Zu,#[ZE,4,U4.nd,#[3]],#[Zu,#[ZE,5,U4.nd,#[3]],(@Yy _)]] #[5] #[5] #[5] #[5])],#[Zf,#[ZW,#[Zl,(inQ K),‹1›,‹5›,(by with_unfolding_all rfl)],#[Zi,#[Wg,4,5,U4.nd,#[Za,‹5›,#[Za,‹4›,#[Ze]]]]],#[ZH]],#[Zf,#[YL,#[Xy,QO,QS,QT,WE,‹3›,#[Za,#[YV,#[Za,‹4›,#[Za,‹5›,#[Ze]]]],#[Ze]]]],#[Zi,#[ZD,2,U4.nd,#[3],‹4›]]]]]),#[Zi,#[Zp,(@Zmw _ _ _ _ _ _ _ _ _ _ _ _ (ZsZ K) ‹3› (@WH _) (@WH _) (@Wd _ _ _ #[WJ,VX,#[Zj]]))]]]],?_⟩;refine⟨_,rfl,a,_,rfl,.inl (SqL.of ha),fun S Cm=>⟨(by show 0≤sizeLine;decide),fun o ux=>⟨_,_,rfl,?_⟩⟩⟩;have sb:ZG H (upd H S (.lst (N.map V.int))):=Zh Cm _;have hO:H o=none:=sb.free ux;have xP:S≠o:=Zb (H:=upd H S (.lst (N.map V.int))) Zd ux;have jN:N.length≤2 ^ 8:=QB fb #[6];refine⟨fun m σ C=>∃ (b:Addr) (M:List Int) (c:List (Addr×Addr×Addr)) (D:List (List Int)) (k:Nat) (I J:Option V),σ=[some (.ref a),some (.int n),some (.ref b),some (.ref o),I,J]∧C b=some (.lst (M.map V.int))∧b≠o∧n∈M∧YS M∧M.length≤60∧M.length≤2 ^ k∧ZN 8 N n=ZN k M n++D.reverse∧c.length=D.length∧C o=some (.lst (c.map fun t=>V.ref t.1))∧(∀ (i:Nat) (t:Addr×Addr×Addr) (X:List Int),c[i]? = some t→D[i]? = some X→C t.1=some (.tup [.ref t.2.1,.ref t.2.2])∧C t.2.1=some (.lst ((ZX X n).map V.int))∧C t.2.2=some (.lst ((Zt X n).map V.int))∧t.1≠o∧t.2.1≠o∧t.2.2≠o)∧ZG H C∧m=M.length∧k+D.length=8,⟨_,S,N,[],[],8,none,none,rfl,by rw[Zc xP];exact Zd,xP,hn,aT,fb,jN,by simp,rfl,Zd,(fun i t X h=>by simp at h),sb.trans (Zh ux _),rfl,rfl⟩,?_⟩;rintro m σ C ⟨b,M,c,D,k,I,J,rfl,j,nb,W,Y,DG,xQ,Z,fc,ho,bF,s2,rfl,hk8⟩;have BZ:(((M.map V.int).length:Nat):Int)=(M.length:Int):=by rw[Qa]
 refine⟨_,rfl,b,_,rfl,.inl (SqL.of j),_,_,rfl,rfl,_,rfl,?_⟩;refine Y3 (fun c1=>?_) (fun c1=>?_)
 ·have uq:(1:Int)<(((M.map V.int).length:Nat):Int):=of_decide_eq_true c1;have hc:2≤M.length:=by lia
  obtain⟨k',rfl⟩:∃k',k=k'+1:=by
   cases k with
   | zero=>simp at xQ;lia
   | succ k'=>exact⟨k',rfl⟩
  refine⟨_,fun ak H' h=>h,?_⟩;refine⟨_,rfl,b,M,rfl,SqL.of j,by lia,fun t x y L ht hx hy B0 et ex ey O B8 B'=>?_⟩;rw[OY]at ex;rw[OX]at ey;refine⟨t,_,rfl,SqL.of et,rfl,_,_,rfl,_,_,rfl,rfl,?_⟩;have F:=O _ _ ho;have ah:(c.map fun t=>V.ref t.1).length<sizeLine:=by rw[Qa];exact Zy #[2]
  have nox:o≠x:=Zb ho hx;have xR:o≠y:=Zb ho hy;have dO:(ZX M n).length≤2 ^ k':=by
   rw[Qa6]at xQ;unfold ZX;split
   ·unfold lo mid;rw[QA];lia
   ·unfold up mid;rw[Q5];lia
  have xS:ZN 8 N n=ZN k' (ZX M n) n++(D++[M]).reverse:=by
   rw[Z]
   conv=>lhs;unfold ZN
   rw[if_pos hc,List.reverse_append,Qa4];rfl
  have step:∀ (p u v:Addr) (d:Hp),L p=none→L u=some (.lst ((ZX M n).map V.int))→L v=some (.lst ((Zt M n).map V.int))→u≠o→v≠o→d=upd (upd L p (.tup [.ref u,.ref v])) o (.lst ((c.map fun t=>V.ref t.1)++[.ref p]))→∀I J:Option V,∃m',m'<M.length∧∃ (b:Addr) (G:List Int) (c:List (Addr×Addr×Addr)) (D:List (List Int)) (k:Nat) (w4 w5:Option V),[some (V.ref a),some (V.int n),some (V.ref u),some (V.ref o),I,J]=[some (.ref a),some (.int n),some (.ref b),some (.ref o),w4,w5]∧d b=some (.lst (G.map V.int))∧b≠o∧n∈G∧YS G∧G.length≤60∧G.length≤2 ^ k∧ZN 8 N n=ZN k G n++D.reverse∧c.length=D.length∧d o=some (.lst (c.map fun t=>V.ref t.1))∧(∀ (i:Nat) (t:Addr×Addr×Addr) (X:List Int),c[i]? = some t→D[i]? = some X→d t.1=some (.tup [.ref t.2.1,.ref t.2.2])∧d t.2.1=some (.lst ((ZX X n).map V.int))∧d t.2.2=some (.lst ((Zt X n).map V.int))∧t.1≠o∧t.2.1≠o∧t.2.2≠o)∧ZG H d∧m'=G.length∧k+D.length=8:=fun p u v d l hu hv qk xT e4 I J=>by
   have xU:p≠o:=(Zb F l).symm;have k4:∀b z,L b=some z→b≠o→d b=some z:=fun b z j nb=>by rw[e4,Zc nb,Zc (Zb j l)];exact j
   refine⟨_,Oq hc n,u,ZX M n,c++[(p,u,v)],D++[M],k',I,J,rfl,k4 _ _ hu qk,qk,UN W,(Ot hc n).rise Y,by have:=Oq hc n;lia,dO,xS,by rw[Qi,Qi,fc];rfl,by rw[e4,Zd,Qf];rfl,fun i t X e B=>?_,fun b z j=>k4 b z (O b z (s2 b z j)) (Zb j hO),rfl,by rw[Qi,Qy];lia⟩;by_cases ah:i<c.length
   ·rw[QJ ah]at e;rw[QJ #[2]]at B;obtain⟨g1,g2,g3,g4,g5,g6⟩:=bF i t X e B;exact⟨k4 _ _ (O _ _ g1) g4,k4 _ _ (O _ _ g2) g5,k4 _ _ (O _ _ g3) g6,g4,g5,g6⟩
   ·have ei:i=c.length:=by have:=(Qe.mp e).1;rw[Qi,Qy]at this;lia
    subst ei;rw[QK (Qh _),QaM]at e;cases e;rw[fc,QK (Qh _),QaM]at B;cases B;exact⟨by rw[e4,Zc xU];exact Zd,k4 _ _ hu qk,k4 _ _ hv xT,xU,qk,xT⟩
  refine⟨_,rfl,_,rfl,y,_,rfl,.inl (SqL.of ey),rfl,Oh _,_,rfl,?_⟩;show if inV (V.int n) ((up M).map V.int)=true then _ else _
  rw[Oi];refine Y3 (fun c2=>?_) (fun c2=>?_)
  ·have io:n∈up M:=of_decide_eq_true c2;have e1:ZX M n=up M:=by unfold ZX;rw[if_neg ((Oa Y W).mp io)]
   have e2:Zt M n=lo M:=by unfold Zt;rw[if_neg ((Oa Y W).mp io)]
   refine⟨_,rfl,_,rfl,_,_,rfl,?_⟩;refine⟨_,rfl,.inl ⟨rfl,_,SqL.of F⟩,_,rfl,_,rfl,(by show 2≤sizeLine;decide),fun p l=>?_⟩;refine⟨o,_,_,rfl,rfl,by rw[Zc (Zb F l)];exact F,ah,_,rfl,?_⟩;exact step p y x _ l (by rw[e1];exact ey) (by rw[e2];exact ex) xR.symm nox.symm rfl _ _
  ·have io:¬ n∈up M:=fun z=>c2 (decide_eq_true z);have hl:n∈lo M:=by
    by_cases g:n∈lo M
    ·exact g
    ·exact absurd ((Oa Y W).mpr g) io
   have e1:ZX M n=lo M:=by unfold ZX;rw[if_pos hl]
   have e2:Zt M n=up M:=by unfold Zt;rw[if_pos hl]
   refine⟨_,rfl,.inl ⟨rfl,_,SqL.of F⟩,_,rfl,_,rfl,(by show 2≤sizeLine;decide),fun p l=>?_⟩;refine⟨o,_,_,rfl,rfl,by rw[Zc (Zb F l)];exact F,ah,_,rfl,?_⟩;exact step p x y _ l (by rw[e1];exact ex) (by rw[e2];exact ey) nox.symm xR.symm rfl _ _
 ·have uq:¬ (1:Int)<(((M.map V.int).length:Nat):Int):=fun z=>c1 (decide_eq_true z);have nV:ZN k M n=[]:=by
   cases k with
   | zero=>rfl
   | succ k=>unfold ZN;rw[if_neg #[2]]
  rw[nV,List.nil_append]at Z;refine⟨_,rfl,_,rfl,_,rfl,_,rfl,o,_,rfl,SqL.of ho,by decide,fun r R=>?_⟩;refine q r c.reverse _ (s2.free R) (by rw[Zd,ZmK,List.map_reverse]) (by rw[Z,QaP,QaP];exact fc) (fun i t X e B=>?_) (s2.trans (Zh R _));rw[Z]at B;have bc:i<c.length:=by have:=(Qe.mp e).1;rw[QaP]at this;exact this
  rw[List.getElem?_reverse bc]at e;rw[List.getElem?_reverse #[2],← fc]at B;obtain⟨g1,g2,g3,_⟩:=bF _ t X e B;exact⟨Zh R _ _ _ g1,Zh R _ _ _ g2,Zh R _ _ _ g3⟩
theorem UJ(n:Int)(e:ZB):(W7 n e).1=e.1∧(W7 n e).2.1=e.2.1∧(W7 n e).2.2.1=e.2.2.1:=by unfold W7;split<;>exact⟨rfl,rfl,rfl⟩
theorem JY(Lo:List ZB)(n:Int):(YQ Lo n).map (·.1)=Lo.map (·.1):=by unfold YQ;rw[Qg];exact QC fun e _=>(UJ n e).1
theorem Zni(Lo:List ZB)(n:Int):kvR (YQ Lo n)=kvR Lo:=by unfold kvR YQ;rw[Qg];refine QC fun e _=>?_;simp only[Function.comp];rw[(UJ n e).1,(UJ n e).2.1]
theorem Zqh{Lo:List ZB}(nd:(Lo.map (·.1)).Nodup){e:ZB}(he:e∈Lo):Y6 (kvG Lo) (.inl e.1) (.int ((e.2.2.2:Int)+1))=kvG (YQ Lo e.1):=by
 unfold Y6;rw[if_pos]
 ·unfold kvG YQ;rw[Qg,Qg];refine QC fun x a=>?_;simp only[Function.comp];unfold W7;by_cases h:x.1=e.1
  ·have ex:x=e:=WQ nd a he h;subst ex;rw[if_pos rfl,if_pos rfl];show _=(_,V.int (((x.2.2.2+1:Nat)):Int));rw[Int.natCast_add];rfl
  ·rw[if_neg (fun z=>h (Sum.inl.inj z)),if_neg h]
 ·exact Qax.mpr ⟨_,Qd (f:=fun e:ZB=>((.inl e.1:Key),V.int (e.2.2.2:Int))) he,decide_eq_true rfl⟩
theorem Own.ne_l{H:Hp}{o ra ga:Addr}{L:List ZB}{nb li lo:Int}(h:Own H o ra ga L nb li lo){e:ZB}(he:e∈L):e.2.1≠o∧e.2.1≠ra∧e.2.1≠ga:=by
 have a:=(h.lst e he).1;refine⟨fun z=>?_,fun z=>?_,fun z=>?_⟩
 ·rw[z,h.at']at a;cases a
 ·rw[z,h.rows]at a;cases a
 ·rw[z,h.gone]at a;cases a
theorem Own.bump{H:Hp}{o ra ga:Addr}{L:List ZB}{nb li lo:Int}(h:Own H o ra ga L nb li lo){e:ZB}(he:e∈L)(c:e.2.2.2<e.2.2.1.length):Own (upd H ga (.dK (kvG (YQ L e.1)))) o ra ga (YQ L e.1) nb li lo:=by
 obtain⟨n1,d⟩:=h.ne;have f:=h.ne2 (fun z=>by rw[z]at he;cases he);refine⟨by rw[Zc d.symm];exact h.at',by rw[Zc f.symm,Zni];exact h.rows,Zd,by rw[JY];exact h.nd,by unfold YQ;rw[Qa];exact h.few,fun x g=>?_⟩;obtain⟨y,a,rfl⟩:=Ql.mp g;obtain⟨a1,a2,a3,a4⟩:=h.lst y a;obtain⟨_,i,j⟩:=UJ e.1 y;rw[i,j];refine⟨by rw[Zc (h.ne_l a).2.2];exact a1,a2,?_,a4⟩;by_cases b:y.1=e.1
 ·have k:y=e:=WQ h.nd a he b;subst k;unfold W7;rw[if_pos rfl];exact c
 ·unfold W7;rw[if_neg b];exact a3
theorem Own.but{H H':Hp}{o ra ga:Addr}{L:List ZB}{nb li lo li' lo':Int}(h:Own H o ra ga L nb li lo)(k:∀b u,H b=some u→b≠o→H' b=some u)(d:H' o=some (.dK (Z3 ra ga nb li' lo'))):Own H' o ra ga L nb li' lo':=by obtain⟨f,g⟩:=h.ne;exact⟨d,k _ _ h.rows f,k _ _ h.gone g,h.nd,h.few,fun e c=>let ⟨a,b⟩:=h.lst e c;⟨k _ _ a (h.ne_l c).1,b⟩⟩
def UI(Lo:List ZB)(x:V)(a:List ZB)(k q:Int)(H':Hp):Prop :=
 (x=.non∧Win (hdL Lo) (Lo.map (·.1)) none∧a=Lo∧k=0∧q=0)∨∃ (e:ZB) (t:Addr) (z:Str),e∈Lo∧Win (hdL Lo) (Lo.map (·.1)) (some e.1)∧x=.ref t∧e.2.2.1[e.2.2.2]? = some z∧H' t=some (.tup [.int e.1,.int (e.2.2.2:Int),.str z])∧a=YQ Lo e.1∧Ag (hdL a) (cds z) (WN e.1 (ZN 8 (Lo.map (·.1)) e.1)) k q
def Zm7:Sp:=fun vs H Q _=>∃ (o ra ga:Addr) (Lo:List ZB) (nb li lo:Int),vs=[.ref o]∧Own H o ra ga Lo nb li lo∧(Lo.map (·.1)).Pairwise (·<·) ∧
 ∀ (x:V) (c:List ZB) (k q:Int) (a:Hp),UI Lo x c k q a→Own a o ra ga c nb (li+k) (lo+q)→(∀b u,H b=some u→b≠o→b≠ga→a b=some u)→Q x a
theorem Zmz(T:Z9 K mg ab U)(bA:Df P w K mg base 2 "_law_coming" ["_law_own"] OR)(aC:Df P w K mg base 1 "_law_heads" ["_law_own"] TQ)(g9:Df P w K mg base 2 "_law_way" ["_law_numbers", "_law_n"] JZ)(aB:Df P w K mg base 1 "_law_least" ["_law_heads_here", "_law_numbers"] (Ss K))(aY:Df P w K mg base 1 "_law_alike" ["_law_one", "_law_other"] V8):Df P w K mg base 3 "_law_taken" ["_law_own"] Zm7:=by
 refine T.t_l_taken.df WX (fun vs H Q E h=>?_) (fun ai f A outer s H vs Q E j h=>?_)
 ·obtain⟨o,F,p,Lo,nb,B,lo,rfl,_⟩:=h;rfl
 obtain⟨o,F,p,Lo,nb,B,g,rfl,O,be,q⟩:=h;refine⟨_,#[Zf,#[ZD,1,WX.nd,#[3],#[Zz,bA,j,#[Za,‹0›,#[Ze]],#[5]]],#[Zf,#[ZW,#[Zl,XR,‹1›,#[ZZ],(Zs _)],#[Zi,#[Zp,#[ZZ]]],#[ZH]],#[Zf,#[Z0,‹1›,#[gT,K,3,#[Zu,#[ZE,2,WX.nd,#[3]],#[Zu,#[ZE,3,WX.nd,#[3]],#[Zu,#[ZE,4,WX.nd,#[3]],(@Yy _)]]]]],#[Zf,#[Z0,#[ZJ,YO,‹3›,#[Zj]],#[YI,#[Zo,(ixG j),‹0›,#[Zw]],‹2›,(Ym j)]],#[Zf,#[ZD,5,WX.nd,#[3],#[Zz,aC,j,#[Za,‹0›,#[Ze]],#[5]]],#[Zf,#[X4,PassesOwn.never,#[iL,K,#[Zz,g9,j,#[Za,#[Zk,Us,#[5],T.b.n_sorted,boot_sorted,#[Za,‹5›,#[Ze]]],#[Za,‹2›,#[Ze]]],#[5]]],#[gT,K,2,#[Zu,#[ZE,6,WX.nd,#[3]],#[Zu,#[ZE,7,WX.nd,#[3]],(@Yy _)]]],#[Zf,#[Wg,8,9,WX.nd,#[Za,#[Zz,aB,j,#[Za,‹5›,#[Za,‹6›,#[Ze]]],#[5]],#[Za,#[Zz,aB,j,#[Za,‹5›,#[Za,‹7›,#[Ze]]],#[5]],#[Ze]]]],#[Zi,#[ZW,(@PW.pt _ _ _ #[Yf,#[Zl,Vh,‹8›,#[ZZ],(Zs _)],#[XT,#[Zl,Vh,‹9›,#[ZZ],(Zs _)]]]),#[Zf,#[Z0,#[ZJ,YO,#[Zo,(ixG j),‹0›,#[Zw]],#[Zj]],#[YI,‹0›,#[Zw],(Ym j)]],#[Zf,#[ZD,10,WX.nd,#[3],#[Zz,aY,j,#[Za,#[Zo,(ixG j),‹5›,‹8›],#[Za,‹4›,#[Ze]]],#[5]]],#[Zi,#[ZW,#[Zl,YH,‹10›,#[Zz,aY,j,#[Za,#[Zo,(ixG j),‹5›,‹9›],#[Za,‹4›,#[Ze]]],#[5]],(Zs _)],#[Zi,#[Z0,#[ZJ,YO,#[ZJ,VZ,#[ZJ,YO,#[Zo,(ixG j),‹0›,#[Zw]],#[Zz,aY,j,#[Za,#[Zo,(ixG j),‹5›,‹8›],#[Za,#[Zo,(ixG j),‹5›,‹9›],#[Ze]]],#[5]]],‹10›],#[Zj]],#[YI,‹0›,#[Zw],(Ym j)]]],#[ZH]]]]],#[ZH]]]]],#[Zi,#[Zp,‹1›]]]]]]]],?_⟩;refine⟨_,rfl,o,F,p,Lo,nb,B,g,rfl,O,fun x H1 hc s1=>?_⟩;have W:=O.same s1;rcases hc with⟨rfl,hw⟩|⟨t,e,z,rfl,Y,hz,ht,hw⟩
 ·exact⟨_,rfl,rfl,_,rfl,YE rfl (q .non Lo 0 0 H1 (.inl ⟨rfl,hw,rfl,rfl,rfl⟩) (by rw[QR,QR];exact W) (fun b u c _ _=>s1 b u c))⟩
 refine⟨_,rfl,rfl,_,rfl,Yn (fun z=>nomatch z) ?_⟩;refine⟨_,rfl,t,_,rfl,SqT.of ht,rfl,_,_,rfl,_,_,rfl,_,_,rfl,rfl,?_⟩;have Cn:e.2.2.2<e.2.2.1.length:=(Qe.mp hz).1;have hsz:(kvG Lo).length<sizeLine:=by unfold kvG;rw[Qa];exact Zy (by have:=O.few;lia)
 refine⟨_,rfl,_,_,rfl,rfl,_,rfl,o,_,rfl,ZP.k' (k:=.inr "gone") W.at' (Wr ..),_,rfl,p,_,rfl,YN.k (k:=.inl e.1) W.gone hsz,?_⟩;rw[Zqh O.nd Y];have I:=W.bump Y Cn;have k2:∀b u,H b=some u→b≠p→(upd H1 p (.dK (kvG (YQ Lo e.1)))) b=some u:=fun b u c n=>by rw[Zc n];exact s1 b u c
 have Co:t≠p:=fun z=>by rw[z,W.gone]at ht;cases ht
 have ca:(upd H1 p (.dK (kvG (YQ Lo e.1)))) t=some (.tup [.int e.1,.int (e.2.2.2:Int),.str z]):=by rw[Zc Co];exact ht
 generalize upd H1 p (.dK (kvG (YQ Lo e.1)))=H2 at I k2 ca ⊢;refine⟨_,rfl,o,F,p,YQ Lo e.1,nb,B,g,rfl,I,fun D G H3 hD J ho s3=>?_⟩;have Z:=JY Lo e.1;have ql:((YQ Lo e.1).map (·.1)).Pairwise (·<·):=by rw[Z];exact be
 have wV:G.length=Lo.length:=by have:=ho.per.length_eq;rw[Z,Qa,Qa]at this;exact this
 have bW:=O.few;refine⟨_,rfl,D,_,G.map (·.1),rfl,J.at',OT G,by rw[Qa];lia,fun l ns hl bj aT=>?_⟩;have sl:=Zh hl (.lst (ns.map V.int));have xV:(upd H3 l (.lst (ns.map V.int))) l=some (.lst (ns.map V.int)):=Zd;generalize upd H3 l (.lst (ns.map V.int))=H4 at sl xV ⊢;have s4:=s3.trans sl;have cr:=bj.trans ho.per;have dN:ns=Lo.map (·.1):=by rw[← Z];exact Si cr (OU aT (cr.nodup_iff.mpr I.nd)) ql
 subst dN;have aV:e.1∈Lo.map (·.1):=Qd Y;have fb:(Lo.map (·.1)).length≤60:=by rw[Qa];lia
 have jN:(Lo.map (·.1)).length≤2 ^ 8:=QB fb #[6];obtain⟨oh,oi,rC⟩:=R7 8 (Lo.map (·.1)) e.1 aV jN;refine⟨_,rfl,l,Lo.map (·.1),e.1,rfl,xV,aV,fb,be,fun r ts H5 ay cH fc bF s5=>?_⟩;have nJ:=s4.trans s5;have gA:=I.same nJ;have oB:=(J.same sl).same s5;refine⟨r,rfl,⟨_,SqL.of cH⟩,?_⟩;have qm:r≠o:=(Zb (s4 _ _ I.at') ay).symm;have xW:D≠o:=(Zb I.at' hD).symm;have qo:∀n∈Lo.map (·.1),hdL (YQ Lo e.1) n=hdE G n:=fun n hn=>ho.same I.nd n (by rw[Z];exact hn);refine UE (K:=K) (a:=r) (xs:=ts.map fun t=>V.ref t.1) (fun i σ M=>∃ (k v:Int) (v6 v7 v8 v9 dP:Option V),σ=[some (.ref o),some (.ref t),some (.int e.1),some (.int (e.2.2.2:Int)),some (.str z),some (.ref D),v6,v7,v8,v9,dP]∧i≤ts.length∧M o=some (.dK (Z3 F p nb (B+k) (g+v)))∧Ag (hdL (YQ Lo e.1)) (cds z) (WN e.1 ((ZN 8 (Lo.map (·.1)) e.1).take i)) k v∧(∀b u,H5 b=some u→b≠o→M b=some u)) ⟨0,0,_,_,_,_,_,rfl,Qw _,by rw[QR,QR];exact gA.at',.nil,fun b u h _=>h⟩ (fun i σ M _ hq=>by obtain⟨_,_,_,_,_,_,_,_,_,_,_,k6⟩:=hq;exact SqL.of (k6 _ _ cH qm)) ?_ ?_
 ·rintro i y σ M hy ⟨k,v,v6,v7,v8,v9,dP,rfl,hi,uy,N,k6⟩;rw[Qm]at hy;cases qp:ts[i]? with
  | none=>rw[qp]at hy;cases hy
  | some u =>
  rw[qp]at hy;cases hy;have bc:i<ts.length:=(Qe.mp qp).1;cases hX:(ZN 8 (Lo.map (·.1)) e.1)[i]? with
  | none=>rw[Qag]at hX;lia
  | some X =>
  obtain⟨x1,x2,x3,x4⟩:=oh i X hX;obtain⟨g1,g2,g3⟩:=bF i u X qp hX;have uz:∀b w',H5 b=some w'→(∀kk,w'≠.dK kk)→b≠o:=fun b w' c hk zz=>by rw[zz,gA.at']at c;injection c with c;exact hk _ c.symm
  have Cp:=k6 _ _ g1 (uz _ _ g1 fun _ z=>by cases z);have Cq:=k6 _ _ g2 (uz _ _ g2 fun _ z=>by cases z);have Cr:=k6 _ _ g3 (uz _ _ g3 fun _ z=>by cases z);have pm:=R9 X e.1;have sA:∀b∈ZX X e.1,b∈Lo.map (·.1):=fun b c=>x1.mem (pm.mem_iff.mp (QM _ c));have sB:∀b∈Zt X e.1,b∈Lo.map (·.1):=fun b c=>x1.mem (pm.mem_iff.mp (Qx _ c));have qq:∀b∈Lo.map (·.1),b∈G.map (·.1):=fun b c=>ho.per.mem_iff.mpr (by rw[Z];exact c);have lA:(ZX X e.1).length≤60:=by have:=Oq x2 e.1;have:X.length≤(Lo.map (·.1)).length:=x1.len;lia
  have lB:(Zt X e.1).length≤60:=by have:X.length≤(Lo.map (·.1)).length:=x1.len;have:=pm.length_eq;rw[Qi]at this;lia
  have iy:Hds M D G:=⟨k6 _ _ oB.at' xW,oB.nd,oB.ok⟩;refine⟨u.1,_,rfl,SqT.of Cp,rfl,_,_,rfl,_,_,rfl,rfl,?_⟩;refine⟨_,rfl,_,rfl,D,u.2.1,G,ZX X e.1,rfl,iy,SqL.of Cq,lA,fun b c=>qq b (sA b c),fun R H7 w1 s7=>?_⟩;refine⟨_,rfl,_,rfl,D,u.2.2,G,Zt X e.1,rfl,iy.same s7,SqL.of (s7 _ _ Cr),lB,fun b c=>qq b (sB b c),fun S H8 w2 s8=>⟨_,_,rfl,?_⟩⟩;have uA:=s7.trans s8;have kH:=uA _ _ uy;have uB:Win (hdL (YQ Lo e.1)) (ZX X e.1) R:=w1.congr fun m hm=>qo m (sA m hm);have uC:Win (hdL (YQ Lo e.1)) (Zt X e.1) S:=w2.congr fun m hm=>qo m (sB m hm);have kR:∀b u,H5 b=some u→b≠o→H8 b=some u:=fun b u c n=>uA _ _ (k6 b u c n);have jd:WN e.1 ((ZN 8 (Lo.map (·.1)) e.1).take (i+1))=WN e.1 ((ZN 8 (Lo.map (·.1)) e.1).take i)++[(ZX X e.1,Zt X e.1)]:=by unfold WN;rw[QH,hX,Qf];rfl
  cases R with
  | none=>exact⟨_,rfl,rfl,_,rfl,WD rfl (YZ ⟨k,v,_,_,_,_,_,rfl,bc,kH,by rw[jd];exact .no N (.inl uB),kR⟩)⟩
  | some a =>
  refine⟨_,rfl,rfl,_,rfl,TX (fun z=>nomatch z) ?_⟩;cases S with
  | none=>exact⟨_,rfl,rfl,_,rfl,WD rfl ⟨k,v,_,_,_,_,_,rfl,bc,kH,by rw[jd];exact .no N (.inr uC),kR⟩⟩
  | some b =>
  refine⟨_,rfl,rfl,_,rfl,TX (fun z=>nomatch z) ?_⟩;obtain⟨ma,C,ea,ha⟩:=Sr w1;obtain⟨mb,L,eb,c⟩:=Sr w2;have oC:=iy.same uA;have R:=UQ J.nd (qq a (sA a ma));have S:=UQ J.nd (qq b (sB b mb));rw[ea]at R;rw[eb]at S;have ic:hdL (YQ Lo e.1) a=some (cds C):=by rw[qo a (sA a ma)];exact ha
  have aK:hdL (YQ Lo e.1) b=some (cds L):=by rw[qo b (sB b mb)];exact c
  have xX:z.length≤1000:=((O.lst e Y).2.2.2 z (Qo hz)).1;have gI:∀l1 l2:Int,(Z3 F p nb l1 l2).length<sizeLine:=fun _ _=>Zy (by show 5≤1000;decide);refine⟨_,rfl,o,_,rfl,ZP.k' (k:=.inr "likenings") kH (Sn ..),_,_,rfl,rfl,_,rfl,o,_,rfl,YN.k (k:=.inr "likenings") kH (gI _ _),?_⟩;rw[KR];have qr:(upd H8 o (.dK (Z3 F p nb (B+k+1) (g+v)))) o=some (.dK (Z3 F p nb (B+k+1) (g+v))):=Zd;have eS:Hds (upd H8 o (.dK (Z3 F p nb (B+k+1) (g+v)))) D G:=⟨by rw[Zc xW];exact oC.at',oC.nd,oC.ok⟩;have kT:∀b u,H5 b=some u→b≠o→(upd H8 o (.dK (Z3 F p nb (B+k+1) (g+v)))) b=some u:=fun b u c n=>by rw[Zc n];exact kR b u c n
  generalize upd H8 o (.dK (Z3 F p nb (B+k+1) (g+v)))=H9 at qr eS kT ⊢;refine⟨_,rfl,_,rfl,D,_,rfl,ZP.k' (k:=.inl a) eS.at' R,_,rfl,C,z,rfl,(J.lk ea).1,xX,?_⟩;refine⟨_,rfl,_,rfl,_,rfl,D,_,rfl,ZP.k' (k:=.inl b) eS.at' S,_,rfl,L,z,rfl,(J.lk eb).1,xX,rfl,_,rfl,Y3 (fun d=>?_) (fun d=>?_)⟩
  ·have ef:lcp (cds C) (cds z)=lcp (cds L) (cds z):=by have:=of_decide_eq_true d;injection this with this;lia
   refine⟨_,rfl,o,_,rfl,ZP.k' (k:=.inr "looks") qr (OV ..),_,rfl,_,rfl,D,_,rfl,ZP.k' (k:=.inl a) eS.at' R,_,rfl,_,rfl,D,_,rfl,ZP.k' (k:=.inl b) eS.at' S,C,L,rfl,(J.lk ea).1,(J.lk eb).1,_,_,rfl,rfl,_,rfl,_,_,rfl,rfl,_,_,rfl,rfl,_,rfl,o,_,rfl,YN.k (k:=.inr "looks") qr (gI _ _),?_⟩;rw[KQ];refine⟨k+1,v+((lcp (cds C) (cds L):Nat)-(lcp (cds C) (cds z):Nat)+1),_,_,_,_,_,rfl,bc,?_,by rw[jd];exact .eq N uB uC ic aK ef,fun b u c n=>by rw[Zc n];exact kT b u c n⟩;rw[Zd];have e1:B+k+1=B+(k+1):=by lia
   have e2:g+v+((lcp (cds C) (cds L):Nat):Int)-((lcp (cds C) (cds z):Nat):Int)+1=g+(v+((lcp (cds C) (cds L):Nat)-(lcp (cds C) (cds z):Nat)+1)):=by lia
   rw[e1,e2]
  ·have nf:lcp (cds C) (cds z)≠lcp (cds L) (cds z):=fun e=>d (decide_eq_true (by rw[e]));exact⟨k+1,v,_,_,_,_,_,rfl,bc,by rw[show B+(k+1)=B+k+1 by lia];exact qr,by rw[jd];exact .ne N uB uC ic aK nf,kT⟩
 ·rintro σ M ⟨k,v,v6,v7,v8,v9,dP,rfl,_,uy,N,k6⟩;rw[Qa,fc,Qv (Qh _)]at N;have Cs:t≠o:=fun zz=>by rw[zz,I.at']at ca;cases ca
  refine⟨_,rfl,q (.ref t) (YQ Lo e.1) k v M (.inr ⟨e,t,z,Y,hw,rfl,hz,k6 _ _ (nJ _ _ ca) Cs,rfl,N⟩) (gA.but k6 uy) (fun b u c n1 n2=>k6 b u (nJ b u (k2 b u c n2)) n1)⟩
structure MS where
 m:Addr
 rd:Addr
 sd:Addr
 L:List Zx
 s:StL
 nb:Int
 li:Int
 lo:Int
 w:Option Int
structure OS where
 o:Addr
 ra:Addr
 ga:Addr
 Lo:List ZB
 nb:Int
def Z4(Y:OS)(b:Addr):Prop:=b=Y.o∨b=Y.ra∨b=Y.ga∨∃e∈Y.Lo,b=e.2.1
def MFp(X:MS)(b:Addr):Prop:=Fp X.m X.rd X.sd X.L b
structure MOk (cR cM:Addr) (H:Hp) (X:MS):Prop where
 M:ZQ cR cM H X.m X.rd X.sd X.L X.s X.nb X.li X.lo (Y4 X.w)
 W:Win (hdM X.L) (Zv X.L) X.w
 ok:ZV (hdM X.L) X.s (Zv X.L)
structure Yd (cR cM:Addr) (H:Hp) (X:MS) (Y:OS):Prop where
 mg:MOk cR cM H X
 ow:Own H Y.o Y.ra Y.ga Y.Lo Y.nb X.li X.lo
 ag:Agr Y.Lo X.L
 sep:∀b,MFp X b→¬ Z4 Y b
theorem MOk.same{a b:Addr}{H H':Hp}{X:MS}(h:MOk a b H X)(s:ZG H H'):MOk a b H' X:=⟨h.M.same s,h.W,h.ok⟩
theorem MOk.keep{a c:Addr}{H H':Hp}{X:MS}(h:MOk a c H X)(k:∀b o,H b=some o→MFp X b∨(∃xs,o=.tup xs)→H' b=some o):MOk a c H' X:=⟨h.M.keep k,h.W,h.ok⟩
theorem Own.keep{H H':Hp}{o ra ga:Addr}{L:List ZB}{nb li lo:Int}(h:Own H o ra ga L nb li lo)(k:∀b u,H b=some u→Z4 ⟨o,ra,ga,L,nb⟩ b→H' b=some u):Own H' o ra ga L nb li lo :=
 ⟨k _ _ h.at' #[8],k _ _ h.rows (.inr #[8]),k _ _ h.gone (.inr (.inr #[8])),h.nd,h.few,fun e c=>let ⟨a,b⟩:=h.lst e c;⟨k _ _ a (.inr (.inr (.inr ⟨e,c,rfl⟩))),b⟩⟩
theorem Yd.same{a b:Addr}{H H':Hp}{X:MS}{Y:OS}(h:Yd a b H X Y)(s:ZG H H'):Yd a b H' X Y:=⟨h.mg.same s,h.ow.same s,h.ag,h.sep⟩
theorem N9{o ra ga:Addr}{Lo:List ZB}{nb:Int}{n:Int}{b:Addr}(h:Z4 ⟨o,ra,ga,YQ Lo n,nb⟩ b):Z4 ⟨o,ra,ga,Lo,nb⟩ b:=by
 rcases h with h|h|h|⟨e',a,h⟩
 ·exact .inl h
 ·exact .inr (.inl h)
 ·exact .inr (.inr (.inl h))
 ·obtain⟨e,c,rfl⟩:=Ql.mp a;rw[(UJ n e).2.1]at h;exact .inr (.inr (.inr ⟨e,c,h⟩))
theorem Vo{Lo:List ZB}{L:List Zx}(h:Agr Lo L):pur Lo=ZU L:=h
theorem Own.live{H:Hp}{o ra ga:Addr}{L:List ZB}{nb li lo:Int}(h:Own H o ra ga L nb li lo){b:Addr}(hb:Z4 ⟨o,ra,ga,L,nb⟩ b):∃u,H b=some u∧∀xs,u≠.tup xs:=by
 rcases hb with rfl|rfl|rfl|⟨e,a,rfl⟩
 ·exact⟨_,h.at',fun xs z=>by cases z⟩
 ·exact⟨_,h.rows,fun xs z=>by cases z⟩
 ·exact⟨_,h.gone,fun xs z=>by cases z⟩
 ·exact⟨_,(h.lst e a).1,fun xs z=>by cases z⟩
theorem Zmf{A B:Addr}{H g h:Hp}{X:MS}{Y:OS}(p:Yd A B H X Y){x y:V}{a:List Zx}{s':StL}{l:Option Int}{k q k' v:Int}{w:List ZB}(hR:UL X.L X.w x a k q g)
  (M1:ZQ A B g X.m X.rd X.sd a s' X.nb (X.li+k) (X.lo+q) (Y4 l)) (D:Win (hdM a) (Zv a) l) (E:ZV (hdM a) s' (Zv a)) (k1:∀b o,H b=some o→¬ MFp X b→g b=some o)
  (C:UI Y.Lo y w k' v h) (F:Own h Y.o Y.ra Y.ga w Y.nb (X.li+k') (X.lo+v)) (k2:∀b u,g b=some u→b≠Y.o→b≠Y.ga→h b=some u) (n:Nat) :
  k=k'∧q=v∧Yd A B h ⟨X.m,X.rd,X.sd,a,s',X.nb,X.li+k,X.lo+q,l⟩ ⟨Y.o,Y.ra,Y.ga,w,Y.nb⟩∧IsD h (n+2) x y∧(∀b,MFp ⟨X.m,X.rd,X.sd,a,s',X.nb,X.li+k,X.lo+q,l⟩ b↔MFp X b)∧(∀b,Z4 ⟨Y.o,Y.ra,Y.ga,w,Y.nb⟩ b→Z4 Y b) ∧
   ((Win (hdP (ZU X.L)) (YX (ZU X.L)) none∧a=X.L∧k=0∧q=0)∨∃ (u:Y9) (z:Str),Wl (ZU X.L) u z k q∧ZU a=X7 (ZU X.L) u.1):=by
 have m:∀b,MFp ⟨X.m,X.rd,X.sd,a,s',X.nb,X.li+k,X.lo+q,l⟩ b↔MFp X b:=fun b=>hR.fp;have nd:(YX (ZU X.L)).Nodup:=by rw[← Xa];exact p.mg.M.nd
 have j:=Vo p.ag;have G:∀t d,g t=some (.tup d)→h t=some (.tup d):=fun t d r=>by
  have I:∀b,Z4 Y b→∃u,g b=some u∧∀d,u≠.tup d:=fun b c=>by obtain⟨u,i,s⟩:=p.ow.live c;exact⟨u,k1 b u i (fun z=>p.sep b z c),s⟩
  refine k2 t _ r (fun z=>?_) (fun z=>?_)
  ·obtain⟨u,i,s⟩:=I t (.inl z);rw[r]at i;cases i;exact s d rfl
  ·obtain⟨u,i,s⟩:=I t (.inr (.inr (.inl z)));rw[r]at i;cases i;exact s d rfl
 have J:∀b o,g b=some o→Fp X.m X.rd X.sd a b∨(∃d,o=.tup d)→h b=some o:=fun b o c O=>by
  rcases O with P|⟨d,rfl⟩
  ·have:=p.sep b ((m b).mp P);exact k2 b o c (fun z=>this (.inl z)) (fun z=>this (.inr (.inr (.inl z))))
  ·exact G b d c
 have W:=p.mg.W;have Q:=J0 W hR;have hTW:=C;rcases Q with⟨K,rfl,rfl,rfl,rfl⟩|⟨u,z,t,st,L,rfl,r⟩
 ·rcases C with⟨rfl,hw,rfl,rfl,rfl⟩|⟨e,t,z,_,hw,_⟩
  ·refine⟨rfl,rfl,⟨⟨M1.keep J,D,E⟩,F,p.ag,fun b c=>p.sep b ((m b).mp c)⟩,V0 #[8],m,fun b c=>c,.inl ⟨K,rfl,rfl,rfl⟩⟩
  ·rw[Vp,Wm,j]at hw;exact nomatch K.one hw
 ·rcases C with⟨_,hw,_⟩|⟨e,t',R,S,hw,rfl,T,U,rfl,M⟩
  ·rw[Vp,Wm,j]at hw;exact nomatch hw.one st.2.2.1
  ·have N:=hw;rw[Vp,Wm,j]at N;have Z:Wl (ZU X.L) (e.1,e.2.2) R k' v:=by refine⟨by rw[← j];exact Qd (f:=fun e:ZB=>(e.1,e.2.2)) S,T,N,?_⟩;rw[Vp,RZ,Wm,j]at M;exact M
   obtain⟨e1,e2,e3,e4⟩:=st.one nd Z;subst e1;subst e2;subst e3;subst e4;have Ct:Agr (YQ Y.Lo e.1) a:=by show pur (YQ Y.Lo e.1)=ZU a;rw[RZ,j,L]
   refine⟨rfl,rfl,⟨⟨M1.keep J,D,E⟩,F,Ct,fun b c ho=>p.sep b ((m b).mp c) (N9 ho)⟩,?_,m,fun b c=>N9 c,.inr ⟨_,z,st,L⟩⟩;exact Sa (G _ _ r) U (by show 3≤1000;decide) (.cons (Xv _) (.cons (Xv _) (.cons (V0 (.inr (.inr (.inr ⟨_,rfl⟩)))) .nil)))
theorem JX{P:List Y9}(nd:(YX P).Nodup)(h:Win (hdP P) (YX P) none)(ok:∀x∈P,x.2.2≤x.2.1.length):Yg P=0:=by
 unfold Yg;have:∀l:List Nat,(∀a∈l,a=0)→l.sum=0:=fun l e=>by
  induction l with
  | nil=>rfl
  | cons b r j=>rw[QaD,e b #[4],j fun a c=>e a (Qt _ c)]
 refine this _ fun a c=>?_;obtain⟨x,g,rfl⟩:=Ql.mp c;have d:=h x.1 (Qd (f:=fun x:Y9=>x.1) g);rw[Zq9 nd g]at d;cases i:x.2.1[x.2.2]? with
 | none=>rw[Qag]at i;show x.2.1.length-x.2.2=0;lia
 | some y=>rw[i]at d;cases d
theorem JW{a b:Addr}{H:Hp}{X:MS}(h:MOk a b H X):(YX (ZU X.L)).Nodup:=by rw[← Xa];exact h.M.nd
def JV(K:#[7])(c d:Addr):Sp:=fun vs H Q _=>∃ (m rd sd:Addr) (L:List Zx) (s:StL) (nb li lo:Int) (h:V) (r:Addr) (ss:List Str),vs=[.ref m,.ref r]∧ZQ c d H m rd sd L s nb li lo h∧(∀e∈L,e.n<nb)∧L.length<16∧H r=some (.lst (ss.map V.str))∧ss.length≤100∧(∀x∈ss,x.length≤1000∧AZ x)∧sortedS ss=true ∧
 ∀ (e:Zx) (f:Addr) (g:StL) (w:Option Int) (k q:Int) (a:Hp),e.n=nb→e.ss=ss→e.g=0→H e.p=none→H e.k=none→H e.f=none→H f=none→Win (hdM (L++[e])) (Zv (L++[e])) w→XY (hdM (L++[e])) g 8 (Zv (L++[e]))→YW (hdM (L++[e])) 8 (Zv (L++[e])) k q→ZQ c d a m rd f (L++[e]) g (nb+1) (li+k) (lo+q) (Y4 w)→(∀b o,H b=some o→b≠m→b≠rd→a b=some o)→Q (.int nb) a
theorem ZkJ(T:Z9 K mg ab U)(au:Df P w K mg base 5 "refuse_break" ["number", "keys"] (TM K))(aR:Cf P w K mg base 4 ab "Row" ["self", "keys"] (Sz ab))(aj:Mf P w K mg base 13 U "play_all" ["self"] (TD ab U)):Mf P w K mg base 14 U "add_row" ["self", "row"] (JV K ab U):=by
 refine T.t_Merge_add_row.mf LM (fun vs H Q E h=>?_) (fun ai f A outer s H vs Q E G h=>?_)
 ·obtain⟨m,g,p,L,s,nb,B,lo,C,r,j,rfl,_⟩:=h;rfl
 obtain⟨m,g,p,L,s,nb,B,lo',C,r,j,rfl,M,ah,gS,ay,dJ,Y,eC,q⟩:=h;refine⟨_,#[Zf,#[ZD,2,LM.nd,#[3],#[ZK,‹0›]],#[Zf,#[YL,#[Zz,au,G,#[Za,‹2›,#[Za,‹1›,#[Ze]]],#[5]]],#[Zf,#[ZW,#[Zl,NK,#[Zk,Rm,#[5],T.b.n_len,Qz,#[Za,#[ZK,‹0›],#[Ze]]],(@ZpQ _ _ _ _ T.g_MOST_ROWS #[5] #[6]),(Zs _)],#[Zi,(@Rj _ _)],#[ZH]],#[Zf,#[Z0,#[VI,aR,G,#[Za,‹1›,#[Ze]]],#[YI,#[ZK,‹0›],‹2›,(Ym G)]],#[Zf,#[VU,‹0›,#[Zj],UB],#[Zf,#[YL,#[YT,aj,T.cl_Merge,G,‹0›]],#[Zi,#[Zp,‹2›]]]]]]]],?_⟩;obtain⟨dx,I⟩:=M.ob;refine⟨_,rfl,m,U,dx,_,_,rfl,I,T.cl_Merge,T.na_Merge_next_number,OA ..,?_⟩;refine⟨_,rfl,_,rfl,nb,r,j,rfl,SqL.of ay,by lia,fun x D=>(Y x D).1,Ov eC,fun Z J=>?_⟩;have M1:=M.same J;have cL:=J _ _ I;have gC:(((kvM L).length:Nat):Int)=(L.length:Int):=by unfold kvM;rw[Qa]
 refine⟨_,rfl,m,U,dx,_,_,rfl,cL,T.cl_Merge,T.na_Merge_rows,XX ..,g,_,rfl,M1.rows,_,_,rfl,rfl,_,rfl,Y3 (fun d=>?_) (fun d=>?_)⟩
 ·have:(16:Int)≤(((kvM L).length:Nat):Int):=of_decide_eq_true d;exact absurd this #[2]
 refine⟨_,rfl,fun u l hu gh xp=>?_⟩;have N:H u=none:=J.free hu;have O:∀b o,H b=some o→(upd (upd Z l (.own u)) u (.ins ab l [])) b=some o:=fun b o c=>by have:=J _ _ c;rw[Zc (Zb this hu),Zc (Zb this gh)];exact this
 have kL:(upd (upd Z l (.own u)) u (.ins ab l [])) u=some (.ins ab l []):=Zd;generalize upd (upd Z l (.own u)) u (.ins ab l [])=H8 at O kL ⊢;refine⟨u,l,r,j,rfl,kL,O _ _ ay,dJ,fun x D=>(Y x D).1,fun k f F hk hf pR R k9=>⟨rfl,?_⟩⟩;have s9:ZG H F:=fun b o c=>k9 b o (O b o c) (Zb c N);have free:∀b,H8 b=none→H b=none:=fun b c=>by
  cases e:H b with
  | none=>rfl
  | some o=>rw[O b o e]at c;cases c
 have xY:=free k hk;have xZ:=free f hf;have i:=M.same s9;have jc:=s9 _ _ I;have kN:g≠u∧g≠k∧g≠f:=⟨Zb M.rows N,Zb M.rows xY,Zb M.rows xZ⟩;have hsz:(kvM L).length<sizeLine:=by unfold kvM;rw[Qa];exact Zy #[2]
 have fY:Z8 (kvM L) (.inl nb)=none:=by
  cases hv:Z8 (kvM L) (.inl nb) with
  | none=>rfl
  | some v=>obtain⟨e,he,z⟩:=Ql.mp (Wa hv);injection z with z _;have:=ah e he;have:=Sum.inl.inj z;lia
 refine⟨_,rfl,m,U,dx,_,_,rfl,jc,T.cl_Merge,T.na_Merge_rows,XX ..,_,rfl,g,_,rfl,YN.k (k:=.inl nb) i.rows hsz,?_⟩;rw[WA _ fY,show kvM L++[((.inl nb:Key),V.ref u)]=kvM (L++[⟨nb,u,k,f,j,0⟩]) by unfold kvM;rw[Qf];rfl];obtain⟨n1,n2,n3⟩:=i.ne_m;have g8:ZQ ab U (upd F g (.dK (kvM (L++[⟨nb,u,k,f,j,0⟩])))) m g p (L++[⟨nb,u,k,f,j,0⟩]) s nb B lo' C:=by
  refine⟨⟨dx,by rw[Zc n1];exact jc⟩,Zd,?_,?_,fun e he=>?_,?_,?_,by rw[Qi,Qy];lia,M.sfew,⟨M.kb.1,Kb.of M.kb.nn fun n hn=>by unfold Zv at hn;rw[Qf]at hn;rcases Qn.mp hn with h|h;exact M.kb.to n h;have e0:n=nb:=(by simpa using h);have:=M.kb.nn;lia⟩⟩
  ·rw[Zc (fun z=>by have:=i.stays;rw[z,i.rows]at this;cases this)];exact i.stays
  ·intro e he t ht;have c:=i.ats e he t ht;rw[Zc (fun z=>by rw[z,i.rows]at c;cases c)];exact c
  ·rcases Qn.mp he with he|he
   ·have S:=i.each e he;obtain⟨de,W⟩:=S.at'.ob;refine S.mono fun b o c aM=>?_;have nb':b≠g:=fun z=>by
     rw[z,i.rows]at c;injection c with c;subst c;rcases aM with z2|z2|z2
     ·rw[← z2,z,i.rows]at W;cases W
     ·have:=S.at'.ks;rw[← z2,z,i.rows]at this;cases this
     ·have:=S.at'.fs;rw[← z2,z,i.rows]at this;cases this
    rw[Zc nb'];exact c
   ·rw[Qk.mp he];refine X8.keep (H:=F) ⟨R,Qw _,dJ,eC,Y⟩ (Zc kN.1.symm) (Zc kN.2.1.symm) (Zc kN.2.2.symm)
  ·unfold Zv;rw[Qf];refine Qaj.mpr ⟨M.up,List.pairwise_singleton ..,fun x D y hy=>?_⟩;obtain⟨e,he,rfl⟩:=Ql.mp D;have:y=nb:=by simpa using hy
   rw[this];exact ah e he
  ·rw[Qf];refine QaJ.mpr ⟨M.pd,by simp,fun a ha b c=>?_⟩;obtain⟨e,he,rfl⟩:=Ql.mp ha;have:b=u:=by simpa using c
   rw[this];obtain⟨de,W⟩:=(M.each e he).at'.ob;exact Zb W N
 have k10:∀b o,H b=some o→b≠g→(upd F g (.dK (kvM (L++[⟨nb,u,k,f,j,0⟩])))) b=some o:=fun b o c n=>by rw[Zc n];exact s9 b o c
 generalize upd F g (.dK (kvM (L++[⟨nb,u,k,f,j,0⟩])))=bg at g8 k10 ⊢;have lH:=k10 _ _ I n1;refine⟨_,rfl,m,U,dx,_,_,rfl,lH,T.cl_Merge,T.na_Merge_next_number,OA ..,_,_,rfl,rfl,dx,_,lH,XH ..,?_⟩;rw[KL];have X:=g8.obj (nb':=nb+1) (li':=B) (lo':=lo') (best':=C) (dx:=dx);have k11:∀b o,H b=some o→b≠m→b≠g→(upd bg m (.ins U dx (mgF g (nb+1) B lo' p C))) b=some o:=fun b o c n n'=>by rw[Zc n];exact k10 b o c n'
 generalize upd bg m (.ins U dx (mgF g (nb+1) B lo' p C))=fk at X k11 ⊢;obtain⟨hJ,gs⟩:=X.ob;have qw:∀b,fk b=none→H b=none:=fun b c=>by
  cases e:H b with
  | none=>rfl
  | some o =>
   by_cases z:b=m
   ·rw[z,gs]at c;cases c
   ·by_cases z':b=g
    ·rw[z',X.rows]at c;cases c
    ·rw[k11 b o e z z']at c;cases c
 refine⟨_,rfl,m,hJ,_,rfl,gs,Sd ..,m,g,p,_,s,_,_,_,_,rfl,X,fun az s' w0 k0 q0 fE dL hU je uD kU k12=>⟨_,rfl,?_⟩⟩;exact q ⟨nb,u,k,f,j,0⟩ az s' w0 k0 q0 fE rfl rfl rfl N xY xZ (qw az dL) hU je uD kU (fun b o c n n'=>k12 b o (k11 b o c n n') n)
theorem XF.one{P:List Y9}(nd:(YX P).Nodup){ts:List W6}{d:List Y9}{k q:Int}(h:XF P ts d k q):∀ {us:List W6} {b:List Y9} {k' c:Int},XF P us b k' c→ts.length=us.length→ts=us∧d=b∧k=k'∧q=c:=by
 induction h with
 | nil =>
  intro us b k' c g a;cases g with
  | nil=>exact⟨rfl,rfl,rfl,rfl⟩
  | snoc _ _=>rw[Qi,Qy]at a;exact absurd a #[4]
 | snoc h s e =>
  intro us b k' c g a;cases g with
  | nil=>rw[Qi,Qy]at a;exact absurd a #[4]
  | snoc f i=>rw[Qi,Qi,Qy,Qy]at a;obtain⟨j,l,m,n⟩:=e f #[2];subst j;subst l;subst m;subst n;obtain⟨o,p,r,t⟩:=s.one (by rw[h.num];exact nd) i;subst o;subst p;subst r;subst t;exact⟨rfl,rfl,rfl,rfl⟩
theorem Znn{a:List Zx}{P:List Y9}{ts:List W6}{k q:Int}{b:Option Int}{many:Nat}(nd:(YX P).Nodup)(h:XF P ts (ZU a) k q)(h1:(ts.length:Int)<(many:Int)→b=none)(h2:ts≠[]→(ts.length:Int)≤(many:Int))(W:Win (hdM a) (Zv a) b)(ok:∀x∈ZU a,x.2.2≤x.2.1.length):ts.length=min many (Yg P):=by
 have hl:=h.left nd;by_cases c:(ts.length:Int)<(many:Int)
 ·have e:=h1 c;subst e;rw[UK,Xa]at W;have hz:=JX (by rw[h.num];exact nd) W ok;lia
 ·by_cases d:ts=[]
  ·subst d;simp only[List.length_nil]at c ⊢;lia
  ·have:=h2 d;lia
theorem ownA_bump'{o ra ga:Addr}{Lo:List ZB}{nb:Int}{n:Int}{b:Addr}(h:Z4 ⟨o,ra,ga,Lo,nb⟩ b):Z4 ⟨o,ra,ga,YQ Lo n,nb⟩ b:=by
 rcases h with h|h|h|⟨e,a,h⟩
 ·exact .inl h
 ·exact .inr (.inl h)
 ·exact .inr (.inr (.inl h))
 ·exact .inr (.inr (.inr ⟨W7 n e,Qd (f:=W7 n) a,by rw[(UJ n e).2.1];exact h⟩))
theorem UI.own{Lo a:List ZB}{x:V}{k q:Int}{H:Hp}(h:UI Lo x a k q H){o ra ga:Addr}{nb:Int}{b:Addr}:Z4 ⟨o,ra,ga,a,nb⟩ b↔Z4 ⟨o,ra,ga,Lo,nb⟩ b:=by
 rcases h with⟨_,_,rfl,_⟩|⟨e,t,z,_,_,_,_,_,rfl,_⟩
 ·exact Iff.rfl
 ·exact⟨N9,ownA_bump'⟩
theorem Zle{Lo a:List ZB}{x:V}{k q:Int}{H:Hp}(h:UI Lo x a k q H):(Win (hdP (pur Lo)) (YX (pur Lo)) none∧x=.non∧a=Lo∧k=0∧q=0)∨∃ (y:Y9) (z:Str) (t:Addr),Wl (pur Lo) y z k q∧pur a=X7 (pur Lo) y.1∧x=.ref t∧H t=some (.tup [.int y.1,.int (y.2.2:Int),.str z]):=by
 rcases h with⟨b,c,g,i,j⟩|⟨e,t,z,l,hw,b,m,n,rfl,d⟩
 ·rw[Vp,Wm]at c;exact .inl ⟨c,b,g,i,j⟩
 ·rw[Vp,Wm]at hw;refine .inr ⟨(e.1,e.2.2),z,t,⟨Qd (f:=fun e:ZB=>(e.1,e.2.2)) l,m,hw,?_⟩,RZ Lo e.1,b,n⟩;rw[Vp,RZ,Wm]at d;exact d
theorem ZrF{H:Hp}{o ra ga:Addr}{L:List ZB}{nb li lo:Int}(h:Own H o ra ga L nb li lo):∀x∈pur L,x.2.2≤x.2.1.length:=fun x hx=>by obtain⟨e,a,rfl⟩:=Ql.mp hx;exact(h.lst e a).2.2.1
theorem ZnG{H:Hp}{o ra ga:Addr}{L:List ZB}{nb li lo:Int}(h:Own H o ra ga L nb li lo):(YY L).sum=((Yg (pur L):Nat):Int):=by
 have:∀l:List ZB,(∀e∈l,e.2.2.2≤e.2.2.1.length)→(YY l).sum=((Yg (pur l):Nat):Int):=fun l a=>by
  induction l with
  | nil=>rfl
  | cons e r c=>have b:=c fun x d=>a x (Qt _ d);have h2:=a e #[4];unfold YY Yg pur at b ⊢;rw[Qj,Qj,Qj,QaD,QaD,b,Int.natCast_add];show (e.2.2.1.length:Int)-(e.2.2.2:Int)+_=((e.2.2.1.length-e.2.2.2:Nat):Int)+_;lia
 exact this L fun e f=>(h.lst e f).2.2.1
theorem JU{H:Hp}{n:Nat}:∀ (us vs:List (Addr×W6)),us.map (·.2)=vs.map (·.2)→(∀u∈us,H u.1=some (.tup [.int u.2.1,.int (u.2.2.1:Int),.str u.2.2.2]))→(∀u∈vs,H u.1=some (.tup [.int u.2.1,.int (u.2.2.1:Int),.str u.2.2.2]))→F2 (IsD H (n+2)) (us.map fun u=>V.ref u.1) (vs.map fun u=>V.ref u.1)
 | [],[],_,_,_=>.nil
 | [],_::_,e,_,_=>by cases e
 | _::_,[],e,_,_=>by cases e
 | u::us,v::vs,e,h,g=>by rw[Qj,Qj]at e;obtain⟨c,d⟩:=List.cons.inj e;have f:=h u #[4];have b:=g v #[4];rw[← c]at b;exact .cons (Sa f b (by show 3≤1000;decide) (.cons (Xv _) (.cons (Xv _) (.cons (V0 (.inr (.inr (.inr ⟨_,rfl⟩)))) .nil)))) (JU us vs d (fun x a=>h x (Qt _ a)) (fun x a=>g x (Qt _ a)))
theorem Zph(L:List ZB)(e:ZB):kvR (L++[e])=kvR L++[((.inl e.1:Key),V.ref e.2.1)]:=by unfold kvR;rw[Qf];rfl
theorem Zp1(L:List ZB)(e:ZB):kvG (L++[e])=kvG L++[((.inl e.1:Key),V.int (e.2.2.2:Int))]:=by unfold kvG;rw[Qf];rfl
theorem Zoi{L:List ZB}{n:Int}(h:∀e∈L,e.1<n):Z8 (kvR L) (.inl n)=none:=by
 cases a:Z8 (kvR L) (.inl n) with
 | none=>rfl
 | some v=>obtain⟨e,b,z⟩:=Ql.mp (Wa a);injection z with z _;have:=h e b;have:=Sum.inl.inj z;lia
theorem ZnM{L:List ZB}{n:Int}(h:∀e∈L,e.1<n):Z8 (kvG L) (.inl n)=none:=by
 cases a:Z8 (kvG L) (.inl n) with
 | none=>rfl
 | some v=>obtain⟨e,b,z⟩:=Ql.mp (Wa a);injection z with z _;have:=h e b;have:=Sum.inl.inj z;lia
theorem ZjK(ra ga:Addr)(nb li lo v:Int):Y6 (Z3 ra ga nb li lo) (.inr "number") (.int v)=Z3 ra ga v li lo:=by
 unfold Y6;rw[if_pos]
 ·unfold Z3;simp only[List.map_cons,List.map_nil];rw[if_neg (fun z=>K1 (Sum.inr.inj z)),if_neg (fun z=>absurd (Sum.inr.inj z) #[1]),if_pos True.intro,if_neg (fun z=>absurd (Sum.inr.inj z) #[1]),if_neg (fun z=>absurd (Sum.inr.inj z) #[1])]
 ·exact Qax.mpr ⟨(.inr "number",.int nb),by unfold Z3;simp,decide_eq_true rfl⟩
theorem Own.add{H:Hp}{o ra ga:Addr}{L:List ZB}{nb li lo:Int}(h:Own H o ra ga L nb li lo)(nga:ga≠ra)(c:∀e∈L,e.1<nb)(hf:L.length<60){r:Addr}{ss:List Str}(d:H r=some (.lst (ss.map V.str)))(hl:ss.length≤100)(f:∀s∈ss,s.length≤1000∧AZ s) :
  Own (upd (upd (upd H ra (.dK (kvR (L++[(nb,r,ss,0)])))) ga (.dK (kvG (L++[(nb,r,ss,0)])))) o (.dK (Z3 ra ga (nb+1) li lo))) o ra ga (L++[(nb,r,ss,0)]) (nb+1) li lo:=by
 obtain⟨g,i⟩:=h.ne;have j:∀e∈L++[(nb,r,ss,0)],H e.2.1=some (.lst (e.2.2.1.map V.str))∧e.2.2.1.length≤100∧e.2.2.2≤e.2.2.1.length∧∀s∈e.2.2.1,s.length≤1000∧AZ s:=fun e he=>by
  rcases Qn.mp he with he|he
  ·exact h.lst e he
  ·rw[Qk.mp he];exact⟨d,hl,Qw _,f⟩
 refine⟨Zd,?_,?_,?_,by rw[Qi,Qy];lia,fun e he=>?_⟩
 ·rw[Zc g,Zc nga.symm];exact Zd
 ·rw[Zc i];exact Zd
 ·rw[Qf];refine QaJ.mpr ⟨h.nd,by simp,fun a k b l=>?_⟩;obtain⟨e,he,rfl⟩:=Ql.mp k;have:b=nb:=by simpa using l
  have:=c e he;lia
 ·obtain⟨a1,a2⟩:=j e he;refine⟨?_,a2⟩;rw[Zc (fun z=>by rw[z,h.at']at a1;cases a1),Zc (fun z=>by rw[z,h.gone]at a1;cases a1),Zc (fun z=>by rw[z,h.rows]at a1;cases a1)];exact a1
theorem ZmX(xs:List V)(m:Nat):WY xs none (some (m:Int))=xs.take m:=by
 unfold WY;have a:HT.sIx xs.length 0 none=0:=rfl;rw[HT.sIx_nat,a,List.drop_zero,Nat.sub_zero];rcases Nat.le_total m xs.length with h|h
 ·rw[QaB h]
 ·rw[Nat.min_eq_right h,Qv (Qh _),Qv h]
theorem Yd.but{f g:Addr}{H H':Hp}{X:MS}{Y:OS}{p:Addr}{c:Int}(pr:Yd f g H X Y)(L:Y8 H p c)(n:¬ MFp X p)(i:¬ Z4 Y p)(B:But p H H'):Yd f g H' X Y:=by
 have np:∀b u,H b=some u→(MFp X b∨Z4 Y b∨∃h,u=.tup h)→b≠p:=fun b u a d e=>by
  subst e;rcases d with z|z|⟨h,rfl⟩
  ·exact n z
  ·exact i z
  ·obtain⟨_,_,j,_⟩:=L;rw[j]at a;cases a
 exact⟨pr.mg.keep fun b u a d=>B b u a (np b u a (d.imp id .inr)),pr.ow.keep fun b u a k=>B b u a (np b u a (.inr (.inl k))),pr.ag,pr.sep⟩
theorem ZmA(rd:Addr)(nb li lo:Int)(sd:Addr)(a:V):(mgF rd nb li lo sd a).lookup ("add_row" : Str)=none:=Yh _ _ _ _ _ _ #[1] #[1] #[1] #[1] #[1] #[1]
theorem Zmr(rd:Addr)(nb li lo:Int)(sd:Addr)(a:V):(mgF rd nb li lo sd a).lookup ("take_few" : Str)=none:=Yh _ _ _ _ _ _ #[1] #[1] #[1] #[1] #[1] #[1]
theorem JT(rd:Addr)(nb li lo:Int)(sd:Addr)(a:V):(mgF rd nb li lo sd a).lookup ("row_of" : Str)=none:=Yh _ _ _ _ _ _ #[1] #[1] #[1] #[1] #[1] #[1]
theorem ZjE(k f:Addr)(g:Int):(Y0 k f g).lookup ("to_go" : Str)=none:=UU _ _ _ #[1] #[1] #[1]
theorem Zgu(k f:Addr)(g:Int):(Y0 k f g).lookup ("lengthen" : Str)=none:=UU _ _ _ #[1] #[1] #[1]
def N8(a b:Addr):Sp:=fun vs H Q _=>∃ (m rd sd:Addr) (L:List Zx) (s:StL) (nb li lo:Int) (c:V) (e:Zx),vs=[.ref m,.int e.n]∧ZQ a b H m rd sd L s nb li lo c∧e∈L∧Q (.ref e.p) H
theorem Zmo(T:Z9 K mg ab U):Mf P w K mg base 1 U "row_of" ["self", "n"] (N8 ab U):=by
 refine T.t_Merge_row_of.mf Zgt (fun i H Q E h=>?_) (fun ai f A outer s H i Q E b h=>?_)
 ·obtain⟨m,a,j,L,s,nb,l,lo,n,e,rfl,_⟩:=h;rfl
 obtain⟨m,a,j,L,s,nb,l,lo,n,e,rfl,M,c,q⟩:=h;refine⟨_,#[Zf,#[ZW,#[Zl,(ZrE b),‹1›,#[ZK,‹0›],(by with_unfolding_all rfl)],#[Zi,(@Rj _ _)],#[ZH]],#[Zi,#[Zp,#[Zo,(ixG b),#[ZK,‹0›],‹1›]]]],?_⟩;obtain⟨d,g⟩:=M.ob;refine⟨_,rfl,_,rfl,m,U,d,_,_,rfl,g,T.cl_Merge,T.na_Merge_rows,XX ..,a,_,rfl,ZP.k' (k:=.inl e.n) M.rows (V3 M.nd c),_,rfl,YZ ?_⟩;exact⟨_,rfl,m,U,d,_,_,rfl,g,T.cl_Merge,T.na_Merge_rows,XX ..,_,rfl,a,_,rfl,ZP.k' (k:=.inl e.n) M.rows (V3 M.nd c),q⟩
noncomputable def Ys(L:List Zx)(n:Int):List Zx:=L.filter fun e=>decide (e.n≠n)
theorem ZnV(L:List Zx)(n:Int):Xb (kvM L) (.inl n)=kvM (Ys L n):=by unfold Xb kvM Ys;rw[QaC];congr 1;refine List.filter_congr fun e _=>?_;exact decide_eq_decide.mpr ⟨fun h z=>h (by show (Sum.inl e.n:Key)=_;rw[z]),fun h z=>h (Sum.inl.inj z)⟩
theorem ZQ.drop{g h:Addr}{H:Hp}{m rd sd:Addr}{L:List Zx}{s:StL}{nb li lo:Int}{i:V}(M:ZQ g h H m rd sd L s nb li lo i)(n:Int):ZQ g h (upd H rd (.dK (kvM (Ys L n)))) m rd sd (Ys L n) s nb li lo i:=by
 obtain⟨k,n2,l⟩:=M.ne_m;obtain⟨o,p⟩:=M.ob;refine⟨⟨o,by rw[Zc k];exact p⟩,Zd,by rw[Zc l.symm];exact M.stays,fun e d t q=>?_,fun e d=>?_,?_,?_,QB (Q8 ..) M.few,M.sfew,⟨M.kb.1,Kb.of M.kb.nn fun n r=>by obtain⟨e,d,rfl⟩:=Ql.mp r;exact M.kb.to _ (Qd (f:=fun e:Zx=>e.n) (Qaa.mp d).1)⟩⟩
 ·have:=M.ats e d t q;rw[Zc (fun z=>by rw[z,M.rows]at this;cases this)];exact this
 ·have j:=(Qaa.mp d).1;obtain⟨_,_,_,a,b,c⟩:=M.ne_sd j;exact(M.each e j).keep (Zc a.symm) (Zc b.symm) (Zc c.symm)
 ·exact M.up.sublist (Qbd _ Qan)
 ·exact M.pd.sublist (Qbd _ Qan)
def JS(c d:Addr):Sp:=fun vs H Q _=>∃ (m rd sd:Addr) (L:List Zx) (s:StL) (nb li lo:Int) (h:V) (e:Zx),vs=[.ref m,.int e.n]∧ZQ c d H m rd sd L s nb li lo h∧e∈L ∧
 ∀ (f:Addr) (g:StL) (w:Option Int) (k q:Int) (a:Hp),H f=none→Win (hdM (Ys L e.n)) (Zv (Ys L e.n)) w→XY (hdM (Ys L e.n)) g 8 (Zv (Ys L e.n))→YW (hdM (Ys L e.n)) 8 (Zv (Ys L e.n)) k q→ZQ c d a m rd f (Ys L e.n) g nb (li+k) (lo+q) (Y4 w)→(∀b o,H b=some o→b≠m→b≠rd→a b=some o)→Q (.int ((e.ss.length:Int)-(e.g:Int))) a
theorem Zjq(T:Z9 K mg ab U)(v:Mf P w K mg base 1 ab "to_go" ["self"] (SA ab))(x:Mf P w K mg base 1 U "row_of" ["self", "n"] (N8 ab U))(y:Mf P w K mg base 13 U "play_all" ["self"] (TD ab U)):Mf P w K mg base 14 U "drop_row" ["self", "n"] (JS ab U):=by
 refine T.t_Merge_drop_row.mf LL (fun B H Q E h=>?_) (fun ai f A outer s H B Q E d h=>?_)
 ·obtain⟨m,a,g,L,s,nb,l,lo,p,e,rfl,_⟩:=h;rfl
 obtain⟨m,a,g,L,s,nb,l,i,p,e,rfl,M,j,q⟩:=h;refine⟨_,#[Zf,#[ZD,2,LL.nd,#[3],#[YT,v,T.cl_Row,d,#[X1,x,T.cl_Merge,d,‹0›,#[Za,‹1›,#[Ze]]]]],#[Zf,#[YL,#[Xy,QZ,QaF,PySem.F.type_dict_pop,Rk,#[ZK,‹0›],#[Za,‹1›,#[Ze]]]],#[Zf,#[YL,#[YT,y,T.cl_Merge,d,‹0›]],#[Zi,#[Zp,‹2›]]]]],?_⟩;obtain⟨r,t⟩:=M.ob;have Re:=M.each e j;obtain⟨C,D⟩:=Re.at'.ob;refine⟨_,rfl,m,r,_,rfl,t,JT ..,_,rfl,m,a,g,L,s,nb,l,i,p,e,rfl,M,j,e.p,C,_,rfl,D,ZjE ..,e.p,e.k,e.f,e.ss,e.g,rfl,Re.at',?_⟩;refine⟨_,rfl,m,U,r,_,_,rfl,t,T.cl_Merge,T.na_Merge_rows,XX ..,.inr (.inr (.inl ⟨rfl,.inl ⟨_,M.rows⟩⟩)),_,rfl,a,_,.inl e.n,_,rfl,rfl,M.rows,V3 M.nd j,?_⟩;rw[ZnV];have k:=M.drop e.n;have k10:∀b o,H b=some o→b≠a→(upd H a (.dK (kvM (Ys L e.n)))) b=some o:=fun b o c n=>by rw[Zc n];exact c
 have free:∀b,(upd H a (.dK (kvM (Ys L e.n)))) b=none→H b=none:=fun b c=>by
  by_cases z:b=a
  ·rw[z,Zd]at c;cases c
  ·rw[Zc z]at c;exact c
 generalize upd H a (.dK (kvM (Ys L e.n)))=bg at k k10 free ⊢;obtain⟨F,G⟩:=k.ob;refine⟨_,rfl,m,F,_,rfl,G,Sd ..,m,a,g,_,s,_,_,_,_,rfl,k,fun u I J k0 N O R S V W X k12=>⟨_,rfl,?_⟩⟩;exact q u I J k0 N O (free u R) S V W X (fun b o c n Y=>k12 b o (k10 b o c Y) n)
theorem RY(k f:Addr)(g:Int):Y0 k f g=([("all_keys",.ref k),("fars",.ref f),("gone",.int g)]:List (Str×V)):=by unfold Y0;rw[Xj,ZC nFK,Xj,ZC nGK,ZC nGF,Xj]
theorem ZhB(k f:Addr)(g:Int)(k':Addr):ZA "all_keys" (.ref k') (Y0 k f g)=Y0 k' f g:=by rw[RY,RY,Wp]
theorem ZhF(k f:Addr)(g:Int)(a:Addr):ZA "fars" (.ref a) (Y0 k f g)=Y0 k a g:=by rw[RY,RY,ZC nFK,Wp]
def JR(C:Addr):Sp:=fun vs H Q _=>∃ (p k f a:Addr) (ss ks:List Str) (g:Nat),vs=[.ref p,.ref a]∧Wu C H p k f ss g∧H a=some (.lst (ks.map V.str))∧(ss++ks).length≤100∧(∀x∈ss++ks,x.length≤1000) ∧
 ∀ (k' d:Addr) (c:Hp),H k'=none→H d=none→Wu C c p k' d (ss++ks) g→(∀b o,H b=some o→b≠p→c b=some o)→Q .non c
theorem ZjX(T:Z9 K mg ab U)(D:Df P w K mg base 3 "alikes" ["row"] (SF K)):Mf P w K mg base 4 ab "lengthen" ["self", "keys"] (JR ab):=by
 refine T.t_Row_lengthen.mf Zgw (fun F H Q E h=>?_) (fun ai fa A outer s H F Q E G h=>?_)
 ·obtain⟨p,k,f,a,i,j,g,rfl,_⟩:=h;rfl
 obtain⟨p,k,f,a,i,j,g,rfl,R,I,C,J,q⟩:=h;refine⟨_,#[Zf,#[YD,‹0›,#[ZJ,VQ,#[ZK,‹0›],‹1›]],#[Zi,#[YD,‹0›,#[Zz,D,G,#[Za,#[ZK,‹0›],#[Ze]],#[5]]]]],?_⟩;obtain⟨⟨d,t⟩,L,hf⟩:=R;refine⟨_,rfl,p,ab,d,_,_,rfl,t,T.cl_Row,T.na_Row_all_keys,V4 _ _ _,_,rfl,k,a,_,_,rfl,rfl,L,I,(by rw[Qa,Qa];rw[Qi]at C;exact Yo #[2]),fun c v=>?_⟩;rw[← Qf];have x:p≠c:=Zb t v;refine⟨_,rfl,p,ab,d,_,rfl,(by rw[Zc x];exact t),T.cl_Row,T.na_Row_all_keys,R0 ..,?_⟩;rw[ZhB];have m:(upd (upd H c (.lst ((i++j).map V.str))) p (.ins ab d (Y0 c f g))) p=some (.ins ab d (Y0 c f g)):=Zd;have y:(upd (upd H c (.lst ((i++j).map V.str))) p (.ins ab d (Y0 c f g))) c=some (.lst ((i++j).map V.str)):=by rw[Zc x.symm];exact Zd
 have z:∀b o,H b=some o→b≠p→(upd (upd H c (.lst ((i++j).map V.str))) p (.ins ab d (Y0 c f g))) b=some o:=fun b o h n=>by rw[Zc n,Zc (Zb h v)];exact h
 generalize upd (upd H c (.lst ((i++j).map V.str))) p (.ins ab d (Y0 c f g))=H2 at m y z ⊢;refine⟨_,rfl,p,ab,d,_,_,rfl,m,T.cl_Row,T.na_Row_all_keys,V4 _ _ _,c,i++j,rfl,SqL.of y,C,J,fun l H3 r M B=>?_⟩;have N:H l=none:=by
  cases O:H l with
  | none=>rfl
  | some u =>
   by_cases e:l=p
   ·rw[e,m]at r;cases r
   ·rw[z l u O e]at r;cases r
 have S:p≠l:=Zb m r;refine⟨_,rfl,p,ab,d,_,rfl,B _ _ m,T.cl_Row,T.na_Row_fars,R0 ..,?_⟩;rw[ZhF];refine q c l _ v N ⟨⟨d,Zd⟩,?_,?_⟩ fun b o h n=>?_
 ·rw[Zc x.symm];exact B _ _ y
 ·rw[Zc S.symm];exact M
 ·rw[Zc n];exact B _ _ (z b o h n)
noncomputable def XU(n:Int)(ks:List Str)(k f:Addr)(x:Zx):Zx:=if x.n=n then ⟨x.n,x.p,k,f,x.ss++ks,x.g⟩ else x
noncomputable def Yr(L:List Zx)(n:Int)(ks:List Str)(k f:Addr):List Zx:=L.map (XU n ks k f)
theorem N7(n:Int)(ks:List Str)(k f:Addr)(x:Zx):(XU n ks k f x).n=x.n∧(XU n ks k f x).p=x.p∧(XU n ks k f x).g=x.g:=by unfold XU;split<;>exact⟨rfl,rfl,rfl⟩
theorem UH(L:List Zx)(n:Int)(ks:List Str)(k f:Addr):Zv (Yr L n ks k f)=Zv L:=by unfold Zv Yr;rw[Qg];exact QC fun e _=>(N7 n ks k f e).1
theorem ZoL(L:List Zx)(n:Int)(ks:List Str)(k f:Addr):kvM (Yr L n ks k f)=kvM L:=by unfold kvM Yr;rw[Qg];refine QC fun e _=>?_;obtain⟨a,b,_⟩:=N7 n ks k f e;simp only[Function.comp,a,b]
theorem JQ:∀ (A B:List ZB),A.map (fun e=>(e.1,e.2.2.1[e.2.2.2]?))=B.map (fun e=>(e.1,e.2.2.1[e.2.2.2]?))→hdL A=hdL B
 | [],[],_=>rfl
 | [],_::_,h=>by cases h
 | _::_,[],h=>by cases h
 | a::A,b::B,h=>by
  rw[Qj,Qj]at h;injection h with h1 h2;injection h1 with d h4;have f:=JQ A B h2;funext n;have c:=congrFun f n;unfold hdL at c ⊢;rw[Qae,Qae,d];split
  ·simp only[Option.bind_some];rw[h4]
  ·exact c
theorem Zor{L:List Zx}{n:Int}{ks:List Str}(h:∀x∈L,x.n=n→x.g<x.ss.length∨ks=[])(k f:Addr):hdM (Yr L n ks k f)=hdM L:=by
 refine JQ _ _ ?_;unfold Yr;rw[Qg,Qg,Qg];refine QC fun x a=>?_;show ((XU n ks k f x).n,(XU n ks k f x).ss[(XU n ks k f x).g]?)=(x.n,x.ss[x.g]?);unfold XU;split
 ·rename_i e;rcases h x a e with z|z
  ·exact congrArg (Prod.mk x.n) (QJ z)
  ·rw[z,QaT]
 ·rfl
theorem N6:∀ {P:List Zx},(P.map (·.n)).Nodup→∀ {p q:Zx},p∈P→q∈P→p.n=q.n→p=q
 | [],_,_,_,h,_,_=>by cases h
 | x::r,nd,p,q,hp,hq,e=>by
  rw[Qj,QP]at nd;rcases QF.mp hp with h1|h1
  ·rcases QF.mp hq with h2|h2
   ·rw[h1,h2]
   ·exact absurd (show x.n∈r.map (·.n) by rw[← h1,e];exact Qd (f:=fun x:Zx=>x.n) h2) nd.1
  ·rcases QF.mp hq with h2|h2
   ·exact absurd (show x.n∈r.map (·.n) by rw[← h2,← e];exact Qd (f:=fun x:Zx=>x.n) h1) nd.1
   ·exact N6 nd.2 h1 h2 e
theorem ZQ.grow{f l:Addr}{H H':Hp}{m rd sd:Addr}{L:List Zx}{s:StL}{nb li lo:Int}{n:V}(M:ZQ f l H m rd sd L s nb li lo n){e:Zx}(he:e∈L){ks:List Str}{k' c:Addr}(R:Wu f H' e.p k' c (e.ss++ks) e.g)(hl:(e.ss++ks).length≤100)(p:sortedS (e.ss++ks)=true)(q:∀x∈e.ss++ks,x.length≤1000∧AZ x)
  (k:∀b o,H b=some o→b≠e.p→H' b=some o):ZQ f l H' m rd sd (Yr L e.n ks k' c) s nb li lo n:=by
 obtain⟨r,u⟩:=M.ob;obtain⟨de,g⟩:=(M.each e he).at'.ob;refine⟨⟨r,k _ _ u (M.ne_p he).1⟩,by rw[ZoL];exact k _ _ M.rows (M.ne_sd he).2.2.2.1,k _ _ M.stays (M.ne_sd he).1,fun x i t v=>?_,fun x i=>?_,by rw[UH];exact M.up,?_,by unfold Yr;rw[Qa];exact M.few,M.sfew,⟨M.kb.1,by rw[UH];exact M.kb.2⟩⟩
 ·have h:=M.ats x i t v;exact k _ _ h (fun z=>by rw[z,g]at h;cases h)
 ·obtain⟨y,d,rfl⟩:=Ql.mp i;by_cases j:y.n=e.n
  ·have w:y=e:=by have nd:=M.nd;unfold Zv at nd;exact N6 nd d he j
   subst w;rw[show XU y.n ks k' c y=⟨y.n,y.p,k',c,y.ss++ks,y.g⟩ by unfold XU;rw[if_pos rfl]];exact⟨R,by show y.g≤(y.ss++ks).length;rw[Qi];have:=(M.each y d).le;lia,hl,p,q⟩
  ·rw[show XU e.n ks k' c y=y by unfold XU;rw[if_neg j]];have a:=M.each y d;have np:y.p≠e.p:=fun z=>j (by have:=J4 M.pd d he z;rw[this]);obtain⟨A,B⟩:=a.at'.ob;have C:y.k≠e.p:=fun z=>by have:=a.at'.ks;rw[z,g]at this;cases this
   have D:y.f≠e.p:=fun z=>by have:=a.at'.fs;rw[z,g]at this;cases this
   exact⟨⟨⟨A,k _ _ B np⟩,k _ _ a.at'.ks C,k _ _ a.at'.fs D⟩,a.le,a.len,a.srt,a.str⟩
 ·have:(Yr L e.n ks k' c).map (·.p)=L.map (·.p):=by unfold Yr;rw[Qg];exact QC fun x _=>(N7 _ _ _ _ x).2.1
  rw[this];exact M.pd
def JP(f g:Addr):Sp:=fun vs H Q _=>∃ (m rd sd:Addr) (L:List Zx) (s:StL) (nb li lo:Int) (w:Option Int) (e:Zx) (r:Addr) (ks:List Str),vs=[.ref m,.int e.n,.ref r]∧ZQ f g H m rd sd L s nb li lo (Y4 w)∧Win (hdM L) (Zv L) w∧ZV (hdM L) s (Zv L)∧e∈L∧H r=some (.lst (ks.map V.str))∧r≠e.p∧(e.ss++ks).length≤100∧sortedS (e.ss++ks)=true∧(∀x∈e.ss++ks,x.length≤1000∧AZ x) ∧
 ∀ (k' a c:Addr) (h:StL) (i:Option Int) (k q:Int) (d:Hp),H k'=none→H a=none→(((e.g<e.ss.length∨ks=[])∧c=sd∧k=0∧q=0)∨(e.g=e.ss.length∧ks≠[]∧H c=none∧YW (hdM (Yr L e.n ks k' a)) 8 (Zv L) k q))→Win (hdM (Yr L e.n ks k' a)) (Zv L) i→ZV (hdM (Yr L e.n ks k' a)) h (Zv L)→ZQ f g d m rd c (Yr L e.n ks k' a) h nb (li+k) (lo+q) (Y4 i)→(∀b o,H b=some o→b≠m→b≠e.p→d b=some o)→Q .non d
theorem Zo7(T:Z9 K mg ab U)(aQ:Mf P w K mg base 1 U "row_of" ["self", "n"] (N8 ab U))(au:Df P w K mg base 5 "refuse_break" ["number", "keys"] (TM K))(al:Mf P w K mg base 2 ab "head" ["self"] (Vx ab))(cc:Mf P w K mg base 4 ab "lengthen" ["self", "keys"] (JR ab))(aj:Mf P w K mg base 13 U "play_all" ["self"] (TD ab U)):Mf P w K mg base 14 U "grow" ["self", "n", "keys"] (JP ab U):=by
 refine T.t_Merge_grow.mf Pn (fun vs H Q E h=>?_) (fun ai fa A outer s H vs Q E g h=>?_)
 ·obtain⟨m,D,t,L,s,nb,S,lo,w,e,r,a,rfl,_⟩:=h;rfl
 obtain⟨m,D,t,L,s,nb,S,F,w0,e,r,a,rfl,M,W,ok,i,G,Cu,v,X,I,q⟩:=h;refine⟨_,#[Zf,#[ZD,3,Pn.nd,#[3],#[X1,aQ,T.cl_Merge,g,‹0›,#[Za,‹1›,#[Ze]]]],#[Zf,#[YL,#[Zz,au,g,#[Za,‹1›,#[Za,#[ZJ,VQ,#[ZK,‹3›],‹2›],#[Ze]]],#[5]]],#[Zf,#[ZD,4,Pn.nd,#[3],#[XA,XR,#[YT,al,T.cl_Row,g,‹3›],#[ZZ],(Zs _)]],#[Zf,#[YL,#[X1,cc,T.cl_Row,g,‹3›,#[Za,‹2›,#[Ze]]]],#[Zi,#[ZW,(@PW.pt _ _ _ #[Yf,#[X5,‹4›],#[XT,#[Zl,We,#[Zk,(YB K),#[5],T.b.n_len,Qz,#[Za,‹2›,#[Ze]]],#[Zj],(Zs _)]]]),#[Zi,#[YL,#[YT,aj,T.cl_Merge,g,‹0›]]],#[ZH]]]]]]],?_⟩;obtain⟨dx,hm⟩:=M.ob;have Re:=M.each e i;obtain⟨de,bT⟩:=Re.at'.ob;have fF:e.ss.length+a.length≤100:=by rw[Qi]at v;exact v
 refine⟨_,rfl,m,dx,_,rfl,hm,JT ..,_,rfl,m,D,t,L,s,nb,S,F,_,e,rfl,M,i,?_⟩;refine⟨_,rfl,_,rfl,e.p,ab,de,_,_,rfl,bT,T.cl_Row,T.na_Row_all_keys,V4 _ _ _,_,rfl,e.k,r,_,_,rfl,rfl,Re.at'.ks,G,(by rw[Qa,Qa];exact Yo #[2]),fun c hc=>?_⟩;rw[← Qf];refine⟨e.n,c,e.ss++a,rfl,SqL.of Zd,by lia,fun x j=>(I x j).1,Ov X,fun H1 Cv=>?_⟩;have f:ZG H H1:=(Zh hc _).trans Cv;have M1:=M.same f;have J:=M1.each e i;obtain⟨Y,Z⟩:=J.at'.ob;refine⟨_,rfl,e.p,Y,_,rfl,Z,Vt ..,e.p,e.k,e.f,e.ss,e.g,rfl,J.at',rfl,?_⟩;refine⟨_,rfl,e.p,Y,_,rfl,Z,Zgu ..,_,rfl,e.p,e.k,e.f,r,e.ss,a,e.g,rfl,J.at',f _ _ G,v,fun x j=>(I x j).1,fun k' k N fR x6 R2 k2=>?_⟩;have M2:=M1.grow i R2 v X I k2;have y:∀b o,H b=some o→b≠e.p→N b=some o:=fun b o l n=>k2 b o (f b o l) n;have b9:=y _ _ G Cu;have oF:(e.g<e.ss.length∨a=[])→Q .non N:=fun aM=>by have eh:hdM (Yr L e.n a k' k)=hdM L:=Zor (fun x j hn=>by rw[N6 M.nd j i hn];exact aM) k' k;refine q k' k t s w0 0 0 N (f.free fR) (f.free x6) (.inl ⟨aM,rfl,rfl,rfl⟩) (by rw[eh];exact W) (by rw[eh];exact ok) (by rw[QR,QR];exact M2) (fun b o l n O=>y b o l O)
 refine⟨_,rfl,_,rfl,?_⟩;by_cases hg:e.g<e.ss.length
 ·have R:Xl e.ss e.g=.str e.ss[e.g]:=TF (Qb hg);rw[R];exact Yn (by intro z;cases z) (oF (.inl hg))
 ·have R:Xl e.ss e.g=.non:=by unfold Xl;rw[QN #[2]]
  rw[R];refine YE rfl ?_;refine⟨_,rfl,r,_,rfl,.inl (SqL.of b9),_,_,rfl,rfl,_,rfl,Y3 (fun d=>?_) (fun d=>?_)⟩
  ·have p:(0:Int)<((a.map V.str).length:Int):=of_decide_eq_true d;rw[Qa]at p;have eB:a≠[]:=fun z=>by rw[z]at p;exact absurd p #[6]
   obtain⟨gg,bG⟩:=M2.ob;refine⟨_,rfl,m,gg,_,rfl,bG,Sd ..,m,D,t,_,s,_,_,_,_,rfl,M2,fun B s' w1 k1 q1 H3 C W3 S3 P3 M3 k3=>?_⟩;rw[UH]at W3 S3 P3;have uv:=UM 8 (hdM (Yr L e.n a k' k)) s' (Zv L) M.up (QB (show (Zv L).length≤60 by unfold Zv;rw[Qa];exact M.few) #[6]) #[6] S3;have le:=Re.le;have x8:H B=none:=by
    cases w':H B with
    | none=>rfl
    | some u =>
     by_cases z:B=e.p
     ·obtain⟨d2,lR⟩:=R2.ob;rw[z,lR]at C;cases C
     ·rw[y _ _ w' z]at C;cases C
   exact q k' k B s' w1 k1 q1 H3 (f.free fR) (f.free x6) (.inr ⟨by lia,eB,x8,P3⟩) W3 uv M3 (fun b o l n O=>k3 b o (y b o l O) n)
  ·have p:¬ (0:Int)<((a.map V.str).length:Int):=fun z=>d (decide_eq_true z);rw[Qa]at p;exact oF (.inr (List.length_eq_zero_iff.mp #[2]))
noncomputable def X6(L:List ZB)(n:Int):List ZB:=L.filter fun e=>decide (e.1≠n)
theorem Zn2(L:List ZB)(n:Int):Xb (kvR L) (.inl n)=kvR (X6 L n):=by unfold Xb kvR X6;rw[QaC];congr 1;exact List.filter_congr fun e _=>decide_eq_decide.mpr ⟨fun h z=>h (by show (Sum.inl e.1:Key)=_;rw[z]),fun h z=>h (Sum.inl.inj z)⟩
theorem Znr(L:List ZB)(n:Int):Xb (kvG L) (.inl n)=kvG (X6 L n):=by unfold Xb kvG X6;rw[QaC];congr 1;exact List.filter_congr fun e _=>decide_eq_decide.mpr ⟨fun h z=>h (by show (Sum.inl e.1:Key)=_;rw[z]),fun h z=>h (Sum.inl.inj z)⟩
theorem Own.drop{H:Hp}{o ra ga:Addr}{L:List ZB}{nb li lo:Int}(h:Own H o ra ga L nb li lo)(nga:ga≠ra)(n:Int):Own (upd (upd H ra (.dK (kvR (X6 L n)))) ga (.dK (kvG (X6 L n)))) o ra ga (X6 L n) nb li lo:=by obtain⟨d,f⟩:=h.ne;refine⟨by rw[Zc f.symm,Zc d.symm];exact h.at',by rw[Zc nga.symm];exact Zd,Zd,h.nd.sublist (Qbd _ Qan),QB (Q8 ..) h.few,fun e g=>?_⟩;have c:=(Qaa.mp g).1;obtain⟨a,b⟩:=h.lst e c;obtain⟨_,i,j⟩:=h.ne_l c;exact⟨by rw[Zc j,Zc i];exact a,b⟩
noncomputable def W4(n:Int)(ks:List Str)(r:Addr)(x:ZB):ZB:=if x.1=n then (x.1,r,x.2.2.1++ks,x.2.2.2) else x
noncomputable def Yj(L:List ZB)(n:Int)(ks:List Str)(r:Addr):List ZB:=L.map (W4 n ks r)
theorem JO(n:Int)(ks:List Str)(r:Addr)(x:ZB):(W4 n ks r x).1=x.1∧(W4 n ks r x).2.2.2=x.2.2.2:=by unfold W4;split<;>exact⟨rfl,rfl⟩
theorem JN(L:List ZB)(n:Int)(ks:List Str)(r:Addr):(Yj L n ks r).map (·.1)=L.map (·.1):=by unfold Yj;rw[Qg];exact QC fun e _=>(JO n ks r e).1
theorem ZoB(L:List ZB)(n:Int)(ks:List Str)(r:Addr):kvG (Yj L n ks r)=kvG L:=by unfold kvG Yj;rw[Qg];refine QC fun e _=>?_;obtain⟨a,b⟩:=JO n ks r e;simp only[Function.comp,a,b]
theorem ZnW{L:List ZB}{e:ZB}(he:e∈L)(ks:List Str)(r:Addr):Y6 (kvR L) (.inl e.1) (.ref r)=kvR (Yj L e.1 ks r):=by
 unfold Y6;rw[if_pos]
 ·unfold kvR Yj;rw[Qg,Qg];refine QC fun x hx=>?_;simp only[Function.comp];unfold W4;by_cases h:x.1=e.1
  ·rw[if_pos (by rw[h]),if_pos h]
  ·rw[if_neg (fun z=>h (Sum.inl.inj z)),if_neg h]
 ·exact Qax.mpr ⟨_,Qd (f:=fun e:ZB=>((.inl e.1:Key),V.ref e.2.1)) he,decide_eq_true rfl⟩
theorem Own.grow{H:Hp}{o ra ga:Addr}{L:List ZB}{nb li lo:Int}(h:Own H o ra ga L nb li lo)(nga:ga≠ra){e:ZB}(he:e∈L){ks:List Str}{r:Addr}(a:H r=some (.lst ((e.2.2.1++ks).map V.str)))(hl:(e.2.2.1++ks).length≤100)(d:∀x∈e.2.2.1++ks,x.length≤1000∧AZ x):Own (upd H ra (.dK (kvR (Yj L e.1 ks r)))) o ra ga (Yj L e.1 ks r) nb li lo:=by
 obtain⟨f,n2⟩:=h.ne;refine⟨by rw[Zc f.symm];exact h.at',Zd,by rw[Zc nga,ZoB];exact h.gone,by rw[JN];exact h.nd,by unfold Yj;rw[Qa];exact h.few,fun x g=>?_⟩;obtain⟨y,b,rfl⟩:=Ql.mp g;obtain⟨a1,a2,a3,a4⟩:=h.lst y b;by_cases c:y.1=e.1
 ·have i:y=e:=WQ h.nd b he c;subst i;rw[show W4 y.1 ks r y=(y.1,r,y.2.2.1++ks,y.2.2.2) by unfold W4;rw[if_pos rfl]];refine⟨?_,hl,by show y.2.2.2≤(y.2.2.1++ks).length;rw[Qi];lia,d⟩;show (upd H ra _) r=_;rw[Zc (fun z=>by rw[z,h.rows]at a;cases a)];exact a
 ·rw[show W4 e.1 ks r y=y by unfold W4;rw[if_neg c]];exact⟨by rw[Zc (h.ne_l b).2.1];exact a1,a2,a3,a4⟩
theorem ZnR{Lo:List ZB}{L:List Zx}(h:Agr Lo L)(n:Int):Agr (X6 Lo n) (Ys L n):=by
 unfold Agr X6 Ys at *
 have:=congrArg (List.filter fun x:Y9=>decide (x.1≠n)) h;rw[QaC,QaC]at this;exact this
theorem Zn9{Lo:List ZB}{L:List Zx}(h:Agr Lo L)(n:Int)(ks:List Str)(r k f:Addr):Agr (Yj Lo n ks r) (Yr L n ks k f):=by
 unfold Agr Yj Yr at *
 have:=congrArg (List.map fun x:Y9=>if x.1=n then (x.1,x.2.1++ks,x.2.2) else x) h;rw[Qg,Qg]at this;rw[Qg,Qg];refine(QC fun e _=>?_).trans (this.trans (QC fun e _=>?_))
 ·simp only[Function.comp];unfold W4;split<;>rfl
 ·simp only[Function.comp];unfold XU;split<;>rfl
theorem JM{Lo:List ZB}{L:List Zx}(h:Agr Lo L){e:Zx}(he:e∈L):∃a∈Lo,a.1=e.n∧a.2.2=(e.ss,e.g):=by
 have:(e.n,(e.ss,e.g))∈Lo.map (fun e=>(e.1,e.2.2)):=by rw[h];exact Qd (f:=fun e:Zx=>(e.n,(e.ss,e.g))) he
 obtain⟨a,b,c⟩:=Ql.mp this;injection c with d g;exact⟨a,b,d,g⟩
inductive W0 where
 | add|drop|grow
noncomputable def W0.word:W0→Str
 | .add => "add"
 | .drop => "drop"
 | .grow => "grow"
noncomputable def W0.nb(nb:Int):W0→Int
 | .add=>nb+1
 | _=>nb
noncomputable def N5(P:List Y9)(n:Int)(ks:List Str):W0→List Y9
 | .add=>P++[(n,ks,0)]
 | .drop=>P.filter fun x=>decide (x.1≠n)
 | .grow=>P.map fun x=>if x.1=n then (x.1,x.2.1++ks,x.2.2) else x
def JL(P:List Y9)(nb n:Int)(ks:List Str):W0→Prop
 | .add=>n=nb∧(∀x∈P,x.1<nb)∧P.length<16∧sortedS ks=true∧ks.length≤100
 | .drop=>∃x∈P,x.1=n
 | .grow=>∃x∈P,x.1=n∧sortedS (x.2.1++ks)=true∧(x.2.1++ks).length≤100
def ZqE(f g:Addr):Sp:=fun vs H Q _=>∃ (X:MS) (Y:OS) (t r:Addr) (d:W0) (n:Int) (ks:List Str),vs=[.ref X.m,.ref Y.o,.ref t]∧Yd f g H X Y∧Y.ga≠Y.ra∧X.nb=Y.nb∧H t=some (.tup [.str d.word,.int n,.ref r])∧H r=some (.lst (ks.map V.str))∧¬ MFp X r∧¬ Z4 Y r∧(∀x∈ks,x.length≤1000∧AZ x)∧ks.length≤100∧JL (ZU X.L) X.nb n ks d ∧
 ∀ (a:MS) (c:OS) (e:Hp),Yd f g e a c→a.m=X.m→c.o=Y.o→c.ga≠c.ra→a.nb=c.nb→a.nb=d.nb X.nb→ZU a.L=N5 (ZU X.L) n ks d→(∀b,MFp a b→MFp X b∨H b=none)→(∀b,Z4 c b→Z4 Y b∨H b=none)→(∀b u,H b=some u→¬ MFp X b→¬ Z4 Y b→e b=some u)→Q (.bl true) e
theorem N4{m o:Addr}{H d h:Hp}{X:MS}{Y:OS}(pr:Yd m o H X Y){f:List ZB}{nb' p k q k' r:Int}{i:Addr}{a:List Zx}{s':StL}{j:Option Int}(s:Own d Y.o Y.ra Y.ga f nb' (X.li+k) (X.lo+q))(y:∀b u,H b=some u→¬ Z4 Y b→d b=some u)(hv:∀b u,H b=some u→d b≠none)(A:∀b,Z4 ⟨Y.o,Y.ra,Y.ga,f,nb'⟩ b→Z4 Y b∨H b=none)
  (M2:ZQ m o h X.m X.rd i a s' p (X.li+k') (X.lo+r) (Y4 j)) (B:Win (hdM a) (Zv a) j) (C:ZV (hdM a) s' (Zv a)) (t:∀b u,d b=some u→¬ MFp X b→h b=some u) (v:∀b,Fp X.m X.rd i a b→MFp X b∨d b=none) (ag:Agr f a) (D:k=k') (eq:q=r) :
  Yd m o h ⟨X.m,X.rd,i,a,s',p,X.li+k,X.lo+q,j⟩ ⟨Y.o,Y.ra,Y.ga,f,nb'⟩∧(∀b,MFp ⟨X.m,X.rd,i,a,s',p,X.li+k,X.lo+q,j⟩ b→MFp X b∨H b=none)∧(∀b u,H b=some u→¬ MFp X b→¬ Z4 Y b→h b=some u):=by
 subst D;subst eq;have w:∀b,Z4 ⟨Y.o,Y.ra,Y.ga,f,nb'⟩ b→¬ MFp X b:=fun b c x=>by
  rcases A b c with z|z
  ·exact pr.sep b x z
  ·obtain⟨u,g,_⟩:=pr.mg.M.fp_live x;rw[z]at g;cases g
 refine⟨⟨⟨M2,B,C⟩,s.keep fun b u c l=>t b u c (w b l),ag,fun b c l=>?_⟩,fun b c=>?_,fun b u c n E=>t b u (y b u c E) n⟩
 ·rcases v b c with z|z
  ·exact w b l z
  ·obtain⟨u,g,_⟩:=s.live l;rw[z]at g;cases g
 ·rcases v b c with z|z
  ·exact .inl z
  ·cases e:H b with
   | none=>exact .inr rfl
   | some u=>exact absurd z (hv b u e)
theorem Yd.nO{c d:Addr}{H:Hp}{X:MS}{Y:OS}(pr:Yd c d H X Y){b:Addr}{u:HO}(hb:H b=some u)(e:MFp X b∨∃xs,u=.tup xs):¬ Z4 Y b:=fun z=>by
 rcases e with f|⟨xs,rfl⟩
 ·exact pr.sep b f z
 ·obtain⟨u',a,g⟩:=pr.ow.live z;rw[hb]at a;cases a;exact g xs rfl
theorem ZnB(ks:List Str):PyData.eqv (.list (ks.map PyData.str)) (.list [])=decide (ks=[]):=by
 cases ks with
 | nil=>simp[PyData.eqv,PyData.eqvAll]
 | cons a r=>simp[PyData.eqv,PyData.eqvAll]
theorem ZkU(rd:Addr)(nb li lo:Int)(sd:Addr)(a:V):(mgF rd nb li lo sd a).lookup ("drop_row" : Str)=none:=Yh _ _ _ _ _ _ #[1] #[1] #[1] #[1] #[1] #[1]
theorem Zk8(rd:Addr)(nb li lo:Int)(sd:Addr)(a:V):(mgF rd nb li lo sd a).lookup ("grow" : Str)=none:=Yh _ _ _ _ _ _ #[1] #[1] #[1] #[1] #[1] #[1]
theorem Zm9(T:Z9 K mg ab U)(aH:Df P w K mg base 5 "_law_same" ["_law_found", "_law_due"] (SG 4))(bz:Df P w K mg base 10 "_law_play" ["_law_own"] OQ)(bU:Mf P w K mg base 14 U "add_row" ["self", "row"] (JV K ab U))(bJ:Mf P w K mg base 14 U "drop_row" ["self", "n"] (JS ab U))(cS:Mf P w K mg base 14 U "grow" ["self", "n", "keys"] (JP ab U)):Df P w K mg base 15 "_law_done" ["_law_merge", "_law_own", "_law_deed"] (ZqE ab U):=by
 refine T.t_l_done.df VD (fun vs H Q E h=>?_) (fun ai f A outer s H vs Q E p h=>?_)
 ·obtain⟨X,Y,t,r,d,n,ks,rfl,_⟩:=h;rfl
 obtain⟨X,Y,t,r,d,n,ks,rfl,I,F,oG,ht,ay,uG,uH,eB,oH,hd,q⟩:=h;refine⟨_,#[Zf,#[Z0,‹2›,#[gT,K,3,#[Zu,#[ZE,3,VD.nd,#[3]],#[Zu,#[ZE,4,VD.nd,#[3]],#[Zu,#[ZE,5,VD.nd,#[3]],(@Yy _)]]]]],#[Zf,#[ZD,6,VD.nd,#[3],#[Ya,(VO K),#[5],T.b.n_list,boot_list,#[Za,‹5›,#[Ze]]]],#[Zf,#[ZW,#[Zl,YH,‹3›,#[Zw],(Zs _)],#[Zf,#[Z0,#[Ya,(VO K),#[5],T.b.n_list,boot_list,#[Za,‹5›,#[Ze]]],#[YI,#[Zo,(ixG p),‹1›,#[Zw]],‹4›,(Ym p)]],#[Zf,#[Z0,#[Zj],#[YI,#[Zo,(ixG p),‹1›,#[Zw]],‹4›,(Ym p)]],#[Zf,#[Z0,#[ZJ,YO,‹4›,#[Zj]],#[YI,‹1›,#[Zw],(Ym p)]],#[Zf,#[YL,#[Zz,bz,p,#[Za,‹1›,#[Ze]],#[5]]],#[Zi,#[Zp,#[WK,#[Zz,aH,p,#[Za,#[X1,bU,T.cl_Merge,p,‹0›,#[Za,‹5›,#[Ze]]],#[Za,‹4›,#[Ze]]],#[5]],(@Vm _ _ _ _ _ #[XA,(@eqD _ K _ p #[5]),‹5›,‹6›,(Zs _)])]]]]]]],#[ZH]],#[Zf,#[ZW,#[Zl,YH,‹3›,#[Zw],(Zs _)],#[Zf,#[ZD,7,VD.nd,#[3],#[ZJ,VZ,#[Zk,(YB K),#[5],T.b.n_len,Qz,#[Za,#[Xy,QZ,QaF,PySem.F.type_dict_pop,Rk,#[Zo,(ixG p),‹1›,#[Zw]],#[Za,‹4›,#[Ze]]],#[Ze]]],#[Xy,QZ,QaF,PySem.F.type_dict_pop,Rk,#[Zo,(ixG p),‹1›,#[Zw]],#[Za,‹4›,#[Ze]]]]],#[Zf,#[YL,#[Zz,bz,p,#[Za,‹1›,#[Ze]],#[5]]],#[Zi,#[Zp,#[Zz,aH,p,#[Za,#[X1,bJ,T.cl_Merge,p,‹0›,#[Za,‹4›,#[Ze]]],#[Za,‹7›,#[Ze]]],#[5]]]]]],#[ZH]],#[Zf,#[ZD,8,VD.nd,#[3],#[XA,YH,#[Zk,(YB K),#[5],T.b.n_len,Qz,#[Za,#[Zo,(ixG p),#[Zo,(ixG p),‹1›,#[Zw]],‹4›],#[Ze]]],#[Zo,(ixG p),#[Zo,(ixG p),‹1›,#[Zw]],‹4›],(Zs _)]],#[Zf,#[Z0,#[ZJ,VQ,#[Zo,(ixG p),#[Zo,(ixG p),‹1›,#[Zw]],‹4›],#[Ya,(VO K),#[5],T.b.n_list,boot_list,#[Za,‹5›,#[Ze]]]],#[YI,#[Zo,(ixG p),‹1›,#[Zw]],‹4›,(Ym p)]],(@VG _ _ _ _ _ #[ZW,(@PW.pt _ _ _ #[Yf,#[X5,‹8›],#[XT,#[Zl,(@neD _ K _ p #[5]),‹5›,#[YU,#[Ze]],(Zs _)]]]),#[Zi,#[YL,#[Zz,bz,p,#[Za,‹1›,#[Ze]],#[5]]]],#[ZH]] #[Zi,#[Zp,#[WK,#[XA,XR,#[X1,cS,T.cl_Merge,p,‹0›,#[Za,‹4›,#[Za,‹5›,#[Ze]]]],#[ZZ],(Zs _)],(@Vm _ _ _ _ _ #[XA,(@eqD _ K _ p #[5]),‹5›,‹6›,(Zs _)])]]])]]]]]],?_⟩;refine⟨_,rfl,t,_,rfl,SqT.of ht,rfl,_,_,rfl,_,_,rfl,_,_,rfl,rfl,?_⟩;refine⟨_,rfl,r,_,rfl,.inl (SqL.of ay),fun kp uI=>?_⟩;have jR:=Zh uI (.lst (ks.map V.str));have oI:(upd H kp (.lst (ks.map V.str))) kp=some (.lst (ks.map V.str)):=Zd;have G:=I.same jR;have cA:=jR _ _ ay;have x9:¬ Z4 Y kp:=fun z=>by obtain⟨u,hu,_⟩:=I.ow.live z;rw[uI]at hu;cases hu
 have ya:¬ MFp X kp:=I.mg.M.fp_fresh uI;generalize upd H kp (.lst (ks.map V.str))=o at jR oI G cA ⊢;have C:=G.ow;obtain⟨n1,n2⟩:=C.ne;have DI:Y.Lo.length=X.L.length:=by have:=congrArg List.length (Xi I.ag);unfold Zv at this;rw[Qa,Qa]at this;exact this
 have bW:=I.ow.few;have rG:(kvR Y.Lo).length<sizeLine:=by unfold kvR;rw[Qa];exact Zy #[2]
 have yb:(kvG Y.Lo).length<sizeLine:=by unfold kvG;rw[Qa];exact Zy #[2]
 have oJ:∀x∈ks,AZ x:=fun x hx=>(eB x hx).2;have be:(Y.Lo.map (·.1)).Pairwise (·<·):=by rw[Xi I.ag];exact I.mg.M.up
 have fin:∀ {X':MS} {Y':OS} {H9:Hp},(∀b u,H b=some u→¬ MFp X b→¬ Z4 Y b→H9 b=some u)→Yd ab U H9 X' Y'→X'.m=X.m→Y'.o=Y.o→Y'.ga≠Y'.ra→X'.nb=Y'.nb→X'.nb=d.nb X.nb→ZU X'.L=N5 (ZU X.L) n ks d→(∀b,MFp X' b→MFp X b∨o b=none)→(∀b,Z4 Y' b→Z4 Y b∨o b=none)→Q (.bl true) H9:=fun k9 p9 a b c d' e f' g h=>q _ _ _ p9 a b c d' e f' (fun b i=>(g b i).imp id fun z=>jR.free z) (fun b i=>(h b i).imp id fun z=>jR.free z) k9;cases d with
 | add =>
  obtain⟨rfl,ah,gS,jS,_⟩:=hd;have rH:∀e∈X.L,e.n<X.nb:=fun e he=>ah _ (Qd (f:=fun e:Zx=>(e.n,(e.ss,e.g))) he);have yd:X.L.length<16:=by unfold ZU at gS;rw[Qa]at gS;exact gS
  have lI:∀e∈Y.Lo,e.1<X.nb:=fun e he=>by
   have:e.1∈Zv X.L:=by rw[← Xi I.ag];exact Qd (f:=fun e:ZB=>e.1) he
   obtain⟨e',W,z⟩:=Ql.mp this;rw[← z];exact rH e' W
  refine⟨_,rfl,rfl,_,rfl,YE rfl ?_⟩;refine⟨_,rfl,r,_,rfl,.inl (SqL.of cA),fun c hc=>?_⟩;have Z:=Zh hc (.lst (ks.map V.str));have fC:(upd o c (.lst (ks.map V.str))) c=some (.lst (ks.map V.str)):=Zd;have ye:=G.same Z;have nOc:¬ Z4 Y c:=fun z=>by obtain⟨u,hu,_⟩:=C.live z;rw[hc]at hu;cases hu
  have uJ:∀b,(upd o c (.lst (ks.map V.str))) b=none→o b=none:=fun b i=>Z.free i;generalize upd o c (.lst (ks.map V.str))=H2 at Z fC ye uJ ⊢;have L:=ye.ow;refine⟨_,rfl,Y.o,_,rfl,ZP.k' (k:=.inr "rows") L.at' (X9 ..),_,rfl,Y.ra,_,rfl,YN.k (k:=.inl X.nb) L.rows rG,?_⟩;rw[WA _ (Zoi lI),← Zph Y.Lo (X.nb,c,ks,0)];refine⟨_,rfl,Y.o,_,rfl,ZP.k' (k:=.inr "gone") (by rw[Zc n1.symm];exact L.at') (Wr ..),_,rfl,Y.ga,_,rfl,YN.k (k:=.inl X.nb) (by rw[Zc F];exact L.gone) yb,?_⟩;rw[WA _ (ZnM lI),show kvG Y.Lo++[((.inl X.nb:Key),V.int 0)]=kvG (Y.Lo++[(X.nb,c,ks,0)]) from(Zp1 Y.Lo (X.nb,c,ks,0)).symm];refine⟨_,rfl,_,_,rfl,rfl,_,rfl,Y.o,_,rfl,YN.k (k:=.inr "number") (by rw[Zc n2.symm,Zc n1.symm];exact L.at') (Zy (by simp[Z3])),?_⟩;rw[ZjK];rw[← oG]at L;have M:=L.add F lI #[2] fC oH eB;have k3:∀b u,H2 b=some u→¬ Z4 Y b→(upd (upd (upd H2 Y.ra (.dK (kvR (Y.Lo++[(X.nb,c,ks,0)])))) Y.ga (.dK (kvG (Y.Lo++[(X.nb,c,ks,0)])))) Y.o (.dK (Z3 Y.ra Y.ga (X.nb+1) X.li X.lo))) b=some u:=fun b u i nO=>by rw[Zc (fun z=>nO (.inl z)),Zc (fun z=>nO (.inr (.inr (.inl z)))),Zc (fun z=>nO (.inr (.inl z)))];exact i
  generalize upd (upd (upd H2 Y.ra (.dK (kvR (Y.Lo++[(X.nb,c,ks,0)])))) Y.ga (.dK (kvG (Y.Lo++[(X.nb,c,ks,0)])))) Y.o (.dK (Z3 Y.ra Y.ga (X.nb+1) X.li X.lo))=H3 at M k3 ⊢;have jT:((Y.Lo++[((X.nb,c,ks,0):ZB)]).map (fun e:ZB=>e.1)).Pairwise (·<·):=by
   rw[Qf];refine Qaj.mpr ⟨be,List.pairwise_singleton ..,fun x hx y hy=>?_⟩;obtain⟨e,he,rfl⟩:=Ql.mp hx;have:y=X.nb:=by simpa using hy
   rw[this];exact lI e he
  refine⟨_,rfl,Y.o,Y.ra,Y.ga,_,_,_,_,rfl,M,jT,fun e he=>(M.ne_l he).1,fun k6 q6 D oK O b4=>?_⟩;have J:∀b u,o b=some u→¬ Z4 Y b→D b=some u:=fun b u i nO=>b4 b u (k3 b u (Z b u i) nO) (fun z=>nO (.inl z));have R:MOk ab U D X:=G.mg.keep fun b u i aM=>J b u i (G.nO i aM);have gP:=J _ _ cA uH;obtain⟨gW,gf⟩:=R.M.ob;refine⟨_,rfl,X.m,gW,_,rfl,gf,ZmA ..,_,rfl,X.m,X.rd,X.sd,X.L,X.s,X.nb,X.li,X.lo,_,r,ks,rfl,R.M,rH,yd,gP,oH,eB,jS,fun ne az s' w' k7 q7 H5 en yf eg qy uK uL jM W5 S5 P5 M5 k5=>?_⟩;refine⟨_,rfl,.int X.nb,.int X.nb,rfl,Xv _,fun H6 s6=>⟨_,rfl,Xu ?_⟩⟩;have kM:∀b u,D b=some u→¬ MFp X b→H5 b=some u:=fun b u i nM=>k5 b u i (fun z=>nM (.inl z)) (fun z=>nM (.inr (.inl z)));have jE:=s6 _ _ (kM _ _ gP uG);have jf:=s6 _ _ (kM _ _ (J _ _ oI x9) ya);refine⟨_,rfl,_,rfl,.list (ks.map PyData.str),.list (ks.map PyData.str),.lst (SqL.of jE) (Vy ks),.lst (SqL.of jf) (Vy ks),UW ks oJ,UW ks oJ,?_⟩;rw[if_neg Qq,Lk];have N:Agr (Y.Lo++[((X.nb,c,ks,0):ZB)]) (X.L++[ne]):=by show pur (Y.Lo++[((X.nb,c,ks,0):ZB)])=ZU (X.L++[ne]);have h0:pur Y.Lo=ZU X.L:=I.ag;unfold pur ZU at h0 ⊢;rw[Qf,Qf,h0,List.map_singleton,List.map_singleton,en,yf,eg]
  obtain⟨uM,uN⟩:=oK.one (by rw[TB N,Xi N];exact P5);have oM:=UM 8 (hdM (X.L++[ne])) s' (Zv (X.L++[ne])) M5.up (QB (show (Zv (X.L++[ne])).length≤60 by unfold Zv;rw[Qa];exact M5.few) #[6]) #[6] S5;have eV:∀b,Z4 ⟨Y.o,Y.ra,Y.ga,Y.Lo++[((X.nb,c,ks,0):ZB)],X.nb+1⟩ b→Z4 Y b∨o b=none:=fun b i=>by
   rcases i with z|z|z|⟨e,he,z⟩
   ·exact .inl (.inl z)
   ·exact .inl (.inr (.inl z))
   ·exact .inl (.inr (.inr (.inl z)))
   ·rcases Qn.mp he with he|he
    ·exact .inl (.inr (.inr (.inr ⟨e,he,z⟩)))
    ·rw[Qk.mp he]at z;exact .inr (by rw[z];exact hc)
  have hv:∀b u,o b=some u→D b≠none:=fun b u i j=>by
   by_cases z:Z4 Y b
   ·obtain⟨u',hu',_⟩:=O.live (b:=b) (by
     rcases z with z|z|z|⟨e,he,z⟩
     ·exact .inl z
     ·exact .inr (.inl z)
     ·exact .inr (.inr (.inl z))
     ·exact .inr (.inr (.inr ⟨e,QM _ he,z⟩)))
    rw[j]at hu';cases hu'
   ·rw[J b u i z]at j;cases j
  have jQ:∀b,Fp X.m X.rd az (X.L++[ne]) b→MFp X b∨D b=none:=fun b i=>by
   rcases i with z|z|z|⟨e,he,z⟩
   ·exact .inl (.inl z)
   ·exact .inl (.inr (.inl z))
   ·exact .inr (by rw[z];exact jM)
   ·rcases Qn.mp he with he|he
    ·exact .inl (.inr (.inr (.inr ⟨e,he,z⟩)))
    ·rw[Qk.mp he]at z;rcases z with z|z|z
     ·exact .inr (by rw[z];exact qy)
     ·exact .inr (by rw[z];exact uK)
     ·exact .inr (by rw[z];exact uL)
  obtain⟨p5,f5,k15⟩:=N4 G O J hv eV M5 W5 oM kM jQ N uM uN;refine fin (fun b u i n n'=>s6 _ _ (k15 b u (jR _ _ i) n n')) (p5.same s6) rfl rfl F rfl rfl ?_ f5 eV;show ZU (X.L++[ne])=ZU X.L++[(X.nb,ks,0)];unfold ZU;rw[Qf,List.map_singleton,en,yf,eg]
 | drop =>
  obtain⟨x,hx,uO⟩:=hd;obtain⟨e,he,rfl⟩:=Ql.mp hx;have oN:e.n=n:=uO;subst oN;obtain⟨B,S,e1,e2⟩:=JM I.ag he;obtain⟨lo1,_,_,_⟩:=C.lst B S;have kW:Z8 (kvR Y.Lo) (.inl e.n)=some (.ref B.2.1):=by rw[← e1];exact TU C.nd S
  have uP:Z8 (kvG Y.Lo) (.inl e.n)=some (.int (B.2.2.2:Int)):=by rw[← e1];exact TR C.nd S
  refine⟨_,rfl,rfl,_,rfl,Yn (by intro z;injection z with z;exact absurd z #[1]) ?_⟩;refine⟨_,rfl,rfl,_,rfl,YE rfl ?_⟩;refine⟨_,rfl,Y.o,_,rfl,ZP.k' (k:=.inr "rows") C.at' (X9 ..),.inr (.inr (.inl ⟨rfl,.inl ⟨_,C.rows⟩⟩)),_,rfl,Y.ra,_,.inl e.n,_,rfl,rfl,C.rows,kW,?_⟩;rw[Zn2];refine⟨B.2.1,_,rfl,.inl (SqL.of (by rw[Zc (C.ne_l S).2.1];exact lo1)),?_⟩;refine⟨_,rfl,Y.o,_,rfl,ZP.k' (k:=.inr "gone") (by rw[Zc n1.symm];exact C.at') (Wr ..),.inr (.inr (.inl ⟨rfl,.inl ⟨_,by rw[Zc F];exact C.gone⟩⟩)),_,rfl,Y.ga,_,.inl e.n,_,rfl,rfl,(by rw[Zc F];exact C.gone),uP,?_⟩;rw[Znr];refine⟨_,_,rfl,rfl,?_⟩;have M:=C.drop F e.n;have k3:∀b u,o b=some u→¬ Z4 Y b→(upd (upd o Y.ra (.dK (kvR (X6 Y.Lo e.n)))) Y.ga (.dK (kvG (X6 Y.Lo e.n)))) b=some u:=fun b u i nO=>by rw[Zc (fun z=>nO (.inr (.inr (.inl z)))),Zc (fun z=>nO (.inr (.inl z)))];exact i
  have v3:∀b u,o b=some u→(upd (upd o Y.ra (.dK (kvR (X6 Y.Lo e.n)))) Y.ga (.dK (kvG (X6 Y.Lo e.n)))) b≠none:=fun b u i j=>by
   by_cases z:b=Y.ga
   ·rw[z,Zd]at j;cases j
   ·rw[Zc z]at j;by_cases z':b=Y.ra
    ·rw[z',Zd]at j;cases j
    ·rw[Zc z',i]at j;cases j
  generalize upd (upd o Y.ra (.dK (kvR (X6 Y.Lo e.n)))) Y.ga (.dK (kvG (X6 Y.Lo e.n)))=H3 at M k3 v3 ⊢;have jT:((X6 Y.Lo e.n).map (fun e:ZB=>e.1)).Pairwise (·<·):=be.sublist (Qbd _ Qan);refine⟨_,rfl,Y.o,Y.ra,Y.ga,_,_,_,_,rfl,M,jT,fun e he=>(M.ne_l he).1,fun k6 q6 D oK O b4=>?_⟩;have J:∀b u,o b=some u→¬ Z4 Y b→D b=some u:=fun b u i nO=>b4 b u (k3 b u i nO) (fun z=>nO (.inl z));have R:MOk ab U D X:=G.mg.keep fun b u i aM=>J b u i (G.nO i aM);obtain⟨gW,gf⟩:=R.M.ob;refine⟨_,rfl,X.m,gW,_,rfl,gf,ZkU ..,_,rfl,X.m,X.rd,X.sd,X.L,X.s,X.nb,X.li,X.lo,_,e,rfl,R.M,he,fun az s' w' k7 q7 H5 jM W5 S5 P5 M5 k5=>?_⟩;refine⟨_,rfl,_,_,rfl,(by rw[e2,Qa];exact Xv _),fun H6 s6=>?_⟩;have kM:∀b u,D b=some u→¬ MFp X b→H5 b=some u:=fun b u i nM=>k5 b u i (fun z=>nM (.inl z)) (fun z=>nM (.inr (.inl z)));have N:=ZnR I.ag e.n;obtain⟨uM,uN⟩:=oK.one (by rw[TB N,Xi N];exact P5);have oM:=UM 8 (hdM (Ys X.L e.n)) s' (Zv (Ys X.L e.n)) M5.up (QB (show (Zv (Ys X.L e.n)).length≤60 by unfold Zv;rw[Qa];exact M5.few) #[6]) #[6] S5;have eV:∀b,Z4 ⟨Y.o,Y.ra,Y.ga,X6 Y.Lo e.n,Y.nb⟩ b→Z4 Y b∨o b=none:=fun b i=>.inl (by
   rcases i with z|z|z|⟨e',W,z⟩
   ·exact .inl z
   ·exact .inr (.inl z)
   ·exact .inr (.inr (.inl z))
   ·exact .inr (.inr (.inr ⟨e',(Qaa.mp W).1,z⟩)))
  have hv:∀b u,o b=some u→D b≠none:=fun b u i j=>by
   by_cases z:b=Y.o
   ·rw[z,O.at']at j;cases j
   ·cases h3:H3 b with
    | none=>exact v3 b u i h3
    | some u3=>rw[b4 b u3 h3 z]at j;cases j
  have jQ:∀b,Fp X.m X.rd az (Ys X.L e.n) b→MFp X b∨D b=none:=fun b i=>by
   rcases i with z|z|z|⟨e',W,z⟩
   ·exact .inl (.inl z)
   ·exact .inl (.inr (.inl z))
   ·exact .inr (by rw[z];exact jM)
   ·exact .inl (.inr (.inr (.inr ⟨e',(Qaa.mp W).1,z⟩)))
  obtain⟨p5,f5,k15⟩:=N4 G O J hv eV M5 W5 oM kM jQ N uM uN;refine fin (fun b u i n n'=>s6 _ _ (k15 b u (jR _ _ i) n n')) (p5.same s6) rfl rfl F oG rfl ?_ f5 eV;show ZU (Ys X.L e.n)=(ZU X.L).filter fun x=>decide (x.1≠e.n);unfold ZU Ys;rw[QaC];rfl
 | grow =>
  obtain⟨x,hx,uO,jS,ao⟩:=hd;obtain⟨e,he,rfl⟩:=Ql.mp hx;have oN:e.n=n:=uO;subst oN;have yg:sortedS (e.ss++ks)=true:=jS;have kX:(e.ss++ks).length≤100:=ao;obtain⟨B,S,e1,e2⟩:=JM I.ag he;have qz:B.2.2.1=e.ss:=by rw[e2]
  have Cw:B.2.2.2=e.g:=by rw[e2]
  obtain⟨lo1,_,_,lz⟩:=C.lst B S;have m9:=(G.mg.M.each e he).le;have hz:∀x∈e.ss++ks,x.length≤1000∧AZ x:=fun x hx=>by
   rcases Qn.mp hx with hx|hx
   ·exact(G.mg.M.each e he).str x hx
   ·exact eB x hx
  have kW:Z8 (kvR Y.Lo) (.inl e.n)=some (.ref B.2.1):=by rw[← e1];exact TU C.nd S
  have uP:Z8 (kvG Y.Lo) (.inl e.n)=some (.int (B.2.2.2:Int)):=by rw[← e1];exact TR C.nd S
  refine⟨_,rfl,rfl,_,rfl,Yn (by intro z;injection z with z;exact absurd z #[1]) ?_⟩;refine⟨_,rfl,rfl,_,rfl,Yn (by intro z;injection z with z;exact absurd z #[1]) ?_⟩;refine⟨_,rfl,Y.o,_,rfl,ZP.k' (k:=.inr "rows") C.at' (X9 ..),_,rfl,Y.ra,_,rfl,ZP.k' (k:=.inl e.n) C.rows kW,B.2.1,_,rfl,.inl (SqL.of lo1),_,rfl,Y.o,_,rfl,ZP.k' (k:=.inr "gone") C.at' (Wr ..),_,rfl,Y.ga,_,rfl,ZP.k' (k:=.inl e.n) C.gone uP,rfl,?_⟩;refine⟨_,rfl,Y.o,_,rfl,ZP.k' (k:=.inr "rows") C.at' (X9 ..),_,rfl,Y.ra,_,rfl,ZP.k' (k:=.inl e.n) C.rows kW,_,rfl,r,_,rfl,.inl (SqL.of cA),fun l hl=>?_⟩;have sl:=Zh hl (.lst (ks.map V.str));refine⟨B.2.1,l,_,_,rfl,rfl,sl _ _ lo1,Zd,(by rw[Qa,Qa,qz];rw[Qi]at kX;exact Yo #[2]),fun c hc=>?_⟩;rw[← Qf];have Z:=sl.trans (Zh hc (.lst ((B.2.2.1++ks).map V.str)));have fC:(upd (upd o l (.lst (ks.map V.str))) c (.lst ((B.2.2.1++ks).map V.str))) c=some (.lst ((B.2.2.1++ks).map V.str)):=Zd;have Cy:o c=none:=sl.free hc;generalize upd (upd o l (.lst (ks.map V.str))) c (.lst ((B.2.2.1++ks).map V.str))=H2 at Z fC ⊢;have L:=C.same Z;refine⟨_,rfl,Y.o,_,rfl,ZP.k' (k:=.inr "rows") L.at' (X9 ..),_,rfl,Y.ra,_,rfl,YN.k (k:=.inl e.n) L.rows rG,?_⟩;rw[← e1,ZnW S ks c];have M:=L.grow F S (ks:=ks) fC (by rw[qz];exact kX) (by rw[qz];exact hz);have k3:∀b u,o b=some u→¬ Z4 Y b→(upd H2 Y.ra (.dK (kvR (Yj Y.Lo B.1 ks c)))) b=some u:=fun b u i nO=>by rw[Zc (fun z=>nO (.inr (.inl z)))];exact Z b u i
  have v3:∀b u,o b=some u→(upd H2 Y.ra (.dK (kvR (Yj Y.Lo B.1 ks c)))) b≠none:=fun b u i j=>by
   by_cases z:b=Y.ra
   ·rw[z,Zd]at j;cases j
   ·rw[Zc z,Z b u i]at j;cases j
  generalize upd H2 Y.ra (.dK (kvR (Yj Y.Lo B.1 ks c)))=H3 at M k3 v3 ⊢;have jT:((Yj Y.Lo B.1 ks c).map (fun e:ZB=>e.1)).Pairwise (·<·):=by rw[JN];exact be
  have cG:=k3 _ _ cA uH;refine⟨fun σ D=>(∃v:Option V,σ=[some (.ref X.m),some (.ref Y.o),some (.ref t),some (.str "grow"),some (.int B.1),some (.ref r),some (.ref kp),none,v])∧(∃k6 q6:Int,Own D Y.o Y.ra Y.ga (Yj Y.Lo B.1 ks c) Y.nb (X.li+k6) (X.lo+q6)∧(∀b u,o b=some u→¬ Z4 Y b→D b=some u)∧(∀b u,o b=some u→D b≠none)∧(((e.g<e.ss.length∨ks=[])∧k6=0∧q6=0)∨(e.g=e.ss.length∧ks≠[]∧YW (hdL (Yj Y.Lo B.1 ks c)) 8 ((Yj Y.Lo B.1 ks c).map (fun e:ZB=>e.1)) k6 q6))),?_,?_⟩
  ·refine⟨_,rfl,_,rfl,?_⟩;rw[Qa,qz,Cw];by_cases hg:e.g<e.ss.length
   ·exact Yn (by intro z;injection z with z;lia) (YZ ⟨⟨_,rfl⟩,0,0,by rw[QR,QR];exact M,k3,v3,.inl ⟨.inl hg,rfl,rfl⟩⟩)
   refine YE (by rw[show e.ss.length=e.g by lia]) ?_;refine⟨_,rfl,(by show 0≤sizeLine;decide),fun z qb=>?_⟩;have sz:=Zh qb (.lst []);refine⟨.list (ks.map PyData.str),.list [],.lst (SqL.of (sz _ _ cG)) (Vy ks),.lst (SqL.of Zd) .nil,UW ks oJ,#[1],_,rfl,?_⟩;rw[if_pos rfl,ZnB];have O:=M.same sz;have k4:∀b u,o b=some u→¬ Z4 Y b→(upd H3 z (.lst [])) b=some u:=fun b u i nO=>sz _ _ (k3 b u i nO);have v4:∀b u,o b=some u→(upd H3 z (.lst [])) b≠none:=fun b u i j=>v3 b u i (sz.free j);generalize upd H3 z (.lst [])=uQ at O k4 v4 ⊢;by_cases jg:ks=[]
   ·exact WD jg ⟨⟨_,rfl⟩,0,0,by rw[QR,QR];exact O,k4,v4,.inl ⟨.inr jg,rfl,rfl⟩⟩
   refine TX jg ?_;refine⟨_,rfl,Y.o,Y.ra,Y.ga,_,_,_,_,rfl,O,jT,fun e he=>(O.ne_l he).1,fun k6 q6 D oK rJ b4=>?_⟩;refine⟨⟨_,rfl⟩,k6,q6,rJ,fun b u i nO=>b4 b u (k4 b u i nO) (fun z=>nO (.inl z)),fun b u i j=>?_,.inr ⟨by lia,jg,oK⟩⟩;by_cases z:b=Y.o
   ·rw[z,rJ.at']at j;cases j
   ·cases h3:uQ b with
    | none=>exact v4 b u i h3
    | some u3=>rw[b4 b u3 h3 z]at j;cases j
  rintro σ D ⟨⟨v,rfl⟩,k6,q6,gA,J,hv,Cz⟩;have R:MOk ab U D X:=G.mg.keep fun b u i aM=>J b u i (G.nO i aM);have gP:=J _ _ cA uH;obtain⟨gW,gf⟩:=R.M.ob;refine⟨_,rfl,X.m,gW,_,rfl,gf,Zk8 ..,_,rfl,_,rfl,X.m,X.rd,X.sd,X.L,X.s,X.nb,X.li,X.lo,X.w,e,r,ks,(by rw[← e1];rfl),R.M,R.W,R.ok,he,gP,fun z=>uG (.inr (.inr (.inr ⟨e,he,.inl z⟩))),kX,yg,hz,fun k' f' az s' w' k7 q7 H5 uK uL oO W5 oM M5 k5=>?_⟩;refine⟨rfl,_,rfl,YE rfl ?_⟩;have kM:∀b u,D b=some u→¬ MFp X b→H5 b=some u:=fun b u i nM=>k5 b u i (fun z=>nM (.inl z)) (fun z=>nM (.inr (.inr (.inr ⟨e,he,.inl z⟩))));have jE:=kM _ _ gP uG;have jf:=kM _ _ (J _ _ oI x9) ya;refine⟨_,rfl,_,rfl,.list (ks.map PyData.str),.list (ks.map PyData.str),.lst (SqL.of jE) (Vy ks),.lst (SqL.of jf) (Vy ks),UW ks oJ,UW ks oJ,?_⟩;rw[if_neg Qq,Lk];have N:Agr (Yj Y.Lo B.1 ks c) (Yr X.L e.n ks k' f'):=by rw[e1];exact Zn9 I.ag e.n ks c k' f'
  have yh:k6=k7∧q6=q7:=by
   rcases Cz with⟨h1,rfl,rfl⟩|⟨h1,h2,h3⟩
   ·rcases oO with⟨_,_,rfl,rfl⟩|⟨h4,h5,_⟩
    ·exact⟨rfl,rfl⟩
    ·rcases h1 with h1|h1
     ·lia
     ·exact absurd h1 h5
   ·rcases oO with⟨h4,_⟩|⟨_,_,_,h6⟩
    ·rcases h4 with h4|h4
     ·lia
     ·exact absurd h4 h2
    ·refine h3.one (m:=8) ?_;rw[TB N,Xi N,UH];exact h6
  have eV:∀b,Z4 ⟨Y.o,Y.ra,Y.ga,Yj Y.Lo B.1 ks c,Y.nb⟩ b→Z4 Y b∨o b=none:=fun b i=>by
   rcases i with z|z|z|⟨e',W,z⟩
   ·exact .inl (.inl z)
   ·exact .inl (.inr (.inl z))
   ·exact .inl (.inr (.inr (.inl z)))
   ·obtain⟨y,hy,rfl⟩:=Ql.mp W;unfold W4 at z;split at z
    ·exact .inr (by rw[z];exact Cy)
    ·exact .inl (.inr (.inr (.inr ⟨y,hy,z⟩)))
  have jQ:∀b,Fp X.m X.rd az (Yr X.L e.n ks k' f') b→MFp X b∨D b=none:=fun b i=>by
   rcases i with z|z|z|⟨e',W,z⟩
   ·exact .inl (.inl z)
   ·exact .inl (.inr (.inl z))
   ·rcases oO with⟨_,h6,_⟩|⟨_,_,h6,_⟩
    ·exact .inl (.inr (.inr (.inl (by rw[z,h6]))))
    ·exact .inr (by rw[z];exact h6)
   ·obtain⟨y,hy,rfl⟩:=Ql.mp W;unfold XU at z;split at z
    ·rcases z with z|z|z
     ·exact .inl (.inr (.inr (.inr ⟨y,hy,.inl z⟩)))
     ·exact .inr (by rw[z];exact uK)
     ·exact .inr (by rw[z];exact uL)
    ·exact .inl (.inr (.inr (.inr ⟨y,hy,z⟩)))
  obtain⟨p5,f5,k15⟩:=N4 G gA J hv eV M5 (by rw[UH];exact W5) (by rw[UH];exact oM) kM jQ N yh.1 yh.2;refine fin (fun b u i n n'=>k15 b u (jR _ _ i) n n') p5 rfl rfl F oG rfl ?_ f5 eV;show ZU (Yr X.L e.n ks k' f')=(ZU X.L).map fun x=>if x.1=e.n then (x.1,x.2.1++ks,x.2.2) else x
  unfold ZU Yr;rw[Qg,Qg];refine QC fun y _=>?_;simp only[Function.comp];unfold XU;split<;>rfl
theorem JK:∀ns:List Int,PyData.canLayAll0 (ns.map PyData.int)=true
 | []=>rfl
 | x::r=>by simp[PyData.canLayAll0,PyData.canLay0,JK r]
theorem JJ:∀ns:List Int,PyData.depthAll (ns.map PyData.int)=0
 | []=>rfl
 | _::r=>by simp[PyData.depthAll,PyData.depth,JJ r]
theorem Zki(ns:List Int):SeqAt.shaped (.list (ns.map PyData.int))=true:=by simp[SeqAt.shaped,PyData.canLay0,PyData.depth,JK ns,JJ]
theorem JI{K:#[7]}{H:Hp}:∀ns:List Int,DVs K H (ns.map V.int) (ns.map PyData.int)
 | []=>.nil
 | s::r=>.cons (.int s) (JI r)
theorem JH{xs:List V}{x:V}(h:xs[xs.length-1]? = some x)(h0:0<xs.length):atI xs (-1)=some x:=by
 have e:ixN xs.length (-1)=some (xs.length-1):=by unfold ixN;rw[if_neg #[6],if_pos #[2]];congr 1;lia
 unfold atI;rw[e];exact h
theorem N3:∀a b:List Nat,Spec.ltCps a b=true↔a<b
 | [],[]=>by simp[Spec.ltCps]
 | [],y::s=>by simp[Spec.ltCps]
 | x::r,[]=>by simp[Spec.ltCps]
 | x::r,y::s=>by have c:=N3 r s;rw[QaH];simp[Spec.ltCps,c]
def LeS(a b:Str):Prop:=¬ b.cps.toList<a.cps.toList
theorem LeS.trans{a b c:Str}(h:LeS a b)(k:LeS b c):LeS a c:=List.not_lt.mpr (List.le_trans (List.not_lt.mp h) (List.not_lt.mp k))
theorem JG:∀ (r:List Str) (x:Str),risingS x r=true↔(x::r).Pairwise LeS
 | [],x=>by simp[risingS]
 | y::r,x=>by
  have d:=JG r y;rw[List.pairwise_cons];unfold risingS;rw[Q6,Bool.not_eq_true'];constructor
  ·rintro⟨a,c⟩;have p:=d.mp c;have e:LeS x y:=fun z=>by rw[(N3 _ _).mpr z]at a;cases a
   refine⟨fun b hb=>?_,p⟩;rcases QF.mp hb with rfl|hb
   ·exact e
   ·exact e.trans ((List.pairwise_cons.mp p).1 b hb)
  ·rintro⟨a,c⟩;exact⟨Qac.mpr fun z=>a y #[4] ((N3 _ _).mp z),d.mpr c⟩
theorem N2(ss:List Str):sortedS ss=true↔ss.Pairwise LeS:=by
 cases ss with
 | nil=>simp[sortedS]
 | cons x r=>exact JG r x
theorem JF:∀ (n:Nat) (a b:List Nat),a.take n<b.take n→a<b
 | 0,a,b,h=>by simp at h
 | n+1,[],b,h=>by
  cases b with
  | nil=>simp at h
  | cons y s=>simp
 | n+1,x::r,[],h=>by simp at h
 | n+1,x::r,y::s,h=>by
  rw[List.take_succ_cons,List.take_succ_cons,QaH]at h;rw[QaH];rcases h with h|⟨h1,h2⟩
  ·exact .inl h
  ·exact .inr ⟨h1,JF n r s h2⟩
theorem LeS.cut{a b:Str}(h:LeS a b)(n:Nat):LeS (Txt.slice a none (some (n:Int))) (Txt.slice b none (some (n:Int))):=fun z=>by rw[Ta,Ta]at z;exact h (JF n _ _ z)
theorem ZkL{ss ks:List Str}(h:sortedS ss=true)(k:sortedS ks=true)(hl:∀x∈ks,LeS ((([""]:List Str)++ss).getLast #[4]) x):sortedS (ss++ks)=true:=by
 rw[N2]at h k ⊢;refine Qaj.mpr ⟨h,k,fun a ha b e=>?_⟩;have d:=hl b e;have c:ss≠[]:=fun z=>by rw[z]at ha;cases ha
 rw[List.getLast_append_of_ne_nil #[4] c]at d;have f:LeS a (ss.getLast c):=by
  rcases List.eq_nil_or_concat ss with z|⟨r,y,rfl⟩
  ·exact absurd z c
  ·rw[show (r.concat y).getLast c=y by simp];rcases Qn.mp (by simpa using ha:a∈r++[y]) with ha|ha
   ·exact(Qaj.mp (by simpa using h:(r++[y]).Pairwise LeS)).2.2 a ha y #[4]
   ·rw[Qk.mp ha];exact List.not_lt.mpr (List.le_refl _)
 exact f.trans d
theorem JE{c:Bool}(b2:Bool){e:(Bool→Hp→Prop)→Prop}{T:Bool→Hp→Prop}{H:Hp}(h1:c=true→∀a:Bool→Hp→Prop,(∀H',ZG H H'→a b2 H')→e a)(q:∀H',ZG H H'→T (c&&b2) H'):if c=true then e T else T false H:=by
 cases c with
 | true=>rw[if_pos rfl];exact h1 rfl T q
 | false=>rw[if_neg Qq];exact q H (ZG.refl H)
theorem Zq8{c:Bool}(b2:Bool){e:(Bool→Hp→Prop)→Prop}{T:Bool→Hp→Prop}{H:Hp}(h1:c=false→∀a:Bool→Hp→Prop,(∀H',ZG H H'→a b2 H')→e a)(q:∀H',ZG H H'→T (c||b2) H'):if c=true then T true H else e T:=by
 cases c with
 | true=>rw[if_pos rfl];exact q H (ZG.refl H)
 | false=>rw[if_neg Qq];exact h1 rfl T q
theorem ZsT:AZ "a":=by unfold AZ;ac_rfl
theorem N1{K:#[7]}{a:Addr}{ss:List Str}{k:Nat}{D:Addr}{d:L2.St}{h:Hp}{g:TG}{r:TT}{s:TE}{Q:VK}(j:Str→Bool)(n:Str→Str)(R:L2.St→Prop)(w:h D=none)(ha:SqL K h a (ss.map V.str))(hn:ss.length≤1000)(h0:R (d++List.replicate k none))
  (z:∀x∈ss,∀ (d:L2.St) (H:Hp) (N:L2.St→V→Hp→Prop) (M:L2.St→Hp→Prop),R d→(∀c,R c→j x=true→N c (.str (n x)) H)→(∀c,R c→j x=false→M c H)→g (.str x) d H fun c A=>r c A fun b t=>if b=true then s c t fun y B=>N c y B else M c t)
  (hd:∀c,R c→Q (.ref D) (upd h D (.lst (((ss.filter j).map n).map V.str)))):WC (Itl K a) D k d h g r s Q:=by
 refine Lb (K:=K) (a:=a) (xs:=ss.map V.str) (fun i l d H=>R d∧l=(((ss.take i).filter j).map n).map V.str∧H=upd h D (.lst l)∧i≤ss.length) ⟨h0,rfl,rfl,Qw _⟩ ?_ ?_ ?_
 ·rintro i l d H ⟨_,_,rfl,_⟩;exact(Zh w _).seq ha
 ·rintro i x l d H f ⟨o,rfl,rfl,hi⟩;rw[Qm]at f;cases m:ss[i]? with
  | none=>rw[m]at f;cases f
  | some y =>
   rw[m]at f;injection f with f;subst f;have u:i<ss.length:=(Qe.mp m).1;have v:ss.take (i+1)=ss.take i++[y]:=by rw[List.take_succ,m];rfl
   refine z y (Qo m) d _ _ _ o (fun c p q=>⟨Zd,?_,p,?_,by rw[ZpM],u⟩) (fun c p q=>⟨p,?_,rfl,u⟩)
   ·rw[Qa,Qa];have:=Q8 j (ss.take i);rw[QA]at this;exact Zy #[2]
   ·rw[v,List.filter_append,List.filter_cons_of_pos q,List.filter_nil,Qf,Qf];rfl
   ·rw[v,List.filter_append,List.filter_cons_of_neg (by rw[q];exact Qq),List.filter_nil,QaT]
 ·rintro l d H ⟨o,rfl,rfl,_⟩;have e:ss.take (ss.map V.str).length=ss:=by rw[Qa,List.take_length]
  rw[e];exact hd d o
def RX(P:List Y9)(nb n:Int)(ks:List Str):W0→Prop
 | .add=>n=nb∧(P.length<12∨P=[])∧sortedS ks=true∧(nb<36∨P=[])
 | .drop=>∃x∈P,x.1=n
 | .grow=>∃x∈P,x.1=n∧sortedS (x.2.1++ks)=true∧(x.2.1.length<50∨ks=[])
def Zrf:Sp:=fun vs H Q _=>∃ (p o ra ga l:Addr) (c:Int) (Lo:List ZB) (nb li lo:Int) (ss:List Str),vs=[.ref p,.ref o,.ref l]∧Y8 H p c∧c<2 ^ 30∧Own H o ra ga Lo nb li lo∧o≠p∧ra≠p∧ga≠p∧(∀e∈Lo,e.2.1≠p∧sortedS e.2.2.1=true)∧(Lo.map (·.1)).Pairwise (·<·)∧H l=some (.lst (ss.map V.str))∧l≠p∧1≤ss.length∧ss.length≤4∧(∀s∈ss,s.length≤24∧AZ s) ∧
 ∀ (t r:Addr) (d:W0) (n:Int) (b:List Str) (f:Int) (a:Hp),H t=none→H r=none→a t=some (.tup [.str d.word,.int n,.ref r])→a r=some (.lst (b.map V.str))→b.length≤6→(∀x∈b,x.length≤40∧AZ x)→RX (pur Lo) nb n b d→Y8 a p f→c≤f→f≤c+700→But p H a→Q (.ref t) a
theorem Zo0(T:Z9 K mg ab U)(af:Df P w K mg base 2 "_law_pick" ["_law_left_here", "_law_many_here"] V9)(cu:Df P w K mg base 5 "_law_row" ["_law_left_here", "_law_stems_here", "_law_most"] Sg):Df P w K mg base 6 "_law_late" ["_law_left_here", "_law_own", "_law_stems_here"] Zrf:=by
 refine T.t_l_late.df Ww (fun vs H Q E h=>?_) (fun ai f A outer s H vs Q E G h=>?_)
 ·obtain⟨p,o,ra,ga,l,c,Lo,nb,li,lo,ss,rfl,_⟩:=h;rfl
 obtain⟨p,o,ra,ga,l,c,Lo,nb,li,lo,ss,rfl,hL,c1,ow,CA,uR,CB,rK,be,hl,oP,fX,yj,qA,q⟩:=h;refine⟨_,#[Zf,#[ZD,3,Ww.nd,#[3],#[Zk,Us,#[5],T.b.n_sorted,boot_sorted,#[Za,#[Zo,(ixG G),‹1›,#[Zw]],#[Ze]]]],#[Zf,#[ZD,4,Ww.nd,#[3],#[Zz,af,G,#[Za,‹0›,#[Za,#[Zj],#[Ze]]],#[5]]],#[Zf,#[ZW,(@PW.pt _ _ _ #[Wh,(@PW.pt _ _ _ #[Yf,#[Zl,XS,‹4›,#[Zj],(Zs _)],#[Yf,#[Zl,XS,#[Zk,(YB K),#[5],T.b.n_len,Qz,#[Za,‹3›,#[Ze]]],#[Zj],(Zs _)],#[XT,#[Zl,XS,#[Zo,(ixG G),‹1›,#[Zw]],#[Zj],(Zs _)]]]]),(@Vn _ _ _ _ #[Zl,(@eqD _ K _ G #[5]),‹3›,#[YU,#[Ze]],(Zs _)])]),#[Zi,#[Zp,#[YV,#[Za,#[Zw],#[Za,#[Zo,(ixG G),‹1›,#[Zw]],#[Za,#[Zz,cu,G,#[Za,‹0›,#[Za,‹2›,#[Za,#[Zj],#[Ze]]]],#[5]],#[Ze]]]]]]],#[ZH]],#[Zf,#[ZD,5,Ww.nd,#[3],#[Zo,(ixL K),‹3›,#[Zz,af,G,#[Za,‹0›,#[Za,#[Zk,(YB K),#[5],T.b.n_len,Qz,#[Za,‹3›,#[Ze]]],#[Ze]]],#[5]]]],#[Zf,#[ZW,#[Zl,YH,‹4›,#[Zj],(Zs _)],#[Zi,#[Zp,#[YV,#[Za,#[Zw],#[Za,‹5›,#[Za,#[YU,#[Ze]],#[Ze]]]]]]],#[ZH]],(@VG _ _ _ _ _ #[ZD,6,Ww.nd,(Or.inr rfl),#[Zo,(ixL K),#[ZJ,VQ,#[YU,#[Za,#[Zw],#[Ze]]],#[Zo,(ixG G),#[Zo,(ixG G),‹1›,#[Zw]],‹5›]],#[WJ,VX,#[Zj]]]] #[Zf,#[Uy,7,Ww.nd,T0,#[iL,K,#[Zz,cu,G,#[Za,‹0›,#[Za,‹2›,#[Za,#[Zj],#[Ze]]]],#[5]]],(fun _ _ _ _=>#[cg,9,T0]),(fun _ _ _ _=>(@RB _ _ _ #[Zl,Ms,#[cw,9,T0],#[cv,6,T0],(Zs _)])),(fun _ _ _ _=>#[cw,9,T0])],(@VG _ _ _ _ _ #[ZW,#[Zl,YH,#[Zz,af,G,#[Za,‹0›,#[Za,#[Zj],#[Ze]]],#[5]],#[Zj],(Zs _)],#[Zf,#[ZD,7,Ww.nd,#[3],#[ZJ,VQ,#[YU,#[Za,#[ZJ,RN,#[pv,6,(Or.inr #[3])],#[Zw]],#[Ze]]],#[Zk,(Rx K),#[5],T.b.n_sorted,boot_sorted,#[Za,#[Xt,SJ,#[iL,K,‹7›],(fun _ _ _ _=>#[cg,9,SJ]),(fun _ _ _ _=>(@Xn _)),(fun _ _ _ _=>#[ZJ,RN,#[cv,6,SJ],#[cw,9,SJ]])],#[Ze]]]]],#[Zi,#[ZD,7,Ww.nd,#[3],#[Zk,(Rx K),#[5],T.b.n_sorted,boot_sorted,#[Za,‹7›,#[Ze]]]]]],#[ZH]] #[Zf,#[ZD,8,Ww.nd,#[3],#[ZJ,VY,#[Zj],#[Ya,NI,#[5],T.b.n_int,boot_int,#[Za,#[XA,XS,#[Zk,(YB K),#[5],T.b.n_len,Qz,#[Za,#[Zo,(ixG G),#[Zo,(ixG G),‹1›,#[Zw]],‹5›],#[Ze]]],#[Zj],(Zs _)],#[Ze]]]]],#[Zi,#[Zp,#[YV,#[Za,#[Zw],#[Za,‹5›,#[Za,#[WG,(slL K),#[Xt,TZ,#[iL,K,‹7›],(fun _ _ _ _=>#[cg,9,TZ]),(fun _ _ _ _=>(@RB _ _ _ #[Zl,Ms,#[WG,Na,#[cw,9,TZ],(@WH _),(@Wd _ _ _ #[Zj])],#[cv,6,TZ],(Zs _)])),(fun _ _ _ _=>#[WG,Na,#[cw,9,TZ],(@WH _),(@Wd _ _ _ #[Zj])])],(@WH _),(@Wd _ _ _ ‹8›)],#[Ze]]]]]]]])])]]]]],?_⟩;have c0:=hL.ge;have bW:=ow.few;refine⟨_,rfl,o,_,rfl,ZP.k' (k:=.inr "rows") ow.at' (X9 ..),ra,_,Lo.map (·.1),rfl,ow.rows,Sl Lo,by rw[Qa];lia,fun I ns cF bj aT=>?_⟩;have dN:ns=Lo.map (·.1):=Si bj (OU aT (bj.nodup_iff.mpr ow.nd)) be;subst dN;have uS:=Zh cF (.lst ((Lo.map (·.1)).map V.int));have rL:(upd H I (.lst ((Lo.map (·.1)).map V.int))) I=some (.lst ((Lo.map (·.1)).map V.int)):=Zd;have L1:=hL.same uS;generalize upd H I (.lst ((Lo.map (·.1)).map V.int))=H1 at uS rL L1 ⊢;have rM:I≠p:=by obtain⟨u,hu⟩:=hL.here;exact(Zb hu cF).symm
 refine⟨_,rfl,p,c,_,rfl,L1,by lia,by decide,by decide,fun wy H2 yk CC L2 B2=>?_⟩;have pY:But p H H2:=(But.same uS).trans B2;have oQ:∀ {J:Hp},But p H J→Own J o ra ga Lo nb li lo:=fun {J} B=>ow.keep fun b u S ho=>B b u S (by
  rcases ho with z|z|z|⟨e,O,z⟩
  ·rw[z];exact CA
  ·rw[z];exact uR
  ·rw[z];exact CB
  ·rw[z];exact(rK e O).1)
 have bq:=oQ pY;have oR:=B2 _ _ rL rM;have ao:(((Lo.map (·.1)).map V.int).length:Int)=(Lo.length:Int):=by rw[Qa,Qa]
 refine⟨_,rfl,_,_,rfl,rfl,_,rfl,?_⟩;refine JE (decide ((((Lo.map (·.1)).map V.int).length:Int)<12)&&decide (nb<36)) (fun _ T1 h1=>?_) (fun H3 X=>?_)
 ·refine⟨_,rfl,I,_,rfl,.inl (SqL.of oR),_,_,rfl,rfl,_,rfl,?_⟩;exact JE (decide (nb<36)) (fun _ T2 h2=>⟨_,rfl,o,_,rfl,ZP.k' (k:=.inr "number") bq.at' (So ..),_,_,rfl,rfl,_,rfl,h2 _ (ZG.refl _)⟩) h1
 refine Zq8 (decide (Lo=[])) (fun _ T1 h1=>?_) (fun uQ qB=>?_)
 ·refine⟨_,rfl,(by show 0≤sizeLine;decide),fun z hz=>?_⟩;have sz:=Zh hz (.lst []);refine⟨.list ((Lo.map (·.1)).map PyData.int),.list [],.lst (SqL.of (sz _ _ (X _ _ oR))) (JI _),.lst (SqL.of Zd) .nil,Zki _,#[1],_,rfl,?_⟩;rw[if_neg Qq,show PyData.eqv (.list ((Lo.map (·.1)).map PyData.int)) (.list [])=decide (Lo=[]) by
   cases Lo with
   | nil=>simp[PyData.eqv,PyData.eqvAll]
   | cons a r=>simp[PyData.eqv,PyData.eqvAll]]
  exact h1 _ sz
 replace X:=X.trans qB;clear qB;generalize uQ=H3 at X ⊢;have i8:But p H H3:=pY.trans (But.same X);have L3:=L2.same X;have bO:=oQ i8;have rN:=X _ _ oR;have dC:=i8 _ _ hl oP;have iA:∀ {b:Addr} {J:Hp},But p H J→Y8 J p (0:Int)∨(∃c',Y8 J p c')→J b=none→H b=none:=fun {b J} B aM S=>by
  have hp:∃u,J p=some u:=by
   rcases aM with h|⟨c',h⟩
   ·exact h.here
   ·exact h.here
  cases e:H b with
  | none=>rfl
  | some u =>
   by_cases z:b=p
   ·obtain⟨u',hu'⟩:=hp;rw[z,hu']at S;cases S
   ·rw[B b u e z]at S;cases S
 refine Y3 (fun d=>?_) (fun d=>?_)
 ·refine⟨_,rfl,o,_,rfl,ZP.k' (k:=.inr "number") bO.at' (So ..),_,rfl,_,rfl,p,l,c+1,5,ss,rfl,L3,by lia,by decide,by decide,dC,fX,yj,qA,fun r ts c6 H4 ay gP bF jS lJ Y d1 d2 B4=>?_⟩;refine⟨(by show 3≤sizeLine;decide),fun t R=>?_⟩;have Z:=i8.trans B4;have st:=Zh R (.tup [.str "add",.int nb,.ref r]);refine q t r .add nb ts c6 _ (iA Z (.inr ⟨_,Y⟩) R) (iA i8 (.inr ⟨_,L3⟩) ay) Zd (st _ _ gP) #[2] (fun x C=>⟨by have:=(lJ x C).1;lia,(lJ x C).2⟩) ⟨rfl,?_,jS,?_⟩ (Y.same st) #[2] #[2] (Z.trans (But.same st))
  ·rw[Bool.or_eq_true,Q6,Q6,decide_eq_true_eq,decide_eq_true_eq,decide_eq_true_eq,decide_eq_true_eq,ao]at d;rcases d with⟨_,d,_⟩|d
   ·exact .inl (by unfold pur;rw[Qa];lia)
   ·exact .inr (by rw[d];rfl)
  ·rw[Bool.or_eq_true,Q6,Q6,decide_eq_true_eq,decide_eq_true_eq,decide_eq_true_eq,decide_eq_true_eq]at d;rcases d with⟨_,_,d⟩|d
   ·exact .inl d
   ·exact .inr (by rw[d];rfl)
 have aW:Lo≠[]:=fun z=>d (by rw[Bool.or_eq_true,decide_eq_true z];exact .inr rfl);have fG:0<Lo.length:=List.length_pos_iff.mpr aW;refine⟨_,rfl,_,rfl,_,rfl,I,_,rfl,.inl (SqL.of rN),p,c+1,_,rfl,L3,by lia,by lia,by lia,fun i H4 i0 i1 Y B4=>?_⟩;obtain⟨n,hn,bo⟩:=Pa (ns:=Lo.map (·.1)) i0 (by rw[Qa];lia);obtain⟨e,O,rfl⟩:=Ql.mp hn;have yl:=B4 _ _ rN rM;have Z:=i8.trans B4;refine⟨I,_,_,_,rfl,rfl,SqL.of yl,bo,?_⟩;refine⟨_,rfl,rfl,_,rfl,Y3 (fun dw=>?_) (fun dw=>?_)⟩
 ·refine⟨_,rfl,(by show 0≤sizeLine;decide),fun r gR=>⟨(by show 3≤sizeLine;decide),fun t R=>?_⟩⟩;have sr:=Zh gR (.lst []);have st:=Zh R (.tup [.str "drop",.int e.1,.ref r]);have oS:=Z.trans (But.same sr);exact q t r .drop e.1 [] (c+1+1) _ (iA oS (.inr ⟨_,Y.same sr⟩) R) (iA Z (.inr ⟨_,Y⟩) gR) Zd (st _ _ Zd) #[6] (fun x C=>by cases C) ⟨_,Qd (f:=fun e:ZB=>(e.1,e.2.2)) O,rfl⟩ ((Y.same sr).same st) #[2] #[2] (oS.trans (But.same st))
 have cY:=oQ Z;obtain⟨lo4,dJ,lg,gz⟩:=cY.lst e O;have kW:Z8 (kvR Lo) (.inl e.1)=some (.ref e.2.1):=TU ow.nd O;obtain⟨g,uT⟩:∃z,z=(([""]:List Str)++e.2.2.1).getLast #[4]:=⟨_,rfl⟩;have ym:g∈([""]:List Str)++e.2.2.1:=by rw[uT];exact List.getLast_mem _
 have rO:g.length≤1000∧AZ g:=by
  rcases Qn.mp ym with h|h
  ·rw[Qk.mp h];exact⟨by ac_rfl,AZ.nil⟩
  ·exact gz g h
 refine⟨fun F H6=>F=[some (.ref p),some (.ref o),some (.ref l),some (.ref I),some (.int wy),some (.int e.1),some (.str g),none,none]∧But p H H6∧Y8 H6 p (c+1+1),?_,?_⟩
 ·refine⟨(by show 1≤sizeLine;decide),fun b S=>?_⟩;have sb:=Zh S (.lst (([""]:List Str).map V.str));have CD:(upd H4 b (.lst (([""]:List Str).map V.str))) b=some (.lst (([""]:List Str).map V.str)):=Zd;have oS:=Z.trans (But.same sb);have L5:=Y.same sb;have gA:=oQ oS;refine⟨_,rfl,o,_,rfl,ZP.k' (k:=.inr "rows") gA.at' (X9 ..),_,rfl,ra,_,rfl,ZP.k' (k:=.inl e.1) gA.rows kW,b,e.2.1,_,_,rfl,rfl,CD,(gA.lst e O).1,(by rw[Qa,Qa];show 1+e.2.2.1.length≤sizeLine;exact Yo #[2]),fun d' aS=>?_⟩;rw[← Qf];have sd:=Zh aS (.lst (((([""]:List Str)++e.2.2.1)).map V.str));have CF:(upd (upd H4 b (.lst (([""]:List Str).map V.str))) d' (.lst (((([""]:List Str)++e.2.2.1)).map V.str))) d'=some (.lst (((([""]:List Str)++e.2.2.1)).map V.str)):=Zd;have qC:=oS.trans (But.same sd);have L6:=L5.same sd;have yn:atI (((([""]:List Str)++e.2.2.1)).map V.str) (-1)=some (.str g):=JH (by rw[Qa,Qm,uT,List.getLast_eq_getElem,Qb (by rw[Qi];show 1+_-1<1+_;lia)];rfl) (by rw[Qa,Qi];show 0<1+_;lia);exact⟨_,rfl,d',_,_,_,rfl,rfl,SqL.of CF,yn,rfl,qC,L6⟩
 rintro F H6 ⟨rfl,qC,L6⟩;clear yk CC i0 i1 ao fG lg dJ bW;refine⟨_,rfl,_,rfl,p,l,c+1+1,4,ss,rfl,L6,by lia,by decide,by decide,qC _ _ hl oP,fX,yj,qA,fun r ts c6 H7 ay yp bF jS lJ L7 d1 d2 B7=>?_⟩;have CG:=qC.trans B7;refine⟨r,rfl,⟨_,SqL.of yp⟩,fun D hD=>?_⟩;refine N1 (K:=K) (a:=r) (ss:=ts) (fun x=>!decide (x.cps.toList<g.cps.toList)) (fun x=>x) (fun F=>∃v:Option V,F=[some (.ref p),some (.ref o),some (.ref l),some (.ref I),some (.int wy),some (.int e.1),some (.str g),none,none,v]) hD (SqL.of yp) #[2] ⟨_,rfl⟩ ?_ ?_
 ·rintro x C F Hx N M ⟨v,rfl⟩ hN hM;exact⟨_,rfl,_,rfl,x,g,rfl,rfl,_,rfl,Y3 (fun d=>⟨_,rfl,hN _ ⟨_,rfl⟩ d⟩) (fun d=>hM _ ⟨_,rfl⟩ (Qac.mpr d))⟩
 rintro aw ⟨v,rfl⟩;obtain⟨k0,jg⟩:∃z,z=ts.filter (fun x=>!decide (x.cps.toList<g.cps.toList)):=⟨_,rfl⟩;rw[List.map_id',← jg];have CH:sortedS k0=true:=by rw[N2]at jS ⊢;rw[jg];exact jS.sublist Qan
 have qD:∀x∈k0,x.length≤28∧AZ x:=fun x C=>lJ x (by rw[jg]at C;exact(Qaa.mp C).1);have CI:k0.length≤4:=by have:=Q8 (fun x:Str=>!decide (x.cps.toList<g.cps.toList)) ts;rw[← jg]at this;lia
 have sD:=Zh hD (.lst (k0.map V.str));have mv:(upd H7 D (.lst (k0.map V.str))) D=some (.lst (k0.map V.str)):=Zd;have yq:=CG.trans (But.same sD);have L8:=L7.same sD;generalize upd H7 D (.lst (k0.map V.str))=H8 at sD mv yq L8 ⊢;have tQ:D≠p:=by obtain⟨u,hu⟩:=L7.here;exact(Zb hu hD).symm
 refine⟨fun F bg=>∃ (L:Addr) (kk:List Str),F=[some (.ref p),some (.ref o),some (.ref l),some (.ref I),some (.int wy),some (.int e.1),some (.str g),some (.ref L),none]∧bg L=some (.lst (kk.map V.str))∧sortedS kk=true∧kk.length≤5∧(∀x∈kk,x.length≤1100∧AZ x)∧But p H bg∧Y8 bg p (c6+1),?_,?_⟩
 ·refine⟨_,rfl,p,c6,_,rfl,L8,by lia,by decide,by decide,fun j H9 j0 j2 L9 B9=>⟨rfl,_,rfl,?_⟩⟩;have eS:=B9 _ _ mv tQ;have yr:=yq.trans B9;refine Y3 (fun dj=>?_) (fun dj=>⟨D,k0,rfl,eS,CH,by lia,fun x C=>⟨by have:=(qD x C).1;lia,(qD x C).2⟩,yr,L9⟩);refine⟨_,rfl,_,_,rfl,rfl,(by show g.length+1≤sizeLine;exact QB (show _≤2000 by lia) #[6]),(by show 1≤sizeLine;decide),fun x1 jh=>?_⟩;have s1:=Zh jh (.lst (([g ++ "a"]:List Str).map V.str));have yt:(upd H9 x1 (.lst (([g ++ "a"]:List Str).map V.str))) x1=some (.lst (([g ++ "a"]:List Str).map V.str)):=Zd;refine⟨_,rfl,D,rfl,⟨_,SqL.of (s1 _ _ eS)⟩,fun D2 bZ=>?_⟩;refine N1 (K:=K) (a:=D) (ss:=k0) (fun _=>true) (fun x=>g++x) (fun F=>∃v:Option V,F=[some (.ref p),some (.ref o),some (.ref l),some (.ref I),some (.int wy),some (.int e.1),some (.str g),some (.ref D),none,v]) bZ (SqL.of (s1 _ _ eS)) #[2] ⟨_,rfl⟩ ?_ ?_
  ·rintro x C F Hx N M ⟨v,rfl⟩ hN hM;have:=(qD x C).1;exact⟨_,rfl,_,rfl,_,_,rfl,rfl,QB (show _≤2000 by lia) #[6],hN _ ⟨_,rfl⟩ rfl⟩
  rintro du ⟨v5,rfl⟩;rw[show k0.filter (fun _=>true)=k0 from List.filter_eq_self.mpr fun _ _=>rfl];have s2:=s1.trans (Zh bZ (.lst ((k0.map fun x=>g++x).map V.str)));refine⟨D2,_,rfl,SqL.of Zd,(by rw[Qa];lia),fun sl eY dO ji CJ=>?_⟩;have qB:=s2.trans (Zh dO (.lst (eY.map V.str)));refine⟨x1,sl,_,_,rfl,rfl,Zh dO _ _ _ (Zh bZ _ _ _ yt),Zd,(by rw[Qa,Qa,ji.length_eq,Qa];exact Yo (by show 1+k0.length≤_;lia)),fun ct tI=>?_⟩;rw[← Qf];refine⟨_,rfl,ct,_,rfl,SqL.of Zd,(by rw[Qi,ji.length_eq,Qa];show 1+k0.length<64;lia),fun L kk gC oT uU=>?_⟩;have yu:=(qB.trans (Zh tI (.lst ((([g ++ "a"]:List Str)++eY).map V.str)))).trans (Zh gC (.lst (kk.map V.str)));have lK:upd (upd (upd (upd (upd H9 x1 (.lst (([g ++ "a"]:List Str).map V.str))) D2 (.lst ((k0.map fun x=>g++x).map V.str))) sl (.lst (eY.map V.str))) ct (.lst ((([g ++ "a"]:List Str)++eY).map V.str))) L (.lst (kk.map V.str)) L=some (.lst (kk.map V.str)):=Zd;have yv:kk.length≤5:=by rw[oT.length_eq,Qi,ji.length_eq,Qa];show 1+k0.length≤5;lia
  have qE:∀x∈kk,x.length≤1100∧AZ x:=fun x C=>by
   rcases Qn.mp (oT.mem_iff.mp C) with h|h
   ·rw[Qk.mp h,QaX];exact⟨by show g.length+1≤1100;lia,rO.2.app ZsT⟩
   ·obtain⟨y,W,rfl⟩:=Ql.mp (ji.mem_iff.mp h);have:=qD y W;rw[QaX];exact⟨by lia,rO.2.app this.2⟩
  have qF:=uU;exact⟨L,kk,rfl,lK,qF,yv,qE,yr.trans (But.same yu),L9.same yu⟩
 rintro F bg ⟨L,kk,rfl,lK,qF,yv,qE,mx,iq⟩;clear bF CI;have fK:=oQ mx;refine⟨_,rfl,o,_,rfl,ZP.k' (k:=.inr "rows") fK.at' (X9 ..),_,rfl,ra,_,rfl,ZP.k' (k:=.inl e.1) fK.rows kW,e.2.1,_,rfl,.inl (SqL.of (fK.lst e O).1),_,_,rfl,rfl,.inr ⟨_,rfl,_,_,rfl,rfl,.inl ⟨by decide,by decide⟩,?_⟩⟩;refine⟨_,rfl,_,rfl,L,rfl,⟨_,SqL.of lK⟩,fun D3 im=>?_⟩;refine N1 (K:=K) (a:=L) (ss:=kk) (fun x=>!decide ((Txt.slice x none (some ((40:Nat):Int))).cps.toList<g.cps.toList)) (fun x=>Txt.slice x none (some ((40:Nat):Int))) (fun F=>∃v8 v:Option V,F=[some (.ref p),some (.ref o),some (.ref l),some (.ref I),some (.int wy),some (.int e.1),some (.str g),some (.ref L),v8,v]) im (SqL.of lK) #[2] ⟨_,_,rfl⟩ ?_ ?_
 ·rintro x C F Hx N M ⟨v8,v,rfl⟩ hN hM;have jh:=(qE x C).1;exact⟨_,rfl,_,rfl,x,rfl,QB jh #[6],_,rfl,_,g,rfl,rfl,_,rfl,Y3 (fun d=>⟨_,rfl,_,rfl,x,rfl,QB jh #[6],hN _ ⟨_,_,rfl⟩ d⟩) (fun d=>hM _ ⟨_,_,rfl⟩ (Qac.mpr d))⟩
 rintro du ⟨v8,v5,rfl⟩;have eJ:=(Zh im (.lst ((((kk.filter fun x=>!decide ((Txt.slice x none (some ((40:Nat):Int))).cps.toList<g.cps.toList)).map fun x=>Txt.slice x none (some ((40:Nat):Int)))).map V.str)));refine⟨_,rfl,_,rfl,D3,_,rfl,SqL.of Zd,fun r' gR=>?_⟩;obtain⟨mm,lZ,nF⟩:∃m:Nat,m≤6∧(6:Int)*(if decide (((e.2.2.1.map V.str).length:Int)<50)=true then 1 else 0)=(m:Int)∧(e.2.2.1.length<50∨m=0):=by
  by_cases uV:((e.2.2.1.map V.str).length:Int)<50
  ·rw[if_pos (decide_eq_true uV)];rw[Qa]at uV;exact⟨6,Qh _,rfl,.inl #[2]⟩
  ·rw[if_neg (by rw[decide_eq_false uV];exact Qq)];exact⟨0,by decide,rfl,.inr rfl⟩
 rw[nF.1,ZmX,← List.map_take];obtain⟨k9,oU⟩:∃z,z=(((kk.filter fun x=>!decide ((Txt.slice x none (some ((40:Nat):Int))).cps.toList<g.cps.toList)).map fun x=>Txt.slice x none (some ((40:Nat):Int)))).take mm:=⟨_,rfl⟩;rw[← oU];have yw:∀y∈k9,∃x∈kk,y=Txt.slice x none (some ((40:Nat):Int))∧LeS g y:=fun y W=>by rw[oU]at W;obtain⟨x,C,rfl⟩:=Ql.mp (Q2 W);obtain⟨jh,yx⟩:=Qaa.mp C;exact⟨x,jh,rfl,fun z=>by rw[decide_eq_true z]at yx;cases yx⟩
 have CK:sortedS k9=true:=by rw[N2]at qF ⊢;rw[oU];refine List.Pairwise.sublist (List.take_sublist ..) ?_;exact Qa5 _ (fun a b h=>h.cut 40) (qF.sublist Qan)
 refine⟨(by show 3≤sizeLine;decide),fun t R=>?_⟩;have ik:=eJ.trans (Zh gR (.lst (k9.map V.str)));have qd:=ik.trans (Zh R (.tup [.str "grow",.int e.1,.ref r']));have CL:=mx.trans (But.same qd);refine q t r' .grow e.1 k9 (c6+1) _ (iA (mx.trans (But.same ik)) (.inr ⟨_,iq.same ik⟩) R) (iA (mx.trans (But.same eJ)) (.inr ⟨_,iq.same eJ⟩) gR) Zd (Zh R _ _ _ Zd) ?_ (fun y W=>?_) ⟨_,Qd (f:=fun e:ZB=>(e.1,e.2.2)) O,rfl,ZkL (rK e O).2 CK fun y W=>?_,?_⟩ (iq.same qd) #[2] #[2] CL
 ·rw[oU,QA];lia
 ·obtain⟨x,C,rfl,_⟩:=yw y W;refine⟨?_,fun c' iD=>?_⟩
  ·have:=congrArg List.length (Ta x 40);rw[QA]at this;show (Txt.slice x none (some ((40:Nat):Int))).cps.size≤40;rw[← Qad,this];lia
  ·have h1:c'∈x.cps.toList.take 40:=by rw[← Ta];exact iD
   exact(qE x C).2 c' (Q2 h1)
 ·obtain⟨x,C,rfl,h⟩:=yw y W;rw[← uT];exact h
 ·rcases nF.2 with h|h
  ·exact .inl h
  ·exact .inr (by rw[oU,h];rfl)
def WZ(P:List Y9)(nb:Int):Prop:=P.length≤12∧∀x∈P,x.1<nb∧x.2.1.length≤60
theorem Zn3{P:List Y9}{nb n:Int}{ks:List Str}{d:W0}(h:WZ P nb)(hd:RX P nb n ks d)(hk:ks.length≤6):JL P nb n ks d:=by
 cases d with
 | add=>obtain⟨rfl,c,a,_⟩:=hd;refine⟨rfl,fun x b=>(h.2 x b).1,?_,a,by lia⟩;have:=h.1;lia
 | drop=>exact hd
 | grow =>
  obtain⟨x,b,rfl,c,a⟩:=hd;refine⟨x,b,rfl,c,?_⟩;have:=(h.2 x b).2;rw[Qi];rcases a with a|rfl
  ·lia
  ·show x.2.1.length+0≤100;lia
theorem Znp{P:List Y9}{nb n:Int}{ks:List Str}{d:W0}(nd:(YX P).Nodup)(h:WZ P nb)(hd:RX P nb n ks d)(hk:ks.length≤6):WZ (N5 P n ks d) (d.nb nb):=by
 cases d with
 | add =>
  obtain⟨rfl,a,b,_⟩:=hd;refine⟨?_,fun x hx=>?_⟩
  ·show (P++[(n,ks,0)]).length≤12;rw[Qi,Qy];rcases a with a|rfl
   ·lia
   ·decide
  ·show x.1<n+1∧_;rcases Qn.mp hx with hx|hx
   ·have:=h.2 x hx;exact⟨by lia,this.2⟩
   ·rw[Qk.mp hx];exact⟨by show n<n+1;lia,by show ks.length≤60;lia⟩
 | drop=>exact⟨QB (Q8 ..) h.1,fun x hx=>h.2 x (Qaa.mp hx).1⟩
 | grow =>
  obtain⟨y,g,rfl,a,b⟩:=hd;refine⟨by show (List.map _ P).length≤12;rw[Qa];exact h.1,fun x hx=>?_⟩;obtain⟨z,f,rfl⟩:=Ql.mp hx;have c:=h.2 z f;by_cases e:z.1=y.1
  ·have i:z=y:=WQ nd f g e;subst i;rw[if_pos rfl];refine⟨c.1,?_⟩;show (z.2.1++ks).length≤60;rw[Qi];rcases b with b|rfl
   ·lia
   ·exact c.2
  ·rw[if_neg e];exact c
theorem Zoj{P:List Y9}{nb:Int}(h:WZ P nb)(n:Int):WZ (X7 P n) nb:=by
 refine⟨by unfold X7;rw[Qa];exact h.1,fun x a=>?_⟩;obtain⟨y,b,rfl⟩:=Ql.mp a;have:=h.2 y b;unfold Wn;split
 ·exact this
 ·exact this
theorem Znc{P:List Y9}{nb:Int}(h:WZ P nb):Yg P≤720:=by
 have:∀l:List Y9,(∀x∈l,x.2.1.length≤60)→(l.map fun x=>x.2.1.length-x.2.2).sum≤l.length*60:=fun l h=>by
  induction l with
  | nil=>exact Qh _
  | cons x r a=>have b:=a fun y c=>h y (Qt _ c);have d:=h x #[4];rw[Qj,QaD,QL];lia
 have b:=this P fun x e=>(h.2 x e).2;have d:=h.1;unfold Yg;lia
structure Wk (cR cM:Addr) (HB:Hp) (p:Addr) (H:Hp) (X:MS) (Y:OS):Prop where
 pr:Yd cR cM H X Y
 nga:Y.ga≠Y.ra
 nb:X.nb=Y.nb
 inv:WZ (ZU X.L) X.nb
 fM:∀b,MFp X b→HB b=none
 fO:∀b,Z4 Y b→HB b=none
 but:But p HB H
section
variable {cR cM:Addr} {HB:Hp} {p:Addr} {H H':Hp} {X X':MS} {Y Y':OS}
theorem Wk.to(W:Wk cR cM HB p H X Y)(hp:∃u,H p=some u)(f:Yd cR cM H' X' Y')(g:Y'.ga≠Y'.ra)(nb':X'.nb=Y'.nb)(h:WZ (ZU X'.L) X'.nb)(fM:∀b,MFp X' b→MFp X b∨H b=none)(fO:∀b,Z4 Y' b→Z4 Y b∨H b=none)(k:∀b u,H b=some u→¬ MFp X b→¬ Z4 Y b→H' b=some u):Wk cR cM HB p H' X' Y':=by
 have d:∀b,H b=none→HB b=none:=fun b a=>by
  cases e:HB b with
  | none=>rfl
  | some u =>
   by_cases z:b=p
   ·obtain⟨u',c⟩:=hp;rw[z,c]at a;cases a
   ·rw[W.but b u e z]at a;cases a
 refine⟨f,g,nb',h,fun b a=>(fM b a).elim (W.fM b) (d b),fun b a=>(fO b a).elim (W.fO b) (d b),fun b u a n=>k b u (W.but b u a n) (fun z=>?_) (fun z=>?_)⟩
 ·rw[W.fM b z]at a;cases a
 ·rw[W.fO b z]at a;cases a
theorem Wk.same(W:Wk cR cM HB p H X Y)(s:ZG H H'):Wk cR cM HB p H' X Y:=⟨W.pr.same s,W.nga,W.nb,W.inv,W.fM,W.fO,W.but.trans (But.same s)⟩
theorem Wk.np(W:Wk cR cM HB p H X Y)(hB:∃u,HB p=some u):¬ MFp X p∧¬ Z4 Y p:=by obtain⟨u,a⟩:=hB;exact⟨fun z=>(by rw[W.fM p z]at a;cases a),fun z=>(by rw[W.fO p z]at a;cases a)⟩
theorem Wk.draw(W:Wk cR cM HB p H X Y)(hB:∃u,HB p=some u){c:Int}(L:Y8 H p c)(B:But p H H'):Wk cR cM HB p H' X Y:=⟨W.pr.but L (W.np hB).1 (W.np hB).2 B,W.nga,W.nb,W.inv,W.fM,W.fO,W.but.trans B⟩
theorem Wk.left(W:Wk cR cM HB p H X Y)(hB:∃u,HB p=some u){c:Int}(L:Y8 H p c)(k:∀b u,H b=some u→¬ MFp X b→¬ Z4 Y b→H' b=some u):Y8 H' p c:=by obtain⟨a,d,e,c0⟩:=L;exact⟨a,d,k _ _ e (W.np hB).1 (W.np hB).2,c0⟩
end
theorem ZhN(k f:Addr)(g:Int):(Y0 k f g).lookup ("copied" : Str)=none:=UU _ _ _ #[1] #[1] #[1]
def JD(C:Addr):Sp:=fun vs H Q _=>∃ (p k f:Addr) (ss:List Str) (g:Nat),vs=[.ref p]∧Wu C H p k f ss g∧ss.length≤100∧(∀s∈ss,s.length≤1000) ∧
 ∀ (u k' b:Addr) (a:Hp),H u=none→H k'=none→H b=none→Wu C a u k' b ss g→ZG H a→Q (.ref u) a
theorem Zl9(T:Z9 K mg ab U)(y:Cf P w K mg base 4 ab "Row" ["self", "keys"] (Sz ab)):Mf P w K mg base 6 ab "copied" ["self"] (JD ab):=by
 refine T.t_Row_copied.mf LK (fun B H Q E h=>?_) (fun ai f A outer s H B Q E C h=>?_)
 ·obtain⟨p,k,f,m,g,rfl,_⟩:=h;rfl
 obtain⟨p,k,f0,m,g,rfl,R,D,F,q⟩:=h;refine⟨_,#[Zf,#[ZD,1,LK.nd,#[3],#[VI,y,C,#[Za,#[ZK,‹0›],#[Ze]]]],#[Zf,#[YD,‹1›,#[ZK,‹0›]],#[Zi,#[Zp,‹1›]]]],?_⟩;obtain⟨n,r⟩:=R.ob;refine⟨_,rfl,p,ab,n,_,_,rfl,r,T.cl_Row,T.na_Row_all_keys,V4 _ _ _,fun u c e G xp=>?_⟩;have d:ZG H (upd (upd H c (.own u)) u (.ins ab c [])):=fun b o a=>by rw[Zc (Zb a e),Zc (Zb a G)];exact a
 have i:(upd (upd H c (.own u)) u (.ins ab c [])) u=some (.ins ab c []):=Zd;generalize upd (upd H c (.own u)) u (.ins ab c [])=H1 at d i ⊢;refine⟨u,c,k,m,rfl,i,d _ _ R.ks,D,F,fun k' t I j l pR R2 k2=>⟨rfl,?_⟩⟩;obtain⟨v,J⟩:=R2.ob;have x:ZG H I:=fun b o a=>k2 b o (d b o a) (Zb a e);refine⟨_,rfl,p,ab,n,_,_,rfl,x _ _ r,T.cl_Row,T.na_Row_gone,UV _ _ _,_,rfl,u,ab,v,_,rfl,J,T.cl_Row,T.na_Row_gone,R0 ..,?_⟩;rw[J5];have L:k'≠u:=fun z=>by rw[z,i]at j;cases j
 have M:t≠u:=fun z=>by rw[z,i]at l;cases l
 exact⟨_,rfl,q u k' t _ e (d.free j) (d.free l) ⟨⟨v,Zd⟩,by rw[Zc L];exact R2.ks,by rw[Zc M];exact R2.fs⟩ fun b o a=>by rw[Zc (Zb a e)];exact x b o a⟩
def ZqD(e f:Addr):Sp:=fun vs H Q _=>∃ (m rd sd:Addr) (L:List Zx) (s:StL) (nb li lo:Int) (g:V),vs=[.ref m]∧ZQ e f H m rd sd L s nb li lo g∧nb≤35 ∧
 ∀ (a h i:Addr) (c:List Zx) (d:Hp),ZQ e f d a h i c s nb li lo g→ZU c=ZU L→(∀b,Fp a h i c b→H b=none)→ZG H d→Q (.ref a) d
theorem Zpo(T:Z9 K mg ab U)(bV:Cf P w K mg base 14 U "Merge" ["self", "rows"] (Ky ab U))(cT:Mf P w K mg base 6 ab "copied" ["self"] (JD ab)):Mf P w K mg base 16 U "twin" ["self"] (ZqD ab U):=by
 refine T.t_Merge_twin.mf LJ (fun vs H Q E h=>?_) (fun ai f A outer s H vs Q E hr h=>?_)
 ·obtain⟨m,F,sd,L,s,nb,I,lo,ae,rfl,_⟩:=h;rfl
 obtain⟨m,F,sd,L,s,nb,I,l,ae,rfl,M,h35,q⟩:=h;refine⟨_,#[Zf,#[ZD,1,LJ.nd,#[3],#[VI,bV,hr,#[Za,#[YU,#[Ze]],#[Ze]]]],#[Zf,#[YD,‹1›,(@Uu _ _ _ (@ZoG _ _ _ _ _ _ _ _ _ _ _ _ _ _ _ _ TY rfl rfl rfl #[Ut,#[ZK,‹0›]] (fun _ _ _ _=>#[gT,K,2,#[Zu,#[cg,2,TY],#[Zu,#[cg,3,TY],(@Yy _)]]]) (fun _ _ _ _=>(@Xn _)) (fun _ _ _ _=>#[cw,2,TY]) (fun _ _ _ _=>#[YT,cT,T.cl_Row,hr,#[cw,3,TY]]) (by intro _;rfl)))],#[Zf,#[YD,‹1›,#[ZK,‹0›]],#[Zf,#[YD,‹1›,#[ZK,‹0›]],#[Zf,#[YD,‹1›,#[ZK,‹0›]],#[Zf,#[YD,‹1›,#[Ya,Zky,#[5],T.b.n_dict,boot_dict,#[Za,#[ZK,‹0›],#[Ze]]]],#[Zf,#[YD,‹1›,#[ZK,‹0›]],#[Zi,#[Zp,‹1›]]]]]]]]],?_⟩;obtain⟨dx,hm⟩:=M.ob;have bW:=M.few;refine⟨by decide,fun r hr g dy cq gh ndm=>?_⟩;have sr:=Zh hr (.lst []);have cA:(upd H r (.lst [])) r=some (.lst []):=Zd;generalize upd H r (.lst [])=Hr at sr cA cq gh ⊢;have s1:ZG Hr (upd (upd Hr dy (.own g)) g (.ins U dy [])):=fun b o c=>by rw[Zc (Zb c cq),Zc (Zb c gh)];exact c
 have cL:(upd (upd Hr dy (.own g)) g (.ins U dy [])) g=some (.ins U dy []):=Zd;generalize upd (upd Hr dy (.own g)) g (.ins U dy [])=H1 at s1 cL ⊢;refine⟨g,dy,r,[],rfl,cL,⟨s1 _ _ cA,by decide,(fun x hx=>by cases hx)⟩,(fun x hx=>by cases hx),fun rd0 J L0 nj G k0 q0 O M2 _ _ _ _ CQ k2=>⟨rfl,?_⟩⟩;have qH:H g=none:=sr.free cq;have s2:ZG H O:=fun b o c=>k2 b o (s1 b o (sr b o c)) (Zb c qH);obtain⟨j,bG⟩:=M2.ob;clear CQ k2 M2;have N:=M.same s2;refine⟨F,_,N.rows,True.intro,_,rfl,m,U,dx,_,_,rfl,s2 _ _ hm,T.cl_Merge,T.na_Merge_rows,XX ..,F,_,rfl,N.rows,fun ob B hB=>?_⟩;have aG:(upd O F (.frz ob (.dK (kvM L)))) F=some (.frz ob (.dK (kvM L))):=Zd;have k1:∀b x,O b=some x→b≠F→(upd O F (.frz ob (.dK (kvM L)))) b=some x:=fun b x h n=>by rw[Zc n];exact h
 have my:∀b,(upd O F (.frz ob (.dK (kvM L)))) b=none→O b=none:=fun b c=>by
  cases e:O b with
  | none=>rfl
  | some o =>
   by_cases z:b=F
   ·rw[z,show (upd O F (.frz ob (.dK (kvM L)))) F=some (.frz ob (.dK (kvM L))) from Zd]at c;cases c
   ·rw[k1 b o e z]at c;cases c
 generalize upd O F (.frz ob (.dK (kvM L)))=H3 at aG k1 hB my ⊢;refine Zpu (d:=F) (o:=ob) (kvs:=kvM L) (fun i zs σ X=>(∃v1 v2:Option V,σ=[some (.ref m),some (.ref g),v1,v2])∧(∃C:List Zx,ZU C=ZU (L.take i)∧zs=kvM C∧(C.map (·.p)).Nodup∧∀e∈C,X8 ab X e∧(H3 e.p=none∧H3 e.k=none∧H3 e.f=none)∧e.p≠B∧e.k≠B∧e.f≠B)∧i≤L.length∧X B=some (.dK zs)∧ZG H3 X) ?_ (fun _ _ _ _ h=>h.2.2.2.2 _ _ aG) ?_ ?_
 ·exact⟨⟨none,none,rfl⟩,⟨[],rfl,rfl,List.nodup_nil,(fun t h=>by cases h)⟩,Qw _,Zd,Zh hB _⟩
 ·rintro i k x zs σ X p bh ⟨⟨v1,v2,rfl⟩,⟨C,fi,rfl,uX,bD⟩,hi,cb,s4⟩ nX;unfold kvM at bh;rw[Qm]at bh;cases hu:L[i]? with
  | none=>rw[hu]at bh;cases bh
  | some e =>
  rw[hu]at bh;cases bh;have bc:i<L.length:=(Qe.mp hu).1;have S:=Qo hu;have R:=N.each e S;obtain⟨_,_,_,n1,n2,n3⟩:=N.ne_sd S;have W:=Zh nX (.tup [kV (.inl e.n),.ref e.p]);have qy:(upd X p (.tup [kV (.inl e.n),.ref e.p])) p=some (.tup [.int e.n,.ref e.p]):=Zd;generalize upd X p (.tup [kV (.inl e.n),.ref e.p])=H5 at W qy ⊢;have R5:X8 ab H5 e:=R.mono fun b o c aM=>W _ _ (s4 _ _ (k1 b o c (by rcases aM with z|z|z<;>rw[z];exact n1.symm;exact n2.symm;exact n3.symm)));obtain⟨dp,hp⟩:=R5.at'.ob;refine⟨p,_,rfl,SqT.of qy,rfl,_,_,rfl,_,_,rfl,rfl,_,rfl,_,rfl,e.p,dp,_,rfl,hp,ZhN ..,e.p,e.k,e.f,e.ss,e.g,rfl,R5.at',R5.len,fun s hs=>(R5.str s hs).1,fun u k' f' H6 uY jf yz R6 s6=>?_⟩;have jU:=W _ _ cb;have qI:=s4.trans W;have up:=N.up;unfold Zv at up;have eL:L=L.take i++e::L.drop (i+1):=by have h:=(List.take_append_drop i L).symm;rw[List.drop_eq_getElem_cons bc,(Qe.mp hu).2]at h;exact h
  have eN:Zv C=Zv (L.take i):=by rw[Xa,Xa,fi]
  have aW:∀y∈C,y.n≠e.n:=fun y hy z=>by
   have h1:y.n∈Zv (L.take i):=by rw[← eN];exact Qd (f:=fun e:Zx=>e.n) hy
   unfold Zv at h1;rw[eL,Qf]at up;have:=(Qaj.mp up).2.2 _ h1 e.n #[4];lia
  have fY:Z8 (kvM C) (.inl e.n)=none:=by
   cases hv:Z8 (kvM C) (.inl e.n) with
   | none=>rfl
   | some v=>obtain⟨y,hy,z⟩:=Ql.mp (Wa hv);injection z with z _;exact absurd (Sum.inl.inj z) (aW y hy)
  have fF:C.length=i:=by have h:=congrArg List.length eN;unfold Zv at h;rw[Qa,Qa,QA]at h;lia
  have nu:u≠B∧k'≠B∧f'≠B:=⟨(Zb jU uY).symm,(Zb jU jf).symm,(Zb jU yz).symm⟩;refine⟨.inl e.n,rfl,s6 _ _ jU,by unfold kvM;rw[Qa];exact Zy #[2],?_⟩;rw[WA _ fY,show kvM C++[((.inl e.n:Key),V.ref u)]=kvM (C++[⟨e.n,u,k',f',e.ss,e.g⟩]) by unfold kvM;rw[Qf];rfl];refine⟨⟨_,_,rfl⟩,⟨C++[⟨e.n,u,k',f',e.ss,e.g⟩],?_,rfl,?_,fun y hy=>?_⟩,bc,Zd,fun b o c=>by rw[Zc (Zb c hB)];exact s6 _ _ (qI _ _ c)⟩
  ·unfold ZU at fi ⊢;rw[Qf,fi,QH,hu,Qf];rfl
  ·rw[Qf];refine QaJ.mpr ⟨uX,by simp,fun a ha b c=>?_⟩;obtain⟨y,hy,rfl⟩:=Ql.mp ha;have aK:b=u:=by simpa using c
   rw[aK];obtain⟨de,bT⟩:=(bD y hy).1.at'.ob;exact Zb (W _ _ bT) uY
  ·rcases Qn.mp hy with hy|hy
   ·obtain⟨g1,g2,Y,Z,g5⟩:=bD y hy;exact⟨g1.mono fun b o c aM=>by rw[Zc (by rcases aM with z|z|z<;>rw[z];exact Y;exact Z;exact g5)];exact s6 _ _ (W _ _ c),g2,Y,Z,g5⟩
   ·rw[Qk.mp hy];exact⟨X8.keep (H:=H6) ⟨R6,R5.le,R5.len,R5.srt,R5.str⟩ (Zc nu.1) (Zc nu.2.1) (Zc nu.2.2),⟨qI.free uY,qI.free jf,qI.free yz⟩,nu⟩
 rintro zs σ X ⟨⟨v1,v2,rfl⟩,⟨C,fi,rfl,uX,bD⟩,_,cb,s4⟩;have gC:(kvM L).length=L.length:=by unfold kvM;rw[Qa]
 rw[gC,Qv (Qh _)]at fi;refine⟨ob,s4 _ _ aG,?_⟩;have ul:B≠F:=(Zb aG hB).symm;have jU:(upd X F (.dK (kvM L))) B=some (.dK (kvM C)):=by rw[Zc ul];exact cb
 have W:ZG O (upd X F (.dK (kvM L))):=fun b x c=>by
  by_cases e:b=F
  ·rw[e,N.rows]at c;rw[e,Zd];exact c
  ·rw[Zc e];exact s4 _ _ (k1 b x c e)
 have oX:∀e∈C,X8 ab (upd X F (.dK (kvM L))) e∧O e.p=none∧O e.k=none∧O e.f=none:=fun e S=>by obtain⟨g1,⟨g2,Y,Z⟩,_⟩:=bD e S;exact⟨g1.keep (Zc (Zb aG g2).symm) (Zc (Zb aG Y).symm) (Zc (Zb aG Z).symm),my _ g2,my _ Y,my _ Z⟩
 have rP:=my _ hB;clear bD cb s4 k1 aG my;generalize upd X F (.dK (kvM L))=H5 at jU W oX ⊢;have lb:m≠g:=Zb hm qH;have dE:=W _ _ (s2 _ _ hm);refine⟨_,rfl,g,U,j,_,rfl,W _ _ bG,T.cl_Merge,T.na_Merge_rows,XH ..,?_⟩;rw[Zi4];refine⟨_,rfl,m,U,dx,_,_,rfl,by rw[Zc lb];exact dE,T.cl_Merge,T.na_Merge_next_number,OA ..,_,rfl,g,U,j,_,rfl,Zd,T.cl_Merge,T.na_Merge_next_number,XH ..,?_⟩;rw[KL];refine⟨_,rfl,m,U,dx,_,_,rfl,by rw[Zc lb,Zc lb];exact dE,T.cl_Merge,T.na_Merge_likened,Sf ..,_,rfl,g,U,j,_,rfl,Zd,T.cl_Merge,T.na_Merge_likened,XH ..,?_⟩;rw[Oy];refine⟨_,rfl,m,U,dx,_,_,rfl,by rw[Zc lb,Zc lb,Zc lb];exact dE,T.cl_Merge,T.na_Merge_looked,Oz ..,_,rfl,g,U,j,_,rfl,Zd,T.cl_Merge,T.na_Merge_looked,XH ..,?_⟩;rw[KJ];have k8:∀b,b≠g→(upd (upd (upd (upd H5 g (.ins U j (mgF B ((([]:List (Addr×List Str)).length:Nat):Int) k0 q0 J (Y4 G)))) g (.ins U j (mgF B nb k0 q0 J (Y4 G)))) g (.ins U j (mgF B nb I q0 J (Y4 G)))) g (.ins U j (mgF B nb I l J (Y4 G)))) b=H5 b:=fun b n=>by rw[Zc n,Zc n,Zc n,Zc n]
 have gZ:(upd (upd (upd (upd H5 g (.ins U j (mgF B ((([]:List (Addr×List Str)).length:Nat):Int) k0 q0 J (Y4 G)))) g (.ins U j (mgF B nb k0 q0 J (Y4 G)))) g (.ins U j (mgF B nb I q0 J (Y4 G)))) g (.ins U j (mgF B nb I l J (Y4 G)))) g=some (.ins U j (mgF B nb I l J (Y4 G))):=Zd;generalize (upd (upd (upd (upd H5 g (.ins U j (mgF B ((([]:List (Addr×List Str)).length:Nat):Int) k0 q0 J (Y4 G)))) g (.ins U j (mgF B nb k0 q0 J (Y4 G)))) g (.ins U j (mgF B nb I q0 J (Y4 G)))) g (.ins U j (mgF B nb I l J (Y4 G))))=H8 at k8 gZ ⊢;have yA:∀ {b o},H b=some o→b≠g:=fun c=>Zb c qH;have s8:ZG H H8:=fun b o c=>by rw[k8 b (yA c)];exact W _ _ (s2 _ _ c)
 have rQ:∀e∈C,X8 ab H8 e∧H e.p=none∧H e.k=none∧H e.f=none:=fun e S=>by obtain⟨g1,g2,Y,Z⟩:=oX e S;exact⟨g1.keep (k8 _ (Zb bG g2).symm) (k8 _ (Zb bG Y).symm) (k8 _ (Zb bG Z).symm),s2.free g2,s2.free Y,s2.free Z⟩
 have yB:B≠g:=(Zb bG rP).symm;have CS:H8 B=some (.dK (kvM C)):=by rw[k8 B yB];exact jU
 have CT:=s2.free rP;clear oX jU W dE k8 bG N s2;refine⟨_,rfl,m,U,dx,_,_,rfl,s8 _ _ hm,T.cl_Merge,T.na_Merge_stays,UP ..,sd,kvS s,rfl,s8 _ _ M.stays,fun P w x hx y hy e=>?_,fun D hD=>?_⟩
 ·unfold kvS at hx hy;rw[Qg]at hx hy;obtain⟨a,ha,rfl⟩:=Ql.mp hx;obtain⟨b,c,rfl⟩:=Ql.mp hy;obtain⟨a1,a2,a3⟩:=M.kb.1 a ha;obtain⟨b1,b2,b3⟩:=M.kb.1 b c;obtain⟨e1,e2⟩:=Zmg (P:=P) (w:=w) ⟨a1,a2,by lia⟩ ⟨b1,b2,by lia⟩ e;show ([.inl a.1.1,.inl a.1.2]:List Key)=[.inl b.1.1,.inl b.1.2];rw[e1,e2]
 have s9:=Zh hD (.dT (kvS s));have eS:(upd H8 D (.dT (kvS s))) D=some (.dT (kvS s)):=Zd;have CU:=s8.free hD;have CW:D≠g:=(Zb gZ hD).symm;generalize upd H8 D (.dT (kvS s))=H9 at s9 eS ⊢;refine⟨_,rfl,g,U,j,_,rfl,s9 _ _ gZ,T.cl_Merge,T.na_Merge_stays,XH ..,?_⟩;rw[KI];refine⟨_,rfl,m,U,dx,_,_,rfl,by rw[Zc lb];exact s9 _ _ (s8 _ _ hm),T.cl_Merge,T.na_Merge_best,UO ..,_,rfl,g,U,j,_,rfl,Zd,T.cl_Merge,T.na_Merge_best,XH ..,?_⟩;rw[TH];have kE:∀b o,H9 b=some o→b≠g→(upd (upd H9 g (.ins U j (mgF B nb I l D (Y4 G)))) g (.ins U j (mgF B nb I l D ae))) b=some o:=fun b o c n=>by rw[Zc n,Zc n];exact c
 have yC:(upd (upd H9 g (.ins U j (mgF B nb I l D (Y4 G)))) g (.ins U j (mgF B nb I l D ae))) g=some (.ins U j (mgF B nb I l D ae)):=Zd;generalize upd (upd H9 g (.ins U j (mgF B nb I l D (Y4 G)))) g (.ins U j (mgF B nb I l D ae))=HE at kE yC ⊢;have sE:ZG H HE:=fun b o c=>kE b o (s9 _ _ (s8 _ _ c)) (yA c);have eN:Zv C=Zv L:=by rw[Xa,Xa,fi]
 have fF:C.length=L.length:=by have h:=congrArg List.length fi;unfold ZU at h;rw[Qa,Qa]at h;exact h
 refine⟨_,rfl,q g B D C HE ⟨⟨j,yC⟩,kE _ _ (s9 _ _ CS) yB,kE _ _ eS CW,fun e S t ht=>sE _ _ (M.ats e S t ht),fun e S=>?_,by rw[eN];exact M.up,uX,by rw[fF];exact bW,M.sfew,⟨M.kb.1,by rw[eN];exact M.kb.2⟩⟩ fi (fun b c=>?_) sE⟩
 ·obtain⟨g1,g2,Y,Z⟩:=rQ e S;obtain⟨de,bT⟩:=g1.at'.ob;refine g1.mono fun b o c aM=>kE b o (s9 _ _ c) fun z=>?_;rw[z,gZ]at c;injection c with c;subst c;rcases aM with z2|z2|z2
  ·rw[← z2,z,gZ]at bT;injection bT with bT;injection bT with _ _ bT;have a:=V4 e.k e.f (e.g:Int);rw[← bT,Yh _ _ _ _ _ _ #[1] #[1] #[1] #[1] #[1] #[1]]at a;cases a
  ·have:=g1.at'.ks;rw[← z2,z,gZ]at this;cases this
  ·have:=g1.at'.fs;rw[← z2,z,gZ]at this;cases this
 ·rcases c with rfl|rfl|rfl|⟨e,S,c⟩
  ·exact qH
  ·exact CT
  ·exact CU
  ·obtain⟨_,g2,Y,Z⟩:=rQ e S;rcases c with rfl|rfl|rfl
   ·exact g2
   ·exact Y
   ·exact Z
theorem ZmM(ra ga a:Addr)(nb li lo:Int):Y6 (Z3 ra ga nb li lo) (.inr "rows") (.ref a)=Z3 a ga nb li lo:=by unfold Y6 Z3;simp;exact⟨fun h=>absurd h #[1],by ac_rfl,by ac_rfl,by ac_rfl⟩
theorem Zma(ra ga a:Addr)(nb li lo:Int):Y6 (Z3 ra ga nb li lo) (.inr "gone") (.ref a)=Z3 ra a nb li lo:=by unfold Y6 Z3;simp;exact⟨fun h=>absurd h #[1],by ac_rfl,by ac_rfl,by ac_rfl⟩
def ZnT:Sp:=fun vs H Q _=>∃ (o ra ga:Addr) (Lo:List ZB) (nb li lo:Int),vs=[.ref o]∧Own H o ra ga Lo nb li lo ∧
 ∀ (a c d:Addr) (e:List ZB) (f:Hp),Own f a c d e nb li lo→d≠c→pur e=pur Lo→(∀b,Z4 ⟨a,c,d,e,nb⟩ b→H b=none)→ZG H f→Q (.ref a) f
theorem ZkF(T:Z9 K mg ab U):Df P w K mg base 1 "_law_twin_of" ["_law_own"] ZnT:=by
 refine T.t_l_twin_of.df LI (fun vs H Q E h=>?_) (fun ai f A outer s H vs Q E hr h=>?_)
 ·obtain⟨o,j,y,Lo,nb,r,lo,rfl,_⟩:=h;rfl
 obtain⟨o,j,y,Lo,nb,r,lo,rfl,L,q⟩:=h;refine⟨_,#[Zf,#[ZD,1,LI.nd,#[3],#[Ya,Mq,#[5],T.b.n_dict,boot_dict,#[Za,‹0›,#[Ze]]]],#[Zf,#[Z0,#[Ya,(Zsl K),#[5],T.b.n_dict,boot_dict,#[Za,(@Uu _ _ _ #[Xt,U1,#[Ut,#[Zo,(ixG hr),‹0›,#[Zw]]],(fun _ _ _ _=>#[gT,K,2,#[Zu,#[cg,2,U1],#[Zu,#[cg,3,U1],(@Yy _)]]]),(fun _ _ _ _=>(@Xn _)),(fun _ _ _ _=>#[YV,#[Za,#[cw,2,U1],#[Za,#[Ya,(VO K),(Wb U1 rfl #[1]),T.b.n_list,boot_list,#[Za,#[cw,3,U1],#[Ze]]],#[Ze]]]])]),#[Ze]]],#[YI,‹1›,#[Zw],(Ym hr)]],#[Zf,#[Z0,#[Ya,Mq,#[5],T.b.n_dict,boot_dict,#[Za,#[Zo,(ixG hr),‹0›,#[Zw]],#[Ze]]],#[YI,‹1›,#[Zw],(Ym hr)]],#[Zi,#[Zp,‹1›]]]]],?_⟩;refine⟨_,rfl,o,_,rfl,L.at',fun l bR=>?_⟩;have Z:=Zh bR (.dK (Z3 j y nb r lo));have e1:(upd H l (.dK (Z3 j y nb r lo))) l=some (.dK (Z3 j y nb r lo)):=Zd;generalize upd H l (.dK (Z3 j y nb r lo))=C at Z e1 ⊢;have M:=L.same Z;have bW:=L.few;refine⟨j,_,M.rows,True.intro,_,rfl,o,_,rfl,ZP.k' (k:=.inr "rows") M.at' (X9 ..),j,_,rfl,M.rows,fun N B hB=>?_⟩;have aG:(upd C j (.frz N (.dK (kvR Lo)))) j=some (.frz N (.dK (kvR Lo))):=Zd;have k1:∀b x,C b=some x→b≠j→(upd C j (.frz N (.dK (kvR Lo)))) b=some x:=fun b x h n=>by rw[Zc n];exact h
 have uZ:∀b,(upd C j (.frz N (.dK (kvR Lo)))) b=none→C b=none:=fun b a=>by
  cases e:C b with
  | none=>rfl
  | some o =>
   by_cases z:b=j
   ·rw[z,Zd]at a;cases a
   ·rw[k1 b o e z]at a;cases a
 have xt:=uZ B hB;generalize upd C j (.frz N (.dK (kvR Lo)))=H2 at aG k1 uZ hB ⊢;have nl:∀e∈Lo,e.2.1≠j:=fun e I z=>by have:=(M.lst e I).1;rw[z,M.rows]at this;cases this
 refine Mv (d:=j) (o:=N) (kvs:=kvR Lo) (fun i zs σ m=>(∃v1 v2:Option V,σ=[some (.ref o),some (.ref l),v1,v2])∧(∃g:List (Addr×ZB),zs=(g.map fun u=>V.ref u.1)∧g.map (fun u=>(u.2.1,u.2.2.2))=(Lo.take i).map (fun e=>(e.1,e.2.2))∧∀u∈g,m u.1=some (.tup [.int u.2.1,.ref u.2.2.1])∧m u.2.2.1=some (.lst (u.2.2.2.1.map V.str))∧u.1≠B∧u.2.2.1≠B∧H2 u.2.2.1=none)∧i≤Lo.length∧m B=some (.lst zs)∧ZG H2 m) ?_ (fun _ _ _ _ h=>h.2.2.2.2 _ _ aG) ?_ ?_
 ·exact⟨⟨none,none,rfl⟩,⟨[],rfl,rfl,(fun t h=>by cases h)⟩,Qw _,Zd,Zh hB _⟩
 ·rintro i k x zs σ m p S ⟨⟨v1,v2,rfl⟩,⟨g,rfl,D,bD⟩,hi,W,O⟩ nX;unfold kvR at S;rw[Qm]at S;cases hu:Lo[i]? with
  | none=>rw[hu]at S;cases S
  | some e =>
  rw[hu]at S;cases S;have bc:i<Lo.length:=(Qe.mp hu).1;have I:=Qo hu;have F:=Zh nX (.tup [kV (.inl e.1),.ref e.2.1]);have nY:(upd m p (.tup [kV (.inl e.1),.ref e.2.1])) p=some (.tup [.int e.1,.ref e.2.1]):=Zd;generalize upd m p (.tup [kV (.inl e.1),.ref e.2.1])=G at F nY ⊢;have ao:g.length=i:=by have:=congrArg List.length D;rw[Qa,Qa,QA]at this;lia
  have CY:G e.2.1=some (.lst (e.2.2.1.map V.str)):=F _ _ (O _ _ (k1 _ _ (M.lst e I).1 (nl e I)));refine⟨p,_,rfl,SqT.of nY,rfl,_,_,rfl,_,_,rfl,rfl,?_⟩;refine⟨_,rfl,_,rfl,e.2.1,_,rfl,.inl (SqL.of CY),fun c hc=>⟨Zy #[4],fun t X=>?_⟩⟩;have yD:G t=none:=by
   cases e':G t with
   | none=>rfl
   | some u=>rw[Zh hc _ _ _ e']at X;cases X
  have oj:t≠c:=fun z=>by rw[z,Zd]at X;cases X
  have mi:B≠t:=Zb (F _ _ W) yD;have yE:B≠c:=Zb (F _ _ W) hc;have kk:∀b u,G b=some u→(upd (upd G c (.lst (e.2.2.1.map V.str))) t (.tup [.int e.1,.ref c])) b=some u:=fun b u a=>by rw[Zc (Zb a yD),Zc (Zb a hc)];exact a
  refine⟨kk _ _ (F _ _ W),(by rw[Qa,ao];exact Zy #[2]),⟨_,_,rfl⟩,⟨g++[(t,(e.1,c,e.2.2))],by rw[Qf];rfl,?_,fun u hu=>?_⟩,bc,Zd,fun b u a=>?_⟩
  ·rw[Qf,D,QH,‹Lo[i]? = some e›,Qf];rfl
  ·rcases Qn.mp hu with hu|hu
   ·obtain⟨g1,R,g3,g4,g5⟩:=bD u hu;exact⟨by rw[Zc g3];exact kk _ _ (F _ _ g1),by rw[Zc g4];exact kk _ _ (F _ _ R),g3,g4,g5⟩
   ·rw[Qk.mp hu];exact⟨by rw[Zc mi.symm];exact Zd,by rw[Zc yE.symm,Zc oj.symm];exact Zd,mi.symm,yE.symm,O.free (F.free hc)⟩
  ·rw[Zc (Zb a hB)];exact kk _ _ (F _ _ (O _ _ a))
 rintro zs σ m ⟨⟨v1,v2,rfl⟩,⟨g,rfl,D,bD⟩,_,W,O⟩;rw[show (kvR Lo).length=Lo.length by unfold kvR;rw[Qa],Qv (Qh _)]at D;have ao:g.length=Lo.length:=by have:=congrArg List.length D;rw[Qa,Qa]at this;exact this
 refine⟨N,O _ _ aG,?_⟩;have k4:∀b u,C b=some u→(upd m j (.dK (kvR Lo))) b=some u:=fun b u a=>by
  by_cases z:b=j
  ·rw[z,M.rows]at a;rw[z,Zd];exact a
  ·rw[Zc z];exact O _ _ (k1 b u a z)
 have u0:∀ {b:Addr} {u:HO},m b=some u→(∀CZ,u≠.frz CZ (.dK (kvR Lo)))→b≠j:=fun h n z=>by rw[z,O _ _ aG]at h;cases h;exact n _ rfl
 have yF:(upd m j (.dK (kvR Lo))) B=some (.lst (g.map fun u=>V.ref u.1)):=by rw[Zc (u0 W fun _ z=>by cases z)];exact W
 have hW:∀u∈g,(upd m j (.dK (kvR Lo))) u.1=some (.tup [.int u.2.1,.ref u.2.2.1])∧(upd m j (.dK (kvR Lo))) u.2.2.1=some (.lst (u.2.2.2.1.map V.str))∧C u.2.2.1=none:=fun u hu=>by obtain⟨g1,R,_,_,g5⟩:=bD u hu;exact⟨by rw[Zc (u0 g1 fun _ z=>by cases z)];exact g1,by rw[Zc (u0 R fun _ z=>by cases z)];exact R,uZ _ g5⟩
 generalize upd m j (.dK (kvR Lo))=G at k4 yF hW ⊢;have s4:ZG C G:=k4;have cB:(g.map fun u=>u.2.1)=Lo.map (·.1):=by have:=congrArg (List.map Prod.fst) D;rw[Qg,Qg]at this;exact this
 refine⟨B,g.map fun u=>(u.1,(Sum.inl u.2.1:Key),V.ref u.2.2.1),rfl,(by rw[Qg];exact SqL.of yF),(fun t X=>by obtain⟨u,hu,rfl⟩:=Ql.mp X;exact(hW u hu).1),(by rw[Qa];lia),fun v oY=>?_⟩;have eK:Xm [] ((g.map fun u=>(u.1,(Sum.inl u.2.1:Key),V.ref u.2.2.1)).map (·.2))=kvR (g.map (·.2)):=by
  rw[Rl _ _ ?_,List.nil_append]
  ·unfold kvR;rw[Qg,Qg];rfl
  ·rw[List.nil_append,Qg,Qg];have:=Sk L.nd;rw[← cB,Qg]at this;exact this
 rw[eK];have s5:=Zh oY (.dK (kvR (g.map (·.2))));have e5:(upd G v (.dK (kvR (g.map (·.2))))) v=some (.dK (kvR (g.map (·.2)))):=Zd;generalize upd G v (.dK (kvR (g.map (·.2))))=H5 at s5 e5 ⊢;have yG:=s4.trans s5;refine⟨_,rfl,l,_,rfl,YN.k (k:=.inr "rows") (yG _ _ e1) (Zy (by show 5≤1000;decide)),?_⟩;rw[ZmM];have n2:∀ {b:Addr} {u:HO},H b=some u→b≠l:=fun h=>Zb h bR;have k6:∀b u,H5 b=some u→b≠l→(upd H5 l (.dK (Z3 v y nb r lo))) b=some u:=fun b u a n=>by rw[Zc n];exact a
 have e6:(upd H5 l (.dK (Z3 v y nb r lo))) l=some (.dK (Z3 v y nb r lo)):=Zd;have qm:v≠l:=(Zb (s4 _ _ e1) oY).symm;generalize upd H5 l (.dK (Z3 v y nb r lo))=H6 at k6 e6 ⊢;have s6:ZG H H6:=fun b u a=>k6 b u (yG _ _ (Z b u a)) (n2 a);have gU:=L.same s6;refine⟨_,rfl,o,_,rfl,ZP.k' (k:=.inr "gone") gU.at' (Wr ..),y,_,rfl,gU.gone,fun J Y=>?_⟩;have s7:=Zh Y (.dK (kvG Lo));have e7:(upd H6 J (.dK (kvG Lo))) J=some (.dK (kvG Lo)):=Zd;generalize upd H6 J (.dK (kvG Lo))=H7 at s7 e7 ⊢;refine⟨_,rfl,l,_,rfl,YN.k (k:=.inr "gone") (s7 _ _ e6) (Zy (by show 5≤1000;decide)),?_⟩;rw[Zma];have pW:J≠l:=(Zb e6 Y).symm;have k8:∀b u,H7 b=some u→b≠l→(upd H7 l (.dK (Z3 v J nb r lo))) b=some u:=fun b u a n=>by rw[Zc n];exact a
 have k38:∀b u,H5 b=some u→b≠l→(upd H7 l (.dK (Z3 v J nb r lo))) b=some u:=fun b u a n=>k8 b u (s7 _ _ (k6 b u a n)) n;have s8:ZG H (upd H7 l (.dK (Z3 v J nb r lo))):=fun b u a=>k8 b u (s7 _ _ (s6 b u a)) (n2 a);have gH:∀u∈g,(u.2.1,u.2.2.2)∈Lo.map fun e=>(e.1,e.2.2):=fun u hu=>by rw[← D];exact Qd (f:=fun u:Addr×ZB=>(u.2.1,u.2.2.2)) hu
 have eG:kvG (g.map (·.2))=kvG Lo:=by have:=congrArg (List.map fun x:Int×List Str×Nat=>((Sum.inl x.1:Key),V.int (x.2.2:Int))) D;rw[Qg,Qg]at this;unfold kvG;rw[Qg];exact this
 have C0:∀u∈g,u.2.2.1≠l:=fun u hu z=>by have:=(hW u hu).2.2;rw[z,e1]at this;cases this
 refine⟨_,rfl,q l v J (g.map (·.2)) _ ⟨Zd,k38 _ _ e5 qm,by rw[eG];exact k8 _ _ e7 pW,?_,by rw[Qa];lia,fun e I=>?_⟩ (fun z=>by rw[z]at Y;rw[k6 _ _ e5 qm]at Y;cases Y) ?_ (fun b a=>?_) s8⟩
 ·rw[Qg,show g.map ((fun x:ZB=>x.1) ∘ fun x:Addr×ZB=>x.2)=g.map fun u=>u.2.1 from rfl,cB];exact L.nd
 ·obtain⟨u,hu,rfl⟩:=Ql.mp I;obtain⟨e',aE,z⟩:=Ql.mp (gH u hu);obtain⟨g1,R,g3,g4⟩:=L.lst e' aE;injection z with z1 z2;rw[z2]at R g3 g4;exact⟨k38 _ _ (s5 _ _ (hW u hu).2.1) (C0 u hu),R,g3,g4⟩
 ·unfold pur;rw[Qg];exact D
 ·rcases a with z|z|z|⟨e,I,z⟩
  ·rw[z];exact bR
  ·rw[z];exact Z.free (s4.free oY)
  ·rw[z];exact s6.free Y
  ·obtain⟨u,hu,rfl⟩:=Ql.mp I;rw[z];exact Z.free (hW u hu).2.2
def Fw(u:MS×OS)(b:Addr):Prop:=MFp u.1 b∨Z4 u.2 b
structure Ws (cR cM:Addr) (HB:Hp) (p:Addr) (H:Hp) (sl:Addr) (ts:List Addr) (ws:List (MS×OS)):Prop where
 each:∀u∈ws,Wk cR cM HB p H u.1 u.2
 sep:∀ (i j:Nat) (u v:MS×OS),ws[i]? = some u→ws[j]? = some v→i≠j→∀b,Fw u b→¬ Fw v b
 at':H sl=some (.lst (ts.map V.ref))
 len:ts.length=ws.length
 tup:∀ (i:Nat) (t:Addr) (u:MS×OS),ts[i]? = some t→ws[i]? = some u→H t=some (.tup [.ref u.1.m,.ref u.2.o])
 offl:∀u∈ws,¬ Fw u sl
 hB:HB sl=none
 np:sl≠p
 hp:∃o,HB p=some o
 but:But p HB H
section
variable {cR cM:Addr} {HB:Hp} {p:Addr} {H H':Hp} {X X':MS} {Y Y':OS} {sl:Addr} {ts:List Addr} {ws:List (MS×OS)}
theorem Wk.live(W:Wk cR cM HB p H X Y){b:Addr}(hb:Fw (X,Y) b):∃o,H b=some o∧∀xs,o≠.tup xs:=by
 rcases hb with z|z
 ·cases e:H b with
  | none=>exact absurd z (W.pr.mg.M.fp_fresh e)
  | some o=>exact⟨o,rfl,fun xs y=>by rw[y]at e;exact W.pr.mg.M.fp_tup e z⟩
 ·exact W.pr.ow.live z
theorem Wk.keep2(W:Wk cR cM HB p H X Y)(k:∀b u,H b=some u→Fw (X,Y) b∨(∃xs,u=.tup xs)→H' b=some u)(B:But p HB H'):Wk cR cM HB p H' X Y :=
 ⟨⟨W.pr.mg.keep fun b o a c=>k b o a (c.imp .inl id),W.pr.ow.keep fun b u a d=>k b u a (.inl (.inr d)),W.pr.ag,W.pr.sep⟩,W.nga,W.nb,W.inv,W.fM,W.fO,B⟩
theorem Ws.step(S:Ws cR cM HB p H sl ts ws){j:Nat}{u u':MS×OS}(g:ws[j]? = some u)(r:Wk cR cM HB p H' u'.1 u'.2)(f:∀b,Fw u' b→Fw u b∨H b=none)(kk:∀b o,H b=some o→¬ MFp u.1 b→¬ Z4 u.2 b→H' b=some o)(E:u'.1.m=u.1.m)(F:u'.2.o=u.2.o):Ws cR cM HB p H' sl ts (ws.set j u'):=by
 have q:j<ws.length:=(Qe.mp g).1;have s:=Qo g;have W:=S.each u s;have k2:∀b o,H b=some o→¬ Fw u b→H' b=some o:=fun b o c n=>kk b o c (fun z=>n (.inl z)) (fun z=>n (.inr z));have w:∀b h,H b=some (.tup h)→H' b=some (.tup h):=fun b h c=>k2 b _ c fun z=>by obtain⟨o,l,n⟩:=W.live z;rw[c]at l;cases l;exact n _ rfl
 have B:∀ (k:Nat) (v:MS×OS),ws[k]? = some v→k≠j→∀b,Fw u' b→¬ Fw v b:=fun k v a n b c C=>by
  rcases f b c with z|z
  ·exact S.sep j k u v g a n.symm b z C
  ·obtain⟨o,l,_⟩:=(S.each v (Qo a)).live C;rw[z]at l;cases l
 refine⟨fun v a=>?_,fun i k v x a d n b c A=>?_,k2 _ _ S.at' (S.offl u s),by rw[QaA];exact S.len,fun i t v D a=>?_,fun v a=>?_,S.hB,S.np,S.hp,r.but⟩
 ·obtain⟨k,G,e⟩:=List.getElem_of_mem a;have m:(ws.set j u')[k]? = some v:=by rw[Qb G,e]
  by_cases z:k=j
  ·subst z;rw[QU q]at m;cases m;exact r
  ·rw[Qab (Ne.symm z)]at m;exact(S.each v (Qo m)).keep2 (fun b o c I=>by
    rcases I with y|⟨h,rfl⟩
    ·exact k2 b o c fun J=>S.sep j k u v g m (Ne.symm z) b J y
    ·exact w b h c) r.but
 ·by_cases z:i=j
  ·subst z;rw[QU q]at a;cases a;rw[Qab n]at d;exact B k x d n.symm b c A
  ·rw[Qab (Ne.symm z)]at a;by_cases y:k=j
   ·subst y;rw[QU q]at d;cases d;exact B i v a z b A c
   ·rw[Qab (Ne.symm y)]at d;exact S.sep i k v x a d n b c A
 ·by_cases z:i=j
  ·subst z;rw[QU q]at a;cases a;rw[E,F];exact w _ _ (S.tup i t u D g)
  ·rw[Qab (Ne.symm z)]at a;exact w _ _ (S.tup i t v D a)
 ·rcases QaN a with a|rfl
  ·exact S.offl v a
  ·intro z;rcases f sl z with y|y
   ·exact S.offl u s y
   ·rw[S.at']at y;cases y
theorem Ws.same(S:Ws cR cM HB p H sl ts ws)(s:ZG H H'):Ws cR cM HB p H' sl ts ws:=⟨fun u hu=>(S.each u hu).same s,S.sep,s _ _ S.at',S.len,fun i t u a hu=>s _ _ (S.tup i t u a hu),S.offl,S.hB,S.np,S.hp,S.but.trans (But.same s)⟩
theorem Ws.draw(S:Ws cR cM HB p H sl ts ws){c:Int}(L:Y8 H p c)(B:But p H H'):Ws cR cM HB p H' sl ts ws:=by refine⟨fun u a=>(S.each u a).draw S.hp L B,S.sep,B _ _ S.at' S.np,S.len,fun i t u b a=>B _ _ (S.tup i t u b a) fun z=>?_,S.offl,S.hB,S.np,S.hp,S.but.trans B⟩;have:=S.tup i t u b a;obtain⟨g1,g2,d,_⟩:=L;rw[z,d]at this;cases this
theorem Ws.at2(S:Ws cR cM HB p H sl ts ws){j:Nat}(a:j<ws.length):∃t u,ts[j]? = some t∧ws[j]? = some u∧u∈ws:=⟨_,_,Qb (by rw[S.len];exact a),Qb a,QX _⟩
theorem Ws.more(S:Ws cR cM HB p H sl ts ws)(s:ZG H H'){u:MS×OS}(W:Wk cR cM HB p H' u.1 u.2)(l:∀b,Fw u b→H b=none){t:Addr}(F:H' t=some (.tup [.ref u.1.m,.ref u.2.o]))(G:t≠sl) :
  Ws cR cM HB p (upd H' sl (.lst ((ts++[t]).map V.ref))) sl (ts++[t]) (ws++[u]):=by
 have d:=S.same s;have m:¬ Fw u sl:=fun z=>by have:=l sl z;rw[S.at']at this;cases this
 have e:∀b o,H' b=some o→b≠sl→(upd H' sl (.lst ((ts++[t]).map V.ref))) b=some o:=fun b o a n=>by rw[Zc n];exact a
 have q:But p HB (upd H' sl (.lst ((ts++[t]).map V.ref))):=fun b o a n=>e b o (d.but b o a n) (Zb a S.hB);have r:∀ {b:Addr} {w:List V},H' b=some (.tup w)→b≠sl:=fun h z=>by rw[z,d.at']at h;cases h
 have A:∀v:MS×OS,Wk cR cM HB p H' v.1 v.2→¬ Fw v sl→Wk cR cM HB p (upd H' sl (.lst ((ts++[t]).map V.ref))) v.1 v.2:=fun v I n=>I.keep2 (fun b o a J=>e b o a fun z=>by
  rcases J with y|⟨w,rfl⟩
  ·rw[z]at y;exact n y
  ·exact r a z) q
 have B:∀ (i:Nat) (v:MS×OS),ws[i]? = some v→∀b,Fw u b→¬ Fw v b:=fun i v hv b a c=>by obtain⟨o,C,_⟩:=(S.each v (Qo hv)).live c;rw[l b a]at C;cases C
 have g:∀ {i:Nat} {v:MS×OS},(ws++[u])[i]? = some v→ws[i]? = some v∨(i=ws.length∧v=u):=fun {i v} hv=>by
  rcases Nat.lt_or_ge i ws.length with h|h
  ·rw[QJ h]at hv;exact .inl hv
  ·rw[QK h]at hv;have:i-ws.length=0:=by have:=(Qe.mp hv).1;simp at this;lia
   rw[this]at hv;exact .inr ⟨by lia,(Qr hv).symm⟩
 refine⟨fun v hv=>?_,fun i j v x hv K n b a c=>?_,Zd,by rw[Qi,Qi,S.len];rfl,fun i L v f hv=>?_,fun v hv=>?_,S.hB,S.np,S.hp,q⟩
 ·rcases Qn.mp hv with hv|hv
  ·exact A v (d.each v hv) (S.offl v hv)
  ·rw[Qk.mp hv];exact A u W m
 ·rcases g hv with D|⟨k,z1⟩<;>rcases g K with E|⟨M,z2⟩
  ·exact S.sep i j v x D E n b a c
  ·rw[z2]at c;exact B i v D b c a
  ·rw[z1]at a;exact B j x E b a c
  ·exact n (k.trans M.symm)
 ·rcases g hv with hv|⟨k,rfl⟩
  ·have N:=(Qe.mp hv).1;rw[QJ (by rw[S.len];exact N)]at f;have:=d.tup i L v f hv;exact e _ _ this (r this)
  ·rw[QK (by rw[S.len];lia),k,S.len,QaM]at f;cases f;exact e _ _ F G
 ·rcases Qn.mp hv with hv|hv
  ·exact S.offl v hv
  ·rw[Qk.mp hv];exact m
end
theorem Zpf{s t:Addr}{g k d l:Hp}{p o ra ga m rd sd:Addr}{a:List (Addr×List Str)}{Lo:List ZB}{L:List Zx}{st:StL}{n:Option Int}{k0 q k2 v:Int}
  (G:∀x∈a,x.2.length≤60) (H:a.length≤12) (hm:g m=none) (w:ZG g k) (h:ZQ s t d m rd sd L st (a.length:Int) k2 v (Y4 n)) (i:Se L a) (I:Win (hdM L) (Zv L) n) (J:XY (hdM L) st 8 (Zv L)) (K:YW (hdM L) 8 (Zv L) k2 v)
  (M:∀b,Fp m rd sd L b→b=m∨k b=none) (k8:∀b u,k b=some u→b≠m→d b=some u) (N:d o=none) (O:d ra=none) (P:d ga=none) (nga:ga≠ra) (Q:∀e∈Lo,d e.2.1=none∧e.2.1≠o)
  (R:Sh Lo a) (ow:Own l o ra ga Lo (a.length:Int) k0 q) (S:YW (hdL Lo) 8 (Lo.map (·.1)) k0 q) (A:ZG d l):∃ (X:MS) (Y:OS),Wk s t g p l X Y∧X.m=m∧Y.o=o∧X.nb=(a.length:Int):=by
 have B:ZG g d:=fun b o c=>k8 b o (w b o c) (Zb c hm);have r:Agr Lo L:=Zpy R i rfl;obtain⟨T,U⟩:=S.one (by rw[TB r,Xi r];exact K);subst T;subst U;have V:=UM 8 (hdM L) st (Zv L) h.up (QB (show (Zv L).length≤60 by unfold Zv;rw[Qa];exact h.few) #[6]) #[6] J;have W:L.length=a.length:=by have:=congrArg List.length i.1;unfold Zv at this;rw[Qa,Tj]at this;exact this
 have C:∀b,Z4 ⟨o,ra,ga,Lo,(a.length:Int)⟩ b→d b=none:=fun b c=>by
  rcases c with z|z|z|⟨Z,aE,z⟩
  ·rw[z];exact N
  ·rw[z];exact O
  ·rw[z];exact P
  ·rw[z];exact(Q Z aE).1
 refine⟨⟨m,rd,sd,L,st,(a.length:Int),k0,q,n⟩,⟨o,ra,ga,Lo,(a.length:Int)⟩,⟨⟨⟨h.same A,I,V⟩,ow,r,fun b c bR=>?_⟩,nga,rfl,⟨?_,fun x hx=>?_⟩,fun b c=>?_,fun b c=>B.free (C b c),But.same (B.trans A)⟩,rfl,rfl,rfl⟩
 ·obtain⟨u,D,_⟩:=h.fp_live c;rw[C b bR]at D;cases D
 ·show (ZU L).length≤12;unfold ZU;rw[Qa,W];exact H
 ·obtain⟨e,E,rfl⟩:=Ql.mp hx;refine⟨?_,?_⟩
  ·have F:e.n∈XN 0 a.length:=by rw[← i.1];exact Qd (f:=fun e:Zx=>e.n) E
   unfold XN at F;obtain⟨j,hj,ej⟩:=Ql.mp F;have:=Q9.mp hj;show e.n<(a.length:Int);lia
  ·have h2:(e.ss,e.g)∈a.map fun x=>(x.2,0):=by rw[← i.2];exact Qd (f:=fun e:Zx=>(e.ss,e.g)) E
   obtain⟨y,hy,z⟩:=Ql.mp h2;injection z with z _;show e.ss.length≤60;rw[← z];exact G y hy
 ·rcases M b c with z|z
  ·rw[z];exact hm
  ·exact w.free z
theorem ZpW{n q:Addr}{f H g r:Hp}{p h s t i j k:Addr}{a:List Zx}{d:List ZB}{X:MS}{Y:OS}(W:Wk n q f p H X Y)(hp:∃o,H p=some o)(M1:ZQ n q g h s t a X.s X.nb X.li X.lo (Y4 X.w))(l:ZU a=ZU X.L)(fM:∀b,Fp h s t a b→H b=none)(v:ZG H g)
  (E:Own r i j k d Y.nb X.li X.lo) (nga:k≠j) (F:pur d=pur Y.Lo) (fO:∀b,Z4 ⟨i,j,k,d,Y.nb⟩ b→g b=none) (y:ZG g r):∃ (m:MS) (w:OS),Wk n q f p r m w∧m.m=h∧w.o=i∧m.nb=X.nb∧∀b,Fw (m,w) b→H b=none:=by
 have A:hdM a=hdM X.L:=by rw[UK,UK,l]
 have B:Zv a=Zv X.L:=by have:=congrArg (List.map Prod.fst) l;unfold ZU at this;rw[Qg,Qg]at this;exact this
 have C:∀b,H b=none→f b=none:=fun b c=>by
  cases e:f b with
  | none=>rfl
  | some u =>
   by_cases z:b=p
   ·obtain⟨u',x⟩:=hp;rw[z,x]at c;cases c
   ·rw[W.but b u e z]at c;cases c
 refine⟨⟨h,s,t,a,X.s,X.nb,X.li,X.lo,X.w⟩,⟨i,j,k,d,Y.nb⟩,⟨⟨⟨M1.same y,by show Win (hdM a) (Zv a) X.w;rw[A,B];exact W.pr.mg.W,by show ZV (hdM a) X.s (Zv a);rw[A,B];exact W.pr.mg.ok⟩,E,?_,fun b c G=>?_⟩,nga,W.nb,by show WZ (ZU a) X.nb;rw[l];exact W.inv,fun b c=>C b (fM b c),fun b c=>C b (v.free (fO b c)),W.but.trans (But.same (v.trans y))⟩,rfl,rfl,rfl,fun b c=>?_⟩
 ·show pur d=ZU a;rw[F,l];exact Vo W.pr.ag
 ·obtain⟨u,D,_⟩:=M1.fp_live c;rw[fO b G]at D;cases D
 ·rcases c with z|z
  ·exact fM b z
  ·exact v.free (fO b z)
theorem ZqR{d e:Addr}{b H':Hp}{p sl t:Addr}{X:MS}{Y:OS}(W:Wk d e b p H' X Y)(hp:∃o,b p=some o)(h:H' t=some (.tup [.ref X.m,.ref Y.o]))(f:H' sl=none)(hB:b sl=none)(np:sl≠p):Ws d e b p (upd H' sl (.lst ([t].map V.ref))) sl [t] [(X,Y)]:=by
 have s:=Zh f (.lst ([t].map V.ref));have k:¬ Fw (X,Y) sl:=fun z=>by obtain⟨o,g,_⟩:=W.live z;rw[f]at g;cases g
 refine⟨fun u a=>by rw[Qk.mp a];exact W.same s,fun i j u v a l n=>?_,Zd,rfl,fun i t' u m a=>?_,fun u a=>by rw[Qk.mp a];exact k,hB,np,hp,W.but.trans (But.same s)⟩
 ·have c:=(Qe.mp a).1;have q:=(Qe.mp l).1;simp at c q;lia
 ·have c:=(Qe.mp a).1;simp at c;subst c;cases m;cases a;exact s _ _ h
theorem Wk.take2{h i:Addr}{l:Hp}{p:Addr}{H:Hp}{X:MS}{Y:OS}{f c:Hp}(W:Wk h i l p H X Y)(hp:∃u,H p=some u){x y:V}{a:List Zx}{s':StL}{m:Option Int}{k q k' r:Int}{s:List ZB}(hR:UL X.L X.w x a k q f)
  (M1:ZQ h i f X.m X.rd X.sd a s' X.nb (X.li+k) (X.lo+q) (Y4 m)) (A:Win (hdM a) (Zv a) m) (B:ZV (hdM a) s' (Zv a)) (k1:∀b o,H b=some o→¬ MFp X b→f b=some o)
  (C:UI Y.Lo y s k' r c) (D:Own c Y.o Y.ra Y.ga s Y.nb (X.li+k') (X.lo+r)) (k2:∀b u,f b=some u→b≠Y.o→b≠Y.ga→c b=some u) :
  ∃ (g:MS) (j:OS),Wk h i l p c g j∧g.m=X.m∧j.o=Y.o∧g.nb=X.nb∧IsD c 4 x y∧(∀b,MFp g b→MFp X b)∧(∀b,Z4 j b→Z4 Y b)∧(∀b u,H b=some u→¬ MFp X b→¬ Z4 Y b→c b=some u):=by
 obtain⟨ek,eq,E,F,t,v,G⟩:=Zmf W.pr hR M1 A B k1 C D k2 2;have kk:∀b u,H b=some u→¬ MFp X b→¬ Z4 Y b→c b=some u:=fun b u d n w=>k2 b u (k1 b u d n) (fun z=>w (.inl z)) (fun z=>w (.inr (.inr (.inl z))));refine⟨_,_,W.to hp E W.nga W.nb ?_ (fun b d=>.inl ((t b).mp d)) (fun b d=>.inl (v b d)) kk,rfl,rfl,rfl,F,fun b d=>(t b).mp d,v,kk⟩;rcases G with⟨_,e,_⟩|⟨u,z,_,I⟩
 ·rw[show a=X.L from e];exact W.inv
 ·show WZ (ZU a) X.nb;rw[I];exact Zoj W.inv _
theorem ZkV(rd:Addr)(nb li lo:Int)(sd:Addr)(a:V):(mgF rd nb li lo sd a).lookup ("twin" : Str)=none:=Yh _ _ _ _ _ _ #[1] #[1] #[1] #[1] #[1] #[1]
theorem Zsd{A B:Prop}(h:B):if (!true)=true then A else B:=YZ h
def RW(K:#[7]):Sp:=fun vs H Q _=>∃ (a:Addr) (ns:List Int),vs=[.ref a]∧SqL K H a (ns.map V.int)∧ns.length≤63∧∀H',Q (.bl true) H'
theorem ZrA{f:Addr}{fd:FuncData}(F:Fun K "law" "law" Wy f fd)(T:Z9 K mg ab U):X2 P w K mg base CX0 18 f fd ["_law_script"] (RW K):=by
 have fH:Df P w K mg base 1 "_law_mix" ["_law_cell", "_law_k"] Pk:=ZrB T;have mz:Df P w K mg base 1 "_law_left" ["_law_script", "_law_k"] (LH K):=Zpt T;have af:Df P w K mg base 2 "_law_pick" ["_law_left_here", "_law_many_here"] V9:=ZpZ T fH;have dD:Df P w K mg base 3 "_law_stems" ["_law_left_here"] Pd:=Zov T af;have gN:Df P w K mg base 3 "_law_key" ["_law_left_here", "_law_stems_here"] Pc:=Zra T af;have fZ:Df P w K mg base 4 "_law_keys" ["_law_left_here", "_law_stems_here", "_law_most"] Pb:=ZpG T af gN;have gc:Df P w K mg base 3 "_law_many" ["_law_left_here"] O5:=Zpw T af;have cu:Df P w K mg base 5 "_law_row" ["_law_left_here", "_law_stems_here", "_law_most"] Sg:=Zqd T fZ;have mB:Df P w K mg base 6 "_law_rows" ["_law_left_here"] KN:=ZnH T af dD gc cu;have aH:Df P w K mg base 5 "_law_same" ["_law_found", "_law_due"] (SG 4):=Ls T 4;have ba:Df P w K mg base 1 "alike_from" ["one", "other", "far"] SH:=ZhL T;have cX:Df P w K mg base 2 "alike" ["one", "other"] V8:=Zm1 T ba;have bx:Df P w K mg base 1 "order_at" ["one", "other", "at"] SD:=Znl T;have gQ:Df P w K mg base 3 "liken" ["one", "other"] O8:=ZoC T cX bx;have cN:Df P w K mg base 2 "liken_from" ["one", "other", "far"] O7:=ZhJ T ba bx;have cx:Df P w K mg base 4 "first_break" ["keys"] (O6 K):=ZnJ T gQ;have au:Df P w K mg base 5 "refuse_break" ["number", "keys"] (TM K):=Zmd T cx;have cm:Df P w K mg base 3 "alikes" ["row"] (SF K):=Zmc T cX;have bS:Df P w K mg base 1 "halves" ["numbers"] (V6 K true):=ZmG T;have aF:=Zpv T (P:=P) (w:=w) (base:=base);have al:=Zp6 T aF;have aR:=Zk4 T cm;have aU:=ZoY T al cN;have bb:=KA T al bS aU 8;have aj:=Zjv T bb;have bV:=ZhO T au aR aj;have aP:=Zmj T al;have cP:=Znf T aF;have cy:=ZmO T al;have aZ:=Zjg T (P:=P) (w:=w) (base:=base);have bH:=ZnN T (P:=P) (w:=w) (base:=base);have aY:Df P w K mg base 1 "_law_alike" ["_law_one", "_law_other"] V8:=Zk3 T;have bd:Df P w K mg base 1 "_law_halves" ["_law_numbers"] (V6 K false):=Zkr T;have aB:=ZmF T (P:=P) (w:=w) (base:=base);have aC:=ZlZ T (P:=P) (w:=w) (base:=base);have aO:=K2 T bd aB aY 8;have bz:=Znd T aC aO;have bA:=Zk1 T aC aB;have ck:=ZoI T (P:=P) (w:=w) (base:=base);have lf:=ZmH T bz;have gu:=Zmb T aC aH bA ck aZ bH aP cP cy;have gj:Df P w K mg base 2 "way_up" ["numbers", "n"] Og:=ZqN T bS;have cQ:=Zlf T gj;have br:=Zn5 T aU;have bI:=ZoQ T al cQ br;have bu:=Zpn T aP bI;have fL:=ZrD T bu;have bU:=ZkJ T au aR aj;have aQ:=Zmo T (P:=P) (w:=w) (base:=base);have bJ:=Zjq T aF aQ aj;have cc:=ZjX T cm;have cS:=Zo7 T aQ au al cc aj;have g9:=Zp5 T bd;have fe:=Zmz T bA aC g9 aB aY;have gp:=Zm9 T aH bz bU bJ cS;have mC:=Zo0 T af cu;have jl:=ZkF T (P:=P) (w:=w) (base:=base);have cT:=Zl9 T aR;have ir:=Zpo T bV cT;refine F.ok XJ (fun vs H Q E h=>?_) (fun ai A outer s H vs Q E J h=>?_)
 ·obtain⟨a,ns,rfl,_⟩:=h;rfl
 obtain⟨a,sc,rfl,hS,tP,q⟩:=h;refine⟨_,#[Zf,#[X4,PassesOwn.never,#[Xe,T.b.n_range,#[Za,#[Zj],#[Ze]]],#[ZE,1,XJ.nd,#[3]],#[Zf,#[ZD,2,XJ.nd,#[3],#[Zz,mz,J,#[Za,‹0›,#[Za,‹1›,#[Ze]]],#[5]]],#[Zf,#[Wg,3,4,XJ.nd,#[Za,#[Zz,mB,J,#[Za,‹2›,#[Ze]],#[5]],#[Za,#[Zz,dD,J,#[Za,‹2›,#[Ze]],#[5]],#[Ze]]]],(@VG _ _ _ _ _ #[ZD,5,XJ.nd,#[3],#[YU,#[Za,#[YV,#[Za,#[VI,bV,J,#[Za,‹3›,#[Ze]]],#[Za,#[Zz,lf,J,#[Za,‹3›,#[Ze]],#[5]],#[Ze]]]],#[Ze]]]] #[Zf,#[X4,PassesOwn.never,#[Xe,T.b.n_range,#[Za,#[Zj],#[Ze]]],#[ZE,6,XJ.nd,#[3]],#[Zf,#[Z0,#[Zo,(ixL K),‹5›,#[WJ,VX,#[Zj]]],#[gT,K,2,#[Zu,#[ZE,7,XJ.nd,#[3]],#[Zu,#[ZE,8,XJ.nd,(Or.inr rfl)],(@Yy _)]]]],#[Zf,#[X4,PassesOwn.never,#[Xe,T.b.n_range,#[Za,#[Zz,af,J,#[Za,‹2›,#[Za,#[Zj],#[Ze]]],#[5]],#[Ze]]],#[ZE,9,XJ.nd,#[3]],#[Zi,#[ZW,#[Xg,#[X5,#[Zz,aH,J,#[Za,#[YT,bu,T.cl_Merge,J,‹7›],#[Za,#[Zz,fe,J,#[Za,#[pv,8,(Or.inr #[3])],#[Ze]],#[5]],#[Ze]]],#[5]]]],#[Zi,#[Zp,#[Xp]]],#[ZH]]]],(@VG _ _ _ _ _ #[ZW,(@PW.pt _ _ _ #[Yf,#[Zl,(neE J),#[Zo,(ixG J),#[pv,8,(Or.inr #[3])],#[Zw]],(@Uv _ _),(Zs _)],#[XT,#[Zl,YH,#[Zz,af,J,#[Za,‹2›,#[Za,#[Zj],#[Ze]]],#[5]],#[Zj],(Zs _)]]]),#[Zi,#[ZW,#[Xg,#[X5,#[Zz,gp,J,#[Za,‹7›,#[Za,#[pv,8,(Or.inr #[3])],#[Za,#[YV,#[Za,#[Zw],#[Za,#[Zk,Zta,#[5],T.b.n_max,boot_max,#[Za,#[Zo,(ixG J),#[pv,8,(Or.inr #[3])],#[Zw]],#[Ze]]],#[Za,#[YU,#[Ze]],#[Ze]]]]],#[Ze]]]],#[5]]]],#[Zi,#[Zp,#[Xp]]],#[ZH]]],#[ZH]] #[Zi,#[YL,#[Xy,QO,QS,QT,WE,‹5›,#[Za,#[YV,#[Za,#[YT,ir,T.cl_Merge,J,‹7›],#[Za,#[Zz,jl,J,#[Za,#[pv,8,(Or.inr #[3])],#[Ze]],#[5]],#[Ze]]]],#[Ze]]]]])]]],#[Zf,#[X4,PassesOwn.never,#[Xe,T.b.n_range,#[Za,#[Zj],#[Ze]]],#[ZE,6,XJ.nd,#[3]],#[Zf,#[Z0,#[Zo,(ixL K),‹5›,#[Zz,af,J,#[Za,‹2›,#[Za,#[Zj],#[Ze]]],#[5]]],#[gT,K,2,#[Zu,#[ZE,7,XJ.nd,#[3]],#[Zu,#[ZE,8,XJ.nd,(Or.inr rfl)],(@Yy _)]]]],(@VG _ _ _ _ _ #[ZW,#[Zl,We,#[Zz,af,J,#[Za,‹2›,#[Za,#[Zj],#[Ze]]],#[5]],#[Zj],(Zs _)],#[Zi,#[ZW,#[Xg,#[X5,#[Zz,aH,J,#[Za,#[YT,bu,T.cl_Merge,J,‹7›],#[Za,#[Zz,fe,J,#[Za,#[pv,8,(Or.inr #[3])],#[Ze]],#[5]],#[Ze]]],#[5]]]],#[Zi,#[Zp,#[Xp]]],#[ZH]]],#[Zi,#[ZW,#[Xg,#[X5,#[Zz,gp,J,#[Za,‹7›,#[Za,#[pv,8,(Or.inr #[3])],#[Za,#[Zz,mC,J,#[Za,‹2›,#[Za,#[pv,8,(Or.inr #[3])],#[Za,‹4›,#[Ze]]]],#[5]],#[Ze]]]],#[5]]]],#[Zi,#[Zp,#[Xp]]],#[ZH]]]] #[Zi,#[ZW,#[Xg,#[X5,#[Zk,(MY K),#[5],T.b.n_all,boot_all,#[Za,#[Xt,U0,#[iL,K,‹5›],(fun _ _ _ _=>#[gT,K,2,#[Zu,#[cg,11,U0],#[Zu,#[cg,12,U0],(@Yy _)]]]),(fun _ _ _ _=>(@Xn _)),(fun _ _ _ _=>#[Zz,gu,J,#[Za,#[cw,11,U0],#[Za,#[cw,12,U0],#[Ze]]],(Wb U0 rfl #[1])])],#[Ze]]]]],#[Zi,#[Zp,#[Xp]]],#[ZH]]])]],#[Zi,#[X4,PassesOwn.never,#[iL,K,‹5›],#[gT,K,2,#[Zu,#[ZE,7,XJ.nd,#[3]],#[Zu,#[ZE,8,XJ.nd,(Or.inr rfl)],(@Yy _)]]],(@VG _ _ _ _ _ #[ZW,(@PW.pt _ _ _ #[Yf,#[Zl,XS,#[Zk,Rm,#[5],T.b.n_len,Qz,#[Za,#[Zo,(ixG J),#[pv,8,(Or.inr #[3])],#[Zw]],#[Ze]]],#[Zj],(Zs _)],#[XT,#[Xg,#[X5,#[Zz,gp,J,#[Za,‹7›,#[Za,#[pv,8,(Or.inr #[3])],#[Za,#[YV,#[Za,#[Zw],#[Za,#[Zo,(ixG J),#[pv,8,(Or.inr #[3])],#[Zw]],#[Za,#[YU,#[Za,#[Zw],#[Ze]]],#[Ze]]]]],#[Ze]]]],#[5]]]]]]),#[Zi,#[Zp,#[Xp]]],#[ZH]] #[Zf,#[Uy,10,XJ.nd,SI,#[Xe,T.b.n_range,#[Za,#[Zz,ck,J,#[Za,#[pv,8,(Or.inr #[3])],#[Ze]],#[5]],#[Ze]]],(fun _ _ _ _=>#[cg,11,SI]),(fun _ _ _ _=>(@Xn _)),(fun _ _ _ _=>#[Zz,fe,J,#[Za,#[cv,8,SI],#[Ze]],(Wb SI rfl #[1])])],#[Zi,#[ZW,(@PW.pt _ _ _ #[Wh,#[Xg,#[X5,#[Zz,aH,J,#[Za,#[X1,fL,T.cl_Merge,J,‹7›,#[Za,#[ZJ,NR,#[Zj],#[Zj]],#[Ze]]],#[Za,‹10›,#[Ze]]],#[5]]]],(@Vn _ _ _ _ #[Xg,#[X5,#[Zz,gu,J,#[Za,‹7›,#[Za,#[pv,8,(Or.inr #[3])],#[Ze]]],#[5]]]])]),#[Zi,#[Zp,#[Xp]]],#[ZH]]]])]]]])]]],#[Zi,#[Zp,#[Xp]]]],?_⟩;have gX:2≤sizeLine:=by decide
 refine⟨_,rfl,by decide,by decide,?_⟩;refine Vj (fun i G H2=>∃v1 v2 v3 v4 v5 v6 v7 v8 v9 dP:Option V,G=[some (.ref a),v1,v2,v3,v4,v5,v6,v7,v8,v9,dP]∧ZG H H2) ⟨_,_,_,_,_,_,_,_,_,_,rfl,ZG.refl _⟩ ?_ ?_
 ·rintro ii G H2 hi ⟨v1,v2,v3,v4,v5,v6,v7,v8,v9,dP,rfl,s2⟩;have C2:(ii:Int)<65:=by lia
  refine⟨_,rfl,_,rfl,a,sc,_,rfl,s2.seq hS,tP,by lia,by lia,fun p H3 hp L3 s3=>?_⟩;have u7:H p=none:=s2.free hp;refine⟨_,rfl,p,0,rfl,L3,by decide,fun r rs c4 H4 ay cK o0 u4 L4 a1 a2 B4=>?_⟩;refine⟨_,rfl,p,c4,rfl,L4,by lia,fun l ss c5 HB ud hl h1 h4 qA LB b1 b2 BB=>?_⟩;have uR:r≠p:=by obtain⟨o,ho⟩:=L3.here;exact(Zb ho ay).symm
  have oP:l≠p:=by obtain⟨o,ho⟩:=L4.here;exact(Zb ho ud).symm
  have eC:∀x∈rs,sortedS x.2=true:=fun x hx=>(o0 x hx).2.2.2.1;have rV:Vv HB r rs:=⟨BB _ _ cK.at' uR,cK.few,fun x hx=>let ⟨g1,g2⟩:=cK.lst x hx;⟨BB _ _ g1 (o0 x hx).2.2.1,g2⟩⟩;have C3:ZG H HB:=fun b o g=>BB b o (B4 b o (s3 b o (s2 b o g)) (Zb g u7)) (Zb g u7);have iu:∃u,HB p=some u:=LB.here;have hc5:0≤c5∧c5≤20000:=by lia
  clear a1 a2 b1 b2 hi C2 tP;refine⟨_,_,rfl,?_⟩;refine⟨fun G Z=>∃ (N:Addr) (ts:List Addr) (ws:List (MS×OS)),G=[some (.ref a),some (.int (0+(ii:Int))),some (.ref p),some (.ref r),some (.ref l),some (.ref N),v6,v7,v8,v9,dP]∧Ws ab U HB p Z N ts ws∧ws.length=1∧(∀u∈ws,u.1.nb≤12)∧Y8 Z p c5,?_,?_⟩
  ·refine⟨_,rfl,fun m dx hm C4 nmd=>?_⟩;have s7:ZG HB (upd (upd HB dx (.own m)) m (.ins U dx [])):=fun b o g=>by rw[Zc (Zb g hm),Zc (Zb g C4)];exact g
   have n8:(upd (upd HB dx (.own m)) m (.ins U dx [])) m=some (.ins U dx []):=Zd;generalize upd (upd HB dx (.own m)) m (.ins U dx [])=H7 at s7 n8 ⊢;refine⟨m,dx,r,rs,rfl,n8,rV.same s7,eC,fun rd sd L st w0 k2 q2 H8 M8 gn W8 S8 P8 u5 k8=>⟨rfl,?_⟩⟩;have s8:ZG HB H8:=fun b o g=>k8 b o (s7 b o g) (Zb g hm);refine⟨_,rfl,r,rs,rfl,rV.same s8,fun o ra ga Lo k0 q0 Z ho kG jI nga dr lc ow bL s9=>⟨gX,fun t ht=>⟨(by show 1≤sizeLine;decide),fun N dO=>?_⟩⟩⟩;obtain⟨X,Y,W,rfl,rfl,enb⟩:∃ (X:MS) (Y:OS),Wk ab U HB p Z X Y∧X.m=m∧Y.o=o∧X.nb=(rs.length:Int):=Zpf (fun x hx=>(o0 x hx).2.2.2.2) u4 hm s7 M8 gn W8 S8 P8 u5 k8 ho kG jI nga dr lc ow bL s9;have st:=Zh ht (.tup [.ref X.m,.ref Y.o]);have et:(upd Z t (.tup [.ref X.m,.ref Y.o])) t=some (.tup [.ref X.m,.ref Y.o]):=Zd;have fN:=W.same st;generalize upd Z t (.tup [.ref X.m,.ref Y.o])=bg at st et fN dO ⊢;have iq:Y8 bg p c5:=LB.same ((s8.trans s9).trans st);have rW:HB N=none:=((s8.trans s9).trans st).free dO;have C5:N≠p:=fun z=>by obtain⟨o,ho⟩:=iu;rw[← z,rW]at ho;cases ho
   exact⟨N,[t],[(X,Y)],rfl,ZqR fN iu et dO rW C5,rfl,fun u hu=>by rw[Qk.mp hu];show X.nb≤12;lia,iq.new dO⟩
  ·rintro G Z ⟨N,ts,ws,rfl,S9,C6,oG,L9⟩;refine⟨_,rfl,by decide,by decide,?_⟩;refine Vj (fun i G H5=>∃ (ts:List Addr) (ws:List (MS×OS)) (c:Int) (v6 v7 v8 v9 dP:Option V),G=[some (.ref a),some (.int (0+(ii:Int))),some (.ref p),some (.ref r),some (.ref l),some (.ref N),v6,v7,v8,v9,dP]∧Ws ab U HB p H5 N ts ws∧ws.length=1+i∧(∀u∈ws,u.1.nb≤12)∧Y8 H5 p c∧c≤c5+10*i) ⟨ts,ws,c5,_,_,_,_,_,rfl,S9,C6,oG,L9,by lia⟩ ?_ ?_
   ·rintro i G H5 C7 ⟨ts,ws,c,u8,u9,vc,o5,hZ,rfl,S,gv,o6,L5,hc⟩;have c0:=L5.ge;obtain⟨t,u,o7,mD,hum⟩:=S.at2 (j:=i) #[2];have vd:atI (ts.map V.ref) (-1)=some (.ref t):=JH (by rw[Qa,S.len,gv,Qm,show 1+i-1=i by lia,o7];rfl) (by rw[Qa,S.len];lia);refine⟨_,rfl,_,rfl,N,_,_,_,rfl,rfl,SqL.of S.at',vd,t,_,rfl,SqT.of (S.tup i t u o7 mD),rfl,_,_,rfl,_,_,rfl,rfl,?_⟩;refine⟨_,rfl,p,c,6,rfl,L5,by lia,by decide,by decide,fun n O n0 n1 L6 B6=>⟨_,rfl,by lia,by lia,?_⟩⟩;have S6:=S.draw L5 B6;refine Vj (fun k G H7=>∃ (dG:List (MS×OS)) (u':MS×OS) (v9:Option V),G=[some (.ref a),some (.int (0+(ii:Int))),some (.ref p),some (.ref r),some (.ref l),some (.ref N),some (.int (0+(i:Int))),some (.ref u.1.m),some (.ref u.2.o),v9,hZ]∧Ws ab U HB p H7 N ts dG∧dG.length=1+i∧(∀u∈dG,u.1.nb≤12)∧dG[i]? = some u'∧u'.1.m=u.1.m∧u'.2.o=u.2.o∧Y8 H7 p (c+1)) ⟨ws,u,_,rfl,S6,gv,o6,mD,rfl,rfl,L6⟩ ?_ ?_
    ·rintro k G H7 hk ⟨dG,⟨X,Y⟩,v9,rfl,S7,h7,h8,lj,em,eo,L7⟩;have ve:u.1.m=X.m:=em.symm;have vf:u.2.o=Y.o:=eo.symm;rw[ve,vf];have aV:=Qo lj;have W:=S7.each _ aV;have I:=W.pr;have be:(Y.Lo.map (·.1)).Pairwise (·<·):=by rw[Xi I.ag];exact I.mg.M.up
     obtain⟨hJ,gs⟩:=I.mg.M.ob;refine⟨_,rfl,X.m,hJ,_,rfl,gs,Oc ..,X.m,X.rd,X.sd,X.L,X.s,X.nb,X.li,X.lo,X.w,rfl,I.mg.M,I.mg.W,I.mg.ok,fun x L' s' w' k3 q3 fE hR kU hU o8 k12=>?_⟩;have o9:Own fE Y.o Y.ra Y.ga Y.Lo Y.nb X.li X.lo:=I.ow.keep fun b u g bR=>k12 b u g fun z=>I.sep b z bR;refine⟨_,rfl,Y.o,Y.ra,Y.ga,Y.Lo,Y.nb,X.li,X.lo,rfl,o9,be,fun y aD k4 q4 uo hT pb k13=>?_⟩;obtain⟨C,B,vg,eM,eO,eN,jV,f1,f2,kk⟩:=W.take2 L7.here hR kU hU o8 k12 hT pb k13;have vh:=W.left iu L7 kk;have vi:=S7.step (u':=(C,B)) lj vg (fun b g=>.inl (g.imp (f1 b) (f2 b))) kk eM eO;refine⟨x,y,rfl,jV,fun C8 jO=>⟨_,rfl,YZ ?_⟩⟩;exact⟨_,(C,B),_,rfl,vi.same jO,by rw[QaA];exact h7,fun v hv=>(by
      rcases QaN hv with hv|rfl
      ·exact h8 v hv
      ·show C.nb≤12;rw[eN];exact h8 _ aV),QU #[2],eM,eO,vh.same jO⟩
    ·rintro G H7 ⟨dG,⟨X,Y⟩,v9,rfl,S7,h7,h8,lj,em,eo,L7⟩;have ve:u.1.m=X.m:=em.symm;have vf:u.2.o=Y.o:=eo.symm;rw[ve,vf];have aV:=Qo lj;have W:=S7.each _ aV;have I:=W.pr;refine⟨fun G H'=>∃ (dG:List (MS×OS)) (C:MS) (B:OS) (c':Int),G=[some (.ref a),some (.int (0+(ii:Int))),some (.ref p),some (.ref r),some (.ref l),some (.ref N),some (.int (0+(i:Int))),some (.ref C.m),some (.ref B.o),v9,hZ]∧Ws ab U HB p H' N ts dG∧dG.length=1+i∧(∀u∈dG,u.1.nb≤12)∧dG[i]? = some (C,B)∧Y8 H' p c'∧c'≤c+5,?_,?_⟩
     ·refine⟨_,rfl,Y.o,_,rfl,ZP.k' (k:=.inr "rows") I.ow.at' (X9 ..),fun e he=>?_⟩;have se:=Zh he (.dK []);have S8:=S7.same se;have yI:=I.ow.same se;have L8:=L7.same se;refine⟨Y.ra,e,_,rfl,rfl,yI.rows,Zd,_,rfl,?_⟩;have W8:=S8.each _ aV;refine Y3 (fun d=>?_) (fun d=>YZ ⟨dG,X,Y,c+1,rfl,S8,h7,h8,lj,L8,by lia⟩);generalize upd H7 e (.dK [])=H8 at se S8 yI L8 W8 ⊢;refine⟨_,rfl,p,c+1,3,rfl,L8,by lia,by decide,by decide,fun b Z b0 b1 L9 B9=>⟨rfl,_,rfl,Y3 (fun d2=>?_) (fun d2=>?_)⟩⟩
      rotate_left
      ·exact⟨dG,X,Y,c+1+1,rfl,S8.draw L8 B9,h7,h8,lj,L9,by lia⟩
      have S9:=S8.draw L8 B9;have W9:=S9.each _ aV;have aW:0<(Y.Lo.map (·.1)).length:=by
       cases C9:Y.Lo with
       | nil=>rw[C9]at d;cases d
       | cons x r=>simp
      refine⟨_,rfl,_,rfl,_,rfl,Y.o,_,rfl,ZP.k' (k:=.inr "rows") W9.pr.ow.at' (X9 ..),Y.ra,_,Y.Lo.map (·.1),rfl,W9.pr.ow.rows,Sl Y.Lo,aW,fun M hM DJ=>?_⟩;refine⟨(by show 0≤sizeLine;decide),fun nl cF=>⟨(by show 3≤sizeLine;decide),fun t' aI=>?_⟩⟩;have sn:=Zh cF (.lst []);have en:(upd Z nl (.lst [])) nl=some (.lst (([]:List Str).map V.str)):=Zd;generalize upd Z nl (.lst [])=bg at sn en aI ⊢;have bC:=Zh aI (.tup [.str "drop",.int M,.ref nl]);have jX:(upd bg t' (.tup [.str "drop",.int M,.ref nl])) t'=some (.tup [.str "drop",.int M,.ref nl]):=Zd;generalize upd bg t' (.tup [.str "drop",.int M,.ref nl])=fk at bC jX ⊢;have pc:=(S9.same sn).same bC;have pe:=(L9.same sn).same bC;have R:=pc.each _ aV;have nM:¬ MFp X nl:=W9.pr.mg.M.fp_fresh cF;have nO:¬ Z4 Y nl:=fun z=>by obtain⟨u,hu,_⟩:=W9.pr.ow.live z;rw[cF]at hu;cases hu
      have C':∃x∈ZU X.L,x.1=M:=by rw[← Vo I.ag];obtain⟨e',aE,z⟩:=Ql.mp hM;exact⟨_,Qd (f:=fun e:ZB=>(e.1,e.2.2)) aE,z⟩
      refine⟨X,Y,t',nl,.drop,M,[],rfl,R.pr,R.nga,R.nb,jX,bC _ _ en,nM,nO,(fun x hx=>by cases hx),#[6],C',fun C B fE jY eM eO gt nb' pf h9 fM fO kk=>⟨_,rfl,YZ ?_⟩⟩;have oW:WZ (ZU C.L) C.nb:=by rw[h9,pf];exact⟨QB (Q8 _ _) R.inv.1,fun x hx=>R.inv.2 x (Qaa.mp hx).1⟩
      have hU:=R.to pe.here jY gt nb' oW fM fO kk;have vj:=R.left iu pe kk;have je:=pc.step (u':=(C,B)) lj hU (fun b g=>by
       rcases g with z|z
       ·exact(fM b z).imp .inl id
       ·exact(fO b z).imp .inr id) kk eM eO
      rw[← eM,← eO];exact⟨_,C,B,c+1+1,rfl,je,by rw[QaA];exact h7,fun v hv=>(by
       rcases QaN hv with hv|rfl
       ·exact h8 v hv
       ·show C.nb≤12;rw[pf];exact h8 _ aV),QU #[2],vj,by lia⟩
     ·rintro G H8 ⟨dG,X,Y,c',rfl,S8,yJ,ph,kL,L8,iD⟩;have aV:=Qo kL;have W:=S8.each _ aV;have I:=W.pr;obtain⟨hJ,gs⟩:=I.mg.M.ob;refine⟨_,rfl,.inl ⟨rfl,_,SqL.of S8.at'⟩,?_⟩;refine⟨_,rfl,X.m,hJ,_,rfl,gs,ZkV ..,X.m,X.rd,X.sd,X.L,X.s,X.nb,X.li,X.lo,_,rfl,I.mg.M,(by have:=ph _ aV;show X.nb≤35;have:X.nb≤12:=this;lia),fun m' kZ az L' Z M9 eM fM s9=>?_⟩;refine⟨_,rfl,Y.o,Y.ra,Y.ga,Y.Lo,Y.nb,X.li,X.lo,rfl,I.ow.same s9,fun o' ce cU aD bg fK gt eO fO iO=>⟨gX,fun t' aI=>?_⟩⟩;obtain⟨C,B,fN,rfl,rfl,eN,hf⟩:=ZpW W L8.here M9 eM fM s9 fK gt eO fO iO;have bC:=Zh aI (.tup [.ref C.m,.ref B.o]);have jX:(upd bg t' (.tup [.ref C.m,.ref B.o])) t'=some (.tup [.ref C.m,.ref B.o]):=Zd;have R:=fN.same bC;have Db:t'≠N:=(Zb (iO _ _ (s9 _ _ S8.at')) aI).symm;generalize upd bg t' (.tup [.ref C.m,.ref B.o])=fk at bC jX R ⊢;have eJ:=(s9.trans iO).trans bC;have je:=S8.more eJ (u:=(C,B)) R hf jX Db;refine⟨N,_,_,rfl,rfl,eJ _ _ S8.at',Zy (by rw[Qa,S8.len];lia),?_⟩;rw[show ts.map V.ref++[V.ref t']=(ts++[t']).map V.ref by rw[Qf];rfl];exact⟨_,_,c',_,_,_,_,_,rfl,je,by rw[Qi,yJ];rfl,fun v hv=>(by
       rcases Qn.mp hv with hv|hv
       ·exact ph v hv
       ·rw[Qk.mp hv];show C.nb≤12;rw[eN];exact ph _ aV),(L8.same eJ).at S8.np.symm,by lia⟩
   ·rintro G H5 ⟨ts,ws,c,u8,u9,vc,o5,hZ,rfl,S,gv,o6,L5,hc⟩;have Dc:ws.length=3:=by lia
    clear o6;refine⟨_,rfl,by decide,by decide,?_⟩;refine Vj (fun i G H5=>∃ (ws:List (MS×OS)) (c:Int) (v6 v7 v8 v9 dP:Option V),G=[some (.ref a),some (.int (0+(ii:Int))),some (.ref p),some (.ref r),some (.ref l),some (.ref N),v6,v7,v8,v9,dP]∧Ws ab U HB p H5 N ts ws∧ws.length=3∧Y8 H5 p c∧c≤c5+100+710*i) ⟨ws,c,_,_,_,_,_,rfl,S,Dc,L5,by lia⟩ ?_ ?_
    ·rintro i G H5 C7 ⟨ws,c,u8,u9,vc,o5,hZ,rfl,S,gv,L5,hc⟩;have xa:i<12:=by lia
     have c0:=L5.ge;refine⟨_,rfl,_,rfl,p,c,3,rfl,L5,by lia,by decide,by decide,fun jj O j0 j1 L6 B6=>?_⟩;have S6:=S.draw L5 B6;obtain⟨j,rfl⟩:∃j:Nat,jj=(j:Int):=⟨jj.toNat,by lia⟩;obtain⟨t,⟨X,Y⟩,o7,mD,aV⟩:=S6.at2 (j:=j) #[2];refine⟨N,_,_,_,rfl,rfl,SqL.of S6.at',(Yx (by rw[Qm,o7];rfl)),t,_,rfl,SqT.of (S6.tup j t _ o7 mD),rfl,_,_,rfl,_,_,rfl,rfl,?_⟩;refine⟨fun G H'=>∃ (dG:List (MS×OS)) (c':Int),G=[some (.ref a),some (.int (0+(ii:Int))),some (.ref p),some (.ref r),some (.ref l),some (.ref N),some (.int (0+(i:Int))),some (.ref X.m),some (.ref Y.o),o5,hZ]∧Ws ab U HB p H' N ts dG∧dG.length=3∧Y8 H' p c'∧c'≤c+705,?_,?_⟩
     ·refine⟨_,rfl,p,c+1,3,rfl,L6,by lia,by decide,by decide,fun wy bg yk wy1 iq mx=>?_⟩;have vm:=S6.draw L6 mx;have fN:=vm.each _ aV;have I:=fN.pr;have be:(Y.Lo.map (·.1)).Pairwise (·<·):=by rw[Xi I.ag];exact I.mg.M.up
      refine⟨_,_,rfl,rfl,_,rfl,Y3 (fun d=>?_) (fun d=>?_)⟩
      ·obtain⟨hJ,gs⟩:=I.mg.M.ob;refine⟨_,rfl,X.m,hJ,_,rfl,gs,Oc ..,X.m,X.rd,X.sd,X.L,X.s,X.nb,X.li,X.lo,X.w,rfl,I.mg.M,I.mg.W,I.mg.ok,fun x L' s' w' k3 q3 fE hR kU hU o8 k12=>?_⟩;have o9:Own fE Y.o Y.ra Y.ga Y.Lo Y.nb X.li X.lo:=I.ow.keep fun b u g bR=>k12 b u g fun z=>I.sep b z bR;refine⟨_,rfl,Y.o,Y.ra,Y.ga,Y.Lo,Y.nb,X.li,X.lo,rfl,o9,be,fun y aD k4 q4 uo hT pb k13=>?_⟩;obtain⟨C,B,vg,eM,eO,eN,jV,f1,f2,kk⟩:=fN.take2 iq.here hR kU hU o8 k12 hT pb k13;have vh:=fN.left iu iq kk;have vi:=vm.step (u':=(C,B)) mD vg (fun b g=>.inl (g.imp (f1 b) (f2 b))) kk eM eO;refine⟨x,y,rfl,jV,fun C8 jO=>⟨_,rfl,YZ ?_⟩⟩;exact⟨_,c+1+1,rfl,vi.same jO,by rw[QaA];exact gv,vh.same jO,by lia⟩
      ·have Dd:∀e∈Y.Lo,e.2.1≠p∧sortedS e.2.2.1=true:=fun e he=>by
        refine⟨fun z=>(fN.np iu).2 (.inr (.inr (.inr ⟨e,he,z.symm⟩))),?_⟩;have:(e.1,e.2.2)∈ZU X.L:=by rw[← Vo I.ag];exact Qd (f:=fun e:ZB=>(e.1,e.2.2)) he
        obtain⟨e',aE,z⟩:=Ql.mp this;injection z with _ z;rw[← z];exact(I.mg.M.each e' aE).srt
       refine⟨_,rfl,_,rfl,_,rfl,_,rfl,_,rfl,p,Y.o,Y.ra,Y.ga,l,c+1+1,Y.Lo,Y.nb,X.li,X.lo,ss,rfl,iq,by lia,I.ow,fun z=>(fN.np iu).2 (.inl z.symm),fun z=>(fN.np iu).2 (.inr (.inl z.symm)),fun z=>(fN.np iu).2 (.inr (.inr (.inl z.symm))),Dd,be,fN.but _ _ hl oP,oP,h1,h4,qA,fun t' r' dd n ks c' fk tX rX yK yL jf eB vn pe e1 e2 De=>?_⟩;have pc:=vm.draw iq De;have R:=pc.each _ aV;have lL:RX (ZU X.L) X.nb n ks dd:=by rw[← Vo I.ag,fN.nb];exact vn
       have nM:¬ MFp X r':=I.mg.M.fp_fresh rX;have nO:¬ Z4 Y r':=fun z=>by obtain⟨u,hu,_⟩:=I.ow.live z;rw[rX]at hu;cases hu
       refine⟨X,Y,t',r',dd,n,ks,rfl,R.pr,R.nga,R.nb,yK,yL,nM,nO,fun x hx=>⟨by have:=(eB x hx).1;lia,(eB x hx).2⟩,by lia,Zn3 R.inv lL jf,fun C B fE jY eM eO gt nb' pf h9 fM fO kk=>⟨_,rfl,YZ ?_⟩⟩;have hU:=R.to pe.here jY gt nb' (by rw[h9,pf];exact Znp (JW R.pr.mg) R.inv lL jf) fM fO kk;have vj:=R.left iu pe kk;have je:=pc.step (u':=(C,B)) mD hU (fun b g=>by
        rcases g with z|z
        ·exact(fM b z).imp .inl id
        ·exact(fO b z).imp .inr id) kk eM eO
       exact⟨_,c',rfl,je,by rw[QaA];exact gv,vj,by lia⟩
     ·rintro G H7 ⟨dG,c',rfl,S7,h7,L7,iD⟩;refine⟨_,rfl,N,rfl,⟨_,SqL.of S7.at'⟩,fun D hD=>?_⟩;refine Zmm (K:=K) (a:=N) (xs:=ts.map V.ref) (fun k zs G H8=>(∃v1 v2:Option V,G=[some (.ref a),some (.int (0+(ii:Int))),some (.ref p),some (.ref r),some (.ref l),some (.ref N),some (.int (0+(i:Int))),some (.ref X.m),some (.ref Y.o),o5,hZ,v1,v2])∧zs=List.replicate k (.bl true)∧H8 D=some (.lst zs)∧ZG H7 H8) ⟨⟨none,none,rfl⟩,rfl,Zd,Zh hD _⟩ (fun _ _ _ _ h=>SqL.of (h.2.2.2 _ _ S7.at')) ?_ ?_
      ·rintro k y zs G H8 hy ⟨⟨v1,v2,rfl⟩,rfl,mv,s8⟩;rw[Qm]at hy;cases hz:ts[k]? with
       | none=>rw[hz]at hy;cases hy
       | some tk =>
       rw[hz]at hy;cases hy;have gC:k<3:=by have:=(Qe.mp hz).1;have:=S7.len;lia
       have S8:=S7.same s8;obtain⟨_,⟨Xk,Yk⟩,_,pi,nL⟩:=S8.at2 (j:=k) #[2];have qJ:=S8.each _ nL;refine⟨tk,_,rfl,SqT.of (S8.tup k tk _ hz pi),rfl,_,_,rfl,_,_,rfl,rfl,?_⟩;refine⟨_,rfl,_,rfl,Xk.m,Xk.rd,Xk.sd,Xk.L,Xk.s,Xk.nb,Xk.li,Xk.lo,Xk.w,Yk.o,Yk.ra,Yk.ga,Yk.Lo,Yk.nb,rfl,qJ.pr.mg.M,qJ.pr.mg.W,qJ.pr.ow,qJ.pr.ag,fun Z s9=>?_⟩;refine⟨s9 _ _ mv,(by rw[Qap];exact Zy #[2]),⟨_,_,rfl⟩,?_,Zd,fun b o g=>?_⟩
       ·rw[List.replicate_succ']
       ·rw[Zc (Zb g hD)];exact s9 _ _ (s8 b o g)
      rintro zs G H8 ⟨⟨v1,v2,rfl⟩,rfl,mv,s8⟩;refine⟨D,List.replicate (ts.map V.ref).length true,rfl,SqL.of (by rw[List.map_replicate];exact mv),?_⟩;have e:(List.replicate (ts.map V.ref).length true).all id=true:=by rw[Qau];intro b g;exact(QaR g)
      rw[e];exact⟨_,rfl,YZ ⟨dG,c',_,_,_,_,_,rfl,S7.same s8,h7,L7.same s8,by lia⟩⟩
    ·rintro G H5 ⟨ws,c,u8,u9,vc,o5,hZ,rfl,S,gv,L5,hc⟩;have bF:ts.length=3:=by rw[S.len];exact gv
     refine⟨_,rfl,N,rfl,⟨_,SqL.of S.at'⟩,?_⟩;have iC:∀ (k:Nat) {O:Hp},(∀b u,H5 b=some u→(∀i v,i<k→ws[i]? = some v→¬ Fw v b)→O b=some u)→∀b xs,H5 b=some (.tup xs)→O b=some (.tup xs):=fun k O h6 b xs g=>h6 b _ g fun i v _ hv z=>by obtain⟨o,ho,n⟩:=(S.each v (Qo hv)).live z;rw[g]at ho;cases ho;exact n _ rfl
     have Dg:∀ (k:Nat) {O:Hp},(∀b u,H5 b=some u→(∀i v,i<k→ws[i]? = some v→¬ Fw v b)→O b=some u)→O N=some (.lst (ts.map V.ref)):=fun k O h6=>h6 _ _ S.at' fun i v _ hv=>S.offl v (Qo hv);have kB:∀ (k:Nat) {O:Hp},(∀b u,H5 b=some u→(∀i v,i<k→ws[i]? = some v→¬ Fw v b)→O b=some u)→But p HB O:=fun k O h6 b u g n=>h6 b u (S.but b u g n) fun i v _ hv z=>by
      have W:=S.each v (Qo hv);rcases z with z|z
      ·rw[W.fM b z]at g;cases g
      ·rw[W.fO b z]at g;cases g
     refine UE (K:=K) (a:=N) (xs:=ts.map V.ref) (fun k G O=>∃ (v6 v7 v8 v9 dP:Option V),G=[some (.ref a),some (.int (0+(ii:Int))),some (.ref p),some (.ref r),some (.ref l),some (.ref N),v6,v7,v8,v9,dP]∧∀b u,H5 b=some u→(∀i v,i<k→ws[i]? = some v→¬ Fw v b)→O b=some u) ⟨_,_,_,_,_,rfl,fun b u h _=>h⟩ (fun k G O _ hq=>by obtain⟨_,_,_,_,_,_,h6⟩:=hq;exact SqL.of (Dg k h6)) ?_ ?_
     ·rintro k y G O hy ⟨v6,v7,v8,v9,dP,rfl,h6⟩;rw[Qm]at hy;cases hz:ts[k]? with
      | none=>rw[hz]at hy;cases hy
      | some tk =>
      rw[hz]at hy;cases hy;have gC:k<3:=by have:=(Qe.mp hz).1;lia
      obtain⟨_,⟨X,Y⟩,_,pi,nL⟩:=S.at2 (j:=k) #[2];have W:Wk ab U HB p O X Y:=(S.each _ nL).keep2 (fun b u g aM=>by
       rcases aM with z|⟨xs,rfl⟩
       ·exact h6 b u g fun i v hi hv z'=>S.sep i k v (X,Y) hv pi #[2] b z' z
       ·exact iC k h6 b xs g) (kB k h6)
      have nT:=iC k h6 _ _ (S.tup k tk _ hz pi);refine⟨tk,_,rfl,SqT.of nT,rfl,_,_,rfl,_,_,rfl,rfl,?_⟩;have I:=W.pr;have fin:∀ {H':Hp},(∀b u,O b=some u→¬ Fw (X,Y) b→H' b=some u)→∀b u,H5 b=some u→(∀i v,i<k+1→ws[i]? = some v→¬ Fw v b)→H' b=some u:=fun fR b u g n=>fR b u (h6 b u g fun i v hi hv=>n i v #[2] hv) (n k (X,Y) #[2] pi);refine⟨fun G H'=>∃ (C:MS) (B:OS),G=[some (.ref a),some (.int (0+(ii:Int))),some (.ref p),some (.ref r),some (.ref l),some (.ref N),v6,some (.ref C.m),some (.ref B.o),v9,dP]∧Yd ab U H' C B∧Yg (ZU C.L)≤800∧(∀b,Fw (C,B) b→Fw (X,Y) b∨O b=none)∧∀b u,O b=some u→¬ Fw (X,Y) b→H' b=some u,?_,?_⟩
      ·have DK:(kvR Y.Lo).length≤12:=by have h:=W.inv.1;rw[← Vo I.ag]at h;unfold pur at h;unfold kvR;rw[Qa]at h ⊢;exact h
       refine⟨_,rfl,Y.o,_,rfl,ZP.k' (k:=.inr "rows") I.ow.at' (X9 ..),Y.ra,_,rfl,I.ow.rows,_,_,rfl,rfl,_,rfl,YE #[2] ?_⟩;refine⟨_,rfl,_,rfl,_,rfl,Y.o,_,rfl,ZP.k' (k:=.inr "number") I.ow.at' (So ..),?_⟩;refine⟨(by show 1≤sizeLine;decide),fun nl cF=>⟨(by show 3≤sizeLine;decide),fun t' aI=>?_⟩⟩;have sn:=Zh cF (.lst [.str "b"]);have en:(upd O nl (.lst [.str "b"])) nl=some (.lst ((["b"]:List Str).map V.str)):=Zd;generalize upd O nl (.lst [.str "b"])=bg at sn en aI ⊢;have bC:=Zh aI (.tup [.str "add",.int Y.nb,.ref nl]);have jX:(upd bg t' (.tup [.str "add",.int Y.nb,.ref nl])) t'=some (.tup [.str "add",.int Y.nb,.ref nl]):=Zd;generalize upd bg t' (.tup [.str "add",.int Y.nb,.ref nl])=fk at bC jX ⊢;have R:=(W.same sn).same bC;have nM:¬ MFp X nl:=I.mg.M.fp_fresh cF;have nO:¬ Z4 Y nl:=fun z=>by obtain⟨u,hu,_⟩:=I.ow.live z;rw[cF]at hu;cases hu
       refine⟨X,Y,t',nl,.add,Y.nb,["b"],rfl,R.pr,R.nga,R.nb,jX,bC _ _ en,nM,nO,(fun x hx=>by rw[Qk.mp hx];exact⟨by decide,by unfold AZ cds;ac_rfl⟩),#[6],⟨W.nb.symm,fun x hx=>(W.inv.2 x hx).1,by have:=W.inv.1;lia,by ac_rfl,by decide⟩,fun C B fE jY eM eO gt nb' pf h9 fM fO kk=>?_⟩;refine⟨_,rfl,YZ ?_⟩;rw[← eM,← eO];have pj:=sn.trans bC;refine⟨C,B,rfl,jY,?_,fun b g=>?_,fun b u g n=>kk b u (pj b u g) (fun z=>n (.inl z)) (fun z=>n (.inr z))⟩
       ·rw[h9];have:=Znc W.inv;unfold Yg at this ⊢;show ((ZU X.L++[((Y.nb,(["b"]:List Str),0):Y9)]).map fun x:Y9=>x.2.1.length-x.2.2).sum≤800;rw[Qf,List.sum_append];simp;lia
       ·rcases g with z|z
        ·exact(fM b z).imp .inl pj.free
        ·exact(fO b z).imp .inr pj.free
      ·rintro G H7 ⟨C,B,rfl,jZ,uu,f7,k7⟩;have be:(B.Lo.map (·.1)).Pairwise (·<·):=by rw[Xi jZ.ag];exact jZ.mg.M.up
       refine⟨_,rfl,B.o,B.ra,B.ga,B.Lo,B.nb,C.li,C.lo,rfl,jZ.ow,fun H8 s8=>?_⟩;have qK:=jZ.same s8;have Dh:=ZnG jZ.ow;have qL:=Vo jZ.ag;have vp:=JW jZ.mg;rw[Dh,qL];refine⟨_,rfl,by lia,by lia,fun D hD=>?_⟩;have rY:=qK.ow;refine Tn (fun i9 zs G Z=>∃ (v:Option V) (aD:List ZB) (us:List (Addr×W6)) (kq q:Int),G=[some (.ref a),some (.int (0+(ii:Int))),some (.ref p),some (.ref r),some (.ref l),some (.ref N),v6,some (.ref C.m),some (.ref B.o),v9,dP,v]∧zs=(us.map fun u=>V.ref u.1)∧(∀u∈us,u.1≠D∧Z u.1=some (.tup [.int u.2.1,.int (u.2.2.1:Int),.str u.2.2.2]))∧Own Z B.o B.ra B.ga aD B.nb (C.li+kq) (C.lo+q)∧XF (pur B.Lo) (us.map (·.2)) (pur aD) kq q∧us.length=i9∧Z D=some (.lst zs)∧(∀b,Z4 ⟨B.o,B.ra,B.ga,aD,B.nb⟩ b↔Z4 B b)∧(∀b u,H8 b=some u→¬ Z4 B b→Z b=some u)) ?_ ?_ ?_
       ·refine⟨none,B.Lo,[],0,0,rfl,rfl,(fun u h=>by cases h),?_,.nil,rfl,Zd,fun _=>Iff.rfl,fun b u g _=>Zh hD _ _ _ g⟩;rw[QR,QR];exact rY.same (Zh hD _)
       ·rintro i9 zs G Z hi9 ⟨v,aD,us,kq,q',rfl,rfl,dn,pp,eF,oz,eS,jW,k9⟩;have yM:¬ Z4 B D:=fun z=>by obtain⟨u,hu,_⟩:=rY.live z;rw[hD]at hu;cases hu
        have cB:YX (pur aD)=YX (pur B.Lo):=eF.num;have gR:(aD.map (·.1)).Pairwise (·<·):=by rw[Wm,cB,← Wm];exact be
        have qe:(YX (pur B.Lo)).Nodup:=by rw[qL];exact vp
        refine⟨_,rfl,B.o,B.ra,B.ga,aD,B.nb,_,_,rfl,pp,gR,fun x yN Di Dj bg hT fK k10=>?_⟩;have ah:=eF.left qe;rw[Qa,qL]at ah;rcases Zle hT with⟨w0,_⟩|⟨yy,z,t,oA,eL,rfl,ht⟩
        ·have:=JX (by rw[cB];exact qe) w0 (ZrF pp);lia
        have kO:∀b u,Z b=some u→¬ Z4 B b→bg b=some u:=fun b u g n=>k10 b u g (fun e=>n (.inl e)) (fun e=>n (.inr (.inr (.inl e))));have rZ:=kO _ _ eS yM;have pT:t≠D:=fun e=>by rw[e,rZ]at ht;cases ht
        refine⟨rZ,(by rw[Qa,oz];exact Zy #[2]),_,yN,us++[(t,(yy.1,yy.2.2,z))],kq+Di,q'+Dj,rfl,by rw[Qf];rfl,fun u hu=>?_,?_,?_,by rw[Qi,Qy,oz],Zd,fun b=>(hT.own).trans (jW b),fun b u g n=>?_⟩
        ·rcases Qn.mp hu with hu|hu
         ·obtain⟨g1,g2⟩:=dn u hu;refine⟨g1,?_⟩;rw[Zc g1];refine kO _ _ g2 fun z=>?_;obtain⟨u',hu',hn⟩:=pp.live ((jW _).mpr z);rw[g2]at hu';cases hu';exact hn _ rfl
         ·rw[Qk.mp hu];exact⟨pT,by rw[Zc pT];exact ht⟩
        ·rw[← Int.add_assoc,← Int.add_assoc];refine fK.keep fun b u g bR=>?_;rw[Zc (show b≠D from fun e=>yM (by rw[← e];exact(jW b).mp ((hT.own).mp bR)))];exact g
        ·rw[Qf,eL];exact .snoc eF oA
        ·rw[Zc (Zb g hD)];exact kO b u (k9 b u g n) n
       rintro zs G Z ⟨v,aD,us,kq,q',rfl,rfl,dn,pp,eF,oz,eS,jW,k9⟩;have pq:MOk ab U Z C:=qK.mg.keep fun b u g aM=>k9 b u g (qK.nO g aM);obtain⟨Dk,jc⟩:=pq.M.ob;have Dl:¬ MFp C D:=qK.mg.M.fp_fresh hD;refine⟨_,rfl,C.m,Dk,_,rfl,jc,Zmr ..,_,_,rfl,rfl,⟨by decide,by decide,by decide⟩,C.m,C.rd,C.sd,C.L,C.s,C.nb,C.li,C.lo,C.w,((1000000:Nat):Int),rfl,pq.M,pq.W,pq.ok,by lia,fun rr cE L' s' w' k2' q2' bg hrr vq yO r6 yP kQ g8 r8 DL DM k10=>?_⟩;have lm:=Znn (ts:=cE.map (·.2)) (many:=1000000) vp r6 (by rw[Qa];exact yP) (by rw[Qa];exact fun z=>kQ fun y=>z (by rw[y];rfl)) r8 (fun x hx=>by obtain⟨e,he,rfl⟩:=Ql.mp hx;exact(g8.each e he).le);rw[Qa]at lm;rw[qL]at eF;obtain⟨Dm,Do,ek,eq⟩:=XF.one vp eF r6 (by rw[Qa,Qa,oz,lm];lia);subst ek;subst eq;have vt:∀u∈us,bg u.1=some (.tup [.int u.2.1,.int (u.2.2.1:Int),.str u.2.2.2]):=fun u hu=>k10 _ _ (dn u hu).2 (pq.M.fp_tup (dn u hu).2);have fK:=pp.keep (H':=bg) fun b u g bR=>k10 b u g fun z=>jZ.sep b z ((jW b).mp bR);refine⟨_,rfl,.ref rr,.ref D,rfl,Sb vq (k10 _ _ eS Dl) (by rw[Qa,lm];lia) (JU cE us Dm.symm yO vt),fun fk eJ=>⟨_,rfl,YZ ?_⟩⟩;refine⟨_,rfl,_,rfl,C.m,C.rd,C.sd,L',s',C.nb,_,_,w',B.o,B.ra,B.ga,aD,B.nb,rfl,g8.same eJ,r8,fK.same eJ,Do,fun fE ik=>⟨_,rfl,Zsd ?_⟩⟩;refine⟨_,_,_,_,_,rfl,fin fun b u g n=>?_⟩;have n':¬ Fw (C,B) b:=fun z=>(f7 b z).elim n fun y=>by rw[g]at y;cases y
       exact ik _ _ (eJ _ _ (k10 b u (k9 b u (s8 _ _ (k7 b u g n)) fun z=>n' (.inr z)) fun z=>n' (.inl z)))
     ·rintro G O ⟨v6,v7,v8,v9,dP,rfl,h6⟩;refine⟨_,_,_,_,_,_,_,_,_,_,rfl,fun b u g=>?_⟩;exact kB _ h6 b u (C3 b u g) (Zb g u7)
 ·rintro G H2 ⟨v1,v2,v3,v4,v5,v6,v7,v8,v9,dP,rfl,s2⟩;exact q H2
end
theorem ZS{K:#[7]}{h:Heap}{mg:Str→Option Value}{x:Str}{st:Stmt}{ps:List Str}{f:Addr}{g b:Option Addr}{sl:Array (Option Value)}{i kV j d e ct:Value}(X:K.In h)(G:h.Ns mainGlobals mg)
  (a:PySem.W.nsIn K mainGlobals x=some (some (.ref f))) (l:K.lookup f=some ⟨i,g,.func (PySem.W.fnOf x x (Zq st) (Zm st) (Zg st) .none kV j d b e ct),sl⟩) (c:PySem.W.codeIn K e x=true) (k:PySem.W.keepIn K (.ref f)=true)
  (hb:∀ (kV m d:Value) (b:Option Addr) (n ct:Value) (us:List Value),us.length=ps.length→bindArgs (PySem.W.fnOf x x (Zq st) (Zm st) (Zg st) .none kV m d b n ct) ⟨us,[]⟩=pure (ps.zip us)):Top K mg x st ps :=
 ⟨_,_,ZI (st:=st) l c k,Qbe X G a,(ZI (st:=st) l c k).binds hb⟩
theorem N0{n:Nat}{us:List Value}(h:us.length=n+1):∃a r,us=a::r∧r.length=n:=by obtain⟨a,r,rfl⟩:=List.exists_cons_of_length_eq_add_one h;exact⟨a,r,rfl,Nat.succ.inj h⟩
theorem YM(us:List Value)(h:us.length=1):∃a0,us=[a0]:=Qaz.mp h
theorem YJ(us:List Value)(h:us.length=2):∃a0 a1,us=[a0,a1]:=by obtain⟨a,r,rfl,g⟩:=N0 h;obtain⟨b,rfl⟩:=YM r g;exact⟨a,b,rfl⟩
theorem WM(us:List Value)(h:us.length=3):∃a0 a1 a2,us=[a0,a1,a2]:=by obtain⟨a,r,rfl,g⟩:=N0 h;obtain⟨b,c,rfl⟩:=YJ r g;exact⟨a,b,c,rfl⟩
theorem Zs9(us:List Value)(h:us.length=4):∃a0 a1 a2 a3,us=[a0,a1,a2,a3]:=by obtain⟨a,r,rfl,g⟩:=N0 h;obtain⟨b,c,d,rfl⟩:=WM r g;exact⟨a,b,c,d,rfl⟩
theorem all_mk{l:PySem.W.OpenLaw}{w:World}{K:#[7]}{h:Heap}{mg:Str→Option Value}{fa:Addr}(X:K.In h)(G:h.Ns mainGlobals mg)(Dp:mg "law" = some (.ref fa))
  {ab:Addr}
  {U:Addr}
  {jm:Tok}
  (aCRow:#[Xns,K,"Row",ab]) (pgRow:PySem.W.plainGet K ab Str.empty=true) (hdRow:PySem.W.hasDictIn K ab=true) (poRow:PySem.W.plainOver K ab=true) (saRow:PySem.W.findIn K (.ref ab) "__setattr__" = some (some (.builtin "object.__setattr__"))) (mkRow:PySem.W.makesIn K ab=true) (kcRow:#[Xki,K,ab])
  (nARow_all_keys:PySem.W.findIn K (.ref ab) "all_keys" = some none)
  (nARow_fars:PySem.W.findIn K (.ref ab) "fars" = some none)
  (nARow_gone:PySem.W.findIn K (.ref ab) "gone" = some none)
  (aCMerge:#[Xns,K,"Merge",U]) (pgMerge:PySem.W.plainGet K U Str.empty=true) (hdMerge:PySem.W.hasDictIn K U=true) (poMerge:PySem.W.plainOver K U=true) (saMerge:PySem.W.findIn K (.ref U) "__setattr__" = some (some (.builtin "object.__setattr__"))) (mkMerge:PySem.W.makesIn K U=true) (kcMerge:#[Xki,K,U])
  (nAMerge_best:PySem.W.findIn K (.ref U) "best" = some none)
  (nAMerge_likened:PySem.W.findIn K (.ref U) "likened" = some none)
  (nAMerge_looked:PySem.W.findIn K (.ref U) "looked" = some none)
  (nAMerge_next_number:PySem.W.findIn K (.ref U) "next_number" = some none)
  (nAMerge_rows:PySem.W.findIn K (.ref U) "rows" = some none)
  (nAMerge_stays:PySem.W.findIn K (.ref U) "stays" = some none)
  (a0:#[Xns,K,"halves",f0]) (l0:#[Xlk,K,f0,oc0,od0,"halves","halves",Rh,kV0,dc0,pm0,an0,Dq,ct0,sl0]) (c0:#[Xci,K,Dq,"halves"]) (k0:#[Xki,K,f0])
  (a1:#[Xns,K,"way_up",f1]) (l1:#[Xlk,K,f1,oc1,od1,"way_up","way_up",Rg,kV1,dc1,pm1,an1,Dr,ct1,sl1]) (c1:#[Xci,K,Dr,"way_up"]) (k1:#[Xki,K,f1])
  (a2:#[Xns,K,"alike",f2]) (l2:#[Xlk,K,f2,oc2,od2,"alike","alike",Rf,kV2,dc2,pm2,an2,Ds,ct2,pI]) (c2:#[Xci,K,Ds,"alike"]) (k2:#[Xki,K,f2])
  (a3:#[Xns,K,"liken",f3]) (l3:#[Xlk,K,f3,oc3,od3,"liken","liken",Rc,kV3,dc3,pm3,an3,Dt,ct3,sl3]) (c3:#[Xci,K,Dt,"liken"]) (k3:#[Xki,K,f3])
  (a4:#[Xns,K,"liken_from",f4]) (l4:#[Xlk,K,f4,oc4,od4,"liken_from","liken_from",P9,kV4,dc4,pm4,an4,Du,ct4,sl4]) (c4:#[Xci,K,Du,"liken_from"]) (k4:#[Xki,K,f4])
  (a5:#[Xns,K,"alike_from",f5]) (l5:#[Xlk,K,f5,oc5,od5,"alike_from","alike_from",P7,kV5,dc5,pm5,an5,Dv,ct5,xy]) (c5:#[Xci,K,Dv,"alike_from"]) (k5:#[Xki,K,f5])
  (a6:#[Xns,K,"order_at",f6]) (l6:#[Xlk,K,f6,oc6,od6,"order_at","order_at",P6,kV6,dc6,pm6,an6,Dw,ct6,sl6]) (c6:#[Xci,K,Dw,"order_at"]) (k6:#[Xki,K,f6])
  (a7:#[Xns,K,"first_break",f7]) (l7:#[Xlk,K,f7,oc7,od7,"first_break","first_break",P0,kV7,dc7,pm7,an7,Dx,ct7,sl7]) (c7:#[Xci,K,Dx,"first_break"]) (k7:#[Xki,K,f7])
  (a8:#[Xns,K,"alikes",f8]) (l8:#[Xlk,K,f8,oc8,od8,"alikes","alikes",PZ,kV8,dc8,pm8,an8,Dy,ct8,sl8]) (c8:#[Xci,K,Dy,"alikes"]) (k8:#[Xki,K,f8])
  (a9:#[Xns,K,"refuse_break",f9]) (l9:#[Xlk,K,f9,oc9,od9,"refuse_break","refuse_break",PY,kV9,dc9,pm9,an9,Dz,ct9,sl9]) (c9:#[Xci,K,Dz,"refuse_break"]) (k9:#[Xki,K,f9])
  (a10:#[Xns,K,"matches_up",yQ]) (l10:#[Xlk,K,yQ,DN,DO,"matches_up","matches_up",PX,DP,DQ,DR,DS,yR,DT,DU]) (c10:#[Xci,K,yR,"matches_up"]) (k10:#[Xki,K,yQ])
  (a11:#[Xns,K,"_law_mix",yS]) (l11:#[Xlk,K,yS,DW,DX,"_law_mix","_law_mix",PV,DY,DZ,D0,D1,yT,D4,D5]) (c11:#[Xci,K,yT,"_law_mix"]) (k11:#[Xki,K,yS])
  (a12:#[Xns,K,"_law_left",yU]) (l12:#[Xlk,K,yU,D6,D7,"_law_left","_law_left",PU,D8,D9,D',Ea,yV,Eb,Ec]) (c12:#[Xci,K,yV,"_law_left"]) (k12:#[Xki,K,yU])
  (a13:#[Xns,K,"_law_pick",yW]) (l13:#[Xlk,K,yW,Ed,Ee,"_law_pick","_law_pick",PR,Ef,Eg,Eh,Ei,yX,Ej,Ek]) (c13:#[Xci,K,yX,"_law_pick"]) (k13:#[Xki,K,yW])
  (a14:#[Xns,K,"_law_stems",yY]) (l14:#[Xlk,K,yY,El,Em,"_law_stems","_law_stems",S0,En,Eo,Ep,Er,yZ,Es,Et]) (c14:#[Xci,K,yZ,"_law_stems"]) (k14:#[Xki,K,yY])
  (a15:#[Xns,K,"_law_key",y0]) (l15:#[Xlk,K,y0,Eu,Ev,"_law_key","_law_key",SY,Ew,Ex,Ey,Ez,y4,EB,EC]) (c15:#[Xci,K,y4,"_law_key"]) (k15:#[Xki,K,y0])
  (a16:#[Xns,K,"_law_keys",y6]) (l16:#[Xlk,K,y6,ED,EE,"_law_keys","_law_keys",PQ,EF,EG,EH,EI,y8,EJ,EK]) (c16:#[Xci,K,y8,"_law_keys"]) (k16:#[Xki,K,y6])
  (a17:#[Xns,K,"_law_row",y9]) (l17:#[Xlk,K,y9,EL,EM,"_law_row","_law_row",PP,EN,EO,EQ,ER,zc,ES,ET]) (c17:#[Xci,K,zc,"_law_row"]) (k17:#[Xki,K,y9])
  (a18:#[Xns,K,"_law_many",zd]) (l18:#[Xlk,K,zd,EU,EV,"_law_many","_law_many",PN,EW,EX,EY,EZ,ze,E1,E2]) (c18:#[Xci,K,ze,"_law_many"]) (k18:#[Xki,K,zd])
  (a19:#[Xns,K,"_law_rows",zf]) (l19:#[Xlk,K,zf,E3,E4,"_law_rows","_law_rows",SX,E5,E6,E7,E8,zg,E9,Fa]) (c19:#[Xci,K,zg,"_law_rows"]) (k19:#[Xki,K,zf])
  (a20:#[Xns,K,"_law_alike",zh]) (l20:#[Xlk,K,zh,Fb,Fc,"_law_alike","_law_alike",PM,Fd,Fe,Ff,Fg,zi,Fh,Fi]) (c20:#[Xci,K,zi,"_law_alike"]) (k20:#[Xki,K,zh])
  (a21:#[Xns,K,"_law_halves",zj]) (l21:#[Xlk,K,zj,Fj,Fk,"_law_halves","_law_halves",PL,Fl,Fm,Fn,Fo,zk,Fq,Fs]) (c21:#[Xci,K,zk,"_law_halves"]) (k21:#[Xki,K,zj])
  (a22:#[Xns,K,"_law_least",zl]) (l22:#[Xlk,K,zl,Ft,Fu,"_law_least","_law_least",SW,Fv,Fx,Fy,Fz,zm,FA,FC]) (c22:#[Xci,K,zm,"_law_least"]) (k22:#[Xki,K,zl])
  (a23:#[Xns,K,"_law_same",zn]) (l23:#[Xlk,K,zn,FD,FE,"_law_same","_law_same",SV,FF,FG,FH,FI,zo,FJ,FK]) (c23:#[Xci,K,zo,"_law_same"]) (k23:#[Xki,K,zn])
  (a24:#[Xns,K,"_law_world",zp]) (l24:#[Xlk,K,zp,FL,FM,"_law_world","_law_world",PH,FN,FO,FP,FQ,zq,FR,FS]) (c24:#[Xci,K,zq,"_law_world"]) (k24:#[Xki,K,zp])
  (a25:#[Xns,K,"_law_heads",zr]) (l25:#[Xlk,K,zr,FT,FU,"_law_heads","_law_heads",PF,FW,FX,FY,FZ,zt,F0,F1]) (c25:#[Xci,K,zt,"_law_heads"]) (k25:#[Xki,K,zr])
  (a26:#[Xns,K,"_law_first_play",zu]) (l26:#[Xlk,K,zu,F3,F4,"_law_first_play","_law_first_play",PD,F5,F6,F7,F8,zw,F9,F']) (c26:#[Xci,K,zw,"_law_first_play"]) (k26:#[Xki,K,zu])
  (a27:#[Xns,K,"_law_play",zA]) (l27:#[Xlk,K,zA,Ga,Gb,"_law_play","_law_play",PB,Gc,Gd,Ge,Gf,zB,Gg,Gh]) (c27:#[Xci,K,zB,"_law_play"]) (k27:#[Xki,K,zA])
  (a28:#[Xns,K,"_law_way",zC]) (l28:#[Xlk,K,zC,Gi,Gj,"_law_way","_law_way",Pz,Gk,Gm,Gn,Go,zD,Gp,Gq]) (c28:#[Xci,K,zD,"_law_way"]) (k28:#[Xki,K,zC])
  (a29:#[Xns,K,"_law_coming",zE]) (l29:#[Xlk,K,zE,Gr,Gs,"_law_coming","_law_coming",Py,Gu,Gv,Gw,Gx,zF,Gy,Gz]) (c29:#[Xci,K,zF,"_law_coming"]) (k29:#[Xki,K,zE])
  (a30:#[Xns,K,"_law_taken",zG]) (l30:#[Xlk,K,zG,GA,GB,"_law_taken","_law_taken",Px,GC,GD,GF,GG,zH,GH,GI]) (c30:#[Xci,K,zH,"_law_taken"]) (k30:#[Xki,K,zG])
  (a31:#[Xns,K,"_law_left_of",zI]) (l31:#[Xlk,K,zI,GJ,GK,"_law_left_of","_law_left_of",SU,GL,GN,GO,GP,zJ,GQ,GR]) (c31:#[Xci,K,zJ,"_law_left_of"]) (k31:#[Xki,K,zI])
  (a32:#[Xns,K,"_law_stands",zK]) (l32:#[Xlk,K,zK,GS,GU,"_law_stands","_law_stands",Pw,GV,GW,GX,GY,zL,GZ,G0]) (c32:#[Xci,K,zL,"_law_stands"]) (k32:#[Xki,K,zK])
  (a33:#[Xns,K,"_law_late",zM]) (l33:#[Xlk,K,zM,G1,G2,"_law_late","_law_late",U9,G3,G4,G5,G6,zN,G7,G8]) (c33:#[Xci,K,zN,"_law_late"]) (k33:#[Xki,K,zM])
  (a34:#[Xns,K,"_law_done",zO]) (l34:#[Xlk,K,zO,G9,G',"_law_done","_law_done",Pu,Ha,Hb,Hc,He,zP,Hg,Hh]) (c34:#[Xci,K,zP,"_law_done"]) (k34:#[Xki,K,zO])
  (a35:#[Xns,K,"_law_twin_of",zQ]) (l35:#[Xlk,K,zQ,Hj,Hk,"_law_twin_of","_law_twin_of",SS,Hl,Hm,Hn,Ho,zR,Hq,Hs]) (c35:#[Xci,K,zR,"_law_twin_of"]) (k35:#[Xki,K,zQ])
  (a36:#[Xns,K,"law",zS]) (l36:#[Xlk,K,zS,Ht,Hv,"law","law",Wy,zT,zU,zV,zW,r9,zX,Hw]) (c36:#[Xci,K,r9,"law"]) (k36:#[Xki,K,zS])
  (a37:#[Xfi,K,ab,"__init__",vw]) (i37:#[Xif,K,vw]) (l37:#[Xlk,K,vw,Hy,Hz,"__init__","Row.__init__",Uq,HA,HC,HD,HF,zY,HG,HH]) (c37:#[Xci,K,zY,"Row.__init__"]) (k37:#[Xki,K,vw])
  (a38:#[Xfi,K,ab,"copied",vz]) (i38:#[Xif,K,vz]) (l38:#[Xlk,K,vz,HI,HJ,"copied","Row.copied",Up,HK,HL,HM,HN,zZ,HP,HQ]) (c38:#[Xci,K,zZ,"Row.copied"]) (k38:#[Xki,K,vz])
  (a39:#[Xfi,K,ab,"to_go",vA]) (i39:#[Xif,K,vA]) (l39:#[Xlk,K,vA,HR,HS,"to_go","Row.to_go",Uo,HU,HV,HW,HX,Aa,HY,HZ]) (c39:#[Xci,K,Aa,"Row.to_go"]) (k39:#[Xki,K,vA])
  (a40:#[Xfi,K,ab,"head",vB]) (i40:#[Xif,K,vB]) (l40:#[Xlk,K,vB,H0,Ia,"head","Row.head",Um,Ib,Ic,Ie,Ig,Ab,Ih,Ii]) (c40:#[Xci,K,Ab,"Row.head"]) (k40:#[Xki,K,vB])
  (a41:#[Xfi,K,ab,"lengthen",vC]) (i41:#[Xif,K,vC]) (l41:#[Xlk,K,vC,Ij,Ik,"lengthen","Row.lengthen",Ul,Il,Im,Io,Ip,Ac,Iq,Ir]) (c41:#[Xci,K,Ac,"Row.lengthen"]) (k41:#[Xki,K,vC])
  (a42:#[Xfi,K,U,"__init__",vD]) (i42:#[Xif,K,vD]) (l42:#[Xlk,K,vD,Iu,Iv,"__init__","Merge.__init__",Uk,Iw,Ix,Iy,Iz,Ad,IA,IB]) (c42:#[Xci,K,Ad,"Merge.__init__"]) (k42:#[Xki,K,vD])
  (a43:#[Xfi,K,U,"coming",vE]) (i43:#[Xif,K,vE]) (l43:#[Xlk,K,vE,IC,ID,"coming","Merge.coming",Uj,IE,IF,IG,IH,Ae,II,IJ]) (c43:#[Xci,K,Ae,"Merge.coming"]) (k43:#[Xki,K,vE])
  (a44:#[Xfi,K,U,"take",vF]) (i44:#[Xif,K,vF]) (l44:#[Xlk,K,vF,IK,IL,"take","Merge.take",Ui,IM,IN,IP,IQ,Af,IR,IS]) (c44:#[Xci,K,Af,"Merge.take"]) (k44:#[Xki,K,vF])
  (a45:#[Xfi,K,U,"take_few",vG]) (i45:#[Xif,K,vG]) (l45:#[Xlk,K,vG,IT,IU,"take_few","Merge.take_few",Uh,IV,IW,IX,IY,Ah,IZ,I0]) (c45:#[Xci,K,Ah,"Merge.take_few"]) (k45:#[Xki,K,vG])
  (a46:#[Xfi,K,U,"left",vH]) (i46:#[Xif,K,vH]) (l46:#[Xlk,K,vH,Ja,Jb,"left","Merge.left",U8,Jc,Jd,Je,Jf,Ai,Jg,Jh]) (c46:#[Xci,K,Ai,"Merge.left"]) (k46:#[Xki,K,vH])
  (a47:#[Xfi,K,U,"heads",vI]) (i47:#[Xif,K,vI]) (l47:#[Xlk,K,vI,Ji,Jj,"heads","Merge.heads",U7,Jk,Jl,Jm,Jn,Aj,Jo,Jp]) (c47:#[Xci,K,Aj,"Merge.heads"]) (k47:#[Xki,K,vI])
  (a48:#[Xfi,K,U,"likenings",vJ]) (i48:#[Xif,K,vJ]) (l48:#[Xlk,K,vJ,Jq,Jr,"likenings","Merge.likenings",Z6,Js,Jt,Ju,Jv,Ak,Jw,Jx]) (c48:#[Xci,K,Ak,"Merge.likenings"]) (k48:#[Xki,K,vJ])
  (a49:#[Xfi,K,U,"looks",vK]) (i49:#[Xif,K,vK]) (l49:#[Xlk,K,vK,Jy,Jz,"looks","Merge.looks",Ug,JA,JB,JC,J',Al,K',R']) (c49:#[Xci,K,Al,"Merge.looks"]) (k49:#[Xki,K,vK])
  (a50:#[Xfi,K,U,"twin",vL]) (i50:#[Xif,K,vL]) (l50:#[Xlk,K,vL,U',V',"twin","Merge.twin",U6,Z',dc50,pm50,an50,Am,ct50,sl50]) (c50:#[Xci,K,Am,"Merge.twin"]) (k50:#[Xki,K,vL])
  (a51:#[Xfi,K,U,"add_row",vM]) (i51:#[Xif,K,vM]) (l51:#[Xlk,K,vM,oc51,od51,"add_row","Merge.add_row",Uf,kV51,dc51,pm51,an51,An,ct51,sl51]) (c51:#[Xci,K,An,"Merge.add_row"]) (k51:#[Xki,K,vM])
  (a52:#[Xfi,K,U,"drop_row",vN]) (i52:#[Xif,K,vN]) (l52:#[Xlk,K,vN,oc52,od52,"drop_row","Merge.drop_row",Ue,kV52,dc52,pm52,an52,Ao,ct52,sl52]) (c52:#[Xci,K,Ao,"Merge.drop_row"]) (k52:#[Xki,K,vN])
  (a53:#[Xfi,K,U,"grow",vO]) (i53:#[Xif,K,vO]) (l53:#[Xlk,K,vO,oc53,od53,"grow","Merge.grow",Ud,kV53,dc53,pm53,an53,Ap,ct53,sl53]) (c53:#[Xci,K,Ap,"Merge.grow"]) (k53:#[Xki,K,vO])
  (a54:#[Xfi,K,U,"row_of",vP]) (i54:#[Xif,K,vP]) (l54:#[Xlk,K,vP,oc54,od54,"row_of","Merge.row_of",Uc,kV54,dc54,pm54,an54,Aq,ct54,sl54]) (c54:#[Xci,K,Aq,"Merge.row_of"]) (k54:#[Xki,K,vP])
  (a55:#[Xfi,K,U,"play_all",vQ]) (i55:#[Xif,K,vQ]) (l55:#[Xlk,K,vQ,oc55,od55,"play_all","Merge.play_all",Ub,kV55,dc55,pm55,an55,Ar,ct55,sl55]) (c55:#[Xci,K,Ar,"Merge.play_all"]) (k55:#[Xki,K,vQ])
  (a56:#[Xfi,K,U,"play",vR]) (i56:#[Xif,K,vR]) (l56:#[Xlk,K,vR,oc56,od56,"play","Merge.play",Ua,kV56,dc56,pm56,an56,At,ct56,sl56]) (c56:#[Xci,K,At,"Merge.play"]) (k56:#[Xki,K,vR])
  (a57:#[Xfi,K,U,"send_out",vS]) (i57:#[Xif,K,vS]) (l57:#[Xlk,K,vS,oc57,od57,"send_out","Merge.send_out",T9,kV57,dc57,pm57,an57,Au,ct57,sl57]) (c57:#[Xci,K,Au,"Merge.send_out"]) (k57:#[Xki,K,vS])
  (a58:#[Xfi,K,U,"play_again",vT]) (i58:#[Xif,K,vT]) (l58:#[Xlk,K,vT,oc58,od58,"play_again","Merge.play_again",Z1,kV58,dc58,pm58,an58,Av,ct58,sl58]) (c58:#[Xci,K,Av,"Merge.play_again"]) (k58:#[Xki,K,vT])
  (a59:#[Xfi,K,U,"meet",vU]) (i59:#[Xif,K,vU]) (l59:#[Xlk,K,vU,oc59,od59,"meet","Merge.meet",T8,kV59,dc59,pm59,an59,Aw,ct59,sl59]) (c59:#[Xci,K,Aw,"Merge.meet"]) (k59:#[Xki,K,vU])
  (giMOST_ROWS:PySem.W.nsIn K mainGlobals "MOST_ROWS" = some (some (.int 16 jm)))
  (z0:PySem.W.nsIn K mainGlobals "abs" = some none) (z1:PySem.W.nsIn K mainGlobals "all" = some none) (z2:PySem.W.nsIn K mainGlobals "bool" = some none) (z3:PySem.W.nsIn K mainGlobals "dict" = some none) (z4:PySem.W.nsIn K mainGlobals "enumerate" = some none) (z5:PySem.W.nsIn K mainGlobals "int" = some none) (z6:PySem.W.nsIn K mainGlobals "isinstance" = some none) (z7:PySem.W.nsIn K mainGlobals "len" = some none) (z8:PySem.W.nsIn K mainGlobals "list" = some none) (z9:PySem.W.nsIn K mainGlobals "max" = some none) (z10:PySem.W.nsIn K mainGlobals "min" = some none) (z11:PySem.W.nsIn K mainGlobals "range" = some none) (z12:PySem.W.nsIn K mainGlobals "sorted" = some none) (z13:PySem.W.nsIn K mainGlobals "str" = some none) (z14:PySem.W.nsIn K mainGlobals "sum" = some none) (z15:PySem.W.nsIn K mainGlobals "tuple" = some none) (z16:PySem.W.nsIn K mainGlobals "zip" = some none) :
  ∃fd:FuncData,(∀ (s:Shared) (v:Value),BindsTo s fd ⟨[v],[]⟩ [("_law_script",v)])∧∀base:Heap,K.In base→base.Ns mainGlobals mg→X2 l.prog w K mg base CX0 18 fa fd ["_law_script"] (RW K):=by
 have e:=Dp.symm.trans (Qbe X G a36);cases e;have T:Z9 K mg ab U:=⟨⟨QI X G z0,QI X G z1,QI X G z2,QI X G z3,QI X G z4,QI X G z5,QI X G z6,QI X G z7,QI X G z8,QI X G z9,QI X G z10,QI X G z11,QI X G z12,QI X G z13,QI X G z14,QI X G z15,QI X G z16⟩,ZS X G a0 l0 c0 k0 #[1,YM],ZS X G a1 l1 c1 k1 #[2,YJ],ZS X G a2 l2 c2 k2 #[2,YJ],ZS X G a3 l3 c3 k3 #[2,YJ],ZS X G a4 l4 c4 k4 #[3,WM],ZS X G a5 l5 c5 k5 #[3,WM],ZS X G a6 l6 c6 k6 #[3,WM],ZS X G a7 l7 c7 k7 #[1,YM],ZS X G a8 l8 c8 k8 #[1,YM],ZS X G a9 l9 c9 k9 #[2,YJ],ZS X G a10 l10 c10 k10 #[2,YJ],ZS X G a11 l11 c11 k11 #[2,YJ],ZS X G a12 l12 c12 k12 #[2,YJ],ZS X G a13 l13 c13 k13 #[2,YJ],ZS X G a14 l14 c14 k14 #[1,YM],ZS X G a15 l15 c15 k15 #[2,YJ],ZS X G a16 l16 c16 k16 #[3,WM],ZS X G a17 l17 c17 k17 #[3,WM],ZS X G a18 l18 c18 k18 #[1,YM],ZS X G a19 l19 c19 k19 #[1,YM],ZS X G a20 l20 c20 k20 #[2,YJ],ZS X G a21 l21 c21 k21 #[1,YM],ZS X G a22 l22 c22 k22 #[2,YJ],ZS X G a23 l23 c23 k23 #[2,YJ],ZS X G a24 l24 c24 k24 #[1,YM],ZS X G a25 l25 c25 k25 #[1,YM],ZS X G a26 l26 c26 k26 #[2,YJ],ZS X G a27 l27 c27 k27 #[1,YM],ZS X G a28 l28 c28 k28 #[2,YJ],ZS X G a29 l29 c29 k29 #[1,YM],ZS X G a30 l30 c30 k30 #[1,YM],ZS X G a31 l31 c31 k31 #[1,YM],ZS X G a32 l32 c32 k32 #[2,YJ],ZS X G a33 l33 c33 k33 #[3,WM],ZS X G a34 l34 c34 k34 #[3,WM],ZS X G a35 l35 c35 k35 #[1,YM],⟨_,_,ZI (st:=Uq) l37 c37 k37,⟨mkRow,a37,i37,kcRow⟩,(ZI (st:=Uq) l37 c37 k37).binds (ps:=["self", "keys"]) #[2,YJ],Qbe X G aCRow⟩,⟨_,_,ZI (st:=Up) l38 c38 k38,⟨a38,i38,k38⟩,(ZI (st:=Up) l38 c38 k38).binds (ps:=["self"]) #[1,YM]⟩,⟨_,_,ZI (st:=Uo) l39 c39 k39,⟨a39,i39,k39⟩,(ZI (st:=Uo) l39 c39 k39).binds (ps:=["self"]) #[1,YM]⟩,⟨_,_,ZI (st:=Um) l40 c40 k40,⟨a40,i40,k40⟩,(ZI (st:=Um) l40 c40 k40).binds (ps:=["self"]) #[1,YM]⟩,⟨_,_,ZI (st:=Ul) l41 c41 k41,⟨a41,i41,k41⟩,(ZI (st:=Ul) l41 c41 k41).binds (ps:=["self", "keys"]) #[2,YJ]⟩,⟨_,_,ZI (st:=Uk) l42 c42 k42,⟨mkMerge,a42,i42,kcMerge⟩,(ZI (st:=Uk) l42 c42 k42).binds (ps:=["self", "rows"]) #[2,YJ],Qbe X G aCMerge⟩,⟨_,_,ZI (st:=Uj) l43 c43 k43,⟨a43,i43,k43⟩,(ZI (st:=Uj) l43 c43 k43).binds (ps:=["self"]) #[1,YM]⟩,⟨_,_,ZI (st:=Ui) l44 c44 k44,⟨a44,i44,k44⟩,(ZI (st:=Ui) l44 c44 k44).binds (ps:=["self"]) #[1,YM]⟩,⟨_,_,ZI (st:=Uh) l45 c45 k45,⟨a45,i45,k45⟩,(ZI (st:=Uh) l45 c45 k45).binds (ps:=["self", "many"]) #[2,YJ]⟩,⟨_,_,ZI (st:=U8) l46 c46 k46,⟨a46,i46,k46⟩,(ZI (st:=U8) l46 c46 k46).binds (ps:=["self"]) #[1,YM]⟩,⟨_,_,ZI (st:=U7) l47 c47 k47,⟨a47,i47,k47⟩,(ZI (st:=U7) l47 c47 k47).binds (ps:=["self"]) #[1,YM]⟩,⟨_,_,ZI (st:=Z6) l48 c48 k48,⟨a48,i48,k48⟩,(ZI (st:=Z6) l48 c48 k48).binds (ps:=["self"]) #[1,YM]⟩,⟨_,_,ZI (st:=Ug) l49 c49 k49,⟨a49,i49,k49⟩,(ZI (st:=Ug) l49 c49 k49).binds (ps:=["self"]) #[1,YM]⟩,⟨_,_,ZI (st:=U6) l50 c50 k50,⟨a50,i50,k50⟩,(ZI (st:=U6) l50 c50 k50).binds (ps:=["self"]) #[1,YM]⟩,⟨_,_,ZI (st:=Uf) l51 c51 k51,⟨a51,i51,k51⟩,(ZI (st:=Uf) l51 c51 k51).binds (ps:=["self", "row"]) #[2,YJ]⟩,⟨_,_,ZI (st:=Ue) l52 c52 k52,⟨a52,i52,k52⟩,(ZI (st:=Ue) l52 c52 k52).binds (ps:=["self", "n"]) #[2,YJ]⟩,⟨_,_,ZI (st:=Ud) l53 c53 k53,⟨a53,i53,k53⟩,(ZI (st:=Ud) l53 c53 k53).binds (ps:=["self", "n", "keys"]) #[3,WM]⟩,⟨_,_,ZI (st:=Uc) l54 c54 k54,⟨a54,i54,k54⟩,(ZI (st:=Uc) l54 c54 k54).binds (ps:=["self", "n"]) #[2,YJ]⟩,⟨_,_,ZI (st:=Ub) l55 c55 k55,⟨a55,i55,k55⟩,(ZI (st:=Ub) l55 c55 k55).binds (ps:=["self"]) #[1,YM]⟩,⟨_,_,ZI (st:=Ua) l56 c56 k56,⟨a56,i56,k56⟩,(ZI (st:=Ua) l56 c56 k56).binds (ps:=["self", "numbers"]) #[2,YJ]⟩,⟨_,_,ZI (st:=T9) l57 c57 k57,⟨a57,i57,k57⟩,(ZI (st:=T9) l57 c57 k57).binds (ps:=["self", "number"]) #[2,YJ]⟩,⟨_,_,ZI (st:=Z1) l58 c58 k58,⟨a58,i58,k58⟩,(ZI (st:=Z1) l58 c58 k58).binds (ps:=["self", "meeting", "comer"]) #[3,WM]⟩,⟨_,_,ZI (st:=T8) l59 c59 k59,⟨a59,i59,k59⟩,(ZI (st:=T8) l59 c59 k59).binds (ps:=["self", "one", "other", "far"]) (fun _ _ _ _ _ _ us hl=>by obtain⟨_,_,_,_,rfl⟩:=Zs9 us hl;exact rfl)⟩,⟨pgRow,hdRow,poRow,saRow⟩,nARow_all_keys,nARow_fars,nARow_gone,⟨pgMerge,hdMerge,poMerge,saMerge⟩,nAMerge_best,nAMerge_likened,nAMerge_looked,nAMerge_next_number,nAMerge_rows,nAMerge_stays,⟨_,Qbe X G giMOST_ROWS⟩⟩;exact⟨PySem.W.fnOf "law" "law" (Zq Wy) (Zm Wy) (Zg Wy) .none zT zU zV zW r9 zX,fun s v=>.of_eq rfl,fun base _ _=>ZrA (ZI (st:=Wy) l36 c36 k36) T⟩
theorem walk{l:PySem.W.OpenLaw}{q:Program}{e:List Str}{g:(Str→Option Value)→Heap→Prop}{b:World→Heap→Prop}{d:DefRec}{K:Params→#[7]}(i:l.most=some 63)(j:d.params.defaults=[])
  (m:∀ (w:World) (h:Heap),b w h→(K w.params).In h)
  (F:∀ (w:World) (mg:Str→Option Value) (fa:Addr) (h:Heap),(K w.params).In h→h.Ns mainGlobals mg→mg d.name=some (.ref fa) →
   ∃c:FuncData,(∀ (s:Shared) (u:Value),BindsTo s c ⟨[u],[]⟩ [("_law_script",u)])∧∀base:Heap,(K w.params).In base→base.Ns mainGlobals mg→X2 l.prog w (K w.params) mg base CX0 18 fa c ["_law_script"] (RW (K w.params))) :
  PySem.W.WalkO q e g b l.row.toRowW d [] (fun f vs=>PySem.call f vs) :=
 L2.walk_of (n:=63) (k:=18) (x := "_law_script") (CX:=fun _=>CX0) (sp:=fun w=>RW (K w.params)) i #[6] j ⟨rfl,by decide,by decide,rfl⟩ m F (fun _ _ a o p _ r=>⟨a,o,rfl,r,p,fun _=>rfl⟩) fun _ _ _ _ _ z=>z
end My
open PySem PySem.W PyProof.Rows
namespace PySem.W.Fast
def tw6809416851224214959:=Nat
def tw13735835734963534212:=Nat
def tw12439162445545553508:=Nat
def tw7527606177611887853:=Nat
def tw12831763414903432416:=Nat
def tw9096585381066980670:=Nat
def tw9669336434562107975:=Nat
def tw3201502744942539207:=Nat
def tw6863779584481331996:=Nat
def tw10473836953209434341:=Nat
def tw16837927758590203064:=Nat
def tw15563021338766738806:=Nat
def tw3809577744255275382:=Nat
def tw14078892050436267958:=Nat
def tw1580537239231604150:=Nat
def tw2839936929623323391:=Nat
def tw17301545112460823060:=Nat
def tw5949789273701920852:=Nat
def tw12723800125786541053:=Nat
def tw9117232433965985821:=Nat
def tw12348766663506953842:=Nat
def tw7628785863514995280:=Nat
def tw1957156165931366009:=Nat
def tw15258017324610888119:=Nat
def tw10655506210687891148:=Nat
def tw5055788183000583121:=Nat
def tw1002383093252942443:=Nat
def tw7660669965679601873:=Nat
def tw11875489906380548043:=Nat
def tw12148832902640527964:=Nat
def tw11492981809447802693:=Nat
def tw56698221520528236:=Nat
def tw9607247346420116693:=Nat
def tw6427489106875818202:=Nat
def tw15689206586059291377:=Nat
def tw4182823991583459636:=Nat
def tw17869418459868330392:=Nat
def tw8384130654627650801:=Nat
def tw10409553190535944282:=Nat
def tw10860255103326501725:=Nat
def tw13334440304143555792:=Nat
def tw7603948053769943343:=Nat
def tw12941455371203936311:=Nat
def tw7158554455912095678:=Nat
def tw3680383031794624030:=Nat
def tw10316232668333998651:=Nat
def tw9917208194924146809:=Nat
def tw6709656310840250568:=Nat
def tw1452115952049644439:=Nat
def tw2708673892127597792:=Nat
def tw7616641273436233541:=Nat
def tw10473267139075090677:=Nat
def tw9298295518064257980:=Nat
def tw16109568484792066708:=Nat
def tw13764510323837182743:=Nat
def tw9563733258121171899:=Nat
def tw3415690463499481720:=Nat
def tw11901205168679656759:=Nat
def tw13056302179463847572:=Nat
def tw13281410513460380405:=Nat
def tw14557810056141139963:=Nat
def tw12548479330228720353:=Nat
def tw3551348618836826786:=Nat
def tw6487945745614307673:=Nat
def tw15202857639567164018:=Nat
def tw5703299697701312322:=Nat
def tw12773229256352410378:=Nat
def tw5001234931830833235:=Nat
def tw11681656813378674846:=Nat
def tw1592221847227647228:=Nat
def tw8250450353414313254:=Nat
def tw2169214008851872199:=Nat
def tw11416905876354375278:=Nat
def tw3992755756745522485:=Nat
def tw15415719943242165464:=Nat
def tw7897260867078117812:=Nat
def tw16400341807541573761:=Nat
def tw15731870977068068457:=Nat
def tw12544775044428382623:=Nat
def tw15164196248964861357:=Nat
def tw5245825350356752265:=Nat
def tw10173577718042747309:=Nat
def tw12897451840265656772:=Nat
def tw15833231304498437508:=Nat
def tw357443170158501025:=Nat
def tw1728307202438536442:=Nat
def tw7536972599753743167:=Nat
def tw12643833893915600826:=Nat
def tw6059051607526409644:=Nat
def tw12554428420055406791:=Nat
def tw5686394591509908563:=Nat
def tw12743400789978313597:=Nat
def tw6880837294473344538:=Nat
def tw17879994068177266857:=Nat
def tw302460472863833675:=Nat
def tw61734792563431108:=Nat
def tw7886756154444626899:=Nat
def tw2263320220451974389:=Nat
def tw13152644166241672563:=Nat
def tw7988511681509727648:=Nat
def tw1694449709010343357:=Nat
def tw729709198946404312:=Nat
def tw17699864191719666629:=Nat
def tw8565675955734747442:=Nat
def tw4550024108786576194:=Nat
def tw13039373576860777960:=Nat
def tw7451411561873114907:=Nat
def tw11423605102206881910:=Nat
def tw7524301929215271953:=Nat
def tw16027206450861270378:=Nat
def tw18155429159922908611:=Nat
def tw16153683797077685958:=Nat
def tw16276607272177407292:=Nat
def tw11818561262020029264:=Nat
def tw12282253946679443583:=Nat
def tw2596763985732709935:=Nat
def tw10930245822184573834:=Nat
def tw7161143812319075169:=Nat
def tw8689671493895860016:=Nat
def tw7808014470704875441:=Nat
def tw9799167478484030580:=Nat
def tw6712026656597516409:=Nat
def tw5771360952382514005:=Nat
def tw10609658388385700612:=Nat
def tw10763856079622979534:=Nat
def tw9971323410309219937:=Nat
def tw11997881195787161007:=Nat
def tw621817656345347260:=Nat
def tw4854971655748894700:=Nat
def tw4760851470648408841:=Nat
def tw15985224799611391266:=Nat
def tw18046006027089820246:=Nat
def tw5741171455148123863:=Nat
def tw1664677597325566292:=Nat
def tw650224022438854424:=Nat
def tw3126818492795924832:=Nat
def tw9397876309545597095:=Nat
def tw1011045469457560462:=Nat
def tw11275139397231634946:=Nat
def tw9611971270691407931:=Nat
def tw15605924351723708598:=Nat
def tw7217134097210160334:=Nat
def tw16737300147323562927:=Nat
def tw14769407930704013033:=Nat
def tw6248362985426429598:=Nat
def tw12915145579045436759:=Nat
def tw11659000448909532910:=Nat
def tw16513751276245212926:=Nat
def tw10300093292063386820:=Nat
def tw3138303717557124418:=Nat
def tw6907814646721591403:=Nat
def tw13718061560756703797:=Nat
def tw9068147932987167180:=Nat
def tw5603572727877524443:=Nat
def tw4968159253550855128:=Nat
def tw2584275719987491507:=Nat
def tw18050960447720268658:=Nat
def tw522740056154768773:=Nat
def tw15652018870209916068:=Nat
def tw10087993471035566699:=Nat
def tw11073977762447496005:=Nat
def tw11459537876414620050:=Nat
def tw4520042773670235018:=Nat
def tw11937219992210372104:=Nat
def tw14466910518525562586:=Nat
def tw9726146468202683177:=Nat
def tw16443780829894231277:=Nat
def tw5998784325779079254:=Nat
def tw13518152040695995946:=Nat
def tw6426378446099701594:=Nat
def tw16859521343788047381:=Nat
def tw15890271197397346687:=Nat
def tw11567834516668731787:=Nat
def tw12668057495597615362:=Nat
def tw5825723738605166371:=Nat
def tw6821650140092352112:=Nat
def tw2738636586111856808:=Nat
def tw11162084789872435716:=Nat
def tw13037411793810166599:=Nat
def tw10970257547069021878:=Nat
def tw13792297672653178008:=Nat
def tw5590581384404006970:=Nat
def tw18027685916708059855:=Nat
def tw5838528320398405596:=Nat
def tw6094033290255007627:=Nat
def tw7250022939831760740:=Nat
def tw13208318740247476175:=Nat
def tw1639278323675874018:=Nat
def tw15397430522546020308:=Nat
def tw5155395665941999866:=Nat
def tw17274497871977063209:=Nat
def tw9352688483154137059:=Nat
def tw2036255186251408956:=Nat
def tw12873488131216504443:=Nat
def tw835405084010886039:=Nat
def tw10833624583567526002:=Nat
def tw11606237893204018233:=Nat
def tw2063463399450196046:=Nat
def tw15616264112266975755:=Nat
def tw11858835415753023166:=Nat
def tw14791799876416813990:=Nat
def tw4025636454866054866:=Nat
def tw12803588957464355580:=Nat
def tw6093914210091852183:=Nat
def tw1541723220237911436:=Nat
def tw5231610079196981539:=Nat
def tw1558088540805172405:=Nat
def tw5742089813626844593:=Nat
def tw11548456641334037030:=Nat
def tw16420464848234078866:=Nat
def tw357039286524450750:=Nat
def tw17855870742798345183:=Nat
def tw6338880660773248099:=Nat
def tw5550482838750121474:=Nat
def tw2905072890035284514:=Nat
def tw2033589845575571669:=Nat
def tw1903583393858510944:=Nat
def tw537577305785464544:=Nat
def tw10428512215770536197:=Nat
def tw8824876311269929984:=Nat
def tw9153753040146326454:=Nat
def tw17642611312806246414:=Nat
def tw17578355981650506115:=Nat
def tw2855510766011747067:=Nat
def tw12683179968685175420:=Nat
def tw6082721733645505731:=Nat
def tw11374327884771036989:=Nat
def tw9372567538759534136:=Nat
def tw14151161232470093641:=Nat
def tw6324583489621969982:=Nat
def tw17049365728021509465:=Nat
def tw14260158624552447564:=Nat
def tw8908442350195484854:=Nat
def tw11007888958154473121:=Nat
def tw14686306602500412360:=Nat
def tw9995193522346266701:=Nat
def tw3545110868280647713:=Nat
def tw6435292289998478038:=Nat
def tw8324614514785718070:=Nat
def tw3465159139875081462:=Nat
def tw5052058444113977147:=Nat
def tw15025472589205132226:=Nat
def tw17183189767739042888:=Nat
def tw7874423345717498231:=Nat
def tw3943475739501348137:=Nat
def tw6945655279212769271:=Nat
def tw17339870812324179316:=Nat
def tw10330221464909873023:=Nat
def tw14987580239201547981:=Nat
def tw3788532845761863063:=Nat
def tw18117542045606529795:=Nat
def tw11667908168609623865:=Nat
def tw1748066819138099749:=Nat
def tw18017866991263744940:=Nat
def tw16829173984582114980:=Nat
def tw3036778819058405960:=Nat
def tw6330033318617585367:=Nat
def tw3872293691520551565:=Nat
def tw670956021001202605:=Nat
def tw8609670255781307113:=Nat
def tw13534149940611089010:=Nat
def tw3868476909960481996:=Nat
def tw1551156305202030553:=Nat
def tw4768833596325457734:=Nat
def tw9068635231250865454:=Nat
def tw14583001720715749137:=Nat
def tw11327257473353251402:=Nat
def tw15274459688924001806:=Nat
def tw14629431034323629489:=Nat
def tw16140793695405794001:=Nat
def tw10400688220151736991:=Nat
def tw13906820982461857986:=Nat
def tw16436100532249591402:=Nat
def tw18420947117159706101:=Nat
def tw3880122427614022109:=Nat
def tw14176180056885875665:=Nat
def tw12589637110394884905:=Nat
def tw11193357521586923803:=Nat
def tw2405271552273470264:=Nat
def tw9674215759791794198:=Nat
def tw1985196382714336783:=Nat
def tw14190954768297115546:=Nat
def tw3555008476864130223:=Nat
def tw14093780261126486213:=Nat
def tw7477279688631433379:=Nat
def tw12035510734376277511:=Nat
def tw564605306879208912:=Nat
def tw4560324488533276509:=Nat
def tw17031277494380936224:=Nat
def tw3594333622168187585:=Nat
def tw3375371705866008707:=Nat
def tw7497436110396224358:=Nat
def tw1965006679623383072:=Nat
def tw16178713457243608389:=Nat
def tw6967444794547439133:=Nat
def tw128203486222358602:=Nat
def tw16740090274499930114:=Nat
def tw14985723886509463179:=Nat
def tw1942104925735666273:=Nat
def tw2655324367200608259:=Nat
def tw16813215811962050579:=Nat
def tw15470159647246671515:=Nat
def tw6772547746059392176:=Nat
def tw7625462159660206211:=Nat
end PySem.W.Fast
set_option maxRecDepth 100000 in
set_option maxHeartbeats 0 in
theorem PySem.Challenge.cw_mergetree_k22_twins_holds : PySem.Challenge.rw_mergetree_k22_twins.Holds := by
 w_on;o_law;k_head;(case hw=>w_witness2)
 k_fill
 refine My.walk (l:=PySem.Challenge.rw_mergetree_k22_twins) rfl rfl (fun w h Y=>PySem.W.kIn_of Y) ?F;case F =>
  intro w mg fa h KX G hmg
  refine' My.all_mk KX G hmg ?aCRow ?pgRow ?hdRow ?poRow ?saRow ?mkRow ?kcRow ?nARow_all_keys ?nARow_fars ?nARow_gone ?aCMerge ?pgMerge ?hdMerge ?poMerge ?saMerge ?mkMerge ?kcMerge ?nAMerge_best ?nAMerge_likened ?nAMerge_looked ?nAMerge_next_number ?nAMerge_rows ?nAMerge_stays ?a0 ?l0 ?c0 ?k0 ?a1 ?l1 ?c1 ?k1 ?a2 ?l2 ?c2 ?k2 ?a3 ?l3 ?c3 ?k3 ?a4 ?l4 ?c4 ?k4 ?a5 ?l5 ?c5 ?k5 ?a6 ?l6 ?c6 ?k6 ?a7 ?l7 ?c7 ?k7 ?a8 ?l8 ?c8 ?k8 ?a9 ?l9 ?c9 ?k9 ?a10 ?l10 ?c10 ?k10 ?a11 ?l11 ?c11 ?k11 ?a12 ?l12 ?c12 ?k12 ?a13 ?l13 ?c13 ?k13 ?a14 ?l14 ?c14 ?k14 ?a15 ?l15 ?c15 ?k15 ?a16 ?l16 ?c16 ?k16 ?a17 ?l17 ?c17 ?k17 ?a18 ?l18 ?c18 ?k18 ?a19 ?l19 ?c19 ?k19 ?a20 ?l20 ?c20 ?k20 ?a21 ?l21 ?c21 ?k21 ?a22 ?l22 ?c22 ?k22 ?a23 ?l23 ?c23 ?k23 ?a24 ?l24 ?c24 ?k24 ?a25 ?l25 ?c25 ?k25 ?a26 ?l26 ?c26 ?k26 ?a27 ?l27 ?c27 ?k27 ?a28 ?l28 ?c28 ?k28 ?a29 ?l29 ?c29 ?k29 ?a30 ?l30 ?c30 ?k30 ?a31 ?l31 ?c31 ?k31 ?a32 ?l32 ?c32 ?k32 ?a33 ?l33 ?c33 ?k33 ?a34 ?l34 ?c34 ?k34 ?a35 ?l35 ?c35 ?k35 ?a36 ?l36 ?c36 ?k36 ?a37 ?i37 ?l37 ?c37 ?k37 ?a38 ?i38 ?l38 ?c38 ?k38 ?a39 ?i39 ?l39 ?c39 ?k39 ?a40 ?i40 ?l40 ?c40 ?k40 ?a41 ?i41 ?l41 ?c41 ?k41 ?a42 ?i42 ?l42 ?c42 ?k42 ?a43 ?i43 ?l43 ?c43 ?k43 ?a44 ?i44 ?l44 ?c44 ?k44 ?a45 ?i45 ?l45 ?c45 ?k45 ?a46 ?i46 ?l46 ?c46 ?k46 ?a47 ?i47 ?l47 ?c47 ?k47 ?a48 ?i48 ?l48 ?c48 ?k48 ?a49 ?i49 ?l49 ?c49 ?k49 ?a50 ?i50 ?l50 ?c50 ?k50 ?a51 ?i51 ?l51 ?c51 ?k51 ?a52 ?i52 ?l52 ?c52 ?k52 ?a53 ?i53 ?l53 ?c53 ?k53 ?a54 ?i54 ?l54 ?c54 ?k54 ?a55 ?i55 ?l55 ?c55 ?k55 ?a56 ?i56 ?l56 ?c56 ?k56 ?a57 ?i57 ?l57 ?c57 ?k57 ?a58 ?i58 ?l58 ?c58 ?k58 ?a59 ?i59 ?l59 ?c59 ?k59 ?giMOST_ROWS ?z0 ?z1 ?z2 ?z3 ?z4 ?z5 ?z6 ?z7 ?z8 ?z9 ?z10 ?z11 ?z12 ?z13 ?z14 ?z15 ?z16
  (case aCRow=>k_is)
  (case pgRow=>k_is)
  (case hdRow=>k_is)
  (case poRow=>k_is)
  (case saRow=>k_is)
  (case mkRow=>k_is)
  (case kcRow=>k_is)
  (case nARow_all_keys=>k_is)
  (case nARow_fars=>k_is)
  (case nARow_gone=>k_is)
  (case aCMerge=>k_is)
  (case pgMerge=>k_is)
  (case hdMerge=>k_is)
  (case poMerge=>k_is)
  (case saMerge=>k_is)
  (case mkMerge=>k_is)
  (case kcMerge=>k_is)
  (case nAMerge_best=>k_is)
  (case nAMerge_likened=>k_is)
  (case nAMerge_looked=>k_is)
  (case nAMerge_next_number=>k_is)
  (case nAMerge_rows=>k_is)
  (case nAMerge_stays=>k_is)
  (case a0|l0|c0|k0=>k_is)
  (case a1|l1|c1|k1=>k_is)
  (case a2|l2|c2|k2=>k_is)
  (case a3|l3|c3|k3=>k_is)
  (case a4|l4|c4|k4=>k_is)
  (case a5|l5|c5|k5=>k_is)
  (case a6|l6|c6|k6=>k_is)
  (case a7|l7|c7|k7=>k_is)
  (case a8|l8|c8|k8=>k_is)
  (case a9|l9|c9|k9=>k_is)
  (case a10|l10|c10|k10=>k_is)
  (case a11|l11|c11|k11=>k_is)
  (case a12|l12|c12|k12=>k_is)
  (case a13|l13|c13|k13=>k_is)
  (case a14|l14|c14|k14=>k_is)
  (case a15|l15|c15|k15=>k_is)
  (case a16|l16|c16|k16=>k_is)
  (case a17|l17|c17|k17=>k_is)
  (case a18|l18|c18|k18=>k_is)
  (case a19|l19|c19|k19=>k_is)
  (case a20|l20|c20|k20=>k_is)
  (case a21|l21|c21|k21=>k_is)
  (case a22|l22|c22|k22=>k_is)
  (case a23|l23|c23|k23=>k_is)
  (case a24|l24|c24|k24=>k_is)
  (case a25|l25|c25|k25=>k_is)
  (case a26|l26|c26|k26=>k_is)
  (case a27|l27|c27|k27=>k_is)
  (case a28|l28|c28|k28=>k_is)
  (case a29|l29|c29|k29=>k_is)
  (case a30|l30|c30|k30=>k_is)
  (case a31|l31|c31|k31=>k_is)
  (case a32|l32|c32|k32=>k_is)
  (case a33|l33|c33|k33=>k_is)
  (case a34|l34|c34|k34=>k_is)
  (case a35|l35|c35|k35=>k_is)
  (case a36|l36|c36|k36=>k_is)
  (case a37|i37|l37|c37|k37=>k_is)
  (case a38|i38|l38|c38|k38=>k_is)
  (case a39|i39|l39|c39|k39=>k_is)
  (case a40|i40|l40|c40|k40=>k_is)
  (case a41|i41|l41|c41|k41=>k_is)
  (case a42|i42|l42|c42|k42=>k_is)
  (case a43|i43|l43|c43|k43=>k_is)
  (case a44|i44|l44|c44|k44=>k_is)
  (case a45|i45|l45|c45|k45=>k_is)
  (case a46|i46|l46|c46|k46=>k_is)
  (case a47|i47|l47|c47|k47=>k_is)
  (case a48|i48|l48|c48|k48=>k_is)
  (case a49|i49|l49|c49|k49=>k_is)
  (case a50|i50|l50|c50|k50=>k_is)
  (case a51|i51|l51|c51|k51=>k_is)
  (case a52|i52|l52|c52|k52=>k_is)
  (case a53|i53|l53|c53|k53=>k_is)
  (case a54|i54|l54|c54|k54=>k_is)
  (case a55|i55|l55|c55|k55=>k_is)
  (case a56|i56|l56|c56|k56=>k_is)
  (case a57|i57|l57|c57|k57=>k_is)
  (case a58|i58|l58|c58|k58=>k_is)
  (case a59|i59|l59|c59|k59=>k_is)
  (case giMOST_ROWS=>k_is)
  (case z0=>k_is)
  (case z1=>k_is)
  (case z2=>k_is)
  (case z3=>k_is)
  (case z4=>k_is)
  (case z5=>k_is)
  (case z6=>k_is)
  (case z7=>k_is)
  (case z8=>k_is)
  (case z9=>k_is)
  (case z10=>k_is)
  (case z11=>k_is)
  (case z12=>k_is)
  (case z13=>k_is)
  (case z14=>k_is)
  (case z15=>k_is)
  (case z16=>k_is)
