import PyProof.Rows.All
import Wide.All
import OpenK.AllK
import Wide.FinOn
import Lean
import PyProof.EqAt
import PyProof.EqKinds
import PyProof.TupleCall
import PyProof.AttrMissHeap
import KE.KEqDict
import KE.KItemsList
import PyProof.WalksMore
import PyProof.TupleOfStr
import PyProof.DictWalks
import PyProof.WalkInts
import PySem.Challenge.RW_mergetree_k61_whole_as_if_made_so
set_option maxHeartbeats 4000000
set_option maxRecDepth 100000
set_option Elab.async false
set_option linter.all false
local macro_rules|`(tactic|ac_rfl)=>`(tactic|decide +kernel)
local macro_rules
|`(#[0])=>`(⟨rfl,rfl,rfl,by ac_rfl,rfl,by ac_rfl,by ac_rfl⟩)
|`(#[1,$a])=>`((fun _ _ _ _ _ _ us hl=>by obtain⟨_,h⟩:=$a us hl;subst h;exact rfl))
|`(#[2,$a])=>`((fun _ _ _ _ _ _ us hl=>by obtain⟨_,_,h⟩:=$a us hl;subst h;exact rfl))
|`(#[3,$a])=>`((fun _ _ _ _ _ _ us hl=>by obtain⟨_,_,_,h⟩:=$a us hl;subst h;exact rfl))
|`(#[1])=>`((by ac_rfl))
|`(#[2])=>`((by lia))
|`(#[3])=>`((Or.inl rfl))
|`(#[4])=>`((by simp))
|`(#[5])=>`((by rfl))
|`(#[6])=>`((by decide))
|`(#[7])=>`(PySem.W.Frag)
|`(#[8])=>`((.inl rfl))
|`(#[9,$x])=>`(PySem.wpAny (PySem.model ($x).prog ($x).w) ($x).A)
def Qa:=@List.length_map
def Qb:=@List.getElem?_eq_getElem
def Qc:=@PySem.Heap.get?_push_of_some
def Qd:=@List.mem_map_of_mem
def Qe:=@List.map_append
def Qf:=@List.getElem?_eq_some_iff
def Qg:=@List.map_map
def Qh:=@Nat.le_refl
def Qi:=@List.mem_map
def Qj:=@List.length_append
def Qk:=@List.map_cons
def Ql:=@Bool.false_ne_true
def Qm:=@List.mem_append
def Qn:=@List.mem_singleton
def Qo:=@List.getElem?_map
def Qp:=@Option.some.inj
def Qq:=@PySem.Heap.lt_size
def Qr:=@List.mem_append_right
def Qs:=@PySem.Heap.get?_push_size
def Qt:=@List.mem_cons_of_mem
def Qu:=@PySem.boot_len
def Qv:=@Nat.le_trans
def Qw:=@List.take_of_length_le
def Qx:=@Nat.zero_le
def Qy:=@List.map_congr_left
def Qz:=@List.mem_of_getElem?
def QA:=@List.length_take
def QB:=@Nat.ne_of_lt
def QC:=@Nat.lt_of_lt_of_le
def QD:=@List.length_singleton
def QE:=@PySem.W.mg_none_of
def QF:=@List.mem_append_left
def QG:=@List.mem_cons
def QH:=@List.getD_eq_getElem?_getD
def QI:=@List.size_toArray
def QJ:=@List.take_add_one
def QK:=@List.getElem?_append_left
def QL:=@List.getElem?_append_right
def QM:=@List.length_cons
def QN:=@List.getElem?_eq_none
def QO:=@List.length_drop
def QP:=@List.mem_cons_self
def QR:=@List.nodup_cons
def QS:=@List.mem_of_mem_take
def QT:=@Int.add_zero
def QU:=@PySem.F.plainAttrs_list
def QV:=@List.mem_of_mem_drop
def QW:=@PySem.W.kia_one
def QX:=@PySem.W.kia_tup
def QY:=@Nat.ne_of_gt
def QZ:=@Bool.and_eq_true
def Q0:=@List.filterMap_cons
def Q1:=@List.mem_range
def Q2:=@PySem.F.slot_list_append
def Q3:=@PySem.F.type_list_append
def Q4:=@List.getElem_mem
def Q5:=@PySem.F.plainAttrs_dict
def Q6:=@PyProof.Rows.callWith_type1
def Q7:=@Nat.lt_irrefl
def Q8:=@PySem.Heap.size_push
def Q9:=@Bool.eq_false_iff
def Qaa:=@Array.length_toList
def Qab:=@List.mem_filter
def Qac:=@List.find?_cons
def Qad:=@List.getLastD_eq_getLast?
def Qae:=@List.length_filter_le
def Qaf:=@Nat.add_sub_cancel
def Qag:=@List.pairwise_append
def Qah:=@PySem.mem_of_lookup
def Qai:=@Nat.add_lt_add_left
def Qaj:=@List.filter_sublist
def Qak:=@PySem.Heap.get?_update_of_ne
def Qal:=@List.getElem?_toArray
def Qam:=@Nat.le_of_lt
def Qan:=@List.getLast?_eq_getLast
def Qao:=@Nat.lt_add_of_pos_right
def Qap:=@List.any_eq_true
def Qaq:=@List.find?_cons_of_neg
def Qar:=@List.length_eq_one_iff
def Qas:=@Nat.min_eq_left
def Qat:=@List.filter_map
def Qau:=@List.length_replicate
def Qav:=@List.filterMap_append
def Qaw:=@PySem.F.slot_dict_pop
def Qax:=@List.cons_lt_cons_iff
def Qay:=@List.reverse_cons
def Qaz:=@List.nodup_append
def QaA:=@List.getElem?_of_mem
def QaB:=@List.lookup_cons
def QaC:=@List.all_eq_true
def QaD:=@Nat.le_add_right
def QaE:=@Nat.sub_self
def QaF:=@List.mem_of_find?_eq_some
def QaG:=@List.getElem?_eq_none_iff
def QaH:=@List.length_reverse
def QaI:=@List.any_cons
def QaJ:=@Bool.eq_iff_iff
def QaK:=@List.append_nil
def QaL:=@List.range_succ
def QaM:=@Int.emod_lt_of_pos
def QaN:=@Nat.le_succ
def QaO:=@PySem.Str.length_append
def QaP:=@PySem.W.kitx_list
def QaQ:=@PySem.W.kitx_dict
def QaR:=@Int.toNat_natCast
def QaS:=@List.map_nil
def QaT:=@Option.map_eq_some_iff
def QaU:=@List.append_assoc
def QaV:=@List.Pairwise.map
def QaW:=@Nat.pow_succ
def QaX:=@List.length_pos_of_mem
def Qa3:=@List.Sublist.map
def Qa4:=@List.sum_cons
def Qa5:=@List.map_take
def Qa6:=@PySem.W.mg_of
namespace L2
open PySem PySem.Spec PyProof.Rows
abbrev Key:=Sum Int Str
noncomputable def V1:Key→Value→Bool
 | .inl k,v=>Value.isInt k v
 | .inr x,v=>Value.isStrOf x v
noncomputable def Oa(w:World):Key→Int
 | .inl k=>hashInt k
 | .inr x=>hashStr w x
theorem WW:∀ {k:Key} {v:Value},V1 k v=true→(∃i t,k=Sum.inl i∧v=Value.int i t)∨(∃x t,k=Sum.inr x∧v=Value.str x t)
 | .inl i,v,h=>by obtain⟨t,e⟩:=Value.isInt_shape (k:=i) (v:=v) h;exact .inl ⟨i,t,rfl,e⟩
 | .inr x,v,h=>by obtain⟨t,e⟩:=Value.isStrOf_shape (x:=x) (v:=v) h;exact .inr ⟨x,t,rfl,e⟩
theorem Zlz(i:Int)(t:Tok):V1 (.inl i) (.int i t)=true:=by simp[V1,Value.isInt]
theorem Zmf(x:Str)(t:Tok):V1 (.inr x) (.str x t)=true:=by simp[V1,Value.isStrOf]
theorem ZqT(a b:Int):decide ((Sum.inl a:Key)=Sum.inl b)=(a == b):=by
 by_cases e:a=b
 ·subst e;simp
 ·have h:¬ (Sum.inl a:Key)=Sum.inl b:=fun q=>e (Sum.inl.inj q);rw[decide_eq_false h];exact(beq_eq_false_iff_ne.mpr e).symm
theorem Zqc(a b:Str):decide ((Sum.inr a:Key)=Sum.inr b)=decide (a=b):=by
 by_cases e:a=b
 ·subst e;simp
 ·have h:¬ (Sum.inr a:Key)=Sum.inr b:=fun q=>e (Sum.inr.inj q);rw[decide_eq_false h,decide_eq_false e]
theorem Zqz(a:Int)(b:Str):decide ((Sum.inl a:Key)=Sum.inr b)=false:=decide_eq_false (fun q=>nomatch q)
theorem ZqE(a:Str)(b:Int):decide ((Sum.inr a:Key)=Sum.inl b)=false:=decide_eq_false (fun q=>nomatch q)
noncomputable def ZH(prog:Program)(w:World):PySem.KeyKind prog w Key where
 is:=V1
 hash:=Oa w
 inj:=fun v a b g f=>by
  rcases WW g with⟨i,t,rfl,rfl⟩|⟨x,t,rfl,rfl⟩
  ·rcases WW f with⟨j,u,rfl,e⟩|⟨y,u,rfl,e⟩
   ·injection e with c _;rw[c]
   ·exact nomatch e
  ·rcases WW f with⟨j,u,rfl,e⟩|⟨y,u,rfl,e⟩
   ·exact nomatch e
   ·injection e with c _;rw[c]
 byValue:=fun k v h=>by rcases WW h with⟨i,t,rfl,rfl⟩|⟨x,t,rfl,rfl⟩<;>rfl
 pyHash:=fun d h=>by
  rcases WW d with⟨i,t,rfl,rfl⟩|⟨x,t,rfl,rfl⟩
  ·exact wpAny_pyHash_int h
  ·exact wpAny_pyHash_str h
 eqBool:=fun l d h=>by
  rcases WW l with⟨i,t,rfl,rfl⟩|⟨x,t,rfl,rfl⟩
  ·rcases WW d with⟨j,u,rfl,rfl⟩|⟨y,u,rfl,rfl⟩
   ·rw[ZqT]at h;exact wpAny_eqBool_int h
   ·rw[Zqz]at h;exact SeqAt.EqAt.int_str i t y u _ _ _ _ h
  ·rcases WW d with⟨j,u,rfl,rfl⟩|⟨y,u,rfl,rfl⟩
   ·rw[ZqE]at h;exact SeqAt.EqAt.str_int x t j u _ _ _ _ h
   ·rw[Zqc]at h;exact wpAny_eqBool_str h
 «strs»:=fun k x t v h=>by
  rcases WW h with⟨i,u,rfl,e⟩|⟨y,u,rfl,e⟩
  ·exact nomatch e
  ·injection e with c _;subst c;cases v<;>rfl
theorem Zj1(prog:Program)(w:World)(k:Key)(v:Value):(ZH prog w).is k v=V1 k v:=rfl
theorem Zjc(prog:Program)(w:World)(i:Int)(t:Tok):(ZH prog w).is (.inl i) (.int i t)=true:=Zlz i t
theorem Zji(prog:Program)(w:World)(x:Str)(t:Tok):(ZH prog w).is (.inr x) (.str x t)=true:=Zmf x t
inductive V where
 | non|bl (b:Bool)|int (i:Int)|str (x:Str)|byt (b:Array UInt8)|flt (b:UInt64)|ref (a:Addr)|ty (n:String)
 deriving DecidableEq
def ZL:V→Value→Prop
 | .non,u=>u=Value.none
 | .bl b,u=>u=Value.bool b
 | .int i,u=>∃t,u=Value.int i t
 | .str x,u=>∃t,u=Value.str x t
 | .byt b,u=>∃t,u=Value.bytes b t
 | .flt b,u=>∃t,u=Value.float b t
 | .ref a,u=>u=Value.ref a
 | .ty n,u=>u=Value.type n
abbrev ZJ:List V→List Value→Prop:=Paired ZL
theorem ZJ.length{xs:List V}{us:List Value}(r:ZJ xs us):xs.length=us.length:=Paired.length r
theorem ZJ.get:∀ {xs:List V} {us:List Value} {i:Nat} {x:V},ZJ xs us→xs[i]? = some x→∃u,us[i]? = some u∧ZL x u
 | _,_,_,_,.nil,e=>by simp at e
 | _,_,0,_,.cons r _,e=>by simp at e;subst e;exact⟨_,rfl,r⟩
 | _,_,i+1,x,.cons _ t,e=>by obtain⟨u,h1,h2⟩:=ZJ.get (i:=i) (x:=x) t (by simpa using e);exact⟨u,by simpa using h1,h2⟩
theorem ZJ.set{x:V}{u:Value}(r:ZL x u):∀ {xs:List V} {us:List Value} (i:Nat),ZJ xs us→ZJ (xs.set i x) (us.set i u)
 | _,_,_,.nil=>.nil
 | _,_,0,.cons _ t=>.cons r t
 | _,_,i+1,.cons q t=>.cons q (ZJ.set r i t)
theorem ZJ.append:∀ {xs ys:List V} {us ws:List Value},ZJ xs us→ZJ ys ws→ZJ (xs++ys) (us++ws)
 | _,_,_,_,.nil,s=>s
 | _,_,_,_,.cons r t,s=>.cons r (ZJ.append t s)
theorem ZJ.take:∀ {xs:List V} {us:List Value} (n:Nat),ZJ xs us→ZJ (xs.take n) (us.take n)
 | _,_,0,_=>.nil
 | _,_,_+1,.nil=>.nil
 | _,_,n+1,.cons r t=>.cons r (ZJ.take n t)
theorem ZJ.drop:∀ {xs:List V} {us:List Value} (n:Nat),ZJ xs us→ZJ (xs.drop n) (us.drop n)
 | _,_,0,r=>r
 | _,_,_+1,.nil=>.nil
 | _,_,n+1,.cons _ t=>ZJ.drop n t
def Yd:Option V→Option Value→Prop
 | some v,some u=>ZL v u
 | none,none=>True
 | _,_=>False
def KV{a:Type}:List (a×V)→List (a×Value)→Prop:=Paired fun (p:a×V) (q:a×Value)=>p.1=q.1∧ZL p.2 q.2
noncomputable def kV:Key→V
 | .inl i=>.int i
 | .inr x=>.str x
inductive HO where
  | lst (xs:List V)
  | tup (xs:List V)
  | dK (kvs:List (Key×V))|dT (kvs:List (List Key×V))
  | set (S:Int→Bool) (n:Nat)
  | ins (C dx:Addr) (fs:List (Str×V))
  | own (x:Addr)
  | xd (fs:List (Str×V))
  | met (f x:Addr)
  | rng (lo hi:Int)
  | frz (o:Obj) (u:HO)
  | tbl (ps:Array Value)
  | ext (φ:Heap→Prop)
abbrev Hp:=Addr→Option HO
noncomputable def upd(H:Hp)(a:Addr)(o:HO):Hp:=fun b=>if b=a then some o else H b
theorem Zd{H:Hp}{a:Addr}{o:HO}:upd H a o a=some o:=by unfold upd;rw[if_pos rfl]
theorem Zc{H:Hp}{a b:Addr}{o:HO}(h:b≠a):upd H a o b=H b:=by unfold upd;rw[if_neg h]
theorem Zoo{H:Hp}{a:Addr}{o u:HO}:upd (upd H a o) a u=upd H a u:=by funext b;unfold upd;split<;>rfl
theorem Sd{H:Hp}{a b:Addr}{o u:HO}(h:H a=some o)(h':H b=some u)(d:o≠u):a≠b:=by intro e;subst e;rw[h]at h';exact d (Qp h')
theorem Zb{H:Hp}{a b:Addr}{o:HO}(h:H a=some o)(h':H b=none):a≠b:=by intro e;subst e;rw[h]at h';cases h'
section
variable (P:Program) (w:World)
def YZ(H:Hp)(h:Heap)(a:Addr):HO→Prop
 | .lst xs=>xs.length≤sizeLine∧∃ (its:List Value) (n:Nat),ZJ xs its∧h.get? a=some { cls:=.type "list",data:=.seq its.toArray n }
 | .tup xs=>xs.length≤sizeLine∧∃its:List Value,ZJ xs its∧IsTup h a its.toArray
 | .dK b=>b.length≤sizeLine∧(a == sysModules)=false∧∃g,KV b g∧h.DictOf (ZH P w) a g
 | .dT b=>b.length≤sizeLine∧(a == sysModules)=false∧∃xs:List (List Key×Addr×Value),
   Paired (fun (p:List Key×V) (q:List Key×Addr×Value)=>p.1=q.1∧H q.2.1=some (.tup (p.1.map kV))∧ZL p.2 q.2.2) b xs ∧
   ∃o i l,h.get? a=some o∧o.ExactDict∧o.data=.dict i l∧i.toList=xs.map (entryOfKey (tupleKind (ZH P w)))∧(xs.map (·.1)).Nodup
 | .set S n=>h.SetOf (intKind P w) a S n
 | .ins C d fs=>H d=some (.own a)∧fs.length≤1000∧d≠a∧h.get? a=some (PySem.W.instObj C d) ∧
   ∃c,h.Ns1 d c∧(∀f,Yd (fs.lookup f) (c f))∧PySem.Within c (fs.map (·.1))
 | .own _=>∃o,h.get? a=some o
 | .xd fs=>∃c,h.Ns1 a c∧∀f,Yd (fs.lookup f) (c f)
 | .rng lo m=>∃t u v,h.get? a=some { cls:=.type "range",data:=.fields #[.int lo t,.int m u,.int 1 v] }
 | .frz o u=>h.get? a=some o∧YZ H h a u
 | .tbl r=>h.get? a=some { cls:=.none,data:=.fields r }
 | .met f x=>h.get? a=some (PySem.W.methodObj (.ref f) (.ref x))
 | .ext e=>e h∧(∃o,h.get? a=some o)∧∀j k:Heap,e j→(∀o,j.get? a=some o→k.get? a=some o)→e k
def HOk(H:Hp)(h:Heap):Prop:=∀a o,H a=some o→YZ P w H h a o
end
section
variable {P:Program} {w:World} {H H':Hp} {h h':Heap} {a:Addr} {o:HO}
theorem YZ.lt(x:YZ P w H h a o):a<h.objs.size:=by
 cases o with
 | lst c=>obtain⟨_,_,_,_,e⟩:=x;exact Qq e
 | tup c=>obtain⟨_,_,_,p⟩:=x;exact p.lt
 | dK b=>obtain⟨_,_,_,_,o,_,_,e,_⟩:=x;exact Qq e
 | dT b=>obtain⟨_,_,_,_,o,_,_,e,_⟩:=x;exact Qq e
 | set S n=>obtain⟨o,_,_,_,e,_⟩:=x;exact Qq e
 | ins C dx fs=>obtain⟨_,_,_,e,_⟩:=x;exact Qq e
 | own y=>obtain⟨_,e⟩:=x;exact Qq e
 | xd fs=>obtain⟨_,⟨_,_,_,e,_⟩,_⟩:=x;exact Qq e
 | rng lo hi=>obtain⟨_,_,_,e⟩:=x;exact Qq e
 | frz ob u=>obtain⟨e,_⟩:=x;exact Qq e
 | tbl ps=>exact Qq (show h.get? a=some _ from x)
 | met f y=>exact Qq (show h.get? a=some _ from x)
 | ext φ=>obtain⟨_,⟨_,e⟩,_⟩:=x;exact Qq e
theorem Paired.mapP{α c:Type}{F G:α→c→Prop}:∀ {d:List α} {e:List c},Paired F d e→(∀a b,F a b→G a b)→Paired G d e
 | _,_,.nil,_=>.nil
 | _,_,.cons r t,f=>.cons (f _ _ r) (Paired.mapP t f)
theorem YZ.stay(x:YZ P w H h a o)(k:∀b u,(b=a∨H b=some (.own a))→h.get? b=some u→h'.get? b=some u)
  (B:∀b,H b=some (.own a)→H' b=some (.own a)) (D:∀b xs,H b=some (.tup xs)→H' b=some (.tup xs)):YZ P w H' h' a o:=by
 induction o with
 | lst xs=>obtain⟨z,its,n,r,e⟩:=x;exact⟨z,its,n,r,k _ _ #[8] e⟩
 | tup xs=>obtain⟨z,its,r,g,e,c⟩:=x;exact⟨z,its,r,g,k _ _ #[8] e,c⟩
 | dK l=>obtain⟨z,y,E,r,g,i,j,e,c⟩:=x;exact⟨z,y,E,r,g,i,j,k _ _ #[8] e,c⟩
 | dT l=>obtain⟨z,y,xs,r,g,i,j,e,c⟩:=x;exact⟨z,y,xs,Paired.mapP r fun p q z=>⟨z.1,D _ _ z.2.1,z.2.2⟩,g,i,j,k _ _ #[8] e,c⟩
 | set S n=>obtain⟨g,i,j,t,e,c⟩:=x;exact⟨g,i,j,t,k _ _ #[8] e,c⟩
 | ins C dx fs=>obtain⟨d,z,ne,e,m,⟨s,i,j,F,c⟩,r⟩:=x;exact⟨B _ d,z,ne,k _ _ #[8] e,m,⟨s,i,j,k _ _ (.inr d) F,c⟩,r⟩
 | own y=>obtain⟨g,e⟩:=x;exact⟨g,k _ _ #[8] e⟩
 | xd fs=>obtain⟨m,⟨s,i,j,e,c⟩,r⟩:=x;exact⟨m,⟨s,i,j,k _ _ #[8] e,c⟩,r⟩
 | rng lo hi=>obtain⟨t,u,v,e⟩:=x;exact⟨t,u,v,k _ _ #[8] e⟩
 | frz g u G=>obtain⟨e,q⟩:=x;exact⟨k _ _ #[8] e,G q⟩
 | tbl A=>have e:h.get? a=some { cls:=.none,data:=.fields A }:=x;show h'.get? a=some { cls:=.none,data:=.fields A };exact k a _ #[8] e
 | met f y=>have e:h.get? a=some (PySem.W.methodObj (.ref f) (.ref y)):=x;show h'.get? a=some (PySem.W.methodObj (.ref f) (.ref y));exact k a _ #[8] e
 | ext φ=>obtain⟨p,⟨o,e⟩,st⟩:=x;exact⟨st _ _ p fun o q=>k _ _ #[8] q,⟨o,k _ _ #[8] e⟩,st⟩
theorem HOk.lt(x:HOk P w H h)(e:H a=some o):a<h.objs.size:=(x a o e).lt
theorem HOk.fresh(x:HOk P w H h)(e:h.objs.size≤a):H a=none:=by
 cases q:H a with
 | none=>rfl
 | some u=>exact absurd (QC (x.lt q) e) (Q7 _)
theorem HOk.kept(x:HOk P w H h)(k:∀b u,h.get? b=some u→h'.get? b=some u):HOk P w H h':=fun a o e =>
 (x a o e).stay (fun b u _ q=>k b u q) (fun _ q=>q) fun _ _ q=>q
theorem HOk.laid(x:HOk P w H h)(k:∀b u,h.get? b=some u→h'.get? b=some u)(hp:h.objs.size≤a)(new:YZ P w (upd H a o) h' a o):HOk P w (upd H a o) h':=fun b u e=>by
 have d:=x.fresh hp;by_cases f:b=a
 ·subst f;rw[Zd]at e;cases e;exact new
 ·rw[Zc f]at e;exact(x b u e).stay (fun c v _ q=>k c v q) (fun c q=>by rw[Zc (Zb q d)];exact q) fun c xs q=>by rw[Zc (Zb q d)];exact q
end
def Rd(H:Hp)(a:Addr)(u:HO):Prop:=H a=some u∨∃o,H a=some (.frz o u)
theorem Rd.ok{P:Program}{w:World}{H:Hp}{h:Heap}{a:Addr}{u:HO}(r:Rd H a u)(x:HOk P w H h):YZ P w H h a u:=by
 rcases r with r|⟨o,r⟩
 ·exact x a u r
 ·obtain⟨_,q⟩:=x a _ r;exact q
def Mut:Option HO→Prop
 | some (.lst _)=>True
 | some (.dK _)=>True
 | some (.dT _)=>True
 | some (.set _ _)=>True
 | some (.ins _ _ _)=>True
 | some (.ext _)=>True
 | _=>False
section
variable {P:Program} {w:World} {H:Hp} {h h':Heap} {x e:Addr} {o':HO}
theorem HOk.write(ok:HOk P w H h)(a:Mut (H x))(he:e=x∨H e=some (.own x))(k:∀b u,b≠e→h.get? b=some u→h'.get? b=some u)(l:∃u,h'.get? e=some u)
  (new:YZ P w (upd H x o') h' x o'):HOk P w (upd H x o') h':=fun b u q=>by
 have i:∀c y,H c=some (.own y)→c≠x:=fun c y r z=>by subst z;rw[r]at a;exact a
 have m:∀c d,H c=some (.tup d)→c≠x:=fun c d r z=>by subst z;rw[r]at a;exact a
 by_cases f:b=x
 ·subst f;rw[Zd]at q;cases q;exact new
 ·rw[Zc f]at q;by_cases g:b=e
  ·have j:H b=some (.own x):=by
    rcases he with z|z
    ·exact absurd (g.trans z) f
    ·rw[g];exact z
   rw[q]at j;cases j;obtain⟨v,n⟩:=l;exact⟨v,by rw[g];exact n⟩
  ·refine(ok b u q).stay (fun c v hc r=>k c v ?_ r) (fun c r=>by rw[Zc (i c b r)];exact r) fun c d r=>by rw[Zc (m c d r)];exact r
   rcases hc with rfl|hc
   ·exact g
   ·rintro rfl;rcases he with z|z
    ·exact i c b hc z
    ·rw[hc]at z;cases z;exact f rfl
end
structure Un (fs ex:List Addr) (H H':Hp) (h h':Heap):Prop where
 keep:∀b o,h.get? b=some o→H b=none→b ∉ fs→b ∉ ex→h'.get? b=some o
 slot:∀b o,h.get? b=some o→H b=none→b∈fs→b ∉ ex→∃sl,h'.get? b=some { o with slots:=sl }
 free:∀b o,h.get? b=some o→H b=none→b ∉ ex→H' b=none
 there:∀b o,h.get? b=some o→b ∉ ex→∃o',h'.get? b=some o'
 tups:∀b xs,H b=some (.tup xs)→H' b=some (.tup xs)
 frzs:∀b o u,H b=some (.frz o u)→H' b=some (.frz o u)
 tbls:∀b ps,H b=some (.tbl ps)→∃more,H' b=some (.tbl (ps++more))
section
variable {fs kU ex IZ:List Addr} {H H1 H2:Hp} {h h1 h2 h':Heap} {a x e:Addr} {o:HO}
theorem Un.any(u:Un fs ex H H1 h h1){b:Addr}{ob:Obj}(q:h.get? b=some ob)(n:H b=none)(hx:b ∉ ex):∃sl,h1.get? b=some { ob with slots:=sl }:=by
 by_cases a:b∈fs
 ·exact u.slot b ob q n a hx
 ·exact⟨ob.slots,u.keep b ob q n a hx⟩
theorem Un.kept(k:∀b u,h.get? b=some u→h'.get? b=some u):Un fs ex H H h h' :=
 ⟨fun b a q _ _ _=>k b a q,fun b a q _ _ _=>⟨a.slots,k b a q⟩,fun _ _ _ n _=>n,fun b a q _=>⟨a,k b a q⟩,fun _ _ q=>q,fun _ _ _ q=>q,fun _ ps q=>⟨#[],by rw[q];simp⟩⟩
theorem Un.refl:Un fs ex H H h h:=Un.kept fun _ _ q=>q
theorem Un.laid(k:∀b u,h.get? b=some u→h'.get? b=some u)(hp:h.objs.size≤a)(c:H a=none):Un fs ex H (upd H a o) h h' where
 keep:=fun b u q _ _ _=>k b u q
 slot:=fun b u q _ _ _=>⟨u.slots,k b u q⟩
 free:=fun b u q n _=>by rw[Zc (QB (QC (Qq q) hp))];exact n
 there:=fun b u q _=>⟨u,k b u q⟩
 tups:=fun b d q=>by rw[Zc (Zb q c)];exact q
 frzs:=fun b u d q=>by rw[Zc (Zb q c)];exact q
 tbls:=fun b ps q=>⟨#[],by rw[Zc (Zb q c),q];simp⟩
theorem Un.write(a:Mut (H x))(he:e=x∨H e=some (.own x))(k:∀b u,b≠e→h.get? b=some u→h'.get? b=some u)(i:∃u,h'.get? e=some u):Un fs ex H (upd H x o) h h':=by
 have d:∀b,H b=none→b≠x:=fun b n z=>by subst z;rw[n]at a;exact a
 have f:∀b,H b=none→b≠e:=fun b n z=>by
  subst z;rcases he with r|r
  ·exact d b n r
  ·rw[n]at r;cases r
 have c:∀b u,H b=some u→¬ Mut (some u)→b≠x:=fun b u q j z=>by subst z;rw[q]at a;exact j a
 refine⟨fun b u q n _ _=>k b u (f b n) q,fun b u q n _ _=>⟨u.slots,k b u (f b n) q⟩,fun b u q n _=>by rw[Zc (d b n)];exact n,fun b u q _=>?_,
  fun b l q=>by rw[Zc (c b _ q fun z=>z)];exact q,fun b u l q=>by rw[Zc (c b _ q fun z=>z)];exact q,fun b ps q=>⟨#[],by rw[Zc (c b _ q fun z=>z),q];simp⟩⟩
 by_cases g:b=e
 ·subst g;exact i
 ·exact⟨u,k b u g q⟩
end
noncomputable def trk(h:Heap)(H:Hp):List Addr:=(List.range h.objs.size).filter fun a=>(H a).isSome
noncomputable def WE(h:Heap)(H:Hp):Heap:=PySem.W.hideAll h (trk h H)
theorem ZlX(h:Heap)(H:Hp):(WE h H).objs.size=h.objs.size:=PySem.W.hideAll_size _ _
theorem Zn9{h:Heap}{H:Hp}{b:Addr}{o:Obj}(e:h.get? b=some o)(n:H b=none):(WE h H).get? b=some o :=
 PySem.W.hideAll_get _ e fun a=>by have q:(H b).isSome=true:=(Qab.mp a).2;rw[n]at q;simp at q
theorem ZoQ{h:Heap}{H:Hp}{b:Addr}{o:Obj}(e:(WE h H).get? b=some o):h.get? b=some o∧H b=none:=by
 have a:h.get? b=some o:=PySem.W.of_hideAll (trk h H) e;refine⟨a,?_⟩;cases q:H b with
 | none=>rfl
 | some x=>have c:b∈trk h H:=List.mem_filter.mpr ⟨Q1.mpr (Qq a),by simp[q]⟩;have z:(WE h H).get? b=none:=PySem.W.hideAll_none (trk h H) c;rw[z]at e;cases e
noncomputable def Zpc(g h:Heap)(L:Addr):List (Addr×Obj):=(List.range h.objs.size).filterMap fun a=>if a=L∨(g.get? a).isSome=true then none else (h.get? a).map fun o=>(a,o)
noncomputable def rest(g h:Heap)(L d:Addr):List (Addr×Obj):=(Zpc g h L).filter fun p=>decide (p.1≠d)
structure Mod (K:#[7]) (mg:Str→Option Value) (base:Heap):Prop where
 kin:K.In base
 glob:base.Ns mainGlobals mg
 blt:∃mb,base.Ns builtinsNs mb∧∀x:Str,x ≠ "__name__"→mb x=bootBuiltins x
 nolimit:base.NoLimit
structure Cx where
 prog:Program
 w:World
 K:#[7]
 mg:Str→Option Value
 base:Heap
 A:Around
 N:List Str
 s₀:Shared
 H₀:Hp
 env:Env
 outer:List Env
 stack:List Env
 ex:List Addr
 fn:Str→Bool
 calm:Bool
 pn:List (Addr×Obj)
 xe:Value→Shared→Prop
noncomputable def frs(l:List Env):List Addr:=l.filterMap (·.frame)
noncomputable abbrev Cx.fs(X:Cx):List Addr:=frs X.outer
def Vis(a:Scope)(x:Str):Prop:=a.names.lookup x=some .local∨a.names.lookup x=some .cell∨a.names.lookup x=some .free
def Loc(a:Scope)(x:Str):Prop:=a.names.lookup x=some .local∨a.names.lookup x=some .cell
def Zsa(env:Env)(h:Heap)(m:Str→Option Value)(x:Str)(u:Value):Prop :=
 (env.kindOf x=some .local∧m x=some u)∨((env.kindOf x=some .cell∨env.kindOf x=some .free)∧∃c,env.cells.lookup x=some c∧h.IsCell c (some u))
structure Cx.Ok (X:Cx):Prop where
 mod:Mod X.K X.mg X.base
 kind:X.env.scope.kind=.function
 glob:X.env.globals=mainGlobals
 blt:X.env.builtins=builtinsNs
 above:X.s₀.heap.objs.size≤X.env.locals
 inj:∀x y c,X.env.cells.lookup x=some c→X.env.cells.lookup y=some c→x=y
 has:∀x,(X.env.kindOf x=some .cell∨X.env.kindOf x=some .free)→∃c,X.env.cells.lookup x=some c
 cab:∀x c,X.fn x=true→X.env.cells.lookup x=some c→X.s₀.heap.objs.size≤c
 hd:X.calm=true→X.A.handled=none
 frames:X.A.frames=some X.stack
 stk:X.stack=X.outer∨(X.stack=X.env::X.outer∧X.env.frame=some X.env.locals)
 exf:∀b∈X.ex,b≠X.env.locals∧∀x c,X.env.cells.lookup x=some c→c≠b
 bs:∀b o,X.base.get? b=some o→X.s₀.heap.get? b=some o∧X.H₀ b=none
 bsz:X.base.objs.size≤X.s₀.heap.objs.size
 noex:∀b o,X.base.get? b=some o→b ∉ X.ex
 exfs:∀b∈X.ex,b ∉ X.fs
 funs:X.s₀.heap.FunFrames X.base X.outer
 frf:∀b∈X.fs,X.H₀ b=none
structure Inv (X:Cx) (aa:List (Addr×Obj)) (σ:List (Option V)) (H:Hp) (s:Shared):Prop where
 ok:X.Ok
 os:s.os=X.s₀.os
 bare:AllBare s.gens
 base:Un X.fs X.ex X.H₀ H X.s₀.heap s.heap
 loc:∃m,s.heap.Ns X.env.locals m∧∀ (i:Nat) (x:Str) (v:V),X.N[i]? = some x→σ[i]? = some (some v)→Vis X.env.scope x→∃u,ZL v u∧Zsa X.env s.heap m x u
 cell:∀x c,X.env.cells.lookup x=some c→∃v,s.heap.IsCell c v
 free:H X.env.locals=none
 freeC:∀x c,X.env.cells.lookup x=some c→H c=none
 pin:∀p∈X.pn++aa,s.heap.get? p.1=some p.2∧H p.1=none∧p.1≠X.env.locals∧p.1 ∉ X.fs∧∀v,p.2.data≠.cell v
 hok:HOk X.prog X.w H s.heap
 len:σ.length=X.N.length
section
variable {X:Cx} {aa:List (Addr×Obj)} {σ:List (Option V)} {H H':Hp} {s:Shared} {h':Heap}
theorem Cx.Ok.nofr(ok:X.Ok){b:Addr}{o:Obj}(e:X.base.get? b=some o):b ∉ X.fs:=fun hb=>by have:=(ok.funs.mem hb).1;rw[e]at this;cases this
theorem Inv.bs(I:Inv X aa σ H s):∀b o,X.base.get? b=some o→s.heap.get? b=some o∧H b=none:=fun b o e =>
 ⟨I.base.keep b o (I.ok.bs b o e).1 (I.ok.bs b o e).2 (I.ok.nofr e) (I.ok.noex b o e),I.base.free b o (I.ok.bs b o e).1 (I.ok.bs b o e).2 (I.ok.noex b o e)⟩
theorem Inv.bk(I:Inv X aa σ H s):∀b o,X.base.get? b=some o→s.heap.get? b=some o:=fun b o e=>(I.bs b o e).1
theorem Inv.mod(I:Inv X aa σ H s):Mod X.K X.mg X.base:=I.ok.mod
theorem Inv.kIn(I:Inv X aa σ H s):X.K.In s.heap:=I.ok.mod.kin.keeps I.bk
theorem Inv.lt(I:Inv X aa σ H s):X.env.locals<s.heap.objs.size:=let ⟨_,a,_⟩:=I.loc;a.lt
theorem Inv.sz(I:Inv X aa σ H s):X.s₀.heap.objs.size≤s.heap.objs.size:=Qv I.ok.above (Qam I.lt)
theorem Inv.nofs(I:Inv X aa σ H s){a:Addr}(h:s.heap.objs.size≤a):a ∉ X.fs:=fun hb=>by obtain⟨_,o,b,_⟩:=I.ok.funs.mem hb;exact absurd (QC (Qq b) (Qv I.sz h)) (Q7 _)
theorem Inv.cne(I:Inv X aa σ H s):∀x c,X.env.cells.lookup x=some c→c≠X.env.locals:=fun x c e z=>by obtain⟨v,o,a,b⟩:=I.cell x c e;obtain⟨m,⟨o',es,ep,d,f,_⟩,_⟩:=I.loc;rw[z,d]at a;cases a;rw[f]at b;cases b
theorem Inv.funs(I:Inv X aa σ H s):s.heap.FunFrames X.base X.outer:=by
 have all:∀ (l:List Env),(∀b∈frs l,b∈X.fs)→X.s₀.heap.FunFrames X.base l→s.heap.FunFrames X.base l:=by
  intro l;induction l with
  | nil=>intro _ _;trivial
  | cons env r g=>intro f h;obtain⟨i,⟨L,o,a,j,k,m⟩,n⟩:=h;have c:L∈X.fs:=f L (by unfold frs;rw[Q0,a];exact QP);obtain⟨sl,e⟩:=I.base.slot L o k (I.ok.frf L c) c fun z=>I.ok.exfs L z c;exact⟨i,⟨L,_,a,j,e,m⟩,g (fun b d=>f b (by unfold frs;rw[Q0,a];exact Qt _ d)) n⟩
 exact all X.outer (fun _ d=>d) I.ok.funs
theorem Inv.stack(I:Inv X aa σ H s):s.heap.FunFrames X.base X.stack:=by
 rcases I.ok.stk with e|⟨e,a⟩
 ·rw[e];exact I.funs
 ·rw[e];obtain⟨m,b,_⟩:=I.loc;refine .cons (by rw[I.ok.kind];decide) a b ?_ I.funs;exact Heap.get?_none_of_le (Qv I.ok.bsz I.ok.above)
theorem Inv.stkSub(I:Inv X aa σ H s):∀b∈frs X.stack,b∈X.env.locals::X.fs:=fun b hb=>by
 rcases I.ok.stk with e|⟨e,a⟩
 ·rw[e]at hb;exact Qt _ hb
 ·rw[e]at hb;unfold frs at hb;rw[Q0,a]at hb;exact hb
theorem Inv.stkFree(I:Inv X aa σ H s):∀b∈frs X.stack,H b=none:=fun b hb=>by
 rcases QG.mp (I.stkSub b hb) with e|hb
 ·rw[e];exact I.free
 ·obtain⟨_,o,a,_⟩:=I.ok.funs.mem hb;exact I.base.free b o a (I.ok.frf b hb) fun z=>I.ok.exfs b z hb
theorem Inv.step{g':Array GenState}{t':Nat}{d':Drawn}{ch:List Addr}(I:Inv X aa σ H s)
  (w:∀b∈ch,(b∈X.ex∨X.s₀.heap.objs.size≤b)∧b≠X.env.locals∧(∀x c,X.env.cells.lookup x=some c→c≠b)∧∀p∈X.pn++aa,p.1≠b)
  (keep:∀b o,b≠X.env.locals→b ∉ X.fs→b ∉ ch→s.heap.get? b=some o→H b=none→h'.get? b=some o)
  (slot:∀b o,b≠X.env.locals→b∈X.fs→b ∉ ch→s.heap.get? b=some o→H b=none→∃sl,h'.get? b=some { o with slots:=sl }) (free:∀b o,b ∉ ch→s.heap.get? b=some o→H b=none→H' b=none)
  (h:∀b o,b ∉ ch→s.heap.get? b=some o→∃y,h'.get? b=some y)
  (A:∀b g,H b=some (.tup g)→H' b=some (.tup g)) (B:∀b o u,H b=some (.frz o u)→H' b=some (.frz o u)) (C:∀b G,H b=some (.tbl G)→∃D,H' b=some (.tbl (G++D)))
  (R:∀m,s.heap.Ns X.env.locals m→h'.Ns X.env.locals m) (K:HOk X.prog X.w H' h') (S:AllBare g') :
  Inv X aa σ H' { s with heap:=h',gens:=g',drawn:=d',toks:=t' }:=by
 have M:∀b o,X.s₀.heap.get? b=some o→b≠X.env.locals:=fun b o e=>QB (QC (Qq e) I.ok.above);have J:∀b o,X.s₀.heap.get? b=some o→b ∉ X.ex→b ∉ ch:=fun b o e a j=>by
  rcases(w b j).1 with z|z
  ·exact a z
  ·exact absurd (QC (Qq e) z) (Q7 _)
 have N:∀x c,X.env.cells.lookup x=some c→∀v,s.heap.IsCell c v→h'.IsCell c v:=fun x c e v ⟨o,t,L⟩=>by
  have E:c ∉ ch:=fun z=>(w c z).2.2.1 x c e rfl;by_cases O:c∈X.fs
  ·obtain⟨sl,q⟩:=slot c o (I.cne x c e) O E t (I.freeC x c e);exact⟨_,q,L⟩
  ·exact⟨o,keep c o (I.cne x c e) O E t (I.freeC x c e),L⟩
 refine⟨I.ok,I.os,S,⟨fun b o e n j a=>?_,fun b o e n j a=>?_,fun b o e n a=>?_,fun b o e a=>?_,fun b g e=>A b g (I.base.tups b g e),fun b o g e=>B b o g (I.base.frzs b o g e),fun b G e=>?_⟩,?_,fun x c e=>?_,?_,fun x c e=>?_,fun p P=>?_,K,I.len⟩
 ·exact keep b o (M b o e) j (J b o e a) (I.base.keep b o e n j a) (I.base.free b o e n a)
 ·obtain⟨sl,f⟩:=I.base.slot b o e n j a;obtain⟨T,F⟩:=slot b _ (M b o e) j (J b o e a) f (I.base.free b o e n a);exact⟨T,F⟩
 ·obtain⟨y,f⟩:=I.base.there b o e a;exact free b y (J b o e a) f (I.base.free b o e n a)
 ·obtain⟨y,f⟩:=I.base.there b o e a;exact h b y (J b o e a) f
 ·obtain⟨U,f⟩:=I.base.tbls b G e;obtain⟨V,F⟩:=C b _ f;exact⟨U++V,by rw[F,Array.append_assoc]⟩
 ·obtain⟨m,W,Y⟩:=I.loc;refine⟨m,R m W,fun i x v f F Z=>?_⟩;obtain⟨u,r,l⟩:=Y i x v f F Z;refine⟨u,r,?_⟩;rcases l with l|⟨k,c,e,z⟩
  ·exact .inl l
  ·exact .inr ⟨k,c,e,N x c e _ z⟩
 ·obtain⟨v,z⟩:=I.cell x c e;exact⟨v,N x c e v z⟩
 ·obtain⟨m,⟨o,_,_,t,_⟩,_⟩:=I.loc;exact free _ o (fun z=>(w _ z).2.1 rfl) t I.free
 ·obtain⟨v,o,t,L⟩:=I.cell x c e;exact free c o (fun z=>(w c z).2.2.1 x c e rfl) t (I.freeC x c e)
 ·obtain⟨e,n,ne,Q,d⟩:=I.pin p P;have E:p.1 ∉ ch:=fun z=>(w p.1 z).2.2.2 p P rfl;exact⟨keep p.1 p.2 ne Q E e n,free p.1 p.2 E e n,ne,Q,d⟩
theorem Inv.un{t':Nat}(I:Inv X aa σ H s)(u:Un X.fs [] H H' s.heap h')(hok:HOk X.prog X.w H' h'):Inv X aa σ H' { s with heap:=h',toks:=t' }:=by obtain⟨m,⟨o,es,ep,c,r⟩,_⟩:=id I.loc;obtain⟨sl,f⟩:=u.any c I.free #[4];exact I.step (g':=s.gens) (d':=s.drawn) (ch:=[]) (fun _ z=>nomatch z) (fun b o _ a _ e n=>u.keep b o e n a #[4]) (fun b o _ a _ e n=>u.slot b o e n a #[4]) (fun b o _ e n=>u.free b o e n #[4]) (fun b o _ e=>u.there b o e #[4]) u.tups u.frzs u.tbls (fun m' g=>by obtain⟨o',h,i,d,j⟩:=g;rw[c]at d;cases d;exact⟨_,h,i,f,j⟩) hok I.bare
theorem Inv.call{g':Array GenState}{t':Nat}{d':Drawn}{ch:List Addr}(I:Inv X aa σ H s)(u:Un (frs X.stack) ch H H' s.heap h')(hok:HOk X.prog X.w H' h')(i:AllBare g')
  (f:∀b∈ch,(b∈X.ex∨X.s₀.heap.objs.size≤b)∧b≠X.env.locals∧(∀x c,X.env.cells.lookup x=some c→c≠b)∧∀p∈X.pn++aa,p.1≠b) :
  Inv X aa σ H' { s with heap:=h',gens:=g',drawn:=d',toks:=t' }:=by
 obtain⟨m,⟨o,es,ep,g,r⟩,_⟩:=id I.loc;obtain⟨sl,d⟩:=u.any g I.free fun z=>(f _ z).2.1 rfl;exact I.step (ch:=ch) f (fun b o d j a e n=>u.keep b o e n (fun z=>(QG.mp (I.stkSub b z)).elim d j) a) (fun b o _ _ a e n=>u.any e n a) (fun b o a e n=>u.free b o e n a) (fun b o a e=>u.there b o e a) u.tups u.frzs u.tbls (fun m' k=>by obtain⟨o',l,q,h,t⟩:=k;rw[g]at h;cases h;exact⟨_,l,q,d,t⟩) hok i
theorem Inv.turned{t':Nat}{it:Addr}(I:Inv X aa σ H s)(k:∀b o,b≠it→s.heap.get? b=some o→h'.get? b=some o)(g:H it=none)(d:it≠X.env.locals)
  (h1:it∈X.ex∨X.s₀.heap.objs.size≤it) (h2:∀x c,X.env.cells.lookup x=some c→c≠it) (h:∀p∈X.pn++aa,p.1≠it):Inv X aa σ H { s with heap:=h',toks:=t' }:=by
 have f:∀b u,H b=some u→b≠it:=fun b u e z=>by rw[z,g]at e;cases e
 refine I.step (g':=s.gens) (d':=s.drawn) (ch:=[it]) (fun b i=>?_) (fun b o _ _ a e _=>k b o (fun z=>a (by simp[z])) e) (fun b o _ _ a e _=>⟨o.slots,k b o (fun z=>a (by simp[z])) e⟩) (fun _ _ _ _ n=>n)
  (fun b o a e=>⟨o,k b o (fun z=>a (by simp[z])) e⟩) (fun _ _ e=>e) (fun _ _ _ e=>e) (fun b ps e=>⟨#[],by rw[e];simp⟩) (fun m j=>?_) (fun b u e=>?_) I.bare
 ·have e:b=it:=by simpa using i
  subst e;exact⟨h1,d,h2,h⟩
 ·obtain⟨o,l,t,w,r⟩:=j;exact⟨o,l,t,k _ o (Ne.symm d) w,r⟩
 ·refine(I.hok b u e).stay (fun c v a q=>k c v ?_ q) (fun _ q=>q) fun _ _ q=>q;rcases a with z|z
  ·rw[z];exact f b u e
  ·exact f c _ z
theorem Inv.tok(I:Inv X aa σ H s)(t:Nat):Inv X aa σ H { s with toks:=t }:=I.un (h':=s.heap) (t':=t) Un.refl I.hok
theorem Inv.kept{t':Nat}(I:Inv X aa σ H s)(k:∀b u,s.heap.get? b=some u→h'.get? b=some u):Inv X aa σ H { s with heap:=h',toks:=t' }:=I.un (Un.kept k) (I.hok.kept k)
theorem Inv.laid{a:Addr}{o:HO}{t':Nat}(I:Inv X aa σ H s)(k:∀b u,s.heap.get? b=some u→h'.get? b=some u)(hp:s.heap.objs.size≤a)(new:YZ X.prog X.w (upd H a o) h' a o) :
  Inv X aa σ (upd H a o) { s with heap:=h',toks:=t' }:=I.un (Un.laid k hp (I.hok.fresh hp)) (I.hok.laid k hp new)
theorem Inv.write{x e:Addr}{o:HO}{t':Nat}(I:Inv X aa σ H s)(a:Mut (H x))(he:e=x∨H e=some (.own x))(k:∀b u,b≠e→s.heap.get? b=some u→h'.get? b=some u)(c:∃u,h'.get? e=some u)
  (new:YZ X.prog X.w (upd H x o) h' x o):Inv X aa σ (upd H x o) { s with heap:=h',toks:=t' }:=I.un (Un.write a he k c) (I.hok.write a he k c new)
theorem Inv.pins_of{a:List (Addr×Obj)}(I:Inv X aa σ H s)(h:∀p∈a,s.heap.get? p.1=some p.2∧H p.1=none∧p.1≠X.env.locals∧p.1 ∉ X.fs∧∀v,p.2.data≠.cell v):Inv X a σ H s :=
 ⟨I.ok,I.os,I.bare,I.base,I.loc,I.cell,I.free,I.freeC,fun p b=>(Qm.mp b).elim (fun z=>I.pin p (QF _ z)) (h p),I.hok,I.len⟩
theorem N9{N:List Str}(c:N.Nodup){i j:Nat}{x:Str}(a:N[i]? = some x)(b:N[j]? = some x):i=j:=by obtain⟨h1,d⟩:=Qf.mp a;obtain⟨h2,e⟩:=Qf.mp b;exact(List.getElem_inj c).mp (d.trans e.symm)
theorem N8{M:Model}{A:Around}{E:Value→Shared→Prop}{i:Nat}{x:Str}{v:V}{u:Value}{Q:Unit→Shared→Prop}(I:Inv X aa σ H s)(T:X.N.Nodup)(B:X.N[i]? = some x)(hx:Loc X.env.scope x)(r:ZL v u)
  (h:∀s',Inv X aa (σ.set i (some v)) H s'→(∃a,Heap.SameBut a s.heap s'.heap∧(a=X.env.locals∨X.env.cells.lookup x=some a))→Q () s') (hf:X.fn x=true∨X.env.scope.names.lookup x=some .local:=by first|exact .inl rfl|exact .inr rfl|assumption):wpAny M A (storeName X.env x u) Q E s:=by
 obtain⟨m,F,U⟩:=id I.loc;have tZ:(X.env.scope.kind == .class||(X.env.scope.kind == .module&&X.env.locals != X.env.globals))=false:=by rw[I.ok.kind];rfl
 have W:i<σ.length:=by rw[I.len];exact(Qf.mp B).1
 have cne:=I.cne;have Y:∀ {a:Addr} {h':Heap},(∃o,s.heap.get? a=some o∧H a=none)→Heap.SameBut a s.heap h'→HOk X.prog X.w H h':=fun {a h'} ha f b ob e=>by
  obtain⟨_,_,Z⟩:=ha;refine(I.hok b ob e).stay (fun c C hc q=>(f.2 c ?_).trans q) (fun _ q=>q) fun _ _ q=>q;rintro rfl;rcases hc with rfl|hc
  ·rw[Z]at e;cases e
  ·rw[Z]at hc;cases hc
 rcases hx with hk|hk
 ·refine wpAny_storeName_local hk F (fun h' oi f=>?_) tZ;obtain⟨oL,_,_,lU,_⟩:=id F;refine h _ ⟨I.ok,I.os,I.bare,⟨fun b o e n t hx=>?_,fun b o e n t hx=>?_,I.base.free,fun b o e hx=>?_,I.base.tups,I.base.frzs,I.base.tbls⟩,⟨_,oi,fun j y G g l J=>?_⟩,fun y c e=>?_,I.free,I.freeC,fun p K=>?_,Y ⟨oL,lU,I.free⟩ f,by simpa using I.len⟩ ⟨_,f,.inl rfl⟩
  ·exact(f.2 b (QB (QC (Qq e) I.ok.above))).trans (I.base.keep b o e n t hx)
  ·obtain⟨L,g⟩:=I.base.slot b o e n t hx;exact⟨L,(f.2 b (QB (QC (Qq e) I.ok.above))).trans g⟩
  ·obtain⟨N,g⟩:=I.base.there b o e hx;exact⟨N,(f.2 b (QB (QC (Qq e) I.ok.above))).trans g⟩
  ·by_cases w:j=i
   ·subst w;rw[B]at g;cases g;rw[List.getElem?_set_self W]at l;cases l;exact⟨u,r,.inl ⟨hk,by simp⟩⟩
   ·rw[List.getElem?_set_ne (Ne.symm w)]at l;obtain⟨O,P,q⟩:=U j y G g l J;refine⟨O,P,?_⟩;rcases q with⟨k,e⟩|⟨k,c,e,z⟩
    ·refine .inl ⟨k,?_⟩;have:y≠x:=fun e=>w (N9 T g (e ▸ B));simp[this,e]
    ·exact .inr ⟨k,c,e,z.sameBut f (cne y c e)⟩
  ·obtain⟨C,z⟩:=I.cell y c e;exact⟨C,z.sameBut f (cne y c e)⟩
  ·obtain⟨e,n,ne,R,d⟩:=I.pin p K;exact⟨(f.2 p.1 ne).trans e,n,ne,R,d⟩
 ·have S:X.fn x=true:=by
   rcases hf with z|z
   ·exact z
   ·rw[z]at hk;cases hk
  obtain⟨c,hc⟩:=I.ok.has x (.inl hk);obtain⟨C,z⟩:=I.cell x c hc;refine wpAny_storeName_cell I.ok.kind hk hc z (fun h' jz f=>?_);obtain⟨oc,t4,t9⟩:=id z;refine h { s with heap:=h' } ⟨I.ok,I.os,I.bare,⟨fun b o e n t hx=>?_,fun b o e n t hx=>?_,I.base.free,fun b o e hx=>?_,I.base.tups,I.base.frzs,I.base.tbls⟩,⟨m,F.sameBut f (Ne.symm (cne x c hc)),fun j y G g l J=>?_⟩,fun y D e=>?_,I.free,I.freeC,fun p K=>?_,Y ⟨oc,t4,I.freeC x c hc⟩ f,by simpa using I.len⟩ ⟨c,f,.inr hc⟩
  ·exact(f.2 b (QB (QC (Qq e) (I.ok.cab x c S hc)))).trans (I.base.keep b o e n t hx)
  ·obtain⟨L,g⟩:=I.base.slot b o e n t hx;exact⟨L,(f.2 b (QB (QC (Qq e) (I.ok.cab x c S hc)))).trans g⟩
  ·obtain⟨N,g⟩:=I.base.there b o e hx;exact⟨N,(f.2 b (QB (QC (Qq e) (I.ok.cab x c S hc)))).trans g⟩
  ·by_cases w:j=i
   ·subst w;rw[B]at g;cases g;rw[List.getElem?_set_self W]at l;cases l;exact⟨u,r,.inr ⟨.inl hk,c,hc,jz⟩⟩
   ·rw[List.getElem?_set_ne (Ne.symm w)]at l;obtain⟨O,P,q⟩:=U j y G g l J;refine⟨O,P,?_⟩;rcases q with q|⟨k,D,e,z'⟩
    ·exact .inl q
    ·refine .inr ⟨k,D,e,z'.sameBut f ?_⟩;rintro rfl;exact w (N9 T g (I.ok.inj _ _ _ e hc ▸ B))
  ·by_cases ua:D=c
   ·subst ua;exact⟨_,jz⟩
   ·obtain⟨w2,z2⟩:=I.cell y D e;exact⟨w2,z2.sameBut f ua⟩
  ·obtain⟨e,n,ne,R,d⟩:=I.pin p K;refine⟨(f.2 p.1 ?_).trans e,n,ne,R,d⟩;intro q;rw[q,t4]at e;have q':oc=p.2:=Qp e;exact d C (by rw[← q'];exact t9)
theorem UQ{M:Model}{A:Around}{E:Value→Shared→Prop}{i:Nat}{x:Str}{v:V}{u:Value}{Q:Unit→Shared→Prop}(I:Inv X aa σ H s)(a:X.N.Nodup)(b:X.N[i]? = some x)(hx:Loc X.env.scope x)(r:ZL v u)
  (h:∀s',Inv X aa (σ.set i (some v)) H s'→Q () s') (c:X.fn x=true∨X.env.scope.names.lookup x=some .local:=by first|exact .inl rfl|exact .inr rfl|assumption):wpAny M A (storeName X.env x u) Q E s :=
 N8 I a b hx r (fun s' d _=>h s' d) c
theorem Inv.call'{s':Shared}{ch:List Addr}(I:Inv X aa σ H s)(a:s'.os=s.os)(u:Un (frs X.stack) ch H H' s.heap s'.heap)(hok:HOk X.prog X.w H' s'.heap)(d:AllBare s'.gens)
  (f:∀b∈ch,(b∈X.ex∨X.s₀.heap.objs.size≤b)∧b≠X.env.locals∧(∀x c,X.env.cells.lookup x=some c→c≠b)∧∀p∈X.pn++aa,p.1≠b):Inv X aa σ H' s':=by
 obtain⟨h',g',d',t',g⟩:=s';have e:g=s.os:=a;subst e;exact I.call (g':=g') (t':=t') (d':=d') u hok d f
end
abbrev XK:=Value→Option Addr→Hp→Prop
abbrev St:=List (Option V)
abbrev VK:=V→Hp→Prop
abbrev TE:=St→Hp→VK→Prop
abbrev TT:=St→Hp→(Bool→Hp→Prop)→Prop
abbrev TA:=St→Hp→(List V→Hp→Prop)→Prop
structure Xm where
 nx:St→Hp→Prop
 rt:VK
 bk:St→Hp→Prop:=fun _ _=>False
 ct:St→Hp→Prop:=fun _ _=>False
abbrev TS:=Xm→St→Hp→Prop
def EP(X:Cx)(a:List (Addr×Obj))(b:St)(Q:VK)(u:Value)(s':Shared):Prop:=∃v H',Inv X a b H' s'∧ZL v u∧Q v H'
def TP(X:Cx)(a:List (Addr×Obj))(c:St)(Q:Bool→Hp→Prop)(b:Bool)(s':Shared):Prop:=∃H',Inv X a c H' s'∧Q b H'
def AP(X:Cx)(a:List (Addr×Obj))(b:St)(Q:List V→Hp→Prop)(us:List Value)(s':Shared):Prop:=∃vs H',Inv X a b H' s'∧ZJ vs us∧Q vs H'
def SP(X:Cx)(c:List (Addr×Obj))(D:Xm)(f:Flow)(s':Shared):Prop :=
 match f with
 | .next=>∃b a,Inv X c b a s'∧D.nx b a
 | .brk=>∃b a,Inv X c b a s'∧D.bk b a
 | .cont=>∃b a,Inv X c b a s'∧D.ct b a
 | .ret u=>∃v b a,Inv X c b a s'∧ZL v u∧D.rt v a
def PE(X:Cx)(e:Expr)(t:TE):Prop :=
 ∀ (b:List (Addr×Obj)) (s:Shared) (a:St) (H:Hp) (Q:VK),Inv X b a H s→t a H Q→#[9,X] (eval e X.env) (EP X b a Q) X.xe s
def PT(X:Cx)(e:Expr)(t:TT):Prop :=
 ∀ (b:List (Addr×Obj)) (s:Shared) (a:St) (H:Hp) (Q:Bool→Hp→Prop),Inv X b a H s→t a H Q→#[9,X] (isTrue e X.env (eval e X.env)) (TP X b a Q) X.xe s
def PW(X:Cx)(e:Expr)(t:TT):Prop :=
 ∀ (c:Sem Value) (b:List (Addr×Obj)) (s:Shared) (a:St) (H:Hp) (Q:Bool→Hp→Prop),Inv X b a H s→t a H Q→#[9,X] (isTrue e X.env c) (TP X b a Q) X.xe s
theorem PW.pt{X:Cx}{e:Expr}{t:TT}(h:PW X e t):PT X e t:=h _
def PA(X:Cx)(d:List Expr)(t:TA):Prop :=
 ∀ (a:Pos) (c:List (Addr×Obj)) (s:Shared) (b:St) (H:Hp) (Q:List V→Hp→Prop),Inv X c b H s→t b H Q→#[9,X] (spliced (backTo a (starEach d X.env))) (AP X c b Q) X.xe s
def PS(X:Cx)(st:Stmt)(t:TS):Prop :=
 ∀ (a:List (Addr×Obj)) (s:Shared) (b:St) (H:Hp) (D:Xm),Inv X a b H s→t D b H→#[9,X] (exec st X.env) (SP X a D) X.xe s
def PSs(X:Cx)(st:List Stmt)(t:TS):Prop :=
 ∀ (a:List (Addr×Obj)) (s:Shared) (b:St) (H:Hp) (D:Xm),Inv X a b H s→t D b H→#[9,X] (execs st X.env) (SP X a D) X.xe s
theorem thn{α:Type}{t:Sem α}{Q b:α→Shared→Prop}{M:Model}{A:Around}{E:Value→Shared→Prop}{s:Shared}(h:wpAny M A t Q E s)(c:∀a s,Q a s→b a s):wpAny M A t b E s:=wpAny_mono h c fun _ _ x=>x
section
variable {X:Cx}
inductive EA {α:Type} (A B:α→Prop):Prop where
 | mk (v:α) (a:A v) (b:B v)
def TU(i:Nat):TE:=fun a H Q=>EA (fun v=>a[i]? = some (some v)) (fun v=>Q v H)
def tC(v:V):TE:=fun _ H Q=>Q v H
theorem Sc{i:Nat}{x:Str}{pos:Pos}(f:X.N[i]? = some x)(g:Vis X.env.scope x)(hd:(x == ("__debug__" : Str))=false:=by decide)(j:(x == ("__classdict__" : Str))=false:=by decide):PE X (.Name x pos) (TU i):=by
 intro k s n H Q I h;obtain⟨v,e,h⟩:=h;obtain⟨m,o,p⟩:=I.loc;obtain⟨u,r,l⟩:=p i x v f e g;have a:EP X k n Q u s:=⟨v,H,I,r,h⟩;rcases l with⟨hk,q⟩|⟨hk,c,b,d⟩
 ·exact wpAny_Name (wpAny_loadName_local I.ok.kind hk o q a) hd
 ·rcases hk with hk|hk
  ·exact wpAny_Name (wpAny_loadName_cell I.ok.kind hk b d a) hd
  ·exact wpAny_Name (wpAny_loadName_free I.ok.kind hk b d a j) hd
theorem Zi{i j pos}:PE X (.Constant (.int i) j pos) (tC (.int i)):=fun _ _ _ H _ I h=>wpAny_Constant_int ⟨.int i,H,I.tok _,⟨_,rfl⟩,h⟩
theorem WV{b j pos}:PE X (.Constant (.bool b) j pos) (tC (.bl b)):=fun _ _ _ H _ I h=>Constant_bool ⟨.bl b,H,I,rfl,h⟩
theorem ZT{j pos}:PE X (.Constant .none j pos) (tC .non):=fun _ _ _ H _ I h=>Constant_none ⟨.non,H,I,rfl,h⟩
theorem Zz{x j pos}:PE X (.Constant (.str x) j pos) (tC (.str x)):=fun _ _ _ H _ I h=>Calls.Constant_str ⟨.str x,H,I.tok _,⟨_,rfl⟩,h⟩
def Gl(X:Cx)(x:Str):Prop:=X.env.kindOf x=some .globalImplicit
theorem Sb{E:Value→Shared→Prop}{a:List (Addr×Obj)}{s:Shared}{b:St}{H:Hp}{x:Str}{u:Value}{pos:Pos}{Q:Value→Shared→Prop}(I:Inv X a b H s)(c:Gl X x)(hm:X.mg x=some u)(h:Q u s)
  (hd:(x == ("__debug__" : Str))=false:=by decide):#[9,X] (eval (.Name x pos) X.env) Q E s :=
 Calls.Name_function_global I.ok.kind c (Calls.loadGlobal_global (by rw[I.ok.glob];exact I.mod.glob.keeps I.bk) hm h) hd
theorem V0{E:Value→Shared→Prop}{a:List (Addr×Obj)}{s:Shared}{b:St}{H:Hp}{x:Str}{u:Value}{pos:Pos}{Q:Value→Shared→Prop}(I:Inv X a b H s)(c:Gl X x)(hm:X.mg x=none)(d:bootBuiltins x=some u)(h:Q u s)
  (e:x ≠ "__name__":=by decide) (hd:(x == ("__debug__" : Str))=false:=by decide):#[9,X] (eval (.Name x pos) X.env) Q E s:=by
 obtain⟨mb,f,g⟩:=I.mod.blt;exact Calls.Name_function_global I.ok.kind c (Calls.loadGlobal_builtin (by rw[I.ok.glob];exact I.mod.glob.keeps I.bk) hm (by rw[I.ok.blt];exact f.keeps I.bk) ((g x e).trans d) h) hd
theorem ZoE{x:Str}{v:V}{u:Value}{pos:Pos}(a:Gl X x)(hm:X.mg x=some u)(r:ZL v u)(hd:(x == ("__debug__" : Str))=false:=by decide):PE X (.Name x pos) (tC v) :=
 fun _ _ _ H _ I h=>Sb I a hm ⟨v,H,I,r,h⟩ hd
theorem ZoF{x:Str}{v:V}{u:Value}{pos:Pos}(a:Gl X x)(hm:X.mg x=none)(b:bootBuiltins x=some u)(r:ZL v u)(c:x ≠ "__name__":=by decide)(hd:(x == ("__debug__" : Str))=false:=by decide):PE X (.Name x pos) (tC v) :=
 fun _ _ _ H _ I h=>V0 I a hm b ⟨v,H,I,r,h⟩ c hd
variable {a b:Expr} {ta tb:TE} {pos:Pos}
def tB(t:TE):TT:=fun a H Q=>t a H fun x b=>EA (fun c=>x=.bl c) (fun c=>Q c b)
theorem Xs{e:Expr}{t:TE}(h:PE X e t)(he:∀a,isTrue e X.env a=(do let v ← a;standAt e.pos;holding [v] (truthy v)):=by intro _;rfl):PT X e (tB t):=by intro b s c H Q I hw;refine isTrue_plain (thn (h b s c H _ I hw) ?_) (he _);rintro v s1 ⟨x,f,g,i,j⟩;obtain⟨d,rfl,q⟩:=j;cases i;exact wpAny_truthy_bool ⟨f,g,q⟩
variable {tA oj:TT} {rest:List Expr}
def Zsb(t u:TT):TT:=fun a H Q=>t a H fun c b=>if c=true then u a b Q else Q false b
def tOr(t u:TT):TT:=fun a H Q=>t a H fun c b=>if c=true then Q true b else u a b Q
def Zr7(t:TT):TT:=fun a H Q=>t a H fun c b=>Q (!c) b
theorem Xl(ha:PT X a tA):PW X (.BoolOp .And [a] pos) tA:=by
 intro wh b s d H Q I h;refine isTrue_and (thn (ha b s d H Q I h) fun c s1 e=>?_);cases c with
 | true=>exact isTrue_and_nil e
 | false=>exact e
theorem Vs(ha:PT X a tA):PW X (.BoolOp .Or [a] pos) tA:=by
 intro wh b s d H Q I h;refine isTrue_or (thn (ha b s d H Q I h) fun c s1 e=>?_);cases c with
 | false=>exact isTrue_or_nil e
 | true=>exact e
theorem XS(ha:PT X a tA)(hb:PW X (.BoolOp .And (b::rest) pos) oj):PW X (.BoolOp .And (a::b::rest) pos) (Zsb tA oj):=by
 intro j d s e H Q I h;refine isTrue_and (thn (ha d s e H _ I h) ?_);rintro c k ⟨f,g,i⟩;cases c with
 | true=>exact hb j d k e f Q g i
 | false=>exact⟨f,g,i⟩
theorem Wo(ha:PT X a tA)(hb:PW X (.BoolOp .Or (b::rest) pos) oj):PW X (.BoolOp .Or (a::b::rest) pos) (tOr tA oj):=by
 intro j d s e H Q I h;refine isTrue_or (thn (ha d s e H _ I h) ?_);rintro c k ⟨f,g,i⟩;cases c with
 | true=>exact⟨f,g,i⟩
 | false=>exact hb j d k e f Q g i
theorem UP(ha:PT X a tA):PT X (.UnaryOp .Not a pos) (Zr7 tA):=by intro b s d H Q I h;exact isTrue_not (ha b s d H (fun c e=>Q (!c) e) I h)
def Zrx(ta tb:TE):TE:=fun a H Q=>ta a H fun x b=>∃c,x=.bl c∧if c=true then tb a b Q else Q (.bl false) b
def Zrb(ta:TE):TE:=fun a H Q=>ta a H fun x b=>∃c,x=.bl c∧Q (.bl (!c)) b
theorem WU{op}{t:TE}(h:PE X a t):PE X (.BoolOp op [a] pos) t:=fun b s c H Q I hw=>BoolOp_one (h b s c H Q I hw)
theorem Xc(ha:PE X a ta)(hb:PE X (.BoolOp .And (b::rest) pos) tb):PE X (.BoolOp .And (a::b::rest) pos) (Zrx ta tb):=by
 intro e s f H Q I h;refine BoolOp_and (thn (ha e s f H _ I h) ?_);rintro v j ⟨x,g,i,k,d⟩;obtain⟨c,rfl,d⟩:=d;cases k;refine wpAny_truthy_bool ?_;cases c with
 | true=>exact hb e j f g Q i d
 | false=>exact⟨.bl false,g,i,rfl,d⟩
theorem ZqC(ha:PE X a ta):PE X (.UnaryOp .Not a pos) (Zrb ta):=by intro d s e H Q I h;refine UnaryOp_ (thn (ha d s e H _ I h) ?_);rintro v s1 ⟨x,f,g,i,b⟩;obtain⟨c,rfl,b⟩:=b;cases i;exact not_of (wpAny_truthy_bool ⟨.bl (!c),f,g,rfl,b⟩)
def tIf(t:TT)(ta tb:TE):TE:=fun a H Q=>t a H fun c b=>if c=true then ta a b Q else tb a b Q
theorem Xk{c:Expr}(hc:PT X c tA)(ha:PE X a ta)(hb:PE X b tb):PE X (.IfExp c a b pos) (tIf tA ta tb):=by
 intro e s f H Q I h;refine wpAny_IfExp (thn (hc e s f H _ I h) ?_);rintro d g ⟨i,j,k⟩;cases d with
 | true=>exact ha e g f i Q j k
 | false=>exact hb e g f i Q j k
end
def SqL(K:#[7])(H:Hp)(a:Addr)(xs:List V):Prop :=
 Rd H a (.lst xs) ∨
  ∃ (o:Obj) (its:Array Value) (n:Nat),K.lookup a=some o∧o.cls=.type "list"∧o.dict=none∧o.data=.seq its n∧its.size≤sizeLine∧ZJ xs its.toList
def SqT(K:#[7])(H:Hp)(a:Addr)(xs:List V):Prop :=
 Rd H a (.tup xs) ∨
  ∃ (o:Obj) (its:Array Value) (n:Nat),K.lookup a=some o∧o.cls=.type "tuple"∧o.data=.seq its n∧its.size≤sizeLine∧ZJ xs its.toList
noncomputable def Zsv:Value→Option V
 | .none=>some .non
 | .bool b=>some (.bl b)
 | .int i _=>some (.int i)
 | .str x _=>some (.str x)
 | .bytes b _=>some (.byt b)
 | .float b _=>some (.flt b)
 | .ref a=>some (.ref a)
 | .type n=>some (.ty n)
 | _=>none
theorem ZL.abs{x:V}{u:Value}(r:ZL x u):Zsv u=some x:=by
 cases x with
 | non=>cases r;rfl
 | bl _=>cases r;rfl
 | int _=>obtain⟨t,rfl⟩:=r;rfl
 | str _=>obtain⟨t,rfl⟩:=r;rfl
 | byt _=>obtain⟨t,rfl⟩:=r;rfl
 | flt _=>obtain⟨t,rfl⟩:=r;rfl
 | ref _=>cases r;rfl
 | ty _=>cases r;rfl
theorem ZL.inj{x y:V}{u:Value}(r:ZL x u)(q:ZL y u):x=y:=Qp (r.abs.symm.trans q.abs)
theorem ZJ.inj:∀ {xs ys:List V} {us:List Value},ZJ xs us→ZJ ys us→xs=ys
 | _,_,_,.nil,.nil=>rfl
 | _,_,_,.cons r t,.cons a t'=>by rw[r.inj a,ZJ.inj t t']
section
variable {X:Cx} {aa:List (Addr×Obj)} {σ:St} {H:Hp} {s:Shared} {a:Addr} {xs ys:List V}
theorem SqL.of{K:#[7]}(h:H a=some (.lst xs)):SqL K H a xs:=.inl (.inl h)
theorem SqT.of{K:#[7]}(h:H a=some (.tup xs)):SqT K H a xs:=.inl (.inl h)
theorem Inv.list(I:Inv X aa σ H s)(h:SqL X.K H a xs):∃its:List Value,ZJ xs its∧PlainL s.heap a its.toArray∧xs.length≤sizeLine:=by
 rcases h with h|⟨o,its,n,b,c,d,f,hz,r⟩
 ·obtain⟨z,its,n,r,e⟩:=h.ok I.hok;exact⟨its,r,⟨_,n,e,rfl,rfl,rfl⟩,z⟩
 ·refine⟨its.toList,r,⟨o,n,I.kIn a o b,c,d,by simpa using f⟩,?_⟩;have e:=r.length;simp only[Array.length_toList]at e;lia
theorem Inv.tuple(I:Inv X aa σ H s)(h:SqT X.K H a xs):∃its:List Value,ZJ xs its∧IsTup s.heap a its.toArray∧xs.length≤sizeLine:=by
 rcases h with h|⟨o,its,n,b,c,d,hz,r⟩
 ·obtain⟨z,its,r,p⟩:=h.ok I.hok;exact⟨its,r,p,z⟩
 ·refine⟨its.toList,r,⟨o,I.kIn a o b,c,n,by simpa using d⟩,?_⟩;have e:=r.length;simp only[Array.length_toList]at e;lia
theorem Inv.list_inj(I:Inv X aa σ H s)(h:SqL X.K H a xs)(h':SqL X.K H a ys):xs=ys:=by
 obtain⟨its,r,⟨o,n,e,_,_,d⟩,_⟩:=I.list h;obtain⟨b,g,⟨o',n',c,_,_,f⟩,_⟩:=I.list h';rw[e]at c;cases c;rw[d]at f;injection f with i _;have:its=b:=by simpa using congrArg Array.toList i
 subst this;exact r.inj g
theorem Inv.tuple_inj(I:Inv X aa σ H s)(h:SqT X.K H a xs)(h':SqT X.K H a ys):xs=ys:=by
 obtain⟨its,r,⟨o,e,_,n,d⟩,_⟩:=I.tuple h;obtain⟨b,g,⟨o',c,_,n',f⟩,_⟩:=I.tuple h';rw[e]at c;cases c;rw[d]at f;injection f with i _;have:its=b:=by simpa using congrArg Array.toList i
 subst this;exact r.inj g
end
noncomputable abbrev Cx.wish(X:Cx)(E:Value→Shared→Prop):Cx:={ X with xe:=E }
noncomputable abbrev Cx.nox(X:Cx):Cx:=X.wish fun _ _=>False
theorem Cx.Ok.wish{X:Cx}(ok:X.Ok)(E:Value→Shared→Prop):(X.wish E).Ok :=
 ⟨ok.mod,ok.kind,ok.glob,ok.blt,ok.above,ok.inj,ok.has,ok.cab,ok.hd,ok.frames,ok.stk,ok.exf,ok.bs,ok.bsz,ok.noex,ok.exfs,ok.funs,ok.frf⟩
theorem Cx.Ok.unwish{X:Cx}{E:Value→Shared→Prop}(ok:(X.wish E).Ok):X.Ok :=
 ⟨ok.mod,ok.kind,ok.glob,ok.blt,ok.above,ok.inj,ok.has,ok.cab,ok.hd,ok.frames,ok.stk,ok.exf,ok.bs,ok.bsz,ok.noex,ok.exfs,ok.funs,ok.frf⟩
section
variable {X:Cx} {aa:List (Addr×Obj)} {σ:St} {H:Hp} {s:Shared} {E:Value→Shared→Prop}
theorem Inv.wish(I:Inv X aa σ H s)(E:Value→Shared→Prop):Inv (X.wish E) aa σ H s:=⟨I.ok.wish E,I.os,I.bare,I.base,I.loc,I.cell,I.free,I.freeC,I.pin,I.hok,I.len⟩
theorem Inv.unwish(I:Inv (X.wish E) aa σ H s):Inv X aa σ H s:=⟨I.ok.unwish,I.os,I.bare,I.base,I.loc,I.cell,I.free,I.freeC,I.pin,I.hok,I.len⟩
theorem SP.unwish{D:Xm}{f:Flow}{s':Shared}(h:SP (X.wish E) aa D f s'):SP X aa D f s':=by
 cases f with
 | next=>obtain⟨a,b,I,q⟩:=h;exact⟨a,b,I.unwish,q⟩
 | brk=>obtain⟨a,b,I,q⟩:=h;exact⟨a,b,I.unwish,q⟩
 | cont=>obtain⟨a,b,I,q⟩:=h;exact⟨a,b,I.unwish,q⟩
 | ret u=>obtain⟨v,a,b,I,r,q⟩:=h;exact⟨v,a,b,I.unwish,r,q⟩
theorem PSs.nox{st:List Stmt}{t:TS}(h:PSs X.nox st t):PSs X st t:=fun aa s σ H D I hw =>
 wpAny_mono (h aa s σ H D (I.wish _) hw) (fun _ _ q=>q.unwish) fun _ _ z=>False.elim z
end
section
variable {X:Cx} {st:Stmt} {rest:List Stmt} {t u:TS} {e:Expr} {te:TE} {pos:Pos}
def Zrh:TS:=fun D a H=>D.nx a H
def Zsc(t u:TS):TS:=fun D a H=>t { D with nx:=u D } a H
theorem ZF:PSs X [] Zrh:=fun _ _ a H _ I h=>wpAny_execs_nil ⟨a,H,I,h⟩
theorem Ze(h1:PS X st t)(h2:PSs X rest u):PSs X (st::rest) (Zsc t u):=by
 intro a s b H D I h;refine wpAny_execs_cons (thn (h1 a s b H { D with nx:=u D } I h) fun f c q=>?_);cases f with
 | next=>obtain⟨d,e,g,q⟩:=q;exact h2 a c d e D g q
 | ret v=>exact q
 | brk=>exact q
 | cont=>exact q
theorem Zj(h1:PS X st t):PSs X [st] t:=by
 intro a s b H D I h;refine wpAny_execs_cons (thn (h1 a s b H D I h) fun f s1 q=>?_);cases f with
 | next=>exact wpAny_execs_nil q
 | ret v=>exact q
 | brk=>exact q
 | cont=>exact q
theorem Inv.quiet{a:List (Addr×Obj)}{b:St}{H:Hp}{s:Shared}(I:Inv X a b H s):interactive X.env=false:=by simp[interactive,I.ok.kind]
def ZrE(te:TE):TS:=fun D a H=>te a H fun _ b=>D.nx a b
theorem Yy(he:PE X e te)(b:swapsWith e none pos.line X.env=pure false:=by rfl):PS X (.Expr e pos) (ZrE te):=by intro c s a H D I h;exact wpAny_Expr_any (thn (he c s a H _ I h) fun v s1 ⟨x,d,f,r1,g⟩=>⟨a,d,f,g⟩) I.quiet b
def Zso(te:TE):TS:=fun D a H=>te a H D.rt
theorem Zr(he:PE X e te):PS X (.Return (some e) pos) (Zso te):=by intro b s a H D I h;exact wpAny_Return_some (thn (he b s a H _ I h) fun v s1 ⟨x,c,d,f,g⟩=>⟨x,a,c,d,f,g⟩)
def Zsw(c:TT)(t u:TS):TS:=fun D a H=>c a H fun b d=>if b=true then t D a d else u D a d
theorem Z0{c:Expr}{a b:List Stmt}{g:TT}(hc:PT X c g)(ha:PSs X a t)(hb:PSs X b u):PS X (.If c a b pos) (Zsw g t u):=by
 intro e s f H D I h;refine wpAny_If (thn (hc e s f H _ I h) ?_);rintro d i ⟨j,k,l⟩;cases d with
 | true=>exact ha e i f j D k l
 | false=>exact hb e i f j D k l
end
abbrev TG:=V→St→Hp→(St→Hp→Prop)→Prop
abbrev TGs:=List V→St→Hp→(St→Hp→Prop)→Prop
def PG(X:Cx)(e:Expr)(t:TG):Prop :=
 ∀ (a:List (Addr×Obj)) (s:Shared) (b:St) (H:Hp) (v:V) (u:Value) (Q:St→Hp→Prop),Inv X a b H s→ZL v u→t v b H Q →
  #[9,X] (assign e X.env u) (fun _ f=>∃c d,Inv X a c d f∧Q c d) X.xe s
def PGs(X:Cx)(g:List Expr)(t:TGs):Prop :=
 ∀ (a:List (Addr×Obj)) (s:Shared) (b:St) (H:Hp) (c:List V) (d:List Value) (Q:St→Hp→Prop),Inv X a b H s→ZJ c d→t c b H Q →
  #[9,X] (assignInOrder ((assignEach g X.env).map (·.2)) d) (fun _ h=>∃e f,Inv X a e f h∧Q e f) X.xe s
abbrev TR:=V→V→V→Hp→(Hp→Prop)→Prop
def Sa(X:Cx)(t:TR):Prop :=
 ∀ (a:List (Addr×Obj)) (s:Shared) (b:St) (H:Hp) (o i v:V) (c d u:Value) (Q:Hp→Prop),Inv X a b H s→ZL o c→ZL i d→ZL v u→t o i v H Q →
  #[9,X] (setItem c d u) (fun _ f=>∃e,Inv X a b e f∧Q e) X.xe s
abbrev TIp:=V→V→Hp→VK→Prop
def PIp(X:Cx)(op:Operator)(t:TIp):Prop :=
 ∀ (a:List (Addr×Obj)) (s:Shared) (b:St) (H:Hp) (x y:V) (v u:Value) (Q:VK),Inv X a b H s→ZL x v→ZL y u→t x y H Q →
  #[9,X] (inplaceOp op v u) (EP X a b Q) X.xe s
section
variable {X:Cx} {pos:Pos}
def TQ(i:Nat):TG:=fun v a H Q=>Q (a.set i (some v)) H
theorem ZD{i:Nat}{x:Str}(a:X.N.Nodup)(b:X.N[i]? = some x)(hx:Loc X.env.scope x)(c:X.fn x=true∨X.env.scope.names.lookup x=some .local:=by first|exact .inl rfl|exact .inr rfl|assumption):PG X (.Name x pos) (TQ i):=by intro aa s σ H v u Q I r h;exact wpAny_assign_Name (UQ I a b hx r (fun s' d=>⟨_,H,d,h⟩) c)
def Zsl:TGs:=fun vs a H Q=>vs=[]∧Q a H
inductive RGc (vs:List V) (B:V→List V→Prop):Prop where
 | mk (v:V) (r:List V) (e:vs=v::r) (q:B v r)
def Zrk(t:TG)(u:TGs):TGs:=fun vs a H Q=>RGc vs fun v r=>t v a H fun b H'=>u r b H' Q
theorem X6:PGs X [] Zsl:=by intro aa s a H vs us Q I r h;obtain⟨e,h⟩:=h;subst e;cases r;exact assignInOrder_nil ⟨a,H,I,h⟩
theorem ZC{e:Expr}{a:List Expr}{t:TG}{u:TGs}(h1:PG X e t)(h2:PGs X a u)
  (c:(assignEach (e::a) X.env).map (·.2)=assign e X.env::(assignEach a X.env).map (·.2):=by rfl):PGs X (e::a) (Zrk t u):=by
 intro b s d H vs us Q I r h;obtain⟨v,vr,f,h⟩:=h;subst f;cases r with
 | cons r g=>rw[c];refine assignInOrder_cons (thn (h1 b s d H _ _ _ I r h) ?_);rintro _ i ⟨j,k,l,m⟩;exact h2 b i j k _ _ Q l g m
inductive RGt (K:#[7]) (H:Hp) (n:Nat) (v:V) (B:List V→Prop):Prop where
 | mk (a:Addr) (xs:List V) (e:v=.ref a) (s:SqT K H a xs) (l:xs.length=n) (q:B xs)
def N7(K:#[7])(n:Nat)(t:TGs):TG:=fun v a H Q=>RGt K H n v fun xs=>t xs a H Q
theorem Zqx{c:List Expr}{k:Nat}{t:TGs}{n:Nat}(hc:X.calm=true)(h:PGs X c t)
  (i:(assignEach c X.env).length=n:=by rfl) (j:(assignEach c X.env).findIdx? (·.1)=none:=by rfl):PG X (.Tuple c k pos) (N7 X.K n t):=by
 intro d s f H v u Q I r hw;obtain⟨a,l,m,p,q,hw⟩:=hw;subst m;cases r;obtain⟨its,g,w,hz⟩:=I.tuple p;refine assign_Tuple_tuple (I.ok.hd hc) w (by simp[i,← q,g.length]) j fun x y=>?_;have z:Inv X d f H { s with heap:=x }:=I.kept (t':=s.toks) fun b o e=>y b o (QB (Qq e)) e;exact h d _ f H l _ Q z (by simpa using g) hw
def Zr0(to b:TE)(t:TR):TG:=fun v a H Q=>to a H fun o c=>b a c fun i d=>t o i v d fun e=>Q a e
theorem Ys{o i:Expr}{to e:TE}{t:TR}(f:PE X o to)(g:PE X i e)(j:Sa X t)
  (ha:∀v,assign (.Subscript o i pos) X.env v=(do
   let a ← holding [v] (eval o X.env);let b ← holding [v,a] (eval i X.env)
   standAt pos
   holding [v,a,b] (setItem a b v)
   release [v,a,b] []):=by intro _;rfl):PG X (.Subscript o i pos) (Zr0 to e t):=by
 intro d s c H v u Q I r h;rw[ha];refine wpAny_bind (wpAny_holding (thn (f d s c H _ I h) ?_));rintro a k ⟨x,l,m,n,p⟩;refine wpAny_bind (wpAny_holding (thn (g d k c l _ m p) ?_));rintro b q ⟨y,w,z,A,B⟩;refine wpAny_bind (wpAny_standAt (wpAny_bind (wpAny_holding (thn (j d q c w x y v a b u _ z n A r B) ?_))));rintro _ s3 ⟨C,D,E⟩;exact wpAny_release ⟨c,C,D,E⟩
def R9(b:TE)(g:TG):TS:=fun D a H=>b a H fun x c=>g x a c D.nx
theorem Z2{a e:Expr}{b:TE}{g:TG}(he:PE X e b)(f:PG X a g)(i:swapsWithSole [a] e pos.line X.env=pure false:=by rfl)(hw:swappedStores [a] e X.env=pure none:=by rfl)
  (j:(assignEach [a] X.env).map (·.2)=[assign a X.env]:=by rfl):PS X (.Assign [a] e pos) (R9 b g):=by
 intro c s d H D I h;refine wpAny_Assign_stores (thn (he c s d H _ I h) ?_) i hw;rintro v k ⟨x,l,m,n,o⟩;rw[j];exact thn (f c k d l x v _ m n o) fun _ s2 q=>q
theorem Zw{i:Nat}{x:Str}{e:Expr}{a:TE}{b:Pos}(c:X.N.Nodup)(d:X.N[i]? = some x)(hx:Loc X.env.scope x)(he:PE X e a)(f:swapsWith e (some (.Name x b)) pos.line X.env=pure false:=by rfl)(g:X.fn x=true∨X.env.scope.names.lookup x=some .local:=by first|exact .inl rfl|exact .inr rfl|assumption) :
  PS X (.Assign [.Name x b] e pos) (R9 a (TQ i)):=by
 intro j s k H D I h;refine wpAny_Assign_Name (thn (he j s k H _ I h) ?_) f;rintro v s1 ⟨y,l,m,n,o⟩;exact UQ m c d hx n (fun s2 p=>⟨_,l,p,o⟩) g
def Zsg(i j:Nat)(b:TA):TS:=fun D a H=>b a H fun vs c=>∃v w,vs=[v,w]∧D.nx ((a.set i (some v)).set j (some w)) c
theorem WT{i j:Nat}{x y:Str}{a b:Expr}{r:TA}{g k pt:Pos}{l k2 m}(hc:X.calm=true)(t:X.N.Nodup)(C:X.N[i]? = some x)(E:X.N[j]? = some y)(F:i≠j)
  (hx:X.env.scope.names.lookup x=some .local) (hy:X.env.scope.names.lookup y=some .local) (ha:PA X [a,b] r)
  (hw:swappedStores [.Tuple [.Name x g,.Name y k] l pt] (.Tuple [a,b] k2 m) X.env=pure (some [x,y]))
  (G:swapsWithSole [.Tuple [.Name x g,.Name y k] l pt] (.Tuple [a,b] k2 m) pos.line X.env=pure false:=by rfl) :
  PS X (.Assign [.Tuple [.Name x g,.Name y k] l pt] (.Tuple [a,b] k2 m) pos) (Zsg i j r):=by
 intro u s z H D I h;rw[exec_Assign_arm];refine wpAny_bind (wpAny_standAt ?_);rw[G];refine wpAny_bind (wpAny_pure ?_);rw[if_neg #[6]];refine wpAny_bind (Tuple_ (thn (ha _ u s z H _ I h) ?_));rintro J c ⟨vs,A,K,L,n⟩;obtain⟨v,w,M,n⟩:=n;subst M;obtain⟨d,f,rfl,N,O⟩:∃d f,J=[d,f]∧ZL v d∧ZL w f:=by
  cases L with
  | cons p q =>
   cases q with
   | cons P Q=>cases Q;exact⟨_,_,rfl,p,P⟩
 refine wpAny_newObj_type ?_ (by show 2≤sizeLine;decide);have R:Inv X u z A { c with heap:=c.heap.push { cls:=.type "tuple",data:=.seq [d,f].toArray } }:=K.kept (t':=c.toks) fun b o e=>Qc _ e;rw[hw];refine wpAny_bind (wpAny_pure ?_);show #[9,X] (do rule "assign.swapped-stores";let items ← unpackItems (.ref c.heap.objs.size) 2 none;assignInOrder [fun v=>bindName X.env y v,fun v=>bindName X.env x v] items.reverse;pure Flow.next) _ _ _;refine wpAny_bind (wpAny_rule (wpAny_bind (unpackItems_tuple (items:=#[d,f]) (I.ok.hd hc) (IsTup.new c.heap _) fun h' S=>?_)));have T:=R.kept (h':=h') (t':=c.toks) fun b o e=>S b o (QB (Qq e)) e;show wpAny _ _ (assignInOrder [fun v=>bindName X.env y v,fun v=>bindName X.env x v] [f,d] >>= fun _=>pure Flow.next) _ _ _;refine wpAny_bind (assignInOrder_cons (wpAny_bindName (UQ T t E (.inl hy) O (fun s2 U=>?_) (.inr hy))));refine assignInOrder_cons (wpAny_bindName (UQ U t C (.inl hx) N (fun s3 B=>assignInOrder_nil (wpAny_pure ?_)) (.inr hx)));rw[List.set_comm _ _ (Ne.symm F)]at B;exact⟨_,A,B,n⟩
def Zr2(i:Nat)(b:TE)(c:TIp):TS:=fun D a H=>∃x,a[i]? = some (some x)∧b a H fun y d=>c x y d fun z e=>D.nx (a.set i (some z)) e
theorem Zp4{i:Nat}{x:Str}{e:Expr}{b:TE}{op:Operator}{d:TIp}{j:Pos}(n:X.N.Nodup)(f:X.N[i]? = some x)(hx:Loc X.env.scope x)(he:PE X e b)(o:PIp X op d)(p:X.fn x=true∨X.env.scope.names.lookup x=some .local:=by first|exact .inl rfl|exact .inr rfl|assumption) :
  PS X (.AugAssign (.Name x j) op e pos) (Zr2 i b d):=by
 intro a s g H D I h;obtain⟨v,q,h⟩:=h;obtain⟨m,t,A⟩:=I.loc;have B:Vis X.env.scope x:=by rcases hx with k|k;exact .inl k;exact .inr (.inl k)
 obtain⟨u,r,l⟩:=A i x v f q B;refine wpAny_AugAssign_Name ?_;have go:#[9,X] (eval e X.env) (fun w C=>#[9,X] (inplaceOp op u w) (fun r E=>#[9,X] (storeName X.env x r) (fun _=>SP X a D .next) X.xe E) X.xe C) X.xe s:=by refine thn (he a s g H _ I h) ?_;rintro w F ⟨y,G,J,K,L⟩;refine thn (o a F g G v y u w _ J r K L) ?_;rintro z s2 ⟨zv,M,N,O,P⟩;exact UQ N n f hx O (fun s3 Q=>⟨_,M,Q,P⟩) p
 rcases l with⟨hk,R⟩|⟨hk,c,S,T⟩
 ·exact wpAny_loadName_local I.ok.kind hk t R go
 ·rcases hk with hk|hk
  ·exact wpAny_loadName_cell I.ok.kind hk S T go
  ·rcases hx with k|k
   ·have:X.env.scope.names.lookup x=some .free:=hk;rw[k]at this;cases this
   ·have:X.env.scope.names.lookup x=some .free:=hk;rw[k]at this;cases this
def ipI(f:Int→Int→Int):TIp:=fun x y H Q=>∃i j,x=.int i∧y=.int j∧Q (.int (f i j)) H
theorem ZqV:PIp X .Add (ipI fun i j=>i+j):=by intro aa s σ H x y v u Q I a b h;obtain⟨i,j,c,d,q⟩:=h;subst c;subst d;obtain⟨t,rfl⟩:=a;obtain⟨t',rfl⟩:=b;exact iadd_int ⟨.int _,H,I.tok _,⟨_,rfl⟩,q⟩
end
section
variable {X:Cx} {pos:Pos}
def Zq3(c:TT)(h:TS):TS:=fun D a H=>∃W:Nat→St→Hp→Prop,(∃m,W m a H)∧∀m a H,W m a H →
 c a H fun b d=>if b=true then ∃N:St→Hp→Prop,(∀e f,N e f→∃g,g<m∧W g e f)∧h { D with nx:=N,ct:=N,bk:=D.nx } a d else D.nx a d
theorem TN{c:Expr}{r:List Stmt}{t:TT}{u:TS}(hp:PassesOwn (model X.prog X.w) X.A X.env X.xe)(hc:PT X c t)(hb:PSs X r u):PS X (.While c r [] pos) (Zq3 t u):=by
 intro k s C H D I h;obtain⟨W,⟨E,F⟩,a⟩:=h;refine wpAny_While (codeAny_whileLoop (fun n G=>∃w x,Inv X k w x G∧W n w x) ?_ E ⟨C,H,I,F⟩);rintro n J ⟨g,y,K,L⟩;refine wpAny_passesOwn hp (thn (hc k J g y _ K (a n g y L)) ?_);rintro b M ⟨z,A,i⟩;cases b with
 | true =>
  obtain⟨N,B,i⟩:=i;rw[if_pos rfl];refine wpAny_passesOwn hp (thn (hb k M g z _ A i) fun f s3 j=>?_);cases f with
  | next=>obtain⟨d,e,l,m⟩:=j;obtain⟨o,p,q⟩:=B d e m;exact⟨o,p,d,e,l,q⟩
  | cont=>obtain⟨d,e,l,m⟩:=j;obtain⟨o,p,q⟩:=B d e m;exact⟨o,p,d,e,l,q⟩
  | brk=>exact j
  | ret v=>exact j
 | false=>rw[if_neg Ql];exact wpAny_execs_nil ⟨g,z,A,i⟩
end
structure It where
 go:Nat→Hp→Prop
 yld:Nat→Hp→V→Hp→Prop
 stop:Nat→Hp→Prop
def Xz(X:Cx)(a:List (Addr×Obj))(H:Hp)(b:Addr):Prop :=
 H b=none∧b≠X.env.locals∧b ∉ X.fs∧(b∈X.ex∨X.s₀.heap.objs.size≤b)∧(∀x c,X.env.cells.lookup x=some c→c≠b)∧∀p∈X.pn++a,p.1≠b
theorem Inv.fpOk{X:Cx}{a:List (Addr×Obj)}{d:St}{H H':Hp}{s:Shared}{b:Addr}(I:Inv X a d H s)(hb:s.heap.objs.size≤b)(f:H' b=none):Xz X a H' b:=by
 refine⟨f,QY (QC I.lt hb),I.nofs hb,.inr (Qv I.sz hb),fun x c e z=>?_,fun p g z=>?_⟩
 ·obtain⟨v,q⟩:=I.cell x c e;exact absurd (QC q.lt (by rw[z];exact hb)) (Q7 _)
 ·exact absurd (QC (Qq (I.pin p g).1) (by rw[z];exact hb)) (Q7 _)
structure VZ (P:Program) (w:World) (K:#[7]) (tg:Expr) (J:It) (fp:List Addr) (it:Addr) (tn:Nat→Heap→Prop):Prop where
 mem:it∈fp
 obj:∀i h,tn i h→∀b∈fp,∃o,h.get? b=some o∧∀v,o.data≠.cell v
 keep:∀i h h',tn i h→(∀b∈fp,∀o,h.get? b=some o→h'.get? b=some o)→tn i h'
 item:∀ (X:Cx),X.prog=P→X.w=w→X.K=K→X.calm=true→∀ (i:Nat) (aa:List (Addr×Obj)) (s:Shared) (σ:St) (H:Hp) (E:Value→Shared→Prop),Inv X aa σ H s→(∀b∈fp,Xz X aa H b)→tn i s.heap→J.go i H →
  wpAny (model P w) X.A (pyNext (.ref it)) (fun r s1=>∃u,r=some u ∧
   wpAny (model P w) X.A (letOwnedTupleGo tg (.ref it) u) (fun _ s2=>∃x H',Inv X aa σ H' s2∧ZL x u∧J.yld i H x H'∧tn (i+1) s2.heap∧∀b∈fp,H' b=none) E s1) E s
 done:∀ (X:Cx),X.prog=P→X.w=w→X.K=K→X.calm=true→∀ (i:Nat) (aa:List (Addr×Obj)) (s:Shared) (σ:St) (H:Hp) (E:Value→Shared→Prop),Inv X aa σ H s→(∀b∈fp,Xz X aa H b)→tn i s.heap→J.stop i H →
  wpAny (model P w) X.A (pyNext (.ref it)) (fun r s1=>r=none∧Inv X aa σ H s1) E s
 self:∀ (A:Around) (i:Nat) (s:Shared) (Q:Value→Shared→Prop) (E:Value→Shared→Prop),tn i s.heap→Q (.ref it) s→wpAny (model P w) A (pyIter (.ref it)) Q E s
abbrev TI:=St→Hp→(It→Hp→Prop)→Prop
def PIE(X:Cx)(c:List (Addr×Obj))(g:St)(h:Expr)(R:It→Hp→Prop)(i:Value)(d:Shared):Prop :=
 ∃ (e:Addr) (fp:List Addr) (f:Nat→Heap→Prop) (J:It) (a:Hp),i=.ref e∧Inv X c g a d∧VZ X.prog X.w X.K h J fp e f∧f 0 d.heap∧(∀b∈fp,Xz X c a b)∧R J a
def PI(X:Cx)(c iter:Expr)(d:TI):Prop :=
 ∀ (b:List (Addr×Obj)) (s:Shared) (a:St) (H:Hp) (R:It→Hp→Prop),Inv X b a H s→d a H R →
  #[9,X] (eval iter X.env) (fun v e=>#[9,X] (pyIter v) (PIE X b a c R) X.xe e) X.xe s
theorem R8{M:Model}{A:Around}{E:Value→Shared→Prop}{s:Shared}{b:Expr}{it:Addr}{u:Value}{o:Obj}{n:String}{vs:Array Value}{Q:Unit→Shared→Prop}(c:s.heap.get? it=some o)(hc:o.cls=.type n)(hd:o.data=.fields vs)
  (d:["enumerate", "zip", "dict_itemiterator", "dict_reverseitemiterator", "odict_iterator", "itertools.zip_longest", "itertools.pairwise"].contains n=false) (a:Q () s):wpAny M A (letOwnedTupleGo b (.ref it) u) Q E s:=by
 unfold letOwnedTupleGo;cases b<;>first
  | exact wpAny_pure a
  | (cases u<;>first
    | exact wpAny_pure a
    | (refine wpAny_bind (wpAny_load c ?_);rw[hc,hd];show wpAny M A (if (["enumerate", "zip", "dict_itemiterator", "dict_reverseitemiterator", "odict_iterator", "itertools.zip_longest", "itertools.pairwise"].contains n&&vs[0]? == some (rawInt _))=true then _ else _) Q E s;rw[if_neg (by intro h;rw[d,Bool.false_and]at h;cases h)];exact wpAny_pure a))
noncomputable def Itl(K:#[7])(a:Addr):It :=
 ⟨fun i H=>∃b x,SqL K H a b∧b[i]? = some x,fun i H x c=>c=H∧∀b,SqL K H a b→b[i]? = some x,fun i H=>∃b,SqL K H a b∧b.length≤i⟩
noncomputable def Itr(lo:Int)(n:Nat):It:=⟨fun i _=>i<n,fun i H x H'=>H'=H∧x=.int (lo+i),fun i _=>n≤i⟩
theorem ZlI{P:Program}{w:World}{K:#[7]}{M:Expr}(a it:Addr):VZ P w K M (Itl K a) [it] it (fun i h=>h.IsListIter it a i) where
 mem:=by simp
 obj:=fun i h st b f=>by
  have e:b=it:=by simpa using f
  subst e;obtain⟨o,e,c,d⟩:=st;exact⟨o,e,fun v z=>by rw[d]at z;cases z⟩
 keep:=fun i h g st k=>st.at fun o e=>k it #[4] o e
 item:=by intro X m hw n F i G s J H E I j st q;subst m hw n;obtain⟨N,x,l,r⟩:=q;obtain⟨its,t,p,O⟩:=I.list l;obtain⟨u,Q,R⟩:=t.get r;obtain⟨y,A,S,B,C,D⟩:=j it #[4];refine wpAny_pyNext_list_item st p.isList (x:=u) (by simpa using Q) fun g L T=>?_;have U:Inv X G J H { s with heap:=g }:=I.turned (t':=s.toks) (fun b o f e=>(T.2 b f).trans e) y A B C D;obtain⟨o,e,c,d⟩:=id L;exact⟨u,rfl,R8 (s:={ s with heap:=g }) e c d #[6] ⟨x,H,U,R,⟨rfl,fun ys V=>by rw[I.list_inj V l];exact r⟩,L,fun b f=>(j b f).1⟩⟩
 done:=by intro X m hw n F i G s J H E I j st q;subst m hw n;obtain⟨N,l,r⟩:=q;obtain⟨its,t,p,O⟩:=I.list l;obtain⟨y,A,S,B,C,D⟩:=j it #[4];have hl:=t.length;exact wpAny_pyNext_list_end (I.ok.hd F) st p.isList (by simp;lia) fun g W=>⟨rfl,I.turned (t':=s.toks) (fun b o f e=>W b o f e) y A B C D⟩
 self:=fun _ _ _ _ _ st h=>wpAny_pyIter_listiter st h
theorem Zj3{P:Program}{w:World}{K:#[7]}{C:Expr}(it:Addr)(lo:Int)(n:Nat):VZ P w K C (Itr lo n) [it] it (fun i h=>IsRangeIter h it (lo+(i:Nat)*1) ((n:Int)-(i:Nat)) 1) where
 mem:=by simp
 obj:=fun i h st b a=>by
  have e:b=it:=by simpa using a
  subst e;exact⟨_,st,fun v z=>by have D:Data.fields _=Data.cell v:=z;cases D⟩
 keep:=fun i h c st k=>k it #[4] _ st
 item:=by intro X f hw g j i x s y H E I d st l;subst f hw g;obtain⟨m,p,F,q,r,u⟩:=d it #[4];have W:=Walks.range (prog:=X.prog) (w:=X.w) (I.ok.hd j) it lo 1 n;refine W.item i s _ _ l st fun v c A G B kk=>?_;obtain⟨t,rfl⟩:=G;have J:Inv X x y H { s with heap:=c,toks:=A }:=I.turned (fun b o a e=>kk b o (by simpa using a) e) m p q r u;refine⟨_,rfl,R8 (s:={ s with heap:=c,toks:=A }) (n := "range_iterator") B rfl rfl #[6] ⟨.int (lo+i),H,J,⟨t,?_⟩,⟨rfl,rfl⟩,B,fun b a=>(d b a).1⟩⟩;rw[Int.mul_one]
 done:=by intro X f hw g j i x s y H E I d st l;subst f hw g;obtain⟨m,p,F,q,r,u⟩:=d it #[4];exact wpAny_pyNext_range_end (I.ok.hd j) st (by have:n≤i:=l;lia) fun c L=>⟨rfl,I.turned (t':=s.toks) (fun b o a e=>L b o a e) m p q r u⟩
 self:=fun _ _ _ _ _ st h=>wpAny_pyIter_rangeiter st h
section
variable {X:Cx} {tg:Expr}
def N6(K:#[7])(c:TE):TI:=fun d H R=>c d H fun x b=>∃a,x=.ref a∧(∃xs,SqL K b a xs)∧R (Itl K a) b
theorem ZpA{l:Expr}{f:TE}(hl:PE X l f):PI X tg l (N6 X.K f):=by
 intro g s i H R I h;refine thn (hl g s i H _ I h) ?_;rintro v c ⟨x,j,d,k,m⟩;obtain⟨a,e,⟨xs,n⟩,q⟩:=m;subst e;cases k;obtain⟨its,rv,p,hz⟩:=d.list n;refine wpAny_pyIter_list p.isList ?_;refine⟨c.heap.objs.size,[c.heap.objs.size],_,_,j,rfl,d.kept (t':=c.toks) fun b o e=>Qc _ e,ZlI a _,⟨_,Qs _ rfl,rfl,rfl⟩,fun b r=>?_,q⟩;have e:b=c.heap.objs.size:=by simpa using r
 subst e;exact d.fpOk (Qh _) (d.hok.fresh (Qh _))
theorem N5{c:List (Addr×Obj)}{d:St}{H:Hp}{s:Shared}{R:It→Hp→Prop}{E:Value→Shared→Prop}{lo a:Int}{t u v:Tok}{tk:Nat}(I:Inv X c d H s)(h1:-(2 ^ 62)≤lo)(h2:lo<2 ^ 62)(g:-(2 ^ 62)≤a)(h4:a<2 ^ 62)
  (q:R (Itr lo (a-lo).toNat) H):#[9,X] (pyIter (.ref s.heap.objs.size)) (PIE X c d tg R) E { s with heap:=s.heap.push { cls:=.type "range",data:=.fields #[.int lo t,.int a u,.int 1 v] },toks:=tk }:=by
 refine wpAny_pyIter_range (IsRange.new ..) (small_one h1 h2 g h4) ?_;have f:Inv X c d H { s with heap:=s.heap.push { cls:=.type "range",data:=.fields #[.int lo t,.int a u,.int 1 v] },toks:=tk }:=I.kept fun b o e=>Qc _ e;refine⟨(s.heap.push { cls:=.type "range",data:=.fields #[.int lo t,.int a u,.int 1 v] }).objs.size,[(s.heap.push { cls:=.type "range",data:=.fields #[.int lo t,.int a u,.int 1 v] }).objs.size],_,_,H,rfl,
  f.kept (t':=tk) fun b o e=>Qc _ e,Zj3 _ lo (a-lo).toNat,?_,fun b h=>?_,q⟩
 ·have i:lo+((0:Nat):Int)*1=lo:=by simp
  have j:(((a-lo).toNat:Nat):Int)-((0:Nat):Int)=Builtin.Range.rangeSize lo a 1:=by rw[rangeSize_one];split<;>lia
  show IsRangeIter _ _ (lo+((0:Nat):Int)*1) ((((a-lo).toNat:Nat):Int)-((0:Nat):Int)) 1;rw[i,j];exact Qs _ rfl
 ·have e:b=(s.heap.push { cls:=.type "range",data:=.fields #[.int lo t,.int a u,.int 1 v] }).objs.size:=by simpa using h
  subst e;exact f.fpOk (Qh _) (f.hok.fresh (Qh _))
def ZrD(a:TA):TI:=fun b H R=>a b H fun vs c=>∃j:Int,vs=[.int j] ∧ -(2 ^ 62)≤j∧j<2 ^ 62∧R (Itr 0 j.toNat) c
def ZrX(a:TA):TI:=fun b H R=>a b H fun vs c=>∃i j:Int,vs=[.int i,.int j]∧(-(2 ^ 62)≤i∧i<2 ^ 62 ∧ -(2 ^ 62)≤j∧j<2 ^ 62)∧R (Itr i (j-i).toNat) c
theorem WS{a:Expr}{c:TA}{p pos:Pos}(d:Gl X "range")(hm:X.mg "range" = none)(ha:PA X [a] c)(f:starEach [a] X.env=[(false,eval a X.env)]:=by rfl):PI X tg (.Call (.Name "range" p) [a] [] pos) (ZrD c):=by
 intro g s i H R I h;refine Call_ (V0 I d hm boot_range (Q6 (thn (ha pos g s i H _ I h) ?_) f rfl));rintro us s1 ⟨vs,H1,k,l,b⟩;obtain⟨j,e,b,m,q⟩:=b;subst e;cases l with
 | cons r n=>cases n;obtain⟨t,rfl⟩:=r;exact call_range_1 (N5 k #[2] #[2] b m (by simpa using q))
theorem Zmd{a b:Expr}{f:TA}{p pos:Pos}(k:Gl X "range")(hm:X.mg "range" = none)(ha:PA X [a,b] f)(l:starEach [a,b] X.env=[(false,eval a X.env),(false,eval b X.env)]:=by rfl)(g:starEach [b] X.env=[(false,eval b X.env)]:=by rfl) :
  PI X tg (.Call (.Name "range" p) [a,b] [] pos) (ZrX f):=by
 intro m s n H R I h;refine Call_ (V0 I k hm boot_range (Q6 (thn (ha pos m s n H _ I h) ?_) (by rw[l,g]) (by rw[g];rfl)));rintro us s1 ⟨vs,H1,o,u,c⟩;obtain⟨i,j,e,⟨c,v,w,x⟩,q⟩:=c;subst e;cases u with
 | cons r d =>
  cases d with
  | cons y d=>cases d;obtain⟨t,rfl⟩:=r;obtain⟨t',rfl⟩:=y;exact call_range_2 (N5 o c v w x q)
def Zsj(e:TI)(g:TG)(f:TS):TS:=fun D a H=>e a H fun J h=>∃W:Nat→Nat→St→Hp→Prop,(∃m,W 0 m a h)∧∀i m a H,W i m a H →
 (J.stop i H∧D.nx a H)∨(J.go i H∧∃N:St→Hp→Prop,(∀c b,N c b→∃d,d<m∧W (i+1) d c b)∧∀x b,J.yld i H x b→g x a b fun j k=>f { D with nx:=N,ct:=N,bk:=D.nx } j k)
noncomputable def Vr(fp:List Addr)(h:Heap):List (Addr×Obj):=fp.filterMap fun b=>(h.get? b).map fun o=>(b,o)
theorem Vq{fp:List Addr}{h:Heap}{b:Addr}{o:Obj}(hb:b∈fp)(e:h.get? b=some o):(b,o)∈Vr fp h:=List.mem_filterMap.mpr ⟨b,hb,by rw[e];rfl⟩
theorem Zl8{fp:List Addr}{h:Heap}{p:Addr×Obj}(hp:p∈Vr fp h):p.1∈fp∧h.get? p.1=some p.2:=by
 obtain⟨b,a,e⟩:=List.mem_filterMap.mp hp;cases q:h.get? b with
 | none=>rw[q]at e;cases e
 | some o=>rw[q]at e;have c:(b,o)=p:=Qp e;subst c;exact⟨a,q⟩
theorem Inv.pinned{a:List (Addr×Obj)}{c:St}{H:Hp}{s:Shared}{fp:List Addr}(I:Inv X a c H s)(h:∀b∈fp,Xz X a H b)(i:∀b∈fp,∃o,s.heap.get? b=some o∧∀v,o.data≠.cell v):Inv X (a++Vr fp s.heap) c H s :=
 I.pins_of fun p j=>(Qm.mp j).elim (fun z=>I.pin p (Qr _ z)) fun z=>by obtain⟨f,e⟩:=Zl8 z;obtain⟨k,l,m,_⟩:=h p.1 f;obtain⟨o,g,d⟩:=i p.1 f;rw[e]at g;cases g;exact⟨e,k,l,m,d⟩
theorem Inv.unpinned{a pl:List (Addr×Obj)}{b:St}{H:Hp}{s:Shared}(I:Inv X (a++pl) b H s):Inv X a b H s:=I.pins_of fun p hp=>I.pin p (Qr _ (QF _ hp))
theorem XR{iter:Expr}{F:List Stmt}{G:TI}{g:TG}{K:TS}{pos:Pos}(hp:PassesOwn (model X.prog X.w) X.A X.env X.xe)(hc:X.calm=true)(Z:PI X tg iter G)(hg:PG X tg g)(hb:PSs X F K)
  (hs:∀x,foldedSetIterable iter X.env x=pure x:=by intro _;rfl):PS X (.For tg iter F [] pos) (Zsj G g K):=by
 intro p s L H D I h;refine wpAny_For (thn (Z p s L H _ I h) fun v s1 h1=>thn h1 fun on s2 h2=>?_) hs;obtain⟨it,fp,M,J,H2,e,I2,T,gl,O,W,⟨m0,w0⟩,q⟩:=h2;subst e;have A:∀ {k:Hp},(∀b∈fp,k b=none)→∀b∈fp,Xz X p k b:=fun hn b hb=>⟨hn b hb,(O b hb).2⟩;refine codeAny_forLoop_any (fun n P=>∃i t k,Inv X p t k P∧M i P.heap∧(∀b∈fp,k b=none)∧W i n t k) ?_ m0 ⟨0,L,H2,I2,gl,fun b hb=>(O b hb).1,w0⟩;rintro n Q ⟨i,w,z,R,S,U,w3⟩;rcases q i n w z w3 with⟨stop,qn⟩|⟨go,N,hN,step⟩
 ·refine wpAny_passesOwn hp (thn (T.done X rfl rfl rfl hc i p Q w z X.xe R (A U) S stop) ?_);rintro r s4 ⟨B,I4⟩;subst B;exact wpAny_execs_nil ⟨w,z,I4,qn⟩
 ·refine wpAny_passesOwn hp (thn (T.item X rfl rfl rfl hc i p Q w z X.xe R (A U) S go) ?_);rintro r s4 ⟨u,B,h4⟩;subst B;refine wpAny_passesOwn hp (thn h4 ?_);rintro _ V ⟨x,Y,I5,r5,y5,C,jA⟩;have yx:=I5.pinned (A jA) (T.obj _ _ C);refine wpAny_passesOwn hp (thn (hg _ V w Y x u _ yx r5 (step x Y y5)) ?_);rintro _ s6 ⟨yy,H6,I6,q6⟩;refine wpAny_passesOwn hp (thn (hb _ s6 yy H6 _ I6 q6) fun f E l=>?_);have again:∀ {a:St} {c:Hp},Inv X (p++Vr fp V.heap) a c E→N a c→∃m,m<n∧∃i t k,Inv X p t k E∧M i E.heap∧(∀b∈fp,k b=none)∧W i m t k:=fun {a c} j y=>by obtain⟨m',hm,w7⟩:=hN a c y;refine⟨m',hm,i+1,a,c,j.unpinned,T.keep _ _ _ C fun b hb o e=>(j.pin (b,o) (Qr _ (Qr _ (Vq hb e)))).1,fun b hb=>?_,w7⟩;obtain⟨o,e,d⟩:=T.obj _ _ C b hb;exact(j.pin (b,o) (Qr _ (Qr _ (Vq hb e)))).2.1
  cases f with
  | next=>obtain⟨a,c,j,y⟩:=l;exact again j y
  | cont=>obtain⟨a,c,j,y⟩:=l;exact again j y
  | brk=>obtain⟨a,c,j,l⟩:=l;exact⟨a,c,j.unpinned,l⟩
  | ret v=>obtain⟨x7,a,c,j,r7,l⟩:=l;exact⟨x7,a,c,j.unpinned,r7,l⟩
end
theorem TM{K:#[7]}{a:Addr}{xs:List V}{g:TG}{j:TS}{D:Xm}{b:St}{H:Hp}(Pv:Nat→St→Hp→Prop)(h0:Pv 0 b H)(hl:∀i b H,i≤xs.length→Pv i b H→SqL K H a xs)
  (n:∀i x b H,xs[i]? = some x→Pv i b H→g x b H fun d f=>j { D with nx:=Pv (i+1),ct:=Pv (i+1),bk:=D.nx } d f) (hd:∀b H,Pv xs.length b H→D.nx b H) :
  ∃W:Nat→Nat→St→Hp→Prop,(∃m,W 0 m b H)∧∀i m b H,W i m b H →
   ((Itl K a).stop i H∧D.nx b H)∨((Itl K a).go i H∧∃N:St→Hp→Prop,(∀h c,N h c→∃k,k<m∧W (i+1) k h c)∧∀x c,(Itl K a).yld i H x c→g x b c fun d f=>j { D with nx:=N,ct:=N,bk:=D.nx } d f):=by
 refine⟨fun i m b H=>m=xs.length-i∧i≤xs.length∧Pv i b H,⟨xs.length,by simp,Qx _,h0⟩,?_⟩;rintro i m b H ⟨rfl,o,p⟩;have q:=hl i b H o p;by_cases l:i<xs.length
 ·refine .inr ⟨⟨xs,xs[i],q,by simp[l]⟩,Pv (i+1),fun h c r=>⟨xs.length-(i+1),by lia,rfl,l,r⟩,fun x c y=>?_⟩;obtain⟨e,y⟩:=y;subst e;exact n i x b _ (y xs q) p
 ·have e:i=xs.length:=by lia
  subst e;exact .inl ⟨⟨xs,q,Qh _⟩,hd b H p⟩
theorem Vp{lo:Int}{n:Nat}{g:TG}{j:TS}{D:Xm}{a:St}{H:Hp}(Pv:Nat→St→Hp→Prop)(h0:Pv 0 a H)
  (l:∀i a H,i<n→Pv i a H→g (.int (lo+i)) a H fun c d=>j { D with nx:=Pv (i+1),ct:=Pv (i+1),bk:=D.nx } c d) (hd:∀a H,Pv n a H→D.nx a H) :
  ∃W:Nat→Nat→St→Hp→Prop,(∃m,W 0 m a H)∧∀i m a H,W i m a H →
   ((Itr lo n).stop i H∧D.nx a H)∨((Itr lo n).go i H∧∃N:St→Hp→Prop,(∀f b,N f b→∃k,k<m∧W (i+1) k f b)∧∀x b,(Itr lo n).yld i H x b→g x a b fun c d=>j { D with nx:=N,ct:=N,bk:=D.nx } c d):=by
 refine⟨fun i m a H=>m=n-i∧i≤n∧Pv i a H,⟨n,by simp,Qx _,h0⟩,?_⟩;rintro i m a H ⟨rfl,hi,p⟩;by_cases h:i<n
 ·refine .inr ⟨h,Pv (i+1),fun f b o=>⟨n-(i+1),by lia,rfl,h,o⟩,fun x b y=>?_⟩;obtain⟨e,y⟩:=y;subst e y;exact l i a _ h p
 ·have e:i=n:=by lia
  subst e;exact .inl ⟨Qh _,hd a H p⟩
abbrev R2:=V→V→Hp→VK→Prop
def OpR(X:Cx)(f:Value→Value→Sem Value)(r:R2):Prop :=
 ∀ (a:List (Addr×Obj)) (s:Shared) (b:St) (H:Hp) (x y:V) (v u:Value) (Q:VK),Inv X a b H s→ZL x v→ZL y u→r x y H Q →
  #[9,X] (f v u) (EP X a b Q) X.xe s
def UnR(X:Cx)(f:Value→Sem Value)(r:V→Hp→VK→Prop):Prop :=
 ∀ (a:List (Addr×Obj)) (s:Shared) (b:St) (H:Hp) (x:V) (v:Value) (Q:VK),Inv X a b H s→ZL x v→r x H Q →
  #[9,X] (f v) (EP X a b Q) X.xe s
def YT(X:Cx)(f:Value)(r:List V→Hp→VK→Prop):Prop :=
 ∀ (a:List (Addr×Obj)) (s:Shared) (b:St) (H:Hp) (c:List V) (d:List Value) (Q:VK),Inv X a b H s→ZJ c d→r c H Q →
  #[9,X] (call f d) (EP X a b Q) X.xe s
def tOp(r:R2)(b c:TE):TE:=fun a H Q=>b a H fun x d=>c a d fun y e=>r x y e Q
def tUn(r:V→Hp→VK→Prop)(a:TE):TE:=fun b H Q=>a b H fun x c=>r x c Q
inductive RI2 (x y:V) (B:Int→Int→Prop):Prop where
 | mk (i j:Int) (a:x=.int i) (b:y=.int j) (q:B i j)
inductive RI3 (x y:V) (C B:Int→Int→Prop):Prop where
 | mk (i j:Int) (a:x=.int i) (b:y=.int j) (c:C i j) (q:B i j)
def rI(C:Int→Int→Prop)(g:Int→Int→V):R2:=fun x y H Q=>RI3 x y C (fun i j=>Q (g i j) H)
def rI0(g:Int→Int→V):R2:=fun x y H Q=>RI2 x y (fun i j=>Q (g i j) H)
def rU(g:Int→V):V→Hp→VK→Prop:=fun x H Q=>EA (fun i=>x=.int i) (fun i=>Q (g i) H)
section
variable {X:Cx} {a b c:Expr} {ta tb tc:TE} {pos:Pos}
theorem R7(ha:PE X a ta)(hb:PE X b tb){e:List (Addr×Obj)}{s:Shared}{c:St}{H:Hp}{R:V→V→Hp→Prop}(I:Inv X e c H s)
  (h:ta c H fun x i=>tb c i fun y d=>R x y d) {Q:Value→Shared→Prop} {f:Value→Value→Sem Value}
  (j:∀v u g x y d,Inv X e c d g→ZL x v→ZL y u→R x y d→#[9,X] (f v u) Q X.xe g) :
  #[9,X] (eval a X.env) (fun v k=>#[9,X] (eval b X.env) (fun u l=>#[9,X] (f v u) Q X.xe l) X.xe k) X.xe s:=by
 refine thn (ha e s c H _ I h) ?_;rintro v m ⟨x,i,n,o,p⟩;refine thn (hb e m c i _ n p) ?_;rintro u g ⟨y,d,q,r,t⟩;exact j v u g x y d q o r t
theorem ZI{op:Operator}{r:R2}(c:OpR X (binaryOp op) r)(ha:PE X a ta)(hb:PE X b tb):PE X (.BinOp a op b pos) (tOp r ta tb):=by intro d s e H Q I h;exact wpAny_BinOp (R7 ha hb I h fun v u f x y g i j k q=>c d f e g x y v u Q i j k q)
theorem Vo{op:UnaryOp}{r:V→Hp→VK→Prop}(d:UnR X (unaryOp op) r)(ha:PE X a ta):PE X (.UnaryOp op a pos) (tUn r ta):=by intro b s c H Q I h;exact UnaryOp_ (thn (ha b s c H _ I h) fun v e ⟨x,f,g,i,j⟩=>d b e c f x v Q g i j)
theorem opI{f:Value→Value→Sem Value}{C:Int→Int→Prop}{g:Int→Int→Int}
  (rule:∀ (i j:Int) (t u:Tok) (s:Shared) (Q:Value→Shared→Prop) (E:Value→Shared→Prop),C i j→Q (.int (g i j) s.toks) { s with toks:=s.toks+1 }→#[9,X] (f (.int i t) (.int j u)) Q E s) :
  OpR X f (rI C fun i j=>.int (g i j)):=by
 intro aa s σ H x y v u Q I a b h;obtain⟨i,j,rfl,rfl,c,q⟩:=h;obtain⟨t,rfl⟩:=a;obtain⟨d,rfl⟩:=b;exact rule i j t d s _ _ c ⟨.int (g i j),H,I.tok _,⟨_,rfl⟩,q⟩
theorem N4{f:Value→Value→Sem Value}{g:Int→Int→Int}
  (rule:∀ (i j:Int) (t u:Tok) (s:Shared) (Q:Value→Shared→Prop) (E:Value→Shared→Prop),Q (.int (g i j) s.toks) { s with toks:=s.toks+1 }→#[9,X] (f (.int i t) (.int j u)) Q E s) :
  OpR X f (rI0 fun i j=>.int (g i j)):=by
 intro aa s σ H x y v u Q I a b h;obtain⟨i,j,rfl,rfl,q⟩:=h;obtain⟨t,rfl⟩:=a;obtain⟨c,rfl⟩:=b;exact rule i j t c s _ _ ⟨.int (g i j),H,I.tok _,⟨_,rfl⟩,q⟩
theorem R4{f:Value→Value→Sem Value}{g:Int→Int→Bool}
  (rule:∀ (i j:Int) (t u:Tok) (s:Shared) (Q:Value→Shared→Prop) (E:Value→Shared→Prop),Q (.bool (g i j)) s→#[9,X] (f (.int i t) (.int j u)) Q E s) :
  OpR X f (rI0 fun i j=>.bl (g i j)):=by
 intro aa s σ H x y v u Q I a b h;obtain⟨i,j,rfl,rfl,q⟩:=h;obtain⟨t,rfl⟩:=a;obtain⟨c,rfl⟩:=b;exact rule i j t c s _ _ ⟨.bl (g i j),H,I,rfl,q⟩
def ZrZ(i j:Int):Prop:=0<j∧j<1073741824
def N3(i j:Int):Prop:=0≤j∧j≤1000000∧i.natAbs<2 ^ 64
def R3(i j:Int):Prop:=(-(2 ^ 64)<i∧i<2 ^ 64)∨(-(2 ^ 64)<j∧j<2 ^ 64)
theorem R3.ok{i j:Int}(h:R3 i j):IntMulOk i j:=by
 rcases h with⟨a,b⟩|⟨a,b⟩
 ·exact .of_left (intBits_le_64 a b)
 ·exact .of_right (intBits_le_64 a b)
theorem YO:OpR X (binaryOp .Add) (rI0 fun i j=>.int (i+j)):=N4 fun _ _ _ _ _ _ _ q=>add_int q
theorem Wn:OpR X (binaryOp .Sub) (rI0 fun i j=>.int (i-j)):=N4 fun _ _ _ _ _ _ _ q=>sub_int q
theorem VY:OpR X (binaryOp .Mult) (rI R3 fun i j=>.int (i*j)):=opI fun _ _ _ _ _ _ _ hc q=>mul_int q hc.ok
theorem TK:OpR X (binaryOp .FloorDiv) (rI ZrZ fun i j=>.int (i / j)):=opI fun i j _ _ _ _ _ hc q=>by have h1:(0:Int)<j:=hc.1;have h2:j<1073741824:=hc.2;exact floordiv_int #[2] (by rw[Int.fdiv_eq_ediv_of_nonneg i #[2]];exact q) (.inl (PyProof.noPylong_small #[2]))
theorem UO:OpR X (binaryOp .Mod) (rI (fun _ j=>0<j) fun i j=>.int (i % j)):=opI fun i j _ _ _ _ _ hc q=>by have h1:(0:Int)<j:=hc;exact mod_int' #[2] (by rw[Int.fmod_eq_emod_of_nonneg i #[2]];exact q)
theorem ZqK:OpR X (binaryOp .Pow) (rI N3 fun i j=>.int (i ^ j.toNat)):=opI fun _ _ _ _ _ _ _ hc q=>pow_int_small hc.1 hc.2.1 hc.2.2 q
theorem unI{f:Value→Sem Value}{g:Int→Int}
  (rule:∀ (i:Int) (t:Tok) (s:Shared) (Q:Value→Shared→Prop) (E:Value→Shared→Prop),Q (.int (g i) s.toks) { s with toks:=s.toks+1 }→#[9,X] (f (.int i t)) Q E s) :
  UnR X f (rU fun i=>.int (g i)):=by
 intro aa s σ H x v Q I a h;obtain⟨i,rfl,q⟩:=h;obtain⟨t,rfl⟩:=a;exact rule i t s _ _ ⟨.int (g i),H,I.tok _,⟨_,rfl⟩,q⟩
theorem Vn:UnR X (unaryOp .USub) (rU fun i=>.int (-i)):=unI fun _ _ _ _ _ q=>neg_int q
end
noncomputable def N2:V→V→Bool
 | .non,.non=>true|.non,.int _=>true|.int _,.non=>true|.non,.bl _=>true|.bl _,.non=>true|.non,.str _=>true|.str _,.non=>true
 | .int _,.int _=>true|.bl _,.bl _=>true|.str _,.str _=>true|.byt _,.byt _=>true
 | .int _,.str _=>true|.str _,.int _=>true|.bl _,.str _=>true|.str _,.bl _=>true
 | _,_=>false
def rEq:R2:=fun x y H Q=>N2 x y=true∧Q (.bl (decide (x=y))) H
def rNe:R2:=fun x y H Q=>N2 x y=true∧Q (.bl (!decide (x=y))) H
theorem N1{i j:Int}:decide (V.int i=V.int j)=(i == j):=by rw[QaJ];simp
theorem NZ{i j:Bool}:decide (V.bl i=V.bl j)=(i == j):=by rw[QaJ];simp
theorem NY{i j:Str}:decide (V.str i=V.str j)=(i == j):=by rw[QaJ];simp
theorem NX{i j:Array UInt8}:decide (V.byt i=V.byt j)=(i.toList == j.toList):=by rw[QaJ];cases i;cases j;simp
section
variable {X:Cx} {a b c:Expr} {ta tb tc:TE} {pos:Pos}
theorem ZY{a:List (Addr×Obj)}{b:St}{H:Hp}{s:Shared}{Q:VK}{k k':Bool}(I:Inv X a b H s)(q:Q (.bl k) H)(e:k=k'):EP X a b Q (.bool k') s:=by subst e;exact⟨.bl k,H,I,rfl,q⟩
theorem YF:OpR X (compareOp .Eq) rEq:=by
 intro aa s σ H x y v u Q I d a h;obtain⟨c,q⟩:=h;cases x with
 | non =>
  cases d;cases y with
  | non=>cases a;exact PySem.EqNone.eq_none_none (ZY I q #[4])
  | bl j=>cases a;exact PySem.EqNone.eq_none_bool (ZY I q #[4])
  | int j=>obtain⟨b,rfl⟩:=a;exact PySem.EqNone.eq_none_int (ZY I q #[4])
  | str j=>obtain⟨b,rfl⟩:=a;exact PySem.EqNone.eq_none_str (ZY I q #[4])
  | _=>exact absurd (show false=true from c) Ql
 | bl i =>
  cases d;cases y with
  | non=>cases a;exact PySem.EqNone.eq_bool_none (ZY I q #[4])
  | bl j=>cases a;exact eq_bool (ZY I q NZ)
  | str j=>obtain⟨b,rfl⟩:=a;exact PySem.EqMixed.eq_bool_str (ZY I q #[4])
  | _=>exact absurd (show false=true from c) Ql
 | int i =>
  obtain⟨t,rfl⟩:=d;cases y with
  | non=>cases a;exact PySem.EqNone.eq_int_none (ZY I q #[4])
  | int j=>obtain⟨b,rfl⟩:=a;exact eq_int (ZY I q N1)
  | str j=>obtain⟨b,rfl⟩:=a;exact PySem.EqMixed.eq_int_str (ZY I q #[4])
  | _=>exact absurd (show false=true from c) Ql
 | str i =>
  obtain⟨t,rfl⟩:=d;cases y with
  | non=>cases a;exact PySem.EqNone.eq_str_none (ZY I q #[4])
  | bl j=>cases a;exact PySem.EqMixed.eq_str_bool (ZY I q #[4])
  | int j=>obtain⟨b,rfl⟩:=a;exact PySem.EqMixed.eq_str_int (ZY I q #[4])
  | str j=>obtain⟨b,rfl⟩:=a;exact eq_str (ZY I q NY)
  | _=>exact absurd (show false=true from c) Ql
 | byt i =>
  obtain⟨t,rfl⟩:=d;cases y with
  | byt j=>obtain⟨b,rfl⟩:=a;exact PySem.W.eq_bytes (ZY I q NX)
  | _=>exact absurd (show false=true from c) Ql
 | _=>cases y<;>exact absurd (show false=true from c) Ql
theorem R0:OpR X (compareOp .NotEq) rNe:=by
 intro aa s σ H x y v u Q I d a h;obtain⟨c,q⟩:=h;cases x with
 | non =>
  cases d;cases y with
  | non=>cases a;exact PySem.EqNone.ne_none_none (ZY I q #[4])
  | bl j=>cases a;exact PySem.EqNone.ne_none_bool (ZY I q #[4])
  | int j=>obtain⟨b,rfl⟩:=a;exact PySem.EqNone.ne_none_int (ZY I q #[4])
  | str j=>obtain⟨b,rfl⟩:=a;exact PySem.EqNone.ne_none_str (ZY I q #[4])
  | _=>exact absurd (show false=true from c) Ql
 | bl i =>
  cases d;cases y with
  | non=>cases a;exact PySem.EqNone.ne_bool_none (ZY I q #[4])
  | bl j=>cases a;exact ne_bool (ZY I q (congrArg not NZ))
  | str j=>obtain⟨b,rfl⟩:=a;exact PySem.EqMixed.ne_bool_str (ZY I q #[4])
  | _=>exact absurd (show false=true from c) Ql
 | int i =>
  obtain⟨t,rfl⟩:=d;cases y with
  | non=>cases a;exact PySem.EqNone.ne_int_none (ZY I q #[4])
  | int j=>obtain⟨b,rfl⟩:=a;exact ne_int (ZY I q (congrArg not N1))
  | str j=>obtain⟨b,rfl⟩:=a;exact PySem.EqMixed.ne_int_str (ZY I q #[4])
  | _=>exact absurd (show false=true from c) Ql
 | str i =>
  obtain⟨t,rfl⟩:=d;cases y with
  | non=>cases a;exact PySem.EqNone.ne_str_none (ZY I q #[4])
  | bl j=>cases a;exact PySem.EqMixed.ne_str_bool (ZY I q #[4])
  | int j=>obtain⟨b,rfl⟩:=a;exact PySem.EqMixed.ne_str_int (ZY I q #[4])
  | str j=>obtain⟨b,rfl⟩:=a;exact ne_str (ZY I q (congrArg not NY))
  | _=>exact absurd (show false=true from c) Ql
 | byt i =>
  obtain⟨t,rfl⟩:=d;cases y with
  | byt j=>obtain⟨b,rfl⟩:=a;exact PySem.W.ne_bytes (ZY I q (congrArg not NX))
  | _=>exact absurd (show false=true from c) Ql
 | _=>cases y<;>exact absurd (show false=true from c) Ql
theorem Xr:OpR X (compareOp .Lt) (rI0 fun i j=>.bl (decide (i<j))):=R4 fun _ _ _ _ _ _ _ q=>lt_int q
theorem VX:OpR X (compareOp .Gt) (rI0 fun i j=>.bl (decide (j<i))):=R4 fun _ _ _ _ _ _ _ q=>gt_int q
theorem NW:OpR X (compareOp .GtE) (rI0 fun i j=>.bl (decide (j≤i))):=R4 fun _ _ _ _ _ _ _ q=>ge_int q
theorem ZlS:OpR X (compareOp .Lt) (fun x y H Q=>∃i j,x=.str i∧y=.str j∧Q (.bl (decide (i.cps.toList<j.cps.toList))) H):=by intro aa s σ H x y v u Q I a b h;obtain⟨i,j,rfl,rfl,q⟩:=h;obtain⟨t,rfl⟩:=a;obtain⟨t',rfl⟩:=b;exact lt_str (ZY I q rfl)
theorem Yb:OpR X (compareOp .Is) (fun x y H Q=>y=.non∧Q (.bl (decide (x=.non))) H):=by
 intro aa s σ H x y v u Q I a b h;obtain⟨rfl,q⟩:=h;cases b;refine is_none_gen (ZY I q ?_);cases x<;>first
  | (cases a;rfl)
  | (obtain⟨t,rfl⟩:=a;rfl)
theorem UN:OpR X (compareOp .IsNot) (fun x y H Q=>y=.non∧Q (.bl (!decide (x=.non))) H):=by
 intro aa s σ H x y v u Q I a b h;obtain⟨rfl,q⟩:=h;cases b;refine isnot_none_gen (ZY I q ?_);cases x<;>first
  | (cases a;rfl)
  | (obtain⟨t,rfl⟩:=a;rfl)
theorem Zp(b:Expr){op:CmpOp}(h:op≠.In:=by decide)(h2:op≠.NotIn:=by decide):behindInMarks op b=false:=by
 have a:(op == CmpOp.In)=false:=by cases op<;>first|rfl|exact absurd rfl h
 have c:(op == CmpOp.NotIn)=false:=by cases op<;>first|rfl|exact absurd rfl h2
 cases b<;>simp[behindInMarks,a,c]
theorem Ya{op:CmpOp}{r:R2}(c:OpR X (compareOp op) r)(ha:PE X a ta)(hb:PE X b tb)(hm:behindInMarks op b=false):PE X (.Compare a [op] [b] pos) (tOp r ta tb):=by intro d s e H Q I h;exact wpAny_Compare1 (R7 ha hb I h fun v u f x y g i j k q=>c d f e g x y v u Q i j k q) hm
def ZrF(t:TE):TT:=fun a H Q=>t a H fun x H'=>EA (fun k=>x=.bl k) (fun k=>Q k H')
theorem Zn{op:CmpOp}{r:R2}(g:OpR X (compareOp op) r)(ha:PE X a ta)(hb:PE X b tb)(hm:behindInMarks op b=false):PT X (.Compare a [op] [b] pos) (ZrF (tOp r ta tb)):=by
 intro d s f H Q I h;refine wpAny_isTrue_Compare1 (thn (ha d s f H _ I h) fun v i ⟨x,j,l,m,n⟩=>thn (hb d i f j _ l n) fun u o ⟨y,p,q,t,w⟩=>
  thn (g d o f p x y v u _ q m t w) fun c s3 ⟨z,A,B,C,k,e,D⟩=>?_) hm
 subst e;cases C;exact wpAny_truthy_bool ⟨A,B,D⟩
theorem Vm:(sizeLine:Nat)<2 ^ 63:=by rw[sizeLine_eq];decide
theorem RZ:OpR X (binaryOp .Add) (fun x y H Q=>∃i j,x=.str i∧y=.str j∧i.length+j.length≤sizeLine∧Q (.str (i++j)) H):=by intro aa s σ H x y v u Q I a b h;obtain⟨i,j,rfl,rfl,c,q⟩:=h;obtain⟨t,rfl⟩:=a;obtain⟨d,rfl⟩:=b;exact add_str (fun d tk=>⟨.str (i++j),H,I.tok _,⟨_,rfl⟩,q⟩) c
theorem Xy{x:V}{us:List Value}(r:ZJ [x] us):∃u,us=[u]∧ZL x u:=by
 cases r with
 | cons a b=>cases b;exact⟨_,rfl,a⟩
theorem TH{x y:V}{us:List Value}(r:ZJ [x,y] us):∃u a,us=[u,a]∧ZL x u∧ZL y a:=by
 cases r with
 | cons b c =>
  cases c with
  | cons d e=>cases e;exact⟨_,_,rfl,b,d⟩
theorem NV:YT X (.builtin "abs") (fun xs H Q=>∃i,xs=[.int i]∧Q (.int (if i<0 then -i else i)) H):=by intro aa s σ H xs us Q I r h;obtain⟨i,rfl,q⟩:=h;obtain⟨u,rfl,t,rfl⟩:=Xy r;exact call_abs_int fun u tk=>⟨.int (if i<0 then -i else i),H,I.tok _,⟨_,rfl⟩,q⟩
theorem Zlt(hc:X.calm=true):YT X (.builtin "max") (fun xs H Q=>∃i j,xs=[.int i,.int j]∧Q (.int (if j>i then j else i)) H):=by
 intro aa s σ H xs us Q I r h;obtain⟨i,j,rfl,q⟩:=h;obtain⟨u,w',rfl,⟨t,rfl⟩,⟨t',rfl⟩⟩:=TH r;refine max_two_ints (I.ok.hd hc) fun h' tk k=>⟨_,H,I.kept k,?_,q⟩;by_cases a:j>i
 ·rw[if_pos a,if_pos a];exact⟨_,rfl⟩
 ·rw[if_neg a,if_neg a];exact⟨_,rfl⟩
theorem ZlP(hc:X.calm=true):YT X (.builtin "min") (fun xs H Q=>∃i j,xs=[.int i,.int j]∧Q (.int (if j<i then j else i)) H):=by
 intro aa s σ H xs us Q I r h;obtain⟨i,j,rfl,q⟩:=h;obtain⟨u,w',rfl,⟨t,rfl⟩,⟨t',rfl⟩⟩:=TH r;refine min_two_ints (I.ok.hd hc) fun h' tk k=>⟨_,H,I.kept k,?_,q⟩;by_cases a:j<i
 ·rw[if_pos a,if_pos a];exact⟨_,rfl⟩
 ·rw[if_neg a,if_neg a];exact⟨_,rfl⟩
theorem NU:YT X (.type "int") (fun xs H Q=>(∃i,xs=[.int i]∧Q (.int i) H)∨∃k,xs=[.bl k]∧Q (.int (if k then 1 else 0)) H):=by
 intro aa s σ H xs us Q I r h;rcases h with⟨i,rfl,q⟩|⟨k,rfl,q⟩
 ·obtain⟨u,rfl,t,rfl⟩:=Xy r;exact call_int_int ⟨.int i,H,I,⟨_,rfl⟩,q⟩
 ·obtain⟨u,rfl,a⟩:=Xy r;cases a;exact call_int_bool ⟨.int (if k then 1 else 0),H,I.tok _,⟨_,rfl⟩,q⟩
end
structure VW (h:Heap) (x dx C:Addr) (mA:Str→Option Value):Prop where
 obj:h.get? x=some (PySem.W.instObj C dx)
 ns:h.Ns1 dx mA
 ne:dx≠x
theorem Zmk{h:Heap}{dx:Addr}{b:Str→Option Value}(n:h.Ns1 dx b):∃c,h.get? dx=some c∧∀name,PySem.W.lookIn name c=some (b name):=by
 obtain⟨o,d,ep,f,g,i,_,j⟩:=n;refine⟨o,f,fun name=>?_⟩;have e:=j name;unfold nsFind findBy at e;rw[← Array.find?_toList]at e;unfold PySem.W.lookIn;rw[g];dsimp only;split
 ·rename_i y q;rw[q]at e;exact congrArg some e
 ·rename_i q;rw[q]at e;have a:d.toList.any (·.refKey)=false:=by rw[List.any_eq_false];intro y k;obtain⟨z,t,l⟩:=i y (Array.mem_toList_iff.mp k);simp[DictEntry.refKey,l]
  have m:¬ d.toList.any (·.refKey)=true:=by rw[a];exact Ql
  rw[if_neg m];exact congrArg some e
theorem VW.look{h:Heap}{x dx C:Addr}{b:Str→Option Value}(I:VW h x dx C b):∃a,PySem.W.InstAt h x (PySem.W.instObj C dx) C (some a)∧∀name,PySem.W.lookIn name a=some (b name) :=
 let ⟨a,c,d⟩:=Zmk I.ns
 ⟨a,⟨I.obj,rfl,rfl,c⟩,d⟩
section
variable {prog:Program} {w:World} {A:Around} {E:Value→Shared→Prop} {s:Shared} {K:#[7]} {x dx C f:Addr} {mA:Str→Option Value} {name:Str} {v:Value}
theorem ZoG{a:Bool}{Q:Value→Shared→Prop}(X:K.In s.heap)(I:VW s.heap x dx C mA)(b:PySem.W.plainGet K C name=true)(c:PySem.W.hasDictIn K C=true)
  (ha:PySem.W.findIn K (.ref C) name=some none) (d:mA name=some v) (e:PySem.W.handedIn v=true) (h:Q v { s with toks:=s.toks+1 }) :
  wpAny (model prog w) A (getAttr (.ref x) name a) Q E s:=by
 obtain⟨od,J,f⟩:=I.look;exact PySem.W.get_value X J (PySem.W.plainGet_of b).1 (PySem.W.findObj_own c ha rfl (by rw[f,d])) e h
theorem Zm2{pl:Sem Bool}{Q:Value×List Value→Shared→Prop}(X:K.In s.heap)(I:VW s.heap x dx C mA)(a:PySem.W.plainGet K C name=true)
  (b:PySem.W.findIn K (.ref C) name=some (some (.ref f))) (c:PySem.W.isFn K (.ref f)=true) (d:mA name=none) (h:Q (.ref f,[.ref x]) s) :
  wpAny (model prog w) A (getMethod (.ref x) name pl) Q E s:=by
 obtain⟨e,J,g⟩:=I.look;exact PySem.W.method_fn X J (PySem.W.plainGet_of a).1 (PySem.W.plainGet_of a).2 b (beq_iff_eq.mp c) (by show (PySem.W.lookIn name e).map (·.isSome)=some false;rw[g,d];rfl) h
theorem Zos{ns:List Str}{Q:Unit→Shared→Prop}(X:K.In s.heap)(I:VW s.heap x dx C mA)
  (e:PySem.W.findIn K (.ref C) "__setattr__" = some (some (.builtin "object.__setattr__"))) (hp:PySem.W.plainOver K C=true) (f:PySem.W.takerIn K C name=some none) (g:PySem.W.hasDictIn K C=true)
  (hw:PySem.Within mA ns) (hsz:ns.length≤sizeLine)
  (h:∀h',VW h' x dx C (fun y=>if y=name then some v else mA y)→Heap.SameBut dx s.heap h'→Q () { s with heap:=h',toks:=s.toks+2 }) :
  wpAny (model prog w) A (setAttr (.ref x) name v) Q E s:=by
 obtain⟨od,J,hl⟩:=I.look;refine PySem.W.set_plain X J e (PySem.W.osa_open (s:={ s with toks:=s.toks+1 }) (r:=none) X J hp f fun b=>?_);obtain⟨cd,i,j⟩:=PySem.W.any_some g;have k:s.heap.get? x=some ⟨.ref C,some dx,.plain,#[]⟩:=I.obj;refine wpAny_bind (wpAny_pure (wpAny_bind (wpAny_bind (wpAny_loadPart k (wpAny_bind (PySem.W.Looks.here (s:={ s with toks:=s.toks+1 }) (PySem.W.looks_clsIn X i) ?_))))));rw[j];refine wpAny_pure (a:=some dx) (wpAny_bind (wpAny_pure (wpAny_bind ?_)));refine wpAny_nsSet1 (s:={ s with toks:=s.toks+1 }) I.ns fun h' c d=>?_;obtain⟨oD,I0,Ja,l,m,n⟩:=c.count (PySem.Within.cons name v hw);refine wpAny_bind (wpAny_lookBehind l (by rw[m];exact pastItsLine_dict (Qv n (by rw[QM];lia))) ?_);exact wpAny_pure (h _ ⟨(d.2 _ (Ne.symm I.ne)).trans I.obj,c,I.ne⟩ d)
theorem ZmC{R:Result→Shared→Prop}{vs:List Value}{kw:List (Str×Value)}(X:K.In s.heap)(hm:PySem.W.makesIn K C=true)
  (a:PySem.W.findIn K (.ref C) "__init__" = some (some (.ref f))) (b:PySem.W.typeIn K (.ref f)=some (.type "function"))
  (h:codeAny (model prog w) (A.under (.builtin "type.__call__" ⟨.ref C::vs,kw⟩)) (.call (.ref f) ⟨.ref (s.heap.objs.size+1)::vs,kw⟩) (PySem.W.InitBack (s.heap.objs.size+1) R)
   { s with heap:=(s.heap.push PySem.W.emptyDict).push (PySem.W.instObj C s.heap.objs.size) }) :
  codeAny (model prog w) A (.call (.ref C) ⟨vs,kw⟩) R s:=by
 obtain⟨hh,g,d,t,os⟩:=s;exact PySem.W.make_core (PySem.W.makes_of X hm) (PySem.W.looks_findIn X a) (fun self=>PySem.W.bind_fn X self b) #[8] h
end
noncomputable def Zx(f:Str)(v:V):List (Str×V)→List (Str×V)
 | []=>[(f,v)]
 | (g,x)::r=>if g=f then (g,v)::r else (g,x)::Zx f v r
theorem Zm(f g:Str)(v:V):∀fs:List (Str×V),(Zx f v fs).lookup g=if g=f then some v else fs.lookup g
 | []=>by
  show List.lookup g [(f,v)]=_;by_cases h:g=f
  ·have hb:(g == f)=true:=beq_iff_eq.mpr h;simp only[List.lookup,hb,if_pos h]
  ·have hb:(g == f)=false:=beq_eq_false_iff_ne.mpr h;simp only[List.lookup,hb,if_neg h]
 | (k,x)::r=>by
  have b:=Zm f g v r;rw[show Zx f v ((k,x)::r)=(if k=f then (k,v)::r else (k,x)::Zx f v r) from rfl];by_cases a:k=f
  ·rw[if_pos a];by_cases h:g=k
   ·have hb:(g == k)=true:=beq_iff_eq.mpr h;simp only[List.lookup,hb,if_pos (h.trans a)]
   ·have hb:(g == k)=false:=beq_eq_false_iff_ne.mpr h;simp only[List.lookup,hb,if_neg (fun e:g=f=>h (e.trans a.symm))]
  ·rw[if_neg a];by_cases h:g=k
   ·have hb:(g == k)=true:=beq_iff_eq.mpr h;simp only[List.lookup,hb,if_neg (fun e:g=f=>a (h.symm.trans e))]
   ·have hb:(g == k)=false:=beq_eq_false_iff_ne.mpr h;simp only[List.lookup,hb];exact b
theorem RY(f:Str)(v:V):∀fs:List (Str×V),f∈(Zx f v fs).map (·.1)∧∀g,g∈fs.map (·.1)→g∈(Zx f v fs).map (·.1)
 | []=>⟨by simp[Zx],fun g h=>by simp at h⟩
 | (k,x)::r=>by
  obtain⟨i1,i2⟩:=RY f v r;rw[show Zx f v ((k,x)::r)=(if k=f then (k,v)::r else (k,x)::Zx f v r) from rfl];by_cases a:k=f
  ·rw[if_pos a];subst a;exact⟨by simp,fun g h=>by simpa using h⟩
  ·rw[if_neg a];refine⟨?_,fun g h=>?_⟩
   ·rw[Qk];exact Qt _ i1
   ·rw[Qk]at h ⊢;rcases QG.mp h with e|e
    ·exact List.mem_cons.mpr (.inl e)
    ·exact Qt _ (i2 g e)
theorem NT(f:Str)(v:V):∀fs:List (Str×V),(Zx f v fs).length≤fs.length+1
 | []=>by simp[Zx]
 | (k,x)::r=>by
  have ih:=NT f v r;rw[show Zx f v ((k,x)::r)=(if k=f then (k,v)::r else (k,x)::Zx f v r) from rfl];by_cases a:k=f
  ·rw[if_pos a,QM,QM];lia
  ·rw[if_neg a,QM,QM];lia
theorem Yd.some_of{v:V}{o:Option Value}(r:Yd (some v) o):∃u,o=some u∧ZL v u:=by
 cases o with
 | none=>exact(show False from r).elim
 | some u=>exact⟨u,rfl,r⟩
theorem Yd.none_of{o:Option Value}(r:Yd none o):o=none:=by
 cases o with
 | none=>rfl
 | some u=>exact(show False from r).elim
theorem Zl0{v:V}{u:Value}(r:ZL v u):PySem.W.handedIn u=true:=by
 cases v with
 | non=>cases (show u=Value.none from r);rfl
 | bl b=>cases (show u=Value.bool b from r);rfl
 | int i=>obtain⟨t,e⟩:=(show ∃t,u=Value.int i t from r);cases e;rfl
 | str x=>obtain⟨t,e⟩:=(show ∃t,u=Value.str x t from r);cases e;rfl
 | byt b=>obtain⟨t,e⟩:=(show ∃t,u=Value.bytes b t from r);cases e;rfl
 | flt b=>obtain⟨t,e⟩:=(show ∃t,u=Value.float b t from r);cases e;rfl
 | ref a=>cases (show u=Value.ref a from r);rfl
 | ty n=>cases (show u=Value.type n from r);rfl
section
variable {P:Program} {w:World} {H H':Hp} {h h':Heap} {a C dx:Addr} {fs kU:List (Str×V)}
theorem UM(hok:HOk P w H h)(e:H a=some (.ins C dx fs)):∃b,VW h a dx C b∧(∀f,Yd (fs.lookup f) (b f))∧PySem.Within b (fs.map (·.1))∧fs.length≤1000∧H dx=some (.own a):=by obtain⟨d,z,ne,c,b,n,r,q⟩:=(show YZ P w H h a (.ins C dx fs) from hok a _ e);exact⟨b,⟨c,n,ne⟩,r,q,z,d⟩
end
structure Cls (K:#[7]) (C:Addr):Prop where
 pg:PySem.W.plainGet K C Str.empty=true
 hd:PySem.W.hasDictIn K C=true
 po:PySem.W.plainOver K C=true
 sa:PySem.W.findIn K (.ref C) "__setattr__" = some (some (.builtin "object.__setattr__"))
theorem Cls.get{K:#[7]}{C:Addr}(c:Cls K C)(f:Str):PySem.W.plainGet K C f=true:=c.pg
def X3(K:#[7])(C:Addr)(f:Str):Prop:=PySem.W.findIn K (.ref C) f=some none
theorem X3.taker{K:#[7]}{C:Addr}{f:Str}(n:X3 K C f):PySem.W.takerIn K C f=some none:=by unfold PySem.W.takerIn;rw[show PySem.W.findIn K (.ref C) f=some none from n];rfl
structure Con (K:#[7]) (C:Addr) (f:Str) (v:V) (u:Value):Prop where
 at_:PySem.W.findIn K (.ref C) f=some (some u)
 rel:ZL v u
 get:PySem.W.specialIn K u "__get__" = some none
 cp:PySem.W.copiedNames.contains f=false
structure UL (K:#[7]) (C:Addr) (m:Str) (f:Addr):Prop where
 at_:PySem.W.findIn K (.ref C) m=some (some (.ref f))
 fn:PySem.W.isFn K (.ref f)=true
 kp:PySem.W.keepIn K (.ref f)=true
section
variable {X:Cx} {aa:List (Addr×Obj)} {σ:St} {H:Hp} {s:Shared} {a C dx:Addr} {fs:List (Str×V)} {f:Str} {v:V} {A:Around} {E:Value→Shared→Prop}
theorem NS{b:Bool}{Q:Value→Shared→Prop}(I:Inv X aa σ H s)(e:H a=some (.ins C dx fs))(c:Cls X.K C)(n:X3 X.K C f)(l:fs.lookup f=some v)
  (h:∀u s',Inv X aa σ H s'→ZL v u→Q u s'):wpAny (model X.prog X.w) A (getAttr (.ref a) f b) Q E s:=by
 obtain⟨g,O,r,_,_,_⟩:=UM I.hok e;obtain⟨u,i,d⟩:=Yd.some_of (v:=v) (o:=g f) (by rw[← l];exact r f);exact ZoG I.kIn O (c.get f) c.hd n i (Zl0 d) (h u _ (I.tok _) d)
theorem NR{m:Str}{g:Addr}{pl:Sem Bool}{Q:Value×List Value→Shared→Prop}(I:Inv X aa σ H s)(e:H a=some (.ins C dx fs))(c:Cls X.K C)(k:UL X.K C m g)(l:fs.lookup m=none)
  (h:Q (.ref g,[.ref a]) s):wpAny (model X.prog X.w) A (getMethod (.ref a) m pl) Q E s:=by
 obtain⟨b,O,r,_,_,_⟩:=UM I.hok e;have d:b m=none:=Yd.none_of (by rw[← l];exact r m);exact Zm2 I.kIn O (c.get m) k.at_ k.fn d h
theorem NQ{y:V}{u:Value}{Q:Unit→Shared→Prop}(I:Inv X aa σ H s)(e:H a=some (.ins C dx fs))(c:Cls X.K C)(n:X3 X.K C f)(hl:fs.length<1000)(l:ZL y u)
  (h:∀s',Inv X aa σ (upd H a (.ins C dx (Zx f y fs))) s'→Q () s'):wpAny (model X.prog X.w) A (setAttr (.ref a) f u) Q E s:=by
 obtain⟨i,O,r,j,_,k⟩:=UM I.hok e;have m:(fs.map (·.1)).length≤sizeLine:=by rw[Qa,sizeLine_eq];lia
 refine Zos I.kIn O c.sa c.po n.taker c.hd j m fun p d t=>h _ ?_;have v:∃o,p.get? dx=some o:=let ⟨o,_,_,w,_⟩:=d.ns;⟨o,w⟩;refine I.write (x:=a) (e:=dx) (by rw[e];exact True.intro) (.inr k) (fun b q B z=>(t.2 b B).trans z) v ?_;refine⟨by rw[Zc O.ne];exact k,?_,O.ne,d.obj,_,d.ns,fun g=>?_,fun g D=>?_⟩
 ·have:=NT f y fs;lia
 ·show Yd ((Zx f y fs).lookup g) (if g=f then some u else i g);rw[Zm];by_cases q:g=f
  ·rw[if_pos q,if_pos q];exact l
  ·rw[if_neg q,if_neg q];exact r g
 ·by_cases q:g=f
  ·rw[q];exact(RY f y fs).1
  ·refine(RY f y fs).2 g (j g fun z=>D ?_);show (if g=f then some u else i g)=none;rw[if_neg q];exact z
theorem Inv.made(I:Inv X aa σ H s):Inv X aa σ (upd (upd H s.heap.objs.size (.own (s.heap.objs.size+1))) (s.heap.objs.size+1) (.ins C s.heap.objs.size []))
  { s with heap:=(s.heap.push PySem.W.emptyDict).push (PySem.W.instObj C s.heap.objs.size) }:=by
 have c:(s.heap.push PySem.W.emptyDict).get? s.heap.objs.size=some PySem.W.emptyDict:=Qs s.heap rfl;have d:((s.heap.push PySem.W.emptyDict).push (PySem.W.instObj C s.heap.objs.size)).get? (s.heap.objs.size+1)=some (PySem.W.instObj C s.heap.objs.size):=by have:=Qs (s.heap.push PySem.W.emptyDict) (o:=PySem.W.instObj C s.heap.objs.size) rfl;rwa [Q8]at this
 have f:(s.heap.push PySem.W.emptyDict).Ns s.heap.objs.size (fun _=>none):=⟨PySem.W.emptyDict,#[],_,c,rfl,(fun e g=>absurd g #[4]),fun _=>rfl⟩;have h:=I.laid (a:=s.heap.objs.size) (o:=.own (s.heap.objs.size+1)) (h':=s.heap.push PySem.W.emptyDict) (t':=s.toks) (fun b u q=>Qc _ q) (Qh _) ⟨_,c⟩;refine h.laid (a:=s.heap.objs.size+1) (o:=.ins C s.heap.objs.size []) (t':=s.toks) (fun b u q=>Qc _ q) (Nat.le_of_eq (Q8 _ _)) ?_;have ne:s.heap.objs.size≠s.heap.objs.size+1:=QB (Nat.lt_succ_self _);refine⟨by rw[Zc ne,Zd],Qx _,ne,d,fun _=>none,(Heap.Ns1.of_empty f).at fun o q=>Qc _ q,fun _=>True.intro,fun y i=>absurd rfl i⟩
theorem ZoZ{prog:Program}{w:World}{env:Env}{e:Expr}{f:Str}{pos:Pos}{s:Shared}{Q:Value→Shared→Prop}(hb:attributeBase e f env (eval e env)=eval e env)
  (h:wpAny (model prog w) A (eval e env) (fun o a=>wpAny (model prog w) A (getAttr o f true) Q E a) E s):wpAny (model prog w) A (eval (.Attribute e f pos) env) Q E s :=
 Attribute_any_ h (by rw[arm_eval_Attribute,hb])
end
inductive Zse (K:#[7]) (f:Str) (x:V) (H:Hp) (B:V→Prop):Prop where
 | mk (a C dx:Addr) (fs:List (Str×V)) (v:V) (e:x=.ref a) (g:H a=some (.ins C dx fs)) (c:Cls K C) (n:X3 K C f) (l:fs.lookup f=some v) (q:B v)
def Zr5(K:#[7])(b:TE)(f:Str):TE:=fun c H Q=>b c H fun x a=>Zse K f x a (fun v=>Q v a)
inductive RSF (K:#[7]) (f:Str) (x:V) (H:Hp) (B:Addr→HO→Prop) (y:V):Prop where
 | mk (a C dx:Addr) (fs:List (Str×V)) (e:x=.ref a) (g:H a=some (.ins C dx fs)) (c:Cls K C) (n:X3 K C f) (l:fs.length<1000) (q:B a (.ins C dx (Zx f y fs)))
def Zsx(K:#[7])(d e:TE)(f:Str):TS:=fun D b H=>e b H fun y g=>d b g fun x c=>RSF K f x c (fun a o=>D.nx b (upd c a o)) y
def NP(X:Cx)(op:Operator)(rd:V→V→Hp→VK→Prop):Prop :=
 ∀ (a:List (Addr×Obj)) (s:Shared) (b:St) (H:Hp) (x y:V) (u v:Value) (Q:VK),Inv X a b H s→ZL x u→ZL y v→rd x y H Q→#[9,X] (inplaceOp op u v) (EP X a b Q) X.xe s
def Zps(K:#[7])(h i:TE)(rd:V→V→Hp→VK→Prop)(f:Str):TS:=fun D b H=>h b H fun x d=>∃a C dx fs v,x=.ref a∧d a=some (.ins C dx fs)∧Cls K C∧X3 K C f∧fs.lookup f=some v ∧
 i b d fun y j=>rd v y j fun z e=>∃g c,e a=some (.ins C g c)∧c.length<1000∧D.nx b (upd e a (.ins C g (Zx f z c)))
section
variable {X:Cx} {o e value:Expr} {f:Str} {pos bF bG:Pos} {ta tv:TE}
theorem ZM(he:PE X e ta)(hb:attributeBase e f X.env (eval e X.env)=eval e X.env):PE X (.Attribute e f pos) (Zr5 X.K ta f):=by intro b s d H Q I h;refine ZoZ hb (thn (he b s d H _ I h) ?_);rintro u s1 ⟨x,g,i,j,a,C,dx,fs,v,ex,k,c,n,l,q⟩;subst ex;obtain rfl:u=Value.ref a:=j;exact NS i k c n l fun u' s2 m o=>⟨v,g,m,o,q⟩
theorem Yx(ha:PE X o ta)(e:PE X value tv)(g:swapsWith value (some (.Attribute o f bF)) pos.line X.env=pure false):PS X (.Assign [.Attribute o f bF] value pos) (Zsx X.K ta tv f):=by intro d s b H D I h;refine plainObj_wpAny_Assign_Attribute (thn (e d s b H _ I h) fun u i ⟨y,j,k,m,q⟩=>thn (ha d i b j _ k q) ?_) g;rintro p s2 ⟨x,H2,r,t,a,C,dx,fs,ex,v,c,n,l,w⟩;subst ex;obtain rfl:p=Value.ref a:=t;exact NQ r v c n l m fun s3 z=>⟨b,_,z,w⟩
theorem VU{op:Operator}{rd:V→V→Hp→VK→Prop}(ha:PE X o ta)(e:PE X value tv)(g:NP X op rd):PS X (.AugAssign (.Attribute o f bG) op value pos) (Zps X.K ta tv rd f):=by intro d s b H D I h;refine wpAny_AugAssign_AttributeAny (thn (ha d s b H _ I h) ?_);rintro i s1 ⟨x,j,k,m,a,C,dx,fs,v,ex,p,c,n,l,q⟩;subst ex;obtain rfl:i=Value.ref a:=m;refine NS k p c n l fun u r t w=>thn (e d r b j _ t q) fun A B ⟨y,E,F,G,J⟩=>thn (g d B b E v y u A _ F w G J) ?_;rintro w4 s4 ⟨z,H3,K,L,qr,kU,M,N,O⟩;exact NQ K M c n N L fun s5 P=>⟨b,_,P,O⟩
def Zsk:V→V→Hp→VK→Prop:=fun x y H Q=>RI2 x y (fun i j=>Q (.int (i+j)) H)
theorem UK:NP X .Add Zsk:=by rintro aa s σ H x y u v Q I b c ⟨i,j,rfl,rfl,q⟩;obtain⟨t,rfl⟩:=(show ∃t,u=Value.int i t from b);obtain⟨a,rfl⟩:=(show ∃a,v=Value.int j a from c);exact PyProof.Rows.iadd_int ⟨.int (i+j),H,I.tok _,⟨_,rfl⟩,q⟩
end
section
variable {X:Cx} {aa:List (Addr×Obj)} {σ:St} {H:Hp} {s:Shared} {A:Around} {E:Value→Shared→Prop} {Q:Value→Shared→Prop} {c:Value} {b:Bool}
inductive Xx (K:#[7]) (H:Hp):V→Value→Prop where
 | non:Xx K H .non (.type "NoneType")
 | bl (x:Bool):Xx K H (.bl x) (.type "bool")
 | int (i:Int):Xx K H (.int i) (.type "int")
 | str (x:Str):Xx K H (.str x) (.type "str")
 | flt (x:UInt64):Xx K H (.flt x) (.type "float")
 | lst {a:Addr} {xs:List V} (e:H a=some (.lst xs)):Xx K H (.ref a) (.type "list")
 | frz {a:Addr} {o:Obj} {xs:List V} (e:H a=some (.frz o (.lst xs))):Xx K H (.ref a) (.type "list")
 | tup {a:Addr} {xs:List V} (e:H a=some (.tup xs)):Xx K H (.ref a) (.type "tuple")
 | dK {a:Addr} {kvs:List (Key×V)} (e:H a=some (.dK kvs)):Xx K H (.ref a) (.type "dict")
 | dT {a:Addr} {kvs:List (List Key×V)} (e:H a=some (.dT kvs)):Xx K H (.ref a) (.type "dict")
 | ins {a C dx:Addr} {fs:List (Str×V)} (e:H a=some (.ins C dx fs)) (cl:Cls K C) (ha:PySem.W.findIn K (.ref C) "__class__" = some (some (.builtin "object.__class__")))
   (hn:PySem.W.specialIn K (.builtin "object.__class__") "__get__" = some (some (.builtin "getset_descriptor.__get__"))) (oq:PySem.W.takesIn K (.builtin "object.__class__")=some true)
   (hm:PySem.W.mroIn K C (.type "object")=some true):Xx K H (.ref a) (.ref C)
theorem Zmb{x:V}{u t:Value}(I:Inv X aa σ H s)(d:ZL x u)(ty:Xx X.K H x t)(e:PySem.W.kitOne X.K t c=some b)(h:∀tk,Q (.bool b) { s with toks:=tk }) :
  wpAny (model X.prog X.w) A (call (.builtin "isinstance") [u,c]) Q E s:=by
 cases ty with
 | non=>cases (show u=Value.none from d);exact QW PySem.W.kitx_none I.kIn True.intro e (fun z=>nomatch z) h
 | bl y=>cases (show u=Value.bool y from d);exact QW PySem.W.kitx_bool I.kIn True.intro e (fun z=>nomatch z) h
 | int i=>obtain⟨t,q⟩:=(show ∃t,u=Value.int i t from d);cases q;exact QW PySem.W.kitx_int I.kIn True.intro e (fun z=>nomatch z) h
 | str y=>obtain⟨t,q⟩:=(show ∃t,u=Value.str y t from d);cases q;exact QW PySem.W.kitx_str I.kIn True.intro e (fun z=>nomatch z) h
 | flt y=>obtain⟨t,q⟩:=(show ∃t,u=Value.float y t from d);cases q;exact QW PySem.W.kitx_float I.kIn True.intro e (fun z=>nomatch z) h
 | @lst a k f=>cases (show u=Value.ref a from d);obtain⟨_,_,n,_,g⟩:=(show YZ X.prog X.w H s.heap a (.lst k) from I.hok a _ f);exact QW QaP I.kIn ⟨_,g,rfl⟩ e (fun z=>nomatch z) h
 | @frz a r k f=>cases (show u=Value.ref a from d);obtain⟨_,_,_,n,_,g⟩:=(show YZ X.prog X.w H s.heap a (.frz r (.lst k)) from I.hok a _ f);exact QW QaP I.kIn ⟨_,g,rfl⟩ e (fun z=>nomatch z) h
 | @tup a k f=>cases (show u=Value.ref a from d);obtain⟨_,_,_,p⟩:=(show YZ X.prog X.w H s.heap a (.tup k) from I.hok a _ f);obtain⟨o,g,l,_⟩:=p;exact QW PySem.W.kitx_tuple I.kIn ⟨o,g,l⟩ e (fun z=>nomatch z) h
 | @dK a j f=>cases (show u=Value.ref a from d);obtain⟨_,_,vs,_,p⟩:=(show YZ X.prog X.w H s.heap a (.dK j) from I.hok a _ f);obtain⟨o,v,w,g,l,_⟩:=p;exact QW QaQ I.kIn ⟨o,g,l.1⟩ e (fun z=>nomatch z) h
 | @dT a j f=>cases (show u=Value.ref a from d);obtain⟨_,_,k,_,o,v,w,g,l,_⟩:=(show YZ X.prog X.w H s.heap a (.dT j) from I.hok a _ f);exact QW QaQ I.kIn ⟨o,g,l.1⟩ e (fun z=>nomatch z) h
 | @ins a C dx fs f m B D F G=>cases (show u=Value.ref a from d);obtain⟨mA,O,_⟩:=UM I.hok f;obtain⟨od,J,_⟩:=O.look;exact QW (PySem.W.kitx_own (m.get _) m.hd B D F G) I.kIn J e (fun z=>nomatch z) h
end
structure Y2 (k:Nat) (A:Around):Prop where
 hd:A.handled=none
 dp:A.depth+3*k+5<recursionLimit
 un:A.units+16*k+200<cLine
 gd:A.guards=some []
theorem Y2.mono{j k:Nat}{A:Around}(r:Y2 k A)(h:j≤k):Y2 j A:=⟨r.hd,by have:=r.dp;lia,by have:=r.un;lia,r.gd⟩
theorem Y2.deeper{k:Nat}{A:Around}(r:Y2 (k+1) A)(env:Env):Y2 k (A.deeper env) :=
 ⟨r.hd,by have:=r.dp;show A.depth+1+3*k+5<_;lia,by have:=r.un;show A.units+3+16*k+200<_;lia,r.gd⟩
theorem Zkl{A:Around}{C:Addr}{us:List Value}{kw:List (Str×Value)}:(A.under (.builtin "type.__call__" ⟨.ref C::us,kw⟩)).depth=A.depth+1:=by first|rfl|simp[Around.under,Code.weight,Code.isCreation,Code.isGuard,Code.isCaller,Code.frames,Code.isFrame,guardIds]
theorem Zkw{A:Around}{C:Addr}{us:List Value}{kw:List (Str×Value)}:(A.under (.builtin "type.__call__" ⟨.ref C::us,kw⟩)).units=A.units+1:=by first|rfl|simp[Around.under,Code.cUnits,Code.frames,Code.isFrame]
theorem Y2.make{k:Nat}{A:Around}(r:Y2 (k+1) A)(C:Addr)(us:List Value)(kw:List (Str×Value)):Y2 k (A.under (.builtin "type.__call__" ⟨.ref C::us,kw⟩)) :=
 ⟨r.hd,by have:=r.dp;rw[Zkl];lia,by have:=r.un;rw[Zkw];lia,by rw[show (A.under (.builtin "type.__call__" ⟨.ref C::us,kw⟩)).guards=A.guards from by first|rfl|simp[Around.under,pushGuards,Code.guards,Code.isGuard,guardIds]];exact r.gd⟩
theorem Y2.depth{k:Nat}{A:Around}(r:Y2 k A):A.depth<recursionLimit:=by have:=r.dp;lia
theorem Y2.units{k:Nat}{A:Around}(r:Y2 k A):A.units+64<cLine:=by have:=r.un;lia
def RX:TA:=fun _ H Q=>Q [] H
def ZrG(b:TE)(c:TA):TA:=fun a H Q=>b a H fun x d=>c a d fun xs e=>Q (x::xs) e
section
variable {X:Cx} {e:Expr} {es:List Expr} {te:TE} {t:TA} {pos:Pos}
theorem Zf:PA X [] RX:=fun _ _ _ _ H Q I h=>Calls.spliced_nil ⟨[],H,I,.nil,h⟩
theorem Za(ha:PE X e te)(c:PA X es t)(d:starEach (e::es) X.env=(false,eval e X.env)::starEach es X.env:=by rfl):PA X (e::es) (ZrG te t):=by intro pos a s b H Q I h;rw[d];show wpAny _ _ (spliced ((false,eval e X.env)::backTo pos (starEach es X.env))) _ _ s;refine Calls.spliced_cons (thn (ha a s b H _ I h) ?_);rintro u f ⟨x,g,i,j,k⟩;exact thn (c pos a f b g _ i k) fun us s2 ⟨l,m,n,o,p⟩=>⟨x::l,m,n,.cons j o,p⟩
def Zss(t:TA):TE:=fun b H Q=>t b H fun xs a=>xs.length≤sizeLine∧∀p,a p=none→Q (.ref p) (upd a p (.tup xs))
def Zsn(t:TA):TE:=fun b H Q=>t b H fun xs a=>xs.length≤sizeLine∧∀p,a p=none→Q (.ref p) (upd a p (.lst xs))
theorem YJ{f}(h:PA X es t):PE X (.Tuple es f pos) (Zss t):=by intro g s i H Q I j;refine wpAny_Tuple_spliced (thn (h pos g s i H _ I j) fun k a ⟨l,c,d,r,z,q⟩=>⟨by rw[← r.length];exact z,?_⟩);have m:c a.heap.objs.size=none:=d.hok.fresh (Qh _);refine⟨.ref a.heap.objs.size,upd c a.heap.objs.size (.tup l),d.laid (t':=a.toks) (fun b u e=>Qc _ e) (Qh _) ?_,rfl,q _ m⟩;exact⟨z,k,r,⟨_,Qs _ rfl,rfl,_,rfl⟩⟩
theorem YH(h:PA X es t):PE X (.List es pos) (Zsn t):=by intro f s g H Q I i;refine wpAny_List_spliced (thn (h pos f s g H _ I i) fun j a ⟨k,c,d,r,z,q⟩=>⟨by rw[← r.length];exact z,?_⟩);have l:c a.heap.objs.size=none:=d.hok.fresh (Qh _);refine⟨.ref a.heap.objs.size,upd c a.heap.objs.size (.lst k),d.laid (t':=a.toks) (fun b u e=>Qc _ e) (Qh _) ?_,rfl,q _ l⟩;exact⟨z,j,0,r,Qs _ rfl⟩
end
abbrev Sp:=List V→Hp→VK→XK→Prop
abbrev CXT:=List Env→Hp→Shared→XK→Value→Shared→Prop
structure VT (P:Program) (w:World) (K:#[7]) (mg:Str→Option Value) (base:Heap) (A:Around) (outer:List Env) (s:Shared) (H:Hp):Prop where
 frames:A.frames=some outer
 mod:Mod K mg base
 bs:∀b o,base.get? b=some o→s.heap.get? b=some o∧H b=none
 bsz:base.objs.size≤s.heap.objs.size
 funs:s.heap.FunFrames base outer
 frf:∀b∈frs outer,H b=none
 hok:HOk P w H s.heap
 bare:AllBare s.gens
def CE(outer:List Env)(P:Program)(w:World)(H:Hp)(s:Shared)(Q:VK)(u:Value)(s':Shared):Prop :=
 ∃v a,s'.os=s.os∧AllBare s'.gens∧Un (frs outer) [] H a s.heap s'.heap∧HOk P w a s'.heap∧ZL v u∧Q v a
def CR(CX:CXT)(outer:List Env)(P:Program)(w:World)(H:Hp)(s:Shared)(Q:VK)(E:XK)(r:Result)(s':Shared):Prop :=
 match r with
 | .ok (.ret u)=>CE outer P w H s Q u s'
 | .ok _=>False
 | .error e=>CX outer H s E e s'
structure X2 (P:Program) (w:World) (K:#[7]) (mg:Str→Option Value) (base:Heap) (CX:CXT) (k:Nat) (f:Addr) (fd:FuncData) (ps:List Str) (sp:Sp):Prop where
 len:∀vs H Q E,sp vs H Q E→vs.length=ps.length
 run:∀ (A:Around) (outer:List Env) (s:Shared) (H:Hp) (args:Args) (us:List Value) (vs:List V) (Q:VK) (E:XK),Y2 k A→VT P w K mg base A outer s H→BindsTo s fd args (ps.zip us)→ZJ vs us→sp vs H Q E →
  codeAny (model P w) A (.call (.ref f) args) (CR CX outer P w H s Q E) s
theorem VT.make{P:Program}{w:World}{K:#[7]}{mg:Str→Option Value}{base:Heap}{A:Around}{outer:List Env}{s:Shared}{H:Hp}(e:VT P w K mg base A outer s H)(C:Addr)(us:List Value)(kw:List (Str×Value)) :
  VT P w K mg base (A.under (.builtin "type.__call__" ⟨.ref C::us,kw⟩)) outer s H:=⟨by first|exact e.frames|(simpa [Around.under,Code.envs,Code.isFrame,pushEnvs] using e.frames),e.mod,e.bs,e.bsz,e.funs,e.frf,e.hok,e.bare⟩
section
variable {X:Cx} {aa:List (Addr×Obj)} {σ:St} {H:Hp} {s s':Shared}
theorem Inv.env0(I:Inv X aa σ H s):VT X.prog X.w X.K X.mg X.base X.A X.stack s H :=
 ⟨I.ok.frames,I.ok.mod,I.bs,Qv I.ok.bsz I.sz,I.stack,I.stkFree,I.hok,I.bare⟩
theorem Inv.after{Q:VK}{u:Value}(I:Inv X aa σ H s)(h:CE X.stack X.prog X.w H s Q u s'):EP X aa σ Q u s':=by obtain⟨v,e,os,a,un,c,r,q⟩:=h;obtain⟨f,g,d,t,i⟩:=s';obtain rfl:i=s.os:=os;exact⟨v,e,I.call (h':=f) (g':=g) (d':=d) (t':=t) (ch:=[]) un c a (fun b z=>absurd z #[4]),r,q⟩
end
def NO(sp:Sp)(a:List V)(E:XK)(t:TA):TE:=fun b H Q=>t b H fun vs c=>sp (vs++a) c Q E
inductive RMt (C:Addr) (m:Str) (x:V) (H:Hp) (B:Prop):Prop where
 | mk (a dx:Addr) (fs:List (Str×V)) (e:x=.ref a) (g:H a=some (.ins C dx fs)) (l:fs.lookup m=none) (q:B)
def TF(C:Addr)(m:Str)(sp:Sp)(c:List V)(E:XK)(d:TE)(t:TA):TE:=fun a H Q=>d a H fun x b=>RMt C m x b (t a b fun vs e=>sp (x::(vs++c)) e Q E)
def NN(C:Addr)(sp:Sp)(b:List V)(E:XK)(t:TA):TE:=fun c H Q=>t c H fun vs a=>∀x dx,a x=none→a dx=none→dx≠x →
 sp (.ref x::(vs++b)) (upd (upd a dx (.own x)) x (.ins C dx [])) (fun v d=>v=.non∧Q (.ref x) d) E
def XQ(K:#[7])(b:FuncData)(ps:List Str)(ds:List Value):Prop :=
 ∀ (s:Shared) (a:List Value),K.In s.heap→(a++ds).length=ps.length→BindsTo s b ⟨a,[]⟩ (ps.zip (a++ds))
theorem XQ.all{K:#[7]}{a:FuncData}{ps:List Str}(h:∀us:List Value,us.length=ps.length→bindArgs a ⟨us,[]⟩=pure (ps.zip us)):XQ K a ps []:=fun s us _ hl=>by rw[QaK]at hl ⊢;exact .of_eq (h us hl)
def VS(CX:CXT)(X:Cx)(E:XK):Prop:=∀ (a:List (Addr×Obj)) (b:St) (H:Hp) (s:Shared) (e:Value) (s':Shared),Inv X a b H s→CX X.stack H s E e s'→X.xe e s'
section
variable {X:Cx} {CX:CXT} {k:Nat} {f C:Addr} {fd:FuncData} {ps:List Str} {sp:Sp} {ci:List V} {ds:List Value} {E:XK} {x m:Str} {p pos aw:Pos} {e o:Expr} {es:List Expr} {ta:TE} {t:TA}
theorem RW{b:List (Addr×Obj)}{c:St}{H:Hp}{s:Shared}{Q:VK}{us:List Value}{vs:List V}(F:X2 X.prog X.w X.K X.mg X.base CX k f fd ps sp)(g:Y2 k X.A)(hb:XQ X.K fd ps ds)(hd:ZJ ci ds)(hx:VS CX X E)
  (I:Inv X b c H s) (r:ZJ vs us) (h:sp (vs++ci) H Q E):#[9,X] (call (.ref f) us) (EP X b c Q) X.xe s:=by
 have d:ZJ (vs++ci) (us++ds):=r.append hd;have i:(us++ds).length=ps.length:=by rw[← d.length];exact F.len _ _ _ _ h
 refine wpAny_call (codeAny_mono (F.run X.A X.stack s H ⟨us,[]⟩ (us++ds) (vs++ci) Q E g I.env0 (hb s us I.kIn i) d h) fun r j a=>?_);cases r with
 | error e=>exact hx b c H s e j I a
 | ok l =>
  cases l with
  | ret u=>exact I.after a
  | next=>exact False.elim a
  | brk=>exact False.elim a
  | cont=>exact False.elim a
theorem Zop(F:X2 X.prog X.w X.K X.mg X.base CX k f fd ps sp)(b:Y2 k X.A)(c:Gl X x)(hm:X.mg x=some (.ref f))(hk:PySem.W.keepIn X.K (.ref f)=true)(hb:XQ X.K fd ps ds)(hd:ZJ ci ds)(hx:VS CX X E)
  (ha:PA X (e::es) t) (d:(x == ("__debug__" : Str))=false:=by decide) (he:starEach (e::es) X.env=(false,eval e X.env)::starEach es X.env:=by rfl) (g:(backTo pos (starEach es X.env)).any (·.1)=false:=by rfl) :
  PE X (.Call (.Name x p) (e::es) [] pos) (NO sp ci E t):=by
 intro i s j H Q I h;refine wpAny_Call_Name_kw (Sb I c hm ?_ d);refine PySem.W.callWith_K (h₀:=X.base) I.ok.mod.kin hk (thn (ha pos i s j H _ I h) fun us s1 ⟨vs,H1,a,r,q⟩=>⟨a.kIn,?_⟩) he g;exact RW F b hb hd hx a r q
theorem Zot{pl:Sem Bool}(he:PE X o ta)(c:Cls X.K C)(hm:UL X.K C m f)(F:X2 X.prog X.w X.K X.mg X.base CX k f fd ps sp)(n:Y2 k X.A)(hb:XQ X.K fd ps ds)(hd:ZJ ci ds)(hx:VS CX X E)(ha:PA X (e::es) t)
  (p:starEach (e::es) X.env=(false,eval e X.env)::starEach es X.env:=by rfl) (v:(backTo pos (starEach es X.env)).any (·.1)=false:=by rfl)
  (w:eval (.Call (.Attribute o m aw) (e::es) [] pos) X.env=(do
   let b ← eval o X.env
   standAt aw.atName
   let (f,first) ← holding [b] (getMethod b m pl)
   callWith pos f first (backTo pos (starEach (e::es) X.env)) (backToKw pos (keywordEach [] X.env))):=by rfl) :
  PE X (.Call (.Attribute o m aw) (e::es) [] pos) (TF C m sp ci E ta t):=by
 intro d s g H Q I h;refine PySem.W.methodCall_KW (pl:=pl) (thn (he d s g H _ I h) ?_) w;rintro u y ⟨x,z,i,A,a,dx,fs,ex,B,l,q⟩;subst ex;obtain rfl:u=Value.ref a:=A;refine NR i B c hm l ?_;refine PySem.W.callWith_K (first:=[.ref a]) (h₀:=X.base) I.ok.mod.kin hm.kp (thn (ha pos d y g z _ i q) fun us s2 ⟨vs,H2,j,r,D⟩=>⟨j.kIn,?_⟩) p v;exact RW (us:=.ref a::us) (vs:=.ref a::vs) F n hb hd hx j (.cons rfl r) D
theorem Znc{pl:Sem Bool}(he:PE X o ta)(c:Cls X.K C)(hm:UL X.K C m f)(F:X2 X.prog X.w X.K X.mg X.base CX k f fd ps sp)(e:Y2 k X.A)(hb:XQ X.K fd ps ds)(hd:ZJ ci ds)(hx:VS CX X E)
  (g:eval (.Call (.Attribute o m aw) [] [] pos) X.env=(do
   let d ← eval o X.env
   standAt aw.atName
   let (f,first) ← holding [d] (getMethod d m pl)
   callWith pos f first (backTo pos (starEach [] X.env)) (backToKw pos (keywordEach [] X.env))):=by rfl) :
  PE X (.Call (.Attribute o m aw) [] [] pos) (TF C m sp ci E ta RX):=by
 intro i s j H Q I h;refine PySem.W.methodCall_KW (pl:=pl) (thn (he i s j H _ I h) ?_) g;rintro u s1 ⟨x,H1,b,n,a,dx,fs,ex,p,l,q⟩;subst ex;obtain rfl:u=Value.ref a:=n;refine NR b p c hm l ?_;exact PySem.W.callWith_K0 (first:=[.ref a]) b.kIn hm.kp (RW (us:=[.ref a]) (vs:=[.ref a]) F e hb hd hx b (.cons rfl .nil) q)
structure Mk (K:#[7]) (C f:Addr):Prop where
 makes:PySem.W.makesIn K C=true
 init:PySem.W.findIn K (.ref C) "__init__" = some (some (.ref f))
 fn:PySem.W.isFn K (.ref f)=true
 kp:PySem.W.keepIn K (.ref C)=true
theorem Zn7{c:List (Addr×Obj)}{d:St}{H:Hp}{s:Shared}{Q:VK}{us:List Value}{vs:List V}(M:Mk X.K C f)(F:X2 X.prog X.w X.K X.mg X.base CX k f fd ps sp)(j:Y2 (k+1) X.A)(hb:XQ X.K fd ps ds)(hd:ZJ ci ds)
  (hx:VS CX X E) (I:Inv X c d H s) (r:ZJ vs us)
  (h:∀x dx,H x=none→H dx=none→dx≠x→sp (.ref x::(vs++ci)) (upd (upd H dx (.own x)) x (.ins C dx [])) (fun v l=>v=.non∧Q (.ref x) l) E) :
  #[9,X] (call (.ref C) us) (EP X c d Q) X.xe s:=by
 have g:=h (s.heap.objs.size+1) s.heap.objs.size (I.hok.fresh (QaN _)) (I.hok.fresh (Qh _)) (QB (Nat.lt_succ_self _));have b:=Inv.made (C:=C) I;have i:ZJ (V.ref (s.heap.objs.size+1)::(vs++ci)) (Value.ref (s.heap.objs.size+1)::(us++ds)):=.cons rfl (r.append hd);have m:(Value.ref (s.heap.objs.size+1)::us++ds).length=ps.length:=by have e:=i.length;rw[F.len _ _ _ _ g]at e;exact e.symm
 refine wpAny_call (ZmC (f:=f) I.kIn M.makes M.init (beq_iff_eq.mp M.fn) (codeAny_mono (F.run _ X.stack _ _ ⟨Value.ref (s.heap.objs.size+1)::us,[]⟩ (Value.ref (s.heap.objs.size+1)::(us++ds)) _ _ E (j.make C us [])
  (b.env0.make C us []) (hb _ (Value.ref (s.heap.objs.size+1)::us) b.kIn m) i g) fun r n a=>?_))
 cases r with
 | error e=>exact hx c d _ _ e n b a
 | ok o =>
  cases o with
  | ret u=>obtain⟨v,p,q,t,w,y⟩:=b.after a;subst w;exact⟨t,⟨V.ref (s.heap.objs.size+1),p,q,rfl,y⟩⟩
  | next=>exact False.elim a
  | brk=>exact False.elim a
  | cont=>exact False.elim a
theorem ZoV(M:Mk X.K C f)(F:X2 X.prog X.w X.K X.mg X.base CX k f fd ps sp)(b:Y2 (k+1) X.A)(c:Gl X x)(hm:X.mg x=some (.ref C))(hb:XQ X.K fd ps ds)(hd:ZJ ci ds)(hx:VS CX X E)
  (ha:PA X (e::es) t) (d:(x == ("__debug__" : Str))=false:=by decide) (he:starEach (e::es) X.env=(false,eval e X.env)::starEach es X.env:=by rfl) (g:(backTo pos (starEach es X.env)).any (·.1)=false:=by rfl) :
  PE X (.Call (.Name x p) (e::es) [] pos) (NN C sp ci E t):=by
 intro i s j H Q I h;refine wpAny_Call_Name_kw (Sb I c hm ?_ d);refine PySem.W.callWith_K (h₀:=X.base) I.ok.mod.kin M.kp (thn (ha pos i s j H _ I h) fun us s1 ⟨vs,H1,a,r,q⟩=>⟨a.kIn,?_⟩) he g;exact Zn7 M F b hb hd hx a r q
end
section
variable {X:Cx} {CX:CXT} {k:Nat} {f C:Addr} {fd:FuncData} {ps ks:List Str} {sp:Sp} {E:XK} {x m:Str} {p pos aw BP:Pos} {e o:Expr} {es:List Expr} {Jb:List Keyword} {te ta:TE} {t tk:TA} {nm:Option Str}
structure KBinds (K:#[7]) (fd:FuncData) (ps ks:List Str) (g:List Value→List Value→List Value) (gV:List V→List V→List V):Prop where
 to:∀ (s:Shared) (us ws:List Value),K.In s.heap→(g us ws).length=ps.length→BindsTo s fd ⟨us,ks.zip ws⟩ (ps.zip (g us ws))
 rel:∀ {vs:List V} {us:List Value} {zs:List V} {ws:List Value},ZJ vs us→ZJ zs ws→ZJ (gV vs zs) (g us ws)
variable {g:List Value→List Value→List Value} {gV:List V→List V→List V}
end
structure Zs (N P:List Str) (sc:Scope):Prop where
 kind:sc.kind=.function
 co:sc.isCoroutine=false
 gen:sc.isGenerator=false
 nd:N.Nodup
 pre:N.take P.length=P
 par:∀x∈P,sc.names.lookup x=some .local∨sc.names.lookup x=some .cell
 nofree:∀y∈sc.names,y.2≠.free
theorem NM{kindOf:Str→Option NameKind}{x:Str}:∀ {binds:List (Str×Value)} {m:Str→Option Value},(∀v,(x,v) ∉ binds)→bindL kindOf binds m x=m x
 | [],_,_=>rfl
 | (n,v)::r,m,h=>by
  unfold bindL;rw[NM fun w hw=>h w (Qt _ hw)];split
  ·have:x≠n:=by rintro rfl;exact h v QP
   simp[this]
  ·rfl
theorem NL{kindOf:Str→Option NameKind}{x:Str}:∀ {binds:List (Str×Value)} {m:Str→Option Value},(∀v,(x,v) ∉ binds)→bindC kindOf binds m x=m x
 | [],_,_=>rfl
 | (n,v)::r,m,h=>by
  unfold bindC;rw[NL fun w hw=>h w (Qt _ hw)];split
  ·rfl
  ·have:x≠n:=by rintro rfl;exact h v QP
   simp[this]
theorem NK{kindOf:Str→Option NameKind}{x:Str}{v:Value}:∀ {P:List Str} {vs:List Value} {i:Nat} {m:Str→Option Value},P.Nodup→P[i]? = some x→vs[i]? = some v→kindOf x=some .local →
  bindL kindOf (P.zip vs) m x=some v
 | [],_,_,_,_,h,_,_=>by simp at h
 | _::_,[],_,_,_,_,h,_=>by simp at h
 | p::P,w::vs,0,m,nd,h1,h2,hk=>by simp at h1 h2;subst h1;subst h2;show bindL kindOf ((p,w)::P.zip vs) m p=_;unfold bindL;rw[NM fun v a=>(QR.mp nd).1 (List.of_mem_zip a).1,if_pos hk];simp
 | p::P,w::vs,i+1,m,nd,h1,h2,hk=>by show bindL kindOf ((p,w)::P.zip vs) m x=_;unfold bindL;exact NK (i:=i) (QR.mp nd).2 (by simpa using h1) (by simpa using h2) hk
theorem NJ{kindOf:Str→Option NameKind}{x:Str}{v:Value}:∀ {P:List Str} {vs:List Value} {i:Nat} {m:Str→Option Value},P.Nodup→P[i]? = some x→vs[i]? = some v→kindOf x≠some .local →
  bindC kindOf (P.zip vs) m x=some v
 | [],_,_,_,_,h,_,_=>by simp at h
 | _::_,[],_,_,_,_,h,_=>by simp at h
 | p::P,w::vs,0,m,nd,h1,h2,hk=>by simp at h1 h2;subst h1;subst h2;show bindC kindOf ((p,w)::P.zip vs) m p=_;unfold bindC;rw[NL fun v a=>(QR.mp nd).1 (List.of_mem_zip a).1,if_neg hk];simp
 | p::P,w::vs,i+1,m,nd,h1,h2,hk=>by show bindC kindOf ((p,w)::P.zip vs) m x=_;unfold bindC;exact NJ (i:=i) (QR.mp nd).2 (by simpa using h1) (by simpa using h2) hk
noncomputable def Xb(N:List Str)(vs:List V):St:=vs.map some++List.replicate (N.length-vs.length) none
noncomputable def WD(CX:CXT)(P:Program)(w:World)(K:#[7])(mg:Str→Option Value)(base:Heap)(N:List Str)(a:Str)(b:Scope)(f:Addr)(c:Value)(A:Around)(outer:List Env)(s:Shared)(H:Hp)(E:XK):Cx where
 prog:=P
 w:=w
 K:=K
 mg:=mg
 base:=base
 A:=A.deeper (envOfC a b s.heap.objs.size f c)
 N:=N
 s₀:=s
 H₀:=H
 env:=envOfC a b s.heap.objs.size f c
 outer:=outer
 stack:=envOfC a b s.heap.objs.size f c::outer
 ex:=[]
 calm:=true
 fn:=fun _=>true
 pn:=[]
 xe:=fun e g=>wpAny (model P w) (A.deeper (envOfC a b s.heap.objs.size f c)) (leaving (envOfC a b s.heap.objs.size f c) e) (fun _ d=>CX outer H s E e d) (fun h d=>CX outer H s E h d) g
theorem NI{a:Scope}{n:Nat}{x:Str}(h:a.names.lookup x=some .cell):∃c,(cellsFrom n a.names []).lookup x=some c:=by have q:=PySem.W.cellsFrom_some a.names n [] (.inl h);exact Option.isSome_iff_exists.mp q
theorem ZlR{CX:CXT}{P:Program}{w:World}{K:#[7]}{mg:Str→Option Value}{base:Heap}{N ps:List Str}{m:Str}{j:Scope}{f:Addr}{o:Value}{A:Around}{outer:List Env}{s D:Shared}{H:Hp}{E:XK}{us:List Value}{vs:List V}
  (S:Zs N ps j) (hd:A.handled=none) (g:VT P w K mg base A outer s H) (hl:vs.length=ps.length) (r:ZJ vs us)
  (x:InCallC s s.heap.objs.size (bindL (envOfC m j s.heap.objs.size f o).kindOf (ps.zip us) fun _=>none) (cellsFrom (s.heap.objs.size+1) j.names []) (bindC (envOfC m j s.heap.objs.size f o).kindOf (ps.zip us) fun _=>none) D) :
  Inv (WD CX P w K mg base N m j f o A outer s H E) [] (Xb N vs) H D:=by
 have bu:ps.length≤N.length:=by have:=congrArg List.length S.pre;rw[QA]at this;lia
 obtain⟨t,tk,rfl,F⟩:=x.done;have C:∀b:Addr,b ∉ (WD CX P w K mg base N m j f o A outer s H E).ex:=fun b z=>absurd (show b∈([]:List Addr) from z) #[4];refine⟨⟨g.mod,S.kind,rfl,rfl,Qh _,fun y z c t d=>?_,fun y hy=>?_,fun y c _ h=>?_,fun _=>hd,Around.frames_deeper g.frames,.inr ⟨rfl,rfl⟩,fun b z=>absurd z (C b),g.bs,g.bsz,fun b _ _=>C b,fun b z=>absurd z (C b),g.funs,g.frf⟩,
  rfl,g.bare,Un.kept F,⟨_,x.toInCall.ns,fun i y v t d h3=>?_⟩,fun y c h=>⟨_,x.cell y c h⟩,g.hok.fresh (Qh _),fun y c h=>?_,fun p l=>absurd (show p∈([]:List (Addr×Obj)) from l) #[4],g.hok.kept F,?_⟩
 ·exact name_of_addr x.apart (Qah t) (Qah d)
 ·have hy:j.names.lookup y=some .cell∨j.names.lookup y=some .free:=hy;rcases hy with hy|hy
  ·exact NI hy
  ·exact absurd rfl (S.nofree _ (Qah hy))
 ·exact Qam (x.above y c (Qah h))
 ·have B:i<vs.length:=by
   unfold Xb at d;by_cases B:i<vs.length
   ·exact B
   ·rw[QL (by simpa using B)]at d;rw[List.getElem?_replicate]at d;split at d<;>cases d
  have J:vs[i]? = some v:=by
   unfold Xb at d;rw[QK (by simpa using B),Qo]at d;cases e:vs[i]? with
   | none=>rw[e]at d;cases d
   | some a=>rw[e]at d;cases d;rfl
  obtain⟨u,G,L⟩:=r.get J;have l:ps[i]? = some y:=by rw[← S.pre,List.getElem?_take_of_lt #[2]];exact t
  have I:ps.Nodup:=by rw[← S.pre];exact S.nd.sublist (List.take_sublist _ _)
  refine⟨u,L,?_⟩;rcases S.par y (Qz l) with k|k
  ·exact .inl ⟨k,NK I l G k⟩
  ·obtain⟨c,e⟩:=NI (n:=s.heap.objs.size+1) k;refine .inr ⟨.inl k,c,e,?_⟩;have q:=x.cell y c e;rw[NJ I l G (by show j.names.lookup y≠_;rw[k];decide)]at q;exact q
 ·exact g.hok.fresh (Qam (x.above y c (Qah h)))
 ·unfold Xb;show _=N.length;rw[Qj,Qa,Qau];lia
theorem ZrQ{CX:CXT}{P:Program}{w:World}{K:#[7]}{mg:Str→Option Value}{base:Heap}{k:Nat}{f:Addr}{name c:Str}{B:Arguments}{l:List Stmt}{a:Scope}{C kV D F d ct O:Value}{G R:Option Addr}
  {T:Array (Option Value)} {N ps:List Str} {sp:Sp} (lk:K.lookup f=some ⟨O,R,.func (PySem.W.fnOf name c B l a C kV D F G d ct),T⟩) (U:PySem.W.codeIn K d c=true) (S:Zs N ps a)
  (len:∀vs H Q E,sp vs H Q E→vs.length=ps.length)
  (W:∀ (A:Around) (outer:List Env) (s:Shared) (H:Hp) (vs:List V) (Q:VK) (E:XK),Y2 k (A.deeper (envOfC c a s.heap.objs.size f d))→sp vs H Q E →
   ∃t,PSs (WD CX P w K mg base N c a f d A outer s H E) l t∧t { nx:=fun _ H'=>Q .non H',rt:=Q } (Xb N vs) H) :
  X2 P w K mg base CX (k+1) f (PySem.W.fnOf name c B l a C kV D F G d ct) ps sp:=by
 refine⟨len,fun A outer s H args X vs Q E m h Y r L=>?_⟩;have Z:=len _ _ _ _ L;have KX:K.In s.heap:=h.mod.kin.keeps fun b o e=>(h.bs b o e).1;have yF:s.heap.NoLimit:=h.mod.nolimit.keeps fun b o e=>(h.bs b o e).1;have qu:∀y∈ps.zip X,a.names.lookup y.1=some .local∨(a.names.lookup y.1=some .cell∧((cellsFrom (s.heap.objs.size+1) a.names []).lookup y.1).isSome=true):=fun ⟨n,v⟩ hy=>by
  rcases S.par n (List.of_mem_zip hy).1 with q|q
  ·exact .inl q
  ·exact .inr ⟨q,PySem.W.cellsFrom_some _ _ _ (.inl q)⟩
 refine codeAny_call_function m.depth (KX _ _ lk) rfl S.co S.gen rfl (PySem.W.codeRec_of KX U) (Y _ _ _ _ ?_);refine wpAny_newFunctionEnv_cells S.kind qu fun env he M x=>?_;subst he;refine⟨yF.keeps x.toInCall.keep,codeAny_func ?_⟩;obtain⟨t,ht,hq⟩:=W A outer s H vs Q E (m.deeper _) L;have I:Inv (WD CX P w K mg base N c a f d A outer s H E) [] (Xb N vs) H M:=ZlR S m.hd h Z r x;refine wpAny_mono (ht [] M (Xb N vs) H _ I hq) (fun fl p g=>?_) fun e p g=>g;have i:∀ {j:St} {H':Hp} {v:V} {u:Value},Inv (WD CX P w K mg base N c a f d A outer s H E) [] j H' p→ZL v u→Q v H'→CE outer P w H s Q u p :=
  fun {j H' v u} J z q=>⟨v,H',J.os,J.bare,J.base,J.hok,z,q⟩
 cases fl with
 | ret u=>obtain⟨v,j,H',J,z,q⟩:=g;exact i J z q
 | next=>obtain⟨j,H',J,q⟩:=g;exact i (v:=V.non) (u:=Value.none) J rfl q
 | brk=>obtain⟨_,_,_,q⟩:=g;exact False.elim q
 | cont=>obtain⟨_,_,_,q⟩:=g;exact False.elim q
section
variable {X:Cx} {x:Str} {p pos:Pos} {e:Expr} {es:List Expr} {t:TA} {id T:String} {r:List V→Hp→VK→Prop}
def tCB(r:List V→Hp→VK→Prop)(t:TA):TE:=fun a H Q=>t a H fun vs b=>r vs b Q
theorem Zk(hc:YT X (.builtin id) r)(c:Gl X x)(hm:X.mg x=none)(d:bootBuiltins x=some (.builtin id))(ha:PA X (e::es) t)(f:x ≠ "__name__":=by decide)(g:(x == ("__debug__" : Str))=false:=by decide)
  (i:starEach (e::es) X.env=(false,eval e X.env)::starEach es X.env:=by rfl) (j:(backTo pos (starEach es X.env)).any (·.1)=false:=by rfl):PE X (.Call (.Name x p) (e::es) [] pos) (tCB r t):=by
 intro a s b H Q I h;refine wpAny_Call_Name_kw (V0 I c hm d ?_ f g);exact PyProof.Rows.callWith_builtin1 (thn (ha pos a s b H _ I h) fun k l ⟨m,n,o,q,u⟩=>hc a l b n m k Q o q u) i j
theorem Xq(hc:YT X (.type T) r)(c:Gl X x)(hm:X.mg x=none)(d:bootBuiltins x=some (.type T))(ha:PA X (e::es) t)(f:x ≠ "__name__":=by decide)(g:(x == ("__debug__" : Str))=false:=by decide)
  (i:starEach (e::es) X.env=(false,eval e X.env)::starEach es X.env:=by rfl) (j:(backTo pos (starEach es X.env)).any (·.1)=false:=by rfl):PE X (.Call (.Name x p) (e::es) [] pos) (tCB r t):=by
 intro a s b H Q I h;refine wpAny_Call_Name_kw (V0 I c hm d ?_ f g);exact Q6 (thn (ha pos a s b H _ I h) fun k l ⟨m,n,o,q,u⟩=>hc a l b n m k Q o q u) i j
end
end L2
namespace HT
open PySem PyProof.Rows
section
variable {prog:Program} {w:World} {A:Around} {E:Value→Shared→Prop} {s:Shared}
noncomputable def sIx(n d:Nat):Option Int→Nat
 | none=>d
 | some v=>if v<0 then (v+(n:Int)).toNat else min v.toNat n
theorem sIx_nat(n d k:Nat):sIx n d (some (k:Int))=min k n:=by show (if (k:Int)<0 then ((k:Int)+(n:Int)).toNat else min (k:Int).toNat n)=min k n;rw[if_neg #[2],QaR]
end
end HT
namespace L2
open PySem PySem.Spec PyProof.Rows
abbrev TO:=St→Hp→(Option Int→Hp→Prop)→Prop
def PO(X:Cx)(e:Option Expr)(t:TO):Prop :=
 ∀ (b:List (Addr×Obj)) (s:Shared) (a:St) (H:Hp) (Q:Option Int→Hp→Prop),Inv X b a H s→t a H Q →
  #[9,X] (evalPart e X.env) (fun u d=>∃o c,Inv X b a c d∧IsPart u o∧Q o c) X.xe s
def Zo1:TO:=fun _ H Q=>Q none H
def Zrd(t:TE):TO:=fun a H Q=>t a H fun x b=>EA (fun i=>x=.int i) (fun i=>Q (some i) b)
theorem NH{ns:List Int}:∀ {us:List Value},ZJ (ns.map V.int) us→IntsAre us ns:=by
 induction ns with
 | nil=>intro us r;rw[QaS]at r;cases r;exact .nil
 | cons n ns a =>
  intro us r;rw[Qk]at r;cases r with
  | cons b c=>obtain⟨t,e⟩:=b;subst e;exact .cons n t (a c)
section
variable {X:Cx} {e:Expr} {te:TE} {lo hi:Option Expr} {tl th:TO} {pos p2:Pos}
theorem Xa:PO X none Zo1:=by intro aa s σ H Q I h;rw[evalPart_none];exact wpAny_pure ⟨none,H,I,.none,h⟩
theorem WR(h:PE X e te):PO X (some e) (Zrd te):=by intro a s b H Q I hw;rw[evalPart_some];refine thn (h a s b H _ I hw) ?_;rintro u s1 ⟨x,c,d,f,g⟩;obtain⟨i,rfl,q⟩:=g;obtain⟨t,rfl⟩:=f;exact⟨some i,c,d,.int i t,q⟩
def SlR(X:Cx)(r:V→Option Int→Option Int→Hp→VK→Prop):Prop :=
 ∀ (a:List (Addr×Obj)) (s:Shared) (b:St) (H:Hp) (x:V) (v c d:Value) (lo hi:Option Int) (e:Addr) (Q:VK),Inv X a b H s→ZL x v→s.heap.IsSliceOf e c d .none→IsPart c lo→IsPart d hi→r x lo hi H Q →
  ∃T id,typeLookup (.type T) "__getitem__" = pure (some (.builtin id))∧s.TypeIs v T∧#[9,X] (getItem v (.ref e)) (EP X a b Q) X.xe s
def tSl(r:V→Option Int→Option Int→Hp→VK→Prop)(te:TE)(tl th:TO):TE:=fun a H Q=>te a H fun x b=>tl a b fun l c=>th a c fun u d=>r x l u d Q
theorem W7{r:V→Option Int→Option Int→Hp→VK→Prop}(j:SlR X r)(he:PE X e te)(hl:PO X lo tl)(hu:PO X hi th):PE X (.Subscript e (.Slice lo hi none p2) pos) (tSl r te tl th):=by intro c s d H Q I h;refine Subscript_ (thn (he c s d H _ I h) ?_);rintro v k ⟨x,m,n,o,p⟩;refine wpAny_Slice (thn (hl c k d m _ n p) fun f t ⟨l,w,y,z,A⟩=>thn (hu c t d w _ y A) ?_);rintro g a ⟨u,i,B,C,D⟩;rw[evalPart_none];refine wpAny_pure ?_;have E:Inv X c d i { a with heap:=a.heap.push { cls:=.type "slice",data:=.fields #[f,g,.none] } }:=B.kept (t':=a.toks) fun b ob q=>Qc _ q;obtain⟨T,id,F,G,J⟩:=j c { a with heap:=a.heap.push { cls:=.type "slice",data:=.fields #[f,g,.none] } } d i x v f g l u a.heap.objs.size Q E o (Heap.IsSliceOf.new ..) z C D;show #[9,X] (subscriptTail e (.Slice lo hi none p2) v (.ref a.heap.objs.size)) (EP X c d Q) X.xe { a with heap:=a.heap.push { cls:=.type "slice",data:=.fields #[f,g,.none] } };exact tail_any (ops:=[.ref a.heap.objs.size,v]) G F J (by with_unfolding_all rfl)
noncomputable def XO(xs:List V)(lo hi:Option Int):List V:=(xs.drop (HT.sIx xs.length 0 lo)).take (HT.sIx xs.length xs.length hi-HT.sIx xs.length 0 lo)
theorem NG(xs:List V)(lo hi:Option Int):(XO xs lo hi).length≤xs.length:=by unfold XO;rw[QA,QO];lia
end
noncomputable def ixN(n:Nat)(i:Int):Option Nat:=if 0≤i then (if i<n then some i.toNat else none) else if -(n:Int)≤i then some (i+n).toNat else none
noncomputable def atI{α:Type}(xs:List α)(i:Int):Option α:=(ixN xs.length i).bind fun j=>xs[j]?
theorem NF{n:Nat}{i:Int}{j:Nat}(h:ixN n i=some j):seqIndex? i n=some j∧j<n ∧ -(n:Int)≤i∧i<n:=by
 unfold ixN at h;by_cases b:0≤i
 ·rw[if_pos b]at h;by_cases a:i<n
  ·rw[if_pos a]at h;have e:i.toNat=j:=Qp h;exact⟨by rw[seqIndex_of b a,e],by lia,by lia,a⟩
  ·rw[if_neg a]at h;cases h
 ·rw[if_neg b]at h;by_cases a:-(n:Int)≤i
  ·rw[if_pos a]at h;have e:(i+n).toNat=j:=Qp h;exact⟨by rw[seqIndex_neg #[2] a,e],by lia,a,by lia⟩
  ·rw[if_neg a]at h;cases h
theorem RV{α:Type}{xs:List α}{i:Int}{v:α}(h:atI xs i=some v):∃j,seqIndex? i xs.length=some j∧xs[j]? = some v∧j<xs.length ∧ -(xs.length:Int)≤i∧i<xs.length:=by
 unfold atI at h;cases e:ixN xs.length i with
 | none=>rw[e]at h;cases h
 | some j=>rw[e]at h;obtain⟨a,b,c,d⟩:=NF e;exact⟨j,a,h,b,c,d⟩
theorem Yr{α:Type}{xs:List α}{j:Nat}{v:α}(h:xs[j]? = some v):atI xs (j:Int)=some v:=by
 have hj:j<xs.length:=(Qf.mp h).1;have e:ixN xs.length (j:Int)=some j:=by unfold ixN;rw[if_pos #[2],if_pos #[2]];simp
 unfold atI;rw[e];exact h
theorem ZnK{α:Type}(xs:List α)(v:α):atI (xs++[v]) (-1)=some v:=by
 have a:(xs++[v]).length=xs.length+1:=by simp
 have e:ixN (xs++[v]).length (-1)=some xs.length:=by unfold ixN;rw[a,if_neg #[6],if_pos #[2]];congr 1;lia
 unfold atI;rw[e];show (xs++[v])[xs.length]? = some v;simp
def Zou(b:Expr):Prop:=∀o i,subscripted b false o i=operate [o,i] (getItem o i)
def IxR(X:Cx)(r:R2):Prop :=
 ∀ (value a:Expr) (b:List (Addr×Obj)) (s:Shared) (c:St) (H:Hp) (x y:V) (v u:Value) (Q:VK),Inv X b c H s→ZL x v→ZL y u→r x y H Q →
  subscripted a false v u=operate [v,u] (getItem v u)→#[9,X] (subscriptTail value a v u) (EP X b c Q) X.xe s
def MtR(X:Cx)(id:String)(r:V→List V→Hp→VK→Prop):Prop :=
 ∀ (a:List (Addr×Obj)) (s:Shared) (b:St) (H:Hp) (x:V) (c:List V) (v:Value) (d:List Value) (Q:VK),Inv X a b H s→ZL x v→ZJ c d→r x c H Q →
  #[9,X] (call (.builtin id) (v::d)) (EP X a b Q) X.xe s
section
variable {X:Cx} {a b:Expr} {ta tb:TE} {pos:Pos}
theorem Zl{r:R2}(c:IxR X r)(ha:PE X a ta)(hb:PE X b tb)(d:Zou b):PE X (.Subscript a b pos) (tOp r ta tb):=by intro e s f H Q I h;exact Subscript_ (R7 ha hb I h fun v u g x y i j k l q=>c a b e g f i x y v u Q j k l q (d _ _))
inductive RIx (S:Addr→List V→Prop) (x y:V) (B:V→Prop):Prop where
 | mk (p:Addr) (xs:List V) (i:Int) (v:V) (a:x=.ref p) (b:y=.int i) (c:S p xs) (d:atI xs i=some v) (q:B v)
def NE(K:#[7]):R2:=fun x y H Q=>RIx (SqL K H) x y (fun v=>Q v H)
def ND(K:#[7]):R2:=fun x y H Q=>RIx (SqT K H) x y (fun v=>Q v H)
def Zsu:R2:=fun x y H Q=>∃z i c,x=.str z∧y=.int i∧z.length≤sizeLine∧atI z.cps.toList i=some c∧Q (.str ⟨#[c]⟩) H
theorem Zpm:IxR X (NE X.K):=by
 intro value cj e s f H x y v u Q I m n h g;obtain⟨p,xs,i,z,rfl,rfl,o,A,q⟩:=h;cases m;obtain⟨t,rfl⟩:=n;obtain⟨its,r,c,hz⟩:=I.list o;obtain⟨j,b,B,h3,C,D⟩:=RV A;obtain⟨w,k,E⟩:=r.get B;have F:=r.length;have hn:=Vm;have a:EP X e f Q w s:=⟨z,H,I,E,q⟩;by_cases l:0≤i
 ·have d:i.toNat=j:=by rw[seqIndex_of l D]at b;exact Qp b
  exact item_listR c.isList l #[2] (by rw[d];simpa using k) a g
 ·have d:(i+(its.toArray.size:Int)).toNat=j:=by rw[seqIndex_neg #[2] C]at b;rw[QI,← F];exact Qp b
  exact subscriptTail_builtinR (x:=w) c.isList.typeIs slot_list_getitem.lookup
   (wpAny_getItem_list_neg (Q:=fun r G=>r=w∧EP X e f Q r G) c.isList #[2] (by rw[QI]<;>lia) #[2] (by rw[d];simpa using k) ⟨rfl,a⟩) g
theorem Zp9:IxR X (ND X.K):=by
 intro value cj b s c H x y v u Q I e f h g;obtain⟨p,xs,i,z,rfl,rfl,k,l,q⟩:=h;cases e;obtain⟨t,rfl⟩:=f;obtain⟨its,r,d,hz⟩:=I.tuple k;obtain⟨j,m,n,h3,h4,h5⟩:=RV l;obtain⟨w,o,A⟩:=r.get n;have B:=r.length;have hn:=Vm;have a:EP X b c Q w s:=⟨z,H,I,A,q⟩;exact subscriptTail_builtinR (x:=w) d.typeIs slot_tuple_getitem.lookup
  (getItem_tuple (j:=j) (Q:=fun r C=>r=w∧EP X b c Q r C) d #[2] #[2] (by rw[QI,← B];exact m) (by simpa using o) ⟨rfl,a⟩) g
theorem VR:IxR X Zsu:=by
 intro value cj aa s σ H x y v u Q I b d h e;obtain⟨z,i,c,rfl,rfl,hz,f,q⟩:=h;obtain⟨t,rfl⟩:=b;obtain⟨t',rfl⟩:=d;obtain⟨j,a,g,h3,k,l⟩:=RV f;have m:z.cps.toList.length=z.length:=by simp[Str.length]
 rw[m]at a k l;have hn:=Vm;exact tail_any (typeIs_str s z t) slot_str_getitem.lookup (getItem_str (c:=c) (by have n:decide (i < -(2 ^ 63:Int))=false:=decide_eq_false #[2];have o:decide (i≥2 ^ 63)=false:=decide_eq_false #[2];rw[n,o,Bool.or_false]) (by rw[a];simpa using g) ⟨.str ⟨#[c]⟩,H,I.tok _,⟨_,rfl⟩,q⟩) e
theorem Zkb(its:List Value)(n j:Nat)(u:Value):Obj.mapSeq (·.setIfInBounds j u) { cls:=.type "list",data:=.seq its.toArray n }={ cls:=.type "list",data:=.seq (its.set j u).toArray n }:=by simp[Obj.mapSeq]
theorem Inv.lst{a:List (Addr×Obj)}{b:St}{H:Hp}{s:Shared}{p:Addr}{xs:List V}(I:Inv X a b H s)(h:H p=some (.lst xs)) :
  ∃ (its:List Value) (n:Nat),ZJ xs its∧s.heap.get? p=some { cls:=.type "list",data:=.seq its.toArray n }∧xs.length≤sizeLine:=by
 obtain⟨z,its,n,r,e⟩:=I.hok p _ h;exact⟨its,n,r,e,z⟩
theorem Inv.lstUpd{c:List (Addr×Obj)}{d:St}{H:Hp}{s:Shared}{p:Addr}{xs ys:List V}{its its':List Value}{n a:Nat}{f:Obj→Obj}(I:Inv X c d H s)(h:H p=some (.lst xs))
  (i:s.heap.get? p=some { cls:=.type "list",data:=.seq its.toArray n }) (g:f { cls:=.type "list",data:=.seq its.toArray n }={ cls:=.type "list",data:=.seq its'.toArray a }) (r:ZJ ys its') (j:ys.length≤sizeLine) (t:Nat) :
  Inv X c d (upd H p (.lst ys)) { s with heap:=s.heap.update p f,toks:=t }:=by
 have e:(s.heap.update p f).get? p=some { cls:=.type "list",data:=.seq its'.toArray a }:=by rw[Heap.get?_update_self f i (by rw[g]<;>rfl),g]
 refine I.write (x:=p) (e:=p) (by rw[h];trivial) #[8] (fun b u k q=>(Heap.get?_update_other _ _ (Ne.symm k)).trans q) ⟨_,e⟩ ?_;exact⟨j,its',a,r,e⟩
def Zra:V→V→V→Hp→(Hp→Prop)→Prop:=fun o i v H Q=>∃p xs k j,o=.ref p∧i=.int k∧H p=some (.lst xs)∧ixN xs.length k=some j∧Q (upd H p (.lst (xs.set j v)))
theorem NC:Sa X Zra:=by
 intro w s x H o i v ov iv u Q I y z A h;obtain⟨p,B,k,j,rfl,rfl,e,C,q⟩:=h;cases y;obtain⟨t,rfl⟩:=z;obtain⟨its,n,r,b,D⟩:=I.lst e;obtain⟨a,h2,f,g⟩:=NF C;have c:=r.length;have hn:=Vm;have l:Inv X w x (upd H p (.lst (B.set j v))) { s with heap:=s.heap.update p (Obj.mapSeq (·.setIfInBounds j u)) } :=
  I.lstUpd e b (Zkb its n j u) (r.set A j) (by rw[List.length_set];exact D) s.toks
 by_cases m:0≤k
 ·have d:k.toNat=j:=by rw[seqIndex_of m g]at a;exact Qp a
  exact PySem.W.ki_setAt b m #[2] (by rw[QI,← c];exact g) (by rw[d];exact⟨_,l,q⟩)
 ·have d:(k+(its.toArray.size:Int)).toNat=j:=by rw[seqIndex_neg #[2] f]at a;rw[QI,← c];exact Qp a
  exact PySem.W.ki_setBack b #[2] (by rw[QI,← c];exact f) #[2] (by rw[d];exact⟨_,l,q⟩)
theorem ZiH(lo a:Option Int)(n:Nat):(sliceBounds lo a none n).1=((HT.sIx n 0 lo:Nat):Int)∧(sliceBounds lo a none n).2.1=((HT.sIx n n a:Nat):Int)∧(sliceBounds lo a none n).2.2=1:=by
 refine⟨?_,?_,rfl⟩
 ·cases lo with
  | none=>simp[sliceBounds,HT.sIx]
  | some i =>
   simp only[sliceBounds,HT.sIx,Option.getD_none,show (1:Int)>0 by decide,if_true];by_cases h:i<0
   ·simp only[h,if_true]<;>lia
   ·simp only[h,if_false]<;>lia
 ·cases a with
  | none=>simp[sliceBounds,HT.sIx]
  | some i =>
   simp only[sliceBounds,HT.sIx,Option.getD_none,show (1:Int)>0 by decide,if_true];by_cases h:i<0
   ·simp only[h,if_true]<;>lia
   ·simp only[h,if_false]<;>lia
theorem Zhg(its:List Value)(lo a:Option Int):slicePick its.toArray lo a none=((its.drop (HT.sIx its.length 0 lo)).take (HT.sIx its.length its.length a-HT.sIx its.length 0 lo)).toArray:=by obtain⟨b,c,d⟩:=ZiH lo a its.toArray.size;unfold slicePick;rw[b,c,d];simp only[sliceRange_one,pick_run,List.size_toArray]<;>rfl
inductive RSl (K:#[7]) (x:V) (lo hi:Option Int) (H:Hp) (B:Addr→Hp→Prop):Prop where
 | mk (a:Addr) (xs:List V) (e:x=.ref a) (s:SqL K H a xs) (q:∀p,H p=none→B p (upd H p (.lst (XO xs lo hi))))
def NA(K:#[7]):V→Option Int→Option Int→Hp→VK→Prop:=fun x lo a H Q=>RSl K x lo a H fun p H'=>Q (.ref p) H'
theorem ZoR:SlR X (NA X.K):=by intro aa s σ H x v vl vu lo d sl Q I f g i j h;obtain⟨a,c,rfl,k,q⟩:=h;cases f;obtain⟨its,r,e,l⟩:=I.list k;have m:=r.length;refine⟨"list",_,slot_list_getitem.lookup,e.isList.typeIs,?_⟩;refine wpAny_getItem_list_slice e.isList g i j .none #[4] ?_ (by rw[QI]<;>lia);rw[Zhg,← m];refine⟨.ref s.heap.objs.size,_,I.laid (t':=s.toks) (o:=.lst (XO c lo d)) (fun b ob q=>Qc _ q) (Qh _) ?_,rfl,q _ (I.hok.fresh (Qh _))⟩;exact⟨Qv (NG c lo d) l,_,0,(r.drop (HT.sIx c.length 0 lo)).take (HT.sIx c.length c.length d-HT.sIx c.length 0 lo),Qs _ rfl⟩
noncomputable def WC:V→Bool
 | .non=>true
 | .bl _=>true
 | .int _=>true
 | .str _=>true
 | _=>false
noncomputable def eqV:V→V→Bool
 | .non,.non=>true
 | .bl a,.bl b=>a == b
 | .bl a,.int b=>(if a then 1 else 0) == b
 | .int a,.bl b=>a == (if b then 1 else 0)
 | .int a,.int b=>a == b
 | .str a,.str b=>a == b
 | _,_=>false
theorem Zp0{A:Around}{s:Shared}{y x:V}{u v:Value}(e:ZL y u)(c:ZL x v)(g:WC y=true)(f:WC x=true):SeqAt.EqAt A s u v (eqV y x):=by
 cases y with
 | non =>
  cases e;cases x with
  | non=>cases c;exact SeqAt.EqAt.same _
  | bl b=>cases c;exact SeqAt.EqAt.none_bool b
  | int b=>obtain⟨t,rfl⟩:=c;exact SeqAt.EqAt.none_int b t
  | str b=>obtain⟨t,rfl⟩:=c;exact SeqAt.EqAt.none_str b t
  | _=>exact absurd (show false=true from f) Ql
 | bl a =>
  cases e;cases x with
  | non=>cases c;exact SeqAt.EqAt.bool_none a
  | bl b=>cases c;exact SeqAt.EqAt.bool_bool a b
  | int b=>obtain⟨t,rfl⟩:=c;exact SeqAt.EqAt.bool_int a b t
  | str b=>obtain⟨t,rfl⟩:=c;exact SeqAt.EqAt.bool_str a b t
  | _=>exact absurd (show false=true from f) Ql
 | int a =>
  obtain⟨d,rfl⟩:=e;cases x with
  | non=>cases c;exact SeqAt.EqAt.int_none a d
  | bl b=>cases c;exact SeqAt.EqAt.int_bool a d b
  | int b=>obtain⟨t,rfl⟩:=c;exact SeqAt.EqAt.int_int a d b t
  | str b=>obtain⟨t,rfl⟩:=c;exact SeqAt.EqAt.int_str a d b t
  | _=>exact absurd (show false=true from f) Ql
 | str a =>
  obtain⟨d,rfl⟩:=e;cases x with
  | non=>cases c;exact SeqAt.EqAt.str_none a d
  | bl b=>cases c;exact SeqAt.EqAt.str_bool a d b
  | int b=>obtain⟨t,rfl⟩:=c;exact SeqAt.EqAt.str_int a d b t
  | str b=>obtain⟨t,rfl⟩:=c;exact SeqAt.EqAt.str_str a d b t
  | _=>exact absurd (show false=true from f) Ql
 | _=>exact absurd (show false=true from g) Ql
noncomputable def eqU(x:V)(u:Value):Bool:=match u with
 | .none=>eqV .non x
 | .bool b=>eqV (.bl b) x
 | .int i _=>eqV (.int i) x
 | .str z _=>eqV (.str z) x
 | _=>false
theorem Nz{x y:V}{u:Value}(r:ZL y u)(f:WC y=true):eqU x u=eqV y x:=by
 cases y with
 | non=>cases r;rfl
 | bl b=>cases r;rfl
 | int i=>obtain⟨t,rfl⟩:=r;rfl
 | str z=>obtain⟨t,rfl⟩:=r;rfl
 | _=>exact absurd (show false=true from f) Ql
theorem RU{x:V}:∀ {xs:List V} {us:List Value},ZJ xs us→xs.all WC=true→us.any (eqU x)=xs.any fun y=>eqV y x
 | _,_,.nil,_=>rfl
 | y::xs,u::us,.cons r t,f=>by rw[List.all_cons,QZ]at f;rw[QaI,QaI,Nz r f.1,RU t f.2]
theorem RT{A:Around}{s:Shared}{x:V}{v:Value}(a:ZL x v)(b:WC x=true):∀ {xs:List V} {us:List Value},ZJ xs us→xs.all WC=true→∀u∈us,SeqAt.EqAt A s u v (eqU x u)
 | _,_,.nil,_=>fun u hu=>by cases hu
 | y::xs,u::us,.cons r t,f=>fun c hu=>by
  rw[List.all_cons,QZ]at f;rcases QG.mp hu with rfl|hu
  ·rw[Nz r f.1];exact Zp0 r a f.1 b
  ·exact RT a b t f.2 c hu
noncomputable def inV(x:V)(xs:List V):Bool:=xs.any fun y=>eqV y x
def rIn(K:#[7])(a:Bool):R2:=fun x y H Q=>∃p xs,y=.ref p∧(SqL K H p xs∨SqT K H p xs)∧WC x=true∧xs.all WC=true∧Q (.bl (if a then !inV x xs else inV x xs)) H
theorem Zl4:OpR X (compareOp .In) (rIn X.K false):=by
 intro aa s σ H x y v u Q I b d h;obtain⟨p,xs,rfl,hq,c,fs,q⟩:=h;cases d;rcases hq with hq|hq
 ·obtain⟨its,r,a,e⟩:=I.list hq;refine SeqAt.in_listAt (eqU x) a.isList (fun w hw=>RT b c r fs w (by simpa using hw)) ⟨.bl _,H,I,rfl,?_⟩;rw[show its.toArray.any (eqU x)=its.any (eqU x) by simp,RU r fs];exact q
 ·obtain⟨its,r,a,e⟩:=I.tuple hq;refine SeqAt.in_tupleAt (eqU x) a (fun w hw=>RT b c r fs w (by simpa using hw)) ⟨.bl _,H,I,rfl,?_⟩;rw[show its.toArray.any (eqU x)=its.any (eqU x) by simp,RU r fs];exact q
theorem ZiD:YT X (.builtin "len") (fun xs H Q=>∃p ys,xs=[.ref p]∧(SqL X.K H p ys∨SqT X.K H p ys)∧Q (.int ys.length) H):=by
 intro aa s σ H xs us Q I r h;obtain⟨p,ys,rfl,hq,q⟩:=h;obtain⟨u,rfl,d⟩:=Xy r;cases d;have hn:=Vm;rcases hq with hq|hq
 ·obtain⟨its,a,b,e⟩:=I.list hq;have c:=a.length;exact Calls.call_len_list b.isList (by simp only[List.size_toArray]<;>lia) ⟨.int ys.length,H,I.tok _,⟨s.toks+1,by rw[QI,c]⟩,q⟩
 ·obtain⟨its,a,b,e⟩:=I.tuple hq;have c:=a.length;exact len_tuple b (by simp only[List.size_toArray]<;>lia) ⟨.int ys.length,H,I.tok _,⟨s.toks+1,by rw[QI,c]⟩,q⟩
theorem Wm:YT X (.builtin "len") (fun xs H Q=>∃z,xs=[.str z]∧z.length≤sizeLine∧Q (.int z.length) H):=by intro aa s σ H xs us Q I r h;obtain⟨z,rfl,hz,q⟩:=h;obtain⟨u,rfl,t,rfl⟩:=Xy r;have hn:=Vm;exact len_str #[2] ⟨.int z.length,H,I.tok _,⟨_,rfl⟩,q⟩
theorem ZiN:YT X (.type "list") (fun xs H Q=>∃p ys,xs=[.ref p]∧(SqL X.K H p ys∨SqT X.K H p ys)∧∀l,H l=none→Q (.ref l) (upd H l (.lst ys))):=by
 intro w s x H xs us Q I r h;obtain⟨p,ys,rfl,hq,q⟩:=h;obtain⟨u,rfl,y⟩:=Xy r;cases y;have f:∀ (its:List Value),ZJ ys its→ys.length≤sizeLine→∀ (a:Heap) (c:Nat),(∀b v,s.heap.get? b=some v→a.get? b=some v) →
   a.get? s.heap.objs.size=some { cls:=.type "list",dict:=none,data:=.seq its.toArray c,slots:=#[] }→EP X w x Q (.ref s.heap.objs.size) { s with heap:=a }:=fun its d g a c i e =>
  ⟨.ref s.heap.objs.size,_,I.laid (t':=s.toks) i (Qh _) (show YZ X.prog X.w _ a _ (.lst ys) from⟨g,its,c,d,e⟩),rfl,q _ (I.hok.fresh (Qh _))⟩
 rcases hq with hq|hq
 ·obtain⟨its,d,j,g⟩:=I.list hq;have z:=d.length;obtain⟨o,k,m,n,t⟩:=j.isList;exact call_list_seq p #[8] k m t (fun a c i e=>f its d g a c i e) (by simp only[List.size_toArray]<;>lia)
 ·obtain⟨its,d,j,g⟩:=I.tuple hq;have z:=d.length;obtain⟨o,k,m,n,t⟩:=j;exact call_list_seq p (.inr rfl) k m t (fun a c i e=>f its d g a c i e) (by simp only[List.size_toArray]<;>lia)
def tyV(K:#[7])(T:String)(x:V)(H:Hp):Prop:=match x with
 | .str _=>T = "str"
 | .int _=>T = "int"
 | .ref p=>(T = "list"∧∃b,SqL K H p b)∨(T = "tuple"∧∃o,K.lookup p=some o∧o.cls=.type "tuple"∧o.dict=none) ∨
   (T = "dict"∧((∃a,H p=some (.dK a))∨∃a,H p=some (.dT a)))∨(T = "set"∧∃S n,H p=some (.set S n))
 | _=>False
theorem Ny{j:List (Addr×Obj)}{k:St}{H:Hp}{s:Shared}{T:String}{x:V}{v:Value}(I:Inv X j k H s)(r:ZL x v)(ty:tyV X.K T x H) :
  s.TypeIs v T∧∀a,v=.ref a→∃ob,s.heap.get? a=some ob∧ob.dict=none:=by
 cases x with
 | str z=>obtain⟨t,rfl⟩:=r;cases (show T = "str" from ty);exact⟨typeIs_str s z t,fun _ e=>nomatch e⟩
 | int i=>obtain⟨t,rfl⟩:=r;cases (show T = "int" from ty);exact⟨typeIs_int s i t,fun _ e=>nomatch e⟩
 | ref p =>
  cases r;rcases ty with⟨rfl,xs,l⟩|⟨rfl,o,b,m,d⟩|⟨rfl,b⟩|⟨rfl,S,n,b⟩
  ·obtain⟨its,_,h,_⟩:=I.list l;refine⟨h.isList.typeIs,fun a e=>?_⟩;cases e;obtain⟨o,n,e,c,d,_⟩:=h;exact⟨o,e,d⟩
  ·refine⟨⟨o,I.kIn p o b,m⟩,fun a e=>?_⟩;cases e;exact⟨o,I.kIn _ o b,d⟩
  ·have z:∃o,s.heap.get? p=some o∧o.ExactDict:=by
    rcases b with⟨f,b⟩|⟨f,b⟩
    ·obtain⟨_,_,_,_,o,_,_,e,ex,_⟩:=I.hok p _ b;exact⟨o,e,ex⟩
    ·obtain⟨_,_,_,_,o,_,_,e,ex,_⟩:=I.hok p _ b;exact⟨o,e,ex⟩
   obtain⟨o,e,ex⟩:=z;refine⟨⟨o,e,ex.1⟩,fun a g=>?_⟩;cases g;exact⟨o,e,ex.2.1⟩
  ·obtain⟨o,_,_,_,e,ex,_⟩:=I.hok p _ b;refine⟨⟨o,e,ex.1⟩,fun a g=>?_⟩;cases g;exact⟨o,e,ex.2.1⟩
 | _=>exact False.elim ty
def ZrY(K:#[7])(T:String)(r:V→List V→Hp→VK→Prop)(to:TE):TE:=fun b H Q=>to b H fun x a=>tyV K T x a∧r x [] a Q
def tBM(K:#[7])(T:String)(r:V→List V→Hp→VK→Prop)(to:TE)(t:TA):TE:=fun a H Q=>to a H fun x b=>tyV K T x b∧t a b fun xs c=>r x xs c Q
variable {o e:Expr} {es:List Expr} {to:TE} {t:TA} {name:Str} {aw aB:Pos} {T id:String} {r:V→List V→Hp→VK→Prop}
theorem Zqm(e:PlainAttrs T)(slot:Slot T name id)(f:typeOf (.builtin id)=pure (.type "method_descriptor"))(hm:MtR X id r)(g:PE X o to)
  (i:attributeBase o name X.env (eval o X.env)=eval o X.env:=by rfl) (j:(aw.endLine == aB.line)=true:=by rfl):PE X (.Call (.Attribute o name aw) [] [] aB) (ZrY X.K T r to):=by
 intro a s b H Q I h;refine wpAny_Call_method0_late i j (thn (g a s b H _ I h) ?_);rintro v k ⟨x,l,c,d,ty,m⟩;obtain⟨n,p⟩:=Ny c d ty;exact⟨T,id,e,slot,f,n,p,Calls.callWith_builtin rfl (PySem.evalArgs_none (hm a k b l x [] v [] Q c d .nil m))⟩
theorem Xj(g:PlainAttrs T)(slot:Slot T name id)(i:typeOf (.builtin id)=pure (.type "method_descriptor"))(hm:MtR X id r)(j:PE X o to)(ha:PA X (e::es) t)
  (k:attributeBase o name X.env (eval o X.env)=eval o X.env:=by rfl)
  (l:((backTo aB (starEach (e::es) X.env)).all (fun x=>!x.1)&&(backToKw aB (keywordEach [] X.env)).all (fun x=>x.1.isSome)
   && decide ((e::es).length+([]:List Keyword).length+(if ([]:List Keyword).isEmpty then 0 else 1)<30))=true:=by rfl)
  (m:(aw.endLine == aB.line)=true:=by rfl) (n:starEach (e::es) X.env=(false,eval e X.env)::starEach es X.env:=by rfl) (p:(backTo aB (starEach es X.env)).any (·.1)=false:=by rfl) :
  PE X (.Call (.Attribute o name aw) (e::es) [] aB) (tBM X.K T r to t):=by
 intro a s b H Q I h;refine wpAny_Call_method_late k l m rfl (thn (j a s b H _ I h) ?_);rintro v q ⟨x,u,c,d,ty,w⟩;obtain⟨y,z⟩:=Ny c d ty;refine⟨T,id,g,slot,i,y,z,?_⟩;have f:=ha aB a q b u _ c w;rw[n]at f ⊢;refine Calls.callWith_builtin (by show (false||(backTo aB (starEach es X.env)).any (·.1))=false;rw[p]<;>rfl) (Calls.evalArgs_plain ?_);exact thn f fun A B ⟨C,D,E,F,G⟩=>hm a B b D x C v A Q E d F G
end
def MtM(X:Cx)(id:String)(r:V→List V→Hp→VK→Prop):Prop :=
 ∀ (a:List (Addr×Obj)) (s:Shared) (b:St) (H:Hp) (x:V) (c:List V) (v:Value) (d:List Value) (Q:VK),Inv X a b H s→ZL x v→ZJ c d→r x c H Q →
  #[9,X] (call (.builtin id) (v::d)) (EP X a b Q) X.xe s
theorem ZJ.one:∀ {x:V} {us:List Value},ZJ [x] us→∃u,us=[u]∧ZL x u
 | _,_,.cons r .nil=>⟨_,rfl,r⟩
theorem ZJ.two:∀ {x y:V} {us:List Value},ZJ [x,y] us→∃u v,us=[u,v]∧ZL x u∧ZL y v
 | _,_,_,.cons r (.cons q .nil)=>⟨_,_,rfl,r,q⟩
theorem ZJ.zero:∀ {us:List Value},ZJ [] us→us=[]
 | _,.nil=>rfl
theorem ZJ.reverse{xs:List V}{us:List Value}(h:ZJ xs us):ZJ xs.reverse us.reverse:=by
 induction h with
 | nil=>exact .nil
 | cons r t a=>rw[Qay,Qay];exact ZJ.append a (.cons r .nil)
section
variable {X:Cx} {aa:List (Addr×Obj)} {σ:St} {H:Hp} {s:Shared} {l b:Addr} {xs ys zs:List V}
theorem Inv.lset{its its':List Value}{n:Nat}{f:Array Value→Array Value}{t':Nat}(I:Inv X aa σ H s)(a:H l=some (.lst xs))
  (e:s.heap.get? l=some { cls:=.type "list",data:=.seq its.toArray n }) (b:f its.toArray=its'.toArray) (c:ZJ ys its') (d:ys.length≤sizeLine) :
  Inv X aa σ (upd H l (.lst ys)) { s with heap:=s.heap.update l (Obj.mapSeq f),toks:=t' }:=by
 have q:=PySem.IsL.update e f;rw[b]at q;refine I.write (x:=l) (e:=l) (by rw[a];exact trivial) #[8] (fun b' u g h=>(Heap.get?_update_other s.heap (Obj.mapSeq f) (Ne.symm g)).trans h) ⟨_,q⟩ ?_;exact⟨d,its',_,c,q⟩
theorem Inv.lnew{its:List Value}{t':Nat}(I:Inv X aa σ H s)(a:ZJ ys its)(b:ys.length≤sizeLine) :
  Inv X aa σ (upd H s.heap.objs.size (.lst ys)) { s with heap:=s.heap.push { cls:=.type "list",data:=.seq its.toArray },toks:=t' } :=
 I.laid (fun _ _ q=>Qc _ q) (Qh _) ⟨b,its,0,a,Qs _ rfl⟩
theorem Inv.fresh(I:Inv X aa σ H s):H s.heap.objs.size=none:=I.hok.fresh (Qh _)
theorem Inv.lstM(I:Inv X aa σ H s)(a:H l=some (.lst xs)):xs.length≤sizeLine∧∃ (its:List Value) (n:Nat),ZJ xs its∧xs.length=its.length∧s.heap.get? l=some { cls:=.type "list",data:=.seq its.toArray n }:=by obtain⟨z,its,n,r,e⟩:=I.hok l _ a;exact⟨z,its,n,r,r.length,e⟩
end
section
variable {X:Cx}
inductive RAp (x:V) (vs:List V) (H:Hp) (B:Hp→Prop):Prop where
 | mk (l:Addr) (xs:List V) (y:V) (a:x=.ref l) (b:vs=[y]) (c:H l=some (.lst xs)) (d:xs.length<sizeLine) (q:B (upd H l (.lst (xs++[y]))))
def Zo7:V→List V→Hp→VK→Prop:=fun x vs H Q=>RAp x vs H fun H'=>Q .non H'
theorem VQ:MtM X "list.append" Zo7:=by intro aa s σ H x vs v us Q I b c h;obtain⟨l,xs,y,rfl,rfl,a,hz,q⟩:=h;cases b;obtain⟨u,rfl,d⟩:=c.one;obtain⟨z,its,n,r,hl,e⟩:=I.lstM a;refine call_meets F.slot_list_append ⟨_,e,rfl⟩ F.entry_list_append (F.args_list_append_2 _ _) (PySem.list_append l its.toArray n u (by rw[QI];lia)) ⟨e,?_⟩;refine⟨.non,_,I.lset (its':=its++[u]) a e #[4] (r.append (.cons d .nil)) ?_,rfl,q⟩;rw[Qj,QD];lia
def Zny:V→List V→Hp→VK→Prop:=fun x vs H Q=>∃l xs,x=.ref l∧vs=[]∧H l=some (.lst xs)∧Q .non (upd H l (.lst xs.reverse))
theorem Zku:MtM X "list.reverse" Zny:=by intro aa s σ H x vs v us Q I b c h;obtain⟨l,xs,rfl,rfl,a,q⟩:=h;cases b;have d:=c.zero;subst d;obtain⟨z,its,n,r,hl,e⟩:=I.lstM a;refine call_meets F.slot_list_reverse ⟨_,e,rfl⟩ F.entry_list_reverse (F.args_list_reverse_1 _) (AutoSeq1.list_reverse_list_0 l its.toArray n (by rw[QI];lia)) ⟨e,?_⟩;refine⟨.non,_,I.lset (its':=its.reverse) a e #[4] r.reverse ?_,rfl,q⟩;rw[QaH];lia
def Zsi:R2:=fun x y H Q=>∃l b xs zs,x=.ref l∧y=.ref b∧H l=some (.lst xs)∧H b=some (.lst zs)∧xs.length+zs.length≤sizeLine∧∀p,H p=none→Q (.ref p) (upd H p (.lst (xs++zs)))
theorem VP:OpR X (binaryOp .Add) Zsi:=by
 intro aa s σ H x y v u Q I c d h;obtain⟨l,b,xs,zs,rfl,rfl,f,g,hz,q⟩:=h;cases c;cases d;obtain⟨z,its,n,r,hl,e⟩:=I.lstM f;obtain⟨z2,a,n2,i,bf,j⟩:=I.lstM g;refine PySem.P.add_list e j ?_ (by rw[QI,QI];lia);have k:its.toArray++a.toArray=(its++a).toArray:=by simp
 rw[k];exact⟨.ref _,_,I.lnew (t':=s.toks) (r.append i) (by rw[Qj];lia),rfl,q _ I.fresh⟩
end
end L2
namespace Att
open PySem PySem.W PySem.Calls PyProof.Rows
theorem Zf9{P:Params}{h:Heap}:∀ (ns:List Int) (vs:List Value),WellAll P h vs (ns.map WData.int)→IntsAre vs ns:=by
 intro ns;induction ns with
 | nil=>intro vs w;rw[QaS]at w;cases w;exact .nil
 | cons n ns c =>
  intro vs w;rw[Qk]at w;cases w with
  | cons a b=>cases a;exact .cons _ _ (c _ b)
theorem ZlD{l:OpenLaw}{n:Nat}(i:l.most=some n){P:Params}{h:Heap}{args:List WData}{e:List Value}
  (f:l.row.toRowW.claim.pre args=true) (j:WellAll P h e args) :
  ∃a vs ns,e=[Value.ref a]∧args=[WData.list (ns.map WData.int)]∧h.get? a=some { cls:=.type "list",data:=.seq vs.toArray }∧IntsAre vs ns∧ns.length≤n:=by
 have k:WShape.hasAll [] args [.list .int]=true:=(pre_splitW f).1;have g:l.pre.holds [] { args:=args }=true:=(pre_splitW f).2;obtain⟨d,r,rfl,m,o⟩:=hasAllW_cons k;obtain rfl:=hasAllW_nil o;obtain⟨xs,rfl,p⟩:=hasW_list m;obtain⟨ns,rfl⟩:=items_int p;have s:ns.length≤n:=by
  unfold OpenLaw.pre at g;have b:(WTm.not (.lt (.lit (.int (n:Int))) (.len (.arg 0)))).holds [] { args:=[.list (ns.map .int)] }=true:=by have b:=(holds_andW g).1;rw[i]at b;exact b
  have c:=condW_of b (w_not (w_lt w_lit (w_len_list (w_arg rfl))));rw[Qa]at c;refine Nat.le_of_not_lt fun q=>?_;have t:(n:Int)<((ns.length:Nat):Int):=by lia
  first
   | (rw[decide_eq_true t]at c;exact absurd c #[6])
   | (simp at c;lia)
 cases j with
 | cons u v =>
  cases v;cases u with
  | list w x=>exact⟨_,_,ns,rfl,rfl,w,Zf9 ns _ x,s⟩
theorem Zlw(l:OpenLaw)(args:List WData):l.row.toRowW.claim.post args (.bool true) args=true :=
 postW_of (r:=l.row.toRowW) (X:=(true == true))
  (show WShape.has [] (.bool true) .bool=true by first|rfl|decide|simp[WShape.has,WShape.arms,WShape.armsAll])
  (show (WTm.eq .res (.lit (.bool true))).value [] { args:=args,res:=some (.bool true),after:=args }=some (.bool (true == true)) from w_eq_bool (w_res rfl) w_lit) rfl
theorem attach_call{l:OpenLaw}{n:Nat}{q:Program}{j:List Str}{k:(Str→Option Value)→Heap→Prop}{m:World→Heap→Prop}{d:DefRec}
  (s:l.most=some n) (t:d.params.defaults=[])
  (call:∀ (w:World) (s₀ b:Shared) (mg g:Str→Option Value) (fa:Addr) (o:Obj) (h c i:Value) (a:Addr) (vs:List Value) (ns:List Int),
   Ground q j [] k w s₀ mg g b.heap→m w b.heap →
   b.heap.get? fa=some o→o.data=.func (docDef d.name d.params d.body d.scope h c i)→b.heap.CodeRec c d.name→mg d.name=some (.ref fa) →
   b.heap.get? a=some { cls:=.type "list",data:=.seq vs.toArray }→IntsAre vs ns→ns.length≤n→b.gens = #[] →
   codeAny (model l.prog w) callerA (.call (.ref fa) ⟨[.ref a],[]⟩) (fun r e=>r=.ok (.ret (.bool true))∧OldK b.heap e.heap∧e.os=b.os∧AllBare e.gens) b) :
  WalkO q j k m l.row.toRowW d [] (fun f vs=>PySem.call f vs):=by
 intro w s₀ b mg g G Y fa o h c i u kV v x y p hmg z args lY as A BQ h7 B jB;obtain rfl:u=.none:=Dflts.none p t;obtain rfl:kV=.none:=Dflts.noKw p;obtain⟨a,vs,ns,rfl,rfl,C,D,E⟩:=ZlD s A B;refine enter_call (codeAny_mono (call w s₀ b mg g fa o h c i a vs ns G Y v (fd_plain x) y hmg C D E z) fun r e F=>?_);obtain⟨rfl,H,I,J⟩:=F;exact⟨.inl ⟨.bool true,.bool true,[],rfl,fun _=>rfl,.bool true,Zlw l _,fun _=>⟨List.Pairwise.nil,fun _ K=>(nomatch K)⟩⟩,H,I,J⟩
end Att
namespace L2
open PySem PySem.Spec PyProof.Rows
theorem RS:∀ {vs:List Value} {ns:List Int},IntsAre vs ns→ZJ (ns.map V.int) vs
 | _,_,.nil=>.nil
 | _,_,.cons n t h=>.cons ⟨t,rfl⟩ (RS h)
def RR(H:Hp):Prop:=∀b,H b=none∨∃o xs,H b=some (.frz o (.lst xs))
theorem Zm5{P:Program}{w:World}{K:#[7]}{mg A:Str→Option Value}{CX:CXT}{k:Nat}{fa a:Addr}{D:FuncData}{x:Str}{sp:Sp}{c:Shared}{vs:List Value}{ns:List Int}
  (KX:K.In c.heap) (E:c.heap.Ns mainGlobals mg) (hb:c.heap.Ns builtinsNs A) (Q:∀x:Str,x ≠ "__name__"→A x=bootBuiltins x) (R:c.heap.NoLimit) (S:c.gens = #[])
  (ha:c.heap.get? a=some { cls:=.type "list",data:=.seq vs.toArray }) (G:IntsAre vs ns) (hl:ns.length≤sizeLine) (T:Y2 k callerA)
  (F:∀f:Heap,K.In f→f.Ns mainGlobals mg→X2 P w K mg f CX k fa D [x] sp) (U:∀ (s:Shared) (u:Value),BindsTo s D ⟨[u],[]⟩ [(x,u)])
  (W:∀H:Hp,RR H→SqL K H a (ns.map V.int)→sp [.ref a] H (fun v _=>v=.bl true) fun _ _ _=>False)
  (X:∀H e g,CX [] H c (fun _ _ _=>False) e g→False) :
  codeAny (model P w) callerA (.call (.ref fa) ⟨[.ref a],[]⟩) (fun r g=>r=.ok (.ret (.bool true))∧OldK c.heap g.heap∧g.os=c.os∧AllBare g.gens) c:=by
 have I:=RS G;have Y:=G.length;have core:∀H:Hp,RR H→SqL K H a (ns.map V.int)→HOk P w H c.heap→(∀b,H b≠none→b=a)→(H a≠none→K.lookup a=none) →
   codeAny (model P w) callerA (.call (.ref fa) ⟨[.ref a],[]⟩) (fun r g=>r=.ok (.ret (.bool true))∧OldK c.heap g.heap∧g.os=c.os∧AllBare g.gens) c:=by
  intro H J Z i L hK;have M:∀ {b:Addr} {o:Obj},c.heap.get? b=some o→H b=none→(WE c.heap H).get? b=some o:=fun e n=>Zn9 e n;have lX:∀ {b:Addr} {o:Obj} {j:Array DictEntry} {l:Nat},c.heap.get? b=some o→o.data=.dict j l→H b=none:=fun {b o j l} e d=>by
   cases q:H b with
   | none=>rfl
   | some u=>have B:b=a:=L b (by rw[q];simp);subst B;rw[ha]at e;cases e;have d':Data.seq vs.toArray _=Data.dict j l:=d;cases d'
  have y:∀ {b:Addr} {m:Str→Option Value},c.heap.Ns b m→(WE c.heap H).Ns b m:=fun {b m} ⟨o,j,l,e,d,r⟩=>⟨o,j,l,M e (lX e d),d,r⟩;have N:K.In (WE c.heap H):=fun b o e=>M (KX b o e) (by
   cases q:H b with
   | none=>rfl
   | some u=>have B:b=a:=L b (by rw[q];simp);subst B;rw[hK (by rw[q];simp)]at e;cases e)
  have hM:Mod K mg (WE c.heap H):=⟨N,y E,⟨A,y hb,Q⟩,let ⟨mc,h1,h2⟩:=R;⟨mc,y h1,h2⟩⟩;have e0:VT P w K mg (WE c.heap H) callerA [] c H:=⟨rfl,hM,fun b o e=>ZoQ e,Nat.le_of_eq (ZlX _ _),trivial,fun b hb=>absurd (show b∈([]:List Addr) from hb) #[4],i,.of_eq S⟩;refine codeAny_mono ((F _ N (y E)).run callerA [] c H ⟨[.ref a],[]⟩ [.ref a] [.ref a] _ _ T e0 (U c (.ref a)) (.cons rfl .nil) (W H J Z)) fun r g h=>?_;cases r with
  | error e=>exact(X H e g h).elim
  | ok fl =>
   cases fl with
   | next=>exact False.elim h
   | brk=>exact False.elim h
   | cont=>exact False.elim h
   | ret u =>
    obtain⟨v,H',os,p,un,uk,r',q⟩:=h;have q':v=.bl true:=q;subst q';obtain rfl:u=Value.bool true:=r';refine⟨rfl,OldK.of_keep fun b o e=>?_,os,p⟩;cases q:H b with
    | none=>exact un.keep b o e q (by intro z;exact absurd (show b∈([]:List Addr) from z) #[4]) #[4]
    | some u =>
     rcases J b with z|⟨ob,xs,z⟩
     ·rw[q]at z;cases z
     ·have z2:=un.frzs b ob _ z;obtain⟨O,_⟩:=i b _ z;obtain⟨e2,_⟩:=uk b _ z2;rw[e]at O;cases O;exact e2
 cases C:K.lookup a with
 | some o=>have e:=KX a o C;rw[ha]at e;cases e;refine core (fun _=>none) (fun _=>.inl rfl) (.inr ⟨_,vs.toArray,_,C,rfl,rfl,rfl,by rw[QI,Y];exact hl,by simpa using I⟩) (fun b u z=>by have t:(none:Option HO)=some u:=z;cases t) (fun b z=>absurd rfl z) fun z=>absurd rfl z
 | none =>
  refine core (fun b=>if b=a then some (.frz { cls:=.type "list",data:=.seq vs.toArray } (.lst (ns.map V.int))) else none) (fun b=>?_) (.inl (.inr ⟨{ cls:=.type "list",data:=.seq vs.toArray },if_pos rfl⟩)) (fun b u z=>?_) (fun b z=>?_) fun _=>C
  ·by_cases hb:b=a
   ·exact .inr ⟨_,_,if_pos hb⟩
   ·exact .inl (if_neg hb)
  ·by_cases hb:b=a
   ·have t:=(if_pos hb).symm.trans z;cases t;subst hb;exact⟨ha,by rw[Qa];exact hl,vs,_,I,ha⟩
   ·have t:=(if_neg hb).symm.trans z;cases t
  ·by_cases hb:b=a
   ·exact hb
   ·exact absurd (if_neg hb) z
theorem walk_of{l:PySem.W.OpenLaw}{n k:Nat}{q:Program}{i:List Str}{j:(Str→Option Value)→Heap→Prop}{c:World→Heap→Prop}{d:DefRec}{K:Params→#[7]}{CX:World→CXT}{sp:World→Sp}{x:Str}
  (m:l.most=some n) (p:n≤sizeLine) (r:d.params.defaults=[]) (t:Y2 k callerA)
  (y:∀ (w:World) (h:Heap),c w h→(K w.params).In h)
  (F:∀ (w:World) (mg:Str→Option Value) (fa:Addr) (h:Heap),(K w.params).In h→h.Ns mainGlobals mg→mg d.name=some (.ref fa) →
   ∃b:FuncData,(∀ (s:Shared) (u:Value),BindsTo s b ⟨[u],[]⟩ [(x,u)]) ∧
    ∀base:Heap,(K w.params).In base→base.Ns mainGlobals mg→X2 l.prog w (K w.params) mg base (CX w) k fa b [x] (sp w))
  (z:∀ (w:World) (H:Hp) (a:Addr) (ns:List Int),ns.length≤n→RR H→SqL (K w.params) H a (ns.map V.int)→sp w [.ref a] H (fun v _=>v=.bl true) fun _ _ _=>False)
  (A:∀ (w:World) (H:Hp) (s:Shared) (e:Value) (s':Shared),CX w [] H s (fun _ _ _=>False) e s'→False) :
  PySem.W.WalkO q i j c l.row.toRowW d [] (fun f vs=>PySem.call f vs):=by
 refine Att.attach_call m r fun w s₀ B mg mb fa o pm cd cA a vs ns G Y ho hd dX hmg C D g E=>?_;have KX:=y w _ Y;obtain⟨b,I,J⟩:=F w mg fa _ KX G.T.g hmg;exact Zm5 KX G.T.g G.T.b G.T.builtins G.T.nolimit E C D (Qv g p) t J I (fun H L M=>z w H a ns g L M) fun H e s'=>A w H B e s'
noncomputable def Yk(s:Stmt)(j:Nat):Stmt:=match s with
 | .ClassDef _ _ _ a _ _ _ _ _ _ _=>a.getD j (.Pass ⟨0,0,0,0⟩)
 | _=>.Pass ⟨0,0,0,0⟩
noncomputable def Zq(s:Stmt):Arguments:=match s with
 | .FunctionDef _ a _ _ _ _ _ _ _ _=>a
 | _=>{ posonlyargs:=[],args:=[],vararg:=none,kwonlyargs:=[],kw_defaults:=[],kwarg:=none,defaults:=[] }
noncomputable def Zo(s:Stmt):List Stmt:=match s with
 | .FunctionDef _ _ b _ _ _ _ _ _ _=>b
 | _=>[]
noncomputable def Zg(s:Stmt):Scope:=match s with
 | .FunctionDef _ _ _ _ _ _ a _ _ _=>a
 | _=>{ kind:=.function,names:=[],isGenerator:=false,isCoroutine:=false }
abbrev CX0:CXT:=fun _ _ _ _ _ _=>False
abbrev E0:XK:=fun _ _ _=>False
theorem TD{X:Cx}:VS CX0 X E0:=fun _ _ _ _ _ _ _ h=>h.elim
structure Fun (K:#[7]) (x ap:Str) (st:Stmt) (f:Addr) (fd:FuncData):Prop where
 ex:∃ (oc:Value) (od:Option Addr) (kV cA pm:Value) (an:Option Addr) (af ct:Value) (iN:Array (Option Value)),
  fd=PySem.W.fnOf x ap (Zq st) (Zo st) (Zg st) .none kV cA pm an af ct∧K.lookup f=some ⟨oc,od,.func fd,iN⟩∧PySem.W.codeIn K af ap=true
 kp:PySem.W.keepIn K (.ref f)=true
section
variable {P:Program} {w:World} {K:#[7]} {mg:Str→Option Value} {base:Heap}
theorem Fun.ok{x b:Str}{st:Stmt}{f:Addr}{c:FuncData}{N ps:List Str}{k:Nat}{sp:Sp}(F:Fun K x b st f c)(S:Zs N ps (Zg st))(len:∀vs H Q E,sp vs H Q E→vs.length=ps.length)
  (d:∀ (a:Value) (A:Around) (outer:List Env) (s:Shared) (H:Hp) (vs:List V) (Q:VK) (E:XK),Y2 k (A.deeper (envOfC b (Zg st) s.heap.objs.size f a))→sp vs H Q E →
   ∃t,PSs (WD CX0 P w K mg base N b (Zg st) f a A outer s H E).nox (Zo st) t∧t { nx:=fun _ H'=>Q .non H',rt:=Q } (Xb N vs) H):X2 P w K mg base CX0 (k+1) f c ps sp:=by
 obtain⟨oc,od,kV,cA,pm,an,a,ct,iN,rfl,lk,e⟩:=F.ex;refine ZrQ lk e S len fun A outer s H vs Q E g i=>?_;obtain⟨t,h,q⟩:=d a A outer s H vs Q E g i;exact⟨t,h.nox,q⟩
theorem Fun.binds{x e:Str}{st:Stmt}{f:Addr}{g:FuncData}{ps:List Str}(F:Fun K x e st f g)
  (h:∀ (kV a b:Value) (c:Option Addr) (d ct:Value) (us:List Value),us.length=ps.length→bindArgs (PySem.W.fnOf x e (Zq st) (Zo st) (Zg st) .none kV a b c d ct) ⟨us,[]⟩=pure (ps.zip us)):XQ K g ps []:=by
 obtain⟨oc,od,kV,a,b,c,d,ct,iN,rfl,lk,dX⟩:=F.ex;exact .all (h kV a b c d ct)
theorem ZN{x a:Str}{st:Stmt}{f:Addr}{h:Value}{i d:Option Addr}{j:Array (Option Value)}{kV e g b ct:Value}(l:K.lookup f=some ⟨h,i,.func (PySem.W.fnOf x a (Zq st) (Zo st) (Zg st) .none kV e g d b ct),j⟩)
  (c:PySem.W.codeIn K b a=true) (k:PySem.W.keepIn K (.ref f)=true):Fun K x a st f (PySem.W.fnOf x a (Zq st) (Zo st) (Zg st) .none kV e g d b ct):=⟨⟨h,i,kV,e,g,d,b,ct,j,rfl,l,c⟩,k⟩
end
theorem TC{A:Around}{k:Nat}(a:Y2 k A):A.units+1<cLine:=Nat.lt_of_le_of_lt (Nat.add_le_add_left (by decide:1≤64) _) a.units
theorem ZE{n:Nat}(h:n≤1000):n<sizeLine:=Nat.lt_of_le_of_lt h #[6]
section
variable {X:Cx}
theorem pv(i:Nat){x:Str}{pos:Pos}(a:X.N[i]? = some x:=by rfl)(b:Vis X.env.scope x:=by first|exact Or.inl rfl|exact Or.inr #[3]|exact Or.inr (Or.inr rfl))(hd:(x == ("__debug__" : Str))=false:=by decide)
  (c:(x == ("__classdict__" : Str))=false:=by decide):PE X (.Name x pos) (TU i):=Sc a b hd c
end
theorem YR{A B:Prop}(h:B):if false=true then A else B:=by rw[if_neg Ql];exact h
theorem XN{A B:Prop}(h:A):if true=true then A else B:=by rw[if_pos rfl];exact h
theorem YW{c A B:Prop}[Decidable c](h1:c→A)(h2:¬ c→B):if c then A else B:=by
 by_cases h:c
 ·rw[if_pos h];exact h1 h
 ·rw[if_neg h];exact h2 h
theorem WB{c A B:Prop}[Decidable c](hc:c)(h:B):if (!decide c)=true then A else B:=by rw[decide_eq_true hc];exact YR h
def ZG(H H':Hp):Prop:=∀b o,H b=some o→H' b=some o
theorem ZG.refl(H:Hp):ZG H H:=fun _ _ h=>h
theorem ZG.trans{H d e:Hp}(a:ZG H d)(b:ZG d e):ZG H e:=fun c o h=>b c o (a c o h)
theorem ZG.free{H H':Hp}(e:ZG H H'){l:Addr}(h:H' l=Option.none):H l=Option.none:=by
 cases q:H l with
 | none=>rfl
 | some o=>rw[e l o q]at h;cases h
theorem ZG.seq{K:#[7]}{H H':Hp}{a:Addr}{xs:List V}(e:ZG H H')(h:SqL K H a xs):SqL K H' a xs:=by
 rcases h with(h|⟨o,h⟩)|h
 ·exact .inl (.inl (e _ _ h))
 ·exact .inl (.inr ⟨o,e _ _ h⟩)
 ·exact .inr h
noncomputable def Y4(b:List (Str×Addr)):List (Str×NameKind)→List (Str×Addr)→List (Str×Addr)
 | [],a=>a
 | (n,k)::r,a=>if k == .free then Y4 b r ((n,(b.lookup n).getD 0)::a) else Y4 b r a
theorem Nx{d:Scope}{env:Env}(h:∀y∈d.names,y.2=.free→∃c,env.cells.lookup y.1=some c) :
  closureFor d env=pure (Y4 env.cells d.names []):=by
 have go:∀ (a:List (Str×NameKind)) (b:List (Str×Addr)),(∀y∈a,y.2=.free→∃c,env.cells.lookup y.1=some c) →
   (forIn a b fun (x:Str×NameKind) (r:List (Str×Addr))=>if (x.2 == NameKind.free)=true then (do let c ← cellOf env x.1;pure (ForInStep.yield ((x.1,c)::r))) else pure (ForInStep.yield r):Sem (List (Str×Addr)))=pure (Y4 env.cells a b):=by
  intro a;induction a with
  | nil=>intro b _;rfl
  | cons y r j =>
   intro b f;obtain⟨n,k⟩:=y;rw[List.forIn_cons];cases e:(k == NameKind.free) with
   | false =>
    have g:Y4 env.cells ((n,k)::r) b=Y4 env.cells r b:=by show (if (k == NameKind.free)=true then _ else _)=_;rw[e];rfl
    rw[g,← j b fun z i=>f z (Qt _ i)];simp only[e,Bool.false_eq_true,if_false,pure_bind]
   | true =>
    have m:k=.free:=by simpa using e
    obtain⟨c,l⟩:=f (n,k) QP m;have g:Y4 env.cells ((n,k)::r) b=Y4 env.cells r ((n,c)::b):=by show (if (k == NameKind.free)=true then _ else _)=_;rw[e,l];rfl
    have o:cellOf env n=pure c:=by unfold cellOf;rw[l]
    rw[g,← j ((n,c)::b) fun z i=>f z (Qt _ i)];simp only[e,if_true,o,pure_bind]
 have q:=go d.names [] h;unfold closureFor;first
  | (rw[show (forIn d.names ([]:List (Str×Addr)) _:Sem (List (Str×Addr)))=pure (Y4 env.cells d.names []) from q];rfl)
  | (simp only[bind_pure];exact q)
  | exact q
theorem RQ(a:List (Str×Addr)):∀ (names:List (Str×NameKind)) (b:List (Str×Addr)) (x:Str) (c:Addr),(Y4 a names b).lookup x=some c →
  (∃y∈names,y.1=x∧y.2=.free∧c=(a.lookup x).getD 0)∨b.lookup x=some c
 | [],b,x,c,h=>.inr h
 | (n,k)::r,b,x,c,h=>by
  by_cases hk:(k == NameKind.free)=true
  ·have e:Y4 a ((n,k)::r) b=Y4 a r ((n,(a.lookup n).getD 0)::b):=by show (if (k == NameKind.free)=true then _ else _)=_;rw[if_pos hk]
   rw[e]at h;rcases RQ a r _ x c h with⟨y,d,q⟩|q
   ·exact .inl ⟨y,Qt _ d,q⟩
   ·rw[QaB]at q;by_cases f:(x == n)=true
    ·rw[f]at q;have g:x=n:=by simpa using f
     subst g;exact .inl ⟨(x,k),QP,rfl,by simpa using hk,(Qp q).symm⟩
    ·have g:(x == n)=false:=by simpa using f
     rw[g]at q;exact .inr q
  ·have e:Y4 a ((n,k)::r) b=Y4 a r b:=by show (if (k == NameKind.free)=true then _ else _)=_;rw[if_neg hk]
   rw[e]at h;rcases RQ a r _ x c h with⟨y,d,q⟩|q
   ·exact .inl ⟨y,Qt _ d,q⟩
   ·exact .inr q
theorem RP(a:List (Str×Addr)):∀ (names:List (Str×NameKind)) (b:List (Str×Addr)) (x:Str),((∃y∈names,y.1=x∧y.2=.free)∨∃c,b.lookup x=some c) →
  ∃c,(Y4 a names b).lookup x=some c
 | [],b,x,h=>by
  rcases h with⟨y,hy,_⟩|h
  ·cases hy
  ·exact h
 | (n,k)::r,b,x,h=>by
  by_cases hk:(k == NameKind.free)=true
  ·have e:Y4 a ((n,k)::r) b=Y4 a r ((n,(a.lookup n).getD 0)::b):=by show (if (k == NameKind.free)=true then _ else _)=_;rw[if_pos hk]
   rw[e];refine RP a r _ x ?_;by_cases d:(x == n)=true
   ·exact .inr ⟨_,by rw[QaB,d]⟩
   ·have f:(x == n)=false:=by simpa using d
    rcases h with⟨y,hy,q⟩|⟨c,q⟩
    ·rcases QG.mp hy with rfl|hy
     ·exact absurd (by simpa using q.1.symm) d
     ·exact .inl ⟨y,hy,q⟩
    ·exact .inr ⟨c,by rw[QaB,f];exact q⟩
  ·have e:Y4 a ((n,k)::r) b=Y4 a r b:=by show (if (k == NameKind.free)=true then _ else _)=_;rw[if_neg hk]
   rw[e];refine RP a r _ x ?_;rcases h with⟨y,hy,q⟩|h
   ·rcases QG.mp hy with rfl|hy
    ·exact absurd (by simpa using q.2) hk
    ·exact .inl ⟨y,hy,q⟩
   ·exact .inr h
structure YM (N N':List Str) (o c:Scope):Prop where
 kind:c.kind=.function
 okind:o.kind=.function
 nocell:∀y∈c.names,y.2≠.cell
 loc:∀y∈c.names,y.2=.local→c.names.lookup y.1=some .local
 free:∀y∈c.names,y.2=.free→c.names.lookup y.1=some .free∧(o.names.lookup y.1=some .cell∨o.names.lookup y.1=some .free)
 len:N.length≤N'.length
 same:∀i∈List.range N.length,∀x∈N'[i]?,c.names.lookup x=some .local∨c.names.lookup x=some .free→c.names.lookup x=some .free∧N[i]? = some x
 nd:N'.Nodup
noncomputable def YN(X:Cx)(c:Scope)(a:List Str)(C:Addr)(s:Shared)(H:Hp)(fp:List Addr):Cx :=
 { X with N:=a,s₀:=s,H₀:=H,env:=compEnvC c (Y4 X.env.cells c.names []) C X.env,outer:=X.stack,stack:=X.stack,ex:=fp,fn:=fun _=>false,pn:=[],xe:=fun _ _=>False }
theorem Nw{env:Env}(c:env.scope.kind=.function):∀ (names:List (Str×NameKind)) (x:Str),
  (names.map fun (p:Str×NameKind)=>if (p.2 == NameKind.free&&env.scope.kind == .function&&env.kindOf p.1 == some .cell)=true then (p.1,NameKind.cell) else (p.1,p.2)).lookup x =
   match names.lookup x with
   | some .free=>if env.kindOf x=some .cell then some .cell else some .free
   | k=>k
 | [],x=>rfl
 | (n,k)::r,x=>by
  have g:=Nw c r x;rw[Qk];by_cases f:(x == n)=true
  ·have a:x=n:=by simpa using f
   subst a;have d:List.lookup x ((x,k)::r)=some k:=by rw[QaB];simp
   rw[d];by_cases e:k=.free
   ·subst e;by_cases b:env.kindOf x=some .cell
    ·simp[List.lookup_cons,c,b]
    ·simp[List.lookup_cons,c,b]
   ·have h:(k == NameKind.free)=false:=by simpa using e
    rw[h];simp only[Bool.false_and,Bool.false_eq_true,if_false,List.lookup_cons,beq_self_eq_true];all_goals (cases k<;>first|rfl|exact absurd rfl e)
  ·have a:(x == n)=false:=by simpa using f
   have d:List.lookup x ((n,k)::r)=List.lookup x r:=by rw[QaB,a]
   rw[d,← g];by_cases b:(k == NameKind.free&&env.scope.kind == .function&&env.kindOf n == some .cell)=true
   ·simp only[b,if_true,List.lookup_cons,a]
   ·simp only[b,if_false,List.lookup_cons,a,Bool.false_eq_true]
section
variable {X:Cx} {N N':List Str} {o c:Scope}
theorem UJ(S:YM N N' o c)(a:X.env.scope=o)(b:List (Str×Addr))(C:Addr)(x:Str):(compEnvC c b C X.env).kindOf x =
  match c.names.lookup x with
  | some .free=>if X.env.kindOf x=some .cell then some .cell else some .free
  | k=>k:=Nw (env:=X.env) (by rw[a];exact S.okind) c.names x
theorem TB{names:List (Str×NameKind)}{x:Str}{k:NameKind}(h:names.lookup x=some k):(x,k)∈names:=Qah h
theorem Vl(S:YM N N' o c)(g:X.env.scope=o)(ok:X.Ok){x:Str}{a:Addr}(h:(Y4 X.env.cells c.names []).lookup x=some a) :
  X.env.cells.lookup x=some a∧c.names.lookup x=some .free:=by
 rcases RQ _ _ _ _ _ h with⟨y,i,rfl,j,e⟩|q
 ·have d:=S.free y i j;have k:X.env.kindOf y.1=some .cell∨X.env.kindOf y.1=some .free:=by show X.env.scope.names.lookup y.1=_∨X.env.scope.names.lookup y.1=_;rw[g];exact d.2
  obtain⟨b,f⟩:=ok.has y.1 k;rw[f]at e;exact⟨by rw[f,e];rfl,d.1⟩
 ·cases q
theorem Nv(S:YM N N' o c)(d:X.env.scope=o)(ok:X.Ok){x:Str}(h:c.names.lookup x=some .free):∃a,(Y4 X.env.cells c.names []).lookup x=some a∧X.env.cells.lookup x=some a:=by obtain⟨a,b⟩:=RP X.env.cells c.names [] x (.inl ⟨(x,.free),TB h,rfl,rfl⟩);exact⟨a,b,(Vl S d ok b).1⟩
theorem Zol(S:YM N N' o c)(f:X.env.scope=o){l:List (Addr×Obj)}{n:St}{H:Hp}{s:Shared}{fp:List Addr}(I:Inv X l n H s)
  (i:∀b∈fp,Xz X l H b) (p:∀b∈fp,b<s.heap.objs.size):(YN X c N' s.heap.objs.size s H fp).Ok where
 mod:=I.ok.mod
 kind:=S.kind
 glob:=I.ok.glob
 blt:=I.ok.blt
 above:=Qh _
 inj:=fun x y a r t=>I.ok.inj x y a (Vl S f I.ok r).1 (Vl S f I.ok t).1
 has:=fun x u=>by
  have e:=UJ (X:=X) S f (Y4 X.env.cells c.names []) s.heap.objs.size x;have g:(compEnvC c (Y4 X.env.cells c.names []) s.heap.objs.size X.env).kindOf x=some .cell∨(compEnvC c (Y4 X.env.cells c.names []) s.heap.objs.size X.env).kindOf x=some .free:=u;rw[e]at g;cases q:c.names.lookup x with
  | none=>rw[q]at g;rcases g with z|z<;>cases z
  | some k =>
   by_cases m:k=.free
   ·subst m;obtain⟨a,v,_⟩:=Nv S f I.ok q;exact⟨a,v⟩
   ·rw[q]at g;have w:k=.cell:=by cases k<;>first|rfl|exact absurd rfl m|(rcases g with z|z<;>cases z)
    subst w;exact absurd rfl (S.nocell _ (TB q))
 cab:=fun x a h=>by cases (show false=true from h)
 hd:=I.ok.hd
 frames:=I.ok.frames
 stk:=.inl rfl
 exf:=fun b d=>⟨QB (p b d),fun x a h=>(i b d).2.2.2.2.1 x a (Vl S f I.ok h).1⟩
 bs:=fun b j e=>I.bs b j e
 bsz:=Qv I.ok.bsz I.sz
 noex:=fun b j e d=>by
  rcases(i b d).2.2.2.1 with z|z
  ·exact I.ok.noex b j e z
  ·exact absurd (QC (Qq e) (Qv I.ok.bsz z)) (Q7 _)
 exfs:=fun b d A=>by
  rcases QG.mp (I.stkSub b A) with z|z
  ·exact(i b d).2.1 z
  ·exact(i b d).2.2.1 z
 funs:=I.stack
 frf:=I.stkFree
theorem Nu(S:YM N N' o c)(t:X.N=N)(g:X.env.scope=o){B:List (Addr×Obj)}{f:St}{H:Hp}{s:Shared}{fp:List Addr}{w:Heap}{tk:Nat}{C:Str→Option Value}(I:Inv X B f H s)
  (E:∀b∈fp,Xz X B H b) (F:∀b∈fp,b<s.heap.objs.size) (G:w.Ns s.heap.objs.size C) (hk:∀b ob,s.heap.get? b=some ob→w.get? b=some ob) :
  Inv (YN X c N' s.heap.objs.size s H fp) [] (f++List.replicate (N'.length-N.length) none) H { s with heap:=w,toks:=tk } where
 ok:=Zol S g I E F
 os:=rfl
 bare:=I.bare
 base:=Un.kept hk
 loc:=by
  refine⟨C,G,fun i x v J j K=>?_⟩;obtain⟨m,hn,L⟩:=I.loc;have M:f.length=N.length:=by rw[I.len,t]
  have y:i<f.length:=by
   by_cases y:i<f.length
   ·exact y
   ·rw[QL #[2],List.getElem?_replicate]at j;split at j<;>cases j
  have O:f[i]? = some (some v):=by rw[QK y]at j;exact j
  have D:=UJ (X:=X) S g (Y4 X.env.cells c.names []) s.heap.objs.size x;have P:c.names.lookup x=some .local∨c.names.lookup x=some .free:=by
   have n:(compEnvC c (Y4 X.env.cells c.names []) s.heap.objs.size X.env).kindOf x=some .local∨(compEnvC c (Y4 X.env.cells c.names []) s.heap.objs.size X.env).kindOf x=some .cell∨(compEnvC c (Y4 X.env.cells c.names []) s.heap.objs.size X.env).kindOf x=some .free:=K;rw[D]at n;cases q:c.names.lookup x with
   | none=>rw[q]at n;rcases n with z|z|z<;>cases z
   | some k =>
    cases k with
    | «local»=>exact .inl rfl
    | free=>exact .inr rfl
    | cell=>exact absurd rfl (S.nocell _ (TB q))
    | _=>rw[q]at n;rcases n with z|z|z<;>cases z
  obtain⟨A,Q⟩:=S.same i (Q1.mpr #[2]) x (by rw[show N'[i]? = some x from J];rfl) P;have hok:X.env.kindOf x=some .cell∨X.env.kindOf x=some .free:=by show X.env.scope.names.lookup x=_∨X.env.scope.names.lookup x=_;rw[g];exact(S.free _ (TB A) rfl).2
  obtain⟨u,r,l⟩:=L i x v (by rw[t];exact Q) O (.inr hok);refine⟨u,r,.inr ⟨?_,?_⟩⟩
  ·show (compEnvC c (Y4 X.env.cells c.names []) s.heap.objs.size X.env).kindOf x=some .cell∨(compEnvC c (Y4 X.env.cells c.names []) s.heap.objs.size X.env).kindOf x=some .free;rw[D,A];show (if X.env.kindOf x=some .cell then some NameKind.cell else some NameKind.free)=some .cell∨(if X.env.kindOf x=some .cell then some NameKind.cell else some NameKind.free)=some .free;by_cases q:X.env.kindOf x=some .cell
   ·rw[if_pos q];exact .inl rfl
   ·rw[if_neg q];exact .inr rfl
  ·obtain⟨a,R,T⟩:=Nv S g I.ok A;refine⟨a,R,?_⟩;rcases l with⟨z,_⟩|⟨_,a',e,ob,U,V⟩
   ·rcases hok with q|q<;>rw[q]at z<;>cases z
   ·rw[T]at e;cases e;exact⟨ob,hk _ _ U,V⟩
 cell:=fun x a h=>by obtain⟨v,ob,e,d⟩:=I.cell x a (Vl S g I.ok h).1;exact⟨v,ob,hk _ _ e,d⟩
 free:=I.hok.fresh (Qh _)
 freeC:=fun x a h=>I.freeC x a (Vl S g I.ok h).1
 pin:=fun p W=>absurd (show p∈([]:List (Addr×Obj)) from W) #[4]
 hok:=I.hok.kept hk
 len:=by
  have M:f.length=N.length:=by rw[I.len,t]
  have:=S.len;show (f++List.replicate (N'.length-N.length) none).length=N'.length;rw[Qj,Qau];lia
end
noncomputable abbrev RO(a:List Expr)(env:Env):Sem Bool :=
 forIn a true fun k r=>if r=true then do let ok ← isTrue k env (eval k env);pure (ForInStep.yield ok) else pure (ForInStep.yield r)
def PTs(X:Cx)(c:List Expr)(t:TT):Prop :=
 ∀ (b:List (Addr×Obj)) (s:Shared) (a:St) (H:Hp) (Q:Bool→Hp→Prop),Inv X b a H s→t a H Q→#[9,X] (RO c X.env) (TP X b a Q) X.xe s
def VO:TT:=fun _ H Q=>Q true H
theorem Wl{X:Cx}:PTs X [] VO:=fun _ _ _ H _ I h=>wpAny_tests_nil ⟨H,I,h⟩
theorem RN{X:Cx}{e:Expr}{t:TT}(h:PT X e t):PTs X [e] t:=fun a s b H Q I q=>wpAny_tests_one (h a s b H Q I q)
section
variable {prog:Program} {w:World} {A:Around} {R:Result→Shared→Prop} {s:Shared}
theorem Zii{c b iter:Expr}{d:List Expr}{k:Scope}{pos:Pos}{it f:Value}{env:Env}{E:Value→Shared→Prop}(I:Nat→Shared→Prop)
  (B:∀e s',E e s'→False)
  (turn:∀n s,I n s→wpAny (model prog w) A (pyNext it) (fun r g=>match r with
   | none=>R (.ok .next) g
   | some v=>wpAny (model prog w) A (letOwnedTupleGo b it v) (fun _ s₀=>wpAny (model prog w) A (assign b env v) (fun _ l =>
     wpAny (model prog w) A (RO d env) (fun ok i =>
      if ok=true then wpAny (model prog w) A (eval c env) (fun x o =>
       wpAny (model prog w) A (call (.builtin "list.append") [f,x]) (fun _ p=>∃m,m<n∧I m p) E o) E i
      else ∃m,m<n∧I m i) E l) E s₀) E g) E s)
  (n:Nat) (h:I n s):codeAny (model prog w) A (.compLoop (.ListComp c [⟨b,iter,d,0⟩] k pos) 0 it f env) R s:=by
 have go:∀ {j:Type} {t:Sem j} {Q:j→Shared→Prop} {s:Shared},wpAny (model prog w) A t Q E s→wpAny (model prog w) A t Q (notedBy (model prog w) A env fun e s'=>R (.error e) s') s :=
  fun {j t Q s} q=>wpAny_mono q (fun _ _ z=>z) fun e s' z=>(B e s' z).elim
 refine codeAny_loop rfl I (fun n s C=>?_) n h;show wpAny _ A ((compTurn (.ListComp c [⟨b,iter,d,0⟩] k pos) 0 it f env).onRaise (fun x=>do noteFrame x env;theTreesLotGoes x)) _ _ s;refine wpAny_noted ?_;rw[compTurn_list];refine wpAny_bind (wpAny_standAt (wpAny_bind (thn (go (turn n s C)) fun r g u=>?_)));cases r with
 | none=>exact wpAny_pure u
 | some v =>
  refine wpAny_bind (thn (go u) fun _ s₀ a=>wpAny_bind (thn (go a) fun _ l D=>wpAny_bind (thn (go D) fun ok i y=>?_)));cases ok with
  | false=>exact wpAny_pure ⟨rfl,y⟩
  | true=>exact wpAny_bind (wpAny_bind (thn (go y) fun x o F=>wpAny_bind (thn (go F) fun _ p G=>wpAny_pure (wpAny_pure ⟨rfl,G⟩))))
end
def VN(J:It)(D:Addr)(k:Nat)(q:St)(r:Hp)(g:TG)(s:TT)(t:TE)(Q:VK):Prop :=
 ∃W:Nat→Nat→List V→St→Hp→Prop,(∃m,W 0 m [] (q++List.replicate k none) (upd r D (.lst []))) ∧
  ∀i m a e c,W i m a e c→(J.stop i c∧Q (.ref D) c) ∨
   (J.go i c∧∃N:List V→St→Hp→Prop,(∀f h j,N f h j→∃l,l<m∧W (i+1) l f h j)∧∀x n,J.yld i c x n→g x e n fun d u=>s d u fun b o =>
    if b=true then t d o fun y p=>p D=some (.lst a)∧a.length<sizeLine∧N (a++[y]) d (upd p D (.lst (a++[y]))) else N a d o)
def RM(n:Nat)(c:TI)(g:TG)(d:TT)(e:TE):TE:=fun a H Q=>c a H fun J b=>∀D,b D=none→VN J D n a b g d e Q
section
variable {X:Cx} {N N':List Str} {o c:Scope}
theorem Nt{dN tg iter:Expr}{bg:List Expr}{pos bF:Pos}{wi:TI}{g:TG}{tc:TT}{te:TE}{use:Option (Value→Sem Unit)}{QQ:Value→Shared→Prop}(S:YM N N' o c)(hN:X.N=N)(ho:X.env.scope=o)(hc:X.calm=true)
  (hi:PI X tg iter wi) (hg:∀C s H fp,PG (YN X c N' C s H fp) tg g) (ht:∀C s H fp,PTs (YN X c N' C s H fp) bg tc) (he:∀C s H fp,PE (YN X c N' C s H fp) dN te)
  (hs:∀x,foldedSetIterable iter X.env x=pure x) {V:List (Addr×Obj)} {s:Shared} {σ:St} {H:Hp} {Q:VK} (I:Inv X V σ H s) (h:RM (N'.length-N.length) wi g tc te σ H Q)
  (post:∀ (D C:Addr) (t:Shared) (l:Hp) (m:Str→Option Value),Inv X V σ l t→l C=none→t.heap.Ns C m→C≠X.env.locals→X.s₀.heap.objs.size≤C→(∀x a,X.env.cells.lookup x=some a→a≠C)→(∀p∈X.pn++V,p.1≠C) →
   Q (.ref D) l→compPost (model X.prog X.w) X.A X.xe use QQ (.ref D) C (.ok .next) t) :
  #[9,X] (comprehension (.ListComp dN [⟨tg,iter,bg,0⟩] c pos) c X.env bF (newList []) false (eval iter X.env) use) QQ X.xe s:=by
 have jE:closureFor c X.env=pure (Y4 X.env.cells c.names []):=Nx fun y hy hf=>by refine I.ok.has y.1 ?_;show X.env.scope.names.lookup y.1=_∨X.env.scope.names.lookup y.1=_;rw[ho];exact(S.free y hy hf).2
 refine wpAny_comprehension_free (use:=use) rfl hs jE S.kind S.loc (thn (hi V s σ H _ I h) fun v s1 h1=>thn h1 fun on f h2=>?_);obtain⟨it,fp,tn,J,G,e,I2,T,gl,f2,hR⟩:=h2;subst e;have hD:G f.heap.objs.size=none:=I2.fresh;have M:Inv X V σ (upd G f.heap.objs.size (.lst [])) { f with heap:=f.heap.push { cls:=.type "list",data:=.seq ([]:List Value).toArray } } :=
  I2.lnew (ys:=[]) (its:=[]) (t':=f.toks) .nil (Qx _)
 have mh:∀b∈fp,b<f.heap.objs.size:=fun b k=>by obtain⟨A,e,_⟩:=T.obj 0 _ gl b k;exact Qq e
 refine wpAny_newObj_type (wpAny_newFunctionEnv S.nocell (by intro y hy;simp at hy) (fun K h9 ic=>?_) S.kind);have O:∃j:Shared,j={ f with heap:=f.heap.push { cls:=.type "list",data:=.seq ([]:List Value).toArray } }:=⟨_,rfl⟩;obtain⟨j,jF⟩:=O;have O:j.heap=f.heap.push { cls:=.type "list",data:=.seq ([]:List Value).toArray }:=by rw[jF]
 have iS:j.heap.objs.size=f.heap.objs.size+1:=by rw[O,Q8]
 have mi:∀b∈fp,b<j.heap.objs.size:=fun b k=>QC (mh b k) (by rw[iS];exact QaN _);have f3:∀b∈fp,Xz X V (upd G f.heap.objs.size (.lst [])) b:=fun b k=>⟨by rw[Zc (QB (mh b k))];exact(f2 b k).1,(f2 b k).2⟩;have kX:tn 0 j.heap:=T.keep 0 _ _ gl fun b _ A e=>by rw[O];exact Qc _ e
 rw[← jF]at M;show codeAny (model X.prog X.w) X.A (.compStart _ 0 (.ref it) (.ref f.heap.objs.size) (compEnvC c (Y4 X.env.cells c.names []) (f.heap.push { cls:=.type "list",data:=.seq ([]:List Value).toArray }).objs.size X.env))
  (compPost (model X.prog X.w) X.A X.xe use QQ (.ref f.heap.objs.size) (f.heap.push { cls:=.type "list",data:=.seq ([]:List Value).toArray }).objs.size)
  { f with heap:=K,toks:=f.toks+([]:List (Str×Value)).length }
 have cC:K.Ns j.heap.objs.size (fun x=>([]:List (Str×Value)).reverse.lookup x):=by rw[O];exact h9
 have mj:∀b A,j.heap.get? b=some A→K.get? b=some A:=fun b A e=>by rw[O]at e;exact ic.extBut b A (QB (Qq e)) (Qc _ e)
 rw[← O];have qB:({ f with heap:=K,toks:=f.toks+([]:List (Str×Value)).length }:Shared)={ j with heap:=K,toks:=f.toks }:=by rw[jF];rfl
 rw[qB];obtain⟨W,⟨m0,w0⟩,turn⟩:=hR f.heap.objs.size hD;have I4:=Nu (tk:=f.toks) S hN ho M f3 mi cC mj;have ml:tn 0 K:=T.keep 0 _ _ kX fun b _ A e=>mj b A e;generalize w:YN X c N' j.heap.objs.size j (upd G f.heap.objs.size (.lst [])) fp=Y at I4;have P:Y.prog=X.prog:=by rw[← w];rfl
 have R:Y.w=X.w:=by rw[← w];rfl
 have YK:Y.K=X.K:=by rw[← w];rfl
 have Yc:Y.calm=true:=by rw[← w];exact hc
 have YA:Y.A=X.A:=by rw[← w];rfl
 have iU:Y.env=compEnvC c (Y4 X.env.cells c.names []) j.heap.objs.size X.env:=by rw[← w];rfl
 have Yl:Y.env.locals=j.heap.objs.size:=by rw[iU];rfl
 have gG:Y.xe=fun _ _=>False:=by rw[← w];rfl
 have mq:=hg j.heap.objs.size j (upd G f.heap.objs.size (.lst [])) fp;have bB:=ht j.heap.objs.size j (upd G f.heap.objs.size (.lst [])) fp;have aD:=he j.heap.objs.size j (upd G f.heap.objs.size (.lst [])) fp;rw[w]at mq bB aD;have dr:∀ {B:Hp},(∀b∈fp,B b=none)→∀b∈fp,Xz Y [] B b:=fun {B} hn b k=>by
  obtain⟨_,q1,q2,q3,q4,_⟩:=f3 b k;have z1:=I4.ok.exf b (by rw[← w];exact k);refine⟨hn b k,z1.1,I4.ok.exfs b (by rw[← w];exact k),.inl (by rw[← w];exact k),z1.2,fun p hp=>?_⟩;have cX:p∈([]:List (Addr×Obj)):=by
   have:Y.pn=[]:=by rw[← w];rfl
   rw[this]at hp;exact hp
  cases cX
 have fin:∀ (t:Shared) (L:St) (l:Hp),Inv Y [] L l t→Q (.ref f.heap.objs.size) l→compPost (model X.prog X.w) X.A X.xe use QQ (.ref f.heap.objs.size) j.heap.objs.size (.ok .next) t:=fun t L l F q=>by
  obtain⟨m,hn,_⟩:=id F.loc;rw[Yl]at hn;have ie:l j.heap.objs.size=none:=by have:=F.free;rw[Yl]at this;exact this
  have un:Un (frs X.stack) fp (upd G f.heap.objs.size (.lst [])) l j.heap t.heap:=by have:=F.base;rw[← w]at this;exact this
  have qC:t.os=j.os:=by have:=F.os;rw[← w]at this;exact this
  have eS:HOk X.prog X.w l t.heap:=by have:=F.hok;rw[P,R]at this;exact this
  refine post _ _ t l m (M.call' (s':=t) (ch:=fp) qC un eS F.bare fun b k=>?_) ie hn (QY M.lt) M.sz (fun x a e=>?_) (fun p hp=>?_) q
  ·obtain⟨_,q1,_,q3,q4,q5⟩:=f3 b k;exact⟨q3,q1,q4,q5⟩
  ·obtain⟨v,A,e',_⟩:=M.cell x a e;exact QB (Qq e')
  ·exact QB (Qq (M.pin p hp).1)
 have iV:codeAny (model X.prog X.w) X.A (.compLoop (.ListComp dN [⟨tg,iter,bg,0⟩] c pos) 0 (.ref it) (.ref f.heap.objs.size) (compEnvC c (Y4 X.env.cells c.names []) j.heap.objs.size X.env))
   (compPost (model X.prog X.w) X.A X.xe use QQ (.ref f.heap.objs.size) j.heap.objs.size) { j with heap:=K,toks:=f.toks }:=by
  rw[← iU,← YA];refine Zii (E:=fun _ _=>False) (fun n s'=>∃i ys aj B,Inv Y [] aj B s'∧tn i s'.heap∧(∀b∈fp,B b=none)∧W i n ys aj B) (fun _ _ z=>z) ?_ m0
   ⟨0,[],_,_,I4,ml,fun b k=>(f3 b k).1,?_⟩
  ·rintro n t ⟨i,ys,L,l,F,hZ,jA,w5⟩;rcases turn i n ys L l w5 with⟨stop,qn⟩|⟨go,Nn,mv,step⟩
   ·refine thn (T.done Y P R YK Yc i [] t L l _ F (dr jA) hZ stop) ?_;rintro r s6 ⟨hr,I6⟩;subst hr;have fq:=fin s6 L l I6 qn;rw[← YA]at fq;exact fq
   ·refine thn (T.item Y P R YK Yc i [] t L l _ F (dr jA) hZ go) ?_;rintro r s6 ⟨u,hr,h6⟩;subst hr;refine thn h6 ?_;rintro _ s7 ⟨x,H7,I7,r7,y7,jG,qD⟩;have qE:=I7.pinned (dr qD) (T.obj _ _ jG);have iW:∀ {jH:St} {U:Hp} {Z:Shared},Inv Y ([]++Vr fp s7.heap) jH U Z→Inv Y [] jH U Z∧tn (i+1) Z.heap∧∀b∈fp,U b=none:=fun {jH U Z} I9=>by refine⟨I9.unpinned,T.keep _ _ _ jG fun b k A e=>(I9.pin (b,A) (Qr _ (Qr _ (Vq k e)))).1,fun b k=>?_⟩;obtain⟨A,e,d⟩:=T.obj _ _ jG b k;exact(I9.pin (b,A) (Qr _ (Qr _ (Vq k e)))).2.1
    have P1:=mq _ s7 L H7 x u _ qE r7 (step x H7 y7);rw[P,R,gG]at P1;refine thn P1 ?_;rintro _ s8 ⟨fX,H8,I8,q8⟩;have P2:=bB _ s8 fX H8 _ I8 q8;rw[P,R,gG]at P2;refine thn P2 ?_;rintro ok Z ⟨U,I9,q9⟩;cases ok with
    | false=>rw[if_neg Ql]at q9;rw[if_neg Ql];obtain⟨b1,b2,b3⟩:=iW I9;obtain⟨m',bY,w9⟩:=mv _ _ _ q9;exact⟨m',bY,i+1,ys,fX,U,b1,b2,b3,w9⟩
    | true=>rw[if_pos rfl]at q9;rw[if_pos rfl];have P3:=aD _ Z fX U _ I9 q9;rw[P,R,gG]at P3;refine thn P3 ?_;rintro y iX ⟨vy,dB,qF,qG,qH,hsz,qI⟩;have P4:=VQ (X:=Y) _ iX fX dB (.ref f.heap.objs.size) [vy] (.ref f.heap.objs.size) [y] (fun _ B=>Nn (ys++[vy]) fX B) qF rfl (.cons qG .nil) ⟨_,ys,vy,rfl,rfl,qH,hsz,qI⟩;rw[P,R,gG]at P4;refine thn P4 ?_;rintro _ iY ⟨_,i3,qJ,_,qK⟩;obtain⟨b1,b2,b3⟩:=iW qJ;obtain⟨m',bY,yJ⟩:=mv _ _ _ qK;exact⟨m',bY,i+1,ys++[vy],fX,i3,b1,b2,b3,yJ⟩
  ·exact w0
 have lp:=T.self X.A 0 { j with heap:=K,toks:=f.toks } (fun qL s'=>codeAny (model X.prog X.w) X.A (.compLoop (.ListComp dN [⟨tg,iter,bg,0⟩] c pos) 0 qL (.ref f.heap.objs.size) (compEnvC c (Y4 X.env.cells c.names []) j.heap.objs.size X.env))
   (compPost (model X.prog X.w) X.A X.xe use QQ (.ref f.heap.objs.size) j.heap.objs.size) s') (fun _ _=>False) ml iV
 exact codeAny_compStart_list iV (wpAny_mono lp (fun _ _ z=>z) fun _ _ z=>z.elim)
theorem Inv.let{c:List (Addr×Obj)}{d:St}{H:Hp}{s:Shared}{C:Addr}{h':Heap}(I:Inv X c d H s)(f:H C=none)(g:C≠X.env.locals)(h1:X.s₀.heap.objs.size≤C)
  (h2:∀x a,X.env.cells.lookup x=some a→a≠C) (h:∀p∈X.pn++c,p.1≠C) (i:Heap.SameBut C s.heap h'):Inv X c d H { s with heap:=h' } :=
 I.turned (t':=s.toks) (fun b j k e=>i.extBut b j k e) f g (.inr h1) h2 h
theorem WQ{b a iter:Expr}{d:List Expr}{pos:Pos}{e:TI}{g:TG}{f:TT}{i:TE}(S:YM N N' o c)(j:X.N=N)(k:X.env.scope=o)(hc:X.calm=true)
  (l:PI X a iter e) (n:∀C s H fp,PG (YN X c N' C s H fp) a g) (p:∀C s H fp,PTs (YN X c N' C s H fp) d f) (he:∀C s H fp,PE (YN X c N' C s H fp) b i)
  (r:∀x,foldedSetIterable iter X.env x=pure x:=by intro _;rfl) :
  PE X (.ListComp b [⟨a,iter,d,0⟩] c pos) (RM (N'.length-N.length) e g f i):=by
 intro aa s σ H Q I h;rw[eval_ListComp];refine Nt (use:=none) S j k hc l n p he r I h fun D C s5 t m u v w y z A B q=>⟨m,w,fun h' E=>?_⟩;exact⟨.ref D,t,u.let v y z A B E,rfl,q⟩
theorem Tz{i:Nat}{x:Str}{e b iter:Expr}{f:List Expr}{pos d j:Pos}{k:TI}{g:TG}{l:TT}{n:TE}(u:X.N.Nodup)(hx:X.N[i]? = some x)(hl:Loc X.env.scope x)(S:YM N N' o c)(w:X.N=N)(y:X.env.scope=o)(hc:X.calm=true)
  (A:PI X b iter k) (B:∀C s H fp,PG (YN X c N' C s H fp) b g) (E:∀C s H fp,PTs (YN X c N' C s H fp) f l) (he:∀C s H fp,PE (YN X c N' C s H fp) e n)
  (F:swapsWith (.ListComp e [⟨b,iter,f,0⟩] c pos) (some (.Name x d)) j.line X.env=pure true)
  (G:∀x,foldedSetIterable iter X.env x=pure x:=by intro _;rfl) (J:X.fn x=true∨X.env.scope.names.lookup x=some .local:=by first|exact .inl rfl|exact .inr rfl|assumption) :
  PS X (.Assign [.Name x d] (.ListComp e [⟨b,iter,f,0⟩] c pos) j) (R9 (RM (N'.length-N.length) k g l n) (TQ i)):=by
 intro K s σ H D I h;rw[exec_Assign_Name_used _ _ _ _ F];refine wpAny_bind (wpAny_standAt (wpAny_bind ?_));show wpAny _ X.A (do let _ ← comprehension (.ListComp e [⟨b,iter,f,0⟩] c pos) c X.env _ (newList []) false (eval iter X.env) (some (assign (.Name x d) X.env))) _ _ s;refine wpAny_bind (thn (Nt (QQ:=fun _ p=>SP X K D .next p) (use:=some (assign (.Name x d) X.env)) S w y hc A B E he G I h ?_) fun _ p M=>wpAny_pure (wpAny_pure M));intro L C s5 O m P Q R r T t U q;show wpAny _ X.A (assign (.Name x d) X.env (.ref L)) _ _ _;refine wpAny_assign_Name (N8 (v:=.ref L) P u hx hl rfl (?_) J);rintro s6 V ⟨a,W,Y⟩;have Z:C≠a:=by
  rcases Y with z|z
  ·rw[z];exact r
  ·exact(t x a z).symm
 exact⟨m,R.sameBut W Z,fun h' um=>⟨_,O,V.let Q r T t U um,q⟩⟩
end
theorem Nr{ys:List Str}:∀ {us:List Value},ZJ (ys.map V.str) us→StrsAre us ys:=by
 induction ys with
 | nil=>intro us r;rw[QaS]at r;cases r;exact .nil
 | cons y ys a =>
  intro us r;rw[Qk]at r;cases r with
  | cons b c=>obtain⟨t,e⟩:=b;subst e;exact .cons _ _ (a c)
theorem Nq:∀ {vs:List Value} {ys:List Str},StrsAre vs ys→ZJ (ys.map V.str) vs
 | _,_,.nil=>.nil
 | _,_,.cons _ t h=>.cons ⟨t,rfl⟩ (Nq h)
section
variable {X:Cx}
def Np(K:#[7]):List V→Hp→VK→Prop:=fun xs H Q=>∃x c t b,xs=[x,.ty c]∧Xx K H x t∧PySem.W.kitOne K t (.type c)=some b∧Q (.bl b) H
theorem ZmW:YT X (.builtin "isinstance") (Np X.K):=by intro aa s σ H xs us Q I r h;obtain⟨x,c,t,b,rfl,ty,e,q⟩:=h;obtain⟨u,w',rfl,a,d⟩:=TH r;cases d;exact Zmb I a ty e fun tk=>⟨.bl b,H,I.tok _,rfl,q⟩
def No(K:#[7]):List V→Hp→VK→Prop:=fun xs H Q=>∃ (x:V) (a:Addr) (c:List String) (t:Value) (b:Bool),xs=[x,.ref a]∧H a=some (.tup (c.map V.ty))∧Xx K H x t∧PySem.W.kitAny K t (c.map Value.type)=some b∧Q (.bl b) H
theorem Zpz{a:List String}:∀ {us:List Value},ZJ (a.map V.ty) us→us=a.map Value.type:=by
 induction a with
 | nil=>intro us r;rw[QaS]at r;cases r;rfl
 | cons y ys b =>
  intro us r;rw[Qk]at r;cases r with
  | cons c d=>rw[show _=Value.type y from c,b d];rfl
theorem Zmm:YT X (.builtin "isinstance") (No X.K):=by
 intro A s B H k us Q I r h;obtain⟨x,D,E,t,b,rfl,F,ty,e,q⟩:=h;obtain⟨u,w',rfl,d,G⟩:=TH r;cases G;obtain⟨_,its,K,⟨L,f,M,n,N⟩⟩:=I.hok D _ F;have P:=Zpz K;subst P;obtain⟨R,S,T,sl⟩:=L;have U:R=Value.type "tuple":=M;have V:T=Data.seq (E.map Value.type).toArray n:=N;subst U;subst V;have c:∀v,EP X A B Q (.bool b) { s with toks:=v }:=fun v=>⟨.bl b,H,I.tok _,rfl,q⟩;cases ty with
 | non=>cases (show u=Value.none from d);exact QX PySem.W.kitx_none I.kIn True.intro f e (fun z=>nomatch z) c
 | bl y=>cases (show u=Value.bool y from d);exact QX PySem.W.kitx_bool I.kIn True.intro f e (fun z=>nomatch z) c
 | int i=>obtain⟨t,q⟩:=(show ∃t,u=Value.int i t from d);cases q;exact QX PySem.W.kitx_int I.kIn True.intro f e (fun z=>nomatch z) c
 | str y=>obtain⟨t,q⟩:=(show ∃t,u=Value.str y t from d);cases q;exact QX PySem.W.kitx_str I.kIn True.intro f e (fun z=>nomatch z) c
 | flt y=>obtain⟨t,q⟩:=(show ∃t,u=Value.float y t from d);cases q;exact QX PySem.W.kitx_float I.kIn True.intro f e (fun z=>nomatch z) c
 | @lst a k g=>cases (show u=Value.ref a from d);obtain⟨_,_,n,_,j⟩:=(show YZ X.prog X.w H s.heap a (.lst k) from I.hok a _ g);exact QX QaP I.kIn ⟨_,j,rfl⟩ f e (fun z=>nomatch z) c
 | @frz a W k g=>cases (show u=Value.ref a from d);obtain⟨_,_,_,n,_,j⟩:=(show YZ X.prog X.w H s.heap a (.frz W (.lst k)) from I.hok a _ g);exact QX QaP I.kIn ⟨_,j,rfl⟩ f e (fun z=>nomatch z) c
 | @tup a k g=>cases (show u=Value.ref a from d);obtain⟨_,_,_,p⟩:=(show YZ X.prog X.w H s.heap a (.tup k) from I.hok a _ g);obtain⟨o,j,m,_⟩:=p;exact QX PySem.W.kitx_tuple I.kIn ⟨o,j,m⟩ f e (fun z=>nomatch z) c
 | @dK a l g=>cases (show u=Value.ref a from d);obtain⟨_,_,vs,_,p⟩:=(show YZ X.prog X.w H s.heap a (.dK l) from I.hok a _ g);obtain⟨o,Y,Z,j,m,_⟩:=p;exact QX QaQ I.kIn ⟨o,j,m.1⟩ f e (fun z=>nomatch z) c
 | @dT a l g=>cases (show u=Value.ref a from d);obtain⟨_,_,k,_,o,Y,Z,j,m,_⟩:=(show YZ X.prog X.w H s.heap a (.dT l) from I.hok a _ g);exact QX QaQ I.kIn ⟨o,j,m.1⟩ f e (fun z=>nomatch z) c
 | @ins a C dx fs g w ha hn oq hm=>cases (show u=Value.ref a from d);obtain⟨mA,O,_⟩:=UM I.hok g;obtain⟨S,J,_⟩:=O.look;exact QX (PySem.W.kitx_own (w.get _) w.hd ha hn oq hm) I.kIn J f e (fun z=>nomatch z) c
theorem Zm0(hc:X.calm=true):YT X (.builtin "all") (fun xs H Q=>∃ (p:Addr) (bs:List Bool),xs=[.ref p]∧SqL X.K H p (bs.map V.bl)∧Q (.bl (bs.all id)) H):=by
 intro aa s σ H xs us Q I r h;obtain⟨p,bs,rfl,o,q⟩:=h;obtain⟨u,rfl,t⟩:=Xy r;cases t;obtain⟨its,f,w,hz⟩:=I.list o;have g:=w.isList;have x:p<s.heap.objs.size:=by obtain⟨_,e,_⟩:=g;exact Qq e
 refine call_all_walk (wpAny_pyIter_list g ?_);refine⟨s.heap.objs.size,[s.heap.objs.size,p],[s.heap.objs.size],its.toArray.size,_,_,fun i=>(bs[i]?).getD true,rfl,Walks.list (A:=X.A.in1) (I.ok.hd hc) _ p (QB x) its.toArray,
  ⟨⟨_,Qs _ rfl,rfl,rfl⟩,g.push _⟩,fun i v y B E' C D=>?_,fun h' tk E=>?_⟩
 ·have l:its[i]? = some v:=by simpa using C
  have c:i<its.length:=(Qf.mp l).1;have a:=f.length;have j:(bs.map V.bl)[i]? = some (V.bl (bs[i]'(by rw[Qa]at a;lia))):=by rw[Qo,Qb (by rw[Qa]at a;lia)];rfl
  obtain⟨u',d,F⟩:=f.get j;rw[l]at d;cases d;obtain rfl:v=Value.bool _:=F;have m:B ((bs[i]?).getD true) y:=D;rw[Qb (by rw[Qa]at a;lia)]at m;exact wpAny_truthy_bool m
 ·have e:((List.range its.toArray.size).all fun i=>(bs[i]?).getD true)=bs.all id:=by
   have a:=f.length;rw[Qa]at a;rw[QI,← a,QaJ,QaC,QaC];constructor
   ·intro z b j;obtain⟨i,c,rfl⟩:=List.mem_iff_getElem.mp j;have:=z i (Q1.mpr c);rw[Qb c]at this;exact this
   ·intro z i c;have n:=Q1.mp c;rw[Qb n];exact z _ (Q4 n)
  refine⟨.bl (bs.all id),H,I.kept fun b G k=>E b G (fun J=>?_) (Qc _ k),by rw[e];rfl,q⟩;rw[Qn.mp J]at k;exact Q7 _ (Qq k)
theorem Ziw:YT X (.builtin "sorted") (fun xs H Q=>∃ (p:Addr) (ss:List Str),xs=[.ref p]∧SqL X.K H p (ss.map V.str)∧ss.length<64 ∧
  ∀ (l:Addr) (a:List Str),H l=none→a.Perm ss→sortedS a=true→Q (.ref l) (upd H l (.lst (a.map V.str)))):=by
 intro aa s σ H xs us Q I r h;obtain⟨p,ss,rfl,d,qM,q⟩:=h;obtain⟨u,rfl,f⟩:=Xy r;cases f;obtain⟨its,c,g,i⟩:=I.list d;have j:=c.length;rw[Qa]at j i;refine sorted_strs g.isList (Nr c) #[2] fun b a a1 a2 a3=>?_;obtain⟨e,k⟩:=sortedAll_at s.heap its b;have hp:=a2.length_eq;refine⟨.ref (s.heap.objs.size+1),_,I.laid (t':=s.toks) (o:=.lst (a.map V.str)) (fun _ _=>sortedAll_old) (QaN _) ⟨by rw[Qa];lia,b.toList,e,Nq a1,by simpa using k⟩,rfl,q _ a (I.hok.fresh (QaN _)) a2 a3⟩
theorem Zpv:MtR X "str.join" (fun x vs H Q=>∃ (sep:Str) (p:Addr) (ys:List Str),x=.str sep∧vs=[.ref p]∧SqL X.K H p (ys.map V.str)∧(ys.map (·.length)).sum+ys.length*sep.length≤16777216∧Q (.str (Txt.join sep ys)) H):=by intro aa s σ H x vs v us Q I a b h;obtain⟨sep,p,ys,rfl,rfl,c,d,q⟩:=h;obtain⟨t,rfl⟩:=a;obtain⟨u,rfl,e⟩:=b.one;cases e;obtain⟨its,f,g,_⟩:=I.list c;exact join_list g.isList (Nr f) d fun t' k=>⟨.str _,H,I.tok _,⟨_,rfl⟩,q⟩
theorem Zpx:OpR X (binaryOp .Mult) (fun x y H Q=>∃a n,x=.str a∧y=.int n∧0≤n∧n≤1000000∧(a.length:Int)*n≤1000000∧Q (.str (Txt.mul a n)) H):=by
 intro aa s σ H x y v u Q I d f h;obtain⟨a,n,rfl,rfl,g,i,h2,q⟩:=h;obtain⟨t,rfl⟩:=d;obtain⟨t',rfl⟩:=f;have j:a.length*n.toNat≤1000000:=by
  have e:((a.length*n.toNat:Nat):Int)=(a.length:Int)*n:=by rw[Int.natCast_mul,Int.toNat_of_nonneg g]
  lia
 refine PySem.P.mul_str ?_ (fun c1 c2=>?_) (fun c1 c2=>?_) ?_
 ·have l:decide (n < -(2 ^ 63:Int))=false:=decide_eq_false #[2];have c:decide (n≥2 ^ 63)=false:=decide_eq_false #[2];rw[l,c];rfl
 ·have m:(1:Int)≤n:=by lia
  have q1:(a.length:Int)*1≤(a.length:Int)*n:=Int.mul_le_mul_of_nonneg_left m (Int.natCast_nonneg _);have q2:(1000000:Int)≤(2 ^ 63-1) / n:=by rw[Int.le_ediv_iff_mul_le #[2]];have:(1000000:Int)*n≤1000000*1000000:=Int.mul_le_mul_of_nonneg_left i #[6];lia
  lia
 ·unfold Builtin.Str.tooLong;have o:sizeLine=16777216:=sizeLine_eq;exact decide_eq_false #[2]
 ·have e:Txt.mul a n=if n<1 then Str.empty else if (n == 1||a.length == 0)=true then a else ⟨(List.replicate n.toNat a.cps).foldl (·++·) #[]⟩:=rfl
  rw[e]at q;by_cases c1:n<1
  ·rw[if_pos c1]at q ⊢;exact⟨by decide,.str _,H,I.tok _,⟨_,rfl⟩,q⟩
  ·rw[if_neg c1]at q ⊢;by_cases c2:(n == 1||a.length == 0)=true
   ·rw[if_pos c2]at q ⊢;exact⟨.str _,H,I,⟨_,rfl⟩,q⟩
   ·rw[if_neg c2]at q ⊢;refine⟨?_,.str _,H,I.tok _,⟨_,rfl⟩,q⟩;have p:∀ (k:Nat) (b:Array Nat),((List.replicate k a.cps).foldl (·++·) b).size=b.size+k*a.cps.size:=by
     intro k;induction k with
     | zero=>intro b;simp
     | succ k r=>intro b;rw[List.replicate_succ,List.foldl_cons,r,Array.size_append,Nat.succ_mul];lia
    show ((List.replicate n.toNat a.cps).foldl (·++·) #[]).size≤sizeLine;rw[p];have c:a.cps.size=a.length:=rfl;have:n.toNat*a.cps.size≤1000000:=by rw[c,Nat.mul_comm];exact j
    have o:sizeLine=16777216:=sizeLine_eq;simp only[List.size_toArray,List.length_nil];lia
def Zr3:V→Option Int→Option Int→Hp→VK→Prop:=fun x lo a H Q=>∃z,x=.str z∧z.length≤sizeLine∧Q (.str (Txt.slice z lo a)) H
theorem Nm:SlR X Zr3:=by
 intro m s n H x v vl vu lo o sl Q I p b r e h;obtain⟨z,rfl,c,q⟩:=h;obtain⟨t,rfl⟩:=p;have a:∀f k,EP X m n Q (.str (Txt.slice z lo o) f) { s with toks:=k }:=fun f k=>⟨.str _,H,I.tok _,⟨_,rfl⟩,q⟩;refine⟨"str",_,PySem.F.slot_str_getitem.lookup,typeIs_str _ _ _,?_⟩;cases r with
 | none =>
  cases e with
  | none=>exact wpAny_getItem_str_slice (l:=none) (u:=none) (st:=none) b rfl (post_val_or_str ⟨Qv (Txt.slice_le z _ _) c,a⟩)
  | int j d=>exact wpAny_getItem_str_slice (l:=none) (u:=some (j,d)) (st:=none) b rfl (post_val_or_str ⟨Qv (Txt.slice_le z _ _) c,a⟩)
 | int i g =>
  cases e with
  | none=>exact wpAny_getItem_str_slice (l:=some (i,g)) (u:=none) (st:=none) b rfl (post_val_or_str ⟨Qv (Txt.slice_le z _ _) c,a⟩)
  | int j d=>exact wpAny_getItem_str_slice (l:=some (i,g)) (u:=some (j,d)) (st:=none) b rfl (post_val_or_str ⟨Qv (Txt.slice_le z _ _) c,a⟩)
end
inductive Src where
 | l (a:Addr)|t (a:Addr)|s (z:Str)
noncomputable def Src.val:Src→V
 | .l a=>.ref a
 | .t a=>.ref a
 | .s z=>.str z
noncomputable def Zon(c:Nat):V:=.str ⟨#[c]⟩
def Src.its(K:#[7])(H:Hp):Src→List V→Prop
 | .l a,xs=>SqL K H a xs
 | .t a,xs=>SqT K H a xs
 | .s z,xs=>xs=z.cps.toList.map Zon
def Src.at(h:Heap)(i:Addr):Src→Nat→Prop
 | .l a,k=>h.IsListIter i a k
 | .t a,k=>h.IsTupleIter i a k
 | .s z,k=>∃tk,h.IsStrIter i (strIterType z) z tk k
def Src.raw(h:Heap):Src→List Value→Prop
 | .l a,us=>h.IsList a us.toArray
 | .t a,us=>h.IsTuple a us.toArray
 | .s _,_=>True
def Src.fit:Src→List Value→Nat→Value→Prop
 | .l _,us,k,u=>us[k]? = some u
 | .t _,us,k,u=>us[k]? = some u
 | .s z,_,k,u=>∃c tk,z.cps[k]? = some c∧u=.str ⟨#[c]⟩ tk
noncomputable def Src.many:Src→List Value→Nat
 | .l _,us=>us.length
 | .t _,us=>us.length
 | .s z,_=>z.cps.size
def Src.off:Src→Addr→Prop
 | .l a,b=>a≠b
 | .t a,b=>a≠b
 | .s _,_=>True
theorem Src.at_obj{h:Heap}{i:Addr}:∀ {S:Src} {k:Nat},S.at h i k→∃o vs,h.get? i=some o∧o.data=.fields vs
 | .l _,_,⟨o,e,_,d⟩=>⟨o,_,e,d⟩
 | .t _,_,⟨o,e,_,d⟩=>⟨o,_,e,d⟩
 | .s _,_,⟨_,o,e,_,d⟩=>⟨o,_,e,d⟩
theorem Src.at_keep{h h':Heap}{i:Addr}(k':∀o,h.get? i=some o→h'.get? i=some o):∀ {S:Src} {k:Nat},S.at h i k→S.at h' i k
 | .l _,_,⟨o,e,d⟩=>⟨o,k' o e,d⟩
 | .t _,_,⟨o,e,d⟩=>⟨o,k' o e,d⟩
 | .s _,_,⟨tk,o,e,d⟩=>⟨tk,o,k' o e,d⟩
theorem Src.raw_keep{h h':Heap}{b:Addr}(k':∀c o,c≠b→h.get? c=some o→h'.get? c=some o):∀ {S:Src} {us:List Value},S.off b→S.raw h us→S.raw h' us
 | .l _,_,f,⟨o,e,d⟩=>⟨o,k' _ o f e,d⟩
 | .t _,_,f,⟨o,e,d⟩=>⟨o,k' _ o f e,d⟩
 | .s _,_,_,_=>trivial
section
variable {prog:Program} {w:World} {A:Around} {E:Value→Shared→Prop} {s:Shared}
theorem ZiT{it t:Addr}{i:Nat}{items:Array Value}{x:Value}{Q:Value→Shared→Prop}(c:s.heap.IsTupleIter it t i)(d:s.heap.IsTuple t items)(hx:items[i]? = some x)
  (e:∀h',h'.IsTupleIter it t (i+1)→Heap.SameBut it s.heap h'→Q x { s with heap:=h' }):wpAny (model prog w) A (Builtin.SmallTypes.nextOf (.ref it)) Q E s:=by
 obtain⟨o,b,f,a⟩:=id c;obtain⟨ol,g,_,nl,h⟩:=d;unfold Builtin.SmallTypes.nextOf;refine wpAny_bind (wpAny_callSpecial?_slot (name:=Str.ofString "__next__") c.typeIs F.slot_tuple_iterator_next
  (wpAny_call_entry F.slot_tuple_iterator_next c.typeIs F.entry_tuple_iterator_next ?_ (F.args_tuple_iterator_next_1 _)))
 show wpAny _ _ (field (.ref it) 0 >>= _) _ _ s;refine wpAny_bind (wpAny_field b a (x:=.ref t) rfl ?_);show wpAny _ _ (if (Value.ref t == Value.none)=true then _ else _) _ _ s;rw[if_neg (show ¬ ((Value.ref t == Value.none)=true) from Ql)];show wpAny _ _ (field (.ref it) 1 >>= _) _ _ s;refine wpAny_bind (wpAny_field b a (x:=.int i 0) rfl ?_);show wpAny _ _ (seqItems? (.ref t) >>= _) _ _ s;refine wpAny_bind (wpAny_seqItems g h ?_);simp only[Int.toNat_natCast,hx];refine wpAny_bind (wpAny_setField b a #[4] (wpAny_pure ⟨x,rfl,wpAny_pure (e _ ?_ (Heap.SameBut.update ..))⟩));exact⟨_,Heap.get?_update_self _ b (Obj.isFreed_of_fields (Obj.data_mapFields a _)),(Obj.cls_mapFields ..).trans f,by
  rw[Obj.data_mapFields a];simp[rawInt]⟩
theorem RL{i:Addr}{k:Nat}{us:List Value}{Q:Value→Shared→Prop}:∀ {S:Src},S.at s.heap i k→S.raw s.heap us→k<S.many us →
  (∀h' tk u,S.fit us k u→S.at h' i (k+1)→Heap.SameBut i s.heap h'→Q u { s with heap:=h',toks:=tk })→wpAny (model prog w) A (Builtin.SmallTypes.nextOf (.ref i)) Q E s
 | .l a,c,h,b,g=>wpAny_nextOf_list_item c h (x:=us[k]'b) (by rw[Qal];exact Qb b) fun h' d f=>g h' s.toks _ (Qb b) d f
 | .t a,c,h,b,g=>ZiT c h (x:=us[k]'b) (by rw[Qal];exact Qb b) fun h' d f=>g h' s.toks _ (Qb b) d f
 | .s z,⟨tk,c⟩,h,b,g=>by
  have j:z.cps[k]? = some z.cps[k]:=Array.getElem?_eq_getElem b;by_cases l:z.cps.all (·<128)=true
  ·have e:strIterType z = "str_ascii_iterator":=by unfold strIterType;rw[if_pos l]
   rw[e]at c;exact wpAny_nextOf_ascii_item c j fun h' d f=>g h' _ _ ⟨_,_,j,rfl⟩ ⟨tk,by rw[e];exact d⟩ f
  ·have e:strIterType z = "str_iterator":=by unfold strIterType;rw[if_neg l]
   rw[e]at c;exact wpAny_nextOf_wide_item c j fun h' d f=>g h' _ _ ⟨_,_,j,rfl⟩ ⟨tk,by rw[e];exact d⟩ f
theorem ZfD{it t:Addr}{i:Nat}{items:Array Value}{Q:Value→Shared→Prop}(f:A.handled=none)(b:s.heap.IsTupleIter it t i)(g:s.heap.IsTuple t items)(hx:items[i]? = none)
  (h:∀h' e,Heap.ExtBut it s.heap h'→(∃o,h'.get? e=some o∧o.cls=.type "StopIteration")→E (.ref e) { s with heap:=h' }):wpAny (model prog w) A (Builtin.SmallTypes.nextOf (.ref it)) Q E s:=by
 obtain⟨o,c,hc,d⟩:=id b;obtain⟨ol,j,_,nl,k⟩:=g;unfold Builtin.SmallTypes.nextOf;refine wpAny_bind (wpAny_callSpecial?_slot (name:=Str.ofString "__next__") b.typeIs F.slot_tuple_iterator_next
  (wpAny_call_entry F.slot_tuple_iterator_next b.typeIs F.entry_tuple_iterator_next ?_ (F.args_tuple_iterator_next_1 _)))
 show wpAny _ _ (field (.ref it) 0 >>= _) _ _ s;refine wpAny_bind (wpAny_field c d (x:=.ref t) rfl ?_);show wpAny _ _ (if (Value.ref t == Value.none)=true then _ else _) _ _ s;rw[if_neg (show ¬ ((Value.ref t == Value.none)=true) from Ql)];show wpAny _ _ (field (.ref it) 1 >>= _) _ _ s;refine wpAny_bind (wpAny_field c d (x:=.int i 0) rfl ?_);show wpAny _ _ (seqItems? (.ref t) >>= _) _ _ s;refine wpAny_bind (wpAny_seqItems j k ?_);simp only[Int.toNat_natCast,hx];refine wpAny_bind (wpAny_rule (wpAny_bind (wpAny_setField c d #[4] ?_)));show wpAny _ _ (newExc (.type "StopIteration") [] >>= _) _ _ _;refine wpAny_bind ?_;simp only[newExc,newTuple];refine wpAny_bind (wpAny_newObj_type ?_ (by size_fits));refine wpAny_bind (m:=firstArgMember _ _) (wpAny_of_eq (a:=Value.none) (by first|rfl|(simp only[firstArgMember];rfl)) ?_);refine wpAny_newObj_type ?_ (by size_fits);simp only[raiseNew];refine wpAny_bind (wpAny_handled ?_);first|rw[show A.in1.handled=none from f]|rw[f]
 refine wpAny_bind (wpAny_pure (wpAny_throw ?_));exact h _ _ (((Heap.SameBut.update ..).extBut.push _).push _) ⟨_,Qs _ rfl,rfl⟩
theorem Nl{i:Addr}{k:Nat}{us:List Value}{Q:Value→Shared→Prop}(f:A.handled=none):∀ {S:Src},S.at s.heap i k→S.raw s.heap us→S.many us≤k →
  (∀h' e,Heap.ExtBut i s.heap h'→(∃o,h'.get? e=some o∧o.cls=.type "StopIteration")→E (.ref e) { s with heap:=h' })→wpAny (model prog w) A (Builtin.SmallTypes.nextOf (.ref i)) Q E s
 | .l a,b,g,d,c=>wpAny_nextOf_list_end f b g (by rw[Qal];exact QN d) c
 | .t a,b,g,d,c=>ZfD f b g (by rw[Qal];exact QN d) c
 | .s z,⟨tk,b⟩,g,d,c=>by
  have h:z.cps[k]? = none:=Array.getElem?_eq_none d;by_cases j:z.cps.all (·<128)=true
  ·have e:strIterType z = "str_ascii_iterator":=by unfold strIterType;rw[if_pos j]
   rw[e]at b;exact wpAny_nextOf_ascii_end f b h c
  ·have e:strIterType z = "str_iterator":=by unfold strIterType;rw[if_neg j]
   rw[e]at b;exact wpAny_nextOf_wide_end f b h c
structure Tx (z TI TO i1 i2:Addr) (S1 S2:Src):Prop where
 TIz:TI≠z
 TOz:TO≠z
 i1z:i1≠z
 i2z:i2≠z
 TITO:TI≠TO
 TIi1:TI≠i1
 TIi2:TI≠i2
 TOi1:TO≠i1
 TOi2:TO≠i2
 i12:i1≠i2
 s1z:S1.off z
 s1TO:S1.off TO
 s1i1:S1.off i1
 s1i2:S1.off i2
 s2z:S2.off z
 s2TO:S2.off TO
 s2i1:S2.off i1
 s2i2:S2.off i2
theorem ZnE{z TI TO i1 i2:Addr}{S1 S2:Src}{k:Nat}{q r:List Value}{a b:Value}{Q:Option Value→Shared→Prop}(D:Tx z TI TO i1 i2 S1 S2)
  (g:IsZip s.heap z TI TO .none) (V:IsPair s.heap TI (.ref i1) (.ref i2)) (W:IsPair s.heap TO a b)
  (h1:S1.at s.heap i1 k) (h2:S2.at s.heap i2 k) (X:S1.raw s.heap q) (Y:S2.raw s.heap r) (Z:k<S1.many q) (m2:k<S2.many r)
  (hQ:∀h' tk x y,S1.fit q k x→S2.fit r k y→IsZip h' z TI TO (rawInt s.heap.objs.size)→IsPair h' TO x y→S1.at h' i1 (k+1)→S2.at h' i2 (k+1)→IsPair h' s.heap.objs.size x y→h'.objs.size=s.heap.objs.size+1 →
   (∀c o,c≠z→c≠TO→c≠i1→c≠i2→s.heap.get? c=some o→h'.get? c=some o)→Q (some (.ref s.heap.objs.size)) { s with heap:=h',toks:=tk }) :
  wpAny (model prog w) A (pyNext (.ref z)) Q E s:=by
 have L:s.TypeIs (.ref z) "zip":=⟨_,g,rfl⟩;unfold pyNext;refine wpAny_bind (wpAny_attempt (wpAny_callSpecial?_slot (name:=Str.ofString "__next__") L F.slot_zip_next (wpAny_call_entry F.slot_zip_next L F.entry_zip_next ?_ (F.args_zip_next_1 _))));show wpAny _ _ (field (.ref z) 2 >>= _) _ _ _;refine wpAny_bind (wpAny_field g rfl (x:=.bool false) rfl ?_);show wpAny _ _ (field (.ref z) 3 >>= _) _ _ _;refine wpAny_bind (wpAny_field g rfl (x:=.ref TI) rfl (wpAny_bind (wpAny_seqItems V rfl ?_)));show wpAny _ _ (Builtin.SmallTypes.ownedTupleIsFree (.ref z) >>= _) _ _ _;unfold Builtin.SmallTypes.ownedTupleIsFree;refine wpAny_bind (wpAny_bind (wpAny_field g rfl (x:=.none) rfl (wpAny_pure ?_)));simp only[if_true];refine wpAny_bind (wpAny_rule (wpAny_bind (wpAny_field g rfl (x:=.ref TO) rfl (wpAny_bind (wpAny_setField_rec g #[4] fun M v f=>?_)))));replace v:IsZip M z TI TO .ellipsis:=v;refine wpAny_bind ?_;simp only[List.zipIdx_cons,List.zipIdx_nil,List.forIn_cons,List.forIn_nil];refine wpAny_bind (wpAny_bind (wpAny_onRaise ?_));show wpAny _ _ (Builtin.SmallTypes.nextOf (.ref i1) >>= _) _ _ _;refine wpAny_bind (RL (S:=S1) (us:=q) (k:=k) (S1.at_keep (fun o e=>f.extBut _ o D.i1z e) h1) (S1.raw_keep (fun c o n e=>f.extBut c o n e) D.s1z X) Z fun B qP x fx my dD=>wpAny_pure ?_);have h:Heap.SameBut i1 M B:=dD;have N:IsPair B TO a b:=h.extBut _ _ D.TOi1 (f.extBut _ _ D.TOz W);refine wpAny_bind (wpAny_seqItems N rfl (wpAny_bind (wpAny_updateSeq_pair N fun C G fm=>wpAny_bind (wpAny_letGo (wpAny_pure ?_)))));replace G:IsPair C TO x b:=G;have i:Heap.SameBut TO B C:=fm;refine wpAny_bind (wpAny_bind (wpAny_onRaise ?_));show wpAny _ _ (Builtin.SmallTypes.nextOf (.ref i2) >>= _) _ _ _;refine wpAny_bind (RL (S:=S2) (us:=r) (k:=k)
  (S2.at_keep (fun o e=>i.extBut _ o D.TOi2.symm (h.extBut _ o D.i12.symm (f.extBut _ o D.i2z e))) h2)
  (S2.raw_keep (fun c o n e=>i.extBut c o n e) D.s2TO (S2.raw_keep (fun c o n e=>h.extBut c o n e) D.s2i1 (S2.raw_keep (fun c o n e=>f.extBut c o n e) D.s2z Y))) m2 fun H qQ y fy qR ig=>wpAny_pure ?_)
 have j:Heap.SameBut i2 C H:=ig;have O:IsPair H TO x b:=j.extBut _ _ D.TOi2 G;refine wpAny_bind (wpAny_seqItems O rfl (wpAny_bind (wpAny_updateSeq_pair O fun d t ij=>wpAny_bind (wpAny_letGo (wpAny_pure (wpAny_pure ?_))))));replace t:IsPair d TO x y:=t;have l:Heap.SameBut TO H d:=ij;refine wpAny_bind (wpAny_seqItems t rfl (wpAny_bind (wpAny_newTuple ?_)));have m:d.objs.size=s.heap.objs.size:=by rw[l.1,j.1,i.1,h.1,f.1]
 have P:IsZip d z TI TO .ellipsis:=l.extBut _ _ D.TOz.symm (j.extBut _ _ D.i2z.symm (i.extBut _ _ D.TOz.symm (h.extBut _ _ D.i1z.symm v)));have qS:∀c o,c≠z→c≠TO→c≠i1→c≠i2→s.heap.get? c=some o→d.get? c=some o:=fun c o c1 c2 c3 c4 e =>
  l.extBut _ _ c2 (j.extBut _ _ c4 (i.extBut _ _ c2 (h.extBut _ _ c3 (f.extBut _ _ c1 e))))
 have qT:S1.at d i1 (k+1):=S1.at_keep (fun o e=>l.extBut _ o D.TOi1.symm (j.extBut _ o D.i12 (i.extBut _ o D.TOi1.symm e))) my;have qU:S2.at d i2 (k+1):=S2.at_keep (fun o e=>l.extBut _ o D.TOi2.symm e) qR;have R:z<d.objs.size:=Qq P;show wpAny _ _ (Builtin.SmallTypes.ownedTupleHandOut (.ref z) (.ref d.objs.size) >>= _) _ _ _;refine wpAny_bind ?_;unfold Builtin.SmallTypes.ownedTupleHandOut;have qV:IsZip (d.push { cls:=.type "tuple",data:=.seq #[x,y] }) z TI TO .ellipsis:=Qc _ P;refine wpAny_bind (wpAny_setField_rec qV #[4] fun ur I J=>?_);replace I:IsZip ur z TI TO (rawInt d.objs.size):=I;refine wpAny_setField_rec I #[4] fun p u K=>?_;replace u:IsZip p z TI TO (rawInt d.objs.size):=u;have up:∀c o,c≠z→d.get? c=some o→p.get? c=some o:=fun c o c1 e=>K.extBut _ _ c1 (J.extBut _ _ c1 (Qc _ e));have T:IsPair p d.objs.size x y:=K.extBut _ _ (QY R) (J.extBut _ _ (QY R) (Qs _ rfl));have U:p.objs.size=d.objs.size+1:=by rw[K.1,J.1,Q8]
 rw[m]at u T U;refine wpAny_pure ⟨_,rfl,wpAny_pure ?_⟩;show Q (some (.ref d.objs.size)) _;rw[m];exact hQ p qQ x y fx fy u (up _ _ D.TOz t) (S1.at_keep (fun o e=>up _ o D.i1z e) qT) (S2.at_keep (fun o e=>up _ o D.i2z e) qU) T U fun c o c1 c2 c3 c4 e=>up c o c1 (qS c o c1 c2 c3 c4 e)
theorem ZmU{z TI TO i1 i2:Addr}{S1 S2:Src}{k:Nat}{h m:List Value}{a b:Value}{Q:Option Value→Shared→Prop}(C:A.handled=none)(D:Tx z TI TO i1 i2 S1 S2)
  (g:IsZip s.heap z TI TO .none) (O:IsPair s.heap TI (.ref i1) (.ref i2)) (P:IsPair s.heap TO a b)
  (h1:S1.at s.heap i1 k) (h2:S2.at s.heap i2 k) (G:S1.raw s.heap h) (R:S2.raw s.heap m) (U:S1.many h≤k∨S2.many m≤k)
  (V:∀h' tk,(∀c o,c≠z→c≠TO→c≠i1→c≠i2→s.heap.get? c=some o→h'.get? c=some o)→Q none { s with heap:=h',toks:=tk }) :
  wpAny (model prog w) A (pyNext (.ref z)) Q E s:=by
 have H:s.TypeIs (.ref z) "zip":=⟨_,g,rfl⟩;unfold pyNext;have done:∀ (h':Heap) (tk:Nat) (e:Addr),(∀c o,c≠z→c≠TO→c≠i1→c≠i2→s.heap.get? c=some o→h'.get? c=some o)→(∃o,h'.get? e=some o∧o.cls=.type "StopIteration") →
   wpAny (model prog w) A (do if (← isInstance (.ref e) (.type "StopIteration")) then pure none else throw (.ref e):Sem (Option Value)) Q E { s with heap:=h',toks:=tk }:=fun h' tk e W ⟨o,X,Y⟩=>
  wpAny_bind (wpAny_isInstance (T := "StopIteration") (b:=true) ⟨o,X,Y⟩ isSubtype_stop (wpAny_pure (V h' tk W)))
 refine wpAny_bind (wpAny_attempt (wpAny_callSpecial?_slot (name:=Str.ofString "__next__") H F.slot_zip_next (wpAny_call_entry F.slot_zip_next H F.entry_zip_next ?_ (F.args_zip_next_1 _))));show wpAny _ _ (field (.ref z) 2 >>= _) _ _ _;refine wpAny_bind (wpAny_field g rfl (x:=.bool false) rfl ?_);show wpAny _ _ (field (.ref z) 3 >>= _) _ _ _;refine wpAny_bind (wpAny_field g rfl (x:=.ref TI) rfl (wpAny_bind (wpAny_seqItems O rfl ?_)));show wpAny _ _ (Builtin.SmallTypes.ownedTupleIsFree (.ref z) >>= _) _ _ _;unfold Builtin.SmallTypes.ownedTupleIsFree;refine wpAny_bind (wpAny_bind (wpAny_field g rfl (x:=.none) rfl (wpAny_pure ?_)));simp only[if_true];refine wpAny_bind (wpAny_rule (wpAny_bind (wpAny_field g rfl (x:=.ref TO) rfl (wpAny_bind (wpAny_setField_rec g #[4] fun I p d=>?_)))));replace p:IsZip I z TI TO .ellipsis:=p;refine wpAny_bind ?_;simp only[List.zipIdx_cons,List.zipIdx_nil,List.forIn_cons,List.forIn_nil];refine wpAny_bind (wpAny_bind (wpAny_onRaise ?_));show wpAny _ _ (Builtin.SmallTypes.nextOf (.ref i1) >>= _) _ _ _;by_cases Z:k<S1.many h
 ·have m2:S2.many m≤k:=by rcases U with z'|z';lia;exact z'
  refine wpAny_bind (RL (S:=S1) (us:=h) (k:=k) (S1.at_keep (fun o e=>d.extBut _ o D.i1z e) h1) (S1.raw_keep (fun c o n e=>d.extBut c o n e) D.s1z G) Z fun i qP x fx my q=>wpAny_pure ?_);have j:Heap.SameBut i1 I i:=q;have J:IsPair i TO a b:=j.extBut _ _ D.TOi1 (d.extBut _ _ D.TOz P);refine wpAny_bind (wpAny_seqItems J rfl (wpAny_bind (wpAny_updateSeq_pair J fun u gi r=>wpAny_bind (wpAny_letGo (wpAny_pure ?_)))));have t:Heap.SameBut TO i u:=r;refine wpAny_bind (wpAny_bind (wpAny_onRaise ?_));show wpAny _ _ (Builtin.SmallTypes.nextOf (.ref i2) >>= _) _ _ _;refine wpAny_bind (Nl (S:=S2) (us:=m) (k:=k) C
   (S2.at_keep (fun o e=>t.extBut _ o D.TOi2.symm (j.extBut _ o D.i12.symm (d.extBut _ o D.i2z e))) h2)
   (S2.raw_keep (fun c o n e=>t.extBut c o n e) D.s2TO (S2.raw_keep (fun c o n e=>j.extBut c o n e) D.s2i1 (S2.raw_keep (fun c o n e=>d.extBut c o n e) D.s2z R))) m2 fun eQ e K v=>?_)
  obtain⟨y,f,l⟩:=v;have L:IsZip eQ z TI TO .ellipsis:=K _ _ D.i2z.symm (t.extBut _ _ D.TOz.symm (j.extBut _ _ D.i1z.symm p));have B:e≠z:=fun x=>by subst x;rw[L]at f;cases f;simp at l
  exact wpAny_setField_rec L #[4] fun be _ M=>done be _ e (fun c o c1 c2 c3 c4 x=>M.extBut _ _ c1 (K _ _ c4 (t.extBut _ _ c2 (j.extBut _ _ c3 (d.extBut _ _ c1 x))))) ⟨y,M.extBut _ _ B f,l⟩
 ·refine wpAny_bind (Nl (S:=S1) (us:=h) (k:=k) C (S1.at_keep (fun o e=>d.extBut _ o D.i1z e) h1) (S1.raw_keep (fun c o n e=>d.extBut c o n e) D.s1z G) #[2] fun i e q v=>?_);obtain⟨y,f,l⟩:=v;have N:IsZip i z TI TO .ellipsis:=q _ _ D.i1z.symm p;have B:e≠z:=fun x=>by subst x;rw[N]at f;cases f;simp at l
  exact wpAny_setField_rec N #[4] fun u _ r=>done u _ e (fun c o c1 _ c3 _ x=>r.extBut _ _ c1 (q _ _ c3 (d.extBut _ _ c1 x))) ⟨y,r.extBut _ _ B f,l⟩
end
noncomputable def Src.iter(tk:Tok):Src→Obj
 | .l a=>{ cls:=.type "list_iterator",data:=.fields #[.ref a,.int 0 0] }
 | .t a=>{ cls:=.type "tuple_iterator",data:=.fields #[.ref a,.int 0 0] }
 | .s z=>{ cls:=.type (strIterType z),data:=.fields #[.str z tk,.int 0 0] }
noncomputable def Src.value(tk:Tok):Src→Value
 | .l a=>.ref a
 | .t a=>.ref a
 | .s z=>.str z tk
theorem Src.iter_at{h:Heap}{i:Addr}{tk:Tok}:∀ {S:Src},h.get? i=some (S.iter tk)→S.at h i 0
 | .l _,e=>⟨_,e,rfl,rfl⟩
 | .t _,e=>⟨_,e,rfl,rfl⟩
 | .s _,e=>⟨tk,_,e,rfl,rfl⟩
theorem Src.pyIter{prog:Program}{w:World}{A:Around}{E:Value→Shared→Prop}{s:Shared}{tk:Tok}{us:List Value}{Q:Value→Shared→Prop}:∀ {S:Src},S.raw s.heap us →
  Q (.ref s.heap.objs.size) { s with heap:=s.heap.push (S.iter tk) }→wpAny (model prog w) A (pyIter (S.value tk)) Q E s
 | .l _,r,q=>wpAny_pyIter_list r q
 | .t _,r,q=>wpAny_pyIter_tuple r q
 | .s _,_,q=>wpAny_pyIter_strU q
theorem Src.raw_push{h:Heap}{ob:Obj}:∀ {S:Src} {us:List Value},S.raw h us→S.raw (h.push ob) us
 | .l _,_,⟨o,e,d⟩=>⟨o,Qc _ e,d⟩
 | .t _,_,⟨o,e,d⟩=>⟨o,Qc _ e,d⟩
 | .s _,_,_=>trivial
noncomputable abbrev zH1(h:Heap)(S1:Src)(a:Tok):Heap:=h.push (S1.iter a)
noncomputable abbrev zH2(h:Heap)(S1 S2:Src)(a b:Tok):Heap:=(zH1 h S1 a).push (S2.iter b)
noncomputable abbrev zH3(h:Heap)(S1 S2:Src)(a b:Tok):Heap:=(zH2 h S1 S2 a b).push { cls:=.type "tuple",data:=.seq #[.ref h.objs.size,.ref (zH1 h S1 a).objs.size] }
noncomputable abbrev zH4(h:Heap)(S1 S2:Src)(a b:Tok):Heap:=(zH3 h S1 S2 a b).push { cls:=.type "tuple",data:=.seq #[.none,.none] }
noncomputable abbrev zH5(h:Heap)(S1 S2:Src)(a b:Tok):Heap:=(zH4 h S1 S2 a b).push { cls:=.type "zip",data:=.fields #[.none,.bool false,.bool false,.ref (zH2 h S1 S2 a b).objs.size,.ref (zH3 h S1 S2 a b).objs.size] }
theorem Zo6(S1 S2:Src)(a e:Tok)(i j:List Value) :
  Meets (Builtin.«zip.__new__» ⟨[.type "zip",S1.value a,S2.value e],[]⟩) (fun _ R s=>S1.raw s.heap i∧S2.raw s.heap j ∧
   R (.ok (.ret (.ref (zH4 s.heap S1 S2 a e).objs.size))) { s with heap:=zH5 s.heap S1 S2 a e }) :=
 .of_wp fun b w A R s h=>by
  obtain⟨c,g,d,f,os⟩:=s;obtain⟨m,n,h⟩:=h;have BR:=sub_zip;have k:∀ {A:Around} {E:Value→Shared→Prop} {Q:Value→Shared→Prop},Q (.ref c.objs.size) ⟨zH1 c S1 a,g,d,f,os⟩→wpAny (model b w) A (pyIter (S1.value a)) Q E ⟨c,g,d,f,os⟩:=
   fun {A E Q} q=>Src.pyIter (s:=⟨c,g,d,f,os⟩) (us:=i) m q
  have l:∀ {A:Around} {E:Value→Shared→Prop} {Q:Value→Shared→Prop},Q (.ref (zH1 c S1 a).objs.size) ⟨zH2 c S1 S2 a e,g,d,f,os⟩→wpAny (model b w) A (pyIter (S2.value e)) Q E ⟨zH1 c S1 a,g,d,f,os⟩:=
   fun {A E Q} q=>Src.pyIter (s:=⟨zH1 c S1 a,g,d,f,os⟩) (us:=j) (S2.raw_push n) q
  generalize S1.value a=v1 at k ⊢;generalize S2.value e=v2 at l ⊢
  wp_walk using k,l
  exact⟨_,rfl,h⟩
section
variable {prog:Program} {w:World} {A:Around} {E:Value→Shared→Prop} {s:Shared}
theorem Znd{S1 S2:Src}{a b:Tok}{e f:List Value}{Q:Value→Shared→Prop}(m:S1.raw s.heap e)(n:S2.raw s.heap f)
  (h:∀h',IsZip h' (s.heap.objs.size+4) (s.heap.objs.size+2) (s.heap.objs.size+3) .none→IsPair h' (s.heap.objs.size+2) (.ref s.heap.objs.size) (.ref (s.heap.objs.size+1)) →
   IsPair h' (s.heap.objs.size+3) .none .none→S1.at h' s.heap.objs.size 0→S2.at h' (s.heap.objs.size+1) 0→h'.objs.size=s.heap.objs.size+5 →
   (∀c o,s.heap.get? c=some o→h'.get? c=some o)→Q (.ref (s.heap.objs.size+4)) { s with heap:=h' }) :
  wpAny (model prog w) A (call (.type "zip") [S1.value a,S2.value b]) Q E s:=by
 refine callType_new F.called_zip #[6] (F.typeCall_zip_2 _ _) (F.newCall_zip_2 _ _) (fun obj=>F.args_object_init_3 obj _ _) F.entry_zip_new (Zo6 S1 S2 a b e f) ⟨m,n,?_⟩;have z1:(zH1 s.heap S1 a).objs.size=s.heap.objs.size+1:=Q8 ..;have z2:(zH2 s.heap S1 S2 a b).objs.size=s.heap.objs.size+2:=by rw[Q8,z1]
 have z3:(zH3 s.heap S1 S2 a b).objs.size=s.heap.objs.size+3:=by rw[Q8,z2]
 have z4:(zH4 s.heap S1 S2 a b).objs.size=s.heap.objs.size+4:=by rw[Q8,z3]
 have z5:(zH5 s.heap S1 S2 a b).objs.size=s.heap.objs.size+5:=by rw[Q8,z4]
 have g:∀ (i:Tok) (S:Src),(S.iter i).isFreed=false:=fun i S=>by cases S<;>rfl
 have d:(zH5 s.heap S1 S2 a b).get? (zH4 s.heap S1 S2 a b).objs.size=some _:=Qs _ rfl;have j:(zH5 s.heap S1 S2 a b).get? (zH3 s.heap S1 S2 a b).objs.size=some _:=Qc _ (Qs _ rfl);have k:(zH5 s.heap S1 S2 a b).get? (zH2 s.heap S1 S2 a b).objs.size=some _:=Qc _ (Qc _ (Qs _ rfl));have l:(zH5 s.heap S1 S2 a b).get? (zH1 s.heap S1 a).objs.size=some (S2.iter b):=Qc _ (Qc _ (Qc _ (Qs _ (g _ _))));have p:(zH5 s.heap S1 S2 a b).get? s.heap.objs.size=some (S1.iter a):=Qc _ (Qc _ (Qc _ (Qc _ (Qs _ (g _ _)))));show _∧_;rw[z2,z3,z4]at d;rw[z1,z2]at k;rw[z3]at j;rw[z1]at l;rw[z4];exact⟨⟨_,d,rfl⟩,h _ d k j (Src.iter_at p) (Src.iter_at l) z5 fun c o x =>
  Qc _ (Qc _ (Qc _ (Qc _ (Qc _ x))))⟩
end
noncomputable def Itz(K:#[7])(S1 S2:Src):It :=
 ⟨fun i H=>∃a b,S1.its K H a∧S2.its K H b∧i<a.length∧i<b.length,
  fun i H v c=>∃p,H p=none∧v=.ref p∧∀a b,S1.its K H a→S2.its K H b→∀x y,a[i]? = some x→b[i]? = some y→c=upd H p (.tup [x,y]),
  fun i H=>∃a b,S1.its K H a∧S2.its K H b∧(a.length≤i∨b.length≤i)⟩
section
variable {X:Cx} {aa:List (Addr×Obj)} {σ:St} {H:Hp} {s:Shared}
theorem Inv.src(I:Inv X aa σ H s):∀ {S:Src} {xs:List V},S.its X.K H xs→∃us,S.raw s.heap us∧S.many us=xs.length∧∀k u x,S.fit us k u→xs[k]? = some x→ZL x u
 | .l a,xs,h=>by obtain⟨its,e,pl,_⟩:=I.list h;refine⟨its,pl.isList,e.length.symm,fun k u x f b=>?_⟩;obtain⟨g,d,r⟩:=e.get b;rw[show its[k]? = some u from f]at d;cases d;exact r
 | .t a,xs,h=>by obtain⟨its,e,pl,_⟩:=I.tuple h;refine⟨its,pl,e.length.symm,fun k u x f b=>?_⟩;obtain⟨g,d,r⟩:=e.get b;rw[show its[k]? = some u from f]at d;cases d;exact r
 | .s z,xs,h=>by
  refine⟨[],trivial,?_,fun k u x f b=>?_⟩
  ·rw[show xs=_ from h,Qa];simp[Src.many]
  ·obtain⟨c,i,d,j⟩:=f;subst j;rw[show xs=_ from h,Qo]at b;have l:z.cps.toList[k]? = some c:=by simpa using d
   rw[l]at b;cases b;exact⟨i,rfl⟩
theorem Inv.src_off(I:Inv X aa σ H s){b:Addr}(hb:Xz X aa H b):∀ {S:Src} {xs:List V},S.its X.K H xs→S.off b
 | .l a,xs,h=>by
  rcases h with(h|⟨ob,h⟩)|⟨o,its,n,hk,_⟩
  ·exact Zb h hb.1
  ·exact Zb h hb.1
  ·rintro rfl;have e:=I.ok.mod.kin a o hk;rcases hb.2.2.2.1 with z|z
   ·exact I.ok.noex a o e z
   ·exact absurd (QC (Qq e) (Qv I.ok.bsz z)) (Q7 _)
 | .t a,xs,h=>by
  rcases h with(h|⟨ob,h⟩)|⟨o,its,n,hk,_⟩
  ·exact Zb h hb.1
  ·exact Zb h hb.1
  ·rintro rfl;have e:=I.ok.mod.kin a o hk;rcases hb.2.2.2.1 with z|z
   ·exact I.ok.noex a o e z
   ·exact absurd (QC (Qq e) (Qv I.ok.bsz z)) (Q7 _)
 | .s z,xs,h=>trivial
theorem Inv.zipped{fp:List Addr}{h':Heap}{tk:Nat}{x y:V}{u v:Value}(I:Inv X aa σ H s)(g:∀b∈fp,Xz X aa H b)(k:ZL x u)(l:ZL y v)
  (hp:IsPair h' s.heap.objs.size u v) (Jc:∀b∈fp,∃o,h'.get? b=some o) (hk:∀c o,c ∉ fp→s.heap.get? c=some o→h'.get? c=some o) :
  Inv X aa σ (upd H s.heap.objs.size (.tup [x,y])) { s with heap:=h',toks:=tk }:=by
 have p:H s.heap.objs.size=none:=I.fresh;have ne:∀b a,s.heap.get? b=some a→b≠s.heap.objs.size:=fun b a e=>QB (Qq e);have h:∀b u,H b=some u→b≠s.heap.objs.size:=fun b u e=>Zb e p;have i:∀b u,H b=some u→b ∉ fp:=fun b u e d=>by rw[(g b d).1]at e;cases e
 refine I.step (g':=s.gens) (d':=s.drawn) (ch:=fp) (fun b d=>⟨(g b d).2.2.2.1,(g b d).2.1,(g b d).2.2.2.2.1,(g b d).2.2.2.2.2⟩)
  (fun b a _ _ f e _=>hk b a f e) (fun b a _ _ f e _=>⟨a.slots,hk b a f e⟩) (fun b a _ e n=>by rw[Zc (ne b a e)];exact n) (fun b a f e=>⟨a,hk b a f e⟩)
  (fun b t e=>by rw[Zc (h b _ e)];exact e) (fun b a u e=>by rw[Zc (h b _ e)];exact e) (fun b ps e=>⟨#[],by rw[Zc (h b _ e),e];simp⟩) (fun m w=>?_) (fun b j e=>?_) I.bare
 ·obtain⟨a,A,B,C,r⟩:=w;exact⟨a,A,B,hk _ a (fun z=>(g _ z).2.1 rfl) C,r⟩
 ·by_cases d:b=s.heap.objs.size
  ·subst d;rw[Zd]at e;cases e;exact⟨by show 2≤sizeLine;decide,[u,v],.cons k (.cons l .nil),⟨_,hp,rfl,_,rfl⟩⟩
  ·rw[Zc d]at e;refine(I.hok b j e).stay (fun c D f q=>hk c D ?_ q) (fun c q=>by rw[Zc (h c _ q)];exact q) fun c t q=>by rw[Zc (h c _ q)];exact q
   rcases f with z|z
   ·rw[z];exact i b j e
   ·exact i c _ z
end
theorem Zod{P:Program}{w:World}{K:#[7]}{bp:List Expr}{x1:Nat}{bG:Pos}{S1 S2:Src}{z TI TO i1 i2:Addr}
  (Q:TI≠z) (W:TO≠z) (Y:i1≠z) (Z:i2≠z) (d5:TI≠TO) (d6:TI≠i1) (d7:TI≠i2) (d8:TO≠i1) (d9:TO≠i2) (il:i1≠i2) :
  VZ P w K (.Tuple bp x1 bG) (Itz K S1 S2) [z,TI,TO,i1,i2] z
   (fun i h=>IsZip h z TI TO .none∧IsPair h TI (.ref i1) (.ref i2)∧(∃a b,IsPair h TO a b)∧S1.at h i1 i∧S2.at h i2 i) where
 mem:=by simp
 obj:=fun i h st b j=>by
  obtain⟨J,L,⟨a,b',M⟩,N,O⟩:=st;have nf:∀ {o:Obj} {A:Array Value},o.data=.fields A→∀v,o.data≠.cell v:=fun d v e=>by rw[d]at e;cases e
  simp only[List.mem_cons,List.not_mem_nil,or_false]at j;rcases j with rfl|rfl|rfl|rfl|rfl
  ·exact⟨_,J,nf rfl⟩
  ·exact⟨_,L,fun v e=>by cases e⟩
  ·exact⟨_,M,fun v e=>by cases e⟩
  ·obtain⟨o,A,e,d⟩:=Src.at_obj N;exact⟨o,e,nf d⟩
  ·obtain⟨o,A,e,d⟩:=Src.at_obj O;exact⟨o,e,nf d⟩
 keep:=fun i h R st k=>by obtain⟨J,L,⟨a,b',M⟩,N,O⟩:=st;exact⟨k z #[4] _ J,k TI #[4] _ L,⟨a,b',k TO #[4] _ M⟩,Src.at_keep (fun o e=>k i1 #[4] o e) N,Src.at_keep (fun o e=>k i2 #[4] o e) O⟩
 item:=by
  intro X hP hw hK f i aa s σ H E I g st hg;subst hP hw hK;obtain⟨J,L,⟨a,b',M⟩,N,O⟩:=st;obtain⟨xs,ys,B,C,l1,l2⟩:=hg;obtain⟨cJ,r1,m1,f1⟩:=I.src B;obtain⟨cY,r2,m2,f2⟩:=I.src C;have T:=g z #[4];have D:Tx z TI TO i1 i2 S1 S2:=⟨Q,W,Y,Z,d5,d6,d7,d8,d9,il,I.src_off T B,I.src_off (g TO #[4]) B,I.src_off (g i1 #[4]) B,I.src_off (g i2 #[4]) B,
   I.src_off T C,I.src_off (g TO #[4]) C,I.src_off (g i1 #[4]) C,I.src_off (g i2 #[4]) C⟩
  refine ZnE D J L M N O r1 r2 #[2] #[2] fun R tk x y fx fy a1 a2 a3 a4 a5 a6 a7=>?_;have rx:=f1 i x _ fx (Qb l1);have ry:=f2 i y _ fy (Qb l2);refine⟨_,rfl,wpAny_letOwnedTupleGo_zip a1 fun im pP i6=>?_⟩;have G:Heap.SameBut z R im:=i6;have pQ:IsPair R TI (.ref i1) (.ref i2):=a7 _ _ Q d5 d6 d7 L;have lt:∀ {b:Addr} {o:Obj},s.heap.get? b=some o→s.heap.objs.size≠b:=fun e=>QY (Qq e);have yO:s.heap.objs.size≠z:=lt J;have I2:Inv X aa σ (upd H s.heap.objs.size (.tup [xs[i],ys[i]])) { s with heap:=im,toks:=tk }:=by
   refine I.zipped (fp:=[z,TI,TO,i1,i2]) g rx ry (G.extBut _ _ yO a5) (fun b j=>?_) fun c o f e=>?_
   ·simp only[List.mem_cons,List.not_mem_nil,or_false]at j;rcases j with rfl|rfl|rfl|rfl|rfl
    ·exact⟨_,pP⟩
    ·exact⟨_,G.extBut _ _ Q pQ⟩
    ·exact⟨_,G.extBut _ _ W a2⟩
    ·obtain⟨o,A,e,_⟩:=Src.at_obj a3;exact⟨o,G.extBut _ _ Y e⟩
    ·obtain⟨o,A,e,_⟩:=Src.at_obj a4;exact⟨o,G.extBut _ _ Z e⟩
   ·simp only[List.mem_cons,List.not_mem_nil,or_false,not_or]at f;exact G.extBut _ _ f.1 (a7 c o f.1 f.2.2.1 f.2.2.2.1 f.2.2.2.2 e)
  refine⟨.ref s.heap.objs.size,_,I2,rfl,⟨s.heap.objs.size,I.fresh,rfl,fun yP fW w1 w2 x' y' e1 e2=>?_⟩,⟨pP,G.extBut _ _ Q pQ,⟨_,_,G.extBut _ _ W a2⟩,Src.at_keep (fun o e=>G.extBut _ o Y e) a3,Src.at_keep (fun o e=>G.extBut _ o Z e) a4⟩,fun b j=>?_⟩
  ·have same:∀ {S:Src} {us A:List V},S.its X.K H us→S.its X.K H A→us=A:=fun {S us A} p q=>by
    cases S with
    | l a=>exact I.list_inj p q
    | t a=>exact I.tuple_inj p q
    | s z=>rw[show us=_ from p,show A=_ from q]
   have e3:=same w1 B;have e4:=same w2 C;subst e3;subst e4;rw[Qb l1]at e1;rw[Qb l2]at e2;cases e1;cases e2;rfl
  ·rw[Zc (fun e=>by
    obtain⟨o,e1,_⟩:∃o,s.heap.get? b=some o∧True:=by
     simp only[List.mem_cons,List.not_mem_nil,or_false]at j;rcases j with rfl|rfl|rfl|rfl|rfl
     ·exact⟨_,J,trivial⟩
     ·exact⟨_,L,trivial⟩
     ·exact⟨_,M,trivial⟩
     ·obtain⟨o,A,e,_⟩:=Src.at_obj N;exact⟨o,e,trivial⟩
     ·obtain⟨o,A,e,_⟩:=Src.at_obj O;exact⟨o,e,trivial⟩
    exact lt e1 e.symm)]
   exact(g b j).1
 done:=by
  intro X hP hw hK f i aa s σ H E I g st hg;subst hP hw hK;obtain⟨J,L,⟨a,b',M⟩,N,O⟩:=st;obtain⟨xs,ys,B,C,l⟩:=hg;obtain⟨cJ,r1,m1,f1⟩:=I.src B;obtain⟨cY,r2,m2,f2⟩:=I.src C;have T:=g z #[4];have D:Tx z TI TO i1 i2 S1 S2:=⟨Q,W,Y,Z,d5,d6,d7,d8,d9,il,I.src_off T B,I.src_off (g TO #[4]) B,I.src_off (g i1 #[4]) B,I.src_off (g i2 #[4]) B,
   I.src_off T C,I.src_off (g TO #[4]) C,I.src_off (g i1 #[4]) C,I.src_off (g i2 #[4]) C⟩
  refine ZmU (I.ok.hd f) D J L M N O r1 r2 #[2] fun R tk hk=>⟨rfl,?_⟩;have U:∀c o,c ∉ [z,TI,TO,i1,i2]→s.heap.get? c=some o→R.get? c=some o:=fun c o f e=>by simp only[List.mem_cons,List.not_mem_nil,or_false,not_or]at f;exact hk c o f.1 f.2.2.1 f.2.2.2.1 f.2.2.2.2 e
  have mG:∀b u,H b=some u→b ∉ [z,TI,TO,i1,i2]:=fun b u e j=>by rw[(g b j).1]at e;cases e
  refine I.step (g':=s.gens) (d':=s.drawn) (ch:=[z,TI,TO,i1,i2]) (fun b j=>⟨(g b j).2.2.2.1,(g b j).2.1,(g b j).2.2.2.2.1,(g b j).2.2.2.2.2⟩)
   (fun b F _ _ f e _=>U b F f e) (fun b F _ _ f e _=>⟨F.slots,U b F f e⟩) (fun b F _ e n=>n) (fun b F f e=>⟨F,U b F f e⟩)
   (fun b xs e=>e) (fun b F u e=>e) (fun b ps e=>⟨#[],by rw[e];simp⟩) (fun m hm=>?_) (fun b ub e=>?_) I.bare
  ·obtain⟨F,es,ep,ho,r⟩:=hm;exact⟨F,es,ep,U _ F (fun z=>(g _ z).2.1 rfl) ho,r⟩
  ·refine(I.hok b ub e).stay (fun c w' f q=>U c w' ?_ q) (fun c q=>q) fun c xs q=>q;rcases f with z'|z'
   ·rw[z'];exact mG b ub e
   ·exact mG c _ z'
 self:=fun _ _ _ _ _ st h=>wpAny_pyIter_zip st.1 h
def Nk(K:#[7])(b:TA):TI:=fun c H R=>b c H fun vs a=>∃S1 S2 xs ys,vs=[Src.val S1,Src.val S2]∧S1.its K a xs∧S2.its K a ys∧R (Itz K S1 S2) a
theorem Zqp{X:Cx}{a b:Expr}{i:TA}{p pos:Pos}{A:List Expr}{B:Nat}{C:Pos}(D:Gl X "zip")(hm:X.mg "zip" = none)(ha:PA X [a,b] i)
  (E:starEach [a,b] X.env=[(false,eval a X.env),(false,eval b X.env)]:=by rfl) (j:starEach [b] X.env=[(false,eval b X.env)]:=by rfl) :
  PI X (.Tuple A B C) (.Call (.Name "zip" p) [a,b] [] pos) (Nk X.K i):=by
 intro k s m H R I h;refine Call_ (V0 I D hm boot_zip (Q6 (thn (ha pos k s m H _ I h) ?_) (by rw[E,j]) (by rw[j];rfl)));rintro us c ⟨vs,o,d,f,F⟩;obtain⟨S1,S2,xs,ys,e,G,J,q⟩:=F;subst e;obtain⟨u1,u2,rfl,K,L⟩:=f.two;have v:∀ {S:Src} {u:Value},ZL S.val u→∃g,u=S.value g:=fun {S u} r=>by
  cases S with
  | l a=>exact⟨0,r⟩
  | t a=>exact⟨0,r⟩
  | s z=>obtain⟨g,e⟩:=r;exact⟨g,e⟩
 obtain⟨t1,rfl⟩:=v K;obtain⟨t2,rfl⟩:=v L;obtain⟨cJ,f,m1,f1⟩:=d.src G;obtain⟨cY,M,m2,f2⟩:=d.src J;refine Znd f M fun N w O P a1 a2 a3 Q=>wpAny_pyIter_zip w ?_;have T:Inv X k m o { c with heap:=N }:=d.kept (t':=c.toks) Q;have n:=c.heap.objs.size;refine⟨_,_,_,_,o,rfl,T,Zod (S1:=S1) (S2:=S2) (z:=c.heap.objs.size+4) (TI:=c.heap.objs.size+2) (TO:=c.heap.objs.size+3) (i1:=c.heap.objs.size) (i2:=c.heap.objs.size+1)
  (QB (Qai #[6] _)) (QB (Qai #[6] _)) (QB (Qao #[6])) (QB (Qai #[6] _))
  (QB (Qai #[6] _)) (QY (Qao #[6])) (QY (Qai #[6] _)) (QY (Qao #[6]))
  (QY (Qai #[6] _)) (QB (Qao #[6])),⟨w,O,⟨_,_,P⟩,a1,a2⟩,fun b x=>?_,q⟩
 have y:c.heap.objs.size≤b:=by
  simp only[List.mem_cons,List.not_mem_nil,or_false]at x;rcases x with rfl|rfl|rfl|rfl|rfl
  ·exact QaD _ 4
  ·exact QaD _ 2
  ·exact QaD _ 3
  ·exact Qh _
  ·exact QaD _ 1
 exact d.fpOk y (d.hok.fresh y)
section
variable {X:Cx} (K:#[7])
theorem ixL(h:X.K=K:=by rfl):IxR X (NE K):=by subst h;exact Zpm
theorem ixT(h:X.K=K:=by rfl):IxR X (ND K):=by subst h;exact Zp9
theorem slL(h:X.K=K:=by rfl):SlR X (NA K):=by subst h;exact ZoR
def Zq7:List V→Hp→VK→Prop:=fun xs H Q=>∃p ys,xs=[.ref p]∧(SqL K H p ys∨SqT K H p ys)∧Q (.int ys.length) H
theorem Yv(h:X.K=K:=by rfl):YT X (.builtin "len") (Zq7 K):=by subst h;exact ZiD
theorem W4(h:X.K=K:=by rfl):YT X (.builtin "isinstance") (Np K):=by subst h;exact ZmW
theorem ZrP(h:X.K=K:=by rfl):YT X (.builtin "isinstance") (No K):=by subst h;exact Zmm
def Zrg:List V→Hp→VK→Prop:=fun xs H Q=>∃ (p:Addr) (bs:List Bool),xs=[.ref p]∧SqL K H p (bs.map V.bl)∧Q (.bl (bs.all id)) H
theorem Zsm(hc:X.calm=true:=by rfl)(h:X.K=K:=by rfl):YT X (.builtin "all") (Zrg K):=by subst h;exact Zm0 hc
def Zrq:List V→Hp→VK→Prop:=fun xs H Q=>∃ (p:Addr) (ss:List Str),xs=[.ref p]∧SqL K H p (ss.map V.str)∧ss.length<64 ∧
  ∀ (l:Addr) (a:List Str),H l=none→a.Perm ss→sortedS a=true→Q (.ref l) (upd H l (.lst (a.map V.str)))
theorem RK(h:X.K=K:=by rfl):YT X (.builtin "sorted") (Zrq K):=by subst h;exact Ziw
def ZrT:V→List V→Hp→VK→Prop:=fun x vs H Q=>∃ (sep:Str) (p:Addr) (ys:List Str),x=.str sep∧vs=[.ref p]∧SqL K H p (ys.map V.str)∧(ys.map (·.length)).sum+ys.length*sep.length≤16777216∧Q (.str (Txt.join sep ys)) H
theorem ZrB(h:X.K=K:=by rfl):MtR X "str.join" (ZrT K):=by subst h;exact Zpv
theorem iL{b l:Expr}{a:TE}(hl:PE X l a)(h:X.K=K:=by rfl):PI X b l (N6 K a):=by subst h;exact ZpA hl
theorem gT{a:List Expr}{k:Nat}{t:TGs}{n:Nat}{pos:Pos}(h:PGs X a t)(b:X.K=K:=by rfl)(hc:X.calm=true:=by rfl)
  (c:(assignEach a X.env).length=n:=by rfl) (d:(assignEach a X.env).findIdx? (·.1)=none:=by rfl):PG X (.Tuple a k pos) (N7 K n t):=by subst b;exact Zqx hc h c d
theorem iZ{a b:Expr}{c:TA}{p pos:Pos}{d:List Expr}{e:Nat}{f:Pos}(hm:X.mg "zip" = none)(ha:PA X [a,b] c)(g:Gl X "zip":=by rfl)(h:X.K=K:=by rfl)
  (i:starEach [a,b] X.env=[(false,eval a X.env),(false,eval b X.env)]:=by rfl) (j:starEach [b] X.env=[(false,eval b X.env)]:=by rfl) :
  PI X (.Tuple d e f) (.Call (.Name "zip" p) [a,b] [] pos) (Nk K c):=by subst h;exact Zqp g hm ha i j
end
structure Df (P:Program) (w:World) (K:#[7]) (mg:Str→Option Value) (base:Heap) (k:Nat) (x:Str) (ps:List Str) (sp:Sp):Prop where
 ex:∃f fd,X2 P w K mg base CX0 k f fd ps sp∧mg x=some (.ref f)∧PySem.W.keepIn K (.ref f)=true∧XQ K fd ps []
section
variable {P:Program} {w:World} {K:#[7]} {mg:Str→Option Value} {base:Heap}
structure Top (K:#[7]) (mg:Str→Option Value) (x:Str) (st:Stmt) (ps:List Str):Prop where
 ex:∃f fd,Fun K x x st f fd∧mg x=some (.ref f)∧XQ K fd ps []
theorem Top.df{x:Str}{st:Stmt}{N ps:List Str}{k:Nat}{sp:Sp}(T:Top K mg x st ps)(S:Zs N ps (Zg st))(len:∀vs H Q E,sp vs H Q E→vs.length=ps.length)
  (c:∀ (a:Value) (f:Addr) (A:Around) (outer:List Env) (s:Shared) (H:Hp) (vs:List V) (Q:VK) (E:XK),Y2 k (A.deeper (envOfC x (Zg st) s.heap.objs.size f a))→sp vs H Q E →
   ∃t,PSs (WD CX0 P w K mg base N x (Zg st) f a A outer s H E).nox (Zo st) t∧t { nx:=fun _ H'=>Q .non H',rt:=Q } (Xb N vs) H):Df P w K mg base (k+1) x ps sp:=by
 obtain⟨f,d,F,m,b⟩:=T.ex;exact⟨f,d,F.ok S len (fun a A outer s H vs Q E e h=>c a f A outer s H vs Q E e h),m,F.kp,b⟩
end
section
variable {X:Cx} {k j:Nat} {x:Str} {ps:List Str} {sp:Sp} {e:Expr} {es:List Expr} {t:TA} {p pos:Pos}
theorem ZB(F:Df X.prog X.w X.K X.mg X.base k x ps sp)(a:Y2 j X.A)(ha:PA X (e::es) t)(c:k≤j:=by decide)(d:Gl X x:=by rfl)(g:(x == ("__debug__" : Str))=false:=by decide)
  (h:starEach (e::es) X.env=(false,eval e X.env)::starEach es X.env:=by rfl) (i:(backTo pos (starEach es X.env)).any (·.1)=false:=by rfl) :
  PE X (.Call (.Name x p) (e::es) [] pos) (NO sp [] E0 t):=by
 obtain⟨f,fd,F,m,l,b⟩:=F.ex;exact Zop F (a.mono c) d m l b .nil TD ha g h i
theorem XJ{T:String}(hm:X.mg x=none)(a:bootBuiltins x=some (.type T))(b:Gl X x:=by rfl)(c:x ≠ "__name__":=by decide)(hd:(x == ("__debug__" : Str))=false:=by decide):PE X (.Name x pos) (tC (.ty T)) :=
 ZoF b hm a rfl c hd
end
theorem RJ{lo:Int}{n k:Nat}{D:Addr}{a:St}{c:Hp}{g:TG}{d:TE}{Q:VK}(Pv:Nat→List V→St→Hp→Prop)(h0:Pv 0 [] (a++List.replicate k none) (upd c D (.lst [])))
  (j:∀i ys a H,i<n→Pv i ys a H→g (.int (lo+i)) a H fun f l=>d f l fun y h=>h D=some (.lst ys)∧ys.length<sizeLine∧Pv (i+1) (ys++[y]) f (upd h D (.lst (ys++[y]))))
  (hd:∀ys a H,Pv n ys a H→Q (.ref D) H):VN (Itr lo n) D k a c g VO d Q:=by
 refine⟨fun i m ys a H=>m=n-i∧i≤n∧Pv i ys a H,⟨n,by simp,Qx _,h0⟩,?_⟩;rintro i m ys a H ⟨rfl,hi,p⟩;by_cases b:i<n
 ·refine .inr ⟨b,Pv (i+1),fun fW aj o q=>⟨n-(i+1),by lia,rfl,b,q⟩,fun x o y=>?_⟩;obtain⟨e,y⟩:=y;subst e y;simp only[VO,↓reduceIte];exact j i ys a _ b p
 ·have e:i=n:=by lia
  subst e;exact .inl ⟨Qh _,hd ys a H p⟩
theorem Nj{K:#[7]}{S1 S2:Src}{xs ys:List V}{k:Nat}{D:Addr}{a:St}{d:Hp}{g:TG}{f:TE}{Q:VK}(Pv:Nat→List V→St→Hp→Prop)(h0:Pv 0 [] (a++List.replicate k none) (upd d D (.lst [])))
  (hl:∀i zs a H,Pv i zs a H→S1.its K H xs∧S2.its K H ys)
  (l:∀i zs a H x y p,xs[i]? = some x→ys[i]? = some y→Pv i zs a H→H p=none→g (.ref p) a (upd H p (.tup [x,y])) fun h n=>f h n fun z j=>j D=some (.lst zs)∧zs.length<sizeLine∧Pv (i+1) (zs++[z]) h (upd j D (.lst (zs++[z]))))
  (hd:∀zs a H,Pv (min xs.length ys.length) zs a H→Q (.ref D) H):VN (Itz K S1 S2) D k a d g VO f Q:=by
 refine⟨fun i m zs a H=>m=min xs.length ys.length-i∧i≤min xs.length ys.length∧Pv i zs a H,⟨min xs.length ys.length,by simp,Qx _,h0⟩,?_⟩;rintro i m zs a H ⟨rfl,hi,p⟩;obtain⟨b,c⟩:=hl i zs a H p;by_cases o:i<min xs.length ys.length
 ·have l1:i<xs.length:=by lia
  have l2:i<ys.length:=by lia
  refine .inr ⟨⟨xs,ys,b,c,l1,l2⟩,Pv (i+1),fun fW aj q s=>⟨min xs.length ys.length-(i+1),by lia,rfl,o,s⟩,fun x q y=>?_⟩;obtain⟨r,t,rfl,e⟩:=y;have u:=e xs ys b c _ _ (Qb l1) (Qb l2);subst u;simp only[VO,↓reduceIte];exact l i zs a H _ _ r (Qb l1) (Qb l2) p t
 ·have e:i=min xs.length ys.length:=by lia
  refine .inl ⟨⟨xs,ys,b,c,by lia⟩,hd zs a H (e ▸ p)⟩
section
variable {X:Cx} {N N':List Str} {o c:Scope} {x:Str} {pos:Pos} {C:Addr} {s:Shared} {H:Hp} {fp:List Addr}
theorem RI(S:YM N N' o c)(a:X.env.scope=o)(hl:c.names.lookup x=some .local):(YN X c N' C s H fp).env.scope.names.lookup x=some .local:=by have e:=UJ (X:=X) S a (Y4 X.env.cells c.names []) C x;rw[hl]at e;exact e
theorem Tw(S:YM N N' o c)(a:X.env.scope=o)(hl:c.names.lookup x=some .globalImplicit):Gl (YN X c N' C s H fp) x:=by have e:=UJ (X:=X) S a (Y4 X.env.cells c.names []) C x;rw[hl]at e;exact e
theorem ZnH(S:YM N N' o c)(b:X.env.scope=o)(hl:c.names.lookup x=some .free):Vis (YN X c N' C s H fp).env.scope x:=by
 have e:=UJ (X:=X) S b (Y4 X.env.cells c.names []) C x;rw[hl]at e;have a:(YN X c N' C s H fp).env.scope.names.lookup x=if X.env.kindOf x=some .cell then some NameKind.cell else some NameKind.free:=e
 by_cases z:X.env.kindOf x=some .cell
 ·rw[if_pos z]at a;exact .inr (.inl a)
 ·rw[if_neg z]at a;exact .inr (.inr a)
theorem cv(i:Nat)(S:YM N N' o c)(a:X.env.scope=o)(hl:c.names.lookup x=some .free)(b:N'[i]? = some x:=by rfl)(hd:(x == ("__debug__" : Str))=false:=by decide)(d:(x == ("__classdict__" : Str))=false:=by decide) :
  PE (YN X c N' C s H fp) (.Name x pos) (TU i):=Sc b (ZnH S a hl) hd d
theorem cw(i:Nat)(S:YM N N' o c)(a:X.env.scope=o)(hl:c.names.lookup x=some .local)(b:N'[i]? = some x:=by rfl)(hd:(x == ("__debug__" : Str))=false:=by decide)(d:(x == ("__classdict__" : Str))=false:=by decide) :
  PE (YN X c N' C s H fp) (.Name x pos) (TU i):=Sc b (.inl (RI S a hl)) hd d
theorem cg(i:Nat)(S:YM N N' o c)(a:X.env.scope=o)(hl:c.names.lookup x=some .local)(b:N'[i]? = some x:=by rfl):PG (YN X c N' C s H fp) (.Name x pos) (TQ i) :=
 ZD S.nd b (.inl (RI S a hl)) (.inr (RI S a hl))
end
mutual
inductive DV (K:#[7]) (H:Hp):V→PyData→Prop where
 | non:DV K H .non .none
 | bl (b:Bool):DV K H (.bl b) (.bool b)
 | int (i:Int):DV K H (.int i) (.int i)
 | str (s:Str):DV K H (.str s) (.str s)
 | lst {a:Addr} {xs:List V} {ds:List PyData}:SqL K H a xs→DVs K H xs ds→DV K H (.ref a) (.list ds)
 | tup {a:Addr} {xs:List V} {ds:List PyData}:SqT K H a xs→DVs K H xs ds→DV K H (.ref a) (.tuple ds)
inductive DVs (K:#[7]) (H:Hp):List V→List PyData→Prop where
 | nil:DVs K H [] []
 | cons {x:V} {d:PyData} {xs:List V} {ds:List PyData}:DV K H x d→DVs K H xs ds→DVs K H (x::xs) (d::ds)
end
section
variable {X:Cx} {aa:List (Addr×Obj)} {σ:St} {H:Hp} {s:Shared}
mutual
theorem Inv.reads(I:Inv X aa σ H s):∀ {x:V} {d:PyData} {u:Value},DV X.K H x d→ZL x u→∃a,Reads s.heap u d a
 | _,_,_,.non,r=>by cases r;exact⟨_,.none⟩
 | _,_,_,.bl b,r=>by cases r;exact⟨_,.bool b⟩
 | _,_,_,.int i,r=>by obtain⟨t,rfl⟩:=r;exact⟨_,.int i t⟩
 | _,_,_,.str z,r=>by obtain⟨t,rfl⟩:=r;exact⟨_,.str z t⟩
 | _,_,_,.lst h c,r=>by cases r;obtain⟨its,f,⟨o,n,e,g,_,j⟩,_⟩:=I.list h;obtain⟨a,q⟩:=Inv.readsAll I c f;exact⟨_,reads_list_at e g j (by simpa using q)⟩
 | _,_,_,.tup h c,r=>by cases r;obtain⟨its,f,⟨o,e,g,n,j⟩,_⟩:=I.tuple h;obtain⟨a,q⟩:=Inv.readsAll I c f;exact⟨_,reads_tuple_at e g j (by simpa using q)⟩
theorem Inv.readsAll(I:Inv X aa σ H s):∀ {xs:List V} {ds:List PyData} {us:List Value},DVs X.K H xs ds→ZJ xs us→∃a,ReadsAll s.heap us ds a
 | _,_,_,.nil,r=>by cases r;exact⟨_,.nil⟩
 | _,_,_,.cons h b,r=>by
  cases r with
  | cons c d=>obtain⟨a,e⟩:=Inv.reads I h c;obtain⟨bs,f⟩:=Inv.readsAll I b d;exact⟨_,.cons e f⟩
end
def Tv(K:#[7])(a:Bool):R2:=fun x y H Q=>∃d e,DV K H x d∧DV K H y e∧SeqAt.shaped d=true∧SeqAt.shaped e=true∧Q (.bl (if a then !PyData.eqv d e else PyData.eqv d e)) H
theorem ZqQ(hu:X.A.units+64<cLine):OpR X (compareOp .Eq) (Tv X.K false):=by intro aa s σ H x y v u Q I a b h;obtain⟨d,e,c,f,g,i,q⟩:=h;obtain⟨as,j⟩:=I.reads c a;obtain⟨bs,k⟩:=I.reads f b;exact eq_dataH j k g i hu ⟨.bl _,H,I,rfl,q⟩
theorem ZqA(hu:X.A.units+64<cLine):OpR X (compareOp .NotEq) (Tv X.K true):=by intro aa s σ H x y v u Q I a b h;obtain⟨d,e,c,f,g,i,q⟩:=h;obtain⟨as,j⟩:=I.reads c a;obtain⟨bs,k⟩:=I.reads f b;exact ne_dataH j k g i hu ⟨.bl _,H,I,rfl,q⟩
end
theorem eqD{X:Cx}(K:#[7]){k:Nat}(a:Y2 k X.A)(h:X.K=K:=by rfl):OpR X (compareOp .Eq) (Tv K false):=by subst h;exact ZqQ a.units
theorem neD{X:Cx}(K:#[7]){k:Nat}(a:Y2 k X.A)(h:X.K=K:=by rfl):OpR X (compareOp .NotEq) (Tv K true):=by subst h;exact ZqA a.units
mutual
theorem DV.mono{K:#[7]}{H H':Hp}(s:ZG H H'):∀ {x:V} {d:PyData},DV K H x d→DV K H' x d
 | _,_,.non=>.non
 | _,_,.bl b=>.bl b
 | _,_,.int i=>.int i
 | _,_,.str z=>.str z
 | _,_,.lst h a=>.lst (s.seq h) (DVs.mono s a)
 | _,_,.tup h a=>.tup (by
   rcases h with(h|⟨ob,h⟩)|h
   ·exact .inl (.inl (s _ _ h))
   ·exact .inl (.inr ⟨ob,s _ _ h⟩)
   ·exact .inr h) (DVs.mono s a)
theorem DVs.mono{K:#[7]}{H H':Hp}(s:ZG H H'):∀ {xs:List V} {ds:List PyData},DVs K H xs ds→DVs K H' xs ds
 | _,_,.nil=>.nil
 | _,_,.cons h a=>.cons (DV.mono s h) (DVs.mono s a)
end
noncomputable def Ite(K:#[7])(a:Addr):It :=
 ⟨fun i H=>∃b,SqL K H a b∧i<b.length,
  fun i H v c=>∃p,H p=none∧v=.ref p∧∀b,SqL K H a b→∀x,b[i]? = some x→c=upd H p (.tup [.int i,x]),
  fun i H=>∃b,SqL K H a b∧b.length≤i⟩
theorem ZlV{P:Program}{w:World}{K:#[7]}{Q:List Expr}{R:Nat}{S:Pos}{a e it:Addr}(F:e≠it) :
  VZ P w K (.Tuple Q R S) (Ite K a) [e,it] e (fun i h=>(∃l,IsEnum h e it i l)∧h.IsListIter it a i) where
 mem:=by simp
 obj:=fun i h st b d=>by
  obtain⟨⟨l,f⟩,o,g,j,T⟩:=st;simp only[List.mem_cons,List.not_mem_nil,or_false]at d;rcases d with rfl|rfl
  ·exact⟨_,f,fun v z=>by cases z⟩
  ·exact⟨o,g,fun v z=>by rw[T]at z;cases z⟩
 keep:=fun i h p st k=>by obtain⟨⟨l,f⟩,g⟩:=st;exact⟨⟨l,k e #[4] _ f⟩,g.at fun o q=>k it #[4] o q⟩
 item:=by
  intro X r hw t j i G s J H E I m st y;subst r hw t;obtain⟨⟨l,f⟩,g⟩:=st;obtain⟨L,n,l1⟩:=y;obtain⟨its,A,B,_⟩:=I.list n;obtain⟨u,U,V⟩:=A.get (Qb l1);refine wpAny_pyNext_enum_item f g B.isList (x:=u) (by simpa using U) F fun p a1 a2 a3 a4 a5=>?_;have lt:∀ {b:Addr} {o:Obj},s.heap.get? b=some o→s.heap.objs.size≠b:=fun q=>QY (Qq q);have W:s.heap.objs.size≠e:=lt f;refine⟨_,rfl,wpAny_letOwnedTupleGo_enum a1 fun C M Y=>?_⟩;have D:Heap.SameBut e p C:=Y;have N:C.IsListIter it a (i+1):=a2.extBut D.extBut F.symm;have Z:Inv X G J (upd H s.heap.objs.size (.tup [.int i,L[i]])) { s with heap:=C,toks:=s.toks+1 }:=by
   refine I.zipped (fp:=[e,it]) (u:=.int i s.toks) (v:=u) m ⟨_,rfl⟩ V (D.extBut _ _ W a3) (fun b d=>?_) fun c o j q=>?_
   ·simp only[List.mem_cons,List.not_mem_nil,or_false]at d;rcases d with rfl|rfl
    ·exact⟨_,M⟩
    ·obtain⟨o,q,_⟩:=N;exact⟨o,q⟩
   ·simp only[List.mem_cons,List.not_mem_nil,or_false,not_or]at j;exact D.extBut _ _ j.1 (a5 c o j.1 j.2 q)
  refine⟨.ref s.heap.objs.size,_,Z,rfl,⟨s.heap.objs.size,I.fresh,rfl,fun yP w1 x' O=>?_⟩,⟨⟨_,M⟩,N⟩,fun b d=>?_⟩
  ·have e3:=I.list_inj w1 n;subst e3;rw[Qb l1]at O;cases O;rfl
  ·rw[Zc (fun z=>by
    obtain⟨o,q⟩:∃o,s.heap.get? b=some o:=by
     simp only[List.mem_cons,List.not_mem_nil,or_false]at d;rcases d with rfl|rfl
     ·exact⟨_,f⟩
     ·obtain⟨o,q,_⟩:=g;exact⟨o,q⟩
    exact lt q z.symm)]
   exact(m b d).1
 done:=by intro X r hw t j i G s J H E I m st y;subst r hw t;obtain⟨⟨l,f⟩,g⟩:=st;obtain⟨L,n,l1⟩:=y;obtain⟨its,A,B,_⟩:=I.list n;obtain⟨f0,f1,f2,f3,f4,f5⟩:=m it #[4];have hl:=A.length;exact wpAny_pyNext_enum_end (I.ok.hd j) f g B.isList (by rw[Qal];exact QN #[2]) fun p eb=>⟨rfl,I.turned (t':=s.toks) (fun b o d q=>eb b o d q) f0 f1 f3 f4 f5⟩
 self:=fun _ _ _ _ _ st h=>by obtain⟨⟨l,f⟩,_⟩:=st;exact wpAny_pyIter_enum f h
def Ni(K:#[7])(c:TA):TI:=fun d H R=>c d H fun vs b=>∃a xs,vs=[V.ref a]∧SqL K b a xs∧R (Ite K a) b
theorem ZoM{X:Cx}{l:Expr}{f:TA}{p pos:Pos}{o:List Expr}{r:Nat}{t:Pos}(v:Gl X "enumerate")(hm:X.mg "enumerate" = none)(ha:PA X [l] f)
  (w:starEach [l] X.env=[(false,eval l X.env)]:=by rfl):PI X (.Tuple o r t) (.Call (.Name "enumerate" p) [l] [] pos) (Ni X.K f):=by
 intro g s i H R I h;refine Call_ (V0 I v hm boot_enumerate (Q6 (thn (ha pos g s i H _ I h) ?_) w rfl));rintro us c ⟨vs,j,d,x,y⟩;obtain⟨a,xs,e,z,q⟩:=y;subst e;obtain⟨u,rfl,A⟩:=x.one;cases A;obtain⟨its,rv,B,_⟩:=d.list z;refine call_enumerate_list B.isList fun C k D hsz E=>wpAny_pyIter_enum k ?_;have F:Inv X g i j { c with heap:=C }:=d.kept (t':=c.toks) E;refine⟨_,_,_,_,j,rfl,F,ZlV (a:=a) (e:=c.heap.objs.size+1) (it:=c.heap.objs.size) (QY (Nat.lt_succ_self _)),⟨⟨_,k⟩,D⟩,fun b m=>?_,q⟩;have n:c.heap.objs.size≤b:=by
  simp only[List.mem_cons,List.not_mem_nil,or_false]at m;rcases m with rfl|rfl
  ·exact QaD _ 1
  ·exact Qh _
 exact d.fpOk n (d.hok.fresh n)
theorem iE{X:Cx}(K:#[7]){l:Expr}{a:TA}{p pos:Pos}{b:List Expr}{c:Nat}{d:Pos}(hm:X.mg "enumerate" = none)(ha:PA X [l] a)(e:Gl X "enumerate":=by rfl)(f:X.K=K:=by rfl)
  (g:starEach [l] X.env=[(false,eval l X.env)]:=by rfl):PI X (.Tuple b c d) (.Call (.Name "enumerate" p) [l] [] pos) (Ni K a):=by subst f;exact ZoM e hm ha g
theorem RH{K:#[7]}{a:Addr}{xs:List V}{g:TG}{l:TS}{D:Xm}{b:St}{H:Hp}(Pv:Nat→St→Hp→Prop)(h0:Pv 0 b H)(hl:∀i b H,Pv i b H→SqL K H a xs)
  (o:∀i x b H p,xs[i]? = some x→Pv i b H→H p=none→g (.ref p) b (upd H p (.tup [.int i,x])) fun f h=>l { D with nx:=Pv (i+1),ct:=Pv (i+1),bk:=D.nx } f h) (hd:∀b H,Pv xs.length b H→D.nx b H) :
  ∃W:Nat→Nat→St→Hp→Prop,(∃m,W 0 m b H)∧∀i m b H,W i m b H →
   ((Ite K a).stop i H∧D.nx b H)∨((Ite K a).go i H∧∃N:St→Hp→Prop,(∀j c,N j c→∃n,n<m∧W (i+1) n j c)∧∀x c,(Ite K a).yld i H x c→g x b c fun f h=>l { D with nx:=N,ct:=N,bk:=D.nx } f h):=by
 refine⟨fun i m b H=>m=xs.length-i∧i≤xs.length∧Pv i b H,⟨xs.length,by simp,Qx _,h0⟩,?_⟩;rintro i m b H ⟨rfl,hi,p⟩;have k:=hl i b H p;by_cases d:i<xs.length
 ·refine .inr ⟨⟨xs,k,d⟩,Pv (i+1),fun j c q=>⟨xs.length-(i+1),by lia,rfl,d,q⟩,fun x c y=>?_⟩;obtain⟨r,s,rfl,e⟩:=y;have t:=e xs k _ (Qb d);subst t;exact o i _ b H r (Qb d) p s
 ·have e:i=xs.length:=by lia
  exact .inl ⟨⟨xs,k,by lia⟩,hd b H (e ▸ p)⟩
def Zq0(K:#[7]):List V→Hp→VK→Prop:=fun xs H Q=>∃p ys,xs=[.ref p]∧(SqL K H p ys∨SqT K H p ys)∧∀l,H l=none→Q (.ref l) (upd H l (.lst ys))
theorem Vk{X:Cx}(K:#[7])(h:X.K=K:=by rfl):YT X (.type "list") (Zq0 K):=by subst h;exact ZiN
section
variable {prog:Program} {w:World} {A:Around} {E:Value→Shared→Prop} {s:Shared}
theorem Nh{it t:Addr}{items:Array Value}(c:t≠it):∀ (n i:Nat) (s:Shared) (Q:List Value→Shared→Prop),s.heap.IsListIter it t i→s.heap.IsList t items→i+n≤items.size →
  (∀h',h'.IsListIter it t (i+n)→Heap.SameBut it s.heap h'→Q ((items.toList.drop i).take n) { s with heap:=h' })→wpAny (model prog w) A (draw (.ref it) n) Q E s
 | 0,i,s,Q,a,_,_,b=>by show wpAny _ _ (pure []) Q E s;exact wpAny_pure (by simpa using b s.heap a (Heap.SameBut.refl ..))
 | n+1,i,s,Q,a,d,kZ,b=>by
  have e:i<items.size:=by lia
  show wpAny _ _ (pyNext (.ref it) >>= _) Q E s;refine wpAny_bind (wpAny_pyNext_list_item a d (x:=items[i]) (by simp[e]) fun ax g f=>?_);refine wpAny_bind (wpAny_holding (Nh c n (i+1) _ _ g (d.extBut f.extBut c) #[2] fun h j k=>wpAny_pure ?_));have l:items.toList.drop i=items[i]::items.toList.drop (i+1):=by simp[List.drop_eq_getElem_cons,e]
  have:=b h (by rw[show i+(n+1)=i+1+n by lia];exact j) (f.trans k);rw[l,List.take_succ_cons]at this;exact this
theorem ZfY{t:Addr}{items:Array Value}{Q:List Value→Shared→Prop}(g:A.handled=none)(a:s.heap.IsList t items)
  (h:∀h',Heap.ExtBut s.heap.objs.size s.heap h'→Q items.toList { s with heap:=h' }):wpAny (model prog w) A (unpackItems (.ref t) items.size none) Q E s:=by
 have c:t≠s.heap.objs.size:=by obtain⟨o,i,_⟩:=a;exact QB (Qq i)
 unfold unpackItems;refine wpAny_bind ?_
 ·unfold notIterableAtAll;refine wpAny_bind (wpAny_specialOf a.typeIs slot_list_iter.lookup ?_);refine wpAny_pure ?_;simp only[Bool.false_eq_true,if_false];refine wpAny_bind (wpAny_holding (wpAny_pyIter_list a ?_));refine wpAny_bind (wpAny_holding (Nh c items.size 0 _ _ ⟨_,Qs _ rfl,rfl,rfl⟩ (a.push _) #[2] fun j k d=>?_));have l:List.take items.size (List.drop 0 items.toList)=items.toList:=by rw[List.drop_zero];exact Qw #[4]
  rw[l];rw[if_neg #[4]];have m:j.IsList t items:=(a.push _).extBut d.extBut c;refine wpAny_bind (wpAny_holding (wpAny_pyNext_list_end g k m #[4] fun n p=>?_));simp only[Option.isSome_none,Bool.false_eq_true,if_false];refine wpAny_pure (h n fun b o f e=>p b o f (d.extBut b o f (Qc _ e)))
theorem Zjj{t:Addr}{items:Array Value}{a:List (Bool×(Value→Sem Unit))}{Q:Unit→Shared→Prop}(b:A.handled=none)(c:s.heap.IsList t items)
  (d:a.length=items.size) (e:a.findIdx? (·.1)=none)
  (h:∀h',Heap.ExtBut s.heap.objs.size s.heap h'→wpAny (model prog w) A (assignInOrder (a.map (·.2)) items.toList) Q E { s with heap:=h' }) :
  wpAny (model prog w) A (unpack (.ref t) a) Q E s:=by
 unfold unpack;rw[d,e];exact wpAny_bind (wpAny_holding (ZfY b c h))
theorem Ze7{env:Env}{a:List Expr}{b}{pos:Pos}{t:Addr}{items:Array Value}{Q:Unit→Shared→Prop}(c:A.handled=none)(d:s.heap.IsList t items)
  (e:(assignEach a env).length=items.size) (f:(assignEach a env).findIdx? (·.1)=none)
  (h:∀h',Heap.ExtBut s.heap.objs.size s.heap h'→wpAny (model prog w) A (assignInOrder ((assignEach a env).map (·.2)) items.toList) Q E { s with heap:=h' }) :
  wpAny (model prog w) A (assign (.Tuple a b pos) env (.ref t)) Q E s:=by
 rw[assign_Tuple];exact wpAny_bind (wpAny_standAt (Zjj c d e f h))
end
def Zr4(K:#[7])(n:Nat)(t:TGs):TG:=fun v b H Q=>∃a xs,v=.ref a∧SqL K H a xs∧xs.length=n∧t xs b H Q
theorem gL{X:Cx}(K:#[7]){c:List Expr}{k:Nat}{t:TGs}{n:Nat}{pos:Pos}(h:PGs X c t)(i:X.K=K:=by rfl)(hc:X.calm=true:=by rfl)
  (j:(assignEach c X.env).length=n:=by rfl) (l:(assignEach c X.env).findIdx? (·.1)=none:=by rfl):PG X (.Tuple c k pos) (Zr4 K n t):=by
 subst i;intro d s f H v u Q I r hw;obtain⟨a,m,p,q,w,hw⟩:=hw;subst p;cases r;obtain⟨its,g,x,hz⟩:=I.list q;refine Ze7 (I.ok.hd hc) x.isList (by simp[j,← w,g.length]) l fun y z=>?_;have A:Inv X d f H { s with heap:=y }:=I.kept (t':=s.toks) fun b o e=>z b o (QB (Qq e)) e;exact h d _ f H m _ Q A (by simpa using g) hw
noncomputable def Vj(xs:List V)(lo a:Option Int)(st:Int):List V :=
 (sliceRange (sliceBounds lo a (some st) xs.length).1 (sliceBounds lo a (some st) xs.length).2.1 (sliceBounds lo a (some st) xs.length).2.2).filterMap fun i=>xs[i]?
theorem Ng{xs:List V}{us:List Value}(r:ZJ xs us):∀is:List Nat,ZJ (is.filterMap fun i=>xs[i]?) (is.filterMap fun i=>us[i]?)
 | []=>.nil
 | i::is=>by
  have b:=Ng r is;by_cases c:i<xs.length
  ·have a:xs[i]? = some xs[i]:=Qb c;obtain⟨u,d,e⟩:=r.get a;rw[Q0,Q0,a,d];exact .cons e b
  ·have a:xs[i]? = none:=QN #[2];have f:us[i]? = none:=QN (by rw[← r.length];lia);rw[Q0,Q0,a,f];exact b
def RG(X:Cx)(r:V→Option Int→Option Int→Int→Hp→VK→Prop):Prop :=
 ∀ (a:List (Addr×Obj)) (s:Shared) (b:St) (H:Hp) (x:V) (v c d e:Value) (lo f:Option Int) (st:Int) (g:Addr) (Q:VK),Inv X a b H s→ZL x v→s.heap.IsSliceOf g c d e→IsPart c lo→IsPart d f→IsPart e (some st)→r x lo f st H Q →
  ∃T id,typeLookup (.type T) "__getitem__" = pure (some (.builtin id))∧s.TypeIs v T∧#[9,X] (getItem v (.ref g)) (EP X a b Q) X.xe s
def Zr9(r:V→Option Int→Option Int→Int→Hp→VK→Prop)(b:TE)(c d e:TO):TE:=fun a H Q=>b a H fun x f=>c a f fun l g=>d a g fun u h=>e a h fun k j=>∃i,k=some i∧r x l u i j Q
section
variable {X:Cx} {e st:Expr} {te:TE} {lo hi:Option Expr} {tl th ts:TO} {pos p2:Pos}
theorem ZlH{r:V→Option Int→Option Int→Int→Hp→VK→Prop}(o:RG X r)(he:PE X e te)(hl:PO X lo tl)(hu:PO X hi th)(p:PO X (some st) ts):PE X (.Subscript e (.Slice lo hi (some st) p2) pos) (Zr9 r te tl th ts):=by intro c s d H Q I h;refine Subscript_ (thn (he c s d H _ I h) ?_);rintro v t ⟨x,w,y,z,A⟩;refine wpAny_Slice (thn (hl c t d w _ y A) fun f B ⟨l,C,D,E,F⟩=>thn (hu c B d C _ D F) fun g G ⟨u,J,K,L,M⟩=>thn (p c G d J _ K M) ?_);rintro j a ⟨k,n,N,O,m⟩;obtain⟨i,rfl,m⟩:=m;have P:Inv X c d n { a with heap:=a.heap.push { cls:=.type "slice",data:=.fields #[f,g,j] } }:=N.kept (t':=a.toks) fun b ob q=>Qc _ q;obtain⟨T,id,R,S,U⟩:=o c { a with heap:=a.heap.push { cls:=.type "slice",data:=.fields #[f,g,j] } } d n x v f g j l u i a.heap.objs.size Q P z (Heap.IsSliceOf.new ..) E L O m;show #[9,X] (subscriptTail e (.Slice lo hi (some st) p2) v (.ref a.heap.objs.size)) (EP X c d Q) X.xe { a with heap:=a.heap.push { cls:=.type "slice",data:=.fields #[f,g,j] } };exact tail_any (ops:=[v,.ref a.heap.objs.size]) S R U (by with_unfolding_all rfl)
def Nf(K:#[7]):V→Option Int→Option Int→Int→Hp→VK→Prop:=fun x lo hi st H Q=>∃a xs,x=.ref a∧SqL K H a xs∧st≠0∧∀p,H p=none→Q (.ref p) (upd H p (.lst (Vj xs lo hi st)))
theorem Zni:RG X (Nf X.K):=by
 intro aa s σ H x v vl vu vs lo hi st sl Q I j k l m n h;obtain⟨a,c,rfl,p,t,q⟩:=h;cases j;obtain⟨its,r,f,u⟩:=I.list p;have g:=r.length;refine⟨"list",_,slot_list_getitem.lookup,f.isList.typeIs,?_⟩;refine wpAny_getItem_list_slice f.isList k l m n (by intro e;exact t (Qp e)) ?_ (by rw[QI]<;>lia);have d:=slicePick_size_le its.toArray lo hi (some st);have i:ZJ (Vj c lo hi st) (slicePick its.toArray lo hi (some st)).toList:=by unfold slicePick Vj;simp only[List.size_toArray,← g];have:=Ng r (sliceRange (sliceBounds lo hi (some st) c.length).1 (sliceBounds lo hi (some st) c.length).2.1 (sliceBounds lo hi (some st) c.length).2.2);simpa using this
 refine⟨.ref s.heap.objs.size,_,I.laid (t':=s.toks) (o:=.lst (Vj c lo hi st)) (fun b ob q=>Qc _ q) (Qh _) ?_,rfl,q _ (I.hok.fresh (Qh _))⟩;refine⟨?_,(slicePick its.toArray lo hi (some st)).toList,0,i,?_⟩
 ·have w:its.toArray.size=c.length:=by rw[QI];exact g.symm
  rw[i.length,Qaa];exact Qv d (by rw[w];exact u)
 ·simpa using Qs _ rfl
theorem Zsd(K:#[7])(h:X.K=K:=by rfl):RG X (Nf K):=by subst h;exact Zni
end
theorem Zgb(n:Nat):sliceRange ((n:Int)-1) (-1) (-1)=(List.range n).map fun i=>n-1-i:=by
 unfold sliceRange;have a:(if (-1:Int)>0 then (if (n:Int)-1 < -1 then (-1-((n:Int)-1) + -1-1) / -1 else 0) else (if (n:Int)-1 > -1 then ((n:Int)-1 - -1 - -1-1) / (- -1) else 0)).toNat=n:=by
  rw[if_neg #[6]];by_cases h:(n:Int)-1 > -1
  ·rw[if_pos h,show (- -1:Int)=1 by decide,Int.ediv_one];lia
  ·rw[if_neg h];lia
 simp only[];rw[a];apply Qy;intro k b;have:=Q1.mp b;lia
theorem Zhm{α:Type}(xs:List α):((List.range xs.length).map fun i=>xs.length-1-i).filterMap (fun i=>xs[i]?)=xs.reverse:=by
 rw[List.filterMap_map];have e:∀n,n≤xs.length→(List.range n).filterMap ((fun i=>xs[i]?) ∘ fun i=>xs.length-1-i)=xs.reverse.take n:=by
  intro n;induction n with
  | zero=>intro _;rfl
  | succ n b=>intro hn;rw[QaL,Qav,b #[2]];have a:xs[xs.length-1-n]? = some xs[xs.length-1-n]:=Qb #[2];rw[Q0];simp only[Function.comp,a,List.filterMap_nil];rw[QJ,List.getElem?_reverse #[2],a];rfl
 rw[e _ (Qh _)];exact Qw #[4]
theorem Zma(xs:List V):Vj xs none none (-1)=xs.reverse:=by have e:sliceRange (sliceBounds none none (some (-1)) xs.length).1 (sliceBounds none none (some (-1)) xs.length).2.1 (sliceBounds none none (some (-1)) xs.length).2.2=sliceRange ((xs.length:Int)-1) (-1) (-1):=rfl;unfold Vj;rw[e,Zgb,Zhm]
section
variable {X:Cx}
theorem inQ(K:#[7])(h:X.K=K:=by rfl):OpR X (compareOp .In) (rIn K false):=by subst h;exact Zl4
end
end L2
namespace L2
open PySem PySem.Spec PyProof.Rows
section
variable {X:Cx} {aa:List (Addr×Obj)} {σ:St} {H:Hp} {s:Shared}
def Zq8:TE:=fun _ H Q=>∀p,H p=none→Q (.ref p) (upd H p (.dT []))
theorem Nd{pos:Pos}:PE X (.Dict [] [] pos) Zq8:=by intro aa s σ H Q I h;have a:sysModules<s.heap.objs.size:=Nat.lt_trans #[6] (show mainGlobals<s.heap.objs.size from(I.mod.glob.keeps I.bk).lt);refine wpAny_Dict_empty ⟨.ref s.heap.objs.size,upd H s.heap.objs.size (.dT []),?_,rfl,h _ (I.hok.fresh (Qh _))⟩;refine I.laid (t':=s.toks) (fun _ _ q=>Qc _ q) (Qh _) ?_;refine⟨Qx _,?_,[],.nil,_,#[],0,Qs _ rfl,⟨rfl,rfl,rfl⟩,rfl,rfl,List.nodup_nil⟩;exact beq_eq_false_iff_ne.mpr fun z=>Q7 _ (z ▸ a)
end
noncomputable def Yg(lo:Int)(n:Nat):List Int:=(List.range n).map fun (k:Nat)=>lo+k
theorem UI(lo:Int)(n:Nat):(Yg lo n).length=n:=by simp[Yg]
section
variable {X:Cx}
theorem Tu(ns:List Int):∀n,n≤ns.length→preSum (fun j=>ns.getD j 0) n=(ns.take n).sum
 | 0,_=>rfl
 | n+1,h=>by
  have a:=Tu ns n #[2];have e:ns.take (n+1)=ns.take n++[ns.getD n 0]:=by rw[QJ,Qb #[2],QH,Qb #[2]];rfl
  rw[e,List.sum_append,← a];simp[preSum]
end
section
variable {prog:Program} {w:World} {A:Around} {E:Value→Shared→Prop} {s:Shared} {κ:PyProof.Rows.KeyKind} {k0:SortKind} {dR:Array Keyed} {st:SortSt}
structure SB (k0:SortKind) (dR:Array Keyed) (st:SortSt):Prop where
 perm:(arrOf st).Perm dR
 kind:kindOf st=k0
 failed:failedOf st=none
 pend:pendingOf st = #[]
end
noncomputable def kLt:Key→Key→Bool
 | .inl i,.inl j=>decide (i<j)
 | .inr x,.inr y=>decide (x.cps.toList<y.cps.toList)
 | .inl _,.inr _=>true
 | .inr _,.inl _=>false
theorem Zkc:∀a:Key,kLt a a=false
 | .inl i=>decide_eq_false #[2]
 | .inr x=>decide_eq_false (List.lt_irrefl _)
theorem ZlE:∀a b c:Key,kLt a b=true→kLt b c=true→kLt a c=true
 | .inl i,.inl j,.inl k,h1,h2=>by have:=of_decide_eq_true h1;have:=of_decide_eq_true h2;exact decide_eq_true #[2]
 | .inr x,.inr y,.inr z,h1,h2=>decide_eq_true (List.lt_trans (of_decide_eq_true h1) (of_decide_eq_true h2))
 | .inl _,.inl _,.inr _,_,_=>rfl
 | .inl _,.inr _,.inr _,_,_=>rfl
 | .inl _,.inr _,.inl _,_,h=>by cases h
 | .inr _,.inl _,_,h,_=>by cases h
 | .inr _,.inr _,.inl _,_,h=>by cases h
noncomputable def YE:List Key→List Key→Bool
 | [],[]=>false
 | [],_::_=>true
 | _::_,[]=>false
 | x::xs,y::ys=>if x=y then YE xs ys else kLt x y
theorem RF(x y:Key)(xs ys:List Key):YE (x::xs) (y::ys)=if x=y then YE xs ys else kLt x y:=rfl
theorem RE:∀a:List Key,YE a a=false
 | []=>rfl
 | x::r=>by unfold YE;rw[if_pos rfl];exact RE r
theorem Nc:∀a b c:List Key,YE a b=true→YE b c=true→YE a c=true
 | [],[],_,h,_=>by cases h
 | [],_::_,[],_,h=>by cases h
 | [],_::_,_::_,_,_=>rfl
 | _::_,[],_,h,_=>by cases h
 | _::_,_::_,[],_,h=>by cases h
 | x::r,y::s,z::t,h1,h2=>by
  have i:=Nc r s t;unfold YE at h1 h2 ⊢;by_cases f:x=y
  ·rw[if_pos f]at h1;by_cases d:y=z
   ·rw[if_pos d]at h2;rw[if_pos (f.trans d)];exact i h1 h2
   ·rw[if_neg d]at h2;rw[if_neg (fun e=>d (f.symm.trans e)),f];exact h2
  ·rw[if_neg f]at h1;by_cases d:y=z
   ·rw[if_neg (fun e=>f (e.trans d.symm)),← d];exact h1
   ·rw[if_neg d]at h2;have g:=ZlE _ _ _ h1 h2;rw[if_neg (fun e=>by rw[e,Zkc]at g;cases g)];exact g
noncomputable def Xw(ks:List Key):List Bool:=ks.map fun k=>k.isLeft
abbrev WA:=List (Addr×List Key)
noncomputable def VM(a:WA):List V:=a.map fun t=>V.ref t.1
def AtT(H:Hp)(a:WA):Prop:=∀t∈a,H t.1=some (.tup (t.2.map kV))
theorem Nb:∀ {c:WA} {us:List Value},ZJ (VM c) us→us=c.map fun t=>Value.ref t.1
 | [],_,h=>by cases h;rfl
 | t::r,_,h=>by
  cases h with
  | cons a b=>rw[Nb b];cases a;rfl
theorem ZmG(A:Around)(s:Shared){k m:Key}{p q:Value}(hp:ZL (kV k) p)(hq:ZL (kV m) q)(a:k.isLeft=m.isLeft):∃e,SeqAt.EqAt A s p q e∧(e=true↔k=m):=by
 cases k with
 | inl i =>
  cases m with
  | inl j=>obtain⟨t,rfl⟩:=hp;obtain⟨u,rfl⟩:=hq;exact⟨_,SeqAt.EqAt.int_int i t j u,by simp⟩
  | inr y=>cases a
 | inr x =>
  cases m with
  | inl j=>cases a
  | inr y=>obtain⟨t,rfl⟩:=hp;obtain⟨u,rfl⟩:=hq;exact⟨_,SeqAt.EqAt.str_str x t y u,by simp⟩
theorem ZmL(A:Around)(s:Shared){k m:Key}{p q:Value}(hp:ZL (kV k) p)(hq:ZL (kV m) q)(a:k.isLeft=m.isLeft)(prog:Program)(w:World)(E:Value→Shared→Prop)(Q:Value→Shared→Prop)(h:Q (.bool (kLt k m)) s) :
  wpAny (model prog w) A (richCompare .Lt p q) Q E s:=by
 cases k with
 | inl i =>
  cases m with
  | inl j=>obtain⟨t,rfl⟩:=hp;obtain⟨u,rfl⟩:=hq;exact(PyProof.Rows.lt_int h:wpAny (model prog w) A (compareOp .Lt (.int i t) (.int j u)) Q E s)
  | inr y=>cases a
 | inr x =>
  cases m with
  | inl j=>cases a
  | inr y=>obtain⟨t,rfl⟩:=hp;obtain⟨u,rfl⟩:=hq;exact(PyProof.Rows.lt_str h:wpAny (model prog w) A (compareOp .Lt (.str x t) (.str y u)) Q E s)
section
open PySem.SeqAt
open PySem.AutoSeq1 (wpAny_loadPart')
open PySem.MeetsSeq PySem.MeetsSeq2 PySem.MeetsSeq3
theorem Zhe(l b:Addr)(items o:Array Value)(n L:Nat)(M N:Option Addr)(sl O:Array (Option Value))(ks m:List Key)(E:ZJ (ks.map kV) items.toList)(F:ZJ (m.map kV) o.toList)(G:Xw ks=Xw m) :
  Meets (Builtin.«tuple.__lt__» ⟨[.ref l,.ref b],[]⟩)
   (fun _ R s=>s.heap.get? l=some { cls:=.type "tuple",dict:=M,data:=.seq items n,slots:=sl }∧s.heap.get? b=some { cls:=.type "tuple",dict:=N,data:=.seq o L,slots:=O } ∧
    R (.ok (.ret (.bool (YE ks m)))) s) :=
 .of_wp fun c w A R s h=>by
  obtain⟨p,g,d,r,os⟩:=s;obtain⟨P,Q,h⟩:=h;have f2:=AutoSeq1.sub_tuple_tuple;have z1:items.size=ks.length:=by have:=E.length;simpa using this.symm
  have z2:o.size=m.length:=by have:=F.length;simpa using this.symm
  have z3:ks.length=m.length:=by have:=congrArg List.length G;simpa [Xw] using this
  wp_walk using wpAny_loadPart' P,wpAny_loadPart' Q,wpAny_forIn_list _ (fun rest b v=>b.1=none∧v=⟨p,g,d,r,os⟩∧∃ (t ws:List Value) (f a:List Key),rest=t.zip ws ∧
   ZJ (f.map kV) t∧ZJ (a.map kV) ws∧Xw f=Xw a∧R (.ok (.ret (.bool (YE f a)))) ⟨p,g,d,r,os⟩) _
  case turn =>
   rintro⟨y,x⟩ rest b v ⟨z,rfl,t,ws,f,a,j,u,B,k,i⟩;cases f with
   | nil=>cases u;rw[List.zip_nil_left]at j;cases j
   | cons k1 kr =>
    cases a with
    | nil=>cases k
    | cons S T =>
     cases u with
     | cons C H =>
      cases B with
      | cons D I =>
       rw[List.zip_cons_cons]at j;injection j with U V;injection U with W X;subst W X;rw[RF]at i;unfold Xw at k;rw[Qk,Qk]at k;injection k with J Y;obtain⟨e,Z,K⟩:=ZmG A.in1 ⟨p,g,d,r,os⟩ C D J;refine wpAny_bind (Z c w _ _ ?_);cases e with
       | true =>
        rw[if_pos (K.mp rfl)]at i
        wp_walk
        exact⟨rfl,rfl,_,_,_,_,V,H,I,Y,i⟩
       | false =>
        rw[if_neg (fun q=>absurd (K.mpr q) Ql)]at i;have yR:=ZmL A.in1 ⟨p,g,d,r,os⟩ C D J c w
        wp_walk using yR
        exact⟨_,rfl,by simpa using i⟩
  case fin =>
   rintro⟨b1,b2⟩ v ⟨z,rfl,t,ws,f,a,j,u,B,k,i⟩;simp only at z;subst z;have hv:YE f a=decide (items.size<o.size):=by
    rw[decide_eq_false #[2]];cases f with
    | nil =>
     cases a with
     | nil=>rfl
     | cons _ _=>cases k
    | cons k1 kr =>
     cases a with
     | nil=>cases k
     | cons S T =>
      cases u with
      | cons C H =>
       cases B with
       | cons D I=>rw[List.zip_cons_cons]at j;cases j
   rw[hv]at i
   wp_walk
   exact⟨_,rfl,by simpa [Builtin.Tuple.tupleCompareSizes] using i⟩
  case h=>exact⟨rfl,rfl,items.toList,o.toList,ks,m,rfl,E,F,G,h⟩
end
section
variable {prog:Program} {w:World} {A:Around} {E:Value→Shared→Prop} {s:Shared}
theorem ZkD{l b:Addr}{items c:Array Value}{ks a:List Key}{Q:Value→Shared→Prop}(hl:IsTup s.heap l items)(hb:IsTup s.heap b c)(k:ZJ (ks.map kV) items.toList)(m:ZJ (a.map kV) c.toList)(o:Xw ks=Xw a)
  (hu:A.units<cLine) (h:Q (.bool (YE ks a)) s):wpAny (model prog w) A (richCompare .Lt (.ref l) (.ref b)) Q E s:=by
 obtain⟨⟨cls,p,data,q⟩,d,e,n,f⟩:=id hl;obtain⟨⟨BS,r,data2,t⟩,g,i,u,j⟩:=id hb;simp only at e f i j;subst e f i j;exact richCompare_meets_room (op:=.Lt) ⟨_,d,rfl⟩ ⟨_,g,rfl⟩ PySem.F.slot_tuple_lt PySem.F.entry_tuple_lt (PySem.F.args_tuple_lt_2 _ _) (Zhe l b items c n u p r q t ks a k m o)
  ⟨d,g,show Value.bool (YE ks a)≠Value.notImplemented∧Q (.bool (YE ks a)) s from⟨(fun x=>nomatch x),h⟩⟩ hu
end
section
variable {prog:Program} {w:World}
theorem ZlU{A:Around}{a:Args}:(A.under (.builtin "min.loop" a)).units≤A.units+1:=by show A.units+(Code.builtin "min.loop" a).cUnits≤A.units+1;first|exact Qh _|simp[Code.cUnits,Code.frames,Code.isFrame]
theorem RD{A:Around}{R:Result→Shared→Prop}{l I S:Addr}{d:WA}{sh:List Bool}{h0:Heap}{kw:List (Str×Value)}(C:A.handled=none)(hu:A.units+4<cLine)(D:h0.IsList l (d.map fun t=>Value.ref t.1).toArray)
  (p:h0.get? I=none) (s:h0.get? S=none) (i:S≠I) (v:∀t∈d,∃its:List Value,ZJ (t.2.map kV) its∧IsTup h0 t.1 its.toArray) (x:∀t∈d,Xw t.2=sh) (y:Shared)
  (q:∀ (h':Heap) (t:Addr×List Key),(∀b o,h0.get? b=some o→h'.get? b=some o)→t∈d→(∀u∈d,YE u.2 t.2=false)→R (.ok (.ret (.ref t.1))) { y with heap:=h' }) :
  ∀ (k j:Nat) (h:Heap) (t:Addr×List Key) (c:Nat),d.length-j=k→j≤d.length→(∀b o,h0.get? b=some o→h.get? b=some o)→h.IsListIter I l j→h.get? S=some { cls:=.type "list",data:=.seq #[.ref t.1,.ref t.1] c }→t∈d →
   (∀u∈d.take j,YE u.2 t.2=false)→codeAny (model prog w) A (.builtin "min.loop" { pos:=[.ref I,.none,.ref S],kw:=kw }) R { y with heap:=h }
 | k,j,h,t,c,hk,hj,keep,M,E,z,G=>by
  refine codeAny_builtin F.entry_min_loop ?_;show wpAny _ _ (seqItems? (.ref S) >>= _) _ _ _;refine wpAny_bind (wpAny_seqItems E rfl ?_);have N:h.IsList l (d.map fun t=>Value.ref t.1).toArray:=by obtain⟨o,m,r⟩:=D;exact⟨o,keep _ _ m,r⟩
  by_cases B:j<d.length
  ·have H:((d.map fun t=>Value.ref t.1).toArray)[j]? = some (Value.ref d[j].1):=by simp[B]
   refine wpAny_bind (wpAny_tryCatch (wpAny_pyNext_list_item M N H fun g O P=>?_));have J:∀b o,h0.get? b=some o→g.get? b=some o:=fun b o f=>by
    have nb:b≠I:=fun e=>by rw[e,p]at f;cases f
    rw[P.2 b nb];exact keep b o f
   have n:g.get? S=some { cls:=.type "list",data:=.seq #[.ref t.1,.ref t.1] c }:=by rw[P.2 S i];exact E
   refine wpAny_bind (wpAny_pure ?_);have K:d[j]∈d:=Q4 B;obtain⟨i1,U,V⟩:=v _ K;obtain⟨i2,W,X⟩:=v _ z;have Q:∀ {a:Addr} {its:List Value},IsTup h0 a its.toArray→IsTup g a its.toArray:=fun ⟨o,m,Y⟩=>⟨o,J _ _ m,Y⟩;have Z:Xw d[j].2=Xw t.2:=(x _ K).trans (x _ z).symm;refine wpAny_bind (wpAny_tryCatch (wpAny_holding (wpAny_bind (ZkD (Q V) (Q X) (by simpa using U) (by simpa using W) Z (Nat.lt_of_le_of_lt ZlU #[2]) (wpAny_bind (wpAny_holding (wpAny_truthy_bool (wpAny_bind (wpAny_letGo (wpAny_pure ?_))))))))));cases f:YE d[j].2 t.2 with
   | true =>
    refine wpAny_bind (wpAny_updateSeq n rfl ?_ (by show 2≤_;rw[sizeLine_eq];decide) (by show 2≤_;rw[sizeLine_eq];decide));refine wpAny_bind (wpAny_letGo (wpAny_pure ⟨rfl,?_⟩));refine RD C hu D p s i v x y q (k-1) (j+1) _ d[j] c #[2] #[2] (fun b o L=>?_) ?_ ?_ K (fun u hu'=>?_)
    ·have nb:S≠b:=fun e=>by rw[← e,s]at L;cases L
     exact Qak _ nb (J b o L)
    ·obtain⟨o,m,r⟩:=O;exact⟨o,Qak _ i m,r⟩
    ·have:=get?_update_seq (c := "list") n (fun _=>#[.ref d[j].1,.ref d[j].1]);simpa using this
    ·rw[QJ,Qb B]at hu';rcases Qm.mp hu' with hu'|hu'
     ·have:=G u hu';cases hz:YE u.2 d[j].2 with
      | false=>rfl
      | true=>rw[Nc _ _ _ hz f]at this;cases this
     ·have:u=d[j]:=by simpa using hu'
      rw[this];exact RE _
   | false =>
    refine wpAny_bind (wpAny_letGo (wpAny_pure ⟨rfl,?_⟩));refine RD C hu D p s i v x y q (k-1) (j+1) g t c #[2] #[2] J O n z (fun u hu'=>?_);rw[QJ,Qb B]at hu';rcases Qm.mp hu' with hu'|hu'
    ·exact G u hu'
    ·have:u=d[j]:=by simpa using hu'
     rw[this];exact f
  ·have H:((d.map fun t=>Value.ref t.1).toArray)[j]? = none:=by simp;lia
   refine wpAny_bind (wpAny_tryCatch (wpAny_pyNext_list_end C M N H fun g T=>?_));have n:g.get? S=some { cls:=.type "list",data:=.seq #[.ref t.1,.ref t.1] c }:=T S _ i E;refine wpAny_bind (wpAny_updateSeq n rfl ?_ (by show 2≤_;rw[sizeLine_eq];decide) (by show 0≤_;lia));refine wpAny_bind (wpAny_letGo (wpAny_pure ?_));refine q _ t (fun b o f=>?_) z (fun u hu'=>G u (by rw[Qw #[2]];exact hu'));have nb:S≠b:=fun e=>by rw[← e,s]at f;cases f
   have nI:b≠I:=fun e=>by rw[e,p]at f;cases f
   exact Qak _ nb (T b o nI (keep b o f))
termination_by k=>k
theorem Zl1{A:Around}{R:Result→Shared→Prop}{l I S:Addr}{a:WA}{sh:List Bool}{h0 h:Heap}{c:Nat}{kw:List (Str×Value)}(y:A.handled=none)(hu:A.units+4<cLine)(z:h0.IsList l (a.map fun t=>Value.ref t.1).toArray)
  (j:h0.get? I=none) (B:h0.get? S=none) (k:S≠I) (J:∀t∈a,∃its:List Value,ZJ (t.2.map kV) its∧IsTup h0 t.1 its.toArray) (K:∀t∈a,Xw t.2=sh) (i:Shared) (keep:∀b o,h0.get? b=some o→h.get? b=some o) (C:h.IsListIter I l 0) (D:h.get? S=some { cls:=.type "list",data:=.seq #[] c })
  (L:a≠[]∨∃n d kr,kw=(n,d)::kr∧∀g:Heap,(∀b o,h0.get? b=some o→g.get? b=some o)→R (.ok (.ret d)) { i with heap:=g })
  (q:∀ (g:Heap) (t:Addr×List Key),(∀b o,h0.get? b=some o→g.get? b=some o)→t∈a→(∀u∈a,YE u.2 t.2=false)→R (.ok (.ret (.ref t.1))) { i with heap:=g }) :
  codeAny (model prog w) A (.builtin "min.loop" { pos:=[.ref I,.none,.ref S],kw:=kw }) R { i with heap:=h }:=by
 refine codeAny_builtin F.entry_min_loop ?_;show wpAny _ _ (seqItems? (.ref S) >>= _) _ _ _;refine wpAny_bind (wpAny_seqItems D rfl ?_);have E:h.IsList l (a.map fun t=>Value.ref t.1).toArray:=by obtain⟨o,m,r⟩:=z;exact⟨o,keep _ _ m,r⟩
 cases a with
 | nil =>
  obtain⟨n,d,kr,rfl,M⟩:=L.resolve_left #[4];refine wpAny_bind (wpAny_tryCatch (wpAny_pyNext_list_end y C E #[4] fun p N=>?_));show wpAny _ _ (rule _ >>= _) _ _ _;refine wpAny_bind (wpAny_rule (wpAny_pure ?_));refine M _ fun b o f=>?_;have O:b≠I:=fun e=>by rw[e,j]at f;cases f
  exact N b o O (keep b o f)
 | cons t r =>
  refine wpAny_bind (wpAny_tryCatch (wpAny_pyNext_list_item C E (x:=.ref t.1) #[4] fun p P G=>?_));have Q:∀b o,h0.get? b=some o→p.get? b=some o:=fun b o f=>by
   have nb:b≠I:=fun e=>by rw[e,j]at f;cases f
   rw[G.2 b nb];exact keep b o f
  have H:p.get? S=some { cls:=.type "list",data:=.seq #[] c }:=by rw[G.2 S k];exact D
  refine wpAny_bind (wpAny_pure ?_);show wpAny _ _ (updateSeq S _ >>= _) _ _ _;refine wpAny_bind (wpAny_updateSeq H rfl ?_ (by show 0≤_;lia) (by show 2≤_;rw[sizeLine_eq];decide));refine wpAny_pure ⟨rfl,?_⟩;refine RD y hu z j B k J K i q _ 1 _ t (c+1) rfl #[4] (fun b o s=>?_) ?_ ?_ #[4] (fun u v=>?_)
  ·have nb:S≠b:=fun e=>by rw[← e,B]at s;cases s
   exact Qak _ nb (Q b o s)
  ·obtain⟨o,m,r⟩:=P;exact⟨o,Qak _ k m,r⟩
  ·have:=get?_update_seq (c := "list") H (fun _=>#[.ref t.1,.ref t.1]);simpa using this
  ·have:u=t:=by simpa using v
   rw[this];exact RE _
end
section
variable {X:Cx}
def Na(K:#[7]):List V→Hp→VK→Prop:=fun vs H Q=>∃ (p:Addr) (a:WA) (sh:List Bool),vs=[.ref p]∧SqL K H p (VM a)∧AtT H a∧a≠[]∧(∀t∈a,Xw t.2=sh) ∧
 ∀t:Addr×List Key,t∈a→(∀u∈a,YE u.2 t.2=false)→Q (.ref t.1) H
theorem Zne{prog:Program}{w:World}{A:Around}{R:Result→Shared→Prop}{s:Shared}{l:Addr}{a:WA}{sh:List Bool}{kw:List (Str×Value)}{i:List (Str×Value)}(k:A.handled=none)(hu:A.units+4<cLine)(r:s.heap.IsList l (a.map fun t=>Value.ref t.1).toArray)
  (v:(kw=[]∧i=[])∨∃d,kw=[(Str.ofString "default",d)]∧i=[(Str.ofString "default",d)])
  (z:∀t∈a,∃its:List Value,ZJ (t.2.map kV) its∧IsTup s.heap t.1 its.toArray) (B:∀t∈a,Xw t.2=sh)
  (C:a≠[]∨∃n d kr,i=(n,d)::kr∧∀h':Heap,(∀b o,s.heap.get? b=some o→h'.get? b=some o)→R (.ok (.ret d)) { s with heap:=h' })
  (q:∀ (h':Heap) (t:Addr×List Key),(∀b o,s.heap.get? b=some o→h'.get? b=some o)→t∈a→(∀u∈a,YE u.2 t.2=false)→R (.ok (.ret (.ref t.1))) { s with heap:=h' }) :
  codeAny (model prog w) A (.call (.builtin "min") { pos:=[.ref l],kw:=kw }) R s:=by
 refine codeAny_call_builtin_at rfl F.entry_min ?_;have D:checkBuiltinCall "min" { pos:=[.ref l],kw:=kw }=pure ():=by rcases v with⟨rfl,_⟩|⟨d,rfl,_⟩<;>rfl
 rw[D];refine wpAny_pure ?_;have go:∀ {m:Around},m.handled=none→wpAny (model prog w) m (pyIter (.ref l) >>= fun E=>newList [] >>= fun b=>again (.builtin "min.loop" { pos:=[E,.none,b],kw:=i })) (fun p j=>match p with
   | Fin.done f=>R (Except.ok f) j
   | Fin.again x=>x.quiet=true∧codeAny (model prog w) A x R j) (fun e j=>R (Except.error e) j) s:=fun {m} Jd=>by
  refine wpAny_bind (wpAny_pyIter_list r ?_);refine wpAny_bind (wpAny_newList ?_ (by show 0≤_;lia));refine wpAny_pure ⟨rfl,?_⟩;have y:∀b,s.heap.objs.size≤b→s.heap.get? b=none:=fun b G=>by
   cases e:s.heap.get? b with
   | none=>rfl
   | some o=>exact absurd (Qq e) (Nat.not_lt.mpr G)
  have g:(s.heap.push { cls:=Value.type "list_iterator",data:=Data.fields #[Value.ref l,Value.int 0 0] }).objs.size=s.heap.objs.size+1:=size_push' _ _;refine Zl1 (h0:=s.heap) (c:=0) k hu r (y _ (Qh _)) (y _ (by rw[g];exact QaN _)) (by rw[g];exact Nat.succ_ne_self _) z B s (fun b o h=>Qc _ (Qc _ h)) ⟨_,Qc _ (Qs _ rfl),rfl,rfl⟩ (Qs _ rfl) C q
 rcases v with⟨rfl,rfl⟩|⟨d,rfl,rfl⟩
 ·exact go k
 ·exact go k
theorem Zmj(hc:X.calm=true)(hu:X.A.units+64<cLine):YT X (.builtin "min") (Na X.K):=by
 intro aa s σ H vs us Q I r h;obtain⟨p,ts,sh,rfl,b,c,d,e,q⟩:=h;obtain⟨u,rfl,f⟩:=Xy r;cases f;obtain⟨its,g,j,hz⟩:=I.list b;have k:=Nb g;subst k;refine wpAny_call (Zne (sh:=sh) (I.ok.hd hc) #[2] j.isList (.inl ⟨rfl,rfl⟩) (fun t a=>?_) e (.inl d) fun h' t l a m=>?_)
 ·obtain⟨i,v,q,_⟩:=I.tuple (SqT.of (K:=X.K) (c t a));exact⟨i,v,q⟩
 ·exact⟨.ref t.1,H,I.kept (t':=s.toks) l,rfl,q t a m⟩
theorem Zsh(K:#[7]){k:Nat}(a:Y2 k X.A)(hc:X.calm=true:=by rfl)(h:X.K=K:=by rfl):YT X (.builtin "min") (Na K):=by subst h;exact Zmj hc a.units
end
section
variable {X:Cx}
def M0(K:#[7]):List V→Hp→VK→Prop:=fun vs H Q=>∃ (p:Addr) (ns:List Int),vs=[.ref p]∧SqL K H p (ns.map V.int)∧ns.length≤1000∧(∀n∈ns,0≤n∧n≤10000000000000)∧Q (.int ns.sum) H
theorem Zl2(hc:X.calm=true):YT X (.builtin "sum") (M0 X.K):=by
 intro aa s σ H vs us Q I r h;obtain⟨p,a,rfl,o,hn,d,q⟩:=h;obtain⟨u,rfl,t⟩:=Xy r;cases t;obtain⟨its,v,w,_⟩:=I.list o;have f:=NH v;obtain⟨b,e⟩:=f.allInts.items;have g:a=b.toList.map (·.1):=by rw[← f.numsOf,← nums_intItems,← e]
 have c:b.size=a.length:=by rw[g,Qa,Qaa]
 have i:numAt b=fun j=>a.getD j 0:=by funext j;rw[numAt_eq,g]
 have k:=w.isList;rw[e]at k;have bound:∀n,n≤a.length→0≤(a.take n).sum∧(a.take n).sum≤10000000000000*n:=by
  intro n;induction n with
  | zero=>intro _;exact⟨by simp,by simp⟩
  | succ n l =>
   intro h;have l:=l #[2];have x:=d a[n] (Q4 #[2]);have y:a.take (n+1)=a.take n++[a[n]]:=by rw[QJ,Qb #[2]];rfl
   rw[y,List.sum_append];have z:([a[n]]:List Int).sum=a[n]:=by simp
   rw[z];lia
 refine sum_intList (I.ok.hd hc) k (fun j hj=>?_) fun h' tk A B=>⟨.int _,H,I.kept B,⟨A,rfl⟩,?_⟩
 ·rw[i];have x:=d a[j] (Q4 #[2]);have m:a.getD j 0=a[j]:=by rw[QH,Qb #[2]];rfl
  have hp:=bound (j+1) #[2];refine⟨⟨?_,?_⟩,⟨?_,?_⟩⟩
  ·show -(2 ^ 63)≤a.getD j 0;rw[m];lia
  ·show a.getD j 0<2 ^ 63;rw[m];lia
  ·rw[Tu a (j+1) #[2]];lia
  ·rw[Tu a (j+1) #[2]];lia
 ·rw[i,c,Tu a a.length (Qh _),Qw (Qh _)];exact q
theorem Zst(K:#[7])(hc:X.calm=true:=by rfl)(h:X.K=K:=by rfl):YT X (.builtin "sum") (M0 K):=by subst h;exact Zl2 hc
end
end L2
namespace Hf
open L2
abbrev PW:=List (Int×Nat)
noncomputable def val(P:PW):Int:=(P.map fun p=>p.1*(p.2:Int)).sum
noncomputable def ws(P:PW):List Int:=P.map (·.1)
noncomputable def ds(P:PW):List Nat:=P.map (·.2)
noncomputable def zs(z:Nat):List Int:=List.replicate z 0
noncomputable def kr(w E:Nat)(D:List Nat):Nat:=(D.map fun d=>w ^ (E-d)).sum
inductive Hu (w:Nat):List Int→Nat→Int→Prop
 | stop {e:Int} {m:Nat}:Hu w [e] m 0
 | step {E L:List Int} {m:Nat} {C:Int}:1<L.length→E.Perm L→L.Pairwise (·≤·)→Hu w (L.drop m++[(L.take m).sum]) w C→Hu w E m (C+(L.take m).sum)
def Fit(w n m:Nat):Prop:=n=1∨∃t,n=m+t*(w-1)
structure Fits (w n m:Nat):Prop where
 w2:2≤w
 m2:2≤m
 mw:m≤w
 ok:Fit w n m
end Hf
namespace L2
open PySem PySem.Spec PyProof.Rows
section
variable {prog:Program} {w:World} {A:Around} {R:Result→Shared→Prop} {s:Shared}
theorem Zhl{c d b iter:Expr}{f:List Expr}{k:Scope}{pos:Pos}{it:Value}{D:Addr}{env:Env}{E:Value→Shared→Prop}(I:Nat→Shared→Prop)
  (G:∀e s',E e s'→False)
  (turn:∀n s,I n s→wpAny (model prog w) A (pyNext it) (fun r g=>match r with
   | none=>R (.ok .next) g
   | some v=>wpAny (model prog w) A (letOwnedTupleGo b it v) (fun _ s₀=>wpAny (model prog w) A (assign b env v) (fun _ l =>
     wpAny (model prog w) A (RO f env) (fun ok i =>
      if ok=true then wpAny (model prog w) A (eval c env) (fun o p=>wpAny (model prog w) A (eval d env) (fun u y =>
       wpAny (model prog w) A (dictSet D o u) (fun _ B=>∃m,m<n∧I m B) E y) E p) E i
      else ∃m,m<n∧I m i) E l) E s₀) E g) E s)
  (n:Nat) (h:I n s):codeAny (model prog w) A (.compLoop (.DictComp c d [⟨b,iter,f,0⟩] k pos) 0 it (.ref D) env) R s:=by
 have go:∀ {j:Type} {t:Sem j} {Q:j→Shared→Prop} {s:Shared},wpAny (model prog w) A t Q E s→wpAny (model prog w) A t Q (notedBy (model prog w) A env fun e s'=>R (.error e) s') s :=
  fun {j t Q s} q=>wpAny_mono q (fun _ _ z=>z) fun e s' z=>(G e s' z).elim
 refine codeAny_loop rfl I (fun n s H=>?_) n h;show wpAny _ A ((compTurn (.DictComp c d [⟨b,iter,f,0⟩] k pos) 0 it (.ref D) env).onRaise (fun x=>do noteFrame x env;theTreesLotGoes x)) _ _ s;refine wpAny_noted ?_;rw[compTurn_dict];refine wpAny_bind (wpAny_standAt (wpAny_bind (thn (go (turn n s H)) fun r g C=>?_)));cases r with
 | none=>exact wpAny_pure C
 | some v =>
  refine wpAny_bind (thn (go C) fun _ s₀ a=>wpAny_bind (thn (go a) fun _ l J=>wpAny_bind (thn (go J) fun ok i F=>?_)));cases ok with
  | false=>exact wpAny_pure ⟨rfl,F⟩
  | true=>exact wpAny_bind (wpAny_bind (thn (go F) fun o p K=>wpAny_bind (wpAny_holding (thn (go K) fun u y L=>wpAny_bind (wpAny_standAt (wpAny_holding (thn (go L) fun _ B M=>wpAny_pure ⟨rfl,M⟩)))))))
end
section
variable {κ:Type} [DecidableEq κ]
noncomputable def Z5(kvs:List (κ×V))(k:κ):Option V:=(kvs.find? fun a=>decide (a.1=k)).map (·.2)
noncomputable def YY(kvs:List (κ×V))(k:κ)(v:V):List (κ×V) :=
 if (kvs.any fun a=>decide (a.1=k))=true then kvs.map (fun a=>if a.1=k then (a.1,v) else a) else kvs++[(k,v)]
noncomputable def WZ(kvs:List (κ×V))(k:κ):List (κ×V):=kvs.filter fun a=>decide (a.1≠k)
theorem Vi{p:κ×V}{r:List (κ×V)}{k:κ}(e:p.1=k):Z5 (p::r) k=some p.2:=by simp[Z5,List.find?_cons,e]
theorem Vh{p:κ×V}{r:List (κ×V)}{k:κ}(e:¬ p.1=k):Z5 (p::r) k=Z5 r k:=by simp[Z5,List.find?_cons,e]
theorem Tt(k:κ):∀kvs:List (κ×V),(kvs.any fun a=>decide (a.1=k))=(Z5 kvs k).isSome
 | []=>rfl
 | p::r=>by
  rw[QaI];by_cases e:p.1=k
  ·simp only[Vi e,decide_eq_true e,Bool.true_or,Option.isSome_some]
  ·rw[Vh e,decide_eq_false e,Bool.false_or];exact Tt k r
theorem Ts(kvs:List (κ×V))(k:κ)(v:V):(YY kvs k v).length≤kvs.length+1:=by
 unfold YY;split
 ·rw[Qa];lia
 ·rw[Qj,QM,List.length_nil];lia
theorem Wz{kvs:List (κ×V)}{k:κ}(v:V)(h:Z5 kvs k=none):YY kvs k v=kvs++[(k,v)]:=by unfold YY;rw[Tt,h];exact if_neg #[6]
theorem Yd.isSome_eq{o:Option V}{u:Option Value}(r:Yd o u):o.isSome=u.isSome:=by
 cases o with
 | none=>cases u with
  | none=>rfl
  | some _=>exact(show False from r).elim
 | some _=>cases u with
  | none=>exact(show False from r).elim
  | some _=>rfl
theorem Yd.getD{o:Option V}{u:Option Value}{d:V}{d':Value}(r:Yd o u)(rd:ZL d d'):ZL (o.getD d) (u.getD d'):=by
 cases o with
 | none=>cases u with
  | none=>exact rd
  | some _=>exact(show False from r).elim
 | some _=>cases u with
  | none=>exact(show False from r).elim
  | some _=>exact r
theorem KV.val{kvs:List (κ×V)}{vs:List (κ×Value)}(r:KV kvs vs)(k:κ):Yd (Z5 kvs k) (valueAt vs k):=by
 unfold KV at r;induction r with
 | nil=>exact True.intro
 | @cons p q ps a h t f =>
  obtain⟨d,g⟩:=h;by_cases e:p.1=k
  ·have c:q.1=k:=d.symm.trans e;have b:valueAt (q::a) k=some q.2:=by simp[valueAt,List.find?_cons,c]
   rw[Vi e,b];exact g
  ·have c:¬ q.1=k:=fun z=>e (d.trans z);have b:valueAt (q::a) k=valueAt a k:=by simp[valueAt,List.find?_cons,c]
   rw[Vh e,b];exact f
theorem KV.any{kvs:List (κ×V)}{vs:List (κ×Value)}(r:KV kvs vs)(k:κ):(kvs.any fun a=>decide (a.1=k))=vs.any fun a=>decide (a.1=k):=by
 unfold KV at r;induction r with
 | nil=>rfl
 | cons h t b=>rw[QaI,QaI,b,h.1]
theorem KV.repl{kvs:List (κ×V)}{vs:List (κ×Value)}(r:KV kvs vs)(k:κ){y:V}{u:Value}(c:ZL y u) :
  KV (kvs.map fun a=>if a.1=k then (a.1,y) else a) (vs.map fun a=>if a.1=k then (a.1,u) else a):=by
 unfold KV at r ⊢;induction r with
 | nil=>exact .nil
 | @cons p q ps qs h t d =>
  rw[Qk,Qk];refine .cons ?_ d;obtain⟨b,f⟩:=h;by_cases e:p.1=k
  ·rw[if_pos e,if_pos (b.symm.trans e)];exact⟨b,c⟩
  ·rw[if_neg e,if_neg (fun z=>e (b.trans z))];exact⟨b,f⟩
theorem KV.put{kvs:List (κ×V)}{vs:List (κ×Value)}(r:KV kvs vs)(k:κ){y:V}{u:Value}(a:ZL y u):KV (YY kvs k y) (stored vs k u):=by
 unfold YY stored;rw[r.any k];by_cases e:(vs.any fun b=>decide (b.1=k))=true
 ·rw[if_pos e,if_pos e];exact r.repl k a
 ·rw[if_neg e,if_neg e];exact Paired.snoc r ⟨rfl,a⟩
theorem KV.drop{kvs:List (κ×V)}{vs:List (κ×Value)}(r:KV kvs vs)(k:κ):KV (WZ kvs k) (without vs k):=by
 unfold KV at r ⊢;unfold WZ without;induction r with
 | nil=>exact .nil
 | @cons p q ps qs h t d =>
  obtain⟨c,f⟩:=h;rw[List.filter_cons,List.filter_cons];by_cases e:p.1=k
  ·have a:¬ decide (p.1≠k)=true:=by simp[e]
   have b:¬ decide (q.1≠k)=true:=by simp[c.symm.trans e]
   rw[if_neg a,if_neg b];exact d
  ·have g:¬ q.1=k:=fun z=>e (c.trans z);have a:decide (p.1≠k)=true:=by simp[e]
   have b:decide (q.1≠k)=true:=by simp[g]
   rw[if_pos a,if_pos b];exact .cons ⟨c,f⟩ d
theorem KV.length{kvs:List (κ×V)}{vs:List (κ×Value)}(r:KV kvs vs):kvs.length=vs.length:=Paired.length r
theorem Zmr(kvs:List (κ×V))(k:κ):(WZ kvs k).length≤kvs.length:=Qae _ _
end
theorem Wj{P:Program}{w:World}{k:Key}{u:Value}(r:ZL (kV k) u):(ZH P w).is k u=true:=by
 cases k with
 | inl i=>obtain⟨t,e⟩:=(show ∃t,u=Value.int i t from r);subst e;exact Zjc P w i t
 | inr x=>obtain⟨t,e⟩:=(show ∃t,u=Value.str x t from r);subst e;exact Zji P w x t
theorem MZ{P:Program}{w:World}:∀ {ks:List Key} {us:List Value},ZJ (ks.map kV) us→ItemsAre (ZH P w) ks us
 | [],_,r=>by rw[QaS]at r;cases r;exact .nil
 | k::ks,_,r=>by
  rw[Qk]at r;cases r with
  | cons h t=>exact .cons (Wj h) (MZ t)
abbrev KT(H:Hp):List (List Key×V)→List (List Key×Addr×Value)→Prop:=Paired fun p q=>p.1=q.1∧H q.2.1=some (.tup (p.1.map kV))∧ZL p.2 q.2.2
theorem KT.val{H:Hp}{kvs:List (List Key×V)}{xs:List (List Key×Addr×Value)}(r:KT H kvs xs)(k:List Key):Yd (Z5 kvs k) ((atKey xs k).map (·.2)):=by
 induction r with
 | nil=>exact True.intro
 | @cons p q ps a h t f =>
  obtain⟨d,_,g⟩:=h;by_cases e:p.1=k
  ·have c:q.1=k:=d.symm.trans e;have b:atKey (q::a) k=some q.2:=by simp[atKey,List.find?_cons,c]
   rw[Vi e,b];exact g
  ·have c:¬ q.1=k:=fun z=>e (d.trans z);have b:atKey (q::a) k=atKey a k:=by simp[atKey,List.find?_cons,c]
   rw[Vh e,b];exact f
theorem KT.repl{H:Hp}{kvs:List (List Key×V)}{xs:List (List Key×Addr×Value)}(r:KT H kvs xs)(k:List Key){y:V}{u:Value}(d:ZL y u) :
  KT H (kvs.map fun b=>if b.1=k then (b.1,y) else b) (xs.map (putAt k u)):=by
 induction r with
 | nil=>exact .nil
 | @cons p q ps qs h t f =>
  rw[Qk,Qk];refine .cons ?_ f;obtain⟨a,c,g⟩:=h;unfold putAt;by_cases e:p.1=k
  ·rw[if_pos e,if_pos (a.symm.trans e)];exact⟨a,c,d⟩
  ·rw[if_neg e,if_neg (fun z=>e (a.trans z))];exact⟨a,c,g⟩
theorem KT.put{H:Hp}{kvs:List (List Key×V)}{xs:List (List Key×Addr×Value)}(r:KT H kvs xs)(k:List Key){b:Addr}{y:V}{u:Value}(hb:H b=some (.tup (k.map kV)))(a:ZL y u) :
  KT H (YY kvs k y) (storedH xs k b u):=by
 have e:(kvs.any fun c=>decide (c.1=k))=(atKey xs k).isSome:=by rw[Tt,(r.val k).isSome_eq,Option.isSome_map]
 unfold YY storedH;rw[e];by_cases q:(atKey xs k).isSome=true
 ·rw[if_pos q,if_pos q];exact r.repl k a
 ·rw[if_neg q,if_neg q];exact Paired.snoc r ⟨rfl,hb,a⟩
theorem KT.keeps{H H':Hp}{kvs:List (List Key×V)}{xs:List (List Key×Addr×Value)}(r:KT H kvs xs)(a:∀b ys,H b=some (.tup ys)→H' b=some (.tup ys)):KT H' kvs xs :=
 Paired.mapP r fun _ _ z=>⟨z.1,a _ _ z.2.1,z.2.2⟩
section
variable {P:Program} {w:World} {H:Hp} {h:Heap} {a:Addr}
theorem MY{u:HO}(ok:HOk P w H h)(e:Rd H a u):YZ P w H h a u:=e.ok ok
theorem VL{kvs:List (Key×V)}(ok:HOk P w H h)(e:Rd H a (.dK kvs)):kvs.length≤sizeLine∧(a == sysModules)=false∧∃vs,KV kvs vs∧h.DictOf (ZH P w) a vs :=
 show YZ P w H h a (.dK kvs) from MY ok e
theorem Tr{kvs:List (Key×V)}(ok:HOk P w H h)(e:H a=some (.dK kvs)):kvs.length≤sizeLine∧(a == sysModules)=false∧∃vs,KV kvs vs∧h.DictOf (ZH P w) a vs:=VL ok (.inl e)
theorem UH{ks:List Key}(ok:HOk P w H h)(e:H a=some (.tup (ks.map kV))):(tupleKind (ZH P w)).is h ks a:=by obtain⟨_,its,r,o,b,c,n,d⟩:=(show YZ P w H h a (.tup (ks.map kV)) from ok a _ e);exact⟨o,its.toArray,n,b,c,d,by simpa using MZ r⟩
theorem Vg{kvs:List (List Key×V)}(ok:HOk P w H h)(e:Rd H a (.dT kvs)):kvs.length≤sizeLine∧(a == sysModules)=false ∧
  ∃xs,KT H kvs xs∧h.DictOfH (tupleKind (ZH P w)) a xs:=by
 obtain⟨z,y,xs,r,o,c,d,f,g,i,j,k⟩:=(show YZ P w H h a (.dT kvs) from MY ok e);refine⟨z,y,xs,r,o,c,d,f,g,i,j,fun x hx=>?_,k⟩;have all:∀ {l:List (List Key×V)} {m:List (List Key×Addr×Value)},KT H l m→∀x∈m,(tupleKind (ZH P w)).is h x.1 x.2.1:=by
  intro l m q;induction q with
  | nil=>intro x hx;exact nomatch hx
  | @cons p q ps qs b t n =>
   intro x hx;rcases QG.mp hx with e|hx
   ·subst e;exact UH ok (by rw[← b.1];exact b.2.1)
   ·exact n x hx
 exact all r x hx
theorem MX{kvs:List (List Key×V)}(ok:HOk P w H h)(e:H a=some (.dT kvs)):kvs.length≤sizeLine∧(a == sysModules)=false ∧
  ∃xs,KT H kvs xs∧h.DictOfH (tupleKind (ZH P w)) a xs:=Vg ok (.inl e)
end
def ZR(H:Hp)(a:Addr)(y:V)(r:Option V):Prop :=
 (∃c k,Rd H a (.dK c)∧y=kV k∧r=Z5 c k)∨∃c k b,Rd H a (.dT c)∧y=.ref b∧H b=some (.tup (k.map kV))∧r=Z5 c k
def YD(H:Hp)(a:Addr)(y v:V)(H':Hp):Prop :=
 (∃c k,H a=some (.dK c)∧y=kV k∧c.length<sizeLine∧H'=upd H a (.dK (YY c k v))) ∨
 ∃c k b,H a=some (.dT c)∧y=.ref b∧H b=some (.tup (k.map kV))∧c.length<sizeLine∧H'=upd H a (.dT (YY c k v))
theorem ZR.k{H:Hp}{a:Addr}{kvs:List (Key×V)}{k:Key}(e:H a=some (.dK kvs)):ZR H a (kV k) (Z5 kvs k):=.inl ⟨kvs,k,.inl e,rfl,rfl⟩
theorem ZR.t{H:Hp}{a b:Addr}{kvs:List (List Key×V)}{k:List Key}(e:H a=some (.dT kvs))(c:H b=some (.tup (k.map kV))):ZR H a (.ref b) (Z5 kvs k):=.inr ⟨kvs,k,b,.inl e,rfl,c,rfl⟩
theorem YD.k{H:Hp}{a:Addr}{kvs:List (Key×V)}{k:Key}{v:V}(e:H a=some (.dK kvs))(hl:kvs.length<sizeLine):YD H a (kV k) v (upd H a (.dK (YY kvs k v))):=.inl ⟨kvs,k,e,rfl,hl,rfl⟩
theorem YD.t{H:Hp}{a b:Addr}{kvs:List (List Key×V)}{k:List Key}{v:V}(e:H a=some (.dT kvs))(c:H b=some (.tup (k.map kV)))(hl:kvs.length<sizeLine) :
  YD H a (.ref b) v (upd H a (.dT (YY kvs k v))):=.inr ⟨kvs,k,b,e,rfl,c,hl,rfl⟩
section
variable {X:Cx} {aa:List (Addr×Obj)} {σ:St} {H:Hp} {s:Shared} {a:Addr} {y v:V} {u r:Value} {o:Option V} {A:Around} {E:Value→Shared→Prop}
theorem Inv.big(I:Inv X aa σ H s):sysModules<s.heap.objs.size:=by have h:mainGlobals<s.heap.objs.size:=(I.mod.glob.keeps I.bk).lt;exact Nat.lt_trans #[6] h
theorem Zlu{Q:Value→Shared→Prop}(hu:A.units+1<cLine)(I:Inv X aa σ H s)(g:ZR H a y (some v))(n:ZL y u)(h:∀d s',Inv X aa σ H s'→ZL v d→Q d s') :
  wpAny (model X.prog X.w) A (getItem (.ref a) u) Q E s:=by
 rcases g with⟨f,k,e,i,l⟩|⟨f,k,b,e,i,q,l⟩
 ·subst i;obtain⟨z,r,t,c,j⟩:=VL I.hok e;obtain⟨d,hw,m⟩:=Yd.some_of (v:=v) (o:=valueAt t k) (by rw[l];exact c.val k);exact wpAny_getItem_of (Wj n) j.mapOf hw (h d _ (I.tok _) m)
 ·subst i;cases (show u=Value.ref b from n);obtain⟨z,r,w,c,j⟩:=Vg I.hok e;obtain⟨d,hw,m⟩:=Yd.some_of (v:=v) (o:=(atKey w k).map (·.2)) (by rw[l];exact c.val k);obtain⟨p,x,B⟩:=QaT.mp hw;refine wpAny_getItem_heap (tupleKind_room_in1 hu) (UH I.hok q) j x ?_;rw[B];exact h d _ (I.tok _) m
theorem Zpr{Q:Value→Shared→Prop}(hu:A.units+1<cLine)(I:Inv X aa σ H s)(g:ZR H a y o)(m:ZL y u)(h:∀s',Inv X aa σ H s'→Q (.bool (!o.isSome)) s') :
  wpAny (model X.prog X.w) A (compareOp .NotIn u (.ref a)) Q E s:=by
 rcases g with⟨d,k,e,f,l⟩|⟨d,k,b,e,f,n,l⟩
 ·subst f;obtain⟨z,i,vs,c,j⟩:=VL I.hok e;refine wpAny_notIn_of (Wj m) i j.mapOf ?_;rw[← (c.val k).isSome_eq,← l];exact h _ (I.tok _)
 ·subst f;cases (show u=Value.ref b from m);obtain⟨z,i,xs,c,j⟩:=Vg I.hok e;refine wpAny_notIn_heap (tupleKind_room_in1 hu) (UH I.hok n) i j ?_;have q:=(c.val k).isSome_eq;rw[Option.isSome_map]at q;rw[← q,← l];exact h _ (I.tok _)
theorem UG{h':Heap}{t':Nat}{ob:HO}(I:Inv X aa σ H s)(c:Mut (H a))(d:Heap.SameBut a s.heap h')(he:∃q,h'.get? a=some q)(new:YZ X.prog X.w (upd H a ob) h' a ob) :
  Inv X aa σ (upd H a ob) { s with heap:=h',toks:=t' } :=
 I.write (x:=a) (e:=a) c #[8] (fun b q f z=>(d.2 b f).trans z) he new
theorem Tq{P:Program}{w:World}{H':Hp}{h':Heap}{kvs:List (Key×V)}{vs:List (Key×Value)}(z:kvs.length≤sizeLine)(hd:(a == sysModules)=false)(rel:KV kvs vs)(b:h'.DictOf (ZH P w) a vs) :
  YZ P w H' h' a (.dK kvs):=⟨z,hd,vs,rel,b⟩
theorem ZlG{H':Hp}{Q:Unit→Shared→Prop}(hu:A.units+1<cLine)(I:Inv X aa σ H s)(g:YD H a y v H')(B:ZL y u)(C:ZL v r)(h:∀s',Inv X aa σ H' s'→Q () s') :
  wpAny (model X.prog X.w) A (setItem (.ref a) u r) Q E s:=by
 rcases g with⟨d,k,e,m,l,n⟩|⟨d,k,b,e,m,D,l,n⟩
 ·subst m n;obtain⟨z,o,J,f,p⟩:=Tr I.hok e;have t:J.length≤sizeLine:=by rw[← f.length];exact z
  have w:(YY d k v).length≤sizeLine:=by have:=Ts d k v;lia
  refine wpAny_setItem_pairs (hsz:=t) (Wj B) p fun F i x=>h _ ?_;have K:∃q,F.get? a=some q:=let ⟨q,_,_,j,_⟩:=i;⟨q,j⟩;exact UG I (by rw[e];exact True.intro) x K (Tq w o (f.put k C) i)
 ·subst m n;cases (show u=Value.ref b from B);obtain⟨z,o,L,f,p⟩:=MX I.hok e;have t:L.length≤sizeLine:=by rw[← Paired.length f];exact z
  have w:(YY d k v).length≤sizeLine:=by have:=Ts d k v;lia
  refine wpAny_setItem_heap (hsz:=t) (tupleKind_room_in1 hu) (UH I.hok D) p fun F i x=>h _ ?_;obtain⟨q,M,N,j,O,P,R,_,S⟩:=i;refine UG I (by rw[e];exact True.intro) x ⟨q,j⟩ ⟨w,o,_,(f.put k D C).keeps fun c ys G=>?_,q,M,N,j,O,P,R,S⟩;rw[Zc (Sd G e (fun z=>nomatch z))];exact G
end
section
variable {X:Cx} {aa:List (Addr×Obj)} {σ:St} {H:Hp} {s:Shared} {a:Addr} {kvs:List (Key×V)} {k:Key} {u:Value} {A:Around} {E:Value→Shared→Prop}
theorem ZrA{v:V}{more:List Value}{Q:Value→Shared→Prop}(I:Inv X aa σ H s)(e:H a=some (.dK kvs))(d:ZL (kV k) u)(l:Z5 kvs k=some v)(hm:more=[]∨∃x,more=[x])
  (h:∀c s',Inv X aa σ (upd H a (.dK (WZ kvs k))) s'→ZL v c→Q c s'):wpAny (model X.prog X.w) A (call (.builtin "dict.pop") (.ref a::u::more)) Q E s:=by
 obtain⟨z,m,f,b,g⟩:=Tr I.hok e;obtain⟨c,hw,n⟩:=Yd.some_of (v:=v) (o:=valueAt f k) (by rw[← l];exact b.val k);have p:(keyPart u).isSome=true:=by
  cases k with
  | inl i=>obtain⟨t,q⟩:=(show ∃t,u=Value.int i t from d);subst q;rfl
  | inr x=>obtain⟨t,q⟩:=(show ∃t,u=Value.str x t from d);subst q;rfl
 have r:argsOk "dict.pop" ⟨.ref a::u::more,[]⟩:=by
  rcases hm with q|⟨x,q⟩
  ·subst q;exact PySem.F.args_dict_pop_2 _ _
  ·subst q;exact PySem.F.args_dict_pop_3 _ _ _
 refine call_meetsIn Qaw g.typeIs PySem.F.entry_dict_pop r (meets_dict_pop_there (ZH X.prog X.w) a (Wj d) more hm p)
  ⟨f,c,g,by rw[← b.length];exact z,hw,fun w j y=>h c _ ?_ n⟩
 have B:∃q,w.get? a=some q:=let ⟨q,_,_,C,_⟩:=j;⟨q,C⟩;exact UG I (by rw[e];exact True.intro) y B (Tq (Qv (Zmr kvs k) z) m (b.drop k) j)
theorem Zrz{Q:Value→Shared→Prop}(I:Inv X aa σ H s)(e:Rd H a (.dK kvs))(h:∀t s',Inv X aa σ H s'→Q (.int kvs.length t) s'):wpAny (model X.prog X.w) A (call (.builtin "len") [.ref a]) Q E s:=by obtain⟨z,c,vs,b,d⟩:=VL I.hok e;refine call_len_dict c d (by rw[← b.length];rw[sizeLine_eq]at z;lia) ?_;rw[← b.length];exact h _ _ (I.tok _)
end
theorem ZjC{X:Cx}{f:List (Addr×Obj)}{h:St}{H:Hp}{s:Shared}{a:Addr}{y:V}{o:Option V}(I:Inv X f h H s)(g:ZR H a y o):s.TypeIs (.ref a) "dict":=by
 rcases g with⟨c,k,e,_,_⟩|⟨c,k,b,e,_,_,_⟩
 ·obtain⟨_,_,vs,_,d⟩:=VL I.hok e;exact d.typeIs
 ·obtain⟨_,_,xs,_,d⟩:=Vg I.hok e;exact d.typeIs
theorem RC{P:Program}{w:World}{H:Hp}(h:Heap)(hb:sysModules<h.objs.size):YZ P w H (h.push { cls:=.type "dict",data:=.dict #[] }) h.objs.size (.dK []) :=
 ⟨Qx _,beq_eq_false_iff_ne.mpr (Ne.symm (QB hb)),[],.nil,Heap.DictOf.new h⟩
def ZqJ:TE:=fun _ H Q=>∀p,H p=none→Q (.ref p) (upd H p (.dK []))
section
variable {X:Cx} {pos:Pos}
theorem Tp:PE X (.Dict [] [] pos) ZqJ:=fun aa s σ H Q I h =>
 wpAny_Dict_empty ⟨.ref s.heap.objs.size,_,I.laid (a:=s.heap.objs.size) (o:=.dK []) (t':=s.toks) (fun _ _ q=>Qc _ q) (Qh _) (RC s.heap I.big),rfl,h _ (I.hok.fresh (Qh _))⟩
end
def RB:List (TE×TE)→St→Hp→(List (V×V)→Hp→Prop)→Prop
 | [],_,H,Q=>Q [] H
 | (tk,b)::r,a,H,Q=>tk a H fun x c=>b a c fun y d=>RB r a d fun ps e=>Q ((x,y)::ps) e
abbrev VV:List (V×V)→List (Value×Value)→Prop:=Paired fun p q=>ZL p.1 q.1∧ZL p.2 q.2
def PPs(X:Cx)(pos:Pos)(keys:List (Option Expr))(e:List Expr)(f:List (TE×TE)):Prop :=
 ∀ (b:List (Addr×Obj)) (s:Shared) (a:St) (H:Hp) (Q:List (V×V)→Hp→Prop),Inv X b a H s→RB f a H Q →
  #[9,X] (evalPairs (pairTrees keys e X.env pos)) (fun g h=>∃c d,Inv X b a d h∧VV c g∧Q c d) X.xe s
theorem ZpE{X:Cx}{pos:Pos}:PPs X pos [] [] []:=fun aa s σ H Q I h=>pairTrees_nil_walk ⟨[],H,I,.nil,h⟩
theorem VJ{X:Cx}{pos:Pos}{k v:Expr}{ks:List (Option Expr)}{vs:List Expr}{tk d:TE}{e:List (TE×TE)}(hk:PE X k tk)(f:PE X v d)(g:PPs X pos ks vs e) :
  PPs X pos (some k::ks) (v::vs) ((tk,d)::e):=fun a s b H Q I h =>
 pairTrees_cons_walk (thn (hk a s b H _ I h) fun u i ⟨x,j,l,m,n⟩=>thn (f a i b j _ l n) fun w2 o ⟨y,p,q,r,t⟩=>
  thn (g a o b p _ q t) fun ws s3 ⟨w,z,A,c,B⟩=>⟨(x,y)::w,z,A,.cons ⟨m,r⟩ c,B⟩)
noncomputable def Wi(kvs more:List (Key×V)):List (Key×V):=more.foldl (fun b a=>YY b a.1 a.2) kvs
theorem KV.merge:∀ {more:List (Key×V)} {a:List (Key×Value)} {kvs:List (Key×V)} {vs:List (Key×Value)},KV more a→KV kvs vs→KV (Wi kvs more) (merged vs a):=by
 intro more a kvs vs r;unfold KV at r;induction r generalizing kvs vs with
 | nil=>intro q;exact q
 | @cons p q ps qs h t b =>
  intro c;have e:KV (YY kvs p.1 p.2) (stored vs q.1 q.2):=by have:=c.put p.1 h.2;rw[← h.1];exact this
  exact b e
theorem MW:∀ (more kvs:List (Key×V)),(Wi kvs more).length≤kvs.length+more.length
 | [],kvs=>by show kvs.length≤kvs.length+0;lia
 | p::r,kvs=>by have h1:=MW r (YY kvs p.1 p.2);have h2:=Ts kvs p.1 p.2;show (Wi (YY kvs p.1 p.2) r).length≤_;rw[QM];lia
theorem MV{P:Program}{w:World}:∀ {kvs:List (Key×V)} {ws:List (Value×Value)},VV (kvs.map fun e=>(kV e.1,e.2)) ws→∃d,Carries (ZH P w) ws d∧KV kvs d
 | [],_,r=>by rw[QaS]at r;cases r;exact⟨[],True.intro,.nil⟩
 | p::kvs,_,r=>by
  rw[Qk]at r;cases r with
  | @cons a b as bs h t=>obtain⟨d,c,q⟩:=MV (P:=P) (w:=w) t;obtain⟨b1,f⟩:=b;exact⟨(p.1,f)::d,⟨Wj h.1,rfl,c⟩,.cons ⟨rfl,h.2⟩ q⟩
def ZrN(c:List (TE×TE)):TE:=fun d H Q=>∀p,H p=none→RB c d (upd H p (.dK [])) fun ps a=>a p=some (.dK [])∧∃kvs:List (Key×V),ps=kvs.map (fun b=>(kV b.1,b.2))∧kvs.length≤15∧Q (.ref p) (upd a p (.dK (Wi [] kvs)))
theorem Zo8{X:Cx}{pos:Pos}{keys:List (Option Expr)}{d:List Expr}{g:List (TE×TE)}(h:PPs X pos keys d g)(k:keys.all (·.isSome)=true)(hl:keys.length=d.length)(h0:keys≠[])
  (l:keys.length≤15):PE X (.Dict keys d pos) (ZrN g):=by
 intro m s n H Q I q;have p:=I.hok.fresh (Qh s.heap.objs.size);have r:=I.laid (a:=s.heap.objs.size) (o:=.dK []) (h':=s.heap.push { cls:=.type "dict",data:=.dict #[] }) (t':=s.toks) (fun _ _ q=>Qc _ q) (Qh _) (RC s.heap I.big);refine wpAny_Dict_walk (knd:=ZH X.prog X.w) k hl h0 l (thn (h m _ n _ _ r (q _ p)) ?_);rintro ws s2 ⟨ps,H2,i,f,e,b,t,lk,u⟩;subst t;obtain⟨v,c,x⟩:=MV (P:=X.prog) (w:=X.w) f;obtain⟨z,y,Je,A,B⟩:=Tr i.hok e;cases A;refine⟨v,c,B,fun h' j C=>⟨.ref s.heap.objs.size,_,?_,rfl,u⟩⟩;have D:(Wi [] b).length≤sizeLine:=by have E:=MW b [];rw[List.length_nil]at E;rw[sizeLine_eq];lia
 have F:∃q,h'.get? s.heap.objs.size=some q:=let ⟨q,_,_,G,_⟩:=j;⟨q,G⟩;exact UG i (by rw[e];exact True.intro) C F (Tq D y (x.merge .nil) j)
structure M1 (X:Cx) (o:Expr) (m:Str) (aw:Pos) (e:Expr) (aB:Pos):Prop where
 base:attributeBase o m X.env (eval o X.env)=eval o X.env
 few:((backTo aB (starEach [e] X.env)).all (fun x=>!x.1)&&(backToKw aB (keywordEach [] X.env)).all (fun x=>x.1.isSome)
  && decide (([e]:List Expr).length+([]:List Keyword).length+(if ([]:List Keyword).isEmpty then 0 else 1)<30))=true
 line:(aw.endLine == aB.line)=true
 trees:backTo aB (starEach [e] X.env)=[(false,eval e X.env)]
structure M2 (X:Cx) (o:Expr) (m:Str) (aw:Pos) (e f:Expr) (aB:Pos):Prop where
 base:attributeBase o m X.env (eval o X.env)=eval o X.env
 few:((backTo aB (starEach [e,f] X.env)).all (fun x=>!x.1)&&(backToKw aB (keywordEach [] X.env)).all (fun x=>x.1.isSome)
  && decide (([e,f]:List Expr).length+([]:List Keyword).length+(if ([]:List Keyword).isEmpty then 0 else 1)<30))=true
 line:(aw.endLine == aB.line)=true
 trees:backTo aB (starEach [e,f] X.env)=[(false,eval e X.env),(false,eval f X.env)]
def IsD(H:Hp)(a:Addr):Prop:=(∃kvs,Rd H a (.dK kvs))∨∃kvs,Rd H a (.dT kvs)
theorem Zq4{X:Cx}{j:List (Addr×Obj)}{k:St}{H:Hp}{s:Shared}{a:Addr}(I:Inv X j k H s)(d:IsD H a) :
  s.TypeIs (.ref a) "dict"∧(∀b,Value.ref a=.ref b→∃ob,s.heap.get? b=some ob∧ob.dict=none)∧(a == sysModules)=false:=by
 rcases d with⟨f,e⟩|⟨f,e⟩
 ·obtain⟨_,g,vs,_,c⟩:=VL I.hok e;refine⟨c.typeIs,fun b q=>?_,g⟩;cases q;obtain⟨ob,_,_,h,i,_⟩:=c;exact⟨ob,h,i.2.1⟩
 ·obtain⟨_,g,xs,_,c⟩:=Vg I.hok e;refine⟨c.typeIs,fun b q=>?_,g⟩;cases q;obtain⟨ob,_,_,h,i,_⟩:=c;exact⟨ob,h,i.2.1⟩
section
variable {X:Cx} {aa:List (Addr×Obj)} {σ:St} {H:Hp} {s:Shared} {a:Addr} {y d:V} {u r:Value} {o:Option V} {A:Around} {E:Value→Shared→Prop}
theorem ZqU{Q:Value→Shared→Prop}(hu:A.units+1<cLine)(I:Inv X aa σ H s)(g:ZR H a y o)(m:ZL y u)(h:∀n s',Inv X aa σ H s'→ZL (o.getD .non) n→Q n s') :
  wpAny (model X.prog X.w) A (call (.builtin "dict.get") [.ref a,u]) Q E s:=by
 rcases g with⟨f,k,e,i,l⟩|⟨f,k,b,e,i,p,l⟩
 ·subst i;obtain⟨z,j,vs,c,d⟩:=VL I.hok e;refine call_meetsIn PySem.F.slot_dict_get d.typeIs PySem.F.entry_dict_get (PySem.F.args_dict_get_2 _ _) (meets_dict_get (ZH X.prog X.w) a (Wj m) j) ⟨_,d.mapOf,h _ _ (I.tok _) ?_⟩;rw[l];exact(c.val k).getD rfl
 ·subst i;cases (show u=Value.ref b from m);obtain⟨z,j,q,c,d⟩:=Vg I.hok e;refine call_meetsIn PySem.F.slot_dict_get d.typeIs PySem.F.entry_dict_get (PySem.F.args_dict_get_2 _ _) (meetsH_dict_get (tupleKind (ZH X.prog X.w)) a b j) ⟨tupleKind_room_in1 hu,k,q,UH I.hok p,d,h _ _ (I.tok _) ?_⟩;rw[l];exact(c.val k).getD rfl
end
def MU(e ty:TE):TE:=fun b H Q=>e b H fun x c=>∃a,x=.ref a∧IsD c a∧ty b c fun y d=>∃o,ZR d a y o∧Q (o.getD .non) d
section
variable {X:Cx} {o e f:Expr} {aw aB:Pos} {td ty tx:TE}
theorem Zoe(hu:X.A.units+1<cLine)(i:PE X o td)(he:PE X e ty)(m:M1 X o "get" aw e aB):PE X (.Call (.Attribute o "get" aw) [e] [] aB) (MU td ty):=by intro b s c H Q I h;refine wpAny_Call_method m.base m.few m.line Q5 PySem.F.slot_dict_get PySem.F.type_dict_get (thn (i b s c H _ I h) ?_);rintro u j ⟨x,k,f,l,a,ex,d,n⟩;subst ex;obtain rfl:u=Value.ref a:=l;obtain⟨p,q,_⟩:=Zq4 f d;refine⟨p,q,?_⟩;rw[m.trees];refine Calls.callWith_builtin rfl (Calls.evalArgs_plain (Calls.spliced_cons (thn (he b j c k _ f n) fun iv s2 ⟨y,r,t,v,ov,g,w⟩=>Calls.spliced_nil ?_)));exact ZqU hu t g v fun w' s3 z A=>⟨_,r,z,A,w⟩
end
section
variable {X:Cx}
theorem Zls:YT X (.builtin "len") (fun xs H Q=>∃a kvs,xs=[V.ref a]∧H a=some (.dK kvs)∧Q (.int kvs.length) H):=by intro aa s σ H xs us Q I r h;obtain⟨a,kvs,rfl,b,q⟩:=h;obtain⟨u,rfl,c⟩:=Xy r;cases c;exact Zrz I (.inl b) fun t s' d=>⟨.int kvs.length,H,d,⟨t,rfl⟩,q⟩
end
section
variable {κ:Type} [DecidableEq κ]
theorem Zov{kvs:List (κ×V)}{k:κ}{v:V}(h:Z5 kvs k=some v):k∈kvs.map (·.1):=by
 have q:(kvs.any fun a=>decide (a.1=k))=true:=by rw[Tt,h];all_goals rfl
 obtain⟨p,b,e⟩:=List.any_eq_true.mp q;exact List.mem_map.mpr ⟨p,b,of_decide_eq_true e⟩
end
structure Mf (P:Program) (w:World) (K:#[7]) (mg:Str→Option Value) (base:Heap) (k:Nat) (C:Addr) (m:Str) (ps:List Str) (sp:Sp):Prop where
 ex:∃f fd,X2 P w K mg base CX0 k f fd ps sp∧UL K C m f∧XQ K fd ps []
structure Cf (P:Program) (w:World) (K:#[7]) (mg:Str→Option Value) (base:Heap) (k:Nat) (C:Addr) (x:Str) (ps:List Str) (sp:Sp):Prop where
 ex:∃f fd,X2 P w K mg base CX0 k f fd ps sp∧Mk K C f∧XQ K fd ps []∧mg x=some (.ref C)
structure Yj (K:#[7]) (C:Addr) (m ap:Str) (st:Stmt) (ps:List Str):Prop where
 ex:∃f fd,Fun K m ap st f fd∧UL K C m f∧XQ K fd ps []
structure To (K:#[7]) (mg:Str→Option Value) (C:Addr) (x ap:Str) (st:Stmt) (ps:List Str):Prop where
 ex:∃f fd,Fun K "__init__" ap st f fd∧Mk K C f∧XQ K fd ps []∧mg x=some (.ref C)
section
variable {P:Program} {w:World} {K:#[7]} {mg:Str→Option Value} {base:Heap}
theorem Yj.mf{C:Addr}{m c:Str}{st:Stmt}{N ps:List Str}{k:Nat}{sp:Sp}(T:Yj K C m c st ps)(S:Zs N ps (Zg st))(len:∀vs H Q E,sp vs H Q E→vs.length=ps.length)
  (d:∀ (a:Value) (f:Addr) (A:Around) (outer:List Env) (s:Shared) (H:Hp) (vs:List V) (Q:VK) (E:XK),Y2 k (A.deeper (envOfC c (Zg st) s.heap.objs.size f a))→sp vs H Q E →
   ∃t,PSs (WD CX0 P w K mg base N c (Zg st) f a A outer s H E).nox (Zo st) t∧t { nx:=fun _ H'=>Q .non H',rt:=Q } (Xb N vs) H):Mf P w K mg base (k+1) C m ps sp:=by
 obtain⟨f,e,F,m,b⟩:=T.ex;exact⟨f,e,F.ok S len (fun a A outer s H vs Q E g h=>d a f A outer s H vs Q E g h),m,b⟩
theorem To.cf{C:Addr}{x c:Str}{st:Stmt}{N ps:List Str}{k:Nat}{sp:Sp}(T:To K mg C x c st ps)(S:Zs N ps (Zg st))(len:∀vs H Q E,sp vs H Q E→vs.length=ps.length)
  (d:∀ (a:Value) (f:Addr) (A:Around) (outer:List Env) (s:Shared) (H:Hp) (vs:List V) (Q:VK) (E:XK),Y2 k (A.deeper (envOfC c (Zg st) s.heap.objs.size f a))→sp vs H Q E →
   ∃t,PSs (WD CX0 P w K mg base N c (Zg st) f a A outer s H E).nox (Zo st) t∧t { nx:=fun _ H'=>Q .non H',rt:=Q } (Xb N vs) H):Cf P w K mg base (k+1) C x ps sp:=by
 obtain⟨f,e,F,m,b,g⟩:=T.ex;exact⟨f,e,F.ok S len (fun a A outer s H vs Q E i h=>d a f A outer s H vs Q E i h),m,b,g⟩
end
section
variable {X:Cx} {k j:Nat} {C:Addr} {m x:Str} {ps:List Str} {sp:Sp} {o e:Expr} {es:List Expr} {ta:TE} {t:TA} {p aw pos:Pos} {pl:Sem Bool}
theorem XI(F:Mf X.prog X.w X.K X.mg X.base k C m ps sp)(c:Cls X.K C)(d:Y2 j X.A)(he:PE X o ta)(ha:PA X (e::es) t)(h:k≤j:=by decide)
  (i:starEach (e::es) X.env=(false,eval e X.env)::starEach es X.env:=by rfl) (l:(backTo pos (starEach es X.env)).any (·.1)=false:=by rfl)
  (n:eval (.Call (.Attribute o m aw) (e::es) [] pos) X.env=(do
   let a ← eval o X.env
   standAt aw.atName
   let (f,first) ← holding [a] (getMethod a m pl)
   callWith pos f first (backTo pos (starEach (e::es) X.env)) (backToKw pos (keywordEach [] X.env))):=by rfl) :
  PE X (.Call (.Attribute o m aw) (e::es) [] pos) (TF C m sp [] E0 ta t):=by
 obtain⟨f,fd,F,g,b⟩:=F.ex;exact Zot he c g F (d.mono h) b .nil TD ha i l n
theorem YQ(F:Mf X.prog X.w X.K X.mg X.base k C m ps sp)(c:Cls X.K C)(d:Y2 j X.A)(he:PE X o ta)(e:k≤j:=by decide)
  (h:eval (.Call (.Attribute o m aw) [] [] pos) X.env=(do
   let a ← eval o X.env
   standAt aw.atName
   let (f,first) ← holding [a] (getMethod a m pl)
   callWith pos f first (backTo pos (starEach [] X.env)) (backToKw pos (keywordEach [] X.env))):=by rfl) :
  PE X (.Call (.Attribute o m aw) [] [] pos) (TF C m sp [] E0 ta RX):=by
 obtain⟨f,fd,F,g,b⟩:=F.ex;exact Znc he c g F (d.mono e) b .nil TD h
theorem Wh(F:Cf X.prog X.w X.K X.mg X.base k C x ps sp)(a:Y2 j X.A)(ha:PA X (e::es) t)(c:k+1≤j:=by decide)(d:Gl X x:=by rfl)(h:(x == ("__debug__" : Str))=false:=by decide)
  (i:starEach (e::es) X.env=(false,eval e X.env)::starEach es X.env:=by rfl) (l:(backTo pos (starEach es X.env)).any (·.1)=false:=by rfl) :
  PE X (.Call (.Name x p) (e::es) [] pos) (NN C sp [] E0 t):=by
 obtain⟨f,fd,F,g,b,m⟩:=F.ex;exact ZoV g F (a.mono c) d m b .nil TD ha h i l
end
section
variable {X:Cx} {aa:List (Addr×Obj)} {σ:St} {H:Hp} {s:Shared} {d:Addr} {o:Obj} {u:HO}
theorem Inv.freeze(I:Inv X aa σ H s)(e:H d=some u)(a:Mut (some u))(c:s.heap.get? d=some o):Inv X aa σ (upd H d (.frz o u)) s:=by
 have h:=I.write (x:=d) (e:=d) (o:=.frz o u) (t':=s.toks) (h':=s.heap) (by rw[e];exact a) #[8] (fun b v _ q=>q) ⟨o,c⟩ ?_
 ·exact h
 ·refine⟨c,(I.hok d u e).stay (fun b v _ q=>q) (fun b q=>?_) (fun b xs q=>?_)⟩
  ·rw[Zc (fun z=>by rw[z,e]at q;cases q;exact a)];exact q
  ·rw[Zc (fun z=>by rw[z,e]at q;cases q;exact a)];exact q
theorem Inv.nofrz(I:Inv X aa σ H s)(e:H d=some u)(c:Mut (some u)):∀a b,X.H₀ d≠some (.frz a b):=fun a b z=>by have:=I.base.frzs d a b z;rw[e]at this;cases this;exact c
theorem Inv.thaw(I:Inv X aa σ H s)(e:H d=some (.frz o u))(mu:Mut (some u))(n:∀h i,X.H₀ d≠some (.frz h i)):Inv X aa σ (upd H d u) s:=by
 have j:∀b,H b=none→b≠d:=fun b z=>Zb (H:=H) e z |>.symm;refine⟨I.ok,I.os,I.bare,⟨I.base.keep,I.base.slot,fun b v a1 a2 a3=>?_,I.base.there,fun b f q=>?_,fun b h i q=>?_,fun b l q=>?_⟩,I.loc,I.cell,?_,fun x c q=>?_,fun p m=>?_,?_,I.len⟩
 ·have:=I.base.free b v a1 a2 a3;rw[Zc (j b this)];exact this
 ·have:=I.base.tups b f q;rw[Zc (fun z=>by rw[z,e]at this;cases this)];exact this
 ·have:=I.base.frzs b h i q;rw[Zc (fun z=>by rw[z]at q;exact n h i q)];exact this
 ·obtain⟨g,this⟩:=I.base.tbls b l q;refine⟨g,?_⟩;rw[Zc (fun z=>by rw[z,e]at this;cases this)];exact this
 ·rw[Zc (j _ I.free)];exact I.free
 ·rw[Zc (j _ (I.freeC x c q))];exact I.freeC x c q
 ·obtain⟨a1,a2,a3⟩:=I.pin p m;exact⟨a1,by rw[Zc (j _ a2)];exact a2,a3⟩
 ·intro b v q;have own:∀c a,H c=some (.own a)→(upd H d u) c=some (.own a):=fun c a q=>by rw[Zc (fun z=>by rw[z,e]at q;cases q)];exact q
  have tup:∀c f,H c=some (.tup f)→(upd H d u) c=some (.tup f):=fun c f q=>by rw[Zc (fun z=>by rw[z,e]at q;cases q)];exact q
  by_cases k:b=d
  ·subst k;rw[Zd]at q;cases q;obtain⟨_,r⟩:=(show YZ X.prog X.w H s.heap b (.frz o u) from I.hok b _ e);exact r.stay (fun c v _ q=>q) (fun c q=>own c b q) tup
  ·rw[Zc k]at q;exact(I.hok b v q).stay (fun c v _ q=>q) (fun c q=>own c b q) tup
end
def Zrv(t:TE):TE:=fun a H Q=>∃d u,H d=some u∧Mut (some u)∧t a H fun v H'=>∃o,H' d=some (.frz o u)∧Q v (upd H' d u)
theorem MT{X:Cx}{e:Expr}{t:TE}(h:PE X e t):PE X e (Zrv t):=by intro b s c H Q I q;obtain⟨d,u,f,a,q⟩:=q;have n:=I.nofrz f a;refine thn (h b s c H _ I q) ?_;rintro v s1 ⟨x,H1,g,i,o,j,k⟩;exact⟨x,_,g.thaw j a n,i,k⟩
theorem MR{P:Program}{w:World}{k:Key}{v:Value}(h:(ZH P w).is k v=true):ZL (kV k) v:=by
 rw[Zj1]at h;rcases WW h with⟨i,t,rfl,rfl⟩|⟨x,t,rfl,rfl⟩
 ·exact⟨t,rfl⟩
 ·exact⟨t,rfl⟩
def MQ:List V→Hp→VK→Prop:=fun xs H Q=>∃d kvs,xs=[.ref d]∧H d=some (.dK kvs)∧∀l,H l=none→Q (.ref l) (upd H l (.lst (kvs.map fun a=>kV a.1)))
theorem MP{P:Program}{w:World}:∀ (kvs:List (Key×V)) (vs:List (Key×Value)) (us:List Value),KV kvs vs→us.length=vs.length→(∀ (j:Nat) (v:Value),us[j]? = some v→∃k x,vs[j]? = some (k,x)∧(ZH P w).is k v=true)→ZJ (kvs.map fun f=>kV f.1) us:=by
 intro kvs vs us r;unfold KV at r;induction r generalizing us with
 | nil =>
  intro c _;cases us with
  | nil=>exact .nil
  | cons a b=>simp at c
 | @cons p q ps qs h t g =>
  intro c d;cases us with
  | nil=>simp at c
  | cons a b =>
   obtain⟨k,x,e,i⟩:=d 0 a rfl;have l:q=(k,x):=by simpa using e
   rw[Qk];refine .cons ?_ (g b (by simpa using c) fun j v m=>?_)
   ·rw[h.1,l];exact MR i
   ·simpa using d (j+1) v (by simpa using m)
theorem ZkA{X:Cx}(hc:X.calm=true):YT X (.type "list") MQ:=by intro aa s σ H xs us Q I r h;obtain⟨d,b,rfl,m,q⟩:=h;obtain⟨u,rfl,n⟩:=Xy r;cases n;obtain⟨z,lo,k,f,p⟩:=(show YZ X.prog X.w H s.heap d (.dK b) from I.hok d _ m);obtain⟨ep,t⟩:=p.dictAt;have hl:b.length=k.length:=f.length;refine PySem.W.kdl_call (PySem.W.kdl_dict lo) (I.ok.hd hc) t #[2] fun h' x g c y A l=>?_;have B:ZJ (b.map fun i=>kV i.1) g.toList:=MP (P:=X.prog) (w:=X.w) b k g.toList f (by rw[Qaa];exact l.1) fun j v e=>l.2 j v (by rw[← Array.getElem?_toList];exact e);refine⟨.ref s.heap.objs.size,_,I.laid (a:=s.heap.objs.size) (o:=.lst (b.map fun i=>kV i.1)) (t':=x) y (Qh _) ?_,rfl,q _ (I.hok.fresh (Qh _))⟩;exact⟨by rw[Qa];exact z,g.toList,c,B,by simpa using A⟩
theorem Inv.dictF{X:Cx}{i:List (Addr×Obj)}{j:St}{H:Hp}{s:Shared}{d:Addr}{o:Obj}{kvs:List (Key×V)}{b:Array DictEntry}{c:Nat}(I:Inv X i j H s)(e:H d=some (.frz o (.dK kvs)))(hd:o.data=.dict b c) :
  ∃vs,KV kvs vs∧s.heap.DictAt (ZH X.prog X.w) d vs c:=by
 obtain⟨f,_,_,vs,a,o',og,oh,g,k,h,l⟩:=(show YZ X.prog X.w H s.heap d (.frz o (.dK kvs)) from I.hok d _ e);rw[f]at g;cases g;rw[hd]at h;cases h;exact⟨vs,a,o,b,f,k,hd,l⟩
theorem MO{kvs:List (Key×V)}{vs:List (Key×Value)}(r:KV kvs vs):∀ (i:Nat) (k:Key) (x:V),kvs[i]? = some (k,x)→∃u,vs[i]? = some (k,u)∧ZL x u:=by
 unfold KV at r;induction r with
 | nil=>intro i k x h;simp at h
 | @cons p q ps qs h t b =>
  intro i k x a;cases i with
  | zero =>
   have e:p=(k,x):=by simpa using a
   refine⟨q.2,?_,?_⟩
   ·have:q=(k,q.2):=by rw[show k=q.1 by rw[← h.1,e]]
    simpa using this
   ·have:=h.2;rw[e]at this;exact this
  | succ i=>simpa using b i k x (by simpa using a)
noncomputable def Itv(d:Addr)(o:Obj)(kvs:List (Key×V)):It :=
 ⟨fun i H=>H d=some (.frz o (.dK kvs))∧i<kvs.length,fun i H v a=>a=H∧∃k,kvs[i]? = some (k,v),fun i H=>H d=some (.frz o (.dK kvs))∧kvs.length≤i⟩
theorem ZlO{P:Program}{w:World}{K:#[7]}{O:Expr}{d it:Addr}{o:Obj}{kvs:List (Key×V)}{Q:Array DictEntry}{J:Nat}(hd:o.data=.dict Q J):VZ P w K O (Itv d o kvs) [it] it (fun i h=>h.IsValIter it d i kvs.length J) where
 mem:=by simp
 obj:=fun i h st b f=>by
  have e:b=it:=by simpa using f
  subst e;obtain⟨o,e,c,d⟩:=st;exact⟨o,e,fun v z=>by rw[d]at z;cases z⟩
 keep:=fun i h g st k=>by obtain⟨o,e,r⟩:=st;exact⟨o,k it #[4] o e,r⟩
 item:=by intro X m hw n L i M s N H E I j st p;subst m hw n;obtain⟨q,t,R,x,y,A⟩:=j it #[4];obtain⟨B,C⟩:=p;obtain⟨D,a,F⟩:=I.dictF B hd;have l:kvs.length=D.length:=a.length;obtain⟨u,S,T⟩:=MO a i kvs[i].1 kvs[i].2 (Qb C);refine wpAny_pyNext_values_item (by rw[← l];exact st) F S fun g G U=>?_;rw[← l]at G;have W:Inv X M N H { s with heap:=g }:=I.turned (t':=s.toks) (fun b o f e=>(U.2 b f).trans e) q t x y A;obtain⟨o1,Y,c1,Z⟩:=id G;exact⟨_,rfl,R8 (s:={ s with heap:=g }) Y c1 Z #[6] ⟨kvs[i].2,H,W,T,⟨rfl,kvs[i].1,Qb C⟩,G,fun b f=>(j b f).1⟩⟩
 done:=by intro X m hw n L i M s N H E I j st p;subst m hw n;obtain⟨q,t,R,x,y,A⟩:=j it #[4];obtain⟨B,C⟩:=p;obtain⟨D,a,F⟩:=I.dictF B hd;have l:kvs.length=D.length:=a.length;exact wpAny_pyNext_values_end (I.ok.hd L) (by rw[← l];exact st) F (QN #[2]) fun g eb=>⟨rfl,I.turned (t':=s.toks) (fun b o f e=>eb b o f e) q t x y A⟩
 self:=fun _ _ _ _ _ st h=>wpAny_pyIter_valiter st h
def MN:List V→Hp→VK→Prop:=fun xs H Q=>∃d kvs ns,xs=[.ref d]∧H d=some (.dK kvs)∧kvs.map (·.1)=ns.map Sum.inl∧ns.length<64 ∧
 ∀ (l:Addr) (a:List Int),H l=none→a.Perm ns→a.Pairwise (·≤·)→Q (.ref l) (upd H l (.lst (a.map V.int)))
theorem ZiU{X:Cx}(hc:X.calm=true):YT X (.builtin "sorted") MN:=by
 intro G s J H xs us Q I r h;obtain⟨d,c,n,rfl,K,x,y,q⟩:=h;obtain⟨u,rfl,L⟩:=Xy r;cases L;obtain⟨z,lo,A,i,M⟩:=(show YZ X.prog X.w H s.heap d (.dK c) from I.hok d _ K);obtain⟨ep,N⟩:=M.dictAt;have hl:c.length=A.length:=i.length;have Jf:c.length=n.length:=by have:=congrArg List.length x;simpa using this
 refine Calls.call_function_entry kind_sorted plain_sorted entry_sorted (args_sorted1 _) ?_;unfold Builtin.«sorted»;refine wpAny_bind (m:=checkCount "sorted" 1 1 _) (wpAny_pure ?_);refine wpAny_bind (PySem.W.kdu_collect (PySem.W.kdl_dict (knd:=ZH X.prog X.w) lo) (I.ok.hd hc) N #[2] fun f l g O B=>?_);have p:ZJ (c.map fun k=>kV k.1) g.toList:=MP (P:=X.prog) (w:=X.w) c A g.toList i (by rw[Qaa];exact B.1) fun j v e=>B.2 j v (by rw[← Array.getElem?_toList];exact e);have R:(c.map fun k=>kV k.1)=n.map V.int:=by
  have:(c.map fun k=>kV k.1)=(c.map (·.1)).map kV:=by rw[Qg];rfl
  rw[this,x,Qg];rfl
 rw[R]at p;have S:g.toList.length=n.length:=by rw[← p.length,Qa]
 refine wpAny_bind (wpAny_newList ?_ (by rw[S];exact Qam (QC y (by rw[sizeLine_eq];decide))));have t:(f.push (seqObj "list" g.toList.toArray 0)).get? f.objs.size=some (seqObj "list" g.toList.toArray 0):=Qs _ rfl;show wpAny _ _ _ _ _ { s with heap:=f.push (seqObj "list" g.toList.toArray 0),toks:=l };refine wpAny_bind (wpAny_holding (wpAny_call_entry slot_list_sort ⟨_,t,rfl⟩ entry_list_sort (list_sort_tree t (NH p) #[2] fun out C a1 a2 a3=>⟨_,rfl,?_⟩) (args_list_sort _)));refine wpAny_pure ⟨_,rfl,?_⟩;obtain⟨e,T⟩:=sortedHeap_at (out:=out) t;have D:Inv X G J H { s with heap:=f,toks:=l }:=I.kept (t':=l) O;have U:∀b o,f.get? b=some o→(sortedHeap (f.push (seqObj "list" g.toList.toArray 0)) f.objs.size g.toList out).get? b=some o:=fun b o E=>by have F:=Qq E;rw[sortedHeap_old (QB F) (by rw[size_push'];exact Nat.lt_succ_of_lt F)];exact Qc _ E
 refine⟨.ref f.objs.size,_,D.laid (a:=f.objs.size) (o:=.lst (C.map V.int)) (t':=l) U (Qh _) ?_,rfl,q _ C (D.hok.fresh (Qh _)) a2 a3⟩;have W:=a2.length_eq;exact⟨by rw[Qa,W];exact Qam (QC y (by rw[sizeLine_eq];decide)),out.toList,e,RS a1,by simpa using T⟩
def Zru(b:TE):TI:=fun c H R=>b c H fun x a=>∃d kvs,x=.ref d∧a d=some (.dK kvs)∧∀o,R (Itv d o kvs) (upd a d (.frz o (.dK kvs)))
theorem Zpg{X:Cx}{F o:Expr}{to:TE}{t u:Pos}(G:PE X o to)(J:attributeBase o "values" X.env (eval o X.env)=eval o X.env:=by rfl)(K:(t.endLine == u.line)=true:=by rfl) :
  PI X F (.Call (.Attribute o "values" t) [] [] u) (Zru to):=by
 intro w s y H R I h;refine wpAny_Call_method0_late J K (thn (G w s y H _ I h) ?_);rintro v c ⟨x,k,A,L,M⟩;obtain⟨d,f,e,B,q⟩:=M;subst e;cases L;obtain⟨z,lo,i,l,g,C,D,j,m,n,E⟩:=(show YZ X.prog X.w k c.heap d (.dK f) from A.hok d _ B);have N:f.length=i.length:=l.length;have O:=A.freeze B True.intro j;have p:c.heap.DictOf (ZH X.prog X.w) d i:=⟨g,C,D,j,m,n,E⟩;refine⟨"dict", "dict.values",Q5,PySem.F.slot_dict_values,PySem.F.type_dict_values,p.typeIs,fun a e=>?_,?_⟩
 ·cases e;exact⟨g,j,m.2.1⟩
 refine Calls.callWith_builtin rfl (PySem.evalArgs_none ?_);refine call_meetsIn PySem.F.slot_dict_values p.typeIs PySem.F.entry_dict_values (PySem.F.args_dict_values_1 _) (meets_dict_values (ZH X.prog X.w) d lo) ⟨⟨i,p⟩,?_⟩;have P:(c.heap.push { cls:=.type "dict_values",data:=.fields #[.ref d] }).IsValuesView c.heap.objs.size d:=⟨_,Qs _ rfl,rfl,rfl⟩;have Q:(c.heap.push { cls:=.type "dict_values",data:=.fields #[.ref d] }).DictAt (ZH X.prog X.w) d i D:=⟨g,C,Qc _ j,m,n,E⟩;refine wpAny_pyIter_values (s:={ c with heap:=c.heap.push { cls:=.type "dict_values",data:=.fields #[.ref d] } }) P Q ?_;rw[← N];have r:Inv X w y (upd k d (.frz g (.dK f))) { c with heap:=c.heap.push { cls:=.type "dict_values",data:=.fields #[.ref d] } }:=O.kept (t':=c.toks) fun b o e=>Qc _ e;refine⟨_,[_],_,Itv d g f,upd k d (.frz g (.dK f)),rfl,r.kept (t':=c.toks) fun b o e=>Qc _ e,ZlO n,⟨_,Qs _ rfl,rfl,rfl⟩,fun b S=>?_,q g⟩;have e:=Qn.mp S;rw[e];exact r.fpOk (Qh _) (r.hok.fresh (Qh _))
noncomputable def Iti(d:Addr)(o:Obj)(kvs:List (Key×V)):It :=
 ⟨fun i H=>H d=some (.frz o (.dK kvs))∧i<kvs.length,
  fun i H v a=>∃p k x,H p=none∧v=.ref p∧kvs[i]? = some (k,x)∧a=upd H p (.tup [kV k,x]),
  fun i H=>H d=some (.frz o (.dK kvs))∧kvs.length≤i⟩
theorem Zky{P:Program}{w:World}{K:#[7]}{Q:List Expr}{R:Nat}{S:Pos}{d it:Addr}{o:Obj}{kvs:List (Key×V)}{T:Array DictEntry}{D:Nat}(hd:o.data=.dict T D) :
  VZ P w K (.Tuple Q R S) (Iti d o kvs) [it] it (fun i h=>∃ok j,IsItemIter h it d i kvs.length D ok j) where
 mem:=by simp
 obj:=fun i h st b g=>by
  have e:b=it:=by simpa using g
  subst e;obtain⟨ok,j,a⟩:=st;exact⟨_,a,fun v z=>by cases z⟩
 keep:=fun i h p st k=>by obtain⟨ok,j,a⟩:=st;exact⟨ok,j,k it #[4] _ a⟩
 item:=by
  intro X r hw t l i F s G H E I m st x;subst r hw t;obtain⟨ok,j,a⟩:=st;obtain⟨y,A⟩:=x;obtain⟨B,f,C⟩:=I.dictF y hd;have n:kvs.length=B.length:=f.length;obtain⟨u,U,W⟩:=MO f i kvs[i].1 kvs[i].2 (Qb A);refine wpAny_pyNext_items_item (by rw[← n];exact a) C U fun key p Y a1 a2 a3 a4=>?_;rw[← n]at a1;have lt:∀ {b:Addr} {o:Obj},s.heap.get? b=some o→s.heap.objs.size≠b:=fun q=>QY (Qq q);have J:s.heap.objs.size≠it:=lt a;refine⟨_,rfl,wpAny_letOwnedTupleGo_items a1 fun L M Z=>?_⟩;have N:Heap.SameBut it p L:=Z;have I2:Inv X F G (upd H s.heap.objs.size (.tup [kV kvs[i].1,kvs[i].2])) { s with heap:=L,toks:=s.toks }:=by
   refine I.zipped (fp:=[it]) (u:=key) (v:=u) m (MR Y) W (N.extBut _ _ J a2) (fun b g=>?_) fun c o l q=>?_
   ·have e:=Qn.mp g;subst e;exact⟨_,M⟩
   ·have O:c≠it:=fun z=>l (by rw[z];simp);exact N.extBut _ _ O (a4 c o O q)
  refine⟨.ref s.heap.objs.size,_,I2,rfl,⟨s.heap.objs.size,kvs[i].1,kvs[i].2,I.fresh,rfl,Qb A,rfl⟩,⟨_,_,M⟩,fun b g=>?_⟩;have e:=Qn.mp g;subst e;rw[Zc J.symm];exact(m _ g).1
 done:=by intro X r hw t l i F s G H E I m st x;subst r hw t;obtain⟨ok,j,a⟩:=st;obtain⟨f0,f1,f2,f3,f4,f5⟩:=m it #[4];obtain⟨y,A⟩:=x;obtain⟨B,f,C⟩:=I.dictF y hd;have n:kvs.length=B.length:=f.length;exact wpAny_pyNext_items_end (I.ok.hd l) (by rw[← n];exact a) C (QN #[2]) fun p eb=>⟨rfl,I.turned (t':=s.toks) (fun b o g e=>eb b o g e) f0 f1 f3 f4 f5⟩
 self:=fun _ _ _ _ _ st h=>by obtain⟨ok,j,a⟩:=st;exact PySem.W.kcp_self a h
def Zp6(b:TE):TI:=fun c H R=>b c H fun x a=>∃d kvs,x=.ref d∧a d=some (.dK kvs)∧∀o,R (Iti d o kvs) (upd a d (.frz o (.dK kvs)))
theorem Zns{X:Cx}{F:List Expr}{G:Nat}{J:Pos}{o:Expr}{to:TE}{t u:Pos}(K:PE X o to)(L:attributeBase o "items" X.env (eval o X.env)=eval o X.env:=by rfl)(M:(t.endLine == u.line)=true:=by rfl) :
  PI X (.Tuple F G J) (.Call (.Attribute o "items" t) [] [] u) (Zp6 to):=by
 intro w s y H R I h;refine wpAny_Call_method0_late L M (thn (K w s y H _ I h) ?_);rintro v c ⟨x,k,A,N,O⟩;obtain⟨d,f,e,B,q⟩:=O;subst e;cases N;obtain⟨z,lo,i,l,g,C,D,j,m,n,E⟩:=(show YZ X.prog X.w k c.heap d (.dK f) from A.hok d _ B);have P:f.length=i.length:=l.length;have Q:=A.freeze B True.intro j;have p:c.heap.DictOf (ZH X.prog X.w) d i:=⟨g,C,D,j,m,n,E⟩;refine⟨"dict", "dict.items",Q5,PySem.F.slot_dict_items,PySem.F.type_dict_items,p.typeIs,fun a e=>?_,?_⟩
 ·cases e;exact⟨g,j,m.2.1⟩
 refine Calls.callWith_builtin rfl (PySem.evalArgs_none ?_);refine call_meetsIn PySem.F.slot_dict_items p.typeIs PySem.F.entry_dict_items (PySem.F.args_dict_items_1 _) (meets_dict_items (ZH X.prog X.w) d lo) ⟨⟨i,p⟩,?_⟩;have S:(c.heap.push { cls:=.type "dict_items",data:=.fields #[.ref d] }).IsItemsView c.heap.objs.size d:=⟨_,Qs _ rfl,rfl,rfl⟩;have T:(c.heap.push { cls:=.type "dict_items",data:=.fields #[.ref d] }).DictAt (ZH X.prog X.w) d i D:=⟨g,C,Qc _ j,m,n,E⟩;refine wpAny_pyIter_items (s:={ c with heap:=c.heap.push { cls:=.type "dict_items",data:=.fields #[.ref d] } }) S T ?_;rw[← P];have r:Inv X w y (upd k d (.frz g (.dK f))) { c with heap:=c.heap.push { cls:=.type "dict_items",data:=.fields #[.ref d] } }:=Q.kept (t':=c.toks) fun b o e=>Qc _ e;refine⟨_,[_],_,Iti d g f,upd k d (.frz g (.dK f)),rfl,r.kept (t':=c.toks) fun b o e=>Qc _ e,Zky n,⟨_,_,Qs _ rfl⟩,fun b U=>?_,q g⟩;have e:=Qn.mp U;rw[e];exact r.fpOk (Qh _) (r.hok.fresh (Qh _))
theorem Zpf{X:Cx}{b:List (Addr×Obj)}{s:Shared}{c:St}{H:Hp}{d:Addr}{kvs:List (Key×V)}{k:Key}{v:V}{e u:Value}{Q:Hp→Prop}(I:Inv X b c H s)(f:H d=some (.dK kvs))(hz:kvs.length<sizeLine)(h:ZL (kV k) e)(i:ZL v u)
  (q:Q (upd H d (.dK (YY kvs k v)))):#[9,X] (dictSet d e u) (fun _ s'=>∃H',Inv X b c H' s'∧Q H') X.xe s:=by
 obtain⟨_,j,vs,a,l⟩:=Tr I.hok f;refine wpAny_dictSet_pairs (knd:=ZH X.prog X.w) (k:=k) (Wj h) l (fun h' g m=>?_) (by rw[← a.length];lia);refine⟨_,?_,q⟩;obtain⟨o,n,_⟩:=Heap.dictOf_iff.mp g;exact UG I (by rw[f];exact True.intro) m ⟨o,n⟩ (Tq (Qv (Ts kvs k v) #[2]) j (a.put k i) g)
def MM(J:It)(D:Addr)(k:Nat)(q:St)(r:Hp)(g:TG)(s:TT)(tk t:TE)(Q:VK):Prop :=
 ∃W:Nat→Nat→List (Key×V)→St→Hp→Prop,(∃m,W 0 m [] (q++List.replicate k none) (upd r D (.dK []))) ∧
  ∀i m a e c,W i m a e c→(J.stop i c∧Q (.ref D) c) ∨
   (J.go i c∧∃N:List (Key×V)→St→Hp→Prop,(∀f h j,N f h j→∃l,l<m∧W (i+1) l f h j)∧∀x n,J.yld i c x n→g x e n fun d u=>s d u fun b o =>
    if b=true then tk d o fun v w=>t d w fun y p=>∃k:Key,v=kV k∧p D=some (.dK a)∧a.length<sizeLine∧N (YY a k y) d (upd p D (.dK (YY a k y))) else N a d o)
def ML(n:Nat)(c:TI)(g:TG)(d:TT)(tk e:TE):TE:=fun a H Q=>c a H fun J b=>∀D,b D=none→MM J D n a b g d tk e Q
section
variable {X:Cx} {N N':List Str} {o c:Scope}
theorem Zlx{kx vx tg iter:Expr}{bg:List Expr}{pos bF:Pos}{wi:TI}{g:TG}{tc:TT}{tk te:TE}{use:Option (Value→Sem Unit)}{QQ:Value→Shared→Prop}(S:YM N N' o c)(hN:X.N=N)(ho:X.env.scope=o)(hc:X.calm=true)
  (hi:PI X tg iter wi) (hg:∀C s H fp,PG (YN X c N' C s H fp) tg g) (ht:∀C s H fp,PTs (YN X c N' C s H fp) bg tc) (hk:∀C s H fp,PE (YN X c N' C s H fp) kx tk) (he:∀C s H fp,PE (YN X c N' C s H fp) vx te)
  (hs:∀x,foldedSetIterable iter X.env x=pure x) {V:List (Addr×Obj)} {s:Shared} {σ:St} {H:Hp} {Q:VK} (I:Inv X V σ H s) (h:ML (N'.length-N.length) wi g tc tk te σ H Q)
  (post:∀ (D C:Addr) (t:Shared) (l:Hp) (m:Str→Option Value),Inv X V σ l t→l C=none→t.heap.Ns C m→C≠X.env.locals→X.s₀.heap.objs.size≤C→(∀x a,X.env.cells.lookup x=some a→a≠C)→(∀p∈X.pn++V,p.1≠C) →
   Q (.ref D) l→compPost (model X.prog X.w) X.A X.xe use QQ (.ref D) C (.ok .next) t) :
  #[9,X] (comprehension (.DictComp kx vx [⟨tg,iter,bg,0⟩] c pos) c X.env bF newDict false (eval iter X.env) use) QQ X.xe s:=by
 have jE:closureFor c X.env=pure (Y4 X.env.cells c.names []):=Nx fun y hy hf=>by refine I.ok.has y.1 ?_;show X.env.scope.names.lookup y.1=_∨X.env.scope.names.lookup y.1=_;rw[ho];exact(S.free y hy hf).2
 refine wpAny_comprehension_free (use:=use) rfl hs jE S.kind S.loc (thn (hi V s σ H _ I h) fun v s1 h1=>thn h1 fun on f h2=>?_);obtain⟨it,fp,tn,J,B,e,I2,T,gl,f2,hR⟩:=h2;subst e;have hD:B f.heap.objs.size=none:=I2.fresh;have O:Inv X V σ (upd B f.heap.objs.size (.dK [])) { f with heap:=f.heap.push { cls:=.type "dict",data:=.dict #[] } } :=
  I2.laid (t':=f.toks) (fun _ _ q=>Qc _ q) (Qh _) (RC _ (Nat.lt_trans #[6] (show mainGlobals<f.heap.objs.size from(I2.mod.glob.keeps I2.bk).lt)))
 have mh:∀b∈fp,b<f.heap.objs.size:=fun b k=>by obtain⟨A,e,_⟩:=T.obj 0 _ gl b k;exact Qq e
 refine wpAny_newObj_type (wpAny_newFunctionEnv S.nocell (by intro y hy;simp at hy) (fun G h9 ic=>?_) S.kind);have P:∃j:Shared,j={ f with heap:=f.heap.push { cls:=.type "dict",data:=.dict #[] } }:=⟨_,rfl⟩;obtain⟨j,jF⟩:=P;have P:j.heap=f.heap.push { cls:=.type "dict",data:=.dict #[] }:=by rw[jF]
 have iS:j.heap.objs.size=f.heap.objs.size+1:=by rw[P,Q8]
 have mi:∀b∈fp,b<j.heap.objs.size:=fun b k=>QC (mh b k) (by rw[iS];exact QaN _);have f3:∀b∈fp,Xz X V (upd B f.heap.objs.size (.dK [])) b:=fun b k=>⟨by rw[Zc (QB (mh b k))];exact(f2 b k).1,(f2 b k).2⟩;have kX:tn 0 j.heap:=T.keep 0 _ _ gl fun b _ A e=>by rw[P];exact Qc _ e
 rw[← jF]at O;show codeAny (model X.prog X.w) X.A (.compStart _ 0 (.ref it) (.ref f.heap.objs.size) (compEnvC c (Y4 X.env.cells c.names []) (f.heap.push { cls:=.type "dict",data:=.dict #[] }).objs.size X.env))
  (compPost (model X.prog X.w) X.A X.xe use QQ (.ref f.heap.objs.size) (f.heap.push { cls:=.type "dict",data:=.dict #[] }).objs.size)
  { f with heap:=G,toks:=f.toks+([]:List (Str×Value)).length }
 have cC:G.Ns j.heap.objs.size (fun x=>([]:List (Str×Value)).reverse.lookup x):=by rw[P];exact h9
 have mj:∀b A,j.heap.get? b=some A→G.get? b=some A:=fun b A e=>by rw[P]at e;exact ic.extBut b A (QB (Qq e)) (Qc _ e)
 rw[← P];have qB:({ f with heap:=G,toks:=f.toks+([]:List (Str×Value)).length }:Shared)={ j with heap:=G,toks:=f.toks }:=by rw[jF];rfl
 rw[qB];obtain⟨W,⟨m0,w0⟩,turn⟩:=hR f.heap.objs.size hD;have I4:=Nu (tk:=f.toks) S hN ho O f3 mi cC mj;have ml:tn 0 G:=T.keep 0 _ _ kX fun b _ A e=>mj b A e;generalize w:YN X c N' j.heap.objs.size j (upd B f.heap.objs.size (.dK [])) fp=Y at I4;have K:Y.prog=X.prog:=by rw[← w];rfl
 have L:Y.w=X.w:=by rw[← w];rfl
 have YK:Y.K=X.K:=by rw[← w];rfl
 have Yc:Y.calm=true:=by rw[← w];exact hc
 have YA:Y.A=X.A:=by rw[← w];rfl
 have iU:Y.env=compEnvC c (Y4 X.env.cells c.names []) j.heap.objs.size X.env:=by rw[← w];rfl
 have Yl:Y.env.locals=j.heap.objs.size:=by rw[iU];rfl
 have gG:Y.xe=fun _ _=>False:=by rw[← w];rfl
 have mq:=hg j.heap.objs.size j (upd B f.heap.objs.size (.dK [])) fp;have bB:=ht j.heap.objs.size j (upd B f.heap.objs.size (.dK [])) fp;have h8:=hk j.heap.objs.size j (upd B f.heap.objs.size (.dK [])) fp;have aD:=he j.heap.objs.size j (upd B f.heap.objs.size (.dK [])) fp;rw[w]at mq bB h8 aD;have dr:∀ {R:Hp},(∀b∈fp,R b=none)→∀b∈fp,Xz Y [] R b:=fun {R} hn b k=>by
  obtain⟨_,q1,q2,q3,q4,_⟩:=f3 b k;have z1:=I4.ok.exf b (by rw[← w];exact k);refine⟨hn b k,z1.1,I4.ok.exfs b (by rw[← w];exact k),.inl (by rw[← w];exact k),z1.2,fun p hp=>?_⟩;have cX:p∈([]:List (Addr×Obj)):=by
   have:Y.pn=[]:=by rw[← w];rfl
   rw[this]at hp;exact hp
  cases cX
 have fin:∀ (t:Shared) (M:St) (l:Hp),Inv Y [] M l t→Q (.ref f.heap.objs.size) l→compPost (model X.prog X.w) X.A X.xe use QQ (.ref f.heap.objs.size) j.heap.objs.size (.ok .next) t:=fun t M l F q=>by
  obtain⟨m,hn,_⟩:=id F.loc;rw[Yl]at hn;have ie:l j.heap.objs.size=none:=by have:=F.free;rw[Yl]at this;exact this
  have un:Un (frs X.stack) fp (upd B f.heap.objs.size (.dK [])) l j.heap t.heap:=by have:=F.base;rw[← w]at this;exact this
  have qC:t.os=j.os:=by have:=F.os;rw[← w]at this;exact this
  have eS:HOk X.prog X.w l t.heap:=by have:=F.hok;rw[K,L]at this;exact this
  refine post _ _ t l m (O.call' (s':=t) (ch:=fp) qC un eS F.bare fun b k=>?_) ie hn (QY O.lt) O.sz (fun x a e=>?_) (fun p hp=>?_) q
  ·obtain⟨_,q1,_,q3,q4,q5⟩:=f3 b k;exact⟨q3,q1,q4,q5⟩
  ·obtain⟨v,A,e',_⟩:=O.cell x a e;exact QB (Qq e')
  ·exact QB (Qq (O.pin p hp).1)
 have iV:codeAny (model X.prog X.w) X.A (.compLoop (.DictComp kx vx [⟨tg,iter,bg,0⟩] c pos) 0 (.ref it) (.ref f.heap.objs.size) (compEnvC c (Y4 X.env.cells c.names []) j.heap.objs.size X.env))
   (compPost (model X.prog X.w) X.A X.xe use QQ (.ref f.heap.objs.size) j.heap.objs.size) { j with heap:=G,toks:=f.toks }:=by
  rw[← iU,← YA];refine Zhl (E:=fun _ _=>False) (fun n s'=>∃i ys aj R,Inv Y [] aj R s'∧tn i s'.heap∧(∀b∈fp,R b=none)∧W i n ys aj R) (fun _ _ z=>z) ?_ m0
   ⟨0,[],_,_,I4,ml,fun b k=>(f3 b k).1,?_⟩
  ·rintro n t ⟨i,ys,M,l,F,hZ,jA,w5⟩;rcases turn i n ys M l w5 with⟨stop,qn⟩|⟨go,Nn,mv,step⟩
   ·refine thn (T.done Y K L YK Yc i [] t M l _ F (dr jA) hZ stop) ?_;rintro r s6 ⟨hr,I6⟩;subst hr;have fq:=fin s6 M l I6 qn;rw[← YA]at fq;exact fq
   ·refine thn (T.item Y K L YK Yc i [] t M l _ F (dr jA) hZ go) ?_;rintro r s6 ⟨u,hr,h6⟩;subst hr;refine thn h6 ?_;rintro _ s7 ⟨x,H7,I7,r7,y7,jG,qD⟩;have qE:=I7.pinned (dr qD) (T.obj _ _ jG);have iW:∀ {jH:St} {U:Hp} {Z:Shared},Inv Y ([]++Vr fp s7.heap) jH U Z→Inv Y [] jH U Z∧tn (i+1) Z.heap∧∀b∈fp,U b=none:=fun {jH U Z} I9=>by refine⟨I9.unpinned,T.keep _ _ _ jG fun b k A e=>(I9.pin (b,A) (Qr _ (Qr _ (Vq k e)))).1,fun b k=>?_⟩;obtain⟨A,e,d⟩:=T.obj _ _ jG b k;exact(I9.pin (b,A) (Qr _ (Qr _ (Vq k e)))).2.1
    have P1:=mq _ s7 M H7 x u _ qE r7 (step x H7 y7);rw[K,L,gG]at P1;refine thn P1 ?_;rintro _ s8 ⟨fX,H8,I8,q8⟩;have P2:=bB _ s8 fX H8 _ I8 q8;rw[K,L,gG]at P2;refine thn P2 ?_;rintro ok Z ⟨U,I9,q9⟩;cases ok with
    | false=>rw[if_neg Ql]at q9;rw[if_neg Ql];obtain⟨b1,b2,b3⟩:=iW I9;obtain⟨m',bY,w9⟩:=mv _ _ _ q9;exact⟨m',bY,i+1,ys,fX,U,b1,b2,b3,w9⟩
    | true=>rw[if_pos rfl]at q9;rw[if_pos rfl];have P3:=h8 _ Z fX U _ I9 q9;rw[K,L,gG]at P3;refine thn P3 ?_;rintro kv iX ⟨vk,dB,qF,qG,qI⟩;have P4:=aD _ iX fX dB _ qF qI;rw[K,L,gG]at P4;refine thn P4 ?_;rintro y iY ⟨vy,i3,qJ,yT,kk,eb,qH,hsz,qK⟩;subst eb;have P5:=Zpf (X:=Y) qJ qH hsz qG yT qK;rw[K,L,gG]at P5;refine thn P5 ?_;rintro _ gK ⟨fv,yU,yV⟩;obtain⟨b1,b2,b3⟩:=iW yU;obtain⟨m',bY,yW⟩:=mv _ _ _ yV;exact⟨m',bY,i+1,YY ys kk vy,fX,fv,b1,b2,b3,yW⟩
  ·exact w0
 have lp:=T.self X.A 0 { j with heap:=G,toks:=f.toks } (fun qL s'=>codeAny (model X.prog X.w) X.A (.compLoop (.DictComp kx vx [⟨tg,iter,bg,0⟩] c pos) 0 qL (.ref f.heap.objs.size) (compEnvC c (Y4 X.env.cells c.names []) j.heap.objs.size X.env))
   (compPost (model X.prog X.w) X.A X.xe use QQ (.ref f.heap.objs.size) j.heap.objs.size) s') (fun _ _=>False) ml iV
 exact codeAny_compStart_dict iV (wpAny_mono lp (fun _ _ z=>z) fun _ _ z=>z.elim)
theorem ZmI{b d a iter:Expr}{e:List Expr}{pos:Pos}{f:TI}{g:TG}{i:TT}{tk j:TE}(S:YM N N' o c)(k:X.N=N)(l:X.env.scope=o)(hc:X.calm=true)
  (n:PI X a iter f) (p:∀C s H fp,PG (YN X c N' C s H fp) a g) (r:∀C s H fp,PTs (YN X c N' C s H fp) e i) (hk:∀C s H fp,PE (YN X c N' C s H fp) b tk) (he:∀C s H fp,PE (YN X c N' C s H fp) d j)
  (t:∀x,foldedSetIterable iter X.env x=pure x:=by intro _;rfl) :
  PE X (.DictComp b d [⟨a,iter,e,0⟩] c pos) (ML (N'.length-N.length) f g i tk j):=by
 intro aa s σ H Q I h;show wpAny _ _ (comprehension (.DictComp b d [⟨a,iter,e,0⟩] c pos) c X.env _ newDict false (eval iter X.env)) _ _ _;refine Zlx (use:=none) S k l hc n p r hk he t I h fun D C s5 u m v w y z A B E q=>⟨m,y,fun h' F=>?_⟩;exact⟨.ref D,u,v.let w z A B E F,rfl,q⟩
end
def Zpi:R2:=fun y x H Q=>∃a o,x=.ref a∧ZR H a y o∧Q (.bl (!o.isSome)) H
def Zsf:R2:=fun x y H Q=>∃a v,x=.ref a∧ZR H a y (some v)∧Q v H
section
variable {X:Cx} {k:Nat}
theorem ZqW(b:Y2 k X.A):OpR X (compareOp .NotIn) Zpi:=by intro aa s σ H x y v u Q I c d h;obtain⟨a,o,rfl,g,q⟩:=h;cases d;exact Zpr (TC b) I g c fun s3 e=>⟨.bl (!o.isSome),H,e,rfl,q⟩
noncomputable def Zrs:TR:=fun o i v H Q=>∃a H',o=.ref a∧YD H a i v H'∧Q H'
theorem X9(b:Y2 k X.A):Sa X Zrs:=by intro aa s σ H o i v ov iv u Q I c d e h;obtain⟨a,f,rfl,g,q⟩:=h;cases c;exact ZlG (TC b) I g d e fun s4 j=>⟨f,j,q⟩
theorem Zj6{prog:Program}{w:World}{A:Around}{E:Value→Shared→Prop}{s:Shared}{value b:Expr}{o i:Value}{T id:String}{Q:Value→Shared→Prop}(c:s.TypeIs o T)
  (hl:typeLookup (.type T) "__getitem__" = pure (some (.builtin id))) (e:subscripted b false o i=operate [o,i] (getItem o i)) (h:wpAny (model prog w) A (getItem o i) Q E s) :
  wpAny (model prog w) A (subscriptTail value b o i) Q E s:=by
 unfold subscriptTail;refine wpAny_bind ?_;rw[getitemInPython_of_ne c.not_modules];refine wpAny_bind (wpAny_specialOf c hl ?_);have a:wpAny (model prog w) A (subscripted b false o i) (fun r d=>wpAny (model prog w) A (letTemporaryGo value o r >>= fun _=>pure r) Q E d) E s:=by rw[e];exact wpAny_operating (wpAny_mono h (fun r d f=>wpAny_bind (wpAny_letTemporaryGo (wpAny_pure f))) fun _ _ x=>x)
 first
  | exact wpAny_pure (wpAny_bind a)
  | exact wpAny_bind (wpAny_pure (wpAny_bind a))
  | exact wpAny_bind a
theorem ixG(b:Y2 k X.A):IxR X Zsf:=by intro value cj aa s σ H x y v u Q I c d h e;obtain⟨a,z,rfl,g,q⟩:=h;cases c;exact Zj6 (ZjC I g) PySem.F.slot_dict_getitem.lookup e (Zlu (TC b) I g d fun w' s' f i=>⟨z,H,f,i,q⟩)
theorem MK:YT X (.builtin "len") (fun xs H Q=>∃a kvs,xs=[V.ref a]∧H a=some (.dK kvs)∧Q (.int kvs.length) H):=Zls
theorem Vf(hc:X.calm=true:=by rfl):YT X (.builtin "sorted") MN:=ZiU hc
theorem MJ(hc:X.calm=true:=by rfl):YT X (.type "list") MQ:=ZkA hc
end
mutual
inductive DH (H:Hp):V→PyData→Prop where
 | non:DH H .non .none
 | bl (b:Bool):DH H (.bl b) (.bool b)
 | int (i:Int):DH H (.int i) (.int i)
 | str (s:Str):DH H (.str s) (.str s)
 | lst {a:Addr} {xs:List V} {ds:List PyData}:H a=some (.lst xs)→DHs H xs ds→DH H (.ref a) (.list ds)
 | tup {a:Addr} {xs:List V} {ds:List PyData}:H a=some (.tup xs)→DHs H xs ds→DH H (.ref a) (.tuple ds)
inductive DHs (H:Hp):List V→List PyData→Prop where
 | nil:DHs H [] []
 | cons {x:V} {d:PyData} {xs:List V} {ds:List PyData}:DH H x d→DHs H xs ds→DHs H (x::xs) (d::ds)
end
mutual
theorem DH.mono{H H':Hp}(s:ZG H H'):∀ {x:V} {d:PyData},DH H x d→DH H' x d
 | _,_,.non=>.non
 | _,_,.bl b=>.bl b
 | _,_,.int i=>.int i
 | _,_,.str z=>.str z
 | _,_,.lst h a=>.lst (s _ _ h) (DHs.mono s a)
 | _,_,.tup h a=>.tup (s _ _ h) (DHs.mono s a)
theorem DHs.mono{H H':Hp}(s:ZG H H'):∀ {xs:List V} {ds:List PyData},DHs H xs ds→DHs H' xs ds
 | _,_,.nil=>.nil
 | _,_,.cons h a=>.cons (DH.mono s h) (DHs.mono s a)
end
mutual
theorem DH.dv{K:#[7]}{H:Hp}:∀ {x:V} {d:PyData},DH H x d→DV K H x d
 | _,_,.non=>.non
 | _,_,.bl b=>.bl b
 | _,_,.int i=>.int i
 | _,_,.str z=>.str z
 | _,_,.lst h a=>.lst (SqL.of h) (DHs.dv a)
 | _,_,.tup h a=>.tup (SqT.of h) (DHs.dv a)
theorem DHs.dv{K:#[7]}{H:Hp}:∀ {xs:List V} {ds:List PyData},DHs H xs ds→DVs K H xs ds
 | _,_,.nil=>.nil
 | _,_,.cons h a=>.cons (DH.dv h) (DHs.dv a)
end
theorem MI:∀ (more a:List (Key×V)),((a++more).map (·.1)).Nodup→Wi a more=a++more
 | [],a,_=>by show a=_;rw[QaK]
 | x::r,a,h=>by
  have hx:Z5 a x.1=none:=by
   cases b:Z5 a x.1 with
   | none=>rfl
   | some v=>have:=Zov b;rw[Qe,Qk]at h;have:=(List.nodup_append.mp h).2.2 x.1 this x.1 #[4];exact absurd rfl this
  show Wi (YY a x.1 x.2) r=_;rw[Wz _ hx,MI r (a++[x]) (by rw[QaU];exact h),QaU];rfl
theorem Wg{kvs:List (Key×V)}{k:Key}{v:V}(h:Z5 kvs k=some v):(k,v)∈kvs:=by
 unfold Z5 at h;obtain⟨p,a,rfl⟩:=QaT.mp h;have b:=List.find?_some a;have c:=QaF a;have:p.1=k:=by simpa using b
 rw[← this];exact c
theorem Tn{kvs:List (Key×V)}(a:(kvs.map (·.1)).Nodup){k:Key}{v:V}(h:(k,v)∈kvs):Z5 kvs k=some v:=by
 induction kvs with
 | nil=>cases h
 | cons p r b =>
  obtain⟨c,d⟩:=QR.mp (by simpa using a:(p.1::r.map (·.1)).Nodup);rcases QG.mp h with rfl|h
  ·exact Vi rfl
  ·rw[Vh fun e=>c (e ▸ Qd (f:=(·.1)) h)];exact b d h
theorem MH{α:Type}(xs:List α):∀n,n≤xs.length→((List.range n).filterMap fun i=>xs[i]?)=xs.take n
 | 0,_=>by simp
 | n+1,h=>by
  have a:n<xs.length:=by lia
  rw[QaL,Qav,MH xs n #[2],QJ];simp[List.getElem?_eq_getElem a]
theorem Tl(x:Str)(n:Nat):(Txt.slice x none (some (n:Int))).cps.toList=x.cps.toList.take n:=by
 have hl:x.cps.toList.length=x.length:=by simp[Str.length]
 have e:Builtin.Str.strSliceIndices none (some (n:Int)) 1 x.length=List.range (min n x.length):=by
  unfold Builtin.Str.strSliceIndices sliceRange;have b:¬ ((n:Int)<0):=by lia
  simp only[show (1:Int)>0 by decide,if_true,b,if_false];have c:max 0 (min (n:Int) (x.length:Int))=((min n x.length:Nat):Int):=by lia
  rw[c];split
  ·have a:((((min n x.length:Nat):Int)-0+1-1) / 1).toNat=min n x.length:=by rw[Int.ediv_one];lia
   rw[a];have:((fun (k:Nat)=>((0:Int)+1*(k:Int)).toNat))=id:=by funext k;simp
   rw[this,List.map_id]
  ·have a:min n x.length=0:=by lia
   rw[a];rfl
 unfold Txt.slice;rw[e];split
 ·rename_i h;have:min n x.length=x.length:=by simpa using h
  rw[Qw #[2]]
 ·show List.filterMap _ _=_;have:=MH x.cps.toList (min n x.length) #[2];simp only[Array.getElem?_toList]at this;rw[this];rcases Nat.le_total n x.length with h|h
  ·rw[Qas h]
  ·rw[Nat.min_eq_right h,Qw #[2],Qw #[2]]
end L2
namespace L2
open PySem PySem.Spec PyProof.Rows
theorem Zpn{d:Addr}{o:Obj}{kvs:List (Key×V)}{k:Nat}{D:Addr}{a:L2.St}{f:Hp}{g:TG}{h:TT}{j:TE}{Q:VK}(Pv:Nat→List V→L2.St→Hp→Prop)(h0:Pv 0 [] (a++List.replicate k none) (upd f D (.lst [])))
  (hl:∀i ys a H,Pv i ys a H→H d=some (.frz o (.dK kvs)))
  (s:∀i k x ys a H,kvs[i]? = some (k,x)→Pv i ys a H→g x a H fun c t=>h c t fun b l=>if b=true then j c l fun y n=>n D=some (.lst ys)∧ys.length<sizeLine∧Pv (i+1) (ys++[y]) c (upd n D (.lst (ys++[y]))) else Pv (i+1) ys c l)
  (hd:∀ys a H,Pv kvs.length ys a H→Q (.ref D) H):VN (Itv d o kvs) D k a f g h j Q:=by
 refine⟨fun i m ys a H=>m=kvs.length-i∧i≤kvs.length∧Pv i ys a H,⟨kvs.length,by simp,Qx _,h0⟩,?_⟩;rintro i m ys a H ⟨rfl,hi,p⟩;have q:=hl i ys a H p;by_cases r:i<kvs.length
 ·refine .inr ⟨⟨q,r⟩,Pv (i+1),fun fW aj u v=>⟨kvs.length-(i+1),by lia,rfl,r,v⟩,fun x u y=>?_⟩;obtain⟨rfl,k',e⟩:=y;exact s i k' x ys a _ e p
 ·have e:i=kvs.length:=by lia
  exact .inl ⟨⟨q,by lia⟩,hd ys a H (e ▸ p)⟩
noncomputable def off(p:Addr)(H:Hp):Hp:=fun b=>if b=p then none else H b
def Zrf:V→List V→Hp→VK→Prop:=fun x vs H Q=>∃a kvs k v,x=.ref a∧vs=[kV k]∧H a=some (.dK kvs)∧Z5 kvs k=some v∧Q v (upd H a (.dK (WZ kvs k)))
theorem RA{X:Cx}:MtM X "dict.pop" Zrf:=by intro aa s σ H x vs v us Q I b c h;obtain⟨a,kvs,k,y,rfl,rfl,d,e,q⟩:=h;cases b;obtain⟨u,rfl,f⟩:=c.one;exact ZrA I d f e #[8] fun w' s' g i=>⟨y,_,g,i,q⟩
theorem Rz{X:Cx}{s:Stmt}:PS X s (fun _ _ _=>False):=fun aa s' σ H D I h=>h.elim
theorem Zqj{X:Cx}{k:Nat}{o e:Expr}{b ty:TE}{c a:Pos}(f:Y2 k X.A)(g:PE X o b)(he:PE X e ty)(hb:attributeBase o "get" X.env (eval o X.env)=eval o X.env:=by rfl)
  (h:(c.endLine == a.line)=true:=by rfl) (d:backTo a (starEach [e] X.env)=[(false,eval e X.env)]:=by rfl):PE X (.Call (.Attribute o "get" c) [e] [] a) (MU b ty):=by
 refine Zoe (TC f) g he ⟨hb,?_,h,d⟩;rw[d];rfl
section
variable {X:Cx}
theorem ZpB{x:Str}{n:Int}{pos:Pos}(hm:∃tk,X.mg x=some (.int n tk))(a:Gl X x:=by rfl)(hd:(x == ("__debug__" : Str))=false:=by decide):PE X (.Name x pos) (tC (.int n)):=by obtain⟨tk,h⟩:=hm;exact ZoE a h ⟨tk,rfl⟩ hd
end
section
variable {X:Cx}
theorem MG:OpR X (compareOp .GtE) (fun x y H Q=>∃i j,x=.str i∧y=.str j∧Q (.bl (!decide (i.cps.toList<j.cps.toList))) H):=by intro aa s σ H x y v u Q I a b h;obtain⟨i,j,rfl,rfl,q⟩:=h;obtain⟨t,rfl⟩:=a;obtain⟨t',rfl⟩:=b;exact PySem.P.ge_str (ZY I q rfl)
end
def Zsp(t u:TS):TS:=fun D b H=>∃M:St→Hp→Prop,t { D with nx:=M } b H∧∀a H',M a H'→u D a H'
theorem Ve{X:Cx}{st:Stmt}{rest:List Stmt}{t u:TS}(h1:PS X st t)(h2:PSs X rest u):PSs X (st::rest) (Zsp t u):=by
 intro a s d H D I h;obtain⟨M,h,e⟩:=h;refine wpAny_execs_cons (thn (h1 a s d H { D with nx:=M } I h) fun f g q=>?_);cases f with
 | next=>obtain⟨b,c,i,q⟩:=q;exact h2 a g b c D i (e b c q)
 | ret v=>exact q
 | brk=>exact q
 | cont=>exact q
theorem Zph{d:Addr}{o:Obj}{kvs:List (Key×V)}{k:Nat}{D:Addr}{a:L2.St}{f:Hp}{g:TG}{h:TT}{tk j:TE}{Q:VK}(Pv:Nat→List (Key×V)→L2.St→Hp→Prop)(h0:Pv 0 [] (a++List.replicate k none) (upd f D (.dK [])))
  (hl:∀i ys a H,Pv i ys a H→H d=some (.frz o (.dK kvs)))
  (t:∀i k x ys a H p,kvs[i]? = some (k,x)→Pv i ys a H→H p=none→g (.ref p) a (upd H p (.tup [kV k,x])) fun c u=>h c u fun b l=>if b=true then tk c l fun v w=>j c w fun y n=>∃k:Key,v=kV k∧n D=some (.dK ys)∧ys.length<sizeLine∧Pv (i+1) (YY ys k y) c (upd n D (.dK (YY ys k y))) else Pv (i+1) ys c l)
  (hd:∀ys a H,Pv kvs.length ys a H→Q (.ref D) H):MM (Iti d o kvs) D k a f g h tk j Q:=by
 refine⟨fun i m ys a H=>m=kvs.length-i∧i≤kvs.length∧Pv i ys a H,⟨kvs.length,by simp,Qx _,h0⟩,?_⟩;rintro i m ys a H ⟨rfl,hi,p⟩;have q:=hl i ys a H p;by_cases s:i<kvs.length
 ·refine .inr ⟨⟨q,s⟩,Pv (i+1),fun fW aj z A=>⟨kvs.length-(i+1),by lia,rfl,s,A⟩,fun x z y=>?_⟩;obtain⟨r,k',B,C,rfl,e,rfl⟩:=y;exact t i k' B ys a H r e p C
 ·have e:i=kvs.length:=by lia
  exact .inl ⟨⟨q,by lia⟩,hd ys a H (e ▸ p)⟩
section
variable {prog:Program} {w:World} {A:Around} {E:Value→Shared→Prop} {s:Shared} {K:Type} [DecidableEq K] {knd:KeyKind prog w K}
theorem ZiF{o:Addr}{Q:Value→Shared→Prop}(e:s.TypeIs (.ref o) "dict")(am:o<s.heap.objs.size)
  (h:∀f:Value→Shared→Prop,wpAny (model prog w) A.in1.in1 (Builtin.Dict.mergeDict "dict.__init__" s.heap.objs.size o) (fun _ s'=>Q (.ref s.heap.objs.size) s') f { s with heap:=s.heap.push { cls:=.type "dict",data:=.dict #[] } }) :
  wpAny (model prog w) A (call (.type "dict") [.ref o]) Q E s:=by
 refine callType_codes (Q₁:=fun obj c=>obj=.ref s.heap.objs.size∧c={ s with heap:=s.heap.push { cls:=.type "dict",data:=.dict #[] } }) F.kt_called_dict (F.kt_typeCall_dict_1 _) F.entry_dict_init (kt_code_dict_new _ ⟨rfl,rfl⟩) ?_;rintro obj c ⟨rfl,rfl⟩;have d:(s.heap.push { cls:=.type "dict",data:=.dict #[] }).DictOf (intKind prog w) s.heap.objs.size []:=Heap.DictOf.new s.heap;have a:({ s with heap:=s.heap.push { cls:=.type "dict",data:=.dict #[] } }:Shared).TypeIs (.ref o) "dict":=by obtain⟨g,i,j⟩:=e;exact⟨g,Qc _ i,j⟩
 refine⟨d.typeIs,F.args_dict_init_2 _ _,?_⟩;unfold Builtin.«dict.__init__»;refine wpAny_bind ?_;unfold Builtin.Dict.selfAndRest;refine wpAny_bind (wpAny_notOrdered_dict d.typeIs ?_);show wpAny _ _ (pure (s.heap.objs.size,[Value.ref o])) _ _ _;refine wpAny_pure ?_;show wpAny _ _ (Builtin.Dict.updateFrom "dict.__init__" s.heap.objs.size (.ref o) [] .none) _ _ _;unfold Builtin.Dict.updateFrom;refine wpAny_bind (wpAny_typeOf (T := "dict") a ?_);rw[if_neg #[6]];refine wpAny_bind ?_;unfold Builtin.Dict.merge;refine wpAny_bind ?_;unfold Builtin.Dict.readDirectly;refine wpAny_bind (wpAny_isInstance (b:=true) a rfl ?_);rw[if_neg #[6]];refine wpAny_bind (wpAny_specialOf (r:=some (.builtin "dict.__iter__")) a rfl ?_);refine wpAny_pure ?_;rw[if_pos #[6]];refine wpAny_bind (wpAny_pure ?_);refine thn (h _) fun _ s' q=>?_;refine wpAny_bind ?_;unfold Builtin.Dict.addKeywords;refine wpAny_bind ?_;rw[List.forIn_nil];refine wpAny_pure (wpAny_pure ?_);exact wpAny_pure ⟨rfl,q⟩
end
theorem MF{α a:Type}[DecidableEq a](f:α→a)(c:a):∀l:List α,(l.map f).Nodup→(l.filter fun x=>f x == c).length≤1
 | [],_=>Qx _
 | x::r,h=>by
  rw[Qk,QR]at h;rw[List.filter_cons];split
  ·rename_i e;have e':f x=c:=by simpa using e
   have:r.filter (fun x=>f x == c)=[]:=List.filter_eq_nil_iff.mpr fun y b z=>h.1 (by rw[e',← (show f y=c by simpa using z)];exact Qd b);rw[this];exact Qh _
  ·exact MF f c r h.2
section
variable {prog:Program} {w:World} {A:Around} {E:Value→Shared→Prop} {s:Shared} {K:Type} [DecidableEq K] {knd:HeapKind prog w K}
theorem Ziq{id:String}{o:Addr}{f:Obj}{a:Array DictEntry}{i:Nat}{xs:List (K×Addr×Value)}{Q:Array DictEntry→Shared→Prop}(h1:s.heap.get? o=some f)(j:f.data=.dict a i)(g:a.toList=xs.map (entryOfKey knd))(k:(xs.map fun x=>knd.hash x.1).Nodup)(l:∀x∈xs,s.TypeIs (.ref x.2.1) "tuple")(q:Q a s) :
  wpAny (model prog w) A (Builtin.Dict.entriesForEmpty id o) Q E s:=by
 unfold Builtin.Dict.entriesForEmpty;refine wpAny_bind (wpAny_dictEntries h1 j ?_);refine wpAny_bind (wpAny_forIn_array' _ (fun rest _ c=>c=s∧∀e∈rest,e∈a.toList) _ ?_ ?_ a _ ⟨rfl,fun e d=>d⟩)
 ·rintro e rest b c ⟨rfl,h⟩;have d:e∈xs.map (entryOfKey knd):=by rw[← g];exact h e #[4]
  obtain⟨x,m,rfl⟩:=Qi.mp d;refine wpAny_bind ?_;show wpAny _ _ (do let r ← specialOf (.ref x.2.1) (Str.ofString "__eq__");pure (r == some (.builtin "object.__eq__"))) _ _ _;refine wpAny_bind (wpAny_specialOf (T := "tuple") (r:=some (.builtin "tuple.__eq__")) (l x m) rfl ?_);refine wpAny_pure ?_;rw[if_pos #[6],if_neg]
  ·exact wpAny_pure ⟨rfl,fun n p=>h n (Qt _ p)⟩
  ·have t:(a.toList.map fun e=>e.hash).Nodup:=by rw[g,Qg];exact k
   have:=MF (fun e:DictEntry=>e.hash) (entryOfKey knd x).hash a.toList t;rw[← Qaa,Array.toList_filter];lia
 ·rintro b c ⟨rfl,_⟩;exact wpAny_pure q
theorem Zkk{p:String}{d o:Addr}{xs:List (K×Addr×Value)}{Q:Unit→Shared→Prop}(q:d≠o)(t:(o == sysModules)=false)(hd:s.heap.get? d=some { cls:=.type "dict",data:=.dict #[] })(u:s.heap.DictOfH knd o xs)(hn:xs.length≤sizeLine)(v:(xs.map fun x=>knd.hash x.1).Nodup)(y:∀x∈xs,s.TypeIs (.ref x.2.1) "tuple")
  (h:∀k,k.DictOfH knd d xs→Heap.SameBut d s.heap k→Q () { s with heap:=k }):wpAny (model prog w) A (Builtin.Dict.mergeDict p d o) Q E s:=by
 obtain⟨oo,a,ep,g,i,j,c,B,m⟩:=u;unfold Builtin.Dict.mergeDict;rw[if_neg (by simpa using q)];refine wpAny_bind ?_;unfold Builtin.Dict.showsAll;rw[if_neg (by rw[t];decide)];refine wpAny_pure ?_;refine wpAny_bind (wpAny_dictEntries g j ?_);by_cases l:xs=[]
 ·subst l;have C:a = #[]:=by
   have:a.toList=[]:=by rw[c];rfl
   exact Array.toList_eq_nil_iff.mp this
  subst C;have D:=h s.heap ⟨_,#[],0,hd,⟨rfl,rfl,rfl⟩,rfl,rfl,fun x i=>(by cases i),m⟩ ⟨rfl,fun b _=>rfl⟩;rw[if_neg #[4]];refine wpAny_bind (wpAny_dictEpoch g j ?_);refine wpAny_bind (wpAny_dictEntries g j ?_);refine wpAny_bind ?_;rw[Std.Legacy.Range.forIn_eq_forIn_range'];show wpAny _ _ (forIn ([]:List Nat) PUnit.unit _) _ _ _;rw[List.forIn_nil];exact wpAny_pure (wpAny_pure D)
 ·have F:¬ a.all (fun e=>(keyPart e.key).isSome)=true:=fun z=>by obtain⟨x,r,rfl⟩:=List.exists_cons_of_ne_nil l;rw[← Array.all_toList,c,Qk,List.all_cons]at z;cases z
  rw[if_pos (by rw[Q9.mpr F,Bool.and_false];rfl)];refine wpAny_bind (wpAny_dictEntries hd rfl ?_);rw[if_pos #[5]];refine wpAny_bind (Ziq g j c v y ?_);have f:a.size=xs.length:=by rw[← Qaa,c,Qa]
  have e8:0<xs.length:=List.length_pos_iff.mpr l;rw[if_pos (by rw[show a.isEmpty=false from(by rw[Array.isEmpty_eq_false_iff];exact fun z=>by rw[z]at f;exact absurd f (by show ¬ 0=_;lia))];rfl)];refine wpAny_bind (wpAny_updateDictKeysTo hd rfl ?_ (by show a.size≤_;lia));refine wpAny_pure ?_;have n:Heap.SameBut d s.heap (s.heap.update d (Obj.mapDictKeys fun _=>a)):=Heap.SameBut.update _ _ _;refine h _ ⟨_,a,1,Heap.get?_update_self _ hd rfl,⟨rfl,rfl,rfl⟩,rfl,c,fun x i=>knd.keeps (B x i) hd rfl n,m⟩ n
end
theorem KT.same{H H':Hp}(k:∀b u,H b=some u→H' b=some u):∀ {kvs:List (List Key×V)} {xs:List (List Key×Addr×Value)},KT H kvs xs→KT H' kvs xs
 | _,_,.nil=>.nil
 | _,_,.cons ⟨a,b,c⟩ r=>.cons ⟨a,k _ _ b,c⟩ (KT.same k r)
theorem KT.keys{H:Hp}:∀ {kvs:List (List Key×V)} {xs:List (List Key×Addr×Value)},KT H kvs xs→kvs.map (·.1)=xs.map (·.1)
 | _,_,.nil=>rfl
 | _,_,.cons ⟨a,_,_⟩ r=>by rw[Qk,Qk,KT.keys r,a]
def Zq5:List V→Hp→VK→Prop:=fun xs H Q=>∃ (a:Addr) (kvs:List (List Key×V)),xs=[.ref a]∧H a=some (.dT kvs)∧(∀ (P:Program) (w:World),∀x∈kvs.map (·.1),∀y∈kvs.map (·.1),(tupleKind (ZH P w)).hash x=(tupleKind (ZH P w)).hash y→x=y)∧∀D,H D=none→Q (.ref D) (upd H D (.dT kvs))
theorem ZkF{X:Cx}:YT X (.type "dict") Zq5:=by
 intro aa s σ H xs us Q I r h;obtain⟨a,f,rfl,J,K,q⟩:=h;obtain⟨u,rfl,L⟩:=Xy r;cases L;obtain⟨z,M,j,g,v⟩:=MX I.hok J;have E:a<s.heap.objs.size:=by obtain⟨d,l,m,c,_⟩:=v;exact Qq c
 have F:H s.heap.objs.size=none:=I.hok.fresh (Qh _);have mono:∀x∈j,(tupleKind (ZH X.prog X.w)).is s.heap x.1 x.2.1→(tupleKind (ZH X.prog X.w)).is (s.heap.push { cls:=.type "dict",data:=.dict #[] }) x.1 x.2.1:=by rintro x _ ⟨o,its,n,c,r⟩;exact⟨o,its,n,Qc _ c,r⟩
 have w:(s.heap.push { cls:=.type "dict",data:=.dict #[] }).DictOfH (tupleKind (ZH X.prog X.w)) a j:=by obtain⟨d,l,m,c,k,B,C,p,D⟩:=v;exact⟨d,l,m,Qc _ c,k,B,C,fun x t=>mono x t (p x t),D⟩
 have hl:j.length=f.length:=by have:=congrArg List.length g.keys;rw[Qa,Qa]at this;exact this.symm
 refine ZiF (A:=X.A) v.typeIs E fun E'=>?_;refine Zkk (knd:=tupleKind (ZH X.prog X.w)) (QY E) M (Qs _ rfl) w #[2] ?_ (fun x t=>?_) fun N O P=>?_
 ·have G:=K X.prog X.w;rw[g.keys]at G;obtain⟨_,_,_,_,_,_,_,_,R⟩:=w;rw[show (j.map fun x=>(tupleKind (ZH X.prog X.w)).hash x.1)=(j.map (·.1)).map (tupleKind (ZH X.prog X.w)).hash by rw[Qg];rfl];exact List.pairwise_map.mpr (List.Pairwise.imp_of_mem (fun S i h e=>h (G _ S _ i e)) R)
 ·obtain⟨_,_,_,_,_,_,_,p,_⟩:=w;obtain⟨o,its,n,c,k,_⟩:=p x t;exact⟨o,c,k⟩
 ·have T:∀b d,s.heap.get? b=some d→N.get? b=some d:=fun b d i=>by rw[P.2 b (QB (Qq i))];exact Qc _ i
  have U:=g.same (H':=upd H s.heap.objs.size (.dT f)) fun b u i=>by rw[Zc (Zb i F)];exact i
  refine⟨.ref s.heap.objs.size,_,I.laid (a:=s.heap.objs.size) (o:=.dT f) (t':=s.toks) T (Qh _) ?_,rfl,q _ F⟩;obtain⟨d,l,m,c,k,B,C,p,D⟩:=O;exact⟨z,beq_eq_false_iff_ne.mpr fun y=>Q7 _ (y ▸ I.big),j,U,d,l,m,c,k,B,C,D⟩
noncomputable def ME(a b:Nat):Int:=reduceHash (Builtin.Tuple.tupleHashOf [hashInt (a:Int),hashInt (b:Int)])
noncomputable def Rx:List (Nat×Nat):=(List.range 36).flatMap fun b=>(List.range b).map fun a=>(a,b)
noncomputable def apart:List Int→Bool
 | []=>true
 | x::r=>r.all (fun y=>x != y)&&apart r
theorem MD:∀l:List Int,apart l=true→l.Nodup
 | [],_=>.nil
 | x::r,h=>by unfold apart at h;rw[QZ,QaC]at h;exact List.nodup_cons.mpr ⟨fun hx=>by have:=h.1 x hx;simp at this,MD r h.2⟩
theorem Zjb:apart (Rx.map fun p=>ME p.1 p.2)=true:=by ac_rfl
theorem MC{α b:Type}(f:α→b):∀l:List α,(l.map f).Nodup→∀x∈l,∀y∈l,f x=f y→x=y
 | [],_,_,h,_,_,_=>by cases h
 | a::r,nd,x,hx,y,hy,e=>by
  rw[Qk,QR]at nd;rcases QG.mp hx with h1|h1
  ·rcases QG.mp hy with h2|h2
   ·rw[h1,h2]
   ·exact absurd (by rw[← h1,e];exact Qd h2) nd.1
  ·rcases QG.mp hy with h2|h2
   ·exact absurd (by rw[← h2,← e];exact Qd h1) nd.1
   ·exact MC f r nd.2 x h1 y h2 e
theorem Zml{P:Program}{w:World}{a b c d:Int}(h:0≤a∧a<b∧b<36)(h':0≤c∧c<d∧d<36)(e:(tupleKind (ZH P w)).hash [.inl a,.inl b]=(tupleKind (ZH P w)).hash [.inl c,.inl d]):a=c∧b=d:=by obtain⟨a,rfl⟩:∃n:Nat,a=n:=⟨a.toNat,by lia⟩;obtain⟨b,rfl⟩:∃n:Nat,b=n:=⟨b.toNat,by lia⟩;obtain⟨c,rfl⟩:∃n:Nat,c=n:=⟨c.toNat,by lia⟩;obtain⟨d,rfl⟩:∃n:Nat,d=n:=⟨d.toNat,by lia⟩;have mem:∀a b:Nat,a<b→b<36→(a,b)∈Rx:=fun a b f g=>List.mem_flatMap.mpr ⟨b,Q1.mpr g,List.mem_map.mpr ⟨a,Q1.mpr f,rfl⟩⟩;have:=MC (fun p:Nat×Nat=>ME p.1 p.2) Rx (MD _ Zjb) (a,b) (mem a b #[2] #[2]) (c,d) (mem c d #[2] #[2]) e;injection this with i j;exact⟨by rw[i],by rw[j]⟩
structure CompScC (N N':List Str) (o c:Scope):Prop where
 kind:c.kind=.function
 okind:o.kind=.function
 cel:∀y∈c.names,y.2=.cell→c.names.lookup y.1=some .cell
 loc:∀y∈c.names,y.2=.local→c.names.lookup y.1=some .local
 free:∀y∈c.names,y.2=.free→c.names.lookup y.1=some .free∧(o.names.lookup y.1=some .cell∨o.names.lookup y.1=some .free)
 len:N.length≤N'.length
 same:∀i∈List.range N.length,∀x∈N'[i]?,c.names.lookup x=some .local∨c.names.lookup x=some .free∨c.names.lookup x=some .cell→c.names.lookup x=some .free∧N[i]? = some x
 nd:N'.Nodup
end L2
namespace L2
open PySem PySem.Spec PyProof.Rows
def Has(b:PyProof.Rows.KeyKind)(p:Keyed):Prop:=∃a,b.keyOf p.1=some a
noncomputable def kyd(a:PyProof.Rows.KeyKind)(p:Keyed):a.α:=(a.keyOf p.1).getD a.dflt
section
variable {κ:PyProof.Rows.KeyKind}
def kS(κ:PyProof.Rows.KeyKind)(l:List Keyed):Prop:=l.Pairwise fun p q=>κ.kle (kyd κ p) (kyd κ q)
def kLe(κ:PyProof.Rows.KeyKind)(l m:List Keyed):Prop:=∀x∈l,∀y∈m,κ.kle (kyd κ x) (kyd κ y)
structure Mg (κ:PyProof.Rows.KeyKind) (all out l m:List Keyed):Prop where
 perm:(out++(l++m)).Perm all
 so:kS κ out
 sl:kS κ l
 sm:kS κ m
 ol:kLe κ out l
 om:kLe κ out m
structure Mh (κ:PyProof.Rows.KeyKind) (all l m out:List Keyed):Prop where
 perm:((l++m)++out).Perm all
 so:kS κ out
 sl:kS κ l
 sm:kS κ m
 lo:kLe κ l out
 mo:kLe κ m out
structure LoPre (κ:PyProof.Rows.KeyKind) (a b:Array Keyed):Prop where
 ha:∀p∈a.toList,Has κ p
 hb:∀p∈b.toList,Has κ p
 sa:kS κ a.toList
 sb:kS κ b.toList
 a0:0<a.size
 b0:0<b.size
 fst:∀i,i<a.size→κ.kle (KK κ b 0) (KK κ a i)
 lst:∀i,i<b.size→κ.kle (KK κ b i) (KK κ a (a.size-1))
def Lo(κ:PyProof.Rows.KeyKind)(a b out:Array Keyed)(c d:Nat):Prop:=Mg κ (a.toList++b.toList) out.toList (a.toList.drop c) (b.toList.drop d)
variable {a b out:Array Keyed} {ia ib:Nat}
variable {na nb:Nat}
end
noncomputable def MB:Nat→List (List Keyed)→List (Nat×Nat)
 | _,[]=>[]
 | o,r::a=>(o,r.length)::MB (o+r.length) a
noncomputable def Zr6(p:Nat×Nat×Nat):Nat×Nat:=(p.1,p.2.1)
section
variable {prog:Program} {w:World} {A:Around} {E:Value→Shared→Prop} {s:Shared} {κ:PyProof.Rows.KeyKind} {k0:SortKind} {st:SortSt} {dR:Array Keyed}
structure Rn (κ:PyProof.Rows.KeyKind) (k0:SortKind) (dR:Array Keyed) (st:SortSt) (rs:List (List Keyed)) (rest:List Keyed):Prop where
 kind:kindOf st=k0
 failed:failedOf st=none
 arr:(arrOf st).toList=rs.flatten++rest
 perm:(arrOf st).Perm dR
 srt:∀r∈rs,kS κ r
 ne:∀r∈rs,r≠[]
 pend:(pendingOf st).toList.map Zr6=MB 0 rs
end
section
variable {prog:Program} {w:World} {A:Around} {E:Value→Shared→Prop} {s:Shared} {κ:PyProof.Rows.KeyKind} {k0:SortKind} {st mJ:SortSt} {dR:Array Keyed} {α:Type} {lo:Nat}
structure Ph (k0:SortKind) (dR:Array Keyed) (lo:Nat) (mJ st:SortSt):Prop where
 kind:kindOf st=k0
 failed:failedOf st=none
 pend:pendingOf st=pendingOf mJ
 perm:(arrOf st).Perm dR
 pre:∀k,k<lo→(arrOf st)[k]? = (arrOf mJ)[k]?
end
end L2
set_option maxHeartbeats 4000000
namespace L2
open PySem PySem.Spec PyProof.Rows
variable {X:Cx}
end L2
set_option maxHeartbeats 4000000
namespace L2
open PySem PySem.Spec PyProof.Rows
end L2
set_option maxHeartbeats 4000000
namespace L2
open PySem PySem.Spec PyProof.Rows
end L2
set_option maxHeartbeats 4000000
namespace L2
open PySem PySem.Spec PyProof.Rows
@[reducible] def intKd:PyProof.Rows.KeyKind where
 α:=Int
 blt a b:=decide (a<b)
 irrefl a:=by simp
 trans a b c h1 h2:=by simp only[decide_eq_true_eq]at *;lia
 negTrans a b c h:=by
  simp only[decide_eq_true_eq]at *
  lia
 total a b h1 h2:=by simp only[decide_eq_false_iff_not]at *;lia
 keyOf v:=match v with|.int x _=>some x|_=>none
 dflt:=0
def rSrtIA(K:#[7]):List V→Hp→VK→Prop:=fun xs H Q=>∃ (p:Addr) (ns:List Int),xs=[.ref p]∧SqL K H p (ns.map V.int)∧∀ (l:Addr) (a:List Int),H l=none→a.Perm ns→a.Pairwise (·≤·)→Q (.ref l) (upd H l (.lst (a.map V.int)))
end L2
set_option maxHeartbeats 4000000
namespace L2
open PySem PySem.Spec PyProof.Rows
noncomputable def txt:Value→Str
 | .str x _=>x
 | _ => ""
section
variable {prog:Program} {w:World} {A:Around} {E:Value→Shared→Prop} {s:Shared}
def ZrS(w:World)(a:Array (Int×Value)):Prop:=∀e∈a.toList,∃x u,e.2=.str x u∧e.1=Oa w (.inr x)
noncomputable def MA(a:Array (Int×Value)):List Str:=a.toList.map fun e=>txt e.2
structure SetAt (w:World) (L:Bool) (T:Str→Prop) (o:Obj) (es:Array (Int×Value)) (ep:Nat) (t:SetTable):Prop where
 ex:o.ExactSet
 da:o.data=.set es ep t
 el:ZrS w es
 nd:(MA es).Nodup
 me:∀x,T x↔x∈MA es
 sz:es.size<scanBound
 ft:t.fits es.size=true
 ld:t.led=L
 pl:es.size≠0→t.plain=false
end
end L2
set_option maxHeartbeats 4000000
namespace L2
open PySem PySem.Spec PyProof.Rows
end L2
set_option maxHeartbeats 4000000
namespace L2
open PySem PySem.Spec PyProof.Rows
end L2
set_option maxHeartbeats 4000000
namespace L2
open PySem PySem.Spec PyProof.Rows
end L2
set_option maxHeartbeats 4000000
namespace L2
open PySem PySem.Spec PyProof.Rows
end L2
set_option maxHeartbeats 4000000
namespace L2
open PySem PySem.Spec PyProof.Rows
end L2
set_option maxHeartbeats 4000000
namespace L2
open PySem PySem.Spec PyProof.Rows
end L2
set_option maxHeartbeats 4000000
namespace L2
open PySem PySem.Spec PyProof.Rows
end L2
set_option maxHeartbeats 9000000
namespace My
open PySem L2 PyProof.Rows
noncomputable abbrev Yi:=@List.tail Stmt
noncomputable abbrev Yf(x:List Stmt):=Yi (Yi x)
noncomputable abbrev Yq(x:List Stmt):=Yf (Yf x)
noncomputable abbrev Yu(x:List Stmt):=Yq (Yq x)
noncomputable abbrev Zt16(x:List Stmt):=Yu (Yu x)
noncomputable abbrev Zt32(x:List Stmt):=Zt16 (Zt16 x)
local macro_rules|`(‹$i:num›)=>`(@pv _ $i _ _ (by rfl) (Or.inl rfl) (by decide) (by decide))
local macro_rules|`(tactic|trivial)=>`(tactic|first|exact .inl rfl|exact .inr rfl|decide|exact Nat.le_refl _|lia)
local macro_rules
|`(#[Xns,$a,$b,$c])=>`(PySem.W.nsIn $a mainGlobals $b=some (some (.ref $c)))
|`(#[Xfi,$a,$b,$c,$d])=>`(PySem.W.findIn $a (.ref $b) $c=some (some (.ref $d)))
|`(#[Xlk,$z,$a,$b,$c,$d,$e,$f,$g,$h,$i,$j,$k,$l,$m])=>`(($z).lookup $a=some ⟨$b,$c,.func (PySem.W.fnOf $d $e (Zq $f) (Zo $f) (Zg $f) .none $g $h $i $j $k $l),$m⟩)
|`(#[Xci,$a,$b,$c])=>`(PySem.W.codeIn $a $b $c=true)
|`(#[Xki,$a,$b])=>`(PySem.W.keepIn $a (.ref $b)=true)
|`(#[Xif,$a,$b])=>`(PySem.W.isFn $a (.ref $b)=true)
|`(#[Ze,$a,$b])=>`(@Ze _ _ _ _ _ $a $b)
|`(#[Zw,$a,$b,$c,$d])=>`(@Zw _ _ $a _ _ _ _ $b rfl $c $d (by rfl) (by trivial))
|`(#[ZI,$a,$b,$c])=>`(@ZI _ _ _ _ _ _ _ _ $a $b $c)
|`(#[Zi])=>`(@Zi _ _ _ _)
|`(#[Zj,$a])=>`(@Zj _ _ _ $a)
|`(#[Zr,$a])=>`(@Zr _ _ _ _ $a)
|`(#[Xk,$a,$b,$c])=>`(@Xk _ _ _ _ _ _ _ _ $a $b $c)
|`(#[Zn,$a,$b,$c,$d])=>`(@Zn _ _ _ _ _ _ _ _ $a $b $c $d)
|`(#[Zk,$a,$b,$c,$d])=>`(@Zk _ _ _ _ _ _ _ _ _ $a (by rfl) $b $c $d (by decide) (by decide) (by rfl) (by rfl))
|`(#[Za,$a,$b])=>`(@Za _ _ _ _ _ $a $b (by rfl))
|`(#[Zf])=>`(@Zf _)
|`(#[Zl,$a,$b,$c])=>`(@Zl _ _ _ _ _ _ _ $a $b $c (fun _ _=>rfl))
|`(#[YH,$a])=>`(@YH _ _ _ _ $a)
|`(#[Xq,$a,$b,$c,$d])=>`(@Xq _ _ _ _ _ _ _ _ _ $a (by rfl) $b $c $d (by decide) (by decide) (by rfl) (by rfl))
|`(#[Ya,$a,$b,$c,$d])=>`(@Ya _ _ _ _ _ _ _ _ $a $b $c $d)
|`(#[Z2,$a,$b])=>`(@Z2 _ _ _ _ _ _ $a $b (by rfl) (by rfl) (by rfl))
|`(#[Ys,$a,$b,$c])=>`(@Ys _ _ _ _ _ _ _ $a $b $c (by intro _;rfl))
|`(#[Z0,$a,$b,$c])=>`(@Z0 _ _ _ _ _ _ _ _ $a $b $c)
|`(#[ZF])=>`(@ZF _)
|`(#[ZB,$a,$b,$c,$d])=>`(@ZB _ _ _ _ _ _ _ _ _ _ _ $a $b $c (by trivial) $d (by decide) (by rfl) (by rfl))
|`(#[Zz])=>`(@Zz _ _ _ _)
|`(#[WQ,$a,$b,$c,$d,$e])=>`(@WQ _ _ _ _ _ _ _ _ _ _ _ _ _ _ $a rfl rfl rfl $b $c $d $e (by intro _;rfl))
|`(#[WS,$a,$b])=>`(@WS _ _ _ _ _ _ rfl $a $b (by rfl))
|`(#[pv,$a,$b])=>`(@pv _ $a _ _ (by rfl) $b (by decide) (by decide))
|`(#[cg,$a,$b])=>`(@cg _ _ _ _ _ _ _ _ _ _ _ $a $b rfl (by ac_rfl) (by rfl))
|`(#[cv,$a,$b])=>`(@cv _ _ _ _ _ _ _ _ _ _ _ $a $b rfl (by ac_rfl) (by rfl) (by decide) (by decide))
|`(#[Xj,$a,$b,$c,$d,$e,$f])=>`(@Xj _ _ _ _ _ _ _ _ _ _ _ _ $a $b $c $d $e $f (by rfl) (by rfl) (by rfl) (by rfl) (by rfl))
|`(#[XS,$a,$b])=>`(@XS _ _ _ _ _ _ _ $a $b)
|`(#[Xl,$a])=>`(@Xl _ _ _ _ $a)
|`(#[Xs,$a])=>`(@Xs _ _ _ $a (by intro _;rfl))
|`(#[YJ,$a])=>`(@YJ _ _ _ _ _ $a)
|`(#[XJ,$a,$b])=>`(@XJ _ _ _ _ $a $b (by rfl) (by decide) (by decide))
|`(#[Wo,$a,$b])=>`(@Wo _ _ _ _ _ _ _ $a $b)
|`(#[WV])=>`(@WV _ _ _ _)
|`(#[Xc,$a,$b])=>`(@Xc _ _ _ _ _ _ _ $a $b)
|`(#[WU,$a])=>`(@WU _ _ _ _ _ $a)
|`(#[gT,$a,$b,$c])=>`(@gT _ $a _ _ _ $b _ $c (by rfl) (by rfl) (by rfl) (by rfl))
|`(#[ZC,$a,$b])=>`(@ZC _ _ _ _ _ $a $b (by rfl))
|`(#[cw,$a,$b])=>`(@cw _ _ _ _ _ _ _ _ _ _ _ $a $b rfl (by ac_rfl) (by rfl) (by decide) (by decide))
|`(#[ZT])=>`(@ZT _ _ _)
|`(#[XR,$a,$b,$c,$d])=>`(@XR _ _ _ _ _ _ _ _ $a rfl $b $c $d (by intro _;rfl))
|`(#[ZD,$a,$b])=>`(@ZD _ _ $a _ $b rfl (Or.inl rfl) (by trivial))
|`(#[Yy,$a])=>`(@Yy _ _ _ _ $a (by rfl))
|`(#[iE,$a,$b,$c])=>`(@iE _ $a _ _ _ _ _ _ _ $b $c (by rfl) (by rfl) (by rfl))
|`(#[W7,$a,$b,$c,$d])=>`(@W7 _ _ _ _ _ _ _ _ _ _ $a $b $c $d)
|`(#[ZM,$a])=>`(@ZM _ _ _ _ _ $a (by rfl))
|`(#[YQ,$a,$b,$c,$d])=>`(@YQ _ _ _ _ _ _ _ _ _ _ _ _ $a $b $c $d (by trivial) (by rfl))
|`(#[Yx,$a,$b])=>`(@Yx _ _ _ _ _ _ _ _ $a $b (by rfl))
|`(#[Tz,$a,$b,$c,$d,$e,$f,$g])=>`(@Tz _ _ _ _ _ $a _ _ _ _ _ _ _ _ _ _ _ _ $b rfl (Or.inl rfl) $c rfl rfl rfl $d $e $f $g (by rfl) (by intro _;rfl) (by trivial))
|`(#[iL,$a,$b])=>`(@iL _ $a _ _ _ $b (by rfl))
|`(#[WT,$a,$b,$c,$d])=>`(@WT _ _ $a $b _ _ _ _ _ _ _ _ _ _ _ rfl $c rfl rfl (by decide) rfl rfl $d rfl (by rfl))
|`(#[VJ,$a,$b,$c])=>`(@VJ _ _ _ _ _ _ _ _ _ $a $b $c)
|`(#[VU,$a,$b,$c])=>`(@VU _ _ _ _ _ _ _ _ _ _ $a $b $c)
|`(#[XI,$a,$b,$c,$d,$e])=>`(@XI _ _ _ _ _ _ _ _ _ _ _ _ _ _ _ $a $b $c $d $e (by trivial) (by rfl) (by rfl) (by rfl))
|`(#[Wh,$a,$b,$c])=>`(@Wh _ _ _ _ _ _ _ _ _ _ _ _ $a $b $c (by trivial) (by rfl) (by decide) (by rfl) (by rfl))
noncomputable def hdS:List Stmt→Stmt
 | a::_=>a
 | []=>.Pass ⟨0,0,0,0⟩
noncomputable abbrev Y1:List Stmt:=PySem.Challenge.pw_mergetree_k61_whole_as_if_made_so.main.body
noncomputable abbrev UF:Stmt:=hdS (Zt16 (Yq Y1))
noncomputable abbrev X1:Stmt:=hdS (Zt16 (Yq (Yi Y1)))
noncomputable abbrev Rw:Stmt:=hdS (Yq (Yf (Yi Y1)))
noncomputable abbrev Rv:Stmt:=hdS (Yu Y1)
noncomputable abbrev Ru:Stmt:=hdS (Yu (Yf Y1))
noncomputable abbrev Rt:Stmt:=hdS (Yu (Yf (Yi Y1)))
noncomputable abbrev Rs:Stmt:=hdS (Yu (Yq Y1))
noncomputable abbrev Rr:Stmt:=hdS (Yu (Yq (Yi Y1)))
noncomputable abbrev Rq:Stmt:=hdS (Yu (Yq (Yf Y1)))
noncomputable abbrev Rp:Stmt:=hdS (Zt16 Y1)
noncomputable abbrev Ro:Stmt:=hdS (Zt16 (Yi Y1))
noncomputable abbrev Rm:Stmt:=hdS (Zt16 (Yq (Yf Y1)))
noncomputable abbrev Rl:Stmt:=hdS (Zt16 (Yq (Yf (Yi Y1))))
noncomputable abbrev Rk:Stmt:=hdS (Zt16 (Yu (Yi Y1)))
noncomputable abbrev Rj:Stmt:=hdS (Zt16 (Yu (Yf Y1)))
noncomputable abbrev Ri:Stmt:=hdS (Zt16 (Yu (Yf (Yi Y1))))
noncomputable abbrev Tj:Stmt:=hdS (Zt16 (Yu (Yq Y1)))
noncomputable abbrev Ti:Stmt:=hdS (Zt16 (Yu (Yq (Yi Y1))))
noncomputable abbrev Rh:Stmt:=hdS (Zt16 (Yu (Yq (Yf Y1))))
noncomputable abbrev Rg:Stmt:=hdS (Zt16 (Yu (Yq (Yf (Yi Y1)))))
noncomputable abbrev Rf:Stmt:=hdS (Zt32 Y1)
noncomputable abbrev Th:Stmt:=hdS (Zt32 (Yi Y1))
noncomputable abbrev Rc:Stmt:=hdS (Zt32 (Yf Y1))
noncomputable abbrev P9:Stmt:=hdS (Zt32 (Yf (Yi Y1)))
noncomputable abbrev Tg:Stmt:=hdS (Zt32 (Yq Y1))
noncomputable abbrev Tf:Stmt:=hdS (Zt32 (Yq (Yi Y1)))
noncomputable abbrev P7:Stmt:=hdS (Zt32 (Yq (Yf Y1)))
noncomputable abbrev P6:Stmt:=hdS (Zt32 (Yq (Yf (Yi Y1))))
noncomputable abbrev P0:Stmt:=hdS (Zt32 (Yu Y1))
noncomputable abbrev PZ:Stmt:=hdS (Zt32 (Yu (Yi Y1)))
noncomputable abbrev PY:Stmt:=hdS (Zt32 (Yu (Yf Y1)))
noncomputable abbrev PX:Stmt:=hdS (Zt32 (Yu (Yf (Yi Y1))))
noncomputable abbrev PV:Stmt:=hdS (Zt32 (Yu (Yq Y1)))
noncomputable abbrev Vd:Stmt:=hdS (Zt32 (Yu (Yq (Yi Y1))))
noncomputable abbrev PU:Stmt:=hdS (Zt32 (Yu (Yq (Yf Y1))))
noncomputable abbrev Te:Stmt:=hdS (Zt32 (Yu (Yq (Yf (Yi Y1)))))
noncomputable abbrev PR:Stmt:=hdS (Zt32 (Zt16 Y1))
noncomputable abbrev VI:Stmt:=hdS (Zt32 (Zt16 (Yi Y1)))
noncomputable abbrev UE:Stmt:=Yk UF 0
noncomputable abbrev UD:Stmt:=Yk UF 1
noncomputable abbrev UC:Stmt:=Yk UF 2
noncomputable abbrev UB:Stmt:=Yk UF 3
noncomputable abbrev UA:Stmt:=Yk UF 4
noncomputable abbrev Uz:Stmt:=Yk X1 0
noncomputable abbrev Uy:Stmt:=Yk X1 1
noncomputable abbrev Ux:Stmt:=Yk X1 2
noncomputable abbrev Vc:Stmt:=Yk X1 4
noncomputable abbrev Z4:Stmt:=Yk X1 6
noncomputable abbrev Uw:Stmt:=Yk X1 7
noncomputable abbrev Vb:Stmt:=Yk X1 8
noncomputable abbrev Uv:Stmt:=Yk X1 9
noncomputable abbrev Z6:Stmt:=Yk X1 10
noncomputable abbrev Uu:Stmt:=Yk X1 11
noncomputable abbrev Ut:Stmt:=Yk X1 12
noncomputable abbrev Z8:Stmt:=Yk X1 13
noncomputable abbrev Us:Stmt:=Yk X1 14
noncomputable abbrev Z7:Stmt:=Yk X1 15
noncomputable abbrev ZZ:Stmt:=Yk X1 16
noncomputable abbrev Ur:Stmt:=Yk X1 17
theorem Mz:Zs ["_law_cell", "_law_k", "_law_m"] ["_law_cell", "_law_k"] (Zg Rk):=#[0]
theorem Mx:Zs ["_law_script", "_law_k", "_law_cell"] ["_law_script", "_law_k"] (Zg Rj):=#[0]
theorem Mw:Zs ["_law_left_here", "_law_many_here", "_law_digit"] ["_law_left_here", "_law_many_here"] (Zg Ri):=#[0]
theorem Mv:Zs ["_law_left_here", "_law_some"] ["_law_left_here"] (Zg Tj):=#[0]
theorem Mu:Zs ["_law_left_here", "_law_stems_here", "_law_tail"] ["_law_left_here", "_law_stems_here"] (Zg Ti):=#[0]
theorem PQ:Zs ["one", "other", "far", "at"] ["one", "other", "far"] (Zg Rr):=#[0]
theorem Zmq:Zs ["one", "other"] ["one", "other"] (Zg Ru):=#[0]
theorem PP:Zs ["_law_one", "_law_other", "_law_far"] ["_law_one", "_law_other"] (Zg Rc):=#[0]
theorem Mt:Zs ["_law_found", "_law_due"] ["_law_found", "_law_due"] (Zg Tf):=#[0]
theorem Uq:Zs ["_law_left_here", "_law_stems_here", "_law_most", "_law_found", "_law_k", "_law_key_here"] ["_law_left_here", "_law_stems_here", "_law_most"] (Zg Rh):=#[0]
theorem Td:Zs ["row", "told", "place", "key"] ["row"] (Zg Ro):=#[0]
theorem Zjo:Zs ["one", "other", "at"] ["one", "other", "at"] (Zg Rq):=#[0]
theorem ZnQ:Zs ["one", "other"] ["one", "other"] (Zg Rt):=#[0]
theorem Ms:Zs ["one", "other", "far", "at"] ["one", "other", "far"] (Zg Rs):=#[0]
theorem Mr:Zs ["keys", "place"] ["keys"] (Zg Rp):=#[0]
theorem Mq:Zs ["numbers", "middle"] ["numbers"] (Zg Rw):=#[0]
theorem Mp:Zs ["_law_numbers", "_law_cut"] ["_law_numbers"] (Zg P9):=#[0]
theorem Mo:Zs ["_law_left_here", "_law_way_here"] ["_law_left_here"] (Zg Rf):=#[0]
theorem Zix:Zs ["self"] ["self"] (Zg UC):=#[0]
theorem ZjW:Zs ["self"] ["self"] (Zg UB):=#[0]
theorem Zi0:Zs ["self", "keys"] ["self", "keys"] (Zg UE):=#[0]
theorem PN:Zs ["self", "rows", "number", "keys"] ["self", "rows"] (Zg Uz):=#[0]
theorem Mn:Zs ["self", "row"] ["self"] (Zg Uy):=#[0]
theorem Zhh:Zs ["self"] ["self"] (Zg Vc):=#[0]
theorem ZeW:Zs ["self"] ["self"] (Zg Z4):=#[0]
theorem Zgr:Zs ["self"] ["self"] (Zg Uw):=#[0]
theorem Zfm:Zs ["self"] ["self"] (Zg Z8):=#[0]
theorem Wy:Zs ["self", "numbers", "first_side", "other_side", "one", "other", "winner", "loser", "far"] ["self", "numbers"] (Zg Us):=#[0]
theorem Tc:Zs ["self", "one", "other", "far", "order", "alike_far", "seen"] ["self", "one", "other", "far"] (Zg Ur):=#[0]
theorem Mm:Zs ["number", "keys", "place"] ["number", "keys"] (Zg Rm):=#[0]
theorem ZnZ:Zs ["_law_left_here", "_law_stems_here", "_law_most"] ["_law_left_here", "_law_stems_here", "_law_most"] (Zg Rg):=#[0]
theorem PM:Zs ["_law_left_here", "_law_stems_here", "_law_most"] ["_law_left_here"] (Zg Th):=#[0]
theorem Ml:Zs ["_law_heads_here", "_law_numbers", "_law_some"] ["_law_heads_here", "_law_numbers"] (Zg Tg):=#[0]
theorem Tb:Zs ["_law_rows_here", "_law_own", "_law_n", "_law_row_here"] ["_law_rows_here"] (Zg P7):=#[0]
theorem PL:Zs ["_law_own", "_law_heads_here", "_law_n"] ["_law_own"] (Zg P6):=#[0]
theorem Va:Zs ["_law_heads_here", "_law_numbers", "_law_one", "_law_other", "_law_here", "_law_there", "_law_a", "_law_b"] ["_law_heads_here", "_law_numbers"] (Zg P0):=#[0]
theorem Ta:Zs ["_law_own", "_law_heads_here", "_law_likenings", "_law_looks"] ["_law_own"] (Zg PZ):=#[0]
theorem PH:Zs ["_law_own", "_law_heads_here", "_law_n"] ["_law_own"] (Zg PX):=#[0]
theorem Mj:Zs ["self", "thing"] ["self"] (Zg Ux):=#[0]
theorem Up:Zs ["self", "number", "row", "comer", "meeting"] ["self", "number"] (Zg Z7):=#[0]
theorem Uo:Zs ["self", "meeting", "comer", "stayer", "winner", "loser", "far"] ["self", "meeting", "comer"] (Zg ZZ):=#[0]
theorem VH:Zs ["numbers", "n", "matches", "least", "greatest", "others"] ["numbers", "n"] (Zg Rl):=#[0]
theorem VG:Zs ["numbers", "n", "others", "side", "first", "rest"] ["numbers", "n"] (Zg Rv):=#[0]
theorem U9:Zs ["_law_numbers", "_law_n", "_law_some", "_law_way_here", "_law_one", "_law_other"] ["_law_numbers", "_law_n"] (Zg PY):=#[0]
theorem WP:Zs ["_law_own", "_law_thing", "_law_n", "_law_place", "_law_key_here", "_law_heads_here", "_law_here", "_law_there", "_law_a", "_law_b", "_law_far"] ["_law_own"] (Zg PV):=#[0]
theorem Mi:Zs ["self", "row", "number"] ["self", "row"] (Zg Uv):=#[0]
theorem Zf6:Zs ["self", "keys"] ["self", "keys"] (Zg UA):=#[0]
theorem Zgc:Zs ["self", "n"] ["self", "n"] (Zg Ut):=#[0]
theorem Me:Zs ["self", "n", "many"] ["self", "n"] (Zg Z6):=#[0]
theorem PF:Zs ["self", "n", "keys", "row", "sent_nothing"] ["self", "n", "keys"] (Zg Uu):=#[0]
theorem Wx:Zs ["_law_left_here", "_law_own", "_law_stems_here", "_law_numbers", "_law_way_here", "_law_n", "_law_least_here", "_law_keys_here", "_law_most"] ["_law_left_here", "_law_own", "_law_stems_here"] (Zg Vd):=#[0]
theorem VF:Zs ["_law_merge", "_law_own", "_law_deed", "_law_word", "_law_n", "_law_keys_here", "_law_kept", "_law_many_here", "_law_sent_none"] ["_law_merge", "_law_own", "_law_deed"] (Zg PU):=#[0]
theorem Md:Zs ["self", "other"] ["self"] (Zg UD):=#[0]
theorem Mc:Zs ["self", "other"] ["self"] (Zg Vb):=#[0]
theorem Mb:Zs ["_law_merge", "_law_own", "_law_numbers"] ["_law_merge", "_law_own"] (Zg Te):=#[0]
theorem Wf:Zs ["_law_merge", "_law_own", "_law_ahead", "_law_many_here", "_law_fresh", "_law_numbers", "_law_twin", "_law_turn", "_law_due", "_law_thing", "_law_here", "_law_n"] ["_law_merge", "_law_own", "_law_ahead", "_law_many_here"] (Zg PR):=#[0]
theorem WY:Zs ["_law_script", "_law_k", "_law_left_here", "_law_rows_here", "_law_stems_here", "_law_own", "_law_merge", "_law_turn", "_law_again", "_law_ahead", "_law_deed", "_law_played"] ["_law_script"] (Zg VI):=#[0]
noncomputable abbrev zsc(l:List (Str×NameKind)):Scope:={ kind:=.function,names:=l,isGenerator:=false,isCoroutine:=false,more:=[] }
noncomputable def ZoB:Scope:=zsc [(".0",.«local»),("_law_k",.«local»),("_law_pick",.globalImplicit),("_law_left_here",.free),("_law_some",.free)]
theorem Um:YM ["_law_left_here", "_law_some"] ["_law_left_here", "_law_some", "_law_k"] (Zg Tj) ZoB:=⟨rfl,rfl,by ac_rfl,by ac_rfl,by ac_rfl,by decide,by ac_rfl,by ac_rfl⟩
noncomputable def ZoP:Scope:=zsc [(".0",.«local»),("_law_k",.«local»),("_law_pick",.globalImplicit),("_law_left_here",.free)]
theorem S9:YM ["_law_left_here", "_law_stems_here", "_law_tail"] ["_law_left_here", "_law_stems_here", "_law_tail", "_law_k"] (Zg Ti) ZoP:=⟨rfl,rfl,by ac_rfl,by ac_rfl,by ac_rfl,by decide,by ac_rfl,by ac_rfl⟩
noncomputable def Zom:Scope:=zsc [(".0",.«local»),("_law_one",.«local»),("_law_other",.«local»),("_law_same",.globalImplicit)]
theorem U8:YM ["_law_found", "_law_due"] ["_law_found", "_law_due", "_law_one", "_law_other"] (Zg Tf) Zom:=⟨rfl,rfl,by ac_rfl,by ac_rfl,by ac_rfl,by decide,by ac_rfl,by ac_rfl⟩
noncomputable def Zpl:Scope:=zsc [(".0",.«local»),("row",.«local»)]
theorem PD:YM ["self"] ["self", "row"] (Zg Vc) Zpl:=⟨rfl,rfl,by ac_rfl,by ac_rfl,by ac_rfl,by decide,by ac_rfl,by ac_rfl⟩
noncomputable def ZoA:Scope:=zsc [(".0",.«local»),("_law_k",.«local»),("_law_row",.globalImplicit),("_law_left_here",.free),("_law_most",.free),("_law_stems_here",.free)]
theorem U7:YM ["_law_left_here", "_law_stems_here", "_law_most"] ["_law_left_here", "_law_stems_here", "_law_most", "_law_k"] (Zg Th) ZoA:=⟨rfl,rfl,by ac_rfl,by ac_rfl,by ac_rfl,by decide,by ac_rfl,by ac_rfl⟩
noncomputable def ZoO:Scope:=zsc [(".0",.«local»),("_law_n",.«local»),("_law_heads_here",.free)]
theorem VE:YM ["_law_heads_here", "_law_numbers", "_law_some"] ["_law_heads_here", "_law_numbers", "_law_some", "_law_n"] (Zg Tg) ZoO:=⟨rfl,rfl,by ac_rfl,by ac_rfl,by ac_rfl,by decide,by ac_rfl,by ac_rfl⟩
noncomputable def ZoX:Scope:=zsc [(".0",.«local»),("_law_key_here",.«local»),("_law_least_here",.free)]
theorem Ul:YM ["_law_left_here", "_law_own", "_law_stems_here", "_law_numbers", "_law_way_here", "_law_n", "_law_least_here", "_law_keys_here", "_law_most"] ["_law_left_here", "_law_own", "_law_stems_here", "_law_numbers", "_law_way_here", "_law_n", "_law_least_here", "_law_keys_here", "_law_most", "_law_key_here"] (Zg Vd) ZoX:=⟨rfl,rfl,by ac_rfl,by ac_rfl,by ac_rfl,by decide,by ac_rfl,by ac_rfl⟩
noncomputable def Zow:Scope:=zsc [(".0",.«local»),("_law_key_here",.«local»),("_law_least_here",.free)]
theorem S7:YM ["_law_left_here", "_law_own", "_law_stems_here", "_law_numbers", "_law_way_here", "_law_n", "_law_least_here", "_law_keys_here", "_law_most"] ["_law_left_here", "_law_own", "_law_stems_here", "_law_numbers", "_law_way_here", "_law_n", "_law_least_here", "_law_keys_here", "_law_most", "_law_key_here"] (Zg Vd) Zow:=⟨rfl,rfl,by ac_rfl,by ac_rfl,by ac_rfl,by decide,by ac_rfl,by ac_rfl⟩
noncomputable def ZoY:Scope:=zsc [(".0",.«local»),("_law_key_here",.«local»),("_law_least_here",.free)]
theorem Uk:YM ["_law_left_here", "_law_own", "_law_stems_here", "_law_numbers", "_law_way_here", "_law_n", "_law_least_here", "_law_keys_here", "_law_most"] ["_law_left_here", "_law_own", "_law_stems_here", "_law_numbers", "_law_way_here", "_law_n", "_law_least_here", "_law_keys_here", "_law_most", "_law_key_here"] (Zg Vd) ZoY:=⟨rfl,rfl,by ac_rfl,by ac_rfl,by ac_rfl,by decide,by ac_rfl,by ac_rfl⟩
noncomputable def Zox:Scope:=zsc [(".0",.«local»),("number",.«local»),("row",.«local»)]
theorem Uj:YM ["self", "other"] ["self", "other", "number", "row"] (Zg Vb) Zox:=⟨rfl,rfl,by ac_rfl,by ac_rfl,by ac_rfl,by decide,by ac_rfl,by ac_rfl⟩
noncomputable def Znx:Scope:=zsc [(".0",.«local»),("_law_n",.«local»),("_law_own",.free)]
theorem U6:YM ["_law_merge", "_law_own", "_law_numbers"] ["_law_merge", "_law_own", "_law_numbers", "_law_n"] (Zg Te) Znx:=⟨rfl,rfl,by ac_rfl,by ac_rfl,by ac_rfl,by decide,by ac_rfl,by ac_rfl⟩
structure Bt (mg:Str→Option Value):Prop where
 n_abs:mg "abs" = none
 n_all:mg "all" = none
 n_bool:mg "bool" = none
 n_dict:mg "dict" = none
 n_enumerate:mg "enumerate" = none
 n_int:mg "int" = none
 n_isinstance:mg "isinstance" = none
 n_len:mg "len" = none
 n_list:mg "list" = none
 n_max:mg "max" = none
 n_min:mg "min" = none
 n_range:mg "range" = none
 n_sorted:mg "sorted" = none
 n_str:mg "str" = none
 n_sum:mg "sum" = none
 n_tuple:mg "tuple" = none
 n_zip:mg "zip" = none
structure Zt (K:#[7]) (mg:Str→Option Value) (ab:Addr) (U:Addr):Prop where
 b:Bt mg
 t_halves:Top K mg "halves" Rw ["numbers"]
 t_way_up:Top K mg "way_up" Rv ["numbers", "n"]
 t_alike:Top K mg "alike" Ru ["one", "other"]
 t_liken:Top K mg "liken" Rt ["one", "other"]
 t_liken_from:Top K mg "liken_from" Rs ["one", "other", "far"]
 t_alike_from:Top K mg "alike_from" Rr ["one", "other", "far"]
 t_order_at:Top K mg "order_at" Rq ["one", "other", "at"]
 t_first_break:Top K mg "first_break" Rp ["keys"]
 t_alikes:Top K mg "alikes" Ro ["row"]
 t_refuse_break:Top K mg "refuse_break" Rm ["number", "keys"]
 t_matches_up:Top K mg "matches_up" Rl ["numbers", "n"]
 t_l_mix:Top K mg "_law_mix" Rk ["_law_cell", "_law_k"]
 t_l_left:Top K mg "_law_left" Rj ["_law_script", "_law_k"]
 t_l_pick:Top K mg "_law_pick" Ri ["_law_left_here", "_law_many_here"]
 t_l_stems:Top K mg "_law_stems" Tj ["_law_left_here"]
 t_l_key:Top K mg "_law_key" Ti ["_law_left_here", "_law_stems_here"]
 t_l_keys:Top K mg "_law_keys" Rh ["_law_left_here", "_law_stems_here", "_law_most"]
 t_l_row:Top K mg "_law_row" Rg ["_law_left_here", "_law_stems_here", "_law_most"]
 t_l_many:Top K mg "_law_many" Rf ["_law_left_here"]
 t_l_rows:Top K mg "_law_rows" Th ["_law_left_here"]
 t_l_alike:Top K mg "_law_alike" Rc ["_law_one", "_law_other"]
 t_l_halves:Top K mg "_law_halves" P9 ["_law_numbers"]
 t_l_least:Top K mg "_law_least" Tg ["_law_heads_here", "_law_numbers"]
 t_l_same:Top K mg "_law_same" Tf ["_law_found", "_law_due"]
 t_l_world:Top K mg "_law_world" P7 ["_law_rows_here"]
 t_l_heads:Top K mg "_law_heads" P6 ["_law_own"]
 t_l_first_play:Top K mg "_law_first_play" P0 ["_law_heads_here", "_law_numbers"]
 t_l_play:Top K mg "_law_play" PZ ["_law_own"]
 t_l_way:Top K mg "_law_way" PY ["_law_numbers", "_law_n"]
 t_l_coming:Top K mg "_law_coming" PX ["_law_own"]
 t_l_taken:Top K mg "_law_taken" PV ["_law_own"]
 t_l_late:Top K mg "_law_late" Vd ["_law_left_here", "_law_own", "_law_stems_here"]
 t_l_done:Top K mg "_law_done" PU ["_law_merge", "_law_own", "_law_deed"]
 t_l_anew:Top K mg "_law_anew" Te ["_law_merge", "_law_own"]
 t_l_goes_alike:Top K mg "_law_goes_alike" PR ["_law_merge", "_law_own", "_law_ahead", "_law_many_here"]
 t_Row_init:To K mg ab "Row" "Row.__init__" UE ["self", "keys"]
 t_Row_copied:Yj K ab "copied" "Row.copied" UD ["self"]
 t_Row_to_go:Yj K ab "to_go" "Row.to_go" UC ["self"]
 t_Row_head:Yj K ab "head" "Row.head" UB ["self"]
 t_Row_lengthen:Yj K ab "lengthen" "Row.lengthen" UA ["self", "keys"]
 t_Merge_init:To K mg U "Merge" "Merge.__init__" Uz ["self", "rows"]
 t_Merge_coming:Yj K U "coming" "Merge.coming" Uy ["self"]
 t_Merge_take:Yj K U "take" "Merge.take" Ux ["self"]
 t_Merge_left:Yj K U "left" "Merge.left" Vc ["self"]
 t_Merge_likenings:Yj K U "likenings" "Merge.likenings" Z4 ["self"]
 t_Merge_looks:Yj K U "looks" "Merge.looks" Uw ["self"]
 t_Merge_twin:Yj K U "twin" "Merge.twin" Vb ["self"]
 t_Merge_add_row:Yj K U "add_row" "Merge.add_row" Uv ["self", "row"]
 t_Merge_drop_row:Yj K U "drop_row" "Merge.drop_row" Z6 ["self", "n"]
 t_Merge_grow:Yj K U "grow" "Merge.grow" Uu ["self", "n", "keys"]
 t_Merge_row_of:Yj K U "row_of" "Merge.row_of" Ut ["self", "n"]
 t_Merge_play_all:Yj K U "play_all" "Merge.play_all" Z8 ["self"]
 t_Merge_play:Yj K U "play" "Merge.play" Us ["self", "numbers"]
 t_Merge_send_out:Yj K U "send_out" "Merge.send_out" Z7 ["self", "number"]
 t_Merge_play_again:Yj K U "play_again" "Merge.play_again" ZZ ["self", "meeting", "comer"]
 t_Merge_meet:Yj K U "meet" "Merge.meet" Ur ["self", "one", "other", "far"]
 cl_Row:Cls K ab
 na_Row_all_keys:X3 K ab "all_keys"
 na_Row_fars:X3 K ab "fars"
 na_Row_gone:X3 K ab "gone"
 cl_Merge:Cls K U
 na_Merge_best:X3 K U "best"
 na_Merge_likened:X3 K U "likened"
 na_Merge_looked:X3 K U "looked"
 na_Merge_next_number:X3 K U "next_number"
 na_Merge_rows:X3 K U "rows"
 na_Merge_stays:X3 K U "stays"
 g_MOST_ROWS:∃tk,mg "MOST_ROWS" = some (.int 16 tk)
def Y7(H:Hp)(p:Addr)(c:Int):Prop:=∃a b:Int,H p=some (.lst [.int a,.int b,.int c])∧0≤c
def But(p:Addr)(H H':Hp):Prop:=∀b o,H b=some o→b≠p→H' b=some o
theorem But.trans{p:Addr}{H d e:Hp}(a:But p H d)(b:But p d e):But p H e:=fun c o h n=>b c o (a c o h n) n
theorem But.same{p:Addr}{H b:Hp}(a:ZG H b):But p H b:=fun c o h _=>a c o h
theorem Zh{H:Hp}{p:Addr}(h:H p=none)(o:HO):ZG H (upd H p o):=fun b u q=>by rw[Zc (Zb q h)];exact q
theorem Yh{n:Nat}(h:n≤1000):n≤sizeLine:=Qam (ZE h)
def PB:Sp:=fun vs H Q _=>∃a k:Int,vs=[.int a,.int k] ∧ -(2 ^ 62)<k∧k<2 ^ 62∧∀r:Int,0≤r→r<2000000000→Q (.int r) H
def Ma(K:#[7]):Sp:=fun vs H Q _=>∃ (a:Addr) (ns:List Int) (k:Int),vs=[.ref a,.int k]∧SqL K H a (ns.map V.int)∧ns.length≤63∧0≤k∧k<100 ∧
 ∀ (p:Addr) (b:Hp),H p=none→Y7 b p 0→ZG H b→Q (.ref p) b
def We:Sp:=fun vs H Q _=>∃ (p:Addr) (c m:Int),vs=[.ref p,.int m]∧Y7 H p c∧c<2 ^ 60∧0<m∧m<1000000 ∧
 ∀ (r:Int) (a:Hp),0≤r→r<m→Y7 a p (c+1)→But p H a→Q (.int r) a
theorem Zqr{ns:List Int}{k:Int}(h0:0≤k)(h:k<(ns.length:Int)):∃v:Int,atI (ns.map V.int) k=some (.int v):=by
 have a:k.toNat<ns.length:=by lia
 have b:k=((k.toNat:Nat):Int):=by lia
 have q:atI (ns.map V.int) ((k.toNat:Nat):Int)=some (.int ns[k.toNat]):=Yr (by rw[Qo,Qb a]<;>rfl);rw[← b]at q;exact⟨_,q⟩
theorem Pz{ss:List Str}{k:Int}(h0:0≤k)(h:k<(ss.length:Int)):∃s∈ss,atI (ss.map V.str) k=some (.str s):=by
 have a:k.toNat<ss.length:=by lia
 have b:k=((k.toNat:Nat):Int):=by lia
 have q:atI (ss.map V.str) ((k.toNat:Nat):Int)=some (.str ss[k.toNat]):=Yr (by rw[Qo,Qb a]<;>rfl);rw[← b]at q;exact⟨_,Q4 a,q⟩
theorem LZ(b:Bool):-(2 ^ 64)<(if b=true then (1:Int) else 0)∧(if b=true then (1:Int) else 0)<2 ^ 64:=by cases b<;>decide
theorem VD{z:Str}{k:Int}(h0:0≤k)(h:k<(z.length:Int)):∃c:Nat,z.cps.toList[k.toNat]? = some c∧atI z.cps.toList k=some c:=by
 have hl:z.cps.toList.length=z.length:=by simp[Str.length]
 have a:k.toNat<z.cps.toList.length:=by lia
 have b:k=((k.toNat:Nat):Int):=by lia
 have q:atI z.cps.toList ((k.toNat:Nat):Int)=some z.cps.toList[k.toNat]:=Yr (Qb a);rw[← b]at q;exact⟨_,Qb a,q⟩
theorem Zoc(sep:Str)(ys:List Str):(Txt.join sep ys).length≤(ys.map (·.length)).sum+ys.length*sep.length:=by
 have e:Txt.join sep ys=Str.join sep ys:=by simpa using join_plain_closes sep ys
 rw[e];exact StrLaws.join_length_le sep ys
theorem LY:∀ss:List Str,(∀s∈ss,s.length≤1)→(ss.map (·.length)).sum≤ss.length
 | [],_=>Qh _
 | s::r,h=>by have h1:=h s QP;have h2:=LY r fun x a=>h x (Qt _ a);rw[Qk,Qa4,QM];lia
noncomputable def lcp:List Nat→List Nat→Nat
 | a::r,b::s=>if a=b then lcp r s+1 else 0
 | _,_=>0
theorem U5:∀ (x y:List Nat),lcp x y≤x.length∧lcp x y≤y.length
 | [],_=>⟨Qx _,Qx _⟩
 | _::_,[]=>⟨Qx _,Qx _⟩
 | a::r,b::s=>by
  have h:=U5 r s;unfold lcp;split
  ·exact⟨Nat.succ_le_succ h.1,Nat.succ_le_succ h.2⟩
  ·exact⟨Qx _,Qx _⟩
theorem VC:∀ (x y:List Nat),lcp x y=lcp y x
 | [],[]=>rfl
 | [],_::_=>rfl
 | _::_,[]=>rfl
 | a::r,b::s=>by
  unfold lcp;by_cases h:a=b
  ·rw[if_pos h,if_pos h.symm,VC r s]
  ·rw[if_neg h,if_neg fun e=>h e.symm]
theorem LX:∀x:List Nat,lcp x x=x.length
 | []=>rfl
 | a::r=>by unfold lcp;rw[if_pos rfl,LX r];rfl
theorem U4(x:List Nat):lcp x []=0:=by cases x<;>rfl
theorem lcp_nil'(x:List Nat):lcp [] x=0:=by cases x<;>rfl
theorem Py:∀ (x y:List Nat) (k:Nat),k≤lcp x y→∀a,x[k]? = some a→y[k]? = some a→k+1≤lcp x y
 | [],_,k,_,a,h,_=>by simp at h
 | _::_,[],k,_,a,_,h=>by simp at h
 | a::r,b::s,0,_,c,h1,h2=>by simp at h1 h2;unfold lcp;rw[if_pos (by rw[h1,h2])];lia
 | a::r,b::s,k+1,h,c,h1,h2=>by
  unfold lcp at h ⊢;by_cases e:a=b
  ·rw[if_pos e]at h ⊢;have:=Py r s k #[2] c (by simpa using h1) (by simpa using h2);lia
  ·rw[if_neg e]at h;lia
theorem LW:∀ (x y:List Nat) (k:Nat),k<lcp x y→x[k]? = y[k]?
 | [],_,k,h=>by unfold lcp at h;lia
 | _::_,[],k,h=>by unfold lcp at h;lia
 | a::r,b::s,0,h=>by
  unfold lcp at h;by_cases e:a=b
  ·simp[e]
  ·rw[if_neg e]at h;lia
 | a::r,b::s,k+1,h=>by
  unfold lcp at h;by_cases e:a=b
  ·rw[if_pos e]at h;simpa using LW r s k #[2]
  ·rw[if_neg e]at h;lia
theorem U3(x y:List Nat)(k:Nat)(h:k≤lcp x y)(n:x.length≤k∨y.length≤k∨∃a b,x[k]? = some a∧y[k]? = some b∧a≠b):lcp x y=k:=by
 have l:=U5 x y;rcases n with n|n|⟨a,b,c,d,ne⟩
 ·lia
 ·lia
 ·by_cases q:k<lcp x y
  ·have:=LW x y k q;rw[c,d]at this;exact absurd (Qp this) ne
  ·lia
theorem Px:∀ (x y z:List Nat),(lcp x y≤lcp x z∧lcp y z=lcp x y)∨(lcp x y≤lcp y z∧lcp x z=lcp x y)∨(lcp x z≤lcp x y∧lcp y z=lcp x z)
 | [],y,z=>.inr (.inl ⟨by rw[lcp_nil'];exact Qx _,by rw[lcp_nil',lcp_nil']⟩)
 | x,[],z=>.inl ⟨by rw[U4];exact Qx _,by rw[U4,lcp_nil']⟩
 | x,y,[]=>.inr (.inr ⟨by rw[U4];exact Qx _,by rw[U4,U4]⟩)
 | a::r,b::s,c::t=>by
  have ih:=Px r s t;unfold lcp;by_cases f:a=b
  ·by_cases d:b=c
   ·rw[if_pos f,if_pos d,if_pos (f.trans d)];lia
   ·rw[if_pos f,if_neg d,if_neg fun e=>d (f.symm.trans e)];lia
  ·rw[if_neg f];by_cases d:b=c
   ·rw[if_pos d,if_neg fun e=>f (e.trans d.symm)];lia
   ·rw[if_neg d];lia
noncomputable abbrev cds(z:Str):List Nat:=z.cps.toList
def AZ(z:Str):Prop:=∀c∈cds z,97≤c∧c≤122
theorem Zo3(x y:Str):cds (x++y)=cds x++cds y:=by show (x++y).cps.toList=_;rw[PySem.Str.cps_append];simp
theorem AZ.app{x y:Str}(a:AZ x)(b:AZ y):AZ (x++y):=fun c h=>by rw[Zo3]at h;exact(Qm.mp h).elim (a c) (b c)
theorem AZ.nil:AZ "":=by unfold AZ cds;ac_rfl
theorem AZ.join:∀ys:List Str,(∀s∈ys,AZ s)→AZ (Str.join "" ys)
 | [],_=>fun c h=>by cases (show c∈([]:List Nat) from h)
 | [x],h=>h x #[4]
 | x::y::r,h=>((h x #[4]).app AZ.nil).app (AZ.join (y::r) fun s a=>h s (Qt _ a))
theorem AZ.joinT(ys:List Str)(h:∀s∈ys,AZ s):AZ (Txt.join "" ys):=by
 have e:Txt.join "" ys=Str.join "" ys:=by simpa using join_plain_closes "" ys
 rw[e];exact AZ.join ys h
theorem AZ.one{z:Str}(a:AZ z){k:Nat}{c:Nat}(h:z.cps.toList[k]? = some c):AZ ⟨#[c]⟩:=fun d hd=>by
 have e:d=c:=by simpa using hd
 rw[e];exact a c (Qz h)
theorem AZ.ok{z:Str}(a:AZ z):PyData.strOk z=true:=by unfold PyData.strOk;rw[Array.all_eq_true];intro i hi;have:=a z.cps[i] #[4];exact decide_eq_true #[2]
theorem Zp1:AZ "ababcz":=by unfold AZ cds;ac_rfl
def Wd:Sp:=fun vs H Q _=>∃x y:Str,vs=[.str x,.str y]∧x.length≤1000∧y.length≤1000∧Q (.int (lcp (cds x) (cds y))) H
def S6:Sp:=fun vs H Q _=>∃ (x y:Str) (a:Nat),vs=[.str x,.str y,.int a]∧x.length≤1000∧y.length≤1000∧a≤lcp (cds x) (cds y)∧Q (.int (lcp (cds x) (cds y))) H
def IsD(H:Hp):Nat→V→V→Prop
 | 0,_,_=>False
 | n+1,x,y=>(x=y∧(x=.non∨(∃b,x=.bl b)∨(∃i,x=.int i)∨∃s,x=.str s)) ∨
   (∃ (p q:Addr) (xs ys:List V),x=.ref p∧y=.ref q∧((H p=some (.lst xs)∧H q=some (.lst ys))∨(H p=some (.tup xs)∧H q=some (.tup ys)))∧xs.length=ys.length∧xs.length≤1000∧∀ (i:Nat) (x y:V),xs[i]? = some x→ys[i]? = some y→IsD H n x y)
theorem IsD.mono{H H':Hp}(s:ZG H H'):∀ {n:Nat} {x y:V},IsD H n x y→IsD H' n x y
 | 0,_,_,h=>h.elim
 | n+1,x,y,h=>by
  rcases h with h|⟨p,q,xs,ys,c,d,h,hl,e,f⟩
  ·exact .inl h
  ·refine .inr ⟨p,q,xs,ys,c,d,?_,hl,e,fun i x y a b=>(f i x y a b).mono s⟩;rcases h with⟨a,b⟩|⟨a,b⟩
   ·exact .inl ⟨s _ _ a,s _ _ b⟩
   ·exact .inr ⟨s _ _ a,s _ _ b⟩
def S4(n:Nat):Sp:=fun vs H Q _=>∃x y:V,vs=[x,y]∧IsD H n x y∧∀H',ZG H H'→Q (.bl true) H'
section
variable (K:#[7])
open PySem.W
theorem Zmg:kitAny K (.type "int") (["list", "tuple"].map Value.type)=some false:=by unfold kitAny kitOne kitCls;rfl
theorem Znj:kitAny K (.type "bool") (["list", "tuple"].map Value.type)=some false:=by unfold kitAny kitOne kitCls;rfl
theorem ZlJ:kitAny K (.type "str") (["list", "tuple"].map Value.type)=some false:=by unfold kitAny kitOne kitCls;rfl
theorem ZlK:kitAny K (.type "NoneType") (["list", "tuple"].map Value.type)=some false:=by unfold kitAny kitOne kitCls;rfl
theorem Zlv:kitAny K (.type "list") (["list", "tuple"].map Value.type)=some true:=by unfold kitAny kitOne kitCls;rfl
theorem ZlA:kitAny K (.type "tuple") (["list", "tuple"].map Value.type)=some true:=by unfold kitAny kitOne kitCls;rfl
theorem LV:kitOne K (.type "list") (.type "list")=some true:=by unfold kitOne kitCls;rfl
theorem LU:kitOne K (.type "list") (.type "tuple")=some false:=by unfold kitOne kitCls;rfl
theorem LS:kitOne K (.type "tuple") (.type "list")=some false:=by unfold kitOne kitCls;rfl
theorem LR:kitOne K (.type "tuple") (.type "tuple")=some true:=by unfold kitOne kitCls;rfl
theorem Zmh:kitOne K (.type "int") (.type "str")=some false:=by unfold kitOne kitCls;rfl
theorem LQ:kitOne K (.type "int") (.type "bool")=some false:=by unfold kitOne kitCls;rfl
theorem ZlW:kitOne K (.type "int") (.type "int")=some true:=by unfold kitOne kitCls;rfl
theorem Pw:kitOne K (.type "str") (.type "str")=some true:=by unfold kitOne kitCls;rfl
theorem LP:kitOne K (.type "NoneType") (.type "str")=some false:=by unfold kitOne kitCls;rfl
theorem Zno:kitOne K (.type "bool") (.type "str")=some false:=by unfold kitOne kitCls;rfl
theorem LO:kitOne K (.type "bool") (.type "bool")=some true:=by unfold kitOne kitCls;rfl
end
section
variable {P:Program} {w:World} {K:#[7]} {mg:Str→Option Value} {base:Heap} {ab U:Addr}
theorem ZqO(T:Zt K mg ab U):Df P w K mg base 1 "_law_mix" ["_law_cell", "_law_k"] PB:=by
 refine T.t_l_mix.df Mz (fun b H Q E h=>?_) (fun af f A outer s H b Q E hr h=>?_)
 ·obtain⟨a,k,rfl,_⟩:=h;rfl
 obtain⟨a,k,rfl,k1,k2,q⟩:=h;refine⟨_,#[Ze,#[Zw,2,Mz.nd,#[3],#[ZI,UO,#[ZI,VY,#[ZI,YO,#[ZI,YO,#[ZI,UO,‹0›,#[Zi]],#[ZI,VY,#[ZI,VY,‹1›,‹1›],#[Zi]]],#[Zi]],#[Zi]],#[Zi]]],#[Zj,#[Zr,#[ZI,UO,#[ZI,VY,‹2›,‹2›],#[Zi]]]]],?_⟩;refine⟨_,rfl,_,_,rfl,rfl,(by show (0:Int)<_;decide),_,rfl,_,rfl,_,_,rfl,rfl,.inl ⟨by lia,by lia⟩,_,_,rfl,rfl,.inr ⟨by decide,by decide⟩,_,_,rfl,rfl,_,_,rfl,rfl,_,_,rfl,rfl,.inr ⟨by decide,by decide⟩,_,_,rfl,rfl,(by show (0:Int)<_;decide),?_⟩;have m0:=Int.emod_nonneg ((a % 2147483629+k*k*7919+11)*48271) (show (2147483647:Int)≠0 by decide);have m1:=QaM ((a % 2147483629+k*k*7919+11)*48271) (show (0:Int)<2147483647 by decide);refine⟨_,rfl,_,rfl,_,_,rfl,rfl,.inl ⟨by lia,by lia⟩,_,_,rfl,rfl,(by show (0:Int)<_;decide),?_⟩;exact q _ (Int.emod_nonneg _ #[6]) (Int.lt_trans (QaM _ #[6]) #[6])
theorem ZoW(T:Zt K mg ab U):Df P w K mg base 1 "_law_left" ["_law_script", "_law_k"] (Ma K):=by
 refine T.t_l_left.df Mx (fun i H Q E h=>?_) (fun af f A outer s H i Q E hr h=>?_)
 ·obtain⟨a,ns,k,rfl,_⟩:=h;rfl
 obtain⟨a,ns,k,rfl,d,rj,k0,k1,q⟩:=h;refine⟨_,#[Ze,#[Zw,2,Mx.nd,#[3],#[Xk,#[Zn,Xr,‹1›,#[Zk,(Yv K),T.b.n_len,Qu,#[Za,‹0›,#[Zf]]],(Zp _)],#[Zl,(ixL K),‹0›,‹1›],#[Zi]]],#[Zj,#[Zr,#[YH,#[Za,#[ZI,VY,#[Zk,NV,T.b.n_abs,boot_abs,#[Za,‹2›,#[Zf]]],#[Xq,NU,T.b.n_int,boot_int,#[Za,#[Ya,NW,#[Zk,NV,T.b.n_abs,boot_abs,#[Za,‹2›,#[Zf]]],#[ZI,ZqK,#[Zi],#[Zi]],(Zp _)],#[Zf]]]],#[Za,#[ZI,YO,‹2›,#[ZI,VY,#[Zi],‹1›]],#[Za,#[Zi],#[Zf]]]]]]]],?_⟩;have j:(ns.map V.int).length=ns.length:=Qa _;have e:N3 10 18:=⟨by decide,by decide,by decide⟩;refine⟨_,rfl,_,rfl,a,_,rfl,.inl d,_,_,rfl,rfl,_,rfl,?_⟩;refine YW (fun c=>?_) (fun c=>?_)
 ·have g:k<(((ns.map V.int).length:Nat):Int):=of_decide_eq_true c;rw[j]at g;obtain⟨v,l⟩:=Zqr (ns:=ns) k0 g;refine⟨_,rfl,_,rfl,a,_,_,_,rfl,rfl,d,l,?_⟩;refine⟨_,rfl,_,rfl,_,rfl,_,rfl,_,_,rfl,rfl,e,_,_,rfl,rfl,.inr ⟨_,rfl,_,_,rfl,rfl,.inr (LZ _),_,rfl,_,rfl,_,_,rfl,rfl,.inl ⟨by decide,by decide⟩,_,_,rfl,rfl,(by show 3≤sizeLine;decide),fun p b=>?_⟩⟩;exact q p _ b ⟨_,_,Zd,Int.le_refl _⟩ (Zh b _)
 ·refine⟨_,rfl,_,rfl,_,rfl,_,rfl,_,_,rfl,rfl,e,_,_,rfl,rfl,.inr ⟨_,rfl,_,_,rfl,rfl,.inr (LZ _),_,rfl,_,rfl,_,_,rfl,rfl,.inl ⟨by decide,by decide⟩,_,_,rfl,rfl,(by show 3≤sizeLine;decide),fun p b=>?_⟩⟩;exact q p _ b ⟨_,_,Zd,Int.le_refl _⟩ (Zh b _)
theorem ZoK(T:Zt K mg ab U)(j:Df P w K mg base 1 "_law_mix" ["_law_cell", "_law_k"] PB):Df P w K mg base 2 "_law_pick" ["_law_left_here", "_law_many_here"] We:=by
 refine T.t_l_pick.df Mw (fun t H Q E h=>?_) (fun af f A outer s H t Q E k h=>?_)
 ·obtain⟨p,c,m,rfl,_⟩:=h;rfl
 obtain⟨p,c,m,rfl,⟨a,b,l,c0⟩,c1,i,m1,q⟩:=h;refine⟨_,#[Ze,#[Z2,#[ZI,YO,#[Zl,(ixL K),‹0›,#[Zi]],#[Zi]],#[Ys,‹0›,#[Zi],NC]],#[Ze,#[Z0,#[Zn,VX,#[Zl,(ixL K),‹0›,#[Zi]],#[Zi],(Zp _)],#[Ze,#[Zw,2,Mw.nd,#[3],#[ZI,UO,#[Zl,(ixL K),‹0›,#[Zi]],‹1›]],#[Ze,#[Z2,#[ZI,TK,#[Zl,(ixL K),‹0›,#[Zi]],‹1›],#[Ys,‹0›,#[Zi],NC]],#[Zj,#[Zr,‹2›]]]],#[ZF]],#[Zj,#[Zr,#[ZI,UO,#[ZI,TK,#[ZB,j,k,#[Za,#[ZB,j,k,#[Za,#[Zl,(ixL K),‹0›,#[Zi]],#[Za,#[Zl,(ixL K),‹0›,#[Zi]],#[Zf]]],#[5]],#[Za,#[ZI,YO,#[Zl,(ixL K),‹0›,#[Zi]],#[Zi]],#[Zf]]],#[5]],#[Zi]],‹1›]]]]],?_⟩;have g:(upd H p (.lst [.int a,.int b,.int (c+1)])) p=some (.lst [.int a,.int b,.int (c+1)]):=Zd;refine⟨_,rfl,p,_,_,_,rfl,rfl,SqL.of l,rfl,_,_,rfl,rfl,_,rfl,p,_,_,2,rfl,rfl,l,rfl,?_⟩;refine⟨_,rfl,p,_,_,_,rfl,rfl,SqL.of g,rfl,_,_,rfl,rfl,_,rfl,?_⟩;refine YW (fun d=>?_) (fun d=>?_)
 ·refine⟨_,rfl,p,_,_,_,rfl,rfl,SqL.of g,rfl,_,rfl,_,_,rfl,rfl,i,?_⟩;refine⟨_,rfl,p,_,_,_,rfl,rfl,SqL.of g,rfl,_,rfl,_,_,rfl,rfl,⟨i,by lia⟩,_,rfl,p,_,_,0,rfl,rfl,g,rfl,?_⟩;refine⟨_,rfl,?_⟩;refine q _ _ (Int.emod_nonneg _ #[2]) (QaM _ i) ⟨a / m,b,Zd,by lia⟩ fun e o h n=>?_;rw[Zc n,Zc n];exact h
 ·refine⟨_,rfl,p,_,_,_,rfl,rfl,SqL.of g,rfl,_,rfl,p,_,_,_,rfl,rfl,SqL.of g,rfl,_,_,rfl,by lia,by lia,fun r r0 r1=>?_⟩;refine⟨_,rfl,p,_,_,_,rfl,rfl,SqL.of g,rfl,_,_,rfl,rfl,_,_,rfl,by lia,by lia,fun r' lb iq=>?_⟩;refine⟨_,_,rfl,rfl,⟨by decide,by decide⟩,_,rfl,_,_,rfl,rfl,i,?_⟩;refine q _ _ (Int.emod_nonneg _ #[2]) (QaM _ i) ⟨a,b,Zd,by lia⟩ fun e o h n=>?_;rw[Zc n];exact h
noncomputable def WO:List Str:=["", "a", "ab", "aba", "abab", "b", "zebra", "aaaaaaaa", "knowswho", "z", "abababababab",Txt.mul "a" 24]
theorem Zi9:∀s∈WO,s.length≤24:=by ac_rfl
theorem Zj2:∀s∈WO,AZ s:=by unfold AZ cds;ac_rfl
def Pu:Sp:=fun vs H Q _=>∃ (p:Addr) (c:Int),vs=[.ref p]∧Y7 H p c∧c<2 ^ 50 ∧
 ∀ (l:Addr) (a:List Str) (d:Int) (b:Hp),H l=none→b l=some (.lst (a.map V.str))→1≤a.length→a.length≤4→(∀s∈a,s.length≤24∧AZ s)→Y7 b p d→c≤d→d≤c+5→But p H b→Q (.ref l) b
def Pt:Sp:=fun vs H Q _=>∃ (p l:Addr) (c:Int) (ss:List Str),vs=[.ref p,.ref l]∧Y7 H p c∧c<2 ^ 50∧H l=some (.lst (ss.map V.str))∧1≤ss.length∧ss.length≤4∧(∀s∈ss,s.length≤24∧AZ s) ∧
 ∀ (z:Str) (a:Int) (b:Hp),z.length≤28→AZ z→Y7 b p a→c≤a→a≤c+6→But p H b→Q (.str z) b
theorem Znh(T:Zt K mg ab U)(W:Df P w K mg base 2 "_law_pick" ["_law_left_here", "_law_many_here"] We):Df P w K mg base 3 "_law_stems" ["_law_left_here"] Pu:=by
 refine T.t_l_stems.df Mv (fun vs H Q E h=>?_) (fun af f A outer s H vs Q E X h=>?_)
 ·obtain⟨p,c,rfl,_⟩:=h;rfl
 obtain⟨p,c,rfl,C,c1,q⟩:=h;refine⟨_,#[Ze,#[Zw,1,Mv.nd,(Or.inr rfl),#[YH,#[Za,#[Zz],#[Za,#[Zz],#[Za,#[Zz],#[Za,#[Zz],#[Za,#[Zz],#[Za,#[Zz],#[Za,#[Zz],#[Za,#[Zz],#[Za,#[Zz],#[Za,#[Zz],#[Za,#[Zz],#[Za,#[ZI,Zpx,#[Zz],#[Zi]],#[Zf]]]]]]]]]]]]]]],#[Zj,#[Zr,#[WQ,Um,#[WS,T.b.n_range,#[Za,#[ZI,YO,#[Zi],#[ZB,W,X,#[Za,#[pv,0,(Or.inr #[3])],#[Za,#[Zi],#[Zf]]],#[5]]],#[Zf]]],(fun _ _ _ _=>#[cg,2,Um]),(fun _ _ _ _=>(@Wl _)),(fun _ _ _ _=>#[Zl,(ixL K),#[cv,1,Um],#[ZB,W,X,#[Za,#[cv,0,Um],#[Za,#[Zi],#[Zf]]],(Tw Um rfl #[1])]])]]]],?_⟩;refine⟨_,_,rfl,rfl,by decide,by decide,by decide,(by show 12≤sizeLine;decide),fun l Y=>?_⟩;have F:p≠l:=by obtain⟨a,b,d,_⟩:=C;exact Zb d Y
 have y4:Y7 (upd H l (.lst (WO.map V.str))) p c:=by obtain⟨a,b,d,c0⟩:=C;exact⟨a,b,by rw[Zc F];exact d,c0⟩
 refine⟨_,rfl,p,c,_,rfl,y4,by lia,by decide,by decide,fun r H1 r0 r1 Z t=>?_⟩;refine⟨_,_,rfl,rfl,_,rfl,by lia,by lia,fun D g=>?_⟩;have c0:0≤c:=by obtain⟨a,b,d,c0⟩:=C;exact c0
 have oE:H1 l=some (.lst (WO.map V.str)):=t l _ Zd F.symm;have k:p≠D:=by obtain⟨a,b,d,_⟩:=Z;exact Zb d g
 have y:l≠D:=Zb oE g;refine RJ (fun i z G j=>∃ (ss:List Str) (v:Option V) (c2:Int),G=[some (.ref p),some (.ref l),v]∧z=ss.map V.str∧ss.length=i∧(∀s∈ss,s.length≤24∧AZ s)∧Y7 j p c2∧c+1≤c2∧c2≤c+1+i ∧
   j l=some (.lst (WO.map V.str))∧j D=some (.lst z)∧But p H j) ?_ ?_ ?_
 ·refine⟨[],none,c+1,rfl,rfl,rfl,(fun s m=>by cases m),?_,by lia,by lia,?_,Zd,?_⟩
  ·obtain⟨a,b,d,I⟩:=Z;exact⟨a,b,by rw[Zc k];exact d,I⟩
  ·rw[Zc y];exact oE
  ·intro b o e n;have e1:(upd H l (.lst (WO.map V.str))) b=some o:=by rw[Zc (Zb e Y)];exact e
   have B:=t b o e1 n;rw[Zc (Zb B g)];exact B
 ·rintro i z G j hi ⟨ss,v,c2,rfl,rfl,J,m,L,b1,b2,bf,M,N⟩;refine⟨_,rfl,_,rfl,p,c2,_,rfl,L,by lia,by decide,by decide,fun r' H3 lb iq L3 O=>?_⟩;obtain⟨s,fA,dM⟩:=Pz (ss:=WO) lb iq;have gM:H3 D=some (.lst (ss.map V.str)):=O D _ M k.symm;have cL:H3 l=some (.lst (WO.map V.str)):=O l _ bf F.symm;refine⟨l,_,_,_,rfl,rfl,SqL.of cL,dM,gM,(by rw[Qa,J];exact ZE #[2]),ss++[s],_,c2+1,rfl,?_,?_,?_,?_,by lia,by lia,?_,Zd,?_⟩
  ·rw[Qe];rfl
  ·rw[Qj,J];rfl
  ·intro x hx;rcases Qm.mp hx with hx|hx
   ·exact m x hx
   ·rw[Qn.mp hx];exact⟨Zi9 s fA,Zj2 s fA⟩
  ·obtain⟨a,b,d,I⟩:=L3;exact⟨a,b,by rw[Zc k];exact d,I⟩
  ·rw[Zc y];exact cL
  ·intro b o e n;have B:=O b o (N b o e n) n;have R:H D=none:=by
    cases S:H D with
    | none=>rfl
    | some u =>
     have rl:D≠p:=k.symm;have z1:(upd H l (.lst (WO.map V.str))) D=some u:=by rw[Zc y.symm];exact S
     rw[t D u z1 rl]at g;cases g
   rw[Zc (Zb e R)];exact B
 ·rintro z G j ⟨ss,v,c2,rfl,rfl,J,m,L,b1,b2,bf,M,N⟩;have R:H D=none:=by
   cases S:H D with
   | none=>rfl
   | some u =>
    have z1:(upd H l (.lst (WO.map V.str))) D=some u:=by rw[Zc y.symm];exact S
    rw[t D u z1 k.symm]at g;cases g
  exact q D ss c2 j R M #[2] #[2] m L #[2] #[2] N
theorem Zqh(T:Zt K mg ab U)(F:Df P w K mg base 2 "_law_pick" ["_law_left_here", "_law_many_here"] We):Df P w K mg base 3 "_law_key" ["_law_left_here", "_law_stems_here"] Pt:=by
 refine T.t_l_key.df Mu (fun vs H Q E h=>?_) (fun af f A outer s H vs Q E G h=>?_)
 ·obtain⟨p,l,c,ss,rfl,_⟩:=h;rfl
 obtain⟨p,l,c,ss,rfl,I,c1,J,n1,n4,ja,q⟩:=h;refine⟨_,#[Ze,#[Zw,2,Mu.nd,#[3],#[Xj,PySem.F.plainAttrs_str,PySem.F.slot_str_join,PySem.F.type_str_join,(ZrB K),#[Zz],#[Za,#[WQ,S9,#[WS,T.b.n_range,#[Za,#[ZB,F,G,#[Za,#[pv,0,(Or.inr #[3])],#[Za,#[Zi],#[Zf]]],#[5]],#[Zf]]],(fun _ _ _ _=>#[cg,3,S9]),(fun _ _ _ _=>(@Wl _)),(fun _ _ _ _=>#[Zl,VR,#[Zz],#[ZB,F,G,#[Za,#[cv,0,S9],#[Za,#[Zi],#[Zf]]],(Tw S9 rfl #[1])]])],#[Zf]]]],#[Zj,#[Zr,#[ZI,RZ,#[Zl,(ixL K),‹1›,#[ZB,F,G,#[Za,#[pv,0,(Or.inr #[3])],#[Za,#[Zk,(Yv K),T.b.n_len,Qu,#[Za,‹1›,#[Zf]]],#[Zf]]],#[5]]],‹2›]]]],?_⟩;have c0:0≤c:=by obtain⟨a,b,g,c0⟩:=I;exact c0
 have L:p≠l:=by
  obtain⟨a,b,g,_⟩:=I;refine Sd g J fun e=>?_;have e1:=congrArg List.length (HO.lst.inj e);cases ss with
  | nil=>cases e1
  | cons x r=>exact absurd (HO.lst.inj e) (by intro z;cases z)
 refine⟨rfl,_,rfl,p,c,_,rfl,I,by lia,by decide,by decide,fun r H1 r0 r1 L1 M=>?_⟩;refine⟨_,rfl,by lia,by lia,fun D t=>?_⟩;have y:p≠D:=by obtain⟨a,b,g,_⟩:=L1;exact Zb g t
 have oE:=M l _ J L.symm;have lc:l≠D:=Zb oE t;have uB:H D=none:=by
  cases w':H D with
  | none=>rfl
  | some u=>rw[M D u w' y.symm]at t;cases t
 refine RJ (fun i B N k=>∃ (d:List Str) (v:Option V) (c2:Int),N=[some (.ref p),some (.ref l),none,v]∧B=d.map V.str∧d.length=i∧(∀s∈d,s.length≤1∧AZ s)∧Y7 k p c2∧c+1≤c2∧c2≤c+1+i ∧
   k D=some (.lst B)∧But p H k) ?_ ?_ ?_
 ·refine⟨[],none,c+1,rfl,rfl,rfl,(fun s j=>by cases j),?_,by lia,by lia,Zd,?_⟩
  ·obtain⟨a,b,g,O⟩:=L1;exact⟨a,b,by rw[Zc y];exact g,O⟩
  ·intro b o e n;rw[Zc (Zb e uB)];exact M b o e n
 ·rintro i B N k hi ⟨d,v,c2,rfl,rfl,R,j,S,b1,b2,W,C⟩;refine⟨_,rfl,p,c2,_,rfl,S,by lia,by decide,by decide,fun r' X Y iq Z m=>?_⟩;obtain⟨ch,y6,di⟩:=VD (z := "ababcz") Y iq;have gM:X D=some (.lst (d.map V.str)):=m D _ W y.symm;refine⟨_,_,_,rfl,rfl,#[1],di,gM,(by rw[Qa,R];exact ZE #[2]),d++[⟨#[ch]⟩],_,c2+1,rfl,?_,?_,?_,?_,by lia,by lia,Zd,?_⟩
  ·rw[Qe];rfl
  ·rw[Qj,R];rfl
  ·intro x hx;rcases Qm.mp hx with hx|hx
   ·exact j x hx
   ·rw[Qn.mp hx];exact⟨Qh 1,Zp1.one y6⟩
  ·obtain⟨a,b,g,O⟩:=Z;exact⟨a,b,by rw[Zc y];exact g,O⟩
  ·intro b o e n;rw[Zc (Zb e uB)];exact m b o (C b o e n) n
 ·rintro B N k ⟨d,v,c2,rfl,rfl,R,j,S,b1,b2,W,C⟩;have uC:=LY d fun s h=>(j s h).1;have rm:=Zoc "" d;have e0:("" : Str).length=0:=by ac_rfl
  rw[e0]at rm;have bf:=C l _ J L.symm;refine⟨_,D,d,rfl,rfl,SqL.of W,(by rw[e0];lia),?_⟩;have ao:(((ss.map V.str).length:Nat):Int)=(ss.length:Int):=by rw[Qa]
  refine⟨_,rfl,_,rfl,_,rfl,l,_,rfl,.inl (SqL.of bf),p,c2,_,rfl,S,by lia,by lia,by lia,fun r' X Y iq Z m=>?_⟩;obtain⟨st,fA,dM⟩:=Pz (ss:=ss) Y #[2];have bS:=(ja st fA).1;refine⟨l,_,_,_,rfl,rfl,SqL.of (m l _ bf L.symm),dM,_,rfl,_,_,rfl,rfl,Yh #[2],?_⟩;refine q _ (c2+1) X ?_ ((ja st fA).2.app (AZ.joinT d fun s h=>(j s h).2)) Z #[2] #[2] (C.trans m);rw[QaO];lia
theorem Zhc(T:Zt K mg ab U):Df P w K mg base 1 "alike_from" ["one", "other", "far"] S6:=by
 refine T.t_alike_from.df PQ (fun D H Q E h=>?_) (fun af f A outer s H D Q E hr h=>?_)
 ·obtain⟨x,y,c,rfl,_⟩:=h;rfl
 obtain⟨x,y,c,rfl,p,r,F,q⟩:=h;refine⟨_,#[Ze,#[Zw,3,PQ.nd,#[3],‹2›],#[Ze,(@TN _ _ _ _ _ _ PassesOwn.never (@PW.pt _ _ _ #[XS,#[Zn,Xr,‹3›,#[Zk,Wm,T.b.n_len,Qu,#[Za,‹0›,#[Zf]]],(Zp _)],#[XS,#[Zn,Xr,‹3›,#[Zk,Wm,T.b.n_len,Qu,#[Za,‹1›,#[Zf]]],(Zp _)],#[Xl,#[Zn,YF,#[Zl,VR,‹0›,‹3›],#[Zl,VR,‹1›,‹3›],(Zp _)]]]]) #[Zj,(@Zp4 _ _ 3 _ _ _ _ _ _ PQ.nd rfl #[3] #[Zi] ZqV (by trivial))]),#[Zj,#[Zr,‹3›]]]],?_⟩;refine⟨_,rfl,?_⟩;have lx:(cds x).length=x.length:=by simp[Str.length]
 have ly:(cds y).length=y.length:=by simp[Str.length]
 have ll:=U5 (cds x) (cds y);refine⟨fun m t g=>∃k:Nat,t=[some (.str x),some (.str y),some (.int c),some (.int k)]∧g=H∧k≤lcp (cds x) (cds y)∧m=lcp (cds x) (cds y)-k,⟨_,c,rfl,rfl,F,rfl⟩,?_⟩;rintro m t g ⟨k,rfl,rfl,d,rfl⟩;refine⟨_,rfl,_,rfl,x,rfl,Yh p,_,_,rfl,rfl,_,rfl,?_⟩;refine YW (fun i=>?_) (fun i=>?_)
 ·have u:(k:Int)<(x.length:Int):=of_decide_eq_true i;refine⟨_,rfl,_,rfl,y,rfl,Yh r,_,_,rfl,rfl,_,rfl,?_⟩;refine YW (fun j=>?_) (fun j=>?_)
  ·have v:(k:Int)<(y.length:Int):=of_decide_eq_true j;obtain⟨a,l,G⟩:=VD (z:=x) (k:=k) #[2] u;obtain⟨b,n,I⟩:=VD (z:=y) (k:=k) #[2] v;rw[QaR]at l n;refine⟨_,rfl,_,rfl,x,_,a,rfl,rfl,Yh p,G,_,rfl,_,rfl,y,_,b,rfl,rfl,Yh r,I,rfl,_,rfl,?_⟩;refine YW (fun o=>?_) (fun o=>?_)
   ·have J:a=b:=by have:=of_decide_eq_true o;injection this with e;injection e with e;simpa using e
    subst J;have:=Py _ _ k d a l n;refine⟨fun B C=>B=[some (.str x),some (.str y),some (.int c),some (.int ((k+1:Nat):Int))]∧C=g,fun B C ⟨L,M⟩=>⟨_,?_,k+1,L,M,this,rfl⟩,?_⟩
    ·lia
    ·exact⟨_,rfl,_,_,rfl,rfl,rfl,rfl⟩
   ·refine⟨_,rfl,?_⟩;have e:=U3 _ _ k d (.inr (.inr ⟨a,b,l,n,fun e=>o (by subst e;exact decide_eq_true rfl)⟩));rw[e]at q;exact q
  ·refine YR ⟨_,rfl,?_⟩;have v:¬ (k:Int)<(y.length:Int):=of_decide_eq_false (Q9.mpr j);have e:=U3 _ _ k d (.inr (.inl #[2]));rw[e]at q;exact q
 ·refine YR ⟨_,rfl,?_⟩;have u:¬ (k:Int)<(x.length:Int):=of_decide_eq_false (Q9.mpr i);have e:=U3 _ _ k d (.inl #[2]);rw[e]at q;exact q
theorem ZmS(T:Zt K mg ab U)(a:Df P w K mg base 1 "alike_from" ["one", "other", "far"] S6):Df P w K mg base 2 "alike" ["one", "other"] Wd:=by
 refine T.t_alike.df Zmq (fun b H Q E h=>?_) (fun af f A outer s H b Q E c h=>?_)
 ·obtain⟨x,y,rfl,_⟩:=h;rfl
 obtain⟨x,y,rfl,d,e,q⟩:=h;refine⟨_,#[Zj,#[Zr,#[ZB,a,c,#[Za,‹0›,#[Za,‹1›,#[Za,#[Zi],#[Zf]]]],#[5]]]],?_⟩;exact⟨_,rfl,_,rfl,x,y,0,rfl,d,e,Qx _,q⟩
theorem Zko(T:Zt K mg ab U):Df P w K mg base 1 "_law_alike" ["_law_one", "_law_other"] Wd:=by
 refine T.t_l_alike.df PP (fun C H Q E h=>?_) (fun af f A outer s H C Q E hr h=>?_)
 ·obtain⟨x,y,rfl,_⟩:=h;rfl
 obtain⟨x,y,rfl,o,p,q⟩:=h;refine⟨_,#[Ze,#[Zw,2,PP.nd,#[3],#[Zi]],#[Ze,(@TN _ _ _ _ _ _ PassesOwn.never (@PW.pt _ _ _ #[XS,#[Zn,Xr,‹2›,#[Zk,Wm,T.b.n_len,Qu,#[Za,‹0›,#[Zf]]],(Zp _)],#[XS,#[Zn,Xr,‹2›,#[Zk,Wm,T.b.n_len,Qu,#[Za,‹1›,#[Zf]]],(Zp _)],#[Xl,#[Zn,YF,#[Zl,VR,‹0›,‹2›],#[Zl,VR,‹1›,‹2›],(Zp _)]]]]) #[Zj,#[Zw,2,PP.nd,#[3],#[ZI,YO,‹2›,#[Zi]]]]),#[Zj,#[Zr,‹2›]]]],?_⟩;have lx:(cds x).length=x.length:=by simp[Str.length]
 have ly:(cds y).length=y.length:=by simp[Str.length]
 have ll:=U5 (cds x) (cds y);refine⟨fun m r d=>∃k:Nat,r=[some (.str x),some (.str y),some (.int k)]∧d=H∧k≤lcp (cds x) (cds y)∧m=lcp (cds x) (cds y)-k,⟨_,0,rfl,rfl,Qx _,rfl⟩,?_⟩;rintro m r d ⟨k,rfl,rfl,c,rfl⟩;refine⟨_,rfl,_,rfl,x,rfl,Yh o,_,_,rfl,rfl,_,rfl,?_⟩;refine YW (fun g=>?_) (fun g=>?_)
 ·have t:(k:Int)<(x.length:Int):=of_decide_eq_true g;refine⟨_,rfl,_,rfl,y,rfl,Yh p,_,_,rfl,rfl,_,rfl,?_⟩;refine YW (fun i=>?_) (fun i=>?_)
  ·have u:(k:Int)<(y.length:Int):=of_decide_eq_true i;obtain⟨a,j,D⟩:=VD (z:=x) (k:=k) #[2] t;obtain⟨b,l,F⟩:=VD (z:=y) (k:=k) #[2] u;rw[QaR]at j l;refine⟨_,rfl,_,rfl,x,_,a,rfl,rfl,Yh o,D,_,rfl,_,rfl,y,_,b,rfl,rfl,Yh p,F,rfl,_,rfl,?_⟩;refine YW (fun n=>?_) (fun n=>?_)
   ·have G:a=b:=by have:=of_decide_eq_true n;injection this with e;injection e with e;simpa using e
    subst G;have:=Py _ _ k c a j l;refine⟨fun v B=>v=[some (.str x),some (.str y),some (.int ((k+1:Nat):Int))]∧B=d,fun v B ⟨I,J⟩=>⟨_,?_,k+1,I,J,this,rfl⟩,?_⟩
    ·lia
    ·exact⟨_,rfl,_,_,rfl,rfl,rfl,rfl⟩
   ·refine⟨_,rfl,?_⟩;have e:=U3 _ _ k c (.inr (.inr ⟨a,b,j,l,fun e=>n (by subst e;exact decide_eq_true rfl)⟩));rw[e]at q;exact q
  ·refine YR ⟨_,rfl,?_⟩;have u:¬ (k:Int)<(y.length:Int):=of_decide_eq_false (Q9.mpr i);have e:=U3 _ _ k c (.inr (.inl #[2]));rw[e]at q;exact q
 ·refine YR ⟨_,rfl,?_⟩;have t:¬ (k:Int)<(x.length:Int):=of_decide_eq_false (Q9.mpr g);have e:=U3 _ _ k c (.inl #[2]);rw[e]at q;exact q
theorem YI{c A B:Prop}[Decidable c](hc:c)(h:A):if decide c=true then A else B:=by rw[if_pos (decide_eq_true hc)];exact h
theorem YG{c A B:Prop}[Decidable c](hc:¬ c)(h:B):if decide c=true then A else B:=by rw[if_neg (by rw[decide_eq_false hc];exact Ql)];exact h
theorem LN(T:Zt K mg ab U):∀n:Nat,Df P w K mg base (n+1) "_law_same" ["_law_found", "_law_due"] (S4 n)
 | 0=>by
  refine T.t_l_same.df Mt (fun vs H Q E h=>?_) (fun af f A outer s H vs Q E m h=>?_)
  ·obtain⟨x,y,rfl,_⟩:=h;rfl
  obtain⟨x,y,rfl,h,_⟩:=h;exact h.elim
 | n+1=>by
  have aQ:=LN T n;refine T.t_l_same.df Mt (fun vs H Q E h=>?_) (fun af f A outer s H vs Q E m h=>?_)
  ·obtain⟨x,y,rfl,_⟩:=h;rfl
  obtain⟨x,y,rfl,u,q⟩:=h;refine⟨_,#[Ze,#[Z0,#[Xs,#[Zk,(ZrP K),T.b.n_isinstance,boot_isinstance,#[Za,‹1›,#[Za,#[YJ,#[Za,#[XJ,T.b.n_list,boot_list],#[Za,#[XJ,T.b.n_tuple,boot_tuple],#[Zf]]]],#[Zf]]]]],#[Ze,#[Z0,(@PW.pt _ _ _ #[Wo,#[Zn,R0,#[Zk,(W4 K),T.b.n_isinstance,boot_isinstance,#[Za,‹0›,#[Za,#[XJ,T.b.n_list,boot_list],#[Zf]]]],#[Zk,(W4 K),T.b.n_isinstance,boot_isinstance,#[Za,‹1›,#[Za,#[XJ,T.b.n_list,boot_list],#[Zf]]]],(Zp _)],(@Vs _ _ _ _ #[Zn,R0,#[Zk,(W4 K),T.b.n_isinstance,boot_isinstance,#[Za,‹0›,#[Za,#[XJ,T.b.n_tuple,boot_tuple],#[Zf]]]],#[Zk,(W4 K),T.b.n_isinstance,boot_isinstance,#[Za,‹1›,#[Za,#[XJ,T.b.n_tuple,boot_tuple],#[Zf]]]],(Zp _)])]),#[Zj,#[Zr,#[WV]]],#[ZF]],#[Zj,#[Zr,#[Xc,#[Ya,YF,#[Zk,(Yv K),T.b.n_len,Qu,#[Za,‹0›,#[Zf]]],#[Zk,(Yv K),T.b.n_len,Qu,#[Za,‹1›,#[Zf]]],(Zp _)],#[WU,#[Zk,(Zsm K),T.b.n_all,boot_all,#[Za,#[WQ,U8,(@iZ _ K _ _ _ _ _ _ _ _ T.b.n_zip #[Za,‹0›,#[Za,‹1›,#[Zf]]] #[5] #[5] #[5] #[5]),(fun _ _ _ _=>#[gT,K,2,#[ZC,#[cg,2,U8],#[ZC,#[cg,3,U8],(@X6 _)]]]),(fun _ _ _ _=>(@Wl _)),(fun _ _ _ _=>#[ZB,aQ,m,#[Za,#[cw,2,U8],#[Za,#[cw,3,U8],#[Zf]]],(Tw U8 rfl #[1])])],#[Zf]]]]]]]],#[ZF]],#[Ze,#[Z0,(@PW.pt _ _ _ #[Wo,#[Zn,Yb,‹1›,#[ZT],(Zp _)],(@Vs _ _ _ _ #[Xs,#[Zk,(W4 K),T.b.n_isinstance,boot_isinstance,#[Za,‹1›,#[Za,#[XJ,T.b.n_str,boot_str],#[Zf]]]]])]),#[Zj,#[Zr,#[Xc,#[Ya,YF,‹0›,‹1›,(Zp _)],#[WU,#[Ya,YF,#[Zk,(W4 K),T.b.n_isinstance,boot_isinstance,#[Za,‹0›,#[Za,#[XJ,T.b.n_str,boot_str],#[Zf]]]],#[Zk,(W4 K),T.b.n_isinstance,boot_isinstance,#[Za,‹1›,#[Za,#[XJ,T.b.n_str,boot_str],#[Zf]]]],(Zp _)]]]]],#[ZF]],#[Ze,#[Z0,#[Xs,#[Zk,(W4 K),T.b.n_isinstance,boot_isinstance,#[Za,‹1›,#[Za,#[XJ,T.b.n_bool,boot_bool],#[Zf]]]]],#[Zj,#[Zr,#[Xc,#[Zk,(W4 K),T.b.n_isinstance,boot_isinstance,#[Za,‹0›,#[Za,#[XJ,T.b.n_bool,boot_bool],#[Zf]]]],#[WU,#[Ya,YF,‹0›,‹1›,(Zp _)]]]]],#[ZF]],#[Zj,#[Zr,#[Xc,#[Zk,(W4 K),T.b.n_isinstance,boot_isinstance,#[Za,‹0›,#[Za,#[XJ,T.b.n_int,boot_int],#[Zf]]]],#[Xc,(@ZqC _ _ _ _ #[Zk,(W4 K),T.b.n_isinstance,boot_isinstance,#[Za,‹0›,#[Za,#[XJ,T.b.n_bool,boot_bool],#[Zf]]]]),#[WU,#[Ya,YF,‹0›,‹1›,(Zp _)]]]]]]]]],?_⟩;refine⟨_,rfl,(by show 2≤sizeLine;decide),fun c v=>?_⟩;have R:ZG H (upd H c (.tup (["list", "tuple"].map V.ty))):=Zh v _;rcases u with⟨rfl,rfl|⟨b,rfl⟩|⟨i,rfl⟩|⟨z,rfl⟩⟩|⟨p,t,xs,ys,rfl,rfl,⟨B,C⟩|⟨B,C⟩,hl,hz,hi⟩
  ·refine⟨_,c,["list", "tuple"],_,_,rfl,Zd,.non,ZlK K,_,rfl,YR ?_⟩;refine⟨_,rfl,rfl,_,rfl,YI rfl (XN ?_)⟩;refine⟨_,rfl,_,rfl,rfl,_,rfl,YI rfl ?_⟩;exact⟨_,rfl,_, "str",_,_,rfl,.non,LP K,_,rfl,_, "str",_,_,rfl,.non,LP K,rfl,q _ R⟩
  ·refine⟨_,c,["list", "tuple"],_,_,rfl,Zd,.bl b,Znj K,_,rfl,YR ?_⟩;refine⟨_,rfl,rfl,_,rfl,YG (by intro z;cases z) ?_⟩;refine⟨_,rfl,_, "str",_,_,rfl,.bl b,Zno K,_,rfl,YR ?_⟩;refine⟨_,rfl,_, "bool",_,_,rfl,.bl b,LO K,_,rfl,XN ?_⟩;refine⟨_,rfl,_, "bool",_,_,rfl,.bl b,LO K,_,rfl,XN ?_⟩;refine⟨_,rfl,_,rfl,rfl,?_⟩;have e:decide (V.bl b=V.bl b)=true:=decide_eq_true rfl;rw[e];exact q _ R
  ·refine⟨_,c,["list", "tuple"],_,_,rfl,Zd,.int i,Zmg K,_,rfl,YR ?_⟩;refine⟨_,rfl,rfl,_,rfl,YG (by intro z;cases z) ?_⟩;refine⟨_,rfl,_, "str",_,_,rfl,.int i,Zmh K,_,rfl,YR ?_⟩;refine⟨_,rfl,_, "bool",_,_,rfl,.int i,LQ K,_,rfl,YR ?_⟩;refine⟨_,rfl,_, "int",_,_,rfl,.int i,ZlW K,_,rfl,XN ?_⟩;refine⟨_,rfl,_, "bool",_,_,rfl,.int i,LQ K,_,rfl,_,rfl,XN ?_⟩;refine⟨_,rfl,_,rfl,rfl,?_⟩;have e:decide (V.int i=V.int i)=true:=decide_eq_true rfl;rw[e];exact q _ R
  ·refine⟨_,c,["list", "tuple"],_,_,rfl,Zd,.str z,ZlJ K,_,rfl,YR ?_⟩;refine⟨_,rfl,rfl,_,rfl,YG (by intro z;cases z) ?_⟩;refine⟨_,rfl,_, "str",_,_,rfl,.str z,Pw K,_,rfl,XN ?_⟩;refine⟨_,rfl,_,rfl,rfl,_,rfl,YI rfl ?_⟩;exact⟨_,rfl,_, "str",_,_,rfl,.str z,Pw K,_,rfl,_, "str",_,_,rfl,.str z,Pw K,rfl,q _ R⟩
  ·have j:(upd H c (.tup (["list", "tuple"].map V.ty))) p=some (.lst xs):=by rw[Zc (Zb B v)];exact B
   have g:(upd H c (.tup (["list", "tuple"].map V.ty))) t=some (.lst ys):=by rw[Zc (Zb C v)];exact C
   refine⟨_,c,["list", "tuple"],_,_,rfl,Zd,.lst g,Zlv K,_,rfl,XN ?_⟩;refine⟨_,rfl,_, "list",_,_,rfl,.lst j,LV K,_,rfl,_, "list",_,_,rfl,.lst g,LV K,rfl,_,rfl,WB rfl ?_⟩;refine⟨_,rfl,_, "tuple",_,_,rfl,.lst j,LU K,_,rfl,_, "tuple",_,_,rfl,.lst g,LU K,rfl,_,rfl,WB rfl ?_⟩;refine⟨_,rfl,p,xs,rfl,.inl (SqL.of j),_,rfl,t,ys,rfl,.inl (SqL.of g),rfl,_,rfl,YI (by rw[hl]) ?_⟩;refine⟨_,rfl,_,rfl,.l p,.l t,xs,ys,rfl,SqL.of j,SqL.of g,fun D u=>?_⟩;have I:ZG H (upd H c (.tup (["list", "tuple"].map V.ty))):=Zh v _;refine Nj (K:=K) (xs:=xs) (ys:=ys) (fun i zs k a=>(∃J L,k=[some (.ref p),some (.ref t),J,L])∧zs=List.replicate i (.bl true)∧ZG H a∧a D=some (.lst zs)∧i≤xs.length) ?_ ?_ ?_ ?_
   ·exact⟨⟨none,none,rfl⟩,rfl,I.trans (Zh u _),Zd,Qx _⟩
   ·rintro i zs k a ⟨_,_,d,_⟩;exact⟨SqL.of (d _ _ B),SqL.of (d _ _ C)⟩
   ·rintro i zs k a F G r M S ⟨⟨J,L,rfl⟩,rfl,d,l,y8⟩ m;have W:i<xs.length:=(Qf.mp M).1;have X:D≠r:=Zb l m;have N:ZG H (upd a r (.tup [F,G])):=d.trans (Zh m _);refine⟨r,_,rfl,SqT.of Zd,rfl,_,_,rfl,_,_,rfl,rfl,?_⟩;refine⟨_,rfl,_,rfl,F,G,rfl,(hi i F G M S).mono N,fun Y O=>?_⟩;have Z:Y D=some (.lst (List.replicate i (.bl true))):=O _ _ (by rw[Zc X];exact l);refine⟨Z,(by rw[Qau];exact ZE #[2]),⟨_,_,rfl⟩,?_,?_,Zd,W⟩
    ·rw[List.replicate_succ']
    ·intro b o e;have e1:=O b o (N b o e);rw[Zc (fun z=>by subst z;exact nomatch (I b o e).symm.trans u)];exact e1
   ·rintro zs k a ⟨_,rfl,d,l,_⟩;refine⟨D,List.replicate (min xs.length ys.length) true,rfl,SqL.of (by rw[List.map_replicate];exact l),?_⟩;have e:(List.replicate (min xs.length ys.length) true).all id=true:=by rw[QaC];intro b hb;exact(List.eq_of_mem_replicate hb)
    rw[e];exact q a d
  ·have j:(upd H c (.tup (["list", "tuple"].map V.ty))) p=some (.tup xs):=by rw[Zc (Zb B v)];exact B
   have g:(upd H c (.tup (["list", "tuple"].map V.ty))) t=some (.tup ys):=by rw[Zc (Zb C v)];exact C
   refine⟨_,c,["list", "tuple"],_,_,rfl,Zd,.tup g,ZlA K,_,rfl,XN ?_⟩;refine⟨_,rfl,_, "list",_,_,rfl,.tup j,LS K,_,rfl,_, "list",_,_,rfl,.tup g,LS K,rfl,_,rfl,WB rfl ?_⟩;refine⟨_,rfl,_, "tuple",_,_,rfl,.tup j,LR K,_,rfl,_, "tuple",_,_,rfl,.tup g,LR K,rfl,_,rfl,WB rfl ?_⟩;refine⟨_,rfl,p,xs,rfl,.inr (SqT.of j),_,rfl,t,ys,rfl,.inr (SqT.of g),rfl,_,rfl,YI (by rw[hl]) ?_⟩;refine⟨_,rfl,_,rfl,.t p,.t t,xs,ys,rfl,SqT.of j,SqT.of g,fun D u=>?_⟩;have I:ZG H (upd H c (.tup (["list", "tuple"].map V.ty))):=Zh v _;refine Nj (K:=K) (xs:=xs) (ys:=ys) (fun i zs k a=>(∃J L,k=[some (.ref p),some (.ref t),J,L])∧zs=List.replicate i (.bl true)∧ZG H a∧a D=some (.lst zs)∧i≤xs.length) ?_ ?_ ?_ ?_
   ·exact⟨⟨none,none,rfl⟩,rfl,I.trans (Zh u _),Zd,Qx _⟩
   ·rintro i zs k a ⟨_,_,d,_⟩;exact⟨SqT.of (d _ _ B),SqT.of (d _ _ C)⟩
   ·rintro i zs k a F G r M S ⟨⟨J,L,rfl⟩,rfl,d,l,y8⟩ m;have W:i<xs.length:=(Qf.mp M).1;have X:D≠r:=Zb l m;have N:ZG H (upd a r (.tup [F,G])):=d.trans (Zh m _);refine⟨r,_,rfl,SqT.of Zd,rfl,_,_,rfl,_,_,rfl,rfl,?_⟩;refine⟨_,rfl,_,rfl,F,G,rfl,(hi i F G M S).mono N,fun Y O=>?_⟩;have Z:Y D=some (.lst (List.replicate i (.bl true))):=O _ _ (by rw[Zc X];exact l);refine⟨Z,(by rw[Qau];exact ZE #[2]),⟨_,_,rfl⟩,?_,?_,Zd,W⟩
    ·rw[List.replicate_succ']
    ·intro b o e;have e1:=O b o (N b o e);rw[Zc (fun z=>by subst z;exact nomatch (I b o e).symm.trans u)];exact e1
   ·rintro zs k a ⟨_,rfl,d,l,_⟩;refine⟨D,List.replicate (min xs.length ys.length) true,rfl,SqL.of (by rw[List.map_replicate];exact l),?_⟩;have e:(List.replicate (min xs.length ys.length) true).all id=true:=by rw[QaC];intro b hb;exact(List.eq_of_mem_replicate hb)
    rw[e];exact q a d
theorem Y7.new{H:Hp}{p l:Addr}{c:Int}{o:HO}(h:Y7 H p c)(n:H l=none):Y7 (upd H l o) p c:=by obtain⟨a,b,d,c0⟩:=h;exact⟨a,b,by rw[Zc (Zb d n)];exact d,c0⟩
theorem Y7.ge{H:Hp}{p:Addr}{c:Int}(h:Y7 H p c):0≤c:=by obtain⟨a,b,hp,c0⟩:=h;exact c0
theorem Y7.here{H:Hp}{p:Addr}{c:Int}(h:Y7 H p c):∃o,H p=some o:=by obtain⟨a,b,hp,c0⟩:=h;exact⟨_,hp⟩
theorem Y7.at{H:Hp}{p l:Addr}{c:Int}{o:HO}(h:Y7 H p c)(n:p≠l):Y7 (upd H l o) p c:=by obtain⟨a,b,d,c0⟩:=h;exact⟨a,b,by rw[Zc n];exact d,c0⟩
theorem LM:∀ss:List Str,(∀s∈ss,AZ s)→PyData.canLayAll0 (ss.map PyData.str)=true
 | [],_=>rfl
 | x::r,h=>by simp[PyData.canLayAll0,PyData.canLay0,(h x #[4]).ok,LM r fun s a=>h s (List.mem_cons_of_mem _ a)]
theorem LL:∀ss:List Str,PyData.depthAll (ss.map PyData.str)=0
 | []=>rfl
 | _::r=>by simp[PyData.depthAll,PyData.depth,LL r]
theorem VB(ss:List Str)(h:∀s∈ss,AZ s):SeqAt.shaped (.list (ss.map PyData.str))=true:=by simp[SeqAt.shaped,PyData.canLay0,PyData.depth,LM ss h,LL]
theorem Wc{K:#[7]}{H:Hp}:∀ss:List Str,DVs K H (ss.map V.str) (ss.map PyData.str)
 | []=>.nil
 | s::r=>.cons (.str s) (Wc r)
def Ps:Sp:=fun vs H Q _=>∃ (p l:Addr) (c a:Int) (ss:List Str),vs=[.ref p,.ref l,.int a]∧Y7 H p c∧c<2 ^ 40∧0≤a∧a≤60∧H l=some (.lst (ss.map V.str))∧1≤ss.length∧ss.length≤4∧(∀s∈ss,s.length≤24∧AZ s) ∧
 ∀ (r:Addr) (d:List Str) (e:Int) (b:Hp),H r=none→b r=some (.lst (d.map V.str))→(d.length:Int)≤a→(∀s∈d,s.length≤28∧AZ s)→Y7 b p e→c≤e→e≤c+600→But p H b→Q (.ref r) b
theorem Zpw(T:Zt K mg ab U)(R:Df P w K mg base 2 "_law_pick" ["_law_left_here", "_law_many_here"] We)(gr:Df P w K mg base 3 "_law_key" ["_law_left_here", "_law_stems_here"] Pt):Df P w K mg base 4 "_law_keys" ["_law_left_here", "_law_stems_here", "_law_most"] Ps:=by
 refine T.t_l_keys.df Uq (fun vs H Q E h=>?_) (fun af f A outer s H vs Q E y h=>?_)
 ·obtain⟨p,l,c,J,ss,rfl,_⟩:=h;rfl
 obtain⟨p,l,c,J,ss,rfl,L,c1,m0,m1,S,n1,n4,ja,q⟩:=h;refine⟨_,#[Ze,#[Zw,3,Uq.nd,#[3],#[YH,#[Zf]]],#[Ze,#[XR,PassesOwn.never,#[WS,T.b.n_range,#[Za,#[ZB,R,y,#[Za,‹0›,#[Za,#[ZI,YO,‹2›,#[Zi]],#[Zf]]],#[5]],#[Zf]]],#[ZD,4,Uq.nd],#[Ze,#[Zw,5,Uq.nd,#[3],#[ZB,gr,y,#[Za,‹0›,#[Za,‹1›,#[Zf]]],#[5]]],#[Ze,#[Z0,(@PW.pt _ _ _ #[XS,#[Zn,(@neD _ K _ y #[5]),‹3›,#[YH,#[Zf]],(Zp _)],#[Xl,#[Zn,YF,#[ZB,R,y,#[Za,‹0›,#[Za,#[Zi],#[Zf]]],#[5]],#[Zi],(Zp _)]]]),#[Zj,#[Zw,5,Uq.nd,#[3],#[Zl,(ixL K),‹3›,#[ZB,R,y,#[Za,‹0›,#[Za,#[Zk,(Yv K),T.b.n_len,Qu,#[Za,‹3›,#[Zf]]],#[Zf]]],#[5]]]]],#[ZF]],#[Zj,#[Yy,#[Xj,QU,Q2,Q3,VQ,‹3›,#[Za,‹5›,#[Zf]]]]]]]],#[Zj,#[Zr,‹3›]]]],?_⟩;have c0:=L.ge;refine⟨(by show 0≤sizeLine;decide),fun r m=>?_⟩;have B:p≠r:=by obtain⟨o,ho⟩:=L.here;exact Zb ho m
 have uD:l≠r:=Zb S m;have fw:p≠l:=by
  obtain⟨a,b,hp,_⟩:=L;refine Sd hp S fun e=>?_;cases ss with
  | nil=>exact absurd (congrArg List.length (HO.lst.inj e)) #[4]
  | cons x r=>exact absurd (HO.lst.inj e) (by intro z;cases z)
 refine⟨_,rfl,_,rfl,_,_,rfl,rfl,p,c,_,rfl,L.new m,by lia,by lia,by lia,fun n H1 w0 w1 L1 B1=>?_⟩;refine⟨_,rfl,by lia,by lia,?_⟩;have ce:H1 r=some (.lst []):=B1 r _ Zd B.symm;have y9:But p H H1:=(But.same (Zh m _)).trans B1;refine Vp (fun i W t=>∃ (g:List Str) (C D:Option V) (c2:Int),W=[some (.ref p),some (.ref l),some (.int J),some (.ref r),C,D]∧t r=some (.lst (g.map V.str))∧g.length=i∧(∀s∈g,s.length≤28∧AZ s)∧Y7 t p c2∧c+1≤c2∧c2≤c+1+8*i∧(∀b o,H b=some o→b≠p→t b=some o)) ⟨[],none,none,c+1,rfl,ce,rfl,(fun s hs=>by cases hs),L1,by lia,by lia,y9⟩ ?_ ?_
 ·rintro i W t hi ⟨g,C,D,c2,rfl,X,Y,F,L2,a1,a2,M⟩;have BU:(i:Int)<61:=by lia
  have bf:=M l _ S fw.symm;refine⟨_,rfl,_,rfl,p,l,c2,ss,rfl,L2,by lia,bf,n1,n4,ja,fun key c3 H3 fR pU L3 a3 a4 B3=>?_⟩;have dH:=B3 r _ X B.symm;have j:∀ (k2:Str) (c4:Int) (k:Hp),k2.length≤28∧AZ k2→Y7 k p c4→c2≤c4→c4≤c2+8→k r=some (.lst (g.map V.str))→(∀b o,H b=some o→b≠p→k b=some o) →
    ∃ (Z:List Str) (C D:Option V) (c5:Int),[some (V.ref p),some (V.ref l),some (V.int J),some (V.ref r),some (V.int (0+(i:Int))),some (V.str k2)]=[some (.ref p),some (.ref l),some (.int J),some (.ref r),C,D] ∧
     (upd k r (.lst (g.map V.str++[.str k2]))) r=some (.lst (Z.map V.str))∧Z.length=i+1∧(∀s∈Z,s.length≤28∧AZ s)∧Y7 (upd k r (.lst (g.map V.str++[.str k2]))) p c5∧c+1≤c5∧c5≤c+1+8*((i+1:Nat):Int) ∧
     (∀b o,H b=some o→b≠p→(upd k r (.lst (g.map V.str++[.str k2]))) b=some o):=fun k2 c4 k hk L4 b1 b2 gt B4=>by
   refine⟨g++[k2],_,_,c4,rfl,?_,by rw[Qj,Y];rfl,?_,L4.at B,by lia,by lia,fun b o e n=>?_⟩
   ·rw[Zd,Qe];rfl
   ·intro x hx;rcases Qm.mp hx with hx|hx
    ·exact F x hx
    ·rw[Qn.mp hx];exact hk
   ·rw[Zc (Zb e m)];exact B4 b o e n
  have am:(g.map V.str).length<sizeLine:=by rw[Qa,Y];exact ZE #[2]
  refine⟨_,rfl,(by show 0≤sizeLine;decide),fun e N=>?_⟩;have G:(upd H3 e (.lst [])) r=some (.lst (g.map V.str)):=by rw[Zc (Zb dH N)];exact dH
  refine⟨.list (g.map PyData.str),.list [],.lst (SqL.of G) (Wc g),.lst (SqL.of Zd) .nil,VB g (fun s h=>(F s h).2),#[1],_,rfl,?_⟩;have rq:∀b o,H b=some o→b≠p→(upd H3 e (.lst [])) b=some o:=fun b o z n=>Zh N _ b o (B3 b o (M b o z n) n);cases g with
  | nil =>
   have ev:(if true=true then !PyData.eqv (.list (([]:List Str).map PyData.str)) (.list []) else PyData.eqv (.list (([]:List Str).map PyData.str)) (.list []))=false:=by ac_rfl
   rw[ev];refine YR (YR ?_);refine⟨_,rfl,.inl ⟨rfl,_,SqL.of G⟩,_,rfl,r,_,_,rfl,rfl,G,am,?_⟩;exact j key c3 _ ⟨fR,pU⟩ (L3.new N) #[2] #[2] G rq
  | cons u v =>
   have ev:(if true=true then !PyData.eqv (.list ((u::v).map PyData.str)) (.list []) else PyData.eqv (.list ((u::v).map PyData.str)) (.list []))=true:=by simp[PyData.eqv,PyData.eqvAll]
   rw[ev];refine XN ⟨_,rfl,p,c3,_,rfl,L3.new N,by lia,by decide,by decide,fun d H5 d0 d1 L5 B5=>?_⟩;have I:=B5 r _ G B.symm;refine⟨rfl,_,rfl,YW (fun _=>?_) (fun _=>?_)⟩
   ·have ao:((((u::v).map V.str).length:Nat):Int)=((u::v).length:Int):=by rw[Qa]
    have e8:(0:Int)<((u::v).length:Int):=by simp
    refine⟨_,rfl,_,rfl,_,rfl,r,_,rfl,.inl (SqL.of I),p,c3+1,_,rfl,L5,by lia,by lia,by lia,fun d' H6 zc lf L6 B6=>?_⟩;obtain⟨st,fA,dM⟩:=Pz (ss:=u::v) zc #[2];have O:=B6 r _ I B.symm;refine⟨r,_,_,_,rfl,rfl,SqL.of O,dM,?_⟩;refine⟨_,rfl,.inl ⟨rfl,_,SqL.of O⟩,_,rfl,r,_,_,rfl,rfl,O,am,?_⟩;exact j st _ _ (F st fA) L6 #[2] #[2] O fun b o z n=>B6 b o (B5 b o (rq b o z n) n) n
   ·refine⟨_,rfl,.inl ⟨rfl,_,SqL.of I⟩,_,rfl,r,_,_,rfl,rfl,I,am,?_⟩;exact j key _ _ ⟨fR,pU⟩ L5 #[2] #[2] I fun b o z n=>B5 b o (rq b o z n) n
 ·rintro W t ⟨g,C,D,c2,rfl,X,Y,F,L2,a1,a2,M⟩;exact⟨_,rfl,q r g c2 t m X #[2] F L2 #[2] #[2] M⟩
noncomputable def Xp(ss:List Str)(i:Nat):Int:=if i=0 then 0 else (lcp (cds (ss.getD (i-1) "")) (cds (ss.getD i "")):Nat)
def S0(K:#[7]):Sp:=fun vs H Q _=>∃ (a:Addr) (ss:List Str),vs=[.ref a]∧SqL K H a (ss.map V.str)∧ss.length≤100∧(∀s∈ss,s.length≤1000) ∧
 ∀ (r:Addr) (b:Hp),H r=none→b r=some (.lst ((List.range ss.length).map fun j=>.int (Xp ss j)))→ZG H b→Q (.ref r) b
theorem ZlB(T:Zt K mg ab U)(O:Df P w K mg base 2 "alike" ["one", "other"] Wd):Df P w K mg base 3 "alikes" ["row"] (S0 K):=by
 refine T.t_alikes.df Td (fun R H Q E h=>?_) (fun af f A outer s H R Q E S h=>?_)
 ·obtain⟨a,c,rfl,_⟩:=h;rfl
 obtain⟨a,c,rfl,v,hn,G,q⟩:=h;refine⟨_,#[Ze,#[Zw,1,Td.nd,#[3],#[YH,#[Zf]]],#[Ze,#[XR,PassesOwn.never,#[iE,K,T.b.n_enumerate,#[Za,‹0›,#[Zf]]],#[gT,K,2,#[ZC,#[ZD,2,Td.nd],#[ZC,#[ZD,3,Td.nd],(@X6 _)]]],#[Zj,#[Yy,#[Xj,QU,Q2,Q3,VQ,‹1›,#[Za,#[Xk,#[Zn,YF,‹2›,#[Zi],(Zp _)],#[Zi],#[ZB,O,S,#[Za,#[Zl,(ixL K),‹0›,#[ZI,Wn,‹2›,#[Zi]]],#[Za,‹3›,#[Zf]]],#[5]]],#[Zf]]]]]],#[Zj,#[Zr,‹1›]]]],?_⟩;refine⟨(by show 0≤sizeLine;decide),fun r B=>?_⟩;have I:ZG H (upd H r (.lst [])):=Zh B _;refine⟨_,rfl,a,c.map V.str,rfl,I.seq v,?_⟩;refine RH (K:=K) (a:=a) (xs:=c.map V.str) (fun i C d=>(∃g k:Option V,C=[some (.ref a),some (.ref r),g,k])∧d r=some (.lst ((List.range i).map fun j=>.int (Xp c j)))∧ZG H d∧i≤c.length) ⟨⟨none,none,rfl⟩,Zd,I,Qx _⟩ (fun _ _ _ W=>by obtain⟨_,_,l,_⟩:=W;exact l.seq v) ?_ ?_
 ·rintro i x C d p m ⟨⟨g,k,rfl⟩,n,l,X⟩ J;rw[Qo]at m;cases t:c[i]? with
  | none=>rw[t]at m;cases m
  | some y =>
   rw[t]at m;cases m;have Y:i<c.length:=(Qf.mp t).1;have Z:r≠p:=Zb n J;have L:ZG H (upd d p (.tup [.int i,.str y])):=l.trans (Zh J _);have D:(upd d p (.tup [.int i,.str y])) r=some (.lst ((List.range i).map fun j=>.int (Xp c j))):=by rw[Zc Z];exact n
   have M:((List.range i).map fun j=>V.int (Xp c j)).length<sizeLine:=by rw[Qa,List.length_range];exact ZE #[2]
   have u:∀z:Int,z=Xp c i→(∃g k:Option V,[some (V.ref a),some (V.ref r),some (V.int i),some (V.str y)]=[some (.ref a),some (.ref r),g,k]) ∧
     (upd (upd d p (.tup [.int i,.str y])) r (.lst (((List.range i).map fun j=>.int (Xp c j))++[.int z]))) r=some (.lst ((List.range (i+1)).map fun j=>.int (Xp c j))) ∧
     ZG H (upd (upd d p (.tup [.int i,.str y])) r (.lst (((List.range i).map fun j=>.int (Xp c j))++[.int z])))∧i+1≤c.length:=fun z e=>by
    refine⟨⟨_,_,rfl⟩,?_,fun b o h=>?_,Y⟩
    ·rw[Zd,QaL,Qe,e];rfl
    ·rw[Zc (Zb h B)];exact L b o h
   refine⟨p,_,rfl,SqT.of Zd,rfl,_,_,rfl,_,_,rfl,rfl,?_⟩;refine⟨_,rfl,.inl ⟨rfl,_,SqL.of D⟩,_,rfl,rfl,_,rfl,?_⟩;by_cases N:i=0
   ·subst N;exact YI rfl ⟨r,_,_,rfl,rfl,D,M,u 0 rfl⟩
   ·have F:i-1<c.length:=by lia
    have ei:((i:Int)-1)=((i-1:Nat):Int):=by lia
    have bm:atI (c.map V.str) ((i:Int)-1)=some (.str c[i-1]):=by rw[ei];exact Yr (by rw[Qo,Qb F]<;>rfl)
    refine YG (fun z=>by injection z with z;lia) ⟨_,rfl,_,rfl,_,_,rfl,rfl,a,_,_,_,rfl,rfl,L.seq v,bm,_,rfl,c[i-1],y,rfl,G _ (Q4 F),G _ (Qz t),r,_,_,rfl,rfl,D,M,u _ ?_⟩;unfold Xp;rw[if_neg N,QH,QH,Qb F,t];rfl
 ·rintro C d ⟨⟨g,k,rfl⟩,n,l,X⟩;rw[Qa]at n;exact⟨_,rfl,q r d B n l⟩
noncomputable def ZV:List Nat→List Nat→Int
 | [],[]=>0
 | [],_::_ =>-1
 | _::_,[]=>1
 | a::r,b::s=>if a=b then ZV r s else if a<b then -1 else 1
theorem LK:∀ (x y:List Nat),Spec.ltCps y x=false→ZV x y≤0
 | [],[],_=>by unfold ZV;lia
 | [],_::_,_=>by unfold ZV;lia
 | _::_,[],h=>by unfold Spec.ltCps at h;cases h
 | a::r,b::s,h=>by
  have c:=LK r s;unfold Spec.ltCps at h;unfold ZV;rw[Bool.or_eq_false_iff,Bool.and_eq_false_iff]at h;obtain⟨d,f⟩:=h;have rA:¬ b<a:=of_decide_eq_false d;by_cases e:a=b
  ·rw[if_pos e];rcases f with z|z
   ·rw[e]at z;simp at z
   ·exact c z
  ·rw[if_neg e,if_pos #[2]];lia
theorem SY:∀ (x y z:List Nat),ZV x y≤0→ZV y z≤0→ZV x z≤0
 | [],_,[],_,_=>by unfold ZV;lia
 | [],_,_::_,_,_=>by unfold ZV;lia
 | _::_,[],_,h,_=>by unfold ZV at h;lia
 | _::_,_::_,[],_,h=>by unfold ZV at h;lia
 | a::r,b::s,c::t,h1,h2=>by
  unfold ZV at h1 h2 ⊢;have g:=SY r s t;by_cases f:a=b
  ·rw[if_pos f]at h1;by_cases d:b=c
   ·rw[if_pos d]at h2;rw[if_pos (f.trans d)];exact g h1 h2
   ·rw[if_neg d]at h2;rw[if_neg (fun e=>d (f.symm.trans e))];split at h2
    ·rw[if_pos #[2]];lia
    ·lia
  ·rw[if_neg f]at h1;split at h1
   ·by_cases d:b=c
    ·rw[if_neg (fun e=>f (e.trans d.symm)),if_pos #[2]];lia
    ·rw[if_neg d]at h2;split at h2
     ·rw[if_neg #[2],if_pos #[2]];lia
     ·lia
   ·lia
theorem LJ:∀ (ss:List Str) (p:Str),risingS p ss=true→∀ (k:Nat) (x y:Str),(p::ss)[k]? = some x→ss[k]? = some y→ZV (cds x) (cds y)≤0
 | [],p,_,k,x,y,_,h=>by simp at h
 | z::r,p,h,0,x,y,h1,h2=>by unfold risingS at h;rw[QZ]at h;simp at h1 h2;subst h1 h2;exact LK _ _ (by simpa using h.1)
 | z::r,p,h,k+1,x,y,h1,h2=>by unfold risingS at h;rw[QZ]at h;exact LJ r z h.2 k x y (by simpa using h1) (by simpa using h2)
theorem LI{ss:List Str}(h:sortedS ss=true)(k:Nat)(x y:Str)(h1:ss[k]? = some x)(h2:ss[k+1]? = some y):ZV (cds x) (cds y)≤0:=by
 cases ss with
 | nil=>simp at h1
 | cons p r=>exact LJ r p h k x y h1 (by simpa using h2)
theorem LH:∀ss:List Str,PyData.eqvAll (ss.map PyData.str) (ss.map PyData.str)=true
 | []=>by simp[PyData.eqvAll]
 | x::r=>by simp[PyData.eqvAll,PyData.eqv,LH r]
theorem LG(ss:List Str):PyData.eqv (.list (ss.map PyData.str)) (.list (ss.map PyData.str))=true:=by simp[PyData.eqv,LH ss]
theorem LF{ss:List Str}{k:Nat}(h:k<ss.length):atI (ss.map V.str) (k:Int)=some (.str ss[k]):=Yr (by rw[Qo,Qb h]<;>rfl)
theorem Y7.same{H H':Hp}{p:Addr}{c:Int}(h:Y7 H p c)(s:ZG H H'):Y7 H' p c:=by obtain⟨a,b2,hb,c0⟩:=h;exact⟨a,b2,s _ _ hb,c0⟩
noncomputable def mid(ns:List Int):Nat:=(ns.length+1) / 2
noncomputable def XZ(ns:List Int):List Int:=ns.take (mid ns)
noncomputable def WN(ns:List Int):List Int:=ns.drop (mid ns)
theorem LD(ns:List Int):((((ns.map V.int).length:Nat):Int)+1) / 2=((mid ns:Nat):Int):=by rw[Qa];unfold mid;lia
theorem Pr{ns:List Int}{k:Int}(h0:0≤k)(h:k<(ns.length:Int)):∃v∈ns,atI (ns.map V.int) k=some (.int v):=by
 have a:k.toNat<ns.length:=by lia
 have b:k=((k.toNat:Nat):Int):=by lia
 have q:atI (ns.map V.int) ((k.toNat:Nat):Int)=some (.int ns[k.toNat]):=Yr (by rw[Qo,Qb a]<;>rfl);rw[← b]at q;exact⟨_,Q4 a,q⟩
theorem LC(ns:List Int)(m:Nat)(h:m≤ns.length):XO (ns.map V.int) none (some (m:Int))=(ns.take m).map V.int:=by
 unfold XO;have e:HT.sIx (ns.map V.int).length (ns.map V.int).length (some (m:Int))=m:=by unfold HT.sIx;simp only[List.length_map];rw[if_neg #[2]];lia
 have a:HT.sIx (ns.map V.int).length 0 none=0:=rfl;rw[e,a,List.drop_zero,Nat.sub_zero,Qa5]
theorem LA(ns:List Int)(m:Nat)(h:m≤ns.length):XO (ns.map V.int) (some (m:Int)) none=(ns.drop m).map V.int:=by
 unfold XO;have e:HT.sIx (ns.map V.int).length 0 (some (m:Int))=m:=by unfold HT.sIx;simp only[List.length_map];rw[if_neg #[2]];lia
 have a:HT.sIx (ns.map V.int).length (ns.map V.int).length none=(ns.map V.int).length:=rfl;rw[e,a,List.map_drop,Qw (by rw[QO,Qa];lia)]
theorem Lz(z:Str):(cds z).length=z.length:=by simp[Str.length]
theorem Ly:∀ (x y:List Nat),(lcp x y=x.length→lcp x y=y.length→ZV x y=0)∧(lcp x y=x.length→lcp x y≠y.length→ZV x y = -1)∧(lcp x y≠x.length→lcp x y=y.length→ZV x y=1) ∧
  ∀a b,x[lcp x y]? = some a→y[lcp x y]? = some b→ZV x y=if a<b then -1 else 1
 | [],[]=>⟨fun _ _=>rfl,fun _ h=>absurd rfl h,fun h _=>absurd rfl h,fun a b h _=>by simp at h⟩
 | [],_::_=>⟨fun _ h=>by unfold lcp at h;simp at h,fun _ _=>rfl,fun h _=>absurd rfl h,fun a b h _=>by simp at h⟩
 | _::_,[]=>⟨fun h _=>by unfold lcp at h;simp at h,fun h _=>by unfold lcp at h;simp at h,fun _ _=>rfl,fun a b _ h=>by simp at h⟩
 | a::r,b::s=>by
  obtain⟨h1,h2,f,h4⟩:=Ly r s;unfold lcp ZV;by_cases e:a=b
  ·rw[if_pos e,if_pos e];simp only[List.length_cons,List.getElem?_cons_succ];exact⟨fun p q=>h1 #[2] #[2],fun p q=>h2 #[2] #[2],fun p q=>f #[2] #[2],h4⟩
  ·rw[if_neg e,if_neg e];simp only[List.length_cons,List.getElem?_cons_zero];refine⟨fun p=>by lia,fun p=>by lia,fun _ p=>by lia,fun c d p q=>?_⟩;cases p;cases q;rfl
theorem Wb:∀ (x y:List Nat),ZV y x =-ZV x y
 | [],[]=>rfl
 | [],_::_=>rfl
 | _::_,[]=>rfl
 | a::r,b::s=>by
  have c:=Wb r s;unfold ZV;by_cases e:a=b
  ·rw[if_pos e,if_pos e.symm,c]
  ·rw[if_neg e,if_neg fun z=>e z.symm];by_cases l:a<b
   ·rw[if_pos l,if_neg #[2]];rfl
   ·rw[if_neg l,if_pos #[2]]
theorem Zqq(a b:Nat):decide ((⟨#[a]⟩:Str).cps.toList<(⟨#[b]⟩:Str).cps.toList)=decide (a<b):=by
 have e:([a]:List Nat)<[b]↔a<b:=by
  constructor
  ·intro h;cases h with
   | rel h=>exact h
   | cons h=>cases h
  ·exact fun h=>List.Lex.rel h
 exact decide_eq_decide.mpr e
theorem Lx:∀x:List Nat,ZV x x=0
 | []=>rfl
 | a::r=>by unfold ZV;rw[if_pos rfl];exact Lx r
theorem Pq:∀ (x y:List Nat),ZV x y=0→x=y
 | [],[],_=>rfl
 | [],_::_,h=>by unfold ZV at h;lia
 | _::_,[],h=>by unfold ZV at h;lia
 | a::r,b::s,h=>by
  unfold ZV at h;by_cases e:a=b
  ·rw[if_pos e]at h;rw[e,Pq r s h]
  ·rw[if_neg e]at h;split at h<;>lia
def Pp:Sp:=fun vs H Q _=>∃x y:Str,vs=[.str x,.str y]∧x.length≤1000∧y.length≤1000∧Q (.int (ZV (cds x) (cds y))) H
def SX:Sp:=fun vs H Q _=>∃x y:Str,vs=[.str x,.str y,.int (lcp (cds x) (cds y):Nat)]∧x.length≤1000∧y.length≤1000∧Q (.int (ZV (cds x) (cds y))) H
theorem Znv(T:Zt K mg ab U):Df P w K mg base 1 "order_at" ["one", "other", "at"] SX:=by
 refine T.t_order_at.df Zjo (fun r H Q E h=>?_) (fun af f A outer s H r Q E hr h=>?_)
 ·obtain⟨x,y,rfl,_⟩:=h;rfl
 obtain⟨x,y,rfl,g,i,q⟩:=h;refine⟨_,#[Ze,#[Z0,(@PW.pt _ _ _ #[XS,#[Zn,YF,‹2›,#[Zk,Wm,T.b.n_len,Qu,#[Za,‹0›,#[Zf]]],(Zp _)],#[Xl,#[Zn,YF,‹2›,#[Zk,Wm,T.b.n_len,Qu,#[Za,‹1›,#[Zf]]],(Zp _)]]]),#[Zj,#[Zr,#[Zi]]],#[ZF]],#[Ze,#[Z0,#[Zn,YF,‹2›,#[Zk,Wm,T.b.n_len,Qu,#[Za,‹0›,#[Zf]]],(Zp _)],#[Zj,#[Zr,(@Vo _ _ _ _ _ _ Vn #[Zi])]],#[ZF]],#[Ze,#[Z0,#[Zn,YF,‹2›,#[Zk,Wm,T.b.n_len,Qu,#[Za,‹1›,#[Zf]]],(Zp _)],#[Zj,#[Zr,#[Zi]]],#[ZF]],#[Zj,#[Zr,#[Xk,#[Zn,ZlS,#[Zl,VR,‹0›,‹2›],#[Zl,VR,‹1›,‹2›],(Zp _)],(@Vo _ _ _ _ _ _ Vn #[Zi]),#[Zi]]]]]]],?_⟩;obtain⟨t,u,v,B⟩:=Ly (cds x) (cds y);have ll:=U5 (cds x) (cds y);have lx:=Lz x;have ly:=Lz y;have inj:∀ {m n:Nat},V.int (m:Int)=V.int (n:Int)→m=n:=fun {m n} e=>by injection e with e;lia
 refine⟨_,rfl,_,rfl,x,rfl,Yh g,rfl,_,rfl,YW (fun d=>?_) (fun d=>?_)⟩
 ·have j:=inj (of_decide_eq_true d);refine⟨_,rfl,_,rfl,y,rfl,Yh i,rfl,_,rfl,YW (fun c=>?_) (fun c=>?_)⟩
  ·have l:=inj (of_decide_eq_true c);rw[t #[2] #[2]]at q;exact q
  ·have l:¬ lcp (cds x) (cds y)=y.length:=fun e=>c (by rw[e];exact decide_eq_true rfl);refine⟨_,rfl,_,rfl,x,rfl,Yh g,rfl,_,rfl,YI (by rw[j]) ?_⟩;rw[u #[2] #[2]]at q;exact⟨_,rfl,q⟩
 ·have j:¬ lcp (cds x) (cds y)=x.length:=fun e=>d (by rw[e];exact decide_eq_true rfl);refine YR ⟨_,rfl,_,rfl,x,rfl,Yh g,rfl,_,rfl,YG (fun e=>j (inj e)) ?_⟩;refine⟨_,rfl,_,rfl,y,rfl,Yh i,rfl,_,rfl,YW (fun c=>?_) (fun c=>?_)⟩
  ·have l:=inj (of_decide_eq_true c);rw[v #[2] #[2]]at q;exact q
  ·have l:¬ lcp (cds x) (cds y)=y.length:=fun e=>c (by rw[e];exact decide_eq_true rfl);obtain⟨a,o,C⟩:=VD (z:=x) (k:=(lcp (cds x) (cds y):Nat)) #[2] #[2];obtain⟨b,p,D⟩:=VD (z:=y) (k:=(lcp (cds x) (cds y):Nat)) #[2] #[2];rw[QaR]at o p;refine⟨_,rfl,_,rfl,x,_,a,rfl,rfl,Yh g,C,_,rfl,_,rfl,y,_,b,rfl,rfl,Yh i,D,_,_,rfl,rfl,_,rfl,?_⟩;rw[Zqq];rw[B a b o p]at q;refine YW (fun e=>?_) (fun e=>?_)
   ·rw[if_pos (of_decide_eq_true e)]at q;exact⟨_,rfl,q⟩
   ·rw[if_neg (fun z=>e (decide_eq_true z))]at q;exact q
theorem Zmy(T:Zt K mg ab U)(d:Df P w K mg base 2 "alike" ["one", "other"] Wd)(e:Df P w K mg base 1 "order_at" ["one", "other", "at"] SX):Df P w K mg base 3 "liken" ["one", "other"] Pp:=by
 refine T.t_liken.df ZnQ (fun g H Q E h=>?_) (fun af f A outer s H g Q E a h=>?_)
 ·obtain⟨x,y,rfl,_⟩:=h;rfl
 obtain⟨x,y,rfl,b,c,q⟩:=h;refine⟨_,#[Zj,#[Zr,#[ZB,e,a,#[Za,‹0›,#[Za,‹1›,#[Za,#[ZB,d,a,#[Za,‹0›,#[Za,‹1›,#[Zf]]],#[5]],#[Zf]]]],#[5]]]],?_⟩;exact⟨_,rfl,_,rfl,_,rfl,_,rfl,x,y,rfl,b,c,x,y,rfl,b,c,q⟩
theorem Ui{c A B:Prop}[Decidable c](hc:¬ c)(h:A):if (!decide c)=true then A else B:=by rw[if_pos (by rw[decide_eq_false hc];rfl)];exact h
def Po:Sp:=fun vs H Q _=>∃ (x y:Str) (a:Nat),vs=[.str x,.str y,.int a]∧x.length≤1000∧y.length≤1000∧a≤lcp (cds x) (cds y) ∧
 ∀t,H t=none→Q (.ref t) (upd H t (.tup [.int (ZV (cds x) (cds y)),.int (lcp (cds x) (cds y):Nat),.int ((lcp (cds x) (cds y):Nat)-(a:Int)+1)]))
theorem Zhk(T:Zt K mg ab U)(e:Df P w K mg base 1 "alike_from" ["one", "other", "far"] S6)(g:Df P w K mg base 1 "order_at" ["one", "other", "at"] SX):Df P w K mg base 2 "liken_from" ["one", "other", "far"] Po:=by
 refine T.t_liken_from.df Ms (fun i H Q E h=>?_) (fun af f A outer s H i Q E a h=>?_)
 ·obtain⟨x,y,b,rfl,_⟩:=h;rfl
 obtain⟨x,y,b,rfl,c,d,j,q⟩:=h;refine⟨_,#[Ze,#[Zw,3,Ms.nd,#[3],#[ZB,e,a,#[Za,‹0›,#[Za,‹1›,#[Za,‹2›,#[Zf]]]],#[5]]],#[Zj,#[Zr,#[YJ,#[Za,#[ZB,g,a,#[Za,‹0›,#[Za,‹1›,#[Za,‹3›,#[Zf]]]],#[5]],#[Za,‹3›,#[Za,#[ZI,YO,#[ZI,Wn,‹3›,‹2›],#[Zi]],#[Zf]]]]]]]],?_⟩;refine⟨_,rfl,_,rfl,_,rfl,x,y,b,rfl,c,d,j,?_⟩;refine⟨_,rfl,_,rfl,_,rfl,x,y,rfl,c,d,?_⟩;refine⟨_,rfl,_,rfl,_,rfl,_,_,rfl,rfl,_,_,rfl,rfl,(by show 3≤sizeLine;decide),fun t k=>?_⟩;exact q t k
def Uh(ss:List Str)(v:V):Prop :=
 (v=.non∧∀i x y,ss[i+1]? = some x→ss[i]? = some y→0≤ZV (cds x) (cds y)) ∨
 ∃k:Nat,v=.int ((k+1:Nat):Int)∧k+1<ss.length∧(∀x y,ss[k+1]? = some x→ss[k]? = some y→ZV (cds x) (cds y)<0)∧∀i,i<k→∀x y,ss[i+1]? = some x→ss[i]? = some y→0≤ZV (cds x) (cds y)
theorem Zpb{ss:List Str}{v g:V}(h:Uh ss v)(h':Uh ss g):v=g:=by
 rcases h with⟨rfl,a⟩|⟨k,rfl,l,b,c⟩
 ·rcases h' with⟨rfl,_⟩|⟨k',rfl,d,f,_⟩
  ·rfl
  ·have:=a k' _ _ (Qb d) (Qb #[2]);have:=f _ _ (Qb d) (Qb #[2]);lia
 ·rcases h' with⟨rfl,a⟩|⟨k',rfl,d,f,i⟩
  ·have:=a k _ _ (Qb l) (Qb #[2]);have:=b _ _ (Qb l) (Qb #[2]);lia
  ·have e:k=k':=by
    rcases Nat.lt_trichotomy k k' with h|h|h
    ·have:=i k h _ _ (Qb l) (Qb #[2]);have:=b _ _ (Qb l) (Qb #[2]);lia
    ·exact h
    ·have:=c k' h _ _ (Qb d) (Qb #[2]);have:=f _ _ (Qb d) (Qb #[2]);lia
   rw[e]
def Pn(K:#[7]):Sp:=fun vs H Q _=>∃ (a:Addr) (ss:List Str),vs=[.ref a]∧SqL K H a (ss.map V.str)∧ss.length≤200∧(∀s∈ss,s.length≤1000)∧∀ (v:V) (H':Hp),Uh ss v→ZG H H'→Q v H'
theorem Zmp(T:Zt K mg ab U)(t:Df P w K mg base 3 "liken" ["one", "other"] Pp):Df P w K mg base 4 "first_break" ["keys"] (Pn K):=by
 refine T.t_first_break.df Mr (fun u H Q E h=>?_) (fun af f A outer s H u Q E B h=>?_)
 ·obtain⟨a,b,rfl,_⟩:=h;rfl
 obtain⟨a,b,rfl,n,hn,p,q⟩:=h;refine⟨_,#[Ze,#[XR,PassesOwn.never,(@Zmd _ _ _ _ _ _ _ rfl T.b.n_range #[Za,#[Zi],#[Za,#[Zk,(Yv K),T.b.n_len,Qu,#[Za,‹0›,#[Zf]]],#[Zf]]] #[5] #[5]),#[ZD,1,Mr.nd],#[Zj,#[Z0,#[Zn,Xr,#[ZB,t,B,#[Za,#[Zl,(ixL K),‹0›,‹1›],#[Za,#[Zl,(ixL K),‹0›,#[ZI,Wn,‹1›,#[Zi]]],#[Zf]]],#[5]],#[Zi],(Zp _)],#[Zj,#[Zr,‹1›]],#[ZF]]]],#[Zj,#[Zr,#[ZT]]]],?_⟩;have hl:(((b.map V.str).length:Nat):Int)=(b.length:Int):=by rw[Qa]
 refine⟨_,rfl,a,_,rfl,.inl n,_,_,rfl,⟨by lia,by lia,by lia,by lia⟩,?_⟩;refine Vp (fun i o k=>(∃v:Option V,o=[some (.ref a),v])∧ZG H k∧∀j,j<i→∀x y,b[j+1]? = some x→b[j]? = some y→0≤ZV (cds x) (cds y)) ⟨⟨none,rfl⟩,ZG.refl H,fun j h=>by lia⟩ ?_ ?_
 ·rintro i o k hi ⟨⟨v,rfl⟩,g,m⟩;have l:i+1<b.length:=by lia
  have r:(1+(i:Int))=((i+1:Nat):Int):=by lia
  have C:(1+(i:Int)-1)=((i:Nat):Int):=by lia
  refine⟨_,rfl,_,rfl,a,_,_,_,rfl,rfl,g.seq n,(by rw[r];exact LF l),_,rfl,_,rfl,_,_,rfl,rfl,a,_,_,_,rfl,rfl,g.seq n,(by rw[C];exact LF #[2]),b[i+1],b[i],rfl,p _ (Q4 l),p _ (Q4 #[2]),_,_,rfl,rfl,_,rfl,?_⟩;refine YW (fun d=>?_) (fun d=>?_)
  ·have D:ZV (cds b[i+1]) (cds b[i])<0:=of_decide_eq_true d;refine⟨_,rfl,q _ k (.inr ⟨i,by rw[r],l,fun x y c e=>?_,m⟩) g⟩;rw[Qb l]at c;rw[Qb #[2]]at e;cases c;cases e;lia
  ·have D:¬ ZV (cds b[i+1]) (cds b[i])<0:=fun z=>d (decide_eq_true z);refine⟨⟨_,rfl⟩,g,fun j hj x y c e=>?_⟩;by_cases F:j=i
   ·subst F;rw[Qb l]at c;rw[Qb #[2]]at e;cases c;cases e;lia
   ·exact m j #[2] x y c e
 ·rintro o k ⟨⟨v,rfl⟩,g,m⟩;refine q _ k (.inl ⟨rfl,fun j x y c e=>?_⟩) g;have:=(Qf.mp c).1;exact m j #[2] x y c e
def Wa(K:#[7])(tup:Bool):Sp:=fun vs H Q _=>∃ (a:Addr) (ns:List Int),vs=[.ref a]∧SqL K H a (ns.map V.int)∧ns.length≤100 ∧
 ∀ (t f r:Addr) (b:Hp),H t=none→H f=none→H r=none→f≠r→b t=some (if tup=true then .tup [.ref f,.ref r] else .lst [.ref f,.ref r])→b f=some (.lst ((XZ ns).map V.int))→b r=some (.lst ((WN ns).map V.int))→ZG H b→t≠f→t≠r→Q (.ref t) b
theorem Lw{H:Hp}{f r t:Addr}{A B T:HO}(j:H f=none)(b:(upd H f A) r=none)(a:(upd (upd H f A) r B) t=none) :
  H r=none∧H t=none∧f≠r∧t≠f∧t≠r∧(upd (upd (upd H f A) r B) t T) f=some A∧(upd (upd (upd H f A) r B) t T) r=some B∧ZG H (upd (upd (upd H f A) r B) t T):=by
 have c:f≠r:=Zb (H:=upd H f A) (o:=A) Zd b;have d:(upd (upd H f A) r B) f=some A:=by rw[Zc c];exact Zd
 have e:f≠t:=Zb d a;have g:r≠t:=Zb (H:=upd (upd H f A) r B) (o:=B) Zd a;have h:ZG H (upd H f A):=Zh j _;have i:=h.trans (Zh b B);have k:=i.trans (Zh a T);exact⟨h.free b,i.free a,c,e.symm,g.symm,by rw[Zc e];exact d,by rw[Zc g];exact Zd,k⟩
theorem ZlL(T:Zt K mg ab U):Df P w K mg base 1 "halves" ["numbers"] (Wa K true):=by
 refine T.t_halves.df Mq (fun j H Q E h=>?_) (fun af f A outer s H j Q E hr h=>?_)
 ·obtain⟨a,b,rfl,_⟩:=h;rfl
 obtain⟨a,b,rfl,c,hn,q⟩:=h;refine⟨_,#[Ze,#[Zw,1,Mq.nd,#[3],#[ZI,TK,#[ZI,YO,#[Zk,(Yv K),T.b.n_len,Qu,#[Za,‹0›,#[Zf]]],#[Zi]],#[Zi]]],#[Zj,#[Zr,#[YJ,#[Za,#[W7,(slL K),‹0›,(@Xa _),(@WR _ _ _ ‹1›)],#[Za,#[W7,(slL K),‹0›,(@WR _ _ _ ‹1›),(@Xa _)],#[Zf]]]]]]],?_⟩;refine⟨_,rfl,a,_,rfl,.inl c,_,_,rfl,rfl,_,_,rfl,rfl,⟨by decide,by decide⟩,?_⟩;have k:mid b≤b.length∨b=[]:=by
  cases b with
  | nil=>exact .inr rfl
  | cons x r=>left;unfold mid;rw[QM];lia
 have g:mid b≤b.length:=by
  rcases k with h|h
  ·exact h
  ·subst h;decide
 have m:=LD b;simp only[m];refine⟨_,rfl,_,rfl,_,rfl,a,_,rfl,c,fun l d=>?_⟩;refine⟨_,rfl,_,rfl,_,rfl,a,_,rfl,(Zh d _).seq c,fun r i=>⟨(by show 2≤sizeLine;decide),fun t e=>?_⟩⟩;rw[LC b _ g]at i e ⊢;rw[LA b _ g]at e ⊢;obtain⟨z1,z2,z3,z4,z5,z6,z7,z8⟩:=Lw (T:=.tup [.ref l,.ref r]) d i e;exact q t l r _ z2 d z1 z3 Zd z6 z7 z8 z4 z5
theorem Zjs(T:Zt K mg ab U):Df P w K mg base 1 "_law_halves" ["_law_numbers"] (Wa K false):=by
 refine T.t_l_halves.df Mp (fun j H Q E h=>?_) (fun af f A outer s H j Q E hr h=>?_)
 ·obtain⟨a,b,rfl,_⟩:=h;rfl
 obtain⟨a,b,rfl,c,hn,q⟩:=h;refine⟨_,#[Ze,#[Zw,1,Mp.nd,#[3],#[ZI,TK,#[ZI,YO,#[Zk,(Yv K),T.b.n_len,Qu,#[Za,‹0›,#[Zf]]],#[Zi]],#[Zi]]],#[Zj,#[Zr,#[YH,#[Za,#[W7,(slL K),‹0›,(@Xa _),(@WR _ _ _ ‹1›)],#[Za,#[W7,(slL K),‹0›,(@WR _ _ _ ‹1›),(@Xa _)],#[Zf]]]]]]],?_⟩;refine⟨_,rfl,a,_,rfl,.inl c,_,_,rfl,rfl,_,_,rfl,rfl,⟨by decide,by decide⟩,?_⟩;have k:mid b≤b.length∨b=[]:=by
  cases b with
  | nil=>exact .inr rfl
  | cons x r=>left;unfold mid;rw[QM];lia
 have g:mid b≤b.length:=by
  rcases k with h|h
  ·exact h
  ·subst h;decide
 have m:=LD b;simp only[m];refine⟨_,rfl,_,rfl,_,rfl,a,_,rfl,c,fun l d=>?_⟩;refine⟨_,rfl,_,rfl,_,rfl,a,_,rfl,(Zh d _).seq c,fun r i=>⟨(by show 2≤sizeLine;decide),fun t e=>?_⟩⟩;rw[LC b _ g]at i e ⊢;rw[LA b _ g]at e ⊢;obtain⟨z1,z2,z3,z4,z5,z6,z7,z8⟩:=Lw (T:=.lst [.ref l,.ref r]) d i e;exact q t l r _ z2 d z1 z3 Zd z6 z7 z8 z4 z5
def Pm:Sp:=fun vs H Q _=>∃ (p:Addr) (c:Int),vs=[.ref p]∧Y7 H p c∧c<2 ^ 50∧∀ (v a:Int) (H':Hp),0≤v→v≤12→Y7 H' p a→c≤a→a≤c+3→But p H H'→Q (.int v) H'
theorem Zo2(T:Zt K mg ab U)(a:Df P w K mg base 2 "_law_pick" ["_law_left_here", "_law_many_here"] We):Df P w K mg base 3 "_law_many" ["_law_left_here"] Pm:=by
 refine T.t_l_many.df Mo (fun j H Q E h=>?_) (fun af f A outer s H j Q E b h=>?_)
 ·obtain⟨p,c,rfl,_⟩:=h;rfl
 obtain⟨p,c,rfl,d,c1,q⟩:=h;refine⟨_,#[Ze,#[Zw,1,Mo.nd,#[3],#[ZB,a,b,#[Za,‹0›,#[Za,#[Zi],#[Zf]]],#[5]]],#[Zj,#[Zr,#[Zl,(ixL K),#[YH,#[Za,#[Zi],#[Za,#[Zi],#[Za,#[Zi],#[Za,#[Zi],#[Za,#[Zi],#[Za,#[Zi],#[Za,#[ZB,a,b,#[Za,‹0›,#[Za,#[Zi],#[Zf]]],#[5]],#[Za,#[ZI,YO,#[Zi],#[ZB,a,b,#[Za,‹0›,#[Za,#[Zi],#[Zf]]],#[5]]],#[Zf]]]]]]]]]],‹1›]]]],?_⟩;have c0:=d.ge;refine⟨_,rfl,p,c,_,rfl,d,by lia,by decide,by decide,fun wy H1 k l m n=>?_⟩;refine⟨_,rfl,p,c+1,_,rfl,m,by lia,by decide,by decide,fun o H2 il uE L2 r=>?_⟩;refine⟨_,rfl,p,c+1+1,_,rfl,L2,by lia,by decide,by decide,fun t H3 Jg Jh u x=>⟨_,_,rfl,rfl,(by show 8≤sizeLine;decide),fun e g=>?_⟩⟩;obtain⟨v,y,z⟩:=Pr (ns:=[2,3,4,5,6,3,o,7+t]) k l;have i:0≤v∧v≤12:=by simp only[List.mem_cons,List.not_mem_nil,or_false]at y;lia
 exact⟨_,rfl,e,_,_,_,rfl,rfl,SqL.of Zd,z,q v _ _ i.1 i.2 (u.new g) #[2] #[2] (((n.trans r).trans x).trans (But.same (Zh g _)))⟩
theorem V9(f:Str)(v:V):∀fs:List (Str×V),(Zx f v fs).length≤fs.length+1
 | []=>Qh _
 | p::r=>by
  unfold Zx;split
  ·exact QaN _
  ·exact Nat.succ_le_succ (V9 f v r)
noncomputable def YV(k f:Addr)(g:Int):List (Str×V):=Zx "gone" (.int g) (Zx "fars" (.ref f) (Zx "all_keys" (.ref k) []))
theorem nGF:¬ (("fars" : Str) = "gone"):=by ac_rfl
theorem nGK:¬ (("all_keys" : Str) = "gone"):=by ac_rfl
theorem nFK:¬ (("all_keys" : Str) = "fars"):=by ac_rfl
theorem V8(k f:Addr)(g:Int):(YV k f g).lookup ("all_keys" : Str)=some (.ref k):=by unfold YV;rw[Zm,if_neg nGK,Zm,if_neg nFK,Zm,if_pos rfl]
theorem U2(k f:Addr)(g:Int):(YV k f g).lookup ("gone" : Str)=some (.int g):=by unfold YV;rw[Zm,if_pos rfl]
theorem U1(k f:Addr)(g:Int){m:Str}(h1:¬ m = "gone")(h2:¬ m = "fars")(a:¬ m = "all_keys"):(YV k f g).lookup m=none:=by unfold YV;rw[Zm,if_neg h1,Zm,if_neg h2,Zm,if_neg a];rfl
structure Ww (C:Addr) (H:Hp) (p k f:Addr) (ss:List Str) (g:Nat):Prop where
 ob:∃dx,H p=some (.ins C dx (YV k f g))
 ks:H k=some (.lst (ss.map V.str))
 fs:H f=some (.lst ((List.range ss.length).map fun j=>.int (Xp ss j)))
def SW(C:Addr):Sp:=fun vs H Q _=>∃ (p k f:Addr) (ss:List Str) (g:Nat),vs=[.ref p]∧Ww C H p k f ss g∧Q (.int ((ss.length:Int)-(g:Int))) H
theorem Zoj(T:Zt K mg ab U):Mf P w K mg base 1 ab "to_go" ["self"] (SW ab):=by
 refine T.t_Row_to_go.mf Zix (fun c H Q E h=>?_) (fun af f A outer s H c Q E hr h=>?_)
 ·obtain⟨p,k,f,d,g,rfl,_⟩:=h;rfl
 obtain⟨p,k,f,d,g,rfl,R,q⟩:=h;refine⟨_,#[Zj,#[Zr,#[ZI,Wn,#[Zk,(Yv K),T.b.n_len,Qu,#[Za,#[ZM,‹0›],#[Zf]]],#[ZM,‹0›]]]],?_⟩;obtain⟨⟨a,b⟩,e,hf⟩:=R;refine⟨_,rfl,p,ab,a,_,_,rfl,b,T.cl_Row,T.na_Row_all_keys,V8 _ _ _,k,_,rfl,.inl (SqL.of e),_,rfl,p,ab,a,_,_,rfl,b,T.cl_Row,T.na_Row_gone,U2 _ _ _,_,_,rfl,rfl,?_⟩;rw[Qa];exact q
noncomputable def Xi(ss:List Str)(g:Nat):V:=match ss[g]? with
 | some z=>.str z
 | none=>.non
def U0(C:Addr):Sp:=fun vs H Q _=>∃ (p k f:Addr) (ss:List Str) (g:Nat),vs=[.ref p]∧Ww C H p k f ss g∧Q (Xi ss g) H
theorem Zpq(T:Zt K mg ab U)(i:Mf P w K mg base 1 ab "to_go" ["self"] (SW ab)):Mf P w K mg base 2 ab "head" ["self"] (U0 ab):=by
 refine T.t_Row_head.mf ZjW (fun j H Q E h=>?_) (fun af f A outer s H j Q E l h=>?_)
 ·obtain⟨p,k,f,a,g,rfl,_⟩:=h;rfl
 obtain⟨p,k,f,a,g,rfl,R,q⟩:=h;refine⟨_,#[Zj,#[Zr,#[Xk,#[Zn,VX,#[YQ,i,T.cl_Row,l,‹0›],#[Zi],(Zp _)],#[Zl,(ixL K),#[ZM,‹0›],#[ZM,‹0›]],#[ZT]]]],?_⟩;obtain⟨⟨b,c⟩,m,hf⟩:=id R;refine⟨_,rfl,p,b,_,rfl,c,U1 _ _ _ #[1] #[1] #[1],p,k,f,a,g,rfl,R,_,_,rfl,rfl,_,rfl,?_⟩;refine YW (fun d=>?_) (fun d=>?_)
 ·have n:(0:Int)<(a.length:Int)-(g:Int):=of_decide_eq_true d;have e:g<a.length:=by lia
  refine⟨_,rfl,p,ab,b,_,_,rfl,c,T.cl_Row,T.na_Row_all_keys,V8 _ _ _,_,rfl,p,ab,b,_,_,rfl,c,T.cl_Row,T.na_Row_gone,U2 _ _ _,k,_,_,_,rfl,rfl,SqL.of m,Yr (by rw[Qo,Qb e]<;>rfl),?_⟩;unfold Xi at q;rw[Qb e]at q;exact q
 ·have n:¬ (0:Int)<(a.length:Int)-(g:Int):=fun z=>d (decide_eq_true z);unfold Xi at q;rw[QN #[2]]at q;exact q
def SV(C:Addr):Sp:=fun vs H Q _=>∃ (p dx a:Addr) (ss:List Str),vs=[.ref p,.ref a]∧H p=some (.ins C dx [])∧H a=some (.lst (ss.map V.str))∧ss.length≤100∧(∀s∈ss,s.length≤1000) ∧
 ∀ (k f:Addr) (c:Hp),H k=none→H f=none→k≠f→Ww C c p k f ss 0→(∀b o,H b=some o→b≠p→c b=some o)→Q .non c
theorem Zkt(T:Zt K mg ab U)(z:Df P w K mg base 3 "alikes" ["row"] (S0 K)):Cf P w K mg base 4 ab "Row" ["self", "keys"] (SV ab):=by
 refine T.t_Row_init.cf Zi0 (fun B H Q E h=>?_) (fun af f A outer s H B Q E C h=>?_)
 ·obtain⟨p,c,a,d,rfl,_⟩:=h;rfl
 obtain⟨p,c,a,d,rfl,m,i,D,F,q⟩:=h;refine⟨_,#[Ze,#[Yx,‹0›,#[Xq,(Vk K),T.b.n_list,boot_list,#[Za,‹1›,#[Zf]]]],#[Ze,#[Yx,‹0›,#[ZB,z,C,#[Za,‹1›,#[Zf]],#[5]]],#[Zj,#[Yx,‹0›,#[Zi]]]]],?_⟩;refine⟨_,rfl,a,_,rfl,.inl (SqL.of i),fun k j=>?_⟩;have l:p≠k:=Zb m j;have G:a≠p:=fun e=>by rw[e,m]at i;cases i
 have I:a≠k:=Zb i j;refine⟨_,rfl,p,ab,c,[],rfl,(by rw[Zc l];exact m),T.cl_Row,T.na_Row_all_keys,(by show 0<1000;decide),?_⟩;have J:(upd (upd H k (.lst (d.map V.str))) p (.ins ab c (Zx "all_keys" (.ref k) []))) a=some (.lst (d.map V.str)):=by rw[Zc G,Zc I];exact i
 have r:(upd (upd H k (.lst (d.map V.str))) p (.ins ab c (Zx "all_keys" (.ref k) []))) p=some (.ins ab c (Zx "all_keys" (.ref k) [])):=Zd;have v:(upd (upd H k (.lst (d.map V.str))) p (.ins ab c (Zx "all_keys" (.ref k) []))) k=some (.lst (d.map V.str)):=by rw[Zc l.symm];exact Zd
 have x:∀b o,H b=some o→b≠p→(upd (upd H k (.lst (d.map V.str))) p (.ins ab c (Zx "all_keys" (.ref k) []))) b=some o:=fun b o h n=>by rw[Zc n,Zc (Zb h j)];exact h
 refine⟨_,rfl,a,d,rfl,SqL.of J,D,F,fun f H3 g L t=>?_⟩;have M:H f=none:=by
  cases N:H f with
  | none=>rfl
  | some u =>
   by_cases e:f=p
   ·rw[e,r]at g;cases g
   ·rw[x f u N e]at g;cases g
 have O:k≠f:=Zb v g;have y:p≠f:=Zb r g;refine⟨_,rfl,p,ab,c,_,rfl,t _ _ r,T.cl_Row,T.na_Row_fars,(by show 1<1000;decide),?_⟩;refine⟨_,rfl,p,ab,c,_,rfl,Zd,T.cl_Row,T.na_Row_gone,?_,?_⟩
 ·have h1:=V9 "all_keys" (V.ref k) [];have h2:=V9 "fars" (V.ref f) (Zx "all_keys" (V.ref k) []);have h3:([]:List (Str×V)).length=0:=rfl;lia
 ·refine q k f _ j M O ⟨⟨c,Zd⟩,?_,?_⟩ fun b o h n=>?_
  ·rw[Zc l.symm,Zc l.symm];exact t _ _ v
  ·rw[Zc y.symm,Zc y.symm];exact L
  ·rw[Zc n,Zc n];exact t _ _ (x b o h n)
theorem Lv{K:#[7]}{a:Addr}{xs:List V}{k:Nat}{D:Addr}{c:L2.St}{h:Hp}{g:TG}{j:TT}{l:TE}{Q:VK}(Pv:Nat→List V→L2.St→Hp→Prop)(h0:Pv 0 [] (c++List.replicate k none) (upd h D (.lst [])))
  (hl:∀i ys c H,Pv i ys c H→SqL K H a xs)
  (r:∀i x ys c H,xs[i]? = some x→Pv i ys c H→g x c H fun d s=>j d s fun b n=>if b=true then l d n fun y o=>o D=some (.lst ys)∧ys.length<sizeLine∧Pv (i+1) (ys++[y]) d (upd o D (.lst (ys++[y]))) else Pv (i+1) ys d n)
  (hd:∀ys c H,Pv xs.length ys c H→Q (.ref D) H):VN (Itl K a) D k c h g j l Q:=by
 refine⟨fun i m ys c H=>m=xs.length-i∧i≤xs.length∧Pv i ys c H,⟨xs.length,by simp,Qx _,h0⟩,?_⟩;rintro i m ys c H ⟨rfl,hi,p⟩;have f:=hl i ys c H p;by_cases q:i<xs.length
 ·refine .inr ⟨⟨xs,xs[i],f,Qb q⟩,Pv (i+1),fun fW aj t u=>⟨xs.length-(i+1),by lia,rfl,q,u⟩,fun x t y=>?_⟩;obtain⟨rfl,e⟩:=y;exact r i x ys c _ (e xs f) p
 ·have e:i=xs.length:=by lia
  exact .inl ⟨⟨xs,f,by lia⟩,hd ys c H (e ▸ p)⟩
theorem ZlN{K:#[7]}{a:Addr}{xs:List V}{k:Nat}{D:Addr}{b:L2.St}{d:Hp}{g:TG}{f:TE}{Q:VK}(Pv:Nat→List V→L2.St→Hp→Prop)(h0:Pv 0 [] (b++List.replicate k none) (upd d D (.lst [])))
  (hl:∀i ys b H,Pv i ys b H→SqL K H a xs)
  (n:∀i x ys b H,xs[i]? = some x→Pv i ys b H→g x b H fun h o=>f h o fun y j=>j D=some (.lst ys)∧ys.length<sizeLine∧Pv (i+1) (ys++[y]) h (upd j D (.lst (ys++[y]))))
  (hd:∀ys b H,Pv xs.length ys b H→Q (.ref D) H):VN (Itl K a) D k b d g VO f Q:=by
 refine⟨fun i m ys b H=>m=xs.length-i∧i≤xs.length∧Pv i ys b H,⟨xs.length,by simp,Qx _,h0⟩,?_⟩;rintro i m ys b H ⟨rfl,hi,p⟩;have c:=hl i ys b H p;by_cases l:i<xs.length
 ·refine .inr ⟨⟨xs,xs[i],c,Qb l⟩,Pv (i+1),fun fW aj q r=>⟨xs.length-(i+1),by lia,rfl,l,r⟩,fun x q y=>?_⟩;obtain⟨rfl,e⟩:=y;simp only[VO,↓reduceIte];exact n i x ys b _ (e xs c) p
 ·have e:i=xs.length:=by lia
  exact .inl ⟨⟨xs,c,by lia⟩,hd ys b H (e ▸ p)⟩
theorem Lu:∀x y:List Nat,x<y↔ZV x y<0
 | [],[]=>by unfold ZV;exact⟨fun h=>absurd h #[4],fun h=>absurd h #[2]⟩
 | [],_::_=>by unfold ZV;exact⟨fun _=>by lia,fun _=>List.nil_lt_cons _ _⟩
 | _::_,[]=>by unfold ZV;exact⟨fun h=>absurd h (List.not_lt_nil _),fun h=>absurd h #[2]⟩
 | a::r,b::s=>by
  have c:=Lu r s;unfold ZV;rw[Qax];by_cases e:a=b
  ·rw[if_pos e,← c];exact⟨fun h=>h.elim (fun z=>by lia) (fun z=>z.2),fun h=>.inr ⟨e,h⟩⟩
  ·rw[if_neg e];by_cases l:a<b
   ·rw[if_pos l];exact⟨fun _=>by lia,fun _=>.inl l⟩
   ·rw[if_neg l];exact⟨fun h=>h.elim (fun z=>absurd z l) (fun z=>absurd z.1 e),fun h=>absurd h #[2]⟩
theorem ZmM{H:Hp}{D:Addr}{ys:List V}(h:H D=some (.lst ys))(o:HO):∀a xs,H a=some (.tup xs)→(upd H D o) a=some (.tup xs):=fun a xs e=>by
 have nb:a≠D:=by intro z;rw[z,h]at e;cases e
 rw[Zc nb];exact e
noncomputable abbrev Hd:=Int→Option (List Nat)
def Btr(x:List Nat)(a:Int)(y:List Nat)(b:Int):Prop:=ZV x y<0∨(ZV x y=0∧a<b)
def Win(hd:Hd)(N:List Int):Option Int→Prop
 | none=>∀n∈N,hd n=none
 | some a=>a∈N∧∃x,hd a=some x∧∀b∈N,∀y,hd b=some y→b=a∨Btr x a y b
theorem Btr.asym{x y:List Nat}{a b:Int}(h:Btr x a y b)(g:Btr y b x a):False:=by have e:=Wb x y;rcases h with h|⟨h,h2⟩<;>rcases g with g|⟨g,g2⟩<;>lia
theorem Btr.total{x y:List Nat}{a b:Int}(h:a≠b):Btr x a y b∨Btr y b x a:=by have e:=Wb x y;unfold Btr;lia
theorem Btr.trans{x y z:List Nat}{a b c:Int}(h:Btr x a y b)(g:Btr y b z c):Btr x a z c:=by
 have t1:=SY x y z;have t2:=SY z x y;have t3:=SY y z x;have e1:=Wb x y;have e2:=Wb y z;have e3:=Wb x z;unfold Btr at *
 lia
theorem Win.one{hd:Hd}{N:List Int}{v w:Option Int}(h:Win hd N v)(g:Win hd N w):v=w:=by
 cases v with
 | none =>
  cases w with
  | none=>rfl
  | some b=>obtain⟨d,y,c,_⟩:=g;rw[h b d]at c;cases c
 | some a =>
  obtain⟨i,x,f,j⟩:=h;cases w with
  | none=>rw[g a i]at f;cases f
  | some b =>
   obtain⟨d,y,c,k⟩:=g;rcases j b d y c with e|e
   ·rw[e]
   ·rcases k a i x f with e'|e'
    ·rw[e']
    ·exact(e.asym e').elim
theorem Win.nil(hd:Hd):Win hd [] none:=fun n h=>by cases h
theorem Win.sing{hd:Hd}{n:Int}:Win hd [n] (if (hd n).isSome then some n else none):=by
 cases h:hd n with
 | none=>intro m a;rw[Qn.mp a];exact h
 | some x=>exact⟨by simp,x,h,fun b c y hy=>.inl (Qn.mp c)⟩
theorem Win.both{hd:Hd}{A B:List Int}{a b:Int}{x y:List Nat}(ha:Win hd A (some a))(hb:Win hd B (some b))(hx:hd a=some x)(hy:hd b=some y)(h:Btr x a y b):Win hd (A++B) (some a):=by
 obtain⟨a1,x',f,a2⟩:=ha;obtain⟨b1,y',g,i⟩:=hb;rw[hx]at f;cases f;rw[hy]at g;cases g;refine⟨QF _ a1,x,hx,fun c hc z d=>?_⟩;rcases Qm.mp hc with hc|hc
 ·exact a2 c hc z d
 ·rcases i c hc z d with e|e
  ·subst e;rw[hy]at d;cases d;exact .inr h
  ·exact .inr (h.trans e)
theorem Win.both'{hd:Hd}{A B:List Int}{a b:Int}{x y:List Nat}(ha:Win hd A (some a))(hb:Win hd B (some b))(hx:hd a=some x)(hy:hd b=some y)(h:Btr y b x a):Win hd (A++B) (some b):=by have:=Win.both hb ha hy hx h;obtain⟨d,z,e,f⟩:=this;exact⟨by rcases Qm.mp d with h|h<;>simp[h],z,e,fun c g=>f c (by rcases Qm.mp g with h|h<;>simp[h])⟩
theorem Win.left{hd:Hd}{A B:List Int}{w:Option Int}(ha:Win hd A w)(hb:Win hd B none):Win hd (A++B) w:=by
 cases w with
 | none=>intro n d;rcases Qm.mp d with h|h;exact ha n h;exact hb n h
 | some a =>
  obtain⟨a1,x,e,a2⟩:=ha;refine⟨QF _ a1,x,e,fun c hc z b=>?_⟩;rcases Qm.mp hc with hc|hc
  ·exact a2 c hc z b
  ·rw[hb c hc]at b;cases b
theorem Win.right{hd:Hd}{A B:List Int}{w:Option Int}(ha:Win hd A none)(hb:Win hd B w):Win hd (A++B) w:=by
 cases w with
 | none=>intro n d;rcases Qm.mp d with h|h;exact ha n h;exact hb n h
 | some a =>
  obtain⟨a1,x,e,a2⟩:=hb;refine⟨Qr _ a1,x,e,fun c hc z b=>?_⟩;rcases Qm.mp hc with hc|hc
  ·rw[ha c hc]at b;cases b
  ·exact a2 c hc z b
theorem Win.ex(hd:Hd):∀N:List Int,N.Nodup→∃w,Win hd N w
 | [],_=>⟨none,Win.nil hd⟩
 | n::N,d=>by
  obtain⟨f,g⟩:=QR.mp d;obtain⟨w,hw⟩:=Win.ex hd N g;have a:Win hd [n] (if (hd n).isSome then some n else none):=Win.sing;cases h:hd n with
  | none=>rw[h]at a;exact⟨w,Win.right (A:=[n]) a hw⟩
  | some x =>
   rw[h]at a;cases w with
   | none=>exact⟨some n,Win.left (A:=[n]) a hw⟩
   | some b =>
    obtain⟨i,y,c,b2⟩:=id hw;have j:n≠b:=fun e=>f (e ▸ i);rcases Btr.total (x:=x) (y:=y) j with e|e
    ·exact⟨some n,Win.both (A:=[n]) a hw h c e⟩
    ·exact⟨some b,Win.both' (A:=[n]) a hw h c e⟩
theorem Win.congr{hd c:Hd}{N:List Int}(h:∀n∈N,c n=hd n){w:Option Int}(hw:Win hd N w):Win c N w:=by
 cases w with
 | none=>intro n d;rw[h n d];exact hw n d
 | some a=>obtain⟨a1,x,f,a2⟩:=hw;exact⟨a1,x,by rw[h a a1];exact f,fun b e y g=>a2 b e y (by rw[← h b e];exact g)⟩
noncomputable def lo(N:List Int):List Int:=N.take (mid N)
noncomputable def up(N:List Int):List Int:=N.drop (mid N)
theorem XY(N:List Int):lo N++up N=N:=List.take_append_drop _ _
theorem WM{N:List Int}(h:2≤N.length):(lo N).length<N.length∧1≤(lo N).length:=by unfold lo mid;rw[QA];lia
theorem Wv{N:List Int}(h:2≤N.length):(up N).length<N.length∧1≤(up N).length:=by unfold up mid;rw[QO];lia
noncomputable def ZQ(N:List Int):Int×Int:=(N.headD 0,N.getLastD 0)
abbrev StL:=List ((Int×Int)×Option (Addr×Int×Int))
noncomputable def stV:Option (Addr×Int×Int)→V
 | none=>.non
 | some t=>.ref t.1
noncomputable def kvS(s:StL):List (List Key×V):=s.map fun e=>([.inl e.1.1,.inl e.1.2],stV e.2)
def AtS(H:Hp)(s:StL):Prop:=∀e∈s,∀t,e.2=some t→H t.1=some (.tup [.int t.2.1,.int t.2.2])
noncomputable def Z1(s:StL)(k:Int×Int):Option (Option (Addr×Int×Int)):=(s.find? fun e=>decide (e.1=k)).map (·.2)
noncomputable def Yo(s:StL)(k:Int×Int)(v:Option (Addr×Int×Int)):StL:=if s.any (fun e=>decide (e.1=k)) then s.map (fun e=>if e.1=k then (e.1,v) else e) else s++[(k,v)]
theorem AtS.mono{H H':Hp}{s:StL}(h:AtS H s)(k:∀a xs,H a=some (.tup xs)→H' a=some (.tup xs)):AtS H' s:=fun e he t b=>k _ _ (h e he t b)
theorem Pk{a b:Int×Int}(h:([.inl a.1,.inl a.2]:List Key)=[.inl b.1,.inl b.2]):a=b:=by obtain⟨a1,a2⟩:=a;obtain⟨b1,b2⟩:=b;injection h with f c;injection c with c _;have d:=Sum.inl.inj f;have e:=Sum.inl.inj c;simp only at d e;rw[d,e]
theorem Ls(k:Int×Int):∀s:StL,Z5 (kvS s) [.inl k.1,.inl k.2]=(Z1 s k).map stV
 | []=>rfl
 | e::s=>by
  have a:=Ls k s;by_cases h:e.1=k
  ·unfold kvS Z1;rw[Qk,Vi (by rw[h])];simp[List.find?_cons,h]
  ·unfold kvS at a ⊢;rw[Qk,Vh (fun z=>h (Pk z)),a];unfold Z1;simp[List.find?_cons,h]
theorem Zoz(k:Int×Int)(s:StL):((kvS s).any fun a=>decide (a.1=([.inl k.1,.inl k.2]:List Key)))=s.any fun e=>decide (e.1=k):=by
 unfold kvS;rw[List.any_map];congr 1;funext e;simp only[Function.comp];by_cases h:e.1=k
 ·rw[decide_eq_true h,decide_eq_true (by rw[h])]
 ·rw[decide_eq_false h,decide_eq_false (fun z=>h (Pk z))]
theorem SU(s:StL)(k:Int×Int)(v:Option (Addr×Int×Int)):YY (kvS s) [.inl k.1,.inl k.2] (stV v)=kvS (Yo s k v):=by
 unfold YY Yo;rw[Zoz];split
 ·unfold kvS;rw[Qg,Qg];congr 1;funext e;simp only[Function.comp];by_cases h:e.1=k
  ·rw[if_pos h,if_pos (by rw[h])]
  ·rw[if_neg h,if_neg (fun z=>h (Pk z))]
 ·unfold kvS;rw[Qe];rfl
theorem Zoa(s:StL)(k:Int×Int)(v:Option (Addr×Int×Int)):(Yo s k v).length≤s.length+1:=by
 unfold Yo;split
 ·rw[Qa];lia
 ·rw[Qj];exact Qh _
theorem WL(s:StL)(k j:Int×Int)(v:Option (Addr×Int×Int)):Z1 (Yo s k v) j=if j=k then some v else Z1 s j:=by
 unfold Yo;split
 ·rename_i h;induction s with
  | nil=>simp at h
  | cons e s f =>
   unfold Z1 at f ⊢;by_cases b:e.1=k
   ·by_cases a:j=k
    ·subst a;simp[List.find?_cons,b]
    ·have c:¬ k=j:=fun z=>a z.symm;rw[Qk,if_pos b,Qaq (by simp[b,c]),Qaq (by simp[b,c]),if_neg a];by_cases d:s.any (fun e=>decide (e.1=k))=true
     ·have:=f d;rw[if_neg a]at this;exact this
     ·have:s.map (fun e=>if e.1=k then (e.1,v) else e)=s:=by
       rw[List.map_eq_iff];intro i;cases l:s[i]? with
       | none=>rfl
       | some x=>have g:¬ x.1=k:=fun z=>d (Qap.mpr ⟨x,Qz l,by simpa using z⟩);simp[g]
      rw[this]
   ·have d:s.any (fun e=>decide (e.1=k))=true:=by simpa [b] using h
    rw[Qk,if_neg b];by_cases a:e.1=j
    ·have:¬ j=k:=fun z=>b (a.trans z);rw[List.find?_cons_of_pos (by simpa using a),List.find?_cons_of_pos (by simpa using a),if_neg this]
    ·rw[Qaq (by simpa using a),Qaq (by simpa using a)];exact f d
 ·rename_i h;unfold Z1;rw[List.find?_append];by_cases a:j=k
  ·subst a;have:s.find? (fun e=>decide (e.1=j))=none:=by rw[List.find?_eq_none];intro x g z;exact h (Qap.mpr ⟨x,g,z⟩)
   rw[this];simp
  ·have c:¬ k=j:=fun z=>a z.symm;rw[if_neg a];simp[c]
theorem AtS.put{H:Hp}{s:StL}{k:Int×Int}{v:Option (Addr×Int×Int)}(h:AtS H s)(b:∀t,v=some t→H t.1=some (.tup [.int t.2.1,.int t.2.2])):AtS H (Yo s k v):=by
 unfold Yo;split
 ·intro e he t a;obtain⟨x,c,rfl⟩:=Qi.mp he;split at a
  ·exact b t a
  ·exact h x c t a
 ·intro e he t a;rcases Qm.mp he with he|he
  ·exact h e he t a
  ·rw[Qn.mp he]at a;exact b t a
theorem Lr{s:StL}{k:Int×Int}{v:Option (Addr×Int×Int)}(h:Z1 s k=some v):(k,v)∈s:=by
 unfold Z1 at h;obtain⟨e,a,rfl⟩:=QaT.mp h;have b:=List.find?_some a;have:e.1=k:=by simpa using b
 rw[← this];exact QaF a
def Zr8(hd:Hd)(s:StL)(N:List Int):Prop :=
 (∀a b x y,Win hd (lo N) (some a)→Win hd (up N) (some b)→hd a=some x→hd b=some y→∃t,Z1 s (ZQ N)=some (some (t,if ZV x y<0∨(ZV x y=0∧a<b) then b else a,((lcp x y:Nat):Int)))) ∧
 ((Win hd (lo N) none∨Win hd (up N) none)→Z1 s (ZQ N)=none∨Z1 s (ZQ N)=some none)
def XX(hd:Hd)(s:StL):Nat→List Int→Prop
 | 0,_=>True
 | n+1,N=>2≤N.length→XX hd s n (lo N)∧XX hd s n (up N)∧Zr8 hd s N
def Xv:Nat→List Int→Int×Int→Prop
 | 0,_,_=>False
 | n+1,N,k=>2≤N.length∧(Xv n (lo N) k∨Xv n (up N) k∨k=ZQ N)
abbrev Z9(N:List Int):Prop:=N.Pairwise (·<·)
theorem SS{N:List Int}(h:Z9 N):Z9 (lo N):=h.sublist (List.take_sublist _ _)
theorem SR{N:List Int}(h:Z9 N):Z9 (up N):=h.sublist (List.drop_sublist _ _)
theorem SQ{N:List Int}(h:Z9 N):N.Nodup:=h.imp fun {a b} jd e=>by lia
theorem ZP{N:List Int}(h:Z9 N){a b:Int}(ha:a∈lo N)(hb:b∈up N):a<b:=by
 have:Z9 (lo N++up N):=by rw[XY];exact h
 exact(Qag.mp this).2.2 a ha b hb
theorem UZ{N:List Int}(h:N≠[]):N.headD 0∈N:=by
 cases N with
 | nil=>exact absurd rfl h
 | cons a r=>simp
theorem UY{N:List Int}(h:N≠[]):N.getLastD 0∈N:=by rw[Qad,Qan h];exact List.getLast_mem h
theorem XH{N:List Int}(h:1≤N.length):N≠[]:=fun z=>by rw[z]at h;simp at h
theorem Pj{N:List Int}(h:2≤N.length):(ZQ N).2=(up N).getLastD 0:=by
 have a:=XH (Wv h).2;show N.getLastD 0=_;rw[Qad,Qad]
 conv=>lhs;rw[← XY N]
 rw[List.getLast?_append,Qan a];rfl
theorem Pg{N:List Int}(h:2≤N.length):(ZQ N).1=(lo N).headD 0:=by
 have b:=XH (WM h).2;show N.headD 0=_
 conv=>lhs;rw[← XY N]
 cases c:lo N with
 | nil=>exact absurd c b
 | cons a r=>rfl
theorem UX:∀ (n:Nat) (N:List Int) (k:Int×Int),Xv n N k→k.1∈N∧k.2∈N
 | 0,_,_,h=>h.elim
 | n+1,N,k,⟨h2,h⟩=>by
  rcases h with h|h|rfl
  ·have:=UX n _ k h;rw[← XY N];exact⟨QF _ this.1,QF _ this.2⟩
  ·have:=UX n _ k h;rw[← XY N];exact⟨Qr _ this.1,Qr _ this.2⟩
  ·have a:N≠[]:=XH #[2];exact⟨UZ a,UY a⟩
theorem Pf{N:List Int}(a:Z9 N)(h2:2≤N.length){n:Nat}{k:Int×Int}(h:Xv n (lo N) k):k≠ZQ N∧∀m,¬ Xv m (up N) k:=by
 have:=UX n _ k h;refine⟨fun z=>?_,fun m b=>?_⟩
 ·have c:=Pj h2;rw[z,c]at this;have:=ZP a this.2 (UY (XH (Wv h2).2));lia
 ·have:=ZP a this.1 (UX m _ k b).1;lia
theorem Pe{N:List Int}(a:Z9 N)(h2:2≤N.length){n:Nat}{k:Int×Int}(h:Xv n (up N) k):k≠ZQ N∧∀m,¬ Xv m (lo N) k:=by
 have:=UX n _ k h;refine⟨fun z=>?_,fun m b=>?_⟩
 ·have c:=Pg h2;rw[z,c]at this;have:=ZP a (UZ (XH (WM h2).2)) this.1;lia
 ·have:=ZP a (UX m _ k b).1 this.1;lia
theorem XX.congr{hd d:Hd}{s s':StL}:∀ (n:Nat) (N:List Int),(∀m∈N,d m=hd m)→(∀k,Xv n N k→Z1 s' k=Z1 s k)→XX hd s n N→XX d s' n N
 | 0,_,_,_,_=>True.intro
 | n+1,N,j,hk,h=>fun h2=>by
  obtain⟨a,b,c1,c2⟩:=h h2;have f:∀m∈lo N,d m=hd m:=fun m c=>j m (by rw[← XY N];exact QF _ c);have g:∀m∈up N,d m=hd m:=fun m c=>j m (by rw[← XY N];exact Qr _ c);have l:∀m∈lo N,hd m=d m:=fun m c=>(f m c).symm;have e:∀m∈up N,hd m=d m:=fun m c=>(g m c).symm;refine⟨XX.congr n _ f (fun k i=>hk k ⟨h2,.inl i⟩) a,XX.congr n _ g (fun k i=>hk k ⟨h2,.inr (.inl i)⟩) b,fun a b x y o p q r=>?_,fun hw=>?_⟩
  ·rw[hk _ ⟨h2,.inr (.inr rfl)⟩];exact c1 a b x y (Win.congr l o) (Win.congr e p) (by rw[← f a o.1];exact q) (by rw[← g b p.1];exact r)
  ·rw[hk _ ⟨h2,.inr (.inr rfl)⟩];refine c2 ?_;rcases hw with hw|hw
   ·exact .inl (Win.congr l hw)
   ·exact .inr (Win.congr e hw)
inductive YU (hd:Hd):Nat→List Int→Int→Int→Prop
 | few {n:Nat} {N:List Int}:N.length<2→YU hd n N 0 0
 | none {n:Nat} {N:List Int} {k l k' l':Int}:2≤N.length→YU hd n (lo N) k l→YU hd n (up N) k' l'→(Win hd (lo N) none∨Win hd (up N) none)→YU hd (n+1) N (k+k') (l+l')
 | both {n:Nat} {N:List Int} {k l k' l':Int} {a b:Int} {x y:List Nat}:2≤N.length→YU hd n (lo N) k l→YU hd n (up N) k' l'→Win hd (lo N) (some a)→Win hd (up N) (some b)→hd a=some x→hd b=some y→YU hd (n+1) N (k+k'+1) (l+l'+(lcp x y:Nat)+1)
theorem YU.one{hd:Hd}:∀ {n m:Nat} {N:List Int} {k l k' g:Int},YU hd n N k l→YU hd m N k' g→k=k'∧l=g
 | _,_,_,_,_,_,_,.few h,p=>by
  cases p with
  | few _=>exact⟨rfl,rfl⟩
  | none h2 _ _ _=>lia
  | both h2 _ _ _ _ _ _=>lia
 | _,_,_,_,_,_,_,.none h2 a b hw,p=>by
  cases p with
  | few h=>lia
  | none _ c d _=>obtain⟨r,s⟩:=YU.one a c;obtain⟨t,u⟩:=YU.one b d;exact⟨by lia,by lia⟩
  | both _ c d e f i j =>
   rcases hw with hw|hw
   ·exact nomatch hw.one e
   ·exact nomatch hw.one f
 | _,_,_,_,_,_,_,.both h2 a b e f i j,p=>by
  cases p with
  | few h=>lia
  | none _ c d hw =>
   rcases hw with hw|hw
   ·exact nomatch hw.one e
   ·exact nomatch hw.one f
  | both _ c d v w o q=>obtain⟨r,s⟩:=YU.one a c;obtain⟨t,u⟩:=YU.one b d;have x:=Qp (e.one v);have y:=Qp (f.one w);subst x y;rw[i]at o;cases o;rw[j]at q;cases q;exact⟨by lia,by lia⟩
noncomputable def kk(e:Str×Int):List Key:=[.inr e.1,.inl e.2]
noncomputable def oV:Option Str→V
 | none=>.non
 | some s=>.str s
noncomputable def YX:Option Int→V
 | none=>.non
 | some a=>.int a
noncomputable def kvH(E:List (Int×Option Str)):List (Key×V):=E.map fun e=>(.inl e.1,oV e.2)
noncomputable def lk(E:List (Int×Option Str))(n:Int):Option Str:=(E.find? fun e=>decide (e.1=n)).bind (·.2)
noncomputable def hdE(E:List (Int×Option Str)):Hd:=fun n=>(lk E n).map cds
theorem SO:∀ {E:List (Int×Option Str)},(E.map (·.1)).Nodup→∀ {e:Int×Option Str},e∈E→lk E e.1=e.2
 | [],_,_,h=>by cases h
 | x::r,nd,e,h=>by
  rw[Qk,QR]at nd;unfold lk;rw[Qac];rcases QG.mp h with rfl|h
  ·rw[decide_eq_true rfl];rfl
  ·rw[decide_eq_false (fun z:x.1=e.1=>nd.1 (by rw[z];exact Qd (f:=fun x:Int×Option Str=>x.1) h))];exact SO nd.2 h
theorem Zqy{E:List (Int×Option Str)}(h:(E.map (·.1)).Nodup):((kvH E).map (·.1)).Nodup:=by
 have e:(kvH E).map (·.1)=(E.map (·.1)).map (Sum.inl:Int→Key):=by unfold kvH;rw[Qg,Qg];rfl
 rw[e];exact QaV _ (fun a b c z=>c (Sum.inl.inj z)) h
theorem UW{E:List (Int×Option Str)}(h:(E.map (·.1)).Nodup){n:Int}(b:n∈E.map (·.1)):Z5 (kvH E) (.inl n)=some (oV (lk E n)):=by obtain⟨e,a,rfl⟩:=Qi.mp b;rw[SO h a];exact Tn (Zqy h) (Qd (f:=fun e:Int×Option Str=>((.inl e.1:Key),oV e.2)) a)
noncomputable def prs(E:List (Int×Option Str))(N:List Int):List (Str×Int):=N.filterMap fun n=>(lk E n).map fun s=>(s,n)
theorem SN{E:List (Int×Option Str)}{N:List Int}{s:Str}{n:Int}:(s,n)∈prs E N↔n∈N∧lk E n=some s:=by
 unfold prs;rw[List.mem_filterMap];constructor
 ·rintro⟨m,a,e⟩;cases h:lk E m with
  | none=>rw[h]at e;cases e
  | some x=>rw[h]at e;injection e with e;injection e with b c;rw[← c,← b];exact⟨a,h⟩
 ·rintro⟨d,h⟩;exact⟨n,d,by rw[h];rfl⟩
theorem ZoJ{x y:Str}(h:cds x=cds y):x=y:=by obtain⟨⟨a⟩⟩:=x;obtain⟨⟨b⟩⟩:=y;have:a=b:=h;rw[this]
theorem ZoI{s s':Str}{a b:Int}(h:YE (kk (s',b)) (kk (s,a))=false):b=a∨Btr (cds s) a (cds s') b:=by
 unfold kk at h;rw[RF]at h;by_cases e:(Sum.inr s':Key)=Sum.inr s
 ·rw[if_pos e,RF]at h;have f:s'=s:=Sum.inr.inj e;by_cases c:(Sum.inl b:Key)=Sum.inl a
  ·exact .inl (Sum.inl.inj c)
  ·rw[if_neg c]at h;have d:¬ b<a:=of_decide_eq_false h;have g:b≠a:=fun z=>c (by rw[z]);exact .inr (.inr ⟨by rw[f,Lx],by lia⟩)
 ·rw[if_neg e]at h;have d:¬ cds s'<cds s:=of_decide_eq_false h;rw[Lu]at d;have g:=Wb (cds s') (cds s);have h3:ZV (cds s) (cds s')≠0:=fun z=>e (by rw[ZoJ (Pq _ _ z)]);exact .inr (.inl #[2])
theorem ZqS{E:List (Int×Option Str)}{N:List Int}{s:Str}{a:Int}(h:(s,a)∈prs E N)(hm:∀e∈prs E N,YE (kk e) (kk (s,a))=false):Win (hdE E) N (some a):=by
 obtain⟨f,g⟩:=SN.mp h;refine⟨f,cds s,by unfold hdE;rw[g];rfl,fun b i y c=>?_⟩;unfold hdE at c;cases d:lk E b with
 | none=>rw[d]at c;cases c
 | some j=>rw[d]at c;cases c;exact ZoI (hm (j,b) (SN.mpr ⟨i,d⟩))
theorem Zm3{E:List (Int×Option Str)}{N:List Int}(h:prs E N=[]):Win (hdE E) N none:=fun n a=>by
 unfold hdE;cases b:lk E n with
 | none=>rfl
 | some s=>have:=SN.mpr ⟨a,b⟩;rw[h]at this;cases this
noncomputable def Lq:Key→PyData
 | .inl i=>.int i
 | .inr s=>.str s
noncomputable def tD(k:List Key):PyData:=.tuple (k.map Lq)
theorem Pd{K:#[7]}{H:Hp}:∀ks:List Key,DVs K H (ks.map kV) (ks.map Lq)
 | []=>.nil
 | .inl i::r=>.cons (.int i) (Pd r)
 | .inr s::r=>.cons (.str s) (Pd r)
theorem Lp{K:#[7]}{H:Hp}:∀a:WA,AtT H a→DVs K H (VM a) (a.map fun t=>tD t.2)
 | [],_=>.nil
 | t::r,h=>.cons (.tup (SqT.of (h t #[4])) (Pd t.2)) (Lp r fun x hx=>h x (Qt _ hx))
theorem Ln:∀L:List (Str×Int),(∀e∈L,AZ e.1)→PyData.canLayAll0 (L.map fun e=>tD (kk e))=true∧PyData.depthAll (L.map fun e=>tD (kk e))≤1
 | [],_=>⟨rfl,by simp[PyData.depthAll]⟩
 | e::r,h=>by obtain⟨a,b⟩:=Ln r fun x hx=>h x (Qt _ hx);have c:tD (kk e)=.tuple [.str e.1,.int e.2]:=rfl;have d:=(h e #[4]).ok;refine⟨by simp[PyData.canLayAll0,PyData.canLay0,c,d,a],?_⟩;rw[Qk,c];simp only[PyData.depthAll,PyData.depth];lia
theorem Lm(L:List (Str×Int))(h:∀e∈L,AZ e.1):SeqAt.shaped (.list (L.map fun e=>tD (kk e)))=true:=by obtain⟨a,b⟩:=Ln L h;simp[SeqAt.shaped,PyData.canLay0,PyData.depth,a];lia
structure Hds (H:Hp) (D:Addr) (E:List (Int×Option Str)):Prop where
 at':H D=some (.dK (kvH E))
 nd:(E.map (·.1)).Nodup
 ok:∀e∈E,∀s,e.2=some s→s.length≤1000∧AZ s
theorem Hds.lk{H:Hp}{D:Addr}{E:List (Int×Option Str)}(h:Hds H D E){n:Int}{s:Str}(e:lk E n=some s):s.length≤1000∧AZ s:=by
 unfold My.lk at e;cases a:E.find? fun e=>decide (e.1=n) with
 | none=>rw[a]at e;cases e
 | some x=>rw[a]at e;exact h.ok x (QaF a) s e
theorem Hds.same{H H':Hp}{D:Addr}{E:List (Int×Option Str)}(h:Hds H D E)(s:ZG H H'):Hds H' D E:=⟨s _ _ h.at',h.nd,h.ok⟩
def SM(K:#[7]):Sp:=fun vs H Q _=>∃ (D l:Addr) (E:List (Int×Option Str)) (N:List Int),vs=[.ref D,.ref l]∧Hds H D E∧SqL K H l (N.map V.int)∧N.length≤60∧(∀n∈N,n∈E.map (·.1)) ∧
 ∀ (v:Option Int) (a:Hp),Win (hdE E) N v→ZG H a→Q (YX v) a
theorem ZlT(T:Zt K mg ab U):Df P w K mg base 1 "_law_least" ["_law_heads_here", "_law_numbers"] (SM K):=by
 refine T.t_l_least.df Ml (fun vs H Q E h=>?_) (fun af f A outer s H vs Q E M h=>?_)
 ·obtain⟨D,l,E,N,rfl,_⟩:=h;rfl
 obtain⟨D,l,d,N,rfl,S,hl,eD,cU,q⟩:=h;refine⟨_,#[Ze,#[Tz,2,Ml.nd,VE,#[iL,K,‹1›],(fun _ _ _ _=>#[cg,3,VE]),(fun _ _ _ _=>(@RN _ _ _ #[Zn,UN,#[Zl,(ixG M),#[cv,0,VE],#[cw,3,VE]],#[ZT],(Zp _)])),(fun _ _ _ _=>#[YJ,#[Za,#[Zl,(ixG M),#[cv,0,VE],#[cw,3,VE]],#[Za,#[cw,3,VE],#[Zf]]]])],#[Zj,#[Zr,#[Xk,#[Zn,(@neD _ K _ M #[5]),‹2›,#[YH,#[Zf]],(Zp _)],#[Zl,(ixT K),#[Zk,(Zsh K M),T.b.n_min,boot_min,#[Za,‹2›,#[Zf]]],#[Zi]],#[ZT]]]]],?_⟩;refine⟨_,rfl,l,rfl,⟨_,hl⟩,fun B hB=>?_⟩;refine Lv (K:=K) (a:=l) (xs:=N.map V.int) (fun i zs W j=>(∃v:Option V,W=[some (.ref D),some (.ref l),none,v])∧(∃c:WA,zs=VM c∧AtT j c∧c.length≤i∧c.map (·.2)=(prs d (N.take i)).map kk)∧i≤N.length∧j B=some (.lst zs)∧ZG H j) ?_ (fun _ _ _ _ h=>h.2.2.2.2.seq hl) ?_ ?_
 ·exact⟨⟨none,rfl⟩,⟨[],rfl,(fun t h=>by cases h),Qh _,rfl⟩,Qx _,Zd,Zh hB _⟩
 ·rintro i x zs W j C ⟨⟨v,rfl⟩,⟨c,rfl,F,eE,k⟩,hi,m,G⟩;rw[Qo]at C;cases p:N[i]? with
  | none=>rw[p]at C;cases C
  | some n =>
  rw[p]at C;cases C;have bv:i<N.length:=(Qf.mp p).1;have hv:=UW S.nd (cU n (Qz p));have bn:=G _ _ S.at';have O:ZR j D (kV (.inl n)) (some (oV (lk d n))):=by rw[← hv];exact ZR.k bn
  refine⟨_,rfl,_,rfl,D,_,rfl,O,rfl,_,rfl,?_⟩;cases R:lk d n with
  | none=>rw[R]at O;refine YR ⟨⟨_,rfl⟩,⟨c,rfl,F,by lia,?_⟩,bv,m,G⟩;rw[k,QJ,p];unfold prs;rw[Qav];simp[R]
  | some z =>
   rw[R]at O;refine XN ⟨_,rfl,_,rfl,D,_,rfl,O,_,rfl,(by show 2≤sizeLine;decide),fun t rE=>?_⟩;have X:=Zh rE (.tup [.str z,.int n]);have I:=X _ _ m;have zf:B≠t:=Zb m rE;refine⟨I,(by unfold VM;rw[Qa];exact ZE #[2]),⟨_,rfl⟩,⟨c++[(t,kk (z,n))],by unfold VM;rw[Qe];rfl,fun y hy=>?_,by rw[Qj,QD];lia,?_⟩,bv,Zd,fun b o hb=>?_⟩
   ·rcases Qm.mp hy with hy|hy
    ·exact ZmM I _ _ _ (X _ _ (F y hy))
    ·rw[Qn.mp hy,Zc zf.symm];exact Zd
   ·rw[Qe,k,QJ,p];unfold prs;rw[Qav,Qe];simp[R]
   ·rw[Zc (Zb hb hB)];exact X _ _ (G b o hb)
 rintro zs W j ⟨⟨v,rfl⟩,⟨c,rfl,F,eE,k⟩,_,m,G⟩;rw[Qa,Qw (Qh _)]at k;have zg:∀e∈prs d N,AZ e.1:=fun e J=>(S.lk (SN.mp (show (e.1,e.2)∈prs d N from J)).2).2;have zh:(c.map fun t=>tD t.2)=(prs d N).map fun e=>tD (kk e):=by have:=congrArg (List.map tD) k;rw[Qg,Qg]at this;exact this
 refine⟨_,rfl,(by show 0≤sizeLine;decide),fun Y zi=>?_⟩;have L:=Zh zi (.lst []);have zj:DVs K (upd j Y (.lst [])) (VM c) ((prs d N).map fun e=>tD (kk e)):=by rw[← zh];exact Lp c (fun t g=>L _ _ (F t g))
 refine⟨.list ((prs d N).map fun e=>tD (kk e)),.list [],.lst (SqL.of (L _ _ m)) zj,.lst (SqL.of Zd) .nil,Lm _ zg,Lm [] (fun e h=>by cases h),_,rfl,?_⟩;have I:=L _ _ m;have Z:AtT (upd j Y (.lst [])) c:=fun t g=>L _ _ (F t g);have fC:=G.trans L;generalize upd j Y (.lst [])=H3 at I Z fC ⊢;cases hp:prs d N with
 | nil=>rw[show (if true=true then !PyData.eqv (.list (([]:List (Str×Int)).map fun e=>tD (kk e))) (.list []) else PyData.eqv (.list (([]:List (Str×Int)).map fun e=>tD (kk e))) (.list []))=false by ac_rfl];exact YR (q none H3 (Zm3 hp) fC)
 | cons e0 er =>
  rw[show (if true=true then !PyData.eqv (.list ((e0::er).map fun e=>tD (kk e))) (.list []) else PyData.eqv (.list ((e0::er).map fun e=>tD (kk e))) (.list []))=true by simp[PyData.eqv,PyData.eqvAll]];have aV:c≠[]:=fun z=>by rw[z,hp]at k;cases k
  have mQ:∀t∈c,∃e∈prs d N,t.2=kk e:=fun t g=>by have:=Qd (f:=fun t:Addr×List Key=>t.2) g;rw[k]at this;obtain⟨e,J,r⟩:=Qi.mp this;exact⟨e,J,r.symm⟩
  refine XN ⟨_,rfl,B,c,[false,true],rfl,SqL.of I,Z,aV,fun t g=>?_,fun t g mI=>?_⟩
  ·obtain⟨e,_,r⟩:=mQ t g;rw[r];rfl
  ·obtain⟨e,J,r⟩:=mQ t g;have lj:=Z t g;rw[r]at lj;refine⟨t.1,_,_,_,rfl,rfl,SqT.of lj,(show atI ((kk e).map kV) ((1:Nat):Int)=some (.int e.2) from Yr rfl),?_⟩;refine q (some e.2) H3 (ZqS (s:=e.1) J fun u hu=>?_) fC;have:kk u∈c.map (·.2):=by rw[k];exact Qd hu
   obtain⟨t',bB,e3⟩:=Qi.mp this;have:=mI t' bB;rw[e3,r]at this;exact this
theorem Pc(N:List Int):XZ N=lo N:=rfl
theorem Pb(N:List Int):WN N=up N:=rfl
theorem SK{E:List (Int×Option Str)}{N:List Int}{a:Int}(h:Win (hdE E) N (some a)):a∈N∧∃z,lk E a=some z∧hdE E a=some (cds z):=by
 obtain⟨d,x,b,_⟩:=h;refine⟨d,?_⟩;cases c:lk E a with
 | none=>unfold hdE at b;rw[c]at b;cases b
 | some z=>exact⟨z,rfl,by unfold hdE;rw[c];rfl⟩
def Ll(K:#[7])(n:Nat):Sp:=fun vs H Q _=>∃ (D l:Addr) (E:List (Int×Option Str)) (N:List Int),vs=[.ref D,.ref l]∧Hds H D E∧SqL K H l (N.map V.int)∧N.length≤60∧0<n∧N.length≤2 ^ (n-1)∧(∀m∈N,m∈E.map (·.1)) ∧
 ∀ (t:Addr) (k q:Int) (a:Hp),YU (hdE E) n N k q→H t=none→a t=some (.tup [.int k,.int q])→ZG H a→Q (.ref t) a
theorem Lk(T:Zt K mg ab U)(ba:Df P w K mg base 1 "_law_halves" ["_law_numbers"] (Wa K false))(J:Df P w K mg base 1 "_law_least" ["_law_heads_here", "_law_numbers"] (SM K))(aT:Df P w K mg base 1 "_law_alike" ["_law_one", "_law_other"] Wd) :
  ∀n:Nat,Df P w K mg base (n+1) "_law_first_play" ["_law_heads_here", "_law_numbers"] (Ll K n)
 | 0=>by
  refine T.t_l_first_play.df Va (fun vs H Q E h=>?_) (fun af f A outer s H vs Q E i h=>?_)
  ·obtain⟨D,l,E,N,rfl,_⟩:=h;rfl
  obtain⟨D,l,E,N,rfl,_,_,_,z,_⟩:=h;exact absurd z #[2]
 | n+1=>by
  have aJ:=Lk T ba J aT n;refine T.t_l_first_play.df Va (fun vs H Q E h=>?_) (fun af f A outer s H vs Q E i h=>?_)
  ·obtain⟨D,l,E,N,rfl,_⟩:=h;rfl
  obtain⟨D,l,g,N,rfl,j,hl,eD,_,bZ,cU,q⟩:=h;rw[Qaf]at bZ;refine⟨_,#[Ze,#[Z0,#[Zn,Xr,#[Zk,(Yv K),T.b.n_len,Qu,#[Za,‹1›,#[Zf]]],#[Zi],(Zp _)],#[Zj,#[Zr,#[YJ,#[Za,#[Zi],#[Za,#[Zi],#[Zf]]]]]],#[ZF]],#[Ze,#[Z2,#[ZB,ba,i,#[Za,‹1›,#[Zf]],#[5]],(@gL _ K _ _ _ 2 _ #[ZC,#[ZD,2,Va.nd],#[ZC,#[ZD,3,Va.nd],(@X6 _)]] #[5] #[5] #[5] #[5])],#[Ze,#[WT,4,5,Va.nd,#[Za,#[ZB,aJ,i,#[Za,‹0›,#[Za,‹2›,#[Zf]]],#[5]],#[Za,#[ZB,aJ,i,#[Za,‹0›,#[Za,‹3›,#[Zf]]],#[5]],#[Zf]]]],#[Ze,#[WT,6,7,Va.nd,#[Za,#[ZB,J,i,#[Za,‹0›,#[Za,‹2›,#[Zf]]],#[5]],#[Za,#[ZB,J,i,#[Za,‹0›,#[Za,‹3›,#[Zf]]],#[5]],#[Zf]]]],#[Ze,#[Z0,(@PW.pt _ _ _ #[Wo,#[Zn,Yb,‹6›,#[ZT],(Zp _)],(@Vs _ _ _ _ #[Zn,Yb,‹7›,#[ZT],(Zp _)])]),#[Zj,#[Zr,#[YJ,#[Za,#[ZI,YO,#[Zl,(ixT K),‹4›,#[Zi]],#[Zl,(ixT K),‹5›,#[Zi]]],#[Za,#[ZI,YO,#[Zl,(ixT K),‹4›,#[Zi]],#[Zl,(ixT K),‹5›,#[Zi]]],#[Zf]]]]]],#[ZF]],#[Zj,#[Zr,#[YJ,#[Za,#[ZI,YO,#[ZI,YO,#[Zl,(ixT K),‹4›,#[Zi]],#[Zl,(ixT K),‹5›,#[Zi]]],#[Zi]],#[Za,#[ZI,YO,#[ZI,YO,#[ZI,YO,#[Zl,(ixT K),‹4›,#[Zi]],#[Zl,(ixT K),‹5›,#[Zi]]],#[ZB,aT,i,#[Za,#[Zl,(ixG i),‹0›,‹6›],#[Za,#[Zl,(ixG i),‹0›,‹7›],#[Zf]]],#[5]]],#[Zi]],#[Zf]]]]]]]]]]],?_⟩;have fD:(((N.map V.int).length:Nat):Int)=(N.length:Int):=by rw[Qa]
  refine⟨_,rfl,l,_,rfl,.inl hl,_,_,rfl,rfl,_,rfl,YW (fun d=>?_) (fun d=>?_)⟩
  ·have am:N.length<2:=by have:=of_decide_eq_true d;rw[fD]at this;lia
   exact⟨(by show 2≤sizeLine;decide),fun t c=>q t 0 0 _ (.few am) c Zd (Zh c _)⟩
  have bU:2≤N.length:=by have:¬ ((N.length:Int)<2):=fun z=>d (decide_eq_true (by rw[fD];exact z));lia
  have fE:1≤n:=by
   cases n with
   | zero=>simp at bZ;lia
   | succ m=>lia
  have uH:2 ^ n=2*2 ^ (n-1):=by obtain⟨m,rfl⟩:∃m,n=m+1:=⟨n-1,by lia⟩;rw[QaW,Qaf];lia
  have L:(lo N).length≤2 ^ (n-1)∧(lo N).length≤60:=by unfold lo mid;rw[QA];lia
  have M:(up N).length≤2 ^ (n-1)∧(up N).length≤60:=by unfold up mid;rw[QO];lia
  have O:∀m∈lo N,m∈g.map (·.1):=fun m R=>cU m (QS R);have S:∀m∈up N,m∈g.map (·.1):=fun m R=>cU m (QV R);refine⟨_,rfl,l,N,rfl,hl,by lia,fun t f r H2 c hf iA zk bE W X s2 zl zm=>?_⟩;rw[Pc]at W;rw[Pb]at X;refine⟨t,_,rfl,SqL.of bE,rfl,_,_,rfl,_,_,rfl,rfl,?_⟩;refine⟨_,rfl,_,rfl,D,f,g,lo N,rfl,j.same s2,SqL.of W,L.2,fE,L.1,O,fun k k1 y H3 p1 jV h1 Y=>?_⟩;have fC:=s2.trans Y;refine⟨_,rfl,_,rfl,D,r,g,up N,rfl,j.same fC,SqL.of (Y _ _ X),M.2,fE,M.1,S,fun o k2 B H4 p2 BV h2 Z=>⟨_,_,rfl,?_⟩⟩;have uI:=fC.trans Z;have uJ:=Y.trans Z;refine⟨_,rfl,_,rfl,D,f,g,lo N,rfl,j.same uI,SqL.of (uJ _ _ W),L.2,O,fun C H5 w1 F=>?_⟩;have uK:=uI.trans F;have mR:=uJ.trans F;refine⟨_,rfl,_,rfl,D,r,g,up N,rfl,j.same uK,SqL.of (mR _ _ X),M.2,S,fun G I w2 s6=>⟨_,_,rfl,?_⟩⟩;have v:=uK.trans s6;have p:=s6 _ _ (F _ _ (Z _ _ h1));have u:=s6 _ _ (F _ _ h2);have x:(Win (hdE g) (lo N) none∨Win (hdE g) (up N) none)→∀t H',I t=none→H'=upd I t (.tup [.int (k1+k2),.int (y+B)])→Q (.ref t) H':=fun hw t H' c e=>by subst e;exact q t _ _ _ (.none bU p1 p2 hw) (v.free c) Zd (v.trans (Zh c _))
  have a10:atI [V.int k1,.int y] ((0:Nat):Int)=some (.int k1):=Yr rfl;have a11:atI [V.int k1,.int y] ((1:Nat):Int)=some (.int y):=Yr rfl;have a20:atI [V.int k2,.int B] ((0:Nat):Int)=some (.int k2):=Yr rfl;have a21:atI [V.int k2,.int B] ((1:Nat):Int)=some (.int B):=Yr rfl;cases C with
  | none=>refine⟨_,rfl,rfl,_,rfl,YI rfl ?_⟩;refine⟨_,rfl,k,_,_,_,rfl,rfl,SqT.of p,a10,_,rfl,o,_,_,_,rfl,rfl,SqT.of u,a20,_,_,rfl,rfl,_,rfl,k,_,_,_,rfl,rfl,SqT.of p,a11,_,rfl,o,_,_,_,rfl,rfl,SqT.of u,a21,_,_,rfl,rfl,(by show 2≤sizeLine;decide),fun t c=>x (.inl w1) t _ c rfl⟩
  | some a =>
  refine⟨_,rfl,rfl,_,rfl,YG (fun z=>nomatch z) ?_⟩;cases G with
  | none=>refine⟨_,rfl,rfl,_,rfl,YI rfl ?_⟩;refine⟨_,rfl,k,_,_,_,rfl,rfl,SqT.of p,a10,_,rfl,o,_,_,_,rfl,rfl,SqT.of u,a20,_,_,rfl,rfl,_,rfl,k,_,_,_,rfl,rfl,SqT.of p,a11,_,rfl,o,_,_,_,rfl,rfl,SqT.of u,a21,_,_,rfl,rfl,(by show 2≤sizeLine;decide),fun t c=>x (.inr w2) t _ c rfl⟩
  | some b =>
  refine⟨_,rfl,rfl,_,rfl,YG (fun z=>nomatch z) ?_⟩;obtain⟨ma,za,ea,ga⟩:=SK w1;obtain⟨mb,zb,eb,gb⟩:=SK w2;have g8:=j.same v;have C:=UW j.nd (O a ma);have G:=UW j.nd (S b mb);rw[ea]at C;rw[eb]at G;have da:ZR I D (kV (.inl a)) (some (.str za)):=by rw[show some (V.str za)=Z5 (kvH g) (.inl a) from C.symm];exact ZR.k g8.at'
  have db:ZR I D (kV (.inl b)) (some (.str zb)):=by rw[show some (V.str zb)=Z5 (kvH g) (.inl b) from G.symm];exact ZR.k g8.at'
  refine⟨_,rfl,k,_,_,_,rfl,rfl,SqT.of p,a10,_,rfl,o,_,_,_,rfl,rfl,SqT.of u,a20,_,_,rfl,rfl,_,_,rfl,rfl,_,rfl,k,_,_,_,rfl,rfl,SqT.of p,a11,_,rfl,o,_,_,_,rfl,rfl,SqT.of u,a21,_,_,rfl,rfl,_,rfl,_,rfl,D,_,rfl,da,_,rfl,_,rfl,D,_,rfl,db,za,zb,rfl,(j.lk ea).1,(j.lk eb).1,_,_,rfl,rfl,_,_,rfl,rfl,(by show 2≤sizeLine;decide),fun t c=>?_⟩;exact q t _ _ _ (.both bU p1 p2 w1 w2 ga gb) (v.free c) Zd (v.trans (Zh c _))
noncomputable abbrev ZA:=Int×Addr×List Str×Nat
noncomputable def kvR(L:List ZA):List (Key×V):=L.map fun e=>(.inl e.1,.ref e.2.1)
noncomputable def kvG(L:List ZA):List (Key×V):=L.map fun e=>(.inl e.1,.int (e.2.2.2:Int))
noncomputable def Y6(ra ga:Addr)(nb li lo:Int):List (Key×V):=[(.inr "rows",.ref ra),(.inr "gone",.ref ga),(.inr "number",.int nb),(.inr "likenings",.int li),(.inr "looks",.int lo)]
theorem Xu(ra ga:Addr)(nb li lo:Int):Z5 (Y6 ra ga nb li lo) (.inr "rows")=some (.ref ra):=by simp[Z5,Y6]
theorem Zsq:¬ (("rows" : Str) = "gone"):=by ac_rfl
theorem Lj:¬ (("rows" : Str) = "number"):=by ac_rfl
theorem Zsr:¬ (("gone" : Str) = "number"):=by ac_rfl
theorem Li:¬ (("rows" : Str) = "likenings"):=by ac_rfl
theorem Lh:¬ (("gone" : Str) = "likenings"):=by ac_rfl
theorem Lg:¬ (("number" : Str) = "likenings"):=by ac_rfl
theorem Lf:¬ (("rows" : Str) = "looks"):=by ac_rfl
theorem Le:¬ (("gone" : Str) = "looks"):=by ac_rfl
theorem Ld:¬ (("number" : Str) = "looks"):=by ac_rfl
theorem Pa:¬ (("likenings" : Str) = "looks"):=by ac_rfl
theorem WK{k k':Key}{v:V}{r:List (Key×V)}(h:¬ k=k'):Z5 ((k,v)::r) k'=Z5 r k':=Vh h
theorem SJ{k:Key}{v:V}{r:List (Key×V)}:Z5 ((k,v)::r) k=some v:=Vi rfl
theorem WJ(ra ga:Addr)(nb li lo:Int):Z5 (Y6 ra ga nb li lo) (.inr "gone")=some (.ref ga):=by unfold Y6;rw[WK (fun z=>Zsq (Sum.inr.inj z)),SJ]
theorem Lc(ra ga:Addr)(nb li lo:Int):Z5 (Y6 ra ga nb li lo) (.inr "number")=some (.int nb):=by unfold Y6;rw[WK (fun z=>Lj (Sum.inr.inj z)),WK (fun z=>Zsr (Sum.inr.inj z)),SJ]
theorem Lb(ra ga:Addr)(nb li lo:Int):Z5 (Y6 ra ga nb li lo) (.inr "likenings")=some (.int li):=by unfold Y6;rw[WK (fun z=>Li (Sum.inr.inj z)),WK (fun z=>Lh (Sum.inr.inj z)),WK (fun z=>Lg (Sum.inr.inj z)),SJ]
theorem La(ra ga:Addr)(nb li lo:Int):Z5 (Y6 ra ga nb li lo) (.inr "looks")=some (.int lo):=by unfold Y6;rw[WK (fun z=>Lf (Sum.inr.inj z)),WK (fun z=>Le (Sum.inr.inj z)),WK (fun z=>Ld (Sum.inr.inj z)),WK (fun z=>Pa (Sum.inr.inj z)),SJ]
structure Own (H:Hp) (o ra ga:Addr) (L:List ZA) (nb li lo:Int):Prop where
 at':H o=some (.dK (Y6 ra ga nb li lo))
 rows:H ra=some (.dK (kvR L))
 gone:H ga=some (.dK (kvG L))
 nd:(L.map (·.1)).Nodup
 few:L.length≤60
 lst:∀e∈L,H e.2.1=some (.lst (e.2.2.1.map V.str))∧e.2.2.1.length≤100∧e.2.2.2≤e.2.2.1.length∧∀s∈e.2.2.1,s.length≤1000∧AZ s
theorem Own.same{H H':Hp}{o ra ga:Addr}{L:List ZA}{nb li lo:Int}(h:Own H o ra ga L nb li lo)(s:ZG H H'):Own H' o ra ga L nb li lo :=
 ⟨s _ _ h.at',s _ _ h.rows,s _ _ h.gone,h.nd,h.few,fun e c=>let ⟨a,b⟩:=h.lst e c;⟨s _ _ a,b⟩⟩
theorem SI(L:List ZA):(kvR L).map (·.1)=(L.map (·.1)).map (Sum.inl:Int→Key):=by unfold kvR;rw[Qg,Qg];rfl
theorem ZnT(L:List ZA):(kvG L).map (·.1)=(L.map (·.1)).map (Sum.inl:Int→Key):=by unfold kvG;rw[Qg,Qg];rfl
theorem O9{ns:List Int}(h:ns.Nodup):(ns.map (Sum.inl:Int→Key)).Nodup:=QaV _ (fun a b c z=>c (Sum.inl.inj z)) h
theorem UV{L:List ZA}(nd:(L.map (·.1)).Nodup){e:ZA}(he:e∈L):Z5 (kvR L) (.inl e.1)=some (.ref e.2.1):=Tn (by rw[SI];exact O9 nd) (Qd (f:=fun e:ZA=>((.inl e.1:Key),V.ref e.2.1)) he)
theorem VA{L:List ZA}(nd:(L.map (·.1)).Nodup){e:ZA}(he:e∈L):Z5 (kvG L) (.inl e.1)=some (.int (e.2.2.2:Int)):=Tn (by rw[ZnT];exact O9 nd) (Qd (f:=fun e:ZA=>((.inl e.1:Key),V.int (e.2.2.2:Int))) he)
theorem ZR.k'{H:Hp}{a:Addr}{kvs:List (Key×V)}{k:Key}{r:Option V}(e:H a=some (.dK kvs))(h:Z5 kvs k=r):ZR H a (kV k) r:=by rw[← h];exact ZR.k e
theorem Zo9(ss:List Str)(g:Nat)(h:g≤ss.length):atI (ss.map V.str++[V.non]) (g:Int)=some (oV ss[g]?):=by
 refine Yr ?_;by_cases a:g<ss.length
 ·rw[QK (by rw[Qa];exact a),Qo,Qb a];rfl
 ·have e:g=ss.length:=by lia
  rw[QL (by rw[Qa];lia),Qa,e,QaE,QN (Qh _)];rfl
structure O8 (L:List ZA) (E:List (Int×Option Str)):Prop where
 per:(E.map (·.1)).Perm (L.map (·.1))
 up:(E.map (·.1)).Pairwise (·<·)
 hd:∀e∈L,(e.1,e.2.2.1[e.2.2.2]?)∈E
def SH:Sp:=fun vs H Q _=>∃ (o ra ga:Addr) (L:List ZA) (nb li lo:Int),vs=[.ref o]∧Own H o ra ga L nb li lo ∧
 ∀ (D:Addr) (E:List (Int×Option Str)) (a:Hp),H D=none→Hds a D E→O8 L E→ZG H a→Q (.ref D) a
theorem Zl5(T:Zt K mg ab U):Df P w K mg base 1 "_law_heads" ["_law_own"] SH:=by
 refine T.t_l_heads.df PL (fun vs H Q E h=>?_) (fun af f A outer s H vs Q E u h=>?_)
 ·obtain⟨o,O,ga,L,nb,li,lo,rfl,_⟩:=h;rfl
 obtain⟨o,O,ga,L,nb,li,lo,rfl,m,q⟩:=h;refine⟨_,#[Ze,#[Zw,1,PL.nd,#[3],(@Tp _ _)],#[Ze,#[XR,PassesOwn.never,#[iL,K,#[Zk,Vf,T.b.n_sorted,boot_sorted,#[Za,#[Zl,(ixG u),‹0›,#[Zz]],#[Zf]]]],#[ZD,2,PL.nd],#[Zj,#[Z2,#[Zl,(ixL K),#[ZI,VP,#[Zl,(ixG u),#[Zl,(ixG u),‹0›,#[Zz]],‹2›],#[YH,#[Za,#[ZT],#[Zf]]]],#[Zl,(ixG u),#[Zl,(ixG u),‹0›,#[Zz]],‹2›]],#[Ys,‹1›,‹2›,(X9 u)]]]],#[Zj,#[Zr,‹1›]]]],?_⟩;refine fun D R=>?_;have S:=Zh R (.dK []);have W:(upd H D (.dK [])) D=some (.dK []):=Zd;generalize upd H D (.dK [])=H1 at S W ⊢;have aS:=m.same S;have bW:=m.few;refine⟨_,rfl,o,_,rfl,ZR.k' (k:=.inr "rows") aS.at' (Xu ..),O,_,L.map (·.1),rfl,aS.rows,SI L,by rw[Qa];lia,fun l c X B aM=>?_⟩;have s2:=S.trans (Zh X (.lst (c.map V.int)));have Y:(upd H1 l (.lst (c.map V.int))) l=some (.lst (c.map V.int)):=Zd;have bn:=Zh X (.lst (c.map V.int)) _ _ W;have zn:D≠l:=Zb W X;generalize upd H1 l (.lst (c.map V.int))=H2 at s2 Y bn ⊢;have Z:c.Nodup:=B.nodup_iff.mpr m.nd;have eI:c.length=L.length:=by rw[B.length_eq,Qa]
 refine⟨l,rfl,⟨_,SqL.of Y⟩,?_⟩;refine TM (K:=K) (a:=l) (xs:=c.map V.int) (fun i G g=>∃ (E:List (Int×Option Str)) (v2:Option V),G=[some (.ref o),some (.ref D),v2]∧g D=some (.dK (kvH E))∧E.map (·.1)=c.take i∧(∀e∈L,e.1∈c.take i→(e.1,e.2.2.1[e.2.2.2]?)∈E)∧(∀x∈E,∃e∈L,x=(e.1,e.2.2.1[e.2.2.2]?))∧(∀b x,H b=some x→g b=some x)∧g l=some (.lst (c.map V.int))) ⟨[],_,rfl,bn,rfl,(fun e _ h=>by simp at h),(fun x h=>by cases h),s2,Y⟩ (fun i G g _ hq=>by obtain⟨_,_,_,_,_,_,_,_,h⟩:=hq;exact SqL.of h) ?_ ?_
 ·rintro i x G g hx ⟨r,v2,rfl,gM,p,I,rG,J,cL⟩;rw[Qo]at hx;cases t:c[i]? with
  | none=>rw[t]at hx;cases hx
  | some n =>
  rw[t]at hx;cases hx;have bv:i<c.length:=(Qf.mp t).1;obtain⟨e,d,rfl⟩:=Qi.mp (B.mem_iff.mp (Qz t));have M:=m.same J;obtain⟨la,dS,lg,gc⟩:=M.lst e d;refine⟨_,rfl,o,_,rfl,ZR.k' (k:=.inr "rows") M.at' (Xu ..),_,rfl,O,_,rfl,ZR.k' (k:=.inl e.1) M.rows (UV m.nd d),(by show 1≤sizeLine;decide),fun c1 zo=>?_⟩;have s4:=Zh zo (.lst [.non]);refine⟨e.2.1,c1,_,_,rfl,rfl,s4 _ _ la,Zd,(by rw[Qa];exact Qam (ZE (by simp;lia))),fun c2 eZ=>?_⟩;have C:=s4.trans (Zh eZ (.lst (e.2.2.1.map V.str++[.non])));have pV:(upd (upd g c1 (.lst [.non])) c2 (.lst (e.2.2.1.map V.str++[.non]))) c2=some (.lst (e.2.2.1.map V.str++[.non])):=Zd;generalize upd (upd g c1 (.lst [.non])) c2 (.lst (e.2.2.1.map V.str++[.non]))=H5 at C pV ⊢;have gf:=M.same C;have rH:=C _ _ gM;refine⟨_,rfl,o,_,rfl,ZR.k' (k:=.inr "gone") gf.at' (WJ ..),_,rfl,ga,_,rfl,ZR.k' (k:=.inl e.1) gf.gone (VA m.nd d),c2,_,_,_,rfl,rfl,SqL.of pV,Zo9 _ _ lg,_,rfl,_,rfl,D,_,rfl,YD.k (k:=.inl e.1) rH ?_,?_⟩
  ·have:=congrArg List.length p;rw[Qa,QA]at this;unfold kvH;rw[Qa];exact ZE #[2]
  have rJ:Z5 (kvH r) (.inl e.1)=none:=by
   cases hv:Z5 (kvH r) (.inl e.1) with
   | none=>rfl
   | some v =>
    obtain⟨y,hy,z⟩:=Qi.mp (Wg hv);injection z with z _;have N:e.1∈c.take i:=by rw[← p,← Sum.inl.inj z];exact Qd (f:=fun x:Int×Option Str=>x.1) hy
    obtain⟨j,hj⟩:=List.mem_iff_getElem?.mp N;have rm:=(Qf.mp hj).1;rw[QA]at rm;rw[List.getElem?_take_of_lt #[2]]at hj;have:=(List.getElem?_inj #[2] Z).mp (hj.trans t.symm);lia
  rw[Wz _ rJ];have zp:kvH r++[((.inl e.1:Key),oV e.2.2.1[e.2.2.2]?)]=kvH (r++[(e.1,e.2.2.1[e.2.2.2]?)]):=by unfold kvH;rw[Qe];rfl
  rw[zp];refine⟨r++[(e.1,e.2.2.1[e.2.2.2]?)],_,rfl,Zd,?_,fun e' aD hm=>?_,fun x hx=>?_,fun b x F=>?_,?_⟩
  ·rw[Qe,p,QJ,t];rfl
  ·rw[QJ,t]at hm;rcases Qm.mp hm with hm|hm
   ·exact QF _ (I e' aD hm)
   ·have N:e'.1=e.1:=by simpa using hm
    have h2:e'=e:=by
     obtain⟨a,ha⟩:=List.mem_iff_getElem?.mp d;obtain⟨b,F⟩:=List.mem_iff_getElem?.mp aD;have e1:(L.map (·.1))[a]? = some e.1:=by rw[Qo,ha];rfl
     have e2:(L.map (·.1))[b]? = some e.1:=by rw[Qo,F,← N];rfl
     have:=(List.getElem?_inj (by exact(Qf.mp e1).1) m.nd).mp (e1.trans e2.symm);rw[this,F]at ha;exact Qp ha
    rw[h2];exact Qr _ #[4]
  ·rcases Qm.mp hx with hx|hx
   ·exact rG x hx
   ·exact⟨e,d,by simpa using hx⟩
  ·rw[Zc (Zb F R)];exact C _ _ (J b x F)
  ·rw[Zc zn.symm];exact C _ _ cL
 ·rintro G g ⟨r,v2,rfl,gM,p,I,rG,J,cL⟩;rw[Qa,Qw (Qh _)]at p I;refine⟨_,rfl,q D r g R ⟨gM,by rw[p];exact Z,fun x hx s hs=>?_⟩ ⟨by rw[p];exact B,?_,fun e d=>I e d (B.mem_iff.mpr (Qd d))⟩ J⟩
  ·obtain⟨e,d,rfl⟩:=rG x hx;exact(m.lst e d).2.2.2 s (Qz hs)
  ·rw[p];exact List.Pairwise.imp₂ (fun a b N h2=>by lia) aM Z
noncomputable def hdL(L:List ZA):Hd:=fun n=>((L.find? fun e=>decide (e.1=n)).bind fun e=>e.2.2.1[e.2.2.2]?).map cds
theorem SG:∀ {L:List ZA},(L.map (·.1)).Nodup→∀ {e:ZA},e∈L→hdL L e.1=(e.2.2.1[e.2.2.2]?).map cds
 | [],_,_,h=>by cases h
 | x::r,nd,e,h=>by
  rw[Qk,QR]at nd;unfold hdL;rw[Qac];rcases QG.mp h with rfl|h
  ·rw[decide_eq_true rfl];rfl
  ·rw[decide_eq_false (fun z:x.1=e.1=>nd.1 (by rw[z];exact Qd (f:=fun x:ZA=>x.1) h))];exact SG nd.2 h
theorem O8.same{L:List ZA}{E:List (Int×Option Str)}(h:O8 L E)(nd:(L.map (·.1)).Nodup):∀n∈L.map (·.1),hdL L n=hdE E n:=fun n b=>by obtain⟨e,a,rfl⟩:=Qi.mp b;rw[SG nd a];unfold hdE;rw[SO (h.per.nodup_iff.mpr nd) (h.hd e a)]
theorem Win.perm{hd:Hd}{N M:List Int}{v:Option Int}(h:Win hd N v)(p:N.Perm M):Win hd M v:=by
 cases v with
 | none=>exact fun n c=>h n (p.mem_iff.mpr c)
 | some a=>obtain⟨d,x,e,f⟩:=h;exact⟨p.mem_iff.mp d,x,e,fun b g=>f b (p.mem_iff.mpr g)⟩
theorem YU.congr{hd c:Hd}:∀ {n:Nat} {N:List Int} {k q:Int},YU hd n N k q→(∀m∈N,c m=hd m)→YU c n N k q
 | _,_,_,_,.few h,_=>.few h
 | _,N,_,_,.none h2 a b hw,h=>by have h1:∀m∈lo N,c m=hd m:=fun m hm=>h m (QS hm);have d:∀m∈up N,c m=hd m:=fun m hm=>h m (QV hm);exact .none h2 (a.congr h1) (b.congr d) (hw.imp (fun w=>w.congr h1) (fun w=>w.congr d))
 | _,N,_,_,.both h2 a b e f g i,h=>by have h1:∀m∈lo N,c m=hd m:=fun m hm=>h m (QS hm);have d:∀m∈up N,c m=hd m:=fun m hm=>h m (QV hm);exact .both h2 (a.congr h1) (b.congr d) (e.congr h1) (f.congr d) ((h1 _ e.1).trans g) ((d _ f.1).trans i)
theorem SF{A B:List Int}(p:A.Perm B)(ha:A.Pairwise (·<·))(hb:B.Pairwise (·<·)):A=B:=List.Perm.eq_of_pairwise (fun a b _ _ h1 h2=>by lia) ha hb p
theorem SE{A:List Int}(h:A.Pairwise (·≤·))(nd:A.Nodup):A.Pairwise (·<·):=List.Pairwise.imp₂ (fun a b h1 h2=>by lia) h nd
def K9(L:List ZA)(H:Hp)(x:V):Prop:=(x=.non∧Win (hdL L) (L.map (·.1)) none)∨∃ (t:Addr) (e:ZA) (z:Str),x=.ref t∧e∈L∧e.2.2.1[e.2.2.2]? = some z∧H t=some (.tup [.int e.1,.int (e.2.2.2:Int),.str z])∧Win (hdL L) (L.map (·.1)) (some e.1)
theorem O7(E:List (Int×Option Str)):(kvH E).map (·.1)=(E.map (·.1)).map (Sum.inl:Int→Key):=by unfold kvH;rw[Qg,Qg];rfl
def K8:Sp:=fun vs H Q _=>∃ (o ra ga:Addr) (L:List ZA) (nb li lo:Int),vs=[.ref o]∧Own H o ra ga L nb li lo∧∀ (x:V) (H':Hp),K9 L H' x→ZG H H'→Q x H'
theorem Zkm(T:Zt K mg ab U)(R:Df P w K mg base 1 "_law_heads" ["_law_own"] SH)(S:Df P w K mg base 1 "_law_least" ["_law_heads_here", "_law_numbers"] (SM K)):Df P w K mg base 2 "_law_coming" ["_law_own"] K8:=by
 refine T.t_l_coming.df PH (fun W H Q E h=>?_) (fun af f A outer s H W Q E g h=>?_)
 ·obtain⟨o,G,u,L,nb,I,lo,rfl,_⟩:=h;rfl
 obtain⟨o,G,u,L,nb,I,lo,rfl,b,q⟩:=h;refine⟨_,#[Ze,#[Zw,1,PH.nd,#[3],#[ZB,R,g,#[Za,‹0›,#[Zf]],#[5]]],#[Ze,#[Zw,2,PH.nd,#[3],#[ZB,S,g,#[Za,‹1›,#[Za,#[Zk,Vf,T.b.n_sorted,boot_sorted,#[Za,‹1›,#[Zf]]],#[Zf]]],#[5]]],#[Zj,#[Zr,#[Xk,#[Zn,Yb,‹2›,#[ZT],(Zp _)],#[ZT],#[YJ,#[Za,‹2›,#[Za,#[Zl,(ixG g),#[Zl,(ixG g),‹0›,#[Zz]],‹2›],#[Za,#[Zl,(ixG g),‹1›,‹2›],#[Zf]]]]]]]]]],?_⟩;refine⟨_,rfl,o,G,u,L,nb,I,lo,rfl,b,fun D i J hD j c X=>?_⟩;have uL:i.length=L.length:=by have:=c.per.length_eq;rw[Qa,Qa]at this;exact this
 have bW:=b.few;refine⟨_,rfl,_,rfl,D,_,i.map (·.1),rfl,j.at',O7 i,by rw[Qa];lia,fun l d Y p aM=>?_⟩;have r:=Zh Y (.lst (d.map V.int));have M:(upd J l (.lst (d.map V.int))) l=some (.lst (d.map V.int)):=Zd;generalize upd J l (.lst (d.map V.int))=H2 at r M ⊢;have Z:=X.trans r;have eI:d.length≤60:=by rw[p.length_eq,Qa];lia
 refine⟨D,l,i,d,rfl,j.same r,SqL.of M,eI,fun n hn=>p.mem_iff.mp hn,fun v H3 hw N=>?_⟩;have y:=Z.trans N;have uM:=(j.same r).same N;have B:Win (hdL L) (L.map (·.1)) v:=(hw.perm (p.trans c.per)).congr (c.same b.nd);cases v with
 | none=>exact⟨_,rfl,rfl,_,rfl,YI rfl (q _ H3 (.inl ⟨rfl,B⟩) y)⟩
 | some a =>
  obtain⟨e,m,ea⟩:=Qi.mp B.1;have lV:e.1=a:=ea;subst lV;obtain⟨_,x,C,_⟩:=B;rw[SG b.nd m]at C;cases F:e.2.2.1[e.2.2.2]? with
  | none=>rw[F]at C;cases C
  | some z =>
  have hv:Z5 (kvH i) (.inl e.1)=some (.str z):=by rw[UW j.nd (c.per.mem_iff.mpr (Qd m)),SO j.nd (c.hd e m),F];rfl
  have O:=b.same y;refine⟨_,rfl,rfl,_,rfl,YG (fun z=>nomatch z) ⟨_,rfl,_,rfl,o,_,rfl,ZR.k' (k:=.inr "gone") O.at' (WJ ..),_,rfl,u,_,rfl,ZR.k' (k:=.inl e.1) O.gone (VA b.nd m),_,rfl,_,rfl,D,_,rfl,ZR.k' (k:=.inl e.1) uM.at' hv,(by show 3≤sizeLine;decide),fun t ht=>?_⟩⟩;refine q _ _ (.inr ⟨t,e,z,rfl,m,F,Zd,?_⟩) (y.trans (Zh ht _));exact(hw.perm (p.trans c.per)).congr (c.same b.nd)
theorem K7(ra ga:Addr)(nb li lo v:Int):YY (Y6 ra ga nb li lo) (.inr "likenings") (.int v)=Y6 ra ga nb v lo:=by unfold YY Y6;have a1:¬ (("looks" : Str) = "likenings"):=fun h=>Pa h.symm;simp[Li,Lh,Lg,a1]
theorem K6(ra ga:Addr)(nb li lo v:Int):YY (Y6 ra ga nb li lo) (.inr "looks") (.int v)=Y6 ra ga nb li v:=by unfold YY Y6;simp[Lf,Le,Ld,Pa]
def O6:Sp:=fun vs H Q _=>∃ (o ra ga:Addr) (L:List ZA) (nb li lo:Int),vs=[.ref o]∧Own H o ra ga L nb li lo∧(L.map (·.1)).Pairwise (·<·)∧(∀e∈L,e.2.1≠o) ∧
 ∀ (k b:Int) (a:Hp),YU (hdL L) 8 (L.map (·.1)) k b→Own a o ra ga L nb (li+k) (lo+b)→But o H a→Q .non a
theorem Own.set{H:Hp}{o ra ga:Addr}{L:List ZA}{nb li lo li' lo':Int}(h:Own H o ra ga L nb li lo)(d:∀e∈L,e.2.1≠o)(f:ra≠o)(g:ga≠o):Own (upd H o (.dK (Y6 ra ga nb li' lo'))) o ra ga L nb li' lo' :=
 ⟨Zd,by rw[Zc f];exact h.rows,by rw[Zc g];exact h.gone,h.nd,h.few,fun e c=>let ⟨a,b⟩:=h.lst e c;⟨by rw[Zc (d e c)];exact a,b⟩⟩
theorem Own.ne{H:Hp}{o ra ga:Addr}{L:List ZA}{nb li lo:Int}(h:Own H o ra ga L nb li lo):ra≠o∧ga≠o:=by
 constructor
 ·rintro rfl;have:=h.rows.symm.trans h.at';injection this with this;injection this with this;cases L with
  | nil=>cases this
  | cons e r=>unfold kvR Y6 at this;injection this with this _;injection this with this _;cases this
 ·rintro rfl;have:=h.gone.symm.trans h.at';injection this with this;injection this with this;cases L with
  | nil=>cases this
  | cons e r=>unfold kvG Y6 at this;injection this with this _;injection this with this _;cases this
theorem Znw(T:Zt K mg ab U)(Y:Df P w K mg base 1 "_law_heads" ["_law_own"] SH)(Z:Df P w K mg base 9 "_law_first_play" ["_law_heads_here", "_law_numbers"] (Ll K 8)):Df P w K mg base 10 "_law_play" ["_law_own"] O6:=by
 refine T.t_l_play.df Ta (fun vs H Q E h=>?_) (fun af f A outer s H vs Q E d h=>?_)
 ·obtain⟨o,e,g,L,nb,a,lo,rfl,_⟩:=h;rfl
 obtain⟨o,e,g,L,nb,a,lo,rfl,i,aI,B,q⟩:=h;refine⟨_,#[Ze,#[Zw,1,Ta.nd,#[3],#[ZB,Y,d,#[Za,‹0›,#[Zf]],#[5]]],#[Ze,#[Z2,#[ZB,Z,d,#[Za,‹1›,#[Za,#[Zk,Vf,T.b.n_sorted,boot_sorted,#[Za,‹1›,#[Zf]]],#[Zf]]],#[5]],#[gT,K,2,#[ZC,#[ZD,2,Ta.nd],#[ZC,#[ZD,3,Ta.nd],(@X6 _)]]]],#[Ze,#[Z2,#[ZI,YO,#[Zl,(ixG d),‹0›,#[Zz]],‹2›],#[Ys,‹0›,#[Zz],(X9 d)]],#[Zj,#[Z2,#[ZI,YO,#[Zl,(ixG d),‹0›,#[Zz]],‹3›],#[Ys,‹0›,#[Zz],(X9 d)]]]]]],?_⟩;refine⟨_,rfl,o,e,g,L,nb,a,lo,rfl,i,fun D j C hD F r s1=>?_⟩;have uL:j.length=L.length:=by have:=r.per.length_eq;rw[Qa,Qa]at this;exact this
 have bW:=i.few;refine⟨_,rfl,_,rfl,D,_,j.map (·.1),rfl,F.at',O7 j,by rw[Qa];lia,fun l c hl u aM=>?_⟩;have v:=Zh hl (.lst (c.map V.int));have G:(upd C l (.lst (c.map V.int))) l=some (.lst (c.map V.int)):=Zd;generalize upd C l (.lst (c.map V.int))=H2 at v G ⊢;have s2:=s1.trans v;have I:=u.trans r.per;have J:c=L.map (·.1):=SF I (SE aM (I.nodup_iff.mpr i.nd)) aI;have M:c.length≤60:=by rw[u.length_eq,Qa];lia
 refine⟨D,l,j,c,rfl,F.same v,SqL.of G,M,by decide,Qv M #[6],fun n hn=>u.mem_iff.mp hn,fun t k N O bu ht lj s3=>?_⟩;refine⟨t,_,rfl,SqT.of lj,rfl,_,_,rfl,_,_,rfl,rfl,?_⟩;have R:=s2.trans s3;have y:=i.same R;obtain⟨S,W⟩:=i.ne;have i4:(Y6 e g nb a lo).length<sizeLine:=ZE (by show 5≤1000;decide);refine⟨_,rfl,o,_,rfl,ZR.k' (k:=.inr "likenings") y.at' (Lb ..),_,rfl,_,_,rfl,rfl,_,rfl,o,_,rfl,YD.k (k:=.inr "likenings") y.at' i4,?_⟩;rw[K7];have p:=y.set (li':=a+k) (lo':=lo) B S W;have X:But o H (upd O o (.dK (Y6 e g nb (a+k) lo))):=fun b x z n=>by rw[Zc n];exact R b x z
 generalize upd O o (.dK (Y6 e g nb (a+k) lo))=H4 at p X ⊢;have uN:(Y6 e g nb (a+k) lo).length<sizeLine:=ZE (by show 5≤1000;decide);refine⟨_,rfl,o,_,rfl,ZR.k' (k:=.inr "looks") p.at' (La ..),_,rfl,_,_,rfl,rfl,_,rfl,o,_,rfl,YD.k (k:=.inr "looks") p.at' uN,?_⟩;rw[K6];refine q k N _ ?_ (p.set (li':=a+k) (lo':=lo+N) B S W) (fun b x z n=>by rw[Zc n];exact X b x z n);rw[← J];exact bu.congr fun m hm=>r.same i.nd m (by rw[← J];exact hm)
noncomputable def YC(L:List ZA):List Int:=L.map fun e=>(e.2.2.1.length:Int)-(e.2.2.2:Int)
theorem Own.ne2{H:Hp}{o ra ga:Addr}{L:List ZA}{nb li lo:Int}(h:Own H o ra ga L nb li lo)(hl:L≠[]):ga≠ra:=by
 rintro rfl;have:=h.rows.symm.trans h.gone;injection this with this;injection this with this;cases L with
 | nil=>exact hl rfl
 | cons e r=>unfold kvR kvG at this;injection this with this _;injection this with _ this;cases this
theorem Zjq:([.inr "rows",.inr "gone",.inr "number",.inr "likenings",.inr "looks"]:List Key).Nodup:=by ac_rfl
structure Wu (H:Hp) (r:Addr) (rs:List (Addr×List Str)):Prop where
 at':H r=some (.lst (rs.map fun x=>V.ref x.1))
 few:rs.length≤60
 lst:∀x∈rs,H x.1=some (.lst (x.2.map V.str))∧x.2.length≤100∧∀s∈x.2,s.length≤1000∧AZ s
theorem Wu.same{H H':Hp}{r:Addr}{c:List (Addr×List Str)}(h:Wu H r c)(s:ZG H H'):Wu H' r c:=⟨s _ _ h.at',h.few,fun x hx=>let ⟨a,b⟩:=h.lst x hx;⟨s _ _ a,b⟩⟩
def SD(L:List ZA)(a:List (Addr×List Str)):Prop:=L.map (·.1)=Yg 0 a.length∧L.map (fun e=>e.2.2)=a.map fun x=>(x.2,0)
theorem K5(n:Nat):(Yg 0 n).Pairwise (·<·):=by unfold Yg;exact QaV _ (fun a b h=>by lia) (List.pairwise_lt_range)
def Zn2:Sp:=fun vs H Q _=>∃ (r:Addr) (a:List (Addr×List Str)),vs=[.ref r]∧Wu H r a ∧
 ∀ (o b c:Addr) (L:List ZA) (k f:Int) (d:Hp),H o=none→H b=none→H c=none→c≠b→(∀e∈L,H e.2.1=none∧e.2.1≠o)→SD L a→Own d o b c L (a.length:Int) k f→YU (hdL L) 8 (L.map (·.1)) k f→ZG H d→Q (.ref o) d
theorem ZlQ(T:Zt K mg ab U)(br:Df P w K mg base 10 "_law_play" ["_law_own"] O6):Df P w K mg base 11 "_law_world" ["_law_rows_here"] Zn2:=by
 refine T.t_l_world.df Tb (fun vs H Q E h=>?_) (fun af f A outer s H vs Q E F h=>?_)
 ·obtain⟨r,l,rfl,_⟩:=h;rfl
 obtain⟨r,l,rfl,G,q⟩:=h;refine⟨_,#[Ze,#[Zw,1,Tb.nd,#[3],(@Zo8 _ _ _ _ _ #[VJ,#[Zz],(@Tp _ _),#[VJ,#[Zz],(@Tp _ _),#[VJ,#[Zz],#[Zk,(Yv K),T.b.n_len,Qu,#[Za,‹0›,#[Zf]]],#[VJ,#[Zz],#[Zi],#[VJ,#[Zz],#[Zi],(@ZpE _ _)]]]]] rfl rfl (by intro z;cases z) (by show 5≤15;decide))],#[Ze,#[XR,PassesOwn.never,#[iE,K,T.b.n_enumerate,#[Za,‹0›,#[Zf]]],#[gT,K,2,#[ZC,#[ZD,2,Tb.nd],#[ZC,#[ZD,3,Tb.nd],(@X6 _)]]],#[Ze,#[Z2,#[Xq,(Vk K),T.b.n_list,boot_list,#[Za,‹3›,#[Zf]]],#[Ys,#[Zl,(ixG F),‹1›,#[Zz]],‹2›,(X9 F)]],#[Zj,#[Z2,#[Zi],#[Ys,#[Zl,(ixG F),‹1›,#[Zz]],‹2›,(X9 F)]]]]],#[Ze,#[Yy,#[ZB,br,F,#[Za,‹1›,#[Zf]],#[5]]],#[Zj,#[Zr,‹1›]]]]],?_⟩;refine fun o S=>?_;have W:=Zh S (.dK []);have X:(upd H o (.dK [])) o=some (.dK []):=Zd;generalize upd H o (.dK [])=H1 at W X ⊢;refine fun d jW=>?_;have I:=Zh jW (.dK []);have mM:(upd H1 d (.dK [])) d=some (.dK []):=Zd;have mT:d≠o:=(Zb X jW).symm;generalize upd H1 d (.dK [])=H2 at I mM ⊢;refine fun g Y=>?_;have Z:=Zh Y (.dK []);have uO:(upd H2 g (.dK [])) g=some (.dK []):=Zd;have B:g≠d:=(Zb mM Y).symm;have uP:g≠o:=(Zb (I _ _ X) Y).symm;generalize upd H2 g (.dK [])=H3 at Z uO ⊢;have s3:ZG H H3:=(W.trans I).trans Z;have pW:H d=none:=W.free jW;have pX:H g=none:=(W.trans I).free Y;have fc:=(I.trans Z) _ _ X;have zr:=Z _ _ mM;have zt:∀nb:Int,Wi [] (Y6 d g nb 0 0)=Y6 d g nb 0 0:=fun nb=>(MI (Y6 d g nb 0 0) [] (show ((([]:List (Key×V))++Y6 d g nb 0 0).map fun kv=>kv.1).Nodup from Zjq)).trans (List.nil_append _);refine⟨_,rfl,r,_,rfl,.inl (SqL.of (s3 _ _ G.at')),fc,Y6 d g (((l.map fun x=>V.ref x.1).length:Nat):Int) 0 0,rfl,(by show 5≤15;decide),?_⟩;rw[zt,Qa];have cE:Own (upd H3 o (.dK (Y6 d g (l.length:Int) 0 0))) o d g [] (l.length:Int) 0 0 :=
  ⟨Zd,by rw[Zc mT];exact zr,by rw[Zc uP];exact uO,List.nodup_nil,by decide,fun e h=>by cases h⟩
 have s4:ZG H (upd H3 o (.dK (Y6 d g (l.length:Int) 0 0))):=fun b x m=>by rw[Zc (Zb m S)];exact s3 b x m
 generalize upd H3 o (.dK (Y6 d g (l.length:Int) 0 0))=H4 at cE s4 ⊢;refine⟨_,rfl,r,_,rfl,SqL.of (s4 _ _ G.at'),?_⟩;refine RH (K:=K) (a:=r) (xs:=l.map fun x=>V.ref x.1) (fun i σ C=>∃ (L:List ZA) (v2 v3:Option V),σ=[some (.ref r),some (.ref o),v2,v3]∧Own C o d g L (l.length:Int) 0 0∧SD L (l.take i)∧(∀e∈L,H e.2.1=none∧e.2.1≠o)∧ZG H C) ⟨[],_,_,rfl,cE,⟨rfl,rfl⟩,(fun e h=>by cases h),s4⟩ (fun i σ C hq=>by obtain⟨_,_,_,_,_,_,_,J⟩:=hq;exact SqL.of (J _ _ G.at')) ?_ ?_
 ·rintro i y σ C p M ⟨L,v2,v3,rfl,ow,⟨n1,n2⟩,cH,J⟩ hp;rw[Qo]at M;cases N:l[i]? with
  | none=>rw[N]at M;cases M
  | some x =>
  rw[N]at M;cases M;have bv:i<l.length:=(Qf.mp N).1;have bW:=G.few;obtain⟨lx,dS,gc⟩:=G.lst x (Qz N);have oK:L.length=i:=by have:=congrArg List.length n1;rw[Qa,UI,QA]at this;lia
  have am:∀e∈L,e.1≠(i:Int):=fun e he z=>by
   have h1:e.1∈Yg 0 (l.take i).length:=by rw[← n1];exact Qd (f:=fun e:ZA=>e.1) he
   unfold Yg at h1;obtain⟨j,hj,ej⟩:=Qi.mp h1;have:=Q1.mp hj;rw[QA]at this;lia
  have sp:=Zh hp (.tup [.int (i:Int),.ref x.1]);have mU:(upd C p (.tup [.int (i:Int),.ref x.1])) p=some (.tup [.int (i:Int),.ref x.1]):=Zd;have s6:=J.trans sp;have n:=ow.same sp;generalize upd C p (.tup [.int (i:Int),.ref x.1])=H6 at mU s6 n ⊢;refine⟨p,_,rfl,SqT.of mU,rfl,_,_,rfl,_,_,rfl,rfl,?_⟩;refine⟨_,rfl,x.1,_,rfl,.inl (SqL.of (s6 _ _ lx)),fun c D=>?_⟩;have s7:=s6.trans (Zh D (.lst (x.2.map V.str)));have t:=n.same (Zh D (.lst (x.2.map V.str)));have uQ:(upd H6 c (.lst (x.2.map V.str))) c=some (.lst (x.2.map V.str)):=Zd;have zu:H c=none:=s6.free D;have zw:c≠o:=(Zb n.at' D).symm;have zA:c≠d:=(Zb n.rows D).symm;have zB:c≠g:=(Zb n.gone D).symm;generalize upd H6 c (.lst (x.2.map V.str))=H7 at s7 t uQ ⊢;have hsz:(kvR L).length<sizeLine:=by unfold kvR;rw[Qa];exact ZE #[2]
  have uR:(kvG L).length<sizeLine:=by unfold kvG;rw[Qa];exact ZE #[2]
  have fE:Z5 (kvR L) (.inl (i:Int))=none:=by
   cases O:Z5 (kvR L) (.inl (i:Int)) with
   | none=>rfl
   | some v=>obtain⟨e,he,z⟩:=Qi.mp (Wg O);injection z with z _;exact absurd (Sum.inl.inj z) (am e he)
  have kY:Z5 (kvG L) (.inl (i:Int))=none:=by
   cases O:Z5 (kvG L) (.inl (i:Int)) with
   | none=>rfl
   | some v=>obtain⟨e,he,z⟩:=Qi.mp (Wg O);injection z with z _;exact absurd (Sum.inl.inj z) (am e he)
  refine⟨_,rfl,o,_,rfl,ZR.k' (k:=.inr "rows") t.at' (Xu ..),_,rfl,d,_,rfl,YD.k (k:=.inl (i:Int)) t.rows hsz,?_⟩;rw[Wz _ fE,show kvR L++[((.inl (i:Int):Key),V.ref c)]=kvR (L++[((i:Int),c,x.2,0)]) by unfold kvR;rw[Qe];rfl];have jX:(upd H7 d (.dK (kvR (L++[((i:Int),c,x.2,0)])))) o=some (.dK (Y6 d g (l.length:Int) 0 0)):=by rw[Zc mT.symm];exact t.at'
  have zC:(upd H7 d (.dK (kvR (L++[((i:Int),c,x.2,0)])))) g=some (.dK (kvG L)):=by rw[Zc B];exact t.gone
  refine⟨_,rfl,o,_,rfl,ZR.k' (k:=.inr "gone") jX (WJ ..),_,rfl,g,_,rfl,YD.k (k:=.inl (i:Int)) zC uR,?_⟩;rw[Wz _ kY,show kvG L++[((.inl (i:Int):Key),V.int 0)]=kvG (L++[((i:Int),c,x.2,0)]) by unfold kvG;rw[Qe];rfl];refine⟨L++[((i:Int),c,x.2,0)],_,_,rfl,⟨by rw[Zc uP.symm];exact jX,by rw[Zc B.symm];exact Zd,Zd,?_,by rw[Qj,QD];lia,fun e he=>?_⟩,⟨?_,?_⟩,fun e he=>?_,fun b y m=>?_⟩
  ·rw[Qe];refine Qaz.mpr ⟨ow.nd,by simp,fun u hu v O=>?_⟩;obtain⟨e,he,rfl⟩:=Qi.mp hu;have:v=(i:Int):=by simpa using O
   rw[this];exact am e he
  ·rcases Qm.mp he with he|he
   ·obtain⟨R,b2⟩:=t.lst e he;have e1:e.2.1≠d:=fun z=>by rw[z,t.rows]at R;cases R
    have e2:e.2.1≠g:=fun z=>by rw[z,t.gone]at R;cases R
    exact⟨by rw[Zc e2,Zc e1];exact R,b2⟩
   ·rw[Qn.mp he];exact⟨by rw[Zc zB,Zc zA];exact uQ,dS,Qx _,gc⟩
  ·rw[Qe,n1,QA,QA,Qas #[2],Qas #[2]];unfold Yg;rw[QaL,Qe];simp
  ·rw[Qe,n2,QJ,N,Qe];rfl
  ·rcases Qm.mp he with he|he
   ·exact cH e he
   ·rw[Qn.mp he];exact⟨zu,zw⟩
  ·rw[Zc (Zb m pX),Zc (Zb m pW)];exact s7 b y m
 ·rintro σ C ⟨L,v2,v3,rfl,ow,cT,cH,J⟩;rw[Qa,Qw (Qh _)]at cT;refine⟨_,rfl,o,d,g,L,_,0,0,rfl,ow,by rw[cT.1];exact K5 _,fun e he=>(cH e he).2,fun k q' H6 bu n b6=>?_⟩;rw[Int.zero_add,Int.zero_add]at n;exact⟨_,rfl,q o d g L k q' H6 S pW pX B cH cT n bu (fun b x m=>b6 b x (J b x m) (Zb m S))⟩
def SA:Sp:=fun vs H Q _=>∃ (p l:Addr) (c a:Int) (ss:List Str),vs=[.ref p,.ref l,.int a]∧Y7 H p c∧c<2 ^ 40∧0≤a∧a≤60∧H l=some (.lst (ss.map V.str))∧1≤ss.length∧ss.length≤4∧(∀s∈ss,s.length≤24∧AZ s) ∧
 ∀ (r:Addr) (b:List Str) (e:Int) (d:Hp),H r=none→d r=some (.lst (b.map V.str))→(b.length:Int)≤a→sortedS b=true→(∀s∈b,s.length≤28∧AZ s)→Y7 d p e→c≤e→e≤c+600→But p H d→Q (.ref r) d
theorem Zpo(T:Zt K mg ab U)(m:Df P w K mg base 4 "_law_keys" ["_law_left_here", "_law_stems_here", "_law_most"] Ps):Df P w K mg base 5 "_law_row" ["_law_left_here", "_law_stems_here", "_law_most"] SA:=by
 refine T.t_l_row.df ZnZ (fun n H Q E h=>?_) (fun af f A outer s H n Q E o h=>?_)
 ·obtain⟨p,l,c,b,d,rfl,_⟩:=h;rfl
 obtain⟨p,l,c,b,d,rfl,g,t,u,v,y,B,C,D,q⟩:=h;refine⟨_,#[Zj,#[Zr,#[Zk,(RK K),T.b.n_sorted,boot_sorted,#[Za,#[ZB,m,o,#[Za,‹0›,#[Za,‹1›,#[Za,‹2›,#[Zf]]]],#[5]],#[Zf]]]]],?_⟩;refine⟨_,rfl,_,rfl,_,rfl,p,l,c,b,d,rfl,g,t,u,v,y,B,C,D,fun r F G H1 ay I J L i a1 a2 j=>?_⟩;refine⟨r,F,rfl,SqL.of I,by lia,fun l2 M a k N=>?_⟩;obtain⟨ob,ul⟩:=g.here;have O:H l2=none:=by
  cases e:H l2 with
  | none=>rfl
  | some x =>
   by_cases z:l2=p
   ·obtain⟨o1,R⟩:=i.here;rw[z,R]at a;cases a
   ·have:=j l2 x e z;rw[this]at a;cases a
 exact q l2 M G _ O Zd (by rw[k.length_eq];exact J) N (fun s S=>L s (k.mem_iff.mp S)) (i.new a) a1 a2 (j.trans (But.same (Zh a _)))
def K4:Sp:=fun vs H Q _=>∃ (p:Addr) (c:Int),vs=[.ref p]∧Y7 H p c∧c<2 ^ 30 ∧
 ∀ (r:Addr) (b:List (Addr×List Str)) (d:Int) (a:Hp),H r=none→Wu a r b→(∀x∈b,H x.1=none∧x.1≠r∧x.1≠p∧sortedS x.2=true∧x.2.length≤60)→b.length≤12→Y7 a p d→c≤d→d≤c+10000→But p H a→Q (.ref r) a
theorem ZnF(T:Zt K mg ab U)(ah:Df P w K mg base 2 "_law_pick" ["_law_left_here", "_law_many_here"] We)(cN:Df P w K mg base 3 "_law_stems" ["_law_left_here"] Pu)(fH:Df P w K mg base 3 "_law_many" ["_law_left_here"] Pm)(ca:Df P w K mg base 5 "_law_row" ["_law_left_here", "_law_stems_here", "_law_most"] SA):Df P w K mg base 6 "_law_rows" ["_law_left_here"] K4:=by
 refine T.t_l_rows.df PM (fun vs H Q E h=>?_) (fun af f A outer s H vs Q E n h=>?_)
 ·obtain⟨p,c,rfl,_⟩:=h;rfl
 obtain⟨p,c,rfl,I,c1,q⟩:=h;refine⟨_,#[Ze,#[Zw,1,PM.nd,(Or.inr rfl),#[ZB,cN,n,#[Za,#[pv,0,(Or.inr #[3])],#[Zf]],#[5]]],#[Ze,#[Zw,2,PM.nd,(Or.inr rfl),#[Zl,(ixL K),#[YH,#[Za,#[Zi],#[Za,#[Zi],#[Za,#[Zi],#[Za,#[Zi],#[Za,#[Zi],#[Za,#[Zi],#[Za,#[Zi],#[Za,#[Zi],#[Zf]]]]]]]]]],#[ZB,ah,n,#[Za,#[pv,0,(Or.inr #[3])],#[Za,#[Zi],#[Zf]]],#[5]]]],#[Zj,#[Zr,#[WQ,U7,#[WS,T.b.n_range,#[Za,#[ZB,fH,n,#[Za,#[pv,0,(Or.inr #[3])],#[Zf]],#[5]],#[Zf]]],(fun _ _ _ _=>#[cg,3,U7]),(fun _ _ _ _=>(@Wl _)),(fun _ _ _ _=>#[ZB,ca,n,#[Za,#[cv,0,U7],#[Za,#[cv,1,U7],#[Za,#[cv,2,U7],#[Zf]]]],(Tw U7 rfl #[1])])]]]]],?_⟩;have c0:=I.ge;refine⟨_,rfl,p,c,rfl,I,by lia,fun l ss c2 H1 rL jY n1 n4 ja L1 a1 a2 B1=>?_⟩;have J:p≠l:=by obtain⟨o,d⟩:=I.here;exact Zb d rL
 refine⟨(by show 8≤sizeLine;decide),fun e t=>?_⟩;have zD:p≠e:=by obtain⟨o,d⟩:=L1.here;exact Zb d t
 refine⟨_,rfl,p,c2,_,rfl,L1.new t,by lia,by decide,by decide,fun i L i0 i1 L2 M=>?_⟩;obtain⟨m,hm,bm⟩:=Pr (ns:=[5,5,4,6,3,7,5,20]) i0 i1;have zE:L e=some (.lst (([5,5,4,6,3,7,5,20]:List Int).map V.int)):=M e _ Zd zD.symm;have cb:0≤m∧m≤20:=by simp only[List.mem_cons,List.not_mem_nil,or_false]at hm;lia
 have bf:L l=some (.lst (ss.map V.str)):=M l _ (Zh t _ _ _ jY) J.symm;have oM:But p H L:=(B1.trans (But.same (Zh t _))).trans M;refine⟨e,_,_,_,rfl,rfl,SqL.of zE,bm,?_⟩;refine⟨_,rfl,p,_,rfl,L2,by lia,fun mn c3 H3 m0 Ji N a3 a4 B3=>?_⟩;have cL:=B3 l _ bf J.symm;have O:=oM.trans B3;refine⟨_,rfl,by lia,by lia,fun D a=>?_⟩;have zF:H D=none:=by
  cases R:H D with
  | none=>rfl
  | some x =>
   by_cases z:D=p
   ·obtain⟨o1,jf⟩:=N.here;rw[z,jf]at a;cases a
   ·have:=O D x R z;rw[this]at a;cases a
 have fz:p≠D:=by obtain⟨o,d⟩:=N.here;exact Zb d a
 have lc:l≠D:=Zb cL a;refine RJ (fun i zs S g=>(∃v:Option V,S=[some (.ref p),some (.ref l),some (.int m),v])∧(∃j:List (Addr×List Str),zs=j.map (fun x=>V.ref x.1)∧j.length=i∧∀x∈j,g x.1=some (.lst (x.2.map V.str))∧H x.1=none∧x.1≠D∧x.1≠p∧sortedS x.2=true∧x.2.length≤60∧∀s∈x.2,s.length≤28∧AZ s)∧g D=some (.lst zs)∧(∃c4:Int,Y7 g p c4∧c3≤c4∧c4≤c3+600*i)∧But p H3 g) ?_ ?_ ?_
 ·exact⟨⟨none,rfl⟩,⟨[],rfl,rfl,(fun x h=>by cases h)⟩,Zd,⟨c3,N.new a,by lia,by lia⟩,But.same (Zh a _)⟩
 ·rintro i zs S g hi ⟨⟨v,rfl⟩,⟨j,rfl,zG,u⟩,y,⟨c4,B,b1,b2⟩,k⟩;have BW:i<12:=by lia
  refine⟨_,rfl,_,rfl,_,rfl,p,l,c4,m,ss,rfl,B,by lia,cb.1,by lia,k l _ cL J.symm,n1,n4,ja,fun r ts c5 H5 C cm cZ b9 iz L5 d1 d2 W=>?_⟩;have rH:=W D _ y fz.symm;have lh:D≠r:=Zb y C;have X:p≠r:=by obtain⟨o,d⟩:=B.here;exact Zb d C
  have uT:H r=none:=by
   cases R:H r with
   | none=>rfl
   | some x=>have:=k r x (O r x R X.symm) X.symm;rw[this]at C;cases C
  refine⟨rH,(by rw[Qa];exact ZE #[2]),⟨_,rfl⟩,⟨j++[(r,ts)],by rw[Qe];rfl,by rw[Qj,QD];lia,fun x hx=>?_⟩,Zd,⟨c5,L5.at fz,by lia,by lia⟩,fun b x hb nb=>?_⟩
  ·rcases Qm.mp hx with hx|hx
   ·obtain⟨Y,Z,F,G,g5⟩:=u x hx;exact⟨by rw[Zc F];exact W _ _ Y G,Z,F,G,g5⟩
   ·rw[Qn.mp hx];exact⟨by rw[Zc lh.symm];exact cm,uT,lh.symm,X.symm,b9,by show ts.length≤60;lia,iz⟩
  ·rw[Zc (Zb hb a)];exact W b x (k b x hb nb) nb
 rintro zs S g ⟨⟨v,rfl⟩,⟨j,rfl,zG,u⟩,y,⟨c4,B,b1,b2⟩,k⟩;refine q D j c4 g zF ⟨y,by lia,fun x hx=>?_⟩ (fun x hx=>?_) #[2] B #[2] #[2] (O.trans k)
 ·obtain⟨Y,_,_,_,_,g6,g7⟩:=u x hx;exact⟨Y,by lia,fun s hs=>⟨by have:=(g7 s hs).1;lia,(g7 s hs).2⟩⟩
 ·obtain⟨_,Z,F,G,g5,g6,_⟩:=u x hx;exact⟨Z,F,G,g5,g6⟩
def Ug(K:#[7]):Sp:=fun vs H Q _=>∃ (n:Int) (a:Addr) (ss:List Str),vs=[.int n,.ref a]∧SqL K H a (ss.map V.str)∧ss.length≤200∧(∀s∈ss,s.length≤1000)∧Uh ss .non∧∀H',ZG H H'→Q .non H'
theorem Zmi(T:Zt K mg ab U)(c:Df P w K mg base 4 "first_break" ["keys"] (Pn K)):Df P w K mg base 5 "refuse_break" ["number", "keys"] (Ug K):=by
 refine T.t_refuse_break.df Mm (fun d H Q E h=>?_) (fun af f A outer s H d Q E g h=>?_)
 ·obtain⟨n,a,b,rfl,_⟩:=h;rfl
 obtain⟨n,a,b,rfl,i,j,k,l,q⟩:=h;refine⟨_,#[Ze,#[Zw,2,Mm.nd,#[3],#[ZB,c,g,#[Za,‹1›,#[Zf]],#[5]]],#[Zj,#[Z0,#[Zn,UN,‹2›,#[ZT],(Zp _)],#[Zj,(@Rz _ _)],#[ZF]]]],?_⟩;refine⟨_,rfl,a,b,rfl,i,j,k,fun v m o p=>?_⟩;have e:=Zpb o l;subst e;exact⟨_,rfl,rfl,_,rfl,YR (q m p)⟩
structure Zv where
 n:Int
 p:Addr
 k:Addr
 f:Addr
 ss:List Str
 g:Nat
noncomputable def toL(e:Zv):ZA:=(e.n,e.p,e.ss,e.g)
noncomputable def hdM(L:List Zv):Hd:=hdL (L.map toL)
noncomputable def Zu(L:List Zv):List Int:=L.map (·.n)
theorem Uf(L:List Zv):(L.map toL).map (·.1)=Zu L:=by rw[Qg];rfl
noncomputable def kvM(L:List Zv):List (Key×V):=L.map fun e=>(.inl e.n,.ref e.p)
theorem Vz{L:List Zv}(nd:(Zu L).Nodup){e:Zv}(he:e∈L):hdM L e.n=(e.ss[e.g]?).map cds :=
 SG (L:=L.map toL) (by rw[Uf];exact nd) (Qd (f:=toL) he)
theorem Zm7(L:List Zv):(kvM L).map (·.1)=(Zu L).map (Sum.inl:Int→Key):=by unfold kvM Zu;rw[Qg,Qg];rfl
theorem V7{L:List Zv}(nd:(Zu L).Nodup){e:Zv}(he:e∈L):Z5 (kvM L) (.inl e.n)=some (.ref e.p):=Tn (by rw[Zm7];exact O9 nd) (Qd (f:=fun e:Zv=>((.inl e.n:Key),V.ref e.p)) he)
theorem Ue{L:List Zv}{n:Int}(h:n∈Zu L):∃e∈L,e.n=n:=Qi.mp h
noncomputable def mgF(rd:Addr)(nb li lo:Int)(sd:Addr)(a:V):List (Str×V):=[("rows",.ref rd),("next_number",.int nb),("likened",.int li),("looked",.int lo),("stays",.ref sd),("best",a)]
theorem O5:¬ (("rows" : Str) = "next_number"):=by ac_rfl
theorem O4:¬ (("rows" : Str) = "likened"):=by ac_rfl
theorem O3:¬ (("rows" : Str) = "looked"):=by ac_rfl
theorem O2:¬ (("rows" : Str) = "stays"):=by ac_rfl
theorem O1:¬ (("rows" : Str) = "best"):=by ac_rfl
theorem O0:¬ (("next_number" : Str) = "likened"):=by ac_rfl
theorem OZ:¬ (("next_number" : Str) = "looked"):=by ac_rfl
theorem OY:¬ (("next_number" : Str) = "stays"):=by ac_rfl
theorem OX:¬ (("next_number" : Str) = "best"):=by ac_rfl
theorem OW:¬ (("likened" : Str) = "looked"):=by ac_rfl
theorem OV:¬ (("likened" : Str) = "stays"):=by ac_rfl
theorem OU:¬ (("likened" : Str) = "best"):=by ac_rfl
theorem OT:¬ (("looked" : Str) = "stays"):=by ac_rfl
theorem OR:¬ (("looked" : Str) = "best"):=by ac_rfl
theorem OQ:¬ (("stays" : Str) = "best"):=by ac_rfl
theorem Wt(f:Str)(v x:V)(r:List (Str×V)):Zx f v ((f,x)::r)=(f,v)::r:=by unfold Zx;rw[if_pos rfl]
theorem Zy{f g:Str}(h:¬ g=f)(v x:V)(r:List (Str×V)):Zx f v ((g,x)::r)=(g,x)::Zx f v r:=by show (if g=f then (g,v)::r else (g,x)::Zx f v r)=_;rw[if_neg h]
theorem Xh(f:Str)(v:V):Zx f v []=[(f,v)]:=rfl
theorem V6(rd:Addr)(nb li lo:Int)(sd:Addr)(a:V):mgF rd nb li lo sd a=Zx "best" a (Zx "stays" (.ref sd) (Zx "looked" (.int lo) (Zx "likened" (.int li) (Zx "next_number" (.int nb) (Zx "rows" (.ref rd) []))))):=by rw[Xh,Zy O5,Xh,Zy O4,Zy O0,Xh,Zy O3,Zy OZ,Zy OW,Xh,Zy O2,Zy OY,Zy OV,Zy OT,Xh,Zy O1,Zy OX,Zy OU,Zy OR,Zy OQ,Xh];rfl
section
variable (rd:Addr) (nb li lo:Int) (sd:Addr) (ae:V)
theorem XF:(mgF rd nb li lo sd ae).lookup ("rows" : Str)=some (.ref rd):=by rw[V6,Zm,if_neg O1,Zm,if_neg O2,Zm,if_neg O3,Zm,if_neg O4,Zm,if_neg O5,Zm,if_pos rfl]
theorem OP:(mgF rd nb li lo sd ae).lookup ("next_number" : Str)=some (.int nb):=by rw[V6,Zm,if_neg OX,Zm,if_neg OY,Zm,if_neg OZ,Zm,if_neg O0,Zm,if_pos rfl]
theorem Sz:(mgF rd nb li lo sd ae).lookup ("likened" : Str)=some (.int li):=by rw[V6,Zm,if_neg OU,Zm,if_neg OV,Zm,if_neg OW,Zm,if_pos rfl]
theorem OO:(mgF rd nb li lo sd ae).lookup ("looked" : Str)=some (.int lo):=by rw[V6,Zm,if_neg OR,Zm,if_neg OT,Zm,if_pos rfl]
theorem UU:(mgF rd nb li lo sd ae).lookup ("stays" : Str)=some (.ref sd):=by rw[V6,Zm,if_neg OQ,Zm,if_pos rfl]
theorem Ud:(mgF rd nb li lo sd ae).lookup ("best" : Str)=some ae:=by rw[V6,Zm,if_pos rfl]
theorem X5{m:Str}(h1:¬ m = "rows")(h2:¬ m = "next_number")(a:¬ m = "likened")(h4:¬ m = "looked")(b:¬ m = "stays")(c:¬ m = "best"):(mgF rd nb li lo sd ae).lookup m=none:=by rw[V6,Zm,if_neg c,Zm,if_neg b,Zm,if_neg h4,Zm,if_neg a,Zm,if_neg h2,Zm,if_neg h1];rfl
theorem Ziu(x:Addr):Zx "rows" (.ref x) (mgF rd nb li lo sd ae)=mgF x nb li lo sd ae:=by unfold mgF;rw[Wt]
theorem K3(v:Int):Zx "next_number" (.int v) (mgF rd nb li lo sd ae)=mgF rd v li lo sd ae:=by unfold mgF;rw[Zy O5,Wt]
theorem ON(v:Int):Zx "likened" (.int v) (mgF rd nb li lo sd ae)=mgF rd nb v lo sd ae:=by unfold mgF;rw[Zy O4,Zy O0,Wt]
theorem K2(v:Int):Zx "looked" (.int v) (mgF rd nb li lo sd ae)=mgF rd nb li v sd ae:=by unfold mgF;rw[Zy O3,Zy OZ,Zy OW,Wt]
theorem K1(x:Addr):Zx "stays" (.ref x) (mgF rd nb li lo sd ae)=mgF rd nb li lo x ae:=by unfold mgF;rw[Zy O2,Zy OY,Zy OV,Zy OT,Wt]
theorem Uc(x:V):Zx "best" x (mgF rd nb li lo sd ae)=mgF rd nb li lo sd x:=by unfold mgF;rw[Zy O1,Zy OX,Zy OU,Zy OR,Zy OQ,Wt]
theorem XD:(mgF rd nb li lo sd ae).length<1000:=by show 6<1000;decide
end
structure XV (C:Addr) (H:Hp) (e:Zv):Prop where
 at':Ww C H e.p e.k e.f e.ss e.g
 le:e.g≤e.ss.length
 len:e.ss.length≤100
 srt:sortedS e.ss=true
 str:∀s∈e.ss,s.length≤1000∧AZ s
def Kb(nb:Int)(s:StL)(L:List Zv):Prop:=(∀x∈s,0≤x.1.1∧x.1.1<x.1.2∧x.1.2≤nb)∧∀n∈nb::Zu L,0≤n∧n≤nb
theorem Kb.nn{nb:Int}{s:StL}{L:List Zv}(h:Kb nb s L):0≤nb:=(h.2 nb (QP ..)).1
theorem Kb.of{nb:Int}{L:List Zv}(h0:0≤nb)(h:∀n∈Zu L,0≤n∧n≤nb):∀n∈nb::Zu L,0≤n∧n≤nb:=fun n a=>by
 rcases QG.mp a with e|h1
 ·rw[e];exact⟨h0,Int.le_refl _⟩
 ·exact h n h1
theorem Kb.to{nb:Int}{s:StL}{L:List Zv}(h:Kb nb s L):∀n∈Zu L,0≤n∧n≤nb:=fun n a=>h.2 n (Qt _ a)
theorem Kb.mono{nb nb':Int}{s:StL}{L:List Zv}(h:Kb nb s L)(hb:nb≤nb'):Kb nb' s L:=by have h0:=h.nn;exact⟨fun x d=>let ⟨a,b,c⟩:=h.1 x d;⟨a,b,by lia⟩,Kb.of #[2] fun n e=>let ⟨a,b⟩:=h.to n e;⟨a,by lia⟩⟩
theorem Kb.put{nb:Int}{s:StL}{L:List Zv}(h:Kb nb s L){k:Int×Int}{v:Option (Addr×Int×Int)}(hk:0≤k.1∧k.1<k.2∧k.2≤nb):Kb nb (Yo s k v) L:=by
 refine⟨fun x hx=>?_,h.2⟩;unfold Yo at hx;split at hx
 ·obtain⟨y,a,rfl⟩:=Qi.mp hx;by_cases e:y.1=k
  ·rw[if_pos e];exact h.1 y a
  ·rw[if_neg e];exact h.1 y a
 ·rcases Qm.mp hx with hx|hx
  ·exact h.1 x hx
  ·rw[Qn.mp hx];exact hk
theorem Kb.key{nb:Int}{s:StL}{L:List Zv}(h:Kb nb s L){N:List Int}(up:Z9 N)(h2:2≤N.length)(hm:∀x∈N,x∈Zu L):0≤(ZQ N).1∧(ZQ N).1<(ZQ N).2∧(ZQ N).2≤nb:=by
 cases N with
 | nil=>exact absurd h2 #[6]
 | cons a r =>
  cases r with
  | nil=>exact absurd h2 (by show ¬ 2≤1;decide)
  | cons b r =>
   have e:(ZQ (a::b::r)).2=(b::r).getLast #[4]:=by unfold ZQ;show (a::b::r).getLastD 0=_;rw[Qad,Qan #[4]];rfl
   have c:(b::r).getLast #[4]∈b::r:=List.getLast_mem _;have lt:a<(b::r).getLast #[4]:=(List.pairwise_cons.mp up).1 _ c;rw[e];exact⟨(h.to a (hm a (QP ..))).1,lt,(h.to _ (hm _ (Qt _ c))).2⟩
structure ZS (cR cM:Addr) (H:Hp) (m rd sd:Addr) (L:List Zv) (s:StL) (nb li lo:Int) (ae:V):Prop where
 ob:∃dx,H m=some (.ins cM dx (mgF rd nb li lo sd ae))
 rows:H rd=some (.dK (kvM L))
 stays:H sd=some (.dT (kvS s))
 ats:AtS H s
 each:∀e∈L,XV cR H e
 up:Z9 (Zu L)
 pd:(L.map (·.p)).Nodup
 few:L.length≤60
 sfew:s.length≤100
 kb:Kb nb s L
def Fp(m rd sd:Addr)(L:List Zv)(b:Addr):Prop:=b=m∨b=rd∨b=sd∨∃e∈L,b=e.p∨b=e.k∨b=e.f
theorem XV.keep{C:Addr}{H H':Hp}{e:Zv}(h:XV C H e)(hp:H' e.p=H e.p)(hk:H' e.k=H e.k)(a:H' e.f=H e.f):XV C H' e :=
 ⟨⟨by rw[hp];exact h.at'.ob,by rw[hk];exact h.at'.ks,by rw[a];exact h.at'.fs⟩,h.le,h.len,h.srt,h.str⟩
section
variable {cR cM:Addr} {H H':Hp} {m rd sd:Addr} {L:List Zv} {s:StL} {nb li lo:Int} {ae:V}
theorem ZS.nd(h:ZS cR cM H m rd sd L s nb li lo ae):(Zu L).Nodup:=SQ h.up
theorem ZS.keep(h:ZS cR cM H m rd sd L s nb li lo ae)(k:∀b o,H b=some o→Fp m rd sd L b∨(∃xs,o=.tup xs)→H' b=some o):ZS cR cM H' m rd sd L s nb li lo ae:=by
 refine⟨?_,k _ _ h.rows (.inl (.inr #[8])),k _ _ h.stays (.inl (.inr (.inr #[8]))),fun e a t f=>k _ _ (h.ats e a t f) (.inr ⟨_,rfl⟩),fun e a=>?_,h.up,h.pd,h.few,h.sfew,h.kb⟩
 ·obtain⟨c,d⟩:=h.ob;exact⟨c,k _ _ d (.inl #[8])⟩
 ·have r:=h.each e a;obtain⟨c,d⟩:=r.at'.ob;exact⟨⟨⟨c,k _ _ d (.inl (.inr (.inr (.inr ⟨e,a,.inl rfl⟩))))⟩,k _ _ r.at'.ks (.inl (.inr (.inr (.inr ⟨e,a,.inr #[8]⟩)))),k _ _ r.at'.fs (.inl (.inr (.inr (.inr ⟨e,a,.inr (.inr rfl)⟩))))⟩,r.le,r.len,r.srt,r.str⟩
theorem ZS.same(h:ZS cR cM H m rd sd L s nb li lo ae)(k:ZG H H'):ZS cR cM H' m rd sd L s nb li lo ae:=h.keep fun b o hb _=>k b o hb
theorem ZS.ne_p(h:ZS cR cM H m rd sd L s nb li lo ae){e:Zv}(he:e∈L):m≠e.p∧m≠e.k∧m≠e.f:=by
 obtain⟨dx,b⟩:=h.ob;have r:=h.each e he;obtain⟨dy,c⟩:=r.at'.ob;refine⟨fun z=>?_,fun z=>?_,fun z=>?_⟩
 ·rw[z,c]at b;injection b with b;injection b with _ _ b;have a:=V8 e.k e.f (e.g:Int);rw[b,X5 _ _ _ _ _ _ #[1] #[1] #[1] #[1] #[1] #[1]]at a;cases a
 ·rw[z,r.at'.ks]at b;cases b
 ·rw[z,r.at'.fs]at b;cases b
theorem ZS.ne_m(h:ZS cR cM H m rd sd L s nb li lo ae):m≠rd∧m≠sd∧rd≠sd:=by
 obtain⟨dx,a⟩:=h.ob;refine⟨fun z=>?_,fun z=>?_,fun z=>?_⟩
 ·rw[z,h.rows]at a;cases a
 ·rw[z,h.stays]at a;cases a
 ·have:=h.rows;rw[z,h.stays]at this;cases this
theorem ZS.ne_sd(h:ZS cR cM H m rd sd L s nb li lo ae){e:Zv}(he:e∈L):sd≠e.p∧sd≠e.k∧sd≠e.f∧rd≠e.p∧rd≠e.k∧rd≠e.f:=by
 have r:=h.each e he;obtain⟨dy,c⟩:=r.at'.ob;have a:=h.stays;have b:=h.rows;refine⟨fun z=>?_,fun z=>?_,fun z=>?_,fun z=>?_,fun z=>?_,fun z=>?_⟩
 ·rw[z,c]at a;cases a
 ·rw[z,r.at'.ks]at a;cases a
 ·rw[z,r.at'.fs]at a;cases a
 ·rw[z,c]at b;cases b
 ·rw[z,r.at'.ks]at b;cases b
 ·rw[z,r.at'.fs]at b;cases b
theorem ZS.obj(h:ZS cR cM H m rd sd L s nb li lo ae){nb' li' lo':Int}{best':V}{dx:Addr}(hb:nb≤nb':=by lia):ZS cR cM (upd H m (.ins cM dx (mgF rd nb' li' lo' sd best'))) m rd sd L s nb' li' lo' best':=by
 obtain⟨f,g,n3⟩:=h.ne_m;obtain⟨dy,i⟩:=h.ob;refine⟨⟨dx,Zd⟩,by rw[Zc f.symm];exact h.rows,by rw[Zc g.symm];exact h.stays,fun e d t j=>?_,fun e d=>?_,h.up,h.pd,h.few,h.sfew,h.kb.mono hb⟩
 ·have:=h.ats e d t j;rw[Zc (fun z=>by rw[z,i]at this;cases this)];exact this
 ·obtain⟨a,b,c⟩:=h.ne_p d;exact(h.each e d).keep (Zc a.symm) (Zc b.symm) (Zc c.symm)
theorem ZS.put(h:ZS cR cM H m rd sd L s nb li lo ae){k:Int×Int}{v:Option (Addr×Int×Int)}(i:∀t,v=some t→H t.1=some (.tup [.int t.2.1,.int t.2.2]))(j:(Yo s k v).length≤100)(hk:0≤k.1∧k.1<k.2∧k.2≤nb):ZS cR cM (upd H sd (.dT (kvS (Yo s k v)))) m rd sd L (Yo s k v) nb li lo ae:=by
 obtain⟨n1,l,n⟩:=h.ne_m;obtain⟨o,p⟩:=h.ob;have tup:∀a d,H a=some (.tup d)→(upd H sd (.dT (kvS (Yo s k v)))) a=some (.tup d):=fun a d f=>by rw[Zc (fun z=>by rw[z,h.stays]at f;cases f)];exact f
 refine⟨⟨o,by rw[Zc l];exact p⟩,by rw[Zc n];exact h.rows,Zd,(h.ats.put i).mono tup,fun e g=>?_,h.up,h.pd,h.few,j,h.kb.put hk⟩;obtain⟨a,b,c,_⟩:=h.ne_sd g;exact(h.each e g).keep (Zc a.symm) (Zc b.symm) (Zc c.symm)
end
def OM(g h:Addr):Sp:=fun vs H Q _=>∃ (m rd sd:Addr) (L:List Zv) (s:StL) (nb li lo:Int) (i:V) (a b:Zv) (x y:Str) (d:Nat),vs=[.ref m,.int a.n,.int b.n,.int (d:Int)]∧ZS g h H m rd sd L s nb li lo i∧a∈L∧b∈L∧a.ss[a.g]? = some x∧b.ss[b.g]? = some y∧d≤lcp (cds x) (cds y) ∧
 ∀ (t:Addr) (e f:Int) (c:Hp),(Btr (cds x) a.n (cds y) b.n∧e=a.n∧f=b.n∨¬ Btr (cds x) a.n (cds y) b.n∧e=b.n∧f=a.n)→H t=none→c t=some (.tup [.int e,.int f,.int ((lcp (cds x) (cds y):Nat):Int)]) →
  ZS g h c m rd sd L s nb (li+1) (lo+((lcp (cds x) (cds y):Nat)-(d:Int)+1)) i→(∀b o,H b=some o→b≠m→c b=some o)→Q (.ref t) c
theorem Ub{ss:List Str}{g:Nat}{x:Str}(h:ss[g]? = some x):Xi ss g=.str x:=by unfold Xi;rw[h]
theorem UT(k f:Addr)(g:Int):(YV k f g).lookup ("head" : Str)=none:=U1 _ _ _ #[1] #[1] #[1]
theorem Zpd(T:Zt K mg ab U)(Y:Mf P w K mg base 2 ab "head" ["self"] (U0 ab))(cq:Df P w K mg base 2 "liken_from" ["one", "other", "far"] Po):Mf P w K mg base 3 U "meet" ["self", "one", "other", "far"] (OM ab U):=by
 refine T.t_Merge_meet.mf Tc (fun vs H Q E h=>?_) (fun af f A outer s H vs Q E C h=>?_)
 ·obtain⟨m,j,B,L,s,nb,l,lo,p,a,b,x,y,r,rfl,_⟩:=h;rfl
 obtain⟨m,j,B,L,s,nb,l,lo,p,a,b,x,y,r,rfl,M,Z,v,hx,hy,hf,q⟩:=h;refine⟨_,#[Ze,#[Z2,#[ZB,cq,C,#[Za,#[YQ,Y,T.cl_Row,C,#[Zl,(ixG C),#[ZM,‹0›],‹1›]],#[Za,#[YQ,Y,T.cl_Row,C,#[Zl,(ixG C),#[ZM,‹0›],‹2›]],#[Za,‹3›,#[Zf]]]],#[5]],#[gT,K,3,#[ZC,#[ZD,4,Tc.nd],#[ZC,#[ZD,5,Tc.nd],#[ZC,#[ZD,6,Tc.nd],(@X6 _)]]]]],#[Ze,#[VU,‹0›,#[Zi],UK],#[Ze,#[VU,‹0›,‹6›,UK],#[Ze,#[Z0,(@PW.pt _ _ _ #[Wo,#[Zn,Xr,‹4›,#[Zi],(Zp _)],(@Vs _ _ _ _ (@PW.pt _ _ _ #[XS,#[Zn,YF,‹4›,#[Zi],(Zp _)],#[Xl,#[Zn,Xr,‹1›,‹2›,(Zp _)]]]))]),#[Zj,#[Zr,#[YJ,#[Za,‹1›,#[Za,‹2›,#[Za,‹5›,#[Zf]]]]]]],#[ZF]],#[Zj,#[Zr,#[YJ,#[Za,‹2›,#[Za,‹1›,#[Za,‹5›,#[Zf]]]]]]]]]]],?_⟩;obtain⟨dx,J⟩:=M.ob;have N:=M.each a Z;have O:=M.each b v;obtain⟨da,zH⟩:=N.at'.ob;obtain⟨db,zI⟩:=O.at'.ob;have lx:=(N.str x (Qz hx)).1;have ly:=(O.str y (Qz hy)).1;refine⟨_,rfl,m,U,dx,_,_,rfl,J,T.cl_Merge,T.na_Merge_rows,XF ..,_,rfl,j,_,rfl,ZR.k' (k:=.inl a.n) M.rows (V7 M.nd Z),a.p,da,_,rfl,zH,UT ..,a.p,a.k,a.f,a.ss,a.g,rfl,N.at',?_⟩;refine⟨_,rfl,m,U,dx,_,_,rfl,J,T.cl_Merge,T.na_Merge_rows,XF ..,_,rfl,j,_,rfl,ZR.k' (k:=.inl b.n) M.rows (V7 M.nd v),b.p,db,_,rfl,zI,UT ..,b.p,b.k,b.f,b.ss,b.g,rfl,O.at',?_⟩;rw[Ub hx,Ub hy];refine⟨_,rfl,x,y,r,rfl,lx,ly,hf,fun t ht=>?_⟩;have G:=Zh ht (.tup [.int (ZV (cds x) (cds y)),.int (lcp (cds x) (cds y):Nat),.int ((lcp (cds x) (cds y):Nat)-(r:Int)+1)]);have jV:(upd H t (.tup [.int (ZV (cds x) (cds y)),.int (lcp (cds x) (cds y):Nat),.int ((lcp (cds x) (cds y):Nat)-(r:Int)+1)])) t=some (.tup [.int (ZV (cds x) (cds y)),.int (lcp (cds x) (cds y):Nat),.int ((lcp (cds x) (cds y):Nat)-(r:Int)+1)]):=Zd;generalize upd H t (.tup [.int (ZV (cds x) (cds y)),.int (lcp (cds x) (cds y):Nat),.int ((lcp (cds x) (cds y):Nat)-(r:Int)+1)])=R at G jV ⊢;have M1:=M.same G;refine⟨t,_,rfl,SqT.of jV,rfl,_,_,rfl,_,_,rfl,_,_,rfl,rfl,?_⟩;have cb:=G _ _ J;refine⟨_,rfl,m,U,dx,_,_,rfl,cb,T.cl_Merge,T.na_Merge_likened,Sz ..,_,_,rfl,rfl,dx,_,cb,XD ..,?_⟩;rw[ON];have M2:=M1.obj (nb':=nb) (li':=l+1) (lo':=lo) (best':=p) (dx:=dx);have k2:∀b o,H b=some o→b≠m→(upd R m (.ins U dx (mgF j nb (l+1) lo B p))) b=some o:=fun b o v n=>by rw[Zc n];exact G b o v
 have S:(upd R m (.ins U dx (mgF j nb (l+1) lo B p))) m=some (.ins U dx (mgF j nb (l+1) lo B p)):=Zd;generalize upd R m (.ins U dx (mgF j nb (l+1) lo B p))=H2 at M2 k2 S ⊢;refine⟨_,rfl,m,U,dx,_,_,rfl,S,T.cl_Merge,T.na_Merge_looked,OO ..,_,rfl,_,_,rfl,rfl,dx,_,S,XD ..,?_⟩;rw[K2];have V:=M2.obj (nb':=nb) (li':=l+1) (lo':=lo+((lcp (cds x) (cds y):Nat)-(r:Int)+1)) (best':=p) (dx:=dx);have k3:∀b o,H b=some o→b≠m→(upd H2 m (.ins U dx (mgF j nb (l+1) (lo+((lcp (cds x) (cds y):Nat)-(r:Int)+1)) B p))) b=some o:=fun b o v n=>by rw[Zc n];exact k2 b o v n
 generalize upd H2 m (.ins U dx (mgF j nb (l+1) (lo+((lcp (cds x) (cds y):Nat)-(r:Int)+1)) B p))=H3 at V k3 ⊢;have u:∀D F:Int,(Btr (cds x) a.n (cds y) b.n∧D=a.n∧F=b.n∨¬ Btr (cds x) a.n (cds y) b.n∧D=b.n∧F=a.n)→∀c,H3 c=none→Q (.ref c) (upd H3 c (.tup [.int D,.int F,.int ((lcp (cds x) (cds y):Nat):Int)])):=fun D F hw c i=>by
  have dk:H c=none:=by
   cases e:H c with
   | none=>rfl
   | some o =>
    by_cases z:c=m
    ·obtain⟨dz,hz⟩:=V.ob;rw[z,hz]at i;cases i
    ·rw[k3 c o e z]at i;cases i
  exact q c D F _ hw dk Zd (V.same (Zh i _)) (fun b o v n=>Zh i _ _ _ (k3 b o v n))
 have I:3≤sizeLine:=by decide
 refine⟨_,rfl,_,_,rfl,rfl,_,rfl,YW (fun d=>?_) (fun d=>?_)⟩
 ·have d':ZV (cds x) (cds y)<0:=of_decide_eq_true d;exact XN ⟨_,rfl,_,rfl,_,rfl,I,fun c i=>u _ _ (.inl ⟨.inl d',rfl,rfl⟩) c i⟩
 have d1:¬ ZV (cds x) (cds y)<0:=fun z=>d (decide_eq_true z);refine⟨_,rfl,rfl,_,rfl,YW (fun e=>?_) (fun e=>?_)⟩
 ·have W:ZV (cds x) (cds y)=0:=by have:=of_decide_eq_true e;injection this
  refine⟨_,rfl,_,rfl,_,_,rfl,rfl,_,rfl,YW (fun g=>?_) (fun g=>?_)⟩
  ·have X:a.n<b.n:=of_decide_eq_true g;exact⟨_,rfl,_,rfl,_,rfl,I,fun c i=>u _ _ (.inl ⟨.inr ⟨W,X⟩,rfl,rfl⟩) c i⟩
  ·have X:¬ a.n<b.n:=fun z=>g (decide_eq_true z);exact⟨_,rfl,_,rfl,_,rfl,I,fun c i=>u _ _ (.inr ⟨fun z=>by rcases z with z|z;exact d1 z;exact X z.2,rfl,rfl⟩) c i⟩
 ·have W:ZV (cds x) (cds y)≠0:=fun z=>e (decide_eq_true (by rw[z]));exact YR ⟨_,rfl,_,rfl,_,rfl,I,fun c i=>u _ _ (.inr ⟨fun z=>by rcases z with z|z;exact d1 z;exact W z.1,rfl,rfl⟩) c i⟩
theorem ZS.cast{a b:Addr}{H:Hp}{m rd sd:Addr}{L:List Zv}{s:StL}{nb li lo li' lo':Int}{c:V}(h:ZS a b H m rd sd L s nb li lo c)(d:li=li')(e:lo=lo'):ZS a b H m rd sd L s nb li' lo' c:=by subst d;subst e;exact h
theorem K0{N:List Int}(h:N≠[]):atI (N.map V.int) (-1)=some (.int (N.getLastD 0)):=by
 have e:N=N.dropLast++[N.getLast h]:=(List.dropLast_concat_getLast h).symm;have:=ZnK (N.dropLast.map V.int) (V.int (N.getLast h));rw[Qad,Qan h]
 conv=>lhs;rw[e,Qe]
 exact this
theorem KZ{N:List Int}(h:N≠[]):atI (N.map V.int) 0=some (.int (N.headD 0)):=by
 cases N with
 | nil=>exact absurd rfl h
 | cons a r=>exact Yr (j:=0) rfl
theorem OL(rd:Addr)(nb li lo:Int)(sd:Addr)(a:V):(mgF rd nb li lo sd a).lookup ("play" : Str)=none:=X5 _ _ _ _ _ _ #[1] #[1] #[1] #[1] #[1] #[1]
theorem KY(rd:Addr)(nb li lo:Int)(sd:Addr)(a:V):(mgF rd nb li lo sd a).lookup ("meet" : Str)=none:=X5 _ _ _ _ _ _ #[1] #[1] #[1] #[1] #[1] #[1]
def KW(K:#[7])(d e:Addr)(n:Nat):Sp:=fun vs H Q _=>∃ (m rd sd:Addr) (L:List Zv) (s:StL) (nb li lo:Int) (f:V) (l:Addr) (N:List Int),vs=[.ref m,.ref l]∧ZS d e H m rd sd L s nb li lo f∧H l=some (.lst (N.map V.int))∧1≤N.length∧N.length≤60∧0<n∧N.length≤2 ^ (n-1)∧(∀x∈N,x∈Zu L)∧Z9 N∧(∀k,Xv n N k→Z1 s k=none)∧s.length+N.length≤100 ∧
 ∀ (w:Option Int) (a:StL) (k q:Int) (c:Hp),Win (hdM L) N w→XX (hdM L) a n N→YU (hdM L) n N k q→(∀j,¬ Xv n N j→Z1 a j=Z1 s j)→a.length+1≤s.length+N.length→ZS d e c m rd sd L a nb (li+k) (lo+q) f→(∀b o,H b=some o→b≠m→b≠sd→c b=some o)→Q (YX w) c
theorem KU(T:Zt K mg ab U)(al:Mf P w K mg base 2 ab "head" ["self"] (U0 ab))(bI:Df P w K mg base 1 "halves" ["numbers"] (Wa K true))(aN:Mf P w K mg base 3 U "meet" ["self", "one", "other", "far"] (OM ab U)) :
  ∀n:Nat,Mf P w K mg base (n+4) U "play" ["self", "numbers"] (KW K ab U n)
 | 0=>by
  refine T.t_Merge_play.mf Wy (fun vs H Q E h=>?_) (fun af f A outer s H vs Q E G h=>?_)
  ·obtain⟨m,rd,sd,L,s,nb,li,lo,W,l,N,rfl,_⟩:=h;rfl
  obtain⟨m,rd,sd,L,s,nb,li,lo,W,l,N,rfl,_,_,_,_,z,_⟩:=h;exact absurd z #[2]
 | n+1=>by
  have aY:=KU T al bI aN n;refine T.t_Merge_play.mf Wy (fun vs H Q E h=>?_) (fun af f A outer s H vs Q E G h=>?_)
  ·obtain⟨m,rd,sd,L,s,nb,li,lo,W,l,N,rfl,_⟩:=h;rfl
  obtain⟨m,rd,sd,L,s,nb,li,lo',W,l,N,rfl,M,C,h1,eD,_,bZ,cU,u,dk,hsz,q⟩:=h;rw[Qaf]at bZ;refine⟨_,#[Ze,#[Z0,#[Zn,YF,#[Zk,(Yv K),T.b.n_len,Qu,#[Za,‹1›,#[Zf]]],#[Zi],(Zp _)],#[Zj,#[Zr,#[Xk,#[Zn,Yb,#[YQ,al,T.cl_Row,G,#[Zl,(ixG G),#[ZM,‹0›],#[Zl,(ixL K),‹1›,#[Zi]]]],#[ZT],(Zp _)],#[ZT],#[Zl,(ixL K),‹1›,#[Zi]]]]],#[ZF]],#[Ze,#[Z2,#[ZB,bI,G,#[Za,‹1›,#[Zf]],#[5]],#[gT,K,2,#[ZC,#[ZD,2,Wy.nd],#[ZC,#[ZD,3,Wy.nd],(@X6 _)]]]],#[Ze,#[Zw,4,Wy.nd,#[3],#[XI,aY,T.cl_Merge,G,‹0›,#[Za,‹2›,#[Zf]]]],#[Ze,#[Zw,5,Wy.nd,#[3],#[XI,aY,T.cl_Merge,G,‹0›,#[Za,‹3›,#[Zf]]]],#[Ze,#[Z0,#[Zn,Yb,‹4›,#[ZT],(Zp _)],#[Zj,#[Zr,‹5›]],#[ZF]],#[Ze,#[Z0,#[Zn,Yb,‹5›,#[ZT],(Zp _)],#[Zj,#[Zr,‹4›]],#[ZF]],#[Ze,#[Z2,#[XI,aN,T.cl_Merge,G,‹0›,#[Za,‹4›,#[Za,‹5›,#[Za,#[Zi],#[Zf]]]]],#[gT,K,3,#[ZC,#[ZD,6,Wy.nd],#[ZC,#[ZD,7,Wy.nd],#[ZC,#[ZD,8,Wy.nd],(@X6 _)]]]]],#[Ze,#[Z2,#[YJ,#[Za,‹7›,#[Za,‹8›,#[Zf]]]],#[Ys,#[ZM,‹0›],#[YJ,#[Za,#[Zl,(ixL K),‹1›,#[Zi]],#[Za,#[Zl,(ixL K),‹1›,(@Vo _ _ _ _ _ _ Vn #[Zi])],#[Zf]]]],(X9 G)]],#[Zj,#[Zr,‹6›]]]]]]]]]],?_⟩;obtain⟨dx,hm⟩:=M.ob;have hN:N≠[]:=XH h1;have uW:l≠m:=fun z=>by rw[z,hm]at C;cases C
  have zJ:l≠sd:=fun z=>by rw[z,M.stays]at C;cases C
  have fD:(((N.map V.int).length:Nat):Int)=(N.length:Int):=by rw[Qa]
  refine⟨_,rfl,l,_,rfl,.inl (SqL.of C),rfl,_,rfl,YW (fun d=>?_) (fun d=>?_)⟩
  ·have uX:N.length=1:=by have:=of_decide_eq_true d;injection this with this;rw[fD]at this;lia
   obtain⟨n0,rfl⟩:∃n0,N=[n0]:=Qar.mp uX;obtain⟨e,he,rfl⟩:=Ue (cU n0 #[4]);have R:=M.each e he;obtain⟨dp,hp⟩:=R.at'.ob;have bm:atI (([e.n]:List Int).map V.int) 0=some (.int e.n):=Yr (j:=0) rfl;refine⟨_,rfl,m,U,dx,_,_,rfl,hm,T.cl_Merge,T.na_Merge_rows,XF ..,_,rfl,l,_,_,_,rfl,rfl,SqL.of C,bm,rd,_,rfl,ZR.k' (k:=.inl e.n) M.rows (V7 M.nd he),e.p,dp,_,rfl,hp,UT ..,e.p,e.k,e.f,e.ss,e.g,rfl,R.at',rfl,_,rfl,?_⟩;have bS:XX (hdM L) s (n+1) [e.n]:=fun h2=>by simp at h2
   have bu:YU (hdM L) (n+1) [e.n] 0 0:=.few (by show 1<2;decide);have X:=Win.sing (hd:=hdM L) (n:=e.n);have hd:=Vz M.nd he;have M':=M.cast (li':=li+0) (lo':=lo'+0) #[2] #[2];cases g:e.ss[e.g]? with
   | none=>rw[show Xi e.ss e.g=.non by unfold Xi;rw[g]];rw[hd,g]at X;exact YI rfl (q none s 0 0 H X bS bu (fun _ _=>rfl) (Qh _) M' (fun b o h _ _=>h))
   | some x=>rw[Ub g];rw[hd,g]at X;exact YG (fun z=>nomatch z) ⟨_,rfl,l,_,_,_,rfl,rfl,SqL.of C,bm,q (some e.n) s 0 0 H X bS bu (fun _ _=>rfl) (Qh _) M' (fun b o h _ _=>h)⟩
  have c:2≤N.length:=by have:¬ ((N.length:Int)=1):=fun z=>d (decide_eq_true (by rw[fD,z]));lia
  have fE:1≤n:=by
   cases n with
   | zero=>simp at bZ;lia
   | succ m=>lia
  have uH:2 ^ n=2*2 ^ (n-1):=by obtain⟨m,rfl⟩:∃m,n=m+1:=⟨n-1,by lia⟩;rw[QaW,Qaf];lia
  have jB:(lo N).length≤2 ^ (n-1)∧(lo N).length≤60:=by unfold lo mid;rw[QA];lia
  have pY:(up N).length≤2 ^ (n-1)∧(up N).length≤60:=by unfold up mid;rw[QO];lia
  have uC:(lo N).length+(up N).length=N.length:=by rw[← Qj,XY]
  have gY:∀x∈lo N,x∈Zu L:=fun x g=>cU x (QS g);have gZ:∀x∈up N,x∈Zu L:=fun x g=>cU x (QV g);refine⟨_,rfl,l,N,rfl,SqL.of C,by lia,fun t f r H2 ht hf iA zk bE lm ck s2 zl zm=>?_⟩;rw[if_pos rfl]at bE;rw[Pc]at lm;rw[Pb]at ck;refine⟨t,_,rfl,SqT.of bE,rfl,_,_,rfl,_,_,rfl,rfl,?_⟩;have M2:=M.same s2;have bO:=s2 _ _ hm;have rM:r≠m:=(Zb hm iA).symm;have zK:r≠sd:=(Zb M.stays iA).symm;refine⟨_,rfl,m,dx,_,rfl,bO,OL ..,_,rfl,m,rd,sd,L,s,nb,li,lo',W,f,lo N,rfl,M2,lm,(WM c).2,jB.2,fE,jB.1,gY,SS u,fun k B=>dk k ⟨c,.inl B⟩,by lia,fun w1 s1 k1 q1 H3 i S1 P1 o1 l1 M3 b3=>?_⟩;have dH:=b3 _ _ ck rM zK;obtain⟨zL,zM⟩:=M3.ob;refine⟨_,rfl,m,zL,_,rfl,zM,OL ..,_,rfl,m,rd,sd,L,s1,nb,_,_,W,r,up N,rfl,M3,dH,(Wv c).2,pY.2,fE,pY.1,gZ,SR u,fun k B=>?_,by lia,fun w2 I k2 q2 H4 p S2 P2 o2 l2 M4 b4=>?_⟩
  ·rw[o1 k ((Pe u c B).2 n)];exact dk k ⟨c,.inr (.inl B)⟩
  have mV:¬ Xv n (lo N) (ZQ N)∧¬ Xv n (up N) (ZQ N):=⟨fun z=>(Pf u c z).1 rfl,fun z=>(Pe u c z).1 rfl⟩;have uY:XX (hdM L) I n (lo N):=S1.congr n _ (fun _ _=>rfl) (fun k B=>o2 k ((Pf u c B).2 n));have oG:Z1 I (ZQ N)=none:=by rw[o2 _ mV.2,o1 _ mV.1];exact dk _ ⟨c,.inr (.inr rfl)⟩
  have oth:∀j,¬ Xv (n+1) N j→Z1 I j=Z1 s j:=fun j hj=>by rw[o2 j (fun z=>hj ⟨c,.inr (.inl z)⟩),o1 j (fun z=>hj ⟨c,.inl z⟩)]
  have rN:∀b o,H b=some o→b≠m→b≠sd→H4 b=some o:=fun b o hb n1 n2=>b4 b o (b3 b o (s2 b o hb) n1 n2) n1 n2;have mW:∀wn,Win (hdM L) N wn→(Win (hdM L) (lo N) none∨Win (hdM L) (up N) none)→Q (YX wn) H4:=fun wn hw cn=>by
   refine q wn I (k1+k2) (q1+q2) H4 hw (fun _=>⟨uY,S2,fun a b x y wa wb _ _=>?_,fun _=>.inl oG⟩) (.none c P1 P2 cn) oth #[2] (M4.cast #[2] #[2]) rN;rcases cn with z|z
   ·exact nomatch z.one wa
   ·exact nomatch z.one wb
  cases w1 with
  | none=>exact⟨_,rfl,rfl,_,rfl,YI rfl ⟨_,rfl,mW w2 (by have:=Win.right i p;rwa [XY]at this) (.inl i)⟩⟩
  | some a =>
  refine⟨_,rfl,rfl,_,rfl,YG (fun z=>nomatch z) ?_⟩;cases w2 with
  | none=>exact⟨_,rfl,rfl,_,rfl,YI rfl ⟨_,rfl,mW (some a) (by have:=Win.left i p;rwa [XY]at this) (.inr p)⟩⟩
  | some b =>
  refine⟨_,rfl,rfl,_,rfl,YG (fun z=>nomatch z) ?_⟩;obtain⟨J,oO,lV⟩:=Ue (gY a i.1);obtain⟨O,oP,zN⟩:=Ue (gZ b p.1);subst lV;subst zN;have Y:=Vz M.nd oO;have Z:=Vz M.nd oP;cases g:J.ss[J.g]? with
  | none=>obtain⟨_,z,hz,_⟩:=i;rw[Y,g]at hz;cases hz
  | some x =>
  cases hy:O.ss[O.g]? with
  | none=>obtain⟨_,z,hz,_⟩:=p;rw[Z,hy]at hz;cases hz
  | some y =>
  rw[g]at Y;rw[hy]at Z;obtain⟨iC,gw⟩:=M4.ob;refine⟨_,rfl,m,iC,_,rfl,gw,KY ..,_,rfl,_,rfl,m,rd,sd,L,I,nb,_,_,W,J,O,x,y,0,rfl,M4,oO,oP,g,hy,Qx _,fun t5 wi D H5 hw rO mX M5 b5=>?_⟩;refine⟨t5,_,rfl,SqT.of mX,rfl,_,_,rfl,_,_,rfl,_,_,rfl,rfl,?_⟩;have j1:2≤sizeLine:=by decide
  refine⟨_,rfl,_,rfl,j1,fun F rP=>?_⟩;have s6:=Zh rP (.tup [.int D,.int ((lcp (cds x) (cds y):Nat):Int)]);have jj:(upd H5 F (.tup [.int D,.int ((lcp (cds x) (cds y):Nat):Int)])) F=some (.tup [.int D,.int ((lcp (cds x) (cds y):Nat):Int)]):=Zd;have M6:=M5.same s6;generalize upd H5 F (.tup [.int D,.int ((lcp (cds x) (cds y):Nat):Int)])=H6 at s6 jj M6 ⊢;obtain⟨rQ,oQ⟩:=M6.ob;have uZ:H6 l=some (.lst (N.map V.int)):=s6 _ _ (b5 _ _ (rN _ _ C uW zJ) uW);refine⟨_,rfl,m,U,rQ,_,_,rfl,oQ,T.cl_Merge,T.na_Merge_stays,UU ..,_,rfl,l,_,_,_,rfl,rfl,SqL.of uZ,KZ hN,_,rfl,_,rfl,l,_,_,_,rfl,rfl,SqL.of uZ,K0 hN,j1,fun t7 zO=>?_⟩;have s7:=Zh zO (.tup [.int (N.headD 0),.int (N.getLastD 0)]);have pZ:(upd H6 t7 (.tup [.int (N.headD 0),.int (N.getLastD 0)])) t7=some (.tup ([.inl (ZQ N).1,.inl (ZQ N).2].map kV)):=Zd;have M7:=M6.same s7;generalize upd H6 t7 (.tup [.int (N.headD 0),.int (N.getLastD 0)])=H7 at s7 pZ M7 ⊢;have gP:(kvS I).length<sizeLine:=by unfold kvS;rw[Qa];exact ZE #[2]
  refine⟨sd,_,rfl,YD.t (k:=[.inl (ZQ N).1,.inl (ZQ N).2]) M7.stays pZ gP,?_⟩;rw[show V.ref F=stV (some (F,D,((lcp (cds x) (cds y):Nat):Int))) from rfl,SU];have bu:=Zoa I (ZQ N) (some (F,D,((lcp (cds x) (cds y):Nat):Int)));have Jj:=(WM c).2;have M8:=M7.put (k:=ZQ N) (v:=some (F,D,((lcp (cds x) (cds y):Nat):Int))) (fun t ht=>by injection ht with ht;rw[← ht];exact s7 _ _ jj) #[2] (M.kb.key u c cU);have aV:J.n≠O.n:=fun z=>by have:=ZP u i.1 p.1;lia
  have zP:∀b o,H b=some o→b≠m→b≠sd→(upd H7 sd (.dT (kvS (Yo I (ZQ N) (some (F,D,((lcp (cds x) (cds y):Nat):Int))))))) b=some o:=fun b o hb n1 n2=>by rw[Zc n2];exact s7 _ _ (s6 _ _ (b5 _ _ (rN _ _ hb n1 n2) n1))
  have X:Win (hdM L) N (some wi):=by
   rcases hw with⟨S,rfl,_⟩|⟨S,rfl,_⟩
   ·have:=Win.both i p Y Z S;rwa [XY]at this
   ·have:=Win.both' i p Y Z ((Btr.total aV).resolve_left S);rwa [XY]at this
  have zQ:D=if ZV (cds x) (cds y)<0∨(ZV (cds x) (cds y)=0∧J.n<O.n) then O.n else J.n:=by
   rcases hw with⟨S,_,rfl⟩|⟨S,_,rfl⟩
   ·exact(if_pos (show ZV (cds x) (cds y)<0∨(ZV (cds x) (cds y)=0∧J.n<O.n) from S)).symm
   ·exact(if_neg (show ¬ (ZV (cds x) (cds y)<0∨(ZV (cds x) (cds y)=0∧J.n<O.n)) from S)).symm
  refine⟨_,rfl,q (some wi) _ (k1+k2+1) (q1+q2+(lcp (cds x) (cds y):Nat)+1) _ X (fun _=>⟨?_,?_,?_,fun cn=>?_⟩) (.both c P1 P2 i p Y Z) (fun j hj=>?_) #[2] (M8.cast #[2] #[2]) zP⟩
  ·exact uY.congr n _ (fun _ _=>rfl) (fun k B=>by rw[WL,if_neg (Pf u c B).1])
  ·exact S2.congr n _ (fun _ _=>rfl) (fun k B=>by rw[WL,if_neg (Pe u c B).1])
  ·intro a' b' x' y' wa wb j3 j4;have e1:=Qp (wa.one i);have e2:=Qp (wb.one p);subst e1;subst e2;have e3:=Qp (j3.symm.trans Y);have e4:=Qp (j4.symm.trans Z);subst e3;subst e4;exact⟨F,by rw[WL,if_pos rfl,zQ]⟩
  ·rcases cn with z|z
   ·exact nomatch z.one i
   ·exact nomatch z.one p
  ·rw[WL,if_neg (fun z=>hj ⟨c,.inr (.inr z)⟩)];exact oth j hj
theorem XV.mono{C:Addr}{H H':Hp}{e:Zv}(h:XV C H e)(k:∀b o,H b=some o→b=e.p∨b=e.k∨b=e.f→H' b=some o):XV C H' e:=by obtain⟨a,c⟩:=h.at'.ob;exact⟨⟨⟨a,k _ _ c #[8]⟩,k _ _ h.at'.ks (.inr #[8]),k _ _ h.at'.fs (.inr (.inr rfl))⟩,h.le,h.len,h.srt,h.str⟩
theorem KS(L:List Zv):(kvM L).map (fun a=>kV a.1)=(Zu L).map V.int:=by unfold kvM Zu;rw[Qg,Qg];rfl
theorem ZnC{n:Nat}{N:List Int}{k:Int×Int}(_:Xv n N k):Z1 [] k=none:=rfl
def Ua(c d:Addr):Sp:=fun vs H Q _=>∃ (m rd sd:Addr) (L:List Zv) (s:StL) (nb li lo:Int) (g:V),vs=[.ref m]∧ZS c d H m rd sd L s nb li lo g ∧
 ∀ (e:Addr) (f:StL) (w:Option Int) (k q:Int) (a:Hp),H e=none→Win (hdM L) (Zu L) w→XX (hdM L) f 8 (Zu L)→YU (hdM L) 8 (Zu L) k q→ZS c d a m rd e L f nb (li+k) (lo+q) (YX w)→(∀b o,H b=some o→b≠m→a b=some o)→Q .non a
theorem ZjK(T:Zt K mg ab U)(aY:Mf P w K mg base 12 U "play" ["self", "numbers"] (KW K ab U 8)):Mf P w K mg base 13 U "play_all" ["self"] (Ua ab U):=by
 refine T.t_Merge_play_all.mf Zfm (fun vs H Q E h=>?_) (fun af f A outer s H vs Q E hr h=>?_)
 ·obtain⟨m,j,sd,L,s,nb,p,lo,t,rfl,_⟩:=h;rfl
 obtain⟨m,j,sd,L,s,nb,p,i,t,rfl,M,q⟩:=h;refine⟨_,#[Ze,#[Yx,‹0›,(@Nd _ _)],#[Zj,#[Yx,‹0›,#[Xk,#[Zn,VX,#[Zk,MK,T.b.n_len,Qu,#[Za,#[ZM,‹0›],#[Zf]]],#[Zi],(Zp _)],#[XI,aY,T.cl_Merge,hr,‹0›,#[Za,#[Xq,MJ,T.b.n_list,boot_list,#[Za,#[ZM,‹0›],#[Zf]]],#[Zf]]],#[ZT]]]]],?_⟩;refine fun g u=>?_;obtain⟨y,J⟩:=M.ob;have z:=Zh u (.dT []);have N:(upd H g (.dT [])) g=some (.dT (kvS [])):=Zd;have M1:=M.same z;have O:=z _ _ J;have lr:m≠g:=Zb J u;have u0:j≠g:=Zb M.rows u;generalize upd H g (.dT [])=F at z N M1 O ⊢;refine⟨_,rfl,m,U,y,_,rfl,O,T.cl_Merge,T.na_Merge_stays,XD ..,?_⟩;rw[K1];obtain⟨n1,n2,n3⟩:=M.ne_m;have M2:ZS ab U (upd F m (.ins U y (mgF j nb p i g t))) m j g L [] nb p i t:=by refine⟨⟨y,Zd⟩,by rw[Zc n1.symm];exact M1.rows,by rw[Zc lr.symm];exact N,(fun e B=>by cases B),fun e B=>?_,M.up,M.pd,M.few,by decide,⟨(fun x G=>by cases G),M.kb.2⟩⟩;obtain⟨a,b,c⟩:=M1.ne_p B;exact(M1.each e B).keep (Zc a.symm) (Zc b.symm) (Zc c.symm)
 have k2:∀b o,H b=some o→b≠m→(upd F m (.ins U y (mgF j nb p i g t))) b=some o:=fun b o v n=>by rw[Zc n];exact z b o v
 generalize upd F m (.ins U y (mgF j nb p i g t))=R at M2 k2 ⊢;obtain⟨C,D⟩:=M2.ob;have ao:(((kvM L).length:Nat):Int)=(L.length:Int):=by unfold kvM;rw[Qa]
 have eI:(Zu L).length=L.length:=by unfold Zu;rw[Qa]
 have bW:=M.few;refine⟨_,rfl,m,U,C,_,_,rfl,D,T.cl_Merge,T.na_Merge_rows,XF ..,j,_,rfl,M2.rows,_,_,rfl,rfl,_,rfl,YW (fun d=>?_) (fun d=>?_)⟩
 ·have e8:0<L.length:=by have:(0:Int)<(((kvM L).length:Nat):Int):=of_decide_eq_true d;lia
  refine⟨_,rfl,m,C,_,rfl,D,OL ..,_,rfl,m,U,C,_,_,rfl,D,T.cl_Merge,T.na_Merge_rows,XF ..,j,_,rfl,M2.rows,fun l hl=>?_⟩;rw[KS];have I:=Zh hl (.lst ((Zu L).map V.int));have X:(upd R l (.lst ((Zu L).map V.int))) l=some (.lst ((Zu L).map V.int)):=Zd;have Y:=M2.same I;generalize upd R l (.lst ((Zu L).map V.int))=H3 at I X Y ⊢;refine⟨m,j,g,L,[],nb,p,i,t,l,Zu L,rfl,Y,X,by lia,by lia,by decide,Qv (by lia:(Zu L).length≤60) #[6],fun x G=>G,M.up,fun k hk=>ZnC hk,by show 0+_≤_;lia,fun w1 s' k q' H4 W S Pl _ _ Z b4=>?_⟩;obtain⟨iC,gw⟩:=Z.ob;refine⟨_,rfl,m,U,iC,_,rfl,gw,T.cl_Merge,T.na_Merge_best,XD ..,?_⟩;rw[Uc];exact q g s' w1 k q' _ u W S Pl Z.obj (fun b o v n=>by rw[Zc n];exact b4 b o (I b o (k2 b o v n)) n (Zb v u))
 ·have mY:L=[]:=by
   cases L with
   | nil=>rfl
   | cons e r=>exact absurd (decide_eq_true (show (0:Int)<(((kvM (e::r)).length:Nat):Int) by rw[ao];simp only[List.length_cons];lia)) d
  subst mY;refine⟨_,rfl,m,U,C,_,rfl,D,T.cl_Merge,T.na_Merge_best,XD ..,?_⟩;rw[Uc];exact q g [] none 0 0 _ u (Win.nil _) (fun h2=>absurd h2 #[6]) (.few #[6]) (M2.obj.cast #[2] #[2]) (fun b o v n=>by rw[Zc n];exact k2 b o v n)
def T9(L:List Zv)(a:List (Addr×List Str)):Prop:=Zu L=Yg 0 a.length∧L.map (fun e=>(e.ss,e.g))=a.map fun x=>(x.2,0)
def OK(g d:Addr):Sp:=fun vs H Q _=>∃ (m dx r:Addr) (a:List (Addr×List Str)),vs=[.ref m,.ref r]∧H m=some (.ins d dx [])∧Wu H r a∧(∀x∈a,sortedS x.2=true) ∧
 ∀ (e f:Addr) (L:List Zv) (s:StL) (w:Option Int) (k q:Int) (c:Hp),ZS g d c m e f L s (a.length:Int) k q (YX w)→T9 L a→Win (hdM L) (Zu L) w→XX (hdM L) s 8 (Zu L)→YU (hdM L) 8 (Zu L) k q→(∀b,Fp m e f L b→b=m∨H b=none)→(∀b o,H b=some o→b≠m→c b=some o)→Q .non c
theorem Sy(rd:Addr)(nb li lo:Int)(sd:Addr)(a:V):(mgF rd nb li lo sd a).lookup ("play_all" : Str)=none:=X5 _ _ _ _ _ _ #[1] #[1] #[1] #[1] #[1] #[1]
theorem OJ{ss:List Str}(h:sortedS ss=true):Uh ss .non:=by refine .inl ⟨rfl,fun i x y a b=>?_⟩;have:=LI h i y x b a;have:=Wb (cds y) (cds x);lia
theorem Zhn(T:Zt K mg ab U)(au:Df P w K mg base 5 "refuse_break" ["number", "keys"] (Ug K))(aL:Cf P w K mg base 4 ab "Row" ["self", "keys"] (SV ab))(ai:Mf P w K mg base 13 U "play_all" ["self"] (Ua ab U)):Cf P w K mg base 14 U "Merge" ["self", "rows"] (OK ab U):=by
 refine T.t_Merge_init.cf PN (fun vs H Q E h=>?_) (fun af f A outer s H vs Q E hr h=>?_)
 ·obtain⟨m,g,r,l,rfl,_⟩:=h;rfl
 obtain⟨m,g,r,l,rfl,Z,N,b9,q⟩:=h;refine⟨_,#[Ze,#[Yx,‹0›,(@Tp _ _)],#[Ze,#[XR,PassesOwn.never,#[iE,K,T.b.n_enumerate,#[Za,‹1›,#[Zf]]],#[gT,K,2,#[ZC,#[ZD,2,PN.nd],#[ZC,#[ZD,3,PN.nd],(@X6 _)]]],#[Ze,#[Yy,#[ZB,au,hr,#[Za,‹2›,#[Za,‹3›,#[Zf]]],#[5]]],#[Zj,#[Z2,#[Wh,aL,hr,#[Za,‹3›,#[Zf]]],#[Ys,#[ZM,‹0›],‹2›,(X9 hr)]]]]],#[Ze,#[Yx,‹0›,#[Zk,(Yv K),T.b.n_len,Qu,#[Za,‹1›,#[Zf]]]],#[Ze,#[Yx,‹0›,#[Zi]],#[Ze,#[Yx,‹0›,#[Zi]],#[Ze,#[Yx,‹0›,(@Nd _ _)],#[Ze,#[Yx,‹0›,#[ZT]],#[Zj,#[Yy,#[YQ,ai,T.cl_Merge,hr,‹0›]]]]]]]]]],?_⟩;refine fun c h7=>?_;have rR:m≠c:=Zb Z h7;have s1:=Zh h7 (.dK []);have ce:(upd H c (.dK [])) c=some (.dK (kvM [])):=Zd;have cb:=s1 _ _ Z;generalize upd H c (.dK [])=H1 at s1 ce cb ⊢;refine⟨_,rfl,m,U,g,_,rfl,cb,T.cl_Merge,T.na_Merge_rows,(by show 0<1000;decide),?_⟩;have mZ:r≠m:=fun z=>by have:=N.at';rw[z,Z]at this;cases this
 have k2:∀b o,H b=some o→b≠m→(upd H1 m (.ins U g (Zx "rows" (.ref c) []))) b=some o:=fun b o d n=>by rw[Zc n];exact s1 b o d
 have bO:(upd H1 m (.ins U g (Zx "rows" (.ref c) []))) m=some (.ins U g (Zx "rows" (.ref c) [])):=Zd;have ck:(upd H1 m (.ins U g (Zx "rows" (.ref c) []))) c=some (.dK (kvM [])):=by rw[Zc rR.symm];exact ce
 generalize upd H1 m (.ins U g (Zx "rows" (.ref c) []))=H2 at k2 bO ck ⊢;have bW:=N.few;have zR:(Zx "rows" (.ref c) []).lookup ("rows" : Str)=some (V.ref c):=by rw[Zm,if_pos rfl]
 refine⟨_,rfl,r,_,rfl,SqL.of (k2 _ _ N.at' mZ),?_⟩;refine RH (K:=K) (a:=r) (xs:=l.map fun x=>V.ref x.1) (fun i σ t=>∃ (L:List Zv) (v2 v3:Option V),σ=[some (.ref m),some (.ref r),v2,v3]∧t m=some (.ins U g (Zx "rows" (.ref c) []))∧t c=some (.dK (kvM L))∧(∀e∈L,XV ab t e)∧T9 L (l.take i)∧(L.map (·.p)).Nodup∧(∀e∈L,H e.p=none∧H e.k=none∧H e.f=none)∧(∀b o,H b=some o→b≠m→t b=some o)) ⟨[],_,_,rfl,bO,ck,(fun e h=>by cases h),⟨rfl,rfl⟩,List.nodup_nil,(fun e h=>by cases h),k2⟩ (fun i σ t hq=>by obtain⟨_,_,_,_,_,_,_,_,_,_,k5⟩:=hq;exact SqL.of (k5 _ _ N.at' mZ)) ?_ ?_
 ·rintro i y σ t p hy ⟨L,v2,v3,rfl,I,F,C,⟨n1,n2⟩,pd,cH,k5⟩ hp;rw[Qo]at hy;cases hz:l[i]? with
  | none=>rw[hz]at hy;cases hy
  | some x =>
  rw[hz]at hy;cases hy;have bv:i<l.length:=(Qf.mp hz).1;have rS:=Qz hz;obtain⟨lx,dS,gc⟩:=N.lst x rS;have zS:x.1≠m:=fun z=>by rw[z,Z]at lx;cases lx
  have oK:L.length=i:=by have:=congrArg List.length n1;unfold Zu at this;rw[Qa,UI,QA]at this;lia
  have am:∀e∈L,e.n≠(i:Int):=fun e he z=>by
   have h1:e.n∈Yg 0 (l.take i).length:=by rw[← n1];exact Qd (f:=fun e:Zv=>e.n) he
   unfold Yg at h1;obtain⟨j,hj,ej⟩:=Qi.mp h1;have:=Q1.mp hj;rw[QA]at this;lia
  have sp:=Zh hp (.tup [.int (i:Int),.ref x.1]);have mU:(upd t p (.tup [.int (i:Int),.ref x.1])) p=some (.tup [.int (i:Int),.ref x.1]):=Zd;generalize upd t p (.tup [.int (i:Int),.ref x.1])=H6 at sp mU ⊢;refine⟨p,_,rfl,SqT.of mU,rfl,_,_,rfl,_,_,rfl,rfl,?_⟩;have u4:H6 x.1=some (.lst (x.2.map V.str)):=sp _ _ (k5 _ _ lx zS);refine⟨_,rfl,_,rfl,(i:Int),x.1,x.2,rfl,SqL.of u4,by lia,fun s hs=>(gc s hs).1,OJ (b9 x rS),fun H7 s7=>?_⟩;have u5:=sp.trans s7;refine⟨_,rfl,fun u G hu fI u6=>?_⟩;have O:t u=none:=u5.free hu;have u7:(upd (upd H7 G (.own u)) u (.ins ab G [])) x.1=some (.lst (x.2.map V.str)):=by have:=s7 _ _ u4;rw[Zc (Zb this hu),Zc (Zb this fI)];exact this
  have s8:∀b o,t b=some o→(upd (upd H7 G (.own u)) u (.ins ab G [])) b=some o:=fun b o d=>by have:=u5 _ _ d;rw[Zc (Zb this hu),Zc (Zb this fI)];exact this
  have m3:(upd (upd H7 G (.own u)) u (.ins ab G [])) u=some (.ins ab G []):=Zd;generalize upd (upd H7 G (.own u)) u (.ins ab G [])=X at u7 s8 m3 ⊢;refine⟨u,G,x.1,x.2,rfl,m3,u7,dS,fun s hs=>(gc s hs).1,fun k f H9 hk D oH R k9=>⟨rfl,?_⟩⟩;have s9:∀b o,t b=some o→H9 b=some o:=fun b o d=>k9 b o (s8 b o d) (Zb d O);have Y:∀b,X b=none→t b=none:=fun b d=>by
   cases e:t b with
   | none=>rfl
   | some o=>rw[s8 b o e]at d;cases d
  have gx:∀b,b≠m→t b=none→H b=none:=fun b nb d=>by
   cases e:H b with
   | none=>rfl
   | some o=>rw[k5 b o e nb]at d;cases d
  have num:u≠m:=fun z=>by rw[z,I]at O;cases O
  have zT:k≠m:=fun z=>by have:=Y k hk;rw[z,I]at this;cases this
  have rM:f≠m:=fun z=>by have:=Y f D;rw[z,I]at this;cases this
  have j5:c≠u∧c≠k∧c≠f:=⟨Zb F O,Zb F (Y k hk),Zb F (Y f D)⟩;have hsz:(kvM L).length<sizeLine:=by unfold kvM;rw[Qa];exact ZE #[2]
  have fE:Z5 (kvM L) (.inl (i:Int))=none:=by
   cases hv:Z5 (kvM L) (.inl (i:Int)) with
   | none=>rfl
   | some v=>obtain⟨e,he,z⟩:=Qi.mp (Wg hv);injection z with z _;exact absurd (Sum.inl.inj z) (am e he)
  refine⟨_,rfl,m,U,g,_,_,rfl,s9 _ _ I,T.cl_Merge,T.na_Merge_rows,zR,_,rfl,c,_,rfl,YD.k (k:=.inl (i:Int)) (s9 _ _ F) hsz,?_⟩;rw[Wz _ fE,show kvM L++[((.inl (i:Int):Key),V.ref u)]=kvM (L++[⟨(i:Int),u,k,f,x.2,0⟩]) by unfold kvM;rw[Qe];rfl];refine⟨L++[⟨(i:Int),u,k,f,x.2,0⟩],_,_,rfl,by rw[Zc rR];exact s9 _ _ I,Zd,fun e he=>?_,⟨?_,?_⟩,?_,fun e he=>?_,fun b o d n=>?_⟩
  ·rcases Qm.mp he with he|he
   ·have J:=C e he;obtain⟨de,bJ⟩:=J.at'.ob;refine J.mono fun b o d aZ=>?_;have nb:b≠c:=fun z=>by
     rw[z,F]at d;injection d with d;subst d;rcases aZ with z2|z2|z2
     ·rw[← z2,z,F]at bJ;cases bJ
     ·have:=J.at'.ks;rw[← z2,z,F]at this;cases this
     ·have:=J.at'.fs;rw[← z2,z,F]at this;cases this
    rw[Zc nb];exact s9 b o d
   ·rw[Qn.mp he];refine XV.keep (H:=H9) ⟨R,Qx _,dS,b9 x rS,gc⟩ (Zc j5.1.symm) (Zc j5.2.1.symm) (Zc j5.2.2.symm)
  ·unfold Zu at n1 ⊢;rw[Qe,n1,QA,QA,Qas #[2],Qas #[2]];unfold Yg;rw[QaL,Qe];simp
  ·rw[Qe,n2,QJ,hz,Qe];rfl
  ·rw[Qe];refine Qaz.mpr ⟨pd,by simp,fun a ha b d=>?_⟩;obtain⟨e,he,rfl⟩:=Qi.mp ha;have:b=u:=by simpa using d
   rw[this];obtain⟨de,bJ⟩:=(C e he).at'.ob;exact Zb bJ O
  ·rcases Qm.mp he with he|he
   ·exact cH e he
   ·rw[Qn.mp he];exact⟨gx u num O,gx k zT (Y k hk),gx f rM (Y f D)⟩
  ·rw[Zc (Zb d h7)];exact s9 b o (k5 b o d n)
 ·rintro σ t ⟨L,v2,v3,rfl,I,F,C,cT,pd,cH,k5⟩;rw[Qa,Qw (Qh _)]at cT;have p1:=V9 "rows" (V.ref c) [];have p2:=V9 "next_number" (V.int (l.length:Int)) (Zx "rows" (.ref c) []);have p3:=V9 "likened" (V.int 0) (Zx "next_number" (.int (l.length:Int)) (Zx "rows" (.ref c) []));have p4:=V9 "looked" (V.int 0) (Zx "likened" (.int 0) (Zx "next_number" (.int (l.length:Int)) (Zx "rows" (.ref c) [])));have p0:([]:List (Str×V)).length=0:=rfl;refine⟨_,rfl,r,_,rfl,.inl (SqL.of (k5 _ _ N.at' mZ)),_,rfl,m,U,g,_,rfl,I,T.cl_Merge,T.na_Merge_next_number,by lia,?_⟩;rw[Qa];refine⟨_,rfl,m,U,g,_,rfl,Zd,T.cl_Merge,T.na_Merge_likened,by lia,?_⟩;refine⟨_,rfl,m,U,g,_,rfl,Zd,T.cl_Merge,T.na_Merge_looked,by lia,?_⟩;have k8:∀b,b≠m→(upd (upd (upd t m (.ins U g (Zx "next_number" (.int (l.length:Int)) (Zx "rows" (.ref c) [])))) m (.ins U g (Zx "likened" (.int 0) (Zx "next_number" (.int (l.length:Int)) (Zx "rows" (.ref c) []))))) m (.ins U g (Zx "looked" (.int 0) (Zx "likened" (.int 0) (Zx "next_number" (.int (l.length:Int)) (Zx "rows" (.ref c) [])))))) b=t b:=fun b n=>by rw[Zc n,Zc n,Zc n]
  have gy:(upd (upd (upd t m (.ins U g (Zx "next_number" (.int (l.length:Int)) (Zx "rows" (.ref c) [])))) m (.ins U g (Zx "likened" (.int 0) (Zx "next_number" (.int (l.length:Int)) (Zx "rows" (.ref c) []))))) m (.ins U g (Zx "looked" (.int 0) (Zx "likened" (.int 0) (Zx "next_number" (.int (l.length:Int)) (Zx "rows" (.ref c) [])))))) m=some (.ins U g (Zx "looked" (.int 0) (Zx "likened" (.int 0) (Zx "next_number" (.int (l.length:Int)) (Zx "rows" (.ref c) []))))):=Zd;generalize (upd (upd (upd t m (.ins U g (Zx "next_number" (.int (l.length:Int)) (Zx "rows" (.ref c) [])))) m (.ins U g (Zx "likened" (.int 0) (Zx "next_number" (.int (l.length:Int)) (Zx "rows" (.ref c) []))))) m (.ins U g (Zx "looked" (.int 0) (Zx "likened" (.int 0) (Zx "next_number" (.int (l.length:Int)) (Zx "rows" (.ref c) []))))))=X at k8 gy ⊢;refine fun B iD=>?_;have lr:m≠B:=Zb gy iD;have p5:=V9 "stays" (V.ref B) (Zx "looked" (.int 0) (Zx "likened" (.int 0) (Zx "next_number" (.int (l.length:Int)) (Zx "rows" (.ref c) []))));refine⟨_,rfl,m,U,g,_,rfl,by rw[Zc lr];exact gy,T.cl_Merge,T.na_Merge_stays,by lia,?_⟩;refine⟨_,rfl,m,U,g,_,rfl,Zd,T.cl_Merge,T.na_Merge_best,by lia,?_⟩;have jk:t B=none:=by rw[← k8 B lr.symm];exact iD
  have j6:(upd (upd (upd X B (.dT [])) m (.ins U g (Zx "stays" (.ref B) (Zx "looked" (.int 0) (Zx "likened" (.int 0) (Zx "next_number" (.int (l.length:Int)) (Zx "rows" (.ref c) []))))))) m (.ins U g (Zx "best" .non (Zx "stays" (.ref B) (Zx "looked" (.int 0) (Zx "likened" (.int 0) (Zx "next_number" (.int (l.length:Int)) (Zx "rows" (.ref c) [])))))))) m=some (.ins U g (mgF c (l.length:Int) 0 0 B .non)):=by rw[V6];exact Zd
  have u8:(upd (upd (upd X B (.dT [])) m (.ins U g (Zx "stays" (.ref B) (Zx "looked" (.int 0) (Zx "likened" (.int 0) (Zx "next_number" (.int (l.length:Int)) (Zx "rows" (.ref c) []))))))) m (.ins U g (Zx "best" .non (Zx "stays" (.ref B) (Zx "looked" (.int 0) (Zx "likened" (.int 0) (Zx "next_number" (.int (l.length:Int)) (Zx "rows" (.ref c) [])))))))) B=some (.dT (kvS [])):=by rw[Zc lr.symm,Zc lr.symm];exact Zd
  have k9:∀b o,t b=some o→b≠m→(upd (upd (upd X B (.dT [])) m (.ins U g (Zx "stays" (.ref B) (Zx "looked" (.int 0) (Zx "likened" (.int 0) (Zx "next_number" (.int (l.length:Int)) (Zx "rows" (.ref c) []))))))) m (.ins U g (Zx "best" .non (Zx "stays" (.ref B) (Zx "looked" (.int 0) (Zx "likened" (.int 0) (Zx "next_number" (.int (l.length:Int)) (Zx "rows" (.ref c) [])))))))) b=some o:=fun b o d n=>by rw[Zc n,Zc n,Zc (Zb d jk),k8 b n];exact d
  generalize (upd (upd (upd X B (.dT [])) m (.ins U g (Zx "stays" (.ref B) (Zx "looked" (.int 0) (Zx "likened" (.int 0) (Zx "next_number" (.int (l.length:Int)) (Zx "rows" (.ref c) []))))))) m (.ins U g (Zx "best" .non (Zx "stays" (.ref B) (Zx "looked" (.int 0) (Zx "likened" (.int 0) (Zx "next_number" (.int (l.length:Int)) (Zx "rows" (.ref c) []))))))))=H9 at j6 u8 k9 ⊢;have oK:L.length=l.length:=by have:=congrArg List.length cT.1;unfold Zu at this;rw[Qa,UI]at this;exact this
  have M9:ZS ab U H9 m c B L [] (l.length:Int) 0 0 .non:=by
   refine⟨⟨g,j6⟩,k9 _ _ F rR.symm,u8,(fun e he=>by cases he),fun e he=>?_,by rw[cT.1];exact K5 _,pd,by lia,by decide,⟨(fun x hx=>by cases hx),Kb.of #[2] fun n hn=>by rw[cT.1]at hn;unfold Yg at hn;obtain⟨j,hj,ej⟩:=Qi.mp hn;have:=Q1.mp hj;lia⟩⟩;have J:=C e he;obtain⟨de,bJ⟩:=J.at'.ob;refine J.mono fun b o d aZ=>k9 b o d fun z=>?_;have D:=cH e he;have M:=Z;rw[← z]at M;rcases aZ with z2|z2|z2
   ·rw[z2,D.1]at M;cases M
   ·rw[z2,D.2.1]at M;cases M
   ·rw[z2,D.2.2]at M;cases M
  refine⟨_,rfl,m,g,_,rfl,j6,Sy ..,m,c,B,L,[],_,0,0,.non,rfl,M9,fun av s' w1 k q' dB cV W S Pl jl zU=>?_⟩;have gx:∀b,b≠m→H9 b=none→H b=none:=fun b nb d=>by
   cases e:H b with
   | none=>rfl
   | some o=>rw[k9 b o (k5 b o e nb) nb]at d;cases d
  refine q c av L s' w1 k q' dB (jl.cast #[2] #[2]) cT W S Pl (fun b d=>?_) (fun b o d n=>zU b o (k9 b o (k5 b o d n) n) n);rcases d with rfl|rfl|rfl|⟨e,he,d⟩
  ·exact .inl rfl
  ·exact .inr h7
  ·exact .inr (gx _ (fun z=>by rw[z,j6]at cV;cases cV) cV)
  ·have D:=cH e he;rcases d with rfl|rfl|rfl
   ·exact .inr D.1
   ·exact .inr D.2.1
   ·exact .inr D.2.2
def KR(a b:Addr):Sp:=fun vs H Q _=>∃ (m rd sd:Addr) (L:List Zv) (s:StL) (nb li lo:Int) (c:V),vs=[.ref m]∧ZS a b H m rd sd L s nb li lo c∧Q (.int li) H
def KQ(a b:Addr):Sp:=fun vs H Q _=>∃ (m rd sd:Addr) (L:List Zv) (s:StL) (nb li lo:Int) (c:V),vs=[.ref m]∧ZS a b H m rd sd L s nb li lo c∧Q (.int lo) H
theorem Zid(T:Zt K mg ab U):Mf P w K mg base 1 U "likenings" ["self"] (KR ab U):=by
 refine T.t_Merge_likenings.mf ZeW (fun a H Q E h=>?_) (fun af f A outer s H a Q E hr h=>?_)
 ·obtain⟨m,b,c,L,s,nb,d,lo,e,rfl,_⟩:=h;rfl
 obtain⟨m,b,c,L,s,nb,d,lo,e,rfl,M,q⟩:=h;refine⟨_,#[Zj,#[Zr,#[ZM,‹0›]]],?_⟩;obtain⟨g,i⟩:=M.ob;exact⟨_,rfl,m,U,g,_,_,rfl,i,T.cl_Merge,T.na_Merge_likened,Sz ..,q⟩
theorem Zof(T:Zt K mg ab U):Mf P w K mg base 1 U "looks" ["self"] (KQ ab U):=by
 refine T.t_Merge_looks.mf Zgr (fun a H Q E h=>?_) (fun af f A outer s H a Q E hr h=>?_)
 ·obtain⟨m,b,c,L,s,nb,d,lo,e,rfl,_⟩:=h;rfl
 obtain⟨m,b,c,L,s,nb,d,lo,e,rfl,M,q⟩:=h;refine⟨_,#[Zj,#[Zr,#[ZM,‹0›]]],?_⟩;obtain⟨g,i⟩:=M.ob;exact⟨_,rfl,m,U,g,_,_,rfl,i,T.cl_Merge,T.na_Merge_looked,OO ..,q⟩
def KP(a b:Addr):Sp:=fun vs H Q _=>∃ (m rd sd:Addr) (L:List Zv) (s:StL) (nb li lo:Int) (w:Option Int),vs=[.ref m]∧ZS a b H m rd sd L s nb li lo (YX w)∧Win (hdM L) (Zu L) w∧∀ (x:V) (H':Hp),K9 (L.map toL) H' x→ZG H H'→Q x H'
theorem Zl3(T:Zt K mg ab U)(r:Mf P w K mg base 2 ab "head" ["self"] (U0 ab)):Mf P w K mg base 3 U "coming" ["self"] (KP ab U):=by
 refine T.t_Merge_coming.mf Mn (fun u H Q E h=>?_) (fun af f A outer s H u Q E i h=>?_)
 ·obtain⟨m,j,v,L,s,nb,y,lo,w,rfl,_⟩:=h;rfl
 obtain⟨m,j,v,L,s,nb,y,lo,w,rfl,M,W,q⟩:=h;refine⟨_,#[Ze,#[Z0,#[Zn,Yb,#[ZM,‹0›],#[ZT],(Zp _)],#[Zj,#[Zr,#[ZT]]],#[ZF]],#[Ze,#[Zw,1,Mn.nd,#[3],#[Zl,(ixG i),#[ZM,‹0›],#[ZM,‹0›]]],#[Zj,#[Zr,#[YJ,#[Za,#[ZM,‹0›],#[Za,#[ZM,‹1›],#[Za,#[YQ,r,T.cl_Row,i,‹1›],#[Zf]]]]]]]]],?_⟩;obtain⟨b,c⟩:=M.ob;refine⟨_,rfl,m,U,b,_,_,rfl,c,T.cl_Merge,T.na_Merge_best,Ud ..,rfl,_,rfl,?_⟩;have l:Win (hdL (L.map toL)) ((L.map toL).map (·.1)) w:=by rw[Uf];exact W
 cases w with
 | none=>exact YI rfl (q _ H (.inl ⟨rfl,l⟩) (ZG.refl H))
 | some a =>
  obtain⟨e,d,rfl⟩:=Ue W.1;have R:=M.each e d;obtain⟨n,o⟩:=R.at'.ob;have B:=Vz M.nd d;cases g:e.ss[e.g]? with
  | none=>obtain⟨_,z,p,_⟩:=W;rw[B,g]at p;cases p
  | some x =>
  refine YG (fun z=>nomatch z) ?_;refine⟨_,rfl,m,U,b,_,_,rfl,c,T.cl_Merge,T.na_Merge_rows,XF ..,_,rfl,m,U,b,_,_,rfl,c,T.cl_Merge,T.na_Merge_best,Ud ..,j,_,rfl,ZR.k' (k:=.inl e.n) M.rows (V7 M.nd d),?_⟩;refine⟨_,rfl,m,U,b,_,_,rfl,c,T.cl_Merge,T.na_Merge_best,Ud ..,_,rfl,e.p,ab,n,_,_,rfl,o,T.cl_Row,T.na_Row_gone,U2 ..,_,rfl,e.p,n,_,rfl,o,UT ..,e.p,e.k,e.f,e.ss,e.g,rfl,R.at',(by show 3≤sizeLine;decide),fun t C=>?_⟩;rw[Ub g];exact q _ _ (.inr ⟨t,toL e,x,rfl,Qd d,g,Zd,l⟩) (Zh C _)
def KO(a b:Addr):Sp:=fun vs H Q _=>∃ (m rd sd:Addr) (L:List Zv) (s:StL) (nb li lo:Int) (c:V),vs=[.ref m]∧ZS a b H m rd sd L s nb li lo c∧∀H':Hp,ZG H H'→Q (.int (YC (L.map toL)).sum) H'
theorem Zim(k f:Addr)(g:Int):(YV k f g).lookup ("to_go" : Str)=none:=U1 _ _ _ #[1] #[1] #[1]
theorem Znu(T:Zt K mg ab U)(J:Mf P w K mg base 1 ab "to_go" ["self"] (SW ab)):Mf P w K mg base 2 U "left" ["self"] (KO ab U):=by
 refine T.t_Merge_left.mf Zhh (fun N H Q E h=>?_) (fun af f A outer s H N Q E O h=>?_)
 ·obtain⟨m,a,S,L,s,nb,W,lo,X,rfl,_⟩:=h;rfl
 obtain⟨m,a,S,L,s,nb,W,lo,X,rfl,M,q⟩:=h;refine⟨_,#[Zj,#[Zr,#[Zk,(Zst K),T.b.n_sum,boot_sum,#[Za,(@MT _ _ _ #[WQ,PD,(@Zpg _ _ _ _ _ _ #[ZM,‹0›] #[5] #[5]),(fun _ _ _ _=>#[cg,1,PD]),(fun _ _ _ _=>(@Wl _)),(fun _ _ _ _=>#[YQ,J,T.cl_Row,O,#[cw,1,PD]])]),#[Zf]]]]],?_⟩;obtain⟨Y,Z⟩:=M.ob;have bW:=M.few;refine⟨a,_,M.rows,True.intro,_,rfl,m,U,Y,_,_,rfl,Z,T.cl_Merge,T.na_Merge_rows,XF ..,a,_,rfl,M.rows,fun j B t=>?_⟩;have u:(upd H a (.frz j (.dK (kvM L)))) a=some (.frz j (.dK (kvM L))):=Zd;have k1:∀b x,H b=some x→b≠a→(upd H a (.frz j (.dK (kvM L)))) b=some x:=fun b x h n=>by rw[Zc n];exact h
 generalize upd H a (.frz j (.dK (kvM L)))=H1 at u k1 t ⊢;refine Zpn (d:=a) (o:=j) (kvs:=kvM L) (fun i zs D c=>(∃v:Option V,D=[some (.ref m),v])∧zs=(YC ((L.take i).map toL)).map V.int∧i≤L.length∧c B=some (.lst zs)∧ZG H1 c) ?_ (fun _ _ _ _ h=>h.2.2.2.2 _ _ u) ?_ ?_
 ·exact⟨⟨none,rfl⟩,rfl,Qx _,Zd,Zh t _⟩
 ·rintro i k x zs D c l ⟨⟨v,rfl⟩,rfl,hi,y,p⟩;unfold kvM at l;rw[Qo]at l;cases r:L[i]? with
  | none=>rw[r]at l;cases l
  | some e =>
  rw[r]at l;cases l;have bv:i<L.length:=(Qf.mp r).1;have C:=Qz r;have R:=M.each e C;obtain⟨_,_,_,n1,n2,n3⟩:=M.ne_sd C;have R2:XV ab c e:=R.mono fun b o g aZ=>p _ _ (k1 b o g (by rcases aZ with z|z|z<;>rw[z];exact n1.symm;exact n2.symm;exact n3.symm));obtain⟨dp,hp⟩:=R2.at'.ob;refine⟨_,rfl,e.p,dp,_,rfl,hp,Zim ..,e.p,e.k,e.f,e.ss,e.g,rfl,R2.at',y,(by unfold YC;rw[Qa,Qa,Qa,QA];exact ZE #[2]),⟨_,rfl⟩,?_,bv,Zd,fun b x g=>?_⟩
  ·rw[QJ,r,Qe];unfold YC;rw[Qe,Qe];rfl
  ·rw[Zc (Zb g t)];exact p b x g
 rintro zs D c ⟨⟨v,rfl⟩,rfl,_,y,p⟩;have jm:(kvM L).length=L.length:=by unfold kvM;rw[Qa]
 rw[jm,Qw (Qh _)]at y;refine⟨j,p _ _ u,?_⟩;have F:(upd c a (.dK (kvM L))) B=some (.lst ((YC (L.map toL)).map V.int)):=by rw[Zc (Zb u t).symm];exact y
 have G:ZG H (upd c a (.dK (kvM L))):=fun b x g=>by
  by_cases e:b=a
  ·rw[e,M.rows]at g;rw[e,Zd];exact g
  ·rw[Zc e];exact p _ _ (k1 b x g e)
 generalize upd c a (.dK (kvM L))=H3 at F G ⊢;refine⟨B,YC (L.map toL),rfl,SqL.of F,(by unfold YC;rw[Qa,Qa];lia),fun n I=>?_,q H3 G⟩;unfold YC at I;obtain⟨e',aD,rfl⟩:=Qi.mp I;obtain⟨e,C,rfl⟩:=Qi.mp aD;have R:=M.each e C;have a1:=R.le;have a2:=R.len;show 0≤((e.ss.length:Int)-(e.g:Int))∧((e.ss.length:Int)-(e.g:Int))≤_;lia
theorem Zmw(ss:List Str)(g:Nat):Xi ss g=oV ss[g]?:=by unfold Xi oV;cases ss[g]?<;>rfl
def Agr(Lo:List ZA)(L:List Zv):Prop:=Lo.map (fun e=>(e.1,e.2.2))=L.map (fun e=>(e.n,(e.ss,e.g)))
theorem KN{Lo:List ZA}{L:List Zv}(h:Agr Lo L){α:Type}(F:Int×List Str×Nat→α):Lo.map (fun e=>F (e.1,e.2.2))=(L.map toL).map (fun e=>F (e.1,e.2.2)):=by have:=congrArg (List.map F) h;rw[Qg,Qg]at this;rw[Qg];exact this
theorem Xt{Lo:List ZA}{L:List Zv}(h:Agr Lo L):Lo.map (·.1)=Zu L:=by have:=KN h (fun x=>x.1);rw[show (L.map toL).map (fun e=>e.1)=Zu L from Uf L]at this;exact this
theorem Sx:∀ (A B:List ZA),A.map (fun e=>(e.1,e.2.2))=B.map (fun e=>(e.1,e.2.2))→hdL A=hdL B
 | [],[],_=>rfl
 | [],_::_,h=>by cases h
 | _::_,[],h=>by cases h
 | a::A,b::B,h=>by
  rw[Qk,Qk]at h;injection h with h1 h2;injection h1 with d h4;have f:=Sx A B h2;funext n;have c:=congrFun f n;unfold hdL at c ⊢;rw[Qac,Qac,d];split
  ·simp only[Option.bind_some];rw[h4]
  ·exact c
theorem Vy{Lo:List ZA}{L:List Zv}(h:Agr Lo L):hdL Lo=hdM L:=Sx _ _ (KN h (fun x=>x))
theorem KL{α c d e:Type}{f:α→d}{i:c→d}{g:α→e}{g':c→e}:∀ (xs:List α) (ys:List c),xs.map f=ys.map i→xs.map g=ys.map g'→xs.map (fun x=>(f x,g x))=ys.map (fun y=>(i y,g' y))
 | [],[],_,_=>rfl
 | [],_::_,h,_=>by cases h
 | _::_,[],h,_=>by cases h
 | a::A,b::B,h,k=>by rw[Qk,Qk]at h k;injection h with h1 h2;injection k with k1 k2;rw[Qk,Qk,KL A B h2 k2,h1,k1]
theorem ZoC{Lo:List ZA}{L:List Zv}{a b:List (Addr×List Str)}(h:SD Lo a)(k:T9 L b)(e:a.map (·.2)=b.map (·.2)):Agr Lo L:=by
 have c:a.length=b.length:=by have:=congrArg List.length e;rw[Qa,Qa]at this;exact this
 have d:a.map (fun x=>(x.2,0))=b.map (fun x=>(x.2,0)):=by have:=congrArg (List.map fun y:List Str=>(y,0)) e;rw[Qg,Qg]at this;exact this
 exact KL Lo L (by rw[h.1,c];exact k.1.symm) (by rw[h.2,d];exact k.2.symm)
theorem Ws{α a:Type}:∀ {P:List (α×a)},(P.map (·.1)).Nodup→∀ {p q:α×a},p∈P→q∈P→p.1=q.1→p=q
 | [],_,_,_,h,_,_=>by cases h
 | x::r,nd,p,q,hp,hq,e=>by
  rw[Qk,QR]at nd;rcases QG.mp hp with h1|h1
  ·rcases QG.mp hq with h2|h2
   ·rw[h1,h2]
   ·exact absurd (show x.1∈r.map (·.1) by rw[← h1,e];exact Qd (f:=fun x:α×a=>x.1) h2) nd.1
  ·rcases QG.mp hq with h2|h2
   ·exact absurd (show x.1∈r.map (·.1) by rw[← h2,← e];exact Qd (f:=fun x:α×a=>x.1) h1) nd.1
   ·exact Ws nd.2 h1 h2 e
def ZrH(x:V):Prop:=x=.non∨(∃b,x=.bl b)∨(∃i,x=.int i)∨∃s,x=.str s
structure F2 (R:V→V→Prop) (xs ys:List V):Prop where
 len:xs.length=ys.length
 at':∀ (i:Nat) (x y:V),xs[i]? = some x→ys[i]? = some y→R x y
theorem F2.nil{R:V→V→Prop}:F2 R [] []:=⟨rfl,fun i x y h=>by simp at h⟩
theorem F2.cons{R:V→V→Prop}{x y:V}{xs ys:List V}(h:R x y)(t:F2 R xs ys):F2 R (x::xs) (y::ys):=by
 refine⟨by rw[QM,QM,t.len],fun i a b c d=>?_⟩;cases i with
 | zero=>simp at c d;rw[← c,← d];exact h
 | succ i=>exact t.at' i a b (by simpa using c) (by simpa using d)
theorem Sw{H:Hp}{n:Nat}{x:V}(h:ZrH x):IsD H (n+1) x x:=.inl ⟨rfl,h⟩
theorem V5{H:Hp}{n:Nat}(i:Int):IsD H (n+1) (.int i) (.int i):=Sw (.inr (.inr (.inl ⟨i,rfl⟩)))
theorem Zpy{H:Hp}{n:Nat}{p q:Addr}{xs ys:List V}(hp:H p=some (.lst xs))(hq:H q=some (.lst ys))(h:xs.length≤1000)(f:F2 (IsD H n) xs ys):IsD H (n+1) (.ref p) (.ref q):=.inr ⟨p,q,xs,ys,rfl,rfl,.inl ⟨hp,hq⟩,f.len,h,f.at'⟩
theorem KJ{H:Hp}{n:Nat}{p q:Addr}{xs ys:List V}(hp:H p=some (.tup xs))(hq:H q=some (.tup ys))(h:xs.length≤1000)(f:F2 (IsD H n) xs ys):IsD H (n+1) (.ref p) (.ref q):=.inr ⟨p,q,xs,ys,rfl,rfl,.inr ⟨hp,hq⟩,f.len,h,f.at'⟩
theorem OI(rd:Addr)(nb li lo:Int)(sd:Addr)(a:V):(mgF rd nb li lo sd a).lookup ("likenings" : Str)=none:=X5 _ _ _ _ _ _ #[1] #[1] #[1] #[1] #[1] #[1]
theorem OH(rd:Addr)(nb li lo:Int)(sd:Addr)(a:V):(mgF rd nb li lo sd a).lookup ("looks" : Str)=none:=X5 _ _ _ _ _ _ #[1] #[1] #[1] #[1] #[1] #[1]
theorem Zil(rd:Addr)(nb li lo:Int)(sd:Addr)(a:V):(mgF rd nb li lo sd a).lookup ("coming" : Str)=none:=X5 _ _ _ _ _ _ #[1] #[1] #[1] #[1] #[1] #[1]
theorem KI(rd:Addr)(nb li lo:Int)(sd:Addr)(a:V):(mgF rd nb li lo sd a).lookup ("left" : Str)=none:=X5 _ _ _ _ _ _ #[1] #[1] #[1] #[1] #[1] #[1]
noncomputable def ZU(M:List Int)(n:Int):List Int:=if n∈lo M then lo M else up M
noncomputable def Z3(M:List Int)(n:Int):List Int:=if n∈lo M then up M else lo M
noncomputable def ZK:Nat→List Int→Int→List (List Int)
 | 0,_,_=>[]
 | k+1,M,n=>if 2≤M.length then ZK k (ZU M n) n++[M] else []
inductive Sub (N:List Int):List Int→Prop
 | top:Sub N N
 | lo {M:List Int}:Sub N M→2≤M.length→Sub N (lo M)
 | up {M:List Int}:Sub N M→2≤M.length→Sub N (up M)
theorem Sub.trans{A B C:List Int}(h:Sub A B)(k:Sub B C):Sub A C:=by
 induction k with
 | top=>exact h
 | lo _ a b=>exact b.lo a
 | up _ a b=>exact b.up a
theorem Sub.rise{N M:List Int}(h:Sub N M)(r:Z9 N):Z9 M:=by
 induction h with
 | top=>exact r
 | lo _ _ a=>exact SS a
 | up _ _ a=>exact SR a
theorem Sub.mem{N M:List Int}(h:Sub N M){x:Int}(hx:x∈M):x∈N:=by
 induction h with
 | top=>exact hx
 | lo _ _ a=>exact a (QS hx)
 | up _ _ a=>exact a (QV hx)
theorem Sub.len{N M:List Int}(h:Sub N M):M.length≤N.length:=by
 induction h with
 | top=>exact Qh _
 | lo _ a b=>exact Qv (Qam (WM a).1) b
 | up _ a b=>exact Qv (Qam (Wv a).1) b
theorem OG{M:List Int}(h:2≤M.length)(n:Int):Sub M (ZU M n):=by
 unfold ZU;split
 ·exact Sub.top.lo h
 ·exact Sub.top.up h
theorem OF{M:List Int}(h:2≤M.length)(n:Int):(ZU M n).length<M.length:=by
 unfold ZU;split
 ·exact(WM h).1
 ·exact(Wv h).1
theorem US{M:List Int}{n:Int}(h:n∈M):n∈ZU M n:=by
 unfold ZU;split
 ·assumption
 ·rename_i a;rw[← XY M]at h;exact(Qm.mp h).resolve_left a
theorem OE{M:List Int}(r:Z9 M){n:Int}(hn:n∈ZU M n):n ∉ Z3 M n:=by
 intro h;unfold Z3 ZU at *
 split at h
 ·rename_i a;have:=ZP r a h;lia
 ·rename_i a;exact a h
theorem Sv(M:List Int)(n:Int):(ZU M n++Z3 M n).Perm M:=by
 unfold ZU Z3;split
 ·rw[XY]
 ·exact List.perm_append_comm.trans (by rw[XY])
def Kys(M:List Int)(k:Int×Int):Prop:=∃a,Sub M a∧2≤a.length∧k=ZQ a
theorem Su{M:List Int}{k:Int×Int}(h:Kys M k):k.1∈M∧k.2∈M:=by obtain⟨b,s,h2,rfl⟩:=h;have a:b≠[]:=XH #[2];exact⟨s.mem (UZ a),s.mem (UY a)⟩
theorem KH{M:List Int}(r:Z9 M)(h2:2≤M.length){k:Int×Int}(h:Kys (lo M) k):k≠ZQ M∧¬ Kys (up M) k:=by
 have:=Su h;refine⟨fun z=>?_,fun m=>?_⟩
 ·have a:=Pj h2;rw[z,a]at this;have:=ZP r this.2 (UY (XH (Wv h2).2));lia
 ·have:=ZP r this.1 (Su m).1;lia
theorem KG{M:List Int}(r:Z9 M)(h2:2≤M.length){k:Int×Int}(h:Kys (up M) k):k≠ZQ M∧¬ Kys (lo M) k:=by
 have:=Su h;refine⟨fun z=>?_,fun m=>?_⟩
 ·have a:=Pg h2;rw[z,a]at this;have:=ZP r (UZ (XH (WM h2).2)) this.1;lia
 ·have:=ZP r (Su m).1 this.1;lia
theorem KD{M:List Int}(r:Z9 M)(h2:2≤M.length){n:Int}{k:Int×Int}(h:Kys (ZU M n) k):k≠ZQ M∧¬ Kys (Z3 M n) k:=by
 unfold ZU at h;unfold Z3;split
 ·rename_i a;rw[if_pos a]at h;exact KH r h2 h
 ·rename_i a;rw[if_neg a]at h;exact KG r h2 h
theorem KC{M:List Int}(r:Z9 M)(h2:2≤M.length){n:Int}{k:Int×Int}(h:Kys (Z3 M n) k):k≠ZQ M∧¬ Kys (ZU M n) k:=by
 unfold Z3 at h;unfold ZU;split
 ·rename_i a;rw[if_pos a]at h;exact KG r h2 h
 ·rename_i a;rw[if_neg a]at h;exact KH r h2 h
theorem OD{M c:List Int}(h:Sub M c):c=M∨(2≤M.length∧(Sub (lo M) c∨Sub (up M) c)):=by
 induction h with
 | top=>exact .inl rfl
 | lo h a b =>
  rcases b with rfl|⟨g,b⟩
  ·exact .inr ⟨a,.inl .top⟩
  ·exact .inr ⟨g,b.imp (fun z=>z.lo a) (fun z=>z.lo a)⟩
 | up h a b =>
  rcases b with rfl|⟨g,b⟩
  ·exact .inr ⟨a,.inr .top⟩
  ·exact .inr ⟨g,b.imp (fun z=>z.up a) (fun z=>z.up a)⟩
theorem Zn4{M a:List Int}(n:Int)(h:Sub M a):a=M∨(2≤M.length∧(Sub (ZU M n) a∨Sub (Z3 M n) a)):=by
 rcases OD h with h|⟨g,h⟩
 ·exact .inl h
 ·refine .inr ⟨g,?_⟩;unfold ZU Z3;split
  ·exact h
  ·exact h.symm
def WI(hd:Hd)(s:StL)(A B:List Int)(k:Int×Int):Prop :=
 (∀a b x y,Win hd A (some a)→Win hd B (some b)→hd a=some x→hd b=some y→∃t c,Z1 s k=some (some (t,c,((lcp x y:Nat):Int)))∧((Btr x a y b∧c=b)∨(Btr y b x a∧c=a))) ∧
 ((Win hd A none∨Win hd B none)→Z1 s k=none∨Z1 s k=some none)
theorem WI.swap{hd:Hd}{s:StL}{A B:List Int}{k:Int×Int}(h:WI hd s A B k):WI hd s B A k:=by refine⟨fun a b x y c d f g=>?_,fun hw=>h.2 hw.symm⟩;obtain⟨t,i,e,o⟩:=h.1 b a y x d c g f;exact⟨t,i,by rw[VC x y];exact e,o.symm⟩
def ZX(hd:Hd)(s:StL)(N:List Int):Prop:=∀M,Sub N M→2≤M.length→WI hd s (lo M) (up M) (ZQ M)
theorem ZX.sub{hd:Hd}{s:StL}{N M:List Int}(h:ZX hd s N)(k:Sub N M):ZX hd s M:=fun a h' h2=>h a (k.trans h') h2
theorem ZX.at_side{hd:Hd}{s:StL}{M:List Int}(h:ZX hd s M)(h2:2≤M.length)(n:Int):WI hd s (ZU M n) (Z3 M n) (ZQ M):=by
 have:=h M .top h2;unfold ZU Z3;split
 ·exact this
 ·exact this.swap
theorem Vx:∀ (n:Nat) (hd:Hd) (s:StL) (N:List Int),Z9 N→N.length≤2 ^ (n-1)→0<n→XX hd s n N→ZX hd s N
 | 0,_,_,_,_,_,h,_=>absurd h #[2]
 | n+1,hd,s,N,r,hl,_,h=>fun M hM h2=>by
  rw[Qaf]at hl;rcases OD hM with rfl|⟨g,hM⟩
  ·obtain⟨_,_,c1,c2⟩:=h h2;refine⟨fun a b x y d f j k=>?_,c2⟩;obtain⟨t,e⟩:=c1 a b x y d f j k;have jd:=ZP r d.1 f.1;by_cases c:ZV x y<0∨(ZV x y=0∧a<b)
   ·rw[if_pos c]at e;exact⟨t,b,e,.inl ⟨c,rfl⟩⟩
   ·rw[if_neg c]at e;exact⟨t,a,e,.inr ⟨(Btr.total (show a≠b by lia)).resolve_left c,rfl⟩⟩
  ·obtain⟨l,o,_⟩:=h g;have i:1≤n:=by
    cases n with
    | zero=>simp at hl;lia
    | succ m=>lia
   have hp:2 ^ n=2*2 ^ (n-1):=by obtain⟨m,rfl⟩:∃m,n=m+1:=⟨n-1,by lia⟩;rw[QaW,Qaf];lia
   rcases hM with hM|hM
   ·exact Vx n hd s (lo N) (SS r) (by unfold lo mid;rw[QA];lia) i l M hM h2
   ·exact Vx n hd s (up N) (SR r) (by unfold up mid;rw[QO];lia) i o M hM h2
theorem WI.congr{hd d:Hd}{s s':StL}{A B:List Int}{k:Int×Int}(h:WI hd s A B k)(ha:∀m∈A,d m=hd m)(hb:∀m∈B,d m=hd m)(hk:Z1 s' k=Z1 s k):WI d s' A B k:=by
 refine⟨fun a b x y e f g i=>?_,fun hw=>?_⟩
 ·rw[hk];exact h.1 a b x y (e.congr fun m c=>(ha m c).symm) (f.congr fun m c=>(hb m c).symm) (by rw[← ha a e.1];exact g) (by rw[← hb b f.1];exact i)
 ·rw[hk];exact h.2 (hw.imp (fun w=>w.congr fun m c=>(ha m c).symm) (fun w=>w.congr fun m c=>(hb m c).symm))
theorem ZX.congr{hd b:Hd}{s s':StL}{M:List Int}(h:ZX hd s M)(c:∀m∈M,b m=hd m)(hk:∀k,Kys M k→Z1 s' k=Z1 s k):ZX b s' M:=fun d hM h2 =>
 (h d hM h2).congr (fun m a=>c m (hM.mem (QS a))) (fun m a=>c m (hM.mem (QV a))) (hk _ ⟨d,hM,h2,rfl⟩)
theorem Zl6{hd:Hd}{s:StL}{M:List Int}{n:Int}(h1:ZX hd s (ZU M n))(b:ZX hd s (Z3 M n))(h:WI hd s (ZU M n) (Z3 M n) (ZQ M)):ZX hd s M:=fun a hM h2=>by
 rcases Zn4 n hM with rfl|⟨g,hM|hM⟩
 ·unfold ZU Z3 at h;split at h
  ·exact h
  ·exact h.swap
 ·exact h1 a hM h2
 ·exact b a hM h2
noncomputable def low(n:Int)(C:List (List Int)):Nat→List Int
 | 0=>[n]
 | i+1=>C.getD i []
theorem Ss:∀ (k:Nat) (M:List Int) (n:Int),n∈M→M.length≤2 ^ k→(∀i X,(ZK k M n)[i]? = some X→Sub M X∧2≤X.length∧n∈X∧ZU X n=low n (ZK k M n) i)∧low n (ZK k M n) (ZK k M n).length=M∧(ZK k M n).length≤k
 | 0,M,n,d,hl=>by
  refine⟨fun i X h=>by unfold ZK at h;simp at h,?_,Qh _⟩;have h1:M.length=1:=by have:=QaX d;simp at hl;lia
  obtain⟨x,rfl⟩:=Qar.mp h1;have:n=x:=by simpa using d
  rw[this];rfl
 | k+1,M,n,d,hl=>by
  unfold ZK;by_cases e:2≤M.length
  ·rw[if_pos e];have g:(ZU M n).length≤2 ^ k:=by
    rw[QaW]at hl;unfold ZU;split
    ·unfold lo mid;rw[QA];lia
    ·unfold up mid;rw[QO];lia
   obtain⟨a,b,c⟩:=Ss k (ZU M n) n (US d) g;refine⟨fun i X h=>?_,?_,by rw[Qj,QD];lia⟩
   ·have f:∀j,j≤(ZK k (ZU M n) n).length→low n (ZK k (ZU M n) n++[M]) j=low n (ZK k (ZU M n) n) j:=fun j hj=>by
     cases j with
     | zero=>rfl
     | succ j=>show (ZK k (ZU M n) n++[M]).getD j []=(ZK k (ZU M n) n).getD j [];rw[QH,QH,QK #[2]]
    by_cases l:i<(ZK k (ZU M n) n).length
    ·rw[QK l]at h;obtain⟨m,o,p,q⟩:=a i X h;exact⟨(OG e n).trans m,o,p,by rw[f i #[2]];exact q⟩
    ·have r:i=(ZK k (ZU M n) n).length:=by have:=(Qf.mp h).1;rw[Qj,QD]at this;lia
     subst r;rw[QL (Qh _),QaE]at h;cases h;exact⟨.top,e,d,by rw[f _ (Qh _),b]⟩
   ·rw[Qj,QD];show (ZK k (ZU M n) n++[M]).getD _ []=M;rw[QH,QL (Qh _),QaE];rfl
  ·rw[if_neg e];refine⟨fun i X h=>by simp at h,?_,Qx _⟩;have h1:M.length=1:=by have:=QaX d;lia
   obtain⟨x,rfl⟩:=Qar.mp h1;have:n=x:=by simpa using d
   rw[this];rfl
structure Tk (hd aG:Hd) (N:List Int) (n:Int) (z:List Nat):Prop where
 win:Win hd N (some n)
 key:hd n=some z
 oth:∀b,b≠n→aG b=hd b
 nxt:∀x,aG n=some x→ZV z x≤0
 up:Z9 N
theorem Tk.ge{hd a:Hd}{N:List Int}{n:Int}{z:List Nat}(h:Tk hd a N n z){b:Int}(hb:b∈N){y:List Nat}(hy:a b=some y):ZV z y≤0:=by
 by_cases e:b=n
 ·exact h.nxt y (by rw[← e];exact hy)
 ·obtain⟨_,x,c,hw⟩:=h.win;rw[h.key]at c;cases c;rw[h.oth b e]at hy;rcases hw b hb y hy with z|z
  ·exact absurd z e
  ·rcases z with z|z<;>lia
inductive Ag (hd:Hd) (z:List Nat):List (List Int×List Int)→Int→Int→Prop
 | nil:Ag hd z [] 0 0
 | no {C:List (List Int×List Int)} {A B:List Int} {k q:Int}:Ag hd z C k q→(Win hd A none∨Win hd B none)→Ag hd z (C++[(A,B)]) k q
 | eq {C:List (List Int×List Int)} {A B:List Int} {k q:Int} {a b:Int} {x y:List Nat}:Ag hd z C k q→Win hd A (some a)→Win hd B (some b)→hd a=some x→hd b=some y→lcp x z=lcp y z→Ag hd z (C++[(A,B)]) (k+1) (q+((lcp x y:Nat)-(lcp x z:Nat)+1))
 | ne {C:List (List Int×List Int)} {A B:List Int} {k q:Int} {a b:Int} {x y:List Nat}:Ag hd z C k q→Win hd A (some a)→Win hd B (some b)→hd a=some x→hd b=some y→lcp x z≠lcp y z→Ag hd z (C++[(A,B)]) (k+1) q
theorem OC{α:Type}{C D:List α}{c d:α}(h:C++[c]=D++[d]):C=D∧c=d:=by have:=List.append_inj' h rfl;exact⟨this.1,by simpa using this.2⟩
theorem Ag.last{hd:Hd}{z:List Nat}{D:List (List Int×List Int)}{k q:Int}(h:Ag hd z D k q):∀ {C:List (List Int×List Int)} {A B:List Int},D=C++[(A,B)]→∃k0 d,Ag hd z C k0 d∧(((Win hd A none∨Win hd B none)∧k=k0∧q=d)∨(∃a b x y,Win hd A (some a)∧Win hd B (some b)∧hd a=some x∧hd b=some y∧k=k0+1∧q=if lcp x z=lcp y z then d+((lcp x y:Nat)-(lcp x z:Nat)+1) else d)):=by
 intro C A B e;cases h with
 | nil=>simp at e
 | no g hw=>obtain⟨rfl,c⟩:=OC e;cases c;exact⟨_,_,g,.inl ⟨hw,rfl,rfl⟩⟩
 | eq g f i j l m=>obtain⟨rfl,c⟩:=OC e;cases c;exact⟨_,_,g,.inr ⟨_,_,_,_,f,i,j,l,rfl,by rw[if_pos m]⟩⟩
 | ne g f i j l m=>obtain⟨rfl,c⟩:=OC e;cases c;exact⟨_,_,g,.inr ⟨_,_,_,_,f,i,j,l,rfl,by rw[if_neg m]⟩⟩
theorem Ag.one{hd:Hd}{z:List Nat}{C:List (List Int×List Int)}{k q:Int}(h:Ag hd z C k q):∀ {k' e:Int},Ag hd z C k' e→k=k'∧q=e:=by
 induction h with
 | nil =>
  intro k' e g;generalize r:([]:List (List Int×List Int))=C at g;cases g with
  | nil=>exact⟨rfl,rfl⟩
  | no _ _=>simp at r
  | eq _ _ _ _ _ _=>simp at r
  | ne _ _ _ _ _ _=>simp at r
 | no g hw f =>
  intro k' e i;obtain⟨k0,D,j,o⟩:=i.last rfl;obtain⟨l,m⟩:=f j;rcases o with⟨_,rfl,rfl⟩|⟨a,b,x,y,c,d,_⟩
  ·exact⟨l,m⟩
  ·rcases hw with hw|hw
   ·exact nomatch hw.one c
   ·exact nomatch hw.one d
 | eq g c d s t u f =>
  intro k' e i;obtain⟨k0,D,j,o⟩:=i.last rfl;obtain⟨l,m⟩:=f j;rcases o with⟨hw,_⟩|⟨a,b,x,y,v,w,n,p,rfl,rfl⟩
  ·rcases hw with hw|hw
   ·exact nomatch hw.one c
   ·exact nomatch hw.one d
  ·have A:=Qp (c.one v);have B:=Qp (d.one w);subst A;subst B;rw[s]at n;cases n;rw[t]at p;cases p;rw[if_pos u];exact⟨by rw[l],by rw[m]⟩
 | ne g c d s t u f =>
  intro k' e i;obtain⟨k0,D,j,o⟩:=i.last rfl;obtain⟨l,m⟩:=f j;rcases o with⟨hw,_⟩|⟨a,b,x,y,v,w,n,p,rfl,rfl⟩
  ·rcases hw with hw|hw
   ·exact nomatch hw.one c
   ·exact nomatch hw.one d
  ·have A:=Qp (c.one v);have B:=Qp (d.one w);subst A;subst B;rw[s]at n;cases n;rw[t]at p;cases p;rw[if_neg u];exact⟨by rw[l],m⟩
theorem KA:∀ (x z y:List Nat),lcp z y<lcp x z→ZV x y=ZV z y
 | [],z,y,h=>by rw[lcp_nil']at h;lia
 | _::_,[],y,h=>by rw[U4]at h;lia
 | a::x,b::z,[],h=>by unfold ZV;rfl
 | a::x,b::z,c::y,h=>by
  unfold lcp at h;by_cases e:a=b
  ·subst e;rw[if_pos rfl]at h;by_cases d:a=c
   ·subst d;rw[if_pos rfl]at h;unfold ZV;rw[if_pos rfl,if_pos rfl];exact KA x z y #[2]
   ·unfold ZV;rw[if_neg d,if_neg d]
  ·rw[if_neg e]at h;lia
theorem ZoH{x z y:List Nat}(h:lcp z y<lcp x z):lcp x y=lcp z y:=by have:=Px x y z;rw[VC y z]at this;lia
theorem ZqD{x z y:List Nat}(h:lcp x z=lcp y z):lcp x z≤lcp x y:=by have:=Px x y z;lia
theorem Kz{x z y:List Nat}{a b:Int}(h:lcp y z<lcp x z)(c:ZV z y≤0):Btr x a y b∧lcp x y=lcp y z:=by
 rw[VC y z]at h ⊢;refine⟨.inl ?_,ZoH h⟩;rw[KA x z y h];rcases Int.lt_or_eq_of_le c with g|g
 ·exact g
 ·have e:=Pq _ _ g;subst e;rw[LX]at h;have:=(U5 x z).2;lia
noncomputable abbrev Com:=Option (Int×Int)
def T8(hd:Hd)(z:List Nat)(M:List Int)(c:Com):Prop:=Win hd M (c.map (·.1))∧∀p,c=some p→∃x,hd p.1=some x∧p.2=((lcp x z:Nat):Int)
theorem ZmR{hd c:Hd}{N M:List Int}{n:Int}{z:List Nat}{s:StL}(T:Tk hd c N n z)(hM:Sub N M)(h2:2≤M.length)(i:n∈M)(ok:ZX hd s N) :
  (Win c (Z3 M n) none∧(Z1 s (ZQ M)=none∨Z1 s (ZQ M)=some none))∨∃t b y,Win c (Z3 M n) (some b)∧c b=some y∧b∈N∧Z1 s (ZQ M)=some (some (t,b,((lcp y z:Nat):Int))):=by
 have r:=hM.rise T.up;have nd:=SQ r;have j:=OE r (US i);have k:=(ok.sub hM).at_side h2 n;have p:∀b∈Z3 M n,b∈M:=fun b d=>(Sv M n).mem_iff.mp (Qr _ d);have q:∀b∈ZU M n,b∈M:=fun b d=>(Sv M n).mem_iff.mp (QF _ d);have u:Win hd (ZU M n) (some n):=by obtain⟨_,x,f,hw⟩:=T.win;exact⟨US i,x,f,fun b d y a=>hw b (hM.mem (q b d)) y a⟩
 have g:∀m∈Z3 M n,c m=hd m:=fun m v=>T.oth m fun e=>j (e ▸ v);have A:(Z3 M n).Nodup:=by unfold Z3;split;exact SQ (SR r);exact SQ (SS r)
 obtain⟨w,hw⟩:=Win.ex hd (Z3 M n) A;cases w with
 | none=>exact .inl ⟨hw.congr g,k.2 (.inr hw)⟩
 | some b =>
  obtain⟨y,a⟩:∃y,hd b=some y:=by obtain⟨_,y,a,_⟩:=hw;exact⟨y,a⟩
  obtain⟨t,h,e,o⟩:=k.1 n b z y u hw T.key a;have l:=p b hw.1;have B:b≠n:=fun z=>j (z ▸ hw.1);have C:Btr z n y b:=by obtain⟨_,x,f,D⟩:=T.win;rw[T.key]at f;cases f;exact(D b (hM.mem l) y a).resolve_left B
  have E:h=b:=by
   rcases o with⟨_,e⟩|⟨e,_⟩
   ·exact e
   ·exact(C.asym e).elim
  subst E;exact .inr ⟨t,h,y,hw.congr g,by rw[g h hw.1];exact a,hM.mem l,by rw[VC y z];exact e⟩
theorem Ky(ns:List Int):(XZ ns).length=(ns.length+1) / 2:=by unfold XZ mid;rw[QA];lia
theorem Kx(ns:List Int):(WN ns).length=ns.length / 2:=by unfold WN mid;rw[QO];lia
noncomputable def WH:Nat→List Int→Int→List (List Int)
 | 0,_,_=>[]
 | f+1,ns,n=>if ns.length≤1 then [] else if n∈XZ ns then WN ns::WH f (XZ ns) n else XZ ns::WH f (WN ns) n
noncomputable def XU(ns:List Int)(n:Int):List Int:=if n∈XZ ns then XZ ns else WN ns
noncomputable def Wr(ns:List Int)(n:Int):List Int:=if n∈XZ ns then WN ns else XZ ns
theorem Sr{ns:List Int}{n:Int}(h:1<ns.length):(XU ns n).length<ns.length:=by
 unfold XU;split
 ·rw[Ky];lia
 ·rw[Kx];lia
theorem Znt{ns:List Int}{n:Int}(h:1<ns.length):0<(XU ns n).length:=by
 unfold XU;split
 ·rw[Ky];lia
 ·rw[Kx];lia
theorem OB{f:Nat}{ns:List Int}{n:Int}(h:1<ns.length):WH (f+1) ns n=Wr ns n::WH f (XU ns n) n:=by
 conv=>lhs;unfold WH
 rw[if_neg #[2]];unfold Wr XU;split<;>rfl
theorem Vw{f:Nat}{ns:List Int}{n:Int}(h:ns.length≤1):WH f ns n=[]:=by
 cases f with
 | zero=>rfl
 | succ f=>unfold WH;rw[if_pos h]
theorem Kw:∀ (f g:Nat) (ns:List Int) (n:Int),ns.length≤f+1→ns.length≤g+1→WH f ns n=WH g ns n
 | 0,g,ns,n,h,_=>by rw[Vw #[2],Vw #[2]]
 | f+1,0,ns,n,_,h=>by rw[Vw #[2],Vw #[2]]
 | f+1,g+1,ns,n,h1,h2=>by
  by_cases h:1<ns.length
  ·have:=Sr (n:=n) h;rw[OB h,OB h,Kw f g _ n #[2] #[2]]
  ·rw[Vw #[2],Vw #[2]]
noncomputable def way(ns:List Int)(n:Int):List (List Int):=WH ns.length ns n
theorem Kv{ns:List Int}{n:Int}(h:1<ns.length):way ns n=Wr ns n::way (XU ns n) n:=by
 unfold way;cases e:ns.length with
 | zero=>lia
 | succ f=>have:=Sr (n:=n) h;rw[OB h,Kw f (XU ns n).length _ n #[2] #[2]]
theorem OA{ns:List Int}{n:Int}(h:ns.length≤1):way ns n=[]:=Vw h
theorem Oz(n:Int):∀ns:List Int,inV (.int n) (ns.map V.int)=decide (n∈ns)
 | []=>rfl
 | m::r=>by
  have a:=Oz n r;unfold inV at a ⊢;rw[Qk,QaI,a];by_cases h:m=n
  ·subst h;simp[eqV]
  ·have:(m == n)=false:=by simpa using h
   simp[eqV,this,List.mem_cons,Ne.symm h]
theorem Oy:∀ns:List Int,(ns.map V.int).all WC=true
 | []=>rfl
 | _::r=>by rw[Qk,List.all_cons,Oy r];rfl
def Rd(H:Hp):List Addr→List (List Int)→Prop
 | [],[]=>True
 | l::a,d::ds=>H l=some (.lst (d.map V.int))∧Rd H a ds
 | _,_=>False
theorem Rd.len{H:Hp}:∀ {a:List Addr} {ds:List (List Int)},Rd H a ds→a.length=ds.length
 | [],[],_=>rfl
 | [],_::_,h=>h.elim
 | _::_,[],h=>h.elim
 | _::a,_::ds,h=>by rw[QM,QM,Rd.len h.2]
theorem Rd.mono{H H':Hp}:∀ {a:List Addr} {ds:List (List Int)},(∀l∈a,∀o,H l=some o→H' l=some o)→Rd H a ds→Rd H' a ds
 | [],[],_,_=>trivial
 | [],_::_,_,h=>h.elim
 | _::_,[],_,h=>h.elim
 | l::a,_::ds,k,h=>⟨k l #[4] _ h.1,Rd.mono (fun x hx=>k x (Qt _ hx)) h.2⟩
theorem Rd.app{H:Hp}:∀ {a:List Addr} {ds:List (List Int)} {b:List Addr} {c:List (List Int)},Rd H a ds→Rd H b c→Rd H (a++b) (ds++c)
 | [],[],_,_,_,h=>h
 | [],_::_,_,_,h,_=>h.elim
 | _::_,[],_,_,h,_=>h.elim
 | _::a,_::ds,_,_,h,g=>⟨h.1,Rd.app h.2 g⟩
theorem Rd.rev{H:Hp}:∀ {a:List Addr} {ds:List (List Int)},Rd H a ds→Rd H a.reverse ds.reverse
 | [],[],h=>h
 | [],_::_,h=>h.elim
 | _::_,[],h=>h.elim
 | l::a,d::ds,h=>by rw[Qay,Qay];exact Rd.app (Rd.rev h.2) ⟨h.1,trivial⟩
def Ox:Sp:=fun vs H Q _=>∃ (a:Addr) (ns:List Int) (n:Int),vs=[.ref a,.int n]∧H a=some (.lst (ns.map V.int))∧1≤ns.length∧ns.length≤100 ∧
 ∀ (r:Addr) (b:List Addr) (c:Hp),H r=none→c r=some (.lst (b.map V.ref))→r ∉ b→(∀l∈b,H l=none)→Rd c b (way ns n).reverse→ZG H c→Q (.ref r) c
def Dn(H:Hp)(a o:Addr)(ns:List Int)(n:Int)(b:Addr)(c:List Int)(d:List Addr)(e:Hp):Prop :=
 ∃done:List (List Int),e b=some (.lst (c.map V.int))∧b≠o∧1≤c.length∧c.length≤100∧way ns n=done++way c n∧Rd e d done∧e o=some (.lst (d.map V.ref))∧ZG H e∧(∀l∈d,H l=none)∧o ∉ d∧d.length+c.length≤100
theorem Dn.step{H:Hp}{a o:Addr}{ns:List Int}{n:Int}{b:Addr}{d:List Int}{h:List Addr}{i f:Hp}(D:Dn H a o ns n b d h i)(v:H o=none)(h1:1<d.length)(s:ZG i f){x y:Addr}(hx:f x=some (.lst ((XU d n).map V.int)))(hy:f y=some (.lst ((Wr d n).map V.int)))(nx:i x=none)(j:i y=none) :
  Dn H a o ns n x (XU d n) (h++[y]) (upd f o (.lst (h.map V.ref++[.ref y]))):=by
 obtain⟨done,d1,d2,d3,d4,w,z,m,p,A,q,uE⟩:=D;have r:x≠o:=(Zb m nx).symm;have t:y≠o:=(Zb m j).symm;have sl:=Sr (n:=n) h1;have k:∀l,l≠o→∀u,f l=some u→(upd f o (.lst (h.map V.ref++[.ref y]))) l=some u:=fun l hl u g=>by rw[Zc hl];exact g
 refine⟨done++[Wr d n],k x r _ hx,r,Znt h1,by lia,by rw[w,Kv h1,QaU];rfl,?_,?_,fun c u g=>?_,?_,?_,?_⟩
 ·refine Rd.app (Rd.mono (fun l hl u g=>k l (fun e=>q (e ▸ hl)) u (s _ _ g)) z) ⟨k y t _ hy,trivial⟩
 ·rw[Zd,Qe];rfl
 ·rw[Zc (Zb g v)];exact s _ _ (p _ _ g)
 ·intro l hl;rcases Qm.mp hl with hl|hl
  ·exact A l hl
  ·rw[Qn.mp hl];exact p.free j
 ·intro B;rcases Qm.mp B with hl|hl
  ·exact q hl
  ·exact t (Qn.mp hl).symm
 ·rw[Qj,QD];lia
theorem ZqL(T:Zt K mg ab U)(bI:Df P w K mg base 1 "halves" ["numbers"] (Wa K true)):Df P w K mg base 2 "way_up" ["numbers", "n"] Ox:=by
 refine T.t_way_up.df VG (fun vs H Q E h=>?_) (fun af f A outer s H vs Q E hr h=>?_)
 ·obtain⟨a,p,n,rfl,_⟩:=h;rfl
 obtain⟨a,p,n,rfl,L,h1,M,q⟩:=h;refine⟨_,#[Ze,#[Zw,2,VG.nd,#[3],#[YH,#[Zf]]],#[Ze,#[Zw,3,VG.nd,#[3],‹0›],#[Ze,(@TN _ _ _ _ _ _ PassesOwn.never #[Zn,VX,#[Zk,(Yv K),T.b.n_len,Qu,#[Za,‹3›,#[Zf]]],#[Zi],(Zp _)] #[Ze,#[Z2,#[ZB,bI,hr,#[Za,‹3›,#[Zf]],#[5]],#[gT,K,2,#[ZC,#[ZD,4,VG.nd],#[ZC,#[ZD,5,VG.nd],(@X6 _)]]]],#[Zj,#[Z0,#[Zn,(inQ K),‹1›,‹4›,(by with_unfolding_all rfl)],#[Ze,#[Yy,#[Xj,QU,Q2,Q3,VQ,‹2›,#[Za,‹5›,#[Zf]]]],#[Zj,#[Zw,3,VG.nd,#[3],‹4›]]],#[Ze,#[Yy,#[Xj,QU,Q2,Q3,VQ,‹2›,#[Za,‹4›,#[Zf]]]],#[Zj,#[Zw,3,VG.nd,#[3],‹5›]]]]]]),#[Ze,#[Yy,(@Zqm _ _ _ _ _ _ _ _ _ QU PySem.F.slot_list_reverse PySem.F.type_list_reverse Zku ‹2› #[5] #[5])],#[Zj,#[Zr,‹2›]]]]]],?_⟩;refine⟨(by show 0≤sizeLine;decide),fun o g=>?_⟩;have N:a≠o:=Zb L g;refine⟨_,rfl,?_⟩;refine⟨fun m O R=>∃ (b:Addr) (d:List Int) (i:List Addr) (S W:Option V),O=[some (.ref a),some (.int n),some (.ref o),some (.ref b),S,W]∧Dn H a o p n b d i R∧m=d.length,⟨_,a,p,[],none,none,rfl,⟨[],?_,N,h1,M,rfl,trivial,Zd,Zh g _,(fun l j=>by cases j),(fun B=>by cases B),by simpa using M⟩,rfl⟩,?_⟩
 ·rw[Zc N];exact L
 rintro m O R ⟨b,d,i,S,W,rfl,D,rfl⟩;obtain⟨done,X,d2,d3,d4,d5,d6,C,d8,d9,Y,uE⟩:=id D;have Aa:(((d.map V.int).length:Nat):Int)=(d.length:Int):=by rw[Qa]
 refine⟨_,rfl,b,_,rfl,.inl (SqL.of X),_,_,rfl,rfl,_,rfl,?_⟩;refine YW (fun c1=>?_) (fun c1=>?_)
 ·have rT:(1:Int)<(((d.map V.int).length:Nat):Int):=of_decide_eq_true c1;have F:1<d.length:=by lia
  refine⟨_,fun aj H' h=>h,?_⟩;refine⟨_,rfl,b,d,rfl,SqL.of X,d4,fun t x y H3 ht Z hy Ab et ex ey G Ac Ad=>?_⟩;refine⟨t,_,rfl,SqT.of et,rfl,_,_,rfl,_,_,rfl,rfl,?_⟩;have r:=G _ _ C;have am:(i.map V.ref).length<sizeLine:=by rw[Qa];exact ZE #[2]
  have sl:=Sr (n:=n) F;refine⟨_,rfl,_,rfl,x,_,rfl,.inl (SqL.of ex),rfl,Oy _,_,rfl,?_⟩;show if inV (V.int n) ((XZ d).map V.int)=true then _ else _
  rw[Oz];refine YW (fun c2=>?_) (fun c2=>?_)
  ·have k:n∈XZ d:=of_decide_eq_true c2;have I:XU d n=XZ d:=by unfold XU;rw[if_pos k]
   have J:Wr d n=WN d:=by unfold Wr;rw[if_pos k]
   refine⟨_,rfl,.inl ⟨rfl,_,SqL.of r⟩,_,rfl,o,_,_,rfl,rfl,r,am,_,rfl,_,?_,x,XU d n,i++[y],_,_,rfl,D.step g F G (by rw[I];exact ex) (by rw[J];exact ey) Z hy,rfl⟩;exact sl
  ·have k:¬ n∈XZ d:=fun z=>c2 (decide_eq_true z);have I:XU d n=WN d:=by unfold XU;rw[if_neg k]
   have J:Wr d n=XZ d:=by unfold Wr;rw[if_neg k]
   refine⟨_,rfl,.inl ⟨rfl,_,SqL.of r⟩,_,rfl,o,_,_,rfl,rfl,r,am,_,rfl,_,?_,y,XU d n,i++[x],_,_,rfl,D.step g F G (by rw[I];exact ey) (by rw[J];exact ex) hy Z,rfl⟩;exact sl
 ·have rT:¬ (1:Int)<(((d.map V.int).length:Nat):Int):=fun z=>c1 (decide_eq_true z);have e:way p n=done:=by rw[d5,OA #[2],QaK]
  refine⟨_,rfl,.inl ⟨rfl,_,SqL.of C⟩,o,_,rfl,rfl,C,?_⟩;refine⟨_,rfl,q o i.reverse _ g (by rw[Zd,List.map_reverse]) (fun B=>Y (List.mem_reverse.mp B)) (fun l j=>d9 l (List.mem_reverse.mp j)) ?_ fun c u v=>?_⟩
  ·rw[e];refine Rd.mono (fun l j u v=>?_) d6.rev;rw[Zc (fun z=>by subst z;exact Y (List.mem_reverse.mp j))];exact v
  ·rw[Zc (Zb v g)];exact d8 _ _ v
theorem Ku:∀ (k:Nat) (M:List Int) (n:Int),M.length≤2 ^ k→(way M n).reverse=(ZK k M n).map (fun X=>Z3 X n)
 | 0,M,n,h=>by rw[OA (by simpa using h)];rfl
 | k+1,M,n,h=>by
  unfold ZK;by_cases h2:2≤M.length
  ·rw[if_pos h2,Kv #[2],Qay,Qe];have a:(ZU M n).length≤2 ^ k:=by
    rw[QaW]at h;unfold ZU;split
    ·unfold lo mid;rw[QA];lia
    ·unfold up mid;rw[QO];lia
   have e:=Ku k (ZU M n) n a;rw[← e];rfl
  ·rw[if_neg h2,OA #[2]];rfl
theorem ZmY{M:List Int}(h:2≤M.length)(n:Int):Z3 M n≠[]:=by
 unfold Z3;split
 ·exact XH (Wv h).2
 ·exact XH (WM h).2
theorem Zj7{M:List Int}(r:Z9 M)(h:2≤M.length)(n:Int):ZQ M=(if (Z3 M n).headD 0<(ZU M n).headD 0 then (Z3 M n).headD 0 else (ZU M n).headD 0,if (Z3 M n).getLastD 0>(ZU M n).getLastD 0 then (Z3 M n).getLastD 0 else (ZU M n).getLastD 0):=by have a:=Pg h;have b:=Pj h;have l1:=UZ (XH (WM h).2);have l2:=UY (XH (WM h).2);have e:=UZ (XH (Wv h).2);have f:=UY (XH (Wv h).2);have c:=ZP r l1 e;have d:=ZP r l2 f;unfold ZU Z3;split<;>(refine Prod.ext ?_ ?_<;>dsimp only<;>first|lia|(split<;>lia))
theorem Rd.get{H:Hp}:∀ {c:List Addr} {ds:List (List Int)},Rd H c ds→∀ {i:Nat} {l:Addr} {d:List Int},c[i]? = some l→ds[i]? = some d→H l=some (.lst (d.map V.int))
 | [],[],_,i,l,d,h,_=>by simp at h
 | l::c,d::ds,⟨h1,h2⟩,0,a,b,e,f=>by simp at e f;rw[← e,← f];exact h1
 | l::c,d::ds,⟨h1,h2⟩,i+1,a,b,e,f=>Rd.get h2 (by simpa using e) (by simpa using f)
def Kt:Sp:=fun vs H Q _=>∃ (a:Addr) (N:List Int) (n:Int),vs=[.ref a,.int n]∧H a=some (.lst (N.map V.int))∧n∈N∧N.length≤60∧Z9 N ∧
 ∀ (r:Addr) (c:List Addr) (b:Hp),H r=none→b r=some (.lst (c.map V.ref))→c.length=(ZK 8 N n).length→(∀ (i:Nat) (t:Addr) (X:List Int),c[i]? = some t→(ZK 8 N n)[i]? = some X→b t=some (.tup [.int (ZQ X).1,.int (ZQ X).2]))→ZG H b→Q (.ref r) b
theorem Zkj(T:Zt K mg ab U)(fL:Df P w K mg base 2 "way_up" ["numbers", "n"] Ox):Df P w K mg base 3 "matches_up" ["numbers", "n"] Kt:=by
 refine T.t_matches_up.df VH (fun vs H Q E h=>?_) (fun af f A outer s H vs Q E hr h=>?_)
 ·obtain⟨a,N,n,rfl,_⟩:=h;rfl
 obtain⟨a,N,n,rfl,ha,Z,eD,aM,q⟩:=h;refine⟨_,#[Ze,#[Zw,2,VH.nd,#[3],#[YH,#[Zf]]],#[Ze,#[Zw,3,VH.nd,#[3],‹1›],#[Ze,#[Zw,4,VH.nd,#[3],‹1›],#[Ze,#[XR,PassesOwn.never,#[iL,K,#[ZB,fL,hr,#[Za,‹0›,#[Za,‹1›,#[Zf]]],#[5]]],#[ZD,5,VH.nd],#[Ze,#[Zw,3,VH.nd,#[3],#[Zk,(ZlP rfl),T.b.n_min,boot_min,#[Za,‹3›,#[Za,#[Zl,(ixL K),‹5›,#[Zi]],#[Zf]]]]],#[Ze,#[Zw,4,VH.nd,#[3],#[Zk,(Zlt rfl),T.b.n_max,boot_max,#[Za,‹4›,#[Za,#[Zl,(ixL K),‹5›,(@Vo _ _ _ _ _ _ Vn #[Zi])],#[Zf]]]]],#[Zj,#[Yy,#[Xj,QU,Q2,Q3,VQ,‹2›,#[Za,#[YJ,#[Za,‹3›,#[Za,‹4›,#[Zf]]]],#[Zf]]]]]]]],#[Zj,#[Zr,‹2›]]]]]],?_⟩;have e8:=QaX Z;have jn:N.length≤2 ^ 8:=Qv eD #[6];obtain⟨m6,m7,p6⟩:=Ss 8 N n Z jn;refine⟨(by show 0≤sizeLine;decide),fun r G=>?_⟩;have I:=Zh G (.lst []);have g:(upd H r (.lst [])) r=some (.lst []):=Zd;generalize upd H r (.lst [])=H1 at I g ⊢;refine⟨_,rfl,_,rfl,_,rfl,_,rfl,a,N,n,rfl,I _ _ ha,e8,by lia,fun wy v H2 u9 p7 BX cH J L=>?_⟩;rw[Ku 8 N n jn]at J;have fD:=J.len;rw[Qa]at fD;have Ae:=I.trans L;refine⟨wy,rfl,⟨_,SqL.of p7⟩,?_⟩;refine TM (K:=K) (a:=wy) (xs:=v.map V.ref) (fun i x d=>∃ (M:Option V) (c:List Addr),x=[some (.ref a),some (.int n),some (.ref r),some (.int ((low n (ZK 8 N n) i).headD 0)),some (.int ((low n (ZK 8 N n) i).getLastD 0)),M]∧i≤v.length∧c.length=i∧d r=some (.lst (c.map V.ref))∧(∀ (j:Nat) (t:Addr) (X:List Int),c[j]? = some t→(ZK 8 N n)[j]? = some X→d t=some (.tup [.int (ZQ X).1,.int (ZQ X).2]))∧(∀t∈c,t≠r∧∃xs,d t=some (.tup xs))∧(∀b o,H2 b=some o→b≠r→d b=some o)) ⟨_,[],rfl,Qx _,rfl,L _ _ g,(fun j t X h=>by simp at h),(fun t h=>by cases h),fun b o h _=>h⟩ (fun i x d _ hq=>by obtain⟨_,_,_,_,_,_,_,_,k3⟩:=hq;exact SqL.of (k3 _ _ p7 (fun z=>by rw[z,g]at u9;cases u9))) ?_ ?_
 ·rintro i y x d k ⟨M,c,rfl,hi,O,e,R,Af,k3⟩;rw[Qo]at k;cases m:v[i]? with
  | none=>rw[m]at k;cases k
  | some l =>
  rw[m]at k;cases k;have bv:i<v.length:=(Qf.mp m).1;cases p:(ZK 8 N n)[i]? with
  | none=>rw[QaG]at p;lia
  | some X =>
  obtain⟨x1,x2,x3,x4⟩:=m6 i X p;have S:H2 l=some (.lst ((Z3 X n).map V.int)):=J.get m (by rw[Qo,p];rfl);have uD:l≠r:=fun z=>by rw[z]at S;rw[L _ _ g]at S;have:=cH l (Qz m);rw[z,g]at this;cases this
  have cL:=k3 _ _ S uD;have aV:=ZmY x2 n;have B:=Zj7 (x1.rise aM) x2 n;rw[x4]at B;have e3:low n (ZK 8 N n) (i+1)=X:=by show (ZK 8 N n).getD i []=X;rw[QH,p];rfl
  refine⟨_,rfl,_,rfl,l,_,_,_,rfl,rfl,SqL.of cL,KZ aV,_,_,rfl,?_⟩;refine⟨_,rfl,_,rfl,_,rfl,l,_,_,_,rfl,rfl,SqL.of cL,K0 aV,_,_,rfl,?_⟩;refine⟨_,rfl,.inl ⟨rfl,_,SqL.of e⟩,_,rfl,_,rfl,(by show 2≤sizeLine;decide),fun t C=>?_⟩;have D:r≠t:=Zb e C;refine⟨r,_,_,rfl,rfl,by rw[Zc D];exact e,(by rw[Qa];exact ZE #[2]),?_⟩;refine⟨some (.ref l),c++[t],?_,bv,by rw[Qj,QD];lia,by rw[Zd,Qe];rfl,fun j u Y hu W=>?_,fun u hu=>?_,fun b o F nb=>?_⟩
  ·rw[e3];have h1:=congrArg Prod.fst B;have h2:=congrArg Prod.snd B;simp only at h1 h2;rw[show X.headD 0=(ZQ X).1 from rfl,show X.getLastD 0=(ZQ X).2 from rfl,h1,h2];rfl
  ·have oT:∀ (u:Addr) (xs:List V),d u=some (.tup xs)→(upd (upd d t (.tup [.int (if (Z3 X n).headD 0<(low n (ZK 8 N n) i).headD 0 then (Z3 X n).headD 0 else (low n (ZK 8 N n) i).headD 0),.int (if (Z3 X n).getLastD 0>(low n (ZK 8 N n) i).getLastD 0 then (Z3 X n).getLastD 0 else (low n (ZK 8 N n) i).getLastD 0)])) r (.lst (c.map V.ref++[.ref t]))) u=some (.tup xs):=fun u xs hu=>by rw[Zc (fun z=>by rw[z,e]at hu;cases hu),Zc (Zb hu C)];exact hu
   by_cases hj:j<c.length
   ·rw[QK hj]at hu;exact oT u _ (R j u Y hu W)
   ·have ej:j=c.length:=by have:=(Qf.mp hu).1;rw[Qj,QD]at this;lia
    subst ej;rw[QL (Qh _),QaE]at hu;cases hu;rw[O,p]at W;cases W;rw[Zc D.symm,Zd,B]
  ·rcases Qm.mp hu with hu|hu
   ·obtain⟨g1,xs,g2⟩:=Af u hu;exact⟨g1,xs,by rw[Zc g1,Zc (Zb g2 C)];exact g2⟩
   ·rw[Qn.mp hu];exact⟨D.symm,_,by rw[Zc D.symm];exact Zd⟩
  ·have:=k3 b o F nb;rw[Zc nb,Zc (Zb this C)];exact this
 ·rintro x d ⟨M,c,rfl,_,O,e,R,_,k3⟩;rw[Qa]at O;exact⟨_,rfl,q r c d G e #[2] R (fun b o F=>k3 b o (Ae b o F) (Zb F G))⟩
def CV(H:Hp)(v:V)(c:Com):Prop:=(c=none∧v=.non)∨∃ (t:Addr) (p:Int×Int),c=some p∧v=.ref t∧H t=some (.tup [.int p.1,.int p.2])
theorem CV.keep{H H':Hp}{v:V}{c:Com}(h:CV H v c)(k:∀t xs,H t=some (.tup xs)→H' t=some (.tup xs)):CV H' v c:=by
 rcases h with h|⟨t,p,a,b,d⟩
 ·exact .inl h
 ·exact .inr ⟨t,p,a,b,k _ _ d⟩
theorem Znk{s:StL}{k:Int×Int}{a:Option (Addr×Int×Int)}(h:Z1 s k=some a):s.any (fun e=>decide (e.1=k))=true:=Qap.mpr ⟨_,Lr h,decide_eq_true rfl⟩
theorem Ow{s:StL}{k:Int×Int}{a v:Option (Addr×Int×Int)}(h:Z1 s k=some a):(Yo s k v).length=s.length:=by unfold Yo;rw[if_pos (Znk h),Qa]
def AgS(hd:Hd)(z:List Nat)(A B:List Int)(k q:Int):Prop:=∀C k0 a,Ag hd z C k0 a→Ag hd z (C++[(A,B)]) (k0+k) (a+q)
def Ks(e f:Addr):Sp:=fun vs H Q _=>∃ (m rd sd:Addr) (L:List Zv) (s:StL) (nb li lo:Int) (g:V) (h:Addr) (v:V) (c:Com) (z:List Nat) (M:List Int) (n:Int),vs=[.ref m,.ref h,v]∧ZS e f H m rd sd L s nb li lo g∧H h=some (.tup [.int (ZQ M).1,.int (ZQ M).2])∧CV H v c∧T8 (hdM L) z (ZU M n) c ∧
 ((Win (hdM L) (Z3 M n) none∧(Z1 s (ZQ M)=none∨Z1 s (ZQ M)=some none))∨∃t b y,Win (hdM L) (Z3 M n) (some b)∧hdM L b=some y∧Z1 s (ZQ M)=some (some (t,b,((lcp y z:Nat):Int)))) ∧
 (∀b∈M,∀y,hdM L b=some y→ZV z y≤0)∧Z9 M∧(∀b∈M,b∈Zu L)∧2≤M.length∧n∈M ∧
 ∀ (i:V) (l:Com) (d:StL) (k q:Int) (a:Hp),CV a i l→T8 (hdM L) z M l→WI (hdM L) d (ZU M n) (Z3 M n) (ZQ M)→(∀j,j≠ZQ M→Z1 d j=Z1 s j)→AgS (hdM L) z (ZU M n) (Z3 M n) k q →
  ZS e f a m rd sd L d nb (li+k) (lo+q) g→(∀b o,H b=some o→b≠m→b≠sd→a b=some o)→Q i a
theorem Kq{L:List Zv}(nd:(Zu L).Nodup){b:Int}(hb:b∈Zu L){y:List Nat}(hy:hdM L b=some y):∃e∈L,e.n=b∧∃x,e.ss[e.g]? = some x∧y=cds x:=by
 obtain⟨e,c,rfl⟩:=Ue hb;rw[Vz nd c]at hy;cases a:e.ss[e.g]? with
 | none=>rw[a]at hy;cases hy
 | some x=>rw[a]at hy;cases hy;exact⟨e,c,rfl,x,a,rfl⟩
theorem ZnG(T:Zt K mg ab U)(aN:Mf P w K mg base 3 U "meet" ["self", "one", "other", "far"] (OM ab U)):Mf P w K mg base 4 U "play_again" ["self", "meeting", "comer"] (Ks ab U):=by
 refine T.t_Merge_play_again.mf Uo (fun vs H Q E h=>?_) (fun af f A outer s H vs Q E hr h=>?_)
 ·obtain⟨m,rd,I,L,s,nb,li,lo,ae,tm,v,c,z,M,n,rfl,_⟩:=h;rfl
 obtain⟨m,rd,I,L,s,nb,li,lo',ae,tm,v,c,z,M,n,rfl,Mg,gI,oU,⟨wS,vc⟩,bS,bU,aM,gN,h2,hn,q⟩:=h;refine⟨_,#[Ze,#[Zw,3,Uo.nd,#[3],(@Zqj _ _ _ _ _ _ _ _ hr #[ZM,‹0›] ‹1› #[5] #[5] #[5])],#[Ze,#[Z0,#[Zn,Yb,‹3›,#[ZT],(Zp _)],#[Zj,#[Zr,‹2›]],#[ZF]],#[Ze,#[Z0,#[Zn,Yb,‹2›,#[ZT],(Zp _)],#[Ze,#[Z2,#[ZT],#[Ys,#[ZM,‹0›],‹1›,(X9 hr)]],#[Zj,#[Zr,‹3›]]],#[ZF]],#[Ze,#[Z0,#[Zn,YF,#[Zl,(ixT K),‹2›,#[Zi]],#[Zl,(ixT K),‹3›,#[Zi]],(Zp _)],#[Ze,#[Z2,#[XI,aN,T.cl_Merge,hr,‹0›,#[Za,#[Zl,(ixT K),‹2›,#[Zi]],#[Za,#[Zl,(ixT K),‹3›,#[Zi]],#[Za,#[Zl,(ixT K),‹2›,#[Zi]],#[Zf]]]]],#[gT,K,3,#[ZC,#[ZD,4,Uo.nd],#[ZC,#[ZD,5,Uo.nd],#[ZC,#[ZD,6,Uo.nd],(@X6 _)]]]]],#[Ze,#[Z2,#[YJ,#[Za,‹5›,#[Za,‹6›,#[Zf]]]],#[Ys,#[ZM,‹0›],‹1›,(X9 hr)]],#[Zj,#[Zr,#[YJ,#[Za,‹4›,#[Za,#[Zl,(ixT K),‹2›,#[Zi]],#[Zf]]]]]]]],#[ZF]],#[Ze,#[VU,‹0›,#[Zi],UK],#[Ze,#[Z0,#[Zn,VX,#[Zl,(ixT K),‹2›,#[Zi]],#[Zl,(ixT K),‹3›,#[Zi]],(Zp _)],#[Zj,#[Zr,‹2›]],#[ZF]],#[Ze,#[Z2,‹2›,#[Ys,#[ZM,‹0›],‹1›,(X9 hr)]],#[Zj,#[Zr,‹3›]]]]]]]]],?_⟩;obtain⟨dx,N⟩:=Mg.ob;have kG:H tm=some (.tup (([.inl (ZQ M).1,.inl (ZQ M).2]:List Key).map kV)):=gI;have Z:=Sv M n;have dg:=ZR.t (k:=[.inl (ZQ M).1,.inl (ZQ M).2]) Mg.stays kG;rw[Ls]at dg;have sA:∀b∈ZU M n,b∈M:=fun b r=>Z.mem_iff.mp (QF _ r);have sB:∀b∈Z3 M n,b∈M:=fun b r=>Z.mem_iff.mp (Qr _ r);have cn:=OE aM (US hn);have Ah:∀a b,a∈ZU M n→b∈Z3 M n→a≠b:=fun a b ha r e=>by
  subst e;unfold ZU Z3 at *
  split at ha
  ·rename_i hl;rw[if_pos hl]at r;have:=ZP aM ha r;lia
  ·rename_i hl;rw[if_neg hl]at r;have:=ZP aM r ha;lia
 refine⟨_,rfl,m,U,dx,_,_,rfl,N,T.cl_Merge,T.na_Merge_stays,UU ..,I,rfl,.inr ⟨_,.inl Mg.stays⟩,_,rfl,_,dg,?_⟩;rcases bS with⟨u,W⟩|⟨t,b,y,u,D,W⟩
 ·have ev:((Z1 s (ZQ M)).map stV).getD .non=.non:=by rcases W with e|e<;>rw[e]<;>rfl
  rw[ev];refine⟨_,rfl,rfl,_,rfl,YI rfl ⟨_,rfl,q v c s 0 0 H oU ⟨(Win.left wS u).perm Z,vc⟩ ⟨(fun a b x y _ wb _ _=>nomatch u.one wb),fun _=>W⟩ (fun _ _=>rfl) (fun C k0 q0 g=>by rw[QT,QT];exact .no g (.inr u)) (Mg.cast #[2] #[2]) (fun b o h _ _=>h)⟩⟩
 have bm:=Mg.ats _ (Lr W) _ rfl;have e1:((Z1 s (ZQ M)).map stV).getD .non=.ref t:=by rw[W];rfl
 rw[e1];have rV:=Mg.sfew;have gP:(kvS s).length<sizeLine:=by unfold kvS;rw[Qa];exact ZE #[2]
 refine⟨_,rfl,rfl,_,rfl,YG (fun z=>nomatch z) ?_⟩;have m5:=sB b u.1;rcases oU with⟨rfl,rfl⟩|⟨F,p,rfl,rfl,J⟩
 ·refine⟨_,rfl,rfl,_,rfl,YI rfl ?_⟩;refine⟨_,rfl,m,U,dx,_,_,rfl,N,T.cl_Merge,T.na_Merge_stays,UU ..,_,rfl,I,_,rfl,YD.t (k:=[.inl (ZQ M).1,.inl (ZQ M).2]) Mg.stays kG gP,?_⟩;rw[show V.non=stV none from rfl,SU];have jY:(Yo s (ZQ M) none).length≤100:=by rw[Ow W];exact rV
  have M2:=Mg.put (k:=ZQ M) (v:=none) (fun t X=>by cases X) jY (Mg.kb.key aM h2 gN);have B:Win (hdM L) (ZU M n) none:=wS;refine⟨_,rfl,q (.ref t) (some (b,((lcp y z:Nat):Int))) _ 0 0 _ (.inr ⟨t,_,rfl,rfl,?_⟩) ⟨(Win.right B u).perm Z,fun p hp=>?_⟩ ⟨(fun a b x y wa _ _ _=>nomatch B.one wa),fun _=>.inr ?_⟩ (fun j hj=>?_) (fun C k0 q0 g=>?_) (M2.cast #[2] #[2]) (fun b o r _ n2=>by rw[Zc n2];exact r)⟩
  ·rw[Zc (fun z=>by rw[z,Mg.stays]at bm;cases bm)];exact bm
  ·cases hp;exact⟨y,D,rfl⟩
  ·rw[WL,if_pos rfl]
  ·rw[WL,if_neg hj]
  ·rw[QT,QT];exact .no g (.inl B)
 obtain⟨a,fa⟩:=p;obtain⟨x,G,vd⟩:=vc _ rfl;simp only at G vd;subst vd;have B:Win (hdM L) (ZU M n) (some a):=wS;have ve:=sA a B.1;have jd:=Ah a b B.1 u.1;obtain⟨O,oO,rfl,i,Ai,rfl⟩:=Kq Mg.nd (gN a ve) G;obtain⟨eb,oP,rfl,l,Aj,rfl⟩:=Kq Mg.nd (gN b m5) D;have c0:atI [V.int O.n,.int ((lcp (cds i) z:Nat):Int)] 0=some (.int O.n):=Yr (j:=0) rfl;have c1:atI [V.int O.n,.int ((lcp (cds i) z:Nat):Int)] 1=some (.int ((lcp (cds i) z:Nat):Int)):=Yr (j:=1) rfl;have d0:atI [V.int eb.n,.int ((lcp (cds l) z:Nat):Int)] 0=some (.int eb.n):=Yr (j:=0) rfl;have d1:atI [V.int eb.n,.int ((lcp (cds l) z:Nat):Int)] 1=some (.int ((lcp (cds l) z:Nat):Int)):=Yr (j:=1) rfl;refine⟨_,rfl,rfl,_,rfl,YG (fun z=>nomatch z) ?_⟩;refine⟨_,rfl,F,_,_,_,rfl,rfl,SqT.of J,c1,_,rfl,t,_,_,_,rfl,rfl,SqT.of bm,d1,rfl,_,rfl,YW (fun d=>?_) (fun d=>?_)⟩
 ·have ef:lcp (cds i) z=lcp (cds l) z:=by have:=of_decide_eq_true d;injection this with this;lia
  have kZ:=ZqD ef;refine⟨_,rfl,m,dx,_,rfl,N,KY ..,_,rfl,F,_,_,_,rfl,rfl,SqT.of J,c0,_,rfl,t,_,_,_,rfl,rfl,SqT.of bm,d0,_,rfl,F,_,_,_,rfl,rfl,SqT.of J,c1,?_⟩;refine⟨m,rd,I,L,s,nb,li,lo',ae,O,eb,i,l,lcp (cds i) z,rfl,Mg,oO,oP,Ai,Aj,kZ,fun t5 wi R H5 hw rO mX M5 b5=>?_⟩;refine⟨t5,_,rfl,SqT.of mX,rfl,_,_,rfl,_,_,rfl,_,_,rfl,rfl,?_⟩;have j1:2≤sizeLine:=by decide
  refine⟨_,rfl,_,rfl,j1,fun S rP=>?_⟩;have s6:=Zh rP (.tup [.int R,.int ((lcp (cds i) (cds l):Nat):Int)]);have jj:(upd H5 S (.tup [.int R,.int ((lcp (cds i) (cds l):Nat):Int)])) S=some (.tup [.int R,.int ((lcp (cds i) (cds l):Nat):Int)]):=Zd;have M6:=M5.same s6;generalize upd H5 S (.tup [.int R,.int ((lcp (cds i) (cds l):Nat):Int)])=H6 at s6 jj M6 ⊢;obtain⟨rQ,oQ⟩:=M6.ob;have rW:tm≠m:=fun z=>by rw[z,N]at gI;cases gI
  have rX:F≠m:=fun z=>by rw[z,N]at J;cases J
  have vf:H6 tm=some (.tup (([.inl (ZQ M).1,.inl (ZQ M).2]:List Key).map kV)):=s6 _ _ (b5 _ _ kG rW);refine⟨_,rfl,m,U,rQ,_,_,rfl,oQ,T.cl_Merge,T.na_Merge_stays,UU ..,_,rfl,I,_,rfl,YD.t (k:=[.inl (ZQ M).1,.inl (ZQ M).2]) M6.stays vf gP,?_⟩;rw[show V.ref S=stV (some (S,R,((lcp (cds i) (cds l):Nat):Int))) from rfl,SU];have jY:(Yo s (ZQ M) (some (S,R,((lcp (cds i) (cds l):Nat):Int)))).length≤100:=by rw[Ow W];exact rV
  have M7:=M6.put (k:=ZQ M) (v:=some (S,R,((lcp (cds i) (cds l):Nat):Int))) (fun t X=>by injection X with X;rw[← X];exact jj) jY (Mg.kb.key aM h2 gN);have b7:∀b o,H b=some o→b≠m→b≠I→(upd H6 I (.dT (kvS (Yo s (ZQ M) (some (S,R,((lcp (cds i) (cds l):Nat):Int))))))) b=some o:=fun b o r n1 n2=>by rw[Zc n2];exact s6 _ _ (b5 b o r n1)
  have vg:F≠I:=fun z=>by rw[z,Mg.stays]at J;cases J
  generalize upd H6 I (.dT (kvS (Yo s (ZQ M) (some (S,R,((lcp (cds i) (cds l):Nat):Int))))))=H7 at M7 b7 ⊢;refine⟨_,rfl,_,rfl,F,_,_,_,rfl,rfl,SqT.of (b7 _ _ J rX vg),c1,j1,fun t8 vh=>?_⟩;have wn:Win (hdM L) M (some wi):=by
   rcases hw with⟨Y,rfl,_⟩|⟨Y,rfl,_⟩
   ·exact(Win.both B u G D Y).perm Z
   ·exact(Win.both' B u G D ((Btr.total jd).resolve_left Y)).perm Z
  refine q (.ref t8) (some (wi,((lcp (cds i) z:Nat):Int))) _ 1 ((lcp (cds i) (cds l):Nat)-(lcp (cds i) z:Nat)+1) _ (.inr ⟨t8,_,rfl,rfl,Zd⟩) ⟨wn,fun p hp=>?_⟩ ⟨fun a b x' y' wa wb j3 j4=>?_,fun cn=>?_⟩ (fun j hj=>by rw[WL,if_neg hj]) (fun C k0 q0 g=>.eq g B u G D ef) ((M7.same (Zh vh _)).cast rfl rfl) (fun b o r n1 n2=>Zh vh _ _ _ (b7 b o r n1 n2))
  ·cases hp;rcases hw with⟨Y,rfl,_⟩|⟨Y,rfl,_⟩
   ·exact⟨_,G,rfl⟩
   ·exact⟨_,D,by simp only;rw[ef]⟩
  ·have e1:=Qp (wa.one B);have e2:=Qp (wb.one u);subst e1;subst e2;have e3:=Qp (j3.symm.trans G);have e4:=Qp (j4.symm.trans D);subst e3;subst e4;refine⟨S,R,by rw[WL,if_pos rfl],?_⟩;rcases hw with⟨Y,_,rfl⟩|⟨Y,_,rfl⟩
   ·exact .inl ⟨Y,rfl⟩
   ·exact .inr ⟨(Btr.total jd).resolve_left Y,rfl⟩
  ·rcases cn with z|z
   ·exact nomatch z.one B
   ·exact nomatch z.one u
 have vi:lcp (cds i) z≠lcp (cds l) z:=fun e=>d (decide_eq_true (by rw[e]));refine⟨_,rfl,m,U,dx,_,_,rfl,N,T.cl_Merge,T.na_Merge_likened,Sz ..,_,_,rfl,rfl,dx,_,N,XD ..,?_⟩;rw[ON];have M2:=Mg.obj (nb':=nb) (li':=li+1) (lo':=lo') (best':=ae) (dx:=dx);have k2:∀b o,H b=some o→b≠m→(upd H m (.ins U dx (mgF rd nb (li+1) lo' I ae))) b=some o:=fun b o r n=>by rw[Zc n];exact r
 have rX:F≠m:=fun z=>by rw[z,N]at J;cases J
 have Ak:t≠m:=fun z=>by rw[z,N]at bm;cases bm
 have rW:tm≠m:=fun z=>by rw[z,N]at gI;cases gI
 generalize upd H m (.ins U dx (mgF rd nb (li+1) lo' I ae))=H2 at M2 k2 ⊢;have m8:=k2 _ _ J rX;have kH:=k2 _ _ bm Ak;refine⟨_,rfl,F,_,_,_,rfl,rfl,SqT.of m8,c1,_,rfl,t,_,_,_,rfl,rfl,SqT.of kH,d1,_,_,rfl,rfl,_,rfl,YW (fun g=>?_) (fun g=>?_)⟩
 ·have Am:lcp (cds l) z<lcp (cds i) z:=by have:((lcp (cds l) z:Nat):Int)<((lcp (cds i) z:Nat):Int):=of_decide_eq_true g;lia
  obtain⟨bt,el⟩:=Kz (a:=O.n) (b:=eb.n) Am (bU _ m5 _ D);refine⟨_,rfl,q (.ref F) (some (O.n,((lcp (cds i) z:Nat):Int))) s 1 0 H2 (.inr ⟨F,_,rfl,rfl,m8⟩) ⟨(Win.both B u G D bt).perm Z,fun p hp=>by cases hp;exact⟨_,G,rfl⟩⟩ ⟨fun a b x' y' wa wb j3 j4=>?_,fun cn=>?_⟩ (fun _ _=>rfl) (fun C k0 q0 g=>by rw[QT];exact .ne g B u G D vi) (M2.cast rfl #[2]) (fun b o r n1 _=>k2 b o r n1)⟩
  ·have e1:=Qp (wa.one B);have e2:=Qp (wb.one u);subst e1;subst e2;have e3:=Qp (j3.symm.trans G);have e4:=Qp (j4.symm.trans D);subst e3;subst e4;exact⟨t,_,by rw[el];exact W,.inl ⟨bt,rfl⟩⟩
  ·rcases cn with z|z
   ·exact nomatch z.one B
   ·exact nomatch z.one u
 ·have am:lcp (cds i) z<lcp (cds l) z:=by have:¬ ((lcp (cds l) z:Nat):Int)<((lcp (cds i) z:Nat):Int):=fun e=>g (decide_eq_true e);lia
  obtain⟨bt,el⟩:=Kz (a:=eb.n) (b:=O.n) am (bU _ ve _ G);obtain⟨gQ,bO⟩:=M2.ob;have vj:H2 tm=some (.tup (([.inl (ZQ M).1,.inl (ZQ M).2]:List Key).map kV)):=k2 _ _ kG rW;refine⟨_,rfl,_,rfl,m,U,gQ,_,_,rfl,bO,T.cl_Merge,T.na_Merge_stays,UU ..,_,rfl,I,_,rfl,YD.t (k:=[.inl (ZQ M).1,.inl (ZQ M).2]) M2.stays vj gP,?_⟩;rw[show V.ref F=stV (some (F,O.n,((lcp (cds i) z:Nat):Int))) from rfl,SU];have jY:(Yo s (ZQ M) (some (F,O.n,((lcp (cds i) z:Nat):Int)))).length≤100:=by rw[Ow W];exact rV
  have M3:=M2.put (k:=ZQ M) (v:=some (F,O.n,((lcp (cds i) z:Nat):Int))) (fun t X=>by injection X with X;rw[← X];exact m8) jY (Mg.kb.key aM h2 gN);refine⟨_,rfl,q (.ref t) (some (eb.n,((lcp (cds l) z:Nat):Int))) _ 1 0 _ (.inr ⟨t,_,rfl,rfl,?_⟩) ⟨(Win.both' B u G D bt).perm Z,fun p hp=>by cases hp;exact⟨_,D,rfl⟩⟩ ⟨fun a b x' y' wa wb j3 j4=>?_,fun cn=>?_⟩ (fun j hj=>by rw[WL,if_neg hj]) (fun C k0 q0 g=>by rw[QT];exact .ne g B u G D vi) (M3.cast rfl #[2]) (fun b o r n1 n2=>by rw[Zc n2];exact k2 b o r n1)⟩
  ·rw[Zc (fun z=>by rw[z,M2.stays]at kH;cases kH)];exact kH
  ·have e1:=Qp (wa.one B);have e2:=Qp (wb.one u);subst e1;subst e2;have e3:=Qp (j3.symm.trans G);have e4:=Qp (j4.symm.trans D);subst e3;subst e4;exact⟨F,_,by rw[WL,if_pos rfl,VC (cds i) (cds l),el],.inr ⟨bt,rfl⟩⟩
  ·rcases cn with z|z
   ·exact nomatch z.one B
   ·exact nomatch z.one u
noncomputable def Xo(n:Int)(e:Zv):Zv:=if e.n=n then ⟨e.n,e.p,e.k,e.f,e.ss,e.g+1⟩ else e
noncomputable def bump(L:List Zv)(n:Int):List Zv:=L.map (Xo n)
theorem Vv(n:Int)(e:Zv):(Xo n e).n=e.n∧(Xo n e).p=e.p∧(Xo n e).k=e.k∧(Xo n e).f=e.f∧(Xo n e).ss=e.ss:=by unfold Xo;split<;>exact⟨rfl,rfl,rfl,rfl,rfl⟩
theorem Sq{n:Int}{e:Zv}(h:e.n=n):Xo n e=⟨e.n,e.p,e.k,e.f,e.ss,e.g+1⟩:=if_pos h
theorem Ov{n:Int}{e:Zv}(h:¬ e.n=n):Xo n e=e:=if_neg h
theorem Vu(L:List Zv)(n:Int):Zu (bump L n)=Zu L:=by unfold Zu bump;rw[Qg];exact Qy fun e _=>(Vv n e).1
theorem Zo0(L:List Zv)(n:Int):(bump L n).map (·.p)=L.map (·.p):=by unfold bump;rw[Qg];exact Qy fun e _=>(Vv n e).2.1
theorem ZmV(L:List Zv)(n:Int):kvM (bump L n)=kvM L:=by unfold kvM bump;rw[Qg];refine Qy fun e _=>?_;simp only[Function.comp];rw[(Vv n e).1,(Vv n e).2.1]
theorem ZoL{m rd sd:Addr}{L:List Zv}{n:Int}{b:Addr}(h:Fp m rd sd (bump L n) b):Fp m rd sd L b:=by
 rcases h with h|h|h|⟨e',a,h⟩
 ·exact .inl h
 ·exact .inr (.inl h)
 ·exact .inr (.inr (.inl h))
 ·obtain⟨e,c,rfl⟩:=Qi.mp a;obtain⟨_,d,f,g,_⟩:=Vv n e;rw[d,f,g]at h;exact .inr (.inr (.inr ⟨e,c,h⟩))
theorem Fp_bump'{m rd sd:Addr}{L:List Zv}{n:Int}{b:Addr}(h:Fp m rd sd L b):Fp m rd sd (bump L n) b:=by
 rcases h with h|h|h|⟨e,a,h⟩
 ·exact .inl h
 ·exact .inr (.inl h)
 ·exact .inr (.inr (.inl h))
 ·obtain⟨_,c,d,f,_⟩:=Vv n e;refine .inr (.inr (.inr ⟨Xo n e,Qd a,?_⟩));rw[c,d,f];exact h
theorem Kp{n b:Int}(h:b≠n):∀L:List Zv,hdM (bump L n) b=hdM L b
 | []=>rfl
 | e::L=>by
  have c:=Kp h L;unfold hdM hdL bump at c ⊢;rw[Qk,Qk,Qk,Qac,Qac];have d:(toL (Xo n e)).1=e.n:=(Vv n e).1;rw[d];by_cases a:e.n=b
  ·rw[decide_eq_true a,decide_eq_true (show (toL e).1=b from a),Ov (fun z=>h (a.symm.trans z))]
  ·rw[decide_eq_false a,decide_eq_false (show ¬ (toL e).1=b from a)];exact c
theorem Ko{L:List Zv}(nd:(Zu L).Nodup){e:Zv}(he:e∈L):hdM (bump L e.n) e.n=(e.ss[e.g+1]?).map cds:=by have a:Xo e.n e∈bump L e.n:=Qd he;rw[Sq rfl]at a;exact Vz (L:=bump L e.n) (by rw[Vu];exact nd) a
theorem Ou(k f:Addr)(g:Int):YV k f g=([("all_keys",.ref k),("fars",.ref f),("gone",.int g)]:List (Str×V)):=by unfold YV;rw[Xh,Zy nFK,Xh,Zy nGK,Zy nGF,Xh]
theorem Kn(k f:Addr)(g v:Int):Zx "gone" (.int v) (YV k f g)=YV k f v:=by rw[Ou,Ou,Zy nGK,Zy nGF,Wt]
theorem So(k f:Addr)(g:Int):(YV k f g).length<1000:=by rw[Ou];show 3<1000;decide
theorem ZlM(k f:Addr)(g:Int):(YV k f g).lookup ("fars" : Str)=some (.ref f):=by unfold YV;rw[Zm,if_neg nGF,Zm,if_pos rfl]
theorem Km{L:List Zv}(pd:(L.map (·.p)).Nodup){e e':Zv}(he:e∈L)(a:e'∈L)(h:e.p=e'.p):e=e':=by
 have b:((L.map fun x=>(x.p,x)).map (·.1)).Nodup:=by rw[Qg];exact pd
 have:=Ws b (Qd (f:=fun x:Zv=>(x.p,x)) he) (Qd (f:=fun x:Zv=>(x.p,x)) a) h;injection this
theorem ZS.bump{b h:Addr}{H:Hp}{m rd sd:Addr}{L:List Zv}{s:StL}{nb li lo:Int}{i:V}(M:ZS b h H m rd sd L s nb li lo i){e:Zv}(he:e∈L)(k:e.g<e.ss.length){dp:Addr} :
  ZS b h (upd H e.p (.ins b dp (YV e.k e.f ((e.g+1:Nat):Int)))) m rd sd (My.bump L e.n) s nb li lo i:=by
 obtain⟨l,n⟩:=M.ob;obtain⟨dq,c⟩:=(M.each e he).at'.ob;obtain⟨o,_,_⟩:=M.ne_p he;obtain⟨d,_,_,p,_,_⟩:=M.ne_sd he;refine⟨⟨l,by rw[Zc o];exact n⟩,by rw[Zc p,ZmV];exact M.rows,by rw[Zc d];exact M.stays,fun x a t q=>?_,fun e' r=>?_,by rw[Vu];exact M.up,by rw[Zo0];exact M.pd,by unfold My.bump;rw[Qa];exact M.few,M.sfew,⟨M.kb.1,by rw[Vu];exact M.kb.2⟩⟩
 ·have:=M.ats x a t q;rw[Zc (fun z=>by rw[z,c]at this;cases this)];exact this
 ·obtain⟨x,a,rfl⟩:=Qi.mp r;have R:=M.each x a;have u:∀ {y:Zv},y∈L→y.k≠e.p∧y.f≠e.p:=fun {y} v=>by have j:=M.each y v;exact⟨(fun z=>by have:=j.at'.ks;rw[z,c]at this;cases this),(fun z=>by have:=j.at'.fs;rw[z,c]at this;cases this)⟩
  obtain⟨k1,k2⟩:=u a;by_cases g:x.n=e.n
  ·have ex:x=e:=by
    have d:((L.map fun x=>(x.n,x)).map (·.1)).Nodup:=by rw[Qg];exact M.nd
    have:=Ws d (Qd (f:=fun x:Zv=>(x.n,x)) a) (Qd (f:=fun x:Zv=>(x.n,x)) he) g;injection this
   subst ex;rw[Sq rfl];exact⟨⟨⟨dp,Zd⟩,by show (upd H x.p _) x.k=_;rw[Zc k1];exact R.at'.ks,by show (upd H x.p _) x.f=_;rw[Zc k2];exact R.at'.fs⟩,k,R.len,R.srt,R.str⟩
  ·rw[Ov g];exact R.keep (Zc (fun z=>g (by rw[Km M.pd a he z]))) (Zc k1) (Zc k2)
theorem Zri{L:List Zv}{e:Zv}{x:Str}(nd:(Zu L).Nodup)(up:Z9 (Zu L))(he:e∈L)(hx:e.ss[e.g]? = some x)(srt:sortedS e.ss=true)(W:Win (hdM L) (Zu L) (some e.n)):Tk (hdM L) (hdM (bump L e.n)) (Zu L) e.n (cds x):=by
 refine⟨W,by rw[Vz nd he,hx];rfl,fun b d=>Kp d L,fun y a=>?_,up⟩;rw[Ko nd he]at a;cases c:e.ss[e.g+1]? with
 | none=>rw[c]at a;cases a
 | some f=>rw[c]at a;cases a;exact LI srt e.g x f hx c
theorem Zp7{c:Bool}{b d:VK→Prop}{Q:VK}(P:V→Hp→Prop)(h1:c=true→∀a:VK,(∀v H,P v H→a v H)→b a)(h2:c=false→∀a:VK,(∀v H,P v H→a v H)→d a)(q:∀v H,P v H→Q v H):if c=true then b Q else d Q:=by
 cases c with
 | true=>rw[if_pos rfl];exact h1 rfl Q q
 | false=>rw[if_neg #[6]];exact h2 rfl Q q
noncomputable def XA(n:Int)(C:List (List Int)):List (List Int×List Int):=C.map fun X=>(ZU X n,Z3 X n)
theorem ZjM(rd:Addr)(nb li lo:Int)(sd:Addr)(a:V):(mgF rd nb li lo sd a).lookup ("play_again" : Str)=none:=X5 _ _ _ _ _ _ #[1] #[1] #[1] #[1] #[1] #[1]
def Kl(c d:Addr):Sp:=fun vs H Q _=>∃ (m rd sd:Addr) (L:List Zv) (s:StL) (nb li lo:Int) (h:V) (e:Zv) (x:Str),vs=[.ref m,.int e.n]∧ZS c d H m rd sd L s nb li lo h∧e∈L∧e.ss[e.g]? = some x∧Win (hdM L) (Zu L) (some e.n)∧ZX (hdM L) s (Zu L) ∧
 ∀ (f:StL) (g:Option Int) (k q:Int) (a:Hp),ZS c d a m rd sd (bump L e.n) f nb (li+k) (lo+q) (YX g)→Win (hdM (bump L e.n)) (Zu L) g→ZX (hdM (bump L e.n)) f (Zu L)→Ag (hdM (bump L e.n)) (cds x) (XA e.n (ZK 8 (Zu L) e.n)) k q→(∀b o,H b=some o→¬ Fp m rd sd L b→a b=some o)→Q .non a
theorem ZoS(T:Zt K mg ab U)(al:Mf P w K mg base 2 ab "head" ["self"] (U0 ab))(cr:Df P w K mg base 3 "matches_up" ["numbers", "n"] Kt)(bh:Mf P w K mg base 4 U "play_again" ["self", "meeting", "comer"] (Ks ab U)):Mf P w K mg base 5 U "send_out" ["self", "number"] (Kl ab U):=by
 refine T.t_Merge_send_out.mf Up (fun vs H Q E h=>?_) (fun af f A outer s H vs Q E hr h=>?_)
 ·obtain⟨m,O,G,L,s,nb,li,lo,ae,e,x,rfl,_⟩:=h;rfl
 obtain⟨m,O,G,L,s,nb,li,lo',ae,e,x,rfl,M,S,hx,W,ok,q⟩:=h;refine⟨_,#[Ze,#[Zw,2,Up.nd,#[3],#[Zl,(ixG hr),#[ZM,‹0›],‹1›]],#[Ze,#[VU,‹2›,#[Zi],UK],#[Ze,#[Zw,3,Up.nd,#[3],#[Xk,#[Zn,Yb,#[YQ,al,T.cl_Row,hr,‹2›],#[ZT],(Zp _)],#[ZT],#[YJ,#[Za,‹1›,#[Za,#[Zl,(ixL K),#[ZM,‹2›],#[ZM,‹2›]],#[Zf]]]]]],#[Ze,#[XR,PassesOwn.never,#[iL,K,#[ZB,cr,hr,#[Za,#[Xq,MJ,T.b.n_list,boot_list,#[Za,#[ZM,‹0›],#[Zf]]],#[Za,‹1›,#[Zf]]],#[5]]],#[ZD,4,Up.nd],#[Zj,#[Zw,3,Up.nd,#[3],#[XI,bh,T.cl_Merge,hr,‹0›,#[Za,‹4›,#[Za,‹3›,#[Zf]]]]]]],#[Zj,#[Yx,‹0›,#[Xk,#[Zn,Yb,‹3›,#[ZT],(Zp _)],#[ZT],#[Zl,(ixT K),‹3›,#[Zi]]]]]]]]],?_⟩;obtain⟨dx,hm⟩:=M.ob;have R:=M.each e S;obtain⟨dp,hp⟩:=R.at'.ob;have hg:e.g<e.ss.length:=(Qf.mp hx).1;have tk:=Zri M.nd M.up S hx R.srt W;refine⟨_,rfl,m,U,dx,_,_,rfl,hm,T.cl_Merge,T.na_Merge_rows,XF ..,_,rfl,O,_,rfl,ZR.k' (k:=.inl e.n) M.rows (V7 M.nd S),?_⟩;refine⟨_,rfl,e.p,ab,dp,_,_,rfl,hp,T.cl_Row,T.na_Row_gone,U2 ..,_,_,rfl,rfl,dp,_,hp,So ..,?_⟩;rw[Kn,show ((e.g:Int)+1)=((e.g+1:Nat):Int) by lia];have M1:=M.bump S hg (dp:=dp);have oW:(upd H e.p (.ins ab dp (YV e.k e.f ((e.g+1:Nat):Int)))) e.p=some (.ins ab dp (YV e.k e.f ((e.g+1:Nat):Int))):=Zd;have k1:∀b o,H b=some o→b≠e.p→(upd H e.p (.ins ab dp (YV e.k e.f ((e.g+1:Nat):Int)))) b=some o:=fun b o B n=>by rw[Zc n];exact B
 generalize upd H e.p (.ins ab dp (YV e.k e.f ((e.g+1:Nat):Int)))=H1 at M1 oW k1 ⊢;have bY:(⟨e.n,e.p,e.k,e.f,e.ss,e.g+1⟩:Zv)∈bump L e.n:=by have:Xo e.n e∈bump L e.n:=Qd S;rwa [Sq rfl]at this
 have R1:=M1.each _ bY;have eC:∀ {C:Hp},(∀b o,H1 b=some o→b≠m→b≠G→C b=some o)→∀b o,H b=some o→¬ Fp m O G L b→C b=some o:=fun {C} k b o B nf =>
  k b o (k1 b o B fun z=>nf (.inr (.inr (.inr ⟨e,S,.inl z⟩)))) (fun z=>nf (.inl z)) (fun z=>nf (.inr (.inr (.inl z))))
 have e8:e.n∈Zu L:=W.1;have eD:(Zu L).length≤60:=by unfold Zu;rw[Qa];exact M.few
 have jn:(Zu L).length≤2 ^ 8:=Qv eD #[6];obtain⟨m6,m7,p6⟩:=Ss 8 (Zu L) e.n e8 jn;have m9:hdM (bump L e.n) e.n=(e.ss[e.g+1]?).map cds:=Ko M.nd S;have vm:∀ (c:Com),(c=none∧e.ss[e.g+1]? = none)∨(∃y,e.ss[e.g+1]? = some y∧c=some (e.n,((lcp (cds y) (cds x):Nat):Int)))→T8 (hdM (bump L e.n)) (cds x) [e.n] c:=fun c hc=>by
  have hw:=Win.sing (hd:=hdM (bump L e.n)) (n:=e.n);rcases hc with⟨rfl,hn⟩|⟨y,u,rfl⟩
  ·rw[m9,hn]at hw;exact⟨hw,fun p hp=>by cases hp⟩
  ·rw[m9,u]at hw;exact⟨hw,fun p hp=>by cases hp;exact⟨cds y,by rw[m9,u];rfl,rfl⟩⟩
 refine⟨_,rfl,e.p,dp,_,rfl,oW,UT ..,e.p,e.k,e.f,e.ss,e.g+1,rfl,R1.at',rfl,_,rfl,?_⟩;rw[Zmw];refine Zp7 (fun v C=>ZG H1 C∧∃c,CV C v c∧T8 (hdM (bump L e.n)) (cds x) [e.n] c) (fun d Q' Z=>?_) (fun d Q' Z=>?_) (fun v C ⟨s2,c,oU,hok⟩=>?_)
 ·have hn:e.ss[e.g+1]? = none:=by
   have:=of_decide_eq_true d;cases u:e.ss[e.g+1]? with
   | none=>rfl
   | some y=>rw[u]at this;cases this
  exact Z _ _ ⟨ZG.refl _,none,.inl ⟨rfl,rfl⟩,vm none (.inl ⟨rfl,hn⟩)⟩
 ·obtain⟨y,u⟩:∃y,e.ss[e.g+1]? = some y:=by
   cases u:e.ss[e.g+1]? with
   | none=>rw[u]at d;exact absurd rfl (of_decide_eq_false d)
   | some y=>exact⟨y,rfl⟩
  have Ao:e.g+1<e.ss.length:=(Qf.mp u).1;have rh:Xp e.ss (e.g+1)=((lcp (cds y) (cds x):Nat):Int):=by unfold Xp;rw[if_neg #[2],Qaf,QH,QH,hx,u,VC];rfl
  have bm:atI ((List.range e.ss.length).map fun j=>V.int (Xp e.ss j)) ((e.g+1:Nat):Int)=some (.int ((lcp (cds y) (cds x):Nat):Int)):=Yr (by rw[Qo,List.getElem?_range Ao,← rh];rfl);refine⟨_,rfl,_,rfl,e.p,ab,dp,_,_,rfl,oW,T.cl_Row,T.na_Row_fars,ZlM ..,_,rfl,e.p,ab,dp,_,_,rfl,oW,T.cl_Row,T.na_Row_gone,U2 ..,e.f,_,_,_,rfl,rfl,SqL.of R1.at'.fs,bm,(by show 2≤sizeLine;decide),fun tc fN=>?_⟩;exact Z _ _ ⟨Zh fN _,some (e.n,((lcp (cds y) (cds x):Nat):Int)),.inr ⟨tc,_,rfl,rfl,Zd⟩,vm _ (.inr ⟨y,u,rfl⟩)⟩
 have M2:=M1.same s2;obtain⟨gQ,bO⟩:=M2.ob;refine⟨_,rfl,m,U,gQ,_,_,rfl,bO,T.cl_Merge,T.na_Merge_rows,XF ..,O,_,rfl,M2.rows,fun l hl=>?_⟩;rw[KS,Vu];have s3:=s2.trans (Zh hl (.lst ((Zu L).map V.int)));have cL:(upd C l (.lst ((Zu L).map V.int))) l=some (.lst ((Zu L).map V.int)):=Zd;have p8:CV (upd C l (.lst ((Zu L).map V.int))) v c:=oU.keep fun t xs ht=>Zh hl _ _ _ ht;generalize upd C l (.lst ((Zu L).map V.int))=H3 at s3 cL p8 ⊢;refine⟨_,rfl,l,Zu L,e.n,rfl,cL,e8,eD,M.up,fun r ts H4 ay gt eE cZ s4=>?_⟩;have gz:=s3.trans s4;have M4:=M1.same gz;have vn:CV H4 v c:=p8.keep fun t xs ht=>s4 _ _ ht;refine⟨r,rfl,⟨_,SqL.of gt⟩,?_⟩;obtain⟨Jk,gw⟩:=M4.ob;obtain⟨Jl,cb⟩:=M1.ob;have mZ:r≠m:=(Zb (s3 _ _ cb) ay).symm;have u0:r≠G:=(Zb (s3 _ _ M1.stays) ay).symm;refine TM (K:=K) (a:=r) (xs:=ts.map V.ref) (fun i σ I=>∃ (v':V) (c':Com) (J:StL) (k q':Int) (v4:Option V),σ=[some (.ref m),some (.int e.n),some (.ref e.p),some v',v4]∧i≤ts.length∧CV I v' c'∧T8 (hdM (bump L e.n)) (cds x) (low e.n (ZK 8 (Zu L) e.n) i) c'∧ZS ab U I m O G (bump L e.n) J nb (li+k) (lo'+q') ae∧ZX (hdM (bump L e.n)) J (low e.n (ZK 8 (Zu L) e.n) i)∧(∀j,¬ Kys (low e.n (ZK 8 (Zu L) e.n) i) j→Z1 J j=Z1 s j)∧Ag (hdM (bump L e.n)) (cds x) (XA e.n ((ZK 8 (Zu L) e.n).take i)) k q'∧(∀b o,H4 b=some o→b≠m→b≠G→I b=some o)) ?_ (fun i σ I _ Z=>by obtain⟨_,_,_,_,_,_,_,_,_,_,_,_,_,_,k5⟩:=Z;exact SqL.of (k5 _ _ gt mZ u0)) ?_ ?_
 ·refine⟨v,c,s,0,0,_,rfl,Qx _,vn,hok,M4.cast #[2] #[2],fun X F h2=>?_,fun _ _=>rfl,.nil,fun b o h _ _=>h⟩;have:=OD F;rcases this with rfl|⟨g,_⟩
  ·exact absurd h2 (by show ¬ 2≤1;decide)
  ·exact absurd g (by show ¬ 2≤1;decide)
 ·rintro i y σ I u ⟨v',c',J,k,q',v4,rfl,hi,nc,eS,M5,nh,eJ,ag,k5⟩;rw[Qo]at u;cases hz:ts[i]? with
  | none=>rw[hz]at u;cases u
  | some t =>
  rw[hz]at u;cases u;have bv:i<ts.length:=(Qf.mp hz).1;cases F:(ZK 8 (Zu L) e.n)[i]? with
  | none=>rw[QaG]at F;lia
  | some X =>
  obtain⟨x1,D,x3,x4⟩:=m6 i X F;have aM:=x1.rise M.up;have e3:low e.n (ZK 8 (Zu L) e.n) (i+1)=X:=by show (ZK 8 (Zu L) e.n).getD i []=X;rw[QH,F];rfl
  have rO:I t=some (.tup [.int (ZQ X).1,.int (ZQ X).2]):=k5 _ _ (cZ i t X hz F) (fun z=>by have:=cZ i t X hz F;rw[z,gw]at this;cases this) (fun z=>by have:=cZ i t X hz F;rw[z,M4.stays]at this;cases this);obtain⟨ni,dI⟩:=M5.ob;rw[← x4]at eS nh eJ;have Ap:=ZmR tk x1 D x3 ok;have fR:Z1 J (ZQ X)=Z1 s (ZQ X):=eJ _ fun z=>(KD aM D z).1 rfl;refine⟨_,rfl,m,ni,_,rfl,dI,ZjM ..,_,rfl,_,rfl,m,O,G,bump L e.n,J,nb,_,_,ae,t,v',c',cds x,X,e.n,rfl,M5,rO,nc,eS,?_,fun b B y u=>tk.ge (x1.mem B) u,aM,fun b B=>by rw[Vu];exact x1.mem B,D,x3,fun v6 c6 s6 k6 q6 H6 vp vq vt j7 vw M6 Aq=>?_⟩
  ·rw[fR];rcases Ap with w|⟨t',b,y,w1,w2,_,w4⟩
   ·exact .inl w
   ·exact .inr ⟨t',b,y,w1,w2,w4⟩
  ·refine⟨v6,c6,s6,k+k6,q'+q6,_,rfl,bv,vp,by rw[e3];exact vq,M6.cast #[2] #[2],?_,fun j N=>?_,?_,fun b o B n1 n2=>Aq b o (k5 b o B n1 n2) n1 n2⟩
   ·rw[e3];refine Zl6 (n:=e.n) (nh.congr (fun _ _=>rfl) fun j N=>j7 j (KD aM D N).1) ?_ vt;have cn:=OE aM (US x3);have so:Sub X (Z3 X e.n):=by unfold Z3;split;exact Sub.top.up D;exact Sub.top.lo D
    refine(ok.sub (x1.trans so)).congr (fun b B=>tk.oth b fun z=>cn (z ▸ B)) fun j N=>?_;rw[j7 j (KC aM D N).1,eJ j (KC aM D N).2]
   ·rw[e3]at N;rw[j7 j (fun z=>N ⟨X,.top,D,z⟩),eJ j (fun Z=>by obtain⟨Y,y1,y2,y3⟩:=Z;exact N ⟨Y,(OG D e.n).trans y1,y2,y3⟩)]
   ·have:=vw _ _ _ ag;unfold XA at this ⊢;rw[QJ,F,Qe];exact this
 ·rintro σ I ⟨v',c',J,k,q',v4,rfl,_,nc,eS,M5,nh,eJ,ag,k5⟩;rw[Qa,eE,m7]at eS nh;rw[Qa,eE,Qw (Qh _)]at ag;obtain⟨ni,dI⟩:=M5.ob;have fin:∀w':Option Int,w'=c'.map (·.1)→Q .non (upd I m (.ins U ni (mgF O nb (li+k) (lo'+q') G (YX w')))):=fun w' ew=>by subst ew;refine q J _ k q' _ M5.obj eS.1 nh ag fun b o B nf=>?_;rw[Zc (fun z=>nf (.inl z))];exact eC (fun b o B n1 n2=>k5 b o (gz b o B) n1 n2) b o B nf
  rcases nc with⟨rfl,rfl⟩|⟨t,p,rfl,rfl,ht⟩
  ·refine⟨_,rfl,rfl,_,rfl,YI rfl ?_⟩;refine⟨_,rfl,m,U,ni,_,rfl,dI,T.cl_Merge,T.na_Merge_best,XD ..,?_⟩;rw[Uc];exact fin none rfl
  ·refine⟨_,rfl,rfl,_,rfl,YG (fun z=>nomatch z) ?_⟩;refine⟨_,rfl,t,_,_,_,rfl,rfl,SqT.of ht,(show atI [V.int p.1,V.int p.2] 0=some (.int p.1) from Yr (j:=0) rfl),_,rfl,m,U,ni,_,rfl,dI,T.cl_Merge,T.na_Merge_best,XD ..,?_⟩;rw[Uc];exact fin (some p.1) rfl
def V4(L:List Zv)(w:Option Int)(x:V)(a:List Zv)(k q:Int)(H':Hp):Prop :=
 (w=none∧x=.non∧a=L∧k=0∧q=0)∨∃ (e:Zv) (t:Addr) (z:Str),e∈L∧w=some e.n∧x=.ref t∧e.ss[e.g]? = some z∧H' t=some (.tup [.int e.n,.int (e.g:Int),.str z])∧a=bump L e.n∧Ag (hdM a) (cds z) (XA e.n (ZK 8 (Zu L) e.n)) k q
theorem Zks(rd:Addr)(nb li lo:Int)(sd:Addr)(a:V):(mgF rd nb li lo sd a).lookup ("send_out" : Str)=none:=X5 _ _ _ _ _ _ #[1] #[1] #[1] #[1] #[1] #[1]
theorem Ot(rd:Addr)(nb li lo:Int)(sd:Addr)(a:V):(mgF rd nb li lo sd a).lookup ("take" : Str)=none:=X5 _ _ _ _ _ _ #[1] #[1] #[1] #[1] #[1] #[1]
def Kk(d e:Addr):Sp:=fun vs H Q _=>∃ (m rd sd:Addr) (L:List Zv) (s:StL) (nb li lo:Int) (w:Option Int),vs=[.ref m]∧ZS d e H m rd sd L s nb li lo (YX w)∧Win (hdM L) (Zu L) w∧ZX (hdM L) s (Zu L) ∧
 ∀ (x:V) (a:List Zv) (f:StL) (g:Option Int) (k q:Int) (c:Hp),V4 L w x a k q c→ZS d e c m rd sd a f nb (li+k) (lo+q) (YX g)→Win (hdM a) (Zu a) g→ZX (hdM a) f (Zu a)→(∀b o,H b=some o→¬ Fp m rd sd L b→c b=some o)→Q x c
theorem Zoq(T:Zt K mg ab U)(G:Mf P w K mg base 3 U "coming" ["self"] (KP ab U))(I:Mf P w K mg base 5 U "send_out" ["self", "number"] (Kl ab U)):Mf P w K mg base 6 U "take" ["self"] (Kk ab U):=by
 refine T.t_Merge_take.mf Mj (fun J H Q E h=>?_) (fun af f A outer s H J Q E u h=>?_)
 ·obtain⟨m,d,g,L,s,nb,i,lo,w,rfl,_⟩:=h;rfl
 obtain⟨m,d,g,L,s,nb,i,c,w,rfl,M,W,ok,q⟩:=h;refine⟨_,#[Ze,#[Zw,1,Mj.nd,#[3],#[YQ,G,T.cl_Merge,u,‹0›]],#[Ze,#[Z0,#[Zn,UN,‹1›,#[ZT],(Zp _)],#[Zj,#[Yy,#[XI,I,T.cl_Merge,u,‹0›,#[Za,#[ZM,‹0›],#[Zf]]]]],#[ZF]],#[Zj,#[Zr,‹1›]]]],?_⟩;obtain⟨N,O⟩:=M.ob;refine⟨_,rfl,m,N,_,rfl,O,Zil ..,m,d,g,L,s,nb,i,c,w,rfl,M,W,fun x S V j=>?_⟩;have M1:=M.same j;rcases V with⟨rfl,hw⟩|⟨t,e',z,rfl,X,v,B,hw⟩
 ·have l:Win (hdM L) (Zu L) none:=by rw[Uf]at hw;exact hw
  have n:=W.one l;subst n;exact⟨_,rfl,rfl,_,rfl,WB rfl ⟨_,rfl,q .non L s none 0 0 S (.inl ⟨rfl,rfl,rfl,rfl,rfl⟩) (M1.cast #[2] #[2]) W ok (fun b o p _=>j b o p)⟩⟩
 ·obtain⟨e,C,rfl⟩:=Qi.mp X;have l:Win (hdM L) (Zu L) (some e.n):=by rw[Uf]at hw;exact hw
  have n:=W.one l;subst n;obtain⟨D,r⟩:=M1.ob;refine⟨_,rfl,rfl,_,rfl,Ui (fun z=>nomatch z) ?_⟩;refine⟨_,rfl,m,D,_,rfl,r,Zks ..,_,rfl,m,U,D,_,_,rfl,r,T.cl_Merge,T.na_Merge_best,Ud ..,m,d,g,L,s,nb,i,c,_,e,z,rfl,M1,C,v,W,ok,fun Y Z k q' F M2 W2 nj ag k2=>?_⟩;have bE:F t=some (.tup [.int e.n,.int (e.g:Int),.str z]):=k2 _ _ B fun hf=>by
   have a:=B;rcases hf with h|h|h|⟨y,hy,h⟩
   ·rw[h,r]at a;cases a
   ·rw[h,M1.rows]at a;cases a
   ·rw[h,M1.stays]at a;cases a
   ·have R:=(M1.each y hy).at';obtain⟨dy,fI⟩:=R.ob;rcases h with h|h|h
    ·rw[h,fI]at a;cases a
    ·rw[h,R.ks]at a;cases a
    ·rw[h,R.fs]at a;cases a
  exact⟨_,rfl,q (.ref t) (bump L e.n) Y Z k q' F (.inr ⟨e,t,z,C,rfl,rfl,v,bE,rfl,ag⟩) M2 (by rw[Vu];exact W2) (by rw[Vu];exact nj) (fun b o p nf=>k2 b o (j b o p) nf)⟩
noncomputable abbrev Y5:=Int×List Str×Nat
noncomputable def pur(Lo:List ZA):List Y5:=Lo.map fun e=>(e.1,e.2.2)
noncomputable def ZO(L:List Zv):List Y5:=L.map fun e=>(e.n,(e.ss,e.g))
noncomputable def hdP(P:List Y5):Hd:=hdL (P.map fun x=>(x.1,0,x.2))
noncomputable def Y3(P:List Y5):List Int:=P.map (·.1)
noncomputable def Xn(n:Int)(x:Y5):Y5:=if x.1=n then (x.1,x.2.1,x.2.2+1) else x
noncomputable def YB(P:List Y5)(n:Int):List Y5:=P.map (Xn n)
theorem Sn(Lo:List ZA):hdL Lo=hdP (pur Lo):=Sx _ _ (by unfold pur;rw[Qg,Qg];rfl)
theorem T7(L:List Zv):hdM L=hdP (ZO L):=Sx _ _ (by unfold ZO;rw[Qg,Qg,Qg];rfl)
theorem Sl(Lo:List ZA):Lo.map (·.1)=Y3 (pur Lo):=by unfold Y3 pur;rw[Qg];rfl
theorem Xg(L:List Zv):Zu L=Y3 (ZO L):=by unfold Y3 ZO Zu;rw[Qg];rfl
theorem Kj(L:List Zv)(n:Int):ZO (bump L n)=YB (ZO L) n:=by
 unfold ZO bump YB;rw[Qg,Qg];refine Qy fun e _=>?_;simp only[Function.comp];unfold Xn;by_cases h:e.n=n
 ·rw[Sq h,if_pos h]
 ·rw[Ov h,if_neg h]
noncomputable def Wq(n:Int)(e:ZA):ZA:=if e.1=n then (e.1,e.2.1,e.2.2.1,e.2.2.2+1) else e
noncomputable def YL(Lo:List ZA)(n:Int):List ZA:=Lo.map (Wq n)
theorem Ki(Lo:List ZA)(n:Int):pur (YL Lo n)=YB (pur Lo) n:=by
 unfold pur YL YB;rw[Qg,Qg];refine Qy fun e _=>?_;simp only[Function.comp];unfold Xn Wq;by_cases h:e.1=n
 ·rw[if_pos h,if_pos h]
 ·rw[if_neg h,if_neg h]
def WG(P:List Y5)(x:Y5)(z:Str)(k q:Int):Prop:=x∈P∧x.2.1[x.2.2]? = some z∧Win (hdP P) (Y3 P) (some x.1)∧Ag (hdP (YB P x.1)) (cds z) (XA x.1 (ZK 8 (Y3 P) x.1)) k q
noncomputable abbrev Kh:=Int×Nat×Str
inductive Oq (P:List Y5):List Kh→List Y5→Int→Int→Prop
 | nil:Oq P [] P 0 0
 | snoc {ts:List Kh} {P1:List Y5} {x:Y5} {z:Str} {k q k1 q1:Int}:Oq P ts P1 k q→WG P1 x z k1 q1→Oq P (ts++[(x.1,x.2.2,z)]) (YB P1 x.1) (k+k1) (q+q1)
inductive Xm:List Y5→Int→Int→Prop
 | stop {P:List Y5}:Win (hdP P) (Y3 P) none→Xm P 0 0
 | go {P:List Y5} {x:Y5} {z:Str} {k q k1 q1:Int}:WG P x z k1 q1→Xm (YB P x.1) k q→Xm P (k1+k) (q1+q)
theorem WG.one{P:List Y5}(nd:(Y3 P).Nodup){x y:Y5}{z u:Str}{k q k' a:Int}(h:WG P x z k q)(g:WG P y u k' a):x=y∧z=u∧k=k'∧q=a:=by obtain⟨b,c,d,e⟩:=h;obtain⟨f,i,j,l⟩:=g;have m:=Qp (d.one j);have n:=Ws nd b f m;subst n;have o:=Qp (c.symm.trans i);subst o;exact⟨rfl,rfl,e.one l⟩
noncomputable def T6(P:List Y5):Nat:=(P.map fun x=>x.2.1.length-x.2.2).sum
theorem Sk{L a:List Zv}{w:Option Int}{x:V}{k q:Int}{H:Hp}(W:Win (hdM L) (Zu L) w)(h:V4 L w x a k q H):(Win (hdP (ZO L)) (Y3 (ZO L)) none∧x=.non∧a=L∧k=0∧q=0)∨∃ (y:Y5) (z:Str) (t:Addr),WG (ZO L) y z k q∧ZO a=YB (ZO L) y.1∧x=.ref t∧H t=some (.tup [.int y.1,.int (y.2.2:Int),.str z]):=by
 rw[T7,Xg]at W;rcases h with⟨rfl,c,d,g,i⟩|⟨e,t,z,j,rfl,rfl,l,m,rfl,b⟩
 ·exact .inl ⟨W,c,d,g,i⟩
 ·refine .inr ⟨(e.n,(e.ss,e.g)),z,t,⟨Qd (f:=fun e:Zv=>(e.n,(e.ss,e.g))) j,l,W,?_⟩,Kj L e.n,rfl,m⟩;rw[T7,Kj,Xg]at b;exact b
theorem V4.fp{L a:List Zv}{w:Option Int}{x:V}{k q:Int}{H:Hp}(h:V4 L w x a k q H){m rd sd b:Addr}:Fp m rd sd a b↔Fp m rd sd L b:=by
 rcases h with⟨_,_,rfl,_⟩|⟨e,t,z,_,_,_,_,_,rfl,_⟩
 ·exact Iff.rfl
 ·exact⟨ZoL,Fp_bump'⟩
theorem ZS.fp_live{c d:Addr}{H:Hp}{m rd sd:Addr}{L:List Zv}{s:StL}{nb li lo:Int}{f:V}(M:ZS c d H m rd sd L s nb li lo f){b:Addr}(h:Fp m rd sd L b):∃o,H b=some o∧∀xs,o≠.tup xs:=by
 rcases h with rfl|rfl|rfl|⟨e,g,h⟩
 ·obtain⟨i,a⟩:=M.ob;exact⟨_,a,fun xs z=>by cases z⟩
 ·exact⟨_,M.rows,fun xs z=>by cases z⟩
 ·exact⟨_,M.stays,fun xs z=>by cases z⟩
 ·have R:=(M.each e g).at';obtain⟨i,a⟩:=R.ob;rcases h with rfl|rfl|rfl
  ·exact⟨_,a,fun xs z=>by cases z⟩
  ·exact⟨_,R.ks,fun xs z=>by cases z⟩
  ·exact⟨_,R.fs,fun xs z=>by cases z⟩
theorem ZS.fp_fresh{c d:Addr}{H:Hp}{m rd sd:Addr}{L:List Zv}{s:StL}{nb li lo:Int}{e:V}(M:ZS c d H m rd sd L s nb li lo e){b:Addr}(h:H b=none):¬ Fp m rd sd L b:=fun z=>by obtain⟨o,a,_⟩:=M.fp_live z;rw[h]at a;cases a
theorem ZS.fp_tup{c d:Addr}{H:Hp}{m rd sd:Addr}{L:List Zv}{s:StL}{nb li lo:Int}{e:V}(M:ZS c d H m rd sd L s nb li lo e){b:Addr}{xs:List V}(h:H b=some (.tup xs)):¬ Fp m rd sd L b:=fun z=>by obtain⟨o,a,f⟩:=M.fp_live z;rw[h]at a;cases a;exact f xs rfl
def Kg:Sp:=fun vs H Q _=>∃ (a:Addr) (N:List Int) (n:Int),vs=[.ref a,.int n]∧H a=some (.lst (N.map V.int))∧n∈N∧N.length≤60∧Z9 N ∧
 ∀ (r:Addr) (c:List (Addr×Addr×Addr)) (b:Hp),H r=none→b r=some (.lst (c.map fun t=>V.ref t.1))→c.length=(ZK 8 N n).length→(∀ (i:Nat) (t:Addr×Addr×Addr) (X:List Int),c[i]? = some t→(ZK 8 N n)[i]? = some X→b t.1=some (.tup [.ref t.2.1,.ref t.2.2])∧b t.2.1=some (.lst ((ZU X n).map V.int))∧b t.2.2=some (.lst ((Z3 X n).map V.int)))→ZG H b→Q (.ref r) b
theorem Op{M:List Int}(r:Z9 M){n:Int}(a:n∈M):(n∈up M↔¬ n∈lo M):=by
 constructor
 ·intro h g;have:=ZP r g h;lia
 ·intro h;rw[← XY M]at a;exact(Qm.mp a).resolve_left h
theorem ZoT(T:Zt K mg ab U)(ba:Df P w K mg base 1 "_law_halves" ["_law_numbers"] (Wa K false)):Df P w K mg base 2 "_law_way" ["_law_numbers", "_law_n"] Kg:=by
 refine T.t_l_way.df U9 (fun vs H Q E h=>?_) (fun af f A outer s H vs Q E hr h=>?_)
 ·obtain⟨a,N,n,rfl,_⟩:=h;rfl
 obtain⟨a,N,n,rfl,ha,hn,eD,aM,q⟩:=h;refine⟨_,#[Ze,#[WT,2,3,U9.nd,#[Za,#[Xq,(Vk K),T.b.n_list,boot_list,#[Za,‹0›,#[Zf]]],#[Za,#[YH,#[Zf]],#[Zf]]]],#[Ze,(@TN _ _ _ _ _ _ PassesOwn.never #[Zn,VX,#[Zk,(Yv K),T.b.n_len,Qu,#[Za,‹2›,#[Zf]]],#[Zi],(Zp _)] #[Ze,#[Z2,#[ZB,ba,hr,#[Za,‹2›,#[Zf]],#[5]],(@gL _ K _ _ _ 2 _ #[ZC,#[ZD,4,U9.nd],#[ZC,#[ZD,5,U9.nd],(@X6 _)]] #[5] #[5] #[5] #[5])],#[Ze,#[Z0,#[Zn,(inQ K),‹1›,‹5›,(by with_unfolding_all rfl)],#[Zj,#[WT,4,5,U9.nd,#[Za,‹5›,#[Za,‹4›,#[Zf]]]]],#[ZF]],#[Ze,#[Yy,#[Xj,QU,Q2,Q3,VQ,‹3›,#[Za,#[YJ,#[Za,‹4›,#[Za,‹5›,#[Zf]]]],#[Zf]]]],#[Zj,#[Zw,2,U9.nd,#[3],‹4›]]]]]),#[Zj,#[Zr,(@ZlH _ _ _ _ _ _ _ _ _ _ _ _ (Zsd K) ‹3› (@Xa _) (@Xa _) (@WR _ _ _ (@Vo _ _ _ _ _ _ Vn #[Zi])))]]]],?_⟩;refine⟨_,rfl,a,_,rfl,.inl (SqL.of ha),fun S Ar=>⟨(by show 0≤sizeLine;decide),fun o rY=>⟨_,_,rfl,?_⟩⟩⟩;have sb:ZG H (upd H S (.lst (N.map V.int))):=Zh Ar _;have hO:H o=none:=sb.free rY;have vz:S≠o:=Zb (H:=upd H S (.lst (N.map V.int))) Zd rY;have jn:N.length≤2 ^ 8:=Qv eD #[6];refine⟨fun m σ C=>∃ (b:Addr) (M:List Int) (c:List (Addr×Addr×Addr)) (D:List (List Int)) (k:Nat) (I J:Option V),σ=[some (.ref a),some (.int n),some (.ref b),some (.ref o),I,J]∧C b=some (.lst (M.map V.int))∧b≠o∧n∈M∧Z9 M∧M.length≤60∧M.length≤2 ^ k∧ZK 8 N n=ZK k M n++D.reverse∧c.length=D.length∧C o=some (.lst (c.map fun t=>V.ref t.1))∧(∀ (i:Nat) (t:Addr×Addr×Addr) (X:List Int),c[i]? = some t→D[i]? = some X→C t.1=some (.tup [.ref t.2.1,.ref t.2.2])∧C t.2.1=some (.lst ((ZU X n).map V.int))∧C t.2.2=some (.lst ((Z3 X n).map V.int))∧t.1≠o∧t.2.1≠o∧t.2.2≠o)∧ZG H C∧m=M.length∧k+D.length=8,⟨_,S,N,[],[],8,none,none,rfl,by rw[Zc vz];exact Zd,vz,hn,aM,eD,jn,by simp,rfl,Zd,(fun i t X h=>by simp at h),sb.trans (Zh rY _),rfl,rfl⟩,?_⟩;rintro m σ C ⟨b,M,c,D,k,I,J,rfl,j,nb,W,Y,BY,vA,Z,eE,ho,cZ,s2,rfl,Jm⟩;have Aa:(((M.map V.int).length:Nat):Int)=(M.length:Int):=by rw[Qa]
 refine⟨_,rfl,b,_,rfl,.inl (SqL.of j),_,_,rfl,rfl,_,rfl,?_⟩;refine YW (fun c1=>?_) (fun c1=>?_)
 ·have rT:(1:Int)<(((M.map V.int).length:Nat):Int):=of_decide_eq_true c1;have hc:2≤M.length:=by lia
  obtain⟨k',rfl⟩:∃k',k=k'+1:=by
   cases k with
   | zero=>simp at vA;lia
   | succ k'=>exact⟨k',rfl⟩
  refine⟨_,fun aj H' h=>h,?_⟩;refine⟨_,rfl,b,M,rfl,SqL.of j,by lia,fun t x y L ht hx hy Ab et ex ey O Ac Ad=>?_⟩;rw[Pc]at ex;rw[Pb]at ey;refine⟨t,_,rfl,SqL.of et,rfl,_,_,rfl,_,_,rfl,rfl,?_⟩;have F:=O _ _ ho;have am:(c.map fun t=>V.ref t.1).length<sizeLine:=by rw[Qa];exact ZE #[2]
  have nox:o≠x:=Zb ho hx;have vB:o≠y:=Zb ho hy;have gP:(ZU M n).length≤2 ^ k':=by
   rw[QaW]at vA;unfold ZU;split
   ·unfold lo mid;rw[QA];lia
   ·unfold up mid;rw[QO];lia
  have vC:ZK 8 N n=ZK k' (ZU M n) n++(D++[M]).reverse:=by
   rw[Z]
   conv=>lhs;unfold ZK
   rw[if_pos hc,List.reverse_append,QaU];rfl
  have step:∀ (p u v:Addr) (d:Hp),L p=none→L u=some (.lst ((ZU M n).map V.int))→L v=some (.lst ((Z3 M n).map V.int))→u≠o→v≠o→d=upd (upd L p (.tup [.ref u,.ref v])) o (.lst ((c.map fun t=>V.ref t.1)++[.ref p]))→∀I J:Option V,∃m',m'<M.length∧∃ (b:Addr) (G:List Int) (c:List (Addr×Addr×Addr)) (D:List (List Int)) (k:Nat) (w4 w5:Option V),[some (V.ref a),some (V.int n),some (V.ref u),some (V.ref o),I,J]=[some (.ref a),some (.int n),some (.ref b),some (.ref o),w4,w5]∧d b=some (.lst (G.map V.int))∧b≠o∧n∈G∧Z9 G∧G.length≤60∧G.length≤2 ^ k∧ZK 8 N n=ZK k G n++D.reverse∧c.length=D.length∧d o=some (.lst (c.map fun t=>V.ref t.1))∧(∀ (i:Nat) (t:Addr×Addr×Addr) (X:List Int),c[i]? = some t→D[i]? = some X→d t.1=some (.tup [.ref t.2.1,.ref t.2.2])∧d t.2.1=some (.lst ((ZU X n).map V.int))∧d t.2.2=some (.lst ((Z3 X n).map V.int))∧t.1≠o∧t.2.1≠o∧t.2.2≠o)∧ZG H d∧m'=G.length∧k+D.length=8:=fun p u v d l hu hv oZ vD e4 I J=>by
   have vE:p≠o:=(Zb F l).symm;have k4:∀b z,L b=some z→b≠o→d b=some z:=fun b z j nb=>by rw[e4,Zc nb,Zc (Zb j l)];exact j
   refine⟨_,OF hc n,u,ZU M n,c++[(p,u,v)],D++[M],k',I,J,rfl,k4 _ _ hu oZ,oZ,US W,(OG hc n).rise Y,by have:=OF hc n;lia,gP,vC,by rw[Qj,Qj,eE];rfl,by rw[e4,Zd,Qe];rfl,fun i t X e B=>?_,fun b z j=>k4 b z (O b z (s2 b z j)) (Zb j hO),rfl,by rw[Qj,QD];lia⟩;by_cases am:i<c.length
   ·rw[QK am]at e;rw[QK #[2]]at B;obtain⟨g1,g2,g3,g4,g5,g6⟩:=cZ i t X e B;exact⟨k4 _ _ (O _ _ g1) g4,k4 _ _ (O _ _ g2) g5,k4 _ _ (O _ _ g3) g6,g4,g5,g6⟩
   ·have ei:i=c.length:=by have:=(Qf.mp e).1;rw[Qj,QD]at this;lia
    subst ei;rw[QL (Qh _),QaE]at e;cases e;rw[eE,QL (Qh _),QaE]at B;cases B;exact⟨by rw[e4,Zc vE];exact Zd,k4 _ _ hu oZ,k4 _ _ hv vD,vE,oZ,vD⟩
  refine⟨_,rfl,_,rfl,y,_,rfl,.inl (SqL.of ey),rfl,Oy _,_,rfl,?_⟩;show if inV (V.int n) ((up M).map V.int)=true then _ else _
  rw[Oz];refine YW (fun c2=>?_) (fun c2=>?_)
  ·have gR:n∈up M:=of_decide_eq_true c2;have e1:ZU M n=up M:=by unfold ZU;rw[if_neg ((Op Y W).mp gR)]
   have e2:Z3 M n=lo M:=by unfold Z3;rw[if_neg ((Op Y W).mp gR)]
   refine⟨_,rfl,_,rfl,_,_,rfl,?_⟩;refine⟨_,rfl,.inl ⟨rfl,_,SqL.of F⟩,_,rfl,_,rfl,(by show 2≤sizeLine;decide),fun p l=>?_⟩;refine⟨o,_,_,rfl,rfl,by rw[Zc (Zb F l)];exact F,am,_,rfl,?_⟩;exact step p y x _ l (by rw[e1];exact ey) (by rw[e2];exact ex) vB.symm nox.symm rfl _ _
  ·have gR:¬ n∈up M:=fun z=>c2 (decide_eq_true z);have hl:n∈lo M:=by
    by_cases g:n∈lo M
    ·exact g
    ·exact absurd ((Op Y W).mpr g) gR
   have e1:ZU M n=lo M:=by unfold ZU;rw[if_pos hl]
   have e2:Z3 M n=up M:=by unfold Z3;rw[if_pos hl]
   refine⟨_,rfl,.inl ⟨rfl,_,SqL.of F⟩,_,rfl,_,rfl,(by show 2≤sizeLine;decide),fun p l=>?_⟩;refine⟨o,_,_,rfl,rfl,by rw[Zc (Zb F l)];exact F,am,_,rfl,?_⟩;exact step p x y _ l (by rw[e1];exact ex) (by rw[e2];exact ey) nox.symm vB.symm rfl _ _
 ·have rT:¬ (1:Int)<(((M.map V.int).length:Nat):Int):=fun z=>c1 (decide_eq_true z);have mY:ZK k M n=[]:=by
   cases k with
   | zero=>rfl
   | succ k=>unfold ZK;rw[if_neg #[2]]
  rw[mY,List.nil_append]at Z;refine⟨_,rfl,_,rfl,_,rfl,_,rfl,o,_,rfl,SqL.of ho,by decide,fun r R=>?_⟩;refine q r c.reverse _ (s2.free R) (by rw[Zd,Zma,List.map_reverse]) (by rw[Z,QaH,QaH];exact eE) (fun i t X e B=>?_) (s2.trans (Zh R _));rw[Z]at B;have bv:i<c.length:=by have:=(Qf.mp e).1;rw[QaH]at this;exact this
  rw[List.getElem?_reverse bv]at e;rw[List.getElem?_reverse #[2],← eE]at B;obtain⟨g1,g2,g3,_⟩:=cZ _ t X e B;exact⟨Zh R _ _ _ g1,Zh R _ _ _ g2,Zh R _ _ _ g3⟩
theorem T5(n:Int)(e:ZA):(Wq n e).1=e.1∧(Wq n e).2.1=e.2.1∧(Wq n e).2.2.1=e.2.2.1:=by unfold Wq;split<;>exact⟨rfl,rfl,rfl⟩
theorem Kf(Lo:List ZA)(n:Int):(YL Lo n).map (·.1)=Lo.map (·.1):=by unfold YL;rw[Qg];exact Qy fun e _=>(T5 n e).1
theorem Znp(Lo:List ZA)(n:Int):kvR (YL Lo n)=kvR Lo:=by unfold kvR YL;rw[Qg];refine Qy fun e _=>?_;simp only[Function.comp];rw[(T5 n e).1,(T5 n e).2.1]
theorem ZpC{Lo:List ZA}(nd:(Lo.map (·.1)).Nodup){e:ZA}(he:e∈Lo):YY (kvG Lo) (.inl e.1) (.int ((e.2.2.2:Int)+1))=kvG (YL Lo e.1):=by
 unfold YY;rw[if_pos]
 ·unfold kvG YL;rw[Qg,Qg];refine Qy fun x a=>?_;simp only[Function.comp];unfold Wq;by_cases h:x.1=e.1
  ·have ex:x=e:=Ws nd a he h;subst ex;rw[if_pos rfl,if_pos rfl];show _=(_,V.int (((x.2.2.2+1:Nat)):Int));rw[Int.natCast_add];rfl
  ·rw[if_neg (fun z=>h (Sum.inl.inj z)),if_neg h]
 ·exact Qap.mpr ⟨_,Qd (f:=fun e:ZA=>((.inl e.1:Key),V.int (e.2.2.2:Int))) he,decide_eq_true rfl⟩
theorem Own.ne_l{H:Hp}{o ra ga:Addr}{L:List ZA}{nb li lo:Int}(h:Own H o ra ga L nb li lo){e:ZA}(he:e∈L):e.2.1≠o∧e.2.1≠ra∧e.2.1≠ga:=by
 have a:=(h.lst e he).1;refine⟨fun z=>?_,fun z=>?_,fun z=>?_⟩
 ·rw[z,h.at']at a;cases a
 ·rw[z,h.rows]at a;cases a
 ·rw[z,h.gone]at a;cases a
theorem Own.bump{H:Hp}{o ra ga:Addr}{L:List ZA}{nb li lo:Int}(h:Own H o ra ga L nb li lo){e:ZA}(he:e∈L)(c:e.2.2.2<e.2.2.1.length):Own (upd H ga (.dK (kvG (YL L e.1)))) o ra ga (YL L e.1) nb li lo:=by
 obtain⟨n1,d⟩:=h.ne;have f:=h.ne2 (fun z=>by rw[z]at he;cases he);refine⟨by rw[Zc d.symm];exact h.at',by rw[Zc f.symm,Znp];exact h.rows,Zd,by rw[Kf];exact h.nd,by unfold YL;rw[Qa];exact h.few,fun x g=>?_⟩;obtain⟨y,a,rfl⟩:=Qi.mp g;obtain⟨a1,a2,a3,a4⟩:=h.lst y a;obtain⟨_,i,j⟩:=T5 e.1 y;rw[i,j];refine⟨by rw[Zc (h.ne_l a).2.2];exact a1,a2,?_,a4⟩;by_cases b:y.1=e.1
 ·have k:y=e:=Ws h.nd a he b;subst k;unfold Wq;rw[if_pos rfl];exact c
 ·unfold Wq;rw[if_neg b];exact a3
theorem Own.but{H H':Hp}{o ra ga:Addr}{L:List ZA}{nb li lo li' lo':Int}(h:Own H o ra ga L nb li lo)(k:∀b u,H b=some u→b≠o→H' b=some u)(d:H' o=some (.dK (Y6 ra ga nb li' lo'))):Own H' o ra ga L nb li' lo':=by obtain⟨f,g⟩:=h.ne;exact⟨d,k _ _ h.rows f,k _ _ h.gone g,h.nd,h.few,fun e c=>let ⟨a,b⟩:=h.lst e c;⟨k _ _ a (h.ne_l c).1,b⟩⟩
def Oo(Lo:List ZA)(x:V)(a:List ZA)(k q:Int)(H':Hp):Prop :=
 (x=.non∧Win (hdL Lo) (Lo.map (·.1)) none∧a=Lo∧k=0∧q=0)∨∃ (e:ZA) (t:Addr) (z:Str),e∈Lo∧Win (hdL Lo) (Lo.map (·.1)) (some e.1)∧x=.ref t∧e.2.2.1[e.2.2.2]? = some z∧H' t=some (.tup [.int e.1,.int (e.2.2.2:Int),.str z])∧a=YL Lo e.1∧Ag (hdL a) (cds z) (XA e.1 (ZK 8 (Lo.map (·.1)) e.1)) k q
def ZnB:Sp:=fun vs H Q _=>∃ (o ra ga:Addr) (Lo:List ZA) (nb li lo:Int),vs=[.ref o]∧Own H o ra ga Lo nb li lo∧(Lo.map (·.1)).Pairwise (·<·) ∧
 ∀ (x:V) (c:List ZA) (k q:Int) (a:Hp),Oo Lo x c k q a→Own a o ra ga c nb (li+k) (lo+q)→(∀b u,H b=some u→b≠o→b≠ga→a b=some u)→Q x a
theorem ZlC(T:Zt K mg ab U)(dJ:Df P w K mg base 2 "_law_coming" ["_law_own"] K8)(aU:Df P w K mg base 1 "_law_heads" ["_law_own"] SH)(gA:Df P w K mg base 2 "_law_way" ["_law_numbers", "_law_n"] Kg)(aA:Df P w K mg base 1 "_law_least" ["_law_heads_here", "_law_numbers"] (SM K))(aT:Df P w K mg base 1 "_law_alike" ["_law_one", "_law_other"] Wd):Df P w K mg base 3 "_law_taken" ["_law_own"] ZnB:=by
 refine T.t_l_taken.df WP (fun vs H Q E h=>?_) (fun af f A outer s H vs Q E j h=>?_)
 ·obtain⟨o,F,p,Lo,nb,B,lo,rfl,_⟩:=h;rfl
 obtain⟨o,F,p,Lo,nb,B,g,rfl,O,aI,q⟩:=h;refine⟨_,#[Ze,#[Zw,1,WP.nd,#[3],#[ZB,dJ,j,#[Za,‹0›,#[Zf]],#[5]]],#[Ze,#[Z0,#[Zn,Yb,‹1›,#[ZT],(Zp _)],#[Zj,#[Zr,#[ZT]]],#[ZF]],#[Ze,#[Z2,‹1›,#[gT,K,3,#[ZC,#[ZD,2,WP.nd],#[ZC,#[ZD,3,WP.nd],#[ZC,#[ZD,4,WP.nd],(@X6 _)]]]]],#[Ze,#[Z2,#[ZI,YO,‹3›,#[Zi]],#[Ys,#[Zl,(ixG j),‹0›,#[Zz]],‹2›,(X9 j)]],#[Ze,#[Zw,5,WP.nd,#[3],#[ZB,aU,j,#[Za,‹0›,#[Zf]],#[5]]],#[Ze,#[XR,PassesOwn.never,#[iL,K,#[ZB,gA,j,#[Za,#[Zk,Vf,T.b.n_sorted,boot_sorted,#[Za,‹5›,#[Zf]]],#[Za,‹2›,#[Zf]]],#[5]]],#[gT,K,2,#[ZC,#[ZD,6,WP.nd],#[ZC,#[ZD,7,WP.nd],(@X6 _)]]],#[Ze,#[WT,8,9,WP.nd,#[Za,#[ZB,aA,j,#[Za,‹5›,#[Za,‹6›,#[Zf]]],#[5]],#[Za,#[ZB,aA,j,#[Za,‹5›,#[Za,‹7›,#[Zf]]],#[5]],#[Zf]]]],#[Zj,#[Z0,(@PW.pt _ _ _ #[XS,#[Zn,UN,‹8›,#[ZT],(Zp _)],#[Xl,#[Zn,UN,‹9›,#[ZT],(Zp _)]]]),#[Ze,#[Z2,#[ZI,YO,#[Zl,(ixG j),‹0›,#[Zz]],#[Zi]],#[Ys,‹0›,#[Zz],(X9 j)]],#[Ze,#[Zw,10,WP.nd,#[3],#[ZB,aT,j,#[Za,#[Zl,(ixG j),‹5›,‹8›],#[Za,‹4›,#[Zf]]],#[5]]],#[Zj,#[Z0,#[Zn,YF,‹10›,#[ZB,aT,j,#[Za,#[Zl,(ixG j),‹5›,‹9›],#[Za,‹4›,#[Zf]]],#[5]],(Zp _)],#[Zj,#[Z2,#[ZI,YO,#[ZI,Wn,#[ZI,YO,#[Zl,(ixG j),‹0›,#[Zz]],#[ZB,aT,j,#[Za,#[Zl,(ixG j),‹5›,‹8›],#[Za,#[Zl,(ixG j),‹5›,‹9›],#[Zf]]],#[5]]],‹10›],#[Zi]],#[Ys,‹0›,#[Zz],(X9 j)]]],#[ZF]]]]],#[ZF]]]]],#[Zj,#[Zr,‹1›]]]]]]]],?_⟩;refine⟨_,rfl,o,F,p,Lo,nb,B,g,rfl,O,fun x H1 hc s1=>?_⟩;have W:=O.same s1;rcases hc with⟨rfl,hw⟩|⟨t,e,z,rfl,Y,hz,ht,hw⟩
 ·exact⟨_,rfl,rfl,_,rfl,YI rfl (q .non Lo 0 0 H1 (.inl ⟨rfl,hw,rfl,rfl,rfl⟩) (by rw[QT,QT];exact W) (fun b u c _ _=>s1 b u c))⟩
 refine⟨_,rfl,rfl,_,rfl,YG (fun z=>nomatch z) ?_⟩;refine⟨_,rfl,t,_,rfl,SqT.of ht,rfl,_,_,rfl,_,_,rfl,_,_,rfl,rfl,?_⟩;have As:e.2.2.2<e.2.2.1.length:=(Qf.mp hz).1;have hsz:(kvG Lo).length<sizeLine:=by unfold kvG;rw[Qa];exact ZE (by have:=O.few;lia)
 refine⟨_,rfl,_,_,rfl,rfl,_,rfl,o,_,rfl,ZR.k' (k:=.inr "gone") W.at' (WJ ..),_,rfl,p,_,rfl,YD.k (k:=.inl e.1) W.gone hsz,?_⟩;rw[ZpC O.nd Y];have I:=W.bump Y As;have k2:∀b u,H b=some u→b≠p→(upd H1 p (.dK (kvG (YL Lo e.1)))) b=some u:=fun b u c n=>by rw[Zc n];exact s1 b u c
 have At:t≠p:=fun z=>by rw[z,W.gone]at ht;cases ht
 have bE:(upd H1 p (.dK (kvG (YL Lo e.1)))) t=some (.tup [.int e.1,.int (e.2.2.2:Int),.str z]):=by rw[Zc At];exact ht
 generalize upd H1 p (.dK (kvG (YL Lo e.1)))=H2 at I k2 bE ⊢;refine⟨_,rfl,o,F,p,YL Lo e.1,nb,B,g,rfl,I,fun D G H3 hD J ho s3=>?_⟩;have Z:=Kf Lo e.1;have o0:((YL Lo e.1).map (·.1)).Pairwise (·<·):=by rw[Z];exact aI
 have uL:G.length=Lo.length:=by have:=ho.per.length_eq;rw[Z,Qa,Qa]at this;exact this
 have bW:=O.few;refine⟨_,rfl,D,_,G.map (·.1),rfl,J.at',O7 G,by rw[Qa];lia,fun l ns hl aW aM=>?_⟩;have sl:=Zh hl (.lst (ns.map V.int));have vF:(upd H3 l (.lst (ns.map V.int))) l=some (.lst (ns.map V.int)):=Zd;generalize upd H3 l (.lst (ns.map V.int))=H4 at sl vF ⊢;have s4:=s3.trans sl;have bZ:=aW.trans ho.per;have cC:ns=Lo.map (·.1):=by rw[← Z];exact SF bZ (SE aM (bZ.nodup_iff.mpr I.nd)) o0
 subst cC;have cU:e.1∈Lo.map (·.1):=Qd Y;have eD:(Lo.map (·.1)).length≤60:=by rw[Qa];lia
 have jn:(Lo.map (·.1)).length≤2 ^ 8:=Qv eD #[6];obtain⟨m6,m7,p6⟩:=Ss 8 (Lo.map (·.1)) e.1 cU jn;refine⟨_,rfl,l,Lo.map (·.1),e.1,rfl,vF,cU,eD,aI,fun r ts H5 ay cm eE cZ s5=>?_⟩;have mR:=s4.trans s5;have gf:=I.same mR;have nq:=(J.same sl).same s5;refine⟨r,rfl,⟨_,SqL.of cm⟩,?_⟩;have Au:r≠o:=(Zb (s4 _ _ I.at') ay).symm;have vG:D≠o:=(Zb I.at' hD).symm;have o5:∀n∈Lo.map (·.1),hdL (YL Lo e.1) n=hdE G n:=fun n hn=>ho.same I.nd n (by rw[Z];exact hn);refine TM (K:=K) (a:=r) (xs:=ts.map fun t=>V.ref t.1) (fun i σ M=>∃ (k v:Int) (v6 v7 v8 v9 fe:Option V),σ=[some (.ref o),some (.ref t),some (.int e.1),some (.int (e.2.2.2:Int)),some (.str z),some (.ref D),v6,v7,v8,v9,fe]∧i≤ts.length∧M o=some (.dK (Y6 F p nb (B+k) (g+v)))∧Ag (hdL (YL Lo e.1)) (cds z) (XA e.1 ((ZK 8 (Lo.map (·.1)) e.1).take i)) k v∧(∀b u,H5 b=some u→b≠o→M b=some u)) ⟨0,0,_,_,_,_,_,rfl,Qx _,by rw[QT,QT];exact gf.at',.nil,fun b u h _=>h⟩ (fun i σ M _ hq=>by obtain⟨_,_,_,_,_,_,_,_,_,_,_,k6⟩:=hq;exact SqL.of (k6 _ _ cm Au)) ?_ ?_
 ·rintro i y σ M hy ⟨k,v,v6,v7,v8,v9,fe,rfl,hi,rZ,N,k6⟩;rw[Qo]at hy;cases o6:ts[i]? with
  | none=>rw[o6]at hy;cases hy
  | some u =>
  rw[o6]at hy;cases hy;have bv:i<ts.length:=(Qf.mp o6).1;cases hX:(ZK 8 (Lo.map (·.1)) e.1)[i]? with
  | none=>rw[QaG]at hX;lia
  | some X =>
  obtain⟨x1,x2,x3,x4⟩:=m6 i X hX;obtain⟨g1,g2,g3⟩:=cZ i u X o6 hX;have r6:∀b w',H5 b=some w'→(∀kk,w'≠.dK kk)→b≠o:=fun b w' c hk zz=>by rw[zz,gf.at']at c;injection c with c;exact hk _ c.symm
  have Av:=k6 _ _ g1 (r6 _ _ g1 fun _ z=>by cases z);have Aw:=k6 _ _ g2 (r6 _ _ g2 fun _ z=>by cases z);have Ax:=k6 _ _ g3 (r6 _ _ g3 fun _ z=>by cases z);have pm:=Sv X e.1;have sA:∀b∈ZU X e.1,b∈Lo.map (·.1):=fun b c=>x1.mem (pm.mem_iff.mp (QF _ c));have sB:∀b∈Z3 X e.1,b∈Lo.map (·.1):=fun b c=>x1.mem (pm.mem_iff.mp (Qr _ c));have o7:∀b∈Lo.map (·.1),b∈G.map (·.1):=fun b c=>ho.per.mem_iff.mpr (by rw[Z];exact c);have lA:(ZU X e.1).length≤60:=by have:=OF x2 e.1;have:X.length≤(Lo.map (·.1)).length:=x1.len;lia
  have lB:(Z3 X e.1).length≤60:=by have:X.length≤(Lo.map (·.1)).length:=x1.len;have:=pm.length_eq;rw[Qj]at this;lia
  have g8:Hds M D G:=⟨k6 _ _ nq.at' vG,nq.nd,nq.ok⟩;refine⟨u.1,_,rfl,SqT.of Av,rfl,_,_,rfl,_,_,rfl,rfl,?_⟩;refine⟨_,rfl,_,rfl,D,u.2.1,G,ZU X e.1,rfl,g8,SqL.of Aw,lA,fun b c=>o7 b (sA b c),fun R H7 w1 s7=>?_⟩;refine⟨_,rfl,_,rfl,D,u.2.2,G,Z3 X e.1,rfl,g8.same s7,SqL.of (s7 _ _ Ax),lB,fun b c=>o7 b (sB b c),fun S H8 w2 s8=>⟨_,_,rfl,?_⟩⟩;have lC:=s7.trans s8;have jX:=lC _ _ rZ;have r8:Win (hdL (YL Lo e.1)) (ZU X e.1) R:=w1.congr fun m hm=>o5 m (sA m hm);have r9:Win (hdL (YL Lo e.1)) (Z3 X e.1) S:=w2.congr fun m hm=>o5 m (sB m hm);have j8:∀b u,H5 b=some u→b≠o→H8 b=some u:=fun b u c n=>lC _ _ (k6 b u c n);have iF:XA e.1 ((ZK 8 (Lo.map (·.1)) e.1).take (i+1))=XA e.1 ((ZK 8 (Lo.map (·.1)) e.1).take i)++[(ZU X e.1,Z3 X e.1)]:=by unfold XA;rw[QJ,hX,Qe];rfl
  cases R with
  | none=>exact⟨_,rfl,rfl,_,rfl,WB rfl (YR ⟨k,v,_,_,_,_,_,rfl,bv,jX,by rw[iF];exact .no N (.inl r8),j8⟩)⟩
  | some a =>
  refine⟨_,rfl,rfl,_,rfl,Ui (fun z=>nomatch z) ?_⟩;cases S with
  | none=>exact⟨_,rfl,rfl,_,rfl,WB rfl ⟨k,v,_,_,_,_,_,rfl,bv,jX,by rw[iF];exact .no N (.inr r9),j8⟩⟩
  | some b =>
  refine⟨_,rfl,rfl,_,rfl,Ui (fun z=>nomatch z) ?_⟩;obtain⟨ma,C,ea,ha⟩:=SK w1;obtain⟨mb,L,eb,c⟩:=SK w2;have nv:=g8.same lC;have R:=UW J.nd (o7 a (sA a ma));have S:=UW J.nd (o7 b (sB b mb));rw[ea]at R;rw[eb]at S;have gF:hdL (YL Lo e.1) a=some (cds C):=by rw[o5 a (sA a ma)];exact ha
  have aP:hdL (YL Lo e.1) b=some (cds L):=by rw[o5 b (sB b mb)];exact c
  have vH:z.length≤1000:=((O.lst e Y).2.2.2 z (Qz hz)).1;have i4:∀l1 l2:Int,(Y6 F p nb l1 l2).length<sizeLine:=fun _ _=>ZE (by show 5≤1000;decide);refine⟨_,rfl,o,_,rfl,ZR.k' (k:=.inr "likenings") jX (Lb ..),_,_,rfl,rfl,_,rfl,o,_,rfl,YD.k (k:=.inr "likenings") jX (i4 _ _),?_⟩;rw[K7];have o8:(upd H8 o (.dK (Y6 F p nb (B+k+1) (g+v)))) o=some (.dK (Y6 F p nb (B+k+1) (g+v))):=Zd;have gg:Hds (upd H8 o (.dK (Y6 F p nb (B+k+1) (g+v)))) D G:=⟨by rw[Zc vG];exact nv.at',nv.nd,nv.ok⟩;have j9:∀b u,H5 b=some u→b≠o→(upd H8 o (.dK (Y6 F p nb (B+k+1) (g+v)))) b=some u:=fun b u c n=>by rw[Zc n];exact j8 b u c n
  generalize upd H8 o (.dK (Y6 F p nb (B+k+1) (g+v)))=H9 at o8 gg j9 ⊢;refine⟨_,rfl,_,rfl,D,_,rfl,ZR.k' (k:=.inl a) gg.at' R,_,rfl,C,z,rfl,(J.lk ea).1,vH,?_⟩;refine⟨_,rfl,_,rfl,_,rfl,D,_,rfl,ZR.k' (k:=.inl b) gg.at' S,_,rfl,L,z,rfl,(J.lk eb).1,vH,rfl,_,rfl,YW (fun d=>?_) (fun d=>?_)⟩
  ·have ef:lcp (cds C) (cds z)=lcp (cds L) (cds z):=by have:=of_decide_eq_true d;injection this with this;lia
   refine⟨_,rfl,o,_,rfl,ZR.k' (k:=.inr "looks") o8 (La ..),_,rfl,_,rfl,D,_,rfl,ZR.k' (k:=.inl a) gg.at' R,_,rfl,_,rfl,D,_,rfl,ZR.k' (k:=.inl b) gg.at' S,C,L,rfl,(J.lk ea).1,(J.lk eb).1,_,_,rfl,rfl,_,rfl,_,_,rfl,rfl,_,_,rfl,rfl,_,rfl,o,_,rfl,YD.k (k:=.inr "looks") o8 (i4 _ _),?_⟩;rw[K6];refine⟨k+1,v+((lcp (cds C) (cds L):Nat)-(lcp (cds C) (cds z):Nat)+1),_,_,_,_,_,rfl,bv,?_,by rw[iF];exact .eq N r8 r9 gF aP ef,fun b u c n=>by rw[Zc n];exact j9 b u c n⟩;rw[Zd];have e1:B+k+1=B+(k+1):=by lia
   have e2:g+v+((lcp (cds C) (cds L):Nat):Int)-((lcp (cds C) (cds z):Nat):Int)+1=g+(v+((lcp (cds C) (cds L):Nat)-(lcp (cds C) (cds z):Nat)+1)):=by lia
   rw[e1,e2]
  ·have nf:lcp (cds C) (cds z)≠lcp (cds L) (cds z):=fun e=>d (decide_eq_true (by rw[e]));exact⟨k+1,v,_,_,_,_,_,rfl,bv,by rw[show B+(k+1)=B+k+1 by lia];exact o8,by rw[iF];exact .ne N r8 r9 gF aP nf,j9⟩
 ·rintro σ M ⟨k,v,v6,v7,v8,v9,fe,rfl,_,rZ,N,k6⟩;rw[Qa,eE,Qw (Qh _)]at N;have Ay:t≠o:=fun zz=>by rw[zz,I.at']at bE;cases bE
  refine⟨_,rfl,q (.ref t) (YL Lo e.1) k v M (.inr ⟨e,t,z,Y,hw,rfl,hz,k6 _ _ (mR _ _ bE) Ay,rfl,N⟩) (gf.but k6 rZ) (fun b u c n1 n2=>k6 b u (mR b u (k2 b u c n2)) n1)⟩
structure MS where
 m:Addr
 rd:Addr
 sd:Addr
 L:List Zv
 s:StL
 nb:Int
 li:Int
 lo:Int
 w:Option Int
structure OS where
 o:Addr
 ra:Addr
 ga:Addr
 Lo:List ZA
 nb:Int
def Y9(Y:OS)(b:Addr):Prop:=b=Y.o∨b=Y.ra∨b=Y.ga∨∃e∈Y.Lo,b=e.2.1
def MFp(X:MS)(b:Addr):Prop:=Fp X.m X.rd X.sd X.L b
structure MOk (cR cM:Addr) (H:Hp) (X:MS):Prop where
 M:ZS cR cM H X.m X.rd X.sd X.L X.s X.nb X.li X.lo (YX X.w)
 W:Win (hdM X.L) (Zu X.L) X.w
 ok:ZX (hdM X.L) X.s (Zu X.L)
structure X7 (cR cM:Addr) (H:Hp) (X:MS) (Y:OS):Prop where
 mg:MOk cR cM H X
 ow:Own H Y.o Y.ra Y.ga Y.Lo Y.nb X.li X.lo
 ag:Agr Y.Lo X.L
 sep:∀b,MFp X b→¬ Y9 Y b
theorem MOk.same{a b:Addr}{H H':Hp}{X:MS}(h:MOk a b H X)(s:ZG H H'):MOk a b H' X:=⟨h.M.same s,h.W,h.ok⟩
theorem MOk.keep{a c:Addr}{H H':Hp}{X:MS}(h:MOk a c H X)(k:∀b o,H b=some o→MFp X b∨(∃xs,o=.tup xs)→H' b=some o):MOk a c H' X:=⟨h.M.keep k,h.W,h.ok⟩
theorem Own.keep{H H':Hp}{o ra ga:Addr}{L:List ZA}{nb li lo:Int}(h:Own H o ra ga L nb li lo)(k:∀b u,H b=some u→Y9 ⟨o,ra,ga,L,nb⟩ b→H' b=some u):Own H' o ra ga L nb li lo :=
 ⟨k _ _ h.at' #[8],k _ _ h.rows (.inr #[8]),k _ _ h.gone (.inr (.inr #[8])),h.nd,h.few,fun e c=>let ⟨a,b⟩:=h.lst e c;⟨k _ _ a (.inr (.inr (.inr ⟨e,c,rfl⟩))),b⟩⟩
theorem X7.same{a b:Addr}{H H':Hp}{X:MS}{Y:OS}(h:X7 a b H X Y)(s:ZG H H'):X7 a b H' X Y:=⟨h.mg.same s,h.ow.same s,h.ag,h.sep⟩
theorem Ke{o ra ga:Addr}{Lo:List ZA}{nb:Int}{n:Int}{b:Addr}(h:Y9 ⟨o,ra,ga,YL Lo n,nb⟩ b):Y9 ⟨o,ra,ga,Lo,nb⟩ b:=by
 rcases h with h|h|h|⟨e',a,h⟩
 ·exact .inl h
 ·exact .inr (.inl h)
 ·exact .inr (.inr (.inl h))
 ·obtain⟨e,c,rfl⟩:=Qi.mp a;rw[(T5 n e).2.1]at h;exact .inr (.inr (.inr ⟨e,c,h⟩))
theorem Vt{Lo:List ZA}{L:List Zv}(h:Agr Lo L):pur Lo=ZO L:=h
theorem Own.live{H:Hp}{o ra ga:Addr}{L:List ZA}{nb li lo:Int}(h:Own H o ra ga L nb li lo){b:Addr}(hb:Y9 ⟨o,ra,ga,L,nb⟩ b):∃u,H b=some u∧∀xs,u≠.tup xs:=by
 rcases hb with rfl|rfl|rfl|⟨e,a,rfl⟩
 ·exact⟨_,h.at',fun xs z=>by cases z⟩
 ·exact⟨_,h.rows,fun xs z=>by cases z⟩
 ·exact⟨_,h.gone,fun xs z=>by cases z⟩
 ·exact⟨_,(h.lst e a).1,fun xs z=>by cases z⟩
theorem ZlZ{A B:Addr}{H g h:Hp}{X:MS}{Y:OS}(p:X7 A B H X Y){x y:V}{a:List Zv}{s':StL}{l:Option Int}{k q k' v:Int}{w:List ZA}(D:V4 X.L X.w x a k q g)
  (M1:ZS A B g X.m X.rd X.sd a s' X.nb (X.li+k) (X.lo+q) (YX l)) (E:Win (hdM a) (Zu a) l) (F:ZX (hdM a) s' (Zu a)) (k1:∀b o,H b=some o→¬ MFp X b→g b=some o)
  (C:Oo Y.Lo y w k' v h) (G:Own h Y.o Y.ra Y.ga w Y.nb (X.li+k') (X.lo+v)) (k2:∀b u,g b=some u→b≠Y.o→b≠Y.ga→h b=some u) (n:Nat) :
  k=k'∧q=v∧X7 A B h ⟨X.m,X.rd,X.sd,a,s',X.nb,X.li+k,X.lo+q,l⟩ ⟨Y.o,Y.ra,Y.ga,w,Y.nb⟩∧IsD h (n+2) x y∧(∀b,MFp ⟨X.m,X.rd,X.sd,a,s',X.nb,X.li+k,X.lo+q,l⟩ b↔MFp X b)∧(∀b,Y9 ⟨Y.o,Y.ra,Y.ga,w,Y.nb⟩ b→Y9 Y b) ∧
   ((Win (hdP (ZO X.L)) (Y3 (ZO X.L)) none∧a=X.L∧k=0∧q=0)∨∃ (u:Y5) (z:Str),WG (ZO X.L) u z k q∧ZO a=YB (ZO X.L) u.1):=by
 have m:∀b,MFp ⟨X.m,X.rd,X.sd,a,s',X.nb,X.li+k,X.lo+q,l⟩ b↔MFp X b:=fun b=>D.fp;have nd:(Y3 (ZO X.L)).Nodup:=by rw[← Xg];exact p.mg.M.nd
 have j:=Vt p.ag;have I:∀t d,g t=some (.tup d)→h t=some (.tup d):=fun t d r=>by
  have J:∀b,Y9 Y b→∃u,g b=some u∧∀d,u≠.tup d:=fun b c=>by obtain⟨u,i,s⟩:=p.ow.live c;exact⟨u,k1 b u i (fun z=>p.sep b z c),s⟩
  refine k2 t _ r (fun z=>?_) (fun z=>?_)
  ·obtain⟨u,i,s⟩:=J t (.inl z);rw[r]at i;cases i;exact s d rfl
  ·obtain⟨u,i,s⟩:=J t (.inr (.inr (.inl z)));rw[r]at i;cases i;exact s d rfl
 have K:∀b o,g b=some o→Fp X.m X.rd X.sd a b∨(∃d,o=.tup d)→h b=some o:=fun b o c P=>by
  rcases P with Q|⟨d,rfl⟩
  ·have:=p.sep b ((m b).mp Q);exact k2 b o c (fun z=>this (.inl z)) (fun z=>this (.inr (.inr (.inl z))))
  ·exact I b d c
 have W:=p.mg.W;have R:=Sk W D;have Jn:=C;rcases R with⟨L,rfl,rfl,rfl,rfl⟩|⟨u,z,t,st,M,rfl,r⟩
 ·rcases C with⟨rfl,hw,rfl,rfl,rfl⟩|⟨e,t,z,_,hw,_⟩
  ·refine⟨rfl,rfl,⟨⟨M1.keep K,E,F⟩,G,p.ag,fun b c=>p.sep b ((m b).mp c)⟩,Sw #[8],m,fun b c=>c,.inl ⟨L,rfl,rfl,rfl⟩⟩
  ·rw[Sn,Sl,j]at hw;exact nomatch L.one hw
 ·rcases C with⟨_,hw,_⟩|⟨e,t',S,T,hw,rfl,U,Z,rfl,N⟩
  ·rw[Sn,Sl,j]at hw;exact nomatch hw.one st.2.2.1
  ·have O:=hw;rw[Sn,Sl,j]at O;have dZ:WG (ZO X.L) (e.1,e.2.2) S k' v:=by refine⟨by rw[← j];exact Qd (f:=fun e:ZA=>(e.1,e.2.2)) T,U,O,?_⟩;rw[Sn,Ki,Sl,j]at N;exact N
   obtain⟨e1,e2,e3,e4⟩:=st.one nd dZ;subst e1;subst e2;subst e3;subst e4;have Az:Agr (YL Y.Lo e.1) a:=by show pur (YL Y.Lo e.1)=ZO a;rw[Ki,j,M]
   refine⟨rfl,rfl,⟨⟨M1.keep K,E,F⟩,G,Az,fun b c ho=>p.sep b ((m b).mp c) (Ke ho)⟩,?_,m,fun b c=>Ke c,.inr ⟨_,z,st,M⟩⟩;exact KJ (I _ _ r) Z (by show 3≤1000;decide) (.cons (V5 _) (.cons (V5 _) (.cons (Sw (.inr (.inr (.inr ⟨_,rfl⟩)))) .nil)))
theorem Om{a b:Addr}{H:Hp}{X:MS}(h:MOk a b H X):(Y3 (ZO X.L)).Nodup:=by rw[← Xg];exact h.M.nd
noncomputable def Ol(a:List (Addr×List Str)):List Y5:=(Yg 0 a.length).zip (a.map fun x=>(x.2,0))
theorem Kd{α a b:Type}(f:α→a)(g:α→b):∀l:List α,l.map (fun x=>(f x,g x))=(l.map f).zip (l.map g)
 | []=>rfl
 | x::r=>by rw[Qk,Qk,Qk,List.zip_cons_cons,Kd f g r]
theorem Kc{L:List Zv}{a:List (Addr×List Str)}(h:T9 L a):ZO L=Ol a:=by unfold ZO Ol;rw[Kd (fun e:Zv=>e.n) (fun e=>(e.ss,e.g)) L,← h.1,← h.2];rfl
def Ka(K:#[7])(c d:Addr):Sp:=fun vs H Q _=>∃ (m rd sd:Addr) (L:List Zv) (s:StL) (nb li lo:Int) (h:V) (r:Addr) (ss:List Str),vs=[.ref m,.ref r]∧ZS c d H m rd sd L s nb li lo h∧(∀e∈L,e.n<nb)∧L.length<16∧H r=some (.lst (ss.map V.str))∧ss.length≤100∧(∀x∈ss,x.length≤1000∧AZ x)∧sortedS ss=true ∧
 ∀ (e:Zv) (f:Addr) (g:StL) (w:Option Int) (k q:Int) (a:Hp),e.n=nb→e.ss=ss→e.g=0→H e.p=none→H e.k=none→H e.f=none→H f=none→Win (hdM (L++[e])) (Zu (L++[e])) w→XX (hdM (L++[e])) g 8 (Zu (L++[e]))→YU (hdM (L++[e])) 8 (Zu (L++[e])) k q→ZS c d a m rd f (L++[e]) g (nb+1) (li+k) (lo+q) (YX w)→(∀b o,H b=some o→b≠m→b≠rd→a b=some o)→Q (.int nb) a
theorem Zke(T:Zt K mg ab U)(au:Df P w K mg base 5 "refuse_break" ["number", "keys"] (Ug K))(aL:Cf P w K mg base 4 ab "Row" ["self", "keys"] (SV ab))(ai:Mf P w K mg base 13 U "play_all" ["self"] (Ua ab U)):Mf P w K mg base 14 U "add_row" ["self", "row"] (Ka K ab U):=by
 refine T.t_Merge_add_row.mf Mi (fun vs H Q E h=>?_) (fun af f A outer s H vs Q E G h=>?_)
 ·obtain⟨m,g,p,L,s,nb,B,lo,C,r,j,rfl,_⟩:=h;rfl
 obtain⟨m,g,p,L,s,nb,B,lo',C,r,j,rfl,M,am,gv,ay,dS,Y,b9,q⟩:=h;refine⟨_,#[Ze,#[Zw,2,Mi.nd,#[3],#[ZM,‹0›]],#[Ze,#[Yy,#[ZB,au,G,#[Za,‹2›,#[Za,‹1›,#[Zf]]],#[5]]],#[Ze,#[Z0,#[Zn,NW,#[Zk,MK,T.b.n_len,Qu,#[Za,#[ZM,‹0›],#[Zf]]],(@ZpB _ _ _ _ T.g_MOST_ROWS #[5] #[6]),(Zp _)],#[Zj,(@Rz _ _)],#[ZF]],#[Ze,#[Z2,#[Wh,aL,G,#[Za,‹1›,#[Zf]]],#[Ys,#[ZM,‹0›],‹2›,(X9 G)]],#[Ze,#[VU,‹0›,#[Zi],UK],#[Ze,#[Yy,#[YQ,ai,T.cl_Merge,G,‹0›]],#[Zj,#[Zr,‹2›]]]]]]]],?_⟩;obtain⟨dx,I⟩:=M.ob;refine⟨_,rfl,m,U,dx,_,_,rfl,I,T.cl_Merge,T.na_Merge_next_number,OP ..,?_⟩;refine⟨_,rfl,_,rfl,nb,r,j,rfl,SqL.of ay,by lia,fun x D=>(Y x D).1,OJ b9,fun Z J=>?_⟩;have M1:=M.same J;have cb:=J _ _ I;have jm:(((kvM L).length:Nat):Int)=(L.length:Int):=by unfold kvM;rw[Qa]
 refine⟨_,rfl,m,U,dx,_,_,rfl,cb,T.cl_Merge,T.na_Merge_rows,XF ..,g,_,rfl,M1.rows,_,_,rfl,rfl,_,rfl,YW (fun d=>?_) (fun d=>?_)⟩
 ·have:(16:Int)≤(((kvM L).length:Nat):Int):=of_decide_eq_true d;exact absurd this #[2]
 refine⟨_,rfl,fun u l hu fI u6=>?_⟩;have N:H u=none:=J.free hu;have O:∀b o,H b=some o→(upd (upd Z l (.own u)) u (.ins ab l [])) b=some o:=fun b o c=>by have:=J _ _ c;rw[Zc (Zb this hu),Zc (Zb this fI)];exact this
 have m3:(upd (upd Z l (.own u)) u (.ins ab l [])) u=some (.ins ab l []):=Zd;generalize upd (upd Z l (.own u)) u (.ins ab l [])=H8 at O m3 ⊢;refine⟨u,l,r,j,rfl,m3,O _ _ ay,dS,fun x D=>(Y x D).1,fun k f F hk hf oH R k9=>⟨rfl,?_⟩⟩;have s9:ZG H F:=fun b o c=>k9 b o (O b o c) (Zb c N);have free:∀b,H8 b=none→H b=none:=fun b c=>by
  cases e:H b with
  | none=>rfl
  | some o=>rw[O b o e]at c;cases c
 have vI:=free k hk;have vJ:=free f hf;have i:=M.same s9;have j6:=s9 _ _ I;have j5:g≠u∧g≠k∧g≠f:=⟨Zb M.rows N,Zb M.rows vI,Zb M.rows vJ⟩;have hsz:(kvM L).length<sizeLine:=by unfold kvM;rw[Qa];exact ZE #[2]
 have fE:Z5 (kvM L) (.inl nb)=none:=by
  cases hv:Z5 (kvM L) (.inl nb) with
  | none=>rfl
  | some v=>obtain⟨e,he,z⟩:=Qi.mp (Wg hv);injection z with z _;have:=am e he;have:=Sum.inl.inj z;lia
 refine⟨_,rfl,m,U,dx,_,_,rfl,j6,T.cl_Merge,T.na_Merge_rows,XF ..,_,rfl,g,_,rfl,YD.k (k:=.inl nb) i.rows hsz,?_⟩;rw[Wz _ fE,show kvM L++[((.inl nb:Key),V.ref u)]=kvM (L++[⟨nb,u,k,f,j,0⟩]) by unfold kvM;rw[Qe];rfl];obtain⟨n1,n2,n3⟩:=i.ne_m;have jl:ZS ab U (upd F g (.dK (kvM (L++[⟨nb,u,k,f,j,0⟩])))) m g p (L++[⟨nb,u,k,f,j,0⟩]) s nb B lo' C:=by
  refine⟨⟨dx,by rw[Zc n1];exact j6⟩,Zd,?_,?_,fun e he=>?_,?_,?_,by rw[Qj,QD];lia,M.sfew,⟨M.kb.1,Kb.of M.kb.nn fun n hn=>by unfold Zu at hn;rw[Qe]at hn;rcases Qm.mp hn with h|h;exact M.kb.to n h;have e0:n=nb:=(by simpa using h);have:=M.kb.nn;lia⟩⟩
  ·rw[Zc (fun z=>by have:=i.stays;rw[z,i.rows]at this;cases this)];exact i.stays
  ·intro e he t ht;have c:=i.ats e he t ht;rw[Zc (fun z=>by rw[z,i.rows]at c;cases c)];exact c
  ·rcases Qm.mp he with he|he
   ·have S:=i.each e he;obtain⟨de,W⟩:=S.at'.ob;refine S.mono fun b o c aZ=>?_;have nb':b≠g:=fun z=>by
     rw[z,i.rows]at c;injection c with c;subst c;rcases aZ with z2|z2|z2
     ·rw[← z2,z,i.rows]at W;cases W
     ·have:=S.at'.ks;rw[← z2,z,i.rows]at this;cases this
     ·have:=S.at'.fs;rw[← z2,z,i.rows]at this;cases this
    rw[Zc nb'];exact c
   ·rw[Qn.mp he];refine XV.keep (H:=F) ⟨R,Qx _,dS,b9,Y⟩ (Zc j5.1.symm) (Zc j5.2.1.symm) (Zc j5.2.2.symm)
  ·unfold Zu;rw[Qe];refine Qag.mpr ⟨M.up,List.pairwise_singleton ..,fun x D y hy=>?_⟩;obtain⟨e,he,rfl⟩:=Qi.mp D;have:y=nb:=by simpa using hy
   rw[this];exact am e he
  ·rw[Qe];refine Qaz.mpr ⟨M.pd,by simp,fun a ha b c=>?_⟩;obtain⟨e,he,rfl⟩:=Qi.mp ha;have:b=u:=by simpa using c
   rw[this];obtain⟨de,W⟩:=(M.each e he).at'.ob;exact Zb W N
 have k10:∀b o,H b=some o→b≠g→(upd F g (.dK (kvM (L++[⟨nb,u,k,f,j,0⟩])))) b=some o:=fun b o c n=>by rw[Zc n];exact s9 b o c
 generalize upd F g (.dK (kvM (L++[⟨nb,u,k,f,j,0⟩])))=dB at jl k10 ⊢;have kJ:=k10 _ _ I n1;refine⟨_,rfl,m,U,dx,_,_,rfl,kJ,T.cl_Merge,T.na_Merge_next_number,OP ..,_,_,rfl,rfl,dx,_,kJ,XD ..,?_⟩;rw[K3];have X:=jl.obj (nb':=nb+1) (li':=B) (lo':=lo') (best':=C) (dx:=dx);have k11:∀b o,H b=some o→b≠m→b≠g→(upd dB m (.ins U dx (mgF g (nb+1) B lo' p C))) b=some o:=fun b o c n n'=>by rw[Zc n];exact k10 b o c n'
 generalize upd dB m (.ins U dx (mgF g (nb+1) B lo' p C))=i3 at X k11 ⊢;obtain⟨hG,gC⟩:=X.ob;have pc:∀b,i3 b=none→H b=none:=fun b c=>by
  cases e:H b with
  | none=>rfl
  | some o =>
   by_cases z:b=m
   ·rw[z,gC]at c;cases c
   ·by_cases z':b=g
    ·rw[z',X.rows]at c;cases c
    ·rw[k11 b o e z z']at c;cases c
 refine⟨_,rfl,m,hG,_,rfl,gC,Sy ..,m,g,p,_,s,_,_,_,_,rfl,X,fun av s' w0 k0 q0 fv cV dP se sf j' k12=>⟨_,rfl,?_⟩⟩;exact q ⟨nb,u,k,f,j,0⟩ av s' w0 k0 q0 fv rfl rfl rfl N vI vJ (pc av cV) dP se sf j' (fun b o c n n'=>k12 b o (k11 b o c n n') n)
theorem Zpj(L:List ZA)(e:ZA):kvR (L++[e])=kvR L++[((.inl e.1:Key),V.ref e.2.1)]:=by unfold kvR;rw[Qe];rfl
theorem ZpD(L:List ZA)(e:ZA):kvG (L++[e])=kvG L++[((.inl e.1:Key),V.int (e.2.2.2:Int))]:=by unfold kvG;rw[Qe];rfl
theorem Znq{L:List ZA}{n:Int}(h:∀e∈L,e.1<n):Z5 (kvR L) (.inl n)=none:=by
 cases a:Z5 (kvR L) (.inl n) with
 | none=>rfl
 | some v=>obtain⟨e,b,z⟩:=Qi.mp (Wg a);injection z with z _;have:=h e b;have:=Sum.inl.inj z;lia
theorem Zm9{L:List ZA}{n:Int}(h:∀e∈L,e.1<n):Z5 (kvG L) (.inl n)=none:=by
 cases a:Z5 (kvG L) (.inl n) with
 | none=>rfl
 | some v=>obtain⟨e,b,z⟩:=Qi.mp (Wg a);injection z with z _;have:=h e b;have:=Sum.inl.inj z;lia
theorem Zjv(ra ga:Addr)(nb li lo v:Int):YY (Y6 ra ga nb li lo) (.inr "number") (.int v)=Y6 ra ga v li lo:=by
 unfold YY;rw[if_pos]
 ·unfold Y6;simp only[List.map_cons,List.map_nil];rw[if_neg (fun z=>Lj (Sum.inr.inj z)),if_neg (fun z=>absurd (Sum.inr.inj z) #[1]),if_pos True.intro,if_neg (fun z=>absurd (Sum.inr.inj z) #[1]),if_neg (fun z=>absurd (Sum.inr.inj z) #[1])]
 ·exact Qap.mpr ⟨(.inr "number",.int nb),by unfold Y6;simp,decide_eq_true rfl⟩
theorem Own.add{H:Hp}{o ra ga:Addr}{L:List ZA}{nb li lo:Int}(h:Own H o ra ga L nb li lo)(nga:ga≠ra)(c:∀e∈L,e.1<nb)(hf:L.length<60){r:Addr}{ss:List Str}(d:H r=some (.lst (ss.map V.str)))(hl:ss.length≤100)(f:∀s∈ss,s.length≤1000∧AZ s) :
  Own (upd (upd (upd H ra (.dK (kvR (L++[(nb,r,ss,0)])))) ga (.dK (kvG (L++[(nb,r,ss,0)])))) o (.dK (Y6 ra ga (nb+1) li lo))) o ra ga (L++[(nb,r,ss,0)]) (nb+1) li lo:=by
 obtain⟨g,i⟩:=h.ne;have j:∀e∈L++[(nb,r,ss,0)],H e.2.1=some (.lst (e.2.2.1.map V.str))∧e.2.2.1.length≤100∧e.2.2.2≤e.2.2.1.length∧∀s∈e.2.2.1,s.length≤1000∧AZ s:=fun e he=>by
  rcases Qm.mp he with he|he
  ·exact h.lst e he
  ·rw[Qn.mp he];exact⟨d,hl,Qx _,f⟩
 refine⟨Zd,?_,?_,?_,by rw[Qj,QD];lia,fun e he=>?_⟩
 ·rw[Zc g,Zc nga.symm];exact Zd
 ·rw[Zc i];exact Zd
 ·rw[Qe];refine Qaz.mpr ⟨h.nd,by simp,fun a k b l=>?_⟩;obtain⟨e,he,rfl⟩:=Qi.mp k;have:b=nb:=by simpa using l
  have:=c e he;lia
 ·obtain⟨a1,a2⟩:=j e he;refine⟨?_,a2⟩;rw[Zc (fun z=>by rw[z,h.at']at a1;cases a1),Zc (fun z=>by rw[z,h.gone]at a1;cases a1),Zc (fun z=>by rw[z,h.rows]at a1;cases a1)];exact a1
theorem Zl9(xs:List V)(m:Nat):XO xs none (some (m:Int))=xs.take m:=by
 unfold XO;have a:HT.sIx xs.length 0 none=0:=rfl;rw[HT.sIx_nat,a,List.drop_zero,Nat.sub_zero];rcases Nat.le_total m xs.length with h|h
 ·rw[Qas h]
 ·rw[Nat.min_eq_right h,Qw (Qh _),Qw h]
theorem X7.but{f g:Addr}{H H':Hp}{X:MS}{Y:OS}{p:Addr}{c:Int}(pr:X7 f g H X Y)(L:Y7 H p c)(n:¬ MFp X p)(i:¬ Y9 Y p)(B:But p H H'):X7 f g H' X Y:=by
 have np:∀b u,H b=some u→(MFp X b∨Y9 Y b∨∃h,u=.tup h)→b≠p:=fun b u a d e=>by
  subst e;rcases d with z|z|⟨h,rfl⟩
  ·exact n z
  ·exact i z
  ·obtain⟨_,_,j,_⟩:=L;rw[j]at a;cases a
 exact⟨pr.mg.keep fun b u a d=>B b u a (np b u a (d.imp id .inr)),pr.ow.keep fun b u a k=>B b u a (np b u a (.inr (.inl k))),pr.ag,pr.sep⟩
theorem ZlY(rd:Addr)(nb li lo:Int)(sd:Addr)(a:V):(mgF rd nb li lo sd a).lookup ("add_row" : Str)=none:=X5 _ _ _ _ _ _ #[1] #[1] #[1] #[1] #[1] #[1]
theorem J9(rd:Addr)(nb li lo:Int)(sd:Addr)(a:V):(mgF rd nb li lo sd a).lookup ("row_of" : Str)=none:=X5 _ _ _ _ _ _ #[1] #[1] #[1] #[1] #[1] #[1]
theorem Zje(k f:Addr)(g:Int):(YV k f g).lookup ("to_go" : Str)=none:=U1 _ _ _ #[1] #[1] #[1]
theorem Zf7(k f:Addr)(g:Int):(YV k f g).lookup ("lengthen" : Str)=none:=U1 _ _ _ #[1] #[1] #[1]
def Oj(a b:Addr):Sp:=fun vs H Q _=>∃ (m rd sd:Addr) (L:List Zv) (s:StL) (nb li lo:Int) (c:V) (e:Zv),vs=[.ref m,.int e.n]∧ZS a b H m rd sd L s nb li lo c∧e∈L∧Q (.ref e.p) H
theorem Zmc(T:Zt K mg ab U):Mf P w K mg base 1 U "row_of" ["self", "n"] (Oj ab U):=by
 refine T.t_Merge_row_of.mf Zgc (fun i H Q E h=>?_) (fun af f A outer s H i Q E b h=>?_)
 ·obtain⟨m,a,j,L,s,nb,l,lo,n,e,rfl,_⟩:=h;rfl
 obtain⟨m,a,j,L,s,nb,l,lo,n,e,rfl,M,c,q⟩:=h;refine⟨_,#[Ze,#[Z0,#[Zn,(ZqW b),‹1›,#[ZM,‹0›],(by with_unfolding_all rfl)],#[Zj,(@Rz _ _)],#[ZF]],#[Zj,#[Zr,#[Zl,(ixG b),#[ZM,‹0›],‹1›]]]],?_⟩;obtain⟨d,g⟩:=M.ob;refine⟨_,rfl,_,rfl,m,U,d,_,_,rfl,g,T.cl_Merge,T.na_Merge_rows,XF ..,a,_,rfl,ZR.k' (k:=.inl e.n) M.rows (V7 M.nd c),_,rfl,YR ?_⟩;exact⟨_,rfl,m,U,d,_,_,rfl,g,T.cl_Merge,T.na_Merge_rows,XF ..,_,rfl,a,_,rfl,ZR.k' (k:=.inl e.n) M.rows (V7 M.nd c),q⟩
noncomputable def Yn(L:List Zv)(n:Int):List Zv:=L.filter fun e=>decide (e.n≠n)
theorem ZnD(L:List Zv)(n:Int):WZ (kvM L) (.inl n)=kvM (Yn L n):=by unfold WZ kvM Yn;rw[Qat];congr 1;refine List.filter_congr fun e _=>?_;exact decide_eq_decide.mpr ⟨fun h z=>h (by show (Sum.inl e.n:Key)=_;rw[z]),fun h z=>h (Sum.inl.inj z)⟩
theorem ZS.drop{g h:Addr}{H:Hp}{m rd sd:Addr}{L:List Zv}{s:StL}{nb li lo:Int}{i:V}(M:ZS g h H m rd sd L s nb li lo i)(n:Int):ZS g h (upd H rd (.dK (kvM (Yn L n)))) m rd sd (Yn L n) s nb li lo i:=by
 obtain⟨k,n2,l⟩:=M.ne_m;obtain⟨o,p⟩:=M.ob;refine⟨⟨o,by rw[Zc k];exact p⟩,Zd,by rw[Zc l.symm];exact M.stays,fun e d t q=>?_,fun e d=>?_,?_,?_,Qv (Qae ..) M.few,M.sfew,⟨M.kb.1,Kb.of M.kb.nn fun n r=>by obtain⟨e,d,rfl⟩:=Qi.mp r;exact M.kb.to _ (Qd (f:=fun e:Zv=>e.n) (Qab.mp d).1)⟩⟩
 ·have:=M.ats e d t q;rw[Zc (fun z=>by rw[z,M.rows]at this;cases this)];exact this
 ·have j:=(Qab.mp d).1;obtain⟨_,_,_,a,b,c⟩:=M.ne_sd j;exact(M.each e j).keep (Zc a.symm) (Zc b.symm) (Zc c.symm)
 ·exact M.up.sublist (Qa3 _ Qaj)
 ·exact M.pd.sublist (Qa3 _ Qaj)
def J8(c d:Addr):Sp:=fun vs H Q _=>∃ (m rd sd:Addr) (L:List Zv) (s:StL) (nb li lo:Int) (h:V) (e:Zv),vs=[.ref m,.int e.n]∧ZS c d H m rd sd L s nb li lo h∧e∈L ∧
 ∀ (f:Addr) (g:StL) (w:Option Int) (k q:Int) (a:Hp),H f=none→Win (hdM (Yn L e.n)) (Zu (Yn L e.n)) w→XX (hdM (Yn L e.n)) g 8 (Zu (Yn L e.n))→YU (hdM (Yn L e.n)) 8 (Zu (Yn L e.n)) k q→ZS c d a m rd f (Yn L e.n) g nb (li+k) (lo+q) (YX w)→(∀b o,H b=some o→b≠m→b≠rd→a b=some o)→Q (.int ((e.ss.length:Int)-(e.g:Int))) a
theorem ZjL(T:Zt K mg ab U)(v:Mf P w K mg base 1 ab "to_go" ["self"] (SW ab))(x:Mf P w K mg base 1 U "row_of" ["self", "n"] (Oj ab U))(y:Mf P w K mg base 13 U "play_all" ["self"] (Ua ab U)):Mf P w K mg base 14 U "drop_row" ["self", "n"] (J8 ab U):=by
 refine T.t_Merge_drop_row.mf Me (fun B H Q E h=>?_) (fun af f A outer s H B Q E d h=>?_)
 ·obtain⟨m,a,g,L,s,nb,l,lo,p,e,rfl,_⟩:=h;rfl
 obtain⟨m,a,g,L,s,nb,l,i,p,e,rfl,M,j,q⟩:=h;refine⟨_,#[Ze,#[Zw,2,Me.nd,#[3],#[YQ,v,T.cl_Row,d,#[XI,x,T.cl_Merge,d,‹0›,#[Za,‹1›,#[Zf]]]]],#[Ze,#[Yy,#[Xj,Q5,Qaw,PySem.F.type_dict_pop,RA,#[ZM,‹0›],#[Za,‹1›,#[Zf]]]],#[Ze,#[Yy,#[YQ,y,T.cl_Merge,d,‹0›]],#[Zj,#[Zr,‹2›]]]]],?_⟩;obtain⟨r,t⟩:=M.ob;have Re:=M.each e j;obtain⟨C,D⟩:=Re.at'.ob;refine⟨_,rfl,m,r,_,rfl,t,J9 ..,_,rfl,m,a,g,L,s,nb,l,i,p,e,rfl,M,j,e.p,C,_,rfl,D,Zje ..,e.p,e.k,e.f,e.ss,e.g,rfl,Re.at',?_⟩;refine⟨_,rfl,m,U,r,_,_,rfl,t,T.cl_Merge,T.na_Merge_rows,XF ..,.inr (.inr (.inl ⟨rfl,.inl ⟨_,M.rows⟩⟩)),_,rfl,a,_,.inl e.n,_,rfl,rfl,M.rows,V7 M.nd j,?_⟩;rw[ZnD];have k:=M.drop e.n;have k10:∀b o,H b=some o→b≠a→(upd H a (.dK (kvM (Yn L e.n)))) b=some o:=fun b o c n=>by rw[Zc n];exact c
 have free:∀b,(upd H a (.dK (kvM (Yn L e.n)))) b=none→H b=none:=fun b c=>by
  by_cases z:b=a
  ·rw[z,Zd]at c;cases c
  ·rw[Zc z]at c;exact c
 generalize upd H a (.dK (kvM (Yn L e.n)))=dB at k k10 free ⊢;obtain⟨F,G⟩:=k.ob;refine⟨_,rfl,m,F,_,rfl,G,Sy ..,m,a,g,_,s,_,_,_,_,rfl,k,fun u I J k0 N O R S V W X k12=>⟨_,rfl,?_⟩⟩;exact q u I J k0 N O (free u R) S V W X (fun b o c n Y=>k12 b o (k10 b o c Y) n)
theorem Sj(k f:Addr)(g:Int):YV k f g=([("all_keys",.ref k),("fars",.ref f),("gone",.int g)]:List (Str×V)):=by unfold YV;rw[Xh,Zy nFK,Xh,Zy nGK,Zy nGF,Xh]
theorem Zhd(k f:Addr)(g:Int)(k':Addr):Zx "all_keys" (.ref k') (YV k f g)=YV k' f g:=by rw[Sj,Sj,Wt]
theorem Zhb(k f:Addr)(g:Int)(a:Addr):Zx "fars" (.ref a) (YV k f g)=YV k a g:=by rw[Sj,Sj,Zy nFK,Wt]
def J7(C:Addr):Sp:=fun vs H Q _=>∃ (p k f a:Addr) (ss ks:List Str) (g:Nat),vs=[.ref p,.ref a]∧Ww C H p k f ss g∧H a=some (.lst (ks.map V.str))∧(ss++ks).length≤100∧(∀x∈ss++ks,x.length≤1000) ∧
 ∀ (k' d:Addr) (c:Hp),H k'=none→H d=none→Ww C c p k' d (ss++ks) g→(∀b o,H b=some o→b≠p→c b=some o)→Q .non c
theorem ZjU(T:Zt K mg ab U)(D:Df P w K mg base 3 "alikes" ["row"] (S0 K)):Mf P w K mg base 4 ab "lengthen" ["self", "keys"] (J7 ab):=by
 refine T.t_Row_lengthen.mf Zf6 (fun F H Q E h=>?_) (fun af fa A outer s H F Q E G h=>?_)
 ·obtain⟨p,k,f,a,i,j,g,rfl,_⟩:=h;rfl
 obtain⟨p,k,f,a,i,j,g,rfl,R,I,C,J,q⟩:=h;refine⟨_,#[Ze,#[Yx,‹0›,#[ZI,VP,#[ZM,‹0›],‹1›]],#[Zj,#[Yx,‹0›,#[ZB,D,G,#[Za,#[ZM,‹0›],#[Zf]],#[5]]]]],?_⟩;obtain⟨⟨d,t⟩,L,hf⟩:=R;refine⟨_,rfl,p,ab,d,_,_,rfl,t,T.cl_Row,T.na_Row_all_keys,V8 _ _ _,_,rfl,k,a,_,_,rfl,rfl,L,I,(by rw[Qa,Qa];rw[Qj]at C;exact Yh #[2]),fun c v=>?_⟩;rw[← Qe];have x:p≠c:=Zb t v;refine⟨_,rfl,p,ab,d,_,rfl,(by rw[Zc x];exact t),T.cl_Row,T.na_Row_all_keys,So ..,?_⟩;rw[Zhd];have m:(upd (upd H c (.lst ((i++j).map V.str))) p (.ins ab d (YV c f g))) p=some (.ins ab d (YV c f g)):=Zd;have y:(upd (upd H c (.lst ((i++j).map V.str))) p (.ins ab d (YV c f g))) c=some (.lst ((i++j).map V.str)):=by rw[Zc x.symm];exact Zd
 have z:∀b o,H b=some o→b≠p→(upd (upd H c (.lst ((i++j).map V.str))) p (.ins ab d (YV c f g))) b=some o:=fun b o h n=>by rw[Zc n,Zc (Zb h v)];exact h
 generalize upd (upd H c (.lst ((i++j).map V.str))) p (.ins ab d (YV c f g))=H2 at m y z ⊢;refine⟨_,rfl,p,ab,d,_,_,rfl,m,T.cl_Row,T.na_Row_all_keys,V8 _ _ _,c,i++j,rfl,SqL.of y,C,J,fun l H3 r M B=>?_⟩;have N:H l=none:=by
  cases O:H l with
  | none=>rfl
  | some u =>
   by_cases e:l=p
   ·rw[e,m]at r;cases r
   ·rw[z l u O e]at r;cases r
 have S:p≠l:=Zb m r;refine⟨_,rfl,p,ab,d,_,rfl,B _ _ m,T.cl_Row,T.na_Row_fars,So ..,?_⟩;rw[Zhb];refine q c l _ v N ⟨⟨d,Zd⟩,?_,?_⟩ fun b o h n=>?_
 ·rw[Zc x.symm];exact B _ _ y
 ·rw[Zc S.symm];exact M
 ·rw[Zc n];exact B _ _ (z b o h n)
noncomputable def XT(n:Int)(ks:List Str)(k f:Addr)(x:Zv):Zv:=if x.n=n then ⟨x.n,x.p,k,f,x.ss++ks,x.g⟩ else x
noncomputable def Ym(L:List Zv)(n:Int)(ks:List Str)(k f:Addr):List Zv:=L.map (XT n ks k f)
theorem Oi(n:Int)(ks:List Str)(k f:Addr)(x:Zv):(XT n ks k f x).n=x.n∧(XT n ks k f x).p=x.p∧(XT n ks k f x).g=x.g:=by unfold XT;split<;>exact⟨rfl,rfl,rfl⟩
theorem UR(L:List Zv)(n:Int)(ks:List Str)(k f:Addr):Zu (Ym L n ks k f)=Zu L:=by unfold Zu Ym;rw[Qg];exact Qy fun e _=>(Oi n ks k f e).1
theorem ZnX(L:List Zv)(n:Int)(ks:List Str)(k f:Addr):kvM (Ym L n ks k f)=kvM L:=by unfold kvM Ym;rw[Qg];refine Qy fun e _=>?_;obtain⟨a,b,_⟩:=Oi n ks k f e;simp only[Function.comp,a,b]
theorem J6:∀ (A B:List ZA),A.map (fun e=>(e.1,e.2.2.1[e.2.2.2]?))=B.map (fun e=>(e.1,e.2.2.1[e.2.2.2]?))→hdL A=hdL B
 | [],[],_=>rfl
 | [],_::_,h=>by cases h
 | _::_,[],h=>by cases h
 | a::A,b::B,h=>by
  rw[Qk,Qk]at h;injection h with h1 h2;injection h1 with d h4;have f:=J6 A B h2;funext n;have c:=congrFun f n;unfold hdL at c ⊢;rw[Qac,Qac,d];split
  ·simp only[Option.bind_some];rw[h4]
  ·exact c
theorem Zmz{L:List Zv}{n:Int}{ks:List Str}(h:∀x∈L,x.n=n→x.g<x.ss.length∨ks=[])(k f:Addr):hdM (Ym L n ks k f)=hdM L:=by
 refine J6 _ _ ?_;unfold Ym;rw[Qg,Qg,Qg];refine Qy fun x a=>?_;show ((XT n ks k f x).n,(XT n ks k f x).ss[(XT n ks k f x).g]?)=(x.n,x.ss[x.g]?);unfold XT;split
 ·rename_i e;rcases h x a e with z|z
  ·exact congrArg (Prod.mk x.n) (QK z)
  ·rw[z,QaK]
 ·rfl
theorem Oh:∀ {P:List Zv},(P.map (·.n)).Nodup→∀ {p q:Zv},p∈P→q∈P→p.n=q.n→p=q
 | [],_,_,_,h,_,_=>by cases h
 | x::r,nd,p,q,hp,hq,e=>by
  rw[Qk,QR]at nd;rcases QG.mp hp with h1|h1
  ·rcases QG.mp hq with h2|h2
   ·rw[h1,h2]
   ·exact absurd (show x.n∈r.map (·.n) by rw[← h1,e];exact Qd (f:=fun x:Zv=>x.n) h2) nd.1
  ·rcases QG.mp hq with h2|h2
   ·exact absurd (show x.n∈r.map (·.n) by rw[← h2,← e];exact Qd (f:=fun x:Zv=>x.n) h1) nd.1
   ·exact Oh nd.2 h1 h2 e
theorem ZS.grow{f l:Addr}{H H':Hp}{m rd sd:Addr}{L:List Zv}{s:StL}{nb li lo:Int}{n:V}(M:ZS f l H m rd sd L s nb li lo n){e:Zv}(he:e∈L){ks:List Str}{k' c:Addr}(R:Ww f H' e.p k' c (e.ss++ks) e.g)(hl:(e.ss++ks).length≤100)(p:sortedS (e.ss++ks)=true)(q:∀x∈e.ss++ks,x.length≤1000∧AZ x)
  (k:∀b o,H b=some o→b≠e.p→H' b=some o):ZS f l H' m rd sd (Ym L e.n ks k' c) s nb li lo n:=by
 obtain⟨r,u⟩:=M.ob;obtain⟨de,g⟩:=(M.each e he).at'.ob;refine⟨⟨r,k _ _ u (M.ne_p he).1⟩,by rw[ZnX];exact k _ _ M.rows (M.ne_sd he).2.2.2.1,k _ _ M.stays (M.ne_sd he).1,fun x i t v=>?_,fun x i=>?_,by rw[UR];exact M.up,?_,by unfold Ym;rw[Qa];exact M.few,M.sfew,⟨M.kb.1,by rw[UR];exact M.kb.2⟩⟩
 ·have h:=M.ats x i t v;exact k _ _ h (fun z=>by rw[z,g]at h;cases h)
 ·obtain⟨y,d,rfl⟩:=Qi.mp i;by_cases j:y.n=e.n
  ·have w:y=e:=by have nd:=M.nd;unfold Zu at nd;exact Oh nd d he j
   subst w;rw[show XT y.n ks k' c y=⟨y.n,y.p,k',c,y.ss++ks,y.g⟩ by unfold XT;rw[if_pos rfl]];exact⟨R,by show y.g≤(y.ss++ks).length;rw[Qj];have:=(M.each y d).le;lia,hl,p,q⟩
  ·rw[show XT e.n ks k' c y=y by unfold XT;rw[if_neg j]];have a:=M.each y d;have np:y.p≠e.p:=fun z=>j (by have:=Km M.pd d he z;rw[this]);obtain⟨A,B⟩:=a.at'.ob;have C:y.k≠e.p:=fun z=>by have:=a.at'.ks;rw[z,g]at this;cases this
   have D:y.f≠e.p:=fun z=>by have:=a.at'.fs;rw[z,g]at this;cases this
   exact⟨⟨⟨A,k _ _ B np⟩,k _ _ a.at'.ks C,k _ _ a.at'.fs D⟩,a.le,a.len,a.srt,a.str⟩
 ·have:(Ym L e.n ks k' c).map (·.p)=L.map (·.p):=by unfold Ym;rw[Qg];exact Qy fun x _=>(Oi _ _ _ _ x).2.1
  rw[this];exact M.pd
def J5(f g:Addr):Sp:=fun vs H Q _=>∃ (m rd sd:Addr) (L:List Zv) (s:StL) (nb li lo:Int) (w:Option Int) (e:Zv) (r:Addr) (ks:List Str),vs=[.ref m,.int e.n,.ref r]∧ZS f g H m rd sd L s nb li lo (YX w)∧Win (hdM L) (Zu L) w∧ZX (hdM L) s (Zu L)∧e∈L∧H r=some (.lst (ks.map V.str))∧r≠e.p∧(e.ss++ks).length≤100∧sortedS (e.ss++ks)=true∧(∀x∈e.ss++ks,x.length≤1000∧AZ x) ∧
 ∀ (k' a c:Addr) (h:StL) (i:Option Int) (k q:Int) (d:Hp),H k'=none→H a=none→(((e.g<e.ss.length∨ks=[])∧c=sd∧k=0∧q=0)∨(e.g=e.ss.length∧ks≠[]∧H c=none∧YU (hdM (Ym L e.n ks k' a)) 8 (Zu L) k q))→Win (hdM (Ym L e.n ks k' a)) (Zu L) i→ZX (hdM (Ym L e.n ks k' a)) h (Zu L)→ZS f g d m rd c (Ym L e.n ks k' a) h nb (li+k) (lo+q) (YX i)→(∀b o,H b=some o→b≠m→b≠e.p→d b=some o)→Q .non d
theorem Zpe(T:Zt K mg ab U)(aK:Mf P w K mg base 1 U "row_of" ["self", "n"] (Oj ab U))(au:Df P w K mg base 5 "refuse_break" ["number", "keys"] (Ug K))(al:Mf P w K mg base 2 ab "head" ["self"] (U0 ab))(bR:Mf P w K mg base 4 ab "lengthen" ["self", "keys"] (J7 ab))(ai:Mf P w K mg base 13 U "play_all" ["self"] (Ua ab U)):Mf P w K mg base 14 U "grow" ["self", "n", "keys"] (J5 ab U):=by
 refine T.t_Merge_grow.mf PF (fun vs H Q E h=>?_) (fun af fa A outer s H vs Q E g h=>?_)
 ·obtain⟨m,D,t,L,s,nb,S,lo,w,e,r,a,rfl,_⟩:=h;rfl
 obtain⟨m,D,t,L,s,nb,S,F,w0,e,r,a,rfl,M,W,ok,i,G,AA,v,X,I,q⟩:=h;refine⟨_,#[Ze,#[Zw,3,PF.nd,#[3],#[XI,aK,T.cl_Merge,g,‹0›,#[Za,‹1›,#[Zf]]]],#[Ze,#[Yy,#[ZB,au,g,#[Za,‹1›,#[Za,#[ZI,VP,#[ZM,‹3›],‹2›],#[Zf]]],#[5]]],#[Ze,#[Zw,4,PF.nd,#[3],#[Ya,Yb,#[YQ,al,T.cl_Row,g,‹3›],#[ZT],(Zp _)]],#[Ze,#[Yy,#[XI,bR,T.cl_Row,g,‹3›,#[Za,‹2›,#[Zf]]]],#[Zj,#[Z0,(@PW.pt _ _ _ #[XS,#[Xs,‹4›],#[Xl,#[Zn,VX,#[Zk,(Yv K),T.b.n_len,Qu,#[Za,‹2›,#[Zf]]],#[Zi],(Zp _)]]]),#[Zj,#[Yy,#[YQ,ai,T.cl_Merge,g,‹0›]]],#[ZF]]]]]]],?_⟩;obtain⟨dx,hm⟩:=M.ob;have Re:=M.each e i;obtain⟨de,bJ⟩:=Re.at'.ob;have fD:e.ss.length+a.length≤100:=by rw[Qj]at v;exact v
 refine⟨_,rfl,m,dx,_,rfl,hm,J9 ..,_,rfl,m,D,t,L,s,nb,S,F,_,e,rfl,M,i,?_⟩;refine⟨_,rfl,_,rfl,e.p,ab,de,_,_,rfl,bJ,T.cl_Row,T.na_Row_all_keys,V8 _ _ _,_,rfl,e.k,r,_,_,rfl,rfl,Re.at'.ks,G,(by rw[Qa,Qa];exact Yh #[2]),fun c hc=>?_⟩;rw[← Qe];refine⟨e.n,c,e.ss++a,rfl,SqL.of Zd,by lia,fun x j=>(I x j).1,OJ X,fun H1 sj=>?_⟩;have f:ZG H H1:=(Zh hc _).trans sj;have M1:=M.same f;have J:=M1.each e i;obtain⟨Y,Z⟩:=J.at'.ob;refine⟨_,rfl,e.p,Y,_,rfl,Z,UT ..,e.p,e.k,e.f,e.ss,e.g,rfl,J.at',rfl,?_⟩;refine⟨_,rfl,e.p,Y,_,rfl,Z,Zf7 ..,_,rfl,e.p,e.k,e.f,r,e.ss,a,e.g,rfl,J.at',f _ _ G,v,fun x j=>(I x j).1,fun k' k N h8 vM R2 k2=>?_⟩;have M2:=M1.grow i R2 v X I k2;have y:∀b o,H b=some o→b≠e.p→N b=some o:=fun b o l n=>k2 b o (f b o l) n;have ck:=y _ _ G AA;have nz:(e.g<e.ss.length∨a=[])→Q .non N:=fun aZ=>by have eh:hdM (Ym L e.n a k' k)=hdM L:=Zmz (fun x j hn=>by rw[Oh M.nd j i hn];exact aZ) k' k;refine q k' k t s w0 0 0 N (f.free h8) (f.free vM) (.inl ⟨aZ,rfl,rfl,rfl⟩) (by rw[eh];exact W) (by rw[eh];exact ok) (by rw[QT,QT];exact M2) (fun b o l n O=>y b o l O)
 refine⟨_,rfl,_,rfl,?_⟩;by_cases hg:e.g<e.ss.length
 ·have R:Xi e.ss e.g=.str e.ss[e.g]:=Ub (Qb hg);rw[R];exact YG (by intro z;cases z) (nz (.inl hg))
 ·have R:Xi e.ss e.g=.non:=by unfold Xi;rw[QN #[2]]
  rw[R];refine YI rfl ?_;refine⟨_,rfl,r,_,rfl,.inl (SqL.of ck),_,_,rfl,rfl,_,rfl,YW (fun d=>?_) (fun d=>?_)⟩
  ·have p:(0:Int)<((a.map V.str).length:Int):=of_decide_eq_true d;rw[Qa]at p;have fu:a≠[]:=fun z=>by rw[z]at p;exact absurd p #[6]
   obtain⟨gQ,bO⟩:=M2.ob;refine⟨_,rfl,m,gQ,_,rfl,bO,Sy ..,m,D,t,_,s,_,_,_,_,rfl,M2,fun B s' w1 k1 q1 H3 C W3 S3 P3 M3 k3=>?_⟩;rw[UR]at W3 S3 P3;have AB:=Vx 8 (hdM (Ym L e.n a k' k)) s' (Zu L) M.up (Qv (show (Zu L).length≤60 by unfold Zu;rw[Qa];exact M.few) #[6]) #[6] S3;have le:=Re.le;have vN:H B=none:=by
    cases w':H B with
    | none=>rfl
    | some u =>
     by_cases z:B=e.p
     ·obtain⟨d2,oB⟩:=R2.ob;rw[z,oB]at C;cases C
     ·rw[y _ _ w' z]at C;cases C
   exact q k' k B s' w1 k1 q1 H3 (f.free h8) (f.free vM) (.inr ⟨by lia,fu,vN,P3⟩) W3 AB M3 (fun b o l n O=>k3 b o (y b o l O) n)
  ·have p:¬ (0:Int)<((a.map V.str).length:Int):=fun z=>d (decide_eq_true z);rw[Qa]at p;exact nz (.inr (List.length_eq_zero_iff.mp #[2]))
noncomputable def X4(L:List ZA)(n:Int):List ZA:=L.filter fun e=>decide (e.1≠n)
theorem ZmB(L:List ZA)(n:Int):WZ (kvR L) (.inl n)=kvR (X4 L n):=by unfold WZ kvR X4;rw[Qat];congr 1;exact List.filter_congr fun e _=>decide_eq_decide.mpr ⟨fun h z=>h (by show (Sum.inl e.1:Key)=_;rw[z]),fun h z=>h (Sum.inl.inj z)⟩
theorem Zm8(L:List ZA)(n:Int):WZ (kvG L) (.inl n)=kvG (X4 L n):=by unfold WZ kvG X4;rw[Qat];congr 1;exact List.filter_congr fun e _=>decide_eq_decide.mpr ⟨fun h z=>h (by show (Sum.inl e.1:Key)=_;rw[z]),fun h z=>h (Sum.inl.inj z)⟩
theorem Own.drop{H:Hp}{o ra ga:Addr}{L:List ZA}{nb li lo:Int}(h:Own H o ra ga L nb li lo)(nga:ga≠ra)(n:Int):Own (upd (upd H ra (.dK (kvR (X4 L n)))) ga (.dK (kvG (X4 L n)))) o ra ga (X4 L n) nb li lo:=by obtain⟨d,f⟩:=h.ne;refine⟨by rw[Zc f.symm,Zc d.symm];exact h.at',by rw[Zc nga.symm];exact Zd,Zd,h.nd.sublist (Qa3 _ Qaj),Qv (Qae ..) h.few,fun e g=>?_⟩;have c:=(Qab.mp g).1;obtain⟨a,b⟩:=h.lst e c;obtain⟨_,i,j⟩:=h.ne_l c;exact⟨by rw[Zc j,Zc i];exact a,b⟩
noncomputable def WX(n:Int)(ks:List Str)(r:Addr)(x:ZA):ZA:=if x.1=n then (x.1,r,x.2.2.1++ks,x.2.2.2) else x
noncomputable def Ye(L:List ZA)(n:Int)(ks:List Str)(r:Addr):List ZA:=L.map (WX n ks r)
theorem J4(n:Int)(ks:List Str)(r:Addr)(x:ZA):(WX n ks r x).1=x.1∧(WX n ks r x).2.2.2=x.2.2.2:=by unfold WX;split<;>exact⟨rfl,rfl⟩
theorem J3(L:List ZA)(n:Int)(ks:List Str)(r:Addr):(Ye L n ks r).map (·.1)=L.map (·.1):=by unfold Ye;rw[Qg];exact Qy fun e _=>(J4 n ks r e).1
theorem Zms(L:List ZA)(n:Int)(ks:List Str)(r:Addr):kvG (Ye L n ks r)=kvG L:=by unfold kvG Ye;rw[Qg];refine Qy fun e _=>?_;obtain⟨a,b⟩:=J4 n ks r e;simp only[Function.comp,a,b]
theorem ZmN{L:List ZA}{e:ZA}(he:e∈L)(ks:List Str)(r:Addr):YY (kvR L) (.inl e.1) (.ref r)=kvR (Ye L e.1 ks r):=by
 unfold YY;rw[if_pos]
 ·unfold kvR Ye;rw[Qg,Qg];refine Qy fun x hx=>?_;simp only[Function.comp];unfold WX;by_cases h:x.1=e.1
  ·rw[if_pos (by rw[h]),if_pos h]
  ·rw[if_neg (fun z=>h (Sum.inl.inj z)),if_neg h]
 ·exact Qap.mpr ⟨_,Qd (f:=fun e:ZA=>((.inl e.1:Key),V.ref e.2.1)) he,decide_eq_true rfl⟩
theorem Own.grow{H:Hp}{o ra ga:Addr}{L:List ZA}{nb li lo:Int}(h:Own H o ra ga L nb li lo)(nga:ga≠ra){e:ZA}(he:e∈L){ks:List Str}{r:Addr}(a:H r=some (.lst ((e.2.2.1++ks).map V.str)))(hl:(e.2.2.1++ks).length≤100)(d:∀x∈e.2.2.1++ks,x.length≤1000∧AZ x):Own (upd H ra (.dK (kvR (Ye L e.1 ks r)))) o ra ga (Ye L e.1 ks r) nb li lo:=by
 obtain⟨f,n2⟩:=h.ne;refine⟨by rw[Zc f.symm];exact h.at',Zd,by rw[Zc nga,Zms];exact h.gone,by rw[J3];exact h.nd,by unfold Ye;rw[Qa];exact h.few,fun x g=>?_⟩;obtain⟨y,b,rfl⟩:=Qi.mp g;obtain⟨a1,a2,a3,a4⟩:=h.lst y b;by_cases c:y.1=e.1
 ·have i:y=e:=Ws h.nd b he c;subst i;rw[show WX y.1 ks r y=(y.1,r,y.2.2.1++ks,y.2.2.2) by unfold WX;rw[if_pos rfl]];refine⟨?_,hl,by show y.2.2.2≤(y.2.2.1++ks).length;rw[Qj];lia,d⟩;show (upd H ra _) r=_;rw[Zc (fun z=>by rw[z,h.rows]at a;cases a)];exact a
 ·rw[show WX e.1 ks r y=y by unfold WX;rw[if_neg c]];exact⟨by rw[Zc (h.ne_l b).2.1];exact a1,a2,a3,a4⟩
theorem Zn8{Lo:List ZA}{L:List Zv}(h:Agr Lo L)(n:Int):Agr (X4 Lo n) (Yn L n):=by
 unfold Agr X4 Yn at *
 have:=congrArg (List.filter fun x:Y5=>decide (x.1≠n)) h;rw[Qat,Qat]at this;exact this
theorem Zn5{Lo:List ZA}{L:List Zv}(h:Agr Lo L)(n:Int)(ks:List Str)(r k f:Addr):Agr (Ye Lo n ks r) (Ym L n ks k f):=by
 unfold Agr Ye Ym at *
 have:=congrArg (List.map fun x:Y5=>if x.1=n then (x.1,x.2.1++ks,x.2.2) else x) h;rw[Qg,Qg]at this;rw[Qg,Qg];refine(Qy fun e _=>?_).trans (this.trans (Qy fun e _=>?_))
 ·simp only[Function.comp];unfold WX;split<;>rfl
 ·simp only[Function.comp];unfold XT;split<;>rfl
theorem J2{Lo:List ZA}{L:List Zv}(h:Agr Lo L){e:Zv}(he:e∈L):∃a∈Lo,a.1=e.n∧a.2.2=(e.ss,e.g):=by
 have:(e.n,(e.ss,e.g))∈Lo.map (fun e=>(e.1,e.2.2)):=by rw[h];exact Qd (f:=fun e:Zv=>(e.n,(e.ss,e.g))) he
 obtain⟨a,b,c⟩:=Qi.mp this;injection c with d g;exact⟨a,b,d,g⟩
inductive Xe where
 | add|drop|grow
noncomputable def Xe.word:Xe→Str
 | .add => "add"
 | .drop => "drop"
 | .grow => "grow"
noncomputable def Xe.nb(nb:Int):Xe→Int
 | .add=>nb+1
 | _=>nb
noncomputable def Og(P:List Y5)(n:Int)(ks:List Str):Xe→List Y5
 | .add=>P++[(n,ks,0)]
 | .drop=>P.filter fun x=>decide (x.1≠n)
 | .grow=>P.map fun x=>if x.1=n then (x.1,x.2.1++ks,x.2.2) else x
def J1(P:List Y5)(nb n:Int)(ks:List Str):Xe→Prop
 | .add=>n=nb∧(∀x∈P,x.1<nb)∧P.length<16∧sortedS ks=true∧ks.length≤100
 | .drop=>∃x∈P,x.1=n
 | .grow=>∃x∈P,x.1=n∧sortedS (x.2.1++ks)=true∧(x.2.1++ks).length≤100
def Pld(X:MS)(d:Xe)(n:Int)(ks:List Str)(a:MS):Prop:=(d=.grow→ks≠[]∧∃x∈ZO X.L,x.1=n∧x.2.2=x.2.1.length)→∃k q:Int,a.li=X.li+k∧a.lo=X.lo+q∧YU (hdM a.L) 8 (Zu a.L) k q
def Zqa(f g:Addr):Sp:=fun vs H Q _=>∃ (X:MS) (Y:OS) (t r:Addr) (d:Xe) (n:Int) (ks:List Str),vs=[.ref X.m,.ref Y.o,.ref t]∧X7 f g H X Y∧Y.ga≠Y.ra∧X.nb=Y.nb∧H t=some (.tup [.str d.word,.int n,.ref r])∧H r=some (.lst (ks.map V.str))∧¬ MFp X r∧¬ Y9 Y r∧(∀x∈ks,x.length≤1000∧AZ x)∧ks.length≤100∧J1 (ZO X.L) X.nb n ks d ∧
 ∀ (a:MS) (c:OS) (e:Hp),X7 f g e a c→a.m=X.m→c.o=Y.o→c.ga≠c.ra→a.nb=c.nb→a.nb=d.nb X.nb→ZO a.L=Og (ZO X.L) n ks d→(∀b,MFp a b→MFp X b∨H b=none)→(∀b,Y9 c b→Y9 Y b∨H b=none)→(∀b u,H b=some u→¬ MFp X b→¬ Y9 Y b→e b=some u)→Pld X d n ks a→Q (.bl true) e
theorem Of{m o:Addr}{H d h:Hp}{X:MS}{Y:OS}(pr:X7 m o H X Y){f:List ZA}{nb' p k q k' r:Int}{i:Addr}{a:List Zv}{s':StL}{j:Option Int}(s:Own d Y.o Y.ra Y.ga f nb' (X.li+k) (X.lo+q))(y:∀b u,H b=some u→¬ Y9 Y b→d b=some u)(A:∀b u,H b=some u→d b≠none)(B:∀b,Y9 ⟨Y.o,Y.ra,Y.ga,f,nb'⟩ b→Y9 Y b∨H b=none)
  (M2:ZS m o h X.m X.rd i a s' p (X.li+k') (X.lo+r) (YX j)) (C:Win (hdM a) (Zu a) j) (D:ZX (hdM a) s' (Zu a)) (t:∀b u,d b=some u→¬ MFp X b→h b=some u) (v:∀b,Fp X.m X.rd i a b→MFp X b∨d b=none) (ag:Agr f a) (E:k=k') (eq:q=r) :
  X7 m o h ⟨X.m,X.rd,i,a,s',p,X.li+k,X.lo+q,j⟩ ⟨Y.o,Y.ra,Y.ga,f,nb'⟩∧(∀b,MFp ⟨X.m,X.rd,i,a,s',p,X.li+k,X.lo+q,j⟩ b→MFp X b∨H b=none)∧(∀b u,H b=some u→¬ MFp X b→¬ Y9 Y b→h b=some u):=by
 subst E;subst eq;have w:∀b,Y9 ⟨Y.o,Y.ra,Y.ga,f,nb'⟩ b→¬ MFp X b:=fun b c x=>by
  rcases B b c with z|z
  ·exact pr.sep b x z
  ·obtain⟨u,g,_⟩:=pr.mg.M.fp_live x;rw[z]at g;cases g
 refine⟨⟨⟨M2,C,D⟩,s.keep fun b u c l=>t b u c (w b l),ag,fun b c l=>?_⟩,fun b c=>?_,fun b u c n F=>t b u (y b u c F) n⟩
 ·rcases v b c with z|z
  ·exact w b l z
  ·obtain⟨u,g,_⟩:=s.live l;rw[z]at g;cases g
 ·rcases v b c with z|z
  ·exact .inl z
  ·cases e:H b with
   | none=>exact .inr rfl
   | some u=>exact absurd z (A b u e)
theorem X7.nO{c d:Addr}{H:Hp}{X:MS}{Y:OS}(pr:X7 c d H X Y){b:Addr}{u:HO}(hb:H b=some u)(e:MFp X b∨∃xs,u=.tup xs):¬ Y9 Y b:=fun z=>by
 rcases e with f|⟨xs,rfl⟩
 ·exact pr.sep b f z
 ·obtain⟨u',a,g⟩:=pr.ow.live z;rw[hb]at a;cases a;exact g xs rfl
theorem J0(ks:List Str):PyData.eqv (.list (ks.map PyData.str)) (.list [])=decide (ks=[]):=by
 cases ks with
 | nil=>simp[PyData.eqv,PyData.eqvAll]
 | cons a r=>simp[PyData.eqv,PyData.eqvAll]
theorem ZkI(rd:Addr)(nb li lo:Int)(sd:Addr)(a:V):(mgF rd nb li lo sd a).lookup ("drop_row" : Str)=none:=X5 _ _ _ _ _ _ #[1] #[1] #[1] #[1] #[1] #[1]
theorem ZkG(rd:Addr)(nb li lo:Int)(sd:Addr)(a:V):(mgF rd nb li lo sd a).lookup ("grow" : Str)=none:=X5 _ _ _ _ _ _ #[1] #[1] #[1] #[1] #[1] #[1]
theorem ZmF(T:Zt K mg ab U)(aQ:Df P w K mg base 5 "_law_same" ["_law_found", "_law_due"] (S4 4))(br:Df P w K mg base 10 "_law_play" ["_law_own"] O6)(bK:Mf P w K mg base 14 U "add_row" ["self", "row"] (Ka K ab U))(bA:Mf P w K mg base 14 U "drop_row" ["self", "n"] (J8 ab U))(cx:Mf P w K mg base 14 U "grow" ["self", "n", "keys"] (J5 ab U)):Df P w K mg base 15 "_law_done" ["_law_merge", "_law_own", "_law_deed"] (Zqa ab U):=by
 refine T.t_l_done.df VF (fun vs H Q E h=>?_) (fun af f A outer s H vs Q E p h=>?_)
 ·obtain⟨X,Y,t,r,d,n,ks,rfl,_⟩:=h;rfl
 obtain⟨X,Y,t,r,d,n,ks,rfl,I,F,ka,ht,ay,sq,su,fu,nA,hd,q⟩:=h;refine⟨_,#[Ze,#[Z2,‹2›,#[gT,K,3,#[ZC,#[ZD,3,VF.nd],#[ZC,#[ZD,4,VF.nd],#[ZC,#[ZD,5,VF.nd],(@X6 _)]]]]],#[Ze,#[Zw,6,VF.nd,#[3],#[Xq,(Vk K),T.b.n_list,boot_list,#[Za,‹5›,#[Zf]]]],#[Ze,#[Z0,#[Zn,YF,‹3›,#[Zz],(Zp _)],#[Ze,#[Z2,#[Xq,(Vk K),T.b.n_list,boot_list,#[Za,‹5›,#[Zf]]],#[Ys,#[Zl,(ixG p),‹1›,#[Zz]],‹4›,(X9 p)]],#[Ze,#[Z2,#[Zi],#[Ys,#[Zl,(ixG p),‹1›,#[Zz]],‹4›,(X9 p)]],#[Ze,#[Z2,#[ZI,YO,‹4›,#[Zi]],#[Ys,‹1›,#[Zz],(X9 p)]],#[Ze,#[Yy,#[ZB,br,p,#[Za,‹1›,#[Zf]],#[5]]],#[Zj,#[Zr,#[Xc,#[ZB,aQ,p,#[Za,#[XI,bK,T.cl_Merge,p,‹0›,#[Za,‹5›,#[Zf]]],#[Za,‹4›,#[Zf]]],#[5]],#[WU,#[Ya,(@eqD _ K _ p #[5]),‹5›,‹6›,(Zp _)]]]]]]]]],#[ZF]],#[Ze,#[Z0,#[Zn,YF,‹3›,#[Zz],(Zp _)],#[Ze,#[Zw,7,VF.nd,#[3],#[ZI,Wn,#[Zk,(Yv K),T.b.n_len,Qu,#[Za,#[Xj,Q5,Qaw,PySem.F.type_dict_pop,RA,#[Zl,(ixG p),‹1›,#[Zz]],#[Za,‹4›,#[Zf]]],#[Zf]]],#[Xj,Q5,Qaw,PySem.F.type_dict_pop,RA,#[Zl,(ixG p),‹1›,#[Zz]],#[Za,‹4›,#[Zf]]]]],#[Ze,#[Yy,#[ZB,br,p,#[Za,‹1›,#[Zf]],#[5]]],#[Zj,#[Zr,#[ZB,aQ,p,#[Za,#[XI,bA,T.cl_Merge,p,‹0›,#[Za,‹4›,#[Zf]]],#[Za,‹7›,#[Zf]]],#[5]]]]]],#[ZF]],#[Ze,#[Zw,8,VF.nd,#[3],#[Ya,YF,#[Zk,(Yv K),T.b.n_len,Qu,#[Za,#[Zl,(ixG p),#[Zl,(ixG p),‹1›,#[Zz]],‹4›],#[Zf]]],#[Zl,(ixG p),#[Zl,(ixG p),‹1›,#[Zz]],‹4›],(Zp _)]],#[Ze,#[Z2,#[ZI,VP,#[Zl,(ixG p),#[Zl,(ixG p),‹1›,#[Zz]],‹4›],#[Xq,(Vk K),T.b.n_list,boot_list,#[Za,‹5›,#[Zf]]]],#[Ys,#[Zl,(ixG p),‹1›,#[Zz]],‹4›,(X9 p)]],(@Ve _ _ _ _ _ #[Z0,(@PW.pt _ _ _ #[XS,#[Xs,‹8›],#[Xl,#[Zn,(@neD _ K _ p #[5]),‹5›,#[YH,#[Zf]],(Zp _)]]]),#[Zj,#[Yy,#[ZB,br,p,#[Za,‹1›,#[Zf]],#[5]]]],#[ZF]] #[Zj,#[Zr,#[Xc,#[Ya,Yb,#[XI,cx,T.cl_Merge,p,‹0›,#[Za,‹4›,#[Za,‹5›,#[Zf]]]],#[ZT],(Zp _)],#[WU,#[Ya,(@eqD _ K _ p #[5]),‹5›,‹6›,(Zp _)]]]]])]]]]]],?_⟩;refine⟨_,rfl,t,_,rfl,SqT.of ht,rfl,_,_,rfl,_,_,rfl,_,_,rfl,rfl,?_⟩;refine⟨_,rfl,r,_,rfl,.inl (SqL.of ay),fun kp sv=>?_⟩;have jq:=Zh sv (.lst (ks.map V.str));have nB:(upd H kp (.lst (ks.map V.str))) kp=some (.lst (ks.map V.str)):=Zd;have J:=I.same jq;have ce:=jq _ _ ay;have vO:¬ Y9 Y kp:=fun z=>by obtain⟨u,hu,_⟩:=I.ow.live z;rw[sv]at hu;cases hu
 have vP:¬ MFp X kp:=I.mg.M.fp_fresh sv;generalize upd H kp (.lst (ks.map V.str))=o at jq nB J ce ⊢;have C:=J.ow;obtain⟨n1,n2⟩:=C.ne;have BZ:Y.Lo.length=X.L.length:=by have:=congrArg List.length (Xt I.ag);unfold Zu at this;rw[Qa,Qa]at this;exact this
 have bW:=I.ow.few;have qb:(kvR Y.Lo).length<sizeLine:=by unfold kvR;rw[Qa];exact ZE #[2]
 have vQ:(kvG Y.Lo).length<sizeLine:=by unfold kvG;rw[Qa];exact ZE #[2]
 have kc:∀x∈ks,AZ x:=fun x hx=>(fu x hx).2;have aI:(Y.Lo.map (·.1)).Pairwise (·<·):=by rw[Xt I.ag];exact I.mg.M.up
 have fin:∀ {X':MS} {Y':OS} {H9:Hp},(∀b u,H b=some u→¬ MFp X b→¬ Y9 Y b→H9 b=some u)→X7 ab U H9 X' Y'→X'.m=X.m→Y'.o=Y.o→Y'.ga≠Y'.ra→X'.nb=Y'.nb→X'.nb=d.nb X.nb→ZO X'.L=Og (ZO X.L) n ks d→(∀b,MFp X' b→MFp X b∨o b=none)→(∀b,Y9 Y' b→Y9 Y b∨o b=none)→Pld X d n ks X'→Q (.bl true) H9:=fun k9 p9 a b c d' e f' g h pl=>q _ _ _ p9 a b c d' e f' (fun b i=>(g b i).imp id fun z=>jq.free z) (fun b i=>(h b i).imp id fun z=>jq.free z) k9 pl;cases d with
 | add =>
  obtain⟨rfl,am,gv,jr,_⟩:=hd;have qc:∀e∈X.L,e.n<X.nb:=fun e he=>am _ (Qd (f:=fun e:Zv=>(e.n,(e.ss,e.g))) he);have vR:X.L.length<16:=by unfold ZO at gv;rw[Qa]at gv;exact gv
  have kK:∀e∈Y.Lo,e.1<X.nb:=fun e he=>by
   have:e.1∈Zu X.L:=by rw[← Xt I.ag];exact Qd (f:=fun e:ZA=>e.1) he
   obtain⟨e',aD,z⟩:=Qi.mp this;rw[← z];exact qc e' aD
  refine⟨_,rfl,rfl,_,rfl,YI rfl ?_⟩;refine⟨_,rfl,r,_,rfl,.inl (SqL.of ce),fun c hc=>?_⟩;have sc:=Zh hc (.lst (ks.map V.str));have eZ:(upd o c (.lst (ks.map V.str))) c=some (.lst (ks.map V.str)):=Zd;have vS:=J.same sc;have Jo:¬ Y9 Y c:=fun z=>by obtain⟨u,hu,_⟩:=C.live z;rw[hc]at hu;cases hu
  have sw:∀b,(upd o c (.lst (ks.map V.str))) b=none→o b=none:=fun b i=>sc.free i;generalize upd o c (.lst (ks.map V.str))=H2 at sc eZ vS sw ⊢;have N:=vS.ow;refine⟨_,rfl,Y.o,_,rfl,ZR.k' (k:=.inr "rows") N.at' (Xu ..),_,rfl,Y.ra,_,rfl,YD.k (k:=.inl X.nb) N.rows qb,?_⟩;rw[Wz _ (Znq kK),← Zpj Y.Lo (X.nb,c,ks,0)];refine⟨_,rfl,Y.o,_,rfl,ZR.k' (k:=.inr "gone") (by rw[Zc n1.symm];exact N.at') (WJ ..),_,rfl,Y.ga,_,rfl,YD.k (k:=.inl X.nb) (by rw[Zc F];exact N.gone) vQ,?_⟩;rw[Wz _ (Zm9 kK),show kvG Y.Lo++[((.inl X.nb:Key),V.int 0)]=kvG (Y.Lo++[(X.nb,c,ks,0)]) from(ZpD Y.Lo (X.nb,c,ks,0)).symm];refine⟨_,rfl,_,_,rfl,rfl,_,rfl,Y.o,_,rfl,YD.k (k:=.inr "number") (by rw[Zc n2.symm,Zc n1.symm];exact N.at') (ZE (by simp[Y6])),?_⟩;rw[Zjv];rw[← ka]at N;have O:=N.add F kK #[2] eZ nA fu;have k3:∀b u,H2 b=some u→¬ Y9 Y b→(upd (upd (upd H2 Y.ra (.dK (kvR (Y.Lo++[(X.nb,c,ks,0)])))) Y.ga (.dK (kvG (Y.Lo++[(X.nb,c,ks,0)])))) Y.o (.dK (Y6 Y.ra Y.ga (X.nb+1) X.li X.lo))) b=some u:=fun b u i nO=>by rw[Zc (fun z=>nO (.inl z)),Zc (fun z=>nO (.inr (.inr (.inl z)))),Zc (fun z=>nO (.inr (.inl z)))];exact i
  generalize upd (upd (upd H2 Y.ra (.dK (kvR (Y.Lo++[(X.nb,c,ks,0)])))) Y.ga (.dK (kvG (Y.Lo++[(X.nb,c,ks,0)])))) Y.o (.dK (Y6 Y.ra Y.ga (X.nb+1) X.li X.lo))=H3 at O k3 ⊢;have js:((Y.Lo++[((X.nb,c,ks,0):ZA)]).map (fun e:ZA=>e.1)).Pairwise (·<·):=by
   rw[Qe];refine Qag.mpr ⟨aI,List.pairwise_singleton ..,fun x hx y hy=>?_⟩;obtain⟨e,he,rfl⟩:=Qi.mp hx;have:y=X.nb:=by simpa using hy
   rw[this];exact kK e he
  refine⟨_,rfl,Y.o,Y.ra,Y.ga,_,_,_,_,rfl,O,js,fun e he=>(O.ne_l he).1,fun k6 M D iG R b4=>?_⟩;have L:∀b u,o b=some u→¬ Y9 Y b→D b=some u:=fun b u i nO=>b4 b u (k3 b u (sc b u i) nO) (fun z=>nO (.inl z));have S:MOk ab U D X:=J.mg.keep fun b u i aZ=>L b u i (J.nO i aZ);have gt:=L _ _ ce su;obtain⟨iC,gw⟩:=S.M.ob;refine⟨_,rfl,X.m,iC,_,rfl,gw,ZlY ..,_,rfl,X.m,X.rd,X.sd,X.L,X.s,X.nb,X.li,X.lo,_,r,ks,rfl,S.M,qc,vR,gt,nA,fu,jr,fun ne av s' w' k7 q7 H5 en vT eg pf sx sy jk W5 S5 P5 M5 k5=>?_⟩;refine⟨_,rfl,.int X.nb,.int X.nb,rfl,V5 _,fun H6 s6=>⟨_,rfl,XN ?_⟩⟩;have kM:∀b u,D b=some u→¬ MFp X b→H5 b=some u:=fun b u i nM=>k5 b u i (fun z=>nM (.inl z)) (fun z=>nM (.inr (.inl z)));have jc:=s6 _ _ (kM _ _ gt sq);have iH:=s6 _ _ (kM _ _ (L _ _ nB vO) vP);refine⟨_,rfl,_,rfl,.list (ks.map PyData.str),.list (ks.map PyData.str),.lst (SqL.of jc) (Wc ks),.lst (SqL.of iH) (Wc ks),VB ks kc,VB ks kc,?_⟩;rw[if_neg Ql,LG];have G:Agr (Y.Lo++[((X.nb,c,ks,0):ZA)]) (X.L++[ne]):=by show pur (Y.Lo++[((X.nb,c,ks,0):ZA)])=ZO (X.L++[ne]);have h0:pur Y.Lo=ZO X.L:=I.ag;unfold pur ZO at h0 ⊢;rw[Qe,Qe,h0,List.map_singleton,List.map_singleton,en,vT,eg]
  obtain⟨sC,sF⟩:=iG.one (by rw[Vy G,Xt G];exact P5);have nC:=Vx 8 (hdM (X.L++[ne])) s' (Zu (X.L++[ne])) M5.up (Qv (show (Zu (X.L++[ne])).length≤60 by unfold Zu;rw[Qa];exact M5.few) #[6]) #[6] S5;have dU:∀b,Y9 ⟨Y.o,Y.ra,Y.ga,Y.Lo++[((X.nb,c,ks,0):ZA)],X.nb+1⟩ b→Y9 Y b∨o b=none:=fun b i=>by
   rcases i with z|z|z|⟨e,he,z⟩
   ·exact .inl (.inl z)
   ·exact .inl (.inr (.inl z))
   ·exact .inl (.inr (.inr (.inl z)))
   ·rcases Qm.mp he with he|he
    ·exact .inl (.inr (.inr (.inr ⟨e,he,z⟩)))
    ·rw[Qn.mp he]at z;exact .inr (by rw[z];exact hc)
  have hv:∀b u,o b=some u→D b≠none:=fun b u i j=>by
   by_cases z:Y9 Y b
   ·obtain⟨u',hu',_⟩:=R.live (b:=b) (by
     rcases z with z|z|z|⟨e,he,z⟩
     ·exact .inl z
     ·exact .inr (.inl z)
     ·exact .inr (.inr (.inl z))
     ·exact .inr (.inr (.inr ⟨e,QF _ he,z⟩)))
    rw[j]at hu';cases hu'
   ·rw[L b u i z]at j;cases j
  have jp:∀b,Fp X.m X.rd av (X.L++[ne]) b→MFp X b∨D b=none:=fun b i=>by
   rcases i with z|z|z|⟨e,he,z⟩
   ·exact .inl (.inl z)
   ·exact .inl (.inr (.inl z))
   ·exact .inr (by rw[z];exact jk)
   ·rcases Qm.mp he with he|he
    ·exact .inl (.inr (.inr (.inr ⟨e,he,z⟩)))
    ·rw[Qn.mp he]at z;rcases z with z|z|z
     ·exact .inr (by rw[z];exact pf)
     ·exact .inr (by rw[z];exact sx)
     ·exact .inr (by rw[z];exact sy)
  obtain⟨p5,f5,k15⟩:=Of J R L hv dU M5 W5 nC kM jp G sC sF;refine fin (fun b u i n n'=>s6 _ _ (k15 b u (jq _ _ i) n n')) (p5.same s6) rfl rfl F rfl rfl ?_ f5 dU (fun _=>⟨k6,M,rfl,rfl,by rw[Vy G,Xt G]at iG;exact iG⟩);show ZO (X.L++[ne])=ZO X.L++[(X.nb,ks,0)];unfold ZO;rw[Qe,List.map_singleton,en,vT,eg]
 | drop =>
  obtain⟨x,hx,ke⟩:=hd;obtain⟨e,he,rfl⟩:=Qi.mp hx;have nD:e.n=n:=ke;subst nD;obtain⟨B,W,e1,e2⟩:=J2 I.ag he;obtain⟨lo1,_,_,_⟩:=C.lst B W;have kg:Z5 (kvR Y.Lo) (.inl e.n)=some (.ref B.2.1):=by rw[← e1];exact UV C.nd W
  have sG:Z5 (kvG Y.Lo) (.inl e.n)=some (.int (B.2.2.2:Int)):=by rw[← e1];exact VA C.nd W
  refine⟨_,rfl,rfl,_,rfl,YG (by intro z;injection z with z;exact absurd z #[1]) ?_⟩;refine⟨_,rfl,rfl,_,rfl,YI rfl ?_⟩;refine⟨_,rfl,Y.o,_,rfl,ZR.k' (k:=.inr "rows") C.at' (Xu ..),.inr (.inr (.inl ⟨rfl,.inl ⟨_,C.rows⟩⟩)),_,rfl,Y.ra,_,.inl e.n,_,rfl,rfl,C.rows,kg,?_⟩;rw[ZmB];refine⟨B.2.1,_,rfl,.inl (SqL.of (by rw[Zc (C.ne_l W).2.1];exact lo1)),?_⟩;refine⟨_,rfl,Y.o,_,rfl,ZR.k' (k:=.inr "gone") (by rw[Zc n1.symm];exact C.at') (WJ ..),.inr (.inr (.inl ⟨rfl,.inl ⟨_,by rw[Zc F];exact C.gone⟩⟩)),_,rfl,Y.ga,_,.inl e.n,_,rfl,rfl,(by rw[Zc F];exact C.gone),sG,?_⟩;rw[Zm8];refine⟨_,_,rfl,rfl,?_⟩;have O:=C.drop F e.n;have k3:∀b u,o b=some u→¬ Y9 Y b→(upd (upd o Y.ra (.dK (kvR (X4 Y.Lo e.n)))) Y.ga (.dK (kvG (X4 Y.Lo e.n)))) b=some u:=fun b u i nO=>by rw[Zc (fun z=>nO (.inr (.inr (.inl z)))),Zc (fun z=>nO (.inr (.inl z)))];exact i
  have v3:∀b u,o b=some u→(upd (upd o Y.ra (.dK (kvR (X4 Y.Lo e.n)))) Y.ga (.dK (kvG (X4 Y.Lo e.n)))) b≠none:=fun b u i j=>by
   by_cases z:b=Y.ga
   ·rw[z,Zd]at j;cases j
   ·rw[Zc z]at j;by_cases z':b=Y.ra
    ·rw[z',Zd]at j;cases j
    ·rw[Zc z',i]at j;cases j
  generalize upd (upd o Y.ra (.dK (kvR (X4 Y.Lo e.n)))) Y.ga (.dK (kvG (X4 Y.Lo e.n)))=H3 at O k3 v3 ⊢;have js:((X4 Y.Lo e.n).map (fun e:ZA=>e.1)).Pairwise (·<·):=aI.sublist (Qa3 _ Qaj);refine⟨_,rfl,Y.o,Y.ra,Y.ga,_,_,_,_,rfl,O,js,fun e he=>(O.ne_l he).1,fun k6 M D iG R b4=>?_⟩;have L:∀b u,o b=some u→¬ Y9 Y b→D b=some u:=fun b u i nO=>b4 b u (k3 b u i nO) (fun z=>nO (.inl z));have S:MOk ab U D X:=J.mg.keep fun b u i aZ=>L b u i (J.nO i aZ);obtain⟨iC,gw⟩:=S.M.ob;refine⟨_,rfl,X.m,iC,_,rfl,gw,ZkI ..,_,rfl,X.m,X.rd,X.sd,X.L,X.s,X.nb,X.li,X.lo,_,e,rfl,S.M,he,fun av s' w' k7 q7 H5 jk W5 S5 P5 M5 k5=>?_⟩;refine⟨_,rfl,_,_,rfl,(by rw[e2,Qa];exact V5 _),fun H6 s6=>?_⟩;have kM:∀b u,D b=some u→¬ MFp X b→H5 b=some u:=fun b u i nM=>k5 b u i (fun z=>nM (.inl z)) (fun z=>nM (.inr (.inl z)));have G:=Zn8 I.ag e.n;obtain⟨sC,sF⟩:=iG.one (by rw[Vy G,Xt G];exact P5);have nC:=Vx 8 (hdM (Yn X.L e.n)) s' (Zu (Yn X.L e.n)) M5.up (Qv (show (Zu (Yn X.L e.n)).length≤60 by unfold Zu;rw[Qa];exact M5.few) #[6]) #[6] S5;have dU:∀b,Y9 ⟨Y.o,Y.ra,Y.ga,X4 Y.Lo e.n,Y.nb⟩ b→Y9 Y b∨o b=none:=fun b i=>.inl (by
   rcases i with z|z|z|⟨e',aD,z⟩
   ·exact .inl z
   ·exact .inr (.inl z)
   ·exact .inr (.inr (.inl z))
   ·exact .inr (.inr (.inr ⟨e',(Qab.mp aD).1,z⟩)))
  have hv:∀b u,o b=some u→D b≠none:=fun b u i j=>by
   by_cases z:b=Y.o
   ·rw[z,R.at']at j;cases j
   ·cases Z:H3 b with
    | none=>exact v3 b u i Z
    | some u3=>rw[b4 b u3 Z z]at j;cases j
  have jp:∀b,Fp X.m X.rd av (Yn X.L e.n) b→MFp X b∨D b=none:=fun b i=>by
   rcases i with z|z|z|⟨e',aD,z⟩
   ·exact .inl (.inl z)
   ·exact .inl (.inr (.inl z))
   ·exact .inr (by rw[z];exact jk)
   ·exact .inl (.inr (.inr (.inr ⟨e',(Qab.mp aD).1,z⟩)))
  obtain⟨p5,f5,k15⟩:=Of J R L hv dU M5 W5 nC kM jp G sC sF;refine fin (fun b u i n n'=>s6 _ _ (k15 b u (jq _ _ i) n n')) (p5.same s6) rfl rfl F ka rfl ?_ f5 dU (fun _=>⟨k6,M,rfl,rfl,by rw[Vy G,Xt G]at iG;exact iG⟩);show ZO (Yn X.L e.n)=(ZO X.L).filter fun x=>decide (x.1≠e.n);unfold ZO Yn;rw[Qat];rfl
 | grow =>
  obtain⟨x,hx,ke,jr,ao⟩:=hd;obtain⟨e,he,rfl⟩:=Qi.mp hx;have nD:e.n=n:=ke;subst nD;have vU:sortedS (e.ss++ks)=true:=jr;have kh:(e.ss++ks).length≤100:=ao;obtain⟨B,W,e1,e2⟩:=J2 I.ag he;have ph:B.2.2.1=e.ss:=by rw[e2]
  have AC:B.2.2.2=e.g:=by rw[e2]
  obtain⟨lo1,_,_,lz⟩:=C.lst B W;have kZ:=(J.mg.M.each e he).le;have hz:∀x∈e.ss++ks,x.length≤1000∧AZ x:=fun x hx=>by
   rcases Qm.mp hx with hx|hx
   ·exact(J.mg.M.each e he).str x hx
   ·exact fu x hx
  have kg:Z5 (kvR Y.Lo) (.inl e.n)=some (.ref B.2.1):=by rw[← e1];exact UV C.nd W
  have sG:Z5 (kvG Y.Lo) (.inl e.n)=some (.int (B.2.2.2:Int)):=by rw[← e1];exact VA C.nd W
  refine⟨_,rfl,rfl,_,rfl,YG (by intro z;injection z with z;exact absurd z #[1]) ?_⟩;refine⟨_,rfl,rfl,_,rfl,YG (by intro z;injection z with z;exact absurd z #[1]) ?_⟩;refine⟨_,rfl,Y.o,_,rfl,ZR.k' (k:=.inr "rows") C.at' (Xu ..),_,rfl,Y.ra,_,rfl,ZR.k' (k:=.inl e.n) C.rows kg,B.2.1,_,rfl,.inl (SqL.of lo1),_,rfl,Y.o,_,rfl,ZR.k' (k:=.inr "gone") C.at' (WJ ..),_,rfl,Y.ga,_,rfl,ZR.k' (k:=.inl e.n) C.gone sG,rfl,?_⟩;refine⟨_,rfl,Y.o,_,rfl,ZR.k' (k:=.inr "rows") C.at' (Xu ..),_,rfl,Y.ra,_,rfl,ZR.k' (k:=.inl e.n) C.rows kg,_,rfl,r,_,rfl,.inl (SqL.of ce),fun l hl=>?_⟩;have sl:=Zh hl (.lst (ks.map V.str));refine⟨B.2.1,l,_,_,rfl,rfl,sl _ _ lo1,Zd,(by rw[Qa,Qa,ph];rw[Qj]at kh;exact Yh #[2]),fun c hc=>?_⟩;rw[← Qe];have sc:=sl.trans (Zh hc (.lst ((B.2.2.1++ks).map V.str)));have eZ:(upd (upd o l (.lst (ks.map V.str))) c (.lst ((B.2.2.1++ks).map V.str))) c=some (.lst ((B.2.2.1++ks).map V.str)):=Zd;have AD:o c=none:=sl.free hc;generalize upd (upd o l (.lst (ks.map V.str))) c (.lst ((B.2.2.1++ks).map V.str))=H2 at sc eZ ⊢;have N:=C.same sc;refine⟨_,rfl,Y.o,_,rfl,ZR.k' (k:=.inr "rows") N.at' (Xu ..),_,rfl,Y.ra,_,rfl,YD.k (k:=.inl e.n) N.rows qb,?_⟩;rw[← e1,ZmN W ks c];have O:=N.grow F W (ks:=ks) eZ (by rw[ph];exact kh) (by rw[ph];exact hz);have k3:∀b u,o b=some u→¬ Y9 Y b→(upd H2 Y.ra (.dK (kvR (Ye Y.Lo B.1 ks c)))) b=some u:=fun b u i nO=>by rw[Zc (fun z=>nO (.inr (.inl z)))];exact sc b u i
  have v3:∀b u,o b=some u→(upd H2 Y.ra (.dK (kvR (Ye Y.Lo B.1 ks c)))) b≠none:=fun b u i j=>by
   by_cases z:b=Y.ra
   ·rw[z,Zd]at j;cases j
   ·rw[Zc z,sc b u i]at j;cases j
  generalize upd H2 Y.ra (.dK (kvR (Ye Y.Lo B.1 ks c)))=H3 at O k3 v3 ⊢;have js:((Ye Y.Lo B.1 ks c).map (fun e:ZA=>e.1)).Pairwise (·<·):=by rw[J3];exact aI
  have dH:=k3 _ _ ce su;refine⟨fun σ D=>(∃v:Option V,σ=[some (.ref X.m),some (.ref Y.o),some (.ref t),some (.str "grow"),some (.int B.1),some (.ref r),some (.ref kp),none,v])∧(∃k6 M:Int,Own D Y.o Y.ra Y.ga (Ye Y.Lo B.1 ks c) Y.nb (X.li+k6) (X.lo+M)∧(∀b u,o b=some u→¬ Y9 Y b→D b=some u)∧(∀b u,o b=some u→D b≠none)∧(((e.g<e.ss.length∨ks=[])∧k6=0∧M=0)∨(e.g=e.ss.length∧ks≠[]∧YU (hdL (Ye Y.Lo B.1 ks c)) 8 ((Ye Y.Lo B.1 ks c).map (fun e:ZA=>e.1)) k6 M))),?_,?_⟩
  ·refine⟨_,rfl,_,rfl,?_⟩;rw[Qa,ph,AC];by_cases hg:e.g<e.ss.length
   ·exact YG (by intro z;injection z with z;lia) (YR ⟨⟨_,rfl⟩,0,0,by rw[QT,QT];exact O,k3,v3,.inl ⟨.inl hg,rfl,rfl⟩⟩)
   refine YI (by rw[show e.ss.length=e.g by lia]) ?_;refine⟨_,rfl,(by show 0≤sizeLine;decide),fun z AE=>?_⟩;have sz:=Zh AE (.lst []);refine⟨.list (ks.map PyData.str),.list [],.lst (SqL.of (sz _ _ dH)) (Wc ks),.lst (SqL.of Zd) .nil,VB ks kc,#[1],_,rfl,?_⟩;rw[if_pos rfl,J0];have R:=O.same sz;have k4:∀b u,o b=some u→¬ Y9 Y b→(upd H3 z (.lst [])) b=some u:=fun b u i nO=>sz _ _ (k3 b u i nO);have v4:∀b u,o b=some u→(upd H3 z (.lst [])) b≠none:=fun b u i j=>v3 b u i (sz.free j);generalize upd H3 z (.lst [])=sH at R k4 v4 ⊢;by_cases dQ:ks=[]
   ·exact WB dQ ⟨⟨_,rfl⟩,0,0,by rw[QT,QT];exact R,k4,v4,.inl ⟨.inr dQ,rfl,rfl⟩⟩
   refine Ui dQ ?_;refine⟨_,rfl,Y.o,Y.ra,Y.ga,_,_,_,_,rfl,R,js,fun e he=>(R.ne_l he).1,fun k6 M D iG qd b4=>?_⟩;refine⟨⟨_,rfl⟩,k6,M,qd,fun b u i nO=>b4 b u (k4 b u i nO) (fun z=>nO (.inl z)),fun b u i j=>?_,.inr ⟨by lia,dQ,iG⟩⟩;by_cases z:b=Y.o
   ·rw[z,qd.at']at j;cases j
   ·cases Z:sH b with
    | none=>exact v4 b u i Z
    | some u3=>rw[b4 b u3 Z z]at j;cases j
  rintro σ D ⟨⟨v,rfl⟩,k6,M,gf,L,hv,vV⟩;have S:MOk ab U D X:=J.mg.keep fun b u i aZ=>L b u i (J.nO i aZ);have gt:=L _ _ ce su;obtain⟨iC,gw⟩:=S.M.ob;refine⟨_,rfl,X.m,iC,_,rfl,gw,ZkG ..,_,rfl,_,rfl,X.m,X.rd,X.sd,X.L,X.s,X.nb,X.li,X.lo,X.w,e,r,ks,(by rw[← e1];rfl),S.M,S.W,S.ok,he,gt,fun z=>sq (.inr (.inr (.inr ⟨e,he,.inl z⟩))),kh,vU,hz,fun k' f' av s' w' k7 q7 H5 sx sy nE W5 nC M5 k5=>?_⟩;refine⟨rfl,_,rfl,YI rfl ?_⟩;have kM:∀b u,D b=some u→¬ MFp X b→H5 b=some u:=fun b u i nM=>k5 b u i (fun z=>nM (.inl z)) (fun z=>nM (.inr (.inr (.inr ⟨e,he,.inl z⟩))));have jc:=kM _ _ gt sq;have iH:=kM _ _ (L _ _ nB vO) vP;refine⟨_,rfl,_,rfl,.list (ks.map PyData.str),.list (ks.map PyData.str),.lst (SqL.of jc) (Wc ks),.lst (SqL.of iH) (Wc ks),VB ks kc,VB ks kc,?_⟩;rw[if_neg Ql,LG];have G:Agr (Ye Y.Lo B.1 ks c) (Ym X.L e.n ks k' f'):=by rw[e1];exact Zn5 I.ag e.n ks c k' f'
  have lE:k6=k7∧M=q7:=by
   rcases vV with⟨h1,rfl,rfl⟩|⟨h1,h2,Z⟩
   ·rcases nE with⟨_,_,rfl,rfl⟩|⟨h4,h5,_⟩
    ·exact⟨rfl,rfl⟩
    ·rcases h1 with h1|h1
     ·lia
     ·exact absurd h1 h5
   ·rcases nE with⟨h4,_⟩|⟨_,_,_,h6⟩
    ·rcases h4 with h4|h4
     ·lia
     ·exact absurd h4 h2
    ·refine Z.one (m:=8) ?_;rw[Vy G,Xt G,UR];exact h6
  have dU:∀b,Y9 ⟨Y.o,Y.ra,Y.ga,Ye Y.Lo B.1 ks c,Y.nb⟩ b→Y9 Y b∨o b=none:=fun b i=>by
   rcases i with z|z|z|⟨e',aD,z⟩
   ·exact .inl (.inl z)
   ·exact .inl (.inr (.inl z))
   ·exact .inl (.inr (.inr (.inl z)))
   ·obtain⟨y,hy,rfl⟩:=Qi.mp aD;unfold WX at z;split at z
    ·exact .inr (by rw[z];exact AD)
    ·exact .inl (.inr (.inr (.inr ⟨y,hy,z⟩)))
  have jp:∀b,Fp X.m X.rd av (Ym X.L e.n ks k' f') b→MFp X b∨D b=none:=fun b i=>by
   rcases i with z|z|z|⟨e',aD,z⟩
   ·exact .inl (.inl z)
   ·exact .inl (.inr (.inl z))
   ·rcases nE with⟨_,h6,_⟩|⟨_,_,h6,_⟩
    ·exact .inl (.inr (.inr (.inl (by rw[z,h6]))))
    ·exact .inr (by rw[z];exact h6)
   ·obtain⟨y,hy,rfl⟩:=Qi.mp aD;unfold XT at z;split at z
    ·rcases z with z|z|z
     ·exact .inl (.inr (.inr (.inr ⟨y,hy,.inl z⟩)))
     ·exact .inr (by rw[z];exact sx)
     ·exact .inr (by rw[z];exact sy)
    ·exact .inl (.inr (.inr (.inr ⟨y,hy,z⟩)))
  obtain⟨p5,f5,k15⟩:=Of J gf L hv dU M5 (by rw[UR];exact W5) (by rw[UR];exact nC) kM jp G lE.1 lE.2;refine fin (fun b u i n n'=>k15 b u (jq _ _ i) n n') p5 rfl rfl F ka rfl ?_ f5 dU (fun bu=>by
   obtain⟨dQ,y,hy,AF,vW⟩:=bu rfl;have ey:y=(e.n,(e.ss,e.g)):=Ws (Om I.mg) hy (Qd (f:=fun e:Zv=>(e.n,(e.ss,e.g))) he) AF;rw[ey]at vW;have B0:e.g=e.ss.length:=vW;rcases vV with⟨h1,_⟩|⟨_,_,Z⟩
   ·rcases h1 with h1|h1
    ·lia
    ·exact absurd h1 dQ
   ·exact⟨k6,M,rfl,rfl,by rw[Vy G,Xt G]at Z;exact Z⟩)
  show ZO (Ym X.L e.n ks k' f')=(ZO X.L).map fun x=>if x.1=e.n then (x.1,x.2.1++ks,x.2.2) else x
  unfold ZO Ym;rw[Qg,Qg];refine Qy fun y _=>?_;simp only[Function.comp];unfold XT;split<;>rfl
theorem JZ:∀ns:List Int,PyData.canLayAll0 (ns.map PyData.int)=true
 | []=>rfl
 | x::r=>by simp[PyData.canLayAll0,PyData.canLay0,JZ r]
theorem JY:∀ns:List Int,PyData.depthAll (ns.map PyData.int)=0
 | []=>rfl
 | _::r=>by simp[PyData.depthAll,PyData.depth,JY r]
theorem ZjE(ns:List Int):SeqAt.shaped (.list (ns.map PyData.int))=true:=by simp[SeqAt.shaped,PyData.canLay0,PyData.depth,JZ ns,JY]
theorem JX{K:#[7]}{H:Hp}:∀ns:List Int,DVs K H (ns.map V.int) (ns.map PyData.int)
 | []=>.nil
 | s::r=>.cons (.int s) (JX r)
theorem Zpa{xs:List V}{x:V}(h:xs[xs.length-1]? = some x)(h0:0<xs.length):atI xs (-1)=some x:=by
 have e:ixN xs.length (-1)=some (xs.length-1):=by unfold ixN;rw[if_neg #[6],if_pos #[2]];congr 1;lia
 unfold atI;rw[e];exact h
theorem Oe:∀a b:List Nat,Spec.ltCps a b=true↔a<b
 | [],[]=>by simp[Spec.ltCps]
 | [],y::s=>by simp[Spec.ltCps]
 | x::r,[]=>by simp[Spec.ltCps]
 | x::r,y::s=>by have c:=Oe r s;rw[Qax];simp[Spec.ltCps,c]
def LeS(a b:Str):Prop:=¬ b.cps.toList<a.cps.toList
theorem LeS.trans{a b c:Str}(h:LeS a b)(k:LeS b c):LeS a c:=List.not_lt.mpr (List.le_trans (List.not_lt.mp h) (List.not_lt.mp k))
theorem JW:∀ (r:List Str) (x:Str),risingS x r=true↔(x::r).Pairwise LeS
 | [],x=>by simp[risingS]
 | y::r,x=>by
  have d:=JW r y;rw[List.pairwise_cons];unfold risingS;rw[QZ,Bool.not_eq_true'];constructor
  ·rintro⟨a,c⟩;have p:=d.mp c;have e:LeS x y:=fun z=>by rw[(Oe _ _).mpr z]at a;cases a
   refine⟨fun b hb=>?_,p⟩;rcases QG.mp hb with rfl|hb
   ·exact e
   ·exact e.trans ((List.pairwise_cons.mp p).1 b hb)
  ·rintro⟨a,c⟩;exact⟨Q9.mpr fun z=>a y #[4] ((Oe _ _).mp z),d.mpr c⟩
theorem T4(ss:List Str):sortedS ss=true↔ss.Pairwise LeS:=by
 cases ss with
 | nil=>simp[sortedS]
 | cons x r=>exact JW r x
theorem JV:∀ (n:Nat) (a b:List Nat),a.take n<b.take n→a<b
 | 0,a,b,h=>by simp at h
 | n+1,[],b,h=>by
  cases b with
  | nil=>simp at h
  | cons y s=>simp
 | n+1,x::r,[],h=>by simp at h
 | n+1,x::r,y::s,h=>by
  rw[List.take_succ_cons,List.take_succ_cons,Qax]at h;rw[Qax];rcases h with h|⟨h1,h2⟩
  ·exact .inl h
  ·exact .inr ⟨h1,JV n r s h2⟩
theorem LeS.cut{a b:Str}(h:LeS a b)(n:Nat):LeS (Txt.slice a none (some (n:Int))) (Txt.slice b none (some (n:Int))):=fun z=>by rw[Tl,Tl]at z;exact h (JV n _ _ z)
theorem ZkJ{ss ks:List Str}(h:sortedS ss=true)(k:sortedS ks=true)(hl:∀x∈ks,LeS ((([""]:List Str)++ss).getLast #[4]) x):sortedS (ss++ks)=true:=by
 rw[T4]at h k ⊢;refine Qag.mpr ⟨h,k,fun a ha b e=>?_⟩;have d:=hl b e;have c:ss≠[]:=fun z=>by rw[z]at ha;cases ha
 rw[List.getLast_append_of_ne_nil #[4] c]at d;have f:LeS a (ss.getLast c):=by
  rcases List.eq_nil_or_concat ss with z|⟨r,y,rfl⟩
  ·exact absurd z c
  ·rw[show (r.concat y).getLast c=y by simp];rcases Qm.mp (by simpa using ha:a∈r++[y]) with ha|ha
   ·exact(Qag.mp (by simpa using h:(r++[y]).Pairwise LeS)).2.2 a ha y #[4]
   ·rw[Qn.mp ha];exact List.not_lt.mpr (List.le_refl _)
 exact f.trans d
theorem JU{c:Bool}(b2:Bool){e:(Bool→Hp→Prop)→Prop}{T:Bool→Hp→Prop}{H:Hp}(h1:c=true→∀a:Bool→Hp→Prop,(∀H',ZG H H'→a b2 H')→e a)(q:∀H',ZG H H'→T (c&&b2) H'):if c=true then e T else T false H:=by
 cases c with
 | true=>rw[if_pos rfl];exact h1 rfl T q
 | false=>rw[if_neg Ql];exact q H (ZG.refl H)
theorem ZpY{c:Bool}(b2:Bool){e:(Bool→Hp→Prop)→Prop}{T:Bool→Hp→Prop}{H:Hp}(h1:c=false→∀a:Bool→Hp→Prop,(∀H',ZG H H'→a b2 H')→e a)(q:∀H',ZG H H'→T (c||b2) H'):if c=true then T true H else e T:=by
 cases c with
 | true=>rw[if_pos rfl];exact q H (ZG.refl H)
 | false=>rw[if_neg Ql];exact h1 rfl T q
theorem Zr1:AZ "a":=by unfold AZ;ac_rfl
theorem Od{K:#[7]}{a:Addr}{ss:List Str}{k:Nat}{D:Addr}{d:L2.St}{h:Hp}{g:TG}{r:TT}{s:TE}{Q:VK}(j:Str→Bool)(n:Str→Str)(R:L2.St→Prop)(w:h D=none)(ha:SqL K h a (ss.map V.str))(hn:ss.length≤1000)(h0:R (d++List.replicate k none))
  (z:∀x∈ss,∀ (d:L2.St) (H:Hp) (N:L2.St→V→Hp→Prop) (M:L2.St→Hp→Prop),R d→(∀c,R c→j x=true→N c (.str (n x)) H)→(∀c,R c→j x=false→M c H)→g (.str x) d H fun c A=>r c A fun b t=>if b=true then s c t fun y B=>N c y B else M c t)
  (hd:∀c,R c→Q (.ref D) (upd h D (.lst (((ss.filter j).map n).map V.str)))):VN (Itl K a) D k d h g r s Q:=by
 refine Lv (K:=K) (a:=a) (xs:=ss.map V.str) (fun i l d H=>R d∧l=(((ss.take i).filter j).map n).map V.str∧H=upd h D (.lst l)∧i≤ss.length) ⟨h0,rfl,rfl,Qx _⟩ ?_ ?_ ?_
 ·rintro i l d H ⟨_,_,rfl,_⟩;exact(Zh w _).seq ha
 ·rintro i x l d H f ⟨o,rfl,rfl,hi⟩;rw[Qo]at f;cases m:ss[i]? with
  | none=>rw[m]at f;cases f
  | some y =>
   rw[m]at f;injection f with f;subst f;have u:i<ss.length:=(Qf.mp m).1;have v:ss.take (i+1)=ss.take i++[y]:=by rw[List.take_succ,m];rfl
   refine z y (Qz m) d _ _ _ o (fun c p q=>⟨Zd,?_,p,?_,by rw[Zoo],u⟩) (fun c p q=>⟨p,?_,rfl,u⟩)
   ·rw[Qa,Qa];have:=Qae j (ss.take i);rw[QA]at this;exact ZE #[2]
   ·rw[v,List.filter_append,List.filter_cons_of_pos q,List.filter_nil,Qe,Qe];rfl
   ·rw[v,List.filter_append,List.filter_cons_of_neg (by rw[q];exact Ql),List.filter_nil,QaK]
 ·rintro l d H ⟨o,rfl,rfl,_⟩;have e:ss.take (ss.map V.str).length=ss:=by rw[Qa,List.take_length]
  rw[e];exact hd d o
def Si(P:List Y5)(nb n:Int)(ks:List Str):Xe→Prop
 | .add=>n=nb∧(P.length<12∨P=[])∧sortedS ks=true∧(nb<36∨P=[])
 | .drop=>∃x∈P,x.1=n
 | .grow=>∃x∈P,x.1=n∧sortedS (x.2.1++ks)=true∧(x.2.1.length<50∨ks=[])
def ZqY:Sp:=fun vs H Q _=>∃ (p o ra ga l:Addr) (c:Int) (Lo:List ZA) (nb li lo:Int) (ss:List Str),vs=[.ref p,.ref o,.ref l]∧Y7 H p c∧c<2 ^ 30∧Own H o ra ga Lo nb li lo∧o≠p∧ra≠p∧ga≠p∧(∀e∈Lo,e.2.1≠p∧sortedS e.2.2.1=true)∧(Lo.map (·.1)).Pairwise (·<·)∧H l=some (.lst (ss.map V.str))∧l≠p∧1≤ss.length∧ss.length≤4∧(∀s∈ss,s.length≤24∧AZ s) ∧
 ∀ (t r:Addr) (d:Xe) (n:Int) (b:List Str) (f:Int) (a:Hp),H t=none→H r=none→a t=some (.tup [.str d.word,.int n,.ref r])→a r=some (.lst (b.map V.str))→b.length≤6→(∀x∈b,x.length≤40∧AZ x)→Si (pur Lo) nb n b d→Y7 a p f→c≤f→f≤c+700→But p H a→Q (.ref t) a
theorem Zpp(T:Zt K mg ab U)(ah:Df P w K mg base 2 "_law_pick" ["_law_left_here", "_law_many_here"] We)(ca:Df P w K mg base 5 "_law_row" ["_law_left_here", "_law_stems_here", "_law_most"] SA):Df P w K mg base 6 "_law_late" ["_law_left_here", "_law_own", "_law_stems_here"] ZqY:=by
 refine T.t_l_late.df Wx (fun vs H Q E h=>?_) (fun af f A outer s H vs Q E G h=>?_)
 ·obtain⟨p,o,ra,ga,l,c,Lo,nb,li,lo,ss,rfl,_⟩:=h;rfl
 obtain⟨p,o,ra,ga,l,c,Lo,nb,li,lo,ss,rfl,hL,c1,ow,AH,sI,AI,qe,aI,hl,nF,fA,vY,pi,q⟩:=h;refine⟨_,#[Ze,#[Zw,3,Wx.nd,#[3],#[Zk,Vf,T.b.n_sorted,boot_sorted,#[Za,#[Zl,(ixG G),‹1›,#[Zz]],#[Zf]]]],#[Ze,#[Zw,4,Wx.nd,#[3],#[ZB,ah,G,#[Za,‹0›,#[Za,#[Zi],#[Zf]]],#[5]]],#[Ze,#[Z0,(@PW.pt _ _ _ #[Wo,(@PW.pt _ _ _ #[XS,#[Zn,Xr,‹4›,#[Zi],(Zp _)],#[XS,#[Zn,Xr,#[Zk,(Yv K),T.b.n_len,Qu,#[Za,‹3›,#[Zf]]],#[Zi],(Zp _)],#[Xl,#[Zn,Xr,#[Zl,(ixG G),‹1›,#[Zz]],#[Zi],(Zp _)]]]]),(@Vs _ _ _ _ #[Zn,(@eqD _ K _ G #[5]),‹3›,#[YH,#[Zf]],(Zp _)])]),#[Zj,#[Zr,#[YJ,#[Za,#[Zz],#[Za,#[Zl,(ixG G),‹1›,#[Zz]],#[Za,#[ZB,ca,G,#[Za,‹0›,#[Za,‹2›,#[Za,#[Zi],#[Zf]]]],#[5]],#[Zf]]]]]]],#[ZF]],#[Ze,#[Zw,5,Wx.nd,#[3],#[Zl,(ixL K),‹3›,#[ZB,ah,G,#[Za,‹0›,#[Za,#[Zk,(Yv K),T.b.n_len,Qu,#[Za,‹3›,#[Zf]]],#[Zf]]],#[5]]]],#[Ze,#[Z0,#[Zn,YF,‹4›,#[Zi],(Zp _)],#[Zj,#[Zr,#[YJ,#[Za,#[Zz],#[Za,‹5›,#[Za,#[YH,#[Zf]],#[Zf]]]]]]],#[ZF]],(@Ve _ _ _ _ _ #[Zw,6,Wx.nd,(Or.inr rfl),#[Zl,(ixL K),#[ZI,VP,#[YH,#[Za,#[Zz],#[Zf]]],#[Zl,(ixG G),#[Zl,(ixG G),‹1›,#[Zz]],‹5›]],(@Vo _ _ _ _ _ _ Vn #[Zi])]] #[Ze,#[Tz,7,Wx.nd,Ul,#[iL,K,#[ZB,ca,G,#[Za,‹0›,#[Za,‹2›,#[Za,#[Zi],#[Zf]]]],#[5]]],(fun _ _ _ _=>#[cg,9,Ul]),(fun _ _ _ _=>(@RN _ _ _ #[Zn,MG,#[cw,9,Ul],#[cv,6,Ul],(Zp _)])),(fun _ _ _ _=>#[cw,9,Ul])],(@Ve _ _ _ _ _ #[Z0,#[Zn,YF,#[ZB,ah,G,#[Za,‹0›,#[Za,#[Zi],#[Zf]]],#[5]],#[Zi],(Zp _)],#[Ze,#[Zw,7,Wx.nd,#[3],#[ZI,VP,#[YH,#[Za,#[ZI,RZ,#[pv,6,(Or.inr #[3])],#[Zz]],#[Zf]]],#[Zk,(RK K),T.b.n_sorted,boot_sorted,#[Za,#[WQ,S7,#[iL,K,‹7›],(fun _ _ _ _=>#[cg,9,S7]),(fun _ _ _ _=>(@Wl _)),(fun _ _ _ _=>#[ZI,RZ,#[cv,6,S7],#[cw,9,S7]])],#[Zf]]]]],#[Zj,#[Zw,7,Wx.nd,#[3],#[Zk,(RK K),T.b.n_sorted,boot_sorted,#[Za,‹7›,#[Zf]]]]]],#[ZF]] #[Ze,#[Zw,8,Wx.nd,#[3],#[ZI,VY,#[Zi],#[Xq,NU,T.b.n_int,boot_int,#[Za,#[Ya,Xr,#[Zk,(Yv K),T.b.n_len,Qu,#[Za,#[Zl,(ixG G),#[Zl,(ixG G),‹1›,#[Zz]],‹5›],#[Zf]]],#[Zi],(Zp _)],#[Zf]]]]],#[Zj,#[Zr,#[YJ,#[Za,#[Zz],#[Za,‹5›,#[Za,#[W7,(slL K),#[WQ,Uk,#[iL,K,‹7›],(fun _ _ _ _=>#[cg,9,Uk]),(fun _ _ _ _=>(@RN _ _ _ #[Zn,MG,#[W7,Nm,#[cw,9,Uk],(@Xa _),(@WR _ _ _ #[Zi])],#[cv,6,Uk],(Zp _)])),(fun _ _ _ _=>#[W7,Nm,#[cw,9,Uk],(@Xa _),(@WR _ _ _ #[Zi])])],(@Xa _),(@WR _ _ _ ‹8›)],#[Zf]]]]]]]])])]]]]],?_⟩;have c0:=hL.ge;have bW:=ow.few;refine⟨_,rfl,o,_,rfl,ZR.k' (k:=.inr "rows") ow.at' (Xu ..),ra,_,Lo.map (·.1),rfl,ow.rows,SI Lo,by rw[Qa];lia,fun I ns eI aW aM=>?_⟩;have cC:ns=Lo.map (·.1):=SF aW (SE aM (aW.nodup_iff.mpr ow.nd)) aI;subst cC;have jt:=Zh eI (.lst ((Lo.map (·.1)).map V.int));have fi:(upd H I (.lst ((Lo.map (·.1)).map V.int))) I=some (.lst ((Lo.map (·.1)).map V.int)):=Zd;have L1:=hL.same jt;generalize upd H I (.lst ((Lo.map (·.1)).map V.int))=H1 at jt fi L1 ⊢;have qf:I≠p:=by obtain⟨u,hu⟩:=hL.here;exact(Zb hu eI).symm
 refine⟨_,rfl,p,c,_,rfl,L1,by lia,by decide,by decide,fun wy H2 AJ AK L2 B2=>?_⟩;have oM:But p H H2:=(But.same jt).trans B2;have nG:∀ {J:Hp},But p H J→Own J o ra ga Lo nb li lo:=fun {J} B=>ow.keep fun b u S ho=>B b u S (by
  rcases ho with z|z|z|⟨e,O,z⟩
  ·rw[z];exact AH
  ·rw[z];exact sI
  ·rw[z];exact AI
  ·rw[z];exact(qe e O).1)
 have bc:=nG oM;have hJ:=B2 _ _ fi qf;have ao:(((Lo.map (·.1)).map V.int).length:Int)=(Lo.length:Int):=by rw[Qa,Qa]
 refine⟨_,rfl,_,_,rfl,rfl,_,rfl,?_⟩;refine JU (decide ((((Lo.map (·.1)).map V.int).length:Int)<12)&&decide (nb<36)) (fun _ T1 h1=>?_) (fun H3 X=>?_)
 ·refine⟨_,rfl,I,_,rfl,.inl (SqL.of hJ),_,_,rfl,rfl,_,rfl,?_⟩;exact JU (decide (nb<36)) (fun _ T2 h2=>⟨_,rfl,o,_,rfl,ZR.k' (k:=.inr "number") bc.at' (Lc ..),_,_,rfl,rfl,_,rfl,h2 _ (ZG.refl _)⟩) h1
 refine ZpY (decide (Lo=[])) (fun _ T1 h1=>?_) (fun sH pj=>?_)
 ·refine⟨_,rfl,(by show 0≤sizeLine;decide),fun z hz=>?_⟩;have sz:=Zh hz (.lst []);refine⟨.list ((Lo.map (·.1)).map PyData.int),.list [],.lst (SqL.of (sz _ _ (X _ _ hJ))) (JX _),.lst (SqL.of Zd) .nil,ZjE _,#[1],_,rfl,?_⟩;rw[if_neg Ql,show PyData.eqv (.list ((Lo.map (·.1)).map PyData.int)) (.list [])=decide (Lo=[]) by
   cases Lo with
   | nil=>simp[PyData.eqv,PyData.eqvAll]
   | cons a r=>simp[PyData.eqv,PyData.eqvAll]]
  exact h1 _ sz
 replace X:=X.trans pj;clear pj;generalize sH=H3 at X ⊢;have iB:But p H H3:=oM.trans (But.same X);have L3:=L2.same X;have bP:=nG iB;have qg:=X _ _ hJ;have cL:=iB _ _ hl nF;have hU:∀ {b:Addr} {J:Hp},But p H J→Y7 J p (0:Int)∨(∃c',Y7 J p c')→J b=none→H b=none:=fun {b J} B aZ S=>by
  have hp:∃u,J p=some u:=by
   rcases aZ with h|⟨c',h⟩
   ·exact h.here
   ·exact h.here
  cases e:H b with
  | none=>rfl
  | some u =>
   by_cases z:b=p
   ·obtain⟨u',hu'⟩:=hp;rw[z,hu']at S;cases S
   ·rw[B b u e z]at S;cases S
 refine YW (fun d=>?_) (fun d=>?_)
 ·refine⟨_,rfl,o,_,rfl,ZR.k' (k:=.inr "number") bP.at' (Lc ..),_,rfl,_,rfl,p,l,c+1,5,ss,rfl,L3,by lia,by decide,by decide,cL,fA,vY,pi,fun r ts c6 H4 ay gt cZ jr kL Y d1 d2 B4=>?_⟩;refine⟨(by show 3≤sizeLine;decide),fun t R=>?_⟩;have Z:=iB.trans B4;have st:=Zh R (.tup [.str "add",.int nb,.ref r]);refine q t r .add nb ts c6 _ (hU Z (.inr ⟨_,Y⟩) R) (hU iB (.inr ⟨_,L3⟩) ay) Zd (st _ _ gt) #[2] (fun x C=>⟨by have:=(kL x C).1;lia,(kL x C).2⟩) ⟨rfl,?_,jr,?_⟩ (Y.same st) #[2] #[2] (Z.trans (But.same st))
  ·rw[Bool.or_eq_true,QZ,QZ,decide_eq_true_eq,decide_eq_true_eq,decide_eq_true_eq,decide_eq_true_eq,ao]at d;rcases d with⟨_,d,_⟩|d
   ·exact .inl (by unfold pur;rw[Qa];lia)
   ·exact .inr (by rw[d];rfl)
  ·rw[Bool.or_eq_true,QZ,QZ,decide_eq_true_eq,decide_eq_true_eq,decide_eq_true_eq,decide_eq_true_eq]at d;rcases d with⟨_,_,d⟩|d
   ·exact .inl d
   ·exact .inr (by rw[d];rfl)
 have aV:Lo≠[]:=fun z=>d (by rw[Bool.or_eq_true,decide_eq_true z];exact .inr rfl);have e8:0<Lo.length:=List.length_pos_iff.mpr aV;refine⟨_,rfl,_,rfl,_,rfl,I,_,rfl,.inl (SqL.of qg),p,c+1,_,rfl,L3,by lia,by lia,by lia,fun i H4 i0 i1 Y B4=>?_⟩;obtain⟨n,hn,bm⟩:=Pr (ns:=Lo.map (·.1)) i0 (by rw[Qa];lia);obtain⟨e,O,rfl⟩:=Qi.mp hn;have kN:=B4 _ _ qg qf;have Z:=iB.trans B4;refine⟨I,_,_,_,rfl,rfl,SqL.of kN,bm,?_⟩;refine⟨_,rfl,rfl,_,rfl,YW (fun dw=>?_) (fun dw=>?_)⟩
 ·refine⟨_,rfl,(by show 0≤sizeLine;decide),fun r iA=>⟨(by show 3≤sizeLine;decide),fun t R=>?_⟩⟩;have sr:=Zh iA (.lst []);have st:=Zh R (.tup [.str "drop",.int e.1,.ref r]);have nH:=Z.trans (But.same sr);exact q t r .drop e.1 [] (c+1+1) _ (hU nH (.inr ⟨_,Y.same sr⟩) R) (hU Z (.inr ⟨_,Y⟩) iA) Zd (st _ _ Zd) #[6] (fun x C=>by cases C) ⟨_,Qd (f:=fun e:ZA=>(e.1,e.2.2)) O,rfl⟩ ((Y.same sr).same st) #[2] #[2] (nH.trans (But.same st))
 have cE:=nG Z;obtain⟨Jp,dS,lg,gc⟩:=cE.lst e O;have kg:Z5 (kvR Lo) (.inl e.1)=some (.ref e.2.1):=UV ow.nd O;obtain⟨g,sJ⟩:∃z,z=(([""]:List Str)++e.2.2.1).getLast #[4]:=⟨_,rfl⟩;have vZ:g∈([""]:List Str)++e.2.2.1:=by rw[sJ];exact List.getLast_mem _
 have qh:g.length≤1000∧AZ g:=by
  rcases Qm.mp vZ with h|h
  ·rw[Qn.mp h];exact⟨by ac_rfl,AZ.nil⟩
  ·exact gc g h
 refine⟨fun F H6=>F=[some (.ref p),some (.ref o),some (.ref l),some (.ref I),some (.int wy),some (.int e.1),some (.str g),none,none]∧But p H H6∧Y7 H6 p (c+1+1),?_,?_⟩
 ·refine⟨(by show 1≤sizeLine;decide),fun b S=>?_⟩;have sb:=Zh S (.lst (([""]:List Str).map V.str));have AL:(upd H4 b (.lst (([""]:List Str).map V.str))) b=some (.lst (([""]:List Str).map V.str)):=Zd;have nH:=Z.trans (But.same sb);have L5:=Y.same sb;have gf:=nG nH;refine⟨_,rfl,o,_,rfl,ZR.k' (k:=.inr "rows") gf.at' (Xu ..),_,rfl,ra,_,rfl,ZR.k' (k:=.inl e.1) gf.rows kg,b,e.2.1,_,_,rfl,rfl,AL,(gf.lst e O).1,(by rw[Qa,Qa];show 1+e.2.2.1.length≤sizeLine;exact Yh #[2]),fun d' aG=>?_⟩;rw[← Qe];have sd:=Zh aG (.lst (((([""]:List Str)++e.2.2.1)).map V.str));have AM:(upd (upd H4 b (.lst (([""]:List Str).map V.str))) d' (.lst (((([""]:List Str)++e.2.2.1)).map V.str))) d'=some (.lst (((([""]:List Str)++e.2.2.1)).map V.str)):=Zd;have pp:=nH.trans (But.same sd);have L6:=L5.same sd;have wc:atI (((([""]:List Str)++e.2.2.1)).map V.str) (-1)=some (.str g):=Zpa (by rw[Qa,Qo,sJ,List.getLast_eq_getElem,Qb (by rw[Qj];show 1+_-1<1+_;lia)];rfl) (by rw[Qa,Qj];show 0<1+_;lia);exact⟨_,rfl,d',_,_,_,rfl,rfl,SqL.of AM,wc,rfl,pp,L6⟩
 rintro F H6 ⟨rfl,pp,L6⟩;clear AJ AK i0 i1 ao e8 lg dS bW;refine⟨_,rfl,_,rfl,p,l,c+1+1,4,ss,rfl,L6,by lia,by decide,by decide,pp _ _ hl nF,fA,vY,pi,fun r ts c6 H7 ay wd cZ jr kL L7 d1 d2 B7=>?_⟩;have AN:=pp.trans B7;refine⟨r,rfl,⟨_,SqL.of wd⟩,fun D hD=>?_⟩;refine Od (K:=K) (a:=r) (ss:=ts) (fun x=>!decide (x.cps.toList<g.cps.toList)) (fun x=>x) (fun F=>∃v:Option V,F=[some (.ref p),some (.ref o),some (.ref l),some (.ref I),some (.int wy),some (.int e.1),some (.str g),none,none,v]) hD (SqL.of wd) #[2] ⟨_,rfl⟩ ?_ ?_
 ·rintro x C F Hx N M ⟨v,rfl⟩ hN hM;exact⟨_,rfl,_,rfl,x,g,rfl,rfl,_,rfl,YW (fun d=>⟨_,rfl,hN _ ⟨_,rfl⟩ d⟩) (fun d=>hM _ ⟨_,rfl⟩ (Q9.mpr d))⟩
 rintro az ⟨v,rfl⟩;obtain⟨k0,dQ⟩:∃z,z=ts.filter (fun x=>!decide (x.cps.toList<g.cps.toList)):=⟨_,rfl⟩;rw[List.map_id',← dQ];have AO:sortedS k0=true:=by rw[T4]at jr ⊢;rw[dQ];exact jr.sublist Qaj
 have pq:∀x∈k0,x.length≤28∧AZ x:=fun x C=>kL x (by rw[dQ]at C;exact(Qab.mp C).1);have AQ:k0.length≤4:=by have:=Qae (fun x:Str=>!decide (x.cps.toList<g.cps.toList)) ts;rw[← dQ]at this;lia
 have sD:=Zh hD (.lst (k0.map V.str));have we:(upd H7 D (.lst (k0.map V.str))) D=some (.lst (k0.map V.str)):=Zd;have wf:=AN.trans (But.same sD);have L8:=L7.same sD;generalize upd H7 D (.lst (k0.map V.str))=H8 at sD we wf L8 ⊢;have rl:D≠p:=by obtain⟨u,hu⟩:=L7.here;exact(Zb hu hD).symm
 refine⟨fun F dB=>∃ (L:Addr) (kk:List Str),F=[some (.ref p),some (.ref o),some (.ref l),some (.ref I),some (.int wy),some (.int e.1),some (.str g),some (.ref L),none]∧dB L=some (.lst (kk.map V.str))∧sortedS kk=true∧kk.length≤5∧(∀x∈kk,x.length≤1100∧AZ x)∧But p H dB∧Y7 dB p (c6+1),?_,?_⟩
 ·refine⟨_,rfl,p,c6,_,rfl,L8,by lia,by decide,by decide,fun j H9 j0 j2 L9 B9=>⟨rfl,_,rfl,?_⟩⟩;have gg:=B9 _ _ we rl;have wg:=wf.trans B9;refine YW (fun dj=>?_) (fun dj=>⟨D,k0,rfl,gg,AO,by lia,fun x C=>⟨by have:=(pq x C).1;lia,(pq x C).2⟩,wg,L9⟩);refine⟨_,rfl,_,_,rfl,rfl,(by show g.length+1≤sizeLine;exact Qv (show _≤2000 by lia) #[6]),(by show 1≤sizeLine;decide),fun x1 lF=>?_⟩;have s1:=Zh lF (.lst (([g ++ "a"]:List Str).map V.str));have wj:(upd H9 x1 (.lst (([g ++ "a"]:List Str).map V.str))) x1=some (.lst (([g ++ "a"]:List Str).map V.str)):=Zd;refine⟨_,rfl,D,rfl,⟨_,SqL.of (s1 _ _ gg)⟩,fun D2 bn=>?_⟩;refine Od (K:=K) (a:=D) (ss:=k0) (fun _=>true) (fun x=>g++x) (fun F=>∃v:Option V,F=[some (.ref p),some (.ref o),some (.ref l),some (.ref I),some (.int wy),some (.int e.1),some (.str g),some (.ref D),none,v]) bn (SqL.of (s1 _ _ gg)) #[2] ⟨_,rfl⟩ ?_ ?_
  ·rintro x C F Hx N M ⟨v,rfl⟩ hN hM;have:=(pq x C).1;exact⟨_,rfl,_,rfl,_,_,rfl,rfl,Qv (show _≤2000 by lia) #[6],hN _ ⟨_,rfl⟩ rfl⟩
  rintro cI ⟨v5,rfl⟩;rw[show k0.filter (fun _=>true)=k0 from List.filter_eq_self.mpr fun _ _=>rfl];have s2:=s1.trans (Zh bn (.lst ((k0.map fun x=>g++x).map V.str)));refine⟨D2,_,rfl,SqL.of Zd,(by rw[Qa];lia),fun sl eA gP iI AR=>?_⟩;have pj:=s2.trans (Zh gP (.lst (eA.map V.str)));refine⟨x1,sl,_,_,rfl,rfl,Zh gP _ _ _ (Zh bn _ _ _ wj),Zd,(by rw[Qa,Qa,iI.length_eq,Qa];exact Yh (by show 1+k0.length≤_;lia)),fun ct AS=>?_⟩;rw[← Qe];refine⟨_,rfl,ct,_,rfl,SqL.of Zd,(by rw[Qj,iI.length_eq,Qa];show 1+k0.length<64;lia),fun L kk jm nJ sK=>?_⟩;have wk:=(pj.trans (Zh AS (.lst ((([g ++ "a"]:List Str)++eA).map V.str)))).trans (Zh jm (.lst (kk.map V.str)));have kP:upd (upd (upd (upd (upd H9 x1 (.lst (([g ++ "a"]:List Str).map V.str))) D2 (.lst ((k0.map fun x=>g++x).map V.str))) sl (.lst (eA.map V.str))) ct (.lst ((([g ++ "a"]:List Str)++eA).map V.str))) L (.lst (kk.map V.str)) L=some (.lst (kk.map V.str)):=Zd;have wl:kk.length≤5:=by rw[nJ.length_eq,Qj,iI.length_eq,Qa];show 1+k0.length≤5;lia
  have pz:∀x∈kk,x.length≤1100∧AZ x:=fun x C=>by
   rcases Qm.mp (nJ.mem_iff.mp C) with h|h
   ·rw[Qn.mp h,QaO];exact⟨by show g.length+1≤1100;lia,qh.2.app Zr1⟩
   ·obtain⟨y,W,rfl⟩:=Qi.mp (iI.mem_iff.mp h);have:=pq y W;rw[QaO];exact⟨by lia,qh.2.app this.2⟩
  have pA:=sK;exact⟨L,kk,rfl,kP,pA,wl,pz,wg.trans (But.same wk),L9.same wk⟩
 rintro F dB ⟨L,kk,rfl,kP,pA,wl,pz,pB,lH⟩;clear cZ AQ;have nK:=nG pB;refine⟨_,rfl,o,_,rfl,ZR.k' (k:=.inr "rows") nK.at' (Xu ..),_,rfl,ra,_,rfl,ZR.k' (k:=.inl e.1) nK.rows kg,e.2.1,_,rfl,.inl (SqL.of (nK.lst e O).1),_,_,rfl,rfl,.inr ⟨_,rfl,_,_,rfl,rfl,.inl ⟨by decide,by decide⟩,?_⟩⟩;refine⟨_,rfl,_,rfl,L,rfl,⟨_,SqL.of kP⟩,fun D3 gM=>?_⟩;refine Od (K:=K) (a:=L) (ss:=kk) (fun x=>!decide ((Txt.slice x none (some ((40:Nat):Int))).cps.toList<g.cps.toList)) (fun x=>Txt.slice x none (some ((40:Nat):Int))) (fun F=>∃v8 v:Option V,F=[some (.ref p),some (.ref o),some (.ref l),some (.ref I),some (.int wy),some (.int e.1),some (.str g),some (.ref L),v8,v]) gM (SqL.of kP) #[2] ⟨_,_,rfl⟩ ?_ ?_
 ·rintro x C F Hx N M ⟨v8,v,rfl⟩ hN hM;have lF:=(pz x C).1;exact⟨_,rfl,_,rfl,x,rfl,Qv lF #[6],_,rfl,_,g,rfl,rfl,_,rfl,YW (fun d=>⟨_,rfl,_,rfl,x,rfl,Qv lF #[6],hN _ ⟨_,_,rfl⟩ d⟩) (fun d=>hM _ ⟨_,_,rfl⟩ (Q9.mpr d))⟩
 rintro cI ⟨v8,v5,rfl⟩;have iY:=(Zh gM (.lst ((((kk.filter fun x=>!decide ((Txt.slice x none (some ((40:Nat):Int))).cps.toList<g.cps.toList)).map fun x=>Txt.slice x none (some ((40:Nat):Int)))).map V.str)));refine⟨_,rfl,_,rfl,D3,_,rfl,SqL.of Zd,fun r' iA=>?_⟩;obtain⟨mm,oQ,mQ⟩:∃m:Nat,m≤6∧(6:Int)*(if decide (((e.2.2.1.map V.str).length:Int)<50)=true then 1 else 0)=(m:Int)∧(e.2.2.1.length<50∨m=0):=by
  by_cases sL:((e.2.2.1.map V.str).length:Int)<50
  ·rw[if_pos (decide_eq_true sL)];rw[Qa]at sL;exact⟨6,Qh _,rfl,.inl #[2]⟩
  ·rw[if_neg (by rw[decide_eq_false sL];exact Ql)];exact⟨0,by decide,rfl,.inr rfl⟩
 rw[mQ.1,Zl9,← Qa5];obtain⟨k9,nL⟩:∃z,z=(((kk.filter fun x=>!decide ((Txt.slice x none (some ((40:Nat):Int))).cps.toList<g.cps.toList)).map fun x=>Txt.slice x none (some ((40:Nat):Int)))).take mm:=⟨_,rfl⟩;rw[← nL];have wm:∀y∈k9,∃x∈kk,y=Txt.slice x none (some ((40:Nat):Int))∧LeS g y:=fun y W=>by rw[nL]at W;obtain⟨x,C,rfl⟩:=Qi.mp (QS W);obtain⟨lF,wo⟩:=Qab.mp C;exact⟨x,lF,rfl,fun z=>by rw[decide_eq_true z]at wo;cases wo⟩
 have AT:sortedS k9=true:=by rw[T4]at pA ⊢;rw[nL];refine List.Pairwise.sublist (List.take_sublist ..) ?_;exact QaV _ (fun a b h=>h.cut 40) (pA.sublist Qaj)
 refine⟨(by show 3≤sizeLine;decide),fun t R=>?_⟩;have gK:=iY.trans (Zh iA (.lst (k9.map V.str)));have wq:=gK.trans (Zh R (.tup [.str "grow",.int e.1,.ref r']));have AU:=pB.trans (But.same wq);refine q t r' .grow e.1 k9 (c6+1) _ (hU (pB.trans (But.same gK)) (.inr ⟨_,lH.same gK⟩) R) (hU (pB.trans (But.same iY)) (.inr ⟨_,lH.same iY⟩) iA) Zd (Zh R _ _ _ Zd) ?_ (fun y W=>?_) ⟨_,Qd (f:=fun e:ZA=>(e.1,e.2.2)) O,rfl,ZkJ (qe e O).2 AT fun y W=>?_,?_⟩ (lH.same wq) #[2] #[2] AU
 ·rw[nL,QA];lia
 ·obtain⟨x,C,rfl,_⟩:=wm y W;refine⟨?_,fun c' jz=>?_⟩
  ·have:=congrArg List.length (Tl x 40);rw[QA]at this;show (Txt.slice x none (some ((40:Nat):Int))).cps.size≤40;rw[← Qaa,this];lia
  ·have h1:c'∈x.cps.toList.take 40:=by rw[← Tl];exact jz
   exact(pz x C).2 c' (QS h1)
 ·obtain⟨x,C,rfl,h⟩:=wm y W;rw[← sJ];exact h
 ·rcases mQ.2 with h|h
  ·exact .inl h
  ·exact .inr (by rw[nL,h];rfl)
def V3(P:List Y5)(nb:Int):Prop:=P.length≤12∧∀x∈P,x.1<nb∧x.2.1.length≤60
theorem Zn0{P:List Y5}{nb n:Int}{ks:List Str}{d:Xe}(h:V3 P nb)(hd:Si P nb n ks d)(hk:ks.length≤6):J1 P nb n ks d:=by
 cases d with
 | add=>obtain⟨rfl,c,a,_⟩:=hd;refine⟨rfl,fun x b=>(h.2 x b).1,?_,a,by lia⟩;have:=h.1;lia
 | drop=>exact hd
 | grow =>
  obtain⟨x,b,rfl,c,a⟩:=hd;refine⟨x,b,rfl,c,?_⟩;have:=(h.2 x b).2;rw[Qj];rcases a with a|rfl
  ·lia
  ·show x.2.1.length+0≤100;lia
theorem ZnP{P:List Y5}{nb n:Int}{ks:List Str}{d:Xe}(nd:(Y3 P).Nodup)(h:V3 P nb)(hd:Si P nb n ks d)(hk:ks.length≤6):V3 (Og P n ks d) (d.nb nb):=by
 cases d with
 | add =>
  obtain⟨rfl,a,b,_⟩:=hd;refine⟨?_,fun x hx=>?_⟩
  ·show (P++[(n,ks,0)]).length≤12;rw[Qj,QD];rcases a with a|rfl
   ·lia
   ·decide
  ·show x.1<n+1∧_;rcases Qm.mp hx with hx|hx
   ·have:=h.2 x hx;exact⟨by lia,this.2⟩
   ·rw[Qn.mp hx];exact⟨by show n<n+1;lia,by show ks.length≤60;lia⟩
 | drop=>exact⟨Qv (Qae ..) h.1,fun x hx=>h.2 x (Qab.mp hx).1⟩
 | grow =>
  obtain⟨y,g,rfl,a,b⟩:=hd;refine⟨by show (List.map _ P).length≤12;rw[Qa];exact h.1,fun x hx=>?_⟩;obtain⟨z,f,rfl⟩:=Qi.mp hx;have c:=h.2 z f;by_cases e:z.1=y.1
  ·have i:z=y:=Ws nd f g e;subst i;rw[if_pos rfl];refine⟨c.1,?_⟩;show (z.2.1++ks).length≤60;rw[Qj];rcases b with b|rfl
   ·lia
   ·exact c.2
  ·rw[if_neg e];exact c
theorem ZmD{P:List Y5}{nb:Int}(h:V3 P nb)(n:Int):V3 (YB P n) nb:=by
 refine⟨by unfold YB;rw[Qa];exact h.1,fun x a=>?_⟩;obtain⟨y,b,rfl⟩:=Qi.mp a;have:=h.2 y b;unfold Xn;split
 ·exact this
 ·exact this
structure Wk (cR cM:Addr) (HB:Hp) (p:Addr) (H:Hp) (X:MS) (Y:OS):Prop where
 pr:X7 cR cM H X Y
 nga:Y.ga≠Y.ra
 nb:X.nb=Y.nb
 inv:V3 (ZO X.L) X.nb
 fM:∀b,MFp X b→HB b=none
 fO:∀b,Y9 Y b→HB b=none
 but:But p HB H
section
variable {cR cM:Addr} {HB:Hp} {p:Addr} {H H':Hp} {X X':MS} {Y Y':OS}
theorem Wk.to(W:Wk cR cM HB p H X Y)(hp:∃u,H p=some u)(f:X7 cR cM H' X' Y')(g:Y'.ga≠Y'.ra)(nb':X'.nb=Y'.nb)(h:V3 (ZO X'.L) X'.nb)(fM:∀b,MFp X' b→MFp X b∨H b=none)(fO:∀b,Y9 Y' b→Y9 Y b∨H b=none)(k:∀b u,H b=some u→¬ MFp X b→¬ Y9 Y b→H' b=some u):Wk cR cM HB p H' X' Y':=by
 have d:∀b,H b=none→HB b=none:=fun b a=>by
  cases e:HB b with
  | none=>rfl
  | some u =>
   by_cases z:b=p
   ·obtain⟨u',c⟩:=hp;rw[z,c]at a;cases a
   ·rw[W.but b u e z]at a;cases a
 refine⟨f,g,nb',h,fun b a=>(fM b a).elim (W.fM b) (d b),fun b a=>(fO b a).elim (W.fO b) (d b),fun b u a n=>k b u (W.but b u a n) (fun z=>?_) (fun z=>?_)⟩
 ·rw[W.fM b z]at a;cases a
 ·rw[W.fO b z]at a;cases a
theorem Wk.same(W:Wk cR cM HB p H X Y)(s:ZG H H'):Wk cR cM HB p H' X Y:=⟨W.pr.same s,W.nga,W.nb,W.inv,W.fM,W.fO,W.but.trans (But.same s)⟩
theorem Wk.np(W:Wk cR cM HB p H X Y)(b:∃u,HB p=some u):¬ MFp X p∧¬ Y9 Y p:=by obtain⟨u,a⟩:=b;exact⟨fun z=>(by rw[W.fM p z]at a;cases a),fun z=>(by rw[W.fO p z]at a;cases a)⟩
theorem Wk.draw(W:Wk cR cM HB p H X Y)(a:∃u,HB p=some u){c:Int}(L:Y7 H p c)(B:But p H H'):Wk cR cM HB p H' X Y:=⟨W.pr.but L (W.np a).1 (W.np a).2 B,W.nga,W.nb,W.inv,W.fM,W.fO,W.but.trans B⟩
theorem Wk.left(W:Wk cR cM HB p H X Y)(a:∃u,HB p=some u){c:Int}(L:Y7 H p c)(k:∀b u,H b=some u→¬ MFp X b→¬ Y9 Y b→H' b=some u):Y7 H' p c:=by obtain⟨d,e,f,c0⟩:=L;exact⟨d,e,k _ _ f (W.np a).1 (W.np a).2,c0⟩
end
theorem Zqw{A B:Addr}{c g k h:Hp}{p r o ra ga m rd sd:Addr}{a:List (Addr×List Str)}{Lo:List ZA}{L:List Zv}{st:StL}{l:Option Int}{k0 n k2 C:Int}
  (kQ:Wu c r a) (H:∀x∈a,x.2.length≤60) (I:a.length≤12) (J:c o=none) (K:c ra=none) (M:c ga=none) (nga:ga≠ra) (N:∀e∈Lo,c e.2.1=none∧e.2.1≠o)
  (O:SD Lo a) (ow:Own g o ra ga Lo (a.length:Int) k0 n) (P:YU (hdL Lo) 8 (Lo.map (·.1)) k0 n) (q:ZG c g) (hm:g m=none) (s:ZG g k) (t:ZS A B h m rd sd L st (a.length:Int) k2 C (YX l)) (i:T9 L a) (Q:Win (hdM L) (Zu L) l) (R:XX (hdM L) st 8 (Zu L)) (S:YU (hdM L) 8 (Zu L) k2 C)
  (D:∀b,Fp m rd sd L b→b=m∨k b=none) (k8:∀b u,k b=some u→b≠m→h b=some u):∃ (X:MS) (Y:OS),Wk A B c p h X Y∧X.m=m∧Y.o=o∧X.nb=(a.length:Int):=by
 have E:ZG g h:=fun b o d=>k8 b o (s b o d) (Zb d hm);have T:ZG c h:=q.trans E;have v:Agr Lo L:=ZoC O i rfl;obtain⟨U,V⟩:=P.one (by rw[Vy v,Xt v];exact S);subst U;subst V;have W:=Vx 8 (hdM L) st (Zu L) t.up (Qv (show (Zu L).length≤60 by unfold Zu;rw[Qa];exact t.few) #[6]) #[6] R;have eP:=Kc i;have Z:L.length=a.length:=by have:=congrArg List.length i.1;unfold Zu at this;rw[Qa,UI]at this;exact this
 refine⟨⟨m,rd,sd,L,st,(a.length:Int),k0,n,l⟩,⟨o,ra,ga,Lo,(a.length:Int)⟩,⟨⟨⟨t,Q,W⟩,ow.same E,v,fun b d fj=>?_⟩,nga,rfl,⟨?_,fun x hx=>?_⟩,fun b d=>?_,fun b d=>?_,But.same T⟩,rfl,rfl,rfl⟩
 ·obtain⟨u,w,_⟩:=ow.live fj;rcases D b d with z|z
  ·rw[z,hm]at w;cases w
  ·rw[s _ _ w]at z;cases z
 ·show (ZO L).length≤12;unfold ZO;rw[Qa,Z];exact I
 ·obtain⟨e,F,rfl⟩:=Qi.mp hx;refine⟨?_,?_⟩
  ·have G:e.n∈Yg 0 a.length:=by rw[← i.1];exact Qd (f:=fun e:Zv=>e.n) F
   unfold Yg at G;obtain⟨j,hj,ej⟩:=Qi.mp G;have:=Q1.mp hj;show e.n<(a.length:Int);lia
  ·have h2:(e.ss,e.g)∈a.map fun x=>(x.2,0):=by rw[← i.2];exact Qd (f:=fun e:Zv=>(e.ss,e.g)) F
   obtain⟨y,hy,z⟩:=Qi.mp h2;injection z with z _;show e.ss.length≤60;rw[← z];exact H y hy
 ·rcases D b d with z|z
  ·rw[z];exact q.free hm
  ·exact q.free (s.free z)
 ·rcases d with z|z|z|⟨e',aD,z⟩
  ·rw[z];exact J
  ·rw[z];exact K
  ·rw[z];exact M
  ·rw[z];exact(N e' aD).1
theorem Wk.take2{h i:Addr}{l:Hp}{p:Addr}{H:Hp}{X:MS}{Y:OS}{f c:Hp}(W:Wk h i l p H X Y)(hp:∃u,H p=some u){x y:V}{a:List Zv}{s':StL}{m:Option Int}{k q k' r:Int}{s:List ZA}(A:V4 X.L X.w x a k q f)
  (M1:ZS h i f X.m X.rd X.sd a s' X.nb (X.li+k) (X.lo+q) (YX m)) (B:Win (hdM a) (Zu a) m) (C:ZX (hdM a) s' (Zu a)) (k1:∀b o,H b=some o→¬ MFp X b→f b=some o)
  (D:Oo Y.Lo y s k' r c) (E:Own c Y.o Y.ra Y.ga s Y.nb (X.li+k') (X.lo+r)) (k2:∀b u,f b=some u→b≠Y.o→b≠Y.ga→c b=some u) :
  ∃ (g:MS) (j:OS),Wk h i l p c g j∧g.m=X.m∧j.o=Y.o∧g.nb=X.nb∧IsD c 4 x y∧(∀b,MFp g b→MFp X b)∧(∀b,Y9 j b→Y9 Y b)∧(∀b u,H b=some u→¬ MFp X b→¬ Y9 Y b→c b=some u):=by
 obtain⟨ek,eq,F,G,t,v,I⟩:=ZlZ W.pr A M1 B C k1 D E k2 2;have kk:∀b u,H b=some u→¬ MFp X b→¬ Y9 Y b→c b=some u:=fun b u d n w=>k2 b u (k1 b u d n) (fun z=>w (.inl z)) (fun z=>w (.inr (.inr (.inl z))));refine⟨_,_,W.to hp F W.nga W.nb ?_ (fun b d=>.inl ((t b).mp d)) (fun b d=>.inl (v b d)) kk,rfl,rfl,rfl,G,fun b d=>(t b).mp d,v,kk⟩;rcases I with⟨_,e,_⟩|⟨u,z,_,J⟩
 ·rw[show a=X.L from e];exact W.inv
 ·show V3 (ZO a) X.nb;rw[J];exact ZmD W.inv _
theorem Zka(rd:Addr)(nb li lo:Int)(sd:Addr)(a:V):(mgF rd nb li lo sd a).lookup ("twin" : Str)=none:=X5 _ _ _ _ _ _ #[1] #[1] #[1] #[1] #[1] #[1]
theorem Zha(k f:Addr)(g:Int):(YV k f g).lookup ("copied" : Str)=none:=U1 _ _ _ #[1] #[1] #[1]
def JT(C:Addr):Sp:=fun vs H Q _=>∃ (p k f:Addr) (ss:List Str) (g:Nat),vs=[.ref p]∧Ww C H p k f ss g∧ss.length≤100∧(∀s∈ss,s.length≤1000) ∧
 ∀ (u k' b:Addr) (a:Hp),H u=none→H k'=none→H b=none→Ww C a u k' b ss g→ZG H a→Q (.ref u) a
theorem Zl7(T:Zt K mg ab U)(y:Cf P w K mg base 4 ab "Row" ["self", "keys"] (SV ab)):Mf P w K mg base 6 ab "copied" ["self"] (JT ab):=by
 refine T.t_Row_copied.mf Md (fun B H Q E h=>?_) (fun af f A outer s H B Q E C h=>?_)
 ·obtain⟨p,k,f,m,g,rfl,_⟩:=h;rfl
 obtain⟨p,k,f0,m,g,rfl,R,D,F,q⟩:=h;refine⟨_,#[Ze,#[Zw,1,Md.nd,#[3],#[Wh,y,C,#[Za,#[ZM,‹0›],#[Zf]]]],#[Ze,#[Yx,‹1›,#[ZM,‹0›]],#[Zj,#[Zr,‹1›]]]],?_⟩;obtain⟨n,r⟩:=R.ob;refine⟨_,rfl,p,ab,n,_,_,rfl,r,T.cl_Row,T.na_Row_all_keys,V8 _ _ _,fun u c e G u6=>?_⟩;have d:ZG H (upd (upd H c (.own u)) u (.ins ab c [])):=fun b o a=>by rw[Zc (Zb a e),Zc (Zb a G)];exact a
 have i:(upd (upd H c (.own u)) u (.ins ab c [])) u=some (.ins ab c []):=Zd;generalize upd (upd H c (.own u)) u (.ins ab c [])=H1 at d i ⊢;refine⟨u,c,k,m,rfl,i,d _ _ R.ks,D,F,fun k' t I j l oH R2 k2=>⟨rfl,?_⟩⟩;obtain⟨v,J⟩:=R2.ob;have x:ZG H I:=fun b o a=>k2 b o (d b o a) (Zb a e);refine⟨_,rfl,p,ab,n,_,_,rfl,x _ _ r,T.cl_Row,T.na_Row_gone,U2 _ _ _,_,rfl,u,ab,v,_,rfl,J,T.cl_Row,T.na_Row_gone,So ..,?_⟩;rw[Kn];have L:k'≠u:=fun z=>by rw[z,i]at j;cases j
 have M:t≠u:=fun z=>by rw[z,i]at l;cases l
 exact⟨_,rfl,q u k' t _ e (d.free j) (d.free l) ⟨⟨v,Zd⟩,by rw[Zc L];exact R2.ks,by rw[Zc M];exact R2.fs⟩ fun b o a=>by rw[Zc (Zb a e)];exact x b o a⟩
def JS(e f:Addr):Sp:=fun vs H Q _=>∃ (m rd sd:Addr) (L:List Zv) (s:StL) (nb li lo:Int) (g:V),vs=[.ref m]∧ZS e f H m rd sd L s nb li lo g∧nb≤35 ∧
 ∀ (a h i:Addr) (c:List Zv) (d:Hp),ZS e f d a h i c s nb li lo g→ZO c=ZO L→(∀b,Fp a h i c b→H b=none)→ZG H d→Q (.ref a) d
theorem ZoN(T:Zt K mg ab U)(aO:Cf P w K mg base 14 U "Merge" ["self", "rows"] (OK ab U))(cy:Mf P w K mg base 6 ab "copied" ["self"] (JT ab)):Mf P w K mg base 16 U "twin" ["self"] (JS ab U):=by
 refine T.t_Merge_twin.mf Mc (fun vs H Q E h=>?_) (fun af f A outer s H vs Q E hr h=>?_)
 ·obtain⟨m,F,sd,L,s,nb,I,lo,ae,rfl,_⟩:=h;rfl
 obtain⟨m,F,sd,L,s,nb,I,l,ae,rfl,M,wv,q⟩:=h;refine⟨_,#[Ze,#[Zw,1,Mc.nd,#[3],#[Wh,aO,hr,#[Za,#[YH,#[Zf]],#[Zf]]]],#[Ze,#[Yx,‹1›,(@MT _ _ _ (@ZmI _ _ _ _ _ _ _ _ _ _ _ _ _ _ _ _ Uj rfl rfl rfl (@Zns _ _ _ _ _ _ _ _ #[ZM,‹0›] #[5] #[5]) (fun _ _ _ _=>#[gT,K,2,#[ZC,#[cg,2,Uj],#[ZC,#[cg,3,Uj],(@X6 _)]]]) (fun _ _ _ _=>(@Wl _)) (fun _ _ _ _=>#[cw,2,Uj]) (fun _ _ _ _=>#[YQ,cy,T.cl_Row,hr,#[cw,3,Uj]]) (by intro _;rfl)))],#[Ze,#[Yx,‹1›,#[ZM,‹0›]],#[Ze,#[Yx,‹1›,#[ZM,‹0›]],#[Ze,#[Yx,‹1›,#[ZM,‹0›]],#[Ze,#[Yx,‹1›,#[Xq,ZkF,T.b.n_dict,boot_dict,#[Za,#[ZM,‹0›],#[Zf]]]],#[Ze,#[Yx,‹1›,#[ZM,‹0›]],#[Zj,#[Zr,‹1›]]]]]]]]],?_⟩;obtain⟨dx,hm⟩:=M.ob;have bW:=M.few;refine⟨by decide,fun r hr g dy bY fI Jq=>?_⟩;have sr:=Zh hr (.lst []);have ce:(upd H r (.lst [])) r=some (.lst []):=Zd;generalize upd H r (.lst [])=Hr at sr ce bY fI ⊢;have s1:ZG Hr (upd (upd Hr dy (.own g)) g (.ins U dy [])):=fun b o c=>by rw[Zc (Zb c bY),Zc (Zb c fI)];exact c
 have cb:(upd (upd Hr dy (.own g)) g (.ins U dy [])) g=some (.ins U dy []):=Zd;generalize upd (upd Hr dy (.own g)) g (.ins U dy [])=H1 at s1 cb ⊢;refine⟨g,dy,r,[],rfl,cb,⟨s1 _ _ ce,by decide,(fun x hx=>by cases hx)⟩,(fun x hx=>by cases hx),fun Jr J L0 mJ G k0 q0 O M2 _ _ _ _ lJ k2=>⟨rfl,?_⟩⟩;have pD:H g=none:=sr.free bY;have s2:ZG H O:=fun b o c=>k2 b o (s1 b o (sr b o c)) (Zb c pD);obtain⟨j,bO⟩:=M2.ob;clear lJ k2 M2;have N:=M.same s2;refine⟨F,_,N.rows,True.intro,_,rfl,m,U,dx,_,_,rfl,s2 _ _ hm,T.cl_Merge,T.na_Merge_rows,XF ..,F,_,rfl,N.rows,fun ob B hB=>?_⟩;have bH:(upd O F (.frz ob (.dK (kvM L)))) F=some (.frz ob (.dK (kvM L))):=Zd;have k1:∀b x,O b=some x→b≠F→(upd O F (.frz ob (.dK (kvM L)))) b=some x:=fun b x h n=>by rw[Zc n];exact h
 have lK:∀b,(upd O F (.frz ob (.dK (kvM L)))) b=none→O b=none:=fun b c=>by
  cases e:O b with
  | none=>rfl
  | some o =>
   by_cases z:b=F
   ·rw[z,show (upd O F (.frz ob (.dK (kvM L)))) F=some (.frz ob (.dK (kvM L))) from Zd]at c;cases c
   ·rw[k1 b o e z]at c;cases c
 generalize upd O F (.frz ob (.dK (kvM L)))=H3 at bH k1 hB lK ⊢;refine Zph (d:=F) (o:=ob) (kvs:=kvM L) (fun i zs σ X=>(∃v1 v2:Option V,σ=[some (.ref m),some (.ref g),v1,v2])∧(∃C:List Zv,ZO C=ZO (L.take i)∧zs=kvM C∧(C.map (·.p)).Nodup∧∀e∈C,XV ab X e∧(H3 e.p=none∧H3 e.k=none∧H3 e.f=none)∧e.p≠B∧e.k≠B∧e.f≠B)∧i≤L.length∧X B=some (.dK zs)∧ZG H3 X) ?_ (fun _ _ _ _ h=>h.2.2.2.2 _ _ bH) ?_ ?_
 ·exact⟨⟨none,none,rfl⟩,⟨[],rfl,rfl,List.nodup_nil,(fun t h=>by cases h)⟩,Qx _,Zd,Zh hB _⟩
 ·rintro i k x zs σ X p fK ⟨⟨v1,v2,rfl⟩,⟨C,cX,rfl,sQ,dA⟩,hi,dO,s4⟩ A1;unfold kvM at fK;rw[Qo]at fK;cases hu:L[i]? with
  | none=>rw[hu]at fK;cases fK
  | some e =>
  rw[hu]at fK;cases fK;have bv:i<L.length:=(Qf.mp hu).1;have S:=Qz hu;have R:=N.each e S;obtain⟨_,_,_,n1,n2,n3⟩:=N.ne_sd S;have W:=Zh A1 (.tup [kV (.inl e.n),.ref e.p]);have pf:(upd X p (.tup [kV (.inl e.n),.ref e.p])) p=some (.tup [.int e.n,.ref e.p]):=Zd;generalize upd X p (.tup [kV (.inl e.n),.ref e.p])=H5 at W pf ⊢;have R5:XV ab H5 e:=R.mono fun b o c aZ=>W _ _ (s4 _ _ (k1 b o c (by rcases aZ with z|z|z<;>rw[z];exact n1.symm;exact n2.symm;exact n3.symm)));obtain⟨dp,hp⟩:=R5.at'.ob;refine⟨p,_,rfl,SqT.of pf,rfl,_,_,rfl,_,_,rfl,rfl,_,rfl,_,rfl,e.p,dp,_,rfl,hp,Zha ..,e.p,e.k,e.f,e.ss,e.g,rfl,R5.at',R5.len,fun s hs=>(R5.str s hs).1,fun u k' f' H6 sR iH ww R6 s6=>?_⟩;have ju:=W _ _ dO;have pE:=s4.trans W;have up:=N.up;unfold Zu at up;have eL:L=L.take i++e::L.drop (i+1):=by have h:=(List.take_append_drop i L).symm;rw[List.drop_eq_getElem_cons bv,(Qf.mp hu).2]at h;exact h
  have eN:Zu C=Zu (L.take i):=by rw[Xg,Xg,cX]
  have aV:∀y∈C,y.n≠e.n:=fun y hy z=>by
   have h1:y.n∈Zu (L.take i):=by rw[← eN];exact Qd (f:=fun e:Zv=>e.n) hy
   unfold Zu at h1;rw[eL,Qe]at up;have:=(Qag.mp up).2.2 _ h1 e.n #[4];lia
  have fE:Z5 (kvM C) (.inl e.n)=none:=by
   cases hv:Z5 (kvM C) (.inl e.n) with
   | none=>rfl
   | some v=>obtain⟨y,hy,z⟩:=Qi.mp (Wg hv);injection z with z _;exact absurd (Sum.inl.inj z) (aV y hy)
  have fD:C.length=i:=by have h:=congrArg List.length eN;unfold Zu at h;rw[Qa,Qa,QA]at h;lia
  have nu:u≠B∧k'≠B∧f'≠B:=⟨(Zb ju sR).symm,(Zb ju iH).symm,(Zb ju ww).symm⟩;refine⟨.inl e.n,rfl,s6 _ _ ju,by unfold kvM;rw[Qa];exact ZE #[2],?_⟩;rw[Wz _ fE,show kvM C++[((.inl e.n:Key),V.ref u)]=kvM (C++[⟨e.n,u,k',f',e.ss,e.g⟩]) by unfold kvM;rw[Qe];rfl];refine⟨⟨_,_,rfl⟩,⟨C++[⟨e.n,u,k',f',e.ss,e.g⟩],?_,rfl,?_,fun y hy=>?_⟩,bv,Zd,fun b o c=>by rw[Zc (Zb c hB)];exact s6 _ _ (pE _ _ c)⟩
  ·unfold ZO at cX ⊢;rw[Qe,cX,QJ,hu,Qe];rfl
  ·rw[Qe];refine Qaz.mpr ⟨sQ,by simp,fun a ha b c=>?_⟩;obtain⟨y,hy,rfl⟩:=Qi.mp ha;have aP:b=u:=by simpa using c
   rw[aP];obtain⟨de,bJ⟩:=(dA y hy).1.at'.ob;exact Zb (W _ _ bJ) sR
  ·rcases Qm.mp hy with hy|hy
   ·obtain⟨g1,g2,Y,Z,g5⟩:=dA y hy;exact⟨g1.mono fun b o c aZ=>by rw[Zc (by rcases aZ with z|z|z<;>rw[z];exact Y;exact Z;exact g5)];exact s6 _ _ (W _ _ c),g2,Y,Z,g5⟩
   ·rw[Qn.mp hy];exact⟨XV.keep (H:=H6) ⟨R6,R5.le,R5.len,R5.srt,R5.str⟩ (Zc nu.1) (Zc nu.2.1) (Zc nu.2.2),⟨pE.free sR,pE.free iH,pE.free ww⟩,nu⟩
 rintro zs σ X ⟨⟨v1,v2,rfl⟩,⟨C,cX,rfl,sQ,dA⟩,_,dO,s4⟩;have jm:(kvM L).length=L.length:=by unfold kvM;rw[Qa]
 rw[jm,Qw (Qh _)]at cX;refine⟨ob,s4 _ _ bH,?_⟩;have A8:B≠F:=(Zb bH hB).symm;have ju:(upd X F (.dK (kvM L))) B=some (.dK (kvM C)):=by rw[Zc A8];exact dO
 have W:ZG O (upd X F (.dK (kvM L))):=fun b x c=>by
  by_cases e:b=F
  ·rw[e,N.rows]at c;rw[e,Zd];exact c
  ·rw[Zc e];exact s4 _ _ (k1 b x c e)
 have nT:∀e∈C,XV ab (upd X F (.dK (kvM L))) e∧O e.p=none∧O e.k=none∧O e.f=none:=fun e S=>by obtain⟨g1,⟨g2,Y,Z⟩,_⟩:=dA e S;exact⟨g1.keep (Zc (Zb bH g2).symm) (Zc (Zb bH Y).symm) (Zc (Zb bH Z).symm),lK _ g2,lK _ Y,lK _ Z⟩
 have qi:=lK _ hB;clear dA dO s4 k1 bH lK;generalize upd X F (.dK (kvM L))=H5 at ju W nT ⊢;have km:m≠g:=Zb hm pD;have dI:=W _ _ (s2 _ _ hm);refine⟨_,rfl,g,U,j,_,rfl,W _ _ bO,T.cl_Merge,T.na_Merge_rows,XD ..,?_⟩;rw[Ziu];refine⟨_,rfl,m,U,dx,_,_,rfl,by rw[Zc km];exact dI,T.cl_Merge,T.na_Merge_next_number,OP ..,_,rfl,g,U,j,_,rfl,Zd,T.cl_Merge,T.na_Merge_next_number,XD ..,?_⟩;rw[K3];refine⟨_,rfl,m,U,dx,_,_,rfl,by rw[Zc km,Zc km];exact dI,T.cl_Merge,T.na_Merge_likened,Sz ..,_,rfl,g,U,j,_,rfl,Zd,T.cl_Merge,T.na_Merge_likened,XD ..,?_⟩;rw[ON];refine⟨_,rfl,m,U,dx,_,_,rfl,by rw[Zc km,Zc km,Zc km];exact dI,T.cl_Merge,T.na_Merge_looked,OO ..,_,rfl,g,U,j,_,rfl,Zd,T.cl_Merge,T.na_Merge_looked,XD ..,?_⟩;rw[K2];have k8:∀b,b≠g→(upd (upd (upd (upd H5 g (.ins U j (mgF B ((([]:List (Addr×List Str)).length:Nat):Int) k0 q0 J (YX G)))) g (.ins U j (mgF B nb k0 q0 J (YX G)))) g (.ins U j (mgF B nb I q0 J (YX G)))) g (.ins U j (mgF B nb I l J (YX G)))) b=H5 b:=fun b n=>by rw[Zc n,Zc n,Zc n,Zc n]
 have gy:(upd (upd (upd (upd H5 g (.ins U j (mgF B ((([]:List (Addr×List Str)).length:Nat):Int) k0 q0 J (YX G)))) g (.ins U j (mgF B nb k0 q0 J (YX G)))) g (.ins U j (mgF B nb I q0 J (YX G)))) g (.ins U j (mgF B nb I l J (YX G)))) g=some (.ins U j (mgF B nb I l J (YX G))):=Zd;generalize (upd (upd (upd (upd H5 g (.ins U j (mgF B ((([]:List (Addr×List Str)).length:Nat):Int) k0 q0 J (YX G)))) g (.ins U j (mgF B nb k0 q0 J (YX G)))) g (.ins U j (mgF B nb I q0 J (YX G)))) g (.ins U j (mgF B nb I l J (YX G))))=H8 at k8 gy ⊢;have wx:∀ {b o},H b=some o→b≠g:=fun c=>Zb c pD;have s8:ZG H H8:=fun b o c=>by rw[k8 b (wx c)];exact W _ _ (s2 _ _ c)
 have qj:∀e∈C,XV ab H8 e∧H e.p=none∧H e.k=none∧H e.f=none:=fun e S=>by obtain⟨g1,g2,Y,Z⟩:=nT e S;exact⟨g1.keep (k8 _ (Zb bO g2).symm) (k8 _ (Zb bO Y).symm) (k8 _ (Zb bO Z).symm),s2.free g2,s2.free Y,s2.free Z⟩
 have wz:B≠g:=(Zb bO qi).symm;have A9:H8 B=some (.dK (kvM C)):=by rw[k8 B wz];exact ju
 have Ba:=s2.free qi;clear nT ju W dI k8 bO N s2;refine⟨_,rfl,m,U,dx,_,_,rfl,s8 _ _ hm,T.cl_Merge,T.na_Merge_stays,UU ..,sd,kvS s,rfl,s8 _ _ M.stays,fun P w x hx y hy e=>?_,fun D hD=>?_⟩
 ·unfold kvS at hx hy;rw[Qg]at hx hy;obtain⟨a,ha,rfl⟩:=Qi.mp hx;obtain⟨b,c,rfl⟩:=Qi.mp hy;obtain⟨a1,a2,a3⟩:=M.kb.1 a ha;obtain⟨b1,b2,b3⟩:=M.kb.1 b c;obtain⟨e1,e2⟩:=Zml (P:=P) (w:=w) ⟨a1,a2,by lia⟩ ⟨b1,b2,by lia⟩ e;show ([.inl a.1.1,.inl a.1.2]:List Key)=[.inl b.1.1,.inl b.1.2];rw[e1,e2]
 have s9:=Zh hD (.dT (kvS s));have gg:(upd H8 D (.dT (kvS s))) D=some (.dT (kvS s)):=Zd;have Bb:=s8.free hD;have Bc:D≠g:=(Zb gy hD).symm;generalize upd H8 D (.dT (kvS s))=H9 at s9 gg ⊢;refine⟨_,rfl,g,U,j,_,rfl,s9 _ _ gy,T.cl_Merge,T.na_Merge_stays,XD ..,?_⟩;rw[K1];refine⟨_,rfl,m,U,dx,_,_,rfl,by rw[Zc km];exact s9 _ _ (s8 _ _ hm),T.cl_Merge,T.na_Merge_best,Ud ..,_,rfl,g,U,j,_,rfl,Zd,T.cl_Merge,T.na_Merge_best,XD ..,?_⟩;rw[Uc];have kE:∀b o,H9 b=some o→b≠g→(upd (upd H9 g (.ins U j (mgF B nb I l D (YX G)))) g (.ins U j (mgF B nb I l D ae))) b=some o:=fun b o c n=>by rw[Zc n,Zc n];exact c
 have wA:(upd (upd H9 g (.ins U j (mgF B nb I l D (YX G)))) g (.ins U j (mgF B nb I l D ae))) g=some (.ins U j (mgF B nb I l D ae)):=Zd;generalize upd (upd H9 g (.ins U j (mgF B nb I l D (YX G)))) g (.ins U j (mgF B nb I l D ae))=HE at kE wA ⊢;have sE:ZG H HE:=fun b o c=>kE b o (s9 _ _ (s8 _ _ c)) (wx c);have eN:Zu C=Zu L:=by rw[Xg,Xg,cX]
 have fD:C.length=L.length:=by have h:=congrArg List.length cX;unfold ZO at h;rw[Qa,Qa]at h;exact h
 refine⟨_,rfl,q g B D C HE ⟨⟨j,wA⟩,kE _ _ (s9 _ _ A9) wz,kE _ _ gg Bc,fun e S t ht=>sE _ _ (M.ats e S t ht),fun e S=>?_,by rw[eN];exact M.up,sQ,by rw[fD];exact bW,M.sfew,⟨M.kb.1,by rw[eN];exact M.kb.2⟩⟩ cX (fun b c=>?_) sE⟩
 ·obtain⟨g1,g2,Y,Z⟩:=qj e S;obtain⟨de,bJ⟩:=g1.at'.ob;refine g1.mono fun b o c aZ=>kE b o (s9 _ _ c) fun z=>?_;rw[z,gy]at c;injection c with c;subst c;rcases aZ with z2|z2|z2
  ·rw[← z2,z,gy]at bJ;injection bJ with bJ;injection bJ with _ _ bJ;have a:=V8 e.k e.f (e.g:Int);rw[← bJ,X5 _ _ _ _ _ _ #[1] #[1] #[1] #[1] #[1] #[1]]at a;cases a
  ·have:=g1.at'.ks;rw[← z2,z,gy]at this;cases this
  ·have:=g1.at'.fs;rw[← z2,z,gy]at this;cases this
 ·rcases c with rfl|rfl|rfl|⟨e,S,c⟩
  ·exact pD
  ·exact Ba
  ·exact Bb
  ·obtain⟨_,g2,Y,Z⟩:=qj e S;rcases c with rfl|rfl|rfl
   ·exact g2
   ·exact Y
   ·exact Z
theorem ZmT(ss:List Str)(m:Nat)(h:m≤ss.length):XO (ss.map V.str) none (some (m:Int))=(ss.take m).map V.str∧XO (ss.map V.str) (some (m:Int)) none=(ss.drop m).map V.str:=by
 have e:∀d:Nat,HT.sIx (ss.map V.str).length d (some (m:Int))=m:=fun d=>by unfold HT.sIx;simp only[List.length_map];rw[if_neg #[2]];lia
 have a:∀d:Nat,HT.sIx (ss.map V.str).length d none=d:=fun d=>rfl;constructor
 ·unfold XO;rw[e,a,List.drop_zero,Nat.sub_zero,Qa5]
 ·unfold XO;rw[e,a,← List.map_drop,← Qa5,Qw (by rw[QO,Qa];lia)]
theorem JR{L:List Zv}(h:∀e∈L,e.g≤e.ss.length):(YC (L.map toL)).sum=((T6 (ZO L):Nat):Int):=by
 induction L with
 | nil=>rfl
 | cons e r a=>have i:=a fun x b=>h x (Qt _ b);have g:=h e #[4];unfold YC T6 ZO at i ⊢;rw[Qk,Qk,Qk,Qk,Qa4,Qa4,i,Int.natCast_add];congr 1;show (e.ss.length:Int)-(e.g:Int)=((e.ss.length-e.g:Nat):Int);lia
def V2(f:Int→Int)(c:List Int):Prop:=∀a∈c,∀b∈c,a<b→f a<f b
theorem V2.inj{f:Int→Int}{c:List Int}(m:V2 f c){a b:Int}(ha:a∈c)(hb:b∈c)(h:f a=f b):a=b:=by
 rcases Int.lt_trichotomy a b with h1|h1|h1
 ·have:=m a ha b hb h1;lia
 ·exact h1
 ·have:=m b hb a ha h1;lia
section
variable {f:Int→Int} {N0:List Int} {hd aG:Hd} (m:V2 f N0) (l:∀n∈N0,aG (f n)=hd n)
include m l
theorem Xd{N:List Int}{w:Option Int}(sub:∀n∈N,n∈N0)(h:Win hd N w):Win aG (N.map f) (w.map f):=by
 cases w with
 | none=>intro n k;obtain⟨d,i,rfl⟩:=Qi.mp k;rw[l d (sub d i)];exact h d i
 | some a =>
  obtain⟨e,x,o,p⟩:=h;refine⟨Qd e,x,by rw[l a (sub a e)];exact o,fun b q y j=>?_⟩;obtain⟨c,g,rfl⟩:=Qi.mp q;rw[l c (sub c g)]at j;rcases p c g y j with z|z|⟨z1,z2⟩
  ·exact .inl (by rw[z])
  ·exact .inr (.inl z)
  ·exact .inr (.inr ⟨z1,m a (sub a e) c (sub c g) z2⟩)
omit m l in
theorem T3(N:List Int):lo (N.map f)=(lo N).map f:=by unfold lo mid;rw[Qa,Qa5]
omit m l in
theorem T0(N:List Int):up (N.map f)=(up N).map f:=by unfold up mid;rw[Qa,List.map_drop]
omit m l in
theorem Wp{N:List Int}(sub:∀n∈N,n∈N0):∀n∈lo N,n∈N0:=fun n a=>sub n (QS a)
omit m l in
theorem TZ{N:List Int}(sub:∀n∈N,n∈N0):∀n∈up N,n∈N0:=fun n a=>sub n (QV a)
theorem TY:∀ {n:Nat} {N:List Int} {k q:Int},(∀n∈N,n∈N0)→YU hd n N k q→YU aG n (N.map f) k q
 | _,_,_,_,_,.few h=>.few (by rw[Qa];exact h)
 | _,_,_,_,sub,.none h a b g=>by refine .none (by rw[Qa];exact h) (by rw[T3];exact TY (Wp sub) a) (by rw[T0];exact TY (TZ sub) b) ?_;rw[T3,T0];exact g.imp (Xd m l (Wp sub)) (Xd m l (TZ sub))
 | _,_,_,_,sub,.both h a b e w2 hx hy=>by have c:=Wp sub;have d:=TZ sub;refine .both (by rw[Qa];exact h) (by rw[T3];exact TY c a) (by rw[T0];exact TY d b) (by rw[T3];exact Xd m l c e) (by rw[T0];exact Xd m l d w2) (by rw[l _ (c _ e.1)];exact hx) (by rw[l _ (d _ w2.1)];exact hy)
omit l in
theorem Sh{N:List Int}{n:Int}(sub:∀n∈N,n∈N0)(b:n∈N0):f n∈N.map f↔n∈N:=⟨fun h=>by obtain⟨c,a,d⟩:=Qi.mp h;rw[← m.inj (sub c a) b d];exact a,fun h=>Qd h⟩
omit l in
theorem Zn3{N:List Int}{n:Int}(sub:∀n∈N,n∈N0)(a:n∈N0):ZU (N.map f) (f n)=(ZU N n).map f∧Z3 (N.map f) (f n)=(Z3 N n).map f:=by
 unfold ZU Z3;rw[T3,T0];by_cases h:n∈lo N
 ·rw[if_pos ((Sh m (Wp sub) a).mpr h),if_pos h,if_pos ((Sh m (Wp sub) a).mpr h),if_pos h];exact⟨rfl,rfl⟩
 ·rw[if_neg (fun z=>h ((Sh m (Wp sub) a).mp z)),if_neg h,if_neg (fun z=>h ((Sh m (Wp sub) a).mp z)),if_neg h];exact⟨rfl,rfl⟩
omit m l in
theorem Oc{N:List Int}{n:Int}(sub:∀n∈N,n∈N0):(∀x∈ZU N n,x∈N0)∧∀x∈Z3 N n,x∈N0:=by
 unfold ZU Z3;by_cases h:n∈lo N
 ·rw[if_pos h,if_pos h];exact⟨Wp sub,TZ sub⟩
 ·rw[if_neg h,if_neg h];exact⟨TZ sub,Wp sub⟩
omit l in
theorem JQ:∀ (k:Nat) {N:List Int} {n:Int},(∀n∈N,n∈N0)→n∈N0→XA (f n) (ZK k (N.map f) (f n))=(XA n (ZK k N n)).map fun p=>(p.1.map f,p.2.map f)
 | 0,_,_,_,_=>rfl
 | k+1,N,n,sub,a=>by
  have b:=JQ k (Oc (n:=n) sub).1 a;obtain⟨c,d⟩:=Zn3 m sub a;unfold ZK;rw[Qa];by_cases h:2≤N.length
  ·rw[if_pos h,if_pos h,c];unfold XA at b ⊢;rw[Qe,b,Qe,Qe];simp only[List.map_cons,List.map_nil,c,d]
  ·rw[if_neg h,if_neg h];rfl
omit m l in
theorem JP:∀ (k:Nat) {N:List Int} {n:Int},(∀n∈N,n∈N0)→∀p∈XA n (ZK k N n),(∀x∈p.1,x∈N0)∧∀x∈p.2,x∈N0
 | 0,_,_,_,p,hp=>by cases hp
 | k+1,N,n,sub,p,hp=>by
  unfold ZK at hp;by_cases h:2≤N.length
  ·rw[if_pos h]at hp;unfold XA at hp;rw[Qe]at hp;rcases Qm.mp hp with hp|hp
   ·exact JP k (Oc (n:=n) sub).1 p hp
   ·rw[Qn.mp hp];exact Oc sub
  ·rw[if_neg h]at hp;cases hp
theorem ZqF{j:List Nat}{C:List (List Int×List Int)}{k q:Int}(h:Ag hd j C k q)(sub:∀p∈C,(∀x∈p.1,x∈N0)∧∀x∈p.2,x∈N0):Ag aG j (C.map fun p=>(p.1.map f,p.2.map f)) k q:=by
 induction h with
 | nil=>exact .nil
 | no _ h a=>rw[Qe];have s:=sub _ (Qr _ (Qn.mpr rfl));exact .no (a fun p b=>sub p (QF _ b)) (h.imp (Xd m l s.1) (Xd m l s.2))
 | eq _ c d e g i a=>rw[Qe];have s:=sub _ (Qr _ (Qn.mpr rfl));exact .eq (a fun p b=>sub p (QF _ b)) (Xd m l s.1 c) (Xd m l s.2 d) (by rw[l _ (s.1 _ c.1)];exact e) (by rw[l _ (s.2 _ d.1)];exact g) i
 | ne _ c d e g i a=>rw[Qe];have s:=sub _ (Qr _ (Qn.mpr rfl));exact .ne (a fun p b=>sub p (QF _ b)) (Xd m l s.1 c) (Xd m l s.2 d) (by rw[l _ (s.1 _ c.1)];exact e) (by rw[l _ (s.2 _ d.1)];exact g) i
end
noncomputable def YS(f:Int→Int)(g0:Int→Nat)(x:Y5):Y5:=(f x.1,x.2.1.drop (g0 x.1),x.2.2-g0 x.1)
section
variable {f:Int→Int} {g0:Int→Nat} {N0:List Int} (m:V2 f N0)
theorem Sg(P:List Y5):Y3 (P.map (YS f g0))=(Y3 P).map f:=by unfold Y3;rw[Qg,Qg];rfl
include m
theorem TX:∀ {P:List Y5},(∀n∈Y3 P,n∈N0)→(∀x∈P,g0 x.1≤x.2.2)→∀n∈N0,n∈Y3 P→hdP (P.map (YS f g0)) (f n)=hdP P n
 | [],_,_,n,_,h=>by cases h
 | x::P,sub,c,n,a,h=>by
  have g:x.1∈N0:=sub x.1 (QP ..);unfold hdP hdL;simp only[List.map_cons,List.find?_cons];by_cases z:x.1=n
  ·have b:(YS f g0 x).1=f n:=by unfold YS;rw[z]
   simp only[b,z,decide_true];have e:(YS f g0 x).2.1[(YS f g0 x).2.2]? = x.2.1[x.2.2]?:=by unfold YS;show (x.2.1.drop (g0 x.1))[x.2.2-g0 x.1]? = _;rw[List.getElem?_drop];congr 1;have:=c x (QP ..);lia
   show Option.map cds (YS f g0 x).2.1[(YS f g0 x).2.2]? = _;rw[e];rfl
  ·have b:¬ (YS f g0 x).1=f n:=fun y=>z (m.inj g a y);simp only[b,z,decide_false];have i:n∈Y3 P:=by
    rcases QG.mp h with y|y
    ·exact absurd y.symm z
    ·exact y
   have d:=TX (P:=P) (fun n a=>sub n (Qt _ a)) (fun x j=>c x (Qt _ j)) n a i;unfold hdP hdL at d;exact d
theorem JO{P:List Y5}(sub:∀n∈Y3 P,n∈N0){a:Int}(ha:a∈N0)(c:∀x∈P,g0 x.1≤x.2.2):YB (P.map (YS f g0)) (f a)=(YB P a).map (YS f g0):=by
 unfold YB;rw[Qg,Qg];refine Qy fun x b=>?_;show Xn (f a) (YS f g0 x)=YS f g0 (Xn a x);have d:=sub x.1 (Qd (f:=fun x:Y5=>x.1) b);have:=c x b;unfold Xn;by_cases z:x.1=a
 ·rw[if_pos z,if_pos (show (YS f g0 x).1=f a by unfold YS;rw[z])];unfold YS;simp only[];congr 2;lia
 ·rw[if_neg z,if_neg (show ¬ (YS f g0 x).1=f a from fun y=>z (m.inj d ha y))]
theorem Zm4{P:List Y5}(sub:∀n∈Y3 P,n∈N0)(d:∀x∈P,g0 x.1≤x.2.2){x:Y5}{s:Str}{k q:Int}(h:WG P x s k q):WG (P.map (YS f g0)) (YS f g0 x) s k q:=by
 obtain⟨e,o,p,r⟩:=h;have hx:=d x e;have t:=sub x.1 (Qd (f:=fun x:Y5=>x.1) e);have nb:Y3 (YB P x.1)=Y3 P:=by unfold Y3 YB;rw[Qg];refine Qy fun y _=>?_;show (Xn x.1 y).1=y.1;unfold Xn;split<;>rfl
 have u:∀y∈YB P x.1,g0 y.1≤y.2.2:=fun y j=>by
  unfold YB at j;obtain⟨g,v,rfl⟩:=Qi.mp j;have:=d g v;unfold Xn;split
  ·show g0 g.1≤g.2.2+1;lia
  ·exact this
 have i:V2 f (Y3 P):=fun a w b z=>m a (sub a w) b (sub b z);have l:∀n∈Y3 P,hdP (P.map (YS f g0)) (f n)=hdP P n:=fun n c=>TX m sub d n (sub n c) c;have A:∀n∈Y3 P,hdP ((YB P x.1).map (YS f g0)) (f n)=hdP (YB P x.1) n:=fun n c=>TX m (by rw[nb];exact sub) u n (sub n c) (by rw[nb];exact c);have B:x.1∈Y3 P:=Qd (f:=fun x:Y5=>x.1) e;refine⟨Qd e,?_,?_,?_⟩
 ·show (x.2.1.drop (g0 x.1))[x.2.2-g0 x.1]? = some s;rw[List.getElem?_drop,show g0 x.1+(x.2.2-g0 x.1)=x.2.2 by lia];exact o
 ·rw[Sg];exact Xd i l (fun n c=>c) p
 ·rw[Sg,show (YS f g0 x).1=f x.1 from rfl,JO m sub t d,JQ i 8 (fun n c=>c) B];exact ZqF i A r (JP 8 fun n c=>c)
omit m in
theorem Zna(P:List Y5)(a:Int):Y3 (YB P a)=Y3 P:=by unfold Y3 YB;rw[Qg];refine Qy fun y _=>?_;show (Xn a y).1=y.1;unfold Xn;split<;>rfl
end
noncomputable def TW(Lo:List ZA):List Y5:=(Yg 0 Lo.length).zip (Lo.map fun e=>(e.2.2.1.drop e.2.2.2,0))
theorem Zoh{ss:List Str}(h:sortedS ss=true)(k:Nat):sortedS (ss.drop k)=true:=(T4 _).mpr (((T4 _).mp h).sublist (List.drop_sublist ..))
def JN(d f:Addr):Sp:=fun vs H Q _=>∃ (x:V) (o ra ga:Addr) (Lo:List ZA) (nb li lo:Int),vs=[x,.ref o]∧Own H o ra ga Lo nb li lo∧(Lo.map (·.1)).Pairwise (·<·)∧(∀e∈Lo,sortedS e.2.2.1=true) ∧
 ∀ (t c:Addr) (F:MS) (a:Hp),a t=some (.tup [.ref F.m,.ref c])→a c=some (.lst ((Lo.map (·.1)).map V.int))→MOk d f a F→ZO F.L=TW Lo→YU (hdM F.L) 8 (Zu F.L) F.li F.lo→(∀b,MFp F b→H b=none)→¬ MFp F c→ZG H a→Q (.ref t) a
theorem Zpu(T:Zt K mg ab U)(aO:Cf P w K mg base 14 U "Merge" ["self", "rows"] (OK ab U)):Df P w K mg base 16 "_law_anew" ["_law_merge", "_law_own"] (JN ab U):=by
 refine T.t_l_anew.df Mb (fun vs H Q E h=>?_) (fun af f A outer s H vs Q E F h=>?_)
 ·obtain⟨x,o,ra,ga,Lo,nb,li,lo,rfl,_⟩:=h;rfl
 obtain⟨x,o,ra,ga,Lo,nb,li,lo,rfl,G,aI,b9,q⟩:=h;refine⟨_,#[Ze,#[Zw,2,Mb.nd,#[3],#[Zk,Vf,T.b.n_sorted,boot_sorted,#[Za,#[Zl,(ixG F),#[pv,1,(Or.inr #[3])],#[Zz]],#[Zf]]]],#[Zj,#[Zr,#[YJ,#[Za,#[Wh,aO,F,#[Za,#[WQ,U6,#[iL,K,‹2›],(fun _ _ _ _=>#[cg,3,U6]),(fun _ _ _ _=>(@Wl _)),(fun _ _ _ _=>#[W7,(slL K),#[Zl,(ixG F),#[Zl,(ixG F),#[cv,1,U6],#[Zz]],#[cw,3,U6]],(@WR _ _ _ #[Zl,(ixG F),#[Zl,(ixG F),#[cv,1,U6],#[Zz]],#[cw,3,U6]]),(@Xa _)])],#[Zf]]],#[Za,‹2›,#[Zf]]]]]]],?_⟩;have bW:=G.few;refine⟨_,rfl,o,_,rfl,ZR.k' (k:=.inr "rows") G.at' (Xu ..),ra,_,Lo.map (·.1),rfl,G.rows,SI Lo,by rw[Qa];lia,fun n ns eI aW aM=>?_⟩;have cC:ns=Lo.map (·.1):=SF aW (SE aM (aW.nodup_iff.mpr G.nd)) aI;subst cC;have S:=Zh eI (.lst ((Lo.map (·.1)).map V.int));have I:(upd H n (.lst ((Lo.map (·.1)).map V.int))) n=some (.lst ((Lo.map (·.1)).map V.int)):=Zd;generalize upd H n (.lst ((Lo.map (·.1)).map V.int))=H1 at S I ⊢;have aS:=G.same S;refine⟨_,rfl,n,rfl,⟨_,SqL.of I⟩,fun D hD=>?_⟩;refine ZlN (K:=K) (a:=n) (xs:=(Lo.map (·.1)).map V.int) (fun k zs σ g=>(∃v:Option V,σ=[some x,some (.ref o),some (.ref n),v])∧(∃d:List Addr,zs=d.map V.ref∧d.length=k∧∀ (i:Nat) (a:Addr) (e:ZA),d[i]? = some a→Lo[i]? = some e→a≠D∧g a=some (.lst ((e.2.2.1.drop e.2.2.2).map V.str)))∧k≤Lo.length∧g D=some (.lst zs)∧ZG H1 g) ⟨⟨none,rfl⟩,⟨[],rfl,rfl,fun i a e h=>by simp at h⟩,Qx _,Zd,Zh hD _⟩ (fun _ _ _ _ h=>SqL.of (h.2.2.2.2 _ _ I)) ?_ ?_
 ·rintro k y zs σ g p ⟨⟨v,rfl⟩,⟨d,rfl,M,B⟩,hk,W,J⟩;rw[Qo,Qo]at p;cases l:Lo[k]? with
  | none=>rw[l]at p;cases p
  | some e =>
  rw[l]at p;cases p;have jm:=(Qf.mp l).1;have N:=Qz l;have C:=aS.same J;obtain⟨l1,l2,l3,l4⟩:=C.lst e N;refine⟨_,rfl,o,_,rfl,ZR.k' (k:=.inr "rows") C.at' (Xu ..),_,rfl,ra,_,rfl,ZR.k' (k:=.inl e.1) C.rows (UV C.nd N),_,rfl,o,_,rfl,ZR.k' (k:=.inr "gone") C.at' (WJ ..),_,rfl,ga,_,rfl,ZR.k' (k:=.inl e.1) C.gone (VA C.nd N),_,rfl,e.2.1,_,rfl,SqL.of l1,fun c hc=>?_⟩;rw[(ZmT e.2.2.1 e.2.2.2 l3).2];have X:=Zh hc (.lst ((e.2.2.1.drop e.2.2.2).map V.str));have ec:(upd g c (.lst ((e.2.2.1.drop e.2.2.2).map V.str))) c=some (.lst ((e.2.2.1.drop e.2.2.2).map V.str)):=Zd;have wB:c≠D:=(Zb W hc).symm;generalize upd g c (.lst ((e.2.2.1.drop e.2.2.2).map V.str))=H3 at X ec ⊢;refine⟨X _ _ W,(by rw[Qa,M];exact ZE #[2]),⟨_,rfl⟩,⟨d++[c],by rw[Qe];rfl,by rw[Qj,M];rfl,fun i a e' O aD=>?_⟩,jm,Zd,fun b u j=>?_⟩
  ·by_cases Y:i<d.length
   ·rw[QK Y]at O;obtain⟨g1,g2⟩:=B i a e' O aD;exact⟨g1,by rw[Zc g1];exact X _ _ g2⟩
   ·have wC:=(Qf.mp O).1;rw[Qj,QD]at wC;have Bd:i=k:=by lia
    subst Bd;rw[QL #[2],M,QaE]at O;cases O;rw[l]at aD;cases aD;exact⟨wB,by rw[Zc wB];exact ec⟩
  ·rw[Zc (Zb j hD)];exact X _ _ (J b u j)
 rintro zs σ g ⟨⟨v,rfl⟩,⟨d,rfl,M,B⟩,hk,W,J⟩;rw[Qa,Qa]at M;refine fun m r hm sS Be=>?_;have Z:ZG g (upd (upd g r (.own m)) m (.ins U r [])):=fun b o j=>by rw[Zc (Zb j hm),Zc (Zb j sS)];exact j
 have nU:(upd (upd g r (.own m)) m (.ins U r [])) m=some (.ins U r []):=Zd;generalize upd (upd g r (.own m)) m (.ins U r [])=H7 at Z nU ⊢;have b8:Wu g D (d.zip (Lo.map fun e=>e.2.2.1.drop e.2.2.2)):=by
  refine⟨?_,by rw[List.length_zip];lia,fun y p=>?_⟩
  ·rw[show ((d.zip (Lo.map fun e=>e.2.2.1.drop e.2.2.2)).map fun x=>V.ref x.1)=((d.zip (Lo.map fun e=>e.2.2.1.drop e.2.2.2)).map (·.1)).map V.ref by rw[Qg];rfl,List.map_fst_zip (by rw[Qa];lia)];exact W
  ·obtain⟨i,Y⟩:=QaA p;rw[List.getElem?_zip_eq_some]at Y;obtain⟨h1,R⟩:=Y;rw[Qo]at R;cases l:Lo[i]? with
   | none=>rw[l]at R;cases R
   | some e =>
   rw[l]at R;have e2:e.2.2.1.drop e.2.2.2=y.2:=Qp R;obtain⟨_,l2,_,l4⟩:=G.lst e (Qz l);rw[← e2];exact⟨(B i _ e h1 l).2,by rw[QO];lia,fun s hs=>l4 s (QV hs)⟩
 have fD:(d.zip (Lo.map fun e=>e.2.2.1.drop e.2.2.2)).length=Lo.length:=by rw[List.length_zip,Qa];lia
 refine⟨m,r,D,d.zip (Lo.map fun e=>e.2.2.1.drop e.2.2.2),rfl,nU,b8.same Z,fun y p=>?_,fun rd sd L st w0 k2 q2 H8 M8 cQ W8 S8 P8 lI k8=>⟨rfl,?_⟩⟩
 ·have:=(List.of_mem_zip p).2;obtain⟨e,N,z⟩:=Qi.mp this;rw[← z];exact Zoh (b9 e N) _
 have s8:ZG g H8:=fun b o j=>k8 b o (Z b o j) (Zb j hm);have wD:=J.trans s8;have sO:=Vx 8 (hdM L) st (Zu L) M8.up (Qv (show (Zu L).length≤60 by unfold Zu;rw[Qa];exact M8.few) #[6]) #[6] S8;refine⟨_,rfl,(by show 2≤sizeLine;decide),fun t ht=>?_⟩;have st:=Zh ht (.tup [.ref m,.ref n]);have wE:∀b,Fp m rd sd L b→H1 b=none:=fun b j=>by
  rcases lI b j with z|z
  ·rw[z];exact J.free hm
  ·exact J.free (Z.free z)
 have eP:ZO L=TW Lo:=by rw[Kc cQ];unfold Ol TW;rw[fD];congr 1;rw[show ((d.zip (Lo.map fun e=>e.2.2.1.drop e.2.2.2)).map fun x=>(x.2,0))=((d.zip (Lo.map fun e=>e.2.2.1.drop e.2.2.2)).map (·.2)).map (fun y=>(y,0)) by rw[Qg];rfl,List.map_snd_zip (by rw[Qa];lia),Qg];rfl
 refine q t n ⟨m,rd,sd,L,_,_,k2,q2,w0⟩ _ Zd (st _ _ (wD _ _ I)) ⟨M8.same st,W8,sO⟩ eP P8 (fun b j=>S.free (wE b j)) (fun z=>by rw[wE n z]at I;cases I) (S.trans (wD.trans st))
noncomputable def ixN(N:List Int)(n:Int):Int:=((N.takeWhile fun a=>decide (a<n)).length:Int)
theorem TV:∀ {N:List Int},N.Pairwise (·<·)→∀ {i:Nat} {n:Int},N[i]? = some n→ixN N n=(i:Int)
 | [],_,i,n,h=>by simp at h
 | a::N,p,0,n,h=>by cases h;unfold ixN;rw[List.takeWhile_cons,if_neg #[4]];rfl
 | a::N,p,i+1,n,h=>by
  rw[List.pairwise_cons]at p;have h':N[i]? = some n:=by simpa using h
  have:=p.1 n (Qz h');have b:=TV p.2 h';unfold ixN at b ⊢;rw[List.takeWhile_cons,if_pos (by simpa using this),QM];lia
theorem JM{N:List Int}(p:N.Pairwise (·<·)):V2 (ixN N) N:=fun a ha b hb h=>by
 obtain⟨i,d⟩:=QaA ha;obtain⟨j,c⟩:=QaA hb;rw[TV p d,TV p c];rcases Nat.lt_trichotomy i j with z|z|z
 ·lia
 ·subst z;rw[d]at c;cases c;lia
 ·obtain⟨e,wC⟩:=Qf.mp d;obtain⟨f,Js⟩:=Qf.mp c;have:=List.pairwise_iff_getElem.mp p j i f e z;lia
noncomputable def goN(Lo:List ZA)(n:Int):Nat:=((Lo.find? fun e=>decide (e.1=n)).map fun e=>e.2.2.2).getD 0
theorem Sf:∀ {Lo:List ZA},(Lo.map (·.1)).Nodup→∀ {e:ZA},e∈Lo→goN Lo e.1=e.2.2.2
 | [],_,e,h=>by cases h
 | x::Lo,nd,e,h=>by
  rw[Qk,QR]at nd;unfold goN;rw[Qac];rcases QG.mp h with rfl|h
  ·simp
  ·have:x.1≠e.1:=fun z=>nd.1 (by rw[z];exact Qd (f:=fun e:ZA=>e.1) h);rw[show decide (x.1=e.1)=false by simpa using this];exact Sf nd.2 h
theorem Zpt{Lo:List ZA}(p:(Lo.map (·.1)).Pairwise (·<·))(nd:(Lo.map (·.1)).Nodup):(pur Lo).map (YS (ixN (Lo.map (·.1))) (goN Lo))=TW Lo:=by
 refine List.ext_getElem? fun i=>?_;unfold TW pur;rw[Qo,Qo];cases h:Lo[i]? with
 | none=>have a:=List.getElem?_eq_none_iff.mp h;rw[QN (by rw[List.length_zip,UI,Qa];lia)];rfl
 | some e =>
  have a:=(Qf.mp h).1;have b:(Yg 0 Lo.length)[i]? = some (i:Int):=by unfold Yg;rw[Qo,List.getElem?_range a];simp
  have c:ixN (Lo.map (·.1)) e.1=(i:Int):=TV p (by rw[Qo,h];rfl);have d:=Sf nd (Qz h);have f:((Yg 0 Lo.length).zip (Lo.map fun e=>(e.2.2.1.drop e.2.2.2,0)))[i]? = some ((i:Int),(e.2.2.1.drop e.2.2.2,0)):=List.getElem?_zip_eq_some.mpr ⟨b,by rw[Qo,h];rfl⟩;rw[f];show some (YS _ _ (e.1,e.2.2))=some ((i:Int),_);unfold YS;simp only[c,d,Nat.sub_self]
theorem JL{f:Int→Int}{g0:Int→Nat}:∀ {P:List Y5},(∀x∈P,g0 x.1≤x.2.2)→T6 (P.map (YS f g0))=T6 P
 | [],_=>rfl
 | x::P,h=>by have a:=JL (f:=f) (P:=P) fun y hy=>h y (Qt _ hy);have:=h x (QP ..);unfold T6 at a ⊢;rw[Qk,Qk,Qk,Qa4,Qa4,a];congr 1;show (x.2.1.drop (g0 x.1)).length-(x.2.2-g0 x.1)=_;rw[QO];lia
structure Al (cR cM:Addr) (H0:Hp) (N:List Int) (Lo:List ZA) (a0 a1:Int) (H:Hp) (F G:MS):Prop where
 f:MOk cR cM H F
 g:MOk cR cM H G
 e:ZO F.L=(ZO G.L).map (YS (ixN N) (goN Lo))
 n:Y3 (ZO G.L)=N
 le:∀x∈ZO G.L,goN Lo x.1≤x.2.2
 k:G.li=a0+F.li
 q:G.lo=a1+F.lo
 ff:∀b,MFp F b→H0 b=none
 fg:∀b,MFp G b→H0 b=none
 sep:∀b,MFp F b→¬ MFp G b
 s:ZG H0 H
theorem Al.same{a b:Addr}{c:Hp}{N:List Int}{Lo:List ZA}{a0 a1:Int}{H H':Hp}{F G:MS}(h:Al a b c N Lo a0 a1 H F G)(s:ZG H H'):Al a b c N Lo a0 a1 H' F G:=⟨h.f.same s,h.g.same s,h.e,h.n,h.le,h.k,h.q,h.ff,h.fg,h.sep,h.s.trans s⟩
theorem MOk.kept{a c:Addr}{H d:Hp}{F G:MS}(h:MOk a c H G)(sep:∀b,MFp F b→¬ MFp G b)(e:MOk a c H F)(k1:∀b o,H b=some o→¬ MFp F b→d b=some o):MOk a c d G:=h.keep fun b o hb f=>k1 b o hb fun z=>by
 rcases f with y|⟨xs,rfl⟩
 ·exact sep b z y
 ·exact e.M.fp_tup hb z
theorem Al.take{i j:Addr}{K:Hp}{N:List Int}{Lo:List ZA}{a0 a1:Int}{H e d:Hp}{F G:MS}(p:N.Pairwise (·<·))(h:Al i j K N Lo a0 a1 H F G){x y:V}{c L2:List Zv}{r s:StL}{w w2:Option Int}{k q k' A:Int}
  (B:V4 F.L F.w x c k q e) (M1:ZS i j e F.m F.rd F.sd c r F.nb (F.li+k) (F.lo+q) (YX w)) (S:Win (hdM c) (Zu c) w) (T:ZX (hdM c) r (Zu c)) (k1:∀b o,H b=some o→¬ MFp F b→e b=some o)
  (L:V4 G.L G.w y L2 k' A d) (M2:ZS i j d G.m G.rd G.sd L2 s G.nb (G.li+k') (G.lo+A) (YX w2)) (U:Win (hdM L2) (Zu L2) w2) (W:ZX (hdM L2) s (Zu L2)) (k2:∀b o,e b=some o→¬ MFp G b→d b=some o) :
  (x=.non∧y=.non)∨∃ (t t':Addr) (u:Y5) (z:Str),u.1∈N∧goN Lo u.1≤u.2.2∧x=.ref t∧y=.ref t'∧d t=some (.tup [.int (ixN N u.1),.int ((u.2.2-goN Lo u.1:Nat):Int),.str z])∧d t'=some (.tup [.int u.1,.int (u.2.2:Int),.str z]) ∧
   Al i j K N Lo a0 a1 d ⟨F.m,F.rd,F.sd,c,r,F.nb,F.li+k,F.lo+q,w⟩ ⟨G.m,G.rd,G.sd,L2,s,G.nb,G.li+k',G.lo+A,w2⟩:=by
 have m:=JM p;have sub:∀n∈Y3 (ZO G.L),n∈N:=by rw[h.n];exact fun n g=>g
 have X:∀n∈Y3 (ZO G.L),hdP ((ZO G.L).map (YS (ixN N) (goN Lo))) (ixN N n)=hdP (ZO G.L) n:=fun n g=>TX m sub h.le n (sub n g) g;have Y:V2 (ixN N) (Y3 (ZO G.L)):=by rw[h.n];exact m
 have Z:(Y3 (ZO F.L)).Nodup:=Om h.f;have g1:MOk i j e G:=h.g.kept h.sep h.f k1;rcases Sk h.g.W L with⟨C,rfl,_⟩|⟨u,z,t',st,D,rfl,bB⟩
 ·rcases Sk h.f.W B with⟨_,rfl,_⟩|⟨v,M,t,E,_⟩
  ·exact .inl ⟨rfl,rfl⟩
  ·have:=Xd Y X (fun n g=>g) C;rw[← Sg (g0:=goN Lo),← h.e]at this;exact nomatch this.one E.2.2.1
 ·have I:=Zm4 m sub h.le st;rw[← h.e]at I;rcases Sk h.f.W B with⟨C,_⟩|⟨v,M,t,E,Bh,rfl,ht⟩
  ·exact nomatch C.one I.2.2.1
  ·obtain⟨e1,e2,e3,e4⟩:=E.one Z I;subst e1;subst e2;subst e3;subst e4;have O:=sub u.1 (Qd (f:=fun x:Y5=>x.1) st.1);have P:∀b l,e b=some (.tup l)→d b=some (.tup l):=fun b l a=>k2 b _ a (g1.M.fp_tup a);have J:∀b,Fp F.m F.rd F.sd c b↔MFp F b:=fun b=>B.fp;have Q:∀b,Fp G.m G.rd G.sd L2 b↔MFp G b:=fun b=>L.fp;refine .inr ⟨t,t',u,M,O,h.le u st.1,rfl,rfl,P _ _ ht,bB,?_⟩;refine⟨⟨M1.keep fun b o a aZ=>?_,S,T⟩,⟨M2,U,W⟩,?_,?_,fun x hx=>?_,?_,?_,fun b a=>h.ff b ((J b).mp a),fun b a=>h.fg b ((Q b).mp a),fun b a aP=>h.sep b ((J b).mp a) ((Q b).mp aP),fun b o a=>?_⟩
   ·rcases aZ with y|⟨l,rfl⟩
    ·exact k2 b o a (h.sep b ((J b).mp y))
    ·exact P b l a
   ·show ZO c=(ZO L2).map _;rw[Bh,D,h.e];exact JO m sub O h.le
   ·show Y3 (ZO L2)=N;rw[D,Zna];exact h.n
   ·have R:x∈YB (ZO G.L) u.1:=by rw[← D];exact hx
    unfold YB at R;obtain⟨y,hy,rfl⟩:=Qi.mp R;have:=h.le y hy;unfold Xn;split
    ·show goN Lo y.1≤y.2.2+1;lia
    ·exact this
   ·show G.li+k=a0+(F.li+k);rw[h.k];lia
   ·show G.lo+q=a1+(F.lo+q);rw[h.q];lia
   ·exact k2 b o (k1 b o (h.s b o a) fun z=>by rw[h.ff b z]at a;cases a) fun z=>by rw[h.fg b z]at a;cases a
theorem Al.left{b c:Addr}{d:Hp}{N:List Int}{Lo:List ZA}{a0 a1:Int}{H:Hp}{F G:MS}(h:Al b c d N Lo a0 a1 H F G):(YC (F.L.map toL)).sum=(YC (G.L.map toL)).sum:=by rw[JR fun e a=>(h.f.M.each e a).le,JR fun e a=>(h.g.M.each e a).le,h.e,JL h.le]
def ZqX(d e:Addr):Sp:=fun vs H Q _=>∃ (X:MS) (Y:OS) (a:Addr) (a0 a1 k0 b:Int) (c:Nat),vs=[.ref X.m,.ref Y.o,.ref a,.int (c:Int)]∧X7 d e H X Y∧X.nb≤35∧H a=some (.tup [.int a0,.int a1])∧c≤1000∧X.li=a0+k0∧X.lo=a1+b∧YU (hdM X.L) 8 (Zu X.L) k0 b∧∀H':Hp,ZG H H'→Q (.bl true) H'
theorem Zpk(T:Zt K mg ab U)(aQ:Df P w K mg base 5 "_law_same" ["_law_found", "_law_due"] (S4 4))(fQ:Df P w K mg base 16 "_law_anew" ["_law_merge", "_law_own"] (JN ab U))(cz:Mf P w K mg base 16 U "twin" ["self"] (JS ab U))(bi:Mf P w K mg base 6 U "take" ["self"] (Kk ab U))(aF:Mf P w K mg base 1 U "likenings" ["self"] (KR ab U))(bd:Mf P w K mg base 1 U "looks" ["self"] (KQ ab U))(bL:Mf P w K mg base 2 U "left" ["self"] (KO ab U)):Df P w K mg base 17 "_law_goes_alike" ["_law_merge", "_law_own", "_law_ahead", "_law_many_here"] (ZqX ab U):=by
 refine T.t_l_goes_alike.df Wf (fun vs H Q E h=>?_) (fun af f A outer s H vs Q E p h=>?_)
 ·obtain⟨X,Y,ta,a0,a1,k0,q0,mn,rfl,_⟩:=h;rfl
 obtain⟨X,Y,ta,a0,a1,k0,q0,mn,rfl,g,wv,kn,Jt,Bi,Bj,pl,q⟩:=h;refine⟨_,#[Ze,#[Z2,#[ZB,fQ,p,#[Za,‹0›,#[Za,‹1›,#[Zf]]],#[5]],#[gT,K,2,#[ZC,#[ZD,4,Wf.nd],#[ZC,#[ZD,5,Wf.nd],(@X6 _)]]]],#[Ze,#[Zw,6,Wf.nd,#[3],#[YQ,cz,T.cl_Merge,p,‹0›]],#[Ze,#[XR,PassesOwn.never,#[WS,T.b.n_range,#[Za,‹3›,#[Zf]]],#[ZD,7,Wf.nd],#[Ze,#[Zw,8,Wf.nd,#[3],#[YH,#[Za,#[ZI,Wn,#[YQ,aF,T.cl_Merge,p,‹6›],#[Zl,(ixT K),‹2›,#[Zi]]],#[Za,#[ZI,Wn,#[YQ,bd,T.cl_Merge,p,‹6›],#[Zl,(ixT K),‹2›,#[Zi]]],#[Zf]]]]],#[Ze,#[Z0,(@UP _ _ _ _ #[Xs,#[ZB,aQ,p,#[Za,#[YH,#[Za,#[YQ,aF,T.cl_Merge,p,‹4›],#[Za,#[YQ,bd,T.cl_Merge,p,‹4›],#[Za,#[YQ,bL,T.cl_Merge,p,‹4›],#[Zf]]]]],#[Za,#[ZI,VP,‹8›,#[YH,#[Za,#[YQ,bL,T.cl_Merge,p,‹6›],#[Zf]]]],#[Zf]]],#[5]]]),#[Zj,#[Zr,#[WV]]],#[ZF]],#[Ze,#[WT,9,10,Wf.nd,#[Za,#[YQ,bi,T.cl_Merge,p,‹4›],#[Za,#[YQ,bi,T.cl_Merge,p,‹6›],#[Zf]]]],#[Ze,#[Z0,(@PW.pt _ _ _ #[Wo,#[Zn,Yb,‹9›,#[ZT],(Zp _)],(@Vs _ _ _ _ #[Zn,Yb,‹10›,#[ZT],(Zp _)])]),#[Zj,#[Zr,#[Xc,#[Ya,Yb,‹9›,#[ZT],(Zp _)],#[WU,#[Ya,Yb,‹10›,#[ZT],(Zp _)]]]]],#[ZF]],#[Ze,#[Zw,11,Wf.nd,#[3],#[Zl,(ixL K),‹5›,#[Zl,(ixT K),‹9›,#[Zi]]]],#[Zj,#[Z0,(@UP _ _ _ _ #[Xs,#[ZB,aQ,p,#[Za,‹10›,#[Za,#[YJ,#[Za,‹11›,#[Za,#[ZI,YO,#[Zl,(ixT K),‹9›,#[Zi]],#[Zl,(ixG p),#[Zl,(ixG p),‹1›,#[Zz]],‹11›]],#[Za,#[Zl,(ixT K),‹9›,#[Zi]],#[Zf]]]]],#[Zf]]],#[5]]]),#[Zj,#[Zr,#[WV]]],#[ZF]]]]]]]]],#[Zj,#[Zr,#[WV]]]]]],?_⟩;have aI:(Y.Lo.map (·.1)).Pairwise (·<·):=by rw[Xt g.ag];exact g.mg.M.up
 have b9:∀e∈Y.Lo,sortedS e.2.2.1=true:=fun e R=>by
  have:(e.1,e.2.2)∈ZO X.L:=by rw[← Vt g.ag];exact Qd (f:=fun e:ZA=>(e.1,e.2.2)) R
  obtain⟨e',aD,z⟩:=Qi.mp this;injection z with _ z;rw[← z];exact(g.mg.M.each e' aD).srt
 have eX:=Vt g.ag;refine⟨_,rfl,_,rfl,.ref X.m,Y.o,Y.ra,Y.ga,Y.Lo,Y.nb,X.li,X.lo,rfl,g.ow,aI,b9,fun t I F H1 ht eI mF eF sU fF wF s1=>?_⟩;refine⟨t,_,rfl,SqT.of ht,rfl,_,_,rfl,_,_,rfl,rfl,?_⟩;have M1:=g.mg.M.same s1;obtain⟨oX,cb⟩:=M1.ob;refine⟨_,rfl,X.m,oX,_,rfl,cb,Zka ..,X.m,X.rd,X.sd,X.L,X.s,X.nb,X.li,X.lo,_,rfl,M1,wv,fun m' nR av r H2 M2 S fM s2=>?_⟩;have eh:hdM r=hdM X.L:=by rw[T7,T7,S]
 have en:Zu r=Zu X.L:=by rw[Xg,Xg,S]
 have eR:=Zpt aI g.ow.nd;have hN:Y3 (ZO X.L)=Y.Lo.map (·.1):=by rw[← Xg];exact(Xt g.ag).symm
 have kZ:∀x∈ZO X.L,goN Y.Lo x.1≤x.2.2:=fun x hx=>by rw[← eX]at hx;obtain⟨e,R,rfl⟩:=Qi.mp hx;show goN Y.Lo e.1≤e.2.2.2;rw[Sf g.ow.nd R];exact Qh _
 have lE:F.li=k0∧F.lo=q0:=by
  have m:=JM aI;have l:∀n∈Y3 (ZO X.L),hdP ((ZO X.L).map (YS (ixN (Y.Lo.map (·.1))) (goN Y.Lo))) (ixN (Y.Lo.map (·.1)) n)=hdP (ZO X.L) n:=fun n W=>TX m (by rw[hN];exact fun n W=>W) kZ n (by rw[← hN];exact W) W;have m':V2 (ixN (Y.Lo.map (·.1))) (Y3 (ZO X.L)):=by rw[hN];exact m
  rw[T7,Xg]at pl sU;have:=TY m' l (fun n W=>W) pl;rw[← Sg (g0:=goN Y.Lo),← eX,eR,← eF]at this;exact sU.one this
 have A2:Al ab U H (Y.Lo.map (·.1)) Y.Lo a0 a1 H2 F ⟨m',nR,av,r,X.s,X.nb,X.li,X.lo,X.w⟩:=by
  refine⟨mF.same s2,⟨M2,by show Win (hdM r) (Zu r) X.w;rw[eh,en];exact g.mg.W,by show ZX (hdM r) X.s (Zu r);rw[eh,en];exact g.mg.ok⟩,?_,?_,?_,?_,?_,fF,fun b D=>s1.free (fM b D),fun b D aP=>?_,s1.trans s2⟩
  ·show ZO F.L=(ZO r).map _;rw[eF,S,← eX,eR]
  ·show Y3 (ZO r)=_;rw[S];exact hN
  ·show ∀x∈ZO r,_;rw[S];exact kZ
  ·show X.li=a0+F.li;rw[lE.1];exact Bi
  ·show X.lo=a1+F.lo;rw[lE.2];exact Bj
  ·obtain⟨u,hu,_⟩:=mF.M.fp_live D;rw[fM b aP]at hu;cases hu
 have hJ:=s2 _ _ eI;have wG:¬ MFp (⟨m',nR,av,r,X.s,X.nb,X.li,X.lo,X.w⟩:MS) I:=fun z=>by rw[fM I z]at eI;cases eI
 obtain⟨G,eG,A3,wH⟩:∃G:MS,G.m=m'∧Al ab U H (Y.Lo.map (·.1)) Y.Lo a0 a1 H2 F G∧¬ MFp G I:=⟨_,rfl,A2,wG⟩;clear A2 wG M2 S fM eh en lE pl sU eF;subst eG;refine⟨_,rfl,_,rfl,by lia,by lia,?_⟩;refine Vp (fun i σ N=>∃ (d a:MS) (v7 v8 v9 fe gU:Option V),σ=[some (.ref X.m),some (.ref Y.o),some (.ref ta),some (.int (mn:Int)),some (.ref d.m),some (.ref I),some (.ref a.m),v7,v8,v9,fe,gU]∧Al ab U H (Y.Lo.map (·.1)) Y.Lo a0 a1 N d a∧N I=some (.lst ((Y.Lo.map (·.1)).map V.int))∧¬ MFp d I∧¬ MFp a I) ⟨F,G,_,_,_,_,_,rfl,A3,hJ,wF,wH⟩ ?_ ?_
 rotate_left
 ·rintro σ N ⟨d,a,v7,v8,v9,fe,gU,rfl,B,_⟩;exact q N B.s
 rintro i σ N hi ⟨d,a,v7,v8,v9,fe,gU,rfl,B,kN,wI,wJ⟩;clear A3 wH wF hJ mF;obtain⟨O,C⟩:=B.g.M.ob;obtain⟨Z,J⟩:=B.f.M.ob;refine⟨_,rfl,a.m,O,_,rfl,C,OI ..,a.m,a.rd,a.sd,a.L,a.s,a.nb,a.li,a.lo,_,rfl,B.g.M,_,rfl,ta,_,_,_,rfl,rfl,SqT.of (B.s _ _ kn),rfl,_,_,rfl,rfl,?_⟩;refine⟨_,rfl,a.m,O,_,rfl,C,OH ..,a.m,a.rd,a.sd,a.L,a.s,a.nb,a.li,a.lo,_,rfl,B.g.M,_,rfl,ta,_,_,_,rfl,rfl,SqT.of (B.s _ _ kn),rfl,_,_,rfl,rfl,?_⟩;refine⟨(by show 2≤sizeLine;decide),fun du Bk=>?_⟩;have s5:=Zh Bk (.lst [.int (a.li-a0),.int (a.lo-a1)]);have e5:(upd N du (.lst [.int (a.li-a0),.int (a.lo-a1)])) du=some (.lst [.int (a.li-a0),.int (a.lo-a1)]):=Zd;have L:=B.same s5;have nX:=s5 _ _ kN;generalize upd N du (.lst [.int (a.li-a0),.int (a.lo-a1)])=H5 at s5 e5 L nX ⊢;clear B kN C J;obtain⟨O,C⟩:=L.g.M.ob;obtain⟨Z,J⟩:=L.f.M.ob;refine⟨_,rfl,d.m,Z,_,rfl,J,OI ..,d.m,d.rd,d.sd,d.L,d.s,d.nb,d.li,d.lo,_,rfl,L.f.M,_,rfl,d.m,Z,_,rfl,J,OH ..,d.m,d.rd,d.sd,d.L,d.s,d.nb,d.li,d.lo,_,rfl,L.f.M,_,rfl,d.m,Z,_,rfl,J,KI ..,d.m,d.rd,d.sd,d.L,d.s,d.nb,d.li,d.lo,_,rfl,L.f.M,fun H6 s6=>⟨(by show 3≤sizeLine;decide),fun l hl=>?_⟩⟩;have A6:=L.same s6;have s7:=Zh hl (.lst [.int d.li,.int d.lo,.int (YC (d.L.map toL)).sum]);have e7:(upd H6 l (.lst [.int d.li,.int d.lo,.int (YC (d.L.map toL)).sum])) l=some (.lst [.int d.li,.int d.lo,.int (YC (d.L.map toL)).sum]):=Zd;have M:=A6.same s7;have sV:=s7 _ _ (s6 _ _ e5);have nY:=s7 _ _ (s6 _ _ nX);generalize upd H6 l (.lst [.int d.li,.int d.lo,.int (YC (d.L.map toL)).sum])=H7 at s7 e7 M sV nY ⊢;clear L A6 nX C J;obtain⟨O,C⟩:=M.g.M.ob;refine⟨_,rfl,_,rfl,a.m,O,_,rfl,C,KI ..,a.m,a.rd,a.sd,a.L,a.s,a.nb,a.li,a.lo,_,rfl,M.g.M,fun H8 s8=>⟨(by show 1≤sizeLine;decide),fun l2 bf=>?_⟩⟩;have s9:=s8.trans (Zh bf (.lst [.int (YC (a.L.map toL)).sum]));have e9:(upd H8 l2 (.lst [.int (YC (a.L.map toL)).sum])) l2=some (.lst [.int (YC (a.L.map toL)).sum]):=Zd;generalize upd H8 l2 (.lst [.int (YC (a.L.map toL)).sum])=H9 at s9 e9 ⊢;refine⟨du,l2,_,_,rfl,rfl,s9 _ _ sV,e9,(by show 3≤sizeLine;decide),fun c hc=>?_⟩;have iX:=s9.trans (Zh hc (.lst ([.int (a.li-a0),.int (a.lo-a1)]++[.int (YC (a.L.map toL)).sum])));have sW:(upd H9 c (.lst ([.int (a.li-a0),.int (a.lo-a1)]++[.int (YC (a.L.map toL)).sum]))) c=some (.lst [.int (a.li-a0),.int (a.lo-a1),.int (YC (a.L.map toL)).sum]):=Zd;generalize upd H9 c (.lst ([.int (a.li-a0),.int (a.lo-a1)]++[.int (YC (a.L.map toL)).sum]))=dB at iX sW ⊢;have hD:IsD dB 4 (.ref l) (.ref c):=by
  refine Zpy (iX _ _ e7) sW (by show 3≤1000;decide) (.cons ?_ (.cons ?_ (.cons ?_ .nil)))
  ·rw[show a.li-a0=d.li by have:=M.k;lia];exact V5 _
  ·rw[show a.lo-a1=d.lo by have:=M.q;lia];exact V5 _
  ·rw[M.left];exact V5 _
 refine⟨_,_,rfl,hD,fun i3 iY=>⟨_,rfl,YR ?_⟩⟩;have v:=(M.same iX).same iY;have sX:=iY _ _ (iX _ _ nY);clear M nY C hD sW e9 sV e7 e5;obtain⟨Z,J⟩:=v.f.M.ob;refine⟨_,rfl,d.m,Z,_,rfl,J,Ot ..,d.m,d.rd,d.sd,d.L,d.s,d.nb,d.li,d.lo,d.w,rfl,v.f.M,v.f.W,v.f.ok,fun x L1 sj w1 k q1 fv wK j' dP nZ k12=>?_⟩;have pF:MOk ab U fv a:=v.g.kept v.sep v.f k12;obtain⟨O,C⟩:=pF.M.ob;refine⟨_,rfl,a.m,O,_,rfl,C,Ot ..,a.m,a.rd,a.sd,a.L,a.s,a.nb,a.li,a.lo,a.w,rfl,pF.M,pF.W,pF.ok,fun y L2 gO w2 k' q2 sY nV Bl lM wL k13=>?_⟩;have n5:=k13 _ _ (k12 _ _ sX wI) wJ;have nW:∀b,Fp d.m d.rd d.sd L1 b↔MFp d b:=fun b=>wK.fp;have lJ:∀b,Fp a.m a.rd a.sd L2 b↔MFp a b:=fun b=>nV.fp;have Bm:=v.take aI wK j' dP nZ k12 nV Bl lM wL k13;have wM:ZG H sY:=fun b o D=>k13 b o (k12 b o (v.s b o D) fun z=>by rw[v.ff b z]at D;cases D) fun z=>by rw[v.fg b z]at D;cases D
 refine⟨_,_,rfl,?_⟩;rcases Bm with⟨rfl,rfl⟩|⟨t1,t2,u,z,hu,Ju,rfl,rfl,jV,bE,Bn⟩
 ·refine⟨_,rfl,rfl,_,rfl,YI rfl (XN ⟨_,rfl,rfl,_,rfl,YI rfl ⟨_,rfl,rfl,q _ wM⟩⟩)⟩
 ·refine⟨_,rfl,rfl,_,rfl,YG (by intro z;cases z) ⟨_,rfl,rfl,_,rfl,YG (by intro z;cases z) ?_⟩⟩;obtain⟨j,hj⟩:=QaA hu;have bm:atI ((Y.Lo.map (·.1)).map V.int) (ixN (Y.Lo.map (·.1)) u.1)=some (.int u.1):=by rw[TV aI hj];exact Yr (by rw[Qo,hj];rfl)
  obtain⟨e,R,eu⟩:=Qi.mp hu;have Bo:e.1=u.1:=eu;have kT:=g.ow.same wM;have m9:Z5 (kvG Y.Lo) (.inl u.1)=some (.int ((goN Y.Lo u.1:Nat):Int)):=by rw[← Bo,Sf g.ow.nd R];exact VA g.ow.nd R
  refine⟨_,rfl,_,rfl,t1,_,_,_,rfl,rfl,SqT.of jV,rfl,I,_,_,_,rfl,rfl,SqL.of n5,bm,?_⟩;refine⟨_,rfl,_,rfl,_,rfl,t1,_,_,_,rfl,rfl,SqT.of jV,rfl,_,rfl,Y.o,_,rfl,ZR.k' (k:=.inr "gone") kT.at' (WJ ..),_,rfl,Y.ga,_,rfl,ZR.k' (k:=.inl u.1) kT.gone m9,_,_,rfl,rfl,_,rfl,t1,_,_,_,rfl,rfl,SqT.of jV,rfl,(by show 3≤sizeLine;decide),fun t3 lj=>?_⟩;have e3:((u.2.2-goN Y.Lo u.1:Nat):Int)+((goN Y.Lo u.1:Nat):Int)=(u.2.2:Int):=by lia
  have gz:=Zh lj (.tup [.int u.1,.int (((u.2.2-goN Y.Lo u.1:Nat):Int)+((goN Y.Lo u.1:Nat):Int)),.str z]);refine⟨_,_,rfl,KJ (gz _ _ bE) Zd (by show 3≤1000;decide) (.cons (V5 _) (.cons (.inl ⟨by rw[← e3],.inr (.inr (.inl ⟨_,rfl⟩))⟩) (.cons (Sw (.inr (.inr (.inr ⟨_,rfl⟩)))) .nil))),fun Jv Bp=>⟨_,rfl,YR ?_⟩⟩;have wN:=gz.trans Bp;exact⟨⟨d.m,d.rd,d.sd,L1,sj,d.nb,d.li+k,d.lo+q1,w1⟩,⟨a.m,a.rd,a.sd,L2,gO,a.nb,a.li+k',a.lo+q2,w2⟩,_,_,_,_,_,rfl,Bn.same wN,wN _ _ n5,fun z=>wI ((nW _).mp z),fun z=>wJ ((lJ _).mp z)⟩
def Se(K:#[7]):Sp:=fun vs H Q _=>∃ (a:Addr) (ns:List Int),vs=[.ref a]∧SqL K H a (ns.map V.int)∧ns.length≤63∧∀H',Q (.bl true) H'
theorem Zqs{f:Addr}{fd:FuncData}(F:Fun K "law" "law" VI f fd)(T:Zt K mg ab U):X2 P w K mg base CX0 18 f fd ["_law_script"] (Se K):=by
 have fb:Df P w K mg base 1 "_law_mix" ["_law_cell", "_law_k"] PB:=ZqO T;have lN:Df P w K mg base 1 "_law_left" ["_law_script", "_law_k"] (Ma K):=ZoW T;have ah:Df P w K mg base 2 "_law_pick" ["_law_left_here", "_law_many_here"] We:=ZoK T fb;have cN:Df P w K mg base 3 "_law_stems" ["_law_left_here"] Pu:=Znh T ah;have gr:Df P w K mg base 3 "_law_key" ["_law_left_here", "_law_stems_here"] Pt:=Zqh T ah;have fG:Df P w K mg base 4 "_law_keys" ["_law_left_here", "_law_stems_here", "_law_most"] Ps:=Zpw T ah gr;have fH:Df P w K mg base 3 "_law_many" ["_law_left_here"] Pm:=Zo2 T ah;have ca:Df P w K mg base 5 "_law_row" ["_law_left_here", "_law_stems_here", "_law_most"] SA:=Zpo T fG;have lO:Df P w K mg base 6 "_law_rows" ["_law_left_here"] K4:=ZnF T ah cN fH ca;have aQ:Df P w K mg base 5 "_law_same" ["_law_found", "_law_due"] (S4 4):=LN T 4;have aX:Df P w K mg base 1 "alike_from" ["one", "other", "far"] S6:=Zhc T;have cD:Df P w K mg base 2 "alike" ["one", "other"] Wd:=ZmS T aX;have bq:Df P w K mg base 1 "order_at" ["one", "other", "at"] SX:=Znv T;have gu:Df P w K mg base 3 "liken" ["one", "other"] Pp:=Zmy T cD bq;have cq:Df P w K mg base 2 "liken_from" ["one", "other", "far"] Po:=Zhk T aX bq;have cc:Df P w K mg base 4 "first_break" ["keys"] (Pn K):=Zmp T gu;have au:Df P w K mg base 5 "refuse_break" ["number", "keys"] (Ug K):=Zmi T cc;have bV:Df P w K mg base 3 "alikes" ["row"] (S0 K):=ZlB T cD;have bI:Df P w K mg base 1 "halves" ["numbers"] (Wa K true):=ZlL T;have aC:=Zoj T (P:=P) (w:=w) (base:=base);have al:=Zpq T aC;have aL:=Zkt T bV;have aN:=Zpd T al cq;have aY:=KU T al bI aN 8;have ai:=ZjK T aY;have aO:=Zhn T au aL ai;have bQ:=Zl3 T al;have bL:=Znu T aC;have aF:=Zid T (P:=P) (w:=w) (base:=base);have bd:=Zof T (P:=P) (w:=w) (base:=base);have aT:Df P w K mg base 1 "_law_alike" ["_law_one", "_law_other"] Wd:=Zko T;have ba:Df P w K mg base 1 "_law_halves" ["_law_numbers"] (Wa K false):=Zjs T;have aA:=ZlT T (P:=P) (w:=w) (base:=base);have aU:=Zl5 T (P:=P) (w:=w) (base:=base);have aJ:=Lk T ba aA aT 8;have br:=Znw T aU aJ;have dJ:=Zkm T aU aA;have kq:=ZlQ T br;have fL:Df P w K mg base 2 "way_up" ["numbers", "n"] Ox:=ZqL T bI;have cr:=Zkj T fL;have bh:=ZnG T aN;have bz:=ZoS T al cr bh;have bi:=Zoq T bQ bz;have bK:=Zke T au aL ai;have aK:=Zmc T (P:=P) (w:=w) (base:=base);have bA:=ZjL T aC aK ai;have bR:=ZjU T bV;have cx:=Zpe T aK au al bR ai;have gA:=ZoT T ba;have ku:=ZlC T dJ aU gA aA aT;have lP:=ZmF T aQ br bK bA cx;have lQ:=Zpp T ah ca;have cy:=Zl7 T aL;have cz:=ZoN T aO cy;have fQ:=Zpu T aO;have gh:=Zpk T aQ fQ cz bi aF bd bL;refine F.ok WY (fun vs H Q E h=>?_) (fun af A outer s H vs Q E d h=>?_)
 ·obtain⟨a,ns,rfl,_⟩:=h;rfl
 obtain⟨a,sc,rfl,hS,rj,q⟩:=h;refine⟨_,#[Ze,#[XR,PassesOwn.never,#[WS,T.b.n_range,#[Za,#[ZI,YO,#[Zi],#[Zk,(Yv K),T.b.n_len,Qu,#[Za,#[W7,(slL K),‹0›,(@Xa _),(@WR _ _ _ #[Zi])],#[Zf]]]],#[Zf]]],#[ZD,1,WY.nd],#[Ze,#[Zw,2,WY.nd,#[3],#[ZB,lN,d,#[Za,‹0›,#[Za,‹1›,#[Zf]]],#[5]]],#[Ze,#[WT,3,4,WY.nd,#[Za,#[ZB,lO,d,#[Za,‹2›,#[Zf]],#[5]],#[Za,#[ZB,cN,d,#[Za,‹2›,#[Zf]],#[5]],#[Zf]]]],(@Ve _ _ _ _ _ #[WT,5,6,WY.nd,#[Za,#[ZB,kq,d,#[Za,‹3›,#[Zf]],#[5]],#[Za,#[Wh,aO,d,#[Za,‹3›,#[Zf]]],#[Zf]]]] #[Zj,#[XR,PassesOwn.never,#[WS,T.b.n_range,#[Za,#[Zi],#[Zf]]],#[ZD,7,WY.nd],(@Ve _ _ _ _ _ #[XR,PassesOwn.never,#[WS,T.b.n_range,#[Za,#[ZB,ah,d,#[Za,‹2›,#[Za,#[Zi],#[Zf]]],#[5]],#[Zf]]],#[ZD,8,WY.nd],#[Zj,#[Z0,(@UP _ _ _ _ #[Xs,#[ZB,aQ,d,#[Za,#[YQ,bi,T.cl_Merge,d,‹6›],#[Za,#[ZB,ku,d,#[Za,‹5›,#[Zf]],#[5]],#[Zf]]],#[5]]]),#[Zj,#[Zr,#[WV]]],#[ZF]]]] #[Ze,#[Zw,9,WY.nd,#[3],#[YJ,#[Za,#[YQ,aF,T.cl_Merge,d,‹6›],#[Za,#[YQ,bd,T.cl_Merge,d,‹6›],#[Zf]]]]],#[Ze,#[Zw,10,WY.nd,#[3],#[ZB,lQ,d,#[Za,‹2›,#[Za,‹5›,#[Za,‹4›,#[Zf]]]],#[5]]],#[Ze,#[Zw,11,WY.nd,#[3],#[Ya,R0,#[Zl,(ixT K),‹10›,#[Zi]],#[Zz],(Zp _)]],(@Ve _ _ _ _ _ #[Z0,#[Zn,YF,#[Zl,(ixT K),‹10›,#[Zi]],#[Zz],(Zp _)],#[Zj,#[Zw,11,WY.nd,#[3],#[Xc,#[Ya,(@neD _ K _ d #[5]),#[Zl,(ixT K),‹10›,#[Zi]],#[YH,#[Zf]],(Zp _)],#[WU,#[Ya,YF,#[Zl,(ixG d),#[Zl,(ixG d),‹5›,#[Zz]],#[Zl,(ixT K),‹10›,#[Zi]]],#[Zk,(Yv K),T.b.n_len,Qu,#[Za,#[Zl,(ixG d),#[Zl,(ixG d),‹5›,#[Zz]],#[Zl,(ixT K),‹10›,#[Zi]]],#[Zf]]],(Zp _)]]]]],#[ZF]] #[Ze,#[Z0,(@UP _ _ _ _ #[Xs,#[ZB,lP,d,#[Za,‹6›,#[Za,‹5›,#[Za,‹10›,#[Zf]]]],#[5]]]),#[Zj,#[Zr,#[WV]]],#[ZF]],#[Zj,#[Z0,(@PW.pt _ _ _ #[XS,#[Xs,‹11›],#[Xl,(@UP _ _ _ _ #[Xs,#[ZB,gh,d,#[Za,‹6›,#[Za,‹5›,#[Za,‹9›,#[Za,#[Zi],#[Zf]]]]],#[5]]])]]),#[Zj,#[Zr,#[WV]]],#[ZF]]]])]]])]])]]],#[Zj,#[Zr,#[WV]]]],?_⟩;have Bq:=NG (sc.map V.int) none (some 4);have ao:(sc.map V.int).length=sc.length:=by rw[Qa]
 have j1:2≤sizeLine:=by decide
 refine⟨_,rfl,_,rfl,a,_,rfl,hS,fun e J=>⟨e,_,rfl,.inl (SqL.of Zd),_,_,rfl,rfl,_,rfl,by lia,by lia,?_⟩⟩;have s1:ZG H (upd H e (.lst (XO (sc.map V.int) none (some 4)))):=Zh J _;refine Vp (fun i g H2=>∃v1 v2 v3 v4 v5 v6 v7 B v9 fe gU:Option V,g=[some (.ref a),v1,v2,v3,v4,v5,v6,v7,B,v9,fe,gU]∧ZG H H2) ⟨_,_,_,_,_,_,_,_,_,_,_,rfl,s1⟩ ?_ ?_
 ·rintro ii g H2 hi ⟨v1,v2,v3,v4,v5,v6,v7,B,v9,fe,gU,rfl,s2⟩;have wP:(ii:Int)<65:=by lia
  refine⟨_,rfl,_,rfl,a,sc,_,rfl,s2.seq hS,rj,by lia,by lia,fun p H3 hp L3 s3=>?_⟩;have sZ:H p=none:=s2.free hp;refine⟨_,rfl,p,0,rfl,L3,by decide,fun r rs c4 H4 ay b8 nP sN L4 a1 a2 B4=>?_⟩;refine⟨_,rfl,p,c4,rfl,L4,by lia,fun l ss c5 M rL hl h1 h4 pi LB b1 b2 BB=>?_⟩;have sI:r≠p:=by obtain⟨o,ho⟩:=L3.here;exact(Zb ho ay).symm
  have nF:l≠p:=by obtain⟨o,ho⟩:=L4.here;exact(Zb ho rL).symm
  have b9:∀x∈rs,sortedS x.2=true:=fun x t=>(nP x t).2.2.2.1;have kQ:Wu M r rs:=⟨BB _ _ b8.at' sI,b8.few,fun x t=>let ⟨g1,g2⟩:=b8.lst x t;⟨BB _ _ g1 (nP x t).2.2.1,g2⟩⟩;have Br:ZG H M:=fun b o v=>BB b o (B4 b o (s3 b o (s2 b o v)) (Zb v sZ)) (Zb v sZ);have N:∃u,M p=some u:=LB.here;have Jw:0≤c5∧c5≤20000:=by lia
  clear a1 a2 b1 b2 hi Bq ao wP rj;refine⟨_,_,rfl,?_⟩;refine⟨fun g H9=>∃ (X:MS) (Y:OS),g=[some (.ref a),some (.int (0+(ii:Int))),some (.ref p),some (.ref r),some (.ref l),some (.ref Y.o),some (.ref X.m),v7,B,v9,fe,gU]∧Wk ab U M p H9 X Y∧X.nb≤12∧Y7 H9 p c5,?_,?_⟩
  ·refine⟨_,rfl,r,rs,rfl,kQ,fun o ra ga Lo k0 q0 H6 ho jW jg nga cH kj ow bu s6=>?_⟩;refine⟨_,rfl,fun m O hm sS Be=>?_⟩;have s7:ZG H6 (upd (upd H6 O (.own m)) m (.ins U O [])):=fun b o v=>by rw[Zc (Zb v hm),Zc (Zb v sS)];exact v
   have nU:(upd (upd H6 O (.own m)) m (.ins U O [])) m=some (.ins U O []):=Zd;generalize upd (upd H6 O (.own m)) m (.ins U O [])=C at s7 nU ⊢;refine⟨m,O,r,rs,rfl,nU,(kQ.same s6).same s7,b9,fun rd sd L st w0 k2 q2 H8 M8 cQ W8 S8 P8 lI k8=>⟨rfl,_,_,rfl,?_⟩⟩;obtain⟨X8,Y8,W8,rfl,rfl,Jx⟩:∃ (X:MS) (Y:OS),Wk ab U M p H8 X Y∧X.m=m∧Y.o=o∧X.nb=(rs.length:Int):=Zqw kQ (fun x t=>(nP x t).2.2.2.2) sN ho jW jg nga cH kj ow bu s6 hm s7 M8 cQ W8 S8 P8 lI k8;have L9:Y7 H8 p c5:=by obtain⟨g1,g2,cX,c0⟩:=LB;exact⟨g1,g2,k8 _ _ (s7 _ _ (s6 _ _ cX)) (fun z=>by rw[z]at cX;rw[s6 _ _ cX]at hm;cases hm),c0⟩
   exact⟨X8,Y8,rfl,W8,by lia,L9⟩
  rintro g H9 ⟨X8,Y8,rfl,W9,ka,L9⟩;refine⟨_,rfl,by decide,by decide,?_⟩;refine Vp (fun i g H5=>∃ (X:MS) (Y:OS) (c:Int) (v7 B v9 fe gU:Option V),g=[some (.ref a),some (.int (0+(ii:Int))),some (.ref p),some (.ref r),some (.ref l),some (.ref Y.o),some (.ref X.m),v7,B,v9,fe,gU]∧Wk ab U M p H5 X Y∧X.nb≤12+(i:Int)∧Y7 H5 p c∧c≤c5+710*(i:Int)) ⟨X8,Y8,c5,_,_,_,_,_,rfl,W9,by lia,L9,by lia⟩ ?_ ?_
  ·rintro i g H5 mx ⟨X0,Y0,c,Bs,Bu,tf,n6,n8,rfl,W0,wQ,L5,hc⟩;have wP:i<8:=by lia
   have c0:=L5.ge;clear ka W9 L9;refine⟨fun g C=>∃ (X:MS) (Y:OS) (B:Option V),g=[some (.ref a),some (.int (0+(ii:Int))),some (.ref p),some (.ref r),some (.ref l),some (.ref Y.o),some (.ref X.m),some (.int (0+(i:Int))),B,tf,n6,n8]∧Wk ab U M p C X Y∧X.nb≤12+(i:Int)∧Y7 C p (c+1),?_,?_⟩
   ·refine⟨_,rfl,p,c,5,rfl,L5,by lia,by decide,by decide,fun n H6 n0 n1 L6 B6=>⟨_,rfl,by lia,by lia,?_⟩⟩;have W6:=W0.draw N L5 B6;refine Vp (fun k g C=>∃ (X:MS) (Y:OS) (B:Option V),g=[some (.ref a),some (.int (0+(ii:Int))),some (.ref p),some (.ref r),some (.ref l),some (.ref Y.o),some (.ref X.m),some (.int (0+(i:Int))),B,tf,n6,n8]∧Wk ab U M p C X Y∧X.nb≤12+(i:Int)∧Y7 C p (c+1)) ⟨X0,Y0,_,rfl,W6,wQ,L6⟩ ?_ (fun _ _ h=>h);rintro k g C hk ⟨X,Y,B,rfl,W,ka,L7⟩;have j:=W.pr;have aI:(Y.Lo.map (·.1)).Pairwise (·<·):=by rw[Xt j.ag];exact j.mg.M.up
    obtain⟨hG,gC⟩:=j.mg.M.ob;refine⟨_,rfl,X.m,hG,_,rfl,gC,Ot ..,X.m,X.rd,X.sd,X.L,X.s,X.nb,X.li,X.lo,X.w,rfl,j.mg.M,j.mg.W,j.mg.ok,fun x L' s' w' k3 q3 fv hR j' D nZ k12=>?_⟩;have G:Own fv Y.o Y.ra Y.ga Y.Lo Y.nb X.li X.lo:=j.ow.keep fun b u v fj=>k12 b u v fun z=>j.sep b z fj;refine⟨_,rfl,Y.o,Y.ra,Y.ga,Y.Lo,Y.nb,X.li,X.lo,rfl,G,aI,fun y cu k4 q4 sY hT kT k13=>?_⟩;obtain⟨X',Y',lM,eM,eO,eN,nQ,f1,f2,kk⟩:=W.take2 L7.here hR j' D nZ k12 hT kT k13;have pG:=W.left N L7 kk;refine⟨x,y,rfl,nQ,fun Bv gz=>⟨_,rfl,YR ?_⟩⟩;rw[← eM,← eO];exact⟨X',Y',_,rfl,lM.same gz,by lia,pG.same gz⟩
   rintro g C ⟨X,Y,B,rfl,W,ka,L7⟩;obtain⟨hG,gC⟩:=W.pr.mg.M.ob;refine⟨_,rfl,X.m,hG,_,rfl,gC,OI ..,X.m,X.rd,X.sd,X.L,X.s,X.nb,X.li,X.lo,_,rfl,W.pr.mg.M,_,rfl,X.m,hG,_,rfl,gC,OH ..,X.m,X.rd,X.sd,X.L,X.s,X.nb,X.li,X.lo,_,rfl,W.pr.mg.M,j1,fun R kn=>?_⟩;have sa:=Zh kn (.tup [.int X.li,.int X.lo]);have ea:(upd C R (.tup [.int X.li,.int X.lo])) R=some (.tup [.int X.li,.int X.lo]):=Zd;generalize upd C R (.tup [.int X.li,.int X.lo])=dB at sa ea ⊢;have S:=W.same sa;have lH:=L7.same sa;have Bw:R≠p:=by obtain⟨u,hu⟩:=L7.here;exact(Zb hu kn).symm
   have Bx:¬ MFp X R:=W.pr.mg.M.fp_fresh kn;have By:¬ Y9 Y R:=fun z=>by obtain⟨u,hu,_⟩:=W.pr.ow.live z;rw[kn]at hu;cases hu
   have j:=S.pr;have aI:(Y.Lo.map (·.1)).Pairwise (·<·):=by rw[Xt j.ag];exact j.mg.M.up
   have Bz:∀e∈Y.Lo,e.2.1≠p∧sortedS e.2.2.1=true:=fun e J=>by
    refine⟨fun z=>(S.np N).2 (.inr (.inr (.inr ⟨e,J,z.symm⟩))),?_⟩;have:(e.1,e.2.2)∈ZO X.L:=by rw[← Vt j.ag];exact Qd (f:=fun e:ZA=>(e.1,e.2.2)) J
    obtain⟨e',aD,z⟩:=Qi.mp this;injection z with _ z;rw[← z];exact(j.mg.M.each e' aD).srt
   refine⟨_,rfl,_,rfl,_,rfl,p,Y.o,Y.ra,Y.ga,l,c+1,Y.Lo,Y.nb,X.li,X.lo,ss,rfl,lH,by lia,j.ow,fun z=>(S.np N).2 (.inl z.symm),fun z=>(S.np N).2 (.inr (.inl z.symm)),fun z=>(S.np N).2 (.inr (.inr (.inl z.symm))),Bz,aI,S.but _ _ hl nF,nF,h1,h4,pi,fun I r' dd n Z c' i3 rE qk gE ql iH fu tj BA e1 e2 wR=>?_⟩;have wT:=S.draw N lH wR;have wU:=wR _ _ ea Bw;have iJ:Si (ZO X.L) X.nb n Z dd:=by rw[← Vt j.ag,S.nb];exact tj
   have nM:¬ MFp X r':=j.mg.M.fp_fresh qk;have nO:¬ Y9 Y r':=fun z=>by obtain⟨u,hu,_⟩:=j.ow.live z;rw[qk]at hu;cases hu
   refine⟨_,rfl,I,_,_,_,rfl,rfl,SqT.of gE,rfl,?_⟩;refine⟨rfl,?_⟩;refine⟨fun g fv=>∃b:Bool,g=[some (.ref a),some (.int (0+(ii:Int))),some (.ref p),some (.ref r),some (.ref l),some (.ref Y.o),some (.ref X.m),some (.int (0+(i:Int))),B,some (.ref R),some (.ref I),some (.bl b)]∧ZG i3 fv∧(b=true→dd=.grow→Z≠[]∧∃x∈ZO X.L,x.1=n∧x.2.2=x.2.1.length),?_,?_⟩
   ·clear e1 e2;cases dd with
    | add=>exact⟨_,rfl,I,_,_,_,rfl,rfl,SqT.of gE,rfl,rfl,_,rfl,YG (by intro z;injection z with z;exact absurd z #[1]) ⟨_,rfl,ZG.refl _,fun _ z=>by cases z⟩⟩
    | drop=>exact⟨_,rfl,I,_,_,_,rfl,rfl,SqT.of gE,rfl,rfl,_,rfl,YG (by intro z;injection z with z;exact absurd z #[1]) ⟨_,rfl,ZG.refl _,fun _ z=>by cases z⟩⟩
    | grow =>
     obtain⟨x,t,ke,_⟩:=iJ;rw[← Vt j.ag]at t;obtain⟨e,J,rfl⟩:=Qi.mp t;have BC:e.1=n:=ke;subst BC;have kc:∀x∈Z,AZ x:=fun x t=>(fu x t).2;refine⟨_,rfl,I,_,_,_,rfl,rfl,SqT.of gE,rfl,rfl,_,rfl,YI rfl ?_⟩;refine⟨_,rfl,I,_,_,_,rfl,rfl,SqT.of gE,rfl,(by show 0≤sizeLine;decide),fun z hz=>?_⟩;have sz:=Zh hz (.lst []);refine⟨.list (Z.map PyData.str),.list [],.lst (SqL.of (sz _ _ ql)) (Wc Z),.lst (SqL.of Zd) .nil,VB Z kc,#[1],_,rfl,?_⟩;rw[if_pos rfl,J0];have G:=wT.pr.ow.same sz;have n9:=sz _ _ gE;generalize upd i3 z (.lst [])=fv at sz G n9 ⊢;obtain⟨l1,_⟩:=G.lst e J;by_cases dQ:Z=[]
     ·refine WB dQ ?_;exact⟨_,rfl,sz,fun z=>by simp[dQ]at z⟩
     refine Ui dQ ?_;refine⟨_,rfl,Y.o,_,rfl,ZR.k' (k:=.inr "gone") G.at' (WJ ..),_,rfl,I,_,_,_,rfl,rfl,SqT.of n9,rfl,Y.ga,_,rfl,ZR.k' (k:=.inl e.1) G.gone (VA G.nd J),_,rfl,Y.o,_,rfl,ZR.k' (k:=.inr "rows") G.at' (Xu ..),_,rfl,I,_,_,_,rfl,rfl,SqT.of n9,rfl,Y.ra,_,rfl,ZR.k' (k:=.inl e.1) G.rows (UV G.nd J),e.2.1,_,rfl,.inl (SqL.of l1),rfl,?_⟩;refine⟨_,rfl,sz,fun z _=>⟨dQ,(e.1,e.2.2),by rw[← Vt j.ag];exact t,rfl,?_⟩⟩;have:=of_decide_eq_true z;injection this with this;rw[Qa]at this;show e.2.2.2=e.2.2.1.length;lia
   rintro g fv ⟨b,rfl,gK,v⟩;have D:=wT.same gK;have wV:=BA.same gK;refine⟨_,rfl,_,rfl,_,rfl,X,Y,I,r',dd,n,Z,rfl,D.pr,D.nga,D.nb,gK _ _ gE,gK _ _ ql,nM,nO,fun x t=>⟨by have:=(fu x t).1;lia,(fu x t).2⟩,by lia,Zn0 D.inv iJ iH,fun X' Y' sY kR eM eO nN nb' wW tq fM fO kk BD=>⟨_,rfl,YR ?_⟩⟩;have lM:=D.to wV.here kR nN nb' (by rw[tq,wW];exact ZnP (Om D.pr.mg) D.inv iJ iH) fM fO kk;have pG:=D.left N wV kk;have tt:=kk _ _ (gK _ _ wU) Bx By;have B8:X'.nb≤12+(i:Int)+1:=by
    rw[wW];cases dd with
    | add=>show X.nb+1≤_;lia
    | drop=>show X.nb≤_;lia
    | grow=>show X.nb≤_;lia
   rw[← eM,← eO];cases b with
   | false=>exact⟨_,rfl,_,rfl,YR (YR ⟨X',Y',c',_,_,_,_,_,rfl,lM,by lia,pG,by lia⟩)⟩
   | true=>obtain⟨k0,q0,ek,eq,pl⟩:=BD (v rfl);refine⟨_,rfl,_,rfl,XN ⟨_,rfl,_,rfl,_,rfl,X',Y',R,X.li,X.lo,k0,q0,12,rfl,kR,by lia,tt,by decide,ek,eq,pl,fun Bv gz=>⟨_,rfl,YR ?_⟩⟩⟩;exact⟨X',Y',c',_,_,_,_,_,rfl,lM.same gz,by lia,pG.same gz,by lia⟩
  ·rintro g H5 ⟨X,Y,c,Bs,Bu,tf,n6,n8,rfl,W,_,L5,hc⟩;refine⟨_,_,_,_,_,_,_,_,_,_,_,rfl,fun b u v=>?_⟩;exact W.but b u (Br b u v) (Zb v sZ)
 ·rintro g H2 ⟨v1,v2,v3,v4,v5,v6,v7,B,v9,fe,gU,rfl,s2⟩;exact q H2
end
theorem ZW{K:#[7]}{h:Heap}{mg:Str→Option Value}{x:Str}{st:Stmt}{ps:List Str}{f:Addr}{g b:Option Addr}{sl:Array (Option Value)}{i kV j d e ct:Value}(X:K.In h)(G:h.Ns mainGlobals mg)
  (a:PySem.W.nsIn K mainGlobals x=some (some (.ref f))) (l:K.lookup f=some ⟨i,g,.func (PySem.W.fnOf x x (Zq st) (Zo st) (Zg st) .none kV j d b e ct),sl⟩) (c:PySem.W.codeIn K e x=true) (k:PySem.W.keepIn K (.ref f)=true)
  (hb:∀ (kV m d:Value) (b:Option Addr) (n ct:Value) (us:List Value),us.length=ps.length→bindArgs (PySem.W.fnOf x x (Zq st) (Zo st) (Zg st) .none kV m d b n ct) ⟨us,[]⟩=pure (ps.zip us)):Top K mg x st ps :=
 ⟨_,_,ZN (st:=st) l c k,Qa6 X G a,(ZN (st:=st) l c k).binds hb⟩
theorem Ob{n:Nat}{us:List Value}(h:us.length=n+1):∃a r,us=a::r∧r.length=n:=by obtain⟨a,r,rfl⟩:=List.exists_cons_of_length_eq_add_one h;exact⟨a,r,rfl,Nat.succ.inj h⟩
theorem Yt(us:List Value)(h:us.length=1):∃a0,us=[a0]:=Qar.mp h
theorem Yz(us:List Value)(h:us.length=2):∃a0 a1,us=[a0,a1]:=by obtain⟨a,r,rfl,g⟩:=Ob h;obtain⟨b,rfl⟩:=Yt r g;exact⟨a,b,rfl⟩
theorem WF(us:List Value)(h:us.length=3):∃a0 a1 a2,us=[a0,a1,a2]:=by obtain⟨a,r,rfl,g⟩:=Ob h;obtain⟨b,c,rfl⟩:=Yz r g;exact⟨a,b,c,rfl⟩
theorem JK(us:List Value)(h:us.length=4):∃a0 a1 a2 a3,us=[a0,a1,a2,a3]:=by obtain⟨a,r,rfl,g⟩:=Ob h;obtain⟨b,c,d,rfl⟩:=WF r g;exact⟨a,b,c,d,rfl⟩
theorem all_mk{l:PySem.W.OpenLaw}{w:World}{K:#[7]}{h:Heap}{mg:Str→Option Value}{fa:Addr}(X:K.In h)(G:h.Ns mainGlobals mg)(BE:mg "law" = some (.ref fa))
  {ab:Addr}
  {U:Addr}
  {iK:Tok}
  (aCRow:#[Xns,K,"Row",ab]) (pgRow:PySem.W.plainGet K ab Str.empty=true) (hdRow:PySem.W.hasDictIn K ab=true) (poRow:PySem.W.plainOver K ab=true) (saRow:PySem.W.findIn K (.ref ab) "__setattr__" = some (some (.builtin "object.__setattr__"))) (mkRow:PySem.W.makesIn K ab=true) (kcRow:#[Xki,K,ab])
  (nARow_all_keys:PySem.W.findIn K (.ref ab) "all_keys" = some none)
  (nARow_fars:PySem.W.findIn K (.ref ab) "fars" = some none)
  (nARow_gone:PySem.W.findIn K (.ref ab) "gone" = some none)
  (aCMerge:#[Xns,K,"Merge",U]) (pgMerge:PySem.W.plainGet K U Str.empty=true) (hdMerge:PySem.W.hasDictIn K U=true) (poMerge:PySem.W.plainOver K U=true) (saMerge:PySem.W.findIn K (.ref U) "__setattr__" = some (some (.builtin "object.__setattr__"))) (mkMerge:PySem.W.makesIn K U=true) (kcMerge:#[Xki,K,U])
  (nAMerge_best:PySem.W.findIn K (.ref U) "best" = some none)
  (nAMerge_likened:PySem.W.findIn K (.ref U) "likened" = some none)
  (nAMerge_looked:PySem.W.findIn K (.ref U) "looked" = some none)
  (nAMerge_next_number:PySem.W.findIn K (.ref U) "next_number" = some none)
  (nAMerge_rows:PySem.W.findIn K (.ref U) "rows" = some none)
  (nAMerge_stays:PySem.W.findIn K (.ref U) "stays" = some none)
  (a0:#[Xns,K,"halves",f0]) (l0:#[Xlk,K,f0,Jy,Jz,"halves","halves",Rw,JA,JB,JC,JD,BF,JE,JF]) (c0:#[Xci,K,BF,"halves"]) (k0:#[Xki,K,f0])
  (a1:#[Xns,K,"way_up",f1]) (l1:#[Xlk,K,f1,JG,JH,"way_up","way_up",Rv,JI,JJ,J',K',BG,P',R']) (c1:#[Xci,K,BG,"way_up"]) (k1:#[Xki,K,f1])
  (a2:#[Xns,K,"alike",f2]) (l2:#[Xlk,K,f2,S',U',"alike","alike",Ru,V',Z',pm2,an2,BH,ct2,oz]) (c2:#[Xci,K,BH,"alike"]) (k2:#[Xki,K,f2])
  (a3:#[Xns,K,"liken",f3]) (l3:#[Xlk,K,f3,oc3,od3,"liken","liken",Rt,kV3,dc3,pm3,an3,BI,ct3,sl3]) (c3:#[Xci,K,BI,"liken"]) (k3:#[Xki,K,f3])
  (a4:#[Xns,K,"liken_from",f4]) (l4:#[Xlk,K,f4,oc4,od4,"liken_from","liken_from",Rs,kV4,dc4,pm4,an4,BJ,ct4,sl4]) (c4:#[Xci,K,BJ,"liken_from"]) (k4:#[Xki,K,f4])
  (a5:#[Xns,K,"alike_from",f5]) (l5:#[Xlk,K,f5,oc5,od5,"alike_from","alike_from",Rr,kV5,dc5,pm5,an5,BK,ct5,sl5]) (c5:#[Xci,K,BK,"alike_from"]) (k5:#[Xki,K,f5])
  (a6:#[Xns,K,"order_at",f6]) (l6:#[Xlk,K,f6,oc6,od6,"order_at","order_at",Rq,kV6,dc6,pm6,an6,BL,ct6,sl6]) (c6:#[Xci,K,BL,"order_at"]) (k6:#[Xki,K,f6])
  (a7:#[Xns,K,"first_break",f7]) (l7:#[Xlk,K,f7,oc7,od7,"first_break","first_break",Rp,kV7,dc7,pm7,an7,BM,ct7,sl7]) (c7:#[Xci,K,BM,"first_break"]) (k7:#[Xki,K,f7])
  (a8:#[Xns,K,"alikes",f8]) (l8:#[Xlk,K,f8,oc8,od8,"alikes","alikes",Ro,kV8,dc8,pm8,an8,BN,ct8,sl8]) (c8:#[Xci,K,BN,"alikes"]) (k8:#[Xki,K,f8])
  (a9:#[Xns,K,"refuse_break",f9]) (l9:#[Xlk,K,f9,oc9,od9,"refuse_break","refuse_break",Rm,kV9,dc9,pm9,an9,BO,ct9,sl9]) (c9:#[Xci,K,BO,"refuse_break"]) (k9:#[Xki,K,f9])
  (a10:#[Xns,K,"matches_up",wX]) (l10:#[Xlk,K,wX,B',Ca,"matches_up","matches_up",Rl,Cb,Cc,Cd,Ce,wY,Cg,Ch]) (c10:#[Xci,K,wY,"matches_up"]) (k10:#[Xki,K,wX])
  (a11:#[Xns,K,"_law_mix",wZ]) (l11:#[Xlk,K,wZ,Ci,Cj,"_law_mix","_law_mix",Rk,Ck,Cm,Cn,Co,w6,Cp,Cq]) (c11:#[Xci,K,w6,"_law_mix"]) (k11:#[Xki,K,wZ])
  (a12:#[Xns,K,"_law_left",w8]) (l12:#[Xlk,K,w8,Cr,Cs,"_law_left","_law_left",Rj,Ct,Cu,Cv,Cw,xa,Cy,Cz]) (c12:#[Xci,K,xa,"_law_left"]) (k12:#[Xki,K,w8])
  (a13:#[Xns,K,"_law_pick",xb]) (l13:#[Xlk,K,xb,CA,CB,"_law_pick","_law_pick",Ri,CC,CD,CF,CG,xc,CH,CI]) (c13:#[Xci,K,xc,"_law_pick"]) (k13:#[Xki,K,xb])
  (a14:#[Xns,K,"_law_stems",xf]) (l14:#[Xlk,K,xf,CJ,CK,"_law_stems","_law_stems",Tj,CL,CM,CN,CO,xg,CP,CQ]) (c14:#[Xci,K,xg,"_law_stems"]) (k14:#[Xki,K,xf])
  (a15:#[Xns,K,"_law_key",xh]) (l15:#[Xlk,K,xh,CS,CT,"_law_key","_law_key",Ti,CU,CW,CY,CZ,xi,C0,C1]) (c15:#[Xci,K,xi,"_law_key"]) (k15:#[Xki,K,xh])
  (a16:#[Xns,K,"_law_keys",xj]) (l16:#[Xlk,K,xj,C2,C3,"_law_keys","_law_keys",Rh,C4,C5,C6,C7,xk,C8,C9]) (c16:#[Xci,K,xk,"_law_keys"]) (k16:#[Xki,K,xj])
  (a17:#[Xns,K,"_law_row",xl]) (l17:#[Xlk,K,xl,C',Db,"_law_row","_law_row",Rg,Dc,Dd,De,Dg,xm,Dh,Di]) (c17:#[Xci,K,xm,"_law_row"]) (k17:#[Xki,K,xl])
  (a18:#[Xns,K,"_law_many",xn]) (l18:#[Xlk,K,xn,Dj,Dk,"_law_many","_law_many",Rf,Dl,Dm,Do,Dp,xp,Dq,Dr]) (c18:#[Xci,K,xp,"_law_many"]) (k18:#[Xki,K,xn])
  (a19:#[Xns,K,"_law_rows",xq]) (l19:#[Xlk,K,xq,Ds,Dt,"_law_rows","_law_rows",Th,Du,Dv,Dw,Dx,xr,Dy,Dz]) (c19:#[Xci,K,xr,"_law_rows"]) (k19:#[Xki,K,xq])
  (a20:#[Xns,K,"_law_alike",xt]) (l20:#[Xlk,K,xt,DA,DB,"_law_alike","_law_alike",Rc,DC,DD,DE,DF,xu,DG,DI]) (c20:#[Xci,K,xu,"_law_alike"]) (k20:#[Xki,K,xt])
  (a21:#[Xns,K,"_law_halves",xv]) (l21:#[Xlk,K,xv,DJ,DK,"_law_halves","_law_halves",P9,DL,DM,DN,DO,xw,DP,DQ]) (c21:#[Xci,K,xw,"_law_halves"]) (k21:#[Xki,K,xv])
  (a22:#[Xns,K,"_law_least",xx]) (l22:#[Xlk,K,xx,DR,DS,"_law_least","_law_least",Tg,DT,DU,DW,DX,xy,DY,DZ]) (c22:#[Xci,K,xy,"_law_least"]) (k22:#[Xki,K,xx])
  (a23:#[Xns,K,"_law_same",xz]) (l23:#[Xlk,K,xz,D0,D1,"_law_same","_law_same",Tf,D4,D5,D6,D7,xA,D8,D9]) (c23:#[Xci,K,xA,"_law_same"]) (k23:#[Xki,K,xz])
  (a24:#[Xns,K,"_law_world",xB]) (l24:#[Xlk,K,xB,D',Ea,"_law_world","_law_world",P7,Eb,Ec,Ed,Ee,xC,Ef,Eg]) (c24:#[Xci,K,xC,"_law_world"]) (k24:#[Xki,K,xB])
  (a25:#[Xns,K,"_law_heads",xD]) (l25:#[Xlk,K,xD,Eh,Ei,"_law_heads","_law_heads",P6,Ej,Ek,El,Em,xE,En,Eo]) (c25:#[Xci,K,xE,"_law_heads"]) (k25:#[Xki,K,xD])
  (a26:#[Xns,K,"_law_first_play",xF]) (l26:#[Xlk,K,xF,Ep,Er,"_law_first_play","_law_first_play",P0,Es,Et,Eu,Ev,xG,Ew,Ex]) (c26:#[Xci,K,xG,"_law_first_play"]) (k26:#[Xki,K,xF])
  (a27:#[Xns,K,"_law_play",xH]) (l27:#[Xlk,K,xH,Ey,Ez,"_law_play","_law_play",PZ,EB,EC,ED,EE,xI,EF,EG]) (c27:#[Xci,K,xI,"_law_play"]) (k27:#[Xki,K,xH])
  (a28:#[Xns,K,"_law_way",xJ]) (l28:#[Xlk,K,xJ,EH,EI,"_law_way","_law_way",PY,EJ,EK,EL,EM,xK,EN,EO]) (c28:#[Xci,K,xK,"_law_way"]) (k28:#[Xki,K,xJ])
  (a29:#[Xns,K,"_law_coming",xL]) (l29:#[Xlk,K,xL,EQ,ER,"_law_coming","_law_coming",PX,ES,ET,EU,EV,xM,EW,EX]) (c29:#[Xci,K,xM,"_law_coming"]) (k29:#[Xki,K,xL])
  (a30:#[Xns,K,"_law_taken",xN]) (l30:#[Xlk,K,xN,EY,EZ,"_law_taken","_law_taken",PV,E1,E2,E3,E4,xO,E5,E6]) (c30:#[Xci,K,xO,"_law_taken"]) (k30:#[Xki,K,xN])
  (a31:#[Xns,K,"_law_late",xP]) (l31:#[Xlk,K,xP,E7,E8,"_law_late","_law_late",Vd,E9,Fa,Fb,Fc,xQ,Fd,Fe]) (c31:#[Xci,K,xQ,"_law_late"]) (k31:#[Xki,K,xP])
  (a32:#[Xns,K,"_law_done",xR]) (l32:#[Xlk,K,xR,Ff,Fg,"_law_done","_law_done",PU,Fh,Fi,Fj,Fk,xS,Fl,Fm]) (c32:#[Xci,K,xS,"_law_done"]) (k32:#[Xki,K,xR])
  (a33:#[Xns,K,"_law_anew",xT]) (l33:#[Xlk,K,xT,Fn,Fo,"_law_anew","_law_anew",Te,Fq,Fs,Ft,Fu,xU,Fv,Fw]) (c33:#[Xci,K,xU,"_law_anew"]) (k33:#[Xki,K,xT])
  (a34:#[Xns,K,"_law_goes_alike",xV]) (l34:#[Xlk,K,xV,Fx,Fy,"_law_goes_alike","_law_goes_alike",PR,Fz,FA,FC,FD,xW,FE,FF]) (c34:#[Xci,K,xW,"_law_goes_alike"]) (k34:#[Xki,K,xV])
  (a35:#[Xns,K,"law",xX]) (l35:#[Xlk,K,xX,FG,FH,"law","law",VI,xY,xZ,x0,x5,qm,x6,FI]) (c35:#[Xci,K,qm,"law"]) (k35:#[Xki,K,xX])
  (a36:#[Xfi,K,ab,"__init__",tu]) (i36:#[Xif,K,tu]) (l36:#[Xlk,K,tu,FJ,FK,"__init__","Row.__init__",UE,FL,FM,FN,FO,x8,FP,FQ]) (c36:#[Xci,K,x8,"Row.__init__"]) (k36:#[Xki,K,tu])
  (a37:#[Xfi,K,ab,"copied",tw]) (i37:#[Xif,K,tw]) (l37:#[Xlk,K,tw,FR,FS,"copied","Row.copied",UD,FT,FU,FW,FX,x9,FY,FZ]) (c37:#[Xci,K,x9,"Row.copied"]) (k37:#[Xki,K,tw])
  (a38:#[Xfi,K,ab,"to_go",tz]) (i38:#[Xif,K,tz]) (l38:#[Xlk,K,tz,F0,F1,"to_go","Row.to_go",UC,F3,F4,F5,F6,ya,F7,F8]) (c38:#[Xci,K,ya,"Row.to_go"]) (k38:#[Xki,K,tz])
  (a39:#[Xfi,K,ab,"head",tE]) (i39:#[Xif,K,tE]) (l39:#[Xlk,K,tE,F9,Ga,"head","Row.head",UB,Gb,Gc,Gd,Ge,yb,Gf,Gg]) (c39:#[Xci,K,yb,"Row.head"]) (k39:#[Xki,K,tE])
  (a40:#[Xfi,K,ab,"lengthen",tF]) (i40:#[Xif,K,tF]) (l40:#[Xlk,K,tF,Gh,Gi,"lengthen","Row.lengthen",UA,Gj,Gk,Gm,Gn,yc,Go,Gp]) (c40:#[Xci,K,yc,"Row.lengthen"]) (k40:#[Xki,K,tF])
  (a41:#[Xfi,K,U,"__init__",tG]) (i41:#[Xif,K,tG]) (l41:#[Xlk,K,tG,Gq,Gr,"__init__","Merge.__init__",Uz,Gs,Gu,Gv,Gw,yd,Gx,Gy]) (c41:#[Xci,K,yd,"Merge.__init__"]) (k41:#[Xki,K,tG])
  (a42:#[Xfi,K,U,"coming",tH]) (i42:#[Xif,K,tH]) (l42:#[Xlk,K,tH,Gz,GA,"coming","Merge.coming",Uy,GB,GC,GD,GF,ye,GG,GH]) (c42:#[Xci,K,ye,"Merge.coming"]) (k42:#[Xki,K,tH])
  (a43:#[Xfi,K,U,"take",tI]) (i43:#[Xif,K,tI]) (l43:#[Xlk,K,tI,GI,GJ,"take","Merge.take",Ux,GK,GL,GN,GO,yf,GP,GQ]) (c43:#[Xci,K,yf,"Merge.take"]) (k43:#[Xki,K,tI])
  (a44:#[Xfi,K,U,"left",tJ]) (i44:#[Xif,K,tJ]) (l44:#[Xlk,K,tJ,GR,GS,"left","Merge.left",Vc,GU,GV,GW,GX,yg,GY,GZ]) (c44:#[Xci,K,yg,"Merge.left"]) (k44:#[Xki,K,tJ])
  (a45:#[Xfi,K,U,"likenings",tK]) (i45:#[Xif,K,tK]) (l45:#[Xlk,K,tK,G0,G1,"likenings","Merge.likenings",Z4,G2,G3,G4,G5,yh,G6,G7]) (c45:#[Xci,K,yh,"Merge.likenings"]) (k45:#[Xki,K,tK])
  (a46:#[Xfi,K,U,"looks",tL]) (i46:#[Xif,K,tL]) (l46:#[Xlk,K,tL,G8,G9,"looks","Merge.looks",Uw,Ha,Hb,Hc,He,yi,Hg,Hh]) (c46:#[Xci,K,yi,"Merge.looks"]) (k46:#[Xki,K,tL])
  (a47:#[Xfi,K,U,"twin",tM]) (i47:#[Xif,K,tM]) (l47:#[Xlk,K,tM,Hj,Hk,"twin","Merge.twin",Vb,Hl,Hm,Hn,Ho,yj,Hq,Hs]) (c47:#[Xci,K,yj,"Merge.twin"]) (k47:#[Xki,K,tM])
  (a48:#[Xfi,K,U,"add_row",tN]) (i48:#[Xif,K,tN]) (l48:#[Xlk,K,tN,Ht,Hv,"add_row","Merge.add_row",Uv,Hw,Hy,Hz,HA,yk,HC,HD]) (c48:#[Xci,K,yk,"Merge.add_row"]) (k48:#[Xki,K,tN])
  (a49:#[Xfi,K,U,"drop_row",tO]) (i49:#[Xif,K,tO]) (l49:#[Xlk,K,tO,HF,HG,"drop_row","Merge.drop_row",Z6,HH,HI,HJ,HK,yl,HL,HM]) (c49:#[Xci,K,yl,"Merge.drop_row"]) (k49:#[Xki,K,tO])
  (a50:#[Xfi,K,U,"grow",tP]) (i50:#[Xif,K,tP]) (l50:#[Xlk,K,tP,HN,HP,"grow","Merge.grow",Uu,HQ,HR,HS,HU,ym,HV,HW]) (c50:#[Xci,K,ym,"Merge.grow"]) (k50:#[Xki,K,tP])
  (a51:#[Xfi,K,U,"row_of",tQ]) (i51:#[Xif,K,tQ]) (l51:#[Xlk,K,tQ,HX,HY,"row_of","Merge.row_of",Ut,HZ,Ia,Ib,Ic,yn,Ie,Ig]) (c51:#[Xci,K,yn,"Merge.row_of"]) (k51:#[Xki,K,tQ])
  (a52:#[Xfi,K,U,"play_all",tR]) (i52:#[Xif,K,tR]) (l52:#[Xlk,K,tR,Ih,Ii,"play_all","Merge.play_all",Z8,Ij,Ik,Il,Im,yp,Io,Ip]) (c52:#[Xci,K,yp,"Merge.play_all"]) (k52:#[Xki,K,tR])
  (a53:#[Xfi,K,U,"play",tS]) (i53:#[Xif,K,tS]) (l53:#[Xlk,K,tS,Iq,Ir,"play","Merge.play",Us,Iu,Iv,Iw,Ix,yq,Iy,Iz]) (c53:#[Xci,K,yq,"Merge.play"]) (k53:#[Xki,K,tS])
  (a54:#[Xfi,K,U,"send_out",tT]) (i54:#[Xif,K,tT]) (l54:#[Xlk,K,tT,IA,IB,"send_out","Merge.send_out",Z7,IC,ID,IE,IF,yr,IG,IH]) (c54:#[Xci,K,yr,"Merge.send_out"]) (k54:#[Xki,K,tT])
  (a55:#[Xfi,K,U,"play_again",tU]) (i55:#[Xif,K,tU]) (l55:#[Xlk,K,tU,II,IJ,"play_again","Merge.play_again",ZZ,IK,IL,IM,IN,yt,IP,IQ]) (c55:#[Xci,K,yt,"Merge.play_again"]) (k55:#[Xki,K,tU])
  (a56:#[Xfi,K,U,"meet",tV]) (i56:#[Xif,K,tV]) (l56:#[Xlk,K,tV,IR,IS,"meet","Merge.meet",Ur,IT,IU,IV,IW,yu,IX,IY]) (c56:#[Xci,K,yu,"Merge.meet"]) (k56:#[Xki,K,tV])
  (giMOST_ROWS:PySem.W.nsIn K mainGlobals "MOST_ROWS" = some (some (.int 16 iK)))
  (z0:PySem.W.nsIn K mainGlobals "abs" = some none) (z1:PySem.W.nsIn K mainGlobals "all" = some none) (z2:PySem.W.nsIn K mainGlobals "bool" = some none) (z3:PySem.W.nsIn K mainGlobals "dict" = some none) (z4:PySem.W.nsIn K mainGlobals "enumerate" = some none) (z5:PySem.W.nsIn K mainGlobals "int" = some none) (z6:PySem.W.nsIn K mainGlobals "isinstance" = some none) (z7:PySem.W.nsIn K mainGlobals "len" = some none) (z8:PySem.W.nsIn K mainGlobals "list" = some none) (z9:PySem.W.nsIn K mainGlobals "max" = some none) (z10:PySem.W.nsIn K mainGlobals "min" = some none) (z11:PySem.W.nsIn K mainGlobals "range" = some none) (z12:PySem.W.nsIn K mainGlobals "sorted" = some none) (z13:PySem.W.nsIn K mainGlobals "str" = some none) (z14:PySem.W.nsIn K mainGlobals "sum" = some none) (z15:PySem.W.nsIn K mainGlobals "tuple" = some none) (z16:PySem.W.nsIn K mainGlobals "zip" = some none) :
  ∃fd:FuncData,(∀ (s:Shared) (v:Value),BindsTo s fd ⟨[v],[]⟩ [("_law_script",v)])∧∀base:Heap,K.In base→base.Ns mainGlobals mg→X2 l.prog w K mg base CX0 18 fa fd ["_law_script"] (Se K):=by
 have e:=BE.symm.trans (Qa6 X G a35);cases e;have T:Zt K mg ab U:=⟨⟨QE X G z0,QE X G z1,QE X G z2,QE X G z3,QE X G z4,QE X G z5,QE X G z6,QE X G z7,QE X G z8,QE X G z9,QE X G z10,QE X G z11,QE X G z12,QE X G z13,QE X G z14,QE X G z15,QE X G z16⟩,ZW X G a0 l0 c0 k0 #[1,Yt],ZW X G a1 l1 c1 k1 #[2,Yz],ZW X G a2 l2 c2 k2 #[2,Yz],ZW X G a3 l3 c3 k3 #[2,Yz],ZW X G a4 l4 c4 k4 #[3,WF],ZW X G a5 l5 c5 k5 #[3,WF],ZW X G a6 l6 c6 k6 #[3,WF],ZW X G a7 l7 c7 k7 #[1,Yt],ZW X G a8 l8 c8 k8 #[1,Yt],ZW X G a9 l9 c9 k9 #[2,Yz],ZW X G a10 l10 c10 k10 #[2,Yz],ZW X G a11 l11 c11 k11 #[2,Yz],ZW X G a12 l12 c12 k12 #[2,Yz],ZW X G a13 l13 c13 k13 #[2,Yz],ZW X G a14 l14 c14 k14 #[1,Yt],ZW X G a15 l15 c15 k15 #[2,Yz],ZW X G a16 l16 c16 k16 #[3,WF],ZW X G a17 l17 c17 k17 #[3,WF],ZW X G a18 l18 c18 k18 #[1,Yt],ZW X G a19 l19 c19 k19 #[1,Yt],ZW X G a20 l20 c20 k20 #[2,Yz],ZW X G a21 l21 c21 k21 #[1,Yt],ZW X G a22 l22 c22 k22 #[2,Yz],ZW X G a23 l23 c23 k23 #[2,Yz],ZW X G a24 l24 c24 k24 #[1,Yt],ZW X G a25 l25 c25 k25 #[1,Yt],ZW X G a26 l26 c26 k26 #[2,Yz],ZW X G a27 l27 c27 k27 #[1,Yt],ZW X G a28 l28 c28 k28 #[2,Yz],ZW X G a29 l29 c29 k29 #[1,Yt],ZW X G a30 l30 c30 k30 #[1,Yt],ZW X G a31 l31 c31 k31 #[3,WF],ZW X G a32 l32 c32 k32 #[3,WF],ZW X G a33 l33 c33 k33 #[2,Yz],ZW X G a34 l34 c34 k34 (fun _ _ _ _ _ _ us hl=>by obtain⟨_,_,_,_,rfl⟩:=JK us hl;exact rfl),⟨_,_,ZN (st:=UE) l36 c36 k36,⟨mkRow,a36,i36,kcRow⟩,(ZN (st:=UE) l36 c36 k36).binds (ps:=["self", "keys"]) #[2,Yz],Qa6 X G aCRow⟩,⟨_,_,ZN (st:=UD) l37 c37 k37,⟨a37,i37,k37⟩,(ZN (st:=UD) l37 c37 k37).binds (ps:=["self"]) #[1,Yt]⟩,⟨_,_,ZN (st:=UC) l38 c38 k38,⟨a38,i38,k38⟩,(ZN (st:=UC) l38 c38 k38).binds (ps:=["self"]) #[1,Yt]⟩,⟨_,_,ZN (st:=UB) l39 c39 k39,⟨a39,i39,k39⟩,(ZN (st:=UB) l39 c39 k39).binds (ps:=["self"]) #[1,Yt]⟩,⟨_,_,ZN (st:=UA) l40 c40 k40,⟨a40,i40,k40⟩,(ZN (st:=UA) l40 c40 k40).binds (ps:=["self", "keys"]) #[2,Yz]⟩,⟨_,_,ZN (st:=Uz) l41 c41 k41,⟨mkMerge,a41,i41,kcMerge⟩,(ZN (st:=Uz) l41 c41 k41).binds (ps:=["self", "rows"]) #[2,Yz],Qa6 X G aCMerge⟩,⟨_,_,ZN (st:=Uy) l42 c42 k42,⟨a42,i42,k42⟩,(ZN (st:=Uy) l42 c42 k42).binds (ps:=["self"]) #[1,Yt]⟩,⟨_,_,ZN (st:=Ux) l43 c43 k43,⟨a43,i43,k43⟩,(ZN (st:=Ux) l43 c43 k43).binds (ps:=["self"]) #[1,Yt]⟩,⟨_,_,ZN (st:=Vc) l44 c44 k44,⟨a44,i44,k44⟩,(ZN (st:=Vc) l44 c44 k44).binds (ps:=["self"]) #[1,Yt]⟩,⟨_,_,ZN (st:=Z4) l45 c45 k45,⟨a45,i45,k45⟩,(ZN (st:=Z4) l45 c45 k45).binds (ps:=["self"]) #[1,Yt]⟩,⟨_,_,ZN (st:=Uw) l46 c46 k46,⟨a46,i46,k46⟩,(ZN (st:=Uw) l46 c46 k46).binds (ps:=["self"]) #[1,Yt]⟩,⟨_,_,ZN (st:=Vb) l47 c47 k47,⟨a47,i47,k47⟩,(ZN (st:=Vb) l47 c47 k47).binds (ps:=["self"]) #[1,Yt]⟩,⟨_,_,ZN (st:=Uv) l48 c48 k48,⟨a48,i48,k48⟩,(ZN (st:=Uv) l48 c48 k48).binds (ps:=["self", "row"]) #[2,Yz]⟩,⟨_,_,ZN (st:=Z6) l49 c49 k49,⟨a49,i49,k49⟩,(ZN (st:=Z6) l49 c49 k49).binds (ps:=["self", "n"]) #[2,Yz]⟩,⟨_,_,ZN (st:=Uu) l50 c50 k50,⟨a50,i50,k50⟩,(ZN (st:=Uu) l50 c50 k50).binds (ps:=["self", "n", "keys"]) #[3,WF]⟩,⟨_,_,ZN (st:=Ut) l51 c51 k51,⟨a51,i51,k51⟩,(ZN (st:=Ut) l51 c51 k51).binds (ps:=["self", "n"]) #[2,Yz]⟩,⟨_,_,ZN (st:=Z8) l52 c52 k52,⟨a52,i52,k52⟩,(ZN (st:=Z8) l52 c52 k52).binds (ps:=["self"]) #[1,Yt]⟩,⟨_,_,ZN (st:=Us) l53 c53 k53,⟨a53,i53,k53⟩,(ZN (st:=Us) l53 c53 k53).binds (ps:=["self", "numbers"]) #[2,Yz]⟩,⟨_,_,ZN (st:=Z7) l54 c54 k54,⟨a54,i54,k54⟩,(ZN (st:=Z7) l54 c54 k54).binds (ps:=["self", "number"]) #[2,Yz]⟩,⟨_,_,ZN (st:=ZZ) l55 c55 k55,⟨a55,i55,k55⟩,(ZN (st:=ZZ) l55 c55 k55).binds (ps:=["self", "meeting", "comer"]) #[3,WF]⟩,⟨_,_,ZN (st:=Ur) l56 c56 k56,⟨a56,i56,k56⟩,(ZN (st:=Ur) l56 c56 k56).binds (ps:=["self", "one", "other", "far"]) (fun _ _ _ _ _ _ us hl=>by obtain⟨_,_,_,_,rfl⟩:=JK us hl;exact rfl)⟩,⟨pgRow,hdRow,poRow,saRow⟩,nARow_all_keys,nARow_fars,nARow_gone,⟨pgMerge,hdMerge,poMerge,saMerge⟩,nAMerge_best,nAMerge_likened,nAMerge_looked,nAMerge_next_number,nAMerge_rows,nAMerge_stays,⟨_,Qa6 X G giMOST_ROWS⟩⟩;exact⟨PySem.W.fnOf "law" "law" (Zq VI) (Zo VI) (Zg VI) .none xY xZ x0 x5 qm x6,fun s v=>.of_eq rfl,fun base _ _=>Zqs (ZN (st:=VI) l35 c35 k35) T⟩
theorem walk{l:PySem.W.OpenLaw}{q:Program}{e:List Str}{g:(Str→Option Value)→Heap→Prop}{b:World→Heap→Prop}{d:DefRec}{K:Params→#[7]}(i:l.most=some 63)(j:d.params.defaults=[])
  (m:∀ (w:World) (h:Heap),b w h→(K w.params).In h)
  (F:∀ (w:World) (mg:Str→Option Value) (fa:Addr) (h:Heap),(K w.params).In h→h.Ns mainGlobals mg→mg d.name=some (.ref fa) →
   ∃c:FuncData,(∀ (s:Shared) (u:Value),BindsTo s c ⟨[u],[]⟩ [("_law_script",u)])∧∀base:Heap,(K w.params).In base→base.Ns mainGlobals mg→X2 l.prog w (K w.params) mg base CX0 18 fa c ["_law_script"] (Se (K w.params))) :
  PySem.W.WalkO q e g b l.row.toRowW d [] (fun f vs=>PySem.call f vs) :=
 L2.walk_of (n:=63) (k:=18) (x := "_law_script") (CX:=fun _=>CX0) (sp:=fun w=>Se (K w.params)) i #[6] j ⟨rfl,by decide,by decide,rfl⟩ m F (fun _ _ a o p _ r=>⟨a,o,rfl,r,p,fun _=>rfl⟩) fun _ _ _ _ _ z=>z
end My
open PySem PySem.W PyProof.Rows
namespace PySem.W.Fast
def tw3320353709492401785:=Nat
def tw13708726197750319800:=Nat
def tw15959159302124124696:=Nat
def tw16772234844162597848:=Nat
def tw5400139932288960439:=Nat
def tw6529050590223615862:=Nat
def tw18301768905726895414:=Nat
def tw16448938502758418646:=Nat
def tw7241596436939984563:=Nat
def tw10002730517276099665:=Nat
def tw8214120963884669040:=Nat
def tw1072586337691057936:=Nat
def tw5897935494997834542:=Nat
def tw6380752795234287244:=Nat
def tw6283797701193447980:=Nat
def tw7354780187699129228:=Nat
def tw1666283911743025899:=Nat
def tw8409642338338272171:=Nat
def tw17248534045368885770:=Nat
def tw1318993222791566216:=Nat
def tw17997761526626345831:=Nat
def tw14631660703473770982:=Nat
def tw16451850560021587138:=Nat
def tw12172084483532384450:=Nat
def tw3530089882666816703:=Nat
def tw13611954695740976700:=Nat
def tw8457235084692877586:=Nat
def tw7736257729987546381:=Nat
def tw15648200732469777461:=Nat
def tw4305208899109463799:=Nat
def tw18144536633783101446:=Nat
def tw17550863074913405654:=Nat
def tw17197084704379874149:=Nat
def tw16979018058358615882:=Nat
def tw7870783025253188628:=Nat
def tw6619956241714530358:=Nat
def tw12523397287433305861:=Nat
def tw2704729523625651164:=Nat
def tw373203040906426867:=Nat
def tw7357166169981537222:=Nat
def tw16467819026551605918:=Nat
def tw10697951113468157764:=Nat
def tw7545190659142888565:=Nat
def tw1444298819399235831:=Nat
def tw909861324847041749:=Nat
def tw12919747454132554502:=Nat
def tw14072551456113125838:=Nat
def tw2639611249093404519:=Nat
def tw8930776205342202057:=Nat
def tw6964413253173853645:=Nat
def tw14139563281459730762:=Nat
def tw10290317497415875924:=Nat
def tw4598278292905370310:=Nat
def tw481886171390406462:=Nat
def tw17164434895344541026:=Nat
def tw14485787817531375231:=Nat
def tw9364248364942866212:=Nat
def tw11543118508979356565:=Nat
def tw13087389719952007034:=Nat
def tw14228684261130815914:=Nat
def tw13084635445912794287:=Nat
def tw5818404636892038149:=Nat
def tw17743808893618275353:=Nat
def tw14033117887100631049:=Nat
def tw12605302522385635783:=Nat
def tw17476543047179386567:=Nat
def tw16077836026215580045:=Nat
def tw16783665810746745196:=Nat
def tw15565111827957434868:=Nat
def tw1099018041999655357:=Nat
def tw2456484829509974712:=Nat
def tw5578830673406139494:=Nat
def tw6736494510731124765:=Nat
def tw9276274033989055120:=Nat
def tw4727023210722171690:=Nat
def tw6167365121073973058:=Nat
def tw12043535467142620672:=Nat
def tw7503383119188552958:=Nat
def tw11276672596289174280:=Nat
def tw10050854896194721474:=Nat
def tw17098115319590611588:=Nat
def tw14087862154627444561:=Nat
def tw1917033335396857303:=Nat
def tw18207531264511679501:=Nat
def tw6744954081727016439:=Nat
def tw18235522777049467466:=Nat
def tw5547550272140519215:=Nat
def tw9266099611162606462:=Nat
def tw11511109251744843208:=Nat
def tw1585882774437971253:=Nat
def tw11003812579300007284:=Nat
def tw7154787432368192356:=Nat
def tw5360838818475999163:=Nat
def tw3735241470953020069:=Nat
def tw16325096901254699234:=Nat
def tw9135188858567452416:=Nat
def tw11600810118238525163:=Nat
def tw15991490430537585043:=Nat
def tw1809797476268275926:=Nat
def tw6729645844497239945:=Nat
def tw1255314839382137643:=Nat
def tw10542775447765938002:=Nat
def tw14531187892131254032:=Nat
def tw15908549160145814518:=Nat
def tw9504180185474563572:=Nat
def tw17391356097804552686:=Nat
def tw14725616136545542111:=Nat
def tw14103980525873755006:=Nat
def tw9395356763598464343:=Nat
def tw5884647958311482495:=Nat
def tw8417516653160783255:=Nat
def tw2132347561189124647:=Nat
def tw10588858830472544257:=Nat
def tw16344380622448362543:=Nat
def tw17249566602363610238:=Nat
def tw3823973130144483668:=Nat
def tw16621285629944589879:=Nat
def tw1804807225662190851:=Nat
def tw16975761123201303366:=Nat
def tw242789320788532429:=Nat
def tw427073093482525931:=Nat
def tw9758898532142803532:=Nat
def tw6412077795658971341:=Nat
def tw70950226354084905:=Nat
def tw7338978818465076928:=Nat
def tw4326065407024702444:=Nat
def tw15939320063123699668:=Nat
def tw296834941895547714:=Nat
def tw1702393777566613505:=Nat
def tw4884489126254291715:=Nat
def tw3685729110643976192:=Nat
def tw16849831187849953437:=Nat
def tw12677792318564995960:=Nat
def tw5913842188530513347:=Nat
def tw6850481124955476409:=Nat
def tw3382845782871648528:=Nat
def tw17237094448442535007:=Nat
def tw6844871044603930994:=Nat
def tw15921009318338981064:=Nat
def tw10532375226049484225:=Nat
def tw17660294641706071436:=Nat
def tw9348280892080556193:=Nat
def tw5878318227710980457:=Nat
def tw10560392388397433221:=Nat
def tw9262221757940131919:=Nat
def tw17851877563499812840:=Nat
def tw14983181635174749612:=Nat
def tw15923667277179989611:=Nat
def tw5850706757791650492:=Nat
def tw785696198486288626:=Nat
def tw14322344053325825685:=Nat
def tw1763871688627833398:=Nat
def tw2519875758330766212:=Nat
def tw2587852419069414637:=Nat
def tw5283687860846395308:=Nat
def tw5638965113254782711:=Nat
def tw4617722834367614642:=Nat
def tw9800700489128263791:=Nat
def tw230287719027240988:=Nat
def tw10289572608211267923:=Nat
def tw10518786933154162425:=Nat
def tw4881670584244631257:=Nat
def tw17327309164641883087:=Nat
def tw4244938709361152584:=Nat
def tw8994205154293757263:=Nat
def tw16319636190190839549:=Nat
def tw6407237574905066991:=Nat
def tw17603800522263350606:=Nat
def tw2354132171067314493:=Nat
def tw5964999692087395468:=Nat
def tw8241464187649175326:=Nat
def tw4206845945169736480:=Nat
def tw1077293431774203122:=Nat
def tw4180379047458003761:=Nat
def tw1451631338294394221:=Nat
def tw16020399464802640071:=Nat
def tw6071429770529991595:=Nat
def tw9515116265738757383:=Nat
def tw8415549593200532106:=Nat
def tw12705075271947402999:=Nat
def tw6062069759220107201:=Nat
def tw17912044361275387407:=Nat
def tw14953836407938859054:=Nat
def tw17849738777051482237:=Nat
def tw18271454006888014403:=Nat
def tw5720312023354960987:=Nat
def tw16003203710394208989:=Nat
def tw13462144915004330440:=Nat
def tw9831709058353109902:=Nat
def tw16832546996025198495:=Nat
def tw17371643054703590369:=Nat
def tw8506991483446793271:=Nat
def tw16014757798485333724:=Nat
def tw17646428291178139668:=Nat
def tw9951834573840536738:=Nat
def tw13079210454710965641:=Nat
def tw3102709164391021102:=Nat
def tw8256309384466151575:=Nat
def tw663936362594140009:=Nat
def tw1721986547267968304:=Nat
def tw16535187188093486533:=Nat
def tw3558836296581633545:=Nat
def tw15772817017387352886:=Nat
def tw802656744492494518:=Nat
def tw17320429610702378193:=Nat
def tw4556849792218667615:=Nat
def tw8092227321513743270:=Nat
def tw6710321431106396348:=Nat
def tw5600584659123758167:=Nat
def tw10574256313467142250:=Nat
def tw10026808323235395698:=Nat
def tw9806070988096974879:=Nat
def tw18248477095650020741:=Nat
def tw8059242836303911334:=Nat
def tw14849548999390012450:=Nat
def tw1704662119515169150:=Nat
def tw14191749362923402860:=Nat
def tw9273308665196461557:=Nat
def tw7280578283891781105:=Nat
def tw6795441363727162197:=Nat
def tw10448270550189832905:=Nat
def tw17969453465570040942:=Nat
def tw7485743924436997186:=Nat
def tw826631623105437505:=Nat
def tw249301204050495798:=Nat
def tw8251004211345671153:=Nat
def tw17972599418183142828:=Nat
def tw4849060904022547282:=Nat
def tw3351568878108576872:=Nat
def tw3772575003694893915:=Nat
def tw15375374668816452059:=Nat
def tw13031900209561648517:=Nat
def tw7891468488341345039:=Nat
def tw4368239224609465863:=Nat
def tw13022887669600098092:=Nat
def tw15434094627427116849:=Nat
def tw10040233735608965067:=Nat
def tw3311348476522960454:=Nat
def tw7367817024959798856:=Nat
def tw2750121868178139093:=Nat
def tw11258372526792835807:=Nat
def tw16815925968416249466:=Nat
def tw988034996517175128:=Nat
def tw10615951164916694374:=Nat
def tw16092071465967380492:=Nat
def tw13723455476466076011:=Nat
def tw11738999460517749084:=Nat
def tw2681982256017146594:=Nat
def tw18125667943654725911:=Nat
def tw4642786612328145873:=Nat
def tw4670302980728776464:=Nat
def tw15483460923581214962:=Nat
def tw8879562674849976587:=Nat
def tw596346825943272257:=Nat
def tw15631064533448009871:=Nat
def tw6783052722683019184:=Nat
def tw11941646892298887177:=Nat
def tw6463102542335330787:=Nat
def tw3464947093405393283:=Nat
def tw8810426379031065817:=Nat
def tw4779323090144345628:=Nat
def tw3248700046179571536:=Nat
def tw2041300109478017581:=Nat
def tw10725260905648580418:=Nat
def tw829188711974712232:=Nat
def tw10775734611790192901:=Nat
def tw16941007780002591286:=Nat
def tw15786199858658270126:=Nat
def tw2578168040624738137:=Nat
def tw13693111718626324112:=Nat
def tw17661993759414917842:=Nat
def tw17059085213691284036:=Nat
def tw1042443728833867599:=Nat
def tw16852378840933773532:=Nat
def tw5609949344379569346:=Nat
def tw16912136577788030215:=Nat
def tw16231060044209474648:=Nat
def tw336720016164347918:=Nat
def tw6457756076571403426:=Nat
def tw17443870622545761520:=Nat
def tw14462265671469757211:=Nat
def tw9720616675319927762:=Nat
def tw17019500708746135946:=Nat
def tw11795043737228291354:=Nat
def tw2959006444395152095:=Nat
def tw17350513327930182547:=Nat
def tw17473081057938199124:=Nat
def tw14747626016135409160:=Nat
def tw112300824369917205:=Nat
def tw9685904792461030641:=Nat
def tw12107196322859598586:=Nat
def tw13452204341289584315:=Nat
def tw5141080879144384053:=Nat
def tw5044749188331946261:=Nat
def tw14402112130209512690:=Nat
def tw4962797134634625678:=Nat
def tw1664417490318081754:=Nat
def tw11427963594788965167:=Nat
def tw16528262428690605420:=Nat
def tw4653012133787337917:=Nat
def tw8395150364937803745:=Nat
def tw6086254353991167135:=Nat
def tw17017766505870032753:=Nat
def tw14107449477118207384:=Nat
def tw1581308155102846256:=Nat
def tw7751809283584930268:=Nat
def tw463225260582245886:=Nat
def tw11975172155001479925:=Nat
def tw12985088657256185572:=Nat
def tw4185972595418247258:=Nat
def tw3293336921573626276:=Nat
def tw1362784749020780870:=Nat
def tw9268807950997021219:=Nat
def tw6943438570083399910:=Nat
def tw1911743286947172183:=Nat
def tw9396716313120737558:=Nat
def tw5338302067713762937:=Nat
def tw8095826897019425320:=Nat
def tw16869415258054825397:=Nat
def tw7630707545639490069:=Nat
def tw10997166521418449286:=Nat
def tw4578029489891333117:=Nat
def tw2565497165895594831:=Nat
def tw3113448912931553706:=Nat
def tw4285459582673671048:=Nat
def tw14495221803620476512:=Nat
def tw18018258210553232388:=Nat
def tw17438300594834922907:=Nat
def tw17752025565380521887:=Nat
def tw16411372569295315546:=Nat
def tw14567413861490017442:=Nat
def tw2907864436808706540:=Nat
def tw17217432116520685974:=Nat
def tw4810524676224072132:=Nat
def tw4699537537084979249:=Nat
def tw17409779805526836014:=Nat
def tw6611590487070432094:=Nat
def tw17207518799196240625:=Nat
def tw15017946441638234166:=Nat
def tw15672893883124786955:=Nat
def tw10644102588961806714:=Nat
def tw15467648963937433488:=Nat
def tw12076872386370756253:=Nat
def tw12579338829585355706:=Nat
def tw5061947733259605354:=Nat
def tw8430599433872376000:=Nat
def tw4983116958884625633:=Nat
def tw12437818001872649138:=Nat
def tw8953787786617455298:=Nat
def tw3941673940342208275:=Nat
def tw11368179656583633600:=Nat
def tw17640510936260029745:=Nat
def tw17056560757779010789:=Nat
def tw1041600969370915290:=Nat
def tw10297246352704934261:=Nat
def tw8953070685152280444:=Nat
def tw16326866397610439728:=Nat
def tw13336439563403245847:=Nat
def tw2769191898107530902:=Nat
def tw6221232069318901486:=Nat
def tw8922942925065167093:=Nat
def tw6638938150964180081:=Nat
def tw14730415022866564510:=Nat
def tw2610219986135329713:=Nat
def tw1328803130373782127:=Nat
def tw7794117698202856492:=Nat
def tw12394503847800396555:=Nat
def tw16699514657065366655:=Nat
def tw7744747887273007451:=Nat
def tw1032749901209412299:=Nat
def tw15464598868159052446:=Nat
def tw2420490519881727191:=Nat
def tw739454669349803586:=Nat
def tw12201554748915186176:=Nat
def tw4666513724225924785:=Nat
def tw7176625550469385727:=Nat
def tw2951081114076814900:=Nat
def tw12472771188100889672:=Nat
def tw14007176051606581522:=Nat
def tw4057943450732706522:=Nat
def tw4366809008474949047:=Nat
def tw17148663466476077403:=Nat
def tw3633042005732335884:=Nat
def tw380316941990838567:=Nat
def tw278905248619233579:=Nat
def tw14600344554420018873:=Nat
def tw1567641507508739476:=Nat
def tw5254098488699628254:=Nat
def tw15621895834495990556:=Nat
def tw11141622696080253771:=Nat
def tw17622514778890244996:=Nat
def tw1628081124070199508:=Nat
def tw16517260589944042285:=Nat
def tw14001874631875314304:=Nat
def tw4928833159172042022:=Nat
def tw17524551922655927568:=Nat
def tw7611841244387394502:=Nat
def tw7424949367618619138:=Nat
def tw4510596850125773527:=Nat
def tw9672403965868944:=Nat
def tw8821864670150325754:=Nat
def tw26642366586906245:=Nat
def tw6752397726268906017:=Nat
def tw7277594130886803422:=Nat
def tw16927711769993512152:=Nat
def tw5648679002210804803:=Nat
def tw4130857396239398160:=Nat
def tw18119203044488849676:=Nat
def tw8746854163472507176:=Nat
def tw12508738018235049089:=Nat
def tw13623358167283903547:=Nat
def tw5569399400978917305:=Nat
def tw6220610008278188262:=Nat
def tw537377334784720764:=Nat
def tw14075030273248047908:=Nat
def tw7473219520468349750:=Nat
def tw2731951718510776616:=Nat
def tw16112899563169450360:=Nat
def tw13631389155853431474:=Nat
def tw4681476827172529894:=Nat
def tw12114484913700052424:=Nat
def tw3701846115265265847:=Nat
def tw9287254341617601020:=Nat
def tw15408323803411927255:=Nat
def tw8605116307134085361:=Nat
def tw5353185593442739843:=Nat
def tw98947903845442532:=Nat
end PySem.W.Fast
set_option maxRecDepth 100000 in
set_option maxHeartbeats 0 in
theorem PySem.Challenge.cw_mergetree_k61_whole_as_if_made_so_holds : PySem.Challenge.rw_mergetree_k61_whole_as_if_made_so.Holds := by
 w_on;o_law;k_head;(case hw=>w_witness2)
 k_fill
 refine My.walk (l:=PySem.Challenge.rw_mergetree_k61_whole_as_if_made_so) rfl rfl (fun w h Y=>PySem.W.kIn_of Y) ?F;case F =>
  intro w mg fa h KX G hmg
  refine' My.all_mk KX G hmg ?aCRow ?pgRow ?hdRow ?poRow ?saRow ?mkRow ?kcRow ?nARow_all_keys ?nARow_fars ?nARow_gone ?aCMerge ?pgMerge ?hdMerge ?poMerge ?saMerge ?mkMerge ?kcMerge ?nAMerge_best ?nAMerge_likened ?nAMerge_looked ?nAMerge_next_number ?nAMerge_rows ?nAMerge_stays ?a0 ?l0 ?c0 ?k0 ?a1 ?l1 ?c1 ?k1 ?a2 ?l2 ?c2 ?k2 ?a3 ?l3 ?c3 ?k3 ?a4 ?l4 ?c4 ?k4 ?a5 ?l5 ?c5 ?k5 ?a6 ?l6 ?c6 ?k6 ?a7 ?l7 ?c7 ?k7 ?a8 ?l8 ?c8 ?k8 ?a9 ?l9 ?c9 ?k9 ?a10 ?l10 ?c10 ?k10 ?a11 ?l11 ?c11 ?k11 ?a12 ?l12 ?c12 ?k12 ?a13 ?l13 ?c13 ?k13 ?a14 ?l14 ?c14 ?k14 ?a15 ?l15 ?c15 ?k15 ?a16 ?l16 ?c16 ?k16 ?a17 ?l17 ?c17 ?k17 ?a18 ?l18 ?c18 ?k18 ?a19 ?l19 ?c19 ?k19 ?a20 ?l20 ?c20 ?k20 ?a21 ?l21 ?c21 ?k21 ?a22 ?l22 ?c22 ?k22 ?a23 ?l23 ?c23 ?k23 ?a24 ?l24 ?c24 ?k24 ?a25 ?l25 ?c25 ?k25 ?a26 ?l26 ?c26 ?k26 ?a27 ?l27 ?c27 ?k27 ?a28 ?l28 ?c28 ?k28 ?a29 ?l29 ?c29 ?k29 ?a30 ?l30 ?c30 ?k30 ?a31 ?l31 ?c31 ?k31 ?a32 ?l32 ?c32 ?k32 ?a33 ?l33 ?c33 ?k33 ?a34 ?l34 ?c34 ?k34 ?a35 ?l35 ?c35 ?k35 ?a36 ?i36 ?l36 ?c36 ?k36 ?a37 ?i37 ?l37 ?c37 ?k37 ?a38 ?i38 ?l38 ?c38 ?k38 ?a39 ?i39 ?l39 ?c39 ?k39 ?a40 ?i40 ?l40 ?c40 ?k40 ?a41 ?i41 ?l41 ?c41 ?k41 ?a42 ?i42 ?l42 ?c42 ?k42 ?a43 ?i43 ?l43 ?c43 ?k43 ?a44 ?i44 ?l44 ?c44 ?k44 ?a45 ?i45 ?l45 ?c45 ?k45 ?a46 ?i46 ?l46 ?c46 ?k46 ?a47 ?i47 ?l47 ?c47 ?k47 ?a48 ?i48 ?l48 ?c48 ?k48 ?a49 ?i49 ?l49 ?c49 ?k49 ?a50 ?i50 ?l50 ?c50 ?k50 ?a51 ?i51 ?l51 ?c51 ?k51 ?a52 ?i52 ?l52 ?c52 ?k52 ?a53 ?i53 ?l53 ?c53 ?k53 ?a54 ?i54 ?l54 ?c54 ?k54 ?a55 ?i55 ?l55 ?c55 ?k55 ?a56 ?i56 ?l56 ?c56 ?k56 ?giMOST_ROWS ?z0 ?z1 ?z2 ?z3 ?z4 ?z5 ?z6 ?z7 ?z8 ?z9 ?z10 ?z11 ?z12 ?z13 ?z14 ?z15 ?z16
  (case aCRow=>k_is)
  (case pgRow=>k_is)
  (case hdRow=>k_is)
  (case poRow=>k_is)
  (case saRow=>k_is)
  (case mkRow=>k_is)
  (case kcRow=>k_is)
  (case nARow_all_keys=>k_is)
  (case nARow_fars=>k_is)
  (case nARow_gone=>k_is)
  (case aCMerge=>k_is)
  (case pgMerge=>k_is)
  (case hdMerge=>k_is)
  (case poMerge=>k_is)
  (case saMerge=>k_is)
  (case mkMerge=>k_is)
  (case kcMerge=>k_is)
  (case nAMerge_best=>k_is)
  (case nAMerge_likened=>k_is)
  (case nAMerge_looked=>k_is)
  (case nAMerge_next_number=>k_is)
  (case nAMerge_rows=>k_is)
  (case nAMerge_stays=>k_is)
  (case a0|l0|c0|k0=>k_is)
  (case a1|l1|c1|k1=>k_is)
  (case a2|l2|c2|k2=>k_is)
  (case a3|l3|c3|k3=>k_is)
  (case a4|l4|c4|k4=>k_is)
  (case a5|l5|c5|k5=>k_is)
  (case a6|l6|c6|k6=>k_is)
  (case a7|l7|c7|k7=>k_is)
  (case a8|l8|c8|k8=>k_is)
  (case a9|l9|c9|k9=>k_is)
  (case a10|l10|c10|k10=>k_is)
  (case a11|l11|c11|k11=>k_is)
  (case a12|l12|c12|k12=>k_is)
  (case a13|l13|c13|k13=>k_is)
  (case a14|l14|c14|k14=>k_is)
  (case a15|l15|c15|k15=>k_is)
  (case a16|l16|c16|k16=>k_is)
  (case a17|l17|c17|k17=>k_is)
  (case a18|l18|c18|k18=>k_is)
  (case a19|l19|c19|k19=>k_is)
  (case a20|l20|c20|k20=>k_is)
  (case a21|l21|c21|k21=>k_is)
  (case a22|l22|c22|k22=>k_is)
  (case a23|l23|c23|k23=>k_is)
  (case a24|l24|c24|k24=>k_is)
  (case a25|l25|c25|k25=>k_is)
  (case a26|l26|c26|k26=>k_is)
  (case a27|l27|c27|k27=>k_is)
  (case a28|l28|c28|k28=>k_is)
  (case a29|l29|c29|k29=>k_is)
  (case a30|l30|c30|k30=>k_is)
  (case a31|l31|c31|k31=>k_is)
  (case a32|l32|c32|k32=>k_is)
  (case a33|l33|c33|k33=>k_is)
  (case a34|l34|c34|k34=>k_is)
  (case a35|l35|c35|k35=>k_is)
  (case a36|i36|l36|c36|k36=>k_is)
  (case a37|i37|l37|c37|k37=>k_is)
  (case a38|i38|l38|c38|k38=>k_is)
  (case a39|i39|l39|c39|k39=>k_is)
  (case a40|i40|l40|c40|k40=>k_is)
  (case a41|i41|l41|c41|k41=>k_is)
  (case a42|i42|l42|c42|k42=>k_is)
  (case a43|i43|l43|c43|k43=>k_is)
  (case a44|i44|l44|c44|k44=>k_is)
  (case a45|i45|l45|c45|k45=>k_is)
  (case a46|i46|l46|c46|k46=>k_is)
  (case a47|i47|l47|c47|k47=>k_is)
  (case a48|i48|l48|c48|k48=>k_is)
  (case a49|i49|l49|c49|k49=>k_is)
  (case a50|i50|l50|c50|k50=>k_is)
  (case a51|i51|l51|c51|k51=>k_is)
  (case a52|i52|l52|c52|k52=>k_is)
  (case a53|i53|l53|c53|k53=>k_is)
  (case a54|i54|l54|c54|k54=>k_is)
  (case a55|i55|l55|c55|k55=>k_is)
  (case a56|i56|l56|c56|k56=>k_is)
  (case giMOST_ROWS=>k_is)
  (case z0=>k_is)
  (case z1=>k_is)
  (case z2=>k_is)
  (case z3=>k_is)
  (case z4=>k_is)
  (case z5=>k_is)
  (case z6=>k_is)
  (case z7=>k_is)
  (case z8=>k_is)
  (case z9=>k_is)
  (case z10=>k_is)
  (case z11=>k_is)
  (case z12=>k_is)
  (case z13=>k_is)
  (case z14=>k_is)
  (case z15=>k_is)
  (case z16=>k_is)
