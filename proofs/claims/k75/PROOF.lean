import PyProof.Rows.All
import Wide.All
import OpenK.AllK
import Wide.FinOn
import Lean
import PyProof.EqAt
import PyProof.EqKinds
import PyProof.TupleCall
import PyProof.AttrMissHeap
import KE.KEqDict
import KE.KItemsList
import PyProof.WalksMore
import PyProof.TupleOfStr
import PyProof.DictWalks
import PyProof.WalkInts
import PyProof.ExcClass3
import PyProof.StationsW
import OpenK.KCall
import PyProof.RulesAs
import PyProof.Ns1
import PyProof.InstStoreFacts
import PyProof.ExcBaseAll.ValueError
import PyProof.ExcArgs
import KE.KIsAll
import PyProof.Rows.CountFlat
import PyProof.StrBlockL
import OpenK.KTop
import PyProof.StrLawsTight
import PyProof.Rows.StrFin3
import KE.KUnpackStar
import PyProof.Conv_int_bool
import PySem.Challenge.RW_mergetree_k75_whole_everyday_rows
set_option maxHeartbeats 4000000
set_option maxRecDepth 100000
open PySem renaming Value->aa,Addr->ae,wpAny_bind->ak,Shared->ah,sizeLine->aq,Str->aj,wpAny_pure->au,PyData->ax,wpAny->aw,Program->ar,starEach->aF,mainGlobals->aH,model->av,Heap->aE,Around->az,World->aA,Expr->aD,NameKind->aL,Stmt->aJ,Builtin->aT,compareOp->aO,sliceBounds->cx,wpAny_holding->bf,PassesOwn->ba,Obj->aI,tupleKind->bw,sizeLine_eq->aG,assignEach->cu,compEnvC->bn,attributeBase->bB,sysModules->bC,wpAny_passesOwn->bJ,wpAny_truthy_bool->bi,foldedSetIterable->bb,codeAny->aY,Scope->aS,backTo->bu,FuncData->bo,wpAny_standAt->bg,wpAny_newObj_type->bM,bootBuiltins->ci,wpAny_mono->bD,wpAny_Call_Name_kw->bW,wpAny_Call_method0_late->cA,keywordEach->b9,letOwnedTupleGo->bx
open Option renaming some->U,none->af
local macro_rules
|`(mutual $d* end)=>do
 let `(example:=#[$x,*]):=(d[0]!.raw)|Lean.Macro.throwUnsupported
 let key:=fun (a:Array Lean.Syntax)=>(if a[0]!.isIdent then a[0]!.getId.toString else (a[0]!.isNatLit?.map toString).getD "?")++"/"++toString a.size
 let sub:=fun (t:Std.HashMap String (Array Lean.Name×Lean.Syntax)) (s:Lean.Syntax)=>s.rewriteBottomUp fun s=>
  if s.getKind==`«term#[_,]» then
   let a:=s[1].getSepArgs
   if a.isEmpty then s else match t[key a]? with
   |some (p,b)=>if p.isEmpty then b else b.rewriteBottomUp fun u=>if u.isIdent then match p.idxOf? u.getId with|some i=>a[i+1]!|none=>u else u
   |none=>s
  else if s.getKind==``Lean.Parser.Tactic.show&&s[1].getKind==``Lean.Parser.Term.byTactic then
   Lean.Syntax.node .none ``Lean.Parser.Tactic.paren #[Lean.Syntax.atom .none "(",s[1][1],Lean.Syntax.atom .none ")"]
  else s
 let mut t:Std.HashMap String (Array Lean.Name×Lean.Syntax):={}
 for y in x.getElems do
  let a:=y.raw[1].getSepArgs
  let b:=sub t a.back!
  let p:=(a.extract 1 (a.size-1)).map (·.getId)
  t:=t.insert (key a.pop) (p,b)
 let mut r:Array Lean.Syntax:=#[]
 for c in d.extract 1 d.size do
  let c:=c.raw
  r:=r.push (←if c.getKind==``Lean.Parser.Command.universe then do
   let n:=c[1][0].getId
   if n==`E then `(command|end) else
    let i:=Lean.mkIdent (n.replacePrefix `E .anonymous)
    `(command|end $i)
  else pure ⟨sub t c⟩)
 return Lean.mkNullNode r
mutual
example:=#[#[Xzz,⟨rfl,rfl,by ac_rfl,by ac_rfl,by ac_rfl,by decide,by ac_rfl,by ac_rfl⟩],
#[0,⟨rfl,rfl,rfl,by ac_rfl,rfl,by ac_rfl,by ac_rfl⟩],
#[1,a_,(λ_ _ _ _ _ _ us hl=>by obtain⟨_,h⟩:=a_ us hl;subst h;exact rfl)],
#[2,a_,(λ_ _ _ _ _ _ us hl=>by obtain⟨_,_,h⟩:=a_ us hl;subst h;exact rfl)],
#[3,a_,(λ_ _ _ _ _ _ us hl=>by obtain⟨_,_,_,h⟩:=a_ us hl;subst h;exact rfl)],
#[1,(by ac_rfl)],
#[2,(by lia)],
#[3,(Or.inl rfl)],
#[4,(by simp)],
#[5,(by rfl)],
#[6,(by decide)],
#[7,PySem.W.Frag],
#[8,(.inl rfl)],
#[9,x_,PySem.wpAny (PySem.model (x_).prog (x_).w) (x_).A],
#[Xns,a_,b_,c_,PySem.W.nsIn a_ mainGlobals b_=some (some (.ref c_))],
#[Xfi,a_,b_,c_,d_,PySem.W.findIn a_ (.ref b_) c_=some (some (.ref d_))],
#[Xlk,z_,a_,b_,c_,d_,e_,f_,g_,h_,i_,j_,k_,l_,m_,(z_).lookup a_=some ⟨b_,c_,.func (PySem.W.fnOf d_ e_ (Zq f_) (Zl f_) (Zf f_) .none g_ h_ i_ j_ k_ l_),m_⟩],
#[Xci,a_,b_,c_,PySem.W.codeIn a_ b_ c_=true],
#[Xki,a_,b_,PySem.W.keepIn a_ (.ref b_)=true],
#[Xif,a_,b_,PySem.W.isFn a_ (.ref b_)=true],
#[Zg,a_,b_,@Zg _ _ _ _ _ a_ b_],
#[ZB,a_,b_,c_,d_,@ZB _ _ a_ _ _ _ _ b_ rfl c_ d_ (by rfl) (by trivial)],
#[ZJ,a_,b_,c_,@ZJ _ _ _ _ _ _ _ _ a_ b_ c_],
#[Zi,@Zi _ _ _ _],
#[Zj,a_,@Zj _ _ _ a_],
#[Zn,a_,@Zn _ _ _ _ a_],
#[Xz,a_,b_,c_,@Xz _ _ _ _ _ _ _ _ a_ b_ c_],
#[Zm,a_,b_,c_,d_,@Zm _ _ _ _ _ _ _ _ a_ b_ c_ d_],
#[Zk,a_,b_,c_,d_,e_,@Zk _ _ _ _ _ _ _ _ _ a_ b_ c_ d_ e_ (by decide) (by decide) (by rfl) (by rfl)],
#[Za,a_,b_,@Za _ _ _ _ _ a_ b_ (by rfl)],
#[Zc,@Zc _],
#[Zc,a0_,#[Za,a0_,#[Zc]]],
#[Zc,a0_,a1_,#[Za,a0_,#[Za,a1_,#[Zc]]]],
#[Zc,a0_,a1_,a2_,#[Za,a0_,#[Za,a1_,#[Za,a2_,#[Zc]]]]],
#[Zc,a0_,a1_,a2_,a3_,#[Za,a0_,#[Za,a1_,#[Za,a2_,#[Za,a3_,#[Zc]]]]]],
#[Zc,a0_,a1_,a2_,a3_,a4_,#[Za,a0_,#[Za,a1_,#[Za,a2_,#[Za,a3_,#[Za,a4_,#[Zc]]]]]]],
#[Zx,a_,b_,c_,@Zx _ _ _ _ _ _ _ a_ b_ c_ (λ_ _=>rfl)],
#[Ym,a_,@Ym _ _ _ _ a_],
#[XQ,a_,b_,c_,d_,@XQ _ _ _ _ _ _ _ _ _ a_ (by rfl) b_ c_ d_ (by decide) (by decide) (by rfl) (by rfl)],
#[WY,a_,b_,c_,d_,@WY _ _ _ _ _ _ _ _ a_ b_ c_ d_],
#[Yv,a_,b_,@Yv _ _ _ _ _ _ a_ b_ (by rfl) (by rfl) (by rfl)],
#[WJ,a_,b_,c_,@WJ _ _ _ _ _ _ _ a_ b_ c_ (by intro _;rfl)],
#[Y0,a_,b_,c_,@Y0 _ _ _ _ _ _ _ _ a_ b_ c_],
#[ZM,@ZM _],
#[ZE,a_,b_,c_,d_,@ZE _ _ _ _ _ _ _ _ _ _ _ a_ b_ c_ (by trivial) d_ (by decide) (by rfl) (by rfl)],
#[WK,a_,b_,@WK _ _ _ _ _ _ _ a_ b_],
#[Xx,a_,b_,c_,d_,@Xx _ _ _ _ _ _ _ _ a_ rfl b_ c_ d_ (by intro _;rfl)],
#[iE,a_,b_,c_,@iE _ a_ _ _ _ _ _ _ _ b_ c_ (by rfl) (by rfl) (by rfl)],
#[gT,a_,b_,c_,@gT _ a_ _ _ _ b_ _ c_ (by rfl) (by rfl) (by rfl) (by rfl)],
#[Zp,a_,b_,@Zp _ _ _ _ _ a_ b_ (by rfl)],
#[Zz,a_,b_,c_,@Zz _ _ a_ _ b_ rfl c_ (by trivial)],
#[Yf,a_,@Yf _ _ _ _ a_ (by rfl)],
#[Xw,a_,b_,c_,d_,e_,f_,@Xw _ _ _ _ _ _ _ _ _ _ _ _ a_ b_ c_ d_ e_ f_ (by rfl) (by rfl) (by rfl) (by rfl) (by rfl)],
#[ZO,a_,@ZO _ _ _ _ _ a_],
#[VN,a_,b_,@VN _ _ _ _ _ _ _ rfl a_ b_ (by rfl) (by rfl)],
#[YN,@YN _ _ _],
#[Z8,a_,@Z8 _ _ _ _ _ a_ (by rfl)],
#[Yb,a_,b_,c_,d_,@Yb _ _ _ _ _ _ _ _ _ _ _ _ a_ b_ c_ d_ (by trivial) (by rfl)],
#[Xq,a_,b_,@Xq _ _ _ _ _ _ _ _ a_ b_ (by rfl)],
#[W5,a_,b_,@W5 _ _ _ _ _ _ _ a_ b_],
#[W6,a_,b_,c_,d_,e_,@W6 _ _ _ _ _ _ _ _ _ _ _ _ _ _ _ a_ b_ c_ d_ e_ (by trivial) (by rfl) (by rfl) (by rfl)],
#[Vf,a_,b_,c_,@Vf _ _ _ _ _ _ _ _ _ _ _ _ a_ b_ c_ (by trivial) (by rfl) (by decide) (by rfl) (by rfl)],
#[Yd,a_,b_,c_,d_,e_,@Yd _ _ _ _ _ _ _ _ _ _ _ _ _ _ a_ rfl rfl rfl b_ c_ d_ e_ (by intro _;rfl)],
#[cg,a_,b_,@cg _ _ _ _ _ _ _ _ _ _ _ a_ b_ rfl (by ac_rfl) (by rfl)],
#[cw,a_,b_,@cw _ _ _ _ _ _ _ _ _ _ _ a_ b_ rfl (by ac_rfl) (by rfl) (by decide) (by decide)],
#[iL,a_,b_,@iL _ a_ _ _ _ b_ (by rfl)],
#[Vm,a_,b_,@Vm _ _ _ _ a_ b_ (by rfl) (by decide) (by decide)],
#[UA,a_,b_,c_,d_,e_,f_,g_,@UA _ _ _ _ _ a_ _ _ _ _ _ _ _ _ _ _ _ _ b_ rfl (Or.inl rfl) c_ rfl rfl rfl d_ e_ f_ g_ (by rfl) (by intro _;rfl) (by trivial)],
#[Vq,a_,b_,@Vq _ _ _ _ _ _ rfl a_ b_ (by rfl)],
#[pv,a_,b_,@pv _ a_ _ _ (by rfl) b_ (by decide) (by decide)],
#[cv,a_,b_,@cv _ _ _ _ _ _ _ _ _ _ _ a_ b_ rfl (by ac_rfl) (by rfl) (by decide) (by decide)],
#[VQ,a_,@VQ _ _ _ a_ (by intro _;rfl)],
#[Xi,@Xi _ _ _ _],
#[ZN,@ZN _ _ _ _],
#[g,(Zu "likened" (.int 0) (Zu "next_number" (.int (l.length:Int)) (Zu "rows" (.ref c) [])))],
#[h,((s.heap.push (seqObj "list" #[] 0)).update s.heap.objs.size (aI.mapSeq λx=>x++vs.toArray))],
#[i,List Int],
#[j,(av prog w)],
#[k,List (List Int)],
#[l,Inv X ai σ H s],
#[m,(Y6 X.env.cells c.names [])],
#[n,Y9 K mg aB ao],
#[o,(lcp (cds x) (cds y):Nat)],
#[p,["_law_things", "_law_lists", "_law_rows", "_law_one", "_law_out", "_law_first", "_law_told", "_law_due", "_law_n", "_law_row", "_law_found", "_law_most"]],
#[q,Xa _ _ _ _ _ _ #[1] #[1] #[1] #[1] #[1] #[1]],
#[r,#[Zk,(YX K),#[5],T.b.n_len,Qv,#[Zc,‹0›]]],
#[s,by refine⟨λi m ys b H=>m=xs.length-i/\i<=xs.length/\Pv i ys b H,⟨xs.length,by simp,Qt _,h0⟩,?_⟩;rintro i m ys b H ⟨rfl,hi,p⟩;have c:=hl i ys b H p],
#[t,aF (e::es) X.env=(false,eval e X.env)::aF es X.env],
#[u,(Z6 X c N' C s H fp)],
#[v,(.ref f.heap.objs.size)],
#[w,(by show 2<=aq;decide)],
#[x,(λaR f A outer s H vs Q E hr h=>?_)],
#[y,List aj],
#[z,(ns.map V.int)],
#[A,(x == ("__debug__" : aj))=false],
#[B,(upd (upd (upd X B (.dT [])) m (.ins ao g (Zu "stays" (.ref B) (Zu "looked" (.int 0) #[g])))) m (.ins ao g (Zu "best" .non (Zu "stays" (.ref B) (Zu "looked" (.int 0) #[g])))))],
#[C,(s.heap.objs.size+1)],
#[D,aa->ah->Prop],
#[E,(((s.heap.update a (aI.mapSeq λ_=>#[])).push { cls:=.type "tuple",data:=.seq vs.toArray.toList.toArray }).push { cls:=.type "list",data:=.seq ([]:List aa).toArray })],
#[F,(arrOf st)],
#[G,(av X.prog X.w)],
#[H,⟨_,rfl⟩],
#[I,(by nofun)],
#[J,(λ_ _ _ _=>(@Ye _))],
#[K,(by show 3<=aq;decide)],
#[L,(".0",.«local»)],
#[M,(upd (upd H5 k (.lst [])) C (.lst (F.map V.ref++[.ref k])))],
#[N,List (List Key×V)],
#[O,(λz=>nomatch z)],
#[P,aj->Option aa],
#[Q,List (ae×aI)],
#[R,by have e1:=Qk (wa.one B);have e2:=Qk (wb.one u);subst e1;subst e2;have e3:=Qk (lc.symm.trans G);have e4:=Qk (lf.symm.trans D);subst e3;subst e4],
#[S,by subst e;obtain⟨o,e,c,d⟩:=st;exact⟨o,e,λv z=>by rw[d]at z;cases z⟩],
#[T,∀b∈ch,(b∈X.ex\/X.s₀.heap.objs.size<=b)/\b≠X.env.locals/\(∀x c,X.env.cells.lookup x=U c->c≠b)/\∀p∈X.pn++ai,p.1≠b],
#[U,(bu pos (aF es X.env)).any (·.1)=false],
#[V,["self"]],
#[W,#[Z8,‹0›]],
#[X,(upd (upd H k (.lst (d.map V.str))) p (.ins aB c (Zu "all_keys" (.ref k) [])))],
#[Y,X.fn x=true\/X.env.scope.names.lookup x=U .local],
#[Z,(show false=true from c)],
#[10,by have L:Inv X A B H { s with heap:=f,toks:=s.toks+1 }:=I.turned (t':=s.toks+1) (λb o a e=>(J.2 b a).trans e) n p q u x;obtain⟨o,e,c,d⟩:=id D;exact⟨_,rfl,Vr (s:={ s with heap:=f,toks:=s.toks+1 }) e c d #[6] ⟨.str ⟨#[z.cps[i]]⟩,H,L,#[H],⟨rfl,_,C,rfl⟩,D,λb a=>(g b a).1⟩⟩],
#[11,by have e:Z2 x.1 y=y:=if_neg (λz:y.1=x.1=>nd.1 (z ▸ Qm (f:=λx:Zy=>x.1) h));rw[e]],
#[12,(.ListComp bK [⟨Z,iter,[],0⟩,⟨iw,dC,[],0⟩] c pos)],
#[13,Zt cR cM H m rd sd L s nb li lo aC],
#[14,(upd K f.heap.objs.size (.lst []))],
#[15,Yu X.prog X.w X.K X.mg X.base CX k f fd ps sp],
#[16,(mgF rd nb li lo sd aC)],
#[17,List (ae×List aj)],
#[18,#[Zk,(YX K),#[5],T.b.n_len,Qv,#[Zc,‹1›]]],
#[19,by rintro i c d _ _ ⟨rfl,rfl⟩;show wpS _ _ _ _ (get >>= _) _ _;refine wpS_bind (wpS_get ?_);show wpS _ _ _ _ (if (pendingOf d).size<=1 then _ else _) _ _;rw[if_pos p];exact wpS_pure (wpS_pure (q _ g j k))],
#[20,(.tup [.int (ZL (cds x) (cds y)),.int #[o],.int (#[o]-(far:Int)+1)])],
#[21,(mgF rd nb li lo sd a)],
#[22,(f.heap.push { cls:=.type "list",data:=.seq ([]:List aa).toArray })],
#[23,Nat->List V->L2.St->Hp->Prop],
#[24,["one", "other", "far"]],
#[25,Df P w K mg base 2 "_law_pick" ["_law_left_here", "_law_many"] T8],
#[26,(∀b o,s.heap.get? b=U o->h'.get? b=U o)],
#[27,((lcp (cds i) z:Nat):Int)],
#[28,by refine .inr ⟨⟨xs,xs[i],c,Qb l⟩,Pv (i+1),λcJ aP q r=>⟨xs.length-(i+1),by lia,rfl,l,r⟩,λx q y=>?_⟩;obtain⟨rfl,e⟩:=y;simp only[WH,↓reduceIte];exact n i x ys b _ (e xs c) p],
#[29,(by show 0<=aq;decide)],
#[30,(done.length:Int)],
#[31,(ZZ I q #[4])],
#[32,(.builtin "type.__call__" ⟨.ref C::us,kw⟩)],
#[33,["_law_things", "_law_lists", "_law_rows", "_law_one", "_law_out", "_law_first", "_law_told", "_law_due", "_law_n", "_law_row", "_law_found", "_law_most", "_law_part"]],
#[34,List (List Key×ae×aa)],
#[35,(Zu "rows" (.ref c) [])],
#[36,PyProof.Rows.KeysOf κ aM],
#[37,(ZI X.prog X.w)],
#[38,∀vs H Q E,sp vs H Q E->vs.length=ps.length],
#[39,((lcp (cds i) (cds l):Nat):Int)],
#[40,#[Za,#[ZN],#[Za,#[ZN],#[Za,#[ZN],#[Za,#[ZN],#[Zc,#[ZN],#[ZN],#[ZN],#[ZN],#[ZN]]]]]]],
#[41,(upd M D (.lst (Z7 (r.eraseIdx i))))],
#[42,(.tup ((Kb (b+1+i) e (m-1)).map kV))],
#[43,(upd J k (.lst (gone.map V.int++[.int n])))],
#[44,(s.heap.push { cls:=.type "range",data:=.fields #[.int lo t,.int a u,.int 1 v] })],
#[45,(Or.inr #[3])],
#[46,(U (.builtin "object.__setattr__"))],
#[47,(.tup [.int (i:Int),.ref x.1])],
#[48,(upd G f.heap.objs.size (.lst []))],
#[49,(bn c #[m] s.heap.objs.size X.env)],
#[50,(.Call (.Name x p) (e::es) [] pos)],
#[51,[.inl (ZV M).1,.inl (ZV M).2]],
#[52,Mf P w K mg base 2 aB "head" #[V] (U2 aB)],
#[53,(a.map λx=>x.2.length)],
#[54,by refine⟨λi m ys a H=>m=kvs.length-i/\i<=kvs.length/\Pv i ys a H,⟨kvs.length,by simp,Qt _,h0⟩,?_⟩;rintro i m ys a H ⟨rfl,hi,p⟩;have q:=hl i ys a H p],
#[55,["one", "other"]],
#[56,∀i x ys b H,xs[i]? = U x->Pv i ys b H->g x b H λh o=>f h o λy j=>j D=U (.lst ys)/\ys.length<aq/\Pv (i+1) (ys++[y]) h (upd j D (.lst (ys++[y])))],
#[57,⟨by lia,by lia⟩],
#[58,of_decide_eq_true d],
#[59,by intro nd mem k f g i last go;have o:=mem _ (Qr _ l.1);refine j ?_ (λm b=>?_) q f (N8 g (λx hx=>last x hx _ l.1)) (λm b=>?_) (λx hx=>?_) (λ_ _=>by simp)],
#[60,(.tup [.int u.2.1,.int (u.2.2.1:Int),.str u.2.2.2])],
#[61,(.ref a)],
#[62,(.ListComp b [⟨c,d,[],0⟩,⟨e,a,[],0⟩] f pos)],
#[63,PyProof.Rows.KeyKind],
#[64,(ss.map V.str)],
#[65,(.tup ((Kb b (b+1+i) 1).map kV))],
#[66,⟨ok.mod,ok.kind,ok.glob,ok.blt,ok.above,ok.inj,ok.has,ok.cab,ok.hd,ok.frames,ok.stk,ok.exf,ok.bs,ok.bsz,ok.noex,ok.exfs,ok.funs,ok.frf⟩],
#[67,⟨_,rfl,_,rfl,a,_,_,_,rfl,rfl,Z.seq hS,sC,_,rfl,#[K],λtn lj=>⟨D,_,_,rfl,rfl,Zh lj _ _ _ W,(by unfold Z7;rw[Qa];exact ZK #[2]),?_⟩⟩],
#[68,by rw[show Zu f v ((k,x)::r)=(if k=f then (k,v)::r else (k,x)::Zu f v r) from rfl]],
#[69,(ts.map λt=>aa.ref t.1)],
#[70,(setPending b ((pendingOf b).push (0,aM.size,0)))],
#[71,(.tup xs)],
#[72,#[Zx,(ixL K),‹0›,#[Zi]]],
#[73,by subst o;refine wpS_bind ?_;rw[moveDown'_eq];refine wpS_modify (wpS_pure ?_);exact⟨rfl,b.set (bubble_perm _ _ _),MA (by rw[b.size];lia) m d f g⟩],
#[74,["self", "one", "other", "far"]],
#[75,(decide_eq_true z)],
#[76,by exact .inl ⟨⟨xs,c,by lia⟩,hd ys b H (e ▸ p)⟩],
#[77,[.int Y.li,.int Y.lo]],
#[78,Option (ae×Int×Int)],
#[79,(λd=>?_)],
#[80,by show wpS _ _ _ _ (forIn [:#[F].size] (af,()) _ >>= _) _ _;refine wpS_bind ?_;refine wpS_forRange (λi c d=>c=(af,())/\d=a) ?_ ?_ ⟨rfl,rfl⟩],
#[81,X.calm=true],
#[82,(R.map List.length)],
#[83,(.ref r)],
#[84,#[Zc,‹0›,#[Zi]]],
#[85,by show aw _ _ (holding [.ref #[h].objs.size] (call (.builtin "list.sort") [.ref #[h].objs.size]) >>= λ_=>ret (.ref #[h].objs.size)) _ _ _],
#[86,X.env.scope=o],
#[87,List (Key×V)],
#[88,(.lst ((ZF L).map V.int))],
#[89,by subst m hw n;obtain⟨q,t,R,x,y,A⟩:=j it #[4];obtain⟨B,C⟩:=p;obtain⟨D,a,F⟩:=I.dictF B hd;have l:kvs.length=D.length:=a.length],
#[90,(kk (ks ss x))],
#[91,(.frz o (.dK kvs))],
#[92,by refine r (λx f=>?_) (λx f=>?_) (λd hd x f=>by have:=o d hd x f;lia) (λa ha x f=>?_) (λb g a ha p=>?_) (λd hd b g a ha p=>?_) m],
#[93,["groves", "begin", "end", "most"]],
#[94,by unfold Z2;rw[if_neg (λz:u.1=x.1=>nd.1 (z ▸ Qm (f:=λx:Zy=>x.1) b))]],
#[95,by rintro r s6 ⟨u,hr,h6⟩;subst hr;refine thn h6 ?_;rintro _ s7 ⟨x,H7,I7,r7,y7,kG,qZ⟩;have rb:=I7.pinned (fc qZ) (T.obj _ _ kG)],
#[96,⟨_,QB _ rfl,rfl,rfl⟩],
#[97,["things", "runs", "tree", "parts", "rows"]],
#[98,["groves", "sizes", "ways", "begin", "end"]],
#[99,["groves", "alone", "begin", "end", "most"]],
#[aa,Mf P w K mg base 7 ao "take_few" ["self", "many"] (Si K aB ao)],
#[ab,((us.map (·.2)).map Xr)],
#[ad,⟨_,rfl,_,_,rfl,rfl,.inr (LB _),_,rfl,_,rfl,_,_,rfl,rfl,.inl ⟨by decide,by decide⟩,_,_,rfl,rfl,#[K],λp b=>?_⟩],
#[ae,(a.findIdx λu=>decide (u.2=t.2))],
#[af,(ZG P).Nodup],
#[ag,#[Zc,‹2›]],
#[ah,by intro g s i H R I h;refine thn (hl g s i H _ I h) ?_;rintro v c ⟨x,j,d,k,m⟩;obtain⟨a,e,⟨xs,n⟩,q⟩:=m;subst e;cases k],
#[ai,by have U:Inv X G J H { s with heap:=g }:=I.turned (t':=s.toks) (λb o f e=>(T.2 b f).trans e) y A B C D;obtain⟨o,e,c,d⟩:=id L],
#[aj,(.Call (.Attribute o m bq) (e::es) [] pos)],
#[ak,∀x,bb iter X.env x=pure x],
#[al,by obtain⟨⟨cls,p,data,q⟩,d,e,n,f⟩:=id hl;obtain⟨⟨qa,r,data2,t⟩,g,i,u,j⟩:=id hb;simp only at e f i j;subst e f i j],
#[am,by refine⟨_,rfl,rfl,_,rfl,Xp #[O] ?_⟩],
#[an,List Zy],
#[ao,#[Zj,#[Zn,#[Xi]]]],
#[ap,by subst j hw l;obtain⟨n,p,G,q,u,x⟩:=g it #[4]],
#[aq,by intro k' e i;obtain⟨k0,D,j,o⟩:=i.last rfl;obtain⟨l,m⟩:=f j],
#[ar,Cf P w K mg base 14 ao "Merge" ["self", "rows"] (Sv aB ao)],
#[au,(upd (upd (upd t m (.ins ao g (Zu "next_number" (.int (l.length:Int)) #[35]))) m (.ins ao g #[g])) m (.ins ao g (Zu "looked" (.int 0) #[g])))],
#[av,(.lst [])],
#[aw,["_law_script", "_law_k", "_law_left_here", "_law_things", "_law_room", "_law_ways", "_law_lists", "_law_due"]],
#[ax,(ss.getD x.toNat "")],
#[ay,(I.hok.fresh (Qh _))],
#[az,⟨xs.length,by simp,Qt _,h0⟩],
#[aA,(hdM (bump L e.n))],
#[aB,(by show 0<=_;lia)],
#[aC,["one", "other", "at"]],
#[aD,(ks.map kV)],
#[aE,(by simp only[List.size_toArray]<;>lia)],
#[aF,(Z3 M n)],
#[aG,(.tup [.int i,.str y])],
#[aH,((List.range i).map λj=>.int (Xc c j))],
#[aI,⟨λb o e n t hx=>?_,λb o e n t hx=>?_,I.base.free,λb o e hx=>?_,I.base.tups,I.base.frzs,I.base.tbls⟩],
#[aJ,by obtain⟨u,rfl⟩:=hq],
#[aK,(ZX 0 R.length)],
#[aL,((lcp (cds l) z:Nat):Int)],
#[aM,absurd #[Z] Qz],
#[aN,["things", "thing"]],
#[aO,WF prog w A s k0 κ],
#[aP,#[Zj,#[Zn,‹2›]]],
#[aQ,by have j8:=TY 8 (hdM L) st (ZF L) M2.up (QL (show (ZF L).length<=60 by unfold ZF;rw[Qa];exact M2.few) #[6]) #[6] S2],
#[aR,⟨rfl,rfl⟩],
#[aS,by have d:=nd;rw[<- h.num]at d;have e:=Ob _ d s.1 s.2.1;have le:=s.le d g;refine⟨g.bump _,?_,?_,λa ha b f=>?_⟩],
#[aT,(cds x)],
#[aU,(.ref C)],
#[aV,(.Call (.Attribute o m bq) [] [] pos)],
#[aW,#[Zc,‹0›,‹1›]],
#[aX,(decide_eq_true (show V.int ((e:Int)-(b:Int))=V.int 1 from by rw[show ((e:Int)-(b:Int))=1 by lia]))],
#[aY,List Nat],
#[aZ,(.tup ((Kb j (j+1+i) (1+l)).map kV))],
#[a0,(.tup ((Kb (b+1+j) e (m-1)).map kV))],
#[a1,(.ref f)],
#[a2,["things", "runs", "tree", "parts", "rows", "part"]],
#[a3,["self", "meeting", "comer"]],
#[a4,List ZD],
#[a5,Df P w K mg base 1 "halves" ["numbers"] (SG K true)],
#[a6,(∀u∈ts,ZP u.2 t.2=false)],
#[a7,(seqObj "list" vs.toArray 0)],
#[a8,(.ListComp d [⟨a,f,[],0⟩,⟨g,b,[],0⟩] i pos)],
#[a9,by intro ai s σ H xs us Q I r h;obtain⟨i,j,rfl,q⟩:=h;obtain⟨u,w',rfl,⟨t,rfl⟩,⟨t',rfl⟩⟩:=RQ r],
#[ba,ZU N N' o c],
#[bb,Option Int],
#[bc,(x == ("__classdict__" : aj))=false],
#[bd,(excClassObj nm q C N bs (.ref B::Rm) true sn sub ab iU dd k0 k1 k2 k3 k5 "ValueError.__new__")],
#[be,(N'.length-N.length)],
#[bf,(.ref s.heap.objs.size)],
#[bg,((#[z].length:Nat):Int)],
#[bh,#[Zk,(YX K),#[5],T.b.n_len,Qv,#[Zc,#[pv,0,#[45]]]]],
#[bi,by intro ai s σ H x y v u Q I a b h],
#[bj,⟨Y.m,Y.rd,Y.sd,L7,s7,Y.nb,Y.li+k7,Y.lo+q7,w7⟩],
#[bk,["numbers", "n"]],
#[bl,(.lst zs)],
#[bm,(.dK (kvM L))],
#[bn,#[Zx,(ixT K),‹3›,#[Zi]]],
#[bo,#[Zx,(ixT K),‹2›,#[Zi]]],
#[bp,#[Zc,‹0›]],
#[bq,∃j:ah,j={ f with heap:=f.heap.push { cls:=.type "list",data:=.seq ([]:List aa).toArray } }],
#[br,∀b u,h.get? b=U u->h'.get? b=U u],
#[bs,(bn c #[m] j.heap.objs.size X.env)],
#[bt,(.tup ((Kb 0 ns.length 1).map kV))],
#[bu,#[Zk,(Ti K),#[5],T.b.n_isinstance,boot_isinstance,#[Zc,‹1›,#[Vm,T.b.n_list,boot_list]]]],
#[bv,Pv 0 [] (b++List.replicate k af) (upd d D #[av])],
#[bw,by show (R.getD i.toNat []).Perm ([R.getD i.toNat []].flatten);rw[List.flatten_cons,List.flatten_nil,QO]],
#[bx,(show (Sum.inr (ks ss (YU R u)).1:Key)=Sum.inr (ks ss (YU R v)).1 from congrArg Sum.inr p)],
#[bz,(Qn _ (Qn _ (V5 k e)))],
#[bA,⟨by lia,by lia,by lia,by lia⟩],
#[bB,["sizes", "ways"]],
#[bC,(∀s∈ss,s.length<=1000)],
#[bD,(pairsOf vs)],
#[bE,(cds y)],
#[bF,((k.toNat:Nat):Int)],
#[bG,by simp only[List.mem_cons,List.not_mem_nil,or_false]at d],
#[bH,by simp only[List.mem_append,List.mem_singleton]at ha ⊢],
#[bI,by show X.env.scope.names.lookup y.1=_\/X.env.scope.names.lookup y.1=_;rw[ho];exact(S.free y hy hf).2],
#[bJ,[.Tuple [.Name x m,.Name y n,.Name z r] kt pt]],
#[bK,∀a xs,H a=U #[71]->b a=U #[71]],
#[bL,by refine Calls.call_function_entry kind_sorted plain_sorted entry_sorted (args_sorted1 (.ref l)) ?_],
#[bM,by obtain⟨m,b,c,L,s,d,e,lo,g,rfl,M,q⟩:=h;refine⟨_,#[Zj,#[Zn,#[W]]],?_⟩;obtain⟨i,j⟩:=M.ob],
#[bN,(kk (ks ss y))],
#[bO,(a.filter λu=>decide (u.1=x.1))],
#[bP,(.tup ((Kb b (b+1+j) 1).map kV))],
#[bQ,(((m.map V.ref).length:Nat):Int)],
#[bR,by have p:(u.2.1.drop u.2.2).Pairwise LeS:=((UT _).mp (srt u c)).sublist (QaT _ _);rw[Sb d]at p hyu],
#[bS,(arrOf d)],
#[bT,(Wn CX P w K mg base N d a f g A outer s H E)],
#[bU,by subst r hw t;obtain⟨⟨l,f⟩,g⟩:=st;obtain⟨L,n,l1⟩:=y;obtain⟨its,A,B,_⟩:=I.list n],
#[bV,["_law_left_here"]],
#[bW,["_law_left_here", "_law_sort"]],
#[bX,Qm (f:=λx:ae×List aj=>x.2) hx],
#[bY,(s.heap.push PySem.W.emptyDict)],
#[bZ,(notedBy #[j] A env λe s'=>R (.error e) s')],
#[b0,(if b=true then (1:Int) else 0)],
#[b1,(if ([]:List Keyword).isEmpty then 0 else 1)],
#[b2,(f.2 b (QK (QH (Qx e) (I.ok.cab x c S hc))))],
#[b3,#[Zk,(YX K),#[5],T.b.n_len,Qv,#[Zc,‹6›]]],
#[b4,by rw[list_sort_plain];refine ak (Vl ha rfl ?_);show aw _ _ (updateSeq a (λx=>#[]) >>= _) _ _ _],
#[b5,by have A:=Qk (c.one v);have B:=Qk (d.one w);subst A;subst B;rw[s]at n;cases n;rw[t]at p;cases p],
#[b6,(YF (YJ Z9))],
#[b7,∀ys b H,Pv xs.length ys b H->Q (.ref D) H],
#[b8,by rw[List.getElem?_set_ne (Ne.symm w)]at l;obtain⟨O,P,q⟩:=W j y G g l J;refine⟨O,P,?_⟩],
#[b9,by obtain⟨z,lo,i,l,g,C,D,j,m,n,E⟩:=(show YY X.prog X.w k c.heap d (.dK f) from A.hok d _ B)],
#[ca,List aa],
#[cb,(λr g=>r=.ok (.ret (.bool true))/\OldK c.heap g.heap/\g.os=c.os/\AllBare g.gens)],
#[cc,(show false=true from f)],
#[cd,(hdM L)],
#[ce,(.lst (((ns.drop b).take (e-b)).map V.int))],
#[cf,(.ins aB dp (Yr e.k e.f ((e.g+1:Nat):Int)))],
#[ch,(λi v=>∃t,v=.int (a+i*c) t)],
#[ci,(ss.getD n.toNat "")],
#[cj,(false,eval e X.env)],
#[ck,by refine⟨c.typeIs,λb q=>?_,g⟩;cases q;obtain⟨ob,_,_,h,i,_⟩:=c;exact⟨ob,h,i.2.1⟩],
#[cl,["things", "room", "inside", "next_in", "runs", "goer", "run", "key", "number"]],
#[cm,(upd (upd H7 G (.own u)) u (.ins aB G []))],
#[cn,["run", "key", "comer"]],
#[co,["_law_cell", "_law_k"]],
#[cp,X.N[i]? = U x],
#[cq,PA X (e::es) t],
#[cr,List (aj×Int)],
#[cs,Int×Int],
#[ct,HOk P w H h],
#[cu,Df P w K mg base 1 "how_many" ["rows"] Sh],
#[cx,(k == aL.free)],
#[cy,(by rw[h.num];exact nd)],
#[cz,(ZY 8 (ZF L) e.n)],
#[cA,(.tup [.str (ss.getD y.toNat ""),.int y])],
#[cB,(.inl (Qn _ (by rw[e];simp)))],
#[cC,(.Name x pos)],
#[cD,(.ListComp bK [⟨tg,iter,dU,0⟩] c pos)],
#[cE,a_,b_,c_,d_,by refine a_ b_ #[I] (λaR f A outer s H c_ Q E d_ h=>?_)],
#[cF,a_,b_,(λaR f A outer s H a_ Q E b_ h=>?_)],
#[cG,a_,(by simpa using a_)],
#[cH,a_,b_,c_,#[Zp,#[Zz,a_,b_,#[3]],#[Zp,#[Zz,c_,b_,#[3]],(@YB _)]]],
#[cI,a_,b_,c_,d_,e_,by rw[a_]at b_;cases b_;have c_:d_<e_:=(Qc.mp a_).1],
#[cJ,a_,(λ_ _ _ _ h=>SqL.of (h.2.2.2.2 _ _ a_))],
#[cK,a_,b_,c_,by obtain⟨a_,b_,rfl⟩:=Qs.mp c_],
#[cL,a_,b_,(by rw[a_];exact b_)],
#[cM,a_,b_,(λa_ b_=>by cases b_)],
#[cN,a_,b_,c_,(thn (a_ b_ s c_ H _ I h) ?_)],
#[cO,a_,congrArg List.length a_],
#[cP,a_,PySem.W.nsIn K aH a_ = U af],
#[cQ,a_,b_,c_,(λ_ _ _ _=>#[gT,K,2,#[Zp,#[cg,a_,b_],#[Zp,#[cg,c_,b_],(@YB _)]]])],
#[cR,a_,b_,c_,#[Zm,a_,‹b_›,c_,(Zs _)]],
#[cS,a_,b_,Pv 0 [] (a_++List.replicate k af) (upd b_ D #[av])],
#[cT,a_,(a_,.«local»)],
#[cU,a_,b_,(((a_ b_).length:Nat):Int)],
#[cV,a_,b_,c_,d_,e_,by have a_:=b_ j.heap.objs.size j c_ fp;have d_:=e_ j.heap.objs.size j c_ fp],
#[cW,a_,b_,c_,d_,by have a_:(upd b_ c_ d_) c_=U d_:=Zb],
#[cX,a_,b_,c_,d_,Mf P w K mg base a_ ao b_ c_ (d_ aB ao)],
#[cY,a_,b_,c_,by refine⟨λi m a_ b_ H=>m=xs.length-i/\i<=xs.length/\Pv i a_ b_ H,#[az],?_⟩;rintro i m a_ b_ H ⟨rfl,hi,p⟩;have c_:=hl i a_ b_ H p],
#[cZ,a_,b_,c_,d_,e_,by have a_:(upd (upd b_ c_ (.own m)) m (.ins ao c_ [])) m=U (.ins ao c_ []):=Zb;generalize upd (upd b_ c_ (.own m)) m (.ins ao c_ [])=d_ at e_ a_ ⊢],
#[c0,a_,b_,c_,d_,by refine .inr ⟨⟨xs,xs[i],a_,Qb b_⟩,Pv (i+1),λcJ aP c_ d_=>⟨xs.length-(i+1),by lia,rfl,b_,d_⟩,λx c_ y=>?_⟩;obtain⟨rfl,e⟩:=y],
#[c1,a_,b_,c_,d_,by refine⟨_,rfl,a_,rfl,⟨_,SqL.of b_⟩,λc_ d_=>?_⟩],
#[c2,a_,b_,c_,d_,Df P w K mg base a_ b_ c_ d_],
#[c3,a_,(.builtin a_)],
#[c4,a_,b_,c_,d_,⟨_,rfl,a_,rfl,⟨_,SqL.of b_⟩,λc_ d_=>?_⟩],
#[c5,a_,b_,c_,by obtain⟨a_,b_⟩:=c_],
#[c6,a_,b_,c_,d_,e_,by rw[Ze (Zd a_ b_)];exact c_ _ _ (d_ e_ o a_)],
#[c7,a_,b_,c_,#[Zp,#[cg,a_,b_],#[Zp,#[cg,c_,b_],(@YB _)]]],
#[c8,a_,b_,c_,d_,(upd (upd a_ b_ (.own c_)) c_ (.ins d_ b_ []))],
#[c9,a_,b_,(by rw[<- a_];exact b_)],
#[da,a_,b_,c_,d_,(PySem.W.fnOf x a_ (Zq st) (Zl st) (Zf st) .none kV b_ pm c_ d_ ct)],
#[db,a_,b_,PySem.W.findIn K (.ref a_) b_ = U af],
#[dc,a_,b_,c_,#[gT,K,2,#[Zp,#[cg,a_,b_],#[Zp,#[cg,c_,b_],(@YB _)]]]],
#[dd,a_,b_,by obtain⟨a_,rfl⟩:=b_],
#[de,a_,b_,by refine⟨λi m a_ b_ H=>m=xs.length-i/\i<=xs.length/\Pv i a_ b_ H,#[az],?_⟩;rintro i m a_ b_ H ⟨rfl,hi,p⟩],
#[df,a_,b_,#[Zx,(a_ K),‹b_›,#[Zi]]],
#[dg,a_,b_,∀t∈a_,∃its:List aa,ZA (t.2.map kV) its/\IsTup b_ t.1 its.toArray],
#[dh,a_,b_,c_,d_,by refine .inr ⟨⟨xs,xs[i],a_,Qb b_⟩,Pv (i+1),λcJ aP c_ d_=>⟨xs.length-(i+1),by lia,rfl,b_,d_⟩,λx c_ y=>?_⟩],
#[di,a_,b_,(λ_ _ _ _=>#[cg,a_,b_])],
#[dj,a_,b_,c_,(by rw[a_];exact b_ c_)],
#[dk,a_,∀ {a_:Type} {t:Sem a_} {Q:a_->ah->Prop} {s:ah},aw #[j] A t Q E s->aw #[j] A t Q #[bZ] s ],
#[dl,a_,⟨rfl,_,SqL.of a_⟩],
#[dm,a_,b_,by refine⟨a_,_,rfl,SqT.of b_,rfl,_,_,rfl,_,_,rfl,rfl,?_⟩],
#[dn,a_,b_,⟨a_,_,rfl,SqT.of b_,rfl,_,_,rfl,_,_,rfl,rfl,?_⟩],
#[dp,a_,b_,(.lst (a_ b_))],
#[dq,a_,b_,c_,(show ∃t,u=a_ b_ t from c_)],
#[dr,a_,⟨⟨af,rfl⟩,rfl,Qt _,Zb,Zh a_ _⟩],
#[ds,a_,b_,by obtain⟨u,rfl,a_⟩:=XV b_;cases a_],
#[dt,a_,b_,#[Xci,K,a_,b_]],
#[du,a_,b_,c_,∀C s H fp,a_ #[u] b_ c_],
#[dv,a_,(by rw[a_];lia)],
#[dw,a_,(Wn CX0 P w K mg base N a_ (Zf st) f a A outer s H E)],
#[dx,a_,(A.deeper (envOfC a_ (Zf st) s.heap.objs.size f a))],
#[dy,a_,(c.heap.push { cls:=.type a_,data:=.fields #[.ref d] })],
#[dz,a_,b_,∀i a_ b_ H,Pv i a_ b_ H->SqL K H a xs],
#[dA,a_,(a_ λu=>V.ref u.1)],
#[dB,a_,b_,c_,∀a_ b_ H,Pv c_ a_ b_ H->Q (.ref D) H],
#[dC,a_,b_,((lcp a_ b_:Nat):Int)],
#[dD,a_,b_,c_,#[Yb,a_,T.cl_Merge,b_,‹c_›]],
#[dE,a_,b_,c_,d_,e_,∀a_ b_,c_ a_=U d_->e_ a_=U d_],
#[dF,a_,b_,by exact⟨_,a_,λb_ z=>by cases z⟩],
#[dG,a_,b_,⟨_,a_,λb_ z=>by cases z⟩],
#[dH,a_,#[Zj,#[Zn,‹a_›]]],
#[dI,a_,(eval a_ X.env)],
#[dJ,a_,by rw[Ze (λz=>by rw[z,a_]at this;cases this)];exact this],
#[dK,a_,by simp only[List.mem_append,List.mem_singleton]at a_ ⊢],
#[dL,a_,by exact⟨⟨af,rfl⟩,rfl,Qt _,Zb,Zh a_ _⟩],
#[dM,a_,b_,c_,(upd a_ D (.lst (b_++[c_])))],
#[dN,a_,b_,c_,#[ZE,a_,b_,c_,#[5]]],
#[dO,a_,b_,c_,(∀b o,a_ b=U o->b≠b_->c_ b=U o)],
#[dP,a_,b_,c_,by intro a_ s b_ H c_ I h],
#[dQ,a_,a_ T (P:=P) (w:=w) (base:=base)],
#[dR,a_,X.env.scope.names.lookup a_=U .local],
#[dS,a_,(backToKw a_ (b9 [] X.env))],
#[dT,a_,#[Zk,(YX K),#[5],T.b.n_len,Qv,#[Zc,‹a_›]]],
#[dU,a_,b_,#[ZB,a_,b_,#[3],#[Ym,#[Zc]]]],
#[dV,a_,b_,by refine⟨_,rfl,m,ao,a_,_,rfl,b_,T.cl_Merge,T.na_Merge_best,VX ..,?_⟩;rw[Sx]],
#[dW,a_,b_,by have a_:=b_ T (P:=P) (w:=w) (base:=base)],
#[dX,a_,b_,c_,d_,e_,by intro a_ s b_ H xs us Q I r h;obtain⟨p,c_,rfl,d_,q⟩:=h;obtain⟨u,rfl,e_⟩:=XV r;cases e_],
#[dY,a_,b_,by exact nomatch a_ b_],
#[dZ,a_,b_,#[Xns,K,a_,b_]],
#[d0,a_,by obtain⟨u,rfl,a_⟩:=XV r],
#[d1,a_,b_,c_,⟨I9.unpinned,a_ _ _ _ b_ λb k c_ e=>(I9.pin (b,c_) #[bz]).1,λb k=>?_⟩],
#[d2,a_,(.lst (a_ λu=>V.ref u.1))],
#[d3,a_,by refine Y2 (λa_=>?_) (λa_=>?_)],
#[d4,a_,b_,#[Zm,a_,‹b_›,#[Zk,VG,#[5],T.b.n_len,Qv,#[Zc,‹1›]],(Zs _)]],
#[d5,a_,b_,#[Zx,(ixL K),‹a_›,#[ZJ,Xh,‹b_›,#[Zi]]]],
#[d6,a_,["self", a_]],
#[d7,a_,b_,c_,d_,by refine wpAny_noted ?_;rw[a_];refine ak (bg (ak (thn (go (turn n s b_)) λr c_ d_=>?_)))],
#[d8,a_,#[dp,a_,V.int]],
#[d9,a_,b_,c_,by rw[a_,b_]at c_;cases c_],
#[ea,a_,b_,⟨_,rfl,a_,_,rfl,.inl (SqL.of b_),rfl,_,rfl,Y2 #[79] #[79]⟩],
#[eb,a_,((a_:Nat):Int)],
#[ec,a_,#[pv,a_,#[45]]],
#[ed,a_,(∀k,b<k->k<e->Has ns a_ H kvs b k/\Has ns a_ H kvs k e)],
#[ee,a_,b_,c_,by rw[a_,b_,iO]at c_;refine thn c_ ?_],
#[ef,a_,b_,by refine⟨_,rfl,a_,_,rfl,.inl (SqL.of b_),rfl,_,rfl,Y2 #[79] #[79]⟩],
#[eg,a_,b_,(λa A outer s H vs Q E a_ h=>b_ a f A outer s H vs Q E a_ h)],
#[eh,a_,b_,c_,d_,[⟨a_,b_,[],0⟩,⟨c_,d_,[],0⟩]],
#[ei,a_,b_,c_,d_,e_,by obtain⟨its,a_,b_,c_⟩:=d_ e_],
#[ej,a_,b_,((a_+b_:Nat):Int)],
#[ek,a_,b_,⟨a_,_,rfl,SqT.of b_,rfl,_,_,rfl,_,_,rfl,_,_,rfl,rfl,?_⟩],
#[el,a_,(by rw[Qa,a_,aG];lia)],
#[em,a_,b_,⟨_,rfl,a_,_,rfl,.inl (SqL.of b_),_,_,rfl,rfl,_,rfl,?_⟩],
#[en,a_,b_,by refine⟨a_,_,rfl,SqT.of b_,rfl,_,_,rfl,_,_,rfl,_,_,rfl,rfl,?_⟩],
#[eo,a_,b_,(.tup [.int a_,.int (b_:Int)])],
#[ep,a_,(.tup [.int (ZV a_).1,.int (ZV a_).2])],
#[eq,a_,b_,c_,d_,by obtain⟨a_,b_,rfl,c_,d_,q⟩:=h],
#[er,a_,b_,#[Zm,a_,‹b_›,#[Zk,VG,#[5],T.b.n_len,Qv,#[bp]],(Zs _)]],
#[es,a_,b_,by refine⟨_,rfl,a_,_,rfl,.inl (SqL.of b_),_,_,rfl,rfl,_,rfl,?_⟩],
#[et,a_,b_,c_,d_,(.ListComp a_ [⟨b_,iter,c_,0⟩] d_ pos)],
#[eu,a_,by unfold ZG at nd;rw[Qj,Q0]at nd;unfold a_ YW],
#[ev,a_,aF [a_] X.env=[(false,eval a_ X.env)]],
#[ew,a_,b_,c_,(∀b o,H b=U o->¬ Fp m a_ b_ L b->c_ b=U o)],
#[ex,a_,b_,c_,(show YY X.prog X.w H s.heap a_ (.dT b_) from I.hok a_ _ c_)],
#[ey,a_,b_,c_,#[Zc,‹a_›,‹b_›,‹c_›]],
#[ez,a_,b_,c_,d_,#[gT,K,3,#[Zp,#[Zz,a_,b_,#[3]],#[cH,c_,b_,d_]]]],
#[eA,a_,(∀x∈a_,sortedS x.2=true)],
#[eB,a_,by unfold ZG at nd;rw[Qj,Q0]at nd;unfold a_ YW;rw[Qj,Q5,Q5]],
#[eC,a_,b_,c_,(thn (hi a_ s b_ H _ I h) λv s1 h1=>thn h1 λoS c_ h2=>?_)],
#[eD,a_,b_,c_,d_,e_,by obtain⟨b1,b2,b3⟩:=a_ b_;obtain⟨m',bZ,c_⟩:=d_ _ _ _ e_],
#[eE,a_,b_,#[ZJ,YL,#[Zi],#[dN,a_,b_,#[84]]]],
#[eF,a_,b_,(a_ b_=U .cell\/a_ b_=U .free)],
#[eG,a_,(false,eval a_ X.env)],
#[eH,a_,a_->ah->Prop],
#[eI,a_,by exact Q8 a_ I.kIn True.intro e #[O] h],
#[eJ,a_,Q8 a_ I.kIn True.intro e #[O] h],
#[eK,a_,(by rw[Ql,Qb a_]<;>rfl)],
#[eL,a_,b_,#[Zx,(ixL K),‹a_›,‹b_›]],
#[eM,a_,(by show a_<=aq;decide)],
#[eN,a_,b_,by rw[a_]at this;obtain⟨d,b_,e⟩:=Qs.mp this],
#[eO,a_,b_,c_,(∀a_ b_,N a_ b_->∃c_,c_<m/\W (i+1) c_ a_ b_)],
#[eP,a_,b_,(λb o a_ e=>b_ b o a_ e)],
#[eQ,a_,b_,(ha pos a_ s b_ H _ I h)],
#[eR,a_,b_,c_,(∀b o,a_ b=U o->b≠m->b≠b_->c_ b=U o)],
#[eS,a_,b_,c_,(∀ (s:ah) (a_:aa),BindsTo s b_ ⟨[a_],[]⟩ [(c_,a_)])],
#[eT,a_,b_,c_,d_,e_,by have a_:atI [V.int b_,.int c_] d_=U (.int e_):=Yz (j:=d_) rfl],
#[eU,a_,b_,c_,by unfold a_ YW at b_;show#[11];exact List.perm_middle.symm.trans (c_ _)],
#[eV,a_,b_,Inv X a_ b_ H s],
#[eW,a_,b_,s.heap.get? a_=U { cls:=.type "list",data:=.seq b_ n }],
#[eX,a_,b_,c_,by rw[a_]at b_;cases c_],
#[eY,a_,b_,c_,by refine⟨a_,λb_ c_=>?_⟩],
#[eZ,a_,b_,(SqL a_ H p b_\/SqT a_ H p b_)],
#[e0,a_,b_,((a_ : aj) = b_)],
#[e1,a_,(@Tq _ _ _ _ _ _ _ _ _ _ ‹a_› #[Zi] Tp)],
#[e2,a_,b_,c_,Zt a_ b_ H m rd sd L s nb li lo c_],
#[e3,a_,List (aj×a_)],
#[e4,a_,by have hb:(g == a_)=false:=beq_eq_false_iff_ne.mpr h],
#[e5,a_,∀b o,H b=U o->b≠p->a_ b=U o],
#[e6,a_,b_,c_,d_,(ZW (st:=a_) b_ c_ d_)],
#[e7,a_,b_,by rw[if_neg a_,if_neg b_]],
#[e8,a_,b_,c_,by obtain⟨a_,e,d⟩:=b_ _ _ c_ b k;exact(I9.pin (b,a_) #[bz]).2.1],
#[e9,a_,b_,c_,d_,by obtain⟨a_,b_,c_⟩:=d_],
#[fa,a_,b_,bB a_ b_ X.env #[dI,a_]=eval a_ X.env],
#[fb,a_,b_,#[Zc,‹a_›,‹b_›]],
#[fc,a_,b_,c_,by obtain⟨a_,b_,c_⟩:=Qs.mp this],
#[fd,a_,b_,(∀s∈a_,s.length<=b_/\AZ s)],
#[fe,a_,by rw[if_pos a_,if_pos a_]],
#[ff,a_,#[dp,a_,V.str]],
#[fg,a_,(∀b∈fp,a_ b=af)],
#[fh,a_,(∀b o,h0.get? b=U o->a_ b=U o)],
#[fi,a_,⟨⟨af,af,rfl⟩,rfl,Qt _,Zb,Zh a_ _⟩],
#[fj,a_,λ_ _ _ _ _ st h=>a_ st h],
#[fk,a_,b_,hdS (Zt32 (a_ (b_ Z9)))],
#[fl,a_,b_,(.tup [.int a_,.int b_])],
#[fm,a_,b_,(.tup [.int a_,.int (b_:Int),.str z])],
#[fn,a_,((a_-1:Nat):Int)],
#[fo,a_,a_ tm=U (.tup ((#[51]:List Key).map kV))],
#[fp,a_,b_,a_ λ_ _ _ _ _ _ _ q=>b_ q],
#[fq,a_,#[dY,hw.one,a_]],
#[fr,a_,b_,by exact(a_ e b_).keep (Ze a.symm) (Ze b.symm) (Ze c.symm)],
#[fs,a_,a_ X.env.scope x],
#[ft,a_,b_,[.ref a_,.int b_]],
#[fu,a_,b_,c_,d_,e_,by rintro zs a_ b_ ⟨⟨c_,rfl⟩,rfl,_,d_,e_⟩],
#[fv,a_,(.list (a_ ax.int))],
#[fw,a_,by exact⟨⟨af,af,rfl⟩,rfl,Qt _,Zb,Zh a_ _⟩],
#[fx,a_,b_,by rw[if_neg a_]at b_],
#[fy,a_,b_,c_,∀b a_,b≠b_->c_ b=U a_->h'.get? b=U a_],
#[fz,a_,⟨a_,g,d,tk,os⟩],
#[fA,a_,b_,(.tup [.str a_,.int b_])],
#[fB,a_,X.A.units+a_<cLine],
#[fC,a_,b_,c_,d_,Df P w K mg base a_ b_ [c_] d_],
#[fD,a_,b_,c_,d_,by intro ai s σ H x a_ v b_ Q I c_ d_ h],
#[fE,a_,(.type a_)],
#[fF,a_,b_,c_,d_,Df P w K mg base a_ b_ [c_] (d_ K)],
#[fG,a_,b_,c_,#[ZE,a_,b_,#[Zc,‹c_›],#[5]]],
#[fH,a_,b_,c_,by exact .inl ⟨⟨xs,a_,by lia⟩,hd b_ c_ H (e ▸ p)⟩],
#[fI,a_,b_,c_,d_,⟨a_,rfl,⟨_,SqL.of b_⟩,λc_ d_=>?_⟩],
#[fJ,a_,b_,c_,#[Zx,(ixL K),#[cv,a_,b_],#[cw,c_,b_]]],
#[fK,⟨_,rfl,_,rfl,p,c,_,rfl,r,by lia,by decide,by decide,λk C k0 k1 D m=>?_⟩],
#[fL,by refine codeAny_builtin F.entry_min_loop ?_;show aw _ _ (seqItems? (.ref S) >>= _) _ _ _],
#[fM,(λxs H Q=>X2 λa kvs=>xs=[V.ref a]/\H a=U (.dK kvs)/\Q (.int kvs.length) H)],
#[fN,decide_eq_true #[2]],
#[fO,List (κ×V)],
#[fP,(show False from r)],
#[fQ,(by rcases gA with z|z|z<;>rw[z];exact n1.symm;exact n2.symm;exact n3.symm)],
#[fR,([]++W0 fp s7.heap)],
#[fS,(K w.params)],
#[fT,(first (min room ss.length))],
#[fU,(by show 2<=_;rw[aG];decide)],
#[fV,(.tup [.int (k:Int),.str z])],
#[fW,by show#[c5,y,A,x];obtain⟨B,f,C⟩:=I.dictF y hd;have n:kvs.length=B.length:=f.length],
#[fX,by obtain⟨y,A,S,B,C,D⟩:=j it #[4]],
#[fY,[λv=>bindName X.env z v,λv=>bindName X.env y v,λv=>bindName X.env x v]],
#[fZ,["_law_left_here", "_law_year", "_law_month", "_law_day", "_law_figures"]],
#[f0,V->Option Int->Option Int->Hp->VK->Prop],
#[f1,j.heap=f.heap.push { cls:=.type "list",data:=.seq ([]:List aa).toArray }],
#[f2,by show (o++os.flatten).Perm (lvR R (tLv t++Y3 l)).flatten;rw[R7,List.flatten_append]],
#[f3,List Key],
#[f4,(hdP (YW P x.1))],
#[f5,(ZX 0 ss.length)],
#[f6,(·.2)],
#[f7,⟨⟨af,rfl⟩,⟨[],rfl,rfl,λx h=>by cases h⟩,Qt _,Zb,Zh i7 _⟩],
#[f8,List (Int×Option aj)],
#[f9,(x.1,x.2.2,z)],
#[ga,(upd (upd H f A) r B)],
#[gb,(of_decide_eq_true d)],
#[gc,(by simp[SeqAt.shaped,ax.canLay0,ax.canLayAll0,ax.depth,ax.depthAll])],
#[gd,(.lst ys)],
#[ge,⟨_,rfl,?_⟩],
#[gf,aT.Range.rangeSize a b c=n],
#[gg,["things", "runs", "tree"]],
#[gh,List (List aj)],
#[gi,(c.length:Int)],
#[gj,(I.ok.hd hc)],
#[gk,(@Tw _ _ _ _ _ _ Tu #[Zi])],
#[gl,by obtain⟨p,g,d,tk,os⟩:=s;show#[e9,O,P,h,h];have f2:=AutoSeq1.sub_tuple_tuple],
#[gm,[.Tuple [.Name x g,.Name y k] kt pt]],
#[gn,#[Zk,(YX K),#[5],T.b.n_len,Qv,#[ag]]],
#[go,f.get? S=U { cls:=.type "list",data:=.seq #[.ref t.1,.ref t.1] c }],
#[gp,(Qh _)],
#[gq,⟨by decide,by decide⟩],
#[gr,by have e:=congrArg List.length (Yk N);rw[Qf]at e;have:=(WS h).2;have:=(WB h).2],
#[gs,aT.Range.small a b c=true],
#[gt,["_law_script", "_law_k"]],
#[gu,SB k0 aM st],
#[gv,KeyOrd.kle_refl _],
#[gw,(f.2 b (QK (QH (Qx e) I.ok.above)))],
#[gx,(by rw[e];exact decide_eq_true rfl)],
#[gy,(a.map λx=>(x.2,0))],
#[gz,(XS (R.map (YZ ss)))],
#[gA,(RU ha hb I h λv u f x y g i j k q=>c d f e g x y v u Q i j k q)],
#[gB,(List Int×List Int)],
#[gC,(L.map toL)],
#[gD,(.ins ao dx (mgF j l (p+1) lo B r))],
#[gE,(.compStart _ 0 (.ref it) #[v] (bn c #[m] #[22].objs.size X.env))],
#[gF,(.call (.ref fa) ⟨[.ref a],[]⟩)],
#[gG,⟨_,rfl,_,rfl,y,rfl,small i,rfl,_,rfl,Y2 (λc=>?_) (λc=>?_)⟩],
#[gH,⟨λi m b H=>m=xs.length-i/\i<=xs.length/\Pv i b H,#[az],?_⟩],
#[gI,by rintro⟨b1,b2⟩ u ⟨v,rfl,r,ws,f,a,j,t,z,k,i⟩;simp only at v;subst v],
#[gJ,by refine ak (au ?_)],
#[gK,codeAny_compStart_list jO (bD lp (λ_ _ z=>z) λ_ _ z=>z.elim)],
#[gL,Res ss A B c gone done R],
#[gM,by rw[show its.toArray.any (eqU x)=its.any (eqU x) by simp,RJ r fs];exact q],
#[gN,(thn #[eQ,a,b] λk l ⟨m,n,o,q,u⟩=>hc a l b n m k Q o q u)],
#[gO,(pairsOf (f.map λt=>aa.ref t.1))],
#[gP,(envOfC a b s.heap.objs.size f c)],
#[gQ,(arrOf a)],
#[gR,⟨_,λaP H' h=>h,?_⟩],
#[gS,by simp only[cx,HT.sIx,Option.getD_none,show (1:Int)>0 by decide,if_true]],
#[gU,V->List V->Hp->VK->Prop],
#[gV,List ZC],
#[gW,Df P w K mg base 5 "refuse_break" ["number", "keys"] (OW K)],
#[gX,(bq.endLine == bv.line)],
#[gY,(.ref p)],
#[gZ,(.lst (ts.map V.str++[.str k2]))],
#[g0,(.builtin "min.loop" { pos:=[.ref I,.none,.ref S],kw:=kw })],
#[g1,#[eX,List.getLast?_concat,hx,hx]],
#[g2,by simp only[Function.comp]],
#[g3,⟨_,rfl,by simpa [aT.Tuple.tupleCompareSizes] using i⟩],
#[g4,∀ {b:ae} {o:aI},s.heap.get? b=U o->s.heap.objs.size≠b],
#[g5,["_law_left_here", "_law_many"]],
#[g6,V->V->Hp->VK->Prop],
#[g7,(∀v∈ns,0<=v/\v<=1000000000)],
#[g8,(λvs H Q E h=>?_)],
#[g9,(thn #[eQ,i,j] λus s1 ⟨vs,H1,a,r,q⟩=>⟨a.kIn,?_⟩)],
#[ha,(.lst xs)],
#[hb,#[dp,ls.map,V.ref]],
#[hc,by have:X.env.scope.names.lookup x=U .free:=hk;rw[k]at this;cases this],
#[hd,[.ref p]],
#[he,(done.map List.length)],
#[hf,by show#[bi];obtain⟨i,j,rfl,rfl,q⟩:=h;show#[dd,t,a];show#[dd,c,b]],
#[hg,by refine⟨⟨o,e,ex.1⟩,λa g=>?_⟩;cases g;exact⟨o,e,ex.2.1⟩],
#[hh,by obtain⟨e,Z,J⟩:=Mq A.in1 #[fz,p] B C I;refine ak (Z c w _ _ ?_)],
#[hi,["_law_things"]],
#[hj,Yt X.K fd ps ds],
#[hk,(l.map PT.leaf)],
#[hl,(.lst ((List.range ss.length).map λj=>.int (Xc ss j)))],
#[hm,(λ_ _=>rfl)],
#[hn,(EP X a b Q)],
#[ho,(.tup #[aD])],
#[hp,⟨srt,Qaj _,List.Pairwise.nil,λa ha=>by cases ha⟩],
#[hq,⟨p.mem_iff.mp d,x,e,λb g=>f b (p.mem_iff.mpr g)⟩],
#[hr,⟨.str _,H,I.tok _,#[H],q⟩],
#[hs,by subst w;show#[eX,B,g,g];rw[List.getElem?_set_self Y]at l;cases l],
#[ht,ss.getD (YU R u).toNat "" = ss.getD (YU R v).toNat ""],
#[hu,k.isLeft=m.isLeft],
#[hv,i=xs.length],
#[hw,["groves", "begin", "end", "most", "price", "middle"]],
#[hx,["_law_things", "_law_lists"]],
#[hy,ZA #[aD] items.toList],
#[hz,Y6 a ((n,k)::r) b=Y6 a r ((n,(a.lookup n).getD 0)::b)],
#[hA,Res ss (first k) [] k [] [] R],
#[hB,List ae],
#[hC,Array Keyed],
#[hD,Array (Option aa)],
#[hE,2<=M.length],
#[hF,(λe=>decide (e.1=k))],
#[hG,(ts.map (·.2.2))],
#[hH,(mirror_perm _ _ _ _)],
#[hI,(kvs.any λa=>decide (a.1=k))],
#[hJ,(Y8 M n)],
#[hK,(.tup (k.map kV))],
#[hL,(.ins ao g #[35])],
#[hM,(.dT kvs)],
#[hN,((#[53].sum:Nat):Int)],
#[hO,#[c5,gb,cI,M2.ob]],
#[hP,#[c2,1,"alike_from",#[24],SJ]],
#[hQ,⟨rfl,rfl,items.toList,o.toList,ks,m,rfl,D,E,F,h⟩],
#[hR,by obtain⟨_,_,_,_,o,_,_,e,ex,_⟩:=I.hok p _ b;exact⟨o,e,ex⟩],
#[hS,IsRange s.heap r a b c t u v],
#[hT,(upd H7 d (.dT (x++[(Kb j (j+1+i) (1+l),.ref r)])))],
#[hU,by show wpS _ _ _ _ (get >>= _) _ _;refine wpS_bind (wpS_get ?_)],
#[hV,by rw[qX];obtain⟨W,⟨m0,w0⟩,turn⟩:=hR f.heap.objs.size hD],
#[hW,by rw[Qe.mp h];exact Og (k a ha n l.1)],
#[hX,["things", "room", "ways", "runs", "cost", "tree"]],
#[hY,["rows"]],
#[hZ,Y7 k X.A],
#[h0,H a=U (.ins C dx fs)],
#[h1,(low n (ZY 8 N n) i)],
#[h2,(kk (ks ss n))],
#[h3,(a.length:Int)],
#[h4,(Zs _)],
#[h5,(ZY k #[aF] n)],
#[h6,(.ref l)],
#[h7,(.int i t)],
#[h8,x ≠ "__name__"],
#[h9,[λv=>bindName X.env y v,λv=>bindName X.env x v]],
#[ia,Q8 PySem.W.kitx_list I.kIn ⟨_,g,rfl⟩ e #[O] h],
#[ib,Q8 PySem.W.kitx_dict I.kIn ⟨o,g,l.1⟩ e #[O] h],
#[ic,(upd H p (.tup [.int i,x]))],
#[id,(by with_unfolding_all rfl)],
#[ie,(ZL #[aT] #[bE]=0/\J.n<O.n)],
#[ig,#[c2,1,"order_at",#[aC],SH]],
#[ih,#[ZJ,YL,#[Zi],#[ZE,N,n,#[Zc,‹2›,#[Zi]],#[5]]]],
#[ii,by refine ak (wpAny_newList ?_ #[aB])],
#[ij,#[9,X]],
#[ik,⟨rfl,?_⟩],
#[il,wtR R #[aK]=((lvR R #[aK]).map List.length).sum],
#[im,by rw[Qe.mp hx];exact⟨oy.symm,by rw[Ze oy.symm];exact jx⟩],
#[io,by refine Calls.callWith_builtin rfl (PySem.evalArgs_none ?_)],
#[ip,by obtain⟨_,q1,_,q3,q4,q5⟩:=f3 b k;exact⟨q3,q1,q4,q5⟩],
#[iq,["things", "room", "ways"]],
#[ir,A.handled=af],
#[it,2<=N.length],
#[iu,(cds (ss.getD a.toNat ""))],
#[iv,(by show (0:Int)<_;decide)],
#[iw,(ZI P w)],
#[ix,(.tup (p.1.map kV))],
#[iy,(.ref D)],
#[iz,(.ok .next)],
#[iA,#[WJ,#[W],‹1›,(Uu hr)]],
#[iB,#[1,YC]],
#[iC,typeOf #[c3,id]=pure #[fE,"method_descriptor"]],
#[iD,by refine Y2 #[79] #[79]],
#[iF,[.ref a]],
#[iG,∀v∈ns,0<=v],
#[iH,(min room ss.length)],
#[iI,(.dK kvs)],
#[iJ,(λ_ _ z=>z)],
#[iK,⟨_,_,rfl⟩],
#[iM,{ s with toks:=s.toks+1 }],
#[iN,by have:=a #[2];rw[Qf,Qf,Qp,Qp,Qac l.1]at this;have:=QZ l.1],
#[iO,c.names.lookup x=U .local],
#[iP,absurd #[cc] Qz],
#[iQ,(λf vs=>PySem.call f vs)],
#[iR,(λa b=>ZP b.2 a.2=false)],
#[iS,(p.getD (c:Int).toNat "")],
#[iT,(ns.map ax.int)],
#[iU,(aj->Option aa)->aE->Prop],
#[iV,(Yr k f g)],
#[iW,(Yj s k v)],
#[iX,(Wn CX P w K mg base N m j f o A outer s H E)],
#[iY,(Vs R.length)],
#[iZ,(List Int)],
#[i0,(.tup [.int (N.headD 0),.int (N.getLastD 0)])],
#[i1,(.frz o u)],
#[i2,#[d6,"numbers"]],
#[i3,s.heap.get? a=U (seqObj "list" vs.toArray n)],
#[i4,by rintro⟨y,x⟩ rest b u ⟨v,rfl,r,ws,f,a,j,t,z,k,i⟩],
#[i5,["things", "room"]],
#[i6,([]:List (ae×aI))],
#[i7,(PySem.W.fnOf name d C m a D kV F pm G g ct)],
#[i8,(KK κ #[F] (n-1))],
#[i9,(.ref t)],
#[ja,by unfold Yi;refine(ka.append_right _).trans ?_;unfold Yi],
#[jb,by unfold XU at a;unfold atKey;rw[Qag]at a ⊢;rw[<- h.1]],
#[jc,by rw[if_pos rfl]],
#[jd,by rw[decide_eq_false #[2]]],
#[je,c.names.lookup x=U .free],
#[jf,Win #[cd] (ZF L) (U e.n)],
#[jg,Option Nat->SortSt->Prop],
#[jh,(∀t∈ts,shape t.2=sh)],
#[ji,(e-b<=i\/(e-b=i+1/\b<j))],
#[jj,(.tup (#[aK].map V.int))],
#[jk,#[c3,"object.__class__"]],
#[jl,#[c2,3,"liken",#[55],SI]],
#[jm,#[c2,2,"alike",#[55],SK]],
#[jn,#[2,Yn]],
#[jo,⟨m,rd,sd,L,st,(g.length:Int),k0,q0,w0⟩],
#[jp,zsc [#[L],#[cT,"number"],("things",.free)]],
#[jq,Mf P w K mg base 1 aB "to_go" #[V] (O5 aB)],
#[jr,List V],
#[js,(λx=>([]:List (aj×aa)).reverse.lookup x)],
#[jt,(upd M m (.lst [.int (7+a1),.int (7+a2)]))],
#[ju,(show s.heap.IsTuple a its.toArray from p)],
#[jv,⟨o,k it #[4] o e,r⟩],
#[jw,⟨0,[],_,_,I4,m7,λb k=>(f3 b k).1,?_⟩],
#[jx,by subst W X;rw[ZQ]at i;unfold shape at k;rw[Qj,Qj]at k],
#[jy,by rw[Ze (λz=>by rw[z,e]at q;cases q;exact a)];exact q],
#[jz,by obtain⟨a,r,ss,ls,R,x,t,rfl,M,hT,S,cW,wf,oZ,q⟩:=h],
#[jA,aa->aa->Sem aa],
#[jB,PE X a ta],
#[jC,Mf X.prog X.w X.K X.mg X.base k C m ps sp],
#[jD,.inl (.inr (h ▸ l.1))],
#[jE,(upd f o (.lst (ls.map V.ref++[.ref y])))],
#[jF,(kvs.find? λa=>decide (a.1=k)).map #[f6]],
#[jG,(ZG (Y4 a))],
#[jH,(Yx gone done)],
#[jI,(List.take_sublist _ _)],
#[jJ,(L.map (·.1))],
#[jK,(I.base.free b o e n a)],
#[jL,(0+(i:Int))],
#[jM,(.ok (.ret (.ref t.1)))],
#[jN,(.inl #[2])],
#[jO,(.frz g #[bm])],
#[jP,((p,w)::P.zip vs)],
#[jQ,((b+1+i:Nat):Int)],
#[jR,("len",.globalImplicit)],
#[jS,#[fE,"int"]],
#[jT,#[dC,#[bE],#[aT]]],
#[jU,#[d6,"number"]],
#[jV,⟨⟨q,by lia⟩,hd ys a H (e ▸ p)⟩],
#[jW,λi h g st k=>st.at λo e=>k it #[4] o e],
#[jX,by simp only[List.length_append,List.length_singleton]],
#[jY,by rw[if_neg #[2]]],
#[jZ,by rw[e,List.map_snd_zip (by rw[Qa,XN];exact Qh _),QA]],
#[j0,by rw[a,UN]at this;exact⟨this.1,this.2.trans h.pm⟩],
#[j1,by rintro c d ⟨rfl,rfl⟩;exact wpS_pure (q _ g j k)],
#[j2,by refine QaU _ (λa b h=>?_) List.nodup_range;intro z],
#[j3,by have p:c.heap.DictOf #[37] d i:=⟨g,C,D,j,m,n,E⟩],
#[j4,by have e:=r.length;simp only[Array.length_toList]at e],
#[j5,False.elim a],
#[j6,(∀x a,X.env.cells.lookup x=U a->a≠C)],
#[j7,(bump L e.n)],
#[j8,(ZF L).Nodup],
#[j9,(.Call (.Name "enumerate" p) [l] [] pos)],
#[ka,#[fE,"list"]],
#[kb,#[eH,Result]],
#[kc,#[d6,"keys"]],
#[kd,#[XQ,LV,T.b.n_list,boot_list,#[Zc,#[W]]]],
#[ke,#[WY,Nr,#[df,ixT,10],#[df,ixT,11],#[h4]]],
#[kf,(upd G m (.ins ao z (mgF j p t i g u)))],
#[kg,⟨[],rfl,rfl,rfl,λu h=>by cases h⟩],
#[kh,by simp only[List.mem_append,List.mem_singleton]at f],
#[ki,by show (af,0+aM.size)=(af,aM.size);rw[Nat.zero_add]],
#[kj,s.heap.objs.size],
#[kk,by obtain⟨m,o,p⟩:=B d e l;exact⟨m,o,d,e,k,p⟩],
#[kl,Y.env=bn c #[m] j.heap.objs.size X.env],
#[km,P.map (Z2 x.1)=P],
#[kn,.inl rfl],
#[ko,(F,D,(#[o]:Int))],
#[kp,(.frz g (.dK f))],
#[kq,(.cons (.int _) (.cons (.int _) .nil))],
#[kr,#[dj,Qa,ZK,#[2]]],
#[ks,#[cT,"_law_key"]],
#[kt,#[Zk,Np,#[5],T.b.n_abs,boot_abs,#[ag]]],
#[ku,∀t∈ts,shape t.2=sh],
#[kv,⟨_,e,rfl⟩],
#[kw,∀t,v=U t->H t.1=U #[fl,t.2.1,t.2.2]],
#[kx,∀e s',E e s'->False],
#[ky,λt:ae×List Key=>t.2],
#[kz,ts.map #[f6]=E.map kk],
#[kA,by rw[<- e]at hs;unfold YZ at hs;show#[cK,nn,fW,hs]],
#[kB,d.Pairwise λx y=>ZP #[90] #[bN]=true],
#[kC,Sum.inl.inj z],
#[kD,List (κ×aa)],
#[kE,.inl (.inl h)],
#[kF,(∀k0,WF prog w A s' k0 κ->Q k0 s')],
#[kG,(λz=>a (by simp[z]))],
#[kH,(thn (ha b s d H Q I h) λc s1 e=>?_)],
#[kI,(tLv t++Y3 r)],
#[kJ,(keyKind' vs.toArray)],
#[kK,(a == bC)],
#[kL,(Yi ss r A B)],
#[kM,(Wq c.heap H)],
#[kN,(Itl K a)],
#[kO,(.tup [.ref l,.int (2+G),.int (2+I)])],
#[kP,(.list (((t0::tr).map #[f6]).map Xr))],
#[kQ,(.Tuple [a,b,c] k2 t)],
#[kR,((#[h].push #[a7]).get? #[C])=U #[a7]],
#[kS,("_law_things",.free)],
#[kT,#[ff,x.2.map]],
#[kU,#[dj,I.ok.glob,I.mod.glob.keeps,I.bk]],
#[kV,⟨_,rfl,rfl,_,rfl,Y2 #[79] #[79]⟩],
#[kW,∀i ys a H,Pv i ys a H->H d=U #[91]],
#[kX,by subst f hw g;obtain⟨m,p,D,q,r,u⟩:=d it #[4]],
#[kY,by rw[Qa,Qw (by unfold YZ;rw[Qa];exact Qh _)]at jx],
#[kZ,by obtain⟨m,rd,sd,L,s,nb,li,lo,W,l,N,rfl,_⟩:=h],
#[k0,bB o name X.env #[dI,o]=eval o X.env],
#[k1,WC (O _ _ W) _ _ _ (O _ _ (lP u hu))],
#[k2,(ZG P)],
#[k3,(PySem.W.instObj C s.heap.objs.size)],
#[k4,((a % 2147483629+k*k*7919+11)*48271)],
#[k5,⟨v,p',bz,iQ _ _ S,W.mono ln,x3⟩],
#[k6,⟨a,b,I.unwish,q⟩],
#[k7,⟨.int (g i j),H,I.tok _,#[H],q⟩],
#[k8,⟨#[(48)+n]⟩],
#[k9,∀d∈R.map (YZ ss),sortedS d=true],
#[la,by subst e;exact d.fpOk #[gp] (d.hok.fresh #[gp])],
#[lb,by show#[dP,a,b,Q];refine bW (VR I c hm d ?_ f g)],
#[lc,by show#[ap];have C:z.cps[i]? = U z.cps[i]:=QaK m],
#[ld,by rw[Ze (Zd this hu),Ze (Zd this pp)];exact this],
#[le,q p _ b ⟨_,_,Zb,Qah _⟩ (Zh b _)],
#[lf,of_decide_eq_false h],
#[lg,by obtain⟨_,x,i,_⟩:=d;rw[hw a ha]at i;cases i],
#[lh,j.heap.objs.size=f.heap.objs.size+1],
#[li,by have:=UZ n _ k h;refine⟨λz=>?_,λm b=>?_⟩],
#[lj,decide_eq_false #[2]],
#[ll,d.params.defaults=[]],
#[lm,["_law_script"]],
#[ln,Zr N ps (Zf st)],
#[lo,V3 H kvs xs],
#[lp,List aD],
#[lq,HOk X.prog X.w H' h'],
#[lr,.inr (.inr (.inl h))],
#[ls,.inr (.inl (Qr _ h))],
#[lt,(λobj=>F.args_object_init_2 obj _)],
#[lu,(λe=>if e.1=k then (e.1,v) else e)],
#[lv,(ys.map (·.length))],
#[lw,(upd d p #[aG])],
#[lx,(ts.length:Int)],
#[ly,(ps.zip us)],
#[lz,(ixL K)],
#[lA,(if (hd n).isSome then U n else af)],
#[lB,(f #[h7] (.int j u))],
#[lC,(bump L n)],
#[lD,(binaryOp .Add)],
#[lE,(ZY k M n)],
#[lF,(ZX 0 a.length)],
#[lG,(Z6 X c N' s.heap.objs.size s H fp)],
#[lH,(QK (Qx e))],
#[lI,(Nat.lt_succ_self _)],
#[lJ,(I.ok.bs b o e)],
#[lK,(A.under #[32])],
#[lL,(A.erase n)],
#[lM,(0:Int)],
#[lN,((G++[k]).map V.ref)],
#[lO,#[fE,"str"]],
#[lP,#[cT,"row"]],
#[lQ,#[c3,"len"]],
#[lR,#[E].get? a=U (seqObj "list" #[] _)],
#[lS,by refine wpS_bind (wpS_lift (wpAny_rule #[ik]))],
#[lT,Pcs cR cM H0 F p D P0 lr lu H X us],
#[lU,.inr (.inr (.inl ((QaF e).mpr h)))],
#[lV,(λy:List aj×Nat=>y.1.length-y.2)],
#[lW,(·.1)],
#[lX,(ZF L)],
#[lY,(Z1 s (ZV M)=af\/Z1 s (ZV M)=U af)],
#[lZ,(PySem.W.methodObj #[a1] (.ref y))],
#[l0,∀b H,Pv xs.length b H->D.nx b H],
#[l1,λz=>d #[75]],
#[l2,λks b=>(bw #[37]).is s.heap ks b],
#[l3,λb k=>QH (m5 b k) #[dj,jM,Qaq,_]],
#[l4,λ_ _=>False],
#[l5,by rw[e];exact r.fpOk #[gp] (r.hok.fresh #[gp])],
#[l6,by rw[Qb l]at c;rw[Qb #[2]]at e;cases c;cases e],
#[l7,by refine T.t_Merge_play.mf Wj #[g8] #[cF,vs,G]],
#[l8,of_decide_eq_true g],
#[l9,e=x\/H e=U (.own x)],
#[ma,[.inl k.1,.inl k.2]],
#[mb,X.N.Nodup],
#[mc,VJ s.heap x dx C mA],
#[md,Option ae],
#[me,(min room p.length)],
#[mf,(envOfC m j s.heap.objs.size f o)],
#[mg,(by show i-1<_;lia)],
#[mh,(by rw[Qa]at a;lia)],
#[mi,(aT.«list.sort» { pos:=#[iF] })],
#[mj,(YE (YJ Z9))],
#[mk,(WX N vs)],
#[ml,(Qb #[2])],
#[mm,(.ref it)],
#[mn,(.lst [.int a,.int b,.int (c+1)])],
#[mo,(.lst #[64])],
#[mp,(.int (0+(ii:Int)))],
#[mq,(.bool true)],
#[mr,(.Tuple [a,b] k2 l)],
#[ms,(.ListComp d #[eh,b,c,e,a] f pos)],
#[mt,(.ListComp c #[eh,i,j,b,k] l pos)],
#[mu,(.ListComp b #[eh,e,f,a,c] g pos)],
#[mv,#[h].objs.size=s.heap.objs.size+1],
#[mw,#[eo,u.2.1,u.2.2.1]],
#[mx,#[cT,"_law_number"]],
#[my,#[aF].length<=2 ^ k],
#[mz,#[Xq,‹0›,#[Zi]]],
#[mA,by show wpS _ _ _ _ (if f>0 then _ else _) _ _],
#[mB,by refine wpS_bind (w_rev ?_)],
#[mC,by refine codeAny_loop rfl I (λn s C=>?_) n h],
#[mD,by have r:=h.each e he;show#[c5,dy,c,r.at'.ob]],
#[mE,decide_eq_false (λq=>nomatch q)],
#[mF,[U #[gY],U (.int J),U #[83],F,G]],
#[mG,Int->Int->Prop],
#[mH,(λw hw=>RI b c r fs w #[cG,hw])],
#[mI,(z.length:Int)],
#[mJ,(ts.map #[f6])],
#[mK,(r.eraseIdx i)],
#[mL,(l.length:Int)],
#[mM,(Xo _ _)],
#[mN,(List.getElem?_eq_none_iff.mp d)],
#[mO,(.tuple #[77])],
#[mP,#[c3,"sorted"]],
#[mQ,⟨rfl,rfl,_,_,_,_,V,G,H,Y,i⟩],
#[mR,⟨_,rfl,rfl,_,rfl,Xv rfl ?_⟩],
#[mS,⟨(gP x hx).2,?_,λs hs=>?_⟩],
#[mT,∃u,h'.get? e=U u],
#[mU,{ s with heap:=g }],
#[mV,by show#[dP,i,j,Q];refine bW (NH I c hm ?_ d)],
#[mW,i a ha _ (e.mem_iff.mp (QV ..))],
#[mX,ae×Int×Option aj],
#[mY,["rows", "first_play", "signs"]],
#[mZ,["number", "keys"]],
#[m0,Xu (cds a) (cds b)],
#[m1,List PT],
#[m2,Inv.readsAll I a c],
#[m3,.inl (.inr (QD h))],
#[m4,(λe=>(e.1,e.2.2))],
#[m5,(tLv t)],
#[m6,(if b=true then 7+a2 else 7+a1)],
#[m7,(by show X.A.units+1<cLine;lia)],
#[m8,(by rw[Qa,Qa,QC];exact ZK #[2])],
#[m9,(aF (e::es) X.env)],
#[na,(R.map λx=>(x,0))],
#[nb,(.tup [kV (.inl e.n),.ref e.p])],
#[nc,(.lst (Z7 (Wr X)))],
#[nd,(.lst (([]:List aj).map V.str))],
#[ne,(.BoolOp .And (a::b::rest) pos)],
#[nf,(#[o]-(far:Int)+1)],
#[ng,#[fF,4,"first_break","keys",O8]],
#[nh,#[dE,b,u,s.heap.get?,u,h'.get?]],
#[ni,#[cL,e,True.intro]],
#[nj,#[c3,"isinstance"]],
#[nk,by have m6:∀b∈fp,b<j.heap.objs.size:=#[l3]],
#[nl,a_,b_,c_,d_,∀a_ b_,c_ a_=U (.tup b_)->d_ a_=U (.tup b_)],
#[nm,a_,b_,c_,by refine ak (wpAny_updateSeq a_ rfl ?_ b_ c_)],
#[nn,a_,b_,c_,d_,∀b a_,H b=U a_->b≠b_->(upd c_ b_ d_) b=U a_],
#[no,a_,b_,c_,(wpAny_updateSeq a_ rfl ?_ b_ c_)],
#[np,a_,PySem.W.hasDictIn K a_=true],
#[nq,a_,b_,c_,(λ_ _ _ _=>#[ZO,#[Zc,#[cw,a_,b_],#[cw,c_,b_]]])],
#[nr,a_,b_,(HT.sIx a_ a_ b_-HT.sIx a_ 0 lo)],
#[ns,a_,b_,c_,d_,by obtain⟨r,a_,rfl,e⟩:=y;have b_:=e xs c_ _ (Qb d_);subst b_],
#[nt,a_,by refine ak (seqEpoch_at a_ rfl ?_)],
#[nu,a_,b_,c_,#[gT,K,2,#[cH,a_,b_,c_]]],
#[nv,a_,b_,c_,d_,e_,by rw[Ze (Zd a_ b_)];exact c_ d_ e_ a_],
#[nw,a_,b_,c_,by obtain⟨a_,b_⟩:=Qc.mp c_],
#[nx,a_,(ZZ I q (congrArg not a_))],
#[ny,a_,b_,c_,d_,by rw[a_ (λb_=>by rw[b_,c_]at d_;cases d_)];exact d_],
#[nz,a_,#[dY,z.one,a_]],
#[nA,a_,b_,#[Xfi,K,ao,a_,b_]],
#[nB,a_,b_,c_,d_,e_,by obtain⟨a_,b_,c_⟩:=d_ e_],
#[nC,a_,b_,(λb a_ b_=>Qi _ b_)],
#[nD,a_,b_,c_,#[cI,a_,b_,ce,i,c_]],
#[nE,a_,b_,(λz:l=a_=>b_ (z ▸ hl'))],
#[nF,a_,b_,∀b∈fp,Xy X a_ b_ b],
#[nG,a_,b_,#[Zm,a_,b_,#[Zi],#[h4]]],
#[nH,a_,b_,c_,by obtain⟨a_,b_⟩:=I.base.there b o e c_],
#[nI,a_,by have hb:(g == a_)=true:=beq_iff_eq.mpr h],
#[nJ,a_,b_,c_,#[ZJ,a_,‹b_›,‹c_›]],
#[nK,a_,b_,c_,by intro a_ s b_ H c_ us Q I r h],
#[nL,a_,(by rw[a_];simp)],
#[nM,a_,A.units+a_<cLine],
#[nN,a_,b_,#[ZE,a_,n,#[Zc,#[ec,3],‹b_›],#[5]]],
#[nO,a_,(show b∈([]:List ae) from a_)],
#[nP,a_,by show#[dY,z.one,a_]],
#[nQ,a_,b_,c_,d_,by obtain⟨l1,a_⟩:=Qc.mp b_;obtain⟨l2,c_⟩:=Qc.mp d_],
#[nR,a_,(seqEpoch_at a_ rfl ?_)],
#[nS,a_,#[cR,YG,a_,#[Zi]]],
#[nT,a_,b_,(.inr ⟨a_,_,rfl,rfl,b_⟩)],
#[nU,a_,b_,(.compLoop a_ 0 b_ #[v] #[bs])],
#[nV,a_,b_,c_,by show#[cI,a_,b_,ce,i,c_]],
#[nW,a_,b_,#[dE,b,o,a_,o,b_]],
#[nX,a_,(.int (a_ #[aT] #[bE]))],
#[nY,a_,b_,#[ZB,3,a_,#[3],‹b_›]],
#[nZ,a_,b_,[.ref a_,.ref b_]],
#[n0,a_,by rw[z,a_]at this;cases this],
#[n1,a_,b_,c_,d_,λb o a_=>b_ b o (c_ b o a_) (Zd a_ d_)],
#[n2,a_,b_,YY X.prog X.w (upd H a_ b_) h' a_ b_],
#[n3,a_,b_,by rw[if_pos a_]at b_],
#[n4,a_,YV P ts a_ k q],
#[n5,a_,b_,a_ (ZZ I q (congrArg not b_))],
#[n6,a_,b_,(∀b a_,s.heap.get? b=U a_->b_ b=U a_)],
#[n7,a_,(∀n∈a_,0<=n/\n<ss.length)],
#[n8,a_,b_,c_,d_,by obtain⟨a_,b_⟩:∃a_,c_[d_]? = U a_:=⟨_,Qb #[2]⟩],
#[n9,a_,a_ (t':=c.toks) λb o e=>Qi _ e],
#[oa,a_,b_,by exact a_ (ZZ I q (congrArg not b_))],
#[ob,a_,b_,c_,by cases a_;obtain⟨z,its,b_,r,hl,e⟩:=I.lstM c_],
#[oc,a_,b_,#[Zz,a_,b_,#[3]]],
#[od,a_,∀n∈a_ _,hd' n=hd n],
#[oe,a_,b_,c_,d_,e_,(∀a_ b_ c_,d_ a_ b_ c_->∃e_,e_<m/\W (i+1) e_ a_ b_ c_)],
#[og,a_,b_,c_,d_,by obtain⟨r,a_,rfl,e⟩:=y;have b_:=e xs c_ _ (Qb d_)],
#[oh,a_,by rw[Qa,Qw #[gp]]at a_],
#[oi,a_,b_,#[Zx,UD,‹a_›,‹b_›]],
#[oj,a_,(by rw[Ql,a_];rfl)],
#[ok,a_,b_,(Qm (f:=λx:ZD=>(a_,x)) b_)],
#[ol,a_,(ZG (Y5 a_)).Nodup],
#[om,a_,b_,(.Attribute o a_ b_)],
#[oo,a_,b_,#[c5,a_,b_,M.ob]],
#[op,a_,by rw[<- a_]at this;exact this],
#[oq,a_,b_,c_,d_,by have a_:=b_ _ _ c_;have eZ:D≠n:=Zd c_ d_],
#[os,a_,b_,c_,d_,e_,by obtain⟨z,a_,b_,c_,d_⟩:=e_ I.hok e],
#[ot,a_,b_,c_,(a_ b_ s c_ H _ I h)],
#[ou,a_,b_,⟨by rw[a_];exact Qt _,by rw[a_,b_]⟩],
#[ov,a_,#[cR,Wo,a_,#[YN]]],
#[ow,a_,PySem.W.plainOver K a_=true],
#[ox,a_,b_,c_,(.compLoop a_ b_ it c_ env)],
#[oy,a_,a_->SortSt->Prop],
#[oz,a_,b_,#[eX,a_,b_,b_]],
#[oA,a_,b_,(.int (a_+b_))],
#[oB,a_,b_,a_ b_=U .cell\/a_ b_=U .free],
#[oC,a_,b_,by rw[a_,b_]at this;exact this],
#[oD,a_,b_,hdS (a_ (b_ Z9))],
#[oE,a_,(@Tn _ _ _ ‹a_›)],
#[oF,a_,b_,((Btr.total a_).resolve_left b_)],
#[oG,a_,b_,by refine a_ b_ #[I] #[x]],
#[oH,a_,∀x∈a_,sortedS x.2=true],
#[oI,a_,b_,⟨.int a_,H,I.tok _,#[H],b_⟩],
#[oJ,a_,absurd rfl a_],
#[oK,a_,(.cons a_ .nil)],
#[oL,a_,b_,(by rw[a_,b_];lia)],
#[oM,a_,b_,(mirror #[F] a_ b_ ((b_-a_) / 2))],
#[oN,a_,b_,c_,d_,e_,⟨a_,Qad _ _,λb_ c_ d_ e_=>?_⟩],
#[oO,a_,(((a_-lo).toNat:Nat):Int)],
#[oP,a_,b_,c_,I.tuple (SqT.of (K:=X.K) (a_ b_ c_))],
#[oQ,a_,(by have:=a_;lia)],
#[oR,a_,b_,c_,d_,(by rw[<- a_ b_ c_];exact d_)],
#[oS,a_,b_,((first a_).map (ks b_))],
#[oT,a_,b_,WC a_ _ _ _ (sn _ _ (b_ t ht))],
#[oU,a_,∀x∈a_,x<(c:Int)],
#[oV,a_,(upd H a_ #[gd])],
#[oW,a_,b_,c_,(λa_ b_ c_=>?_)],
#[oX,a_,⟨a_,by simp,Qt _,h0⟩],
#[oY,a_,b_,UB (X:=X) S a_ #[m] b_ x],
#[oZ,a_,(a_ λx=>x.2.length)],
#[o0,a_,b_,c_,(SqT.of (K:=X.K) (a_ b_ c_))],
#[o1,a_,a_ l #[69].toArray],
#[o2,a_,#[iE,K,T.b.n_enumerate,a_]],
#[o3,a_,#[cU,a_,V.int]],
#[o4,a_,(by show a_<1000;decide)],
#[o5,a_,b_,c_,by have R:=M.each e a_;show#[c5,b_,c_,R.at'.ob]],
#[o6,a_,∀b∈a_ M n,b∈M],
#[o7,a_,.inl (.inl (QD a_))],
#[o8,a_,λx h=>j x (a_ _ h)],
#[o9,a_,PySem.W.makesIn K a_=true],
#[pa,a_,b_,hdS (a_ (b_ #[b6]))],
#[pb,a_,PySem.W.keepIn a_ #[a1]=true],
#[pc,by intro j q o k s i m;have t:#[oU,A]:=#[o8,Qr];have w:#[oU,B]:=#[o8,Qn];show#[92]],
#[pd,⟨#[c]⟩],
#[pe,by rw[if_neg (λq=>absurd (J.mpr q) Qz)]at i],
#[pf,by obtain⟨L,g⟩:=I.base.slot b o e n t hx],
#[pg,by have j:=e.mem_iff.mp (Qu _ f);rw[Qd]at ha],
#[ph,absurd rfl (S.nocell _ (Tj q))],
#[pi,Sj _ #[cy] s.1 (Qc.mp s.2.1).1],
#[pj,PySem.W.plainGet K C name=true],
#[pk,(λa c i e=>f its d g a c i e)],
#[pl,(c.take i)],
#[pm,(aO .Lt (.str x t) (.str y u))],
#[pn,(ZY 8 N n)],
#[po,(YW P x.1)],
#[pp,(PySem.F.args_tuple_add_2 _ _)],
#[pq,(.inr rfl)],
#[pr,(.bl true)],
#[ps,((#[dA,c.map].length:Nat):Int)],
#[pt,#[fC,1,"is_number","thing",Oi]],
#[pu,#[eH,Unit]],
#[pw,⟨λz=>?_,λz=>?_,λz=>?_⟩],
#[px,by unfold Yi at this;rw[Qa,Qf,Qa,Qa]at this],
#[py,by obtain⟨f0,f1,f2,f3,f4,f5⟩:=m it #[4]],
#[pz,get?_update_seq ha (λ_=>#[])],
#[pA,aj->Option aL],
#[pB,[.inl (ZV N).1,.inl (ZV N).2]],
#[pC,["one", "other", "far", "at"]],
#[pD,ZH (kV m) q],
#[pE,ZH (kV k) p],
#[pF,Y.env.locals=j.heap.objs.size],
#[pG,Res ss #[fT] [] #[iH] [] [] R],
#[pH,PE X b tb],
#[pI,Nat->St->Hp->Prop],
#[pJ,KV kvs vs],
#[pK,K.In s.heap],
#[pL,Cls X.K C],
#[pM,(λx=>x.1.isSome)],
#[pN,(λj hj=>by rw[WA,if_neg hj])],
#[pO,(λ_ _ q=>Qi _ q)],
#[pP,(ys++[y])],
#[pQ,(tOp r ta tb)],
#[pR,(ss.length-c)],
#[pS,(low e.n #[cz] i)],
#[pT,(frs X.stack)],
#[pU,(by show i<_;lia)],
#[pV,(a.flatMap #[f6])],
#[pW,([]:List Keyword)],
#[pX,(Zu f v fs)],
#[pY,(Yj s (ZV M) (U (S,R,#[39])))],
#[pZ,(X1 ns n)],
#[p0,(Txt.join sep ys)],
#[p1,(PySem.F.args_dict_get_2 _ _)],
#[p2,(Ite K a)],
#[p3,(Fin.done (Flow.ret aa.none))],
#[p4,(.tup (u++x))],
#[p5,(.ref x)],
#[p6,(.ref b)],
#[p7,(.list #[ab])],
#[p8,(.int i)],
#[p9,((t.app B).app I)],
#[qa,((min room p.length:Nat):Int)],
#[qb,((m:Int)-1)],
#[qc,((e.ss.length:Int)-(e.g:Int))],
#[qd,#[e3,aa]],
#[qe,#[cT,"_law_part"]],
#[qf,#[c2,2,"liken_from",#[24],O9]],
#[qg,#[Zc,‹3›]],
#[qh,⟨_,rfl,by simpa using i⟩],
#[qi,∀x∈P,x.2.2<=x.2.1.length],
#[qj,∀b∈fp,b<s.heap.objs.size],
#[qk,∀b∈fp,b<f.heap.objs.size],
#[ql,λn c=>h n (p.mem_iff.mpr c)],
#[qm,z.cps.toList.length=z.length],
#[qn,by rw[decide_eq_false e]at a ⊢;exact b a],
#[qo,by have:=mem x (Qr _ (QD hx));rw[Qe.mp hy]],
#[qp,by have J:=C e he;show#[c5,de,nN,J.at'.ob]],
#[qq,closureFor c X.env=pure #[m]],
#[qr,VI P w K mg base A outer s H],
#[qs,PyProof.Rows.KeysOf κ #[bD]],
#[qt,(λx:Zy=>x.2.1.length-x.2.2)],
#[qu,(upd H sd (.dT (kvS #[iW])))],
#[qv,(.tup [.int t.2.1,oV t.2.2])],
#[qw,(.BoolOp .And (b::rest) pos)],
#[qx,⟨_,Qn _ (Qe.mpr rfl),h⟩],
#[qy,∀d∈R,V9 ss d],
#[qz,¬ lcp #[aT] #[bE]=y.length],
#[qA,by show#[bi];obtain⟨rfl,q⟩:=h;cases b],
#[qB,by have:=Sr h;refine⟨λz=>?_,λm=>?_⟩],
#[qC,[U #[61],X,Y,Z,v4,v5,v6,v7]],
#[qD,[(aj.ofString "default",d)]],
#[qE,List.mem_of_find?_eq_some a],
#[qF,List.mem_iff_getElem?.mp ht],
#[qG,List aJ],
#[qH,(λb o h _ _=>h)],
#[qI,(λ_ _ _=>False)],
#[qJ,(vs.toArray.zip vs.toArray)],
#[qK,(tn,kt p (#[30]+1) (c:Int))],
#[qL,(f.symm.trans e)],
#[qM,(e.trans d.symm)],
#[qN,(e.n,e.ss[e.g]?)],
#[qO,(c b _ q λz=>z)],
#[qP,(by rw[d];exact⟨_,l,q⟩)],
#[qQ,(Zu "looked" (.int 0) #[g])],
#[qR,(Zu "all_keys" (.ref k) [])],
#[qS,#[fC,16,"counts","rows",Oo]],
#[qT,#[dq,aa.str,x,r]],
#[qU,#[dq,aa.int,i,r]],
#[qV,#[cX,1,"likenings",#[V],OG]],
#[qW,#[c3,"ValueError.__init__"]],
#[qX,#[c2,1,"_law_mix",#[co],Pg]],
#[qY,#[Zx,#[lz],#[ec,0],‹3›]],
#[qZ,⟨s.toks+1,by rw[Qy,c]⟩],
#[q0,⟨_,rfl,_,_,rfl,rfl,?_⟩],
#[q1,by show#[n3,d,h2];rw[if_pos (f.trans d)]],
#[q2,by show#[dd,t,a];show#[aJ]],
#[q3,by show wpS _ _ _ _ (modify _ >>= _) _ _],
#[q4,s.heap.IsList l vs.toArray],
#[q5,by rw[exec_Assign_arm];refine ak (bg ?_)],
#[q6,by rw[Qe.mp ht,Ze eZ.symm]],
#[q7,by refine T.t_merged_by.df SV #[g8] #[x]],
#[q8,by have k:=Yk N;rw[<- k]at d;rw[<- k,Jt]],
#[q9,[false,true]],
#[ra,Y6 a ((n,k)::r) b=Y6 a r b],
#[rb,Put ss R out],
#[rc,List Env],
#[rd,I.cell x c e],
#[re,(t.endLine == u.line)=true],
#[rf,(show h.get? a=U _ from x)],
#[rg,(by intro y hy;simp at hy)],
#[rh,(av P w)],
#[ri,([]:List (aj×V)).length=0],
#[rj,(Win hd A af\/Win hd B af)],
#[rk,(Or.inr rfl)],
#[rl,(I.base.keep b o e n t hx)],
#[rm,(Array.getElem?_eq_none m)],
#[rn,(2 ^ 62)],
#[ro,#[fv,oN.map]],
#[rp,#[fC,1,"height","many",NZ]],
#[rq,#[d6,"rows"]],
#[rr,#[d6,"many"]],
#[rs,#[cT,"part"]],
#[rt,⟨rfl,rfl,rfl,rfl,rfl⟩],
#[ru,wpS_pure (q n st B o p S)],
#[rv,sortedS ss=true],
#[rx,by simp only[List.length_map];show#[jY]],
#[ry,by refine wpS_bind ?_],
#[rz,by obtain⟨a,r,ss,ls,R,x,t,rfl,_⟩:=h],
#[rA,inj (of_decide_eq_true c)],
#[rB,[.int i,.int j]],
#[rC,ZK #[2]],
#[rD,VH CX X E],
#[rE,V.int.inj #[gb]],
#[rF,V->Hp->VK->Prop],
#[rG,Tk hd hd' N n z],
#[rH,Qs.mp this],
#[rI,PySem.W.OpenLaw],
#[rJ,PE X o ta],
#[rL,OpR X (aO op) r],
#[rM,Nat->List V->St->Hp->Prop],
#[rN,List Keyed],
#[rO,List Bool],
#[rP,Array DictEntry],
#[rQ,Array (Int×aa)],
#[rR,(λz=>h (O4 z))],
#[rS,(upd #[ga] t T)],
#[rT,(ss.length:Int)],
#[rU,(ns.length:Int)],
#[rV,(ks ss (c:Int))],
#[rW,(bw #[iw])],
#[rX,(bw #[37])],
#[rY,(aO .Lt #[h7] (.int j u))],
#[rZ,(a.map kV)],
#[r0,(ZL x y=0/\a<b)],
#[r1,(Z2 x.1 a)],
#[r2,(Ys kvs k)],
#[r3,(X.wish E)],
#[r4,(U #[a1])],
#[r5,(Sum.inr.inj z)],
#[r6,(Sum.inr a:Key)],
#[r7,(Sum.inr (ks ss x).1:Key)],
#[r8,(Sum.inl.inj z)],
#[r9,(Sum.inl a:Key)],
#[sa,(Qax _ _)],
#[sb,(List Key)],
#[sc,(Itr lo n)],
#[sd,(I.tok _)],
#[se,(I.freeC x c e)],
#[sf,(.lst [.str "0",.str ""])],
#[sg,(.Compare a [op] [b] pos)],
#[sh,#[oz,List.zip_nil_left,j]],
#[si,#[iL,K,‹0›]],
#[sj,#[fx,e,h]],
#[sk,#[fs,Loc]],
#[sl,#[fF,3,"alikes","row",Pc]],
#[sm,#[e9,ok,j,a,st]],
#[sn,#[dp,Z7,c]],
#[so,#[dd,t,d]],
#[sp,#[dN,v,k,#[84]]],
#[sq,#[c2,2,"way_up",#[bk],Ox]],
#[sr,∀m∈Y8 M n,hd' m=hd m],
#[ss,by subst m hw n;obtain⟨N,x,l,r⟩:=q],
#[st,by show#[dP,ai,σ,Q];rw[eval_ListComp]],
#[su,by obtain⟨n,_,e⟩:=Qs.mp h;rw[<- e]],
#[sv,by obtain⟨_,q1,q2,q3,q4,_⟩:=f3 b k],
#[sw,behindInMarks op b=false],
#[sx,[.str x,.str y,.int far]],
#[sy,(wpAny_letGo (au #[ik]))],
#[sz,(upd H a (.frz j #[bm]))],
#[sA,(lo N)],
#[sB,(by show ¬ 2<=1;decide)],
#[sC,(by rw[d];simpa using k)],
#[sD,(by rw[a,UN];exact h.ap)],
#[sE,(YQ ⟨rfl,Zw.refl _⟩)],
#[sF,(List.range h.objs.size)],
#[sG,(Int.emod_nonneg _ #[2])],
#[sH,(.lst (#[aH]++[.int z]))],
#[sI,((ns.drop b).take (e-b))],
#[sJ,#[eF,o.names.lookup,y.1]],
#[sK,⟨t,rfl⟩],
#[sL,⟨i,v,q⟩],
#[sM,⟨?_,?_⟩],
#[sN,λx:Zy=>x.1],
#[sO,by show _<=wtR R (tLv u++Y3 r);rw[N9]],
#[sP,by refine i d hd b g a ?_ p;show#[bH]],
#[sQ,by intro f g;have:=Ka l.1;have o:=f b],
#[sR,by have:=Qk (i.symm.trans d);rw[this]],
#[sS,h.objs.size<=a],
#[sT,[⟨U "default",a,f⟩]],
#[sU,[.ref m]],
#[sV,O6 _ _ _ #[1] #[1] #[1]],
#[sW,KT H kvs xs],
#[sX,H a=U #[iI]],
#[sY,A.freeze B True.intro j],
#[sZ,1<ns.length],
#[s0,(∀b∈fp,Xy X ai H b)],
#[s1,(λu=>decide (u.2=t.2))],
#[s2,(λ_ _=>False)],
#[s3,(ys.map V.str)],
#[s4,(x == n)=false],
#[s5,(upd H a o)],
#[s6,(up N)],
#[s7,(tupleKind_room_in1 hu)],
#[s8,(ts.map (·.2.2)++Yh c)],
#[s9,(tn,kt p #[30] (c:Int))],
#[ta,(p.getD #[jL].toNat "")],
#[tb,(lvR R (Y3 l))],
#[tc,(kvM L).length=L.length],
#[td,(j+1+i)],
#[te,(if i<0 then -i else i)],
#[tf,(fs.map #[lW])],
#[tg,(cx lo a af n)],
#[th,(ae×Int×Int)],
#[ti,.inr rfl],
#[tj,s.toks],
#[tk,by rw[show ((m:Int)-1)=#[fn,m] by lia]],
#[tl,(aa.ref #[C]::(us++ds))],
#[tm,(aF [e] X.env)],
#[tn,(a.map λt=>aa.ref t.1)],
#[tp,(Zw.refl H)],
#[tq,(U (m:Int))],
#[tr,(Qn _ (Qn _ (V5 hb e)))],
#[ts,(PySem.W.plainGet_of a)],
#[tt,(List.mem_reverse.mp j)],
#[tu,(L.map (·.p))],
#[tv,(J b o e a)],
#[tw,(I.mod.glob.keeps I.bk)],
#[tx,(.own a)],
#[ty,(.lst #[z])],
#[tz,(.int room)],
#[tA,(.bl false)],
#[tB,((Z1 s (ZV M)).map stV)],
#[tC,((Y1 (Y5 Y.L):Nat):Int)],
#[tD,(#[jH].map List.length)],
#[tE,#[nB,u,c,hyu,QaZ.mp,hy]],
#[tF,#[fn,c.length]],
#[tG,#[d8,gone.map]],
#[tH,#[d8,d.map]],
#[tI,#[cX,3,"meet",#[74],OJ]],
#[tJ,#[cX,1,"looks",#[V],OF]],
#[tK,#[c3,"min"]],
#[tL,#[Ym,#[Zc,#[ZN],#[ZN]]]],
#[tM,#[Xq,‹0›,(@Rx _ _)]],
#[tN,a_,b_,IsTup s.heap a_ b_],
#[tO,a_,b_,(λ_ _ o a_=>b_ _ _ a_)],
#[tP,a_,b_,⟨.bl a_,H,I,rfl,b_⟩],
#[tQ,a_,(Uz a_ rfl #[1])],
#[tR,a_,by cases (show u=aa.ref b from a_)],
#[tS,a_,b_,#[dN,a_,b_,#[aW]]],
#[tT,a_,b_,c_,d_,e_,#[Yf,#[Xw,QI,a_,b_,c_,‹d_›,#[Zc,‹e_›]]]],
#[tU,a_,b_,c_,by show#[eY,#[29],a_,b_];have c_:=Zh b_ #[av]],
#[tV,a_,#[dM,a_,ys,y]],
#[tW,a_,b_,by unfold a_ at b_;rw[Ql]at b_],
#[tX,a_,(λa_=>by cases a_)],
#[tY,a_,b_,c_,d_,(lcp x a_<=lcp b_ c_/\lcp d_ z=lcp x a_)],
#[tZ,a_,b_,c_,d_,e_,by have a_:(upd b_ c_ d_) c_=U e_:=Zb],
#[t0,a_,b_,by have a_:=b_ h2;rw[z,a_]at this],
#[t1,a_,b_,#[Zx,(ixG a_),#[W],‹b_›]],
#[t2,a_,b_,by obtain⟨e,n,ne,a_,d⟩:=I.pin p b_],
#[t3,a_,(a_ λx=>V.ref x.1)],
#[t4,a_,b_,c_,⟨a_ _ a1,x,b_,λc hc z c_=>?_⟩],
#[t5,a_,b_,(.lst ((a_ b_ n).map V.int))],
#[t6,a_,(λa_=>⟨_,rfl,?_⟩)]]
inductive X2 {t0 t1:Type} (p:t0->t1->Prop):Prop where
 | mk (a0:t0) (a1:t1) (h:p a0 a1)
inductive X3 {t0 t1 t2:Type} (p:t0->t1->t2->Prop):Prop where
 | mk (a0:t0) (a1:t1) (a2:t2) (h:p a0 a1 a2)
inductive X4 {t0 t1 t2 t3:Type} (p:t0->t1->t2->t3->Prop):Prop where
 | mk (a0:t0) (a1:t1) (a2:t2) (a3:t3) (h:p a0 a1 a2 a3)
inductive X5 {t0 t1 t2 t3 t4:Type} (p:t0->t1->t2->t3->t4->Prop):Prop where
 | mk (a0:t0) (a1:t1) (a2:t2) (a3:t3) (a4:t4) (h:p a0 a1 a2 a3 a4)
inductive X6 {t0 t1 t2 t3 t4 t5:Type} (p:t0->t1->t2->t3->t4->t5->Prop):Prop where
 | mk (a0:t0) (a1:t1) (a2:t2) (a3:t3) (a4:t4) (a5:t5) (h:p a0 a1 a2 a3 a4 a5)
inductive X7 {t0 t1 t2 t3 t4 t5 t6:Type} (p:t0->t1->t2->t3->t4->t5->t6->Prop):Prop where
 | mk (a0:t0) (a1:t1) (a2:t2) (a3:t3) (a4:t4) (a5:t5) (a6:t6) (h:p a0 a1 a2 a3 a4 a5 a6)
inductive X8 {t0 t1 t2 t3 t4 t5 t6 t7:Type} (p:t0->t1->t2->t3->t4->t5->t6->t7->Prop):Prop where
 | mk (a0:t0) (a1:t1) (a2:t2) (a3:t3) (a4:t4) (a5:t5) (a6:t6) (a7:t7) (h:p a0 a1 a2 a3 a4 a5 a6 a7)
inductive X9 {t0 t1 t2 t3 t4 t5 t6 t7 t8:Type} (p:t0->t1->t2->t3->t4->t5->t6->t7->t8->Prop):Prop where
 | mk (a0:t0) (a1:t1) (a2:t2) (a3:t3) (a4:t4) (a5:t5) (a6:t6) (a7:t7) (a8:t8) (h:p a0 a1 a2 a3 a4 a5 a6 a7 a8)
inductive X10 {t0 t1 t2 t3 t4 t5 t6 t7 t8 t9:Type} (p:t0->t1->t2->t3->t4->t5->t6->t7->t8->t9->Prop):Prop where
 | mk (a0:t0) (a1:t1) (a2:t2) (a3:t3) (a4:t4) (a5:t5) (a6:t6) (a7:t7) (a8:t8) (a9:t9) (h:p a0 a1 a2 a3 a4 a5 a6 a7 a8 a9)
inductive X11 {t0 t1 t2 t3 t4 t5 t6 t7 t8 t9 gi:Type} (p:t0->t1->t2->t3->t4->t5->t6->t7->t8->t9->gi->Prop):Prop where
 | mk (a0:t0) (a1:t1) (a2:t2) (a3:t3) (a4:t4) (a5:t5) (a6:t6) (a7:t7) (a8:t8) (a9:t9) (a10:gi) (h:p a0 a1 a2 a3 a4 a5 a6 a7 a8 a9 a10)
inductive X12 {t0 t1 t2 t3 t4 t5 t6 t7 t8 t9 gi ic:Type} (p:t0->t1->t2->t3->t4->t5->t6->t7->t8->t9->gi->ic->Prop):Prop where
 | mk (a0:t0) (a1:t1) (a2:t2) (a3:t3) (a4:t4) (a5:t5) (a6:t6) (a7:t7) (a8:t8) (a9:t9) (a10:gi) (a11:ic) (h:p a0 a1 a2 a3 a4 a5 a6 a7 a8 a9 a10 a11)
inductive X13 {t0 t1 t2 t3 t4 t5 t6 t7 t8 t9 gi ic jD:Type} (p:t0->t1->t2->t3->t4->t5->t6->t7->t8->t9->gi->ic->jD->Prop):Prop where
 | mk (a0:t0) (a1:t1) (a2:t2) (a3:t3) (a4:t4) (a5:t5) (a6:t6) (a7:t7) (a8:t8) (a9:t9) (a10:gi) (a11:ic) (a12:jD) (h:p a0 a1 a2 a3 a4 a5 a6 a7 a8 a9 a10 a11 a12)
inductive X14 {t0 t1 t2 t3 t4 t5 t6 t7 t8 t9 gi ic jD mQ:Type} (p:t0->t1->t2->t3->t4->t5->t6->t7->t8->t9->gi->ic->jD->mQ->Prop):Prop where
 | mk (a0:t0) (a1:t1) (a2:t2) (a3:t3) (a4:t4) (a5:t5) (a6:t6) (a7:t7) (a8:t8) (a9:t9) (a10:gi) (a11:ic) (a12:jD) (a13:mQ) (h:p a0 a1 a2 a3 a4 a5 a6 a7 a8 a9 a10 a11 a12 a13)
inductive X15 {t0 t1 t2 t3 t4 t5 t6 t7 t8 t9 gi ic jD mQ ue:Type} (p:t0->t1->t2->t3->t4->t5->t6->t7->t8->t9->gi->ic->jD->mQ->ue->Prop):Prop where
 | mk (a0:t0) (a1:t1) (a2:t2) (a3:t3) (a4:t4) (a5:t5) (a6:t6) (a7:t7) (a8:t8) (a9:t9) (a10:gi) (a11:ic) (a12:jD) (a13:mQ) (a14:ue) (h:p a0 a1 a2 a3 a4 a5 a6 a7 a8 a9 a10 a11 a12 a13 a14)
set_option Elab.async false
set_option linter.all false
local macro_rules|`(tactic|nofun)=>`(tactic|(intro _ _ _ _ h;repeat(first|(obtain⟨h,_⟩:=h;subst h;rfl)|(cases h;rename_i h))))
local macro_rules|`(tactic|ac_rfl)=>`(tactic|decide +kernel)
def Qa:=@List.length_map
def Qb:=@List.getElem?_eq_getElem
def Qc:=@List.getElem?_eq_some_iff
def Qd:=@List.map_append
def Qe:=@List.mem_singleton
def Qf:=@List.length_append
def Qg:=@List.mem_append
def Qh:=@Nat.le_refl
def Qi:=@PySem.Heap.get?_push_of_some
def Qj:=@List.map_cons
def Qk:=@Option.some.inj
def Ql:=@List.getElem?_map
def Qm:=@List.mem_map_of_mem
def Qn:=@List.mem_append_right
def Qo:=@List.mem_of_getElem?
def Qp:=@List.length_singleton
def Qq:=@List.getD_eq_getElem?_getD
def Qr:=@List.mem_append_left
def Qs:=@List.mem_map
def Qt:=@Nat.zero_le
def Qu:=@List.mem_cons_of_mem
def Qv:=@PySem.boot_len
def Qw:=@List.take_of_length_le
def Qx:=@PySem.Heap.lt_size
def Qy:=@List.size_toArray
def Qz:=@Bool.false_ne_true
def QA:=@List.map_map
def QB:=@PySem.Heap.get?_push_size
def QC:=@List.length_take
def QD:=@List.mem_of_mem_erase
def QE:=@List.take_add_one
def QF:=@List.length_cons
def QG:=@List.mem_cons
def QH:=@Nat.lt_of_lt_of_le
def QI:=@PySem.F.plainAttrs_list
def QJ:=@List.map_congr_left
def QK:=@Nat.ne_of_lt
def QL:=@Nat.le_trans
def QM:=@List.getElem?_eq_none
def QN:=@List.sum_cons
def QO:=@List.append_nil
def QP:=@List.eq_nil_of_length_eq_zero
def QR:=@PySem.W.mg_none_of
def QS:=@PySem.F.slot_list_append
def QT:=@PySem.F.type_list_append
def QU:=@Bool.and_eq_true
def QV:=@List.mem_cons_self
def QW:=@List.getElem?_append_right
def QX:=@List.getElem?_append_left
def QY:=@List.nodup_append
def QZ:=@List.length_pos_of_mem
def Q0:=@List.nodup_cons
def Q1:=@List.mem_range
def Q3:=@List.getElem_mem
def Q4:=@List.append_assoc
def Q5:=@List.flatMap_cons
def Q6:=@List.zip_cons_cons
def Q7:=@List.length_drop
def Q8:=@PySem.W.kia_one
def Q9:=@List.sum_append
def Qaa:=@PySem.Heap.get?_update_of_ne
def Qab:=@List.pairwise_iff_getElem
def Qac:=@List.length_erase_of_mem
def Qad:=@List.pairwise_singleton
def Qae:=@List.mem_of_mem_take
def Qaf:=@Int.add_zero
def Qag:=@List.find?_cons
def Qah:=@Int.le_refl
def Qai:=@List.mem_of_mem_drop
def Qaj:=@List.Perm.refl
def Qak:=@Int.toNat_natCast
def Qal:=@List.length_range
def Qam:=@PySem.mem_of_lookup
def Qan:=@PyProof.Rows.callWith_type1
def Qao:=@List.length_eq_one_iff
def Qap:=@List.getLastD_eq_getLast?
def Qaq:=@Nat.le_succ
def Qar:=@List.map_nil
def Qas:=@List.pairwise_append
def Qat:=@List.ext_getElem?
def Qau:=@List.getElem?_of_mem
def Qav:=@Nat.lt_irrefl
def Qaw:=@List.getElem?_range
def Qax:=@Nat.min_le_right
def Qay:=@Nat.lt_of_le_of_lt
def Qaz:=@List.find?_cons_of_neg
def QaA:=@Nat.add_sub_cancel
def QaB:=@List.pairwise_cons
def QaC:=@List.range_succ
def QaD:=@Int.natCast_add
def QaE:=@List.reverse_cons
def QaF:=@List.mem_erase_of_ne
def QaG:=@Nat.le_of_lt
def QaH:=@Nat.ne_of_gt
def QaI:=@List.lookup_cons
def QaJ:=@Option.bind_some
def QaK:=@Array.getElem?_eq_getElem
def QaL:=@List.getElem?_eq_none_iff
def QaM:=@List.length_pos_iff
def QaN:=@List.any_cons
def QaO:=@List.getLast?_eq_getLast
def QaP:=@Bool.eq_iff_iff
def QaQ:=@Int.emod_lt_of_pos
def QaR:=@PySem.F.plainAttrs_dict
def QaS:=@Option.map_eq_some_iff
def QaT:=@List.drop_sublist
def QaU:=@List.Pairwise.map
def QaZ:=@List.mem_flatMap
namespace L2
open PySem PySem.Spec PyProof.Rows
abbrev Key:=Sum Int aj
noncomputable def VS:Key->aa->Bool
 | .inl k,v=>aa.isInt k v
 | .inr x,v=>aa.isStrOf x v
noncomputable def NM(w:aA):Key->Int
 | .inl k=>hashInt k
 | .inr x=>hashStr w x
theorem WL:∀ {k:Key} {v:aa},VS k v=true->(X2 λi t=>k=Sum.inl i/\v=aa.int i t)\/(X2 λx t=>k=Sum.inr x/\v=aa.str x t)
 | .inl i,v,h=>by obtain⟨t,e⟩:=aa.isInt_shape (k:=i) (v:=v) h;exact .inl ⟨i,t,rfl,e⟩
 | .inr x,v,h=>by obtain⟨t,e⟩:=aa.isStrOf_shape (x:=x) (v:=v) h;exact .inr ⟨x,t,rfl,e⟩
theorem Zmt(i:Int)(t:Tok):VS (.inl i) #[h7]=true:=by simp[VS,aa.isInt]
theorem Zml(x:aj)(t:Tok):VS (.inr x) (.str x t)=true:=by simp[VS,aa.isStrOf]
theorem ZrI(a b:Int):decide (#[r9]=Sum.inl b)=(a == b):=by
 by_cases e:a=b
 ·subst e;simp
 ·have h:¬ #[r9]=Sum.inl b:=λq=>e (Sum.inl.inj q);rw[decide_eq_false h];exact(beq_eq_false_iff_ne.mpr e).symm
theorem ZrU(a b:aj):decide (#[r6]=Sum.inr b)=decide (a=b):=by
 by_cases e:a=b
 ·subst e;simp
 ·have h:¬ #[r6]=Sum.inr b:=λq=>e (Sum.inr.inj q);rw[decide_eq_false h,decide_eq_false e]
theorem Zsq(a:Int)(b:aj):decide (#[r9]=Sum.inr b)=false:=#[mE]
theorem Zr1(a:aj)(b:Int):decide (#[r6]=Sum.inl b)=false:=#[mE]
noncomputable def ZI(prog:ar)(w:aA):PySem.KeyKind prog w Key where
 is:=VS
 hash:=NM w
 inj:=λv a b g f=>by
  rcases WL g with⟨i,t,rfl,rfl⟩|⟨x,t,rfl,rfl⟩
  ·rcases WL f with⟨j,u,rfl,e⟩|⟨y,u,rfl,e⟩
   ·injection e with c _;rw[c]
   ·exact nomatch e
  ·rcases WL f with⟨j,u,rfl,e⟩|⟨y,u,rfl,e⟩
   ·exact nomatch e
   ·injection e with c _;rw[c]
 byValue:=λk v h=>by rcases WL h with⟨i,t,rfl,rfl⟩|⟨x,t,rfl,rfl⟩<;>rfl
 pyHash:=λd h=>by
  rcases WL d with⟨i,t,rfl,rfl⟩|⟨x,t,rfl,rfl⟩
  ·exact wpAny_pyHash_int h
  ·exact wpAny_pyHash_str h
 eqBool:=λl d h=>by
  rcases WL l with⟨i,t,rfl,rfl⟩|⟨x,t,rfl,rfl⟩
  ·rcases WL d with⟨j,u,rfl,rfl⟩|⟨y,u,rfl,rfl⟩
   ·rw[ZrI]at h;exact wpAny_eqBool_int h
   ·rw[Zsq]at h;exact SeqAt.EqAt.int_str i t y u _ _ _ _ h
  ·rcases WL d with⟨j,u,rfl,rfl⟩|⟨y,u,rfl,rfl⟩
   ·rw[Zr1]at h;exact SeqAt.EqAt.str_int x t j u _ _ _ _ h
   ·rw[ZrU]at h;exact wpAny_eqBool_str h
 «strs»:=λk x t v h=>by
  rcases WL h with⟨i,u,rfl,e⟩|⟨y,u,rfl,e⟩
  ·exact nomatch e
  ·injection e with c _;subst c;cases v<;>rfl
theorem ZkK(prog:ar)(w:aA)(k:Key)(v:aa):(ZI prog w).is k v=VS k v:=rfl
theorem NL(prog:ar)(w:aA)(i:Int)(t:Tok):(ZI prog w).is (.inl i) #[h7]=true:=Zmt i t
theorem NK(prog:ar)(w:aA)(x:aj)(t:Tok):(ZI prog w).is (.inr x) (.str x t)=true:=Zml x t
inductive V where
 | non|bl (b:Bool)|int (i:Int)|str (x:aj)|byt (b:Array UInt8)|flt (b:UInt64)|ref (a:ae)|ty (n:String)
 deriving DecidableEq
def ZH:V->aa->Prop
 | .non,u=>u=aa.none
 | .bl b,u=>u=aa.bool b
 | .int i,u=>∃t,u=aa.int i t
 | .str x,u=>∃t,u=aa.str x t
 | .byt b,u=>∃t,u=aa.bytes b t
 | .flt b,u=>∃t,u=aa.float b t
 | .ref a,u=>u=aa.ref a
 | .ty n,u=>u=aa.type n
abbrev ZA:List V->List aa->Prop:=Paired ZH
theorem ZA.length{xs:#[jr]}{us:#[ca]}(r:ZA xs us):xs.length=us.length:=Paired.length r
theorem ZA.get:∀ {xs:List V} {us:List aa} {i:Nat} {x:V},ZA xs us->xs[i]? = U x->∃u,us[i]? = U u/\ZH x u
 | _,_,_,_,.nil,e=>by simp at e
 | _,_,0,_,.cons r _,e=>by simp at e;subst e;exact⟨_,rfl,r⟩
 | _,_,i+1,x,.cons _ t,e=>by obtain⟨u,h1,h2⟩:=ZA.get (i:=i) (x:=x) t #[cG,e];exact⟨u,by simpa using h1,h2⟩
theorem ZA.set{x:V}{u:aa}(r:ZH x u):∀ {xs:List V} {us:List aa} (i:Nat),ZA xs us->ZA (xs.set i x) (us.set i u)
 | _,_,_,.nil=>.nil
 | _,_,0,.cons _ t=>.cons r t
 | _,_,i+1,.cons q t=>.cons q (ZA.set r i t)
theorem ZA.append:∀ {xs ys:List V} {us ws:List aa},ZA xs us->ZA ys ws->ZA (xs++ys) (us++ws)
 | _,_,_,_,.nil,s=>s
 | _,_,_,_,.cons r t,s=>.cons r (ZA.append t s)
theorem ZA.take:∀ {xs:List V} {us:List aa} (n:Nat),ZA xs us->ZA (xs.take n) (us.take n)
 | _,_,0,_=>.nil
 | _,_,_+1,.nil=>.nil
 | _,_,n+1,.cons r t=>.cons r (ZA.take n t)
theorem ZA.drop:∀ {xs:List V} {us:List aa} (n:Nat),ZA xs us->ZA (xs.drop n) (us.drop n)
 | _,_,0,r=>r
 | _,_,_+1,.nil=>.nil
 | _,_,n+1,.cons _ t=>ZA.drop n t
def XZ:Option V->Option aa->Prop
 | some v,U u=>ZH v u
 | none,af=>True
 | _,_=>False
def KV{κ:Type}:List (κ×V)->List (κ×aa)->Prop:=Paired λ(p:κ×V) (q:κ×aa)=>p.1=q.1/\ZH p.2 q.2
noncomputable def kV:Key->V
 | .inl i=>.int i
 | .inr x=>.str x
inductive HO where
  | lst (xs:List V)
  | tup (xs:List V)
  | dK (kvs:List (Key×V))|dT (kvs:List (List Key×V))
  | set (S:Int->Bool) (n:Nat)
  | ins (C dx:ae) (fs:List (aj×V))
  | own (x:ae)
  | xd (fs:List (aj×V))
  | met (f x:ae)
  | rng (lo hi:Int)
  | frz (o:aI) (u:HO)
  | tbl (ps:Array aa)
  | ext (φ:aE->Prop)
noncomputable abbrev Hp:=ae->Option HO
noncomputable def upd(H:Hp)(a:ae)(o:HO):Hp:=λb=>if b=a then U o else H b
theorem Zb{H:Hp}{a:ae}{o:HO}:upd H a o a=U o:=by unfold upd;rw[if_pos rfl]
theorem Ze{H:Hp}{a b:ae}{o:HO}(h:b≠a):upd H a o b=H b:=by unfold upd;rw[if_neg h]
theorem RY{H:Hp}{a b:ae}{o u:HO}(h:H a=U o)(h':H b=U u)(d:o≠u):a≠b:=by intro e;subst e;rw[h]at h';exact d (Qk h')
theorem Zd{H:Hp}{a b:ae}{o:HO}(h:H a=U o)(h':H b=af):a≠b:=by intro e;subst e;rw[h]at h';cases h'
section
variable (P:ar) (w:aA)
def YY(H:Hp)(h:aE)(a:ae):HO->Prop
 | .lst xs=>xs.length<=aq/\X2 λ(its:List aa) (n:Nat)=>ZA xs its/\h.get? a=U { cls:=.type "list",data:=.seq its.toArray n }
 | .tup xs=>xs.length<=aq/\∃its:List aa,ZA xs its/\IsTup h a its.toArray
 | .dK b=>b.length<=aq/\#[kK]=false/\∃g,KV b g/\h.DictOf #[iw] a g
 | .dT b=>b.length<=aq/\#[kK]=false/\∃xs:List (List Key×ae×aa),
   Paired (λ(p:List Key×V) (q:List Key×ae×aa)=>p.1=q.1/\H q.2.1=U #[ix]/\ZH p.2 q.2.2) b xs /\
   X3 λo i l=>h.get? a=U o/\o.ExactDict/\o.data=.dict i l/\i.toList=xs.map (entryOfKey #[rW])/\(xs.map #[lW]).Nodup
 | .set S n=>h.SetOf (intKind P w) a S n
 | .ins C d fs=>H d=U #[tx]/\fs.length<=1000/\d≠a/\h.get? a=U (PySem.W.instObj C d) /\
   ∃c,h.Ns1 d c/\(∀f,XZ (fs.lookup f) (c f))/\PySem.Within c #[tf]
 | .own _=>∃o,h.get? a=U o
 | .xd fs=>∃c,h.Ns1 a c/\∀f,XZ (fs.lookup f) (c f)
 | .rng lo m=>X3 λt u v=>h.get? a=U { cls:=.type "range",data:=.fields #[.int lo t,.int m u,.int 1 v] }
 | .frz o u=>h.get? a=U o/\YY H h a u
 | .tbl r=>h.get? a=U { cls:=.none,data:=.fields r }
 | .met f x=>h.get? a=U (PySem.W.methodObj #[a1] #[p5])
 | .ext e=>e h/\(∃o,h.get? a=U o)/\∀j k:aE,e j->(∀o,j.get? a=U o->k.get? a=U o)->e k
def HOk(H:Hp)(h:aE):Prop:=∀a o,H a=U o->YY P w H h a o
universe E
section
variable {P:ar} {w:aA} {H H':Hp} {h h':aE} {a:ae} {o:HO}
theorem YY.lt(x:YY P w H h a o):a<h.objs.size:=by
 cases o with
 | lst c=>obtain⟨_,_,_,_,e⟩:=x;exact Qx e
 | tup c=>obtain⟨_,_,_,p⟩:=x;exact p.lt
 | dK b=>obtain⟨_,_,_,_,o,_,_,e,_⟩:=x;exact Qx e
 | dT b=>obtain⟨_,_,_,_,o,_,_,e,_⟩:=x;exact Qx e
 | set S n=>obtain⟨o,_,_,_,e,_⟩:=x;exact Qx e
 | ins C dx fs=>obtain⟨_,_,_,e,_⟩:=x;exact Qx e
 | own y=>obtain⟨_,e⟩:=x;exact Qx e
 | xd fs=>obtain⟨_,⟨_,_,_,e,_⟩,_⟩:=x;exact Qx e
 | rng lo hi=>obtain⟨_,_,_,e⟩:=x;exact Qx e
 | frz ob u=>obtain⟨e,_⟩:=x;exact Qx e
 | tbl ps=>exact Qx #[rf]
 | met f y=>exact Qx #[rf]
 | ext φ=>obtain⟨_,⟨_,e⟩,_⟩:=x;exact Qx e
theorem Paired.mapP{α c:Type}{F G:α->c->Prop}:∀ {d:List α} {e:List c},Paired F d e->(∀a b,F a b->G a b)->Paired G d e
 | _,_,.nil,_=>.nil
 | _,_,.cons r t,f=>.cons (f _ _ r) (Paired.mapP t f)
theorem YY.stay(x:YY P w H h a o)(k:∀b u,(b=a\/H b=U #[tx])->h.get? b=U u->h'.get? b=U u)
  (B:∀b,H b=U #[tx]->H' b=U #[tx]) (ht:#[dE,b,xs,H,#[71],H']):YY P w H' h' a o:=by
 induction o with
 | lst xs=>obtain⟨z,its,n,r,e⟩:=x;exact⟨z,its,n,r,k _ _ #[8] e⟩
 | tup xs=>obtain⟨z,its,r,g,e,c⟩:=x;exact⟨z,its,r,g,k _ _ #[8] e,c⟩
 | dK l=>obtain⟨z,y,D,r,g,i,j,e,c⟩:=x;exact⟨z,y,D,r,g,i,j,k _ _ #[8] e,c⟩
 | dT l=>obtain⟨z,y,xs,r,g,i,j,e,c⟩:=x;exact⟨z,y,xs,Paired.mapP r λp q z=>⟨z.1,ht _ _ z.2.1,z.2.2⟩,g,i,j,k _ _ #[8] e,c⟩
 | set S n=>obtain⟨g,i,j,t,e,c⟩:=x;exact⟨g,i,j,t,k _ _ #[8] e,c⟩
 | ins C dx fs=>obtain⟨d,z,ne,e,m,⟨s,i,j,E,c⟩,r⟩:=x;exact⟨B _ d,z,ne,k _ _ #[8] e,m,⟨s,i,j,k _ _ (.inr d) E,c⟩,r⟩
 | own y=>obtain⟨g,e⟩:=x;exact⟨g,k _ _ #[8] e⟩
 | xd fs=>obtain⟨m,⟨s,i,j,e,c⟩,r⟩:=x;exact⟨m,⟨s,i,j,k _ _ #[8] e,c⟩,r⟩
 | rng lo hi=>obtain⟨t,u,v,e⟩:=x;exact⟨t,u,v,k _ _ #[8] e⟩
 | frz g u F=>obtain⟨e,q⟩:=x;exact⟨k _ _ #[8] e,F q⟩
 | tbl A=>have e:h.get? a=U { cls:=.none,data:=.fields A }:=x;show h'.get? a=U { cls:=.none,data:=.fields A };exact k a _ #[8] e
 | met f y=>have e:h.get? a=U #[lZ]:=x;show h'.get? a=U #[lZ];exact k a _ #[8] e
 | ext φ=>obtain⟨p,⟨o,e⟩,st⟩:=x;exact⟨st _ _ p λo q=>k _ _ #[8] q,⟨o,k _ _ #[8] e⟩,st⟩
theorem HOk.lt(x:#[ct])(e:H a=U o):a<h.objs.size:=(x a o e).lt
theorem HOk.fresh(x:#[ct])(e:#[sS]):H a=af:=by
 cases q:H a with
 | none=>rfl
 | some u=>exact absurd (QH (x.lt q) e) (Qav _)
theorem HOk.kept(x:#[ct])(k:#[br]):HOk P w H h':=λa o e =>
 (x a o e).stay (λb u _ q=>k b u q) (λ_ q=>q) λ_ _ q=>q
theorem HOk.laid(x:#[ct])(k:#[br])(g:#[sS])(new:YY P w #[s5] h' a o):HOk P w #[s5] h':=λb u e=>by
 have d:=x.fresh g;by_cases f:b=a
 ·subst f;show#[oz,Zb,e];exact new
 ·rw[Ze f]at e;exact(x b u e).stay (λc v _ q=>k c v q) (λc q=>by rw[Ze (Zd q d)];exact q) λc xs q=>by rw[Ze (Zd q d)];exact q
universe E
def Rd(H:Hp)(a:ae)(u:HO):Prop:=H a=U u\/∃o,H a=U #[i1]
theorem Rd.ok{P:ar}{w:aA}{H:Hp}{h:aE}{a:ae}{u:HO}(r:Rd H a u)(x:#[ct]):YY P w H h a u:=by
 rcases r with r|⟨o,r⟩
 ·exact x a u r
 ·obtain⟨_,q⟩:=x a _ r;exact q
def Mut:Option HO->Prop
 | some (.lst _)=>True
 | some (.dK _)=>True
 | some (.dT _)=>True
 | some (.set _ _)=>True
 | some (.ins _ _ _)=>True
 | some (.ext _)=>True
 | _=>False
section
variable {P:ar} {w:aA} {H:Hp} {h h':aE} {x e:ae} {o':HO}
theorem HOk.write(ok:#[ct])(a:Mut (H x))(he:#[l9])(k:#[fy,u,e,h.get?])(l:#[mT])
  (new:YY P w (upd H x o') h' x o'):HOk P w (upd H x o') h':=λb u q=>by
 have i:∀c y,H c=U (.own y)->c≠x:=λc y r z=>by subst z;rw[r]at a;exact a
 have m:∀c d,H c=U (.tup d)->c≠x:=λc d r z=>by subst z;rw[r]at a;exact a
 by_cases f:b=x
 ·subst f;show#[oz,Zb,q];exact new
 ·rw[Ze f]at q;by_cases g:b=e
  ·have j:H b=U (.own x):=by
    rcases he with z|z
    ·exact absurd (g.trans z) f
    ·rw[g];exact z
   show#[eX,q,j,j];show#[c5,v,n,l];exact⟨v,by rw[g];exact n⟩
  ·refine(ok b u q).stay (λc v hc r=>k c v ?_ r) (λc r=>by rw[Ze (i c b r)];exact r) λc d r=>by rw[Ze (m c d r)];exact r
   rcases hc with rfl|hc
   ·exact g
   ·rintro rfl;rcases he with z|z
    ·exact i c b hc z
    ·show#[oz,hc,z];exact f rfl
universe E
structure Un (fs ex:#[hB]) (H H':Hp) (h h':aE):Prop where
 keep:∀b o,h.get? b=U o->H b=af->b ∉ fs->b ∉ ex->h'.get? b=U o
 slot:∀b o,h.get? b=U o->H b=af->b∈fs->b ∉ ex->∃sl,h'.get? b=U { o with slots:=sl }
 free:∀b o,h.get? b=U o->H b=af->b ∉ ex->H' b=af
 there:∀b o,h.get? b=U o->b ∉ ex->∃o',h'.get? b=U o'
 tups:∀b xs,H b=U #[71]->H' b=U #[71]
 frzs:∀b o u,H b=U #[i1]->H' b=U #[i1]
 tbls:∀b ps,H b=U (.tbl ps)->∃more,H' b=U (.tbl (ps++more))
section
variable {fs lW ex ex':List ae} {H H1 H2:Hp} {h h1 h2 h':aE} {a x e:ae} {o:HO}
theorem Un.any(u:Un fs ex H H1 h h1){b:ae}{ob:aI}(q:h.get? b=U ob)(n:H b=af)(hx:b ∉ ex):∃sl,h1.get? b=U { ob with slots:=sl }:=by
 by_cases a:b∈fs
 ·exact u.slot b ob q n a hx
 ·exact⟨ob.slots,u.keep b ob q n a hx⟩
theorem Un.kept(k:#[br]):Un fs ex H H h h' :=
 ⟨λb a q _ _ _=>k b a q,λb a q _ _ _=>⟨a.slots,k b a q⟩,λ_ _ _ n _=>n,λb a q _=>⟨a,k b a q⟩,λ_ _ q=>q,λ_ _ _ q=>q,λ_ ps q=>⟨#[],by rw[q];simp⟩⟩
theorem Un.refl:Un fs ex H H h h:=Un.kept λ_ _ q=>q
theorem Un.laid(k:#[br])(d:#[sS])(c:H a=af):Un fs ex H #[s5] h h' where
 keep:=λb u q _ _ _=>k b u q
 slot:=λb u q _ _ _=>⟨u.slots,k b u q⟩
 free:=λb u q n _=>by rw[Ze (QK (QH (Qx q) d))];exact n
 there:=λb u q _=>⟨u,k b u q⟩
 tups:=λb e q=>by rw[Ze (Zd q c)];exact q
 frzs:=λb u e q=>by rw[Ze (Zd q c)];exact q
 tbls:=λb ps q=>⟨#[],by rw[Ze (Zd q c),q];simp⟩
theorem Un.write(a:Mut (H x))(he:#[l9])(k:#[fy,u,e,h.get?])(i:#[mT]):Un fs ex H (upd H x o) h h':=by
 have d:∀b,H b=af->b≠x:=λb n z=>by subst z;rw[n]at a;exact a
 have f:∀b,H b=af->b≠e:=λb n z=>by
  subst z;rcases he with r|r
  ·exact d b n r
  ·show#[eX,n,r,r]
 have c:∀b u,H b=U u->¬ Mut (U u)->b≠x:=λb u q j z=>by subst z;rw[q]at a;exact j a
 refine⟨λb u q n _ _=>k b u (f b n) q,λb u q n _ _=>⟨u.slots,k b u (f b n) q⟩,λb u q n _=>by rw[Ze (d b n)];exact n,λb u q _=>?_,
  λb l q=>by rw[Ze #[qO]];exact q,λb u l q=>by rw[Ze #[qO]];exact q,λb ps q=>⟨#[],by rw[Ze #[qO],q];simp⟩⟩
 by_cases g:b=e
 ·subst g;exact i
 ·exact⟨u,k b u g q⟩
universe E
noncomputable def trk(h:aE)(H:Hp):List ae:=#[sF].filter λa=>(H a).isSome
noncomputable def Wq(h:aE)(H:Hp):aE:=PySem.W.hideAll h (trk h H)
theorem ZlZ(h:aE)(H:Hp):(Wq h H).objs.size=h.objs.size:=PySem.W.hideAll_size _ _
theorem Zno{h:aE}{H:Hp}{b:ae}{o:aI}(e:h.get? b=U o)(n:H b=af):(Wq h H).get? b=U o :=
 PySem.W.hideAll_get _ e λa=>by have q:(H b).isSome=true:=(List.mem_filter.mp a).2;rw[n]at q;simp at q
theorem ZqI{h:aE}{H:Hp}{b:ae}{o:aI}(e:(Wq h H).get? b=U o):h.get? b=U o/\H b=af:=by
 have a:h.get? b=U o:=PySem.W.of_hideAll (trk h H) e;refine⟨a,?_⟩;cases q:H b with
 | none=>rfl
 | some x=>have c:b∈trk h H:=List.mem_filter.mpr ⟨Q1.mpr (Qx a),by simp[q]⟩;have z:(Wq h H).get? b=af:=PySem.W.hideAll_none (trk h H) c;show#[eX,z,e,e]
noncomputable def ZqH(g h:aE)(L:ae):List (ae×aI):=#[sF].filterMap λa=>if a=L\/(g.get? a).isSome=true then af else (h.get? a).map λo=>(a,o)
noncomputable def rest(g h:aE)(L d:ae):List (ae×aI):=(ZqH g h L).filter λp=>decide (p.1≠d)
structure Mod (K:#[7]) (mg:#[P]) (base:aE):Prop where
 kin:K.In base
 glob:base.Ns aH mg
 blt:∃mb,base.Ns builtinsNs mb/\∀x:aj,x ≠ "__name__"->mb x=ci x
 nolimit:base.NoLimit
structure Cx where
 prog:ar
 w:aA
 K:#[7]
 mg:aj->Option aa
 base:aE
 A:az
 N:List aj
 s₀:ah
 H₀:Hp
 env:Env
 outer:List Env
 stack:List Env
 ex:List ae
 fn:aj->Bool
 calm:Bool
 pn:List (ae×aI)
 xe:aa->ah->Prop
noncomputable def frs(l:#[rc]):List ae:=l.filterMap (·.frame)
noncomputable abbrev Cx.fs(X:Cx):List ae:=frs X.outer
def Vis(a:aS)(x:aj):Prop:=a.names.lookup x=U .local\/a.names.lookup x=U .cell\/a.names.lookup x=U .free
def Loc(a:aS)(x:aj):Prop:=a.names.lookup x=U .local\/a.names.lookup x=U .cell
def Zun(env:Env)(h:aE)(m:#[P])(x:aj)(u:aa):Prop :=
 (env.kindOf x=U .local/\m x=U u)\/(#[eF,env.kindOf,x]/\∃c,env.cells.lookup x=U c/\h.IsCell c (U u))
structure Cx.Ok (X:Cx):Prop where
 mod:Mod X.K X.mg X.base
 kind:X.env.scope.kind=.function
 glob:X.env.globals=aH
 blt:X.env.builtins=builtinsNs
 above:X.s₀.heap.objs.size<=X.env.locals
 inj:∀x y c,X.env.cells.lookup x=U c->X.env.cells.lookup y=U c->x=y
 has:∀x,#[eF,X.env.kindOf,x]->∃c,X.env.cells.lookup x=U c
 cab:∀x c,X.fn x=true->X.env.cells.lookup x=U c->X.s₀.heap.objs.size<=c
 hd:X.calm=true->X.A.handled=af
 frames:X.A.frames=U X.stack
 stk:X.stack=X.outer\/(X.stack=X.env::X.outer/\X.env.frame=U X.env.locals)
 exf:∀b∈X.ex,b≠X.env.locals/\∀x c,X.env.cells.lookup x=U c->c≠b
 bs:∀b o,X.base.get? b=U o->X.s₀.heap.get? b=U o/\X.H₀ b=af
 bsz:X.base.objs.size<=X.s₀.heap.objs.size
 noex:∀b o,X.base.get? b=U o->b ∉ X.ex
 exfs:∀b∈X.ex,b ∉ X.fs
 funs:X.s₀.heap.FunFrames X.base X.outer
 frf:∀b∈X.fs,X.H₀ b=af
structure Inv (X:Cx) (ai:#[Q]) (σ:List (Option V)) (H:Hp) (s:ah):Prop where
 ok:X.Ok
 os:s.os=X.s₀.os
 bare:AllBare s.gens
 base:Un X.fs X.ex X.H₀ H X.s₀.heap s.heap
 loc:∃m,s.heap.Ns X.env.locals m/\∀ (i:Nat) (x:aj) (v:V),X.N[i]? = U x->σ[i]? = U (U v)->Vis X.env.scope x->∃u,ZH v u/\Zun X.env s.heap m x u
 cell:∀x c,X.env.cells.lookup x=U c->∃v,s.heap.IsCell c v
 free:H X.env.locals=af
 freeC:∀x c,X.env.cells.lookup x=U c->H c=af
 pin:∀p∈X.pn++ai,s.heap.get? p.1=U p.2/\H p.1=af/\p.1≠X.env.locals/\p.1 ∉ X.fs/\∀v,p.2.data≠.cell v
 hok:HOk X.prog X.w H s.heap
 len:σ.length=X.N.length
section
variable {X:Cx} {ai:List (ae×aI)} {σ:List (Option V)} {H H':Hp} {s:ah} {h':aE}
theorem Cx.Ok.nofr(ok:X.Ok){b:ae}{o:aI}(e:X.base.get? b=U o):b ∉ X.fs:=λhb=>by have:=(ok.funs.mem hb).1;rw[e]at this;cases this
theorem Inv.bs(I:#[l]):∀b o,X.base.get? b=U o->s.heap.get? b=U o/\H b=af:=λb o e =>
 ⟨I.base.keep b o #[lJ].1 #[lJ].2 (I.ok.nofr e) (I.ok.noex b o e),I.base.free b o #[lJ].1 #[lJ].2 (I.ok.noex b o e)⟩
theorem Inv.bk(I:#[l]):∀b o,X.base.get? b=U o->s.heap.get? b=U o:=λb o e=>(I.bs b o e).1
theorem Inv.mod(I:#[l]):Mod X.K X.mg X.base:=I.ok.mod
theorem Inv.kIn(I:#[l]):X.K.In s.heap:=I.ok.mod.kin.keeps I.bk
theorem Inv.lt(I:#[l]):X.env.locals<s.heap.objs.size:=let ⟨_,a,_⟩:=I.loc;a.lt
theorem Inv.sz(I:#[l]):X.s₀.heap.objs.size<=s.heap.objs.size:=QL I.ok.above (QaG I.lt)
theorem Inv.nofs(I:#[l]){a:ae}(h:s.heap.objs.size<=a):a ∉ X.fs:=λhb=>by obtain⟨_,o,b,_⟩:=I.ok.funs.mem hb;exact absurd (QH (Qx b) (QL I.sz h)) (Qav _)
theorem Inv.cne(I:#[l]):∀x c,X.env.cells.lookup x=U c->c≠X.env.locals:=λx c e z=>by obtain⟨v,o,b,d⟩:=#[rd];obtain⟨m,⟨o',es,ep,f,a,_⟩,_⟩:=I.loc;rw[z,f]at b;cases b;rw[a]at d;cases d
theorem Inv.funs(I:#[l]):s.heap.FunFrames X.base X.outer:=by
 have all:∀ (l:List Env),(∀b∈frs l,b∈X.fs)->X.s₀.heap.FunFrames X.base l->s.heap.FunFrames X.base l:=by
  intro l;induction l with
  | nil=>intro _ _;trivial
  | cons env r g=>intro f h;obtain⟨i,⟨L,o,a,j,k,m⟩,n⟩:=h;have c:L∈X.fs:=f L (by unfold frs;rw[List.filterMap_cons,a];exact QV);obtain⟨sl,e⟩:=I.base.slot L o k (I.ok.frf L c) c λz=>I.ok.exfs L z c;exact⟨i,⟨L,_,a,j,e,m⟩,g (λb d=>f b (by unfold frs;rw[List.filterMap_cons,a];exact Qu _ d)) n⟩
 exact all X.outer (λ_ d=>d) I.ok.funs
theorem Inv.stack(I:#[l]):s.heap.FunFrames X.base X.stack:=by
 rcases I.ok.stk with e|⟨e,a⟩
 ·rw[e];exact I.funs
 ·rw[e];obtain⟨m,b,_⟩:=I.loc;refine .cons (by rw[I.ok.kind];decide) a b ?_ I.funs;exact aE.get?_none_of_le (QL I.ok.bsz I.ok.above)
theorem Inv.stkSub(I:#[l]):∀b∈frs X.stack,b∈X.env.locals::X.fs:=λb hb=>by
 rcases I.ok.stk with e|⟨e,a⟩
 ·rw[e]at hb;exact Qu _ hb
 ·rw[e]at hb;unfold frs at hb;rw[List.filterMap_cons,a]at hb;exact hb
theorem Inv.stkFree(I:#[l]):∀b∈frs X.stack,H b=af:=λb hb=>by
 rcases QG.mp (I.stkSub b hb) with e|hb
 ·rw[e];exact I.free
 ·obtain⟨_,o,a,_⟩:=I.ok.funs.mem hb;exact I.base.free b o a (I.ok.frf b hb) λz=>I.ok.exfs b z hb
theorem Inv.step{g':Array GenState}{t':Nat}{d':Drawn}{ch:#[hB]}(I:#[l])
  (w:#[T])
  (keep:∀b o,b≠X.env.locals->b ∉ X.fs->b ∉ ch->s.heap.get? b=U o->H b=af->h'.get? b=U o)
  (slot:∀b o,b≠X.env.locals->b∈X.fs->b ∉ ch->s.heap.get? b=U o->H b=af->∃sl,h'.get? b=U { o with slots:=sl }) (free:∀b o,b ∉ ch->s.heap.get? b=U o->H b=af->H' b=af)
  (h:∀b o,b ∉ ch->s.heap.get? b=U o->∃y,h'.get? b=U y)
  (A:#[nl,b,g,H,H']) (B:∀b o u,H b=U #[i1]->H' b=U #[i1]) (C:∀b G,H b=U (.tbl G)->∃D,H' b=U (.tbl (G++D)))
  (R:∀m,s.heap.Ns X.env.locals m->h'.Ns X.env.locals m) (K:#[lq]) (S:AllBare g') :
  Inv X ai σ H' { s with heap:=h',gens:=g',drawn:=d',toks:=t' }:=by
 have M:∀b o,X.s₀.heap.get? b=U o->b≠X.env.locals:=λb o e=>QK (QH (Qx e) I.ok.above);have J:∀b o,X.s₀.heap.get? b=U o->b ∉ X.ex->b ∉ ch:=λb o e a j=>by
  rcases(w b j).1 with z|z
  ·exact a z
  ·exact absurd (QH (Qx e) z) (Qav _)
 have N:∀x c,X.env.cells.lookup x=U c->∀v,s.heap.IsCell c v->h'.IsCell c v:=λx c e v ⟨o,t,L⟩=>by
  have E:c ∉ ch:=λz=>(w c z).2.2.1 x c e rfl;by_cases O:c∈X.fs
  ·obtain⟨sl,q⟩:=slot c o (I.cne x c e) O E t #[se];exact⟨_,q,L⟩
  ·exact⟨o,keep c o (I.cne x c e) O E t #[se],L⟩
 refine⟨I.ok,I.os,S,⟨λb o e n j a=>?_,λb o e n j a=>?_,λb o e n a=>?_,λb o e a=>?_,λb g e=>A b g (I.base.tups b g e),λb o g e=>B b o g (I.base.frzs b o g e),λb G e=>?_⟩,?_,λx c e=>?_,?_,λx c e=>?_,λp P=>?_,K,I.len⟩
 ·exact keep b o (M b o e) j #[tv] (I.base.keep b o e n j a) #[jK]
 ·obtain⟨sl,f⟩:=I.base.slot b o e n j a;obtain⟨T,F⟩:=slot b _ (M b o e) j #[tv] f #[jK];exact⟨T,F⟩
 ·show#[nH,y,f,a];exact free b y #[tv] f #[jK]
 ·show#[nH,y,f,a];exact h b y #[tv] f
 ·obtain⟨V,f⟩:=I.base.tbls b G e;obtain⟨W,F⟩:=C b _ f;exact⟨V++W,by rw[F,Array.append_assoc]⟩
 ·show#[e9,m,Y,Z,I.loc];refine⟨m,R m Y,λi x v f F e3=>?_⟩;obtain⟨u,r,l⟩:=Z i x v f F e3;refine⟨u,r,?_⟩;rcases l with l|⟨k,c,e,z⟩
  ·exact .inl l
  ·exact .inr ⟨k,c,e,N x c e _ z⟩
 ·obtain⟨v,z⟩:=#[rd];exact⟨v,N x c e v z⟩
 ·obtain⟨m,⟨o,_,_,t,_⟩,_⟩:=I.loc;exact free _ o (λz=>(w _ z).2.1 rfl) t I.free
 ·obtain⟨v,o,t,L⟩:=#[rd];exact free c o (λz=>(w c z).2.2.1 x c e rfl) t #[se]
 ·show#[t2,Q,P];have E:p.1 ∉ ch:=λz=>(w p.1 z).2.2.2 p P rfl;exact⟨keep p.1 p.2 ne Q E e n,free p.1 p.2 E e n,ne,Q,d⟩
theorem Inv.un{t':Nat}(I:#[l])(u:Un X.fs [] H H' s.heap h')(hok:#[lq]):Inv X ai σ H' { s with heap:=h',toks:=t' }:=by obtain⟨m,⟨o,es,ep,c,r⟩,_⟩:=id I.loc;obtain⟨sl,f⟩:=u.any c I.free #[4];exact I.step (g':=s.gens) (d':=s.drawn) (ch:=[]) (λ_ z=>nomatch z) (λb o _ a _ e n=>u.keep b o e n a #[4]) (λb o _ a _ e n=>u.slot b o e n a #[4]) (λb o _ e n=>u.free b o e n #[4]) (λb o _ e=>u.there b o e #[4]) u.tups u.frzs u.tbls (λm' g=>by obtain⟨o',h,i,d,j⟩:=g;rw[c]at d;cases d;exact⟨_,h,i,f,j⟩) hok I.bare
theorem Inv.call{g':Array GenState}{t':Nat}{d':Drawn}{ch:#[hB]}(I:#[l])(u:Un #[pT] ch H H' s.heap h')(hok:#[lq])(i:AllBare g')
  (f:#[T]) :
  Inv X ai σ H' { s with heap:=h',gens:=g',drawn:=d',toks:=t' }:=by
 obtain⟨m,⟨o,es,ep,g,r⟩,_⟩:=id I.loc;obtain⟨sl,d⟩:=u.any g I.free λz=>(f _ z).2.1 rfl;exact I.step (ch:=ch) f (λb o d j a e n=>u.keep b o e n (λz=>(QG.mp (I.stkSub b z)).elim d j) a) (λb o _ _ a e n=>u.any e n a) (λb o a e n=>u.free b o e n a) (λb o a e=>u.there b o e a) u.tups u.frzs u.tbls (λm' k=>by obtain⟨o',l,q,h,t⟩:=k;rw[g]at h;cases h;exact⟨_,l,q,d,t⟩) hok i
theorem Inv.turned{t':Nat}{it:ae}(I:#[l])(k:#[fy,o,it,s.heap.get?])(g:H it=af)(d:it≠X.env.locals)
  (h1:it∈X.ex\/X.s₀.heap.objs.size<=it) (h2:∀x c,X.env.cells.lookup x=U c->c≠it) (h3:∀p∈X.pn++ai,p.1≠it):Inv X ai σ H { s with heap:=h',toks:=t' }:=by
 have f:∀b u,H b=U u->b≠it:=λb u e z=>by rw[z,g]at e;cases e
 refine I.step (g':=s.gens) (d':=s.drawn) (ch:=[it]) (λb h=>?_) (λb o _ _ a e _=>k b o #[kG] e) (λb o _ _ a e _=>⟨o.slots,k b o #[kG] e⟩) (λ_ _ _ _ n=>n)
  (λb o a e=>⟨o,k b o #[kG] e⟩) (λ_ _ e=>e) (λ_ _ _ e=>e) (λb ps e=>⟨#[],by rw[e];simp⟩) (λm i=>?_) #[oW,b,u,e] I.bare
 ·have e:b=it:=by simpa using h
  subst e;exact⟨h1,d,h2,h3⟩
 ·obtain⟨o,j,l,t,r⟩:=i;exact⟨o,j,l,k _ o (Ne.symm d) t,r⟩
 ·refine(I.hok b u e).stay (λc v a q=>k c v ?_ q) (λ_ q=>q) λ_ _ q=>q;rcases a with z|z
  ·rw[z];exact f b u e
  ·exact f c _ z
theorem Inv.tok(I:#[l])(t:Nat):Inv X ai σ H { s with toks:=t }:=I.un (h':=s.heap) (t':=t) Un.refl I.hok
theorem Inv.kept{t':Nat}(I:#[l])(k:#[nh]):Inv X ai σ H { s with heap:=h',toks:=t' }:=I.un (Un.kept k) (I.hok.kept k)
theorem Inv.laid{a:ae}{o:HO}{t':Nat}(I:#[l])(k:#[nh])(c:s.heap.objs.size<=a)(new:#[n2,a,o]) :
  Inv X ai σ #[s5] { s with heap:=h',toks:=t' }:=I.un (Un.laid k c (I.hok.fresh c)) (I.hok.laid k c new)
theorem Inv.write{x e:ae}{o:HO}{t':Nat}(I:#[l])(a:Mut (H x))(he:#[l9])(k:#[fy,u,e,s.heap.get?])(c:#[mT])
  (new:#[n2,x,o]):Inv X ai σ (upd H x o) { s with heap:=h',toks:=t' }:=I.un (Un.write a he k c) (I.hok.write a he k c new)
theorem Inv.pins_of{a:#[Q]}(I:#[l])(h:∀p∈a,s.heap.get? p.1=U p.2/\H p.1=af/\p.1≠X.env.locals/\p.1 ∉ X.fs/\∀v,p.2.data≠.cell v):Inv X a σ H s :=
 ⟨I.ok,I.os,I.bare,I.base,I.loc,I.cell,I.free,I.freeC,λp b=>(Qg.mp b).elim (λz=>I.pin p (Qr _ z)) (h p),I.hok,I.len⟩
theorem NJ{N:#[y]}(c:N.Nodup){i j:Nat}{x:aj}(a:N[i]? = U x)(b:N[j]? = U x):i=j:=by obtain⟨h1,d⟩:=Qc.mp a;obtain⟨h2,e⟩:=Qc.mp b;exact(List.getElem_inj c).mp (d.trans e.symm)
theorem NI{M:Model}{A:az}{E:#[D]}{i:Nat}{x:aj}{v:V}{u:aa}{Q:#[pu]}(I:#[l])(T:#[mb])(B:#[cp])(hx:#[sk])(r:ZH v u)
  (h:∀s',Inv X ai (σ.set i (U v)) H s'->(∃a,aE.SameBut a s.heap s'.heap/\(a=X.env.locals\/X.env.cells.lookup x=U a))->Q () s') (hf:#[Y]:=by first|exact #[kn]|exact #[ti]|assumption):aw M A (storeName X.env x u) Q E s:=by
 show#[nB,m,F,W,id,I.loc];have ui:(X.env.scope.kind == .class||(X.env.scope.kind == .module&&X.env.locals != X.env.globals))=false:=by rw[I.ok.kind];rfl
 have Y:i<σ.length:=by rw[I.len];exact(Qc.mp B).1
 have cne:=I.cne;have Z:∀ {a:ae} {h':aE},(∃o,s.heap.get? a=U o/\H a=af)->aE.SameBut a s.heap h'->HOk X.prog X.w H h':=λ{a h'} ha f b ob e=>by
  obtain⟨_,_,e8⟩:=ha;refine(I.hok b ob e).stay (λc C hc q=>(f.2 c ?_).trans q) (λ_ q=>q) λ_ _ q=>q;rintro rfl;rcases hc with rfl|hc
  ·show#[oz,e8,e]
  ·show#[oz,e8,hc]
 rcases hx with hk|hk
 ·refine wpAny_storeName_local hk F #[oW,h',y6,f] ui;obtain⟨oL,_,_,ku,_⟩:=id F;refine h _ ⟨I.ok,I.os,I.bare,#[aI],⟨_,y6,λj y G g l J=>?_⟩,λy c e=>?_,I.free,I.freeC,λp K=>?_,Z ⟨oL,ku,I.free⟩ f,by simpa using I.len⟩ ⟨_,f,.inl rfl⟩
  ·exact#[gw].trans #[rl]
  ·show#[pf];exact⟨L,#[gw].trans g⟩
  ·show#[nH,N,g,hx];exact⟨N,#[gw].trans g⟩
  ·by_cases w:j=i
   ·show#[hs];exact⟨u,r,.inl ⟨hk,by simp⟩⟩
   ·show#[b8];rcases q with⟨k,e⟩|⟨k,c,e,z⟩
    ·refine .inl ⟨k,?_⟩;have:y≠x:=λe=>w (NJ T g (e ▸ B));simp[this,e]
    ·exact .inr ⟨k,c,e,z.sameBut f (cne y c e)⟩
  ·obtain⟨C,z⟩:=I.cell y c e;exact⟨C,z.sameBut f (cne y c e)⟩
  ·show#[t2,R,K];exact⟨(f.2 p.1 ne).trans e,n,ne,R,d⟩
 ·have S:X.fn x=true:=by
   rcases hf with z|z
   ·exact z
   ·show#[oz,z,hk]
  obtain⟨c,hc⟩:=I.ok.has x (.inl hk);obtain⟨C,z⟩:=I.cell x c hc;refine wpAny_storeName_cell I.ok.kind hk hc z #[oW,h',mT,f];show#[nB,oc,uj,ul,id,z];refine h { s with heap:=h' } ⟨I.ok,I.os,I.bare,#[aI],⟨m,F.sameBut f (Ne.symm (cne x c hc)),λj y G g l J=>?_⟩,λy D e=>?_,I.free,I.freeC,λp K=>?_,Z ⟨oc,uj,I.freeC x c hc⟩ f,by simpa using I.len⟩ ⟨c,f,.inr hc⟩
  ·exact#[b2].trans #[rl]
  ·show#[pf];exact⟨L,#[b2].trans g⟩
  ·show#[nH,N,g,hx];exact⟨N,#[b2].trans g⟩
  ·by_cases w:j=i
   ·show#[hs];exact⟨u,r,.inr ⟨.inl hk,c,hc,mT⟩⟩
   ·show#[b8];rcases q with q|⟨k,D,e,z'⟩
    ·exact .inl q
    ·refine .inr ⟨k,D,e,z'.sameBut f ?_⟩;rintro rfl;exact w (NJ T g (I.ok.inj _ _ _ e hc ▸ B))
  ·by_cases lY:D=c
   ·subst lY;exact⟨_,mT⟩
   ·obtain⟨w2,z2⟩:=I.cell y D e;exact⟨w2,z2.sameBut f lY⟩
  ·show#[t2,R,K];refine⟨(f.2 p.1 ?_).trans e,n,ne,R,d⟩;intro q;rw[q,uj]at e;have q':oc=p.2:=Qk e;exact d C #[c9,q',ul]
theorem V6{M:Model}{A:az}{E:#[D]}{i:Nat}{x:aj}{v:V}{u:aa}{Q:#[pu]}(I:#[l])(a:#[mb])(b:#[cp])(hx:#[sk])(r:ZH v u)
  (h:∀s',Inv X ai (σ.set i (U v)) H s'->Q () s') (c:#[Y]:=by first|exact #[kn]|exact #[ti]|assumption):aw M A (storeName X.env x u) Q E s :=
 NI I a b hx r (λs' d _=>h s' d) c
theorem Inv.call'{s':ah}{ch:#[hB]}(I:#[l])(a:s'.os=s.os)(u:Un #[pT] ch H H' s.heap s'.heap)(hok:HOk X.prog X.w H' s'.heap)(d:AllBare s'.gens)
  (f:#[T]):Inv X ai σ H' s':=by
 obtain⟨h',g',d',t',g⟩:=s';have e:g=s.os:=a;subst e;exact I.call (g':=g') (t':=t') (d':=d') u hok d f
universe E
abbrev XK:=aa->Option ae->Hp->Prop
abbrev St:=List (Option V)
abbrev VK:=V->Hp->Prop
abbrev TE:=St->Hp->VK->Prop
abbrev TT:=St->Hp->(Bool->Hp->Prop)->Prop
abbrev TA:=St->Hp->(List V->Hp->Prop)->Prop
structure YH where
 nx:St->Hp->Prop
 rt:VK
 bk:St->Hp->Prop:=#[l4]
 ct:St->Hp->Prop:=#[l4]
abbrev TS:=YH->St->Hp->Prop
def EP(X:Cx)(b:#[Q])(c:St)(Q:VK)(u:aa)(s':ah):Prop:=X2 λv a=>Inv X b c a s'/\ZH v u/\Q v a
def TP(X:Cx)(c:#[Q])(d:St)(Q:Bool->Hp->Prop)(b:Bool)(s':ah):Prop:=∃a,Inv X c d a s'/\Q b a
def AP(X:Cx)(b:#[Q])(c:St)(Q:List V->Hp->Prop)(us:#[ca])(s':ah):Prop:=X2 λvs a=>Inv X b c a s'/\ZA vs us/\Q vs a
def SP(X:Cx)(c:#[Q])(D:YH)(f:Flow)(s':ah):Prop :=
 match f with
 | .next=>X2 λb a=>Inv X c b a s'/\D.nx b a
 | .brk=>X2 λb a=>Inv X c b a s'/\D.bk b a
 | .cont=>X2 λb a=>Inv X c b a s'/\D.ct b a
 | .ret u=>X3 λv b a=>Inv X c b a s'/\ZH v u/\D.rt v a
def PE(X:Cx)(e:aD)(t:TE):Prop :=
 ∀ (b:List (ae×aI)) (s:ah) (a:St) (H:Hp) (Q:VK),Inv X b a H s->t a H Q->#[ij] #[dI,e] (EP X b a Q) X.xe s
def PT(X:Cx)(e:aD)(t:TT):Prop :=
 ∀ (b:List (ae×aI)) (s:ah) (a:St) (H:Hp) (Q:Bool->Hp->Prop),Inv X b a H s->t a H Q->#[ij] (isTrue e X.env #[dI,e]) (TP X b a Q) X.xe s
def PW(X:Cx)(e:aD)(t:TT):Prop :=
 ∀ (c:Sem aa) (b:List (ae×aI)) (s:ah) (a:St) (H:Hp) (Q:Bool->Hp->Prop),Inv X b a H s->t a H Q->#[ij] (isTrue e X.env c) (TP X b a Q) X.xe s
theorem PW.pt{X:Cx}{e:aD}{t:TT}(h:PW X e t):PT X e t:=h _
def PA(X:Cx)(d:#[lp])(t:TA):Prop :=
 ∀ (a:Pos) (c:List (ae×aI)) (s:ah) (b:St) (H:Hp) (Q:List V->Hp->Prop),Inv X c b H s->t b H Q->#[ij] (spliced (bu a (aF d X.env))) (AP X c b Q) X.xe s
def PS(X:Cx)(st:aJ)(t:TS):Prop :=
 ∀ (a:List (ae×aI)) (s:ah) (b:St) (H:Hp) (D:YH),Inv X a b H s->t D b H->#[ij] (exec st X.env) (SP X a D) X.xe s
def PSs(X:Cx)(st:#[qG])(t:TS):Prop :=
 ∀ (a:List (ae×aI)) (s:ah) (b:St) (H:Hp) (D:YH),Inv X a b H s->t D b H->#[ij] (execs st X.env) (SP X a D) X.xe s
theorem thn{α:Type}{t:Sem α}{Q b:α->ah->Prop}{M:Model}{A:az}{E:#[D]}{s:ah}(h:aw M A t Q E s)(c:∀a s,Q a s->b a s):aw M A t b E s:=bD h c λ_ _ x=>x
section
variable {X:Cx}
inductive EA {α:Type} (A B:α->Prop):Prop where
 | mk (v:α) (a:A v) (b:B v)
def TB(i:Nat):TE:=λa H Q=>EA (λv=>a[i]? = U (U v)) (λv=>Q v H)
def tC(v:V):TE:=λ_ H Q=>Q v H
theorem RX{i:Nat}{x:aj}{pos:Pos}(f:#[cp])(g:#[fs,Vis])(hd:#[A]:=by decide)(j:#[bc]:=by decide):PE X #[cC] (TB i):=by
 show#[dP,k,n,Q];show#[e9,v,e,h,h];show#[e9,m,o,p,I.loc];obtain⟨u,r,l⟩:=p i x v f e g;have a:EP X k n Q u s:=⟨v,H,I,r,h⟩;rcases l with⟨hk,q⟩|⟨hk,c,b,d⟩
 ·exact wpAny_Name (wpAny_loadName_local I.ok.kind hk o q a) hd
 ·rcases hk with hk|hk
  ·exact wpAny_Name (wpAny_loadName_cell I.ok.kind hk b d a) hd
  ·exact wpAny_Name (wpAny_loadName_free I.ok.kind hk b d a j) hd
theorem Zi{i j pos}:PE X (.Constant #[p8] j pos) (tC #[p8]):=λ_ _ _ H _ I h=>wpAny_Constant_int #[oI,i,h]
theorem Xi{b j pos}:PE X (.Constant (.bool b) j pos) (tC (.bl b)):=λ_ _ _ H _ I h=>Constant_bool #[tP,b,h]
theorem YN{j pos}:PE X (.Constant .none j pos) (tC .non):=λ_ _ _ H _ I h=>Constant_none ⟨.non,H,I,rfl,h⟩
theorem ZN{x j pos}:PE X (.Constant (.str x) j pos) (tC (.str x)):=λ_ _ _ H _ I h=>Calls.Constant_str ⟨.str x,H,I.tok _,#[H],h⟩
def Gl(X:Cx)(x:aj):Prop:=X.env.kindOf x=U .globalImplicit
theorem NH{E:#[D]}{a:#[Q]}{s:ah}{b:St}{H:Hp}{x:aj}{u:aa}{pos:Pos}{Q:#[D]}(I:#[eV,a,b])(c:Gl X x)(hm:X.mg x=U u)(h:Q u s)
  (hd:#[A]:=by decide):#[ij] #[dI,#[cC]] Q E s :=
 Calls.Name_function_global I.ok.kind c (Calls.loadGlobal_global #[kU] hm h) hd
theorem VR{E:#[D]}{a:#[Q]}{s:ah}{b:St}{H:Hp}{x:aj}{u:aa}{pos:Pos}{Q:#[D]}(I:#[eV,a,b])(c:Gl X x)(hm:X.mg x=af)(d:ci x=U u)(h:Q u s)
  (e:#[h8]:=by decide) (hd:#[A]:=by decide):#[ij] #[dI,#[cC]] Q E s:=by
 show#[e9,mb,f,g,I.mod.blt];exact Calls.Name_function_global I.ok.kind c (Calls.loadGlobal_builtin #[kU] hm #[dj,I.ok.blt,f.keeps,I.bk] ((g x e).trans d) h) hd
theorem ZpY{x:aj}{v:V}{u:aa}{pos:Pos}(a:Gl X x)(hm:X.mg x=af)(b:ci x=U u)(r:ZH v u)(c:#[h8]:=by decide)(hd:#[A]:=by decide):PE X #[cC] (tC v) :=
 λ_ _ _ H _ I h=>VR I a hm b ⟨v,H,I,r,h⟩ c hd
variable {a b:aD} {ta tb:TE} {pos:Pos}
def tB(t:TE):TT:=λa H Q=>t a H λx b=>EA (λc=>x=.bl c) (λc=>Q c b)
theorem VQ{e:aD}{t:TE}(h:PE X e t)(he:∀a,isTrue e X.env a=(do let v <- a;standAt e.pos;holding [v] (truthy v)):=by intro _;rfl):PT X e (tB t):=by intro b s c H Q I hw;refine isTrue_plain (thn (h b s c H _ I hw) ?_) (he _);rintro v s1 ⟨x,f,g,i,j⟩;obtain⟨d,rfl,q⟩:=j;cases i;exact bi ⟨f,g,q⟩
variable {tA oR:TT} {rest:List aD}
def Zuv(t u:TT):TT:=λa H Q=>t a H λc b=>if c=true then u a b Q else Q false b
def tOr(t u:TT):TT:=λa H Q=>t a H λc b=>if c=true then Q true b else u a b Q
def Zux(t:TT):TT:=λa H Q=>t a H λc b=>Q (!c) b
theorem VP(ha:PT X a tA):PW X (.BoolOp .And [a] pos) tA:=by
 intro wh b s d H Q I h;refine isTrue_and #[kH];cases c with
 | true=>exact isTrue_and_nil e
 | false=>exact e
theorem VO(ha:PT X a tA):PW X (.BoolOp .Or [a] pos) tA:=by
 intro wh b s d H Q I h;refine isTrue_or #[kH];cases c with
 | false=>exact isTrue_or_nil e
 | true=>exact e
theorem WK(ha:PT X a tA)(hb:PW X #[qw] oR):PW X #[ne] (Zuv tA oR):=by
 intro j d s e H Q I h;refine isTrue_and #[cN,ha,d,e];rintro c k ⟨f,g,i⟩;cases c with
 | true=>exact hb j d k e f Q g i
 | false=>exact⟨f,g,i⟩
theorem W5(ha:PT X a tA)(hb:PW X (.BoolOp .Or (b::rest) pos) oR):PW X (.BoolOp .Or (a::b::rest) pos) (tOr tA oR):=by
 intro j d s e H Q I h;refine isTrue_or #[cN,ha,d,e];rintro c k ⟨f,g,i⟩;cases c with
 | true=>exact⟨f,g,i⟩
 | false=>exact hb j d k e f Q g i
theorem Tz(ha:PT X a tA):PT X (.UnaryOp .Not a pos) (Zux tA):=by intro b s d H Q I h;exact isTrue_not (ha b s d H (λc e=>Q (!c) e) I h)
def ZsP(ta tb:TE):TE:=λa H Q=>ta a H λx b=>∃c,x=.bl c/\if c=true then tb a b Q else Q #[tA] b
def Ztc(ta:TE):TE:=λa H Q=>ta a H λx b=>∃c,x=.bl c/\Q (.bl (!c)) b
theorem Tx{op}{t:TE}(h:PE X a t):PE X (.BoolOp op [a] pos) t:=λb s c H Q I hw=>BoolOp_one (h b s c H Q I hw)
theorem UK(ha:#[jB])(hb:PE X #[qw] tb):PE X #[ne] (ZsP ta tb):=by
 show#[dP,e,f,Q];refine BoolOp_and #[cN,ha,e,f];rintro v j ⟨x,g,i,k,d⟩;obtain⟨c,rfl,d⟩:=d;cases k;refine bi ?_;cases c with
 | true=>exact hb e j f g Q i d
 | false=>exact⟨.bl false,g,i,rfl,d⟩
theorem ZrZ(ha:#[jB]):PE X (.UnaryOp .Not a pos) (Ztc ta):=by intro d s e H Q I h;refine UnaryOp_ #[cN,ha,d,e];rintro v s1 ⟨x,f,g,i,b⟩;obtain⟨c,rfl,b⟩:=b;cases i;exact not_of (bi ⟨.bl (!c),f,g,rfl,b⟩)
def tIf(t:TT)(ta tb:TE):TE:=λa H Q=>t a H λc b=>if c=true then ta a b Q else tb a b Q
theorem Xz{c:aD}(hc:PT X c tA)(ha:#[jB])(hb:#[pH]):PE X (.IfExp c a b pos) (tIf tA ta tb):=by
 show#[dP,e,f,Q];refine wpAny_IfExp #[cN,hc,e,f];rintro d g ⟨i,j,k⟩;cases d with
 | true=>exact ha e g f i Q j k
 | false=>exact hb e g f i Q j k
universe E
def SqL(K:#[7])(H:Hp)(a:ae)(xs:#[jr]):Prop :=
 Rd H a #[ha] \/
  X3 λ(o:aI) (its:Array aa) (n:Nat)=>K.lookup a=U o/\o.cls=.type "list"/\o.dict=af/\o.data=.seq its n/\its.size<=aq/\ZA xs its.toList
def SqT(K:#[7])(H:Hp)(a:ae)(xs:#[jr]):Prop :=
 Rd H a #[71] \/
  X3 λ(o:aI) (its:Array aa) (n:Nat)=>K.lookup a=U o/\o.cls=.type "tuple"/\o.data=.seq its n/\its.size<=aq/\ZA xs its.toList
noncomputable def Zud:aa->Option V
 | .none=>U .non
 | .bool b=>U (.bl b)
 | .int i _=>U #[p8]
 | .str x _=>U (.str x)
 | .bytes b _=>U (.byt b)
 | .float b _=>U (.flt b)
 | .ref a=>U #[61]
 | .type n=>U (.ty n)
 | _=>af
theorem ZH.abs{x:V}{u:aa}(r:ZH x u):Zud u=U x:=by
 cases x with
 | non=>cases r;rfl
 | bl _=>cases r;rfl
 | int _=>obtain⟨t,rfl⟩:=r;rfl
 | str _=>obtain⟨t,rfl⟩:=r;rfl
 | byt _=>obtain⟨t,rfl⟩:=r;rfl
 | flt _=>obtain⟨t,rfl⟩:=r;rfl
 | ref _=>cases r;rfl
 | ty _=>cases r;rfl
theorem ZH.inj{x y:V}{u:aa}(r:ZH x u)(q:ZH y u):x=y:=Qk (r.abs.symm.trans q.abs)
theorem ZA.inj:∀ {xs ys:List V} {us:List aa},ZA xs us->ZA ys us->xs=ys
 | _,_,_,.nil,.nil=>rfl
 | _,_,_,.cons r t,.cons a t'=>by rw[r.inj a,ZA.inj t t']
section
variable {X:Cx} {ai:List (ae×aI)} {σ:St} {H:Hp} {s:ah} {a:ae} {xs ys:List V}
theorem SqL.of{K:#[7]}(h:H a=U #[ha]):SqL K H a xs:=#[kE]
theorem SqT.of{K:#[7]}(h:H a=U #[71]):SqT K H a xs:=#[kE]
theorem Inv.list(I:#[l])(h:SqL X.K H a xs):∃its:List aa,ZA xs its/\PlainL s.heap a its.toArray/\xs.length<=aq:=by
 rcases h with h|⟨o,its,n,b,c,d,f,hz,r⟩
 ·obtain⟨z,its,n,r,e⟩:=h.ok I.hok;exact⟨its,r,⟨_,n,e,rfl,rfl,rfl⟩,z⟩
 ·refine⟨its.toList,r,⟨o,n,I.kIn a o b,c,d,by simpa using f⟩,?_⟩;show#[j4];lia
theorem Inv.tuple(I:#[l])(h:SqT X.K H a xs):∃its:List aa,ZA xs its/\IsTup s.heap a its.toArray/\xs.length<=aq:=by
 rcases h with h|⟨o,its,n,b,c,d,hz,r⟩
 ·obtain⟨z,its,r,p⟩:=h.ok I.hok;exact⟨its,r,p,z⟩
 ·refine⟨its.toList,r,⟨o,I.kIn a o b,c,n,by simpa using d⟩,?_⟩;show#[j4];lia
theorem Inv.list_inj(I:#[l])(h:SqL X.K H a xs)(h':SqL X.K H a ys):xs=ys:=by
 obtain⟨its,r,⟨o,n,e,_,_,d⟩,_⟩:=I.list h;obtain⟨b,g,⟨o',n',c,_,_,f⟩,_⟩:=I.list h';show#[eX,e,c,c];rw[d]at f;injection f with i _;have:its=b:=by simpa using congrArg Array.toList i
 subst this;exact r.inj g
theorem Inv.tuple_inj(I:#[l])(h:SqT X.K H a xs)(h':SqT X.K H a ys):xs=ys:=by
 obtain⟨its,r,⟨o,e,_,n,d⟩,_⟩:=I.tuple h;obtain⟨b,g,⟨o',c,_,n',f⟩,_⟩:=I.tuple h';show#[eX,e,c,c];rw[d]at f;injection f with i _;have:its=b:=by simpa using congrArg Array.toList i
 subst this;exact r.inj g
universe E
noncomputable abbrev Cx.wish(X:Cx)(E:#[D]):Cx:={ X with xe:=E }
noncomputable abbrev Cx.nox(X:Cx):Cx:=X.wish λ_ _=>False
theorem Cx.Ok.wish{X:Cx}(ok:X.Ok)(E:#[D]):#[r3].Ok :=
 #[66]
theorem Cx.Ok.unwish{X:Cx}{E:#[D]}(ok:#[r3].Ok):X.Ok :=
 #[66]
section
variable {X:Cx} {ai:List (ae×aI)} {σ:St} {H:Hp} {s:ah} {E:aa->ah->Prop}
theorem Inv.wish(I:#[l])(E:#[D]):Inv #[r3] ai σ H s:=⟨I.ok.wish E,I.os,I.bare,I.base,I.loc,I.cell,I.free,I.freeC,I.pin,I.hok,I.len⟩
theorem Inv.unwish(I:Inv #[r3] ai σ H s):Inv X ai σ H s:=⟨I.ok.unwish,I.os,I.bare,I.base,I.loc,I.cell,I.free,I.freeC,I.pin,I.hok,I.len⟩
theorem SP.unwish{D:YH}{f:Flow}{s':ah}(h:SP #[r3] ai D f s'):SP X ai D f s':=by
 cases f with
 | next=>obtain⟨a,b,I,q⟩:=h;exact#[k6]
 | brk=>obtain⟨a,b,I,q⟩:=h;exact#[k6]
 | cont=>obtain⟨a,b,I,q⟩:=h;exact#[k6]
 | ret u=>obtain⟨v,a,b,I,r,q⟩:=h;exact⟨v,a,b,I.unwish,r,q⟩
theorem PSs.nox{st:#[qG]}{t:TS}(h:PSs X.nox st t):PSs X st t:=λai s σ H D I hw =>
 bD (h ai s σ H D (I.wish _) hw) (λ_ _ q=>q.unwish) λ_ _ z=>False.elim z
universe E
section
variable {X:Cx} {st:aJ} {rest:List aJ} {t u:TS} {e:aD} {te:TE} {pos:Pos}
def ZtO:TS:=λD a H=>D.nx a H
def ZtY(t u:TS):TS:=λD a H=>t { D with nx:=u D } a H
theorem ZM:PSs X [] ZtO:=λ_ _ a H _ I h=>wpAny_execs_nil ⟨a,H,I,h⟩
theorem Zg(h1:PS X st t)(h2:PSs X rest u):PSs X (st::rest) (ZtY t u):=by
 show#[dP,a,b,D];refine wpAny_execs_cons (thn (h1 a s b H { D with nx:=u D } I h) λf c q=>?_);cases f with
 | next=>obtain⟨d,e,g,q⟩:=q;exact h2 a c d e D g q
 | ret v=>exact q
 | brk=>exact q
 | cont=>exact q
theorem Zj(h1:PS X st t):PSs X [st] t:=by
 show#[dP,a,b,D];refine wpAny_execs_cons (thn (h1 a s b H D I h) λf s1 q=>?_);cases f with
 | next=>exact wpAny_execs_nil q
 | ret v=>exact q
 | brk=>exact q
 | cont=>exact q
theorem Inv.quiet{a:#[Q]}{b:St}{H:Hp}{s:ah}(I:#[eV,a,b]):interactive X.env=false:=by simp[interactive,I.ok.kind]
def ZtG(te:TE):TS:=λD a H=>te a H λ_ b=>D.nx a b
theorem Yf(he:PE X e te)(b:swapsWith e af pos.line X.env=pure false:=by rfl):PS X (.Expr e pos) (ZtG te):=by intro c s a H D I h;exact wpAny_Expr_any (thn #[ot,he,c,a] λv s1 ⟨x,d,f,r1,g⟩=>⟨a,d,f,g⟩) I.quiet b
def Zup(te:TE):TS:=λD a H=>te a H D.rt
theorem Zn(he:PE X e te):PS X (.Return (U e) pos) (Zup te):=by intro b s a H D I h;exact wpAny_Return_some (thn #[ot,he,b,a] λv s1 ⟨x,c,d,f,g⟩=>⟨x,a,c,d,f,g⟩)
def Zuk(c:TT)(t u:TS):TS:=λD a H=>c a H λb d=>if b=true then t D a d else u D a d
theorem Y0{c:aD}{a b:#[qG]}{g:TT}(hc:PT X c g)(ha:PSs X a t)(hb:PSs X b u):PS X (.If c a b pos) (Zuk g t u):=by
 show#[dP,e,f,D];refine wpAny_If #[cN,hc,e,f];rintro d i ⟨j,k,l⟩;cases d with
 | true=>exact ha e i f j D k l
 | false=>exact hb e i f j D k l
universe E
abbrev TG:=V->St->Hp->(St->Hp->Prop)->Prop
abbrev TGs:=List V->St->Hp->(St->Hp->Prop)->Prop
def PG(X:Cx)(e:aD)(t:TG):Prop :=
 ∀ (a:List (ae×aI)) (s:ah) (b:St) (H:Hp) (v:V) (u:aa) (Q:St->Hp->Prop),Inv X a b H s->ZH v u->t v b H Q ->
  #[ij] (assign e X.env u) (λ_ f=>X2 λc d=>Inv X a c d f/\Q c d) X.xe s
def PGs(X:Cx)(ts:#[lp])(t:TGs):Prop :=
 ∀ (a:List (ae×aI)) (s:ah) (b:St) (H:Hp) (c:List V) (d:List aa) (Q:St->Hp->Prop),Inv X a b H s->ZA c d->t c b H Q ->
  #[ij] (assignInOrder ((cu ts X.env).map #[f6]) d) (λ_ g=>X2 λe f=>Inv X a e f g/\Q e f) X.xe s
abbrev UJ:=V->V->V->Hp->(Hp->Prop)->Prop
def UI(X:Cx)(t:UJ):Prop :=
 ∀ (a:List (ae×aI)) (s:ah) (b:St) (H:Hp) (o i v:V) (c d u:aa) (Q:Hp->Prop),Inv X a b H s->ZH o c->ZH i d->ZH v u->t o i v H Q ->
  #[ij] (setItem c d u) (λ_ f=>∃e,Inv X a b e f/\Q e) X.xe s
abbrev TIp:=#[g6]
def PIp(X:Cx)(op:Operator)(t:TIp):Prop :=
 ∀ (a:List (ae×aI)) (s:ah) (b:St) (H:Hp) (x y:V) (v u:aa) (Q:VK),Inv X a b H s->ZH x v->ZH y u->t x y H Q ->
  #[ij] (inplaceOp op v u) #[hn] X.xe s
section
variable {X:Cx} {pos:Pos}
def UH(i:Nat):TG:=λv a H Q=>Q (a.set i (U v)) H
theorem Zz{i:Nat}{x:aj}(a:#[mb])(b:#[cp])(hx:#[sk])(c:#[Y]:=by first|exact #[kn]|exact #[ti]|assumption):PG X #[cC] (UH i):=by intro ai s σ H v u Q I r h;exact wpAny_assign_Name (V6 I a b hx r (λs' d=>⟨_,H,d,h⟩) c)
def ZtW:TGs:=λvs a H Q=>vs=[]/\Q a H
inductive RGc (vs:#[jr]) (B:V->List V->Prop):Prop where
 | mk (v:V) (r:List V) (e:vs=v::r) (q:B v r)
def Ztw(t:TG)(u:TGs):TGs:=λvs a H Q=>RGc vs λv r=>t v a H λb c=>u r b c Q
theorem YB:PGs X [] ZtW:=by intro ai s a H vs us Q I r h;obtain⟨e,h⟩:=h;subst e;cases r;exact assignInOrder_nil ⟨a,H,I,h⟩
theorem Zp{e:aD}{a:#[lp]}{t:TG}{u:TGs}(h1:PG X e t)(h2:PGs X a u)
  (c:(cu (e::a) X.env).map #[f6]=assign e X.env::(cu a X.env).map #[f6]:=by rfl):PGs X (e::a) (Ztw t u):=by
 show#[nK,b,d,vs];obtain⟨v,vr,f,h⟩:=h;subst f;cases r with
 | cons r g=>rw[c];refine assignInOrder_cons (thn (h1 b s d H _ _ _ I r h) ?_);rintro _ i ⟨j,k,l,m⟩;exact h2 b i j k _ _ Q l g m
inductive RGt (K:#[7]) (H:Hp) (n:Nat) (v:V) (B:List V->Prop):Prop where
 | mk (a:ae) (xs:List V) (e:v=.ref a) (s:SqT K H a xs) (l:xs.length=n) (q:B xs)
def NG(K:#[7])(n:Nat)(t:TGs):TG:=λv a H Q=>RGt K H n v λxs=>t xs a H Q
theorem ZsA{c:#[lp]}{k:Nat}{t:TGs}{n:Nat}(hc:#[81])(h:PGs X c t)
  (i:(cu c X.env).length=n:=by rfl) (j:(cu c X.env).findIdx? #[lW]=af:=by rfl):PG X (.Tuple c k pos) (NG X.K n t):=by
 intro d s f H v u Q I r hw;obtain⟨a,l,m,p,q,hw⟩:=hw;subst m;cases r;show#[ei,g,w,hz,I.tuple,p];refine assign_Tuple_tuple #[gj] w (by simp[i,<- q,g.length]) j λx y=>?_;have z:Inv X d f H { s with heap:=x }:=I.kept (t':=#[tj]) λb o e=>y b o #[lH] e;exact h d _ f H l _ Q z #[cG,g] hw
def ZtX(to b:TE)(t:UJ):TG:=λv a H Q=>to a H λo c=>b a c λi d=>t o i v d λe=>Q a e
theorem WJ{o i:aD}{to e:TE}{t:UJ}(f:PE X o to)(g:PE X i e)(j:UI X t)
  (ha:∀v,assign (.Subscript o i pos) X.env v=(do
   let a <- holding [v] (eval o X.env);let b <- holding [v,a] (eval i X.env)
   standAt pos
   holding [v,a,b] (setItem a b v)
   release [v,a,b] []):=by intro _;rfl):PG X (.Subscript o i pos) (ZtX to e t):=by
 intro d s c H v u Q I r h;rw[ha];refine ak (bf #[cN,f,d,c]);rintro a k ⟨x,l,m,n,p⟩;refine ak (bf (thn (g d k c l _ m p) ?_));rintro b q ⟨y,w,z,A,B⟩;refine ak (bg (ak (bf (thn (j d q c w x y v a b u _ z n A r B) ?_))));rintro _ s3 ⟨C,D,q3⟩;exact wpAny_release ⟨c,C,D,q3⟩
def RW(b:TE)(g:TG):TS:=λD a H=>b a H λx c=>g x a c D.nx
theorem Yv{a e:aD}{b:TE}{g:TG}(he:PE X e b)(f:PG X a g)(i:swapsWithSole [a] e pos.line X.env=pure false:=by rfl)(hw:swappedStores [a] e X.env=pure af:=by rfl)
  (j:(cu [a] X.env).map #[f6]=[assign a X.env]:=by rfl):PS X (.Assign [a] e pos) (RW b g):=by
 show#[dP,c,d,D];refine wpAny_Assign_stores #[cN,he,c,d] i hw;rintro v k ⟨x,l,m,n,o⟩;rw[j];exact thn (f c k d l x v _ m n o) λ_ s2 q=>q
theorem ZB{i:Nat}{x:aj}{e:aD}{a:TE}{b:Pos}(c:#[mb])(d:#[cp])(hx:#[sk])(he:PE X e a)(f:swapsWith e (U (.Name x b)) pos.line X.env=pure false:=by rfl)(g:#[Y]:=by first|exact #[kn]|exact #[ti]|assumption) :
  PS X (.Assign [.Name x b] e pos) (RW a (UH i)):=by
 show#[dP,j,k,D];refine wpAny_Assign_Name #[cN,he,j,k] f;rintro v s1 ⟨y,l,m,n,o⟩;exact V6 m c d hx n (λs2 p=>⟨_,l,p,o⟩) g
def Zuq(i j:Nat)(b:TA):TS:=λD a H=>b a H λvs c=>X2 λv w=>vs=[v,w]/\D.nx ((a.set i (U v)).set j (U w)) c
theorem Zsb{i j:Nat}{x y:aj}{a b:aD}{n:TA}{g k pt:Pos}{kt k2 l}(hc:#[81])(r:#[mb])(B:#[cp])(C:X.N[j]? = U y)(E:i≠j)
  (hx:#[dR,x]) (hy:#[dR,y]) (ha:PA X [a,b] n)
  (hw:swappedStores #[gm] #[mr] X.env=pure (U [x,y]))
  (F:swapsWithSole #[gm] #[mr] pos.line X.env=pure false:=by rfl) :
  PS X (.Assign #[gm] #[mr] pos) (Zuq i j n):=by
 show#[dP,t,u,D];show#[q5];rw[F];show#[gJ];rw[if_neg #[6]];refine ak (Tuple_ (thn (ha _ t s u H _ I h) ?_));rintro G c ⟨vs,z,J,K,m⟩;obtain⟨v,w,L,m⟩:=m;subst L;obtain⟨d,f,rfl,M,N⟩:X2 λd f=>G=[d,f]/\ZH v d/\ZH w f:=by
  cases K with
  | cons p q =>
   cases q with
   | cons O P=>cases P;exact⟨_,_,rfl,p,O⟩
 refine bM ?_ #[w];have Q:Inv X t u z { c with heap:=c.heap.push { cls:=.type "tuple",data:=.seq [d,f].toArray } }:=#[n9,J.kept];rw[hw];show#[gJ];show #[ij] (do rule "assign.swapped-stores";let items <- unpackItems (.ref c.heap.objs.size) 2 af;assignInOrder #[h9] items.reverse;pure Flow.next) _ _ _;refine ak (wpAny_rule (ak (unpackItems_tuple (items:=#[d,f]) #[gj] (IsTup.new c.heap _) λh' R=>?_)));have S:=Q.kept (h':=h') (t':=c.toks) λb o e=>R b o #[lH] e;show aw _ _ (assignInOrder #[h9] [f,d] >>= λ_=>pure Flow.next) _ _ _;refine ak (assignInOrder_cons (wpAny_bindName (V6 S r C (.inl hy) N (λs2 T=>?_) (.inr hy))));refine assignInOrder_cons (wpAny_bindName (V6 T r B (.inl hx) M (λs3 A=>assignInOrder_nil (au ?_)) (.inr hx)));rw[List.set_comm _ _ (Ne.symm E)]at A;exact⟨_,z,A,m⟩
def ZtV(i:Nat)(b:TE)(c:TIp):TS:=λD a H=>∃x,a[i]? = U (U x)/\b a H λy d=>c x y d λz e=>D.nx (a.set i (U z)) e
theorem NF{i:Nat}{x:aj}{e:aD}{b:TE}{op:Operator}{d:TIp}{j:Pos}(n:#[mb])(f:#[cp])(hx:#[sk])(he:PE X e b)(o:PIp X op d)(p:#[Y]:=by first|exact #[kn]|exact #[ti]|assumption) :
  PS X (.AugAssign (.Name x j) op e pos) (ZtV i b d):=by
 show#[dP,a,g,D];show#[e9,v,q,h,h];show#[e9,m,t,A,I.loc];have B:#[fs,Vis]:=by rcases hx with k|k;exact .inl k;exact .inr (.inl k)
 obtain⟨u,r,l⟩:=A i x v f q B;refine wpAny_AugAssign_Name ?_;have go:#[ij] #[dI,e] (λw C=>#[ij] (inplaceOp op u w) (λr E=>#[ij] (storeName X.env x r) (λ_=>SP X a D .next) X.xe E) X.xe C) X.xe s:=by refine thn #[ot,he,a,g] ?_;rintro w F ⟨y,G,J,K,L⟩;refine thn (o a F g G v y u w _ J r K L) ?_;rintro z s2 ⟨zv,M,N,O,P⟩;exact V6 N n f hx O (λs3 Q=>⟨_,M,Q,P⟩) p
 rcases l with⟨hk,R⟩|⟨hk,c,S,T⟩
 ·exact wpAny_loadName_local I.ok.kind hk t R go
 ·rcases hk with hk|hk
  ·exact wpAny_loadName_cell I.ok.kind hk S T go
  ·rcases hx with k|k
   ·show#[hc]
   ·show#[hc]
def ipI(f:Int->Int->Int):TIp:=λx y H Q=>X2 λi j=>x=.int i/\y=.int j/\Q (.int (f i j)) H
theorem NE:PIp X .Add (ipI λi j=>i+j):=by intro ai s σ H x y v u Q I a b h;obtain⟨i,j,c,d,q⟩:=h;subst c;subst d;obtain⟨t,rfl⟩:=a;obtain⟨t',rfl⟩:=b;exact iadd_int #[oI,_,q]
universe E
section
variable {X:Cx} {pos:Pos}
def ZrA(c:TT)(h:TS):TS:=λD a H=>∃W:Nat->St->Hp->Prop,(∃m,W m a H)/\∀m a H,W m a H ->
 c a H λb d=>if b=true then ∃N:St->Hp->Prop,(∀e f,N e f->∃g,g<m/\W g e f)/\h { D with nx:=N,ct:=N,bk:=D.nx } a d else D.nx a d
theorem UG{c:aD}{q:#[qG]}{r:TT}{t:TS}(u:ba #[G] X.A X.env X.xe)(hc:PT X c r)(hb:PSs X q t):PS X (.While c q [] pos) (ZrA r t):=by
 show#[dP,j,C,D];obtain⟨W,⟨E,F⟩,a⟩:=h;refine wpAny_While (codeAny_whileLoop (λn G=>X2 λw x=>Inv X j w x G/\W n w x) ?_ E ⟨C,H,I,F⟩);rintro n J ⟨g,y,K,L⟩;refine bJ u (thn (hc j J g y _ K (a n g y L)) ?_);rintro b M ⟨z,A,i⟩;cases b with
 | true =>
  show#[e9,N,B,i,i];show#[jc];refine bJ u (thn (hb j M g z _ A i) λf s3 q3=>?_);cases f with
  | next=>obtain⟨d,e,k,l⟩:=q3;show#[kk]
  | cont=>obtain⟨d,e,k,l⟩:=q3;show#[kk]
  | brk=>exact q3
  | ret v=>exact q3
 | false=>rw[if_neg Qz];exact wpAny_execs_nil ⟨g,z,A,i⟩
universe E
structure It where
 go:Nat->Hp->Prop
 yld:Nat->Hp->V->Hp->Prop
 stop:Nat->Hp->Prop
def Xy(X:Cx)(a:#[Q])(H:Hp)(b:ae):Prop :=
 H b=af/\b≠X.env.locals/\b ∉ X.fs/\(b∈X.ex\/X.s₀.heap.objs.size<=b)/\(∀x c,X.env.cells.lookup x=U c->c≠b)/\∀p∈X.pn++a,p.1≠b
theorem Inv.fpOk{X:Cx}{a:#[Q]}{f:St}{H d:Hp}{s:ah}{b:ae}(I:#[eV,a,f])(hb:s.heap.objs.size<=b)(g:d b=af):Xy X a d b:=by
 refine⟨g,QaH (QH I.lt hb),I.nofs hb,.inr (QL I.sz hb),λx c e z=>?_,λp h z=>?_⟩
 ·obtain⟨v,q⟩:=#[rd];exact absurd (QH q.lt #[cL,z,hb]) (Qav _)
 ·exact absurd (QH (Qx (I.pin p h).1) #[cL,z,hb]) (Qav _)
structure Wp (P:ar) (w:aA) (K:#[7]) (tg:aD) (J:It) (fp:#[hB]) (it:ae) (tn:Nat->aE->Prop):Prop where
 mem:it∈fp
 obj:∀i h,tn i h->∀b∈fp,∃o,h.get? b=U o/\∀v,o.data≠.cell v
 keep:∀i h h',tn i h->(∀b∈fp,∀o,h.get? b=U o->h'.get? b=U o)->tn i h'
 item:∀ (X:Cx),X.prog=P->X.w=w->X.K=K->X.calm=true->∀ (i:Nat) (ai:List (ae×aI)) (s:ah) (σ:St) (H:Hp) (E:aa->ah->Prop),Inv X ai σ H s->#[s0]->tn i s.heap->J.go i H ->
  aw #[rh] X.A (pyNext #[mm]) (λr s1=>∃u,r=U u /\
   aw #[rh] X.A (bx tg #[mm] u) (λ_ s2=>X2 λx H'=>Inv X ai σ H' s2/\ZH x u/\J.yld i H x H'/\tn (i+1) s2.heap/\∀b∈fp,H' b=af) E s1) E s
 done:∀ (X:Cx),X.prog=P->X.w=w->X.K=K->X.calm=true->∀ (i:Nat) (ai:List (ae×aI)) (s:ah) (σ:St) (H:Hp) (E:aa->ah->Prop),Inv X ai σ H s->#[s0]->tn i s.heap->J.stop i H ->
  aw #[rh] X.A (pyNext #[mm]) (λr s1=>r=af/\Inv X ai σ H s1) E s
 self:∀ (A:az) (i:Nat) (s:ah) (Q:aa->ah->Prop) (E:aa->ah->Prop),tn i s.heap->Q #[mm] s->aw #[rh] A (pyIter #[mm]) Q E s
abbrev TI:=St->Hp->(It->Hp->Prop)->Prop
def PIE(X:Cx)(c:#[Q])(g:St)(h:aD)(R:It->Hp->Prop)(i:aa)(d:ah):Prop :=
 X5 λ(e:ae) (fp:List ae) (f:Nat->aE->Prop) (J:It) (a:Hp)=>i=.ref e/\Inv X c g a d/\Wp X.prog X.w X.K h J fp e f/\f 0 d.heap/\(∀b∈fp,Xy X c a b)/\R J a
def PI(X:Cx)(c iter:aD)(d:TI):Prop :=
 ∀ (b:List (ae×aI)) (s:ah) (a:St) (H:Hp) (R:It->Hp->Prop),Inv X b a H s->d a H R ->
  #[ij] #[dI,iter] (λv e=>#[ij] (pyIter v) (PIE X b a c R) X.xe e) X.xe s
theorem Vr{M:Model}{A:az}{E:#[D]}{s:ah}{b:aD}{it:ae}{u:aa}{o:aI}{n:String}{vs:Array aa}{Q:#[pu]}(c:s.heap.get? it=U o)(hc:o.cls=.type n)(hd:o.data=.fields vs)
  (d:["enumerate", "zip", "dict_itemiterator", "dict_reverseitemiterator", "odict_iterator", "itertools.zip_longest", "itertools.pairwise"].contains n=false) (a:Q () s):aw M A (bx b #[mm] u) Q E s:=by
 unfold bx;cases b<;>first
  | exact au a
  | (cases u<;>first
    | exact au a
    | (refine ak (wpAny_load c ?_);rw[hc,hd];show aw M A (if (["enumerate", "zip", "dict_itemiterator", "dict_reverseitemiterator", "odict_iterator", "itertools.zip_longest", "itertools.pairwise"].contains n&&vs[0]? == U (rawInt _))=true then _ else _) Q E s;rw[if_neg (by intro h;rw[d,Bool.false_and]at h;cases h)];exact au a))
noncomputable def Itl(K:#[7])(a:ae):It :=
 ⟨λi H=>X2 λb x=>SqL K H a b/\b[i]? = U x,λi H x c=>c=H/\∀b,SqL K H a b->b[i]? = U x,λi H=>∃b,SqL K H a b/\b.length<=i⟩
noncomputable def Itt(K:#[7])(a:ae):It :=
 ⟨λi H=>X2 λb x=>SqT K H a b/\b[i]? = U x,λi H x c=>c=H/\∀b,SqT K H a b->b[i]? = U x,λi H=>∃b,SqT K H a b/\b.length<=i⟩
noncomputable def Itr(lo:Int)(n:Nat):It:=⟨λi _=>i<n,λi H x a=>a=H/\x=.int (lo+i),λi _=>n<=i⟩
theorem ZmX{P:ar}{w:aA}{K:#[7]}{M:aD}(a it:ae):Wp P w K M #[kN] [it] it (λi h=>h.IsListIter it a i) where
 mem:=by simp
 obj:=λi h st b f=>by
  have e:b=it:=by simpa using f
  show#[S]
 keep:=#[jW]
 item:=by intro X m hw n F i G s J H E I j st q;show#[ss];show#[ei,t,p,O,I.list,l];show#[nB,u,Q,R,t.get,r];show#[fX];refine wpAny_pyNext_list_item st p.isList (x:=u) #[cG,Q] λg L T=>?_;show#[ai];exact⟨u,rfl,Vr (s:=#[mU]) e c d #[6] ⟨x,H,U,R,⟨rfl,λys V=>by rw[I.list_inj V l];exact r⟩,L,λb f=>(j b f).1⟩⟩
 done:=by intro X m hw n F i G s J H E I j st q;subst m hw n;show#[e9,N,l,r,q];show#[ei,t,p,O,I.list,l];show#[fX];have hl:=t.length;exact wpAny_pyNext_list_end (I.ok.hd F) st p.isList (by simp;lia) λg W=>⟨rfl,I.turned (t':=#[tj]) #[eP,f,W] y A B C D⟩
 self:=#[fj,wpAny_pyIter_listiter]
theorem Zj4{P:ar}{w:aA}{K:#[7]}{M:aD}(a it:ae):Wp P w K M (Itt K a) [it] it (λi h=>h.IsTupleIter it a i) where
 mem:=by simp
 obj:=λi h st b f=>by
  have e:b=it:=by simpa using f
  show#[S]
 keep:=#[jW]
 item:=by intro X m hw n F i G s J H E I j st q;show#[ss];show#[ei,t,p,O,I.tuple,l];show#[nB,u,Q,R,t.get,r];show#[fX];refine wpAny_pyNext_tuple_item st #[ju] (x:=u) #[cG,Q] λg L T=>?_;show#[ai];exact⟨u,rfl,Vr (s:=#[mU]) e c d #[6] ⟨x,H,U,R,⟨rfl,λys V=>by rw[I.tuple_inj V l];exact r⟩,L,λb f=>(j b f).1⟩⟩
 done:=by intro X m hw n F i G s J H E I j st q;subst m hw n;show#[e9,N,l,r,q];show#[ei,t,p,O,I.tuple,l];show#[fX];have hl:=t.length;exact wpAny_pyNext_tuple_end (I.ok.hd F) st #[ju] (by simp;lia) λg W=>⟨rfl,I.turned (t':=#[tj]) #[eP,f,W] y A B C D⟩
 self:=#[fj,wpAny_pyIter_tupleiter]
theorem ZkG{P:ar}{w:aA}{K:#[7]}{B:aD}(it:ae)(lo:Int)(n:Nat):Wp P w K B #[sc] [it] it (λi h=>IsRangeIter h it (lo+(i:Nat)*1) ((n:Int)-(i:Nat)) 1) where
 mem:=by simp
 obj:=λi h st b a=>by
  have e:b=it:=by simpa using a
  subst e;exact⟨_,st,λv z=>by have C:Data.fields _=Data.cell v:=z;cases C⟩
 keep:=λi h c st k=>k it #[4] _ st
 item:=by intro X f hw g j i x s y H E I d st l;show#[kX];have W:=Walks.range (prog:=X.prog) (w:=X.w) (I.ok.hd j) it lo 1 n;refine W.item i s _ _ l st λv c tk F A kk=>?_;show#[dd,t,F];have G:Inv X x y H { s with heap:=c,toks:=tk }:=I.turned (λb o a e=>kk b o #[cG,a] e) m p q r u;refine⟨_,rfl,Vr (s:={ s with heap:=c,toks:=tk }) (n := "range_iterator") A rfl rfl #[6] ⟨.int (lo+i),H,G,⟨t,?_⟩,#[aR],A,λb a=>(d b a).1⟩⟩;rw[Int.mul_one]
 done:=by intro X f hw g j i x s y H E I d st l;show#[kX];exact wpAny_pyNext_range_end (I.ok.hd j) st (by have:n<=i:=l;lia) λc J=>⟨rfl,I.turned (t':=#[tj]) #[eP,a,J] m p q r u⟩
 self:=#[fj,wpAny_pyIter_rangeiter]
section
variable {X:Cx} {tg:aD}
def ND(K:#[7])(c:TE):TI:=λd H R=>c d H λx b=>∃a,x=.ref a/\(∃xs,SqL K b a xs)/\R #[kN] b
def NC(K:#[7])(c:TE):TI:=λd H R=>c d H λx b=>∃a,x=.ref a/\(∃xs,SqT K b a xs)/\R (Itt K a) b
theorem Zqi{l:aD}{f:TE}(hl:PE X l f):PI X tg l (ND X.K f):=by
 show#[ah];show#[ei,rv,p,hz,d.list,n];refine wpAny_pyIter_list p.isList ?_;refine⟨c.heap.objs.size,[c.heap.objs.size],_,_,j,rfl,d.kept (t':=c.toks) λb o e=>Qi _ e,ZmX a _,#[96],λb r=>?_,q⟩;have e:b=c.heap.objs.size:=by simpa using r
 show#[la]
theorem Zrq{l:aD}{f:TE}(hl:PE X l f):PI X tg l (NC X.K f):=by
 show#[ah];show#[ei,rv,p,hz,d.tuple,n];refine wpAny_pyIter_tuple (show c.heap.IsTuple a its.toArray from p) ?_;refine⟨c.heap.objs.size,[c.heap.objs.size],_,_,j,rfl,d.kept (t':=c.toks) λb o e=>Qi _ e,Zj4 a _,#[96],λb r=>?_,q⟩;have e:b=c.heap.objs.size:=by simpa using r
 show#[la]
theorem NA{c:#[Q]}{d:St}{H:Hp}{s:ah}{R:It->Hp->Prop}{E:#[D]}{lo a:Int}{t u v:Tok}{tk:Nat}(I:#[eV,c,d])(h1:-#[rn]<=lo)(h2:lo<2 ^ 62)(h3:-#[rn]<=a)(g:a<2 ^ 62)
  (q:R (Itr lo (a-lo).toNat) H):#[ij] (pyIter #[bf]) (PIE X c d tg R) E { s with heap:=s.heap.push { cls:=.type "range",data:=.fields #[.int lo t,.int a u,.int 1 v] },toks:=tk }:=by
 refine wpAny_pyIter_range (IsRange.new ..) (small_one h1 h2 h3 g) ?_;have f:Inv X c d H { s with heap:=s.heap.push { cls:=.type "range",data:=.fields #[.int lo t,.int a u,.int 1 v] },toks:=tk }:=I.kept λb o e=>Qi _ e;refine⟨#[44].objs.size,[#[44].objs.size],_,_,H,rfl,
  f.kept (t':=tk) λb o e=>Qi _ e,ZkG _ lo (a-lo).toNat,?_,λb h=>?_,q⟩
 ·have i:lo+#[eb,0]*1=lo:=by simp
  have j:#[oO,a]-#[eb,0]=aT.Range.rangeSize lo a 1:=by rw[rangeSize_one];split<;>lia
  show IsRangeIter _ _ (lo+#[eb,0]*1) (#[oO,a]-#[eb,0]) 1;rw[i,j];exact QB _ rfl
 ·have e:b=#[44].objs.size:=by simpa using h
  subst e;exact f.fpOk #[gp] (f.hok.fresh #[gp])
def Ztg(a:TA):TI:=λb H R=>a b H λvs c=>∃j:Int,vs=[.int j] /\ -#[rn]<=j/\j<2 ^ 62/\R (Itr 0 j.toNat) c
def Ztk(a:TA):TI:=λb H R=>a b H λvs c=>X2 λi j:Int=>vs=#[rB]/\(-#[rn]<=i/\i<2 ^ 62 /\ -#[rn]<=j/\j<2 ^ 62)/\R (Itr i (j-i).toNat) c
theorem Vq{a:aD}{c:TA}{p pos:Pos}(d:Gl X "range")(hm:X.mg "range" = af)(ha:PA X [a] c)(f:#[ev,a]:=by rfl):PI X tg (.Call (.Name "range" p) [a] [] pos) (Ztg c):=by
 show#[dP,g,i,R];refine Call_ (VR I d hm boot_range (Qan (thn #[eQ,g,i] ?_) f rfl));rintro us s1 ⟨vs,H1,k,l,b⟩;obtain⟨j,e,b,m,q⟩:=b;subst e;cases l with
 | cons r n=>cases n;show#[dd,t,r];exact call_range_1 (NA k #[2] #[2] b m #[cG,q])
theorem VN{a b:aD}{f:TA}{p pos:Pos}(k:Gl X "range")(hm:X.mg "range" = af)(ha:PA X [a,b] f)(l:aF [a,b] X.env=[#[eG,a],#[eG,b]]:=by rfl)(g:#[ev,b]:=by rfl) :
  PI X tg (.Call (.Name "range" p) [a,b] [] pos) (Ztk f):=by
 show#[dP,m,n,R];refine Call_ (VR I k hm boot_range (Qan (thn #[eQ,m,n] ?_) (by rw[l,g]) (by rw[g];rfl)));rintro us s1 ⟨vs,H1,o,u,c⟩;obtain⟨i,j,e,⟨c,v,q3,w⟩,q⟩:=c;subst e;cases u with
 | cons r d =>
  cases d with
  | cons x d=>cases d;show#[dd,t,r];show#[dd,t',x];exact call_range_2 (NA o c v q3 w q)
def Zum(e:TI)(g:TG)(f:TS):TS:=λD a H=>e a H λJ h=>∃W:Nat->Nat->St->Hp->Prop,(∃m,W 0 m a h)/\∀i m a H,W i m a H ->
 (J.stop i H/\D.nx a H)\/(J.go i H/\∃N:St->Hp->Prop,#[eO,c,b,d]/\∀x b,J.yld i H x b->g x a b λj k=>f { D with nx:=N,ct:=N,bk:=D.nx } j k)
noncomputable def W0(fp:#[hB])(h:aE):List (ae×aI):=fp.filterMap λb=>(h.get? b).map λo=>(b,o)
theorem V5{fp:#[hB]}{h:aE}{b:ae}{o:aI}(hb:b∈fp)(e:h.get? b=U o):(b,o)∈W0 fp h:=List.mem_filterMap.mpr ⟨b,hb,by rw[e];rfl⟩
theorem Zmw{fp:#[hB]}{h:aE}{p:ae×aI}(a:p∈W0 fp h):p.1∈fp/\h.get? p.1=U p.2:=by
 show#[nB,b,c,e,List.mem_filterMap.mp,a];cases q:h.get? b with
 | none=>rw[q]at e;cases e
 | some o=>rw[q]at e;have d:(b,o)=p:=Qk e;subst d;exact⟨c,q⟩
theorem Inv.pinned{a:#[Q]}{c:St}{H:Hp}{s:ah}{fp:#[hB]}(I:#[eV,a,c])(h:#[nF,a,H])(i:∀b∈fp,∃o,s.heap.get? b=U o/\∀v,o.data≠.cell v):Inv X (a++W0 fp s.heap) c H s :=
 I.pins_of λp j=>(Qg.mp j).elim (λz=>I.pin p (Qn _ z)) λz=>by obtain⟨f,e⟩:=Zmw z;obtain⟨k,l,m,_⟩:=h p.1 f;obtain⟨o,g,d⟩:=i p.1 f;show#[eX,e,g,g];exact⟨e,k,l,m,d⟩
theorem Inv.unpinned{a pl:#[Q]}{b:St}{H:Hp}{s:ah}(I:Inv X (a++pl) b H s):Inv X a b H s:=I.pins_of λp c=>I.pin p (Qn _ (Qr _ c))
theorem Xx{iter:aD}{G:#[qG]}{K:TI}{g:TG}{L:TS}{pos:Pos}(q:ba #[G] X.A X.env X.xe)(hc:#[81])(hi:PI X tg iter K)(hg:PG X tg g)(hb:PSs X G L)
  (hs:#[ak]:=by intro _;rfl):PS X (.For tg iter G [] pos) (Zum K g L):=by
 show#[dP,p,M,D];refine wpAny_For #[eC,p,M,s2] hs;obtain⟨it,fp,O,J,H2,e,I2,T,bX,P,W,⟨m0,w0⟩,t⟩:=h2;subst e;have B:∀ {k:Hp},#[fg,k]->∀b∈fp,Xy X p k b:=λhn b hb=>⟨hn b hb,(P b hb).2⟩;refine codeAny_forLoop_any (λn Q=>X3 λi w k=>Inv X p w k Q/\O i Q.heap/\#[fg,k]/\W i n w k) ?_ m0 ⟨0,M,H2,I2,bX,λb hb=>(P b hb).1,w0⟩;rintro n R ⟨i,y,A,S,U,V,w3⟩;rcases t i n y A w3 with⟨stop,qn⟩|⟨go,N,hN,step⟩
 ·refine bJ q (thn (T.done X rfl rfl rfl hc i p R y A X.xe S (B V) U stop) ?_);rintro r s4 ⟨C,I4⟩;subst C;exact wpAny_execs_nil ⟨y,A,I4,qn⟩
 ·refine bJ q (thn (T.item X rfl rfl rfl hc i p R y A X.xe S (B V) U go) ?_);rintro r s4 ⟨u,C,h4⟩;subst C;refine bJ q (thn h4 ?_);rintro _ Y ⟨x,Z,I5,r5,y5,E,kB⟩;have y8:=I5.pinned (B kB) (T.obj _ _ E);refine bJ q (thn (hg _ Y y Z x u _ y8 r5 (step x Z y5)) ?_);rintro _ s6 ⟨y9,H6,I6,q6⟩;refine bJ q (thn (hb _ s6 y9 H6 _ I6 q6) λf F l=>?_);have again:∀ {a:St} {c:Hp},Inv X (p++W0 fp Y.heap) a c F->N a c->∃m,m<n/\X3 λi w k=>Inv X p w k F/\O i F.heap/\#[fg,k]/\W i m w k:=λ{a c} j z=>by obtain⟨m',hm,w7⟩:=hN a c z;refine⟨m',hm,i+1,a,c,j.unpinned,T.keep _ _ _ E λb hb o e=>(j.pin (b,o) #[tr]).1,λb hb=>?_,w7⟩;obtain⟨o,e,d⟩:=T.obj _ _ E b hb;exact(j.pin (b,o) #[tr]).2.1
  cases f with
  | next=>obtain⟨a,c,j,z⟩:=l;exact again j z
  | cont=>obtain⟨a,c,j,z⟩:=l;exact again j z
  | brk=>obtain⟨a,c,j,l⟩:=l;exact⟨a,c,j.unpinned,l⟩
  | ret v=>obtain⟨x7,a,c,j,r7,l⟩:=l;exact⟨x7,a,c,j.unpinned,r7,l⟩
universe E
theorem RV{K:#[7]}{a:ae}{xs:#[jr]}{g:TG}{j:TS}{D:YH}{b:St}{H:Hp}(Pv:#[pI])(h0:Pv 0 b H)(hl:∀i b H,i<=xs.length->Pv i b H->SqL K H a xs)
  (n:∀i x b H,xs[i]? = U x->Pv i b H->g x b H λd f=>j { D with nx:=Pv (i+1),ct:=Pv (i+1),bk:=D.nx } d f) (hd:#[l0]) :
  ∃W:Nat->Nat->St->Hp->Prop,(∃m,W 0 m b H)/\∀i m b H,W i m b H ->
   (#[kN].stop i H/\D.nx b H)\/(#[kN].go i H/\∃N:St->Hp->Prop,#[eO,h,c,k]/\∀x c,#[kN].yld i H x c->g x b c λd f=>j { D with nx:=N,ct:=N,bk:=D.nx } d f):=by
 refine#[gH];rintro i m b H ⟨rfl,o,p⟩;have q:=hl i b H o p;by_cases l:i<xs.length
 ·refine .inr ⟨⟨xs,xs[i],q,by simp[l]⟩,Pv (i+1),λh c r=>⟨xs.length-(i+1),by lia,rfl,l,r⟩,λx c y=>?_⟩;show#[c5,e,y,y];subst e;exact n i x b _ (y xs q) p
 ·have e:#[hv]:=by lia
  subst e;exact .inl ⟨⟨xs,q,Qh _⟩,hd b H p⟩
theorem VM{lo:Int}{n:Nat}{g:TG}{j:TS}{D:YH}{a:St}{H:Hp}(Pv:#[pI])(h0:Pv 0 a H)
  (l:∀i a H,i<n->Pv i a H->g #[oA,lo,i] a H λc d=>j { D with nx:=Pv (i+1),ct:=Pv (i+1),bk:=D.nx } c d) (hd:∀a H,Pv n a H->D.nx a H) :
  ∃W:Nat->Nat->St->Hp->Prop,(∃m,W 0 m a H)/\∀i m a H,W i m a H ->
   (#[sc].stop i H/\D.nx a H)\/(#[sc].go i H/\∃N:St->Hp->Prop,#[eO,f,b,k]/\∀x b,#[sc].yld i H x b->g x a b λc d=>j { D with nx:=N,ct:=N,bk:=D.nx } c d):=by
 refine⟨λi m a H=>m=n-i/\i<=n/\Pv i a H,#[oX,n],?_⟩;rintro i m a H ⟨rfl,hi,p⟩;by_cases h:i<n
 ·refine .inr ⟨h,Pv (i+1),λf b o=>⟨n-(i+1),by lia,rfl,h,o⟩,λx b y=>?_⟩;show#[c5,e,y,y];subst e y;exact l i a _ h p
 ·have e:i=n:=by lia
  subst e;exact .inl ⟨Qh _,hd a H p⟩
abbrev R2:=#[g6]
def OpR(X:Cx)(f:#[jA])(r:R2):Prop :=
 ∀ (a:List (ae×aI)) (s:ah) (b:St) (H:Hp) (x y:V) (v u:aa) (Q:VK),Inv X a b H s->ZH x v->ZH y u->r x y H Q ->
  #[ij] (f v u) #[hn] X.xe s
def UnR(X:Cx)(f:aa->Sem aa)(r:#[rF]):Prop :=
 ∀ (a:List (ae×aI)) (s:ah) (b:St) (H:Hp) (x:V) (v:aa) (Q:VK),Inv X a b H s->ZH x v->r x H Q ->
  #[ij] (f v) #[hn] X.xe s
def YT(X:Cx)(f:aa)(r:List V->Hp->VK->Prop):Prop :=
 ∀ (a:List (ae×aI)) (s:ah) (b:St) (H:Hp) (c:List V) (d:List aa) (Q:VK),Inv X a b H s->ZA c d->r c H Q ->
  #[ij] (call f d) #[hn] X.xe s
def tOp(r:R2)(b c:TE):TE:=λa H Q=>b a H λx d=>c a d λy e=>r x y e Q
def tUn(r:#[rF])(a:TE):TE:=λb H Q=>a b H λx c=>r x c Q
inductive RI2 (x y:V) (B:#[mG]):Prop where
 | mk (i j:Int) (a:x=.int i) (b:y=.int j) (q:B i j)
inductive RI3 (x y:V) (C B:#[mG]):Prop where
 | mk (i j:Int) (a:x=.int i) (b:y=.int j) (c:C i j) (q:B i j)
def rI(C:#[mG])(g:Int->Int->V):R2:=λx y H Q=>RI3 x y C (λi j=>Q (g i j) H)
def rI0(g:Int->Int->V):R2:=λx y H Q=>RI2 x y (λi j=>Q (g i j) H)
def rU(g:Int->V):V->Hp->VK->Prop:=λx H Q=>EA (λi=>x=.int i) (λi=>Q (g i) H)
section
variable {X:Cx} {a b c:aD} {ta tb tc:TE} {pos:Pos}
theorem RU(ha:#[jB])(hb:#[pH]){e:#[Q]}{s:ah}{c:St}{H:Hp}{R:V->V->Hp->Prop}(I:#[eV,e,c])
  (h:ta c H λx i=>tb c i λy d=>R x y d) {Q:#[D]} {f:#[jA]}
  (j:∀v u g x y d,Inv X e c d g->ZH x v->ZH y u->R x y d->#[ij] (f v u) Q X.xe g) :
  #[ij] #[dI,a] (λv k=>#[ij] #[dI,b] (λu l=>#[ij] (f v u) Q X.xe l) X.xe k) X.xe s:=by
 refine thn #[ot,ha,e,c] ?_;rintro v m ⟨x,i,n,o,p⟩;refine thn (hb e m c i _ n p) ?_;rintro u g ⟨y,d,q,r,t⟩;exact j v u g x y d q o r t
theorem ZJ{op:Operator}{r:R2}(c:OpR X (binaryOp op) r)(ha:#[jB])(hb:#[pH]):PE X (.BinOp a op b pos) #[pQ]:=by intro d s e H Q I h;exact wpAny_BinOp #[gA]
theorem Tw{op:UnaryOp}{r:#[rF]}(d:UnR X (unaryOp op) r)(ha:#[jB]):PE X (.UnaryOp op a pos) (tUn r ta):=by intro b s c H Q I h;exact UnaryOp_ (thn #[ot,ha,b,c] λv e ⟨x,f,g,i,j⟩=>d b e c f x v Q g i j)
theorem opI{f:#[jA]}{C:#[mG]}{g:Int->Int->Int}
  (rule:∀ (i j:Int) (t u:Tok) (s:ah) (Q:aa->ah->Prop) (E:aa->ah->Prop),C i j->Q (.int (g i j) s.toks) { s with toks:=s.toks+1 }->#[ij] #[lB] Q E s) :
  OpR X f (rI C λi j=>.int (g i j)):=by
 show#[bi];obtain⟨i,j,rfl,rfl,c,q⟩:=h;show#[dd,t,a];show#[dd,d,b];exact rule i j t d s _ _ c #[k7]
theorem Nz{f:#[jA]}{g:Int->Int->Int}
  (rule:∀ (i j:Int) (t u:Tok) (s:ah) (Q:aa->ah->Prop) (E:aa->ah->Prop),Q (.int (g i j) s.toks) { s with toks:=s.toks+1 }->#[ij] #[lB] Q E s) :
  OpR X f (rI0 λi j=>.int (g i j)):=by
 show#[hf];exact rule i j t c s _ _ #[k7]
theorem Tv{f:#[jA]}{g:Int->Int->Bool}
  (rule:∀ (i j:Int) (t u:Tok) (s:ah) (Q:aa->ah->Prop) (E:aa->ah->Prop),Q (.bool (g i j)) s->#[ij] #[lB] Q E s) :
  OpR X f (rI0 λi j=>.bl (g i j)):=by
 show#[hf];exact rule i j t c s _ _ ⟨.bl (g i j),H,I,rfl,q⟩
def Zuw(i j:Int):Prop:=0<j/\j<1073741824
def Ny(i j:Int):Prop:=0<=j/\j<=1000000/\i.natAbs<2 ^ 64
def RT(i j:Int):Prop:=(-(2 ^ 64)<i/\i<2 ^ 64)\/(-(2 ^ 64)<j/\j<2 ^ 64)
theorem RT.ok{i j:Int}(h:RT i j):IntMulOk i j:=by
 rcases h with⟨a,b⟩|⟨a,b⟩
 ·exact .of_left (intBits_le_64 a b)
 ·exact .of_right (intBits_le_64 a b)
theorem YL:OpR X #[lD] (rI0 λi j=>.int (i+j)):=#[fp,Nz,add_int]
theorem Xh:OpR X (binaryOp .Sub) (rI0 λi j=>.int (i-j)):=#[fp,Nz,sub_int]
theorem VL:OpR X (binaryOp .Mult) (rI RT λi j=>.int (i*j)):=opI λ_ _ _ _ _ _ _ hc q=>mul_int q hc.ok
theorem RS:OpR X (binaryOp .FloorDiv) (rI Zuw λi j=>.int (i / j)):=opI λi j _ _ _ _ _ hc q=>by have h1:#[lM]<j:=hc.1;have h2:j<1073741824:=hc.2;exact floordiv_int #[2] (by rw[Int.fdiv_eq_ediv_of_nonneg i #[2]];exact q) (.inl (PyProof.noPylong_small #[2]))
theorem UF:OpR X (binaryOp .Mod) (rI (λ_ j=>0<j) λi j=>.int (i % j)):=opI λi j _ _ _ _ _ hc q=>by have h1:#[lM]<j:=hc;exact mod_int' #[2] (by rw[Int.fmod_eq_emod_of_nonneg i #[2]];exact q)
theorem Zrv:OpR X (binaryOp .Pow) (rI Ny λi j=>.int (i ^ j.toNat)):=opI λ_ _ _ _ _ _ _ hc q=>pow_int_small hc.1 hc.2.1 hc.2.2 q
theorem unI{f:aa->Sem aa}{g:Int->Int}
  (rule:∀ (i:Int) (t:Tok) (s:ah) (Q:aa->ah->Prop) (E:aa->ah->Prop),Q (.int (g i) s.toks) { s with toks:=s.toks+1 }->#[ij] (f #[h7]) Q E s) :
  UnR X f (rU λi=>.int (g i)):=by
 intro ai s σ H x v Q I a h;obtain⟨i,rfl,q⟩:=h;show#[dd,t,a];exact rule i t s _ _ ⟨.int (g i),H,I.tok _,#[H],q⟩
theorem Tu:UnR X (unaryOp .USub) (rU λi=>.int (-i)):=unI λ_ _ _ _ _ q=>neg_int q
universe E
noncomputable def Nx:V->V->Bool
 | .non,.non=>true|.non,.int _=>true|.int _,.non=>true|.non,.bl _=>true|.bl _,.non=>true|.non,.str _=>true|.str _,.non=>true
 | .int _,.int _=>true|.bl _,.bl _=>true|.str _,.str _=>true|.byt _,.byt _=>true
 | .int _,.str _=>true|.str _,.int _=>true|.bl _,.str _=>true|.str _,.bl _=>true
 | _,_=>false
def rEq:R2:=λx y H Q=>Nx x y=true/\Q (.bl (decide (x=y))) H
def rNe:R2:=λx y H Q=>Nx x y=true/\Q (.bl (!decide (x=y))) H
theorem Nw{i j:Int}:decide (V.int i=V.int j)=(i == j):=by rw[QaP];simp
theorem Nv{i j:Bool}:decide (V.bl i=V.bl j)=(i == j):=by rw[QaP];simp
theorem Nu{i j:aj}:decide (V.str i=V.str j)=(i == j):=by rw[QaP];simp
theorem Nt{i j:Array UInt8}:decide (V.byt i=V.byt j)=(i.toList == j.toList):=by rw[QaP];cases i;cases j;simp
section
variable {X:Cx} {a b c:aD} {ta tb tc:TE} {pos:Pos}
theorem ZZ{a:#[Q]}{b:St}{H:Hp}{s:ah}{Q:VK}{k k':Bool}(I:#[eV,a,b])(q:Q (.bl k) H)(e:k=k'):EP X a b Q (.bool k') s:=by subst e;exact#[tP,k,q]
theorem YG:OpR X (aO .Eq) rEq:=by
 show#[fD,y,u,d,a];show#[c5,c,q,h];cases x with
 | non =>
  cases d;cases y with
  | non=>cases a;exact PySem.EqNone.eq_none_none #[31]
  | bl j=>cases a;exact PySem.EqNone.eq_none_bool #[31]
  | int j=>obtain⟨b,rfl⟩:=a;exact PySem.EqNone.eq_none_int #[31]
  | str j=>obtain⟨b,rfl⟩:=a;exact PySem.EqNone.eq_none_str #[31]
  | _=>exact #[aM]
 | bl i =>
  cases d;cases y with
  | non=>cases a;exact PySem.EqNone.eq_bool_none #[31]
  | bl j=>cases a;exact eq_bool (ZZ I q Nv)
  | str j=>obtain⟨b,rfl⟩:=a;exact PySem.EqMixed.eq_bool_str #[31]
  | _=>exact #[aM]
 | int i =>
  show#[so];cases y with
  | non=>cases a;exact PySem.EqNone.eq_int_none #[31]
  | int j=>obtain⟨b,rfl⟩:=a;exact eq_int (ZZ I q Nw)
  | str j=>obtain⟨b,rfl⟩:=a;exact PySem.EqMixed.eq_int_str #[31]
  | _=>exact #[aM]
 | str i =>
  show#[so];cases y with
  | non=>cases a;exact PySem.EqNone.eq_str_none #[31]
  | bl j=>cases a;exact PySem.EqMixed.eq_str_bool #[31]
  | int j=>obtain⟨b,rfl⟩:=a;exact PySem.EqMixed.eq_str_int #[31]
  | str j=>obtain⟨b,rfl⟩:=a;exact eq_str (ZZ I q Nu)
  | _=>exact #[aM]
 | byt i =>
  show#[so];cases y with
  | byt j=>obtain⟨b,rfl⟩:=a;exact PySem.W.eq_bytes (ZZ I q Nt)
  | _=>exact #[aM]
 | _=>cases y<;>exact #[aM]
theorem Ztm:OpR X (aO .NotEq) rNe:=by
 show#[fD,y,u,d,a];show#[c5,c,q,h];cases x with
 | non =>
  cases d;cases y with
  | non=>cases a;exact PySem.EqNone.ne_none_none #[31]
  | bl j=>cases a;exact PySem.EqNone.ne_none_bool #[31]
  | int j=>obtain⟨b,rfl⟩:=a;exact PySem.EqNone.ne_none_int #[31]
  | str j=>obtain⟨b,rfl⟩:=a;exact PySem.EqNone.ne_none_str #[31]
  | _=>exact #[aM]
 | bl i =>
  cases d;cases y with
  | non=>cases a;exact PySem.EqNone.ne_bool_none #[31]
  | bl j=>cases a;show#[oa,ne_bool,Nv]
  | str j=>obtain⟨b,rfl⟩:=a;exact PySem.EqMixed.ne_bool_str #[31]
  | _=>exact #[aM]
 | int i =>
  show#[so];cases y with
  | non=>cases a;exact PySem.EqNone.ne_int_none #[31]
  | int j=>obtain⟨b,rfl⟩:=a;show#[oa,ne_int,Nw]
  | str j=>obtain⟨b,rfl⟩:=a;exact PySem.EqMixed.ne_int_str #[31]
  | _=>exact #[aM]
 | str i =>
  show#[so];cases y with
  | non=>cases a;exact PySem.EqNone.ne_str_none #[31]
  | bl j=>cases a;exact PySem.EqMixed.ne_str_bool #[31]
  | int j=>obtain⟨b,rfl⟩:=a;exact PySem.EqMixed.ne_str_int #[31]
  | str j=>obtain⟨b,rfl⟩:=a;show#[oa,ne_str,Nu]
  | _=>exact #[aM]
 | byt i =>
  show#[so];cases y with
  | byt j=>obtain⟨b,rfl⟩:=a;show#[oa,PySem.W.ne_bytes,Nt]
  | _=>exact #[aM]
 | _=>cases y<;>exact #[aM]
theorem Xg:OpR X (aO .Lt) (rI0 λi j=>.bl (decide (i<j))):=#[fp,Tv,lt_int]
theorem Nr:OpR X (aO .LtE) (rI0 λi j=>.bl (decide (i<=j))):=#[fp,Tv,le_int]
theorem WZ:OpR X (aO .Gt) (rI0 λi j=>.bl (decide (j<i))):=#[fp,Tv,gt_int]
theorem RR:OpR X (aO .GtE) (rI0 λi j=>.bl (decide (j<=i))):=#[fp,Tv,ge_int]
theorem Zmi:OpR X (aO .Lt) (λx y H Q=>X2 λi j=>x=.str i/\y=.str j/\Q (.bl (decide (i.cps.toList<j.cps.toList))) H):=by intro ai s σ H x y v u Q I a b h;obtain⟨i,j,rfl,rfl,q⟩:=h;obtain⟨t,rfl⟩:=a;obtain⟨t',rfl⟩:=b;exact lt_str (ZZ I q rfl)
theorem Wo:OpR X (aO .Is) (λx y H Q=>y=.non/\Q (.bl (decide (x=.non))) H):=by
 show#[qA];refine is_none_gen (ZZ I q ?_);cases x<;>first
  | (cases a;rfl)
  | (obtain⟨t,rfl⟩:=a;rfl)
theorem Tt:OpR X (aO .IsNot) (λx y H Q=>y=.non/\Q (.bl (!decide (x=.non))) H):=by
 show#[qA];refine isnot_none_gen (ZZ I q ?_);cases x<;>first
  | (cases a;rfl)
  | (obtain⟨t,rfl⟩:=a;rfl)
theorem Zs(b:aD){op:CmpOp}(h:op≠.In:=by decide)(h2:op≠.NotIn:=by decide):behindInMarks op b=false:=by
 have a:(op == CmpOp.In)=false:=by cases op<;>first|rfl|exact #[oJ,h]
 have c:(op == CmpOp.NotIn)=false:=by cases op<;>first|rfl|exact #[oJ,h2]
 cases b<;>simp[behindInMarks,a,c]
theorem WY{op:CmpOp}{r:R2}(c:#[rL])(ha:#[jB])(hb:#[pH])(hm:#[sw]):PE X #[sg] #[pQ]:=by intro d s e H Q I h;exact wpAny_Compare1 #[gA] hm
def Nq(t:TE):TT:=λa H Q=>t a H λx b=>EA (λk=>x=.bl k) (λk=>Q k b)
theorem Zm{op:CmpOp}{r:R2}(g:#[rL])(ha:#[jB])(hb:#[pH])(hm:#[sw]):PT X #[sg] (Nq #[pQ]):=by
 show#[dP,d,f,Q];refine wpAny_isTrue_Compare1 (thn #[ot,ha,d,f] λv i ⟨x,j,l,m,n⟩=>thn (hb d i f j _ l n) λu o ⟨y,p,q,t,w⟩=>
  thn (g d o f p x y v u _ q m t w) λc s3 ⟨z,A,B,C,k,e,q3⟩=>?_) hm
 subst e;cases C;exact bi ⟨A,B,q3⟩
def Zrg(r c:R2)(ta tb tc:TE):TE:=λa H Q=>ta a H λx d=>tb a d λy e=>r x y e λz b=>∃k,z=.bl k /\
 (if k=true then tc a b λf g=>c y f g Q else Q #[tA] b)
theorem Zov{op i:CmpOp}{r j:R2}(o:#[rL])(p:OpR X (aO i) j)(ha:#[jB])(hb:#[pH])(hc:PE X c tc)
  (hm:lastMarks [op,i] [b,c]=false:=by with_unfolding_all rfl):PT X (.Compare a [op,i] [b,c] pos) (Nq (Zrg r j ta tb tc)):=by
 show#[dP,f,g,Q];refine isTrue_chain (thn #[ot,ha,f,g] λv q ⟨x,t,w,A,B⟩=>test_link (thn (hb f q g t _ w B) λu C ⟨y,D,E,l,F⟩=>
  thn (o f C g D x y v u _ E A l F) λd G ⟨z,m,n,J,k,e,q3⟩=>?_)) hm
 subst e;cases J;refine bi ?_;cases k with
 | false=>obtain⟨k',K,L⟩:=q3;cases K;exact ite_ff ⟨m,n,L⟩
 | true=>refine ite_tt (test_last (thn (hc f G g m _ n q3) λM N ⟨O,P,R,S,T⟩=>thn (p f N g P y O u M _ R l S T) ?_));rintro d' s5 ⟨z2,U,V,W,k2,Y,Z⟩;subst Y;cases W;exact bi ⟨U,V,Z⟩
theorem Vp:(aq:Nat)<2 ^ 63:=by rw[aG];decide
theorem UE:OpR X #[lD] (λx y H Q=>X2 λi j=>x=.str i/\y=.str j/\i.length+j.length<=aq/\Q (.str (i++j)) H):=by intro ai s σ H x y v u Q I a b h;obtain⟨i,j,rfl,rfl,c,q⟩:=h;obtain⟨t,rfl⟩:=a;obtain⟨d,rfl⟩:=b;exact add_str (λd tk=>⟨.str (i++j),H,I.tok _,#[H],q⟩) c
theorem XV{x:V}{us:#[ca]}(r:ZA [x] us):∃u,us=[u]/\ZH x u:=by
 cases r with
 | cons a b=>cases b;exact⟨_,rfl,a⟩
theorem RQ{x y:V}{us:#[ca]}(r:ZA [x,y] us):X2 λu a=>us=[u,a]/\ZH x u/\ZH y a:=by
 cases r with
 | cons b c =>
  cases c with
  | cons d e=>cases e;exact⟨_,_,rfl,b,d⟩
theorem Np:YT X #[c3,"abs"] (λxs H Q=>∃i,xs=[.int i]/\Q (.int #[te]) H):=by intro ai s σ H xs us Q I r h;obtain⟨i,rfl,q⟩:=h;obtain⟨u,rfl,t,rfl⟩:=XV r;exact call_abs_int λu tk=>⟨.int #[te],H,I.tok _,#[H],q⟩
theorem No(hc:#[81]):YT X #[c3,"max"] (λxs H Q=>X2 λi j=>xs=#[rB]/\Q (.int (if j>i then j else i)) H):=by
 show#[a9];refine max_two_ints #[gj] λh' tk k=>⟨_,H,I.kept k,?_,q⟩;by_cases a:j>i
 ·show#[fe,a];exact#[H]
 ·show#[e7,a,a];exact#[H]
theorem RP(hc:#[81]):YT X #[tK] (λxs H Q=>X2 λi j=>xs=#[rB]/\Q (.int (if j<i then j else i)) H):=by
 show#[a9];refine min_two_ints #[gj] λh' tk k=>⟨_,H,I.kept k,?_,q⟩;by_cases a:j<i
 ·show#[fe,a];exact#[H]
 ·show#[e7,a,a];exact#[H]
theorem Ts:YT X #[jS] (λxs H Q=>(∃i,xs=[.int i]/\Q #[p8] H)\/∃k,xs=[.bl k]/\Q (.int (if k then 1 else 0)) H):=by
 show#[nK,ai,σ,xs];rcases h with⟨i,rfl,q⟩|⟨k,rfl,q⟩
 ·obtain⟨u,rfl,t,rfl⟩:=XV r;exact call_int_int ⟨.int i,H,I,#[H],q⟩
 ·show#[ds,a,r];exact call_int_bool ⟨.int (if k then 1 else 0),H,I.tok _,#[H],q⟩
universe E
structure VJ (h:aE) (x dx C:ae) (mA:#[P]):Prop where
 obj:h.get? x=U (PySem.W.instObj C dx)
 ns:h.Ns1 dx mA
 ne:dx≠x
theorem ZlU{h:aE}{dx:ae}{b:#[P]}(n:h.Ns1 dx b):∃c,h.get? dx=U c/\∀name,PySem.W.lookIn name c=U (b name):=by
 obtain⟨o,d,ep,f,g,i,_,j⟩:=n;refine⟨o,f,λname=>?_⟩;have e:=j name;unfold nsFind findBy at e;rw[<- Array.find?_toList]at e;unfold PySem.W.lookIn;rw[g];dsimp only;split
 ·rename_i y q;rw[q]at e;exact congrArg U e
 ·rename_i q;rw[q]at e;have a:d.toList.any (·.refKey)=false:=by rw[List.any_eq_false];intro y k;obtain⟨z,t,l⟩:=i y (Array.mem_toList_iff.mp k);simp[DictEntry.refKey,l]
  have m:¬ d.toList.any (·.refKey)=true:=by rw[a];exact Qz
  rw[if_neg m];exact congrArg U e
theorem VJ.look{h:aE}{x dx C:ae}{b:#[P]}(I:VJ h x dx C b):∃a,PySem.W.InstAt h x (PySem.W.instObj C dx) C (U a)/\∀name,PySem.W.lookIn name a=U (b name) :=
 let ⟨a,c,d⟩:=ZlU I.ns
 ⟨a,⟨I.obj,rfl,rfl,c⟩,d⟩
section
variable {prog:ar} {w:aA} {A:az} {E:aa->ah->Prop} {s:ah} {K:#[7]} {x dx C f:ae} {mA:aj->Option aa} {name:aj} {v:aa}
theorem Zp8{a:Bool}{Q:#[D]}(X:#[pK])(I:#[mc])(b:#[pj])(c:#[np,C])
  (ha:PySem.W.findIn K #[aU] name=U af) (d:mA name=U v) (e:PySem.W.handedIn v=true) (h:Q v { s with toks:=s.toks+1 }) :
  aw #[j] A (getAttr #[p5] name a) Q E s:=by
 show#[e9,od,J,f,I.look];exact PySem.W.get_value X J (PySem.W.plainGet_of b).1 (PySem.W.findObj_own c ha rfl (by rw[f,d])) e h
theorem ZoI{pl:Sem Bool}{Q:aa×List aa->ah->Prop}(X:#[pK])(I:#[mc])(a:#[pj])
  (b:PySem.W.findIn K #[aU] name=U #[r4]) (ht:PySem.W.isFn K #[a1]=true) (c:mA name=af) (h:Q (.ref f,[.ref x]) s) :
  aw #[j] A (getMethod #[p5] name pl) Q E s:=by
 show#[e9,d,J,e,I.look];exact PySem.W.method_fn X J #[ts].1 #[ts].2 b (beq_iff_eq.mp ht) (by show (PySem.W.lookIn name d).map (·.isSome)=U false;rw[e,c];rfl) h
theorem ZpB{ns:#[y]}{Q:#[pu]}(X:#[pK])(I:#[mc])
  (f:PySem.W.findIn K #[aU] "__setattr__" = U #[46]) (g:#[ow,C]) (ht:PySem.W.takerIn K C name=U af) (i:#[np,C])
  (hw:PySem.Within mA ns) (hsz:ns.length<=aq)
  (h:∀h',VJ h' x dx C (λy=>if y=name then U v else mA y)->aE.SameBut dx s.heap h'->Q () { s with heap:=h',toks:=s.toks+2 }) :
  aw #[j] A (setAttr #[p5] name v) Q E s:=by
 show#[e9,od,J,hl,I.look];refine PySem.W.set_plain X J f (PySem.W.osa_open (s:=#[iM]) (r:=af) X J g ht λb=>?_);show#[nB,cd,j,c,PySem.W.any_some,i];have k:s.heap.get? x=U ⟨.ref C,U dx,.plain,#[]⟩:=I.obj;refine ak (au (ak (ak (wpAny_loadPart k (ak (PySem.W.Looks.here (s:=#[iM]) (PySem.W.looks_clsIn X j) ?_))))));rw[c];refine au (a:=U dx) (ak (au (ak ?_)));refine wpAny_nsSet1 (s:=#[iM]) I.ns λh' d e=>?_;obtain⟨oD,esD,epD,l,m,n⟩:=d.count (PySem.Within.cons name v hw);refine ak (wpAny_lookBehind l (by rw[m];exact pastItsLine_dict (QL n #[dv,QF])) ?_);exact au (h _ ⟨(e.2 _ (Ne.symm I.ne)).trans I.obj,d,I.ne⟩ e)
theorem Zpq{R:#[kb]}{vs:#[ca]}{kw:#[qd]}(X:#[pK])(hm:#[o9,C])
  (a:PySem.W.findIn K #[aU] "__init__" = U #[r4]) (b:PySem.W.typeIn K #[a1]=U #[fE,"function"])
  (h:aY #[j] (A.under (.builtin "type.__call__" ⟨.ref C::vs,kw⟩)) (.call #[a1] ⟨.ref #[C]::vs,kw⟩) (PySem.W.InitBack #[C] R)
   { s with heap:=(s.heap.push PySem.W.emptyDict).push (PySem.W.instObj C s.heap.objs.size) }) :
  aY #[j] A (.call #[aU] ⟨vs,kw⟩) R s:=by
 obtain⟨hh,g,d,t,os⟩:=s;exact PySem.W.make_core (PySem.W.makes_of X hm) (PySem.W.looks_findIn X a) (λself=>PySem.W.bind_fn X self b) #[8] h
universe E
noncomputable def Zu(f:aj)(v:V):List (aj×V)->List (aj×V)
 | []=>[(f,v)]
 | (g,x)::r=>if g=f then (g,v)::r else (g,x)::Zu f v r
theorem Zo(f g:aj)(v:V):∀fs:List (aj×V),#[pX].lookup g=if g=f then U v else fs.lookup g
 | []=>by
  show List.lookup g [(f,v)]=_;by_cases h:g=f
  ·show#[nI,f];simp only[List.lookup,hb,if_pos h]
  ·show#[e4,f];simp only[List.lookup,hb,if_neg h]
 | (k,x)::r=>by
  have b:=Zo f g v r;show#[68];by_cases a:k=f
  ·rw[if_pos a];by_cases h:g=k
   ·show#[nI,k];simp only[List.lookup,hb,if_pos (h.trans a)]
   ·show#[e4,k];simp only[List.lookup,hb,if_neg (λe:g=f=>h (e.trans a.symm))]
  ·rw[if_neg a];by_cases h:g=k
   ·show#[nI,k];simp only[List.lookup,hb,if_neg (λe:g=f=>a (h.symm.trans e))]
   ·show#[e4,k];simp only[List.lookup,hb];exact b
theorem RO(f:aj)(v:V):∀fs:List (aj×V),f∈#[pX].map #[lW]/\∀g,g∈fs.map #[lW]->g∈#[pX].map #[lW]
 | []=>⟨by simp[Zu],λg h=>by simp at h⟩
 | (k,x)::r=>by
  obtain⟨b,c⟩:=RO f v r;show#[68];by_cases a:k=f
  ·rw[if_pos a];subst a;exact⟨by simp,λg h=>by simpa using h⟩
  ·rw[if_neg a];show#[eY,?_,g,h]
   ·rw[Qj];exact Qu _ b
   ·rw[Qj]at h ⊢;rcases QG.mp h with e|e
    ·exact List.mem_cons.mpr (.inl e)
    ·exact Qu _ (c g e)
theorem Nm(f:aj)(v:V):∀fs:List (aj×V),#[pX].length<=fs.length+1
 | []=>by simp[Zu]
 | (k,x)::r=>by
  have ih:=Nm f v r;show#[68];by_cases a:k=f
  ·rw[if_pos a,QF,QF];lia
  ·rw[if_neg a,QF,QF];lia
theorem XZ.some_of{v:V}{o:Option aa}(r:XZ (U v) o):∃u,o=U u/\ZH v u:=by
 cases o with
 | none=>exact#[fP].elim
 | some u=>exact⟨u,rfl,r⟩
theorem XZ.none_of{o:Option aa}(r:XZ af o):o=af:=by
 cases o with
 | none=>rfl
 | some u=>exact#[fP].elim
theorem ZlO{v:V}{u:aa}(r:ZH v u):PySem.W.handedIn u=true:=by
 cases v with
 | non=>cases (show u=aa.none from r);rfl
 | bl b=>cases (show u=aa.bool b from r);rfl
 | int i=>obtain⟨t,e⟩:=#[qU];cases e;rfl
 | str x=>obtain⟨t,e⟩:=#[qT];cases e;rfl
 | byt b=>obtain⟨t,e⟩:=#[dq,aa.bytes,b,r];cases e;rfl
 | flt b=>obtain⟨t,e⟩:=#[dq,aa.float,b,r];cases e;rfl
 | ref a=>cases (show u=aa.ref a from r);rfl
 | ty n=>cases (show u=aa.type n from r);rfl
section
variable {P:ar} {w:aA} {H H':Hp} {h h':aE} {a C dx:ae} {fs lW:List (aj×V)}
theorem Tr(hok:#[ct])(e:#[h0]):∃b,VJ h a dx C b/\(∀f,XZ (fs.lookup f) (b f))/\PySem.Within b #[tf]/\fs.length<=1000/\H dx=U #[tx]:=by obtain⟨d,z,ne,c,b,n,r,q⟩:=(show YY P w H h a (.ins C dx fs) from hok a _ e);exact⟨b,⟨c,n,ne⟩,r,q,z,d⟩
universe E
structure Cls (K:#[7]) (C:ae):Prop where
 pg:PySem.W.plainGet K C aj.empty=true
 hd:PySem.W.hasDictIn K C=true
 po:PySem.W.plainOver K C=true
 sa:PySem.W.findIn K #[aU] "__setattr__" = U #[46]
theorem Cls.get{K:#[7]}{C:ae}(c:Cls K C)(f:aj):PySem.W.plainGet K C f=true:=c.pg
def XR(K:#[7])(C:ae)(f:aj):Prop:=PySem.W.findIn K #[aU] f=U af
theorem XR.taker{K:#[7]}{C:ae}{f:aj}(n:XR K C f):PySem.W.takerIn K C f=U af:=by unfold PySem.W.takerIn;rw[show PySem.W.findIn K #[aU] f=U af from n];rfl
structure Con (K:#[7]) (C:ae) (f:aj) (v:V) (u:aa):Prop where
 at_:PySem.W.findIn K #[aU] f=U (U u)
 rel:ZH v u
 get:PySem.W.specialIn K u "__get__" = U af
 cp:PySem.W.copiedNames.contains f=false
structure Vo (K:#[7]) (C:ae) (m:aj) (f:ae):Prop where
 at_:PySem.W.findIn K #[aU] m=U #[r4]
 fn:PySem.W.isFn K #[a1]=true
 kp:PySem.W.keepIn K #[a1]=true
section
variable {X:Cx} {ai:List (ae×aI)} {σ:St} {H:Hp} {s:ah} {a C dx:ae} {fs:List (aj×V)} {f:aj} {v:V} {A:az} {E:aa->ah->Prop}
theorem Nl{b:Bool}{Q:#[D]}(I:#[l])(e:#[h0])(c:#[pL])(n:XR X.K C f)(l:fs.lookup f=U v)
  (h:∀u s',Inv X ai σ H s'->ZH v u->Q u s'):aw #[G] A (getAttr #[61] f b) Q E s:=by
 obtain⟨g,O,r,_,_,_⟩:=Tr I.hok e;obtain⟨u,i,d⟩:=XZ.some_of (v:=v) (o:=g f) (by rw[<- l];exact r f);exact Zp8 I.kIn O (c.get f) c.hd n i (ZlO d) (h u _ #[sd] d)
theorem Nk{m:aj}{g:ae}{pl:Sem Bool}{Q:aa×List aa->ah->Prop}(I:#[l])(e:#[h0])(c:#[pL])(k:Vo X.K C m g)(l:fs.lookup m=af)
  (h:Q (.ref g,#[iF]) s):aw #[G] A (getMethod #[61] m pl) Q E s:=by
 obtain⟨b,O,r,_,_,_⟩:=Tr I.hok e;have d:b m=af:=XZ.none_of (by rw[<- l];exact r m);exact ZoI I.kIn O (c.get m) k.at_ k.fn d h
theorem Nj{y:V}{u:aa}{Q:#[pu]}(I:#[l])(e:#[h0])(c:#[pL])(n:XR X.K C f)(hl:fs.length<1000)(l:ZH y u)
  (h:∀s',Inv X ai σ (upd H a (.ins C dx (Zu f y fs))) s'->Q () s'):aw #[G] A (setAttr #[61] f u) Q E s:=by
 obtain⟨i,O,r,j,_,k⟩:=Tr I.hok e;have m:#[tf].length<=aq:=by rw[Qa,aG];lia
 refine ZpB I.kIn O c.sa c.po n.taker c.hd j m λp d t=>h _ ?_;have v:∃o,p.get? dx=U o:=let ⟨o,_,_,w,_⟩:=d.ns;⟨o,w⟩;refine I.write (x:=a) (e:=dx) #[ni] (.inr k) (λb q B z=>(t.2 b B).trans z) v ?_;refine⟨by rw[Ze O.ne];exact k,?_,O.ne,d.obj,_,d.ns,λg=>?_,λg D=>?_⟩
 ·have:=Nm f y fs;lia
 ·show XZ ((Zu f y fs).lookup g) (if g=f then U u else i g);rw[Zo];by_cases q:g=f
  ·show#[fe,q];exact l
  ·show#[e7,q,q];exact r g
 ·by_cases q:g=f
  ·rw[q];exact(RO f y fs).1
  ·refine(RO f y fs).2 g (j g λz=>D ?_);show (if g=f then U u else i g)=af;rw[if_neg q];exact z
theorem Inv.made(I:#[l]):Inv X ai σ #[c8,H,s.heap.objs.size,#[C],C]
  { s with heap:=(s.heap.push PySem.W.emptyDict).push (PySem.W.instObj C s.heap.objs.size) }:=by
 have c:#[bY].get? s.heap.objs.size=U PySem.W.emptyDict:=QB s.heap rfl;have d:(#[bY].push #[k3]).get? #[C]=U #[k3]:=by have:=QB #[bY] (o:=PySem.W.instObj C s.heap.objs.size) rfl;rwa [aE.size_push]at this
 have f:#[bY].Ns s.heap.objs.size (λ_=>af):=⟨PySem.W.emptyDict,#[],_,c,rfl,(λe g=>absurd g #[4]),λ_=>rfl⟩;have h:=I.laid (a:=#[kj]) (o:=.own #[C]) (h':=s.heap.push PySem.W.emptyDict) (t':=#[tj]) #[nC,u,q] #[gp] ⟨_,c⟩;refine h.laid (a:=s.heap.objs.size+1) (o:=.ins C s.heap.objs.size []) (t':=#[tj]) #[nC,u,q] (Nat.le_of_eq (aE.size_push _ _)) ?_;have ne:s.heap.objs.size≠s.heap.objs.size+1:=QK #[lI];refine⟨by rw[Ze ne,Zb],Qt _,ne,d,λ_=>af,(aE.Ns1.of_empty f).at λo q=>Qi _ q,λ_=>True.intro,λy i=>absurd rfl i⟩
theorem ZqV{prog:ar}{w:aA}{env:Env}{e:aD}{f:aj}{pos:Pos}{s:ah}{Q:#[D]}(hb:bB e f env (eval e env)=eval e env)
  (h:aw #[j] A (eval e env) (λo a=>aw #[j] A (getAttr o f true) Q E a) E s):aw #[j] A (eval (.Attribute e f pos) env) Q E s :=
 Attribute_any_ h (by rw[arm_eval_Attribute,hb])
universe E
inductive Zut (K:#[7]) (f:aj) (x:V) (H:Hp) (B:V->Prop):Prop where
 | mk (a C dx:ae) (fs:List (aj×V)) (v:V) (e:x=.ref a) (g:H a=U (.ins C dx fs)) (c:Cls K C) (n:XR K C f) (l:fs.lookup f=U v) (q:B v)
def ZtZ(K:#[7])(b:TE)(f:aj):TE:=λc H Q=>b c H λx a=>Zut K f x a (λv=>Q v a)
inductive RSF (K:#[7]) (f:aj) (x:V) (H:Hp) (B:ae->HO->Prop) (y:V):Prop where
 | mk (a C dx:ae) (fs:List (aj×V)) (e:x=.ref a) (g:H a=U (.ins C dx fs)) (c:Cls K C) (n:XR K C f) (l:fs.length<1000) (q:B a (.ins C dx (Zu f y fs)))
def ZtT(K:#[7])(d e:TE)(f:aj):TS:=λD b H=>e b H λy g=>d b g λx c=>RSF K f x c (λa o=>D.nx b (upd c a o)) y
def Ni(X:Cx)(op:Operator)(rd:#[g6]):Prop :=
 ∀ (a:List (ae×aI)) (s:ah) (b:St) (H:Hp) (x y:V) (u v:aa) (Q:VK),Inv X a b H s->ZH x u->ZH y v->rd x y H Q->#[ij] (inplaceOp op u v) #[hn] X.xe s
def ZpF(K:#[7])(h i:TE)(rd:#[g6])(f:aj):TS:=λD b H=>h b H λx d=>X5 λa C dx fs v=>x=.ref a/\d a=U (.ins C dx fs)/\Cls K C/\XR K C f/\fs.lookup f=U v /\
 i b d λy j=>rd v y j λz e=>X2 λg c=>e a=U (.ins C g c)/\c.length<1000/\D.nx b (upd e a (.ins C g (Zu f z c)))
section
variable {X:Cx} {o e value:aD} {f:aj} {pos cE eR:Pos} {ta tv:TE}
theorem Z8(he:PE X e ta)(hb:#[fa,e,f]):PE X (.Attribute e f pos) (ZtZ X.K ta f):=by intro b s d H Q I h;refine ZqV hb #[cN,he,b,d];rintro u s1 ⟨x,g,i,j,a,C,dx,fs,v,ex,k,c,n,l,q⟩;subst ex;obtain rfl:u=aa.ref a:=j;exact Nl i k c n l λu' s2 m o=>⟨v,g,m,o,q⟩
theorem Xq(ha:#[rJ])(e:PE X value tv)(g:swapsWith value (U #[om,f,cE]) pos.line X.env=pure false):PS X (.Assign [.Attribute o f cE] value pos) (ZtT X.K ta tv f):=by intro d s b H D I h;refine plainObj_wpAny_Assign_Attribute (thn #[ot,e,d,b] λu i ⟨y,j,k,m,q⟩=>thn (ha d i b j _ k q) ?_) g;rintro p s2 ⟨x,H2,r,t,a,C,dx,fs,ex,v,c,n,l,w⟩;subst ex;obtain rfl:p=aa.ref a:=t;exact Nj r v c n l m λs3 z=>⟨b,_,z,w⟩
theorem Tq{op:Operator}{rd:#[g6]}(ha:#[rJ])(e:PE X value tv)(g:Ni X op rd):PS X (.AugAssign #[om,f,eR] op value pos) (ZpF X.K ta tv rd f):=by intro d s b H D I h;refine wpAny_AugAssign_AttributeAny #[cN,ha,d,b];rintro i s1 ⟨x,j,k,m,a,C,dx,fs,v,ex,p,c,n,l,q⟩;subst ex;obtain rfl:i=aa.ref a:=m;refine Nl k p c n l λu r t w=>thn (e d r b j _ t q) λA B ⟨y,E,F,G,q3⟩=>thn (g d B b E v y u A _ F w G q3) ?_;rintro w4 s4 ⟨z,H3,J,K,qM,lW,L,M,N⟩;exact Nj J L c n M K λs5 O=>⟨b,_,O,N⟩
def Zuo:V->V->Hp->VK->Prop:=λx y H Q=>RI2 x y (λi j=>Q #[oA,i,j] H)
theorem Tp:Ni X .Add Zuo:=by rintro ai s σ H x y u v Q I b c ⟨i,j,rfl,rfl,q⟩;obtain⟨t,rfl⟩:=#[dq,aa.int,i,b];obtain⟨a,rfl⟩:=(show ∃a,v=aa.int j a from c);exact PyProof.Rows.iadd_int ⟨.int (i+j),H,I.tok _,#[H],q⟩
universe E
section
variable {X:Cx} {ai:List (ae×aI)} {σ:St} {H:Hp} {s:ah} {A:az} {E:aa->ah->Prop} {Q:aa->ah->Prop} {c:aa} {b:Bool}
inductive Xe (K:#[7]) (H:Hp):V->aa->Prop where
 | non:Xe K H .non (.type "NoneType")
 | bl (x:Bool):Xe K H (.bl x) (.type "bool")
 | int (i:Int):Xe K H (.int i) (.type "int")
 | str (x:aj):Xe K H (.str x) (.type "str")
 | flt (x:UInt64):Xe K H (.flt x) (.type "float")
 | lst {a:ae} {xs:List V} (e:H a=U (.lst xs)):Xe K H (.ref a) (.type "list")
 | frz {a:ae} {o:aI} {xs:List V} (e:H a=U (.frz o (.lst xs))):Xe K H (.ref a) (.type "list")
 | tup {a:ae} {xs:List V} (e:H a=U (.tup xs)):Xe K H (.ref a) (.type "tuple")
 | dK {a:ae} {kvs:List (Key×V)} (e:H a=U (.dK kvs)):Xe K H (.ref a) (.type "dict")
 | dT {a:ae} {kvs:List (List Key×V)} (e:H a=U (.dT kvs)):Xe K H (.ref a) (.type "dict")
 | ins {a C dx:ae} {fs:List (aj×V)} (e:H a=U (.ins C dx fs)) (cl:Cls K C) (ha:PySem.W.findIn K (.ref C) "__class__" = U (U (.builtin "object.__class__")))
   (hn:PySem.W.specialIn K #[jk] "__get__" = U (U #[c3,"getset_descriptor.__get__"])) (cV:PySem.W.takesIn K #[jk]=U true)
   (hm:PySem.W.mroIn K C #[fE,"object"]=U true):Xe K H #[61] #[aU]
theorem Zmd{x:V}{u t:aa}(I:#[l])(d:ZH x u)(ty:Xe X.K H x t)(e:PySem.W.kitOne X.K t c=U b)(h:∀tk,Q (.bool b) { s with toks:=tk }) :
  aw #[G] A (call #[nj] [u,c]) Q E s:=by
 cases ty with
 | non=>cases (show u=aa.none from d);show#[eI,PySem.W.kitx_none]
 | bl y=>cases (show u=aa.bool y from d);show#[eI,PySem.W.kitx_bool]
 | int i=>obtain⟨t,q⟩:=#[dq,aa.int,i,d];cases q;show#[eI,PySem.W.kitx_int]
 | str y=>obtain⟨t,q⟩:=#[dq,aa.str,y,d];cases q;show#[eI,PySem.W.kitx_str]
 | flt y=>obtain⟨t,q⟩:=#[dq,aa.float,y,d];cases q;show#[eI,PySem.W.kitx_float]
 | @lst a k f=>cases (show u=aa.ref a from d);obtain⟨_,_,n,_,g⟩:=(show YY X.prog X.w H s.heap a (.lst k) from I.hok a _ f);exact #[ia]
 | @frz a r k f=>cases (show u=aa.ref a from d);obtain⟨_,_,_,n,_,g⟩:=(show YY X.prog X.w H s.heap a (.frz r (.lst k)) from I.hok a _ f);exact #[ia]
 | @tup a k f=>cases (show u=aa.ref a from d);obtain⟨_,_,_,p⟩:=(show YY X.prog X.w H s.heap a (.tup k) from I.hok a _ f);obtain⟨o,g,l,_⟩:=p;exact Q8 PySem.W.kitx_tuple I.kIn ⟨o,g,l⟩ e #[O] h
 | @dK a j f=>cases (show u=aa.ref a from d);obtain⟨_,_,vs,_,p⟩:=(show YY X.prog X.w H s.heap a (.dK j) from I.hok a _ f);obtain⟨o,v,w,g,l,_⟩:=p;exact #[ib]
 | @dT a j f=>cases (show u=aa.ref a from d);obtain⟨_,_,k,_,o,v,w,g,l,_⟩:=#[ex,a,j,f];exact #[ib]
 | @ins a C dx fs f m B D F G=>cases (show u=aa.ref a from d);obtain⟨mA,O,_⟩:=Tr I.hok f;obtain⟨od,J,_⟩:=O.look;exact Q8 (PySem.W.kitx_own (m.get _) m.hd B D F G) I.kIn J e #[O] h
universe E
structure Y7 (k:Nat) (A:az):Prop where
 hd:A.handled=af
 dp:A.depth+3*k+5<recursionLimit
 un:A.units+16*k+200<cLine
 gd:A.guards=U []
theorem Y7.mono{j k:Nat}{A:az}(r:Y7 k A)(h:j<=k):Y7 j A:=⟨r.hd,by have:=r.dp;lia,by have:=r.un;lia,r.gd⟩
theorem Y7.deeper{k:Nat}{A:az}(r:Y7 (k+1) A)(env:Env):Y7 k (A.deeper env) :=
 ⟨r.hd,by have:=r.dp;show A.depth+1+3*k+5<_;lia,by have:=r.un;show A.units+3+16*k+200<_;lia,r.gd⟩
theorem Zka{A:az}{C:ae}{us:#[ca]}{kw:#[qd]}:#[lK].depth=A.depth+1:=by first|rfl|simp[az.under,Code.weight,Code.isCreation,Code.isGuard,Code.isCaller,Code.frames,Code.isFrame,guardIds]
theorem Zj9{A:az}{C:ae}{us:#[ca]}{kw:#[qd]}:#[lK].units=A.units+1:=by first|rfl|simp[az.under,Code.cUnits,Code.frames,Code.isFrame]
theorem Y7.make{k:Nat}{A:az}(r:Y7 (k+1) A)(C:ae)(us:#[ca])(kw:#[qd]):Y7 k #[lK] :=
 ⟨r.hd,by have:=r.dp;rw[Zka];lia,by have:=r.un;rw[Zj9];lia,by rw[show (A.under #[32]).guards=A.guards from by first|rfl|simp[az.under,pushGuards,Code.guards,Code.isGuard,guardIds]];exact r.gd⟩
theorem Y7.depth{k:Nat}{A:az}(r:Y7 k A):A.depth<recursionLimit:=by have:=r.dp;lia
theorem Y7.units{k:Nat}{A:az}(r:Y7 k A):A.units+64<cLine:=by have:=r.un;lia
def RN:TA:=λ_ H Q=>Q [] H
def ZtA(b:TE)(c:TA):TA:=λa H Q=>b a H λx d=>c a d λxs e=>Q (x::xs) e
section
variable {X:Cx} {e:aD} {es:List aD} {te:TE} {t:TA} {pos:Pos}
theorem Zc:PA X [] RN:=λ_ _ _ _ H Q I h=>Calls.spliced_nil ⟨[],H,I,.nil,h⟩
theorem Za(ha:PE X e te)(c:PA X es t)(d:#[t]:=by rfl):PA X (e::es) (ZtA te t):=by intro pos a s b H Q I h;rw[d];show aw _ _ (spliced (#[cj]::bu pos (aF es X.env))) _ _ s;refine Calls.spliced_cons #[cN,ha,a,b];rintro u f ⟨x,g,i,j,k⟩;exact thn (c pos a f b g _ i k) λus s2 ⟨l,m,n,o,p⟩=>⟨x::l,m,n,.cons j o,p⟩
def Zui(t:TA):TE:=λb H Q=>t b H λxs a=>xs.length<=aq/\∀p,a p=af->Q #[gY] (upd a p #[71])
def Zuh(t:TA):TE:=λb H Q=>t b H λxs a=>xs.length<=aq/\∀p,a p=af->Q #[gY] (upd a p #[ha])
theorem ZO{f}(h:PA X es t):PE X (.Tuple es f pos) (Zui t):=by intro g s i H Q I j;refine wpAny_Tuple_spliced (thn (h pos g s i H _ I j) λk a ⟨l,c,d,r,z,q⟩=>⟨by rw[<- r.length];exact z,?_⟩);have m:c a.heap.objs.size=af:=d.hok.fresh #[gp];refine⟨.ref a.heap.objs.size,upd c a.heap.objs.size (.tup l),d.laid (t':=a.toks) #[nC,u,e] #[gp] ?_,rfl,q _ m⟩;exact⟨z,k,r,⟨_,QB _ rfl,rfl,_,rfl⟩⟩
theorem Ym(h:PA X es t):PE X (.List es pos) (Zuh t):=by intro f s g H Q I i;refine wpAny_List_spliced (thn (h pos f s g H _ I i) λj a ⟨k,c,d,r,z,q⟩=>⟨by rw[<- r.length];exact z,?_⟩);have l:c a.heap.objs.size=af:=d.hok.fresh #[gp];refine⟨.ref a.heap.objs.size,upd c a.heap.objs.size (.lst k),d.laid (t':=a.toks) #[nC,u,e] #[gp] ?_,rfl,q _ l⟩;exact⟨z,j,0,r,QB _ rfl⟩
universe E
abbrev Sp:=List V->Hp->VK->XK->Prop
abbrev CXT:=List Env->Hp->ah->XK->aa->ah->Prop
structure VI (P:ar) (w:aA) (K:#[7]) (mg:#[P]) (base:aE) (A:az) (outer:#[rc]) (s:ah) (H:Hp):Prop where
 frames:A.frames=U outer
 mod:Mod K mg base
 bs:∀b o,base.get? b=U o->s.heap.get? b=U o/\H b=af
 bsz:base.objs.size<=s.heap.objs.size
 funs:s.heap.FunFrames base outer
 frf:∀b∈frs outer,H b=af
 hok:HOk P w H s.heap
 bare:AllBare s.gens
def CE(outer:#[rc])(P:ar)(w:aA)(H:Hp)(s:ah)(Q:VK)(u:aa)(s':ah):Prop :=
 X2 λv a=>s'.os=s.os/\AllBare s'.gens/\Un (frs outer) [] H a s.heap s'.heap/\HOk P w a s'.heap/\ZH v u/\Q v a
def CR(CX:CXT)(outer:#[rc])(P:ar)(w:aA)(H:Hp)(s:ah)(Q:VK)(E:XK)(r:Result)(s':ah):Prop :=
 match r with
 | .ok (.ret u)=>CE outer P w H s Q u s'
 | .ok _=>False
 | .error e=>CX outer H s E e s'
structure Yu (P:ar) (w:aA) (K:#[7]) (mg:#[P]) (base:aE) (CX:CXT) (k:Nat) (f:ae) (fd:bo) (ps:#[y]) (sp:Sp):Prop where
 len:∀vs H Q E,sp vs H Q E->vs.length=ps.length
 run:∀ (A:az) (outer:List Env) (s:ah) (H:Hp) (args:Args) (us:List aa) (vs:List V) (Q:VK) (E:XK),Y7 k A->VI P w K mg base A outer s H->BindsTo s fd args #[ly]->ZA vs us->sp vs H Q E ->
  aY #[rh] A (.call #[a1] args) (CR CX outer P w H s Q E) s
theorem VI.make{P:ar}{w:aA}{K:#[7]}{mg:#[P]}{base:aE}{A:az}{outer:#[rc]}{s:ah}{H:Hp}(e:#[qr])(C:ae)(us:#[ca])(kw:#[qd]) :
  VI P w K mg base #[lK] outer s H:=⟨by first|exact e.frames|(simpa [az.under,Code.envs,Code.isFrame,pushEnvs] using e.frames),e.mod,e.bs,e.bsz,e.funs,e.frf,e.hok,e.bare⟩
section
variable {X:Cx} {ai:List (ae×aI)} {σ:St} {H:Hp} {s s':ah}
theorem Inv.env0(I:#[l]):VI X.prog X.w X.K X.mg X.base X.A X.stack s H :=
 ⟨I.ok.frames,I.ok.mod,I.bs,QL I.ok.bsz I.sz,I.stack,I.stkFree,I.hok,I.bare⟩
theorem Inv.after{Q:VK}{u:aa}(I:#[l])(h:CE X.stack X.prog X.w H s Q u s'):EP X ai σ Q u s':=by obtain⟨v,e,os,a,un,c,r,q⟩:=h;obtain⟨f,g,d,t,i⟩:=s';obtain rfl:i=s.os:=os;exact⟨v,e,I.call (h':=f) (g':=g) (d':=d) (t':=t) (ch:=[]) un c a (λb z=>absurd z #[4]),r,q⟩
universe E
def Nh(sp:Sp)(a:#[jr])(E:XK)(t:TA):TE:=λb H Q=>t b H λvs c=>sp (vs++a) c Q E
inductive RMt (C:ae) (m:aj) (x:V) (H:Hp) (B:Prop):Prop where
 | mk (a dx:ae) (fs:List (aj×V)) (e:x=.ref a) (g:H a=U (.ins C dx fs)) (l:fs.lookup m=af) (q:B)
def To(C:ae)(m:aj)(sp:Sp)(c:#[jr])(E:XK)(d:TE)(t:TA):TE:=λa H Q=>d a H λx b=>RMt C m x b (t a b λvs e=>sp (x::(vs++c)) e Q E)
def Ng(C:ae)(sp:Sp)(b:#[jr])(E:XK)(t:TA):TE:=λc H Q=>t c H λvs a=>∀x dx,a x=af->a dx=af->dx≠x ->
 sp (.ref x::(vs++b)) #[c8,a,dx,x,C] (λv d=>v=.non/\Q #[p5] d) E
def Yt(K:#[7])(b:bo)(ps:#[y])(ds:#[ca]):Prop :=
 ∀ (s:ah) (a:List aa),K.In s.heap->(a++ds).length=ps.length->BindsTo s b ⟨a,[]⟩ (ps.zip (a++ds))
theorem Yt.all{K:#[7]}{a:bo}{ps:#[y]}(h:∀us:List aa,us.length=ps.length->bindArgs a ⟨us,[]⟩=pure #[ly]):Yt K a ps []:=λs us _ hl=>by rw[QO]at hl ⊢;exact .of_eq (h us hl)
def VH(CX:CXT)(X:Cx)(E:XK):Prop:=∀ (a:List (ae×aI)) (b:St) (H:Hp) (s:ah) (e:aa) (s':ah),Inv X a b H s->CX X.stack H s E e s'->X.xe e s'
section
variable {X:Cx} {CX:CXT} {k:Nat} {f C:ae} {fd:bo} {ps:List aj} {sp:Sp} {dP:List V} {ds:List aa} {E:XK} {x m:aj} {p pos bq:Pos} {e o:aD} {es:List aD} {ta:TE} {t:TA}
theorem RM{b:#[Q]}{c:St}{H:Hp}{s:ah}{Q:VK}{us:#[ca]}{vs:#[jr]}(F:#[15])(g:#[hZ])(hb:#[hj])(hd:ZA dP ds)(hx:#[rD])
  (I:#[eV,b,c]) (r:ZA vs us) (h:sp (vs++dP) H Q E):#[ij] (call #[a1] us) (EP X b c Q) X.xe s:=by
 have d:ZA (vs++dP) (us++ds):=r.append hd;have i:(us++ds).length=ps.length:=by rw[<- d.length];exact F.len _ _ _ _ h
 refine wpAny_call (codeAny_mono (F.run X.A X.stack s H ⟨us,[]⟩ (us++ds) (vs++dP) Q E g I.env0 (hb s us I.kIn i) d h) λr j a=>?_);cases r with
 | error e=>exact hx b c H s e j I a
 | ok l =>
  cases l with
  | ret u=>exact I.after a
  | next=>exact #[j5]
  | brk=>exact #[j5]
  | cont=>exact #[j5]
theorem ZqM(F:#[15])(b:#[hZ])(c:Gl X x)(hm:X.mg x=U #[a1])(hk:#[pb,X.K])(hb:#[hj])(hd:ZA dP ds)(hx:#[rD])
  (ha:#[cq]) (d:#[A]:=by decide) (he:#[t]:=by rfl) (g:#[U]:=by rfl) :
  PE X #[50] (Nh sp dP E t):=by
 show#[mV];refine PySem.W.callWith_K (h₀:=X.base) I.ok.mod.kin hk #[g9] he g;exact RM F b hb hd hx a r q
theorem ZqD{pl:Sem Bool}(he:#[rJ])(c:#[pL])(hm:Vo X.K C m f)(F:#[15])(n:#[hZ])(hb:#[hj])(hd:ZA dP ds)(hx:#[rD])(ha:#[cq])
  (p:#[t]:=by rfl) (v:#[U]:=by rfl)
  (w:eval #[aj] X.env=(do
   let b <- eval o X.env
   standAt bq.atName
   let (f,first) <- holding [b] (getMethod b m pl)
   callWith pos f first (bu pos #[m9]) #[dS,pos]):=by rfl) :
  PE X #[aj] (To C m sp dP E ta t):=by
 show#[dP,d,g,Q];refine PySem.W.methodCall_KW (pl:=pl) #[cN,he,d,g] w;rintro u y ⟨x,z,i,A,a,dx,fs,ex,B,l,q⟩;subst ex;obtain rfl:u=aa.ref a:=A;refine Nk i B c hm l ?_;refine PySem.W.callWith_K (first:=#[iF]) (h₀:=X.base) I.ok.mod.kin hm.kp (thn (ha pos d y g z _ i q) λus s2 ⟨vs,H2,j,r,D⟩=>⟨j.kIn,?_⟩) p v;exact RM (us:=.ref a::us) (vs:=.ref a::vs) F n hb hd hx j (.cons rfl r) D
theorem Zod{pl:Sem Bool}(he:#[rJ])(c:#[pL])(hm:Vo X.K C m f)(F:#[15])(e:#[hZ])(hb:#[hj])(hd:ZA dP ds)(hx:#[rD])
  (ht:eval #[aV] X.env=(do
   let d <- eval o X.env
   standAt bq.atName
   let (f,first) <- holding [d] (getMethod d m pl)
   callWith pos f first (bu pos (aF [] X.env)) #[dS,pos]):=by rfl) :
  PE X #[aV] (To C m sp dP E ta RN):=by
 show#[dP,g,i,Q];refine PySem.W.methodCall_KW (pl:=pl) #[cN,he,g,i] ht;rintro u s1 ⟨x,H1,b,j,a,dx,fs,ex,n,l,q⟩;subst ex;obtain rfl:u=aa.ref a:=j;refine Nk b n c hm l ?_;exact PySem.W.callWith_K0 (first:=#[iF]) b.kIn hm.kp (RM (us:=#[iF]) (vs:=#[iF]) F e hb hd hx b (.cons rfl .nil) q)
structure Mk (K:#[7]) (C f:ae):Prop where
 makes:PySem.W.makesIn K C=true
 init:PySem.W.findIn K #[aU] "__init__" = U #[r4]
 fn:PySem.W.isFn K #[a1]=true
 kp:PySem.W.keepIn K #[aU]=true
theorem Zox{c:#[Q]}{d:St}{H:Hp}{s:ah}{Q:VK}{us:#[ca]}{vs:#[jr]}(M:Mk X.K C f)(F:#[15])(j:Y7 (k+1) X.A)(hb:#[hj])(hd:ZA dP ds)
  (hx:#[rD]) (I:#[eV,c,d]) (r:ZA vs us)
  (h:∀x dx,H x=af->H dx=af->dx≠x->sp (.ref x::(vs++dP)) #[c8,H,dx,x,C] (λv l=>v=.non/\Q #[p5] l) E) :
  #[ij] (call #[aU] us) (EP X c d Q) X.xe s:=by
 have g:=h #[C] s.heap.objs.size (I.hok.fresh (Qaq _)) #[ay] (QK #[lI]);have b:=Inv.made (C:=C) I;have i:ZA (V.ref #[C]::(vs++dP)) #[tl]:=.cons rfl (r.append hd);have m:(aa.ref #[C]::us++ds).length=ps.length:=by have e:=i.length;rw[F.len _ _ _ _ g]at e;exact e.symm
 refine wpAny_call (Zpq (f:=f) I.kIn M.makes M.init (beq_iff_eq.mp M.fn) (codeAny_mono (F.run _ X.stack _ _ ⟨aa.ref #[C]::us,[]⟩ #[tl] _ _ E (j.make C us [])
  (b.env0.make C us []) (hb _ (aa.ref #[C]::us) b.kIn m) i g) λr n a=>?_))
 cases r with
 | error e=>exact hx c d _ _ e n b a
 | ok o =>
  cases o with
  | ret u=>obtain⟨v,p,q,t,w,q3⟩:=b.after a;subst w;exact⟨t,⟨V.ref #[C],p,q,rfl,q3⟩⟩
  | next=>exact #[j5]
  | brk=>exact #[j5]
  | cont=>exact #[j5]
theorem ZqP(M:Mk X.K C f)(F:#[15])(b:Y7 (k+1) X.A)(c:Gl X x)(hm:X.mg x=U #[aU])(hb:#[hj])(hd:ZA dP ds)(hx:#[rD])
  (ha:#[cq]) (d:#[A]:=by decide) (he:#[t]:=by rfl) (g:#[U]:=by rfl) :
  PE X #[50] (Ng C sp dP E t):=by
 show#[mV];refine PySem.W.callWith_K (h₀:=X.base) I.ok.mod.kin M.kp #[g9] he g;exact Zox M F b hb hd hx a r q
universe E
section
variable {X:Cx} {CX:CXT} {k:Nat} {f C:ae} {fd:bo} {ps ks:List aj} {sp:Sp} {E:XK} {x m:aj} {p pos bq mV:Pos} {e o:aD} {es:List aD} {kws:List Keyword} {te ta:TE} {t tk:TA} {nm:Option aj}
structure KBinds (K:#[7]) (fd:bo) (ps ks:#[y]) (g:List aa->List aa->List aa) (gV:List V->List V->List V):Prop where
 to:∀ (s:ah) (us ws:List aa),K.In s.heap->(g us ws).length=ps.length->BindsTo s fd ⟨us,ks.zip ws⟩ (ps.zip (g us ws))
 rel:∀ {vs:List V} {us:List aa} {zs:List V} {ws:List aa},ZA vs us->ZA zs ws->ZA (gV vs zs) (g us ws)
variable {g:List aa->List aa->List aa} {gV:List V->List V->List V}
universe E
structure Zr (N P:#[y]) (sc:aS):Prop where
 kind:sc.kind=.function
 co:sc.isCoroutine=false
 gen:sc.isGenerator=false
 nd:N.Nodup
 pre:N.take P.length=P
 par:∀x∈P,sc.names.lookup x=U .local\/sc.names.lookup x=U .cell
 nofree:∀y∈sc.names,y.2≠.free
theorem Nd{kindOf:#[pA]}{x:aj}:∀ {binds:List (aj×aa)} {m:aj->Option aa},(∀v,(x,v) ∉ binds)->bindL kindOf binds m x=m x
 | [],_,_=>rfl
 | (n,v)::r,m,h=>by
  unfold bindL;rw[Nd λw hw=>h w (Qu _ hw)];split
  ·have:x≠n:=by rintro rfl;exact h v QV
   simp[this]
  ·rfl
theorem Nc{kindOf:#[pA]}{x:aj}:∀ {binds:List (aj×aa)} {m:aj->Option aa},(∀v,(x,v) ∉ binds)->bindC kindOf binds m x=m x
 | [],_,_=>rfl
 | (n,v)::r,m,h=>by
  unfold bindC;rw[Nc λw hw=>h w (Qu _ hw)];split
  ·rfl
  ·have:x≠n:=by rintro rfl;exact h v QV
   simp[this]
theorem Nb{kindOf:#[pA]}{x:aj}{v:aa}:∀ {P:List aj} {vs:List aa} {i:Nat} {m:aj->Option aa},P.Nodup->P[i]? = U x->vs[i]? = U v->kindOf x=U .local ->
  bindL kindOf (P.zip vs) m x=U v
 | [],_,_,_,_,h,_,_=>by simp at h
 | _::_,[],_,_,_,_,h,_=>by simp at h
 | p::P,w::vs,0,m,nd,h1,h2,hk=>by simp at h1 h2;subst h1;subst h2;show bindL kindOf #[jP] m p=_;unfold bindL;rw[Nd λv a=>(Q0.mp nd).1 (List.of_mem_zip a).1,if_pos hk];simp
 | p::P,w::vs,i+1,m,nd,h1,h2,hk=>by show bindL kindOf #[jP] m x=_;unfold bindL;exact Nb (i:=i) (Q0.mp nd).2 #[cG,h1] #[cG,h2] hk
theorem Na{kindOf:#[pA]}{x:aj}{v:aa}:∀ {P:List aj} {vs:List aa} {i:Nat} {m:aj->Option aa},P.Nodup->P[i]? = U x->vs[i]? = U v->kindOf x≠U .local ->
  bindC kindOf (P.zip vs) m x=U v
 | [],_,_,_,_,h,_,_=>by simp at h
 | _::_,[],_,_,_,_,h,_=>by simp at h
 | p::P,w::vs,0,m,nd,h1,h2,hk=>by simp at h1 h2;subst h1;subst h2;show bindC kindOf #[jP] m p=_;unfold bindC;rw[Nc λv a=>(Q0.mp nd).1 (List.of_mem_zip a).1,if_neg hk];simp
 | p::P,w::vs,i+1,m,nd,h1,h2,hk=>by show bindC kindOf #[jP] m x=_;unfold bindC;exact Na (i:=i) (Q0.mp nd).2 #[cG,h1] #[cG,h2] hk
noncomputable def WX(N:#[y])(vs:#[jr]):St:=vs.map U++List.replicate (N.length-vs.length) af
noncomputable def Wn(CX:CXT)(P:ar)(w:aA)(K:#[7])(mg:#[P])(base:aE)(N:#[y])(a:aj)(b:aS)(f:ae)(c:aa)(A:az)(outer:#[rc])(s:ah)(H:Hp)(E:XK):Cx where
 prog:=P
 w:=w
 K:=K
 mg:=mg
 base:=base
 A:=A.deeper #[gP]
 N:=N
 s₀:=s
 H₀:=H
 env:=envOfC a b s.heap.objs.size f c
 outer:=outer
 stack:=envOfC a b s.heap.objs.size f c::outer
 ex:=[]
 calm:=true
 fn:=λ_=>true
 pn:=[]
 xe:=λe g=>aw #[rh] (A.deeper #[gP]) (leaving #[gP] e) (λ_ d=>CX outer H s E e d) (λh d=>CX outer H s E h d) g
theorem MZ{a:aS}{n:Nat}{x:aj}(h:a.names.lookup x=U .cell):∃c,(cellsFrom n a.names []).lookup x=U c:=by have q:=PySem.W.cellsFrom_some a.names n [] (.inl h);exact Option.isSome_iff_exists.mp q
theorem ZmH{CX:CXT}{P:ar}{w:aA}{K:#[7]}{mg:#[P]}{base:aE}{N ps:#[y]}{m:aj}{j:aS}{f:ae}{o:aa}{A:az}{outer:#[rc]}{s D:ah}{H:Hp}{E:XK}{us:#[ca]}{vs:#[jr]}
  (S:Zr N ps j) (hd:#[ir]) (g:#[qr]) (hl:vs.length=ps.length) (r:ZA vs us)
  (x:InCallC s s.heap.objs.size (bindL #[mf].kindOf #[ly] λ_=>af) (cellsFrom #[C] j.names []) (bindC #[mf].kindOf #[ly] λ_=>af) D) :
  Inv #[iX] [] #[mk] H D:=by
 have cW:ps.length<=N.length:=by have:=#[cO,S.pre];rw[QC]at this;lia
 obtain⟨t,tk,rfl,F⟩:=x.done;have C:∀b:ae,b ∉ #[iX].ex:=λb z=>absurd #[nO,z] #[4];refine⟨⟨g.mod,S.kind,rfl,rfl,Qh _,λy z c t d=>?_,λy hy=>?_,λy c _ h=>?_,λ_=>hd,az.frames_deeper g.frames,.inr #[aR],λb z=>absurd z (C b),g.bs,g.bsz,λb _ _=>C b,λb z=>absurd z (C b),g.funs,g.frf⟩,
  rfl,g.bare,Un.kept F,⟨_,x.toInCall.ns,λi y v t d h3=>?_⟩,λy c h=>⟨_,x.cell y c h⟩,g.hok.fresh #[gp],λy c h=>?_,λp l=>absurd (show p∈#[i6] from l) #[4],g.hok.kept F,?_⟩
 ·exact name_of_addr x.apart (Qam t) (Qam d)
 ·have hy:#[oB,j.names.lookup,y]:=hy;rcases hy with hy|hy
  ·exact MZ hy
  ·exact absurd rfl (S.nofree _ (Qam hy))
 ·exact QaG (x.above y c (Qam h))
 ·have B:i<vs.length:=by
   unfold WX at d;by_cases B:i<vs.length
   ·exact B
   ·rw[QW #[cG,B]]at d;rw[List.getElem?_replicate]at d;split at d<;>cases d
  have J:vs[i]? = U v:=by
   unfold WX at d;rw[QX #[cG,B],Ql]at d;cases e:vs[i]? with
   | none=>rw[e]at d;cases d
   | some a=>rw[e]at d;cases d;rfl
  show#[nB,u,G,L,r.get,J];have l:ps[i]? = U y:=by rw[<- S.pre,List.getElem?_take_of_lt #[2]];exact t
  have I:ps.Nodup:=by rw[<- S.pre];exact S.nd.sublist #[jI]
  refine⟨u,L,?_⟩;rcases S.par y (Qo l) with k|k
  ·exact .inl ⟨k,Nb I l G k⟩
  ·obtain⟨c,e⟩:=MZ (n:=s.heap.objs.size+1) k;refine .inr ⟨.inl k,c,e,?_⟩;have q:=x.cell y c e;rw[Na I l G (by show j.names.lookup y≠_;rw[k];decide)]at q;exact q
 ·exact g.hok.fresh (QaG (x.above y c (Qam h)))
 ·unfold WX;show _=N.length;rw[Qf,Qa,List.length_replicate];lia
theorem ZtQ{CX:CXT}{P:ar}{w:aA}{K:#[7]}{mg:#[P]}{base:aE}{k:Nat}{f:ae}{name d:aj}{C:Arguments}{m:#[qG]}{a:aS}{D kV F pm g ct O:aa}{G R:#[md]}
  {T:#[hD]} {N ps:#[y]} {sp:Sp} (lk:K.lookup f=U ⟨O,R,.func #[i7],T⟩) (W:PySem.W.codeIn K g d=true) (S:Zr N ps a)
  (len:#[38])
  (X:∀ (A:az) (outer:List Env) (s:ah) (H:Hp) (vs:List V) (Q:VK) (E:XK),Y7 k (A.deeper (envOfC d a s.heap.objs.size f g))->sp vs H Q E ->
   ∃t,PSs #[bT] m t/\t { nx:=λ_ c=>Q .non c,rt:=Q } #[mk] H) :
  Yu P w K mg base CX (k+1) f #[i7] ps sp:=by
 refine⟨len,λA outer s H args Y vs Q E p i Z r L=>?_⟩;have hl:=len _ _ _ _ L;have KX:#[pK]:=i.mod.kin.keeps λb o e=>(i.bs b o e).1;have zg:s.heap.NoLimit:=i.mod.nolimit.keeps λb o e=>(i.bs b o e).1;have qP:∀y∈ps.zip Y,a.names.lookup y.1=U .local\/(a.names.lookup y.1=U .cell/\((cellsFrom #[C] a.names []).lookup y.1).isSome=true):=λ⟨n,v⟩ hy=>by
  rcases S.par n (List.of_mem_zip hy).1 with q|q
  ·exact .inl q
  ·exact .inr ⟨q,PySem.W.cellsFrom_some _ _ _ (.inl q)⟩
 refine codeAny_call_function p.depth (KX _ _ lk) rfl S.co S.gen rfl (PySem.W.codeRec_of KX W) (Z _ _ _ _ ?_);refine wpAny_newFunctionEnv_cells S.kind qP λenv he M x=>?_;subst he;refine⟨zg.keeps x.toInCall.keep,codeAny_func ?_⟩;obtain⟨t,ht,hq⟩:=X A outer s H vs Q E (p.deeper _) L;have I:Inv #[bT] [] #[mk] H M:=ZmH S p.hd i hl r x;refine bD (ht [] M #[mk] H _ I hq) #[oW,fl,z,h] λe z h=>h;have j:∀ {l:St} {c:Hp} {v:V} {u:aa},Inv #[bT] [] l c z->ZH v u->Q v c->CE outer P w H s Q u z :=
  λ{l c v u} J B q=>⟨v,c,J.os,J.bare,J.base,J.hok,B,q⟩
 cases fl with
 | ret u=>obtain⟨v,l,c,J,B,q⟩:=h;exact j J B q
 | next=>obtain⟨l,c,J,q⟩:=h;exact j (v:=V.non) (u:=aa.none) J rfl q
 | brk=>obtain⟨_,_,_,q⟩:=h;exact False.elim q
 | cont=>obtain⟨_,_,_,q⟩:=h;exact False.elim q
section
variable {X:Cx} {x:aj} {p pos:Pos} {e:aD} {es:List aD} {t:TA} {id T:String} {r:List V->Hp->VK->Prop}
def tCB(r:List V->Hp->VK->Prop)(t:TA):TE:=λa H Q=>t a H λvs b=>r vs b Q
theorem Zk(hc:YT X #[c3,id] r)(c:Gl X x)(hm:X.mg x=af)(d:ci x=U #[c3,id])(ha:#[cq])(f:#[h8]:=by decide)(g:#[A]:=by decide)
  (i:#[t]:=by rfl) (j:#[U]:=by rfl):PE X #[50] (tCB r t):=by
 show#[lb];exact PyProof.Rows.callWith_builtin1 #[gN] i j
theorem XQ(hc:YT X (.type T) r)(c:Gl X x)(hm:X.mg x=af)(d:ci x=U (.type T))(ha:#[cq])(f:#[h8]:=by decide)(g:#[A]:=by decide)
  (i:#[t]:=by rfl) (j:#[U]:=by rfl):PE X #[50] (tCB r t):=by
 show#[lb];exact Qan #[gN] i j
universe E
universe E.L2
namespace HT
open PySem PyProof.Rows
section
variable {prog:ar} {w:aA} {A:az} {E:aa->ah->Prop} {s:ah}
theorem cat_tup{t b:ae}{vs ws:#[ca]}{Q:#[D]}(ht:#[tN,t,vs.toArray])(hb:#[tN,b,ws.toArray])(f:vs≠[])
  (h1:ws=[]->Q #[i9] s) (h2:ws≠[]->Q #[bf] { s with heap:=s.heap.push { cls:=.type "tuple",data:=.seq (vs++ws).toArray } })
  (d:vs.length+ws.length<=aq):aw #[j] A (binaryOp .Add #[i9] #[p6]) Q E s:=by
 obtain⟨⟨cls,g,data,h⟩,a,i,n,j⟩:=id ht;obtain⟨⟨qa,k,data2,l⟩,c,m,o,p⟩:=id hb;simp only at i j m p;subst i j m p;have e:vs.toArray++ws.toArray=(vs++ws).toArray:=by simp
 by_cases hw:ws=[]
 ·exact concat_meets ⟨_,a,rfl⟩ ⟨_,c,rfl⟩ noFill_tuple_add seq_tuple_add PySem.F.slot_tuple_add PySem.F.entry_tuple_add #[pp]
   (tuple_addW1 t b vs.toArray ws.toArray n o g k h l #[cG,f] (by simp[hw])) ⟨a,c,h1 hw⟩
 ·refine concat_meets ⟨_,a,rfl⟩ ⟨_,c,rfl⟩ noFill_tuple_add seq_tuple_add PySem.F.slot_tuple_add PySem.F.entry_tuple_add #[pp]
   (tuple_addW2 t b vs.toArray ws.toArray n o g k h l #[cG,f] #[cG,hw] (by rw[Qy,Qy];exact d)) ⟨a,c,?_⟩
  rw[e];exact h2 hw
noncomputable def sIx(n d:Nat):Option Int->Nat
 | none=>d
 | some v=>if v<0 then (v+(n:Int)).toNat else min v.toNat n
universe E
universe E.HT
namespace L2
open PySem PySem.Spec PyProof.Rows
abbrev TO:=St->Hp->(Option Int->Hp->Prop)->Prop
def PO(X:Cx)(e:Option aD)(t:TO):Prop :=
 ∀ (b:List (ae×aI)) (s:ah) (a:St) (H:Hp) (Q:Option Int->Hp->Prop),Inv X b a H s->t a H Q ->
  #[ij] (evalPart e X.env) (λu d=>X2 λo c=>Inv X b a c d/\IsPart u o/\Q o c) X.xe s
def ZqE:TO:=λ_ H Q=>Q af H
def ZtN(t:TE):TO:=λa H Q=>t a H λx b=>EA (λi=>x=.int i) (λi=>Q (U i) b)
theorem Zkm{ns:#[i]}:∀ {us:List aa},ZA #[z] us->IntsAre us ns:=by
 induction ns with
 | nil=>intro us r;show#[oz,Qar,r];exact .nil
 | cons n ns a =>
  intro us r;rw[Qj]at r;cases r with
  | cons b c=>obtain⟨t,e⟩:=b;subst e;exact .cons n t (a c)
section
variable {X:Cx} {e:aD} {te:TE} {lo hi:Option aD} {tl th:TO} {pos p2:Pos}
theorem MY:PO X af ZqE:=by intro ai s σ H Q I h;rw[evalPart_none];exact au ⟨af,H,I,.none,h⟩
theorem Tn(h:PE X e te):PO X (U e) (ZtN te):=by intro a s b H Q I hw;rw[evalPart_some];refine thn (h a s b H _ I hw) ?_;rintro u s1 ⟨x,c,d,f,g⟩;obtain⟨i,rfl,q⟩:=g;obtain⟨t,rfl⟩:=f;exact⟨U i,c,d,.int i t,q⟩
def SlR(X:Cx)(r:#[f0]):Prop :=
 ∀ (a:List (ae×aI)) (s:ah) (b:St) (H:Hp) (x:V) (v c d:aa) (lo hi:Option Int) (e:ae) (Q:VK),Inv X a b H s->ZH x v->s.heap.IsSliceOf e c d .none->IsPart c lo->IsPart d hi->r x lo hi H Q ->
  X2 λT id=>typeLookup (.type T) "__getitem__" = pure (U #[c3,id])/\s.TypeIs v T/\#[ij] (getItem v (.ref e)) #[hn] X.xe s
def tSl(r:#[f0])(te:TE)(tl th:TO):TE:=λa H Q=>te a H λx b=>tl a b λl c=>th a c λu d=>r x l u d Q
theorem RL{r:#[f0]}(j:SlR X r)(he:PE X e te)(hl:PO X lo tl)(hu:PO X hi th):PE X (.Subscript e (.Slice lo hi af p2) pos) (tSl r te tl th):=by intro c s d H Q I h;refine Subscript_ #[cN,he,c,d];rintro v k ⟨x,m,n,o,p⟩;refine wpAny_Slice (thn (hl c k d m _ n p) λf t ⟨l,w,y,z,A⟩=>thn (hu c t d w _ y A) ?_);rintro g a ⟨u,i,B,C,q3⟩;rw[evalPart_none];refine au ?_;have D:Inv X c d i { a with heap:=a.heap.push { cls:=.type "slice",data:=.fields #[f,g,.none] } }:=B.kept (t':=a.toks) λb ob q=>Qi _ q;obtain⟨T,id,E,F,G⟩:=j c { a with heap:=a.heap.push { cls:=.type "slice",data:=.fields #[f,g,.none] } } d i x v f g l u a.heap.objs.size Q D o (aE.IsSliceOf.new ..) z C q3;show #[ij] (subscriptTail e (.Slice lo hi af p2) v (.ref a.heap.objs.size)) (EP X c d Q) X.xe { a with heap:=a.heap.push { cls:=.type "slice",data:=.fields #[f,g,.none] } };exact tail_any (ops:=[.ref a.heap.objs.size,v]) F E G #[id]
noncomputable def WI(xs:#[jr])(lo hi:#[bb]):List V:=(xs.drop (HT.sIx xs.length 0 lo)).take #[nr,xs.length,hi]
theorem Zjn(xs:#[jr])(lo hi:#[bb]):(WI xs lo hi).length<=xs.length:=by unfold WI;rw[QC,Q7];lia
def Ztv(K:#[7]):R2:=λx y H Q=>X4 λa b xs ys=>x=.ref a/\y=.ref b/\SqT K H a xs/\SqT K H b ys/\xs≠[]/\xs.length+ys.length<=aq /\
 (ys=[]->Q #[61] H)/\(ys≠[]->∀p,H p=af->Q #[gY] (upd H p (.tup (xs++ys))))
theorem ZA.nil_iff{xs:#[jr]}{us:#[ca]}(r:ZA xs us):us=[]↔xs=[]:=by
 cases r with
 | nil=>simp
 | cons _ _=>simp
theorem Zp3:OpR X #[lD] (Ztv X.K):=by intro ai s σ H x y v u Q I f g h;obtain⟨a,b,i,j,rfl,rfl,k,l,m,e,n,p⟩:=h;cases f;cases g;obtain⟨its,d,r,_⟩:=I.tuple k;obtain⟨dN,c,p2,_⟩:=I.tuple l;refine HT.cat_tup r p2 (λz=>m (d.nil_iff.mp z)) (λz=>⟨.ref a,H,I,rfl,n (c.nil_iff.mp z)⟩) (λz=>?_) (by rw[<- d.length,<- c.length];exact e);refine⟨.ref s.heap.objs.size,_,I.laid (t':=#[tj]) (o:=.tup (i++j)) #[nC,ob,q] #[gp] ?_,rfl,p (λw=>z (c.nil_iff.mpr w)) _ #[ay]⟩;exact⟨by rw[Qf];exact e,_,d.append c,IsTup.new _ _⟩
universe E
noncomputable def ixN(n:Nat)(i:Int):Option Nat:=if 0<=i then (if i<n then U i.toNat else af) else if -(n:Int)<=i then U (i+n).toNat else af
noncomputable def atI{α:Type}(xs:List α)(i:Int):Option α:=(ixN xs.length i).bind λj=>xs[j]?
theorem MX{n:Nat}{i:Int}{j:Nat}(h:ixN n i=U j):seqIndex? i n=U j/\j<n /\ -(n:Int)<=i/\i<n:=by
 unfold ixN at h;by_cases b:0<=i
 ·show#[n3,b,h];by_cases a:i<n
  ·show#[n3,a,h];have e:i.toNat=j:=Qk h;exact⟨by rw[seqIndex_of b a,e],by lia,by lia,a⟩
  ·show#[fx,a,h];cases h
 ·show#[fx,b,h];by_cases a:-(n:Int)<=i
  ·show#[n3,a,h];have e:(i+n).toNat=j:=Qk h;exact⟨by rw[seqIndex_neg #[2] a,e],by lia,a,by lia⟩
  ·show#[fx,a,h];cases h
theorem RK{α:Type}{xs:List α}{i:Int}{v:α}(h:atI xs i=U v):∃j,seqIndex? i xs.length=U j/\xs[j]? = U v/\j<xs.length /\ -(xs.length:Int)<=i/\i<xs.length:=by
 unfold atI at h;cases e:ixN xs.length i with
 | none=>rw[e]at h;cases h
 | some j=>rw[e]at h;obtain⟨a,b,c,d⟩:=MX e;exact⟨j,a,h,b,c,d⟩
theorem Yz{α:Type}{xs:List α}{j:Nat}{v:α}(h:xs[j]? = U v):atI xs (j:Int)=U v:=by
 have hj:j<xs.length:=(Qc.mp h).1;have e:ixN xs.length (j:Int)=U j:=by unfold ixN;show#[fe,#[2]];simp
 unfold atI;rw[e];exact h
theorem ZnT{α:Type}(xs:List α)(v:α):atI (xs++[v]) (-1)=U v:=by
 have a:(xs++[v]).length=xs.length+1:=by simp
 have e:ixN (xs++[v]).length (-1)=U xs.length:=by unfold ixN;rw[a,if_neg #[6],if_pos #[2]];congr 1;lia
 unfold atI;rw[e];show (xs++[v])[xs.length]? = U v;simp
def Zqo(b:aD):Prop:=∀o i,subscripted b false o i=operate [o,i] (getItem o i)
def IxR(X:Cx)(r:R2):Prop :=
 ∀ (value a:aD) (b:List (ae×aI)) (s:ah) (c:St) (H:Hp) (x y:V) (v u:aa) (Q:VK),Inv X b c H s->ZH x v->ZH y u->r x y H Q ->
  subscripted a false v u=operate [v,u] (getItem v u)->#[ij] (subscriptTail value a v u) (EP X b c Q) X.xe s
def MtR(X:Cx)(id:String)(r:#[gU]):Prop :=
 ∀ (a:List (ae×aI)) (s:ah) (b:St) (H:Hp) (x:V) (c:List V) (v:aa) (d:List aa) (Q:VK),Inv X a b H s->ZH x v->ZA c d->r x c H Q ->
  #[ij] (call #[c3,id] (v::d)) #[hn] X.xe s
section
variable {X:Cx} {a b:aD} {ta tb:TE} {pos:Pos}
theorem Zx{r:R2}(c:IxR X r)(ha:#[jB])(hb:#[pH])(d:Zqo b):PE X (.Subscript a b pos) #[pQ]:=by intro e s f H Q I h;exact Subscript_ (RU ha hb I h λv u g x y i j k l q=>c a b e g f i x y v u Q j k l q (d _ _))
inductive RIx (S:ae->List V->Prop) (x y:V) (B:V->Prop):Prop where
 | mk (p:ae) (xs:List V) (i:Int) (v:V) (a:x=.ref p) (b:y=.int i) (c:S p xs) (d:atI xs i=U v) (q:B v)
def MW(K:#[7]):R2:=λx y H Q=>RIx (SqL K H) x y (λv=>Q v H)
def MV(K:#[7]):R2:=λx y H Q=>RIx (SqT K H) x y (λv=>Q v H)
def Zub:R2:=λx y H Q=>X3 λz i c=>x=.str z/\y=.int i/\z.length<=aq/\atI z.cps.toList i=U c/\Q (.str #[pd]) H
theorem Zqf:IxR X (MW X.K):=by
 intro value dA e s f H x y v u Q I m n h g;obtain⟨p,xs,i,z,rfl,rfl,o,A,q⟩:=h;cases m;show#[dd,t,n];show#[ei,r,c,hz,I.list,o];obtain⟨j,b,B,h3,C,D⟩:=RK A;show#[nB,w,k,E,r.get,B];have F:=r.length;have hn:=Vp;have a:EP X e f Q w s:=⟨z,H,I,E,q⟩;by_cases l:0<=i
 ·have d:i.toNat=j:=by rw[seqIndex_of l D]at b;exact Qk b
  exact item_listR c.isList l #[2] #[sC] a g
 ·have d:(i+(its.toArray.size:Int)).toNat=j:=by rw[seqIndex_neg #[2] C]at b;rw[Qy,<- F];exact Qk b
  exact subscriptTail_builtinR (x:=w) c.isList.typeIs slot_list_getitem.lookup
   (wpAny_getItem_list_neg (Q:=λr G=>r=w/\EP X e f Q r G) c.isList #[2] (by rw[Qy]<;>lia) #[2] #[sC] ⟨rfl,a⟩) g
theorem Zrl:IxR X (MV X.K):=by
 intro value dA b s c H x y v u Q I e f h g;obtain⟨p,xs,i,z,rfl,rfl,k,l,q⟩:=h;cases e;show#[dd,t,f];show#[ei,r,d,hz,I.tuple,k];obtain⟨j,m,n,h3,h4,h5⟩:=RK l;show#[nB,w,o,A,r.get,n];have B:=r.length;have hn:=Vp;have a:EP X b c Q w s:=⟨z,H,I,A,q⟩;exact subscriptTail_builtinR (x:=w) d.typeIs slot_tuple_getitem.lookup
  (getItem_tuple (j:=j) (Q:=λr C=>r=w/\EP X b c Q r C) d #[2] #[2] (by rw[Qy,<- B];exact m) #[cG,o] ⟨rfl,a⟩) g
theorem UD:IxR X Zub:=by
 intro value dA ai s σ H x y v u Q I b d h e;obtain⟨z,i,c,rfl,rfl,hz,f,q⟩:=h;show#[dd,t,b];show#[dd,t',d];obtain⟨j,a,g,h3,k,l⟩:=RK f;have m:#[qm]:=by simp[aj.length]
 rw[m]at a k l;have hn:=Vp;exact tail_any (typeIs_str s z t) slot_str_getitem.lookup (getItem_str (c:=c) (by have n:decide (i < -(2 ^ 63:Int))=false:=#[lj];have o:decide (i>=2 ^ 63)=false:=#[lj];rw[n,o,Bool.or_false]) (by rw[a];simpa using g) ⟨.str #[pd],H,I.tok _,#[H],q⟩) e
theorem Zj8(its:#[ca])(n j:Nat)(u:aa):aI.mapSeq (·.setIfInBounds j u) { cls:=.type "list",data:=.seq its.toArray n }={ cls:=.type "list",data:=.seq (its.set j u).toArray n }:=by simp[aI.mapSeq]
theorem Inv.lst{a:#[Q]}{b:St}{H:Hp}{s:ah}{p:ae}{xs:#[jr]}(I:#[eV,a,b])(h:H p=U #[ha]) :
  X2 λ(its:List aa) (n:Nat)=>ZA xs its/\s.heap.get? p=U { cls:=.type "list",data:=.seq its.toArray n }/\xs.length<=aq:=by
 obtain⟨z,its,n,r,e⟩:=I.hok p _ h;exact⟨its,n,r,e,z⟩
theorem Inv.lstUpd{c:#[Q]}{d:St}{H:Hp}{s:ah}{p:ae}{xs ys:#[jr]}{its its':#[ca]}{n a:Nat}{f:aI->aI}(I:#[eV,c,d])(h:H p=U #[ha])
  (i:#[eW,p,its.toArray]) (g:f { cls:=.type "list",data:=.seq its.toArray n }={ cls:=.type "list",data:=.seq its'.toArray a }) (r:ZA ys its') (hz:ys.length<=aq) (t:Nat) :
  Inv X c d #[oV,p] { s with heap:=s.heap.update p f,toks:=t }:=by
 have e:(s.heap.update p f).get? p=U { cls:=.type "list",data:=.seq its'.toArray a }:=by rw[aE.get?_update_self f i (by rw[g]<;>rfl),g]
 refine I.write (x:=p) (e:=p) (by rw[h];trivial) #[8] (λb u j q=>(aE.get?_update_other _ _ (Ne.symm j)).trans q) ⟨_,e⟩ ?_;exact⟨hz,its',a,r,e⟩
def Ztt:V->V->V->Hp->(Hp->Prop)->Prop:=λo i v H Q=>X4 λp xs k j=>o=.ref p/\i=.int k/\H p=U #[ha]/\ixN xs.length k=U j/\Q (upd H p (.lst (xs.set j v)))
theorem MU:UI X Ztt:=by
 intro w s x H o i v ov iv u Q I y z A h;obtain⟨p,B,k,j,rfl,rfl,e,C,q⟩:=h;cases y;show#[dd,t,z];obtain⟨its,n,r,b,D⟩:=I.lst e;obtain⟨a,h2,f,g⟩:=MX C;have c:=r.length;have hn:=Vp;have l:Inv X w x (upd H p (.lst (B.set j v))) { s with heap:=s.heap.update p (aI.mapSeq (·.setIfInBounds j u)) } :=
  I.lstUpd e b (Zj8 its n j u) (r.set A j) #[cL,List.length_set,D] s.toks
 by_cases m:0<=k
 ·have d:k.toNat=j:=by rw[seqIndex_of m g]at a;exact Qk a
  exact PySem.W.ki_setAt b m #[2] (by rw[Qy,<- c];exact g) #[qP]
 ·have d:(k+(its.toArray.size:Int)).toNat=j:=by rw[seqIndex_neg #[2] f]at a;rw[Qy,<- c];exact Qk a
  exact PySem.W.ki_setBack b #[2] (by rw[Qy,<- c];exact f) #[2] #[qP]
theorem ZiD(lo a:#[bb])(n:Nat):#[tg].1=((HT.sIx n 0 lo:Nat):Int)/\#[tg].2.1=((HT.sIx n n a:Nat):Int)/\#[tg].2.2=1:=by
 refine⟨?_,?_,rfl⟩
 ·cases lo with
  | none=>simp[cx,HT.sIx]
  | some i =>
   show#[gS];by_cases h:i<0
   ·simp only[h,if_true]<;>lia
   ·simp only[h,if_false]<;>lia
 ·cases a with
  | none=>simp[cx,HT.sIx]
  | some i =>
   show#[gS];by_cases h:i<0
   ·simp only[h,if_true]<;>lia
   ·simp only[h,if_false]<;>lia
theorem Zg5(its:#[ca])(lo a:#[bb]):slicePick its.toArray lo a af=((its.drop (HT.sIx its.length 0 lo)).take #[nr,its.length,a]).toArray:=by obtain⟨b,c,d⟩:=ZiD lo a its.toArray.size;unfold slicePick;rw[b,c,d];simp only[sliceRange_one,pick_run,List.size_toArray]<;>rfl
inductive RSl (K:#[7]) (x:V) (lo hi:#[bb]) (H:Hp) (B:ae->Hp->Prop):Prop where
 | mk (a:ae) (xs:List V) (e:x=.ref a) (s:SqL K H a xs) (q:∀p,H p=af->B p (upd H p (.lst (WI xs lo hi))))
def MT(K:#[7]):V->Option Int->Option Int->Hp->VK->Prop:=λx lo a H Q=>RSl K x lo a H λp b=>Q #[gY] b
theorem Zql:SlR X (MT X.K):=by intro ai s σ H x v vl vu lo d sl Q I f g i j h;obtain⟨a,c,rfl,k,q⟩:=h;cases f;obtain⟨its,r,e,l⟩:=I.list k;have m:=r.length;refine⟨"list",_,slot_list_getitem.lookup,e.isList.typeIs,?_⟩;refine wpAny_getItem_list_slice e.isList g i j .none #[4] ?_ (by rw[Qy]<;>lia);rw[Zg5,<- m];refine⟨.ref s.heap.objs.size,_,I.laid (t':=#[tj]) (o:=.lst (WI c lo d)) #[nC,ob,q] #[gp] ?_,rfl,q _ #[ay]⟩;exact⟨QL (Zjn c lo d) l,_,0,(r.drop (HT.sIx c.length 0 lo)).take #[nr,c.length,d],QB _ rfl⟩
noncomputable def Wm:V->Bool
 | .non=>true
 | .bl _=>true
 | .int _=>true
 | .str _=>true
 | _=>false
noncomputable def eqV:V->V->Bool
 | .non,.non=>true
 | .bl a,.bl b=>a == b
 | .bl a,.int b=>(if a then 1 else 0) == b
 | .int a,.bl b=>a == (if b then 1 else 0)
 | .int a,.int b=>a == b
 | .str a,.str b=>a == b
 | _,_=>false
theorem ZrQ{A:az}{s:ah}{y x:V}{u v:aa}(e:ZH y u)(c:ZH x v)(g:Wm y=true)(f:Wm x=true):SeqAt.EqAt A s u v (eqV y x):=by
 cases y with
 | non =>
  cases e;cases x with
  | non=>cases c;exact SeqAt.EqAt.same _
  | bl b=>cases c;exact SeqAt.EqAt.none_bool b
  | int b=>obtain⟨t,rfl⟩:=c;exact SeqAt.EqAt.none_int b t
  | str b=>obtain⟨t,rfl⟩:=c;exact SeqAt.EqAt.none_str b t
  | _=>exact #[iP]
 | bl a =>
  cases e;cases x with
  | non=>cases c;exact SeqAt.EqAt.bool_none a
  | bl b=>cases c;exact SeqAt.EqAt.bool_bool a b
  | int b=>obtain⟨t,rfl⟩:=c;exact SeqAt.EqAt.bool_int a b t
  | str b=>obtain⟨t,rfl⟩:=c;exact SeqAt.EqAt.bool_str a b t
  | _=>exact #[iP]
 | int a =>
  show#[dd,d,e];cases x with
  | non=>cases c;exact SeqAt.EqAt.int_none a d
  | bl b=>cases c;exact SeqAt.EqAt.int_bool a d b
  | int b=>obtain⟨t,rfl⟩:=c;exact SeqAt.EqAt.int_int a d b t
  | str b=>obtain⟨t,rfl⟩:=c;exact SeqAt.EqAt.int_str a d b t
  | _=>exact #[iP]
 | str a =>
  show#[dd,d,e];cases x with
  | non=>cases c;exact SeqAt.EqAt.str_none a d
  | bl b=>cases c;exact SeqAt.EqAt.str_bool a d b
  | int b=>obtain⟨t,rfl⟩:=c;exact SeqAt.EqAt.str_int a d b t
  | str b=>obtain⟨t,rfl⟩:=c;exact SeqAt.EqAt.str_str a d b t
  | _=>exact #[iP]
 | _=>exact absurd (show false=true from g) Qz
noncomputable def eqU(x:V)(u:aa):Bool:=match u with
 | .none=>eqV .non x
 | .bool b=>eqV (.bl b) x
 | .int i _=>eqV #[p8] x
 | .str z _=>eqV (.str z) x
 | _=>false
theorem MR{x y:V}{u:aa}(r:ZH y u)(f:Wm y=true):eqU x u=eqV y x:=by
 cases y with
 | non=>cases r;rfl
 | bl b=>cases r;rfl
 | int i=>obtain⟨t,rfl⟩:=r;rfl
 | str z=>obtain⟨t,rfl⟩:=r;rfl
 | _=>exact #[iP]
theorem RJ{x:V}:∀ {xs:List V} {us:List aa},ZA xs us->xs.all Wm=true->us.any (eqU x)=xs.any λy=>eqV y x
 | _,_,.nil,_=>rfl
 | y::xs,u::us,.cons r t,f=>by rw[List.all_cons,QU]at f;rw[QaN,QaN,MR r f.1,RJ t f.2]
theorem RI{A:az}{s:ah}{x:V}{v:aa}(a:ZH x v)(b:Wm x=true):∀ {xs:List V} {us:List aa},ZA xs us->xs.all Wm=true->∀u∈us,SeqAt.EqAt A s u v (eqU x u)
 | _,_,.nil,_=>λu hu=>by cases hu
 | y::xs,u::us,.cons r t,f=>λc hu=>by
  rw[List.all_cons,QU]at f;rcases QG.mp hu with rfl|hu
  ·rw[MR r f.1];exact ZrQ r a f.1 b
  ·exact RI a b t f.2 c hu
noncomputable def inV(x:V)(xs:#[jr]):Bool:=xs.any λy=>eqV y x
def rIn(K:#[7])(a:Bool):R2:=λx y H Q=>X2 λp xs=>y=.ref p/\#[eZ,K,xs]/\Wm x=true/\xs.all Wm=true/\Q (.bl (if a then !inV x xs else inV x xs)) H
theorem ZmN:OpR X (aO .In) (rIn X.K false):=by
 show#[fD,y,u,b,d];obtain⟨p,xs,rfl,hq,c,fs,q⟩:=h;cases d;rcases hq with hq|hq
 ·show#[ei,r,a,e,I.list,hq];refine SeqAt.in_listAt (eqU x) a.isList #[mH] ⟨.bl _,H,I,rfl,?_⟩;show#[gM]
 ·show#[ei,r,a,e,I.tuple,hq];refine SeqAt.in_tupleAt (eqU x) a #[mH] ⟨.bl _,H,I,rfl,?_⟩;show#[gM]
theorem Ziz:YT X #[lQ] (λxs H Q=>X2 λp ys=>xs=#[hd]/\#[eZ,X.K,ys]/\Q (.int ys.length) H):=by
 show#[dX,ai,σ,ys,hq,d];have hn:=Vp;rcases hq with hq|hq
 ·show#[ei,a,b,e,I.list,hq];have c:=a.length;exact Calls.call_len_list b.isList #[aE] ⟨.int ys.length,H,I.tok _,#[qZ],q⟩
 ·show#[ei,a,b,e,I.tuple,hq];have c:=a.length;exact len_tuple b #[aE] ⟨.int ys.length,H,I.tok _,#[qZ],q⟩
theorem VG:YT X #[lQ] (λxs H Q=>∃z,xs=[.str z]/\z.length<=aq/\Q (.int z.length) H):=by intro ai s σ H xs us Q I r h;obtain⟨z,rfl,hz,q⟩:=h;obtain⟨u,rfl,t,rfl⟩:=XV r;have hn:=Vp;exact len_str #[2] ⟨.int z.length,H,I.tok _,#[H],q⟩
theorem Zh2:YT X #[ka] (λxs H Q=>X2 λp ys=>xs=#[hd]/\#[eZ,X.K,ys]/\∀l,H l=af->Q #[h6] #[oV,l]):=by
 show#[dX,w,x,ys,hq,y];have f:∀ (its:List aa),ZA ys its->ys.length<=aq->∀ (a:aE) (c:Nat),#[n6,v,a.get?] ->
   a.get? s.heap.objs.size=U { cls:=.type "list",dict:=af,data:=.seq its.toArray c,slots:=#[] }->EP X w x Q #[bf] { s with heap:=a }:=λits d g a c i e =>
  ⟨.ref s.heap.objs.size,_,I.laid (t':=#[tj]) i #[gp] (show YY X.prog X.w _ a _ #[gd] from⟨g,its,c,d,e⟩),rfl,q _ #[ay]⟩
 rcases hq with hq|hq
 ·show#[ei,d,j,g,I.list,hq];have z:=d.length;obtain⟨o,k,m,n,t⟩:=j.isList;exact call_list_seq p #[8] k m t #[pk] #[aE]
 ·show#[ei,d,j,g,I.tuple,hq];have z:=d.length;obtain⟨o,k,m,n,t⟩:=j;exact call_list_seq p #[pq] k m t #[pk] #[aE]
def tyV(K:#[7])(T:String)(x:V)(H:Hp):Prop:=match x with
 | .str _=>T = "str"
 | .int _=>T = "int"
 | .ref p=>(T = "list"/\∃b,SqL K H p b)\/(T = "tuple"/\∃o,K.lookup p=U o/\o.cls=.type "tuple"/\o.dict=af) \/
   (T = "dict"/\((∃a,H p=U (.dK a))\/∃a,H p=U (.dT a)))\/(T = "set"/\X2 λS n=>H p=U (.set S n))
 | _=>False
theorem MQ{j:#[Q]}{k:St}{H:Hp}{s:ah}{T:String}{x:V}{v:aa}(I:#[eV,j,k])(r:ZH x v)(ty:tyV X.K T x H) :
  s.TypeIs v T/\∀a,v=.ref a->∃ob,s.heap.get? a=U ob/\ob.dict=af:=by
 cases x with
 | str z=>obtain⟨t,rfl⟩:=r;cases (show T = "str" from ty);exact⟨typeIs_str s z t,λ_ e=>nomatch e⟩
 | int i=>obtain⟨t,rfl⟩:=r;cases (show T = "int" from ty);exact⟨typeIs_int s i t,λ_ e=>nomatch e⟩
 | ref p =>
  cases r;rcases ty with⟨rfl,xs,l⟩|⟨rfl,o,b,m,d⟩|⟨rfl,b⟩|⟨rfl,S,n,b⟩
  ·obtain⟨its,_,h,_⟩:=I.list l;show#[eY,h.isList.typeIs,a,e];cases e;obtain⟨o,n,e,c,d,_⟩:=h;exact⟨o,e,d⟩
  ·refine⟨⟨o,I.kIn p o b,m⟩,λa e=>?_⟩;cases e;exact⟨o,I.kIn _ o b,d⟩
  ·have z:∃o,s.heap.get? p=U o/\o.ExactDict:=by
    rcases b with⟨f,b⟩|⟨f,b⟩
    ·show#[hR]
    ·show#[hR]
   show#[e9,o,e,ex,z];show#[hg]
  ·obtain⟨o,_,_,_,e,ex,_⟩:=I.hok p _ b;show#[hg]
 | _=>exact False.elim ty
def Zua(K:#[7])(T:String)(r:#[gU])(to:TE):TE:=λb H Q=>to b H λx a=>tyV K T x a/\r x [] a Q
def tBM(K:#[7])(T:String)(r:#[gU])(to:TE)(t:TA):TE:=λa H Q=>to a H λx b=>tyV K T x b/\t a b λxs c=>r x xs c Q
variable {o e:aD} {es:List aD} {to:TE} {t:TA} {name:aj} {bq bv:Pos} {T id:String} {r:V->List V->Hp->VK->Prop}
theorem MP(e:PlainAttrs T)(slot:Slot T name id)(f:#[iC])(hm:MtR X id r)(g:PE X o to)
  (i:#[k0]:=by rfl) (j:#[gX]=true:=by rfl):PE X (.Call (.Attribute o name bq) [] [] bv) (Zua X.K T r to):=by
 show#[dP,a,b,Q];refine cA i j #[cN,g,a,b];rintro v k ⟨x,l,c,d,ty,m⟩;obtain⟨n,p⟩:=MQ c d ty;exact⟨T,id,e,slot,f,n,p,Calls.callWith_builtin rfl (PySem.evalArgs_none (hm a k b l x [] v [] Q c d .nil m))⟩
theorem Xw(g:PlainAttrs T)(slot:Slot T name id)(i:#[iC])(hm:MtR X id r)(j:PE X o to)(ha:#[cq])
  (k:#[k0]:=by rfl)
  (l:((bu bv #[m9]).all (λx=>!x.1)&&#[dS,bv].all #[pM]
   && decide ((e::es).length+#[pW].length+#[b1]<30))=true:=by rfl)
  (m:#[gX]=true:=by rfl) (n:#[t]:=by rfl) (p:(bu bv (aF es X.env)).any #[lW]=false:=by rfl) :
  PE X (.Call (.Attribute o name bq) (e::es) [] bv) (tBM X.K T r to t):=by
 show#[dP,a,b,Q];refine wpAny_Call_method_late k l m rfl #[cN,j,a,b];rintro v q ⟨x,u,c,d,ty,w⟩;obtain⟨y,z⟩:=MQ c d ty;refine⟨T,id,g,slot,i,y,z,?_⟩;have f:=ha bv a q b u _ c w;rw[n]at f ⊢;refine Calls.callWith_builtin (by show (false||(bu bv (aF es X.env)).any #[lW])=false;rw[p]<;>rfl) (Calls.evalArgs_plain ?_);exact thn f λA B ⟨C,D,E,F,G⟩=>hm a B b D x C v A Q E d F G
universe E
def MtM(X:Cx)(id:String)(r:#[gU]):Prop :=
 ∀ (a:List (ae×aI)) (s:ah) (b:St) (H:Hp) (x:V) (c:List V) (v:aa) (d:List aa) (Q:VK),Inv X a b H s->ZH x v->ZA c d->r x c H Q ->
  #[ij] (call #[c3,id] (v::d)) #[hn] X.xe s
theorem ZA.one:∀ {x:V} {us:List aa},ZA [x] us->∃u,us=[u]/\ZH x u
 | _,_,.cons r .nil=>⟨_,rfl,r⟩
theorem ZA.zero:∀ {us:List aa},ZA [] us->us=[]
 | _,.nil=>rfl
theorem ZA.eraseIdx:∀ {xs:List V} {us:List aa} (i:Nat),ZA xs us->ZA (xs.eraseIdx i) (us.eraseIdx i)
 | _,_,_,.nil=>.nil
 | _,_,0,.cons _ t=>t
 | _,_,i+1,.cons r t=>.cons r (ZA.eraseIdx i t)
theorem ZA.reverse{xs:#[jr]}{us:#[ca]}(h:ZA xs us):ZA xs.reverse us.reverse:=by
 induction h with
 | nil=>exact .nil
 | cons r t a=>rw[QaE,QaE];exact ZA.append a #[oK,r]
section
variable {X:Cx} {ai:List (ae×aI)} {σ:St} {H:Hp} {s:ah} {l b:ae} {xs ys zs:List V}
theorem Inv.lset{its its':#[ca]}{n:Nat}{f:Array aa->Array aa}{t':Nat}(I:#[l])(a:H l=U #[ha])
  (e:#[eW,l,its.toArray]) (b:f its.toArray=its'.toArray) (c:ZA ys its') (hz:ys.length<=aq) :
  Inv X ai σ #[oV,l] { s with heap:=s.heap.update l (aI.mapSeq f),toks:=t' }:=by
 have q:=PySem.IsL.update e f;rw[b]at q;refine I.write (x:=l) (e:=l) (by rw[a];exact trivial) #[8] (λb' u d g=>(aE.get?_update_other s.heap (aI.mapSeq f) (Ne.symm d)).trans g) ⟨_,q⟩ ?_;exact⟨hz,its',_,c,q⟩
theorem Inv.lnew{its:#[ca]}{t':Nat}(I:#[l])(a:ZA ys its)(hz:ys.length<=aq) :
  Inv X ai σ #[oV,s.heap.objs.size] { s with heap:=s.heap.push { cls:=.type "list",data:=.seq its.toArray },toks:=t' } :=
 I.laid #[pO] #[gp] ⟨hz,its,0,a,QB _ rfl⟩
theorem Inv.fresh(I:#[l]):H s.heap.objs.size=af:=I.hok.fresh #[gp]
theorem Inv.lstM(I:#[l])(a:H l=U #[ha]):xs.length<=aq/\X2 λ(its:List aa) (n:Nat)=>ZA xs its/\xs.length=its.length/\s.heap.get? l=U { cls:=.type "list",data:=.seq its.toArray n }:=by obtain⟨z,its,n,r,e⟩:=I.hok l _ a;exact⟨z,its,n,r,r.length,e⟩
theorem Zn5{n:Nat}(h:n<=aq):aT.List.listTooLong n=false:=by unfold aT.List.listTooLong;exact #[lj]
universe E
section
variable {X:Cx}
inductive RAp (x:V) (vs:#[jr]) (H:Hp) (B:Hp->Prop):Prop where
 | mk (l:ae) (xs:List V) (y:V) (a:x=.ref l) (b:vs=[y]) (c:H l=U (.lst xs)) (d:xs.length<aq) (q:B (upd H l (.lst (xs++[y]))))
def ZpX:V->List V->Hp->VK->Prop:=λx vs H Q=>RAp x vs H λa=>Q .non a
theorem WW:MtM X "list.append" ZpX:=by intro ai s σ H x vs v us Q I b c h;obtain⟨l,xs,y,rfl,rfl,a,hz,q⟩:=h;cases b;obtain⟨u,rfl,d⟩:=c.one;obtain⟨z,its,n,r,hl,e⟩:=I.lstM a;refine call_meets F.slot_list_append #[kv] F.entry_list_append (F.args_list_append_2 _ _) (PySem.list_append l its.toArray n u #[dv,Qy]) ⟨e,?_⟩;refine⟨.non,_,I.lset (its':=its++[u]) a e #[4] (r.append #[oK,d]) ?_,rfl,q⟩;rw[Qf,Qp];lia
def Zpx:V->List V->Hp->VK->Prop:=λx vs H Q=>X4 λl b xs zs=>x=.ref l/\vs=[.ref b]/\H l=U #[ha]/\H b=U #[bl]/\xs.length+zs.length<=aq/\Q .non (upd H l (.lst (xs++zs)))
theorem MO:MtM X "list.extend" Zpx:=by
 show#[fD,vs,us,f,g];obtain⟨l,b,xs,zs,rfl,rfl,d,i,hz,q⟩:=h;cases f;obtain⟨u,rfl,j⟩:=g.one;show#[ob,j,n,d];obtain⟨z2,a,k,m,eV,o⟩:=I.lstM i;have c:its.toArray.size+a.toArray.size<=aq:=by rw[Qy,Qy];lia
 have p:¬ (!its.toArray.isEmpty&&aT.List.listTooLong (its.toArray.size+a.toArray.size))=true:=by rw[Zn5 c,Bool.and_false];exact Qz
 refine call_meets F.slot_list_extend #[kv] F.entry_list_extend (F.args_list_extend_2 _ _)
  (AutoSeq1.list_extend_list_list_0 l its.toArray n b a.toArray k p #[dv,Qy] #[2]) ⟨e,o,?_⟩
 refine⟨.non,_,I.lset (its':=its++a) d e #[4] (r.append m) ?_,rfl,q⟩;rw[Qf];lia
def Znr:V->List V->Hp->VK->Prop:=λx vs H Q=>X2 λl xs=>x=.ref l/\vs=[]/\H l=U #[ha]/\Q .non (upd H l (.lst xs.reverse))
theorem Zkk:MtM X "list.reverse" Znr:=by intro ai s σ H x vs v us Q I b c h;obtain⟨l,xs,rfl,rfl,a,q⟩:=h;cases b;have d:=c.zero;subst d;obtain⟨z,its,n,r,hl,e⟩:=I.lstM a;refine call_meets F.slot_list_reverse #[kv] F.entry_list_reverse (F.args_list_reverse_1 _) (AutoSeq1.list_reverse_list_0 l its.toArray n #[dv,Qy]) ⟨e,?_⟩;refine⟨.non,_,I.lset (its':=its.reverse) a e #[4] r.reverse ?_,rfl,q⟩;rw[List.length_reverse];lia
def Zul:R2:=λx y H Q=>X4 λl b xs zs=>x=.ref l/\y=.ref b/\H l=U #[ha]/\H b=U #[bl]/\xs.length+zs.length<=aq/\∀p,H p=af->Q #[gY] (upd H p (.lst (xs++zs)))
theorem Zsi:OpR X #[lD] Zul:=by
 show#[fD,y,u,c,d];obtain⟨l,b,xs,zs,rfl,rfl,f,g,hz,q⟩:=h;cases c;show#[ob,d,n,f];obtain⟨z2,a,n2,i,eV,j⟩:=I.lstM g;refine PySem.P.add_list e j ?_ #[oL,Qy,Qy];have k:its.toArray++a.toArray=(its++a).toArray:=by simp
 rw[k];exact⟨.ref _,_,I.lnew (t':=#[tj]) (r.append i) #[dv,Qf],rfl,q _ I.fresh⟩
universe E
universe E.L2
namespace Att
open PySem PySem.W PySem.Calls PyProof.Rows
theorem ZfJ{P:Params}{h:aE}:∀ (ns:List Int) (vs:List aa),WellAll P h vs (ns.map WData.int)->IntsAre vs ns:=by
 intro ns;induction ns with
 | nil=>intro vs w;show#[oz,Qar,w];exact .nil
 | cons n ns c =>
  intro vs w;rw[Qj]at w;cases w with
  | cons a b=>cases a;exact .cons _ _ (c _ b)
theorem ZmZ{l:OpenLaw}{n:Nat}(i:l.most=U n){P:Params}{h:aE}{args:List WData}{e:#[ca]}
  (f:l.row.toRowW.claim.pre args=true) (j:WellAll P h e args) :
  X3 λa vs ns=>e=[aa.ref a]/\args=[WData.list (ns.map WData.int)]/\h.get? a=U { cls:=.type "list",data:=.seq vs.toArray }/\IntsAre vs ns/\ns.length<=n:=by
 have k:WShape.hasAll [] args [.list .int]=true:=(pre_splitW f).1;have g:l.pre.holds [] { args:=args }=true:=(pre_splitW f).2;obtain⟨d,r,rfl,m,o⟩:=hasAllW_cons k;obtain rfl:=hasAllW_nil o;obtain⟨xs,rfl,p⟩:=hasW_list m;obtain⟨ns,rfl⟩:=items_int p;have s:ns.length<=n:=by
  unfold OpenLaw.pre at g;have b:(WTm.not (.lt (.lit (.int (n:Int))) (.len (.arg 0)))).holds [] { args:=[.list (ns.map .int)] }=true:=by have b:=(holds_andW g).1;rw[i]at b;exact b
  have c:=condW_of b (w_not (w_lt w_lit (w_len_list (w_arg rfl))));rw[Qa]at c;refine Nat.le_of_not_lt λq=>?_;have t:(n:Int)<#[eb,ns.length]:=by lia
  first
   | (rw[decide_eq_true t]at c;exact absurd c #[6])
   | (simp at c;lia)
 cases j with
 | cons u v =>
  cases v;cases u with
  | list w x=>exact⟨_,_,ns,rfl,rfl,w,ZfJ ns _ x,s⟩
theorem Zmc(l:OpenLaw)(args:List WData):l.row.toRowW.claim.post args #[mq] args=true :=
 postW_of (r:=l.row.toRowW) (X:=(true == true))
  (show WShape.has [] #[mq] .bool=true by first|rfl|decide|simp[WShape.has,WShape.arms,WShape.armsAll])
  (show (WTm.eq .res (.lit #[mq])).value [] { args:=args,res:=U #[mq],after:=args }=U (.bool (true == true)) from w_eq_bool (w_res rfl) w_lit) rfl
theorem attach_call{l:OpenLaw}{n:Nat}{q:ar}{i:#[y]}{j:#[iU]}{k:aA->aE->Prop}{d:DefRec}
  (p:l.most=U n) (s:#[ll])
  (call:∀ (w:aA) (s₀ b:ah) (mg g:aj->Option aa) (fa:ae) (o:aI) (pm c h:aa) (a:ae) (vs:List aa) (ns:List Int),
   Ground q i [] j w s₀ mg g b.heap->k w b.heap ->
   b.heap.get? fa=U o->o.data=.func (docDef d.name d.params d.body d.scope pm c h)->b.heap.CodeRec c d.name->mg d.name=U (.ref fa) ->
   b.heap.get? a=U { cls:=.type "list",data:=.seq vs.toArray }->IntsAre vs ns->ns.length<=n->b.gens = #[] ->
   aY (av l.prog w) callerA #[gF] (λr e=>r=.ok (.ret #[mq])/\OldK b.heap e.heap/\e.os=b.os/\AllBare e.gens) b) :
  WalkO q i j k l.row.toRowW d [] #[iQ]:=by
 intro w s₀ b mg g G Y fa o pm c h t kV u v x m hmg y args mX as z CA dh A iN;obtain rfl:t=.none:=Dflts.none m s;obtain rfl:kV=.none:=Dflts.noKw m;obtain⟨a,vs,ns,rfl,rfl,B,C,D⟩:=ZmZ p z A;refine enter_call (codeAny_mono (call w s₀ b mg g fa o pm c h a vs ns G Y u (fd_plain v) x hmg B C D y) λr e E=>?_);obtain⟨rfl,F,H,I⟩:=E;exact⟨.inl ⟨.bool true,.bool true,[],rfl,λ_=>rfl,.bool true,Zmc l _,λ_=>⟨List.Pairwise.nil,λ_ J=>(nomatch J)⟩⟩,F,H,I⟩
universe E.Att
namespace L2
open PySem PySem.Spec PyProof.Rows
theorem MN:∀ {vs:List aa} {ns:List Int},IntsAre vs ns->ZA #[z] vs
 | _,_,.nil=>.nil
 | _,_,.cons n t h=>.cons #[sK] (MN h)
def RH(H:Hp):Prop:=∀b,H b=af\/X2 λo xs=>H b=U (.frz o #[ha])
theorem Zow{P:ar}{w:aA}{K:#[7]}{mg A:#[P]}{CX:CXT}{k:Nat}{fa a:ae}{D:bo}{x:aj}{sp:Sp}{c:ah}{vs:#[ca]}{ns:#[i]}
  (KX:K.In c.heap) (E:c.heap.Ns aH mg) (hb:c.heap.Ns builtinsNs A) (Q:∀x:aj,x ≠ "__name__"->A x=ci x) (R:c.heap.NoLimit) (S:c.gens = #[])
  (ha:c.heap.get? a=U { cls:=.type "list",data:=.seq vs.toArray }) (G:IntsAre vs ns) (hl:ns.length<=aq) (T:Y7 k callerA)
  (F:∀f:aE,K.In f->f.Ns aH mg->Yu P w K mg f CX k fa D [x] sp) (W:∀ (s:ah) (u:aa),BindsTo s D ⟨[u],[]⟩ [(x,u)])
  (X:∀H:Hp,RH H->SqL K H a #[z]->sp #[iF] H (λv _=>v=.bl true) λ_ _ _=>False)
  (Y:∀H e g,CX [] H c #[qI] e g->False) :
  aY #[rh] callerA #[gF] #[cb] c:=by
 have I:=MN G;have Z:=G.length;have core:∀H:Hp,RH H->SqL K H a #[z]->HOk P w H c.heap->(∀b,H b≠af->b=a)->(H a≠af->K.lookup a=af) ->
   aY #[rh] callerA #[gF] #[cb] c:=by
  intro H J hS i L hK;have M:∀ {b:ae} {o:aI},c.heap.get? b=U o->H b=af->#[kM].get? b=U o:=λe n=>Zno e n;have mW:∀ {b:ae} {o:aI} {j:Array DictEntry} {l:Nat},c.heap.get? b=U o->o.data=.dict j l->H b=af:=λ{b o j l} e d=>by
   cases q:H b with
   | none=>rfl
   | some u=>have B:b=a:=L b #[nL,q];subst B;show#[oz,ha,e];have d':Data.seq vs.toArray _=Data.dict j l:=d;cases d'
  have y:∀ {b:ae} {m:aj->Option aa},c.heap.Ns b m->#[kM].Ns b m:=λ{b m} ⟨o,j,l,e,d,r⟩=>⟨o,j,l,M e (mW e d),d,r⟩;have N:K.In #[kM]:=λb o e=>M (KX b o e) (by
   cases q:H b with
   | none=>rfl
   | some u=>have B:b=a:=L b #[nL,q];subst B;rw[hK #[nL,q]]at e;cases e)
  have hM:Mod K mg #[kM]:=⟨N,y E,⟨A,y hb,Q⟩,let ⟨mc,h1,h2⟩:=R;⟨mc,y h1,h2⟩⟩;have e0:VI P w K mg #[kM] callerA [] c H:=⟨rfl,hM,λb o e=>ZqI e,Nat.le_of_eq (ZlZ _ _),trivial,λb hb=>absurd #[nO,hb] #[4],i,.of_eq S⟩;refine codeAny_mono ((F _ N (y E)).run callerA [] c H ⟨[.ref a],[]⟩ #[iF] #[iF] _ _ T e0 (W c #[61]) (.cons rfl .nil) (X H J hS)) λr g h=>?_;cases r with
  | error e=>exact(Y H e g h).elim
  | ok fl =>
   cases fl with
   | next=>exact False.elim h
   | brk=>exact False.elim h
   | cont=>exact False.elim h
   | ret u =>
    obtain⟨v,H',os,p,un,uv,r',q⟩:=h;have q':v=.bl true:=q;subst q';obtain rfl:u=aa.bool true:=r';refine⟨rfl,OldK.of_keep λb o e=>?_,os,p⟩;cases q:H b with
    | none=>exact un.keep b o e q (by intro z;exact absurd #[nO,z] #[4]) #[4]
    | some u =>
     rcases J b with z|⟨ob,xs,z⟩
     ·show#[eX,q,z,z]
     ·have z2:=un.frzs b ob _ z;obtain⟨O,_⟩:=i b _ z;obtain⟨e2,_⟩:=uv b _ z2;show#[eX,e,O,O];exact e2
 cases C:K.lookup a with
 | some o=>have e:=KX a o C;show#[oz,ha,e];refine core (λ_=>af) (λ_=>.inl rfl) (.inr ⟨_,vs.toArray,_,C,rfl,rfl,rfl,by rw[Qy,Z];exact hl,by simpa using I⟩) (λb u z=>by have t:(af:Option HO)=U u:=z;cases t) (λb z=>absurd rfl z) λz=>absurd rfl z
 | none =>
  refine core (λb=>if b=a then U (.frz { cls:=.type "list",data:=.seq vs.toArray } #[ty]) else af) (λb=>?_) (.inl (.inr ⟨{ cls:=.type "list",data:=.seq vs.toArray },if_pos rfl⟩)) #[oW,b,u,z] (λb z=>?_) λ_=>C
  ·by_cases hb:b=a
   ·exact .inr ⟨_,_,if_pos hb⟩
   ·exact .inl (if_neg hb)
  ·by_cases hb:b=a
   ·have t:=(if_pos hb).symm.trans z;cases t;subst hb;exact⟨ha,by rw[Qa];exact hl,vs,_,I,ha⟩
   ·have t:=(if_neg hb).symm.trans z;cases t
  ·by_cases hb:b=a
   ·exact hb
   ·exact absurd (if_neg hb) z
theorem walk_of{l:#[rI]}{n k:Nat}{q:ar}{i:#[y]}{j:#[iU]}{c:aA->aE->Prop}{d:DefRec}{K:Params->#[7]}{CX:aA->CXT}{sp:aA->Sp}{x:aj}
  (m:l.most=U n) (p:n<=aq) (r:#[ll]) (t:Y7 k callerA)
  (y:∀ (w:aA) (h:aE),c w h->#[fS].In h)
  (F:∀ (w:aA) (mg:aj->Option aa) (fa:ae) (h:aE),#[fS].In h->h.Ns aH mg->mg d.name=U (.ref fa) ->
   ∃b:bo,#[eS,u,b,x] /\
    ∀base:aE,#[fS].In base->base.Ns aH mg->Yu l.prog w #[fS] mg base (CX w) k fa b [x] (sp w))
  (z:∀ (w:aA) (H:Hp) (a:ae) (ns:List Int),ns.length<=n->RH H->SqL #[fS] H a #[z]->sp w #[iF] H (λv _=>v=.bl true) λ_ _ _=>False)
  (A:∀ (w:aA) (H:Hp) (s:ah) (e:aa) (s':ah),CX w [] H s #[qI] e s'->False) :
  PySem.W.WalkO q i j c l.row.toRowW d [] #[iQ]:=by
 refine Att.attach_call m r λw s₀ B mg mb fa o pm cd dS a vs ns G Y ho hd fI hmg C D g E=>?_;have KX:=y w _ Y;obtain⟨b,I,J⟩:=F w mg fa _ KX G.T.g hmg;exact Zow KX G.T.g G.T.b G.T.builtins G.T.nolimit E C D (QL g p) t J I (λH L M=>z w H a ns g L M) λH e s'=>A w H B e s'
noncomputable def XO(s:aJ)(j:Nat):aJ:=match s with
 | .ClassDef _ _ _ a _ _ _ _ _ _ _=>a.getD j (.Pass ⟨0,0,0,0⟩)
 | _=>.Pass ⟨0,0,0,0⟩
noncomputable def Zq(s:aJ):Arguments:=match s with
 | .FunctionDef _ a _ _ _ _ _ _ _ _=>a
 | _=>{ posonlyargs:=[],args:=[],vararg:=af,kwonlyargs:=[],kw_defaults:=[],kwarg:=af,defaults:=[] }
noncomputable def Zl(s:aJ):List aJ:=match s with
 | .FunctionDef _ _ b _ _ _ _ _ _ _=>b
 | _=>[]
noncomputable def Zf(s:aJ):aS:=match s with
 | .FunctionDef _ _ _ _ _ _ a _ _ _=>a
 | _=>{ kind:=.function,names:=[],isGenerator:=false,isCoroutine:=false }
abbrev CX0:CXT:=λ_ _ _ _ _ _=>False
abbrev E0:XK:=λ_ _ _=>False
theorem Tl{X:Cx}:VH CX0 X E0:=λ_ _ _ _ _ _ _ h=>h.elim
structure Fun (K:#[7]) (x be:aj) (st:aJ) (f:ae) (fd:bo):Prop where
 ex:X9 λ(oc:aa) (od:Option ae) (kV dS pm:aa) (an:Option ae) (aR ct:aa) (jF:Array (Option aa)) =>
  fd=PySem.W.fnOf x be (Zq st) (Zl st) (Zf st) .none kV dS pm an aR ct/\K.lookup f=U ⟨oc,od,.func fd,jF⟩/\PySem.W.codeIn K aR be=true
 kp:PySem.W.keepIn K #[a1]=true
section
variable {P:ar} {w:aA} {K:#[7]} {mg:aj->Option aa} {base:aE}
theorem Fun.ok{x b:aj}{st:aJ}{f:ae}{c:bo}{N ps:#[y]}{k:Nat}{sp:Sp}(F:Fun K x b st f c)(S:#[ln])(len:#[38])
  (d:∀ (a:aa) (A:az) (outer:List Env) (s:ah) (H:Hp) (vs:List V) (Q:VK) (E:XK),Y7 k #[dx,b]->sp vs H Q E ->
   ∃t,PSs #[dw,b].nox (Zl st) t/\t { nx:=λ_ e=>Q .non e,rt:=Q } #[mk] H):Yu P w K mg base CX0 (k+1) f c ps sp:=by
 obtain⟨oc,od,kV,dS,pm,an,a,ct,jF,rfl,lk,g⟩:=F.ex;refine ZtQ lk g S len λA outer s H vs Q E i j=>?_;obtain⟨t,h,q⟩:=d a A outer s H vs Q E i j;exact⟨t,h.nox,q⟩
theorem Fun.binds{x d:aj}{st:aJ}{f:ae}{e:bo}{ps:#[y]}(F:Fun K x d st f e)
  (h:∀ (kV a pm:aa) (b:Option ae) (c ct:aa) (us:List aa),us.length=ps.length->bindArgs #[da,d,a,b,c] ⟨us,[]⟩=pure #[ly]):Yt K e ps []:=by
 obtain⟨oc,od,kV,a,pm,b,c,ct,jF,rfl,lk,fI⟩:=F.ex;exact .all (h kV a pm b c ct)
theorem ZW{x a:aj}{st:aJ}{f:ae}{g:aa}{h d:#[md]}{i:#[hD]}{kV e pm b ct:aa}(l:K.lookup f=U ⟨g,h,.func #[da,a,e,d,b],i⟩)
  (c:PySem.W.codeIn K b a=true) (k:#[pb,K]):Fun K x a st f #[da,a,e,d,b]:=⟨⟨g,h,kV,e,pm,d,b,ct,i,rfl,l,c⟩,k⟩
universe E
theorem RG{A:az}{k:Nat}(a:Y7 k A):A.units+1<cLine:=Qay (Nat.add_le_add_left (by decide:1<=64) _) a.units
theorem ZK{n:Nat}(h:n<=1000):n<aq:=Qay h #[6]
section
variable {X:Cx}
theorem pv(i:Nat){x:aj}{pos:Pos}(a:#[cp]:=by rfl)(b:#[fs,Vis]:=by first|exact Or.inl rfl|exact Or.inr #[3]|exact Or.inr #[rk])(hd:#[A]:=by decide)
  (c:#[bc]:=by decide):PE X #[cC] (TB i):=RX a b hd c
universe E
theorem YQ{A B:Prop}(h:B):if false=true then A else B:=by rw[if_neg Qz];exact h
theorem Wl{A B:Prop}(h:A):if true=true then A else B:=by rw[if_pos rfl];exact h
theorem Y2{c A B:Prop}[Decidable c](h1:c->A)(h2:¬ c->B):if c then A else B:=by
 by_cases h:c
 ·rw[if_pos h];exact h1 h
 ·rw[if_neg h];exact h2 h
theorem UC{c A B:Prop}[Decidable c](hc:c)(h:B):if (!decide c)=true then A else B:=by rw[decide_eq_true hc];exact YQ h
def Zw(H a:Hp):Prop:=#[nW,H,a]
theorem Zw.refl(H:Hp):Zw H H:=λ_ _ h=>h
theorem Zw.trans{H d e:Hp}(a:Zw H d)(b:Zw d e):Zw H e:=λc o h=>b c o (a c o h)
theorem Zw.free{H a:Hp}(e:Zw H a){l:ae}(h:a l=Option.none):H l=Option.none:=by
 cases q:H l with
 | none=>rfl
 | some o=>rw[e l o q]at h;cases h
theorem Zw.seq{K:#[7]}{H b:Hp}{a:ae}{xs:#[jr]}(e:Zw H b)(h:SqL K H a xs):SqL K b a xs:=by
 rcases h with(h|⟨o,h⟩)|h
 ·exact .inl (.inl (e _ _ h))
 ·exact .inl (.inr ⟨o,e _ _ h⟩)
 ·exact .inr h
noncomputable def Y6(b:#[e3,ae]):List (aj×aL)->List (aj×ae)->List (aj×ae)
 | [],a=>a
 | (n,k)::r,a=>if k == .free then Y6 b r ((n,(b.lookup n).getD 0)::a) else Y6 b r a
theorem MM{d:aS}{env:Env}(h:∀y∈d.names,y.2=.free->∃c,env.cells.lookup y.1=U c) :
  closureFor d env=pure (Y6 env.cells d.names []):=by
 have go:∀ (a:List (aj×aL)) (b:List (aj×ae)),(∀y∈a,y.2=.free->∃c,env.cells.lookup y.1=U c) ->
   (forIn a b λ(x:aj×aL) (r:List (aj×ae))=>if (x.2 == aL.free)=true then (do let c <- cellOf env x.1;pure (ForInStep.yield ((x.1,c)::r))) else pure (ForInStep.yield r):Sem (List (aj×ae)))=pure (Y6 env.cells a b):=by
  intro a;induction a with
  | nil=>intro b _;rfl
  | cons y r j =>
   intro b f;show#[c5,n,k,y];rw[List.forIn_cons];cases e:(k == aL.free) with
   | false =>
    have g:Y6 env.cells ((n,k)::r) b=Y6 env.cells r b:=by show (if #[cx]=true then _ else _)=_;rw[e];rfl
    rw[g,<- j b λz i=>f z (Qu _ i)];simp only[e,Bool.false_eq_true,if_false,pure_bind]
   | true =>
    have m:k=.free:=by simpa using e
    obtain⟨c,l⟩:=f (n,k) QV m;have g:Y6 env.cells ((n,k)::r) b=Y6 env.cells r ((n,c)::b):=by show (if #[cx]=true then _ else _)=_;rw[e,l];rfl
    have o:cellOf env n=pure c:=by unfold cellOf;rw[l]
    rw[g,<- j ((n,c)::b) λz i=>f z (Qu _ i)];simp only[e,if_true,o,pure_bind]
 have q:=go d.names [] h;unfold closureFor;first
  | (rw[show (forIn d.names ([]:List (aj×ae)) _:Sem (List (aj×ae)))=pure (Y6 env.cells d.names []) from q];rfl)
  | (simp only[bind_pure];exact q)
  | exact q
theorem RF(a:#[e3,ae]):∀ (names:List (aj×aL)) (b:List (aj×ae)) (x:aj) (c:ae),(Y6 a names b).lookup x=U c ->
  (∃y∈names,y.1=x/\y.2=.free/\c=(a.lookup x).getD 0)\/b.lookup x=U c
 | [],b,x,c,h=>.inr h
 | (n,k)::r,b,x,c,h=>by
  by_cases hk:#[cx]=true
  ·have e:#[hz]:=by show (if #[cx]=true then _ else _)=_;rw[if_pos hk]
   rw[e]at h;rcases RF a r _ x c h with⟨y,d,q⟩|q
   ·exact .inl ⟨y,Qu _ d,q⟩
   ·rw[QaI]at q;by_cases f:(x == n)=true
    ·rw[f]at q;have g:x=n:=by simpa using f
     subst g;exact .inl ⟨(x,k),QV,rfl,by simpa using hk,(Qk q).symm⟩
    ·have g:#[s4]:=by simpa using f
     rw[g]at q;exact .inr q
  ·have e:#[ra]:=by show (if #[cx]=true then _ else _)=_;rw[if_neg hk]
   rw[e]at h;rcases RF a r _ x c h with⟨y,d,q⟩|q
   ·exact .inl ⟨y,Qu _ d,q⟩
   ·exact .inr q
theorem RE(a:#[e3,ae]):∀ (names:List (aj×aL)) (b:List (aj×ae)) (x:aj),((∃y∈names,y.1=x/\y.2=.free)\/∃c,b.lookup x=U c) ->
  ∃c,(Y6 a names b).lookup x=U c
 | [],b,x,h=>by
  rcases h with⟨y,hy,_⟩|h
  ·cases hy
  ·exact h
 | (n,k)::r,b,x,h=>by
  by_cases hk:#[cx]=true
  ·have e:#[hz]:=by show (if #[cx]=true then _ else _)=_;rw[if_pos hk]
   rw[e];refine RE a r _ x ?_;by_cases d:(x == n)=true
   ·exact .inr ⟨_,by rw[QaI,d]⟩
   ·have f:#[s4]:=by simpa using d
    rcases h with⟨y,hy,q⟩|⟨c,q⟩
    ·rcases QG.mp hy with rfl|hy
     ·exact absurd #[cG,q.1.symm] d
     ·exact .inl ⟨y,hy,q⟩
    ·exact .inr ⟨c,by rw[QaI,f];exact q⟩
  ·have e:#[ra]:=by show (if #[cx]=true then _ else _)=_;rw[if_neg hk]
   rw[e];refine RE a r _ x ?_;rcases h with⟨y,hy,q⟩|h
   ·rcases QG.mp hy with rfl|hy
    ·exact absurd #[cG,q.2] hk
    ·exact .inl ⟨y,hy,q⟩
   ·exact .inr h
structure ZU (N N':#[y]) (o c:aS):Prop where
 kind:c.kind=.function
 okind:o.kind=.function
 nocell:∀y∈c.names,y.2≠.cell
 loc:∀y∈c.names,y.2=.local->c.names.lookup y.1=U .local
 free:∀y∈c.names,y.2=.free->c.names.lookup y.1=U .free/\#[sJ]
 len:N.length<=N'.length
 same:∀i∈List.range N.length,∀x∈N'[i]?,c.names.lookup x=U .local\/c.names.lookup x=U .free->c.names.lookup x=U .free/\N[i]? = U x
 nd:N'.Nodup
noncomputable def Z6(X:Cx)(c:aS)(a:#[y])(C:ae)(s:ah)(H:Hp)(fp:#[hB]):Cx :=
 { X with N:=a,s₀:=s,H₀:=H,env:=bn c (Y6 X.env.cells c.names []) C X.env,outer:=X.stack,stack:=X.stack,ex:=fp,fn:=λ_=>false,pn:=[],xe:=λ_ _=>False }
theorem ML{env:Env}(c:env.scope.kind=.function):∀ (names:List (aj×aL)) (x:aj),
  (names.map λ(p:aj×aL)=>if (p.2 == aL.free&&env.scope.kind == .function&&env.kindOf p.1 == U .cell)=true then (p.1,aL.cell) else (p.1,p.2)).lookup x =
   match names.lookup x with
   | some .free=>if env.kindOf x=U .cell then U .cell else U .free
   | k=>k
 | [],x=>rfl
 | (n,k)::r,x=>by
  have g:=ML c r x;rw[Qj];by_cases f:(x == n)=true
  ·have a:x=n:=by simpa using f
   subst a;have d:List.lookup x ((x,k)::r)=U k:=by rw[QaI];simp
   rw[d];by_cases e:k=.free
   ·subst e;by_cases b:env.kindOf x=U .cell
    ·simp[List.lookup_cons,c,b]
    ·simp[List.lookup_cons,c,b]
   ·have h:#[cx]=false:=by simpa using e
    rw[h];simp only[Bool.false_and,Bool.false_eq_true,if_false,List.lookup_cons,beq_self_eq_true];all_goals (cases k<;>first|rfl|exact #[oJ,e])
  ·have a:#[s4]:=by simpa using f
   have d:List.lookup x ((n,k)::r)=List.lookup x r:=by rw[QaI,a]
   rw[d,<- g];by_cases b:(k == aL.free&&env.scope.kind == .function&&env.kindOf n == U .cell)=true
   ·simp only[b,if_true,List.lookup_cons,a]
   ·simp only[b,if_false,List.lookup_cons,a,Bool.false_eq_true]
section
variable {X:Cx} {N N':List aj} {o c:aS}
theorem UB(S:#[ba])(a:#[86])(b:#[e3,ae])(C:ae)(x:aj):(bn c b C X.env).kindOf x =
  match c.names.lookup x with
  | some .free=>if X.env.kindOf x=U .cell then U .cell else U .free
  | k=>k:=ML (env:=X.env) #[cL,a,S.okind] c.names x
theorem Tj{names:#[e3,aL]}{x:aj}{k:aL}(h:names.lookup x=U k):(x,k)∈names:=Qam h
theorem Vn(S:#[ba])(g:#[86])(ok:X.Ok){x:aj}{a:ae}(h:#[m].lookup x=U a) :
  X.env.cells.lookup x=U a/\c.names.lookup x=U .free:=by
 rcases RF _ _ _ _ _ h with⟨y,i,rfl,j,e⟩|q
 ·have d:=S.free y i j;have k:#[oB,X.env.kindOf,y.1]:=by show X.env.scope.names.lookup y.1=_\/X.env.scope.names.lookup y.1=_;rw[g];exact d.2
  obtain⟨b,f⟩:=ok.has y.1 k;rw[f]at e;exact⟨by rw[f,e];rfl,d.1⟩
 ·cases q
theorem MK(S:#[ba])(d:#[86])(ok:X.Ok){x:aj}(h:#[je]):∃a,#[m].lookup x=U a/\X.env.cells.lookup x=U a:=by obtain⟨a,b⟩:=RE X.env.cells c.names [] x (.inl ⟨(x,.free),Tj h,rfl,rfl⟩);exact⟨a,b,(Vn S d ok b).1⟩
theorem Zp4(S:#[ba])(f:#[86]){l:#[Q]}{n:St}{H:Hp}{s:ah}{fp:#[hB]}(I:#[eV,l,n])
  (i:#[nF,l,H]) (ht:#[qj]):#[lG].Ok where
 mod:=I.ok.mod
 kind:=S.kind
 glob:=I.ok.glob
 blt:=I.ok.blt
 above:=Qh _
 inj:=λx y a p r=>I.ok.inj x y a (Vn S f I.ok p).1 (Vn S f I.ok r).1
 has:=λx t=>by
  have e:=#[oY,f,s.heap.objs.size];have g:#[49].kindOf x=U .cell\/#[49].kindOf x=U .free:=t;rw[e]at g;cases q:c.names.lookup x with
  | none=>rw[q]at g;rcases g with z|z<;>cases z
  | some k =>
   by_cases m:k=.free
   ·subst m;obtain⟨a,u,_⟩:=MK S f I.ok q;exact⟨a,u⟩
   ·rw[q]at g;have v:k=.cell:=by cases k<;>first|rfl|exact #[oJ,m]|(rcases g with z|z<;>cases z)
    subst v;exact #[ph]
 cab:=λx a h=>by cases (show false=true from h)
 hd:=I.ok.hd
 frames:=I.ok.frames
 stk:=#[kn]
 exf:=λb d=>⟨QK (ht b d),λx a h=>(i b d).2.2.2.2.1 x a (Vn S f I.ok h).1⟩
 bs:=λb j e=>I.bs b j e
 bsz:=QL I.ok.bsz I.sz
 noex:=λb j e d=>by
  rcases(i b d).2.2.2.1 with z|z
  ·exact I.ok.noex b j e z
  ·exact absurd (QH (Qx e) (QL I.ok.bsz z)) (Qav _)
 exfs:=λb d w=>by
  rcases QG.mp (I.stkSub b w) with z|z
  ·exact(i b d).2.1 z
  ·exact(i b d).2.2.1 z
 funs:=I.stack
 frf:=I.stkFree
theorem MJ(S:#[ba])(t:X.N=N)(g:#[86]){B:#[Q]}{f:St}{H:Hp}{s:ah}{fp:#[hB]}{w:aE}{tk:Nat}{C:#[P]}(I:#[eV,B,f])
  (E:#[nF,B,H]) (ht:#[qj]) (F:w.Ns s.heap.objs.size C) (hk:#[dE,b,ob,s.heap.get?,ob,w.get?]) :
  Inv #[lG] [] (f++List.replicate #[be] af) H { s with heap:=w,toks:=tk } where
 ok:=Zp4 S g I E ht
 os:=rfl
 bare:=I.bare
 base:=Un.kept hk
 loc:=by
  refine⟨C,F,λi x v G j J=>?_⟩;show#[e9,m,hn,K,I.loc];have L:f.length=N.length:=by rw[I.len,t]
  have y:i<f.length:=by
   by_cases y:i<f.length
   ·exact y
   ·rw[QW #[2],List.getElem?_replicate]at j;split at j<;>cases j
  have M:f[i]? = U (U v):=by rw[QX y]at j;exact j
  have D:=#[oY,g,s.heap.objs.size];have O:c.names.lookup x=U .local\/c.names.lookup x=U .free:=by
   have n:#[49].kindOf x=U .local\/#[49].kindOf x=U .cell\/#[49].kindOf x=U .free:=J;rw[D]at n;cases q:c.names.lookup x with
   | none=>rw[q]at n;rcases n with z|z|z<;>cases z
   | some k =>
    cases k with
    | «local»=>exact #[kn]
    | free=>exact #[ti]
    | cell=>exact #[ph]
    | _=>rw[q]at n;rcases n with z|z|z<;>cases z
  obtain⟨A,P⟩:=S.same i (Q1.mpr #[2]) x (by rw[show N'[i]? = U x from G];rfl) O;have hok:#[oB,X.env.kindOf,x]:=by show X.env.scope.names.lookup x=_\/X.env.scope.names.lookup x=_;rw[g];exact(S.free _ (Tj A) rfl).2
  obtain⟨u,r,l⟩:=K i x v #[cL,t,P] M (.inr hok);refine⟨u,r,.inr #[sM]⟩
  ·show (bn c #[m] s.heap.objs.size X.env).kindOf x=U .cell\/#[49].kindOf x=U .free;rw[D,A];show (if X.env.kindOf x=U .cell then U aL.cell else U aL.free)=U .cell\/(if X.env.kindOf x=U .cell then U aL.cell else U aL.free)=U .free;by_cases q:X.env.kindOf x=U .cell
   ·rw[if_pos q];exact #[kn]
   ·rw[if_neg q];exact #[ti]
  ·obtain⟨a,Q,R⟩:=MK S g I.ok A;refine⟨a,Q,?_⟩;rcases l with⟨z,_⟩|⟨_,a',e,ob,T,V⟩
   ·rcases hok with q|q<;>rw[q]at z<;>cases z
   ·show#[eX,R,e,e];exact⟨ob,hk _ _ T,V⟩
 cell:=λx a h=>by obtain⟨v,ob,e,d⟩:=I.cell x a (Vn S g I.ok h).1;exact⟨v,ob,hk _ _ e,d⟩
 free:=I.hok.fresh #[gp]
 freeC:=λx a h=>I.freeC x a (Vn S g I.ok h).1
 pin:=λp W=>absurd (show p∈#[i6] from W) #[4]
 hok:=I.hok.kept hk
 len:=by
  have L:f.length=N.length:=by rw[I.len,t]
  have:=S.len;show (f++List.replicate #[be] af).length=N'.length;rw[Qf,List.length_replicate];lia
universe E
noncomputable abbrev MI(a:#[lp])(env:Env):Sem Bool :=
 forIn a true λk r=>if r=true then do let ok <- isTrue k env (eval k env);pure (ForInStep.yield ok) else pure (ForInStep.yield r)
def PTs(X:Cx)(c:#[lp])(t:TT):Prop :=
 ∀ (b:List (ae×aI)) (s:ah) (a:St) (H:Hp) (Q:Bool->Hp->Prop),Inv X b a H s->t a H Q->#[ij] (MI c X.env) (TP X b a Q) X.xe s
def WH:TT:=λ_ H Q=>Q true H
theorem Ye{X:Cx}:PTs X [] WH:=λ_ _ _ H _ I h=>wpAny_tests_nil ⟨H,I,h⟩
theorem ZpS{X:Cx}{e:aD}{t:TT}(h:PT X e t):PTs X [e] t:=λa s b H Q I q=>wpAny_tests_one (h a s b H Q I q)
section
variable {prog:ar} {w:aA} {A:az} {R:Result->ah->Prop} {s:ah}
theorem Ziw{c b iter:aD}{d:#[lp]}{k:aS}{pos:Pos}{it f:aa}{env:Env}{E:#[D]}(I:#[eH,Nat])
  (B:#[kx])
  (turn:∀n s,I n s->aw #[j] A (pyNext it) (λr g=>match r with
   | none=>R #[iz] g
   | some v=>aw #[j] A (bx b it v) (λ_ s₀=>aw #[j] A (assign b env v) (λ_ l =>
     aw #[j] A (MI d env) (λok i =>
      if ok=true then aw #[j] A (eval c env) (λx o =>
       aw #[j] A (call #[c3,"list.append"] [f,x]) (λ_ p=>∃m,m<n/\I m p) E o) E i
      else ∃m,m<n/\I m i) E l) E s₀) E g) E s)
  (n:Nat) (h:I n s):aY #[j] A (.compLoop #[et,c,b,d,k] 0 it f env) R s:=by
 have go:#[dk,j]:=
  λ{j t Q s} q=>bD q #[iJ] λe s' z=>(B e s' z).elim
 show#[mC];show aw _ A ((compTurn #[et,c,b,d,k] 0 it f env).onRaise (λx=>do noteFrame x env;theTreesLotGoes x)) _ _ s;show#[d7,compTurn_list,C,g,u];cases r with
 | none=>exact au u
 | some v =>
  refine ak (thn (go u) λ_ s₀ a=>ak (thn (go a) λ_ l D=>ak (thn (go D) λok i y=>?_)));cases ok with
  | false=>exact au ⟨rfl,y⟩
  | true=>exact ak (ak (thn (go y) λx o F=>ak (thn (go F) λ_ p G=>au (au ⟨rfl,G⟩))))
universe E
def WG(J:It)(D:ae)(k:Nat)(q:St)(r:Hp)(g:TG)(s:TT)(t:TE)(Q:VK):Prop :=
 ∃W:Nat->Nat->List V->St->Hp->Prop,(∃m,W 0 m [] (q++List.replicate k af) (upd r D #[av])) /\
  ∀i m a e c,W i m a e c->(J.stop i c/\Q #[iy] c) \/
   (J.go i c/\∃N:List V->St->Hp->Prop,#[oe,f,h,j,N,l]/\∀x n,J.yld i c x n->g x e n λd u=>s d u λb o =>
    if b=true then t d o λy p=>p D=U (.lst a)/\a.length<aq/\N (a++[y]) d #[dM,p,a,y] else N a d o)
def RD(n:Nat)(c:TI)(g:TG)(d:TT)(e:TE):TE:=λa H Q=>c a H λJ b=>∀D,b D=af->WG J D n a b g d e Q
section
variable {X:Cx} {N N':List aj} {o c:aS}
theorem MH{bK tg iter:aD}{dU:#[lp]}{pos cE:Pos}{wi:TI}{g:TG}{tc:TT}{te:TE}{use:Option (aa->Sem Unit)}{QQ:#[D]}(S:#[ba])(hN:X.N=N)(ho:#[86])(hc:#[81])
  (hi:PI X tg iter wi) (hg:#[du,PG,tg,g]) (ht:#[du,PTs,dU,tc]) (he:#[du,PE,bK,te])
  (hs:#[ak]) {Z:#[Q]} {s:ah} {σ:St} {H:Hp} {Q:VK} (I:#[eV,Z,σ]) (h:RD #[be] wi g tc te σ H Q)
  (post:∀ (D C:ae) (t:ah) (l:Hp) (m:aj->Option aa),Inv X Z σ l t->l C=af->t.heap.Ns C m->C≠X.env.locals->X.s₀.heap.objs.size<=C->#[j6]->(∀p∈X.pn++Z,p.1≠C) ->
   Q #[iy] l->compPost #[G] X.A X.xe use QQ #[iy] C #[iz] t) :
  #[ij] (comprehension #[cD] c X.env cE (newList []) false #[dI,iter] use) QQ X.xe s:=by
 have kE:#[qq]:=MM λy hy hf=>by refine I.ok.has y.1 ?_;show#[bI]
 refine wpAny_comprehension_free (use:=use) rfl hs kE S.kind S.loc #[eC,Z,σ,f];obtain⟨it,fp,tn,J,G,e,I2,T,bX,f2,hR⟩:=h2;subst e;have hD:G f.heap.objs.size=af:=I2.fresh;have M:Inv X Z σ #[48] { f with heap:=f.heap.push { cls:=.type "list",data:=.seq ([]:List aa).toArray } } :=
  I2.lnew (ys:=[]) (its:=[]) (t':=f.toks) .nil (Qt _)
 have m5:#[qk]:=λb k=>by obtain⟨A,e,_⟩:=T.obj 0 _ bX b k;exact Qx e
 refine bM (wpAny_newFunctionEnv S.nocell #[rg] #[oW,K,je,jf] S.kind);have O:#[bq]:=#[H];show#[c5,j,kF,O];have O:#[f1]:=by rw[kF]
 have jM:#[lh]:=by rw[O,aE.size_push]
 show#[nk];have f3:#[nF,Z,#[48]]:=λb k=>⟨by rw[Ze (QK (m5 b k))];exact(f2 b k).1,(f2 b k).2⟩;have bY:tn 0 j.heap:=T.keep 0 _ _ bX λb _ A e=>by rw[O];exact Qi _ e
 rw[<- kF]at M;show aY #[G] X.A #[gE]
  (compPost #[G] X.A X.xe use QQ #[v] #[22].objs.size)
  { f with heap:=K,toks:=f.toks+([]:List (aj×aa)).length }
 have eW:K.Ns j.heap.objs.size #[js]:=by rw[O];exact je
 have fg:#[dE,b,A,j.heap.get?,A,K.get?]:=λb A e=>by rw[O]at e;exact jf.extBut b A #[lH] (Qi _ e)
 rw[<- O];have qX:({ f with heap:=K,toks:=f.toks+([]:List (aj×aa)).length }:ah)={ j with heap:=K,toks:=f.toks }:=by rw[kF];rfl
 show#[hV];have I4:=MJ (tk:=f.toks) S hN ho M f3 m6 eW fg;have m7:tn 0 K:=T.keep 0 _ _ bY λb _ A e=>fg b A e;generalize w:Z6 X c N' j.heap.objs.size j (upd G f.heap.objs.size (.lst [])) fp=Y at I4;have P:Y.prog=X.prog:=by rw[<- w];rfl
 have R:Y.w=X.w:=by rw[<- w];rfl
 have YK:Y.K=X.K:=by rw[<- w];rfl
 have Yc:Y.calm=true:=by rw[<- w];exact hc
 have YA:Y.A=X.A:=by rw[<- w];rfl
 have jN:#[kl]:=by rw[<- w];rfl
 have Yl:#[pF]:=by rw[jN];rfl
 have iO:Y.xe=λ_ _=>False:=by rw[<- w];rfl
 show#[cV,m8,hg,#[48],eF,ht];have dW:=he j.heap.objs.size j #[48] fp;rw[w]at m8 eF dW;have fc:∀ {B:Hp},#[fg,B]->∀b∈fp,Xy Y [] B b:=λ{B} hn b k=>by
  show#[sv];have z1:=I4.ok.exf b #[c9,w,k];refine⟨hn b k,z1.1,I4.ok.exfs b #[c9,w,k],.inl #[c9,w,k],z1.2,λp hp=>?_⟩;have iP:p∈#[i6]:=by
   have:Y.pn=[]:=by rw[<- w];rfl
   rw[this]at hp;exact hp
  cases iP
 have fin:∀ (t:ah) (L:St) (l:Hp),Inv Y [] L l t->Q #[v] l->compPost #[G] X.A X.xe use QQ #[v] j.heap.objs.size #[iz] t:=λt L l F q=>by
  obtain⟨m,hn,_⟩:=id F.loc;rw[Yl]at hn;have jg:l j.heap.objs.size=af:=by have:=F.free;rw[Yl]at this;exact this
  have un:Un #[pT] fp #[48] l j.heap t.heap:=by have:=F.base;show#[op,w]
  have qY:t.os=j.os:=by have:=F.os;show#[op,w]
  have gk:HOk X.prog X.w l t.heap:=by have:=F.hok;show#[oC,P,R]
  refine post _ _ t l m (M.call' (s':=t) (ch:=fp) qY un gk F.bare λb k=>?_) jg hn (QaH M.lt) M.sz #[oW,x,a,e] (λp hp=>?_) q
  ·show#[ip]
  ·obtain⟨v,A,e',_⟩:=M.cell x a e;exact QK (Qx e')
  ·exact QK (Qx (M.pin p hp).1)
 have jO:aY #[G] X.A #[nU,#[cD],#[mm]]
   (compPost #[G] X.A X.xe use QQ #[v] j.heap.objs.size) { j with heap:=K,toks:=f.toks }:=by
  rw[<- jN,<- YA];refine Ziw (E:=#[l4]) (λn s'=>X4 λi ys aP B=>Inv Y [] aP B s'/\tn i s'.heap/\#[fg,B]/\W i n ys aP B) #[iJ] ?_ m0
   #[jw]
  ·rintro n t ⟨i,ys,L,l,F,jd,kB,w5⟩;rcases turn i n ys L l w5 with⟨stop,qn⟩|⟨go,Nn,oX,step⟩
   ·refine thn (T.done Y P R YK Yc i [] t L l _ F (fc kB) jd stop) ?_;rintro r s6 ⟨hr,I6⟩;subst hr;have fq:=fin s6 L l I6 qn;rw[<- YA]at fq;exact fq
   ·refine thn (T.item Y P R YK Yc i [] t L l _ F (fc kB) jd go) ?_;show#[95];have lF:∀ {ip:St} {V:Hp} {s9:ah},Inv Y #[fR] ip V s9->Inv Y [] ip V s9/\tn (i+1) s9.heap/\∀b∈fp,V b=af:=λ{ip V s9} I9=>by refine#[d1,T.keep,kG,A];show#[e8,A,T.obj,kG]
    have P1:=m8 _ s7 L H7 x u _ rb r7 (step x H7 y7);show#[ee,P,R,P1];rintro _ s8 ⟨jh,H8,I8,q8⟩;have P2:=eF _ s8 jh H8 _ I8 q8;show#[ee,P,R,P2];rintro ok s9 ⟨V,I9,q9⟩;cases ok with
    | false=>rw[if_neg Qz]at q9;rw[if_neg Qz];show#[eD,lF,I9,w9,oX,q9];exact⟨m',bZ,i+1,ys,jh,V,b1,b2,b3,w9⟩
    | true=>rw[if_pos rfl]at q9;show#[jc];have P3:=dW _ s9 jh V _ I9 q9;show#[ee,P,R,P3];rintro y fj ⟨vy,gU,kH,uw,rf,hsz,zj⟩;have P4:=WW (X:=Y) _ fj jh gU #[v] [vy] #[v] [y] (λ_ B=>Nn (ys++[vy]) jh B) kH rfl #[oK,uw] ⟨_,ys,vy,rfl,rfl,rf,hsz,zj⟩;show#[ee,P,R,P4];rintro _ fJ ⟨_,fV,ji,_,zk⟩;show#[eD,lF,ji,rh,oX,zk];exact⟨m',bZ,i+1,ys++[vy],jh,fV,b1,b2,b3,rh⟩
  ·exact w0
 have lp:=T.self X.A 0 { j with heap:=K,toks:=f.toks } (λjj s'=>aY #[G] X.A #[nU,#[cD],jj]
   (compPost #[G] X.A X.xe use QQ #[v] j.heap.objs.size) s') #[s2] m7 jO
 exact #[gK]
theorem Inv.let{c:#[Q]}{d:St}{H:Hp}{s:ah}{C:ae}{h':aE}(I:#[eV,c,d])(f:H C=af)(g:C≠X.env.locals)(h1:X.s₀.heap.objs.size<=C)
  (h2:∀x a,X.env.cells.lookup x=U a->a≠C) (h3:∀p∈X.pn++c,p.1≠C) (h:aE.SameBut C s.heap h'):Inv X c d H { s with heap:=h' } :=
 I.turned (t':=#[tj]) (λb i j e=>h.extBut b i j e) f g (.inr h1) h2 h3
theorem Yd{b a iter:aD}{d:#[lp]}{pos:Pos}{e:TI}{g:TG}{f:TT}{i:TE}(S:#[ba])(j:X.N=N)(k:#[86])(hc:#[81])
  (l:PI X a iter e) (n:#[du,PG,a,g]) (ht:#[du,PTs,d,f]) (he:#[du,PE,b,i])
  (p:#[ak]:=by intro _;rfl) :
  PE X #[et,b,a,d,c] (RD #[be] e g f i):=by
 show#[st];refine MH (use:=af) S j k hc l n ht he p I h λD C s5 r m t u v w y z A q=>⟨m,v,λh' B=>?_⟩;exact⟨.ref D,r,t.let u w y z A B,rfl,q⟩
theorem UA{i:Nat}{x:aj}{e b iter:aD}{f:#[lp]}{pos d j:Pos}{k:TI}{g:TG}{l:TT}{n:TE}(u:#[mb])(hx:#[cp])(hl:#[sk])(S:#[ba])(w:X.N=N)(y:#[86])(hc:#[81])
  (A:PI X b iter k) (B:#[du,PG,b,g]) (ht:#[du,PTs,f,l]) (he:#[du,PE,e,n])
  (E:swapsWith #[et,e,b,f,c] (U (.Name x d)) j.line X.env=pure true)
  (F:#[ak]:=by intro _;rfl) (G:#[Y]:=by first|exact #[kn]|exact #[ti]|assumption) :
  PS X (.Assign [.Name x d] #[et,e,b,f,c] j) (RW (RD #[be] k g l n) (UH i)):=by
 show#[dP,J,σ,D];rw[exec_Assign_Name_used _ _ _ _ E];refine ak (bg (ak ?_));show aw _ X.A (do let _ <- comprehension (.ListComp e [⟨b,iter,f,0⟩] c pos) c X.env _ (newList []) false (eval iter X.env) (U (assign (.Name x d) X.env))) _ _ s;refine ak (thn (MH (QQ:=λ_ p=>SP X J D .next p) (use:=U (assign (.Name x d) X.env)) S w y hc A B ht he F I h ?_) λ_ p K=>au (au K));intro L C s5 M m O P Q r R t T q;show aw _ X.A (assign (.Name x d) X.env (.ref L)) _ _ _;refine wpAny_assign_Name (NI (v:=.ref L) O u hx hl rfl (?_) G);rintro s6 V ⟨a,W,Y⟩;have Z:C≠a:=by
  rcases Y with z|z
  ·rw[z];exact r
  ·exact(t x a z).symm
 exact⟨m,Q.sameBut W Z,λh' ux=>⟨_,M,V.let P r R t T ux,q⟩⟩
universe E
theorem Zks{ys:#[y]}:∀ {us:List aa},ZA #[s3] us->StrsAre us ys:=by
 induction ys with
 | nil=>intro us r;show#[oz,Qar,r];exact .nil
 | cons y ys a =>
  intro us r;rw[Qj]at r;cases r with
  | cons b c=>obtain⟨t,e⟩:=b;subst e;exact .cons _ _ (a c)
section
variable {X:Cx}
def MG(K:#[7]):List V->Hp->VK->Prop:=λxs H Q=>X4 λx c t b=>xs=[x,.ty c]/\Xe K H x t/\PySem.W.kitOne K t (.type c)=U b/\Q (.bl b) H
theorem ZoH:YT X #[nj] (MG X.K):=by intro ai s σ H xs us Q I r h;obtain⟨x,c,t,b,rfl,ty,e,q⟩:=h;obtain⟨u,w',rfl,a,d⟩:=RQ r;cases d;exact Zmd I a ty e λtk=>⟨.bl b,H,I.tok _,rfl,q⟩
theorem Zm1(hc:#[81]):YT X #[c3,"all"] (λxs H Q=>X2 λ(p:ae) (bs:List Bool)=>xs=#[hd]/\SqL X.K H p (bs.map V.bl)/\Q (.bl (bs.all id)) H):=by
 show#[dX,ai,σ,bs,o,t];show#[ei,f,w,hz,I.list,o];have g:=w.isList;have x:p<s.heap.objs.size:=by obtain⟨_,e,_⟩:=g;exact Qx e
 refine call_all_walk (wpAny_pyIter_list g ?_);refine⟨s.heap.objs.size,[s.heap.objs.size,p],[s.heap.objs.size],its.toArray.size,_,_,λi=>(bs[i]?).getD true,rfl,Walks.list (A:=X.A.in1) #[gj] _ p (QK x) its.toArray,
  ⟨⟨_,QB _ rfl,rfl,rfl⟩,g.push _⟩,λi v y B E' C D=>?_,λh' tk E=>?_⟩
 ·have l:its[i]? = U v:=by simpa using C
  have c:i<its.length:=(Qc.mp l).1;have a:=f.length;have j:(bs.map V.bl)[i]? = U (V.bl (bs[i]'#[mh])):=by rw[Ql,Qb #[mh]];rfl
  show#[nB,u',d,F,f.get,j];show#[eX,l,d,d];obtain rfl:v=aa.bool _:=F;have m:B ((bs[i]?).getD true) y:=D;rw[Qb #[mh]]at m;exact bi m
 ·have e:((List.range its.toArray.size).all λi=>(bs[i]?).getD true)=bs.all id:=by
   have a:=f.length;rw[Qa]at a;rw[Qy,<- a,QaP,List.all_eq_true,List.all_eq_true];constructor
   ·intro z b j;obtain⟨i,c,rfl⟩:=List.mem_iff_getElem.mp j;have:=z i (Q1.mpr c);rw[Qb c]at this;exact this
   ·intro z i c;have n:=Q1.mp c;rw[Qb n];exact z _ (Q3 n)
  refine⟨.bl (bs.all id),H,I.kept λb G k=>E b G (λJ=>?_) (Qi _ k),by rw[e];rfl,q⟩;rw[Qe.mp J]at k;exact Qav _ (Qx k)
theorem ZpJ:MtR X "str.join" (λx vs H Q=>X3 λ(sep:aj) (p:ae) (ys:List aj)=>x=.str sep/\vs=#[hd]/\SqL X.K H p #[s3]/\#[lv].sum+ys.length*sep.length<=16777216/\Q (.str #[p0]) H):=by intro ai s σ H x vs v us Q I a b h;obtain⟨sep,p,ys,rfl,rfl,c,d,q⟩:=h;obtain⟨t,rfl⟩:=a;obtain⟨u,rfl,e⟩:=b.one;cases e;obtain⟨its,f,g,_⟩:=I.list c;exact join_list g.isList (Zks f) d λt' k=>⟨.str _,H,I.tok _,#[H],q⟩
universe E
inductive Src where
 | l (a:ae)|t (a:ae)|s (z:aj)
noncomputable def Src.val:Src->V
 | .l a=>.ref a
 | .t a=>.ref a
 | .s z=>.str z
noncomputable def ZqC(c:Nat):V:=.str #[pd]
def Src.its(K:#[7])(H:Hp):Src->List V->Prop
 | .l a,xs=>SqL K H a xs
 | .t a,xs=>SqT K H a xs
 | .s z,xs=>xs=z.cps.toList.map ZqC
def Src.at(h:aE)(i:ae):Src->Nat->Prop
 | .l a,k=>h.IsListIter i a k
 | .t a,k=>h.IsTupleIter i a k
 | .s z,k=>∃tk,h.IsStrIter i (strIterType z) z tk k
noncomputable def Src.many:Src->List aa->Nat
 | .l _,us=>us.length
 | .t _,us=>us.length
 | .s z,_=>z.cps.size
def Src.off:Src->ae->Prop
 | .l a,b=>a≠b
 | .t a,b=>a≠b
 | .s _,_=>True
noncomputable def Src.iter(tk:Tok):Src->aI
 | .l a=>{ cls:=.type "list_iterator",data:=.fields #[.ref a,.int 0 0] }
 | .t a=>{ cls:=.type "tuple_iterator",data:=.fields #[.ref a,.int 0 0] }
 | .s z=>{ cls:=.type (strIterType z),data:=.fields #[.str z tk,.int 0 0] }
noncomputable def Src.value(tk:Tok):Src->aa
 | .l a=>.ref a
 | .t a=>.ref a
 | .s z=>.str z tk
section
variable {X:Cx} {ai:List (ae×aI)} {σ:St} {H:Hp} {s:ah}
theorem Inv.zipped{fp:#[hB]}{h':aE}{tk:Nat}{x y:V}{u v:aa}(I:#[l])(g:#[nF,ai,H])(k:ZH x u)(l:ZH y v)
  (p:IsPair h' s.heap.objs.size u v) (hfh:∀b∈fp,∃o,h'.get? b=U o) (hk:∀c o,c ∉ fp->s.heap.get? c=U o->h'.get? c=U o) :
  Inv X ai σ (upd H s.heap.objs.size (.tup [x,y])) { s with heap:=h',toks:=tk }:=by
 have t:H s.heap.objs.size=af:=I.fresh;have ne:∀b a,s.heap.get? b=U a->b≠s.heap.objs.size:=λb a e=>QK (Qx e);have h:∀b u,H b=U u->b≠s.heap.objs.size:=λb u e=>Zd e t;have i:∀b u,H b=U u->b ∉ fp:=λb u e d=>by rw[(g b d).1]at e;cases e
 refine I.step (g':=s.gens) (d':=s.drawn) (ch:=fp) (λb d=>⟨(g b d).2.2.2.1,(g b d).2.1,(g b d).2.2.2.2.1,(g b d).2.2.2.2.2⟩)
  (λb a _ _ f e _=>hk b a f e) (λb a _ _ f e _=>⟨a.slots,hk b a f e⟩) (λb a _ e n=>by rw[Ze (ne b a e)];exact n) (λb a f e=>⟨a,hk b a f e⟩)
  (λb w e=>by rw[Ze (h b _ e)];exact e) (λb a u e=>by rw[Ze (h b _ e)];exact e) (λb ps e=>⟨#[],by rw[Ze (h b _ e),e];simp⟩) (λm A=>?_) #[oW,b,j,e] I.bare
 ·obtain⟨a,B,C,D,r⟩:=A;exact⟨a,B,C,hk _ a (λz=>(g _ z).2.1 rfl) D,r⟩
 ·by_cases d:b=s.heap.objs.size
  ·subst d;show#[oz,Zb,e];exact⟨by show 2<=aq;decide,[u,v],.cons k #[oK,l],⟨_,p,rfl,_,rfl⟩⟩
  ·rw[Ze d]at e;refine(I.hok b j e).stay (λc E f q=>hk c E ?_ q) (λc q=>by rw[Ze (h c _ q)];exact q) λc w q=>by rw[Ze (h c _ q)];exact q
   rcases f with z|z
   ·rw[z];exact i b j e
   ·exact i c _ z
universe E
section
variable {X:Cx} (K:#[7])
theorem ixL(h:X.K=K:=by rfl):IxR X (MW K):=by subst h;exact Zqf
theorem ixT(h:X.K=K:=by rfl):IxR X (MV K):=by subst h;exact Zrl
theorem slL(h:X.K=K:=by rfl):SlR X (MT K):=by subst h;exact Zql
def Ztj:List V->Hp->VK->Prop:=λxs H Q=>X2 λp ys=>xs=#[hd]/\#[eZ,K,ys]/\Q (.int ys.length) H
theorem YX(h:X.K=K:=by rfl):YT X #[lQ] (Ztj K):=by subst h;exact Ziz
theorem Ti(h:X.K=K:=by rfl):YT X #[nj] (MG K):=by subst h;exact ZoH
def Ztr:List V->Hp->VK->Prop:=λxs H Q=>X2 λ(p:ae) (bs:List Bool)=>xs=#[hd]/\SqL K H p (bs.map V.bl)/\Q (.bl (bs.all id)) H
theorem Zuy(hc:#[81]:=by rfl)(h:X.K=K:=by rfl):YT X #[c3,"all"] (Ztr K):=by subst h;exact Zm1 hc
def ZtI:V->List V->Hp->VK->Prop:=λx vs H Q=>X3 λ(sep:aj) (p:ae) (ys:List aj)=>x=.str sep/\vs=#[hd]/\SqL K H p #[s3]/\#[lv].sum+ys.length*sep.length<=16777216/\Q (.str #[p0]) H
theorem Zs8(h:X.K=K:=by rfl):MtR X "str.join" (ZtI K):=by subst h;exact ZpJ
theorem iL{b l:aD}{a:TE}(hl:PE X l a)(h:X.K=K:=by rfl):PI X b l (ND K a):=by subst h;exact Zqi hl
theorem iT{b l:aD}{a:TE}(hl:PE X l a)(h:X.K=K:=by rfl):PI X b l (NC K a):=by subst h;exact Zrq hl
theorem gT{a:#[lp]}{k:Nat}{t:TGs}{n:Nat}{pos:Pos}(h:PGs X a t)(b:X.K=K:=by rfl)(hc:#[81]:=by rfl)
  (c:(cu a X.env).length=n:=by rfl) (d:(cu a X.env).findIdx? #[lW]=af:=by rfl):PG X (.Tuple a k pos) (NG K n t):=by subst b;exact ZsA hc h c d
universe E
structure Df (P:ar) (w:aA) (K:#[7]) (mg:#[P]) (base:aE) (k:Nat) (x:aj) (ps:#[y]) (sp:Sp):Prop where
 ex:X2 λf fd=>Yu P w K mg base CX0 k f fd ps sp/\mg x=U #[a1]/\PySem.W.keepIn K #[a1]=true/\Yt K fd ps []
section
variable {P:ar} {w:aA} {K:#[7]} {mg:aj->Option aa} {base:aE}
structure Top (K:#[7]) (mg:#[P]) (x:aj) (st:aJ) (ps:#[y]):Prop where
 ex:X2 λf fd=>Fun K x x st f fd/\mg x=U #[a1]/\Yt K fd ps []
theorem Top.df{x:aj}{st:aJ}{N ps:#[y]}{k:Nat}{sp:Sp}(T:Top K mg x st ps)(S:#[ln])(len:#[38])
  (c:∀ (a:aa) (f:ae) (A:az) (outer:List Env) (s:ah) (H:Hp) (vs:List V) (Q:VK) (E:XK),Y7 k #[dx,x]->sp vs H Q E ->
   ∃t,PSs #[dw,x].nox (Zl st) t/\t { nx:=λ_ d=>Q .non d,rt:=Q } #[mk] H):Df P w K mg base (k+1) x ps sp:=by
 obtain⟨f,e,F,m,b⟩:=T.ex;exact⟨f,e,F.ok S len #[eg,g,c],m,F.kp,b⟩
universe E
section
variable {X:Cx} {k j:Nat} {x:aj} {ps:List aj} {sp:Sp} {e:aD} {es:List aD} {t:TA} {p pos:Pos}
theorem ZE(F:Df X.prog X.w X.K X.mg X.base k x ps sp)(a:Y7 j X.A)(ha:#[cq])(c:k<=j:=by decide)(d:Gl X x:=by rfl)(g:#[A]:=by decide)
  (h:#[t]:=by rfl) (i:#[U]:=by rfl) :
  PE X #[50] (Nh sp [] E0 t):=by
 obtain⟨f,fd,F,m,l,b⟩:=F.ex;exact ZqM F (a.mono c) d m l b .nil Tl ha g h i
theorem Vm{T:String}(hm:X.mg x=af)(a:ci x=U (.type T))(b:Gl X x:=by rfl)(c:#[h8]:=by decide)(hd:#[A]:=by decide):PE X #[cC] (tC (.ty T)) :=
 ZpY b hm a rfl c hd
universe E
theorem MF{lo:Int}{n k:Nat}{D:ae}{a:St}{c:Hp}{g:TG}{d:TE}{Q:VK}(Pv:#[rM])(h0:#[cS,a,c])
  (j:∀i ys a H,i<n->Pv i ys a H->g #[oA,lo,i] a H λf l=>d f l λy h=>h D=U #[gd]/\ys.length<aq/\Pv (i+1) #[pP] f #[tV,h])
  (hd:#[dB,ys,a,n]):WG #[sc] D k a c g WH d Q:=by
 refine⟨λi m ys a H=>m=n-i/\i<=n/\Pv i ys a H,#[oX,n],?_⟩;rintro i m ys a H ⟨rfl,hi,p⟩;by_cases b:i<n
 ·refine .inr ⟨b,Pv (i+1),λcJ aP o q=>⟨n-(i+1),by lia,rfl,b,q⟩,λx o y=>?_⟩;show#[c5,e,y,y];subst e y;simp only[WH,↓reduceIte];exact j i ys a _ b p
 ·have e:i=n:=by lia
  subst e;exact .inl ⟨Qh _,hd ys a H p⟩
section
variable {X:Cx} {N N':List aj} {o c:aS} {x:aj} {pos:Pos} {C:ae} {s:ah} {H:Hp} {fp:List ae}
theorem RC(S:#[ba])(a:#[86])(hl:#[iO]):#[u].env.scope.names.lookup x=U .local:=by have e:=#[oY,a,C];rw[hl]at e;exact e
theorem Uz(S:#[ba])(a:#[86])(hl:c.names.lookup x=U .globalImplicit):Gl #[u] x:=by have e:=#[oY,a,C];rw[hl]at e;exact e
theorem ZoA(S:#[ba])(b:#[86])(hl:#[je]):Vis #[u].env.scope x:=by
 have e:=#[oY,b,C];rw[hl]at e;have a:#[u].env.scope.names.lookup x=if X.env.kindOf x=U .cell then U aL.cell else U aL.free:=e
 by_cases z:X.env.kindOf x=U .cell
 ·show#[n3,z,a];exact .inr (.inl a)
 ·show#[fx,z,a];exact .inr (.inr a)
theorem cv(i:Nat)(S:#[ba])(a:#[86])(hl:#[je])(b:N'[i]? = U x:=by rfl)(hd:#[A]:=by decide)(d:#[bc]:=by decide) :
  PE #[u] #[cC] (TB i):=RX b (ZoA S a hl) hd d
theorem cw(i:Nat)(S:#[ba])(a:#[86])(hl:#[iO])(b:N'[i]? = U x:=by rfl)(hd:#[A]:=by decide)(d:#[bc]:=by decide) :
  PE #[u] #[cC] (TB i):=RX b (.inl (RC S a hl)) hd d
theorem cg(i:Nat)(S:#[ba])(a:#[86])(hl:#[iO])(b:N'[i]? = U x:=by rfl):PG #[u] #[cC] (UH i) :=
 Zz S.nd b (.inl (RC S a hl)) (.inr (RC S a hl))
universe E
mutual
inductive DV (K:#[7]) (H:Hp):V->ax->Prop where
 | non:DV K H .non .none
 | bl (b:Bool):DV K H (.bl b) (.bool b)
 | int (i:Int):DV K H (.int i) (.int i)
 | str (s:aj):DV K H (.str s) (.str s)
 | lst {a:ae} {xs:List V} {ds:List ax}:SqL K H a xs->DVs K H xs ds->DV K H (.ref a) (.list ds)
 | tup {a:ae} {xs:List V} {ds:List ax}:SqT K H a xs->DVs K H xs ds->DV K H (.ref a) (.tuple ds)
inductive DVs (K:#[7]) (H:Hp):List V->List ax->Prop where
 | nil:DVs K H [] []
 | cons {x:V} {d:ax} {xs:List V} {ds:List ax}:DV K H x d->DVs K H xs ds->DVs K H (x::xs) (d::ds)
end
section
variable {X:Cx} {ai:List (ae×aI)} {σ:St} {H:Hp} {s:ah}
mutual
theorem Inv.reads(I:#[l]):∀ {x:V} {d:ax} {u:aa},DV X.K H x d->ZH x u->∃as,Reads s.heap u d as
 | _,_,_,.non,r=>by cases r;exact⟨_,.none⟩
 | _,_,_,.bl b,r=>by cases r;exact⟨_,.bool b⟩
 | _,_,_,.int i,r=>by obtain⟨t,rfl⟩:=r;exact⟨_,.int i t⟩
 | _,_,_,.str z,r=>by obtain⟨t,rfl⟩:=r;exact⟨_,.str z t⟩
 | _,_,_,.lst h a,r=>by cases r;obtain⟨its,c,⟨o,n,e,f,_,g⟩,_⟩:=I.list h;obtain⟨as,q⟩:=#[m2];exact⟨_,reads_list_at e f g #[cG,q]⟩
 | _,_,_,.tup h a,r=>by cases r;obtain⟨its,c,⟨o,e,f,n,g⟩,_⟩:=I.tuple h;obtain⟨as,q⟩:=#[m2];exact⟨_,reads_tuple_at e f g #[cG,q]⟩
theorem Inv.readsAll(I:#[l]):∀ {xs:List V} {ds:List ax} {us:List aa},DVs X.K H xs ds->ZA xs us->∃as,ReadsAll s.heap us ds as
 | _,_,_,.nil,r=>by cases r;exact⟨_,.nil⟩
 | _,_,_,.cons h a,r=>by
  cases r with
  | cons b c=>obtain⟨as,d⟩:=Inv.reads I h b;obtain⟨bs,e⟩:=#[m2];exact⟨_,.cons d e⟩
end
def Th(K:#[7])(a:Bool):R2:=λx y H Q=>X2 λd e=>DV K H x d/\DV K H y e/\SeqAt.shaped d=true/\SeqAt.shaped e=true/\Q (.bl (if a then !ax.eqv d e else ax.eqv d e)) H
theorem ZrX(hu:#[fB,64]):OpR X (aO .Eq) (Th X.K false):=by intro ai s σ H x y v u Q I a b h;obtain⟨d,e,c,f,g,i,q⟩:=h;obtain⟨as,j⟩:=I.reads c a;obtain⟨bs,k⟩:=I.reads f b;exact eq_dataH j k g i hu #[tP,_,q]
theorem Zsl(hu:#[fB,64]):OpR X (aO .NotEq) (Th X.K true):=by intro ai s σ H x y v u Q I a b h;obtain⟨d,e,c,f,g,i,q⟩:=h;obtain⟨as,j⟩:=I.reads c a;obtain⟨bs,k⟩:=I.reads f b;exact ne_dataH j k g i hu #[tP,_,q]
universe E
theorem eqD{X:Cx}(K:#[7]){k:Nat}(a:#[hZ])(h:X.K=K:=by rfl):OpR X (aO .Eq) (Th K false):=by subst h;exact ZrX a.units
theorem neD{X:Cx}(K:#[7]){k:Nat}(a:#[hZ])(h:X.K=K:=by rfl):OpR X (aO .NotEq) (Th K true):=by subst h;exact Zsl a.units
mutual
theorem DV.mono{K:#[7]}{H c:Hp}(s:Zw H c):∀ {x:V} {d:ax},DV K H x d->DV K c x d
 | _,_,.non=>.non
 | _,_,.bl b=>.bl b
 | _,_,.int i=>.int i
 | _,_,.str z=>.str z
 | _,_,.lst h a=>.lst (s.seq h) (DVs.mono s a)
 | _,_,.tup h a=>.tup (by
   rcases h with(h|⟨ob,h⟩)|h
   ·exact .inl (.inl (s _ _ h))
   ·exact .inl (.inr ⟨ob,s _ _ h⟩)
   ·exact .inr h) (DVs.mono s a)
theorem DVs.mono{K:#[7]}{H a:Hp}(s:Zw H a):∀ {xs:List V} {ds:List ax},DVs K H xs ds->DVs K a xs ds
 | _,_,.nil=>.nil
 | _,_,.cons h b=>.cons (DV.mono s h) (DVs.mono s b)
end
noncomputable def Ite(K:#[7])(a:ae):It :=
 ⟨λi H=>∃b,SqL K H a b/\i<b.length,
  λi H v c=>∃p,H p=af/\v=.ref p/\∀b,SqL K H a b->∀x,b[i]? = U x->c=upd H p (.tup [.int i,x]),
  λi H=>∃b,SqL K H a b/\b.length<=i⟩
theorem Zmh{P:ar}{w:aA}{K:#[7]}{Q:#[lp]}{R:Nat}{S:Pos}{a e it:ae}(F:e≠it) :
  Wp P w K (.Tuple Q R S) #[p2] [e,it] e (λi h=>(∃l,IsEnum h e it i l)/\h.IsListIter it a i) where
 mem:=by simp
 obj:=λi h st b d=>by
  obtain⟨⟨l,f⟩,o,g,j,T⟩:=st;show#[bG];rcases d with rfl|rfl
  ·show#[dF,f,v]
  ·exact⟨o,g,λv z=>by rw[T]at z;cases z⟩
 keep:=λi h p st k=>by obtain⟨⟨l,f⟩,g⟩:=st;exact⟨⟨l,k e #[4] _ f⟩,g.at λo q=>k it #[4] o q⟩
 item:=by
  intro X r hw t j i G s J H E I m st y;show#[bU];obtain⟨u,V,W⟩:=A.get (Qb l1);refine wpAny_pyNext_enum_item f g B.isList (x:=u) #[cG,V] F λp a1 a2 a3 a4 a5=>?_;have lt:#[g4]:=λq=>QaH (Qx q);have Y:s.heap.objs.size≠e:=lt f;refine⟨_,rfl,wpAny_letOwnedTupleGo_enum a1 λC M Z=>?_⟩;have D:aE.SameBut e p C:=Z;have N:C.IsListIter it a (i+1):=a2.extBut D.extBut F.symm;have I2:Inv X G J (upd H s.heap.objs.size (.tup [.int i,L[i]])) { s with heap:=C,toks:=s.toks+1 }:=by
   refine I.zipped (fp:=[e,it]) (u:=.int i s.toks) (v:=u) m #[H] W (D.extBut _ _ Y a3) (λb d=>?_) λc o j q=>?_
   ·show#[bG];rcases d with rfl|rfl
    ·exact⟨_,M⟩
    ·obtain⟨o,q,_⟩:=N;exact⟨o,q⟩
   ·simp only[List.mem_cons,List.not_mem_nil,or_false,not_or]at j;exact D.extBut _ _ j.1 (a5 c o j.1 j.2 q)
  refine⟨.ref s.heap.objs.size,_,I2,rfl,⟨s.heap.objs.size,I.fresh,rfl,λzo w1 x' O=>?_⟩,⟨⟨_,M⟩,N⟩,λb d=>?_⟩
  ·have e3:=I.list_inj w1 n;subst e3;rw[Qb l1]at O;cases O;rfl
  ·rw[Ze (λz=>by
    obtain⟨o,q⟩:∃o,s.heap.get? b=U o:=by
     show#[bG];rcases d with rfl|rfl
     ·exact⟨_,f⟩
     ·obtain⟨o,q,_⟩:=g;exact⟨o,q⟩
    exact lt q z.symm)]
   exact(m b d).1
 done:=by intro X r hw t j i G s J H E I m st y;show#[bU];show#[py];have hl:=A.length;exact wpAny_pyNext_enum_end (I.ok.hd j) f g B.isList #[dj,List.getElem?_toArray,QM,#[2]] λp eb=>⟨rfl,I.turned (t':=#[tj]) (λb o d q=>eb b o d q) f0 f1 f3 f4 f5⟩
 self:=λ_ _ _ _ _ st h=>by obtain⟨⟨l,f⟩,_⟩:=st;exact wpAny_pyIter_enum f h
def ME(K:#[7])(c:TA):TI:=λd H R=>c d H λvs b=>X2 λa xs=>vs=[V.ref a]/\SqL K b a xs/\R #[p2] b
theorem Zp2{X:Cx}{l:aD}{f:TA}{p pos:Pos}{o:#[lp]}{r:Nat}{t:Pos}(v:Gl X "enumerate")(hm:X.mg "enumerate" = af)(ha:PA X [l] f)
  (w:#[ev,l]:=by rfl):PI X (.Tuple o r t) #[j9] (ME X.K f):=by
 show#[dP,g,i,R];refine Call_ (VR I v hm boot_enumerate (Qan (thn #[eQ,g,i] ?_) w rfl));rintro us c ⟨vs,j,d,x,y⟩;obtain⟨a,xs,e,z,q⟩:=y;subst e;obtain⟨u,rfl,A⟩:=x.one;cases A;obtain⟨its,rv,B,_⟩:=d.list z;refine call_enumerate_list B.isList λC k D hsz E=>wpAny_pyIter_enum k ?_;have F:Inv X g i j { c with heap:=C }:=d.kept (t':=c.toks) E;refine⟨_,_,_,_,j,rfl,F,Zmh (a:=a) (e:=c.heap.objs.size+1) (it:=c.heap.objs.size) (QaH #[lI]),⟨⟨_,k⟩,D⟩,λb m=>?_,q⟩;have n:c.heap.objs.size<=b:=by
  simp only[List.mem_cons,List.not_mem_nil,or_false]at m;rcases m with rfl|rfl
  ·exact Nat.le_add_right _ 1
  ·exact Qh _
 exact d.fpOk n (d.hok.fresh n)
theorem iE{X:Cx}(K:#[7]){l:aD}{a:TA}{p pos:Pos}{b:#[lp]}{c:Nat}{d:Pos}(hm:X.mg "enumerate" = af)(ha:PA X [l] a)(e:Gl X "enumerate":=by rfl)(f:X.K=K:=by rfl)
  (g:#[ev,l]:=by rfl):PI X (.Tuple b c d) #[j9] (ME K a):=by subst f;exact Zp2 e hm ha g
theorem RB{K:#[7]}{a:ae}{xs:#[jr]}{g:TG}{l:TS}{D:YH}{b:St}{H:Hp}(Pv:#[pI])(h0:Pv 0 b H)(hl:∀i b H,Pv i b H->SqL K H a xs)
  (o:∀i x b H p,xs[i]? = U x->Pv i b H->H p=af->g #[gY] b #[ic] λf h=>l { D with nx:=Pv (i+1),ct:=Pv (i+1),bk:=D.nx } f h) (hd:#[l0]) :
  ∃W:Nat->Nat->St->Hp->Prop,(∃m,W 0 m b H)/\∀i m b H,W i m b H ->
   (#[p2].stop i H/\D.nx b H)\/(#[p2].go i H/\∃N:St->Hp->Prop,#[eO,j,c,n]/\∀x c,#[p2].yld i H x c->g x b c λf h=>l { D with nx:=N,ct:=N,bk:=D.nx } f h):=by
 refine#[gH];rintro i m b H ⟨rfl,hi,p⟩;have k:=hl i b H p;by_cases d:i<xs.length
 ·refine .inr ⟨⟨xs,k,d⟩,Pv (i+1),λj c q=>⟨xs.length-(i+1),by lia,rfl,d,q⟩,λx c y=>?_⟩;show#[ns,s,t,k,d];exact o i _ b H r (Qb d) p s
 ·have e:#[hv]:=by lia
  exact .inl ⟨⟨xs,k,by lia⟩,hd b H (e ▸ p)⟩
def Zrs(K:#[7]):List V->Hp->VK->Prop:=λxs H Q=>X2 λp ys=>xs=#[hd]/\#[eZ,K,ys]/\∀l,H l=af->Q #[h6] #[oV,l]
theorem MD{X:Cx}(K:#[7])(h:X.K=K:=by rfl):YT X #[ka] (Zrs K):=by subst h;exact Zh2
section
variable {X:Cx}
def Zty:V->List V->Hp->VK->Prop:=λx vs H Q=>∃i,x=.int i/\vs=[]/\Q (.int (aT.Int.intBits i:Nat)) H
theorem ZpN:MtM X "int.bit_length" Zty:=by intro ai s σ H x vs v us Q I a b h;obtain⟨i,rfl,rfl,q⟩:=h;obtain⟨t,rfl⟩:=a;have c:=b.zero;subst c;exact call_int_bit_length #[oI,_,q]
theorem inQ(K:#[7])(h:X.K=K:=by rfl):OpR X (aO .In) (rIn K false):=by subst h;exact ZmN
universe E
noncomputable def Its(z:aj):It:=⟨λi _=>i<z.cps.size,λi H v a=>a=H/\∃c,z.cps[i]? = U c/\v=.str #[pd],λi _=>z.cps.size<=i⟩
theorem Zmu{P:ar}{w:aA}{K:#[7]}{F:aD}(z:aj)(t:Tok)(it:ae):Wp P w K F (Its z) [it] it (λi h=>h.IsStrIter it "str_ascii_iterator" z t i) where
 mem:=by simp
 obj:=λi h st b a=>by
  have e:b=it:=by simpa using a
  show#[S]
 keep:=λi h f st k=>by obtain⟨o,e,r⟩:=st;exact#[jv]
 item:=by intro X j hw l y i A s B H E I g st m;show#[lc];refine wpAny_pyNext_ascii_item st C λf D J=>?_;show#[10]
 done:=by intro X j hw l y i A s B H E I g st m;show#[ap];exact wpAny_pyNext_ascii_end (I.ok.hd y) st #[rm] λf M=>⟨rfl,I.turned (t':=#[tj]) #[eP,a,M] n p q u x⟩
 self:=#[fj,wpAny_pyIter_striter_ascii]
theorem ZmF{P:ar}{w:aA}{K:#[7]}{F:aD}(z:aj)(t:Tok)(it:ae):Wp P w K F (Its z) [it] it (λi h=>h.IsStrIter it "str_iterator" z t i) where
 mem:=by simp
 obj:=λi h st b a=>by
  have e:b=it:=by simpa using a
  show#[S]
 keep:=λi h f st k=>by obtain⟨o,e,r⟩:=st;exact#[jv]
 item:=by intro X j hw l y i A s B H E I g st m;show#[lc];refine wpAny_pyNext_wide_item st C λf D J=>?_;show#[10]
 done:=by intro X j hw l y i A s B H E I g st m;show#[ap];exact wpAny_pyNext_wide_end (I.ok.hd y) st #[rm] λf M=>⟨rfl,I.turned (t':=#[tj]) #[eP,a,M] n p q u x⟩
 self:=#[fj,wpAny_pyIter_striter_wide]
section
variable {X:Cx} {tg:aD}
def Zuu(a:TE):TI:=λb H R=>a b H λx c=>∃z,x=.str z/\R (Its z) c
theorem Zst{l:aD}{f:TE}(hl:PE X l f):PI X tg l (Zuu f):=by
 show#[dP,g,j,R];refine thn #[ot,hl,g,j] ?_;rintro v a ⟨x,d,c,k,m⟩;show#[e9,z,e,q,m];subst e;show#[dd,t,k];have fp:∀b∈[a.heap.objs.size],Xy X g d b:=λb n=>by
  have e:b=a.heap.objs.size:=by simpa using n
  subst e;exact c.fpOk #[gp] (c.hok.fresh #[gp])
 cases i:z.cps.all (·<128)
 ·exact wpAny_pyIter_wide i ⟨a.heap.objs.size,[a.heap.objs.size],_,_,d,rfl,c.kept (t':=a.toks) λb o e=>Qi _ e,ZmF z t _,#[96],fp,q⟩
 ·exact wpAny_pyIter_ascii i ⟨a.heap.objs.size,[a.heap.objs.size],_,_,d,rfl,c.kept (t':=a.toks) λb o e=>Qi _ e,Zmu z t _,#[96],fp,q⟩
theorem ZqW:OpR X (aO .IsNot) (λx y H Q=>X2 λa b=>x=.bl a/\y=.bl b/\Q (.bl (!decide (a=b))) H):=by intro ai s σ H x y v u Q I c d h;obtain⟨a,b,rfl,rfl,q⟩:=h;cases c;cases d;exact wpAny_isNot_plain rfl (ZZ I q (by cases a<;>cases b<;>rfl))
universe E
noncomputable def V4:ax->aj
 | .str z=>z
 | d=>d.shown
def MC(K:#[7]):List V->Hp->VK->Prop:=λxs H Q=>X2 λx d=>xs=[x]/\DV K H x d/\ax.layable0 d=true/\d.intsShort 13=true/\d.showable=true/\Q (.str (V4 d)) H
theorem Zmr{X:Cx}(p:X.A.guards=U [])(hu:X.A.units+64+30<cLine):YT X #[lO] (MC X.K):=by
 show#[nK,y,B,xs];obtain⟨x,d,rfl,l,c,C,m,q⟩:=h;show#[d0,f];have D:d.shown.length<=aq:=QL (shown_le13 c C) (by rw[aG];decide);have oZ:d.depth<=64:=by unfold ax.layable0 at c;rw[QU,QU]at c;exact of_decide_eq_true c.1.2
 have E:d.canLay0=true:=by unfold ax.layable0 at c;rw[QU,QU]at c;exact c.1.1
 have ref:∀a,u=.ref a->V4 d=d.shown->#[ij] (call #[lO] [u]) (EP X y B Q) X.xe s:=λa G J=>by
  subst G;obtain⟨as,K⟩:=I.reads l f;rw[J]at q;exact callType_new F.called_str #[6] (F.typeCall_str_1 _) (F.newCall_str_1 _) #[lt] F.entry_str_new
   (meets_str_new (v:=.ref a) (S:=λA R n=>n=s/\A=X.A.in1/\∀g u tk,#[n6,o,g.get?]->R (.ok (.ret (.str d.shown u))) { s with heap:=g,toks:=tk }) λprog w A R n j=>by obtain⟨rfl,rfl,j⟩:=j;exact strOf_of_reads K m (ax.noDict_hsm (ax.hasDict_of_canLay d E)) p (by show X.A.units+1+1+(d.depth+1)<cLine;lia) (λ_ _ e=>e) (λg u tk k=>j g u tk k) D)
   ⟨rfl,rfl,λg u tk k=>⟨typeIs_str _ _ _,.str _,H,I.kept k,#[H],q⟩⟩
 cases l with
 | non=>cases f;exact PySem.P.str_of_none #[hr]
 | bl b=>cases f;exact PySem.P.str_of_bool #[hr]
 | int i=>obtain⟨t,rfl⟩:=f;exact PySem.P.str_of_int (of_decide_eq_true m) #[hr]
 | str z=>obtain⟨t,rfl⟩:=f;exact PySem.P.str_of_str ⟨.str _,H,I,#[H],q⟩
 | lst L M=>cases f;exact ref _ rfl rfl
 | tup L M=>cases f;exact ref _ rfl rfl
theorem RA{X:Cx}(K:#[7]){k:Nat}(a:#[hZ])(h:X.K=K:=by rfl):YT X #[lO] (MC K):=by subst h;exact Zmr a.gd #[oQ,a.un]
theorem Zmn{z:aj}{k:Nat}{D:ae}{a:St}{h:Hp}{g:TG}{j:TT}{l:TE}{Q:VK}(Pv:#[rM])(h0:#[cS,a,h])
  (q:∀i c ys a H,z.cps[i]? = U c->Pv i ys a H->g (.str #[pd]) a H λd r=>j d r λb n=>if b=true then l d n λy o=>o D=U #[gd]/\ys.length<aq/\Pv (i+1) #[pP] d #[tV,o] else Pv (i+1) ys d n)
  (hd:#[dB,ys,a,z.cps.size]):WG (Its z) D k a h g j l Q:=by
 refine⟨λi m ys a H=>m=z.cps.size-i/\i<=z.cps.size/\Pv i ys a H,#[oX,z.cps.size],?_⟩;rintro i m ys a H ⟨rfl,hi,p⟩;by_cases f:i<z.cps.size
 ·refine .inr ⟨f,Pv (i+1),λcJ aP s t=>⟨z.cps.size-(i+1),by lia,rfl,f,t⟩,λx s y=>?_⟩;obtain⟨rfl,c,u,rfl⟩:=y;exact q i c ys a _ u p
 ·have e:i=z.cps.size:=by lia
  exact .inl ⟨Nat.le_of_not_lt f,hd ys a H (e ▸ p)⟩
noncomputable def XU(kvs:#[N])(k:#[f3]):Option V:=#[jF]
abbrev V3(H:Hp):List (List Key×V)->List (List Key×ae×aa)->Prop:=Paired λ(p:List Key×V) (q:List Key×ae×aa)=>p.1=q.1/\H q.2.1=U #[ix]/\ZH p.2 q.2.2
theorem ZlP{H:Hp}{kvs:#[N]}{xs:#[34]}(r:#[lo]){p:List Key×V}{q:List Key×ae×aa}(h:p.1=q.1/\H q.2.1=U #[ix]/\ZH p.2 q.2.2):V3 H (kvs++[p]) (xs++[q]):=by
 induction r with
 | nil=>exact .cons h .nil
 | cons a t b=>exact .cons a b
theorem ZmD{H c:Hp}{kvs:#[N]}{xs:#[34]}(k:#[nl,b,ys,H,c])(r:#[lo]):V3 c kvs xs:=by
 induction r with
 | nil=>exact .nil
 | cons a t d=>exact .cons ⟨a.1,k _ _ a.2.1,a.2.2⟩ d
theorem MB{H:Hp}{R:List Key->ae->Prop}(k:∀ks b,H b=U #[ho]->R ks b){kvs:#[N]}{xs:#[34]}(r:#[lo]):∀x∈xs,R x.1 x.2.1:=by
 induction r with
 | nil=>intro x hx;cases hx
 | cons a t c =>
  intro x hx;rcases QG.mp hx with rfl|hx
  ·exact k _ _ #[c9,a.1,a.2.1]
  ·exact c x hx
theorem Zm3{H:Hp}{kvs:#[N]}{xs:#[34]}(r:#[lo]):kvs.length=xs.length:=by
 induction r with
 | nil=>rfl
 | cons a t b=>rw[QF,QF,b]
theorem ZrF{P:ar}{w:aA}{k:Key}{u:aa}(r:ZH (kV k) u):#[iw].is k u=true:=by
 rcases k with i|x
 ·obtain⟨t,e⟩:=#[qU];rw[e];exact NL P w i t
 ·obtain⟨t,e⟩:=#[qT];rw[e];exact NK P w x t
theorem Rz{P:ar}{w:aA}:∀ (ks:List Key) (us:List aa),ZA #[aD] us->ItemsAre #[iw] ks us:=by
 intro ks;induction ks with
 | nil=>intro us r;cases (show ZA [] us from r);exact .nil
 | cons k ks c =>
  intro us r;cases (show ZA (kV k::ks.map kV) us from r) with
  | cons a b=>exact .cons (ZrF a) (c _ b)
section
variable {X:Cx} {ai:List (ae×aI)} {σ:St} {H:Hp} {s:ah}
theorem Inv.tkey{ks:#[f3]}{b:ae}(I:#[l])(e:H b=U #[ho]):#[rX].is s.heap ks b:=by obtain⟨_,its,r,a⟩:=I.hok b _ e;obtain⟨o,c,d,n,f⟩:=a;refine⟨o,its.toArray,n,c,d,f,?_⟩;have:=Rz (P:=X.prog) (w:=X.w) ks its r;simpa using this
def ZtM:TE:=λ_ H Q=>∀p,H p=af->Q #[gY] (upd H p (.dT []))
theorem Rx{pos:Pos}:PE X (.Dict [] [] pos) ZtM:=by intro ai s σ H Q I h;have a:bC<s.heap.objs.size:=Nat.lt_trans #[6] (show aH<s.heap.objs.size from#[tw].lt);refine wpAny_Dict_empty ⟨.ref s.heap.objs.size,upd H s.heap.objs.size (.dT []),?_,rfl,h _ #[ay]⟩;refine I.laid (t':=#[tj]) #[pO] #[gp] ?_;refine⟨Qt _,?_,[],.nil,_,#[],0,QB _ rfl,⟨rfl,rfl,rfl⟩,rfl,rfl,List.nodup_nil⟩;exact beq_eq_false_iff_ne.mpr λz=>Qav _ (z ▸ a)
universe E
def Zs4:List V->Hp->VK->Prop:=λxs H Q=>∃j:Int,xs=[.int j]/\∀p,H p=af->Q #[gY] (upd H p (.rng 0 j))
theorem ZuC{X:Cx}:YT X #[fE,"range"] Zs4:=by intro ai s σ H xs us Q I r h;obtain⟨j,rfl,q⟩:=h;obtain⟨u,rfl,t,rfl⟩:=XV r;refine call_range_1 ⟨.ref s.heap.objs.size,_,I.laid (a:=#[kj]) (o:=.rng 0 j) #[nC,o,e] #[gp] ?_,rfl,q _ #[ay]⟩;exact⟨_,_,_,QB _ rfl⟩
noncomputable def ZX(lo:Int)(n:Nat):List Int:=(List.range n).map λ(k:Nat)=>lo+k
theorem XN(lo:Int)(n:Nat):(ZX lo n).length=n:=by simp[ZX]
theorem Zkp{lo:Int}:∀ (n:Nat) (us:List aa),us.length=n->(∀ (j:Nat) (v:aa),us[j]? = U v->∃t,v=aa.int (lo+j*1) t)->ZA ((ZX lo n).map V.int) us:=by
 intro n us b h;subst b;induction us generalizing lo with
 | nil=>exact .nil
 | cons u r c =>
  have e:ZX lo (u::r).length=lo::ZX (lo+1) r.length:=by unfold ZX;rw[QF,List.range_succ_eq_map,Qj,QA];refine congr (congrArg _ #[4]) (QJ λa _=>?_);show#[g2];lia
  rw[e,Qj];refine .cons ?_ (c λj v d=>?_)
  ·obtain⟨t,e⟩:=h 0 u rfl;exact⟨t,by rw[e];simp⟩
  ·obtain⟨t,e⟩:=h (j+1) v #[cG,d];exact⟨t,by rw[e];congr 1;lia⟩
section
variable {X:Cx}
theorem Vl{prog:ar}{w:aA}{A:az}{E:#[D]}{s:ah}{a:ae}{o:aI}{xs:Array aa}{n:Nat}{Q:Array aa->ah->Prop}(b:s.heap.get? a=U o)(hd:o.data=.seq xs n)(h:Q xs s):aw #[j] A (aT.List.listItems #[61]) Q E s:=by unfold aT.List.listItems;exact ak (wpAny_seqItems b hd (au h))
theorem Tg(ns:#[i]):∀n,n<=ns.length->preSum (λj=>ns.getD j 0) n=(ns.take n).sum
 | 0,_=>rfl
 | n+1,h=>by
  have a:=Tg ns n #[2];have e:ns.take (n+1)=ns.take n++[ns.getD n 0]:=by rw[QE,Qb #[2],Qq,Qb #[2]];rfl
  rw[e,Q9,<- a];simp[preSum]
universe E
section
variable {prog:ar} {w:aA} {A:az} {E:aa->ah->Prop} {s:ah} {κ:PyProof.Rows.KeyKind} {k0:SortKind} {aM:Array Keyed} {st:SortSt}
def WF(prog:ar)(w:aA)(A:az)(s:ah)(k0:SortKind)(κ:#[63]):Prop :=
 ∀ (E:aa->ah->Prop) (x y:aa) (a b:κ.α) (Q:Bool->ah->Prop),κ.keyOf x=U a->κ.keyOf y=U b->Q (κ.blt a b) s->aw #[j] A (keyLt' k0 x y) Q E s
structure SB (k0:SortKind) (aM:#[hC]) (st:SortSt):Prop where
 perm:#[F].Perm aM
 kind:kindOf st=k0
 failed:failedOf st=af
 pend:pendingOf st = #[]
theorem SB.size(B:#[gu]):#[F].size=aM.size:=B.perm.size_eq
theorem SB.at(B:#[gu])(hk:#[36]){i:Nat}(hi:i<aM.size):X2 λx p=>(arrOf st)[i]? = U (x,p)/\κ.keyOf x=U (KK κ #[F] i):=by
 have hs:=B.size;have e:#[F][i]? = U #[F][i]:=QaK #[2];have b:#[F][i]∈aM.toList:=by have c:#[F][i]∈arrOf st:=Array.getElem_mem #[2];have d:=(B.perm.mem_iff (a:=#[F][i])).mp c;simpa using d
 obtain⟨a,f⟩:=hk _ b;refine⟨#[F][i].1,#[F][i].2,e,?_⟩;unfold KK;rw[e];show _=U ((κ.keyOf #[F][i].1).getD κ.dflt);rw[f];rfl
theorem SB.set(B:#[gu]){xs:#[hC]}(h:xs.Perm #[F]):SB k0 aM (setArr st xs):=⟨h.trans B.perm,B.kind,B.failed,B.pend⟩
theorem w_elem{arr:#[hC]}{i:Nat}{p:Keyed}{Q:#[oy,Keyed]}(h:arr[i]? = U p)(q:Q p st):wpS #[j] A E s (elem' arr i) Q st:=by rw[elem'_eq,h];exact wpS_pure q
theorem w_lt(a:#[aO])(hk:#[36])(B:#[gu]){i j:Nat}(b:i<aM.size)(c:j<aM.size){Q:Option Bool->SortSt->Prop}(q:Q (U (κ.blt (KK κ #[F] i) (KK κ #[F] j))) st):wpS #[j] A E s (ltAt' i j) Q st:=by obtain⟨x,p,d,k1⟩:=B.at hk b;obtain⟨y,p',e,k2⟩:=B.at hk c;rw[ltAt'_eq];refine wpS_bind (wpS_get ?_);show wpS _ _ _ _ (elem' #[F] i >>= _) _ _;refine wpS_bind (w_elem d (wpS_bind (w_elem e ?_)));rw[lt'_eq];refine wpS_bind (wpS_get (wpS_bind (wpS_lift (wpAny_attempt ?_))));rw[B.kind];refine a _ x y _ _ _ k1 k2 #[ik];exact wpS_pure q
theorem Zo3{xs:#[hC]}{i:Nat}(h0:1<=i)(S:SortedToK κ xs i)(h:κ.kle (KK κ xs (i-1)) (KK κ xs i)):SortedToK κ xs (i+1):=by
 intro a b c hb;by_cases e:b<i
 ·exact S a b c e
 ·have d:b=i:=by lia
  subst d;by_cases f:a=b
  ·subst f;exact #[gv]
  ·exact KeyOrd.kle_trans (S a (b-1) #[2] #[2]) h
theorem w_asc(g:#[aO])(hk:#[36]){a b:Nat}(hn:b<=aM.size)(h1:1<=a)(ha:a<=b)(B:#[gu])(S:SortedToK κ #[F] a){Q:#[oy,AscSt]}
  (q:∀n,a<=n->n<=b->SortedToK κ #[F] n->(n=b\/κ.klt (KK κ #[F] n) #[i8])->Q (af,n) st):wpS #[j] A E s (ascLoop a b) Q st:=by
 unfold ascLoop;refine wpS_forRange (λi c d=>d=st/\c=(af,i)/\SortedToK κ #[F] i) ?_ ?_ ⟨rfl,rfl,S⟩
 ·rintro i c d h hin ⟨rfl,rfl,e⟩;refine wpS_bind (w_lt g hk B #[pU] #[mg] ?_);cases f:κ.blt (KK κ (arrOf d) i) (KK κ (arrOf d) (i-1)) with
  | true=>exact wpS_pure (q i h #[2] e (.inr f))
  | false=>exact wpS_pure ⟨rfl,rfl,Zo3 #[2] e f⟩
 ·rintro c d ⟨rfl,rfl,e⟩;rw[show max a b=b by lia]at e ⊢;exact q b ha #[gp] e #[8]
theorem w_rev{i j:Nat}{Q:#[oy,Unit]}(q:Q () (setArr st #[oM,i,j])):wpS #[j] A E s (reverseSlice' i j) Q st:=wpS_reverse q
theorem w_desc(z:#[aO])(hk:#[36]){n j:Nat}(hn:j<=aM.size)(h1:1<=n)(F:n<=j)(B:#[gu])(S:NonIncK κ #[F] n){Q:#[oy,DescSt]}
  (q:∀ (m f:Nat) (d:SortSt),SB k0 aM d->n<=m->m<=j->NonIncK κ #[bS] m->f+1<=m->(∀i,m-(f+1)<=i->i<m->KK κ #[bS] i=KK κ #[bS] (m-1))->Q (af,m,f) d):wpS #[j] A E s (descLoop n j) Q st:=by
 unfold descLoop;refine wpS_forRange (λi c d=>∃f,c=(af,i,f)/\SB k0 aM d/\n<=i/\i<=j/\NonIncK κ #[bS] i/\f+1<=i/\(∀k,i-(f+1)<=k->k<i->KK κ #[bS] k=KK κ #[bS] (i-1))) ?_ ?_ ?_
 ·rintro i c d uB hin ⟨f,rfl,g,u,v,l,x,o⟩;have h:∀ (r:SortSt),SB k0 aM r->(∀k,KK κ (arrOf r) k=KK κ #[bS] k)->κ.kle (KK κ #[bS] i) (KK κ #[bS] (i-1))->NonIncK κ (arrOf r) (i+1):=λr B2 e t a b G y=>by
   rw[e a,e b];by_cases H:b<i
   ·exact l a b G H
   ·have I:b=i:=by lia
    subst I;by_cases J:a=b
    ·subst J;exact #[gv]
    ·exact KeyOrd.kle_trans t (l a (b-1) #[2] #[2])
  refine wpS_bind (w_lt z hk g #[pU] #[mg] ?_);cases y:κ.blt (KK κ (arrOf d) i) (KK κ (arrOf d) (i-1)) with
  | true =>
   have t:κ.kle (KK κ #[bS] i) (KK κ #[bS] (i-1)):=KeyOrd.kle_of_klt y;show#[mA];by_cases C:f>0
   ·rw[if_pos C];refine wpS_bind (w_rev (wpS_pure ?_));have e:∀k,KK κ (mirror #[bS] (i-(f+1)) i ((i-(i-(f+1))) / 2)) k=KK κ #[bS] k:=KK_mirror_equal #[dv,g.size] (λk h1 p=>o k h1 p);refine⟨0,rfl,g.set #[hH],by lia,by lia,h _ (g.set #[hH]) e t,by lia,λk h1 p=>?_⟩;have:k=i:=by lia
    subst this;rfl
   ·rw[if_neg C];refine wpS_pure ⟨0,rfl,g,by lia,by lia,h _ g (λ_=>rfl) t,by lia,λk h1 p=>?_⟩;have:k=i:=by lia
    subst this;rfl
  | false =>
   refine wpS_bind (w_lt z hk g #[mg] #[pU] ?_);cases D:κ.blt (KK κ (arrOf d) (i-1)) (KK κ (arrOf d) i) with
   | true=>exact wpS_pure (q i f d g u v l x o)
   | false =>
    have K:=κ.total _ _ y D;refine wpS_pure ⟨f+1,rfl,g,by lia,by lia,h _ g (λ_=>rfl) D,by lia,λk h1 p=>?_⟩;show KK κ #[bS] k=KK κ #[bS] i;by_cases L:k=i
    ·rw[L]
    ·rw[K];exact o k #[2] #[2]
 ·rintro c d ⟨f,rfl,g,u,v,l,x,o⟩;rw[show max n j=j by lia]at *
  exact q j f d g u v l x o
 ·refine⟨0,rfl,B,Qh _,F,S,by lia,λk h1 p=>?_⟩;have:k=n-1:=by lia
  rw[this]
theorem w_tail(g:#[aO])(hk:#[36]){n c:Nat}(h:c<=aM.size)(h1:1<=n)(k:n<=c)(B:#[gu])(N:NonIncK κ #[F] n){Q:#[jg]}
  (q:∀ (m:Nat) (d:SortSt),SB k0 aM d->1<=m->m<=c->SortedToK κ #[bS] m->Q (U m) d):wpS #[j] A E s (tail3 n c) Q st:=by
 unfold tail3;show#[mB];have f:=B.set (mirror_perm #[F] 0 n ((n-0) / 2));have e:=KK_mirror (κ:=κ) (xs:=arrOf st) (i:=0) (j:=n) #[dv,B.size];have S:SortedToK κ #[oM,0,n] n:=λa b dH hb=>by rw[e a,e b,if_pos #[57],if_pos #[57]];exact N _ _ #[2] #[2]
 refine wpS_bind (w_asc g hk h h1 k f S λm dI l o _=>?_);exact wpS_pure (q m _ f #[2] l o)
theorem w_part(g:#[aO])(hk:#[36]){n d:Nat}(h:d<=aM.size)(p:n+1<=d)(B:#[gu])(N:NonIncK κ #[F] (n+1)){Q:#[jg]}
  (q:∀ (m:Nat) (c:SortSt),SB k0 aM c->1<=m->m<=d->SortedToK κ (arrOf c) m->Q (U m) c):wpS #[j] A E s (descPart n d) Q st:=by
 unfold descPart;show#[lS];refine wpS_bind (w_desc g hk h #[2] p B N λm f c i m1 j l hq r=>?_);show#[mA];by_cases o:f>0
 ·rw[if_pos o];show#[mB];have e:∀k,KK κ (mirror (arrOf c) (m-(f+1)) m ((m-(m-(f+1))) / 2)) k=KK κ (arrOf c) k:=KK_mirror_equal #[dv,i.size] (λk t u=>r k t u);exact w_tail g hk h #[2] j (i.set #[hH]) (λa b v x=>by rw[e a,e b];exact l a b v x) q
 ·rw[if_neg o];exact w_tail g hk h #[2] j i l q
theorem w_count(g:#[aO])(hk:#[36]){c:Nat}(h:c<=aM.size)(h1:1<=c)(B:#[gu]){Q:#[jg]}
  (q:∀ (m:Nat) (i:SortSt),SB k0 aM i->1<=m->m<=c->SortedToK κ (arrOf i) m->Q (U m) i):wpS #[j] A E s (countRun' 0 c) Q st:=by
 rw[countRun0_eq];refine wpS_bind (w_asc g hk h (Qh 1) h1 B (λa b j f=>by obtain rfl:a=b:=#[2];exact #[gv]) λn o p S u=>?_);show wpS _ _ _ _ (if (n == c)=true then _ else _) _ _;by_cases l:n=c
 ·rw[if_pos #[dj,l,beq_self_eq_true,_]];exact #[ru]
 ·rw[if_neg (by intro z;exact l (eq_of_beq z))];have v:=u.resolve_left l;have r:(∀k,k<n->KK κ #[F] k=KK κ #[F] (n-1))->NonIncK κ #[F] (n+1):=λd a b j f=>by
   by_cases x:b<n
   ·rw[d a #[2],d b x];exact #[gv]
   ·have y:b=n:=by lia
    subst y;by_cases C:a=b
    ·subst C;exact #[gv]
    ·rw[d a #[2]];exact KeyOrd.kle_of_klt v
  by_cases t:n>1
  ·rw[if_pos t];refine wpS_bind (w_lt g hk B #[2] #[2] ?_);cases f:κ.blt (KK κ (arrOf st) 0) (KK κ (arrOf st) (n-1)) with
   | true=>exact #[ru]
   | false =>
    have d:∀k,k<n->KK κ #[F] k=KK κ #[F] (n-1):=λk D=>by have a1:κ.kle (KK κ #[F] k) #[i8]:=S k (n-1) #[2] #[2];have a2:κ.kle #[i8] (KK κ #[F] k):=KeyOrd.kle_trans (show κ.kle #[i8] (KK κ #[F] 0) from f) (S 0 k #[2] #[2]);exact KeyOrd.kle_antisymm a1 a2
    show#[mB];have e:∀k,KK κ #[oM,0,n] k=KK κ #[F] k:=KK_mirror_equal #[dv,B.size] (λk _ F=>d k F);exact w_part g hk h #[2] (B.set #[hH]) (λa b j f=>by rw[e a,e b];exact r d a b j f) q
  ·rw[if_neg t];exact w_part g hk h #[2] B (r λk D=>by rw[show k=n-1 by lia]) q
theorem MA{xs:#[hC]}{k l:Nat}(hk:k<xs.size)(hl:l<=k)(e:SortedToK κ xs k)(h:∀j,j<l->κ.kle (KK κ xs j) (KK κ xs k))(i:∀j,l<=j->j<k->κ.klt (KK κ xs k) (KK κ xs j)) :
  SortedToK κ (bubble xs (0+k) (0+k-(0+l))) (k+1):=by
 have f:=KK_bubble (κ:=κ) (xs:=xs) (src:=0+k) (d:=0+k-(0+l)) #[2] #[2];intro a b m hb;rw[f a,f b];rw[show 0+k=k by lia,show 0+l=l by lia,show k-(k-l)=l by lia];by_cases g:a=l
 ·rw[if_pos g];by_cases c:b=l
  ·rw[if_pos c];exact #[gv]
  ·rw[if_neg c,if_pos #[57]];exact KeyOrd.kle_of_klt (i (b-1) #[2] #[2])
 ·rw[if_neg g];by_cases n:a<l
  ·show#[jY];by_cases c:b=l
   ·rw[if_pos c];exact h a n
   ·rw[if_neg c];by_cases o:l<b
    ·rw[if_pos ⟨o,by lia⟩];exact e a (b-1) #[2] #[2]
    ·show#[jY];exact e a b m #[2]
  ·rw[if_pos #[57],if_neg #[2],if_pos #[57]];exact e (a-1) (b-1) #[2] #[2]
theorem w_binary(v:#[aO])(hk:#[36]){n ok:Nat}(hn:n<=aM.size)(h1:ok<=n)(h0:1<=ok)(B:#[gu])(S:SortedToK κ #[F] ok){Q:#[oy,Bool]}
  (q:∀ (a:SortSt),SB k0 aM a->SortedToK κ #[gQ] n->Q true a):wpS #[j] A E s (binarySort' 0 n ok) Q st:=by
 rw[binarySort'_eq];show#[ry];refine wpS_forRange (λi c a=>c=(af,())/\SB k0 aM a/\SortedToK κ #[gQ] i) ?_ ?_ ⟨rfl,B,by rw[show max ok 1=ok by lia];exact S⟩
 ·rintro k c a hak uD ⟨rfl,b,d⟩;have k1:1<=k:=by lia
  show#[ry];refine wpS_forRange (λi c e=>X2 λl r=>c=(af,l,r)/\e=a/\l<=r/\r<=k/\r-l<=k-i/\(∀j,j<l->κ.kle (KK κ #[gQ] j) (KK κ #[gQ] k))/\(∀j,r<=j->j<k->κ.klt (KK κ #[gQ] k) (KK κ #[gQ] j))) ?_ ?_ ⟨0,k,rfl,rfl,Qt _,Qh _,by lia,λj h=>by lia,λj h1 p=>by lia⟩
  ·rintro i c e rk hik ⟨l,r,rfl,rfl,x,m,y,f,g⟩;show wpS _ _ _ _ (if l>=r then _ else _) _ _;by_cases t:l>=r
   ·rw[if_pos t];refine wpS_pure ?_;have o:l=r:=by lia
    show#[73]
   ·rw[if_neg t];refine wpS_bind (w_lt v hk b (by show 0+k<_;lia) (by show 0+(l+r) / 2<_;lia) ?_);rw[show 0+k=k by lia,show 0+(l+r) / 2=(l+r) / 2 by lia];cases u:κ.blt (KK κ (arrOf e) k) (KK κ (arrOf e) ((l+r) / 2)) with
    | true=>refine wpS_pure ⟨l,(l+r) / 2,rfl,rfl,by lia,by lia,by lia,f,λj h1 p=>?_⟩;exact KeyOrd.klt_of_klt_of_kle u (d _ j h1 p)
    | false=>refine wpS_pure ⟨(l+r) / 2+1,r,rfl,rfl,by lia,by lia,by lia,λj h=>?_,g⟩;exact KeyOrd.kle_trans (d j ((l+r) / 2) #[2] #[2]) u
  ·rintro c e ⟨l,r,rfl,rfl,x,m,y,f,g⟩;have o:l=r:=by lia
   show#[73]
 ·rintro c a ⟨rfl,b,d⟩;rw[show max (max ok 1) n=n by lia]at d;exact wpS_pure (q a b d)
theorem w_runs(r:#[aO])(hk:#[36])(B:#[gu])(h2:2<=aM.size)(mi:aM.size<64){Q:#[oy,Unit]}
  (q:∀ (a:SortSt),#[gQ].Perm aM->failedOf a=af->SortedToK κ #[gQ] aM.size->Q () a):wpS #[j] A E s sortRuns' Q st:=by
 rw[sortRuns'_eq];refine wpS_bind (wpS_get ?_);have l:=B.size;have y:minRun' #[F].size #[F].size 0=#[F].size:=by obtain⟨f,z⟩:∃f,(arrOf st).size=f+1:=⟨#[F].size-1,by lia⟩;rw[show minRun' #[F].size #[F].size 0=minRun' (f+1) #[F].size 0 by rw[<- z],minRun'_succ,if_pos #[2]];rfl
 show#[ry];refine wpS_forRange (λi c a=>(i=0/\c=(af,0)/\a=st)\/(i≠0/\c=(af,aM.size)/\#[gQ].Perm aM/\failedOf a=af/\(pendingOf a).size<=1/\SortedToK κ #[gQ] aM.size)) ?_ ?_ (.inl ⟨rfl,rfl,rfl⟩)
 ·rintro i c a rk hi ⟨⟩
  ·rename_i h;obtain⟨rfl,rfl,rfl⟩:=h;show wpS _ _ _ _ (if 0>=#[gQ].size then _ else _) _ _;show#[jY];show#[ry];rw[show (arrOf a).size-0=aM.size by lia];refine w_count r hk #[gp] #[2] B λm d n C m2 t=>?_;have u:∀ (b:SortSt),SB k0 aM b->SortedToK κ (arrOf b) aM.size->(arrOf #[70]).Perm aM/\failedOf #[70]=af/\(pendingOf #[70]).size<=1/\SortedToK κ (arrOf #[70]) aM.size:=λb e o =>
    ⟨e.perm,e.failed,by show ((pendingOf b).push (0,aM.size,0)).size<=1;rw[e.pend,Array.size_push];exact Qh _,o⟩
   show wpS _ _ _ _ (if m<minRun' #[gQ].size #[gQ].size 0 then _ else _) _ _;rw[y,l];by_cases v:m<aM.size
   ·rw[if_pos v];show#[lS];show wpS _ _ _ _ (binarySort' 0 (min aM.size aM.size) m >>= _) _ _;rw[Nat.min_self];refine wpS_bind (w_binary r hk #[gp] #[2] C n t λb e o=>?_);show#[hU];show wpS _ _ _ _ (match (pendingOf b).back? with|some (D,F,G)=>_|x=>_) _ _
    rw[show (pendingOf b).back? = af by rw[e.pend];rfl];show#[q3];refine wpS_bind (wpS_modify (wpS_pure (.inr ⟨by lia,?_,u b e o⟩)));show#[ki]
   ·rw[if_neg v];have H:m=aM.size:=by lia
    subst H;show#[hU];show wpS _ _ _ _ (match (pendingOf d).back? with|some (D,F,G)=>_|x=>_) _ _
    rw[show (pendingOf d).back? = af by rw[n.pend];rfl];show#[q3];refine wpS_bind (wpS_modify (wpS_pure (.inr ⟨by lia,?_,u d n t⟩)));show#[ki]
  ·rename_i h;obtain⟨I,rfl,g,j,p,k⟩:=h;show wpS _ _ _ _ (if aM.size>=#[F].size then _ else _) _ _;rw[if_pos #[2]];refine wpS_pure ?_;show#[80]
   ·show#[19]
   ·show#[j1]
 ·rintro c a ⟨⟩
  ·rename_i h;exact absurd h.1 #[2]
  ·rename_i h;obtain⟨I,rfl,g,j,p,k⟩:=h;show#[80]
   ·show#[19]
   ·show#[j1]
universe E
section
variable {prog:ar} {w:aA} {A:az} {E:aa->ah->Prop} {s:ah} {κ:PyProof.Rows.KeyKind}
theorem w_sort{a:ae}{vs:#[ca]}{n:Nat}{P:#[eH,PySem.Fin]}(ha:#[i3])(hk:#[qs])(h2:2<=vs.length)(m:vs.length<64)
  (p:∀ (s':ah),(∀b o,b≠a->s.heap.get? b=U o->s'.heap.get? b=U o)->∀ (E:aa->ah->Prop) (Q:SortKind->ah->Prop),#[kF]->aw #[j] A #[kJ] Q E s')
  (q:∀ (d:SortSt),#[bS].Perm #[bD]->SortedToK κ #[bS] #[bD].size->P #[p3] { s with heap:=sortedHeap s.heap a vs ((arrOf d).map λx=>x.snd) }) :
  aw #[j] A #[mi] P E s:=by
 have e:vs.toArray.size<=aq:=by rw[Qy,aG];lia
 show#[b4];show#[nm,ha,e,#[aB]];have i:=#[pz];show#[nt,i];refine ak (wpAny_newTuple ?_ #[cG,e]);show#[ii];refine bf ?_;have j:¬ vs.toArray.size<2:=by rw[Qy];lia
 have f:#[bD].size=vs.length:=by unfold pairsOf;simp
 show#[e7,j,j];have keep:∀b o,b≠a->s.heap.get? b=U o->#[E].get? b=U o:=λb o t h =>
  Qi _ (Qi _ (Qaa _ (Ne.symm t) h))
 have k:#[lR]:=Qi _ (Qi _ i);refine ak (p _ keep _ _ λk0 u=>?_);refine ak ?_;have B:SB k0 #[bD] (SortSt.mk' k0 #[qJ] #[] 7 af):=⟨Array.Perm.refl _,rfl,rfl,rfl⟩;refine thn (w_runs (E:=E) u hk B #[cL,f,h2] #[cL,f,m] (Q:=λ_ d=>(arrOf d).Perm #[bD]/\failedOf d=af/\SortedToK κ #[bS] #[bD].size) (λd a b c=>⟨a,b,c⟩)) λr s' v=>?_;obtain⟨⟨⟩,d⟩:=r;obtain⟨rfl,l,y,z⟩:=v;show#[nt,k];have g:(#[bS].map λx=>x.snd).size=vs.length:=by rw[Array.size_map,l.size_eq,f]
 show aw _ _ (updateSeq a (λx=>(arrOf d).map λx=>x.snd) >>= _) _ _ _;refine ak (wpAny_updateSeq k rfl ?_ #[aB] (by show (#[bS].map λx=>x.snd).size<=_;rw[g];rw[Qy]at e;lia));rw[y];rw[if_neg #[4]];exact au (q d l z)
theorem w_sorted{l:ae}{vs:#[ca]}{Q:#[D]}(hl:#[q4])(hk:#[qs])(h2:2<=vs.length)(f:vs.length<64)
  (g:∀ (A:az) (s':ah),#[n6,o,s'.heap.get?]->∀ (E:aa->ah->Prop) (Q:SortKind->ah->Prop),#[kF]->aw #[j] A #[kJ] Q E s')
  (q:∀ (a:SortSt),#[gQ].Perm #[bD]->SortedToK κ #[gQ] #[bD].size->Q (.ref #[C]) { s with heap:=sortedAll s.heap vs ((arrOf a).map λx=>x.snd) }) :
  aw #[j] A (call #[mP] [.ref l]) Q E s:=by
 show#[bL];have d:vs.length<=aq:=by rw[aG];lia
 refine ak (au (ak (collect_list hl (ak (wpAny_newList ?_ d)) d)));have c:#[mv]:=by rw[aE.size_update,size_push']
 have e:#[kR]:=by rw[<- c];exact QB _ rfl
 have keep:∀b o,s.heap.get? b=U o->(#[h].push #[a7]).get? b=U o:=λb o h =>
  Qi _ (Qaa _ (QaH (Qx h)) (Qi _ h))
 show#[85];rw[c];refine ak (bf (wpAny_call_entry slot_list_sort #[kv] entry_list_sort ?_ (args_list_sort _)));refine w_sort e hk h2 f (λs' i=>g _ s' λb o h=>i b o (QK (QH (Qx h) (Qaq _))) (keep b o h)) λa j k=>?_;exact⟨_,rfl,au ⟨_,rfl,q a j k⟩⟩
universe E
noncomputable def kLt:Key->Key->Bool
 | .inl i,.inl j=>decide (i<j)
 | .inr x,.inr y=>decide (x.cps.toList<y.cps.toList)
 | .inl _,.inr _=>true
 | .inr _,.inl _=>false
theorem ZkL:∀a:Key,kLt a a=false
 | .inl i=>decide_eq_false #[2]
 | .inr x=>decide_eq_false (List.lt_irrefl _)
theorem ZmQ:∀a b c:Key,kLt a b=true->kLt b c=true->kLt a c=true
 | .inl i,.inl j,.inl k,h1,h2=>by have:=of_decide_eq_true h1;have:=of_decide_eq_true h2;exact #[fN]
 | .inr x,.inr y,.inr z,h1,h2=>decide_eq_true (List.lt_trans (of_decide_eq_true h1) (of_decide_eq_true h2))
 | .inl _,.inl _,.inr _,_,_=>rfl
 | .inl _,.inr _,.inr _,_,_=>rfl
 | .inl _,.inr _,.inl _,_,h=>by cases h
 | .inr _,.inl _,_,h,_=>by cases h
 | .inr _,.inr _,.inl _,_,h=>by cases h
theorem ZlT:∀a b:Key,kLt a b=false->kLt b a=false->a=b
 | .inl i,.inl j,h1,h2=>by have:=of_decide_eq_false h1;have:=of_decide_eq_false h2;congr 1;lia
 | .inr x,.inr y,h1,h2=>by have a1:¬ x.cps.toList<y.cps.toList:=of_decide_eq_false h1;have a2:¬ y.cps.toList<x.cps.toList:=of_decide_eq_false h2;have e:x.cps.toList=y.cps.toList:=List.le_antisymm a2 a1;obtain⟨xs⟩:=x;obtain⟨ys⟩:=y;congr 2;exact Array.toList_inj.mp e
 | .inl _,.inr _,h,_=>by cases h
 | .inr _,.inl _,_,h=>by cases h
noncomputable def ZP:List Key->List Key->Bool
 | [],[]=>false
 | [],_::_=>true
 | _::_,[]=>false
 | x::xs,y::ys=>if x=y then ZP xs ys else kLt x y
theorem ZQ(x y:Key)(xs ys:#[f3]):ZP (x::xs) (y::ys)=if x=y then ZP xs ys else kLt x y:=rfl
theorem Vk:∀a:List Key,ZP a a=false
 | []=>rfl
 | x::r=>by unfold ZP;show#[jc];exact Vk r
theorem Vj:∀a b c:List Key,ZP a b=true->ZP b c=true->ZP a c=true
 | [],[],_,h,_=>by cases h
 | [],_::_,[],_,h=>by cases h
 | [],_::_,_::_,_,_=>rfl
 | _::_,[],_,h,_=>by cases h
 | _::_,_::_,[],_,h=>by cases h
 | x::r,y::s,z::t,h1,h2=>by
  have i:=Vj r s t;unfold ZP at h1 h2 ⊢;by_cases f:x=y
  ·show#[n3,f,h1];by_cases d:y=z
   ·show#[q1];exact i h1 h2
   ·show#[fx,d,h2];rw[if_neg (λe=>d #[qL]),f];exact h2
  ·show#[fx,f,h1];by_cases d:y=z
   ·rw[if_neg (λe=>f #[qM]),<- d];exact h1
   ·show#[fx,d,h2];have g:=ZmQ _ _ _ h1 h2;show#[ny,if_neg,e,ZkL,g]
theorem Vi:∀a b:List Key,ZP a b=false->ZP b a=false->a=b
 | [],[],_,_=>rfl
 | [],_::_,h,_=>by cases h
 | _::_,[],_,h=>by cases h
 | x::r,y::s,h1,h2=>by
  unfold ZP at h1 h2;by_cases e:x=y
  ·show#[n3,e,h1];show#[n3,e.symm,h2];rw[e,Vi r s h1 h2]
  ·show#[fx,e,h1];rw[if_neg λz=>e z.symm]at h2;exact absurd (ZlT _ _ h1 h2) e
theorem Zok(a b c:#[f3])(h:ZP a c=true):ZP a b=true\/ZP b c=true:=by
 by_cases d:ZP a b=true
 ·exact .inl d
 ·by_cases f:ZP b a=true
  ·exact .inr (Vj _ _ _ f h)
  ·have e:=Vi a b #[cG,d] #[cG,f];rw[<- e];exact .inr h
noncomputable def unV:V->Option Key
 | .int i=>U (.inl i)
 | .str x=>U (.inr x)
 | _=>af
noncomputable def V2:List V->Option #[sb]
 | []=>U []
 | x::r=>(unV x).bind λk=>(V2 r).map (k::·)
theorem Zsc(k:Key):unV (kV k)=U k:=by cases k<;>rfl
theorem Mz:∀ks:List Key,V2 #[aD]=U ks
 | []=>rfl
 | k::r=>by show (unV (kV k)).bind _=_;rw[Zsc,Mz r];rfl
theorem Zsy:∀ {x:V} {k:Key},unV x=U k->x=kV k
 | .int i,k,h=>by cases h;rfl
 | .str z,k,h=>by cases h;rfl
 | .non,_,h=>by cases h
 | .bl _,_,h=>by cases h
 | .byt _,_,h=>by cases h
 | .flt _,_,h=>by cases h
 | .ref _,_,h=>by cases h
 | .ty _,_,h=>by cases h
theorem Mx:∀ {xs:List V} {ks:List Key},V2 xs=U ks->xs=ks.map kV
 | [],ks,h=>by cases h;rfl
 | x::r,ks,h=>by
  unfold V2 at h;cases hu:unV x with
  | none=>rw[hu]at h;cases h
  | some k =>
   rw[hu]at h;cases a:V2 r with
   | none=>rw[a]at h;cases h
   | some ms=>rw[a]at h;cases h;rw[Zsy hu,Mx a];rfl
noncomputable def shape(ks:#[f3]):List Bool:=ks.map λk=>k.isLeft
noncomputable def Vh(H:Hp)(sh:#[rO]):aa->Option #[sb]
 | .ref a=>match H a with
  | some (.tup xs)=>(V2 xs).bind λks=>if shape ks=sh then U ks else af
  | _=>af
 | _=>af
theorem Mw{H:Hp}{a:ae}{ks:#[f3]}(h:H a=U #[ho]):Vh H (shape ks) #[61]=U ks:=by unfold Vh;dsimp only;rw[h];show (V2 #[aD]).bind _=_;rw[Mz];show (if shape ks=shape ks then U ks else af)=_;rw[if_pos rfl]
theorem Mv{H:Hp}{sh:#[rO]}{v:aa}{ks:#[f3]}(h:Vh H sh v=U ks):∃a,v=.ref a/\H a=U #[ho]/\shape ks=sh:=by
 unfold Vh at h;split at h
 ·rename_i a;split at h
  ·rename_i f g;cases c:V2 f with
   | none=>rw[c]at h;cases h
   | some d =>
    rw[c]at h;have b:(if shape d=sh then U d else af)=U ks:=h;by_cases e:shape d=sh
    ·show#[n3,e,b];cases b;exact⟨a,rfl,by rw[g,Mx c],e⟩
    ·show#[fx,e,b];cases b
  ·cases h
 ·cases h
noncomputable def Rw(H:Hp)(sh:#[rO]):PyProof.Rows.KeyKind:=⟨⟨List Key,ZP,Vk,Vj,λa b c h=>Zok a b c h,Vi⟩,Vh H sh,[]⟩
section
variable {prog:ar} {w:aA} {A:az} {E:aa->ah->Prop} {s:ah}
theorem ZsL{k m:Key}{p q:aa}(a:#[pE])(hq:#[pD])(b:#[hu]){Q:#[eH,Bool]}(h:Q (decide (k=m)) s):aw #[j] A (eqBool p q) Q E s:=by
 cases k with
 | inl i =>
  cases m with
  | inl j =>
   show#[q2];refine wpAny_eqBool_int ?_;have e:(i == j)=decide ((Sum.inl i:Key)=Sum.inl j):=by
    by_cases z:i=j
    ·rw[z];simp
    ·rw[decide_eq_false (λe=>z (Sum.inl.inj e))];simpa using z
   rw[e];exact h
  | inr y=>cases b
 | inr x =>
  cases m with
  | inl j=>cases b
  | inr y=>obtain⟨t,rfl⟩:=a;show#[aJ];refine wpAny_eqBool_str ?_;have e:decide (x=y)=decide ((Sum.inr x:Key)=Sum.inr y):=decide_eq_decide.mpr ⟨λz=>by rw[z],λz=>Sum.inr.inj z⟩;rw[e];exact h
theorem Zru{c:Bool}{k m:Key}{p q:aa}(a:#[pE])(hq:#[pD])(b:#[hu]){Q:#[eH,Bool]}(h:Q (kLt k m) s):aw #[j] A (oneLt' c p q) Q E s:=by
 cases k with
 | inl i =>
  cases m with
  | inl j =>
   show#[q2];cases c with
   | true=>exact oneLt_int h
   | false=>rw[oneLt'_eq];show aw _ _ (richCompare .Lt #[h7] (.int j u) >>= _) _ _ _;refine ak (show aw #[j] A #[rY] _ _ _ from PyProof.Rows.lt_int ?_);exact au h
  | inr y=>cases b
 | inr x =>
  cases m with
  | inl j=>cases b
  | inr y =>
   show#[q2];cases c with
   | true=>exact oneLt_str h
   | false=>rw[oneLt'_eq];show aw _ _ (richCompare .Lt (.str x t) (.str y u) >>= _) _ _ _;refine ak (show aw #[j] A #[pm] _ _ _ from PyProof.Rows.lt_str ?_);exact au h
theorem Zsz{b:Bool}{x y:ae}{ks j:#[f3]}{its m:#[ca]}(hx:#[tN,x,its.toArray])(hy:#[tN,y,m.toArray])(z:ZA #[aD] its)(B:ZA (j.map kV) m)(C:shape ks=shape j){Q:#[eH,Bool]}
  (h:Q (ZP ks j) s):aw #[j] A (keyLt' (tuples' b) #[p5] (.ref y)) Q E s:=by
 obtain⟨o1,J,_,n1,K⟩:=hx;obtain⟨o2,L,_,n2,M⟩:=hy;show aw _ _ (aT.List.listItems #[p5] >>= _) _ _ _;refine ak (Vl J K (ak (Vl L M (ak ?_))));have N:=z.length;have O:=B.length;have eX:ks.length=j.length:=by have:=#[cO,C];simpa [shape] using this
 rw[Qa]at N O;refine wpAny_forIn_list _ (λrest c r=>c=(af,())/\r=s/\X5 λ(n ws:List aa) (k:Nat) (d a:List Key)=>rest=(n.zip ws).zipIdx k/\ZA (d.map kV) n/\ZA #[rZ] ws/\shape d=shape a/\ZP ks j=ZP d a) _ ?_ ?_ _ _ ⟨rfl,rfl,its,m,0,ks,j,by simp,z,B,C,rfl⟩
 ·rintro⟨⟨p,q⟩,i⟩ rest c r ⟨rfl,rfl,n,ws,k,d,a,l,o,t,g,f⟩;cases d with
  | nil=>cases o;cases l
  | cons k1 kr =>
   cases a with
   | nil=>cases g
   | cons D F =>
    cases o with
    | cons u G =>
     cases t with
     | cons v H =>
      rw[Q6,List.zipIdx_cons]at l;injection l with P R;injection P with S T;injection S with U V;subst T U V;unfold shape at g;rw[Qj,Qj]at g;injection g with I W;refine ak (ZsL u v I ?_);rw[ZQ]at f;by_cases e:k1=D
      ·show#[n3,e,f];rw[decide_eq_true e];exact au ⟨rfl,rfl,_,_,_,kr,F,R,G,H,W,f⟩
      ·show#[fx,e,f];rw[decide_eq_false e];refine ak (Zru u v I (au ?_));refine au ?_;rw[<- f];exact h
 ·rintro c r ⟨rfl,rfl,n,ws,k,d,a,l,o,t,g,f⟩;refine au ?_;have e:ZP d a=false:=by
   cases d with
   | nil =>
    cases a with
    | nil=>rfl
    | cons _ _=>cases g
   | cons k1 kr =>
    cases a with
    | nil=>cases g
    | cons D F =>
     cases o with
     | cons u G =>
      cases t with
      | cons v H=>rw[Q6,List.zipIdx_cons]at l;cases l
  rw[e]at f;rw[f]at h;have X:decide (its.toArray.size<m.toArray.size)=false:=decide_eq_false #[oL,Qy,Qy];rw[X];exact h
universe E
section
variable {prog:ar} {w:aA} {A:az} {E:aa->ah->Prop} {s:ah}
theorem w_mapM{M:Model}{α c:Type}{f:α->Sem c}(R:α->c->Prop):∀ (l:List α) {Q:List c->ah->Prop},(∀v∈l,∃r,R v r/\∀ (e:c->ah->Prop),e r s->aw M A (f v) e E s)->(∀b,b.length=l.length->(∀r∈b,∃v∈l,R v r)->Q b s)->aw M A (List.mapM f l) Q E s
 | [],Q,_,q=>by rw[List.mapM_nil];exact au (q [] rfl #[cM,r,h])
 | a::l,Q,h,q=>by
  rw[List.mapM_cons];obtain⟨r,g,hw⟩:=h a #[4];refine ak (hw _ (ak (w_mapM R l (λv d=>h v (Qu _ d)) λb i j=>au (q (r::b) (by simp[i]) λz hz=>?_))));rcases QG.mp hz with rfl|hz
  ·exact⟨a,by simp,g⟩
  ·obtain⟨v,d,k⟩:=j z hz;exact⟨v,Qu _ d,k⟩
theorem w_mapA{M:Model}{α a:Type}{f:α->Sem a}(R:α->a->Prop)(l:Array α){Q:Array a->ah->Prop}(h:∀v∈l.toList,∃r,R v r/\∀ (c:a->ah->Prop),c r s->aw M A (f v) c E s)(q:∀b:Array a,(∀r∈b.toList,∃v∈l.toList,R v r)->Q b s):aw M A (Array.mapM f l) Q E s:=by rw[Array.mapM_eq_mapM_toList,map_eq_pure_bind];exact ak (w_mapM R l.toList h λb _ d=>au (q b.toArray #[cG,d]))
theorem ZmW{a:ae}{its:#[ca]}(ht:#[tN,a,its.toArray]){Q:Option aa->ah->Prop}(q:Q its[0]? s):aw #[j] A (firstOfTuple' #[61]) Q E s:=by obtain⟨o,b,hc,n,c⟩:=id ht;show aw _ _ (typeOf #[61] >>= _) _ _ _;refine ak (wpAny_typeOf ht.typeIs ?_);rw[if_neg #[6]];refine ak (Vl b c (au ?_));simpa using q
theorem Znq{k:Key}{v:aa}(h:ZH (kV k) v){Q:#[D]}(q:Q (.type (if k.isLeft then "int" else "str")) s):aw #[j] A (typeOf v) Q E s:=by
 cases k with
 | inl i=>obtain⟨t,rfl⟩:=h;exact wpAny_typeOf (T := "int") rfl q
 | inr x=>obtain⟨t,rfl⟩:=h;exact wpAny_typeOf (T := "str") rfl q
theorem Zny{vs:#[ca]}(h:∀v∈vs,X4 λ(a:ae) (its:List aa) (k:Key) (c:aa)=>v=.ref a/\IsTup s.heap a its.toArray/\its[0]? = U c/\ZH (kV k) c){Q:#[eH,SortKind]}(q:∀b,Q (tuples' b) s):aw #[j] A #[kJ] Q E s:=by
 rw[keyKind'_eq];refine ak (w_mapA (λ_ r=>X2 λ(k:Key) (c:aa)=>r=U c/\ZH (kV k) c) _ (λv d=>?_) λf l=>?_)
 ·obtain⟨a,its,k,c,rfl,n,p,g⟩:=h v #[cG,d];exact⟨its[0]?,⟨k,c,p,g⟩,λt j=>ZmW n j⟩
 ·have u:(f.all λx=>x.isSome)=true:=by rw[Array.all_eq_true];intro i hi;obtain⟨v,_,k,c,e,_⟩:=l f[i] #[4];rw[e];rfl
  rw[if_pos u];refine ak (wpAny_rule (ak ?_));rw[oneTypeOnly'_eq];refine ak (w_mapA (λ_ _=>True) _ (λv d=>?_) λts _=>?_)
  ·have m:v∈(Array.filterMap id f).toList:=d;rw[Array.toList_filterMap]at m;show#[nB,o,y,z,List.mem_filterMap.mp,m];obtain⟨_,_,k,c,e,g⟩:=l o y;have B:c=v:=by have:o=U v:=z;rw[e]at this;exact Qk this
   subst B;exact⟨_,trivial,λt j=>Znq g j⟩
  ·split
   ·exact au (au (q _))
   ·exact au (au (q _))
theorem w_sort0{a:ae}{vs:#[ca]}{n:Nat}{P:#[eH,PySem.Fin]}(ha:#[i3])(h2:vs.length<2)
  (q:P #[p3] { s with heap:=sortedHeap s.heap a vs ((pairsOf vs).map λx=>x.snd) }) :
  aw #[j] A #[mi] P E s:=by
 have b:vs.toArray.size<=aq:=by rw[Qy,aG];lia
 show#[b4];show#[nm,ha,b,#[aB]];have d:=#[pz];show#[nt,d];refine ak (wpAny_newTuple ?_ #[cG,b]);show#[ii];refine bf ?_;have e:vs.toArray.size<2:=by rw[Qy];lia
 have g:#[bD].size=vs.length:=by unfold pairsOf;simp
 show#[fe,e];have f:#[lR]:=Qi _ (Qi _ d);show#[gJ];show aw _ _ (pure ((),SortSt.mk' general' #[qJ] #[] 7 af) >>= _) _ _ _;show#[gJ];show#[nt,f];have c:(#[bD].map λx=>x.snd).size=vs.length:=by rw[Array.size_map,g]
 show aw _ _ (updateSeq a (λx=>(pairsOf vs).map λx=>x.snd) >>= _) _ _ _;refine ak (wpAny_updateSeq f rfl ?_ #[aB] (by show (#[bD].map λx=>x.snd).size<=_;rw[c];rw[Qy]at b;lia));show aw _ _ (if _ then _ else _) _ _ _;rw[if_neg #[4]];exact au q
theorem w_sorted0{l:ae}{vs:#[ca]}{Q:#[D]}(hl:#[q4])(h2:vs.length<2)
  (q:Q (.ref #[C]) { s with heap:=sortedAll s.heap vs ((pairsOf vs).map λx=>x.snd) }) :
  aw #[j] A (call #[mP] [.ref l]) Q E s:=by
 show#[bL];have b:vs.length<=aq:=by rw[aG];lia
 refine ak (au (ak (collect_list hl (ak (wpAny_newList ?_ b)) b)));have a:#[mv]:=by rw[aE.size_update,size_push']
 have c:#[kR]:=by rw[<- a];exact QB _ rfl
 show#[85];rw[a];refine ak (bf (wpAny_call_entry slot_list_sort ⟨_,c,rfl⟩ entry_list_sort ?_ (args_list_sort _)));exact w_sort0 c h2 ⟨_,rfl,au ⟨_,rfl,q⟩⟩
universe E
theorem Rv{α j:Type}(f:α->j){l m:List j}(h:l.Perm m):∀ts:List α,m=ts.map f->∃g:List α,g.Perm ts/\l=g.map f:=by
 induction h with
 | nil =>
  intro ts e;have:ts=[]:=by cases ts with
   | nil=>rfl
   | cons _ _=>cases e
  subst this;exact⟨[],.nil,rfl⟩
 | cons x _ k =>
  intro ts e;cases ts with
  | nil=>cases e
  | cons a r=>rw[Qj]at e;injection e with d c;obtain⟨g,p,i⟩:=k r c;exact⟨a::g,p.cons a,by rw[Qj,d,i]⟩
 | swap x y l =>
  intro ts e;cases ts with
  | nil=>cases e
  | cons a r =>
   cases r with
   | nil=>cases e
   | cons b r=>rw[Qj,Qj]at e;injection e with d c;injection c with c i;exact⟨b::a::r,.swap a b r,by rw[Qj,Qj,d,c,i]⟩
 | trans _ _ n o=>intro ts e;obtain⟨q,s,c⟩:=o ts e;obtain⟨t,u,d⟩:=n q c;exact⟨t,u.trans s,d⟩
theorem Mu{α:Type}:∀l:List α,l.zip l=l.map λv=>(v,v)
 | []=>rfl
 | a::r=>by rw[Q6,Mu r];rfl
abbrev YO:=List (ae×List Key)
noncomputable def Z7(ts:YO):List V:=ts.map λt=>V.ref t.1
def AtT(H:Hp)(ts:YO):Prop:=∀t∈ts,H t.1=U (.tup (t.2.map kV))
theorem Uy:∀ {ts:YO} {us:List aa},ZA (Z7 ts) us->us=ts.map λt=>aa.ref t.1
 | [],_,h=>by cases h;rfl
 | t::r,_,h=>by
  cases h with
  | cons a b=>rw[Uy b];cases a;rfl
theorem Mt:∀ts:YO,ZA (Z7 ts) #[69]
 | []=>.nil
 | t::r=>.cons rfl (Mt r)
def Ms(K:#[7]):List V->Hp->VK->Prop:=λxs H Q=>X3 λ(p:ae) (ts:YO) (sh:List Bool)=>xs=#[hd]/\SqL K H p (Z7 ts)/\AtT H ts/\sh≠[]/\#[jh]/\ts.length<64 /\
 ∀ (l:ae) (c:YO),H l=af->c.Perm ts->c.Pairwise #[iR]->Q #[h6] (upd H l #[sn])
theorem Zik{X:Cx}:YT X #[mP] (Ms X.K):=by
 show#[nK,S,T,xs];obtain⟨p,f,w,rfl,V,C,W,D,Y,q⟩:=h;show#[ds,Z,r];show#[ei,rv,J,hz,I.list,V];have ei:=Uy rv;subst ei;have rC:#[dg,f,s.heap]:=λt g=>by obtain⟨i,v,q,_⟩:=#[oP,C,t,g];exact#[sL]
 have A:#[gO].toList=f.map λt=>(aa.ref t.1,aa.ref t.1):=by unfold pairsOf;rw[Array.toList_zip,Mu,QA];rfl
 have m:∀ (out:Array aa) (d:YO),d.Perm f->d.Pairwise #[iR]->out.toList=d.map (λt=>aa.ref t.1)->EP X S T Q (.ref #[C]) { s with heap:=sortedAll s.heap (f.map λt=>aa.ref t.1) out }:=λout d l pw eo=>by obtain⟨e,he⟩:=sortedAll_at s.heap (f.map λt=>aa.ref t.1) out;refine⟨.ref #[C],_,I.laid (t':=#[tj]) (o:=.lst (Z7 d)) (λ_ _=>sortedAll_old) (Qaq _) ⟨?_,out.toList,e,by rw[eo];exact Mt d,by simpa using he⟩,rfl,q _ d (I.hok.fresh (Qaq _)) l pw⟩;unfold Z7;rw[Qa,l.length_eq,aG];lia
 by_cases B:f.length<2
 ·refine w_sorted0 J.isList #[cL,Qa,B] (m _ f (.refl _) ?_ ?_)
  ·cases f with
   | nil=>exact .nil
   | cons t r=>have:r=[]:=QP (by rw[QF]at B;lia);subst this;exact Qad _ _
  ·rw[Array.toList_map,A,QA];rfl
 ·have hk:PyProof.Rows.KeysOf (Rw H w) #[gO]:=λz L=>by rw[A]at L;show#[cK,t,g,L];exact⟨t.2,by rw[<- D t g];exact Mw (C t g)⟩
  refine w_sorted (κ:=Rw H w) J.isList hk #[dv,Qa] #[cL,Qa,Y] (λA' s' kp E' Q' q'=>?_) λM p1 p3=>?_
  ·have E:∀ {a:ae} {its:List aa},IsTup s.heap a its.toArray->IsTup s'.heap a its.toArray:=λ⟨o,ho,hc⟩=>⟨o,kp _ _ ho,hc⟩;refine Zny (λv hv=>?_) λb=>q' _ λE2 x y a c Q2 hx hy B=>?_
   ·show#[cK,t,g,hv];obtain⟨i,v,qt⟩:=rC t g;have N:=D t g;cases O:t.2 with
    | nil=>rw[O]at N;exact absurd N.symm W
    | cons k kr =>
     rw[O]at v;cases v with
     | cons r1 rr=>exact⟨t.1,_,k,_,rfl,E qt,rfl,r1⟩
   ·obtain⟨a1,rfl,nj,s1⟩:=Mv hx;obtain⟨a2,rfl,kO,s2⟩:=Mv hy;obtain⟨i1,v1,t1,_⟩:=I.tuple (SqT.of (K:=X.K) nj);obtain⟨i2,v2,t2,_⟩:=I.tuple (SqT.of (K:=X.K) kO);exact Zsz (E t1) (E t2) v1 v2 (s1.trans s2.symm) B
  ·have zA:=p1.toList;obtain⟨d,l,e⟩:=Rv (λt:ae×List Key=>(aa.ref t.1,aa.ref t.1)) zA f A;refine m _ d l ?_ ?_
   ·rw[List.pairwise_iff_getElem];intro i j hi P jc;have F:#[gO].size=d.length:=by rw[<- Array.length_toList,A,Qa,l.length_eq]
    have:=p3 i j #[2] #[cL,F,P];have n:∀k (G:k<d.length),KK (Rw H w) (arrOf M) k=d[k].2:=λk G=>by
     unfold KK;have e1:(arrOf M)[k]? = U (aa.ref d[k].1,aa.ref d[k].1):=by rw[<- Array.getElem?_toList,e,Ql,Qb G];rfl
     rw[e1];have R:d[k]∈f:=l.mem_iff.mp (Q3 G);show ((Vh H w (.ref d[k].1)).getD _)=_;rw[<- D _ R,Mw (C _ R)];rfl
    rw[n i hi,n j P]at this;exact this
   ·rw[Array.toList_map,e,QA];rfl
theorem Mr{X:Cx}(K:#[7])(h:X.K=K:=by rfl):YT X #[mP] (Ms K):=by subst h;exact Zik
theorem Mq(A:az)(s:ah){k m:Key}{p q:aa}(a:#[pE])(hq:#[pD])(b:#[hu]):∃e,SeqAt.EqAt A s p q e/\(e=true↔k=m):=by
 cases k with
 | inl i =>
  cases m with
  | inl j=>obtain⟨t,rfl⟩:=a;show#[aJ];exact⟨_,SeqAt.EqAt.int_int i t j u,by simp⟩
  | inr y=>cases b
 | inr x =>
  cases m with
  | inl j=>cases b
  | inr y=>obtain⟨t,rfl⟩:=a;show#[aJ];exact⟨_,SeqAt.EqAt.str_str x t y u,by simp⟩
theorem ZoG(A:az)(s:ah){k m:Key}{p q:aa}(a:#[pE])(hq:#[pD])(b:#[hu])(prog:ar)(w:aA)(E:#[D])(Q:#[D])(h:Q (.bool (kLt k m)) s) :
  aw #[j] A (richCompare .Lt p q) Q E s:=by
 cases k with
 | inl i =>
  cases m with
  | inl j=>obtain⟨t,rfl⟩:=a;show#[aJ];exact(PyProof.Rows.lt_int h:aw #[j] A #[rY] Q E s)
  | inr y=>cases b
 | inr x =>
  cases m with
  | inl j=>cases b
  | inr y=>obtain⟨t,rfl⟩:=a;show#[aJ];exact(PyProof.Rows.lt_str h:aw #[j] A #[pm] Q E s)
section
open PySem.SeqAt
open PySem.AutoSeq1 (wpAny_loadPart')
open PySem.MeetsSeq PySem.MeetsSeq2 PySem.MeetsSeq3
theorem ZgZ(l b:ae)(items o:Array aa)(n K:Nat)(L M:#[md])(sl N:#[hD])(ks m:#[f3])(D:#[hy])(E:ZA (m.map kV) o.toList)(F:shape ks=shape m) :
  Meets (aT.«tuple.__lt__» ⟨[.ref l,.ref b],[]⟩)
   (λ_ R s=>s.heap.get? l=U { cls:=.type "tuple",dict:=L,data:=.seq items n,slots:=sl }/\s.heap.get? b=U { cls:=.type "tuple",dict:=M,data:=.seq o K,slots:=N } /\
    R (.ok (.ret (.bool (ZP ks m)))) s) :=
 .of_wp λc w A R s h=>by
  show#[gl];have z1:items.size=ks.length:=by have:=D.length;simpa using this.symm
  have z2:o.size=m.length:=by have:=E.length;simpa using this.symm
  have z3:ks.length=m.length:=by have:=#[cO,F];simpa [shape] using this
  wp_walk using wpAny_loadPart' O,wpAny_loadPart' P,wpAny_forIn_list _ (λrest b u=>b.1=af/\u=⟨p,g,d,tk,os⟩/\X4 λ(r ws:List aa) (f a:List Key)=>rest=r.zip ws /\
   ZA (f.map kV) r/\ZA #[rZ] ws/\shape f=shape a/\R (.ok (.ret (.bool (ZP f a)))) #[fz,p]) _
  case turn =>
   show#[i4];cases f with
   | nil=>cases t;show#[sh]
   | cons k1 kr =>
    cases a with
    | nil=>cases k
    | cons Q S =>
     cases t with
     | cons B G =>
      cases z with
      | cons C H =>
       rw[Q6]at j;injection j with T V;injection T with W X;show#[jx];injection k with I Y;show#[hh];cases e with
       | true =>
        rw[if_pos (J.mp rfl)]at i
        wp_walk
        exact#[mQ]
       | false =>
        show#[pe];have rE:=ZoG A.in1 #[fz,p] B C I c w
        wp_walk using rE
        exact#[qh]
  case fin =>
   show#[gI];have hv:ZP f a=decide (items.size<o.size):=by
    show#[jd];cases f with
    | nil =>
     cases a with
     | nil=>rfl
     | cons _ _=>cases k
    | cons k1 kr =>
     cases a with
     | nil=>cases k
     | cons Q S =>
      cases t with
      | cons B G =>
       cases z with
       | cons C H=>rw[Q6]at j;cases j
   rw[hv]at i
   wp_walk
   exact#[g3]
  case h=>exact#[hQ]
universe E
section
variable {prog:ar} {w:aA} {A:az} {E:aa->ah->Prop} {s:ah}
theorem ZkM{l b:ae}{items c:Array aa}{ks a:#[f3]}{Q:#[D]}(hl:#[tN,l,items])(hb:#[tN,b,c])(k:#[hy])(m:ZA #[rZ] c.toList)(o:shape ks=shape a)
  (hu:A.units<cLine) (h:Q (.bool (ZP ks a)) s):aw #[j] A (richCompare .Lt #[h6] #[p6]) Q E s:=by
 show#[al];exact richCompare_meets_room (op:=.Lt) ⟨_,d,rfl⟩ ⟨_,g,rfl⟩ PySem.F.slot_tuple_lt PySem.F.entry_tuple_lt (PySem.F.args_tuple_lt_2 _ _) (ZgZ l b items c n u p r q t ks a k m o)
  ⟨d,g,show aa.bool (ZP ks a)≠aa.notImplemented/\Q (.bool (ZP ks a)) s from⟨(λx=>nomatch x),h⟩⟩ hu
universe E
section
variable {prog:ar} {w:aA}
theorem Zmv{A:az}{a:Args}:(A.under (.builtin "min.loop" a)).units<=A.units+1:=by show A.units+(Code.builtin "min.loop" a).cUnits<=A.units+1;first|exact Qh _|simp[Code.cUnits,Code.frames,Code.isFrame]
theorem Ru{A:az}{R:#[kb]}{l I S:ae}{ts:YO}{sh:#[rO]}{h0:aE}{kw:#[qd]}(C:#[ir])(hu:#[nM,4])(D:#[o1,h0.IsList])
  (p:h0.get? I=af) (s:h0.get? S=af) (g:S≠I) (v:#[dg,ts,h0]) (x:#[ku]) (y:ah)
  (q:∀ (h':aE) (t:ae×List Key),#[fh,h'.get?]->t∈ts->#[a6]->R #[jM] { y with heap:=h' }) :
  ∀ (k j:Nat) (h:aE) (t:ae×List Key) (c:Nat),ts.length-j=k->j<=ts.length->#[fh,h.get?]->h.IsListIter I l j->h.get? S=U { cls:=.type "list",data:=.seq #[.ref t.1,.ref t.1] c }->t∈ts ->
   (∀u∈ts.take j,ZP u.2 t.2=false)->aY #[j] A #[g0] R { y with heap:=h }
 | k,j,h,t,c,hk,hj,keep,M,E,z,G=>by
  show#[fL];refine ak (wpAny_seqItems E rfl ?_);have N:#[o1,h.IsList]:=by obtain⟨o,i,r⟩:=D;exact⟨o,keep _ _ i,r⟩
  by_cases B:j<ts.length
  ·have H:(#[69].toArray)[j]? = U (aa.ref ts[j].1):=by simp[B]
   refine ak (wpAny_tryCatch (wpAny_pyNext_list_item M N H λf O P=>?_));have J:#[nW,h0.get?,f.get?]:=λb o d=>by
    have m:b≠I:=λe=>by rw[e,p]at d;cases d
    rw[P.2 b m];exact keep b o d
   have n:#[go]:=by rw[P.2 S g];exact E
   show#[gJ];have K:ts[j]∈ts:=Q3 B;obtain⟨i1,V,W⟩:=v _ K;obtain⟨i2,X,Y⟩:=v _ z;have Q:∀ {a:ae} {its:List aa},IsTup h0 a its.toArray->IsTup f a its.toArray:=λ⟨o,i,Z⟩=>⟨o,J _ _ i,Z⟩;have uF:shape ts[j].2=shape t.2:=(x _ K).trans (x _ z).symm;refine ak (wpAny_tryCatch (bf (ak (ZkM (Q W) (Q Y) #[cG,V] #[cG,X] uF (Qay Zmv #[2]) (ak (bf (bi (ak (wpAny_letGo (au ?_))))))))));cases d:ZP ts[j].2 t.2 with
   | true =>
    show#[nm,n,#[fU],#[fU]];refine ak #[sy];refine Ru C hu D p s g v x y q (k-1) (j+1) _ ts[j] c #[2] #[2] #[oW,b,o,L] ?_ ?_ K (λu hu'=>?_)
    ·have m:S≠b:=λe=>by rw[<- e,s]at L;cases L
     exact Qaa _ m (J b o L)
    ·show#[e9,o,i,r,O];exact⟨o,Qaa _ g i,r⟩
    ·have:=get?_update_seq (c := "list") n (λ_=>#[.ref ts[j].1,.ref ts[j].1]);simpa using this
    ·rw[QE,Qb B]at hu';rcases Qg.mp hu' with hu'|hu'
     ·have:=G u hu';cases hz:ZP u.2 ts[j].2 with
      | false=>rfl
      | true=>rw[Vj _ _ _ hz d]at this;cases this
     ·have:u=ts[j]:=by simpa using hu'
      rw[this];exact Vk _
   | false =>
    refine ak #[sy];refine Ru C hu D p s g v x y q (k-1) (j+1) f t c #[2] #[2] J O n z (λu hu'=>?_);rw[QE,Qb B]at hu';rcases Qg.mp hu' with hu'|hu'
    ·exact G u hu'
    ·have:u=ts[j]:=by simpa using hu'
     rw[this];exact d
  ·have H:(#[69].toArray)[j]? = af:=by simp;lia
   refine ak (wpAny_tryCatch (wpAny_pyNext_list_end C M N H λf T=>?_));have n:#[go]:=T S _ g E;show#[nm,n,#[fU],#[aB]];refine ak (wpAny_letGo (au ?_));refine q _ t #[oW,b,o,d] z (λu hu'=>G u (by rw[Qw #[2]];exact hu'));have m:S≠b:=λe=>by rw[<- e,s]at d;cases d
   have nI:b≠I:=λe=>by rw[e,p]at d;cases d
   exact Qaa _ m (T b o nI (keep b o d))
termination_by k=>k
theorem ZmU{A:az}{R:#[kb]}{l I S:ae}{ts:YO}{sh:#[rO]}{h0 h:aE}{c:Nat}{kw:#[qd]}(y:#[ir])(hu:#[nM,4])(z:#[o1,h0.IsList])
  (i:h0.get? I=af) (B:h0.get? S=af) (j:S≠I) (J:#[dg,ts,h0]) (K:#[ku]) (g:ah) (keep:#[nW,h0.get?,h.get?]) (C:h.IsListIter I l 0) (D:h.get? S=U { cls:=.type "list",data:=.seq #[] c })
  (L:ts≠[]\/X3 λn d kr=>kw=(n,d)::kr/\∀f:aE,#[fh,f.get?]->R (.ok (.ret d)) { g with heap:=f })
  (q:∀ (f:aE) (t:ae×List Key),#[fh,f.get?]->t∈ts->#[a6]->R #[jM] { g with heap:=f }) :
  aY #[j] A #[g0] R { g with heap:=h }:=by
 show#[fL];refine ak (wpAny_seqItems D rfl ?_);have E:#[o1,h.IsList]:=by obtain⟨o,k,r⟩:=z;exact⟨o,keep _ _ k,r⟩
 cases ts with
 | nil =>
  obtain⟨n,d,kr,rfl,M⟩:=L.resolve_left #[4];refine ak (wpAny_tryCatch (wpAny_pyNext_list_end y C E #[4] λm N=>?_));show aw _ _ (rule _ >>= _) _ _ _;refine ak (wpAny_rule (au ?_));refine M _ λb o a=>?_;have O:b≠I:=λe=>by rw[e,i]at a;cases a
  exact N b o O (keep b o a)
 | cons t r =>
  refine ak (wpAny_tryCatch (wpAny_pyNext_list_item C E (x:=.ref t.1) #[4] λm P G=>?_));have Q:#[nW,h0.get?,m.get?]:=λb o a=>by
   have p:b≠I:=λe=>by rw[e,i]at a;cases a
   rw[G.2 b p];exact keep b o a
  have H:m.get? S=U { cls:=.type "list",data:=.seq #[] c }:=by rw[G.2 S j];exact D
  show#[gJ];show aw _ _ (updateSeq S _ >>= _) _ _ _;show#[nm,H,#[aB],#[fU]];refine au #[ik];refine Ru y hu z i B j J K g q _ 1 _ t (c+1) rfl #[4] #[oW,b,o,s] ?_ ?_ #[4] (λu v=>?_)
  ·have p:S≠b:=λe=>by rw[<- e,B]at s;cases s
   exact Qaa _ p (Q b o s)
  ·show#[e9,o,k,r,P];exact⟨o,Qaa _ j k,r⟩
  ·have:=get?_update_seq (c := "list") H (λ_=>#[.ref t.1,.ref t.1]);simpa using this
  ·have:u=t:=by simpa using v
   rw[this];exact Vk _
universe E
section
variable {X:Cx}
def Mp(K:#[7]):List V->Hp->VK->Prop:=λvs H Q=>X3 λ(p:ae) (ts:YO) (sh:List Bool)=>vs=#[hd]/\SqL K H p (Z7 ts)/\AtT H ts/\ts≠[]/\#[jh] /\
 ∀t:ae×List Key,t∈ts->#[a6]->Q (.ref t.1) H
theorem Mo{prog:ar}{w:aA}{A:az}{R:#[kb]}{s:ah}{l:ae}{ts:YO}{sh:#[rO]}{kw:#[qd]}{g:#[qd]}(j:#[ir])(hu:#[nM,4])(p:#[o1,s.heap.IsList])
  (r:(kw=[]/\g=[])\/∃d,kw=#[qD]/\g=#[qD])
  (y:#[dg,ts,s.heap]) (z:#[ku])
  (B:ts≠[]\/X3 λn d kr=>g=(n,d)::kr/\∀h':aE,#[26]->R (.ok (.ret d)) { s with heap:=h' })
  (q:∀ (h':aE) (t:ae×List Key),#[26]->t∈ts->#[a6]->R #[jM] { s with heap:=h' }) :
  aY #[j] A (.call #[tK] { pos:=[.ref l],kw:=kw }) R s:=by
 refine codeAny_call_builtin_at rfl F.entry_min ?_;have C:checkBuiltinCall "min" { pos:=[.ref l],kw:=kw }=pure ():=by rcases r with⟨rfl,_⟩|⟨d,rfl,_⟩<;>rfl
 rw[C];refine au ?_;have go:∀ {k:az},k.handled=af->aw #[j] k (pyIter #[h6] >>= λD=>newList [] >>= λb=>again (.builtin "min.loop" { pos:=[D,.none,b],kw:=g })) (λm i=>match m with
   | Fin.done f=>R (Except.ok f) i
   | Fin.again v=>v.quiet=true/\aY #[j] A v R i) (λe i=>R (Except.error e) i) s:=λ{k} hA'=>by
  refine ak (wpAny_pyIter_list p ?_);show#[ii];refine au #[ik];have x:∀b,s.heap.objs.size<=b->s.heap.get? b=af:=λb E=>by
   cases e:s.heap.get? b with
   | none=>rfl
   | some o=>exact absurd (Qx e) (Nat.not_lt.mpr E)
  have a:(s.heap.push { cls:=aa.type "list_iterator",data:=Data.fields #[aa.ref l,aa.int 0 0] }).objs.size=s.heap.objs.size+1:=size_push' _ _;refine ZmU (h0:=s.heap) (c:=0) j hu p (x _ #[gp]) (x _ #[dj,a,Qaq,_]) #[dj,a,Nat.succ_ne_self,_] y z s (λb o h=>Qi _ (Qi _ h)) ⟨_,Qi _ (QB _ rfl),rfl,rfl⟩ (QB _ rfl) B q
 rcases r with⟨rfl,rfl⟩|⟨d,rfl,rfl⟩
 ·exact go j
 ·exact go j
theorem ZmT(hc:#[81])(hu:#[fB,64]):YT X #[tK] (Mp X.K):=by
 show#[nK,ai,σ,vs];obtain⟨p,ts,sh,rfl,b,c,d,e,q⟩:=h;show#[ds,f,r];show#[ei,g,j,hz,I.list,b];have k:=Uy g;subst k;refine wpAny_call (Mo (sh:=sh) #[gj] #[2] j.isList (.inl #[aR]) (λt a=>?_) e (.inl d) λh' t l a m=>?_)
 ·obtain⟨i,v,q,_⟩:=#[oP,c,t,a];exact#[sL]
 ·exact⟨.ref t.1,H,I.kept (t':=#[tj]) l,rfl,q t a m⟩
theorem Mn(K:#[7]){k:Nat}(a:#[hZ])(hc:#[81]:=by rfl)(h:X.K=K:=by rfl):YT X #[tK] (Mp K):=by subst h;exact ZmT hc a.units
def Zti(K:#[7])(b:TA):TE:=λc H Q=>b c H λvs a=>X3 λ(p:ae) (ts:YO) (sh:List Bool)=>vs=#[hd]/\SqL K a p (Z7 ts)/\AtT a ts/\#[jh]/\(ts=[]->Q .non a) /\
 ∀t:ae×List Key,t∈ts->#[a6]->Q (.ref t.1) a
theorem ZpC{k:Nat}{e a:aD}{t:TA}{p pos f:Pos}(K:#[7])(w:#[hZ])(x:Gl X "min")(hm:X.mg "min" = af)(ha:PA X [e] t)(y:PE X a (tC .non))(z:X.K=K:=by rfl)(hc:#[81]:=by rfl)
  (B:aF [e] X.env=[#[cj]]:=by rfl) (C:b9 #[sT] X.env=[(U (aj.ofString "default"),eval a X.env)]:=by rfl):PE X (.Call (.Name "min" p) [e] #[sT] pos) (Zti K t):=by
 subst z;show#[dP,g,j,Q];refine bW (VR I x hm boot_min ?_);have l:=ha pos g s j H _ I h;rw[B]at l ⊢;rw[C];refine W.callWith_of (P:=λ_=>True) rfl (λ_ _=>⟨.machine,.inr #[8],λA Q E s _ q=>au q⟩) ?_;show aw _ _ (spliced (bu pos [#[cj]]) >>= _) _ _ _;refine ak (thn l ?_);rintro D F ⟨vs,m,G,J,L⟩;show#[gJ];refine bf ?_;show aw _ _ (evalAll [do let v <- eval a X.env;standAt pos;pure v] >>= _) _ _ _;refine ak ?_;unfold evalAll;refine ak (ak (thn (y g F j m (λv n=>v=.non/\n=m) G #[aR]) λu o ⟨v,n,b,M,N,O⟩=>ak (bg (au ?_))));subst N O;cases M;refine ak (bf (show aw _ _ (pure []) _ _ _ from au (au ?_)));show aw _ _ (pure D >>= _) _ _ _;refine ak (au (au ⟨trivial,?_⟩));obtain⟨p,R,sh,rfl,S,T,V,Y,q⟩:=L;show#[ds,Z,J];show#[ei,rv,pl,hz,b.list,S];have ei:=Uy rv;subst ei;refine wpAny_call (Mo (sh:=sh) (kw:=[(aj.ofString "default",.none)]) (b.ok.hd hc) #[oQ,w.units] pl.isList (.inr ⟨.none,rfl,rfl⟩) (λt c=>?_) V ?_ λh' t d c dX=>?_)
 ·obtain⟨i,v,q,_⟩:=b.tuple #[o0,T,t,c];exact#[sL]
 ·by_cases r:R=[]
  ·exact .inr ⟨_,_,_,rfl,λh' d=>⟨.non,_,b.kept (t':=o.toks) d,rfl,Y r⟩⟩
  ·exact .inl r
 ·exact⟨.ref t.1,_,b.kept (t':=o.toks) d,rfl,q t c dX⟩
universe E
theorem Mm{α b:Type}(f:α->b):∀ (l:List α) (i:Nat),(l.eraseIdx i).map f=(l.map f).eraseIdx i
 | [],_=>rfl
 | a::r,0=>rfl
 | a::r,i+1=>by simp[Mm f r i]
theorem Zl5{A:az}{a:Args}:(A.under (.builtin "list.remove.loop" a)).units<=A.units+1:=by show A.units+(Code.builtin "list.remove.loop" a).cUnits<=A.units+1;rw[plainId_units MeetsSeq.plain_remove_loop];exact Qh _
def EqS(s:ah)(items:#[ca])(v:aa)(e:Nat->Bool):Prop:=∀ (prog:ar) (w:aA) (A:az) (E:aa->ah->Prop) (Q:Bool->ah->Prop) (m:Nat) (x:aa),A.units+2<cLine->items[m]? = U x->Q (e m) s->aw #[j] A (eqBool x v) Q E s
theorem Ml{prog:ar}{w:aA}{A:az}{R:#[kb]}{s:ah}{l:ae}{items:#[ca]}{n:Nat}{v:aa}{e:Nat->Bool}{j:Nat}(hl:#[eW,l,items.toArray])(hq:EqS s items v e)(hu:#[nM,8])(hz:items.length<=1000)
  (c:j<items.length) (a:e j=true) (b:∀m,m<j->e m=false) (q:R (.ok (.ret .none)) { s with heap:=s.heap.update l (aI.mapSeq λd=>d.eraseIdxIfInBounds j) }) :
  ∀ (k i:Nat),j-i=k->i<=j->aY #[j] A (.builtin "list.remove.loop" { pos:=[.ref l,v,rawInt (i:Int)] }) R s
 | k,i,hk,hi=>by
  refine codeAny_builtin MeetsSeq.entry_remove_loop ?_;have f:items.toArray[#[eb,i].toNat]? = U items[i]:=by rw[Qak];simp
  show aw _ _ (aT.List.listItems #[h6] >>= _) _ _ _;refine ak (Vl hl rfl ?_);show aw _ _ (match items.toArray[((i:Nat):Int).toNat]? with|none=>_|some x=>_) _ _ _
  rw[f];refine ak (hq prog w _ _ _ i _ (Qay (Nat.add_le_add_right Zl5 2) #[2]) #[4] ?_);by_cases g:i=j
  ·subst g;rw[a];show aw _ _ (updateSeq l _ >>= _) _ _ _;refine ak (wpAny_updateSeq hl rfl ?_ #[oL,Qy,aG] ?_)
   ·rw[Qak];exact au q
   ·show (items.toArray.eraseIdxIfInBounds #[eb,i].toNat).size<=_;rw[List.eraseIdxIfInBounds_toArray,Qy,aG];have:=List.length_eraseIdx_le items #[eb,i].toNat;lia
  ·rw[b i #[2]];refine au ⟨plainId_quiet MeetsSeq.plain_remove_loop _,?_⟩;have:=Ml (prog:=prog) (w:=w) hl hq hu hz c a b q (k-1) (i+1) #[2] #[2];rw[show ((i+1:Nat):Int)=(i:Int)+1 by lia]at this;exact this
termination_by k=>k
theorem ZlS(l:ae)(items:#[ca])(n:Nat)(v:aa)(e:Nat->Bool)(j:Nat):Meets (aT.«list.remove» { pos:=[.ref l,v] }) (λA R s=>s.heap.get? l=U { cls:=.type "list",data:=.seq items.toArray n }/\EqS s items v e/\A.units+8<cLine/\items.length<=1000/\j<items.length/\e j=true/\(∀m,m<j->e m=false) /\
  R (.ok (.ret .none)) { s with heap:=s.heap.update l (aI.mapSeq λa=>a.eraseIdxIfInBounds j) }):=by
 intro prog w A R s ⟨b,c,d,f,g,h,i,q⟩;show aw _ _ (pure (Fin.again (.builtin "list.remove.loop" { pos:=[.ref l,v,rawInt 0] }))) _ _ _;exact au ⟨plainId_quiet MeetsSeq.plain_remove_loop _,Ml b c d f g h i q j 0 rfl (Qt _)⟩
section
variable {X:Cx}
def Mj:V->List V->Hp->VK->Prop:=λx vs H Q=>X3 λ(l:ae) (ts:YO) (t:ae×List Key)=>x=.ref l/\vs=[.ref t.1]/\H l=U #[dp,Z7,ts]/\AtT H ts/\t∈ts/\ts.length<=1000/\∀ (i:Nat) (hi:i<ts.length),ts[i].2=t.2->Q .non (upd H l (.lst (Z7 (ts.eraseIdx i))))
theorem ZpK(hu:#[fB,64]):MtM X "list.remove" Mj:=by
 show#[fD,vs,us,B,C];obtain⟨l,a,t,rfl,rfl,j,k,n,hz,q⟩:=h;cases B;obtain⟨u,rfl,D⟩:=C.one;show#[ob,D,G,j];have J:=Uy r;subst J;have d:a.findIdx #[s1]<a.length:=List.findIdx_lt_length.mpr ⟨t,n,decide_eq_true rfl⟩;have key:∀u∈a,#[rX].is s.heap u.2 u.1:=λu b=>I.tkey (k u b);have tup:∀u∈a,∃i:List aa,ZA (u.2.map kV) i/\IsTup s.heap u.1 i.toArray:=λu b=>by obtain⟨i,v,q,_⟩:=#[oP,k,u,b];exact#[sL]
 refine call_meets F.slot_list_remove #[kv] F.entry_list_remove (F.args_list_remove_2 _ _) (ZlS l _ G _ (λm=>match a[m]? with|some u=>decide (u.2=t.2)|none=>false) (a.findIdx #[s1])) ⟨e,?_,by lia,by rw[Qa];lia,by rw[Qa];exact d,?_,?_,?_⟩
 ·intro f w A E Q' m x hA g o;rw[Ql]at g;cases c:a[m]? with
  | none=>rw[c]at g;cases g
  | some u =>
   show#[eX,c,g,g];simp only[c]at o;obtain⟨L,M,N,O,c1,P,R⟩:=tup u (Qo c);obtain⟨S,T,U,V,c2,W,Y⟩:=tup t n;refine wpAny_eqBool_tuple (knd:=ZI f w) (x:=u.2) (y:=t.2) #[2] ⟨N,_,P,O,c1,R,?_⟩ ⟨U,_,W,V,c2,Y,?_⟩ o
   ·simpa using Rz u.2 L M
   ·simpa using Rz t.2 S T
 ·simp only[List.getElem?_eq_getElem d];exact List.findIdx_getElem (w:=d)
 ·intro m c;have Z:m<a.length:=by lia
  simp only[List.getElem?_eq_getElem Z];exact List.not_of_lt_findIdx (xs:=a) (p:=λu=>decide (u.2=t.2)) c
 ·have hv:ZA (Z7 (a.eraseIdx #[ae])) (#[tn].eraseIdx #[ae]):=by have:=r.eraseIdx #[ae];unfold Z7 at this ⊢;rw[Mm];exact this
  refine⟨.non,_,I.lset (its':=#[tn].eraseIdx #[ae]) j e ?_ hv ?_,rfl,q _ d (of_decide_eq_true (List.findIdx_getElem (w:=d)))⟩
  ·show (a.map λt=>aa.ref t.1).toArray.eraseIdxIfInBounds _=_;rw[List.eraseIdxIfInBounds_toArray]
  ·unfold Z7;rw[Qa];have:=List.length_eraseIdx_le a #[ae];rw[aG];lia
theorem Zuc{k:Nat}(a:#[hZ]):MtM X "list.remove" Mj:=ZpK a.units
universe E
theorem ZsJ(i j:Int):(!decide (i<j))=decide (j<=i):=by by_cases z:i<j<;>simp[z]<;>lia
theorem Zob(A:az)(s:ah){k m:Key}{p q:aa}(a:#[pE])(hq:#[pD])(b:#[hu])(prog:ar)(w:aA)(E:#[D])(Q:#[D])(h:Q (.bool (!kLt k m)) s) :
  aw #[j] A (richCompare .GtE p q) Q E s:=by
 cases k with
 | inl i =>
  cases m with
  | inl j=>obtain⟨t,rfl⟩:=a;show#[aJ];exact(PyProof.Rows.ge_int (ZsJ i j ▸ h):aw #[j] A (aO .GtE #[h7] (.int j u)) Q E s)
  | inr y=>cases b
 | inr x =>
  cases m with
  | inl j=>cases b
  | inr y=>obtain⟨t,rfl⟩:=a;show#[aJ];exact(PySem.P.ge_str h:aw #[j] A (aO .GtE (.str x t) (.str y u)) Q E s)
section
open PySem.SeqAt
open PySem.AutoSeq1 (wpAny_loadPart')
open PySem.MeetsSeq PySem.MeetsSeq2 PySem.MeetsSeq3
theorem ZgQ(l b:ae)(items o:Array aa)(n K:Nat)(L M:#[md])(sl N:#[hD])(ks m:#[f3])(D:#[hy])(E:ZA (m.map kV) o.toList)(F:shape ks=shape m) :
  Meets (aT.«tuple.__ge__» ⟨[.ref l,.ref b],[]⟩)
   (λ_ R s=>s.heap.get? l=U { cls:=.type "tuple",dict:=L,data:=.seq items n,slots:=sl }/\s.heap.get? b=U { cls:=.type "tuple",dict:=M,data:=.seq o K,slots:=N } /\
    R (.ok (.ret (.bool (!ZP ks m)))) s) :=
 .of_wp λc w A R s h=>by
  show#[gl];have z1:items.size=ks.length:=by have:=D.length;simpa using this.symm
  have z2:o.size=m.length:=by have:=E.length;simpa using this.symm
  have z3:ks.length=m.length:=by have:=#[cO,F];simpa [shape] using this
  wp_walk using wpAny_loadPart' O,wpAny_loadPart' P,wpAny_forIn_list _ (λrest b u=>b.1=af/\u=⟨p,g,d,tk,os⟩/\X4 λ(r ws:List aa) (f a:List Key)=>rest=r.zip ws /\
   ZA (f.map kV) r/\ZA #[rZ] ws/\shape f=shape a/\R (.ok (.ret (.bool (!ZP f a)))) #[fz,p]) _
  case turn =>
   show#[i4];cases f with
   | nil=>cases t;show#[sh]
   | cons k1 kr =>
    cases a with
    | nil=>cases k
    | cons Q S =>
     cases t with
     | cons B G =>
      cases z with
      | cons C H =>
       rw[Q6]at j;injection j with T V;injection T with W X;show#[jx];injection k with I Y;show#[hh];cases e with
       | true =>
        rw[if_pos (J.mp rfl)]at i
        wp_walk
        exact#[mQ]
       | false =>
        show#[pe];have rE:=Zob A.in1 #[fz,p] B C I c w
        wp_walk using rE
        exact#[qh]
  case fin =>
   show#[gI];have hv:(!ZP f a)=decide (items.size>=o.size):=by
    rw[decide_eq_true #[2]];cases f with
    | nil =>
     cases a with
     | nil=>rfl
     | cons _ _=>cases k
    | cons k1 kr =>
     cases a with
     | nil=>cases k
     | cons Q S =>
      cases t with
      | cons B G =>
       cases z with
       | cons C H=>rw[Q6]at j;cases j
   rw[hv]at i
   wp_walk
   exact#[g3]
  case h=>exact#[hQ]
universe E
section
variable {prog:ar} {w:aA} {A:az} {E:aa->ah->Prop} {s:ah}
theorem Zki{l b:ae}{items c:Array aa}{ks a:#[f3]}{Q:#[D]}(hl:#[tN,l,items])(hb:#[tN,b,c])(k:#[hy])(m:ZA #[rZ] c.toList)(o:shape ks=shape a)
  (hu:A.units<cLine) (h:Q (.bool (!ZP ks a)) s):aw #[j] A (richCompare .GtE #[h6] #[p6]) Q E s:=by
 show#[al];exact richCompare_meets_room (op:=.GtE) ⟨_,d,rfl⟩ ⟨_,g,rfl⟩ PySem.F.slot_tuple_ge PySem.F.entry_tuple_ge (PySem.F.args_tuple_ge_2 _ _) (ZgQ l b items c n u p r q t ks a k m o)
  ⟨d,g,show aa.bool (!ZP ks a)≠aa.notImplemented/\Q (.bool (!ZP ks a)) s from⟨(λx=>nomatch x),h⟩⟩ hu
universe E
section
variable {X:Cx}
def Mi(K:#[7]):R2:=λx y H Q=>X4 λ(a b:ae) (ks c:List Key)=>x=.ref a/\y=.ref b/\SqT K H a #[aD]/\SqT K H b (c.map kV)/\shape ks=shape c/\Q (.bl (!ZP ks c)) H
theorem ZsF(hu:X.A.units<cLine):OpR X (aO .GtE) (Mi X.K):=by intro ai s σ H x y v u Q I c d h;obtain⟨a,b,ks,e,rfl,rfl,f,g,i,q⟩:=h;cases c;cases d;obtain⟨its,j,k,_⟩:=I.tuple f;obtain⟨dN,l,m,_⟩:=I.tuple g;exact Zki k m j l i hu ⟨.bl (!ZP ks e),H,I,rfl,q⟩
theorem geK(K:#[7]){k:Nat}(a:#[hZ])(h:X.K=K:=by rfl):OpR X (aO .GtE) (Mi K):=by subst h;exact ZsF #[oQ,a.units]
universe E
section
variable {X:Cx}
def Me(K:#[7]):List V->Hp->VK->Prop:=λvs H Q=>X2 λ(p:ae) (ns:List Int)=>vs=#[hd]/\SqL K H p #[z]/\ns.length<=1000/\(∀n∈ns,0<=n/\n<=10000000000000)/\Q (.int ns.sum) H
theorem Zmj(hc:#[81]):YT X #[c3,"sum"] (Me X.K):=by
 show#[nK,ai,σ,vs];obtain⟨p,a,rfl,o,hn,d,q⟩:=h;show#[ds,t,r];obtain⟨its,v,w,_⟩:=I.list o;have f:=Zkm v;show#[c5,b,e,f.allInts.items];have g:a=b.toList.map #[lW]:=by rw[<- f.numsOf,<- nums_intItems,<- e]
 have c:b.size=a.length:=by rw[g,Qa,Array.length_toList]
 have i:numAt b=λj=>a.getD j 0:=by funext j;rw[numAt_eq,g]
 have k:=w.isList;rw[e]at k;have bound:∀n,n<=a.length->0<=(a.take n).sum/\(a.take n).sum<=10000000000000*n:=by
  intro n;induction n with
  | zero=>intro _;exact⟨by simp,by simp⟩
  | succ n l =>
   intro h;have l:=l #[2];have x:=d a[n] (Q3 #[2]);have y:a.take (n+1)=a.take n++[a[n]]:=by rw[QE,Qb #[2]];rfl
   rw[y,Q9];have z:([a[n]]:List Int).sum=a[n]:=by simp
   rw[z];lia
 refine sum_intList #[gj] k (λj hj=>?_) λh' tk A B=>⟨.int _,H,I.kept B,⟨A,rfl⟩,?_⟩
 ·rw[i];have x:=d a[j] (Q3 #[2]);have m:a.getD j 0=a[j]:=by rw[Qq,Qb #[2]];rfl
  have hp:=bound (j+1) #[2];refine⟨⟨?_,?_⟩,#[sM]⟩
  ·show -(2 ^ 63)<=a.getD j 0;rw[m];lia
  ·show a.getD j 0<2 ^ 63;rw[m];lia
  ·rw[Tg a (j+1) #[2]];lia
  ·rw[Tg a (j+1) #[2]];lia
 ·rw[i,c,Tg a a.length #[gp],Qw #[gp]];exact q
theorem Tf(K:#[7])(hc:#[81]:=by rfl)(h:X.K=K:=by rfl):YT X #[c3,"sum"] (Me K):=by subst h;exact Zmj hc
universe E
theorem ZpW{H:Hp}{k:#[f3]}{kvs:#[N]}{xs:#[34]}(r:#[lo]):∀ {v:V},XU kvs k=U v->∃p,atKey xs k=U p/\ZH v p.2:=by
 induction r with
 | nil=>intro v h;cases h
 | @cons p q ps qs h t b =>
  intro v a;show#[jb];by_cases e:p.1=k
  ·rw[decide_eq_true e]at a ⊢;cases a;exact⟨q.2,rfl,h.2.2⟩
  ·show#[qn]
theorem ZqJ{H:Hp}{k:#[f3]}{kvs:#[N]}{xs:#[34]}(r:#[lo]):XU kvs k=af->atKey xs k=af:=by
 induction r with
 | nil=>intro _;rfl
 | @cons p q ps qs h t b =>
  intro a;show#[jb];by_cases e:p.1=k
  ·rw[decide_eq_true e]at a;cases a
  ·show#[qn]
theorem Rt{kvs:#[N]}{k k':#[f3]}{v:V}:XU (kvs++[(k,v)]) k'=(XU kvs k').or (if k=k' then U v else af):=by
 unfold XU;rw[List.find?_append];cases h:kvs.find? λa=>decide (a.1=k') with
 | some x=>rfl
 | none =>
  by_cases e:k=k'
  ·simp[e]
  ·simp[e]
section
variable {X:Cx}
def Wk:R2:=λx y H Q=>X5 λd kvs b ks v=>x=.ref d/\y=.ref b/\H d=U #[hM]/\H b=U #[ho]/\XU kvs ks=U v/\Q v H
theorem ZsS(hu:#[fB,64]):IxR X Wk:=by intro value dA ai s σ H x y v u Q I g i h j;obtain⟨d,c,b,ks,z,rfl,rfl,k,l,m,q⟩:=h;cases g;cases i;obtain⟨_,hd,n,a,o,r,t,w,hex,A,B,C⟩:=#[ex,d,c,k];have f:s.heap.DictOfH #[rX] d n:=⟨o,r,t,w,hex,A,B,MB (R:=#[l2]) (λks b e=>I.tkey e) a,C⟩;obtain⟨p,D,E⟩:=ZpW a m;exact subscriptTail_builtinR (x:=p.2) f.typeIs PySem.F.slot_dict_getitem.lookup (wpAny_getItem_heap (knd:=bw #[37]) #[m7] (I.tkey l) f D ⟨rfl,z,H,I.tok _,E,q⟩) j
theorem ixD{k:Nat}(a:#[hZ]):IxR X Wk:=ZsS a.units
noncomputable def Rs:UJ:=λo i v H Q=>X4 λd kvs b ks=>o=.ref d/\i=.ref b/\H d=U #[hM]/\H b=U #[ho]/\XU kvs ks=af/\kvs.length<aq/\Q (upd H d (.dT (kvs++[(ks,v)])))
theorem Zrm(hu:#[fB,64]):UI X Rs:=by intro ai s σ H o i v ov iv u Q I t w y h;obtain⟨d,f,b,ks,rfl,rfl,g,j,A,hz,q⟩:=h;cases t;cases w;obtain⟨_,B,l,a,o,C,D,E,hex,F,G,J⟩:=#[ex,d,f,g];have K:s.heap.DictOfH #[rX] d l:=⟨o,C,D,E,hex,F,G,MB (R:=#[l2]) (λks b e=>I.tkey e) a,J⟩;have hl:=Zm3 a;have L:=ZqJ a A;refine wpAny_setItem_heap (knd:=bw #[37]) (k:=ks) #[m7] (I.tkey j) K #[oW,h',m,M] #[2];rw[storedH_new L]at m;obtain⟨n,N,O,p,P,S,T,_,U⟩:=m;refine⟨_,?_,q⟩;refine I.write (x:=d) (e:=d) #[cL,g,True.intro] #[8] (λc q V z=>(M.2 c V).trans z) ⟨n,p⟩ ?_;refine⟨by rw[Qf,Qp];lia,B,l++[(ks,b,u)],?_,n,N,O,p,P,S,T,U⟩;refine ZmD #[oW,c,ys,r] (ZlP a ⟨rfl,j,y⟩);rw[Ze (RY r g #[O])];exact r
theorem Zur{k:Nat}(a:#[hZ]):UI X Rs:=Zrm a.units
universe E
theorem ZgM(d b c e a:aD)(f:aS)(pos:Pos)(it g:aa)(env:Env) :
  compTurn #[ms] 0 it g env=(do
   standAt c.pos
   match <- pyNext it with
   | none=>pure (.done .next)
   | some v =>
    bx b it v
    assign b env v
    let x <- eval a env
    standAt a.pos
    let x <- bb a env x;let _ <- runOwn (.compStart (.ListComp d [⟨b,c,[],0⟩,⟨e,a,[],0⟩] f pos) 1 (<- holding [x] (pyIter x)) g env) env
    again #[ox,#[ms],0,g]):=by rfl
theorem Zg4(b e f a c:aD)(g:aS)(pos:Pos)(it d:aa)(env:Env) :
  compTurn #[mu] 1 it d env=(do
   standAt c.pos
   match <- pyNext it with
   | none=>pure (.done .next)
   | some v =>
    bx a it v
    assign a env v
    (do let _ <- call (.builtin "list.append") [d,<- eval b env])
    again #[ox,#[mu],1,d]):=by rfl
section
variable {prog:ar} {w:aA} {A:az} {R:Result->ah->Prop} {s:ah}
theorem ZjR{c i j b k:aD}{l:aS}{pos:Pos}{it d:aa}{env:Env}{E:#[D]}(I:#[eH,Nat])
  (B:#[kx])
  (turn:∀n s,I n s->aw #[j] A (pyNext it) (λr f=>match r with
   | none=>R #[iz] f
   | some v=>aw #[j] A (bx b it v) (λ_ s₀=>aw #[j] A (assign b env v) (λ_ o =>
     aw #[j] A (eval c env) (λx p =>
       aw #[j] A (call #[c3,"list.append"] [d,x]) (λ_ u=>∃m,m<n/\I m u) E p) E o) E s₀) E f) E s)
  (n:Nat) (h:I n s):aY #[j] A #[ox,#[mt],1,d] R s:=by
 have go:#[dk,g]:=
  λ{g t Q s} q=>bD q #[iJ] λe s' z=>(B e s' z).elim
 show#[mC];show aw _ A ((compTurn #[mt] 1 it d env).onRaise (λx=>do noteFrame x env;theTreesLotGoes x)) _ _ s;show#[d7,Zg4,C,f,y];cases r with
 | none=>exact au y
 | some v=>refine ak (thn (go y) λ_ s₀ a=>ak (thn (go a) λ_ o D=>?_));exact ak (ak (thn (go D) λx p F=>ak (thn (go F) λ_ u G=>au (au ⟨rfl,G⟩))))
theorem ZiK{d a f g b:aD}{i:aS}{pos:Pos}{it j:aa}{env:Env}{E:#[D]}(I:#[eH,Nat])
  (D:#[kx]) (F:∀x,bb b env x=pure x)
  (turn:∀n s,I n s->aw #[j] A (pyNext it) (λr k=>match r with
   | none=>R #[iz] k
   | some v=>aw #[j] A (bx a it v) (λ_ s₀=>aw #[j] A (assign a env v) (λ_ p =>
     aw #[j] A (eval b env) (λx u=>aw #[j] A (pyIter x) (λy B =>
       ∀R2:Result->ah->Prop,(∀l,(∃m,m<n/\I m l)->R2 #[iz] l)->aY #[j] A (.compStart #[a8] 1 y j env) R2 B) E u) E p) E s₀) E k) E s)
  (n:Nat) (h:I n s):aY #[j] A #[ox,#[a8],0,j] R s:=by
 have go:#[dk,o]:=
  λ{o t Q s} q=>bD q #[iJ] λe s' z=>(D e s' z).elim
 refine codeAny_loop rfl I #[oW,n,s,G] n h;show aw _ A ((compTurn #[a8] 0 it j env).onRaise (λx=>do noteFrame x env;theTreesLotGoes x)) _ _ s;show#[d7,ZgM,G,k,C];cases r with
 | none=>exact au C
 | some v=>refine ak (thn (go C) λ_ s₀ c=>ak (thn (go c) λ_ p H=>ak (thn (go H) λx u J=>?_)));refine ak (bg (ak (wpAny_of_eq (F x) (ak (bf (thn (go J) λy B K=>?_))))));refine ak (wpAny_runOwn (h:=af) ?_);exact K _ λl L=>au ⟨rfl,L⟩
theorem ZiH{b c d e a:aD}{f:aS}{pos:Pos}{it g:aa}{env:Env}
  (h0:aY #[j] A #[ox,#[62],1,g] R s)
  (h:aw #[j] A (pyIter it) (λi s'=>aY #[j] A (.compLoop #[62] 1 i g env) R s')
   (notedBy #[j] A env λx s'=>R (.error x) s') s) :
  aY #[j] A (.compStart #[62] 1 it g env) R s:=by
 refine codeAny_of_tree ?_;show aw _ _ ((compStart #[62] 1 it g env).onRaise (λx=>do noteFrame x env;standAt theWindowsPlace)) _ _ s;refine wpAny_notedAt ?_;unfold compStart;show aw _ _ (ask >>= _) _ _ s;refine ak (wpAny_askSetting (wpAny_ite ?_));split
 ·first
   | exact ak (au (au (And.intro rfl h0)))
   | exact au (And.intro rfl h0)
 ·first
   | exact ak (wpAny_rule (ak (bg (ak (bD h (λi s' j=>au (And.intro rfl j)) λ_ _ x=>x)))))
   | (refine ak (wpAny_rule ?_);show aw _ _ (standAt a.pos >>= _) _ _ s;exact ak (bg (ak (bD h (λi s' j=>au (And.intro rfl j)) λ_ _ x=>x))))
universe E
def Rr(J:It)(D:ae)(ys:#[jr])(n:St)(H:Hp)(g:TG)(o:TE)(N:List V->St->Hp->Prop):Prop :=
 ∃W:Nat->Nat->List V->St->Hp->Prop,(∃m,W 0 m ys n H) /\
  ∀i m ys b a,W i m ys b a->(J.stop i a/\N ys b a) \/
   (J.go i a/\∃c:List V->St->Hp->Prop,#[oe,d,e,f,c,h]/\∀x j,J.yld i a x j->g x b j λk p =>
    o k p λy l=>l D=U #[gd]/\ys.length<aq/\c #[pP] k #[tV,l])
def Md(J:It)(D:ae)(k:Nat)(n:St)(o:Hp)(g:TG)(p:TI)(q:TG)(r:TE)(Q:VK):Prop :=
 ∃W:Nat->Nat->List V->St->Hp->Prop,(∃m,W 0 m [] (n++List.replicate k af) (upd o D #[av])) /\
  ∀i m b c a,W i m b c a->(J.stop i a/\Q #[iy] a) \/
   (J.go i a/\∃N:List V->St->Hp->Prop,#[oe,d,e,f,N,h]/\∀x j,J.yld i a x j->g x c j λl s=>p l s λt u=>Rr t D b l u q r N)
def Mc(n:Nat)(c:TI)(g:TG)(d:TI)(e:TG)(f:TE):TE:=λa H Q=>c a H λJ b=>∀D,b D=af->Md J D n a b g d e f Q
section
variable {X:Cx} {N N':List aj} {o c:aS}
theorem ZmB{bK Z iter iw dC:aD}{pos cE:Pos}{wi gW:TI}{g g2:TG}{te:TE}{use:Option (aa->Sem Unit)}{QQ:#[D]}(S:#[ba])(hN:X.N=N)(ho:#[86])(hc:#[81])
  (hi:PI X Z iter wi) (hg:#[du,PG,Z,g]) (kK:∀C s H fp,PI #[u] iw dC gW) (rG:#[du,PG,iw,g2]) (he:#[du,PE,bK,te])
  (hs:#[ak]) (ij:∀C s H fp x,bb dC #[u].env x=pure x) {ai:#[Q]} {s:ah} {σ:St} {H:Hp} {Q:VK} (I:#[l]) (h:Mc #[be] wi g gW g2 te σ H Q)
  (post:∀ (D C:ae) (A:ah) (t:Hp) (m:aj->Option aa),Inv X ai σ t A->t C=af->A.heap.Ns C m->C≠X.env.locals->X.s₀.heap.objs.size<=C->#[j6]->(∀p∈X.pn++ai,p.1≠C) ->
   Q #[iy] t->compPost #[G] X.A X.xe use QQ #[iy] C #[iz] A) :
  #[ij] (comprehension #[12] c X.env cE (newList []) false #[dI,iter] use) QQ X.xe s:=by
 have kE:#[qq]:=MM λy hy hf=>by refine I.ok.has y.1 ?_;show#[bI]
 refine wpAny_comprehension_free (use:=use) rfl hs kE S.kind S.loc #[eC,ai,σ,f];obtain⟨it,fp,tn,J,K,e,I2,T,bX,f2,hR⟩:=h2;subst e;have hD:K f.heap.objs.size=af:=I2.fresh;have I3:Inv X ai σ #[14] { f with heap:=f.heap.push { cls:=.type "list",data:=.seq ([]:List aa).toArray } } :=
  I2.lnew (ys:=[]) (its:=[]) (t':=f.toks) .nil (Qt _)
 have m5:#[qk]:=λb k=>by obtain⟨l,e,_⟩:=T.obj 0 _ bX b k;exact Qx e
 refine bM (wpAny_newFunctionEnv S.nocell #[rg] #[oW,P,je,jf] S.kind);have e3:#[bq]:=#[H];show#[c5,j,kF,e3];have e3:#[f1]:=by rw[kF]
 have jM:#[lh]:=by rw[e3,aE.size_push]
 show#[nk];have f3:#[nF,ai,#[14]]:=λb k=>⟨by rw[Ze (QK (m5 b k))];exact(f2 b k).1,(f2 b k).2⟩;have bY:tn 0 j.heap:=T.keep 0 _ _ bX λb _ l e=>by rw[e3];exact Qi _ e
 rw[<- kF]at I3;show aY #[G] X.A #[gE]
  (compPost #[G] X.A X.xe use QQ #[v] #[22].objs.size)
  { f with heap:=P,toks:=f.toks+([]:List (aj×aa)).length }
 have eW:P.Ns j.heap.objs.size #[js]:=by rw[e3];exact je
 have fg:#[dE,b,l,j.heap.get?,l,P.get?]:=λb l e=>by rw[e3]at e;exact jf.extBut b l #[lH] (Qi _ e)
 rw[<- e3];have qX:({ f with heap:=P,toks:=f.toks+([]:List (aj×aa)).length }:ah)={ j with heap:=P,toks:=f.toks }:=by rw[kF];rfl
 show#[hV];have I4:=MJ (tk:=f.toks) S hN ho I3 f3 m6 eW fg;have m7:tn 0 P:=T.keep 0 _ _ bY λb _ l e=>fg b l e;generalize B:Z6 X c N' j.heap.objs.size j (upd K f.heap.objs.size (.lst [])) fp=Y at I4;have F:Y.prog=X.prog:=by rw[<- B];rfl
 have G:Y.w=X.w:=by rw[<- B];rfl
 have YK:Y.K=X.K:=by rw[<- B];rfl
 have Yc:Y.calm=true:=by rw[<- B];exact hc
 have YA:Y.A=X.A:=by rw[<- B];rfl
 have jN:#[kl]:=by rw[<- B];rfl
 have Yl:#[pF]:=by rw[jN];rfl
 have iO:Y.xe=λ_ _=>False:=by rw[<- B];rfl
 show#[cV,m8,hg,#[14],qg,kK];show#[cV,qh,rG,#[14],qi,ij];have dW:=he j.heap.objs.size j #[14] fp;rw[B]at m8 qg qh qi dW;have fc:∀ {w:Hp},#[fg,w]->∀b∈fp,Xy Y [] w b:=λ{w} hn b k=>by
  show#[sv];have z1:=I4.ok.exf b #[c9,B,k];refine⟨hn b k,z1.1,I4.ok.exfs b #[c9,B,k],.inl #[c9,B,k],z1.2,λp hp=>?_⟩;have iP:p∈#[i6]:=by
   have:Y.pn=[]:=by rw[<- B];rfl
   rw[this]at hp;exact hp
  cases iP
 have fin:∀ (A:ah) (R:St) (t:Hp),Inv Y [] R t A->Q #[v] t->compPost #[G] X.A X.xe use QQ #[v] j.heap.objs.size #[iz] A:=λA R t M q=>by
  obtain⟨m,hn,_⟩:=id M.loc;rw[Yl]at hn;have jg:t j.heap.objs.size=af:=by have:=M.free;rw[Yl]at this;exact this
  have un:Un #[pT] fp #[14] t j.heap A.heap:=by have:=M.base;show#[op,B]
  have qY:A.os=j.os:=by have:=M.os;show#[op,B]
  have gk:HOk X.prog X.w t A.heap:=by have:=M.hok;show#[oC,F,G]
  refine post _ _ A t m (I3.call' (s':=A) (ch:=fp) qY un gk M.bare λb k=>?_) jg hn (QaH I3.lt) I3.sz #[oW,x,a,e] (λp hp=>?_) q
  ·show#[ip]
  ·obtain⟨v,l,e',_⟩:=I3.cell x a e;exact QK (Qx e')
  ·exact QK (Qx (I3.pin p hp).1)
 have jO:aY #[G] X.A #[nU,#[12],#[mm]]
   (compPost #[G] X.A X.xe use QQ #[v] j.heap.objs.size) { j with heap:=P,toks:=f.toks }:=by
  rw[<- jN,<- YA];refine ZiK (E:=#[l4]) (λn s'=>X4 λi ys aP w=>Inv Y [] aP w s'/\tn i s'.heap/\#[fg,w]/\W i n ys aP w) #[iJ] qi ?_ m0
   #[jw]
  ·rintro n A ⟨i,ys,R,t,M,jd,kB,w5⟩;rcases turn i n ys R t w5 with⟨stop,qn⟩|⟨go,Nn,oX,step⟩
   ·refine thn (T.done Y F G YK Yc i [] A R t _ M (fc kB) jd stop) ?_;rintro r s6 ⟨hr,I6⟩;subst hr;have fq:=fin s6 R t I6 qn;rw[<- YA]at fq;exact fq
   ·refine thn (T.item Y F G YK Yc i [] A R t _ M (fc kB) jd go) ?_;show#[95];have lF:∀ {ip:St} {O:Hp} {L:ah},Inv Y #[fR] ip O L->Inv Y [] ip O L/\tn (i+1) L.heap/\∀b∈fp,O b=af:=λ{ip O L} I9=>by refine#[d1,T.keep,kG,l];show#[e8,l,T.obj,kG]
    have P1:=m8 _ s7 R H7 x u _ rb r7 (step x H7 y7);show#[ee,F,G,P1];rintro _ s8 ⟨jh,H8,I8,q8⟩;have P2:=qg _ s8 jh H8 _ I8 q8;rw[F,G,iO]at P2;refine thn P2 λv2 L h9=>thn h9 λCB fj zB=>?_;obtain⟨o8,jo,uG,J2,gU,zC,kH,T2,qj,nu,W2,⟨m2,w2⟩,rH⟩:=zB;subst zC;intro R2 zD;rw[F,G,YK]at T2;have kU:∀ {w:Hp},(∀b∈jo,w b=af)->∀b∈jo,Xy Y #[fR] w b:=λhn b k=>⟨hn b k,(nu b k).2⟩;have nv:aY #[G] Y.A (.compLoop #[12] 1 (.ref o8) #[v] Y.env) R2 fj:=by
     refine ZjR (E:=#[l4]) (λn' s'=>X4 λV cJ aP w=>Inv Y #[fR] aP w s'/\uG V s'.heap/\(∀b∈jo,w b=af)/\W2 V n' cJ aP w) #[iJ] ?_ m2
      ⟨0,ys,jh,gU,kH,qj,λb k=>(nu b k).1,w2⟩
     rintro n' fJ ⟨V,cJ,jU,fV,ji,qk,ql,rh⟩;rcases rH V n' cJ jU fV rh with⟨rJ,zE⟩|⟨zF,zG,uH,rK⟩
     ·refine thn (T2.done Y F G YK Yc V _ fJ jU fV _ ji (kU ql) qk rJ) ?_;rintro r jp ⟨hr,mj⟩;subst hr;show#[eD,lF,mj,zH,oX,zE];exact zD jp ⟨m',bZ,i+1,cJ,jU,fV,b1,b2,b3,zH⟩
     ·refine thn (T2.item Y F G YK Yc V _ fJ jU fV _ ji (kU ql) qk zF) ?_;rintro r jp ⟨u2,hr,zI⟩;subst hr;refine thn zI ?_;rintro _ fY ⟨x2,jV,zJ,zK,zL,nw,uI⟩;have uJ:=zJ.pinned (kU uI) (T2.obj _ _ nw);have rL:∀ {ip:St} {O:Hp} {L:ah},Inv Y (#[fR]++W0 jo fY.heap) ip O L->Inv Y #[fR] ip O L/\uG (V+1) L.heap/\∀b∈jo,O b=af:=λ{ip O L} I9=>by refine#[d1,T2.keep,nw,l];show#[e8,l,T2.obj,nw]
      have P5:=qh _ fY jU jV x2 u2 _ uJ zK (rK x2 jV zL);show#[ee,F,G,P5];rintro _ gX ⟨lI,rM,zM,zN⟩;have P3:=dW _ gX lI rM _ zM zN;show#[ee,F,G,P3];rintro y zO ⟨vy,zP,zQ,zR,rf,hsz,zS⟩;have P4:=WW (X:=Y) _ zO lI zP #[v] [vy] #[v] [y] (λ_ w=>zG (cJ++[vy]) lI w) zQ rfl #[oK,zR] ⟨_,cJ,vy,rfl,rfl,rf,hsz,zS⟩;show#[ee,F,G,P4];rintro _ s16 ⟨_,zT,zU,_,zV⟩;show#[eD,rL,zU,zW,uH,zV];exact⟨m',bZ,V+1,cJ++[vy],lI,zT,b1,b2,b3,zW⟩
    have zX:=T2.self Y.A 0 fj (λjj s'=>aY #[G] Y.A (.compLoop #[12] 1 jj #[v] Y.env) R2 s') #[s2] qj nv;exact ZiH nv (bD zX #[iJ] λ_ _ z=>z.elim)
  ·exact w0
 have lp:=T.self X.A 0 { j with heap:=P,toks:=f.toks } (λjj s'=>aY #[G] X.A #[nU,#[12],jj]
   (compPost #[G] X.A X.xe use QQ #[v] j.heap.objs.size) s') #[s2] m7 jO
 exact #[gK]
theorem Zn7{e a iter b d:aD}{pos:Pos}{f i:TI}{g j:TG}{k:TE}(S:#[ba])(l:X.N=N)(n:#[86])(hc:#[81])
  (p:PI X a iter f) (r:#[du,PG,a,g]) (t:∀C s H fp,PI #[u] b d i) (u:#[du,PG,b,j]) (he:#[du,PE,e,k])
  (v:#[ak]:=by intro _;rfl) (w:∀C s H fp x,bb d #[u].env x=pure x:=by intro _ _ _ _ _;rfl) :
  PE X (.ListComp e #[eh,a,iter,b,d] c pos) (Mc #[be] f g i j k):=by
 show#[st];refine ZmB (use:=af) S l n hc p r t u he v w I h λD C s5 y m z A B E F G J q=>⟨m,B,λh' K=>?_⟩;exact⟨.ref D,y,z.let A E F G J K,rfl,q⟩
universe E
universe E.L2
namespace Hf
open L2
abbrev PW:=List (Int×Nat)
noncomputable def val(P:PW):Int:=(P.map λp=>p.1*(p.2:Int)).sum
noncomputable def ws(P:PW):List Int:=P.map #[lW]
noncomputable def ds(P:PW):List Nat:=P.map #[f6]
noncomputable def zs(z:Nat):List Int:=List.replicate z 0
noncomputable def kr(w E:Nat)(D:#[aY]):Nat:=(D.map λd=>w ^ (E-d)).sum
inductive Hu (w:Nat):List Int->Nat->Int->Prop
 | stop {e:Int} {m:Nat}:Hu w [e] m 0
 | step {E L:List Int} {m:Nat} {C:Int}:1<L.length->E.Perm L->L.Pairwise (·<=·)->Hu w (L.drop m++[(L.take m).sum]) w C->Hu w E m (C+(L.take m).sum)
def Fit(w n m:Nat):Prop:=n=1\/∃t,n=m+t*(w-1)
structure Fits (w n m:Nat):Prop where
 w2:2<=w
 m2:2<=m
 mw:m<=w
 ok:Fit w n m
universe E.Hf
namespace L2
open PySem PySem.Spec PyProof.Rows
section
variable {κ:Type} [DecidableEq κ]
noncomputable def Ys(kvs:#[fO])(k:κ):Option V:=#[jF]
noncomputable def XJ(kvs:#[fO])(k:κ)(v:V):List (κ×V) :=
 if #[hI]=true then kvs.map (λa=>if a.1=k then (a.1,v) else a) else kvs++[(k,v)]
theorem Ux{p:κ×V}{r:#[fO]}{k:κ}(e:p.1=k):Ys (p::r) k=U p.2:=by simp[Ys,List.find?_cons,e]
theorem Uw{p:κ×V}{r:#[fO]}{k:κ}(e:¬ p.1=k):Ys (p::r) k=Ys r k:=by simp[Ys,List.find?_cons,e]
theorem Rq(k:κ):∀kvs:List (κ×V),#[hI]=#[r2].isSome
 | []=>rfl
 | p::r=>by
  rw[QaN];by_cases e:p.1=k
  ·simp only[Ux e,decide_eq_true e,Bool.true_or,Option.isSome_some]
  ·rw[Uw e,decide_eq_false e,Bool.false_or];exact Rq k r
theorem Mb(kvs:#[fO])(k:κ)(v:V):(XJ kvs k v).length<=kvs.length+1:=by
 unfold XJ;split
 ·rw[Qa];lia
 ·rw[Qf,QF,List.length_nil];lia
theorem Zps{kvs:#[fO]}{k:κ}(v:V)(h:Ys kvs k=af):XJ kvs k v=kvs++[(k,v)]:=by unfold XJ;rw[Rq,h];exact if_neg #[6]
theorem XZ.isSome_eq{o:Option V}{u:Option aa}(r:XZ o u):o.isSome=u.isSome:=by
 cases o with
 | none=>cases u with
  | none=>rfl
  | some _=>exact#[fP].elim
 | some _=>cases u with
  | none=>exact#[fP].elim
  | some _=>rfl
theorem XZ.getD{o:Option V}{u:Option aa}{d:V}{d':aa}(r:XZ o u)(rd:ZH d d'):ZH (o.getD d) (u.getD d'):=by
 cases o with
 | none=>cases u with
  | none=>exact rd
  | some _=>exact#[fP].elim
 | some _=>cases u with
  | none=>exact#[fP].elim
  | some _=>exact r
theorem KV.val{kvs:#[fO]}{vs:#[kD]}(r:#[pJ])(k:κ):XZ #[r2] (valueAt vs k):=by
 unfold KV at r;induction r with
 | nil=>exact True.intro
 | @cons p q ps a h t f =>
  show#[c5,d,g,h];by_cases e:p.1=k
  ·have c:q.1=k:=d.symm.trans e;have b:valueAt (q::a) k=U q.2:=by simp[valueAt,List.find?_cons,c]
   rw[Ux e,b];exact g
  ·have c:¬ q.1=k:=λz=>e (d.trans z);have b:valueAt (q::a) k=valueAt a k:=by simp[valueAt,List.find?_cons,c]
   rw[Uw e,b];exact f
theorem KV.any{kvs:#[fO]}{vs:#[kD]}(r:#[pJ])(k:κ):#[hI]=vs.any λa=>decide (a.1=k):=by
 unfold KV at r;induction r with
 | nil=>rfl
 | cons h t b=>rw[QaN,QaN,b,h.1]
theorem KV.repl{kvs:#[fO]}{vs:#[kD]}(r:#[pJ])(k:κ){y:V}{u:aa}(c:ZH y u) :
  KV (kvs.map λa=>if a.1=k then (a.1,y) else a) (vs.map λa=>if a.1=k then (a.1,u) else a):=by
 unfold KV at r ⊢;induction r with
 | nil=>exact .nil
 | @cons p q ps qs h t d =>
  rw[Qj,Qj];refine .cons ?_ d;show#[c5,b,f,h];by_cases e:p.1=k
  ·rw[if_pos e,if_pos (b.symm.trans e)];exact⟨b,c⟩
  ·rw[if_neg e,if_neg (λz=>e (b.trans z))];exact⟨b,f⟩
theorem KV.put{kvs:#[fO]}{vs:#[kD]}(r:#[pJ])(k:κ){y:V}{u:aa}(a:ZH y u):KV (XJ kvs k y) (stored vs k u):=by
 unfold XJ stored;rw[r.any k];by_cases e:(vs.any λb=>decide (b.1=k))=true
 ·show#[fe,e];exact r.repl k a
 ·show#[e7,e,e];exact Paired.snoc r ⟨rfl,a⟩
theorem KV.length{kvs:#[fO]}{vs:#[kD]}(r:#[pJ]):kvs.length=vs.length:=Paired.length r
universe E
theorem Te{P:ar}{w:aA}{k:Key}{u:aa}(r:ZH (kV k) u):#[iw].is k u=true:=by
 cases k with
 | inl i=>obtain⟨t,e⟩:=#[qU];subst e;exact NL P w i t
 | inr x=>obtain⟨t,e⟩:=#[qT];subst e;exact NK P w x t
theorem Ma{P:ar}{w:aA}:∀ {ks:List Key} {us:List aa},ZA #[aD] us->ItemsAre #[iw] ks us
 | [],_,r=>by rw[Qar]at r;cases r;exact .nil
 | k::ks,_,r=>by
  rw[Qj]at r;cases r with
  | cons h t=>exact .cons (Te h) (Ma t)
abbrev KT(H:Hp):List (List Key×V)->List (List Key×ae×aa)->Prop:=Paired λp q=>p.1=q.1/\H q.2.1=U #[ix]/\ZH p.2 q.2.2
theorem KT.val{H:Hp}{kvs:#[N]}{xs:#[34]}(r:#[sW])(k:#[f3]):XZ #[r2] ((atKey xs k).map #[f6]):=by
 induction r with
 | nil=>exact True.intro
 | @cons p q ps a h t f =>
  obtain⟨d,_,g⟩:=h;by_cases e:p.1=k
  ·have c:q.1=k:=d.symm.trans e;have b:atKey (q::a) k=U q.2:=by simp[atKey,List.find?_cons,c]
   rw[Ux e,b];exact g
  ·have c:¬ q.1=k:=λz=>e (d.trans z);have b:atKey (q::a) k=atKey a k:=by simp[atKey,List.find?_cons,c]
   rw[Uw e,b];exact f
theorem KT.repl{H:Hp}{kvs:#[N]}{xs:#[34]}(r:#[sW])(k:#[f3]){y:V}{u:aa}(d:ZH y u) :
  KT H (kvs.map λb=>if b.1=k then (b.1,y) else b) (xs.map (putAt k u)):=by
 induction r with
 | nil=>exact .nil
 | @cons p q ps qs h t f =>
  rw[Qj,Qj];refine .cons ?_ f;show#[e9,a,c,g,h];unfold putAt;by_cases e:p.1=k
  ·rw[if_pos e,if_pos (a.symm.trans e)];exact⟨a,c,d⟩
  ·rw[if_neg e,if_neg (λz=>e (a.trans z))];exact⟨a,c,g⟩
theorem KT.put{H:Hp}{kvs:#[N]}{xs:#[34]}(r:#[sW])(k:#[f3]){b:ae}{y:V}{u:aa}(hb:H b=U #[hK])(a:ZH y u) :
  KT H (XJ kvs k y) (storedH xs k b u):=by
 have e:(kvs.any λc=>decide (c.1=k))=(atKey xs k).isSome:=by rw[Rq,(r.val k).isSome_eq,Option.isSome_map]
 unfold XJ storedH;rw[e];by_cases q:(atKey xs k).isSome=true
 ·show#[fe,q];exact r.repl k a
 ·show#[e7,q,q];exact Paired.snoc r ⟨rfl,hb,a⟩
theorem KT.keeps{H a:Hp}{kvs:#[N]}{xs:#[34]}(r:#[sW])(ht:#[nl,b,ys,H,a]):KT a kvs xs :=
 Paired.mapP r λ_ _ z=>⟨z.1,ht _ _ z.2.1,z.2.2⟩
section
variable {P:ar} {w:aA} {H:Hp} {h:aE} {a:ae}
theorem L9{u:HO}(ok:#[ct])(e:Rd H a u):YY P w H h a u:=e.ok ok
theorem Vg{kvs:#[87]}(ok:#[ct])(e:Rd H a #[iI]):kvs.length<=aq/\#[kK]=false/\∃vs,KV kvs vs/\h.DictOf #[iw] a vs :=
 show YY P w H h a #[iI] from L9 ok e
theorem Ztf{kvs:#[87]}(ok:#[ct])(e:#[sX]):kvs.length<=aq/\#[kK]=false/\∃vs,KV kvs vs/\h.DictOf #[iw] a vs:=Vg ok (.inl e)
theorem Td{ks:#[f3]}(ok:#[ct])(e:H a=U #[ho]):#[rW].is h ks a:=by obtain⟨_,its,r,o,b,c,n,d⟩:=(show YY P w H h a #[ho] from ok a _ e);exact⟨o,its.toArray,n,b,c,d,by simpa using Ma r⟩
theorem Uv{kvs:#[N]}(ok:#[ct])(e:Rd H a #[hM]):kvs.length<=aq/\#[kK]=false /\
  ∃xs,KT H kvs xs/\h.DictOfH #[rW] a xs:=by
 obtain⟨z,y,xs,r,o,c,d,f,g,i,j,k⟩:=(show YY P w H h a #[hM] from L9 ok e);refine⟨z,y,xs,r,o,c,d,f,g,i,j,λx hx=>?_,k⟩;have all:∀ {l:List (List Key×V)} {m:List (List Key×ae×aa)},KT H l m->∀x∈m,#[rW].is h x.1 x.2.1:=by
  intro l m q;induction q with
  | nil=>intro x hx;exact nomatch hx
  | @cons p q ps qs b t n =>
   intro x hx;rcases QG.mp hx with e|hx
   ·subst e;exact Td ok #[c9,b.1,b.2.1]
   ·exact n x hx
 exact all r x hx
theorem Zs0{kvs:#[N]}(ok:#[ct])(e:H a=U #[hM]):kvs.length<=aq/\#[kK]=false /\
  ∃xs,KT H kvs xs/\h.DictOfH #[rW] a xs:=Uv ok (.inl e)
universe E
def XY(H:Hp)(a:ae)(y:V)(r:Option V):Prop :=
 (X2 λc k=>Rd H a (.dK c)/\y=kV k/\r=Ys c k)\/X3 λc k b=>Rd H a (.dT c)/\y=.ref b/\H b=U #[hK]/\r=Ys c k
def WV(H:Hp)(a:ae)(y v:V)(d:Hp):Prop :=
 (X2 λc k=>H a=U (.dK c)/\y=kV k/\c.length<aq/\d=upd H a (.dK (XJ c k v))) \/
 X3 λc k b=>H a=U (.dT c)/\y=.ref b/\H b=U #[hK]/\c.length<aq/\d=upd H a (.dT (XJ c k v))
theorem XY.k{H:Hp}{a:ae}{kvs:#[87]}{k:Key}(e:#[sX]):XY H a (kV k) #[r2]:=.inl ⟨kvs,k,.inl e,rfl,rfl⟩
theorem XY.t{H:Hp}{a b:ae}{kvs:#[N]}{k:#[f3]}(e:H a=U #[hM])(c:H b=U #[hK]):XY H a #[p6] #[r2]:=.inr ⟨kvs,k,b,.inl e,rfl,c,rfl⟩
theorem WV.k{H:Hp}{a:ae}{kvs:#[87]}{k:Key}{v:V}(e:#[sX])(hl:kvs.length<aq):WV H a (kV k) v (upd H a (.dK (XJ kvs k v))):=.inl ⟨kvs,k,e,rfl,hl,rfl⟩
theorem WV.t{H:Hp}{a b:ae}{kvs:#[N]}{k:#[f3]}{v:V}(e:H a=U #[hM])(c:H b=U #[hK])(hl:kvs.length<aq) :
  WV H a #[p6] v (upd H a (.dT (XJ kvs k v))):=.inr ⟨kvs,k,b,e,rfl,c,hl,rfl⟩
section
variable {X:Cx} {ai:List (ae×aI)} {σ:St} {H:Hp} {s:ah} {a:ae} {y v:V} {u r:aa} {o:Option V} {A:az} {E:aa->ah->Prop}
theorem Inv.big(I:#[l]):bC<s.heap.objs.size:=by have h:aH<s.heap.objs.size:=#[tw].lt;exact Nat.lt_trans #[6] h
theorem ZmY{Q:#[D]}(hu:#[nM,1])(I:#[l])(g:XY H a y (U v))(n:ZH y u)(h:∀d s',Inv X ai σ H s'->ZH v d->Q d s') :
  aw #[G] A (getItem #[61] u) Q E s:=by
 rcases g with⟨f,k,e,i,l⟩|⟨f,k,b,e,i,q,l⟩
 ·subst i;show#[os,r,t,c,j,Vg];obtain⟨d,hw,m⟩:=XZ.some_of (v:=v) (o:=valueAt t k) #[dj,l,c.val,k];exact wpAny_getItem_of (Te n) j.mapOf hw (h d _ #[sd] m)
 ·subst i;show#[tR,n];show#[os,r,w,c,j,Uv];obtain⟨d,hw,m⟩:=XZ.some_of (v:=v) (o:=(atKey w k).map #[f6]) #[dj,l,c.val,k];show#[nB,p,x,B,QaS.mp,hw];refine wpAny_getItem_heap #[s7] (Td I.hok q) j x ?_;rw[B];exact h d _ #[sd] m
theorem L8{h':aE}{t':Nat}{ob:HO}(I:#[l])(c:Mut (H a))(d:aE.SameBut a s.heap h')(he:∃q,h'.get? a=U q)(new:#[n2,a,ob]) :
  Inv X ai σ (upd H a ob) { s with heap:=h',toks:=t' } :=
 I.write (x:=a) (e:=a) c #[8] (λb q f z=>(d.2 b f).trans z) he new
theorem Zsd{P:ar}{w:aA}{b:Hp}{h':aE}{kvs:#[87]}{vs:List (Key×aa)}(z:kvs.length<=aq)(hd:#[kK]=false)(rel:#[pJ])(c:h'.DictOf #[iw] a vs) :
  YY P w b h' a #[iI]:=⟨z,hd,vs,rel,c⟩
theorem Zl6{B:Hp}{Q:#[pu]}(hu:#[nM,1])(I:#[l])(g:WV H a y v B)(C:ZH y u)(D:ZH v r)(h:∀s',Inv X ai σ B s'->Q () s') :
  aw #[G] A (setItem #[61] u r) Q E s:=by
 rcases g with⟨d,k,e,m,l,n⟩|⟨d,k,b,e,m,F,l,n⟩
 ·subst m n;show#[os,o,K,f,p,Ztf];have t:K.length<=aq:=by rw[<- f.length];exact z
  have w:(XJ d k v).length<=aq:=by have:=Mb d k v;lia
  refine wpAny_setItem_pairs (hsz:=t) (Te C) p λG i x=>h _ ?_;have L:∃q,G.get? a=U q:=let ⟨q,_,_,j,_⟩:=i;⟨q,j⟩;exact L8 I #[ni] x L (Zsd w o (f.put k D) i)
 ·subst m n;show#[tR,C];show#[os,o,M,f,p,Zs0];have t:M.length<=aq:=by rw[<- Paired.length f];exact z
  have w:(XJ d k v).length<=aq:=by have:=Mb d k v;lia
  refine wpAny_setItem_heap (hsz:=t) #[s7] (Td I.hok F) p λG i x=>h _ ?_;obtain⟨q,N,O,j,P,R,S,_,T⟩:=i;refine L8 I #[ni] x ⟨q,j⟩ ⟨w,o,_,(f.put k F D).keeps λc ys J=>?_,q,N,O,j,P,R,S,T⟩;rw[Ze (RY J e #[O])];exact J
universe E
section
variable {X:Cx} {ai:List (ae×aI)} {σ:St} {H:Hp} {s:ah} {a:ae} {kvs:List (Key×V)} {k:Key} {u:aa} {A:az} {E:aa->ah->Prop}
theorem Zts{Q:#[D]}(I:#[l])(e:Rd H a #[iI])(h:∀t s',Inv X ai σ H s'->Q (.int kvs.length t) s'):aw #[G] A (call #[lQ] #[iF]) Q E s:=by obtain⟨z,c,vs,b,d⟩:=Vg I.hok e;refine call_len_dict c d (by rw[<- b.length];rw[aG]at z;lia) ?_;rw[<- b.length];exact h _ _ #[sd]
universe E
theorem Zjg{X:Cx}{f:#[Q]}{h:St}{H:Hp}{s:ah}{a:ae}{y:V}{o:Option V}(I:#[eV,f,h])(g:XY H a y o):s.TypeIs #[61] "dict":=by
 rcases g with⟨c,k,e,_,_⟩|⟨c,k,b,e,_,_,_⟩
 ·obtain⟨_,_,vs,_,d⟩:=Vg I.hok e;exact d.typeIs
 ·obtain⟨_,_,xs,_,d⟩:=Uv I.hok e;exact d.typeIs
theorem ZnB{P:ar}{w:aA}{H:Hp}(h:aE)(hb:bC<h.objs.size):YY P w H (h.push { cls:=.type "dict",data:=.dict #[] }) h.objs.size (.dK []) :=
 ⟨Qt _,beq_eq_false_iff_ne.mpr (Ne.symm (QK hb)),[],.nil,aE.DictOf.new h⟩
def Zsh:TE:=λ_ H Q=>∀p,H p=af->Q #[gY] (upd H p (.dK []))
section
variable {X:Cx} {pos:Pos}
theorem Zm5:PE X (.Dict [] [] pos) Zsh:=λai s σ H Q I h =>
 wpAny_Dict_empty ⟨.ref s.heap.objs.size,_,I.laid (a:=#[kj]) (o:=.dK []) (t':=#[tj]) #[pO] #[gp] (ZnB s.heap I.big),rfl,h _ #[ay]⟩
universe E
structure M1 (X:Cx) (o:aD) (m:aj) (bq:Pos) (e:aD) (bv:Pos):Prop where
 base:bB o m X.env #[dI,o]=eval o X.env
 few:((bu bv #[tm]).all (λx=>!x.1)&&#[dS,bv].all #[pM]
  && decide (([e]:List aD).length+#[pW].length+#[b1]<30))=true
 line:#[gX]=true
 trees:bu bv #[tm]=[#[cj]]
structure M2 (X:Cx) (o:aD) (m:aj) (bq:Pos) (e f:aD) (bv:Pos):Prop where
 base:bB o m X.env #[dI,o]=eval o X.env
 few:((bu bv (aF [e,f] X.env)).all (λx=>!x.1)&&#[dS,bv].all #[pM]
  && decide (([e,f]:List aD).length+#[pW].length+#[b1]<30))=true
 line:#[gX]=true
 trees:bu bv (aF [e,f] X.env)=[#[cj],#[eG,f]]
def IsD(H:Hp)(a:ae):Prop:=(∃kvs,Rd H a #[iI])\/∃kvs,Rd H a #[hM]
theorem ZrB{X:Cx}{j:#[Q]}{k:St}{H:Hp}{s:ah}{a:ae}(I:#[eV,j,k])(d:IsD H a) :
  s.TypeIs #[61] "dict"/\(∀b,aa.ref a=.ref b->∃ob,s.heap.get? b=U ob/\ob.dict=af)/\#[kK]=false:=by
 rcases d with⟨f,e⟩|⟨f,e⟩
 ·obtain⟨_,g,vs,_,c⟩:=Vg I.hok e;show#[ck]
 ·obtain⟨_,g,xs,_,c⟩:=Uv I.hok e;show#[ck]
section
variable {X:Cx} {ai:List (ae×aI)} {σ:St} {H:Hp} {s:ah} {a:ae} {y d:V} {u r:aa} {o:Option V} {A:az} {E:aa->ah->Prop}
theorem ZrG{Q:#[D]}(hu:#[nM,1])(I:#[l])(g:XY H a y o)(m:ZH y u)(h:∀n s',Inv X ai σ H s'->ZH (o.getD .non) n->Q n s') :
  aw #[G] A (call #[c3,"dict.get"] [.ref a,u]) Q E s:=by
 rcases g with⟨f,k,e,i,l⟩|⟨f,k,b,e,i,p,l⟩
 ·subst i;show#[os,j,vs,c,d,Vg];refine call_meetsIn PySem.F.slot_dict_get d.typeIs PySem.F.entry_dict_get #[p1] (meets_dict_get #[37] a (Te m) j) ⟨_,d.mapOf,h _ _ #[sd] ?_⟩;rw[l];exact(c.val k).getD rfl
 ·subst i;show#[tR,m];show#[os,j,q,c,d,Uv];refine call_meetsIn PySem.F.slot_dict_get d.typeIs PySem.F.entry_dict_get #[p1] (meetsH_dict_get #[rX] a b j) ⟨tupleKind_room_in1 hu,k,q,Td I.hok p,d,h _ _ #[sd] ?_⟩;rw[l];exact(c.val k).getD rfl
universe E
def L0(e ty:TE):TE:=λb H Q=>e b H λx c=>∃a,x=.ref a/\IsD c a/\ty b c λy d=>∃o,XY d a y o/\Q (o.getD .non) d
section
variable {X:Cx} {o e f:aD} {bq bv:Pos} {td ty tx:TE}
theorem Zpp(hu:#[fB,1])(i:PE X o td)(he:PE X e ty)(m:M1 X o "get" bq e bv):PE X (.Call #[om,"get",bq] [e] [] bv) (L0 td ty):=by intro b s c H Q I h;refine wpAny_Call_method m.base m.few m.line QaR PySem.F.slot_dict_get PySem.F.type_dict_get #[cN,i,b,c];rintro u j ⟨x,k,f,l,a,ex,d,n⟩;subst ex;obtain rfl:u=aa.ref a:=l;obtain⟨p,q,_⟩:=ZrB f d;refine⟨p,q,?_⟩;rw[m.trees];refine Calls.callWith_builtin rfl (Calls.evalArgs_plain (Calls.spliced_cons (thn (he b j c k _ f n) λiv s2 ⟨y,r,t,v,ov,g,w⟩=>Calls.spliced_nil ?_)));exact ZrG hu t g v λw' s3 z A=>⟨_,r,z,A,w⟩
universe E
section
variable {X:Cx}
theorem Zl2:YT X #[lQ] #[fM]:=by intro ai s σ H xs us Q I r h;obtain⟨a,kvs,rfl,b,q⟩:=h;obtain⟨u,rfl,c⟩:=XV r;cases c;exact Zts I (.inl b) λt s' d=>⟨.int kvs.length,H,d,#[sK],q⟩
universe E
structure Mf (P:ar) (w:aA) (K:#[7]) (mg:#[P]) (base:aE) (k:Nat) (C:ae) (m:aj) (ps:#[y]) (sp:Sp):Prop where
 ex:X2 λf fd=>Yu P w K mg base CX0 k f fd ps sp/\Vo K C m f/\Yt K fd ps []
structure Cf (P:ar) (w:aA) (K:#[7]) (mg:#[P]) (base:aE) (k:Nat) (C:ae) (x:aj) (ps:#[y]) (sp:Sp):Prop where
 ex:X2 λf fd=>Yu P w K mg base CX0 k f fd ps sp/\Mk K C f/\Yt K fd ps []/\mg x=U #[aU]
structure XI (K:#[7]) (C:ae) (m be:aj) (st:aJ) (ps:#[y]):Prop where
 ex:X2 λf fd=>Fun K m be st f fd/\Vo K C m f/\Yt K fd ps []
structure Tc (K:#[7]) (mg:#[P]) (C:ae) (x be:aj) (st:aJ) (ps:#[y]):Prop where
 ex:X2 λf fd=>Fun K "__init__" be st f fd/\Mk K C f/\Yt K fd ps []/\mg x=U #[aU]
section
variable {P:ar} {w:aA} {K:#[7]} {mg:aj->Option aa} {base:aE}
theorem XI.mf{C:ae}{m c:aj}{st:aJ}{N ps:#[y]}{k:Nat}{sp:Sp}(T:XI K C m c st ps)(S:#[ln])(len:#[38])
  (d:∀ (a:aa) (f:ae) (A:az) (outer:List Env) (s:ah) (H:Hp) (vs:List V) (Q:VK) (E:XK),Y7 k #[dx,c]->sp vs H Q E ->
   ∃t,PSs #[dw,c].nox (Zl st) t/\t { nx:=λ_ e=>Q .non e,rt:=Q } #[mk] H):Mf P w K mg base (k+1) C m ps sp:=by
 obtain⟨f,g,F,m,b⟩:=T.ex;exact⟨f,g,F.ok S len #[eg,i,d],m,b⟩
theorem Tc.cf{C:ae}{x c:aj}{st:aJ}{N ps:#[y]}{k:Nat}{sp:Sp}(T:Tc K mg C x c st ps)(S:#[ln])(len:#[38])
  (d:∀ (a:aa) (f:ae) (A:az) (outer:List Env) (s:ah) (H:Hp) (vs:List V) (Q:VK) (E:XK),Y7 k #[dx,c]->sp vs H Q E ->
   ∃t,PSs #[dw,c].nox (Zl st) t/\t { nx:=λ_ e=>Q .non e,rt:=Q } #[mk] H):Cf P w K mg base (k+1) C x ps sp:=by
 obtain⟨f,i,F,m,b,g⟩:=T.ex;exact⟨f,i,F.ok S len #[eg,j,d],m,b,g⟩
universe E
section
variable {X:Cx} {k j:Nat} {C:ae} {m x:aj} {ps:List aj} {sp:Sp} {o e:aD} {es:List aD} {ta:TE} {t:TA} {p bq pos:Pos} {pl:Sem Bool}
theorem W6(F:#[jC])(c:#[pL])(d:Y7 j X.A)(he:#[rJ])(ha:#[cq])(h:k<=j:=by decide)
  (i:#[t]:=by rfl) (l:#[U]:=by rfl)
  (n:eval #[aj] X.env=(do
   let a <- eval o X.env
   standAt bq.atName
   let (f,first) <- holding [a] (getMethod a m pl)
   callWith pos f first (bu pos #[m9]) #[dS,pos]):=by rfl) :
  PE X #[aj] (To C m sp [] E0 ta t):=by
 obtain⟨f,fd,F,g,b⟩:=F.ex;exact ZqD he c g F (d.mono h) b .nil Tl ha i l n
theorem Yb(F:#[jC])(c:#[pL])(d:Y7 j X.A)(he:#[rJ])(e:k<=j:=by decide)
  (h:eval #[aV] X.env=(do
   let a <- eval o X.env
   standAt bq.atName
   let (f,first) <- holding [a] (getMethod a m pl)
   callWith pos f first (bu pos (aF [] X.env)) #[dS,pos]):=by rfl) :
  PE X #[aV] (To C m sp [] E0 ta RN):=by
 obtain⟨f,fd,F,g,b⟩:=F.ex;exact Zod he c g F (d.mono e) b .nil Tl h
theorem Vf(F:Cf X.prog X.w X.K X.mg X.base k C x ps sp)(a:Y7 j X.A)(ha:#[cq])(c:k+1<=j:=by decide)(d:Gl X x:=by rfl)(h:#[A]:=by decide)
  (i:#[t]:=by rfl) (l:#[U]:=by rfl) :
  PE X #[50] (Ng C sp [] E0 t):=by
 obtain⟨f,fd,F,g,b,m⟩:=F.ex;exact ZqP g F (a.mono c) d m b .nil Tl ha h i l
universe E
section
variable {X:Cx} {ai:List (ae×aI)} {σ:St} {H:Hp} {s:ah} {d:ae} {o:aI} {u:HO}
theorem Inv.freeze(I:#[l])(e:H d=U u)(a:Mut (U u))(c:s.heap.get? d=U o):Inv X ai σ (upd H d #[i1]) s:=by
 have h:=I.write (x:=d) (e:=d) (o:=.frz o u) (t':=#[tj]) (h':=s.heap) #[cL,e,a] #[8] (λb v _ q=>q) ⟨o,c⟩ ?_
 ·exact h
 ·refine⟨c,(I.hok d u e).stay (λb v _ q=>q) (λb q=>?_) #[oW,b,xs,q]⟩
  ·show#[jy]
  ·show#[jy]
theorem Inv.nofrz(I:#[l])(e:H d=U u)(c:Mut (U u)):∀a b,X.H₀ d≠U (.frz a b):=λa b z=>by have:=I.base.frzs d a b z;rw[e]at this;cases this;exact c
theorem Inv.thaw(I:#[l])(e:H d=U #[i1])(mu:Mut (U u))(n:∀h i,X.H₀ d≠U (.frz h i)):Inv X ai σ (upd H d u) s:=by
 have j:∀b,H b=af->b≠d:=λb z=>Zd (H:=H) e z |>.symm;refine⟨I.ok,I.os,I.bare,⟨I.base.keep,I.base.slot,λb v a1 a2 a3=>?_,I.base.there,λb f q=>?_,λb h i q=>?_,λb l q=>?_⟩,I.loc,I.cell,?_,λx c q=>?_,λp m=>?_,?_,I.len⟩
 ·have:=I.base.free b v a1 a2 a3;rw[Ze (j b this)];exact this
 ·have:=I.base.tups b f q;show#[dJ,e]
 ·have:=I.base.frzs b h i q;rw[Ze (λz=>by rw[z]at q;exact n h i q)];exact this
 ·obtain⟨g,this⟩:=I.base.tbls b l q;refine⟨g,?_⟩;show#[dJ,e]
 ·rw[Ze (j _ I.free)];exact I.free
 ·rw[Ze (j _ (I.freeC x c q))];exact I.freeC x c q
 ·obtain⟨a1,a2,a3⟩:=I.pin p m;exact⟨a1,by rw[Ze (j _ a2)];exact a2,a3⟩
 ·intro b v q;have own:∀c a,H c=U #[tx]->(upd H d u) c=U #[tx]:=λc a q=>by rw[Ze (λz=>by rw[z,e]at q;cases q)];exact q
  have tup:∀c f,H c=U (.tup f)->(upd H d u) c=U (.tup f):=λc f q=>by rw[Ze (λz=>by rw[z,e]at q;cases q)];exact q
  by_cases k:b=d
  ·subst k;show#[oz,Zb,q];obtain⟨_,r⟩:=(show YY X.prog X.w H s.heap b #[i1] from I.hok b _ e);exact r.stay (λc v _ q=>q) (λc q=>own c b q) tup
  ·rw[Ze k]at q;exact(I.hok b v q).stay (λc v _ q=>q) (λc q=>own c b q) tup
universe E
def Zs5(t:TE):TE:=λb H Q=>X2 λd u=>H d=U u/\Mut (U u)/\t b H λv a=>∃o,a d=U #[i1]/\Q v (upd a d u)
theorem LZ{X:Cx}{e:aD}{t:TE}(h:PE X e t):PE X e (Zs5 t):=by intro b s c H Q I q;obtain⟨d,u,f,a,q⟩:=q;have n:=I.nofrz f a;refine thn (h b s c H _ I q) ?_;rintro v s1 ⟨x,H1,g,i,o,j,k⟩;exact⟨x,_,g.thaw j a n,i,k⟩
theorem LY{P:ar}{w:aA}{k:Key}{v:aa}(h:#[iw].is k v=true):ZH (kV k) v:=by
 rw[ZkK]at h;rcases WL h with⟨i,t,rfl,rfl⟩|⟨x,t,rfl,rfl⟩
 ·exact#[sK]
 ·exact#[sK]
def LX:List V->Hp->VK->Prop:=λxs H Q=>X2 λd kvs=>xs=[.ref d]/\H d=U #[iI]/\∀l,H l=af->Q #[h6] (upd H l (.lst (kvs.map λa=>kV a.1)))
theorem ZmO{P:ar}{w:aA}:∀ (kvs:List (Key×V)) (vs:List (Key×aa)) (us:List aa),KV kvs vs->us.length=vs.length->(∀ (j:Nat) (v:aa),us[j]? = U v->∃k x,vs[j]? = U (k,x)/\#[iw].is k v=true)->ZA (kvs.map λf=>kV f.1) us:=by
 intro kvs vs us r;unfold KV at r;induction r generalizing us with
 | nil =>
  intro c _;cases us with
  | nil=>exact .nil
  | cons a b=>simp at c
 | @cons p q ps qs h t g =>
  intro c d;cases us with
  | nil=>simp at c
  | cons a b =>
   obtain⟨k,x,e,i⟩:=d 0 a rfl;have l:q=(k,x):=by simpa using e
   rw[Qj];refine .cons ?_ (g b #[cG,c] λj v m=>?_)
   ·rw[h.1,l];exact LY i
   ·simpa using d (j+1) v #[cG,m]
theorem Zko{X:Cx}(hc:#[81]):YT X #[ka] LX:=by intro ai s σ H xs us Q I r h;obtain⟨d,b,rfl,m,q⟩:=h;obtain⟨u,rfl,n⟩:=XV r;cases n;obtain⟨z,lo,k,f,p⟩:=(show YY X.prog X.w H s.heap d (.dK b) from I.hok d _ m);obtain⟨ep,t⟩:=p.dictAt;have hl:b.length=k.length:=f.length;refine PySem.W.kdl_call (PySem.W.kdl_dict lo) #[gj] t #[2] λh' tk g c x y l=>?_;have A:ZA (b.map λi=>kV i.1) g.toList:=ZmO (P:=X.prog) (w:=X.w) b k g.toList f #[cL,Array.length_toList,l.1] λj v e=>l.2 j v #[c9,Array.getElem?_toList,e];refine⟨.ref s.heap.objs.size,_,I.laid (a:=#[kj]) (o:=.lst (b.map λi=>kV i.1)) (t':=tk) x #[gp] ?_,rfl,q _ #[ay]⟩;exact⟨by rw[Qa];exact z,g.toList,c,A,by simpa using y⟩
theorem Inv.dictF{X:Cx}{i:#[Q]}{j:St}{H:Hp}{s:ah}{d:ae}{o:aI}{kvs:#[87]}{b:#[rP]}{c:Nat}(I:#[eV,i,j])(e:H d=U #[91])(hd:o.data=.dict b c) :
  ∃vs,KV kvs vs/\s.heap.DictAt #[37] d vs c:=by
 obtain⟨f,_,_,vs,a,o',ko,lX,g,k,h,l⟩:=(show YY X.prog X.w H s.heap d #[91] from I.hok d _ e);show#[eX,f,g,g];show#[oz,hd,h];exact⟨vs,a,o,b,f,k,hd,l⟩
theorem LW{kvs:#[87]}{vs:List (Key×aa)}(r:#[pJ]):∀ (i:Nat) (k:Key) (x:V),kvs[i]? = U (k,x)->∃u,vs[i]? = U (k,u)/\ZH x u:=by
 unfold KV at r;induction r with
 | nil=>intro i k x h;simp at h
 | @cons p q ps qs h t b =>
  intro i k x a;cases i with
  | zero =>
   have e:p=(k,x):=by simpa using a
   refine⟨q.2,?_,?_⟩
   ·have:q=(k,q.2):=by rw[show k=q.1 by rw[<- h.1,e]]
    simpa using this
   ·have:=h.2;rw[e]at this;exact this
  | succ i=>simpa using b i k x #[cG,a]
noncomputable def Itv(d:ae)(o:aI)(kvs:#[87]):It :=
 ⟨λi H=>H d=U #[91]/\i<kvs.length,λi H v a=>a=H/\∃k,kvs[i]? = U (k,v),λi H=>H d=U #[91]/\kvs.length<=i⟩
theorem Zmx{P:ar}{w:aA}{K:#[7]}{O:aD}{d it:ae}{o:aI}{kvs:#[87]}{Q:#[rP]}{J:Nat}(hd:o.data=.dict Q J):Wp P w K O (Itv d o kvs) [it] it (λi h=>h.IsValIter it d i kvs.length J) where
 mem:=by simp
 obj:=λi h st b f=>by
  have e:b=it:=by simpa using f
  show#[S]
 keep:=λi h g st k=>by obtain⟨o,e,r⟩:=st;exact#[jv]
 item:=by intro X m hw n L i M s N H E I j st p;show#[89];obtain⟨u,S,T⟩:=LW a i kvs[i].1 kvs[i].2 (Qb C);refine wpAny_pyNext_values_item #[c9,l,st] F S λg G U=>?_;rw[<- l]at G;have W:Inv X M N H { s with heap:=g }:=I.turned (t':=#[tj]) (λb o f e=>(U.2 b f).trans e) q t x y A;obtain⟨o1,Y,c1,Z⟩:=id G;exact⟨_,rfl,Vr (s:=#[mU]) Y c1 Z #[6] ⟨kvs[i].2,H,W,T,⟨rfl,kvs[i].1,Qb C⟩,G,λb f=>(j b f).1⟩⟩
 done:=by intro X m hw n L i M s N H E I j st p;show#[89];exact wpAny_pyNext_values_end (I.ok.hd L) #[c9,l,st] F (QM #[2]) λg eb=>⟨rfl,I.turned (t':=#[tj]) #[eP,f,eb] q t x y A⟩
 self:=#[fj,wpAny_pyIter_valiter]
def ZsN(b:TE):TI:=λc H R=>b c H λx a=>X2 λd kvs=>x=.ref d/\a d=U #[iI]/\∀o,R (Itv d o kvs) (upd a d #[91])
theorem Zpy{X:Cx}{F o:aD}{to:TE}{t u:Pos}(G:PE X o to)(J:#[fa,o,"values"]:=by rfl)(K:#[re]:=by rfl) :
  PI X F (.Call #[om,"values",t] [] [] u) (ZsN to):=by
 show#[dP,w,y,R];refine cA J K #[cN,G,w,y];rintro v c ⟨x,k,A,L,M⟩;obtain⟨d,f,e,B,q⟩:=M;subst e;cases L;show#[b9];have N:f.length=i.length:=l.length;have O:=#[sY];show#[j3];refine⟨"dict", "dict.values",QaR,PySem.F.slot_dict_values,PySem.F.type_dict_values,p.typeIs,λa e=>?_,?_⟩
 ·cases e;exact⟨g,j,m.2.1⟩
 show#[io];refine call_meetsIn PySem.F.slot_dict_values p.typeIs PySem.F.entry_dict_values (PySem.F.args_dict_values_1 _) (meets_dict_values #[37] d lo) ⟨⟨i,p⟩,?_⟩;have P:#[dy,"dict_values"].IsValuesView c.heap.objs.size d:=#[96];have Q:#[dy,"dict_values"].DictAt #[37] d i D:=⟨g,C,Qi _ j,m,n,E⟩;refine wpAny_pyIter_values (s:={ c with heap:=c.heap.push { cls:=.type "dict_values",data:=.fields #[.ref d] } }) P Q ?_;rw[<- N];have r:Inv X w y (upd k d #[kp]) { c with heap:=c.heap.push { cls:=.type "dict_values",data:=.fields #[.ref d] } }:=#[n9,O.kept];refine⟨_,[_],_,Itv d g f,upd k d #[kp],rfl,r.kept (t':=c.toks) λb o e=>Qi _ e,Zmx n,#[96],λb S=>?_,q g⟩;have e:=Qe.mp S;show#[l5]
noncomputable def Iti(d:ae)(o:aI)(kvs:#[87]):It :=
 ⟨λi H=>H d=U #[91]/\i<kvs.length,
  λi H v a=>X3 λp k x=>H p=af/\v=.ref p/\kvs[i]? = U (k,x)/\a=upd H p (.tup [kV k,x]),
  λi H=>H d=U #[91]/\kvs.length<=i⟩
theorem Zkc{P:ar}{w:aA}{K:#[7]}{R:#[lp]}{S:Nat}{T:Pos}{d it:ae}{o:aI}{kvs:#[87]}{W:#[rP]}{F:Nat}(hd:o.data=.dict W F) :
  Wp P w K (.Tuple R S T) (Iti d o kvs) [it] it (λi h=>X2 λok j=>IsItemIter h it d i kvs.length F ok j) where
 mem:=by simp
 obj:=λi h st b g=>by
  have e:b=it:=by simpa using g
  subst e;show#[sm];show#[dF,a,v]
 keep:=λi h p st k=>by obtain⟨ok,j,a⟩:=st;exact⟨ok,j,k it #[4] _ a⟩
 item:=by
  intro X r hw t l i G s J H E I m st x;subst r hw t;show#[sm];show#[fW];obtain⟨u,Y,Z⟩:=LW f i kvs[i].1 kvs[i].2 (Qb A);refine wpAny_pyNext_items_item #[c9,n,a] C Y λD p fN a1 a2 a3 a4=>?_;rw[<- n]at a1;have lt:#[g4]:=λq=>QaH (Qx q);have L:s.heap.objs.size≠it:=lt a;refine⟨_,rfl,wpAny_letOwnedTupleGo_items a1 λM N nc=>?_⟩;have O:aE.SameBut it p M:=nc;have I2:Inv X G J (upd H s.heap.objs.size (.tup [kV kvs[i].1,kvs[i].2])) { s with heap:=M,toks:=s.toks }:=by
   refine I.zipped (fp:=[it]) (u:=D) (v:=u) m (LY fN) Z (O.extBut _ _ L a2) (λb g=>?_) λc o l q=>?_
   ·have e:=Qe.mp g;subst e;exact⟨_,N⟩
   ·have Q:c≠it:=λz=>l #[nL,z];exact O.extBut _ _ Q (a4 c o Q q)
  refine⟨.ref s.heap.objs.size,_,I2,rfl,⟨s.heap.objs.size,kvs[i].1,kvs[i].2,I.fresh,rfl,Qb A,rfl⟩,⟨_,_,N⟩,λb g=>?_⟩;have e:=Qe.mp g;subst e;rw[Ze L.symm];exact(m _ g).1
 done:=by intro X r hw t l i G s J H E I m st x;subst r hw t;show#[sm];show#[py];show#[fW];exact wpAny_pyNext_items_end (I.ok.hd l) #[c9,n,a] C (QM #[2]) λp eb=>⟨rfl,I.turned (t':=#[tj]) #[eP,g,eb] f0 f1 f3 f4 f5⟩
 self:=λ_ _ _ _ _ st h=>by obtain⟨ok,j,a⟩:=st;exact PySem.W.kcp_self a h
def Zrz(b:TE):TI:=λc H R=>b c H λx a=>X2 λd kvs=>x=.ref d/\a d=U #[iI]/\∀o,R (Iti d o kvs) (upd a d #[91])
theorem Zm9{X:Cx}{F:#[lp]}{G:Nat}{J:Pos}{o:aD}{to:TE}{t u:Pos}(K:PE X o to)(L:#[fa,o,"items"]:=by rfl)(M:#[re]:=by rfl) :
  PI X (.Tuple F G J) (.Call #[om,"items",t] [] [] u) (Zrz to):=by
 show#[dP,w,y,R];refine cA L M #[cN,K,w,y];rintro v c ⟨x,k,A,N,O⟩;obtain⟨d,f,e,B,q⟩:=O;subst e;cases N;show#[b9];have P:f.length=i.length:=l.length;have Q:=#[sY];show#[j3];refine⟨"dict", "dict.items",QaR,PySem.F.slot_dict_items,PySem.F.type_dict_items,p.typeIs,λa e=>?_,?_⟩
 ·cases e;exact⟨g,j,m.2.1⟩
 show#[io];refine call_meetsIn PySem.F.slot_dict_items p.typeIs PySem.F.entry_dict_items (PySem.F.args_dict_items_1 _) (meets_dict_items #[37] d lo) ⟨⟨i,p⟩,?_⟩;have S:#[dy,"dict_items"].IsItemsView c.heap.objs.size d:=#[96];have T:#[dy,"dict_items"].DictAt #[37] d i D:=⟨g,C,Qi _ j,m,n,E⟩;refine wpAny_pyIter_items (s:={ c with heap:=c.heap.push { cls:=.type "dict_items",data:=.fields #[.ref d] } }) S T ?_;rw[<- P];have r:Inv X w y (upd k d #[kp]) { c with heap:=c.heap.push { cls:=.type "dict_items",data:=.fields #[.ref d] } }:=#[n9,Q.kept];refine⟨_,[_],_,Iti d g f,upd k d #[kp],rfl,r.kept (t':=c.toks) λb o e=>Qi _ e,Zkc n,⟨_,_,QB _ rfl⟩,λb U=>?_,q g⟩;have e:=Qe.mp U;show#[l5]
def Zuf:R2:=λx y H Q=>X2 λa v=>x=.ref a/\XY H a y (U v)/\Q v H
section
variable {X:Cx} {k:Nat}
noncomputable def ZsY:UJ:=λo i v H Q=>X2 λa b=>o=.ref a/\WV H a i v b/\Q b
theorem Uu(b:#[hZ]):UI X ZsY:=by intro ai s σ H o i v ov iv u Q I c d e h;obtain⟨a,f,rfl,g,q⟩:=h;cases c;exact Zl6 (RG b) I g d e λs4 j=>⟨f,j,q⟩
theorem ZkJ{prog:ar}{w:aA}{A:az}{E:#[D]}{s:ah}{value b:aD}{o i:aa}{T id:String}{Q:#[D]}(c:s.TypeIs o T)
  (hl:typeLookup (.type T) "__getitem__" = pure (U #[c3,id])) (e:subscripted b false o i=operate [o,i] (getItem o i)) (h:aw #[j] A (getItem o i) Q E s) :
  aw #[j] A (subscriptTail value b o i) Q E s:=by
 unfold subscriptTail;refine ak ?_;rw[getitemInPython_of_ne c.not_modules];refine ak (wpAny_specialOf c hl ?_);have a:aw #[j] A (subscripted b false o i) (λr d=>aw #[j] A (letTemporaryGo value o r >>= λ_=>pure r) Q E d) E s:=by rw[e];exact wpAny_operating (bD h (λr d f=>ak (wpAny_letTemporaryGo (au f))) λ_ _ x=>x)
 first
  | exact au (ak a)
  | exact ak (au (ak a))
  | exact ak a
theorem ixG(b:#[hZ]):IxR X Zuf:=by intro value dA ai s σ H x y v u Q I c d h e;obtain⟨a,z,rfl,g,q⟩:=h;cases c;exact ZkJ (Zjg I g) PySem.F.slot_dict_getitem.lookup e (ZmY (RG b) I g d λw' s' f i=>⟨z,H,f,i,q⟩)
theorem Zuz:YT X #[lQ] #[fM]:=Zl2
theorem LV(hc:#[81]:=by rfl):YT X #[ka] LX:=Zko hc
universe E
mutual
inductive DH (H:Hp):V->ax->Prop where
 | non:DH H .non .none
 | bl (b:Bool):DH H (.bl b) (.bool b)
 | int (i:Int):DH H (.int i) (.int i)
 | str (s:aj):DH H (.str s) (.str s)
 | lst {a:ae} {xs:List V} {ds:List ax}:H a=U (.lst xs)->DHs H xs ds->DH H (.ref a) (.list ds)
 | tup {a:ae} {xs:List V} {ds:List ax}:H a=U (.tup xs)->DHs H xs ds->DH H (.ref a) (.tuple ds)
inductive DHs (H:Hp):List V->List ax->Prop where
 | nil:DHs H [] []
 | cons {x:V} {d:ax} {xs:List V} {ds:List ax}:DH H x d->DHs H xs ds->DHs H (x::xs) (d::ds)
end
mutual
theorem DH.mono{H c:Hp}(s:Zw H c):∀ {x:V} {d:ax},DH H x d->DH c x d
 | _,_,.non=>.non
 | _,_,.bl b=>.bl b
 | _,_,.int i=>.int i
 | _,_,.str z=>.str z
 | _,_,.lst h a=>.lst (s _ _ h) (DHs.mono s a)
 | _,_,.tup h a=>.tup (s _ _ h) (DHs.mono s a)
theorem DHs.mono{H a:Hp}(s:Zw H a):∀ {xs:List V} {ds:List ax},DHs H xs ds->DHs a xs ds
 | _,_,.nil=>.nil
 | _,_,.cons h b=>.cons (DH.mono s h) (DHs.mono s b)
end
mutual
theorem DH.dv{K:#[7]}{H:Hp}:∀ {x:V} {d:ax},DH H x d->DV K H x d
 | _,_,.non=>.non
 | _,_,.bl b=>.bl b
 | _,_,.int i=>.int i
 | _,_,.str z=>.str z
 | _,_,.lst h a=>.lst (SqL.of h) (DHs.dv a)
 | _,_,.tup h a=>.tup (SqT.of h) (DHs.dv a)
theorem DHs.dv{K:#[7]}{H:Hp}:∀ {xs:List V} {ds:List ax},DHs H xs ds->DVs K H xs ds
 | _,_,.nil=>.nil
 | _,_,.cons h a=>.cons (DH.dv h) (DHs.dv a)
end
theorem Rp:∀ {a b:List Int},a.Nodup->(∀x∈a,x∈b)->b.length<=a.length->a.Perm b
 | [],b,_,_,l=>by have:b=[]:=List.length_eq_zero_iff.mp #[cG,l];rw[this]
 | x::r,b,f,h,l=>by
  obtain⟨g,i⟩:=Q0.mp f;have c:=h x #[4];have j:=List.perm_cons_erase c;refine(List.Perm.cons x (Rp i (λy d=>?_) ?_)).trans j.symm
  ·have k:y≠x:=λe=>g #[c9,e,d];exact(QaF k).mpr (h y (Qu _ d))
  ·rw[Qac c];simp only[List.length_cons]at l;lia
theorem Zn3{kvs:#[87]}{k:Key}{v:V}(h:Ys kvs k=U v):(k,v)∈kvs:=by
 unfold Ys at h;obtain⟨p,a,rfl⟩:=QaS.mp h;have b:=List.find?_some a;have c:=#[qE];have:p.1=k:=by simpa using b
 rw[<- this];exact c
theorem ZjL{kvs:#[87]}(a:(kvs.map #[lW]).Nodup){k:Key}{v:V}(h:(k,v)∈kvs):Ys kvs k=U v:=by
 induction kvs with
 | nil=>cases h
 | cons p r b =>
  obtain⟨c,d⟩:=Q0.mp (by simpa using a:(p.1::r.map #[lW]).Nodup);rcases QG.mp h with rfl|h
  ·exact Ux rfl
  ·rw[Uw λe=>c (e ▸ Qm (f:=#[lW]) h)];exact b d h
universe E.L2
namespace L2
open PySem PySem.Spec PyProof.Rows
theorem Zqj{d:ae}{o:aI}{kvs:#[87]}{k:Nat}{D:ae}{a:L2.St}{f:Hp}{g:TG}{h:TT}{j:TE}{Q:VK}(Pv:#[23])(h0:#[cS,a,f])
  (hl:#[kW])
  (s:∀i k x ys a H,kvs[i]? = U (k,x)->Pv i ys a H->g x a H λc t=>h c t λb l=>if b=true then j c l λy n=>n D=U #[gd]/\ys.length<aq/\Pv (i+1) #[pP] c #[tV,n] else Pv (i+1) ys c l)
  (hd:#[dB,ys,a,kvs.length]):WG (Itv d o kvs) D k a f g h j Q:=by
 show#[54];by_cases r:i<kvs.length
 ·refine .inr ⟨⟨q,r⟩,Pv (i+1),λcJ aP u v=>⟨kvs.length-(i+1),by lia,rfl,r,v⟩,λx u y=>?_⟩;obtain⟨rfl,k',e⟩:=y;exact s i k' x ys a _ e p
 ·have e:i=kvs.length:=by lia
  exact .inl #[jV]
theorem ZpI{d:ae}{o:aI}{kvs:#[87]}{k:Nat}{D:ae}{a:L2.St}{f:Hp}{g:TG}{h:TT}{j:TE}{Q:VK}(Pv:#[23])(h0:#[cS,a,f])
  (hl:#[kW])
  (t:∀i k x ys a H p,kvs[i]? = U (k,x)->Pv i ys a H->H p=af->g #[gY] a (upd H p (.tup [kV k,x])) λc u=>h c u λb l=>if b=true then j c l λy n=>n D=U #[gd]/\ys.length<aq/\Pv (i+1) #[pP] c #[tV,n] else Pv (i+1) ys c l)
  (hd:#[dB,ys,a,kvs.length]):WG (Iti d o kvs) D k a f g h j Q:=by
 show#[54];by_cases s:i<kvs.length
 ·refine .inr ⟨⟨q,s⟩,Pv (i+1),λcJ aP v w=>⟨kvs.length-(i+1),by lia,rfl,s,w⟩,λx v y=>?_⟩;obtain⟨r,k',z,A,rfl,e,rfl⟩:=y;exact t i k' z ys a H r e p A
 ·have e:i=kvs.length:=by lia
  exact .inl #[jV]
noncomputable def off(p:ae)(H:Hp):Hp:=λb=>if b=p then af else H b
theorem ZqL{X:Cx}{s:aJ}:PS X s #[qI]:=λai s' σ H D I h=>h.elim
theorem ZsH{X:Cx}{k:Nat}{o e:aD}{b ty:TE}{c a:Pos}(f:#[hZ])(g:PE X o b)(he:PE X e ty)(hb:#[fa,o,"get"]:=by rfl)
  (h:(c.endLine == a.line)=true:=by rfl) (d:bu a #[tm]=[#[cj]]:=by rfl):PE X (.Call #[om,"get",c] [e] [] a) (L0 b ty):=by
 refine Zpp (RG f) g he ⟨hb,?_,h,d⟩;rw[d];rfl
def Zuj(t u:TS):TS:=λD c H=>∃M:St->Hp->Prop,t { D with nx:=M } c H/\∀a b,M a b->u D a b
theorem LU{X:Cx}{st:aJ}{rest:#[qG]}{t u:TS}(h1:PS X st t)(h2:PSs X rest u):PSs X (st::rest) (Zuj t u):=by
 show#[dP,a,d,D];show#[e9,M,h,e,h];refine wpAny_execs_cons (thn (h1 a s d H { D with nx:=M } I h) λf g q=>?_);cases f with
 | next=>obtain⟨b,c,i,q⟩:=q;exact h2 a g b c D i (e b c q)
 | ret v=>exact q
 | brk=>exact q
 | cont=>exact q
noncomputable def apart:List Int->Bool
 | []=>true
 | x::r=>r.all (λy=>x != y)&&apart r
structure CompScC (N N':#[y]) (o c:aS):Prop where
 kind:c.kind=.function
 okind:o.kind=.function
 cel:∀y∈c.names,y.2=.cell->c.names.lookup y.1=U .cell
 loc:∀y∈c.names,y.2=.local->c.names.lookup y.1=U .local
 free:∀y∈c.names,y.2=.free->c.names.lookup y.1=U .free/\#[sJ]
 len:N.length<=N'.length
 same:∀i∈List.range N.length,∀x∈N'[i]?,c.names.lookup x=U .local\/c.names.lookup x=U .free\/c.names.lookup x=U .cell->c.names.lookup x=U .free/\N[i]? = U x
 nd:N'.Nodup
section
variable {prog:ar} {w:aA} {A:az} {E:aa->ah->Prop} {s:ah}
theorem ZiJ{R:#[kb]}{r:ae}{a b c:Int}{t u v:Tok}{n:Nat}(g:#[ir])(h:#[hS])(j:#[gs])
  (k:#[gf]) (m:n<=2 ^ 24)
  (p:∀h' tk d f,#[26]->h'.get? s.heap.objs.size=U { cls:=.type "list",dict:=af,data:=.seq d f,slots:=#[] } ->
   ItemsOf #[ch] d n->R (.ok (.ret #[bf])) { s with heap:=h',toks:=tk }) :
  aY #[j] A (.builtin "proto.collect" ⟨[.ref r],[]⟩) R s:=by
 refine codeAny_builtin F.entry_proto_collect ?_;rw[az.under_plainId F.plain_proto_collect _];show aw _ A.in1 (newList [] >>= λl=>again (.builtin "list.__iadd__" ⟨[l,.ref r],[]⟩)) _ _ s;refine ak (bM ?_);refine au ⟨plainId_quiet F.plain_list_iadd _,codeAny_builtin F.entry_list_iadd ?_⟩;rw[az.under_plainId F.plain_list_iadd _];show aw _ A.in1 (aT.List.listExtendWith #[bf] #[83] #[bf]) _ _ _;have q:(s.heap.push { cls:=.type "list",data:=.seq ([]:List aa).toArray }).get? s.heap.objs.size=U { cls:=.type "list",data:=.seq #[] }:=QB _ rfl;exact wpAny_extend_range (R:=R) (s:={ s with heap:=s.heap.push { cls:=.type "list",data:=.seq ([]:List aa).toArray } }) (A:=A) g (Qi _ h) j k m _ _ _ q λh' tk d f x y z =>
  p h' tk d f (λb o e=>x b o #[lH] (Qi _ e)) y z
theorem ZgW{Q:List aa->ah->Prop}{r:ae}{a b c:Int}{t u v:Tok}{n:Nat}(e:#[ir])(f:#[hS])(g:#[gs])
  (h:#[gf]) (j:n<=2 ^ 24)
  (k:∀h' tk d,#[26]->ItemsOf #[ch] d n->Q d.toList { s with heap:=h',toks:=tk }) :
  aw #[j] A (collect #[83]) Q E s:=by
 unfold collect;refine ak (wpAny_runValue (ZiJ e f g h j λh' tk l c' m p q=>?_));show aw _ A (load s.heap.objs.size >>= _) _ _ _;refine ak (wpAny_load p ?_);exact au (k h' tk l m q)
theorem ZdC(r:ae)(a b c:Int)(t u v:Tok)(n:Nat)(j:#[gs])(k:#[gf])(l:n<=2 ^ 24)(hsz:n<=aq) :
  Meets (aT.«tuple.__new__» ⟨[.type "tuple",.ref r],[]⟩)
   (λA R s=>A.handled=af/\IsRange s.heap r a b c t u v/\∀ (h':aE) (tk:Nat) (d:Array aa),#[26]->ItemsOf #[ch] d n ->
    R (.ok (.ret (.ref h'.objs.size))) { s with heap:=h'.push { cls:=.type "tuple",data:=.seq d },toks:=tk }) :=
 .of_wp λprog w A R s h=>by
  show#[e9,m,f,h,h];have nA:=sub_tuple_self;have zZ:=init_tuple_lookup;have hmh:=madeHere_tuple;have p:s.TypeIs #[83] "range":=⟨_,f,rfl⟩;have q:A.in1.handled=af:=m
  wp_walk using wpAny_typeOf p,ZgW q f j k l
  intro h' tk d x g;show aw _ _ (aT.Tuple.tupleExact d.toList.toArray >>= λv=>ret v) _ _ _;unfold aT.Tuple.tupleExact;refine ak (bM ?_ (show d.toList.toArray.size<=aq by simp only[Array.toArray_toList];rw[g.1];exact hsz));refine au #[ge];have e:d.toList.toArray=d:=by simp
  rw[e];exact h h' tk d x g
theorem Zfz{Q:#[D]}{r:ae}{a b c:Int}{t u v:Tok}{n:Nat}(e:#[ir])(f:#[hS])(g:#[gs])(j:#[gf])(k:n<=2 ^ 24)(hsz:n<=aq)
  (h:∀ (h':aE) (tk:Nat) (d:Array aa),#[26]->ItemsOf #[ch] d n->Q (.ref h'.objs.size) { s with heap:=h'.push { cls:=.type "tuple",data:=.seq d },toks:=tk }) :
  aw #[j] A (call #[fE,"tuple"] [.ref r]) Q E s :=
 callType_new F.called_tuple #[6] (F.typeCall_tuple_1 _) (F.newCall_tuple_1 _) #[lt] F.entry_tuple_new
  (ZdC r a b c t u v n g j k hsz) ⟨e,f,λh' tk d l m=>⟨⟨_,QB _ rfl,rfl⟩,h h' tk d l m⟩⟩
universe E
def ZsZ:List V->Hp->VK->Prop:=λxs H Q=>X3 λ(p:ae) (lo a:Int)=>xs=#[hd]/\H p=U (.rng lo a) /\ -#[rn]<=lo/\lo<2 ^ 62 /\ -#[rn]<=a/\a<2 ^ 62/\(a-lo).toNat<=1000 /\
 ∀l,H l=af->Q #[h6] (upd H l (.tup ((ZX lo (a-lo).toNat).map V.int)))
theorem Zue{X:Cx}(hc:#[81]:=by rfl):YT X #[fE,"tuple"] ZsZ:=by
 show#[nK,k,l,xs];obtain⟨p,lo,c,rfl,m,n,w,x,y,d,q⟩:=h;show#[ds,z,r];obtain⟨t,u,v,e⟩:=I.hok _ _ m;have sz:aT.Range.rangeSize lo c 1=#[oO,c]:=by rw[rangeSize_one];split<;>lia
 refine Zfz #[gj] e (small_one n w x y) sz #[2] (QaG (ZK d)) λh' tk f A g=>?_;have i:Inv X k l H { s with heap:=h',toks:=tk }:=I.kept A;have B:=i.laid (t':=tk) (a:=h'.objs.size) (h':=h'.push { cls:=.type "tuple",data:=.seq f }) #[nC,o,e] #[gp] (show YY X.prog X.w _ _ _ (.tup ((ZX lo (c-lo).toNat).map V.int)) from⟨?_,f.toList,Zkp _ _ #[cG,g.1] (λj v C=>g.2 j v #[cG,C]),by simpa using IsTup.new _ _⟩)
 ·exact⟨.ref h'.objs.size,_,B,rfl,q _ (i.hok.fresh #[gp])⟩
 ·rw[Qa,XN];exact QaG (ZK d)
universe E.L2
namespace L2
open PySem PySem.Spec PyProof.Rows
def Has(κ:#[63])(p:Keyed):Prop:=∃a,κ.keyOf p.1=U a
noncomputable def kyd(κ:#[63])(p:Keyed):κ.α:=(κ.keyOf p.1).getD κ.dflt
section
variable {κ:PyProof.Rows.KeyKind}
def kS(κ:#[63])(l:#[rN]):Prop:=l.Pairwise λp q=>κ.kle (kyd κ p) (kyd κ q)
def kLe(κ:#[63])(l m:#[rN]):Prop:=∀x∈l,∀y∈m,κ.kle (kyd κ x) (kyd κ y)
structure Mg (κ:#[63]) (all out l m:#[rN]):Prop where
 perm:(out++(l++m)).Perm all
 so:kS κ out
 sl:kS κ l
 sm:kS κ m
 ol:kLe κ out l
 om:kLe κ out m
structure Mh (κ:#[63]) (all l m out:#[rN]):Prop where
 perm:((l++m)++out).Perm all
 so:kS κ out
 sl:kS κ l
 sm:kS κ m
 lo:kLe κ l out
 mo:kLe κ m out
structure LoPre (κ:#[63]) (a b:#[hC]):Prop where
 ha:∀p∈a.toList,Has κ p
 hb:∀p∈b.toList,Has κ p
 sa:kS κ a.toList
 sb:kS κ b.toList
 a0:0<a.size
 b0:0<b.size
 fst:∀i,i<a.size->κ.kle (KK κ b 0) (KK κ a i)
 lst:∀i,i<b.size->κ.kle (KK κ b i) (KK κ a (a.size-1))
def Lo(κ:#[63])(a b out:#[hC])(c d:Nat):Prop:=Mg κ (a.toList++b.toList) out.toList (a.toList.drop c) (b.toList.drop d)
variable {a b out:Array Keyed} {ia ib:Nat}
variable {na nb:Nat}
universe E
noncomputable def LS:Nat->List (List Keyed)->List (Nat×Nat)
 | _,[]=>[]
 | o,r::a=>(o,r.length)::LS (o+r.length) a
noncomputable def ZtU(p:Nat×Nat×Nat):Nat×Nat:=(p.1,p.2.1)
section
variable {prog:ar} {w:aA} {A:az} {E:aa->ah->Prop} {s:ah} {κ:PyProof.Rows.KeyKind} {k0:SortKind} {st:SortSt} {aM:Array Keyed}
structure Rn (κ:#[63]) (k0:SortKind) (aM:#[hC]) (st:SortSt) (rs:List (List Keyed)) (rest:#[rN]):Prop where
 kind:kindOf st=k0
 failed:failedOf st=af
 arr:#[F].toList=rs.flatten++rest
 perm:#[F].Perm aM
 srt:∀r∈rs,kS κ r
 ne:∀r∈rs,r≠[]
 pend:(pendingOf st).toList.map ZtU=LS 0 rs
universe E
section
variable {prog:ar} {w:aA} {A:az} {E:aa->ah->Prop} {s:ah} {κ:PyProof.Rows.KeyKind} {k0:SortKind} {st jX:SortSt} {aM:Array Keyed} {α:Type} {lo:Nat}
structure Ph (k0:SortKind) (aM:#[hC]) (lo:Nat) (jX st:SortSt):Prop where
 kind:kindOf st=k0
 failed:failedOf st=af
 pend:pendingOf st=pendingOf jX
 perm:#[F].Perm aM
 pre:∀k,k<lo->#[F][k]? = (arrOf jX)[k]?
universe E
universe E.L2
set_option maxHeartbeats 4000000
namespace L2
open PySem PySem.Spec PyProof.Rows
variable {X:Cx}
universe E.L2
set_option maxHeartbeats 4000000
namespace L2
open PySem PySem.Spec PyProof.Rows
@[reducible] def intKd:PyProof.Rows.KeyKind where
 α:=Int
 blt a b:=decide (a<b)
 irrefl a:=by simp
 trans a b c h1 h2:=by simp only[decide_eq_true_eq]at *;lia
 negTrans a b c h:=by
  simp only[decide_eq_true_eq]at *
  lia
 total a b h1 h2:=by simp only[decide_eq_false_iff_not]at *;lia
 keyOf v:=match v with|.int x _=>U x|_=>af
 dflt:=0
def rSrtIA(K:#[7]):List V->Hp->VK->Prop:=λxs H Q=>X2 λ(p:ae) (ns:List Int)=>xs=#[hd]/\SqL K H p #[z]/\∀ (l:ae) (a:List Int),H l=af->a.Perm ns->a.Pairwise (·<=·)->Q #[h6] (upd H l #[d8,a.map])
universe E.L2
set_option maxHeartbeats 4000000
namespace L2
open PySem PySem.Spec PyProof.Rows
noncomputable def txt:aa->aj
 | .str x _=>x
 | _ => ""
section
variable {prog:ar} {w:aA} {A:az} {E:aa->ah->Prop} {s:ah}
def Zs9(w:aA)(a:#[rQ]):Prop:=∀e∈a.toList,X2 λx u=>e.2=.str x u/\e.1=NM w (.inr x)
noncomputable def LR(a:#[rQ]):List aj:=a.toList.map λe=>txt e.2
structure SetAt (w:aA) (L:Bool) (T:aj->Prop) (o:aI) (es:#[rQ]) (ep:Nat) (t:SetTable):Prop where
 ex:o.ExactSet
 da:o.data=.set es ep t
 el:Zs9 w es
 nd:(LR es).Nodup
 me:∀x,T x↔x∈LR es
 sz:es.size<scanBound
 ft:t.fits es.size=true
 ld:t.led=L
 pl:es.size≠0->t.plain=false
universe E
universe E.L2
set_option maxHeartbeats 4000000
namespace L2
open PySem PySem.Spec PyProof.Rows
universe E.L2
namespace L2
open PySem PyProof.Rows
def Zsa(B:aE)(fr:#[hB])(h:aE):Prop:=(∀b o,B.get? b=U o->b ∉ fr->h.get? b=U o)/\∀b o,B.get? b=U o->∃sl,h.get? b=U { o with slots:=sl }
structure Ro (NB:ae->Prop) (h:aE) (e:ae) (cls:aa) (dd:#[md]) (fl:aa):Prop where
 ex:X5 λoe vs T oT ts=>h.get? e=U oe/\oe.cls=cls/\oe.dict=dd/\oe.data=.fields vs/\vs[1]? = U (.ref T)/\T≠e/\h.get? T=U oT/\oT.data=.fields ts/\ts[3]? = U fl/\NB T
structure Zso (h:aE) (e:ae) (cls:aa) (dd:#[md]):Prop where
 ex:X2 λoe vs=>h.get? e=U oe/\oe.cls=cls/\oe.dict=dd/\oe.data=.fields vs/\vs[1]? = U .none
structure FlyX (B base:aE) (NB:ae->Prop) (env:Env) (outer:#[rc]) (L e:ae) (cls:aa) (dd:#[md]) (h:aE):Prop where
 st:Zsa B ((env::outer).filterMap (·.frame)) h
 fun_:h.FunFrames base (env::outer)
 new:B.get? e=af
 nb:∀T,h.objs.size<=T->NB T
 hB:∀T,NB T->B.get? T=af
 ex:Zso h e cls dd\/Ro NB h e cls dd .none\/Ro NB h e cls dd (rawInt L)
open PySem.W (hideAll hideAll_none hideAll_get hideAll_size of_hideAll)
def NB(lo:Nat)(H:Hp)(ps:#[hB])(T:ae):Prop:=lo<=T/\H T=af/\T ∉ ps
def CX1(P:ar)(w:aA):CXT:=λouter H s E c s'=>X4 λ(e:ae) (cls:aa) (b:Option ae) (a:Hp)=>c=.ref e/\s.heap.objs.size<=e/\a e=af/\Ro (NB s.heap.objs.size a []) s'.heap e cls b .none /\
 s'.os=s.os/\AllBare s'.gens/\Un (frs outer) [] H a s.heap s'.heap/\HOk P w a s'.heap/\E cls b a
open Builtin Builtin.ObjectAttr
section
variable {prog:ar} {w:aA} {A:az} {E:aa->ah->Prop} {h:aE} {g:Array GenState} {d:Drawn} {t:Nat} {os:OsState} {K:#[7]}
variable {nm q:aj} {C N x:ae} {bs bm:List aa} {sn:List aj} {sub:List aa} {ab:Bool} {iU:Option Bool} {dd:Option ae} {k0 k1 k2 k3 k5:Option aa} {jq:String}
 {mA:#[P]} {name:aj} {v:aa}
universe E
noncomputable abbrev Rm:List aa:=[.type "ValueError",.type "Exception",.type "BaseException",.type "object"]
structure XC (K:#[7]) (C B:ae):Prop where
 obj:X15 λ(nm q:aj) (N:ae) (bs:List aa) (sn:List aj) (sub:List aa) (ab:Bool) (iU:Option Bool) (dd:Option ae) (k0 k1 k2 k3 k5:Option aa) (jq:String) =>
  K.lookup C=U (excClassObj nm q C N bs (.ref B::Rm) true sn sub ab iU dd k0 k1 k2 k3 k5 jq)
 sa:PySem.W.findIn K #[aU] "__setattr__" = U #[46]
abbrev TJ:=aj->St->Hp->VK->Prop
structure XB (K:#[7]) (B:ae):Prop where
 sp:PySem.W.specialIn K (.ref B) "__getattribute__" = U (U #[c3,"type.__getattribute__"])
 rd:PySem.W.readsIn K B #[fE,"type"]=true
 fi:PySem.W.findCls K (.ref B) #[fE,"type"] "__init__" = U (.val #[qW])
structure XM (K:#[7]) (C B f:ae):Prop where
 obj:X14 λ(nm q:aj) (N:ae) (bs:List aa) (sn:List aj) (sub:List aa) (ab:Bool) (iU:Option Bool) (dd:Option ae) (k0 k1 k2 k3 k5:Option aa) =>
  K.lookup C=U #[bd]
 init:PySem.W.findIn K #[aU] "__init__" = U #[r4]
 fn:PySem.W.isFn K #[a1]=true
 kp:PySem.W.keepIn K #[aU]=true
 sa:PySem.W.findIn K #[aU] "__setattr__" = U #[46]
structure XG (K:#[7]) (C:ae):Prop where
 ga:PySem.W.findIn K #[aU] "__getattribute__" = U (U #[c3,"BaseException.__getattribute__"])
 gh:PySem.W.findIn K #[aU] "__getattr__" = U af
 sb:PySem.W.subIn K #[aU] #[fE,"BaseException"]=U true
 hd:PySem.W.hasDictIn K C=true
 ca:PySem.W.findIn K #[aU] "__class__" = U (U #[jk])
 hm:PySem.W.mroIn K C #[fE,"object"]=U true
universe E.L2
namespace L2
open PySem PySem.Spec PyProof.Rows
structure D1f (P:ar) (w:aA) (K:#[7]) (mg:#[P]) (base:aE) (k:Nat) (x:aj) (ps:#[y]) (sp:Sp):Prop where
 ex:X2 λf fd=>Yu P w K mg base (CX1 P w) k f fd ps sp/\mg x=U #[a1]/\PySem.W.keepIn K #[a1]=true/\Yt K fd ps []
structure C1f (P:ar) (w:aA) (K:#[7]) (mg:#[P]) (base:aE) (k:Nat) (C:ae) (x:aj) (ps:#[y]) (sp:Sp):Prop where
 ex:X2 λf fd=>Yu P w K mg base (CX1 P w) k f fd ps sp/\Mk K C f/\Yt K fd ps []/\mg x=U #[aU]
structure Xf (P:ar) (w:aA) (K:#[7]) (mg:#[P]) (base:aE) (k:Nat) (C B:ae) (x:aj) (ps:#[y]) (sp:Sp):Prop where
 ex:X2 λf fd=>Yu P w K mg base CX0 k f fd ps sp/\XM K C B f/\Yt K fd ps []/\mg x=U #[aU]
structure TopX (K:#[7]) (mg:#[P]) (C B:ae) (x be:aj) (st:aJ) (ps:#[y]):Prop where
 ex:X2 λf fd=>Fun K "__init__" be st f fd/\XM K C B f/\Yt K fd ps []/\mg x=U #[aU]
universe E.L2
namespace L2
open PySem PyProof.Rows
structure XW (K:#[7]) (mg:#[P]) (C B:ae) (x:aj):Prop where
 obj:X14 λ(nm q:aj) (N:ae) (bs:List aa) (sn:List aj) (sub:List aa) (ab:Bool) (iU:Option Bool) (dd:Option ae) (k0 k1 k2 k3 k5:Option aa) =>
  K.lookup C=U #[bd]
 init:PySem.W.findIn K #[aU] "__init__" = U (U #[qW])
 kp:PySem.W.keepIn K #[aU]=true
 m:mg x=U #[aU]
section
variable {X:Cx} {E:St->XK} {k j:Nat} {C B:ae} {x m:aj} {ps:List aj} {sp:Sp} {p bq pos bv:Pos} {e o:aD} {es:List aD} {ta:TE} {t:TA}
structure M1f (P:ar) (w:aA) (K:#[7]) (mg:#[P]) (base:aE) (k:Nat) (C:ae) (m:aj) (ps:#[y]) (sp:Sp):Prop where
 ex:X2 λf fd=>Yu P w K mg base (CX1 P w) k f fd ps sp/\Vo K C m f/\Yt K fd ps []
universe E
def Zta(i j l:Nat)(b:TA):TS:=λD a H=>b a H λvs c=>X3 λv w z=>vs=[v,w,z]/\D.nx (((a.set l (U z)).set j (U w)).set i (U v)) c
theorem ZpV{X:Cx}{pos:Pos}{i j l:Nat}{x y z:aj}{a b c:aD}{B:TA}{m n r pt:Pos}{kt k2 t}(hc:#[81])(A:#[mb])(G:#[cp])(J:X.N[j]? = U y)(hl:X.N[l]? = U z)
  (hx:#[dR,x]) (hy:#[dR,y]) (hz:#[dR,z]) (ha:PA X [a,b,c] B)
  (hw:swappedStores #[bJ] #[kQ] X.env=pure (U [x,y,z]))
  (K:swapsWithSole #[bJ] #[kQ] pos.line X.env=pure false:=by rfl) :
  PS X (.Assign #[bJ] #[kQ] pos) (Zta i j l B):=by
 show#[dP,C,E,D];show#[q5];rw[K];show#[gJ];rw[if_neg #[6]];refine ak (Tuple_ (thn (ha _ C s E H _ I h) λL d a=>?_));obtain⟨vs,F,M,N,v,w,u,O,P⟩:=a;subst O;obtain⟨f,g,k,rfl,Q,R,S⟩:X3 λf g k=>L=[f,g,k]/\ZH v f/\ZH w g/\ZH u k:=by
  cases N with
  | cons p q =>
   cases q with
   | cons T V =>
    cases V with
    | cons W Y=>cases Y;exact⟨_,_,_,rfl,p,T,W⟩
 refine bM ?_ #[K];have Z:Inv X C E F { d with heap:=d.heap.push { cls:=.type "tuple",data:=.seq [f,g,k].toArray } }:=M.kept (t':=d.toks) λb o e=>Qi _ e;rw[hw];show#[gJ];show #[ij] (do rule "assign.swapped-stores";let items <- unpackItems (.ref d.heap.objs.size) 3 af;assignInOrder #[fY] items.reverse;pure Flow.next) _ _ _;refine ak (wpAny_rule (ak (unpackItems_tuple (items:=#[f,g,k]) #[gj] (IsTup.new d.heap _) λh' bR=>?_)));have I3:=Z.kept (h':=h') (t':=d.toks) λb o e=>bR b o #[lH] e;show aw _ _ (assignInOrder #[fY] [k,g,f] >>= λ_=>pure Flow.next) _ _ _;refine ak (assignInOrder_cons (wpAny_bindName (V6 I3 A hl (.inl hz) S (λs2 I4=>?_) (.inr hz))));refine assignInOrder_cons (wpAny_bindName (V6 I4 A J (.inl hy) R (λs3 I5=>?_) (.inr hy)));refine assignInOrder_cons (wpAny_bindName (V6 I5 A G (.inl hx) Q (λs4 I6=>assignInOrder_nil (au ?_)) (.inr hx)));exact⟨_,F,I6,P⟩
universe E.L2
namespace L2
open PySem PySem.Builtin PySem.Builtin.Str PyProof.Rows
structure KD (K:#[7]) (w:aA) (a:ae):Prop where
 at':X2 λ(es:Array DictEntry) (n:Nat)=>K.lookup a=U ⟨.type "dict",af,.dict es n,#[]⟩/\PySem.W.KeysLit w.params es.toList
 lo:#[kK]=false
structure Fv (P:ar) (w:aA) (K:#[7]) (mg:#[P]) (base:aE) (k:Nat) (f:ae) (sp:Sp):Prop where
 ex:X2 λfd ps=>Yu P w K mg base CX0 k f fd ps sp/\PySem.W.keepIn K #[a1]=true/\Yt K fd ps []
universe E.L2
namespace L2
open PySem PyProof.Rows
universe E.L2
namespace L2
open PySem PyProof.Rows
theorem ZkO:typeLookup #[lO] "__int__" = pure af:=by rw[typeLookup_type,builtinLookup_eq_fast];kernel_rfl
theorem Zh1:typeLookup #[lO] "__index__" = pure af:=by rw[typeLookup_type,builtinLookup_eq_fast];kernel_rfl
theorem Zix:typeLookup #[lO] "__trunc__" = pure af:=by rw[typeLookup_type,builtinLookup_eq_fast];kernel_rfl
theorem ZtF{α:Type}{M:Model}{A:az}{t t':Sem α}{Q:α->ah->Prop}{E:#[D]}{s:ah}(h:t=t')(hq:aw M A t' Q E s):aw M A t Q E s:=h ▸ hq
theorem Ziq(n:Nat)(hn:n<10)(t:Tok):Meets (aT.«int.__new__» ⟨[.type "int",.str #[k8] t],[]⟩) (Made.int (n:Int)).spec :=
 Meets.of_wp λprog w A R s a=>by
  obtain⟨b,g,d,tk,os⟩:=s;have f1:=F.conv_sub_int;have f2:=F.madeHere_int;have hT:(#[fz,b]:ah).TypeIs (.str #[k8] t) "str":=rfl;have f3:=ZkO;have f4:=Zh1;have f5:=Zix;repeat (any_goals (first|assumption|wp_step))
  refine ZtF (t':=mkInt (n:Int)) (by rcases(show n=0\/n=1\/n=2\/n=3\/n=4\/n=5\/n=6\/n=7\/n=8\/n=9 by lia) with rfl|rfl|rfl|rfl|rfl|rfl|rfl|rfl|rfl|rfl<;>kernel_rfl) ?_;repeat (any_goals (first|assumption|wp_step))
  all_goals exact⟨_,rfl,a⟩
def Zto:List V->Hp->VK->Prop:=λvs H Q=>∃n:Nat,vs=[.str #[k8]]/\n<10/\Q (.int (n:Int)) H
theorem Zme{prog:ar}{w:aA}{A:az}{E:#[D]}{s:ah}{n:Nat}{t:Tok}{Q:#[D]}(a:n<10)(h:Q (.int (n:Int) s.toks) { s with toks:=s.toks+1 }):aw #[j] A (call #[jS] [.str #[k8] t]) Q E s :=
 call_int_1 (Ziq n a t) (show (Made.int (n:Int)).post _ s from⟨rfl,h⟩)
theorem ZuA{X:Cx}:YT X #[jS] Zto:=by intro ai s σ H xs us Q I r h;obtain⟨n,rfl,a,q⟩:=h;obtain⟨u,rfl,t,rfl⟩:=XV r;exact Zme a ⟨.int (n:Int),H,I.tok _,#[H],q⟩
universe E.L2
set_option maxHeartbeats 9000000
namespace My
open PySem L2 PyProof.Rows
noncomputable abbrev YJ:=@List.tail aJ
noncomputable abbrev YF(x:#[qG]):=YJ (YJ x)
noncomputable abbrev YE(x:#[qG]):=YF (YF x)
noncomputable abbrev Ya(x:#[qG]):=YE (YE x)
noncomputable abbrev Zt16(x:#[qG]):=Ya (Ya x)
noncomputable abbrev Zt32(x:#[qG]):=Zt16 (Zt16 x)
local macro_rules|`(‹$i:num›)=>`(@pv _ $i _ _ (by rfl) (Or.inl rfl) (by decide) (by decide))
local macro_rules|`(tactic|trivial)=>`(tactic|first|exact .inl rfl|exact .inr rfl|decide|exact Nat.le_refl _|lia)
noncomputable def hdS:List aJ->aJ
 | a::_=>a
 | []=>.Pass ⟨0,0,0,0⟩
noncomputable abbrev Z9:List aJ:=PySem.Challenge.pw_mergetree_k75_whole_everyday_rows.main.body
noncomputable abbrev Rl:aJ:=#[oD,Zt16,YF]
noncomputable abbrev Xd:aJ:=hdS (Zt16 #[b6])
noncomputable abbrev Rk:aJ:=hdS #[mj]
noncomputable abbrev Rj:aJ:=#[oD,YE,YF]
noncomputable abbrev Ri:aJ:=hdS (YE #[b6])
noncomputable abbrev Rh:aJ:=#[oD,Ya,YJ]
noncomputable abbrev Rg:aJ:=#[oD,Ya,YF]
noncomputable abbrev Rf:aJ:=hdS (Ya #[b6])
noncomputable abbrev Rc:aJ:=#[oD,Ya,YE]
noncomputable abbrev P9:aJ:=hdS (Ya #[mj])
noncomputable abbrev PZ:aJ:=#[pa,Ya,YE]
noncomputable abbrev PY:aJ:=hdS (Zt16 Z9)
noncomputable abbrev PX:aJ:=#[oD,Zt16,YE]
noncomputable abbrev PV:aJ:=hdS (Zt16 #[mj])
noncomputable abbrev Tb:aJ:=#[pa,Zt16,YE]
noncomputable abbrev PU:aJ:=hdS (Zt16 (Ya (YJ Z9)))
noncomputable abbrev Ta:aJ:=#[pa,Zt16,Ya]
noncomputable abbrev PR:aJ:=hdS (Zt16 (Ya (YE Z9)))
noncomputable abbrev PQ:aJ:=hdS (Zt16 (Ya #[mj]))
noncomputable abbrev PP:aJ:=hdS (Zt16 (Ya (YE #[b6])))
noncomputable abbrev PN:aJ:=hdS (Zt32 Z9)
noncomputable abbrev PM:aJ:=#[oD,Zt32,YJ]
noncomputable abbrev PL:aJ:=#[oD,Zt32,YF]
noncomputable abbrev S9:aJ:=hdS (Zt32 #[b6])
noncomputable abbrev S7:aJ:=#[fk,YE,YJ]
noncomputable abbrev PH:aJ:=#[fk,YE,YF]
noncomputable abbrev S6:aJ:=#[pa,Zt32,YE]
noncomputable abbrev S5:aJ:=#[oD,Zt32,Ya]
noncomputable abbrev Ve:aJ:=#[fk,Ya,YF]
noncomputable abbrev S0:aJ:=#[pa,Zt32,Ya]
noncomputable abbrev PF:aJ:=#[fk,Ya,YE]
noncomputable abbrev PD:aJ:=hdS (Zt32 (Ya (YE (YF Z9))))
noncomputable abbrev PB:aJ:=hdS (Zt32 (Ya (YE #[b6])))
noncomputable abbrev Pz:aJ:=#[oD,Zt32,Zt16]
noncomputable abbrev Ut:aJ:=#[fk,Zt16,YJ]
noncomputable abbrev SY:aJ:=#[fk,Zt16,YF]
noncomputable abbrev Py:aJ:=#[pa,Zt32,Zt16]
noncomputable abbrev Px:aJ:=#[fk,Zt16,YE]
noncomputable abbrev Z5:aJ:=hdS (Zt32 (Zt16 #[mj]))
noncomputable abbrev V1:aJ:=hdS (Zt32 (Zt16 (YE (YF Z9))))
noncomputable abbrev Us:aJ:=XO Rl 0
noncomputable abbrev Ur:aJ:=XO Rl 2
noncomputable abbrev Uq:aJ:=XO Rl 3
noncomputable abbrev Up:aJ:=XO Xd 0
noncomputable abbrev Uo:aJ:=XO Xd 1
noncomputable abbrev Um:aJ:=XO Xd 2
noncomputable abbrev Ul:aJ:=XO Xd 3
noncomputable abbrev Vd:aJ:=XO Xd 4
noncomputable abbrev Vc:aJ:=XO Xd 5
noncomputable abbrev Z4:aJ:=XO Xd 6
noncomputable abbrev Uk:aJ:=XO Xd 7
noncomputable abbrev Uj:aJ:=XO Xd 13
noncomputable abbrev Ui:aJ:=XO Xd 14
noncomputable abbrev Uh:aJ:=XO Xd 15
noncomputable abbrev Z0:aJ:=XO Xd 16
noncomputable abbrev Ug:aJ:=XO Xd 17
theorem LQ:Zr ["_law_cell", "_law_k", "_law_m"] #[co] (Zf PD):=#[0]
theorem LP:Zr ["_law_script", "_law_k", "_law_cell"] #[gt] (Zf PB):=#[0]
theorem LO:Zr ["_law_left_here", "_law_many", "_law_digit"] #[g5] (Zf Pz):=#[0]
theorem Pw:Zr #[pC] #[24] (Zf Rc):=#[0]
theorem ZoU:Zr #[55] #[55] (Zf Rh):=#[0]
theorem SX:Zr ["row", "told", "place", "key"] ["row"] (Zf PY):=#[0]
theorem Zi9:Zr #[aC] #[aC] (Zf P9):=#[0]
theorem Znw:Zr #[55] #[55] (Zf Rg):=#[0]
theorem LN:Zr #[pC] #[24] (Zf Rf):=#[0]
theorem LM:Zr ["keys", "place"] ["keys"] (Zf PZ):=#[0]
theorem LL:Zr ["numbers", "middle"] ["numbers"] (Zf Rk):=#[0]
theorem Zh8:Zr #[V] #[V] (Zf Ur):=#[0]
theorem ZjS:Zr #[V] #[V] (Zf Uq):=#[0]
theorem Zjz:Zr #[kc] #[kc] (Zf Us):=#[0]
theorem VF:Zr ["numbers", "n", "others", "side", "first", "rest"] #[bk] (Zf Rj):=#[0]
theorem ZmP:Zr ["many"] ["many"] (Zf Ri):=#[0]
theorem Pu:Zr ["self", "rows", "number", "keys"] #[rq] (Zf Up):=#[0]
theorem LK:Zr #[d6,"row"] #[V] (Zf Uo):=#[0]
theorem LJ:Zr #[d6,"thing"] #[V] (Zf Um):=#[0]
theorem LI:Zr ["self", "many", "things"] #[rr] (Zf Ul):=#[0]
theorem Zg2:Zr #[V] #[V] (Zf Vd):=#[0]
theorem ZfW:Zr #[V] #[V] (Zf Vc):=#[0]
theorem ZeI:Zr #[V] #[V] (Zf Z4):=#[0]
theorem Zgi:Zr #[V] #[V] (Zf Uk):=#[0]
theorem Zfb:Zr #[V] #[V] (Zf Uj):=#[0]
theorem Wj:Zr ["self", "numbers", "first_side", "other_side", "one", "other", "winner", "loser", "far"] #[i2] (Zf Ui):=#[0]
theorem Uf:Zr ["self", "number", "row", "comer", "meeting"] #[jU] (Zf Uh):=#[0]
theorem Ue:Zr ["self", "meeting", "comer", "stayer", "winner", "loser", "far"] #[a3] (Zf Z0):=#[0]
theorem SW:Zr ["self", "one", "other", "far", "order", "alike_far", "seen"] #[74] (Zf Ug):=#[0]
theorem LH:Zr ["number", "keys", "place"] #[mZ] (Zf PX):=#[0]
theorem VE:Zr ["numbers", "n", "matches", "least", "greatest", "others"] #[bk] (Zf PV):=#[0]
theorem LG:Zr ["heads", "least"] ["heads"] (Zf Tb):=#[0]
theorem Zig:Zr ["thing"] ["thing"] (Zf PU):=#[0]
theorem Wi:Zr #[cl] #[i5] (Zf Ta):=#[0]
theorem Zg8:Zr #[cn] #[cn] (Zf PR):=#[0]
theorem Pt:Zr ["things", "thing", "number", "place"] #[aN] (Zf PQ):=#[0]
theorem Ps:Zr ["sizes", "ways", "price", "trees"] #[bB] (Zf PP):=#[0]
theorem VD:Zr ["sizes", "ways", "groves", "many", "begin", "end", "alone", "most"] #[bB] (Zf PN):=#[0]
theorem Pr:Zr ["groves", "sizes", "ways", "begin", "end", "price", "parts"] #[98] (Zf PM):=#[0]
theorem LF:Zr ["groves", "alone", "begin", "end", "most", "cut"] #[99] (Zf PL):=#[0]
theorem Pq:Zr #[hw] #[93] (Zf S9):=#[0]
theorem ZmA:Zr #[hY] #[hY] (Zf S7):=#[0]
theorem LD:Zr ["rows", "merge"] #[hY] (Zf PH):=#[0]
theorem Pp:Zr #[mY] #[hY] (Zf S6):=#[0]
theorem Zjh:Zr #[hY] #[hY] (Zf S5):=#[0]
theorem SV:Zr #[97] #[gg] (Zf Ve):=#[0]
theorem SU:Zr #[hX] #[iq] (Zf S0):=#[0]
theorem Zid:Zr #[aN] #[aN] (Zf PF):=#[0]
theorem Zg0:Zr #[hi] #[hi] (Zf Ut):=#[0]
theorem Po:Zr #[fZ] #[bV] (Zf SY):=#[0]
theorem SS:Zr ["_law_left_here", "_law_sort", "_law_words", "_law_names"] #[bW] (Zf Py):=#[0]
theorem Ud:Zr ["_law_left_here", "_law_sort", "_law_found", "_law_k", "_law_key"] #[bV] (Zf Px):=#[0]
theorem ZS:Zr #[p] #[hx] (Zf Z5):=#[0]
theorem V0:Zr #[aw] #[lm] (Zf V1):=#[0]
noncomputable abbrev zsc(l:#[e3,aL]):aS:={ kind:=.function,names:=l,isGenerator:=false,isCoroutine:=false,more:=[] }
noncomputable def Zp1:aS:=zsc [#[L],#[lP]]
theorem Pn:ZU #[V] #[d6,"row"] (Zf Vd) Zp1:=#[Xzz]
noncomputable def Zqt:aS:=zsc [#[L],#[cT,"number"],#[lP]]
theorem Uc:ZU #[V] ["self", "number", "row"] (Zf Vc) Zqt:=#[Xzz]
noncomputable def ZqN:aS:=zsc [#[L],#[lP],#[cT,"key"]]
theorem Vb:ZU ["heads", "least"] ["heads", "least", "row", "key"] (Zf Tb) ZqN:=#[Xzz]
noncomputable def Zqn:aS:=#[jp]
theorem Ub:ZU #[cl] ["things", "room", "inside", "next_in", "runs", "goer", "run", "key", "?number", "number"] (Zf Ta) Zqn:=#[Xzz]
noncomputable def ZpQ:aS:=zsc [#[L],#[cT,"middle"],("begin",.free),("end",.free),("groves",.free),("most",.free)]
theorem WE:ZU #[hw] ["groves", "begin", "end", "most", "price", "?middle", "middle"] (Zf S9) ZpQ:=#[Xzz]
noncomputable def ZpE:aS:=zsc [#[L],#[lP],#[cT,"place"],#[cT,"key"]]
theorem Va:ZU #[hY] ["rows", "row", "place", "key"] (Zf S7) ZpE:=#[Xzz]
noncomputable def Zqa:aS:=zsc [#[L],#[lP],#[cT,"key"],#[jR]]
theorem U9:ZU #[mY] ["rows", "first_play", "signs", "row", "key"] (Zf S6) Zqa:=#[Xzz]
noncomputable def ZqA:aS:=zsc [#[L],#[lP],#[jR]]
theorem SR:ZU #[hY] ["rows", "row"] (Zf S5) ZqA:=#[Xzz]
noncomputable def Zqe:aS:=zsc [#[L],#[rs],("merged_by",.globalImplicit),("runs",.free),("things",.free)]
theorem U8:ZU #[97] #[a2] (Zf Ve) Zqe:=#[Xzz]
noncomputable def ZqQ:aS:=zsc [#[L],#[rs],("things",.free)]
theorem Pm:ZU #[97] #[a2] (Zf Ve) ZqQ:=#[Xzz]
noncomputable def ZnW:aS:=zsc [#[L],#[rs],("things",.cell)]
noncomputable def Zn2:aS:=#[jp]
theorem SQ:ZU #[a2] ["things", "runs", "tree", "parts", "rows", "part", "number"] ZnW Zn2:=#[Xzz]
noncomputable def Zpt:aS:=zsc [#[L],#[rs],#[cT,"place"],("parts",.free)]
theorem U7:ZU #[97] ["things", "runs", "tree", "parts", "rows", "part", "place"] (Zf Ve) Zpt:=#[Xzz]
noncomputable def Zng:aS:=zsc [#[L],#[cT,"run"],#[jR]]
theorem SO:ZU #[hX] ["things", "room", "ways", "runs", "cost", "tree", "run"] (Zf S0) Zng:=#[Xzz]
noncomputable def ZoZ:aS:=zsc [#[L],#[ks],#[mx]]
theorem SN:ZU #[hi] ["_law_things", "_law_key", "_law_number"] (Zf Ut) ZoZ:=#[Xzz]
noncomputable def Zna:aS:=zsc [#[L],#[mx],#[ks]]
theorem Ua:ZU #[hi] ["_law_things", "_law_number", "_law_key"] (Zf Ut) Zna:=#[Xzz]
noncomputable def Zpa:aS:=zsc [#[L],#[cT,"_law_figure"],("int",.globalImplicit)]
theorem Pk:ZU #[fZ] ["_law_left_here", "_law_year", "_law_month", "_law_day", "_law_figures", "_law_figure"] (Zf SY) Zpa:=#[Xzz]
noncomputable def Zpc:aS:=zsc [#[L],#[qe],#[kS]]
theorem Pj:ZU #[p] #[33] (Zf Z5) Zpc:=#[Xzz]
noncomputable def ZmK:aS:=zsc [#[L],#[qe],("_law_things",.cell)]
noncomputable def ZnG:aS:=zsc [#[L],#[mx],#[kS]]
theorem SM:ZU #[33] ["_law_things", "_law_lists", "_law_rows", "_law_one", "_law_out", "_law_first", "_law_told", "_law_due", "_law_n", "_law_row", "_law_found", "_law_most", "_law_part", "_law_number"] ZmK ZnG:=#[Xzz]
noncomputable def Zon:aS:=zsc [#[L],#[cT,"_law_place"],#[ks],("_law_n",.free)]
theorem U6:ZU #[p] ["_law_things", "_law_lists", "_law_rows", "_law_one", "_law_out", "_law_first", "_law_told", "_law_due", "_law_n", "_law_row", "_law_found", "_law_most", "_law_place", "_law_key"] (Zf Z5) Zon:=#[Xzz]
noncomputable def Zm4:aS:=zsc [#[L],#[ks],#[cT,"_law_n"],#[cT,"_law_place"]]
theorem VC:ZU #[p] ["_law_things", "_law_lists", "_law_rows", "_law_one", "_law_out", "_law_first", "_law_told", "_law_due", "?_law_n", "_law_row", "_law_found", "_law_most", "_law_key", "_law_n", "_law_place"] (Zf Z5) Zm4:=#[Xzz]
noncomputable def ZoY:aS:=zsc [#[L],#[qe],("is_run",.globalImplicit),#[kS]]
theorem T9:ZU #[aw] ["_law_script", "_law_k", "_law_left_here", "_law_things", "_law_room", "_law_ways", "_law_lists", "_law_due", "_law_part"] (Zf V1) ZoY:=#[Xzz]
structure Bt (mg:#[P]):Prop where
 n_abs:mg "abs" = af
 n_all:mg "all" = af
 n_bool:mg "bool" = af
 n_enumerate:mg "enumerate" = af
 n_int:mg "int" = af
 n_isinstance:mg "isinstance" = af
 n_len:mg "len" = af
 n_list:mg "list" = af
 n_max:mg "max" = af
 n_min:mg "min" = af
 n_range:mg "range" = af
 n_sorted:mg "sorted" = af
 n_str:mg "str" = af
 n_sum:mg "sum" = af
 n_tuple:mg "tuple" = af
structure Y9 (K:#[7]) (mg:#[P]) (aB:ae) (ao:ae):Prop where
 b:Bt mg
 t_halves:Top K mg "halves" Rk ["numbers"]
 t_way_up:Top K mg "way_up" Rj #[bk]
 t_height:Top K mg "height" Ri ["many"]
 t_alike:Top K mg "alike" Rh #[55]
 t_liken:Top K mg "liken" Rg #[55]
 t_liken_from:Top K mg "liken_from" Rf #[24]
 t_alike_from:Top K mg "alike_from" Rc #[24]
 t_order_at:Top K mg "order_at" P9 #[aC]
 t_first_break:Top K mg "first_break" PZ ["keys"]
 t_alikes:Top K mg "alikes" PY ["row"]
 t_refuse_break:Top K mg "refuse_break" PX #[mZ]
 t_matches_up:Top K mg "matches_up" PV #[bk]
 t_next_of:Top K mg "next_of" Tb ["heads"]
 t_is_number:Top K mg "is_number" PU ["thing"]
 t_runs_of:Top K mg "runs_of" Ta #[i5]
 t_run_behind:Top K mg "run_behind" PR #[cn]
 t_is_run:Top K mg "is_run" PQ #[aN]
 t_near_plan:Top K mg "near_plan" PP #[bB]
 t_least_groves:Top K mg "least_groves" PN #[bB]
 t_least_tree:Top K mg "least_tree" PM #[98]
 t_least_grove:Top K mg "least_grove" PL #[99]
 t_least_cut:Top K mg "least_cut" S9 #[93]
 t_merged:Top K mg "merged" S7 #[hY]
 t_counts:Top K mg "counts" PH #[hY]
 t_bounds_of:Top K mg "bounds_of" S6 #[hY]
 t_how_many:Top K mg "how_many" S5 #[hY]
 t_merged_by:Top K mg "merged_by" Ve #[gg]
 t_sort_by:Top K mg "sort_by" S0 #[iq]
 t_is_sorted:Top K mg "is_sorted" PF #[aN]
 t_l_mix:Top K mg "_law_mix" PD #[co]
 t_l_left:Top K mg "_law_left" PB #[gt]
 t_l_pick:Top K mg "_law_pick" Pz #[g5]
 t_l_in_order:Top K mg "_law_in_order" Ut #[hi]
 t_l_date:Top K mg "_law_date" SY #[bV]
 t_l_thing:Top K mg "_law_thing" Py #[bW]
 t_l_everyday:Top K mg "_law_everyday" Px #[bV]
 t_l_taken_right:Top K mg "_law_taken_right" Z5 #[hx]
 t_Row_init:Tc K mg aB "Row" "Row.__init__" Us #[kc]
 t_Row_to_go:XI K aB "to_go" "Row.to_go" Ur #[V]
 t_Row_head:XI K aB "head" "Row.head" Uq #[V]
 t_Merge_init:Tc K mg ao "Merge" "Merge.__init__" Up #[rq]
 t_Merge_coming:XI K ao "coming" "Merge.coming" Uo #[V]
 t_Merge_take:XI K ao "take" "Merge.take" Um #[V]
 t_Merge_take_few:XI K ao "take_few" "Merge.take_few" Ul #[rr]
 t_Merge_left:XI K ao "left" "Merge.left" Vd #[V]
 t_Merge_heads:XI K ao "heads" "Merge.heads" Vc #[V]
 t_Merge_likenings:XI K ao "likenings" "Merge.likenings" Z4 #[V]
 t_Merge_looks:XI K ao "looks" "Merge.looks" Uk #[V]
 t_Merge_play_all:XI K ao "play_all" "Merge.play_all" Uj #[V]
 t_Merge_play:XI K ao "play" "Merge.play" Ui #[i2]
 t_Merge_send_out:XI K ao "send_out" "Merge.send_out" Uh #[jU]
 t_Merge_play_again:XI K ao "play_again" "Merge.play_again" Z0 #[a3]
 t_Merge_meet:XI K ao "meet" "Merge.meet" Ug #[74]
 cl_Row:Cls K aB
 na_Row_all_keys:XR K aB "all_keys"
 na_Row_fars:XR K aB "fars"
 na_Row_gone:XR K aB "gone"
 cl_Merge:Cls K ao
 na_Merge_best:XR K ao "best"
 na_Merge_likened:XR K ao "likened"
 na_Merge_looked:XR K ao "looked"
 na_Merge_next_number:XR K ao "next_number"
 na_Merge_rows:XR K ao "rows"
 na_Merge_stays:XR K ao "stays"
def YM(H:Hp)(p:ae)(c:Int):Prop:=X2 λa b:Int=>H p=U (.lst [.int a,.int b,.int c])/\0<=c
def But(p:ae)(H a:Hp):Prop:=#[e5,a]
theorem But.trans{p:ae}{H d e:Hp}(a:But p H d)(b:But p d e):But p H e:=λc o h n=>b c o (a c o h n) n
theorem But.same{p:ae}{H b:Hp}(a:Zw H b):But p H b:=λc o h _=>a c o h
theorem Zh{H:Hp}{p:ae}(h:H p=af)(o:HO):Zw H (upd H p o):=λb u q=>by rw[Ze (Zd q h)];exact q
theorem small{n:Nat}(h:n<=1000):n<=aq:=QaG (ZK h)
def Pg:Sp:=λvs H Q _=>X2 λa k:Int=>vs=[.int a,.int k] /\ -#[rn]<k/\k<2 ^ 62/\∀r:Int,0<=r->r<2000000000->Q (.int r) H
def LC(K:#[7]):Sp:=λvs H Q _=>X3 λ(a:ae) (ns:List Int) (k:Int)=>vs=#[ft,a,k]/\SqL K H a #[z]/\ns.length<=63/\0<=k/\k<100 /\
 ∀ (p:ae) (b:Hp),H p=af->YM b p 0->Zw H b->Q #[gY] b
def T8:Sp:=λvs H Q _=>X3 λ(p:ae) (c m:Int)=>vs=#[ft,p,m]/\YM H p c/\c<2 ^ 60/\0<m/\m<1000000 /\
 ∀ (r:Int) (a:Hp),0<=r->r<m->YM a p (c+1)->But p H a->Q (.int r) a
theorem ZsB{ns:#[i]}{k:Int}(h0:0<=k)(h:k<#[rU]):∃v:Int,atI #[z] k=U (.int v):=by
 have a:k.toNat<ns.length:=by lia
 have b:k=#[bF]:=by lia
 have q:atI #[z] #[bF]=U (.int ns[k.toNat]):=Yz #[eK,a];rw[<- b]at q;exact⟨_,q⟩
theorem Pf{ss:#[y]}{k:Int}(h0:0<=k)(h:k<#[rT]):∃s∈ss,atI #[64] k=U (.str s):=by
 have a:k.toNat<ss.length:=by lia
 have b:k=#[bF]:=by lia
 have q:atI #[64] #[bF]=U (.str ss[k.toNat]):=Yz #[eK,a];rw[<- b]at q;exact⟨_,Q3 a,q⟩
theorem LB(b:Bool):-(2 ^ 64)<#[b0]/\#[b0]<2 ^ 64:=by cases b<;>decide
theorem T7{z:aj}{k:Int}(h0:0<=k)(h:k<#[mI]):∃c:Nat,z.cps.toList[k.toNat]? = U c/\atI z.cps.toList k=U c:=by
 have hl:#[qm]:=by simp[aj.length]
 have a:k.toNat<z.cps.toList.length:=by lia
 have b:k=#[bF]:=by lia
 have q:atI z.cps.toList #[bF]=U z.cps.toList[k.toNat]:=Yz (Qb a);rw[<- b]at q;exact⟨_,Qb a,q⟩
theorem Zm2(sep:aj)(ys:#[y]):#[p0].length<=#[lv].sum+ys.length*sep.length:=by
 have e:Txt.join sep ys=aj.join sep ys:=by simpa using join_plain_closes sep ys
 rw[e];exact StrLaws.join_length_le sep ys
theorem LA:∀ss:List aj,(∀s∈ss,s.length<=1)->(ss.map (·.length)).sum<=ss.length
 | [],_=>Qh _
 | s::r,h=>by have h1:=h s QV;have h2:=LA r λx a=>h x (Qu _ a);rw[Qj,QN,QF];lia
noncomputable def lcp:List Nat->List Nat->Nat
 | a::r,b::s=>if a=b then lcp r s+1 else 0
 | _,_=>0
theorem VZ:∀ (x y:List Nat),lcp x y<=x.length/\lcp x y<=y.length
 | [],_=>⟨Qt _,Qt _⟩
 | _::_,[]=>⟨Qt _,Qt _⟩
 | a::r,b::s=>by
  have h:=VZ r s;unfold lcp;split
  ·exact⟨Nat.succ_le_succ h.1,Nat.succ_le_succ h.2⟩
  ·exact⟨Qt _,Qt _⟩
theorem WU:∀ (x y:List Nat),lcp x y=lcp y x
 | [],[]=>rfl
 | [],_::_=>rfl
 | _::_,[]=>rfl
 | a::r,b::s=>by
  unfold lcp;by_cases h:a=b
  ·rw[if_pos h,if_pos h.symm,WU r s]
  ·rw[if_neg h,if_neg λe=>h e.symm]
theorem Lz:∀x:List Nat,lcp x x=x.length
 | []=>rfl
 | a::r=>by unfold lcp;rw[if_pos rfl,Lz r];rfl
theorem U5(x:#[aY]):lcp x []=0:=by cases x<;>rfl
theorem lcp_nil'(x:#[aY]):lcp [] x=0:=by cases x<;>rfl
theorem Ly:∀ (x y:List Nat) (k:Nat),k<=lcp x y->∀a,x[k]? = U a->y[k]? = U a->k+1<=lcp x y
 | [],_,k,_,a,h,_=>by simp at h
 | _::_,[],k,_,a,_,h=>by simp at h
 | a::r,b::s,0,_,c,h1,h2=>by simp at h1 h2;unfold lcp;rw[if_pos (by rw[h1,h2])];lia
 | a::r,b::s,k+1,h,c,h1,h2=>by
  unfold lcp at h ⊢;by_cases e:a=b
  ·rw[if_pos e]at h ⊢;have:=Ly r s k #[2] c #[cG,h1] #[cG,h2];lia
  ·show#[sj];lia
theorem Lx:∀ (x y:List Nat) (k:Nat),k<lcp x y->x[k]? = y[k]?
 | [],_,k,h=>by unfold lcp at h;lia
 | _::_,[],k,h=>by unfold lcp at h;lia
 | a::r,b::s,0,h=>by
  unfold lcp at h;by_cases e:a=b
  ·simp[e]
  ·show#[sj];lia
 | a::r,b::s,k+1,h=>by
  unfold lcp at h;by_cases e:a=b
  ·show#[n3,e,h];simpa using Lx r s k #[2]
  ·show#[sj];lia
theorem Pe(x y:#[aY])(k:Nat)(h:k<=lcp x y)(n:x.length<=k\/y.length<=k\/X2 λa b=>x[k]? = U a/\y[k]? = U b/\a≠b):lcp x y=k:=by
 have l:=VZ x y;rcases n with n|n|⟨a,b,c,d,ne⟩
 ·lia
 ·lia
 ·by_cases q:k<lcp x y
  ·have:=Lx x y k q;rw[c,d]at this;exact absurd (Qk this) ne
  ·lia
theorem Pd:∀ (x y z:List Nat),#[tY,y,x,z,y]\/#[tY,y,y,z,x]\/#[tY,z,x,y,y]
 | [],y,z=>.inr (.inl #[ou,lcp_nil',lcp_nil'])
 | x,[],z=>.inl #[ou,U5,lcp_nil']
 | x,y,[]=>.inr (.inr #[ou,U5,U5])
 | a::r,b::s,c::t=>by
  have ih:=Pd r s t;unfold lcp;by_cases f:a=b
  ·by_cases d:b=c
   ·rw[if_pos f,if_pos d,if_pos (f.trans d)];lia
   ·rw[if_pos f,if_neg d,if_neg λe=>d #[qL]];lia
  ·rw[if_neg f];by_cases d:b=c
   ·rw[if_pos d,if_neg λe=>f #[qM]];lia
   ·rw[if_neg d];lia
noncomputable abbrev cds(z:aj):List Nat:=z.cps.toList
def AZ(z:aj):Prop:=∀c∈cds z,97<=c/\c<=122
theorem Lw(x y:aj):cds (x++y)=cds x++cds y:=by show (x++y).cps.toList=_;rw[PySem.Str.cps_append];simp
theorem AZ.app{x y:aj}(a:AZ x)(b:AZ y):AZ (x++y):=λc h=>by rw[Lw]at h;exact(Qg.mp h).elim (a c) (b c)
theorem AZ.nil:AZ "":=by unfold AZ cds;ac_rfl
theorem AZ.join:∀ys:List aj,(∀s∈ys,AZ s)->AZ (aj.join "" ys)
 | [],_=>λc h=>by cases (show c∈([]:List Nat) from h)
 | [x],h=>h x #[4]
 | x::y::r,h=>((h x #[4]).app AZ.nil).app (AZ.join (y::r) λs a=>h s (Qu _ a))
theorem AZ.joinT(ys:#[y])(h:∀s∈ys,AZ s):AZ (Txt.join "" ys):=by
 have e:Txt.join "" ys=aj.join "" ys:=by simpa using join_plain_closes "" ys
 rw[e];exact AZ.join ys h
theorem AZ.one{z:aj}(a:AZ z){k:Nat}{c:Nat}(h:z.cps.toList[k]? = U c):AZ #[pd]:=λd hd=>by
 have e:d=c:=by simpa using hd
 rw[e];exact a c (Qo h)
theorem AZ.ok{z:aj}(a:AZ z):ax.strOk z=true:=by unfold ax.strOk;rw[Array.all_eq_true];intro i hi;have:=a z.cps[i] #[4];exact #[fN]
def SK:Sp:=λvs H Q _=>X2 λx y:aj=>vs=[.str x,.str y]/\x.length<=1000/\y.length<=1000/\Q #[nX,lcp] H
def SJ:Sp:=λvs H Q _=>X3 λ(x y:aj) (far:Nat)=>vs=#[sx]/\x.length<=1000/\y.length<=1000/\far<=lcp #[aT] #[bE]/\Q #[nX,lcp] H
def IsD(H:Hp):Nat->V->V->Prop
 | 0,_,_=>False
 | n+1,x,y=>(x=y/\(x=.non\/(∃b,x=.bl b)\/(∃i,x=.int i)\/∃s,x=.str s)) \/
   (X4 λ(p q:ae) (xs ys:List V)=>x=.ref p/\y=.ref q/\((H p=U #[ha]/\H q=U #[gd])\/(H p=U #[71]/\H q=U (.tup ys)))/\xs.length=ys.length/\xs.length<=1000/\∀ (i:Nat) (x y:V),xs[i]? = U x->ys[i]? = U y->IsD H n x y)
section
variable (K:#[7])
open PySem.W
theorem Lv:kitOne K #[ka] #[ka]=U true:=by unfold kitOne kitCls;rfl
theorem Zn4:kitOne K #[jS] #[fE,"bool"]=U false:=by unfold kitOne kitCls;rfl
theorem Zl8:kitOne K #[jS] #[jS]=U true:=by unfold kitOne kitCls;rfl
universe E
section
variable {P:ar} {w:aA} {K:#[7]} {mg:aj->Option aa} {base:aE} {aB ao:ae}
theorem ZrM(T:#[n]):Df P w K mg base 1 "_law_mix" #[co] Pg:=by
 show#[cE,T.t_l_mix.df,LQ,b,hr];show#[eq,a,k,k1,k2];refine⟨_,#[Zg,#[ZB,2,LQ.nd,#[3],#[ZJ,UF,#[ZJ,VL,#[ZJ,YL,#[ZJ,YL,#[ZJ,UF,‹0›,#[Zi]],#[ZJ,VL,#[nJ,VL,1,1],#[Zi]]],#[Zi]],#[Zi]],#[Zi]]],#[Zj,#[Zn,#[ZJ,UF,#[nJ,VL,2,2],#[Zi]]]]],_,rfl,_,_,rfl,rfl,#[iv],_,rfl,_,rfl,_,_,rfl,rfl,.inl #[57],_,_,rfl,rfl,.inr #[gq],_,_,rfl,rfl,_,_,rfl,rfl,_,_,rfl,rfl,.inr #[gq],_,_,rfl,rfl,#[iv],?_⟩;have m0:=Int.emod_nonneg #[k4] (show (2147483647:Int)≠0 by decide);have m1:=QaQ #[k4] (show (0:Int)<2147483647 by decide);refine⟨_,rfl,_,rfl,_,_,rfl,rfl,.inl #[57],_,_,rfl,rfl,#[iv],?_⟩;exact q _ (Int.emod_nonneg _ #[6]) (Int.lt_trans (QaQ _ #[6]) #[6])
theorem ZpH(T:#[n]):Df P w K mg base 1 "_law_left" #[gt] (LC K):=by
 show#[cE,T.t_l_left.df,LP,g,hr];obtain⟨a,ns,k,rfl,d,uK,k0,k1,q⟩:=h;refine⟨_,#[Zg,#[ZB,2,LP.nd,#[3],#[Xz,#[cR,Xg,1,#[r]],#[eL,0,1],#[Zi]]],#[Zj,#[Zn,#[Ym,#[Zc,#[ZJ,VL,#[kt],#[XQ,Ts,T.b.n_int,boot_int,#[Zc,#[WY,RR,#[kt],#[ZJ,Zrv,#[Zi],#[Zi]],#[h4]]]]],#[ZJ,YL,‹2›,#[ZJ,VL,#[Zi],‹1›]],#[Zi]]]]]],?_⟩;have i:#[z].length=ns.length:=Qa _;have pw:Ny 10 18:=⟨by decide,by decide,by decide⟩;refine⟨_,rfl,_,rfl,a,_,rfl,.inl d,_,_,rfl,rfl,_,rfl,?_⟩;show#[d3,c]
 ·have e:k<#[bg]:=of_decide_eq_true c;rw[i]at e;obtain⟨v,j⟩:=ZsB (ns:=ns) k0 e;refine⟨_,rfl,_,rfl,a,_,_,_,rfl,rfl,d,j,_,rfl,_,rfl,_,rfl,_,rfl,_,_,rfl,rfl,pw,_,_,rfl,rfl,.inr #[ad]⟩;exact #[le]
 ·refine⟨_,rfl,_,rfl,_,rfl,_,rfl,_,_,rfl,rfl,pw,_,_,rfl,rfl,.inr #[ad]⟩;exact #[le]
theorem ZqK(T:#[n])(j:#[qX]):Df P w K mg base 2 "_law_pick" #[g5] T8:=by
 show#[cE,T.t_l_pick.df,LO,t,k];obtain⟨p,c,m,rfl,⟨a,b,l,c0⟩,c1,i,m1,q⟩:=h;refine⟨_,#[Zg,#[Yv,#[ZJ,YL,#[72],#[Zi]],#[WJ,‹0›,#[Zi],MU]],#[Zg,#[Y0,#[nG,WZ,#[72]],#[Zg,#[ZB,2,LO.nd,#[3],#[ZJ,UF,#[72],‹1›]],#[Zg,#[Yv,#[ZJ,RS,#[72],‹1›],#[WJ,‹0›,#[Zi],MU]],#[aP]]],#[ZM]],#[Zj,#[Zn,#[ZJ,UF,#[ZJ,RS,#[ZE,j,k,#[Zc,#[ZE,j,k,#[Zc,#[72],#[72]],#[5]],#[ZJ,YL,#[72],#[Zi]]],#[5]],#[Zi]],‹1›]]]]],?_⟩;show#[tZ,g,H,p,#[mn],#[mn]];refine⟨_,rfl,p,_,_,_,rfl,rfl,SqL.of l,rfl,_,_,rfl,rfl,_,rfl,p,_,_,2,rfl,rfl,l,rfl,_,rfl,p,_,_,_,rfl,rfl,SqL.of g,rfl,_,_,rfl,rfl,_,rfl,?_⟩;show#[iD]
 ·refine⟨_,rfl,p,_,_,_,rfl,rfl,SqL.of g,rfl,_,rfl,_,_,rfl,rfl,i,_,rfl,p,_,_,_,rfl,rfl,SqL.of g,rfl,_,rfl,_,_,rfl,rfl,⟨i,by lia⟩,_,rfl,p,_,_,0,rfl,rfl,g,rfl,_,rfl,?_⟩;refine q _ _ #[sG] (QaQ _ i) ⟨a / m,b,Zb,by lia⟩ λe o h n=>?_;rw[Ze n,Ze n];exact h
 ·refine⟨_,rfl,p,_,_,_,rfl,rfl,SqL.of g,rfl,_,rfl,p,_,_,_,rfl,rfl,SqL.of g,rfl,_,_,rfl,by lia,by lia,λr r0 r1=>?_⟩;refine⟨_,rfl,p,_,_,_,rfl,rfl,SqL.of g,rfl,_,_,rfl,rfl,_,_,rfl,by lia,by lia,λr' r0' gC=>?_⟩;refine⟨_,_,rfl,rfl,#[gq],_,rfl,_,_,rfl,rfl,i,?_⟩;refine q _ _ #[sG] (QaQ _ i) ⟨a,b,Zb,by lia⟩ λe o h n=>?_;rw[Ze n];exact h
theorem ZgS(T:#[n]):Df P w K mg base 1 "alike_from" #[24] SJ:=by
 show#[cE,T.t_alike_from.df,Pw,C,hr];obtain⟨x,y,far,rfl,o,p,D,q⟩:=h;refine⟨_,#[Zg,#[nY,Pw.nd,2],#[Zg,(@UG _ _ _ _ _ _ ba.never (@PW.pt _ _ _ #[WK,#[er,Xg,3],#[WK,#[d4,Xg,3],(@VP _ _ _ _ #[Zm,YG,#[oi,0,3],#[oi,1,3],#[h4]])]]) #[Zj,(@NF _ _ 3 _ _ _ _ _ _ Pw.nd rfl #[3] #[Zi] NE (by trivial))]),#[dH,3]]],_,rfl,?_⟩;have lx:#[aT].length=x.length:=by simp[aj.length]
 have ly:#[bE].length=y.length:=by simp[aj.length]
 have ll:=VZ #[aT] #[bE];refine⟨λm r d=>∃k:Nat,r=[U (.str x),U (.str y),U (.int far),U (.int k)]/\d=H/\k<=lcp #[aT] #[bE]/\m=lcp #[aT] #[bE]-k,⟨_,far,rfl,rfl,D,rfl⟩,?_⟩;rintro m r d ⟨k,rfl,rfl,c,rfl⟩;refine⟨_,rfl,_,rfl,x,rfl,small o,_,_,rfl,rfl,_,rfl,?_⟩;show#[d3,g]
 ·have t:(k:Int)<(x.length:Int):=#[l8];refine⟨_,rfl,_,rfl,y,rfl,small p,_,_,rfl,rfl,_,rfl,?_⟩;show#[d3,i]
  ·have u:(k:Int)<(y.length:Int):=of_decide_eq_true i;obtain⟨a,j,F⟩:=T7 (z:=x) (k:=k) #[2] t;obtain⟨b,l,G⟩:=T7 (z:=y) (k:=k) #[2] u;rw[Qak]at j l;refine⟨_,rfl,_,rfl,x,_,a,rfl,rfl,small o,F,_,rfl,_,rfl,y,_,b,rfl,rfl,small p,G,rfl,_,rfl,?_⟩;show#[d3,n]
   ·have I:a=b:=by have:=of_decide_eq_true n;injection this with e;injection e with e;simpa using e
    subst I;have:=Ly _ _ k c a j l;refine⟨λv B=>v=[U (.str x),U (.str y),U (.int far),U (.int #[ej,k,1])]/\B=d,λv B ⟨J,L⟩=>⟨_,?_,k+1,J,L,this,rfl⟩,?_⟩
    ·lia
    ·exact⟨_,rfl,_,_,rfl,rfl,rfl,rfl⟩
   ·refine#[ge];have e:=Pe _ _ k c (.inr (.inr ⟨a,b,j,l,λe=>n (by subst e;exact decide_eq_true rfl)⟩));rw[e]at q;exact q
  ·refine YQ #[ge];have u:¬ (k:Int)<(y.length:Int):=of_decide_eq_false (Bool.eq_false_iff.mpr i);have e:=Pe _ _ k c (.inr #[jN]);rw[e]at q;exact q
 ·refine YQ #[ge];have t:¬ (k:Int)<(x.length:Int):=of_decide_eq_false (Bool.eq_false_iff.mpr g);have e:=Pe _ _ k c #[jN];rw[e]at q;exact q
theorem Znf(T:#[n])(a:#[hP]):Df P w K mg base 2 "alike" #[55] SK:=by
 show#[cE,T.t_alike.df,ZoU,b,c];show#[eq,x,y,d,e];refine⟨_,#[Zj,#[Zn,#[ZE,a,c,#[Zc,‹0›,‹1›,#[Zi]],#[5]]]],?_⟩;exact⟨_,rfl,_,rfl,x,y,0,rfl,d,e,Qt _,q⟩
theorem Xv{c A B:Prop}[Decidable c](hc:c)(h:A):if decide c=true then A else B:=by rw[if_pos (decide_eq_true hc)];exact h
theorem Xp{c A B:Prop}[Decidable c](hc:¬ c)(h:B):if decide c=true then A else B:=by rw[if_neg (by rw[decide_eq_false hc];exact Qz)];exact h
theorem YM.new{H:Hp}{p l:ae}{c:Int}{o:HO}(h:YM H p c)(n:H l=af):YM (upd H l o) p c:=by obtain⟨a,b,d,c0⟩:=h;exact⟨a,b,by rw[Ze (Zd d n)];exact d,c0⟩
theorem YM.ge{H:Hp}{p:ae}{c:Int}(h:YM H p c):0<=c:=by obtain⟨a,b,hp,c0⟩:=h;exact c0
theorem YM.here{H:Hp}{p:ae}{c:Int}(h:YM H p c):∃o,H p=U o:=by obtain⟨a,b,d,c0⟩:=h;exact⟨_,d⟩
theorem YM.at{H:Hp}{p l:ae}{c:Int}{o:HO}(h:YM H p c)(n:p≠l):YM (upd H l o) p c:=by obtain⟨a,b,d,c0⟩:=h;exact⟨a,b,by rw[Ze n];exact d,c0⟩
noncomputable def Xc(ss:#[y])(i:Nat):Int:=if i=0 then 0 else (lcp (cds (ss.getD (i-1) "")) (cds (ss.getD i "")):Nat)
def Pc(K:#[7]):Sp:=λvs H Q _=>X2 λ(a:ae) (ss:List aj)=>vs=#[iF]/\SqL K H a #[64]/\ss.length<=100/\#[bC] /\
 ∀ (r:ae) (b:Hp),H r=af->b r=U #[hl]->Zw H b->Q #[83] b
theorem ZmG(T:#[n])(O:#[jm]):Df P w K mg base 3 "alikes" ["row"] (Pc K):=by
 show#[cE,T.t_alikes.df,SX,R,S];obtain⟨a,c,rfl,v,hn,G,q⟩:=h;refine⟨_,#[Zg,#[dU,1,SX.nd],#[Zg,#[Xx,ba.never,#[o2,#[bp]],#[nu,2,SX.nd,3],#[Zj,#[Yf,#[Xw,QI,QS,QT,WW,‹1›,#[Zc,#[Xz,#[nS,2],#[Zi],#[ZE,O,S,#[Zc,#[d5,0,2],‹3›],#[5]]]]]]]],#[dH,1]]],#[29],λr B=>?_⟩;have I:Zw H (upd H r #[av]):=Zh B _;refine⟨_,rfl,a,c.map V.str,rfl,I.seq v,?_⟩;refine RB (K:=K) (a:=a) (xs:=c.map V.str) (λi C d=>(X2 λg k:Option V=>C=[U #[61],U #[83],g,k])/\d r=U (.lst #[aH])/\Zw H d/\i<=c.length) ⟨⟨af,af,rfl⟩,Zb,I,Qt _⟩ (λ_ _ _ W=>by obtain⟨_,_,l,_⟩:=W;exact l.seq v) ?_ ?_
 ·rintro i x C d p m ⟨⟨g,k,rfl⟩,n,l,X⟩ J;rw[Ql]at m;cases t:c[i]? with
  | none=>rw[t]at m;cases m
  | some y =>
   show#[cI,t,m,Y,i,c.length];have Z:r≠p:=Zd n J;have L:Zw H #[lw]:=l.trans (Zh J _);have D:#[lw] r=U (.lst #[aH]):=by rw[Ze Z];exact n
   have M:((List.range i).map λj=>V.int (Xc c j)).length<aq:=by rw[Qa,Qal];exact #[rC]
   have u:∀z:Int,z=Xc c i->(X2 λg k:Option V=>[U (V.ref a),U (V.ref r),U (V.int i),U (V.str y)]=[U #[61],U #[83],g,k]) /\
     (upd #[lw] r #[sH]) r=U (.lst ((List.range (i+1)).map λj=>.int (Xc c j))) /\
     Zw H (upd #[lw] r #[sH])/\i+1<=c.length:=λz e=>by
    refine⟨⟨_,_,rfl⟩,?_,λb o h=>?_,Y⟩
    ·rw[Zb,QaC,Qd,e];rfl
    ·show#[nv,h,B,L,b,o]
   refine⟨p,_,rfl,SqT.of Zb,rfl,_,_,rfl,_,_,rfl,rfl,_,rfl,.inl #[dl,D],_,rfl,rfl,_,rfl,?_⟩;by_cases N:i=0
   ·subst N;exact Xv rfl ⟨r,_,_,rfl,rfl,D,M,u 0 rfl⟩
   ·have F:i-1<c.length:=by lia
    have ei:((i:Int)-1)=#[fn,i]:=by lia
    have bF:atI (c.map V.str) ((i:Int)-1)=U (.str c[i-1]):=by rw[ei];exact Yz #[eK,F]
    refine Xp (λz=>by injection z with z;lia) ⟨_,rfl,_,rfl,_,_,rfl,rfl,a,_,_,_,rfl,rfl,L.seq v,bF,_,rfl,c[i-1],y,rfl,G _ (Q3 F),G _ (Qo t),r,_,_,rfl,rfl,D,M,u _ ?_⟩;unfold Xc;rw[if_neg N,Qq,Qq,Qb F,t];rfl
 ·rintro C d ⟨⟨g,k,rfl⟩,n,l,X⟩;rw[Qa]at n;exact⟨_,rfl,q r d B n l⟩
noncomputable def ZL:List Nat->List Nat->Int
 | [],[]=>0
 | [],_::_ =>-1
 | _::_,[]=>1
 | a::r,b::s=>if a=b then ZL r s else if a<b then -1 else 1
theorem Lu:∀ (x y:List Nat),Spec.ltCps y x=false->ZL x y<=0
 | [],[],_=>by unfold ZL;lia
 | [],_::_,_=>by unfold ZL;lia
 | _::_,[],h=>by unfold Spec.ltCps at h;cases h
 | a::r,b::s,h=>by
  have c:=Lu r s;unfold Spec.ltCps at h;unfold ZL;rw[Bool.or_eq_false_iff,Bool.and_eq_false_iff]at h;show#[c5,d,f,h];have h1':¬ b<a:=of_decide_eq_false d;by_cases e:a=b
  ·rw[if_pos e];rcases f with z|z
   ·rw[e]at z;simp at z
   ·exact c z
  ·rw[if_neg e,if_pos #[2]];lia
theorem U4:∀ (x y z:List Nat),ZL x y<=0->ZL y z<=0->ZL x z<=0
 | [],_,[],_,_=>by unfold ZL;lia
 | [],_,_::_,_,_=>by unfold ZL;lia
 | _::_,[],_,h,_=>by unfold ZL at h;lia
 | _::_,_::_,[],_,h=>by unfold ZL at h;lia
 | a::r,b::s,c::t,h1,h2=>by
  unfold ZL at h1 h2 ⊢;have g:=U4 r s t;by_cases f:a=b
  ·show#[n3,f,h1];by_cases d:b=c
   ·show#[q1];exact g h1 h2
   ·show#[fx,d,h2];rw[if_neg (λe=>d #[qL])];split at h2
    ·rw[if_pos #[2]];lia
    ·lia
  ·show#[fx,f,h1];split at h1
   ·by_cases d:b=c
    ·rw[if_neg (λe=>f #[qM]),if_pos #[2]];lia
    ·show#[fx,d,h2];split at h2
     ·rw[if_neg #[2],if_pos #[2]];lia
     ·lia
   ·lia
theorem Ls:∀ (ss:List aj) (p:aj),risingS p ss=true->∀ (k:Nat) (x y:aj),(p::ss)[k]? = U x->ss[k]? = U y->ZL #[aT] #[bE]<=0
 | [],p,_,k,x,y,_,h=>by simp at h
 | z::r,p,h,0,x,y,h1,h2=>by unfold risingS at h;rw[QU]at h;simp at h1 h2;subst h1 h2;exact Lu _ _ #[cG,h.1]
 | z::r,p,h,k+1,x,y,h1,h2=>by unfold risingS at h;rw[QU]at h;exact Ls r z h.2 k x y #[cG,h1] #[cG,h2]
theorem Lr{ss:#[y]}(h:#[rv])(k:Nat)(x y:aj)(h1:ss[k]? = U x)(h2:ss[k+1]? = U y):ZL #[aT] #[bE]<=0:=by
 cases ss with
 | nil=>simp at h1
 | cons p r=>exact Ls r p h k x y h1 #[cG,h2]
theorem Lq{ss:#[y]}{k:Nat}(h:k<ss.length):atI #[64] (k:Int)=U (.str ss[k]):=Yz #[eK,h]
theorem Zo8(xs:#[jr])(i j:Nat)(h:i<=xs.length)(h2:j<=xs.length):WI xs (U i) (U j)=(xs.drop i).take (j-i):=by
 have e:∀ (k d:Nat),k<=xs.length->HT.sIx xs.length d (U (k:Int))=k:=λk d hk=>by unfold HT.sIx;simp only[];show#[jY];lia
 unfold WI;rw[e i _ h,e j _ h2]
theorem YM.same{H a:Hp}{p:ae}{c:Int}(h:YM H p c)(s:Zw H a):YM a p c:=by obtain⟨b,d,hb,c0⟩:=h;exact⟨b,d,s _ _ hb,c0⟩
noncomputable def mid(ns:#[i]):Nat:=(ns.length+1) / 2
noncomputable def XH(ns:#[i]):List Int:=ns.take (mid ns)
noncomputable def WD(ns:#[i]):List Int:=ns.drop (mid ns)
theorem ZpO(ns:#[i]):(#[bg]+1) / 2=((mid ns:Nat):Int):=by rw[Qa];unfold mid;lia
theorem Zse(ns:#[i])(m:Nat)(h:m<=ns.length):WI #[z] af #[tq]=(ns.take m).map V.int:=by
 unfold WI;have e:HT.sIx #[z].length #[z].length #[tq]=m:=by unfold HT.sIx;show#[rx];lia
 have a:HT.sIx #[z].length 0 af=0:=rfl;rw[e,a,List.drop_zero,Nat.sub_zero,List.map_take]
theorem Znu(ns:#[i])(m:Nat)(h:m<=ns.length):WI #[z] #[tq] af=(ns.drop m).map V.int:=by
 unfold WI;have e:HT.sIx #[z].length 0 #[tq]=m:=by unfold HT.sIx;show#[rx];lia
 have a:HT.sIx #[z].length #[z].length af=#[z].length:=rfl;rw[e,a,List.map_drop,Qw #[oL,Q7,Qa]]
theorem Pb(z:aj):(cds z).length=z.length:=by simp[aj.length]
theorem Lp:∀ (x y:List Nat),(lcp x y=x.length->lcp x y=y.length->ZL x y=0)/\(lcp x y=x.length->lcp x y≠y.length->ZL x y = -1)/\(lcp x y≠x.length->lcp x y=y.length->ZL x y=1) /\
  ∀a b,x[lcp x y]? = U a->y[lcp x y]? = U b->ZL x y=if a<b then -1 else 1
 | [],[]=>⟨λ_ _=>rfl,λ_ h=>absurd rfl h,λh _=>absurd rfl h,λa b h _=>by simp at h⟩
 | [],_::_=>⟨λ_ h=>by unfold lcp at h;simp at h,λ_ _=>rfl,λh _=>absurd rfl h,λa b h _=>by simp at h⟩
 | _::_,[]=>⟨λh _=>by unfold lcp at h;simp at h,λh _=>by unfold lcp at h;simp at h,λ_ _=>rfl,λa b _ h=>by simp at h⟩
 | a::r,b::s=>by
  obtain⟨h1,h2,h3,f⟩:=Lp r s;unfold lcp ZL;by_cases e:a=b
  ·show#[fe,e];simp only[List.length_cons,List.getElem?_cons_succ];exact⟨λp q=>h1 #[2] #[2],λp q=>h2 #[2] #[2],λp q=>h3 #[2] #[2],f⟩
  ·show#[e7,e,e];simp only[List.length_cons,List.getElem?_cons_zero];refine⟨λp=>by lia,λp=>by lia,λ_ p=>by lia,λc d p q=>?_⟩;cases p;cases q;rfl
theorem Xu:∀ (x y:List Nat),ZL y x =-ZL x y
 | [],[]=>rfl
 | [],_::_=>rfl
 | _::_,[]=>rfl
 | a::r,b::s=>by
  have c:=Xu r s;unfold ZL;by_cases e:a=b
  ·rw[if_pos e,if_pos e.symm,c]
  ·rw[if_neg e,if_neg λz=>e z.symm];by_cases l:a<b
   ·rw[if_pos l,if_neg #[2]];rfl
   ·rw[if_neg l,if_pos #[2]]
theorem ZrV(a b:Nat):decide ((⟨#[a]⟩:aj).cps.toList<(⟨#[b]⟩:aj).cps.toList)=decide (a<b):=by
 have e:([a]:List Nat)<[b]↔a<b:=by
  constructor
  ·intro h;cases h with
   | rel h=>exact h
   | cons h=>cases h
  ·exact λh=>List.Lex.rel h
 exact decide_eq_decide.mpr e
theorem Wh:∀x:List Nat,ZL x x=0
 | []=>rfl
 | a::r=>by unfold ZL;show#[jc];exact Wh r
theorem U3:∀ (x y:List Nat),ZL x y=0->x=y
 | [],[],_=>rfl
 | [],_::_,h=>by unfold ZL at h;lia
 | _::_,[],h=>by unfold ZL at h;lia
 | a::r,b::s,h=>by
  unfold ZL at h;by_cases e:a=b
  ·show#[n3,e,h];rw[e,U3 r s h]
  ·show#[sj];split at h<;>lia
def SI:Sp:=λvs H Q _=>X2 λx y:aj=>vs=[.str x,.str y]/\x.length<=1000/\y.length<=1000/\Q #[nX,ZL] H
def SH:Sp:=λvs H Q _=>X2 λx y:aj=>vs=[.str x,.str y,.int #[o]]/\x.length<=1000/\y.length<=1000/\Q #[nX,ZL] H
theorem Znl(T:#[n]):Df P w K mg base 1 "order_at" #[aC] SH:=by
 show#[cE,T.t_order_at.df,Zi9,r,hr];show#[eq,x,y,g,i];refine⟨_,#[Zg,#[Y0,(@PW.pt _ _ _ #[WK,#[er,YG,2],(@VP _ _ _ _ #[d4,YG,2])]),#[Zj,#[Zn,#[Zi]]],#[ZM]],#[Zg,#[Y0,#[er,YG,2],#[Zj,#[Zn,#[gk]]],#[ZM]],#[Zg,#[Y0,#[d4,YG,2],#[Zj,#[Zn,#[Zi]]],#[ZM]],#[Zj,#[Zn,#[Xz,#[Zm,Zmi,#[oi,0,2],#[oi,1,2],#[h4]],#[gk],#[Zi]]]]]]],?_⟩;obtain⟨t,u,v,B⟩:=Lp #[aT] #[bE];have ll:=VZ #[aT] #[bE];have lx:=Pb x;have ly:=Pb y;have inj:∀ {m n:Nat},V.int (m:Int)=V.int (n:Int)->m=n:=λ{m n} e=>by injection e with e;lia
 refine⟨_,rfl,_,rfl,x,rfl,small g,rfl,_,rfl,Y2 #[79] #[79]⟩
 ·have j:=inj #[gb];refine#[gG]
  ·have l:=#[rA];rw[t #[2] #[2]]at q;exact q
  ·have l:#[qz]:=λe=>c #[gx];refine⟨_,rfl,_,rfl,x,rfl,small g,rfl,_,rfl,Xv (by rw[j]) ?_⟩;rw[u #[2] #[2]]at q;exact⟨_,rfl,q⟩
 ·have j:¬ lcp #[aT] #[bE]=x.length:=λe=>d #[gx];refine YQ ⟨_,rfl,_,rfl,x,rfl,small g,rfl,_,rfl,Xp (λe=>j (inj e)) ?_⟩;refine#[gG]
  ·have l:=#[rA];rw[v #[2] #[2]]at q;exact q
  ·have l:#[qz]:=λe=>c #[gx];obtain⟨a,o,C⟩:=T7 (z:=x) (k:=#[o]) #[2] #[2];obtain⟨b,p,D⟩:=T7 (z:=y) (k:=#[o]) #[2] #[2];rw[Qak]at o p;refine⟨_,rfl,_,rfl,x,_,a,rfl,rfl,small g,C,_,rfl,_,rfl,y,_,b,rfl,rfl,small i,D,_,_,rfl,rfl,_,rfl,?_⟩;rw[ZrV];rw[B a b o p]at q;show#[d3,e]
   ·rw[if_pos (of_decide_eq_true e)]at q;exact⟨_,rfl,q⟩
   ·rw[if_neg (λz=>e #[75])]at q;exact q
theorem Znt(T:#[n])(d:#[jm])(e:#[ig]):Df P w K mg base 3 "liken" #[55] SI:=by
 show#[cE,T.t_liken.df,Znw,g,a];show#[eq,x,y,b,c];refine⟨_,#[Zj,#[Zn,#[ZE,e,a,#[Zc,‹0›,‹1›,#[tS,d,a]],#[5]]]],?_⟩;exact⟨_,rfl,_,rfl,_,rfl,_,rfl,x,y,rfl,b,c,x,y,rfl,b,c,q⟩
theorem ZqS{p:ae}{H a:Hp}{l:ae}(B:But p H a)(n:p≠l)(h:a l=af):H l=af:=by
 cases b:H l with
 | none=>rfl
 | some u=>rw[B l u b n.symm]at h;cases h
theorem Pa{c A B:Prop}[Decidable c](hc:¬ c)(h:A):if (!decide c)=true then A else B:=by rw[if_pos (by rw[decide_eq_false hc];rfl)];exact h
def O9:Sp:=λvs H Q _=>X3 λ(x y:aj) (far:Nat)=>vs=#[sx]/\x.length<=1000/\y.length<=1000/\far<=lcp #[aT] #[bE] /\
 ∀t,H t=af->Q #[i9] (upd H t #[20])
theorem Zg3(T:#[n])(d:#[hP])(e:#[ig]):Df P w K mg base 2 "liken_from" #[24] O9:=by
 show#[cE,T.t_liken_from.df,LN,g,a];obtain⟨x,y,far,rfl,b,c,i,q⟩:=h;refine⟨_,#[Zg,#[ZB,3,LN.nd,#[3],#[ZE,d,a,#[ey,0,1,2],#[5]]],#[Zj,#[Zn,#[ZO,#[Zc,#[ZE,e,a,#[ey,0,1,3],#[5]],‹3›,#[ZJ,YL,#[nJ,Xh,3,2],#[Zi]]]]]]],_,rfl,_,rfl,_,rfl,x,y,far,rfl,b,c,i,_,rfl,_,rfl,_,rfl,x,y,rfl,b,c,_,rfl,_,rfl,_,rfl,_,_,rfl,rfl,_,_,rfl,rfl,#[K],λt j=>?_⟩;exact q t j
def T6(ss:#[y])(v:V):Prop :=
 (v=.non/\∀i x y,ss[i+1]? = U x->ss[i]? = U y->0<=ZL #[aT] #[bE]) \/
 ∃k:Nat,v=.int #[ej,k,1]/\k+1<ss.length/\(∀x y,ss[k+1]? = U x->ss[k]? = U y->ZL #[aT] #[bE]<0)/\∀i,i<k->∀x y,ss[i+1]? = U x->ss[i]? = U y->0<=ZL #[aT] #[bE]
theorem ZqG{ss:#[y]}{v g:V}(h:T6 ss v)(h':T6 ss g):v=g:=by
 rcases h with⟨rfl,a⟩|⟨k,rfl,l,b,c⟩
 ·rcases h' with⟨rfl,_⟩|⟨k',rfl,d,f,_⟩
  ·rfl
  ·have:=a k' _ _ (Qb d) #[ml];have:=f _ _ (Qb d) #[ml];lia
 ·rcases h' with⟨rfl,a⟩|⟨k',rfl,d,f,i⟩
  ·have:=a k _ _ (Qb l) #[ml];have:=b _ _ (Qb l) #[ml];lia
  ·have e:k=k':=by
    rcases Nat.lt_trichotomy k k' with h|h|h
    ·have:=i k h _ _ (Qb l) #[ml];have:=b _ _ (Qb l) #[ml];lia
    ·exact h
    ·have:=c k' h _ _ (Qb d) #[ml];have:=f _ _ (Qb d) #[ml];lia
   rw[e]
def O8(K:#[7]):Sp:=λvs H Q _=>X2 λ(a:ae) (ss:List aj)=>vs=#[iF]/\SqL K H a #[64]/\ss.length<=200/\#[bC]/\∀ (v:V) (b:Hp),T6 ss v->Zw H b->Q v b
theorem Zns(T:#[n])(t:#[jl]):Df P w K mg base 4 "first_break" ["keys"] (O8 K):=by
 show#[cE,T.t_first_break.df,LM,u,B];obtain⟨a,b,rfl,n,hn,p,q⟩:=h;refine⟨_,#[Zg,#[Xx,ba.never,#[VN,T.b.n_range,#[Zc,#[Zi],#[r]]],#[oc,1,LM.nd],#[Zj,#[Y0,#[Zm,Xg,#[ZE,t,B,#[Zc,#[eL,0,1],#[d5,0,1]],#[5]],#[Zi],#[h4]],#[dH,1],#[ZM]]]],#[Zj,#[Zn,#[YN]]]],?_⟩;have hl:#[cU,b.map,V.str]=(b.length:Int):=by rw[Qa]
 refine⟨_,rfl,a,_,rfl,.inl n,_,_,rfl,#[bA],?_⟩;refine VM (λi o k=>(∃v:Option V,o=[U #[61],v])/\Zw H k/\∀j,j<i->∀x y,b[j+1]? = U x->b[j]? = U y->0<=ZL #[aT] #[bE]) ⟨⟨af,rfl⟩,Zw.refl H,λj h=>by lia⟩ ?_ ?_
 ·rintro i o k hi ⟨⟨v,rfl⟩,g,m⟩;have l:i+1<b.length:=by lia
  have r:(1+(i:Int))=#[ej,i,1]:=by lia
  have C:(1+(i:Int)-1)=#[eb,i]:=by lia
  refine⟨_,rfl,_,rfl,a,_,_,_,rfl,rfl,g.seq n,#[dj,r,Lq,l],_,rfl,_,rfl,_,_,rfl,rfl,a,_,_,_,rfl,rfl,g.seq n,#[dj,C,Lq,#[2]],b[i+1],b[i],rfl,p _ (Q3 l),p _ (Q3 #[2]),_,_,rfl,rfl,_,rfl,?_⟩;show#[iD]
  ·have D:ZL (cds b[i+1]) (cds b[i])<0:=#[58];refine⟨_,rfl,q _ k (.inr ⟨i,by rw[r],l,λx y c e=>?_,m⟩) g⟩;show#[l6];lia
  ·have D:¬ ZL (cds b[i+1]) (cds b[i])<0:=#[l1];refine⟨⟨_,rfl⟩,g,λj hj x y c e=>?_⟩;by_cases F:j=i
   ·subst F;show#[l6];lia
   ·exact m j #[2] x y c e
 ·rintro o k ⟨⟨v,rfl⟩,g,m⟩;refine q _ k (.inl ⟨rfl,λj x y c e=>?_⟩) g;have:=(Qc.mp c).1;exact m j #[2] x y c e
def SG(K:#[7])(tup:Bool):Sp:=λvs H Q _=>X2 λ(a:ae) (ns:List Int)=>vs=#[iF]/\SqL K H a #[z]/\ns.length<=100 /\
 ∀ (t f r:ae) (b:Hp),H t=af->H f=af->H r=af->f≠r->b t=U (if tup=true then .tup #[nZ,f,r] else .lst #[nZ,f,r])->b f=U (.lst ((XH ns).map V.int))->b r=U (.lst ((WD ns).map V.int))->Zw H b->t≠f->t≠r->Q #[i9] b
theorem ZnA{H:Hp}{f r t:ae}{A B T:HO}(i:H f=af)(a:(upd H f A) r=af)(ht:#[ga] t=af) :
  H r=af/\H t=af/\f≠r/\t≠f/\t≠r/\#[rS] f=U A/\#[rS] r=U B/\Zw H #[rS]:=by
 have b:f≠r:=Zd (H:=upd H f A) (o:=A) Zb a;have c:#[ga] f=U A:=by rw[Ze b];exact Zb
 have d:f≠t:=Zd c ht;have e:r≠t:=Zd (H:=upd (upd H f A) r B) (o:=B) Zb ht;have g:Zw H (upd H f A):=Zh i _;have h:=g.trans (Zh a B);have j:=h.trans (Zh ht T);exact⟨g.free a,h.free ht,b,d.symm,e.symm,by rw[Ze d];exact c,by rw[Ze e];exact Zb,j⟩
theorem ZmI(T:#[n]):Df P w K mg base 1 "halves" ["numbers"] (SG K true):=by
 show#[cE,T.t_halves.df,LL,j,hr];show#[eq,a,b,c,hn];refine⟨_,#[Zg,#[ZB,1,LL.nd,#[3],#[ZJ,RS,#[ZJ,YL,#[r],#[Zi]],#[Zi]]],#[Zj,#[Zn,#[ZO,#[Zc,(@RL _ _ _ _ _ _ _ _ _ _ (slL K) ‹0› (@MY _) #[oE,1]),(@RL _ _ _ _ _ _ _ _ _ _ (slL K) ‹0› #[oE,1] (@MY _))]]]]],_,rfl,a,_,rfl,.inl c,_,_,rfl,rfl,_,_,rfl,rfl,#[gq],?_⟩;have k:mid b<=b.length\/b=[]:=by
  cases b with
  | nil=>exact #[ti]
  | cons x r=>left;unfold mid;rw[QF];lia
 have g:mid b<=b.length:=by
  rcases k with h|h
  ·exact h
  ·subst h;decide
 have m:=ZpO b;simp only[m];refine⟨_,rfl,_,rfl,_,rfl,a,_,rfl,c,λl d=>?_⟩;refine⟨_,rfl,_,rfl,_,rfl,a,_,rfl,(Zh d _).seq c,λr i=>⟨#[w],λt e=>?_⟩⟩;rw[Zse b _ g]at i e ⊢;rw[Znu b _ g]at e ⊢;obtain⟨z1,z2,z3,z4,z5,z6,z7,z8⟩:=ZnA (T:=.tup #[nZ,l,r]) d i e;exact q t l r _ z2 d z1 z3 Zb z6 z7 z8 z4 z5
theorem VY(f:aj)(v:V):∀fs:List (aj×V),#[pX].length<=fs.length+1
 | []=>Qh _
 | p::r=>by
  unfold Zu;split
  ·exact Qaq _
  ·exact Nat.succ_le_succ (VY f v r)
noncomputable def Yr(k f:ae)(g:Int):List (aj×V):=Zu "gone" (.int g) (Zu "fars" #[a1] #[qR])
theorem nGF:¬ #[e0,"fars","gone"]:=by ac_rfl
theorem nGK:¬ #[e0,"all_keys","gone"]:=by ac_rfl
theorem nFK:¬ #[e0,"all_keys","fars"]:=by ac_rfl
theorem O7(k f:ae)(g:Int):#[iV].lookup ("all_keys" : aj)=U (.ref k):=by unfold Yr;rw[Zo,if_neg nGK,Zo,if_neg nFK,Zo,if_pos rfl]
theorem T5(k f:ae)(g:Int):#[iV].lookup ("gone" : aj)=U (.int g):=by unfold Yr;rw[Zo,if_pos rfl]
theorem O6(k f:ae)(g:Int){m:aj}(h1:¬ m = "gone")(h2:¬ m = "fars")(h3:¬ m = "all_keys"):#[iV].lookup m=af:=by unfold Yr;rw[Zo,if_neg h1,Zo,if_neg h2,Zo,if_neg h3];rfl
structure SF (C:ae) (H:Hp) (p k f:ae) (ss:#[y]) (g:Nat):Prop where
 ob:∃dx,H p=U (.ins C dx #[iV])
 ks:H k=U #[mo]
 fs:H f=U #[hl]
def O5(C:ae):Sp:=λvs H Q _=>X5 λ(p k f:ae) (ss:List aj) (g:Nat)=>vs=#[hd]/\SF C H p k f ss g/\Q (.int (#[rT]-(g:Int))) H
theorem ZpR(T:#[n]):Mf P w K mg base 1 aB "to_go" #[V] (O5 aB):=by
 show#[cE,T.t_Row_to_go.mf,Zh8,c,hr];obtain⟨p,k,f,d,g,rfl,R,q⟩:=h;refine⟨_,#[Zj,#[Zn,#[ZJ,Xh,#[Zk,(YX K),#[5],T.b.n_len,Qv,#[Zc,#[W]]],#[W]]]],?_⟩;obtain⟨⟨a,b⟩,e,hf⟩:=R;refine⟨_,rfl,p,aB,a,_,_,rfl,b,T.cl_Row,T.na_Row_all_keys,O7 _ _ _,k,_,rfl,.inl (SqL.of e),_,rfl,p,aB,a,_,_,rfl,b,T.cl_Row,T.na_Row_gone,T5 _ _ _,_,_,rfl,rfl,?_⟩;rw[Qa];exact q
noncomputable def Wg(ss:#[y])(g:Nat):V:=match ss[g]? with
 | some z=>.str z
 | none=>.non
def U2(C:ae):Sp:=λvs H Q _=>X5 λ(p k f:ae) (ss:List aj) (g:Nat)=>vs=#[hd]/\SF C H p k f ss g/\Q (Wg ss g) H
theorem Zqc(T:#[n])(i:#[jq]):Mf P w K mg base 2 aB "head" #[V] (U2 aB):=by
 show#[cE,T.t_Row_head.mf,ZjS,j,l];obtain⟨p,k,f,a,g,rfl,R,q⟩:=h;refine⟨_,#[Zj,#[Zn,#[Xz,#[Zm,WZ,#[Yb,i,T.cl_Row,l,‹0›],#[Zi],#[h4]],#[Zx,#[lz],#[W],#[W]],#[YN]]]],?_⟩;obtain⟨⟨b,c⟩,m,hf⟩:=id R;refine⟨_,rfl,p,b,_,rfl,c,O6 _ _ _ #[1] #[1] #[1],p,k,f,a,g,rfl,R,_,_,rfl,rfl,_,rfl,?_⟩;show#[iD]
 ·have n:#[lM]<#[h3]-(g:Int):=#[58];have e:g<a.length:=by lia
  refine⟨_,rfl,p,aB,b,_,_,rfl,c,T.cl_Row,T.na_Row_all_keys,O7 _ _ _,_,rfl,p,aB,b,_,_,rfl,c,T.cl_Row,T.na_Row_gone,T5 _ _ _,k,_,_,_,rfl,rfl,SqL.of m,Yz #[eK,e],?_⟩;unfold Wg at q;rw[Qb e]at q;exact q
 ·have n:¬ #[lM]<#[h3]-(g:Int):=#[l1];unfold Wg at q;rw[QM #[2]]at q;exact q
def Ln(C:ae):Sp:=λvs H Q _=>X4 λ(p dx a:ae) (ss:List aj)=>vs=#[nZ,p,a]/\H p=U (.ins C dx [])/\H a=U #[mo]/\ss.length<=100/\#[bC] /\
 ∀ (k f:ae) (c:Hp),H k=af->H f=af->k≠f->SF C c p k f ss 0->#[dO,H,p,c]->Q .non c
theorem Zkq(T:#[n])(z:#[sl]):Cf P w K mg base 4 aB "Row" #[kc] (Ln aB):=by
 show#[cE,T.t_Row_init.cf,Zjz,B,C];obtain⟨p,c,a,d,rfl,m,i,D,F,q⟩:=h;refine⟨_,#[Zg,#[Xq,‹0›,#[XQ,(MD K),T.b.n_list,boot_list,#[Zc,‹1›]]],#[Zg,#[Xq,‹0›,#[fG,z,C,1]],#[Zj,#[mz]]]],_,rfl,a,_,rfl,.inl (SqL.of i),λk j=>?_⟩;have l:p≠k:=Zd m j;have G:a≠p:=λe=>by rw[e,m]at i;cases i
 have I:a≠k:=Zd i j;refine⟨_,rfl,p,aB,c,[],rfl,(by rw[Ze l];exact m),T.cl_Row,T.na_Row_all_keys,#[o4,0],?_⟩;have J:#[X] a=U #[ff,d.map]:=by rw[Ze G,Ze I];exact i
 have r:#[X] p=U (.ins aB c #[qR]):=Zb;have v:#[X] k=U #[ff,d.map]:=by rw[Ze l.symm];exact Zb
 have x:#[e5,#[X]]:=λb o h n=>by rw[Ze n,Ze (Zd h j)];exact h
 refine⟨_,rfl,a,d,rfl,SqL.of J,D,F,λf H3 g L t=>?_⟩;have M:H f=af:=by
  cases N:H f with
  | none=>rfl
  | some u =>
   by_cases e:f=p
   ·show#[d9,e,r,g]
   ·rw[x f u N e]at g;cases g
 have O:k≠f:=Zd v g;have y:p≠f:=Zd r g;refine⟨_,rfl,p,aB,c,_,rfl,t _ _ r,T.cl_Row,T.na_Row_fars,#[o4,1],_,rfl,p,aB,c,_,rfl,Zb,T.cl_Row,T.na_Row_gone,?_,?_⟩
 ·have h1:=VY "all_keys" (V.ref k) [];have h2:=VY "fars" (V.ref f) (Zu "all_keys" (V.ref k) []);have h3:#[ri]:=rfl;lia
 ·refine q k f _ j M O ⟨⟨c,Zb⟩,?_,?_⟩ λb o h n=>?_
  ·rw[Ze l.symm,Ze l.symm];exact t _ _ v
  ·rw[Ze y.symm,Ze y.symm];exact L
  ·rw[Ze n,Ze n];exact t _ _ (x b o h n)
theorem Zkw{K:#[7]}{a:ae}{xs:#[jr]}{k:Nat}{D:ae}{c:L2.St}{h:Hp}{g:TG}{j:TT}{l:TE}{Q:VK}(Pv:#[23])(h0:#[cS,c,h])
  (hl:#[dz,ys,c])
  (r:∀i x ys c H,xs[i]? = U x->Pv i ys c H->g x c H λd s=>j d s λb n=>if b=true then l d n λy o=>o D=U #[gd]/\ys.length<aq/\Pv (i+1) #[pP] d #[tV,o] else Pv (i+1) ys d n)
  (hd:#[dB,ys,c,xs.length]):WG #[kN] D k c h g j l Q:=by
 show#[cY,ys,c,f];by_cases q:i<xs.length
 ·show#[c0,f,q,t,u];exact r i x ys c _ (e xs f) p
 ·have e:#[hv]:=by lia
  show#[fH,f,ys,c]
theorem WT{K:#[7]}{a:ae}{xs:#[jr]}{k:Nat}{D:ae}{b:L2.St}{d:Hp}{g:TG}{f:TE}{Q:VK}(Pv:#[23])(h0:#[bv])
  (hl:#[dz,ys,b])
  (n:#[56])
  (hd:#[b7]):WG #[kN] D k b d g WH f Q:=by
 show#[s];by_cases l:i<xs.length
 ·show#[28]
 ·have e:#[hv]:=by lia
  show#[76]
theorem Xo:∀x y:List Nat,x<y↔ZL x y<0
 | [],[]=>by unfold ZL;exact⟨λh=>absurd h #[4],λh=>absurd h #[2]⟩
 | [],_::_=>by unfold ZL;exact⟨λ_=>by lia,λ_=>List.nil_lt_cons _ _⟩
 | _::_,[]=>by unfold ZL;exact⟨λh=>absurd h (List.not_lt_nil _),λh=>absurd h #[2]⟩
 | a::r,b::s=>by
  have c:=Xo r s;unfold ZL;rw[List.cons_lt_cons_iff];by_cases e:a=b
  ·rw[if_pos e,<- c];exact⟨λh=>h.elim (λz=>by lia) (λz=>z.2),λh=>.inr ⟨e,h⟩⟩
  ·rw[if_neg e];by_cases l:a<b
   ·rw[if_pos l];exact⟨λ_=>by lia,λ_=>.inl l⟩
   ·rw[if_neg l];exact⟨λh=>h.elim (λz=>absurd z l) (λz=>absurd z.1 e),λh=>absurd h #[2]⟩
theorem ZrL{K:#[7]}{H:Hp}{a:ae}{xs:#[jr]}(h:H a=U #[ha]):L2.tyV K "list" #[61] H:=.inl #[dl,h]
theorem AtT.mono{H a:Hp}{ts:YO}(h:AtT H ts)(s:Zw H a):AtT a ts:=λx hx=>s _ _ (h x hx)
theorem WC{H:Hp}{D:ae}{ys:#[jr]}(h:H D=U #[gd])(o:HO):∀a xs,H a=U #[71]->(upd H D o) a=U #[71]:=λa xs e=>by
 have b:a≠D:=by intro z;show#[d9,z,h,e]
 rw[Ze b];exact e
noncomputable abbrev Hd:=Int->Option (List Nat)
def Btr(x:#[aY])(a:Int)(y:#[aY])(b:Int):Prop:=ZL x y<0\/#[r0]
def Win(hd:Hd)(N:#[i]):Option Int->Prop
 | none=>∀n∈N,hd n=af
 | some a=>a∈N/\∃x,hd a=U x/\∀b∈N,∀y,hd b=U y->b=a\/Btr x a y b
theorem Btr.asym{x y:#[aY]}{a b:Int}(h:Btr x a y b)(g:Btr y b x a):False:=by have e:=Xu x y;rcases h with h|⟨h,h2⟩<;>rcases g with g|⟨g,g2⟩<;>lia
theorem Btr.total{x y:#[aY]}{a b:Int}(h:a≠b):Btr x a y b\/Btr y b x a:=by have e:=Xu x y;unfold Btr;lia
theorem Btr.trans{x y z:#[aY]}{a b c:Int}(h:Btr x a y b)(g:Btr y b z c):Btr x a z c:=by
 have t1:=U4 x y z;have t2:=U4 z x y;have t3:=U4 y z x;have e1:=Xu x y;have e2:=Xu y z;have e3:=Xu x z;unfold Btr at *
 lia
theorem Win.one{hd:Hd}{N:#[i]}{v w:#[bb]}(h:Win hd N v)(g:Win hd N w):v=w:=by
 cases v with
 | none =>
  cases w with
  | none=>rfl
  | some b=>obtain⟨d,y,c,_⟩:=g;rw[h b d]at c;cases c
 | some a =>
  obtain⟨i,x,f,j⟩:=h;cases w with
  | none=>rw[g a i]at f;cases f
  | some b =>
   obtain⟨d,y,c,k⟩:=g;rcases j b d y c with e|e
   ·rw[e]
   ·rcases k a i x f with e'|e'
    ·rw[e']
    ·exact(e.asym e').elim
theorem Win.nil(hd:Hd):Win hd [] af:=λn h=>by cases h
theorem Win.sing{hd:Hd}{n:Int}:Win hd [n] #[lA]:=by
 cases h:hd n with
 | none=>intro m a;rw[Qe.mp a];exact h
 | some x=>exact⟨by simp,x,h,λb c y hy=>.inl (Qe.mp c)⟩
theorem Win.both{hd:Hd}{A B:#[i]}{a b:Int}{x y:#[aY]}(ha:Win hd A (U a))(hb:Win hd B (U b))(hx:hd a=U x)(hy:hd b=U y)(h:Btr x a y b):Win hd (A++B) (U a):=by
 obtain⟨a1,x',f,a2⟩:=ha;obtain⟨b1,y',g,i⟩:=hb;show#[oz,hx,f];show#[oz,hy,g];refine#[t4,Qr,hx,d];rcases Qg.mp hc with hc|hc
 ·exact a2 c hc z d
 ·rcases i c hc z d with e|e
  ·subst e;show#[oz,hy,d];exact .inr h
  ·exact .inr (h.trans e)
theorem Win.both'{hd:Hd}{A B:#[i]}{a b:Int}{x y:#[aY]}(ha:Win hd A (U a))(hb:Win hd B (U b))(hx:hd a=U x)(hy:hd b=U y)(h:Btr y b x a):Win hd (A++B) (U b):=by have:=Win.both hb ha hy hx h;obtain⟨d,z,e,f⟩:=this;exact⟨by rcases Qg.mp d with h|h<;>simp[h],z,e,λc g=>f c (by rcases Qg.mp g with h|h<;>simp[h])⟩
theorem Win.left{hd:Hd}{A B:#[i]}{w:#[bb]}(ha:Win hd A w)(hb:Win hd B af):Win hd (A++B) w:=by
 cases w with
 | none=>intro n d;rcases Qg.mp d with h|h;exact ha n h;exact hb n h
 | some a =>
  obtain⟨a1,x,e,a2⟩:=ha;refine#[t4,Qr,e,b];rcases Qg.mp hc with hc|hc
  ·exact a2 c hc z b
  ·rw[hb c hc]at b;cases b
theorem Win.right{hd:Hd}{A B:#[i]}{w:#[bb]}(ha:Win hd A af)(hb:Win hd B w):Win hd (A++B) w:=by
 cases w with
 | none=>intro n d;rcases Qg.mp d with h|h;exact ha n h;exact hb n h
 | some a =>
  obtain⟨a1,x,e,a2⟩:=hb;refine#[t4,Qn,e,b];rcases Qg.mp hc with hc|hc
  ·rw[ha c hc]at b;cases b
  ·exact a2 c hc z b
theorem Win.ex(hd:Hd):∀N:List Int,N.Nodup->∃w,Win hd N w
 | [],_=>⟨af,Win.nil hd⟩
 | n::N,d=>by
  obtain⟨f,g⟩:=Q0.mp d;obtain⟨w,hw⟩:=Win.ex hd N g;have a:Win hd [n] #[lA]:=Win.sing;cases h:hd n with
  | none=>rw[h]at a;exact⟨w,Win.right (A:=[n]) a hw⟩
  | some x =>
   rw[h]at a;cases w with
   | none=>exact⟨U n,Win.left (A:=[n]) a hw⟩
   | some b =>
    obtain⟨i,y,c,b2⟩:=id hw;have j:n≠b:=λe=>f (e ▸ i);rcases Btr.total (x:=x) (y:=y) j with e|e
    ·exact⟨U n,Win.both (A:=[n]) a hw h c e⟩
    ·exact⟨U b,Win.both' (A:=[n]) a hw h c e⟩
theorem Win.sub{hd:Hd}{A B:#[i]}{a:Int}(h:Win hd (A++B) (U a))(ha:a∈A):Win hd A (U a):=by obtain⟨_,x,c,d⟩:=h;exact⟨ha,x,c,λb e=>d b (Qr _ e)⟩
theorem Win.sub'{hd:Hd}{A B:#[i]}{a:Int}(h:Win hd (A++B) (U a))(ha:a∈B):Win hd B (U a):=by obtain⟨_,x,c,d⟩:=h;exact⟨ha,x,c,λb e=>d b (Qn _ e)⟩
theorem Win.congr{hd hd':Hd}{N:#[i]}(h:∀n∈N,hd' n=hd n){w:#[bb]}(hw:Win hd N w):Win hd' N w:=by
 cases w with
 | none=>intro n c;rw[h n c];exact hw n c
 | some a=>obtain⟨a1,x,e,a2⟩:=hw;exact⟨a1,x,by rw[h a a1];exact e,λb d y f=>a2 b d y #[oR,h,b,d,f]⟩
noncomputable def lo(N:#[i]):List Int:=N.take (mid N)
noncomputable def up(N:#[i]):List Int:=N.drop (mid N)
theorem Yk(N:#[i]):lo N++up N=N:=List.take_append_drop _ _
theorem WS{N:#[i]}(h:#[it]):#[sA].length<N.length/\1<=#[sA].length:=by unfold lo mid;rw[QC];lia
theorem WB{N:#[i]}(h:#[it]):#[s6].length<N.length/\1<=#[s6].length:=by unfold up mid;rw[Q7];lia
noncomputable def ZV(N:#[i]):Int×Int:=(N.headD 0,N.getLastD 0)
abbrev StL:=List ((Int×Int)×Option #[th])
noncomputable def stV:Option #[th]->V
 | none=>.non
 | some t=>.ref t.1
noncomputable def kvS(s:StL):List (List Key×V):=s.map λe=>([.inl e.1.1,.inl e.1.2],stV e.2)
def AtS(H:Hp)(s:StL):Prop:=∀e∈s,∀t,e.2=U t->H t.1=U #[fl,t.2.1,t.2.2]
noncomputable def Z1(s:StL)(k:#[cs]):Option (Option #[th]):=(s.find? λe=>decide (e.1=k)).map #[f6]
noncomputable def Yj(s:StL)(k:#[cs])(v:#[78]):StL:=if s.any #[hF] then s.map #[lu] else s++[(k,v)]
theorem AtS.mono{H b:Hp}{s:StL}(h:AtS H s)(k:#[bK]):AtS b s:=λe he t ht=>k _ _ (h e he t ht)
theorem O4{a b:#[cs]}(h:([.inl a.1,.inl a.2]:List Key)=[.inl b.1,.inl b.2]):a=b:=by obtain⟨a1,a2⟩:=a;obtain⟨b1,b2⟩:=b;injection h with f c;injection c with c _;have d:=Sum.inl.inj f;have e:=Sum.inl.inj c;simp only at d e;rw[d,e]
theorem Lm(k:#[cs]):∀s:StL,Ys (kvS s) #[ma]=(Z1 s k).map stV
 | []=>rfl
 | e::s=>by
  have a:=Lm k s;by_cases h:e.1=k
  ·unfold kvS Z1;rw[Qj,Ux (by rw[h])];simp[List.find?_cons,h]
  ·unfold kvS at a ⊢;rw[Qj,Uw #[rR],a];unfold Z1;simp[List.find?_cons,h]
theorem Zqz(k:#[cs])(s:StL):((kvS s).any λa=>decide (a.1=(#[ma]:List Key)))=s.any λe=>decide (e.1=k):=by
 unfold kvS;rw[List.any_map];congr 1;funext e;show#[g2];by_cases h:e.1=k
 ·rw[decide_eq_true h,decide_eq_true (by rw[h])]
 ·rw[decide_eq_false h,decide_eq_false #[rR]]
theorem SE(s:StL)(k:#[cs])(v:#[78]):XJ (kvS s) #[ma] (stV v)=kvS #[iW]:=by
 unfold XJ Yj;rw[Zqz];split
 ·unfold kvS;rw[QA,QA];congr 1;funext e;show#[g2];by_cases h:e.1=k
  ·rw[if_pos h,if_pos (by rw[h])]
  ·rw[if_neg h,if_neg #[rR]]
 ·unfold kvS;rw[Qd];rfl
theorem Znd(s:StL)(k:#[cs])(v:#[78]):#[iW].length<=s.length+1:=by
 unfold Yj;split
 ·rw[Qa];lia
 ·rw[Qf];exact Qh _
theorem WA(s:StL)(k j:#[cs])(v:#[78]):Z1 #[iW] j=if j=k then U v else Z1 s j:=by
 unfold Yj;split
 ·rename_i h;induction s with
  | nil=>simp at h
  | cons e s f =>
   unfold Z1 at f ⊢;by_cases b:e.1=k
   ·by_cases a:j=k
    ·subst a;simp[List.find?_cons,b]
    ·have c:¬ k=j:=λz=>a z.symm;rw[Qj,if_pos b,Qaz (by simp[b,c]),Qaz (by simp[b,c]),if_neg a];by_cases d:s.any #[hF]=true
     ·have:=f d;rw[if_neg a]at this;exact this
     ·have:s.map #[lu]=s:=by
       rw[List.map_eq_iff];intro i;cases l:s[i]? with
       | none=>rfl
       | some x=>have g:¬ x.1=k:=λz=>d (List.any_eq_true.mpr ⟨x,Qo l,by simpa using z⟩);simp[g]
      rw[this]
   ·have d:s.any #[hF]=true:=by simpa [b] using h
    rw[Qj,if_neg b];by_cases a:e.1=j
    ·have:¬ j=k:=λz=>b (a.trans z);rw[List.find?_cons_of_pos #[cG,a],List.find?_cons_of_pos #[cG,a],if_neg this]
    ·rw[Qaz #[cG,a],Qaz #[cG,a]];exact f d
 ·rename_i h;unfold Z1;rw[List.find?_append];by_cases a:j=k
  ·subst a;have:s.find? (λe=>decide (e.1=j))=af:=by rw[List.find?_eq_none];intro x g z;exact h (List.any_eq_true.mpr ⟨x,g,z⟩)
   rw[this];simp
  ·have c:¬ k=j:=λz=>a z.symm;rw[if_neg a];simp[c]
theorem AtS.put{H:Hp}{s:StL}{k:#[cs]}{v:#[78]}(h:AtS H s)(b:#[kw]):AtS H #[iW]:=by
 unfold Yj;split
 ·intro e he t a;show#[cK,x,c,he];split at a
  ·exact b t a
  ·exact h x c t a
 ·intro e he t a;rcases Qg.mp he with he|he
  ·exact h e he t a
  ·rw[Qe.mp he]at a;exact b t a
theorem Ll{s:StL}{k:#[cs]}{v:#[78]}(h:Z1 s k=U v):(k,v)∈s:=by
 unfold Z1 at h;obtain⟨e,a,rfl⟩:=QaS.mp h;have b:=List.find?_some a;have:e.1=k:=by simpa using b
 rw[<- this];exact #[qE]
def Zus(hd:Hd)(s:StL)(N:#[i]):Prop :=
 (∀a b x y,Win hd #[sA] (U a)->Win hd #[s6] (U b)->hd a=U x->hd b=U y->∃t,Z1 s (ZV N)=U (U (t,if ZL x y<0\/#[r0] then b else a,#[dC,x,y]))) /\
 ((Win hd #[sA] af\/Win hd #[s6] af)->Z1 s (ZV N)=af\/Z1 s (ZV N)=U af)
def Xb(hd:Hd)(s:StL):Nat->List Int->Prop
 | 0,_=>True
 | n+1,N=>2<=N.length->Xb hd s n #[sA]/\Xb hd s n #[s6]/\Zus hd s N
def Xn:Nat->List Int->Int×Int->Prop
 | 0,_,_=>False
 | n+1,N,k=>2<=N.length/\(Xn n #[sA] k\/Xn n #[s6] k\/k=ZV N)
abbrev YS(N:#[i]):Prop:=N.Pairwise (·<·)
theorem SD{N:#[i]}(h:YS N):YS #[sA]:=h.sublist #[jI]
theorem SA{N:#[i]}(h:YS N):YS #[s6]:=h.sublist (QaT _ _)
theorem Xm{N:#[i]}(h:YS N):N.Nodup:=h.imp λ{a b} dH e=>by lia
theorem ZR{N:#[i]}(h:YS N){a b:Int}(ha:a∈lo N)(hb:b∈up N):a<b:=by
 have:YS (lo N++up N):=by rw[Yk];exact h
 exact(List.pairwise_append.mp this).2.2 a ha b hb
theorem U1{N:#[i]}(h:N≠[]):N.headD 0∈N:=by
 cases N with
 | nil=>exact #[oJ,h]
 | cons a r=>simp
theorem U0{N:#[i]}(h:N≠[]):N.getLastD 0∈N:=by rw[Qap,QaO h];exact List.getLast_mem h
theorem Xt{N:#[i]}(h:1<=N.length):N≠[]:=λz=>by rw[z]at h;simp at h
theorem O3{N:#[i]}(h:#[it]):(ZV N).2=#[s6].getLastD 0:=by
 have a:=Xt (WB h).2;show N.getLastD 0=_;rw[Qap,Qap]
 conv=>lhs;rw[<- Yk N]
 rw[List.getLast?_append,QaO a];rfl
theorem O0{N:#[i]}(h:#[it]):(ZV N).1=#[sA].headD 0:=by
 have b:=Xt (WS h).2;show N.headD 0=_
 conv=>lhs;rw[<- Yk N]
 cases c:lo N with
 | nil=>exact absurd c b
 | cons a r=>rfl
theorem UZ:∀ (n:Nat) (N:List Int) (k:Int×Int),Xn n N k->k.1∈N/\k.2∈N
 | 0,_,_,h=>h.elim
 | n+1,N,k,⟨h2,h⟩=>by
  rcases h with h|h|rfl
  ·have:=UZ n _ k h;rw[<- Yk N];exact⟨Qr _ this.1,Qr _ this.2⟩
  ·have:=UZ n _ k h;rw[<- Yk N];exact⟨Qn _ this.1,Qn _ this.2⟩
  ·have a:N≠[]:=Xt #[2];exact⟨U1 a,U0 a⟩
theorem OZ{N:#[i]}(a:YS N)(h2:#[it]){n:Nat}{k:#[cs]}(h:Xn n #[sA] k):k≠ZV N/\∀m,¬ Xn m #[s6] k:=by
 show#[li]
 ·show#[t0,c,O3];have:=ZR a this.2 (U0 (Xt (WB h2).2));lia
 ·have:=ZR a this.1 (UZ m _ k b).1;lia
theorem OY{N:#[i]}(a:YS N)(h2:#[it]){n:Nat}{k:#[cs]}(h:Xn n #[s6] k):k≠ZV N/\∀m,¬ Xn m #[sA] k:=by
 show#[li]
 ·show#[t0,c,O0];have:=ZR a (U1 (Xt (WS h2).2)) this.1;lia
 ·have:=ZR a (UZ m _ k b).1 this.1;lia
theorem Xb.congr{hd hd':Hd}{s s':StL}:∀ (n:Nat) (N:List Int),(∀m∈N,hd' m=hd m)->(∀k,Xn n N k->Z1 s' k=Z1 s k)->Xb hd s n N->Xb hd' s' n N
 | 0,_,_,_,_=>True.intro
 | n+1,N,j,hk,h=>λh2=>by
  obtain⟨a,b,c1,c2⟩:=h h2;have f:∀m∈lo N,hd' m=hd m:=λm c=>j m (by rw[<- Yk N];exact Qr _ c);have g:∀m∈up N,hd' m=hd m:=λm c=>j m (by rw[<- Yk N];exact Qn _ c);have d:∀m∈lo N,hd m=hd' m:=λm c=>(f m c).symm;have e:∀m∈up N,hd m=hd' m:=λm c=>(g m c).symm;refine⟨Xb.congr n _ f (λk i=>hk k ⟨h2,.inl i⟩) a,Xb.congr n _ g (λk i=>hk k ⟨h2,.inr (.inl i)⟩) b,λa b x y l o p q=>?_,λhw=>?_⟩
  ·rw[hk _ ⟨h2,.inr #[pq]⟩];exact c1 a b x y (Win.congr d l) (Win.congr e o) #[oR,f,a,l.1,p] #[oR,g,b,o.1,q]
  ·rw[hk _ ⟨h2,.inr #[pq]⟩];refine c2 ?_;rcases hw with hw|hw
   ·exact .inl (Win.congr d hw)
   ·exact .inr (Win.congr e hw)
inductive YI (hd:Hd):Nat->List Int->Int->Int->Prop
 | few {n:Nat} {N:List Int}:N.length<2->YI hd n N 0 0
 | none {n:Nat} {N:List Int} {k l k' l':Int}:2<=N.length->YI hd n (lo N) k l->YI hd n (up N) k' l'->(Win hd (lo N) af\/Win hd (up N) af)->YI hd (n+1) N (k+k') (l+l')
 | both {n:Nat} {N:List Int} {k l k' l':Int} {a b:Int} {x y:List Nat}:2<=N.length->YI hd n (lo N) k l->YI hd n (up N) k' l'->Win hd (lo N) (U a)->Win hd (up N) (U b)->hd a=U x->hd b=U y->YI hd (n+1) N (k+k'+1) (l+l'+(lcp x y:Nat)+1)
theorem YI.one{hd:Hd}:∀ {n m:Nat} {N:List Int} {k l k' g:Int},YI hd n N k l->YI hd m N k' g->k=k'/\l=g
 | _,_,_,_,_,_,_,.few h,p=>by
  cases p with
  | few _=>exact#[aR]
  | none h2 _ _ _=>lia
  | both h2 _ _ _ _ _ _=>lia
 | _,_,_,_,_,_,_,.none h2 a b hw,p=>by
  cases p with
  | few h=>lia
  | none _ c d _=>obtain⟨e1,e2⟩:=YI.one a c;obtain⟨r,s⟩:=YI.one b d;exact#[57]
  | both _ c d e f i j =>
   rcases hw with hw|hw
   ·show#[fq,e]
   ·show#[fq,f]
 | _,_,_,_,_,_,_,.both h2 a b e f i j,p=>by
  cases p with
  | few h=>lia
  | none _ c d hw =>
   rcases hw with hw|hw
   ·show#[fq,e]
   ·show#[fq,f]
  | both _ c d t u o q=>obtain⟨e1,e2⟩:=YI.one a c;obtain⟨r,s⟩:=YI.one b d;have v:=Qk (e.one t);have w:=Qk (f.one u);subst v w;show#[eX,i,o,o];show#[eX,j,q,q];exact#[57]
noncomputable def kk(e:aj×Int):List Key:=[.inr e.1,.inl e.2]
noncomputable def oV:Option aj->V
 | none=>.non
 | some s=>.str s
noncomputable def XT:Option Int->V
 | none=>.non
 | some a=>.int a
noncomputable def kvH(E:#[f8]):List (Key×V):=E.map λe=>(.inl e.1,oV e.2)
noncomputable def lk(E:#[f8])(n:Int):Option aj:=(E.find? λe=>decide (e.1=n)).bind #[f6]
structure Hds (H:Hp) (D:ae) (E:#[f8]):Prop where
 at':H D=U (.dK (kvH E))
 nd:(E.map #[lW]).Nodup
 ok:∀e∈E,∀s,e.2=U s->s.length<=1000/\AZ s
theorem ZrE(N:#[i]):XH N=lo N:=rfl
theorem Zsg(N:#[i]):WD N=up N:=rfl
noncomputable abbrev XX:=Int×ae×List aj×Nat
noncomputable def kvR(L:List XX):List (Key×V):=L.map λe=>(.inl e.1,.ref e.2.1)
noncomputable def kvG(L:List XX):List (Key×V):=L.map λe=>(.inl e.1,.int (e.2.2.2:Int))
noncomputable def Zug(ra ga:ae)(nb li lo:Int):List (Key×V):=[(.inr "rows",.ref ra),(.inr "gone",.ref ga),(.inr "number",.int nb),(.inr "likenings",.int li),(.inr "looks",.int lo)]
structure Own (H:Hp) (o ra ga:ae) (L:List XX) (nb li lo:Int):Prop where
 at':H o=U (.dK (Zug ra ga nb li lo))
 rows:H ra=U (.dK (kvR L))
 gone:H ga=U (.dK (kvG L))
 nd:#[jJ].Nodup
 few:L.length<=60
 lst:∀e∈L,H e.2.1=U #[ff,e.2.2.1.map]/\e.2.2.1.length<=100/\e.2.2.2<=e.2.2.1.length/\∀s∈e.2.2.1,s.length<=1000/\AZ s
theorem Zrt{ns:#[i]}(h:ns.Nodup):(ns.map (Sum.inl:Int->Key)).Nodup:=QaU _ (λa b c z=>c #[r8]) h
theorem XY.k'{H:Hp}{a:ae}{kvs:#[87]}{k:Key}{r:Option V}(e:#[sX])(h:Ys kvs k=r):XY H a (kV k) r:=by rw[<- h];exact XY.k e
structure HdOf (L:List XX) (E:#[f8]):Prop where
 per:(E.map #[lW]).Perm #[jJ]
 up:(E.map #[lW]).Pairwise (·<·)
 hd:∀e∈L,(e.1,e.2.2.1[e.2.2.2]?)∈E
noncomputable def hdL(L:List XX):Hd:=λn=>((L.find? λe=>decide (e.1=n)).bind λe=>e.2.2.1[e.2.2.2]?).map cds
theorem OX:∀ {L:List XX},#[jJ].Nodup->∀ {e:XX},e∈L->hdL L e.1=(e.2.2.1[e.2.2.2]?).map cds
 | [],_,_,h=>by cases h
 | x::r,nd,e,h=>by
  rw[Qj,Q0]at nd;unfold hdL;rw[Qag];rcases QG.mp h with rfl|h
  ·rw[decide_eq_true rfl];rfl
  ·rw[decide_eq_false (λz:x.1=e.1=>nd.1 (by rw[z];exact Qm (f:=λx:XX=>x.1) h))];exact OX nd.2 h
theorem Win.perm{hd:Hd}{N M:#[i]}{v:#[bb]}(h:Win hd N v)(p:N.Perm M):Win hd M v:=by
 cases v with
 | none=>exact #[ql]
 | some a=>obtain⟨d,x,e,f⟩:=h;exact#[hq]
def ZtE(L:List XX)(H:Hp)(x:V):Prop:=(x=.non/\Win (hdL L) #[jJ] af)\/X3 λ(t:ae) (e:XX) (z:aj)=>x=.ref t/\e∈L/\e.2.2.1[e.2.2.2]? = U z/\H t=U #[fm,e.1,e.2.2.2]/\Win (hdL L) #[jJ] (U e.1)
noncomputable def Wz(L:List XX):List Int:=L.map λe=>(e.2.2.1.length:Int)-(e.2.2.2:Int)
structure Wy (H:Hp) (r:ae) (rs:#[17]):Prop where
 at':H r=U (.lst #[t3,rs.map])
 few:rs.length<=60
 lst:∀x∈rs,H x.1=U #[kT]/\x.2.length<=100/\∀s∈x.2,s.length<=1000/\AZ s
theorem Wy.same{H c:Hp}{r:ae}{d:#[17]}(h:Wy H r d)(s:Zw H c):Wy c r d:=⟨s _ _ h.at',h.few,λx hx=>let ⟨a,b⟩:=h.lst x hx;⟨s _ _ a,b⟩⟩
theorem Sz(n:Nat):(ZX 0 n).Pairwise (·<·):=by unfold ZX;exact QaU _ (λa b h=>by lia) (List.pairwise_lt_range)
def OW(K:#[7]):Sp:=λvs H Q _=>X3 λ(n:Int) (a:ae) (ss:List aj)=>vs=[.int n,.ref a]/\SqL K H a #[64]/\ss.length<=200/\#[bC]/\T6 ss .non/\∀b,Zw H b->Q .non b
theorem Zms(T:#[n])(c:#[ng]):Df P w K mg base 5 "refuse_break" #[mZ] (OW K):=by
 show#[cE,T.t_refuse_break.df,LH,d,g];obtain⟨n,a,b,rfl,i,j,k,l,q⟩:=h;refine⟨_,#[Zg,#[ZB,2,LH.nd,#[3],#[fG,c,g,1]],#[Zj,#[Y0,#[cR,Tt,2,#[YN]],#[Zj,(@ZqL _ _)],#[ZM]]]],_,rfl,a,b,rfl,i,j,k,λv m o p=>?_⟩;have e:=ZqG o l;subst e;exact⟨_,rfl,rfl,_,rfl,YQ (q m p)⟩
structure ZD where
 n:Int
 p:ae
 k:ae
 f:ae
 ss:List aj
 g:Nat
noncomputable def toL(e:ZD):XX:=(e.n,e.p,e.ss,e.g)
noncomputable def hdM(L:#[a4]):Hd:=hdL #[gC]
noncomputable def ZF(L:#[a4]):List Int:=L.map (·.n)
theorem Sy(L:#[a4]):#[gC].map #[lW]=ZF L:=by rw[QA];rfl
noncomputable def kvM(L:#[a4]):List (Key×V):=L.map λe=>(.inl e.n,.ref e.p)
theorem Wf{L:#[a4]}(nd:#[j8]){e:ZD}(he:e∈L):hdM L e.n=(e.ss[e.g]?).map cds :=
 OX (L:=L.map toL) #[cL,Sy,nd] (Qm (f:=toL) he)
theorem Zoe(L:#[a4]):(kvM L).map #[lW]=#[lX].map (Sum.inl:Int->Key):=by unfold kvM ZF;rw[QA,QA];rfl
theorem T4{L:#[a4]}(nd:#[j8]){e:ZD}(he:e∈L):Ys (kvM L) (.inl e.n)=U (.ref e.p):=ZjL #[dj,Zoe,Zrt,nd] (Qm (f:=λe:ZD=>((.inl e.n:Key),V.ref e.p)) he)
theorem T3{L:#[a4]}{n:Int}(h:n∈ZF L):∃e∈L,e.n=n:=Qs.mp h
noncomputable def mgF(rd:ae)(nb li lo:Int)(sd:ae)(a:V):List (aj×V):=[("rows",.ref rd),("next_number",.int nb),("likened",.int li),("looked",.int lo),("stays",.ref sd),("best",a)]
theorem Lk:¬ #[e0,"rows","next_number"]:=by ac_rfl
theorem OV:¬ #[e0,"rows","likened"]:=by ac_rfl
theorem OU:¬ #[e0,"rows","looked"]:=by ac_rfl
theorem OT:¬ #[e0,"rows","stays"]:=by ac_rfl
theorem OR:¬ #[e0,"rows","best"]:=by ac_rfl
theorem Lj:¬ #[e0,"next_number","likened"]:=by ac_rfl
theorem Li:¬ #[e0,"next_number","looked"]:=by ac_rfl
theorem Lh:¬ #[e0,"next_number","stays"]:=by ac_rfl
theorem Lg:¬ #[e0,"next_number","best"]:=by ac_rfl
theorem OQ:¬ #[e0,"likened","looked"]:=by ac_rfl
theorem OP:¬ #[e0,"likened","stays"]:=by ac_rfl
theorem OO:¬ #[e0,"likened","best"]:=by ac_rfl
theorem ON:¬ #[e0,"looked","stays"]:=by ac_rfl
theorem OM:¬ #[e0,"looked","best"]:=by ac_rfl
theorem OL:¬ #[e0,"stays","best"]:=by ac_rfl
theorem T1(f:aj)(v x:V)(r:List (aj×V)):Zu f v ((f,x)::r)=(f,v)::r:=by unfold Zu;rw[if_pos rfl]
theorem Zv{f g:aj}(h:¬ g=f)(v x:V)(r:List (aj×V)):Zu f v ((g,x)::r)=(g,x)::Zu f v r:=by show (if g=f then (g,v)::r else (g,x)::Zu f v r)=_;rw[if_neg h]
theorem We(f:aj)(v:V):Zu f v []=[(f,v)]:=rfl
theorem VB(rd:ae)(nb li lo:Int)(sd:ae)(a:V):mgF rd nb li lo sd a=Zu "best" a (Zu "stays" (.ref sd) (Zu "looked" (.int lo) (Zu "likened" (.int li) (Zu "next_number" (.int nb) (Zu "rows" (.ref rd) []))))):=by rw[We,Zv Lk,We,Zv OV,Zv Lj,We,Zv OU,Zv Li,Zv OQ,We,Zv OT,Zv Lh,Zv OP,Zv ON,We,Zv OR,Zv Lg,Zv OO,Zv OM,Zv OL,We];rfl
section
variable (rd:ae) (nb li lo:Int) (sd:ae) (aC:V)
theorem Wx:#[16].lookup ("rows" : aj)=U (.ref rd):=by rw[VB,Zo,if_neg OR,Zo,if_neg OT,Zo,if_neg OU,Zo,if_neg OV,Zo,if_neg Lk,Zo,if_pos rfl]
theorem OK:#[16].lookup ("likened" : aj)=U (.int li):=by rw[VB,Zo,if_neg OO,Zo,if_neg OP,Zo,if_neg OQ,Zo,if_pos rfl]
theorem Lf:#[16].lookup ("looked" : aj)=U (.int lo):=by rw[VB,Zo,if_neg OM,Zo,if_neg ON,Zo,if_pos rfl]
theorem T0:#[16].lookup ("stays" : aj)=U (.ref sd):=by rw[VB,Zo,if_neg OL,Zo,if_pos rfl]
theorem TZ:#[16].lookup ("best" : aj)=U aC:=by rw[VB,Zo,if_pos rfl]
theorem Xa{m:aj}(h1:¬ m = "rows")(h2:¬ m = "next_number")(h3:¬ m = "likened")(a:¬ m = "looked")(b:¬ m = "stays")(c:¬ m = "best"):#[16].lookup m=af:=by rw[VB,Zo,if_neg c,Zo,if_neg b,Zo,if_neg a,Zo,if_neg h3,Zo,if_neg h2,Zo,if_neg h1];rfl
theorem Le(v:Int):Zu "likened" (.int v) #[16]=mgF rd nb v lo sd aC:=by unfold mgF;rw[Zv OV,Zv Lj,T1]
theorem Zgu(v:Int):Zu "looked" (.int v) #[16]=mgF rd nb li v sd aC:=by unfold mgF;rw[Zv OU,Zv Li,Zv OQ,T1]
theorem ZgU(x:ae):Zu "stays" #[p5] #[16]=mgF rd nb li lo x aC:=by unfold mgF;rw[Zv OT,Zv Lh,Zv OP,Zv ON,T1]
theorem Sx(x:V):Zu "best" x #[16]=mgF rd nb li lo sd x:=by unfold mgF;rw[Zv OR,Zv Lg,Zv OO,Zv OM,Zv OL,T1]
theorem VX:#[16].length<1000:=by show 6<1000;decide
universe E
structure WR (C:ae) (H:Hp) (e:ZD):Prop where
 at':SF C H e.p e.k e.f e.ss e.g
 le:e.g<=e.ss.length
 len:e.ss.length<=100
 srt:sortedS e.ss=true
 str:∀s∈e.ss,s.length<=1000/\AZ s
structure Zt (cR cM:ae) (H:Hp) (m rd sd:ae) (L:#[a4]) (s:StL) (nb li lo:Int) (aC:V):Prop where
 ob:∃dx,H m=U (.ins cM dx #[16])
 rows:H rd=U #[bm]
 stays:H sd=U (.dT (kvS s))
 ats:AtS H s
 each:∀e∈L,WR cR H e
 up:YS #[lX]
 pd:#[tu].Nodup
 few:L.length<=60
 sfew:s.length<=100
def Fp(m rd sd:ae)(L:#[a4])(b:ae):Prop:=b=m\/b=rd\/b=sd\/∃e∈L,b=e.p\/b=e.k\/b=e.f
theorem WR.keep{C:ae}{H a:Hp}{e:ZD}(h:WR C H e)(b:a e.p=H e.p)(hk:a e.k=H e.k)(c:a e.f=H e.f):WR C a e :=
 ⟨⟨by rw[b];exact h.at'.ob,by rw[hk];exact h.at'.ks,by rw[c];exact h.at'.fs⟩,h.le,h.len,h.srt,h.str⟩
section
variable {cR cM:ae} {H H':Hp} {m rd sd:ae} {L:List ZD} {s:StL} {nb li lo:Int} {aC:V}
theorem Zt.nd(h:#[13]):#[lX].Nodup:=Xm h.up
theorem Zt.keep(h:#[13])(k:∀b o,H b=U o->Fp m rd sd L b\/(∃xs,o=.tup xs)->H' b=U o):Zt cR cM H' m rd sd L s nb li lo aC:=by
 refine⟨?_,k _ _ h.rows (.inl (.inr #[8])),k _ _ h.stays (.inl (.inr (.inr #[8]))),λe a t f=>k _ _ (h.ats e a t f) (.inr #[H]),λe a=>?_,h.up,h.pd,h.few,h.sfew⟩
 ·show#[c5,c,d,h.ob];exact⟨c,k _ _ d (.inl #[8])⟩
 ·have r:=h.each e a;show#[c5,c,d,r.at'.ob];exact⟨⟨⟨c,k _ _ d (.inl (.inr (.inr (.inr ⟨e,a,.inl rfl⟩))))⟩,k _ _ r.at'.ks (.inl (.inr (.inr (.inr ⟨e,a,.inr #[8]⟩)))),k _ _ r.at'.fs (.inl (.inr (.inr (.inr ⟨e,a,.inr #[pq]⟩))))⟩,r.le,r.len,r.srt,r.str⟩
theorem Zt.same(h:#[13])(k:Zw H H'):Zt cR cM H' m rd sd L s nb li lo aC:=h.keep λb o hb _=>k b o hb
theorem Zt.ne_p(h:#[13]){e:ZD}(he:e∈L):m≠e.p/\m≠e.k/\m≠e.f:=by
 show#[c5,dx,b,h.ob];show#[mD];refine#[pw]
 ·rw[z,c]at b;injection b with b;injection b with _ _ b;have a:=O7 e.k e.f (e.g:Int);rw[b,Xa _ _ _ _ _ _ #[1] #[1] #[1] #[1] #[1] #[1]]at a;cases a
 ·show#[d9,z,r.at'.ks,b]
 ·show#[d9,z,r.at'.fs,b]
theorem Zt.ne_m(h:#[13]):m≠rd/\m≠sd/\rd≠sd:=by
 show#[c5,dx,a,h.ob];refine#[pw]
 ·show#[d9,z,h.rows,a]
 ·show#[d9,z,h.stays,a]
 ·have:=h.rows;show#[n0,h.stays]
theorem Zt.ne_sd(h:#[13]){e:ZD}(he:e∈L):sd≠e.p/\sd≠e.k/\sd≠e.f/\rd≠e.p/\rd≠e.k/\rd≠e.f:=by
 show#[mD];have a:=h.stays;have b:=h.rows;refine⟨λz=>?_,λz=>?_,λz=>?_,λz=>?_,λz=>?_,λz=>?_⟩
 ·show#[d9,z,c,a]
 ·show#[d9,z,r.at'.ks,a]
 ·show#[d9,z,r.at'.fs,a]
 ·show#[d9,z,c,b]
 ·show#[d9,z,r.at'.ks,b]
 ·show#[d9,z,r.at'.fs,b]
theorem Zt.obj(h:#[13]){nb' li' lo':Int}{best':V}{dx:ae}:Zt cR cM (upd H m (.ins cM dx (mgF rd nb' li' lo' sd best'))) m rd sd L s nb' li' lo' best':=by
 show#[e9,f,g,n3,h.ne_m];show#[c5,dy,i,h.ob];refine⟨⟨dx,Zb⟩,by rw[Ze f.symm];exact h.rows,by rw[Ze g.symm];exact h.stays,λe d t j=>?_,λe d=>?_,h.up,h.pd,h.few,h.sfew⟩
 ·have:=h.ats e d t j;show#[dJ,i]
 ·show#[nB,a,b,c,h.ne_p,d];show#[fr,h.each,d]
theorem Zt.put(h:#[13]){k:#[cs]}{v:#[78]}(i:#[kw])(j:#[iW].length<=100):Zt cR cM #[qu] m rd sd L #[iW] nb li lo aC:=by
 show#[e9,n1,l,n,h.ne_m];show#[c5,o,p,h.ob];have tup:∀a d,H a=U (.tup d)->#[qu] a=U (.tup d):=λa d f=>by rw[Ze (λz=>by rw[z,h.stays]at f;cases f)];exact f
 refine⟨⟨o,by rw[Ze l];exact p⟩,by rw[Ze n];exact h.rows,Zb,(h.ats.put i).mono tup,λe g=>?_,h.up,h.pd,h.few,j⟩;obtain⟨a,b,c,_⟩:=h.ne_sd g;show#[fr,h.each,g]
universe E
def OJ(f g:ae):Sp:=λvs H Q _=>X14 λ(m rd sd:ae) (L:List ZD) (s:StL) (nb li lo:Int) (h:V) (a b:ZD) (x y:aj) (far:Nat)=>vs=[.ref m,.int a.n,.int b.n,.int (far:Int)]/\Zt f g H m rd sd L s nb li lo h/\a∈L/\b∈L/\a.ss[a.g]? = U x/\b.ss[b.g]? = U y/\far<=lcp #[aT] #[bE] /\
 ∀ (t:ae) (d e:Int) (c:Hp),(Btr #[aT] a.n #[bE] b.n/\d=a.n/\e=b.n\/¬ Btr #[aT] a.n #[bE] b.n/\d=b.n/\e=a.n)->H t=af->c t=U (.tup [.int d,.int e,.int (#[o]:Int)]) ->
  Zt f g c m rd sd L s nb (li+1) (lo+#[nf]) h->#[dO,H,m,c]->Q #[i9] c
theorem Sw{ss:#[y]}{g:Nat}{x:aj}(h:ss[g]? = U x):Wg ss g=.str x:=by unfold Wg;rw[h]
theorem UY(k f:ae)(g:Int):#[iV].lookup ("head" : aj)=af:=#[sV]
theorem ZpZ(T:#[n])(Y:#[52])(cP:#[qf]):Mf P w K mg base 3 ao "meet" #[74] (OJ aB ao):=by
 show#[cE,T.t_Merge_meet.mf,SW,vs,C];obtain⟨m,j,B,L,s,l,p,lo,r,a,b,x,y,far,rfl,M,Z,v,hx,hy,hf,q⟩:=h;refine⟨_,#[Zg,#[Yv,#[ZE,cP,C,#[Zc,#[Yb,Y,T.cl_Row,C,#[t1,C,1]],#[Yb,Y,T.cl_Row,C,#[t1,C,2]],‹3›],#[5]],#[ez,4,SW.nd,5,6]],#[Zg,#[e1,0],#[Zg,(@Tq _ _ _ _ _ _ _ _ _ _ ‹0› ‹6› Tp),#[Zg,#[Y0,(@PW.pt _ _ _ #[W5,#[cR,Xg,4,#[Zi]],(@VO _ _ _ _ (@PW.pt _ _ _ #[WK,#[nS,4],(@VP _ _ _ _ #[Zm,Xg,‹1›,‹2›,#[h4]])]))]),#[Zj,#[Zn,#[ZO,#[ey,1,2,5]]]],#[ZM]],#[Zj,#[Zn,#[ZO,#[ey,2,1,5]]]]]]]],?_⟩;show#[oo,dx,J];have N:=M.each a Z;have O:=M.each b v;show#[c5,da,Aj,N.at'.ob];show#[c5,db,Ak,O.at'.ob];have lx:=(N.str x (Qo hx)).1;have ly:=(O.str y (Qo hy)).1;refine⟨_,rfl,m,ao,dx,_,_,rfl,J,T.cl_Merge,T.na_Merge_rows,Wx ..,_,rfl,j,_,rfl,XY.k' (k:=.inl a.n) M.rows (T4 M.nd Z),a.p,da,_,rfl,Aj,UY ..,a.p,a.k,a.f,a.ss,a.g,rfl,N.at',_,rfl,m,ao,dx,_,_,rfl,J,T.cl_Merge,T.na_Merge_rows,Wx ..,_,rfl,j,_,rfl,XY.k' (k:=.inl b.n) M.rows (T4 M.nd v),b.p,db,_,rfl,Ak,UY ..,b.p,b.k,b.f,b.ss,b.g,rfl,O.at',?_⟩;rw[Sw hx,Sw hy];refine⟨_,rfl,x,y,far,rfl,lx,ly,hf,λt ht=>?_⟩;have G:=Zh ht #[20];show#[cW,pi,H,t,#[20]];generalize upd H t (.tup [.int (ZL (cds x) (cds y)),.int (lcp (cds x) (cds y):Nat),.int ((lcp (cds x) (cds y):Nat)-(far:Int)+1)])=R at G pi ⊢;have M1:=M.same G;show#[en,t,pi];have dI:=G _ _ J;refine⟨_,rfl,m,ao,dx,_,_,rfl,dI,T.cl_Merge,T.na_Merge_likened,OK ..,_,_,rfl,rfl,dx,_,dI,VX ..,?_⟩;rw[Le];have M2:=M1.obj (nb':=l) (li':=p+1) (lo':=lo) (best':=r) (dx:=dx);have k2:#[nn,o,m,R,#[gD]]:=λb o v n=>by rw[Ze n];exact G b o v
 show#[tZ,S,R,m,#[gD],#[gD]];generalize upd R m (.ins ao dx (mgF j l (p+1) lo B r))=H2 at M2 k2 S ⊢;refine⟨_,rfl,m,ao,dx,_,_,rfl,S,T.cl_Merge,T.na_Merge_looked,Lf ..,_,rfl,_,_,rfl,rfl,dx,_,S,VX ..,?_⟩;rw[Zgu];have V:=M2.obj (nb':=l) (li':=p+1) (lo':=lo+#[nf]) (best':=r) (dx:=dx);have k3:∀b o,H b=U o->b≠m->(upd H2 m (.ins ao dx (mgF j l (p+1) (lo+#[nf]) B r))) b=U o:=λb o v n=>by rw[Ze n];exact k2 b o v n
 generalize upd H2 m (.ins ao dx (mgF j l (p+1) (lo+((lcp (cds x) (cds y):Nat)-(far:Int)+1)) B r))=H3 at V k3 ⊢;have u:∀D F:Int,(Btr #[aT] a.n #[bE] b.n/\D=a.n/\F=b.n\/¬ Btr #[aT] a.n #[bE] b.n/\D=b.n/\F=a.n)->∀c,H3 c=af->Q (.ref c) (upd H3 c (.tup [.int D,.int F,.int (#[o]:Int)])):=λD F hw c i=>by
  have e8:H c=af:=by
   cases e:H c with
   | none=>rfl
   | some o =>
    by_cases z:c=m
    ·show#[c5,dz,hz,V.ob];show#[d9,z,hz,i]
    ·rw[k3 c o e z]at i;cases i
  exact q c D F _ hw e8 Zb (V.same (Zh i _)) (λb o v n=>Zh i _ _ _ (k3 b o v n))
 have I:3<=aq:=by decide
 refine⟨_,rfl,_,_,rfl,rfl,_,rfl,Y2 #[79] #[79]⟩
 ·have d':ZL #[aT] #[bE]<0:=#[58];exact Wl ⟨_,rfl,_,rfl,_,rfl,I,λc i=>u _ _ (.inl ⟨.inl d',rfl,rfl⟩) c i⟩
 have d1:¬ ZL #[aT] #[bE]<0:=#[l1];refine⟨_,rfl,rfl,_,rfl,Y2 (λe=>?_) (λe=>?_)⟩
 ·have W:ZL #[aT] #[bE]=0:=by have:=of_decide_eq_true e;injection this
  refine⟨_,rfl,_,rfl,_,_,rfl,rfl,_,rfl,Y2 (λg=>?_) (λg=>?_)⟩
  ·have X:a.n<b.n:=#[l8];exact⟨_,rfl,_,rfl,_,rfl,I,λc i=>u _ _ (.inl ⟨.inr ⟨W,X⟩,rfl,rfl⟩) c i⟩
  ·have X:¬ a.n<b.n:=λz=>g #[75];exact⟨_,rfl,_,rfl,_,rfl,I,λc i=>u _ _ (.inr ⟨λz=>by rcases z with z|z;exact d1 z;exact X z.2,rfl,rfl⟩) c i⟩
 ·have W:ZL #[aT] #[bE]≠0:=λz=>e (decide_eq_true (by rw[z]));exact YQ ⟨_,rfl,_,rfl,_,rfl,I,λc i=>u _ _ (.inr ⟨λz=>by rcases z with z|z;exact d1 z;exact W z.1,rfl,rfl⟩) c i⟩
theorem Zt.cast{a b:ae}{H:Hp}{m rd sd:ae}{L:#[a4]}{s:StL}{nb li lo li' lo':Int}{c:V}(h:#[e2,a,b,c])(e1:li=li')(e2:lo=lo'):Zt a b H m rd sd L s nb li' lo' c:=by subst e1;subst e2;exact h
theorem Ld{N:#[i]}(h:N≠[]):atI (N.map V.int) (-1)=U (.int (N.getLastD 0)):=by
 have e:N=N.dropLast++[N.getLast h]:=(List.dropLast_concat_getLast h).symm;have:=ZnT (N.dropLast.map V.int) (V.int (N.getLast h));rw[Qap,QaO h]
 conv=>lhs;rw[e,Qd]
 exact this
theorem Lc{N:#[i]}(h:N≠[]):atI (N.map V.int) 0=U (.int (N.headD 0)):=by
 cases N with
 | nil=>exact #[oJ,h]
 | cons a r=>exact Yz (j:=0) rfl
theorem OI(rd:ae)(nb li lo:Int)(sd:ae)(a:V):#[21].lookup ("play" : aj)=af:=#[q]
theorem Lb(rd:ae)(nb li lo:Int)(sd:ae)(a:V):#[21].lookup ("meet" : aj)=af:=#[q]
def La(K:#[7])(d e:ae)(n:Nat):Sp:=λvs H Q _=>X11 λ(m rd sd:ae) (L:List ZD) (s:StL) (nb li lo:Int) (f:V) (l:ae) (N:List Int)=>vs=#[nZ,m,l]/\Zt d e H m rd sd L s nb li lo f/\H l=U #[d8,N.map]/\1<=N.length/\N.length<=60/\0<n/\N.length<=2 ^ (n-1)/\(∀x∈N,x∈ZF L)/\YS N/\(∀k,Xn n N k->Z1 s k=af)/\s.length+N.length<=100 /\
 ∀ (w:Option Int) (a:StL) (k q:Int) (c:Hp),Win #[cd] N w->Xb #[cd] a n N->YI #[cd] n N k q->(∀j,¬ Xn n N j->Z1 a j=Z1 s j)->a.length+1<=s.length+N.length->Zt d e c m rd sd L a nb (li+k) (lo+q) f->#[eR,H,sd,c]->Q (XT w) c
theorem K9(T:#[n])(aU:#[52])(cD:#[a5])(bH:#[tI]) :
  ∀n:Nat,Mf P w K mg base (n+4) ao "play" #[i2] (La K aB ao n)
 | 0=>by
  show#[l7]
  ·show#[kZ];rfl
  obtain⟨m,rd,sd,L,s,nb,li,lo,W,l,N,rfl,_,_,_,_,z,_⟩:=h;exact absurd z #[2]
 | n+1=>by
  have bT:=K9 T aU cD bH n;show#[l7]
  ·show#[kZ];rfl
  obtain⟨m,rd,sd,L,s,nb,li,lo',W,l,N,rfl,M,B,h1,fZ,_,jW,gp,C,e8,hsz,q⟩:=h;rw[QaA]at jW;refine⟨_,#[Zg,#[Y0,#[nG,YG,#[18]],#[Zj,#[Zn,#[Xz,#[Zm,Wo,#[Yb,aU,T.cl_Row,G,#[Zx,(ixG G),#[W],#[df,ixL,1]]],#[YN],#[h4]],#[YN],#[df,ixL,1]]]],#[ZM]],#[Zg,#[Yv,#[fG,cD,G,1],#[nu,2,Wj.nd,3]],#[Zg,#[ZB,4,Wj.nd,#[3],#[W6,bT,T.cl_Merge,G,‹0›,#[ag]]],#[Zg,#[ZB,5,Wj.nd,#[3],#[W6,bT,T.cl_Merge,G,‹0›,#[qg]]],#[Zg,#[Y0,#[ov,4],#[dH,5],#[ZM]],#[Zg,#[Y0,#[ov,5],#[dH,4],#[ZM]],#[Zg,#[Yv,#[W6,bH,T.cl_Merge,G,‹0›,#[Zc,‹4›,‹5›,#[Zi]]],#[ez,6,Wj.nd,7,8]],#[Zg,#[Yv,#[ZO,#[fb,7,8]],#[WJ,#[W],#[ZO,#[Zc,#[df,ixL,1],#[Zx,#[lz],‹1›,#[gk]]]],(Uu G)]],#[dH,6]]]]]]]]],?_⟩;show#[oo,dx,hm];have hN:N≠[]:=Xt h1;have uP:l≠m:=λz=>by rw[z,hm]at B;cases B
  have Al:l≠sd:=λz=>by rw[z,M.stays]at B;cases B
  have iV:#[o3,N.map]=(N.length:Int):=by rw[Qa]
  show#[ef,l,B]
  ·have uQ:N.length=1:=by have:=#[58];injection this with this;rw[iV]at this;lia
   obtain⟨n0,rfl⟩:∃n0,N=[n0]:=Qao.mp uQ;obtain⟨e,he,rfl⟩:=T3 (gp n0 #[4]);show#[o5,he,dp,hp];have bF:atI (([e.n]:List Int).map V.int) 0=U (.int e.n):=Yz (j:=0) rfl;refine⟨_,rfl,m,ao,dx,_,_,rfl,hm,T.cl_Merge,T.na_Merge_rows,Wx ..,_,rfl,l,_,_,_,rfl,rfl,SqL.of B,bF,rd,_,rfl,XY.k' (k:=.inl e.n) M.rows (T4 M.nd he),e.p,dp,_,rfl,hp,UY ..,e.p,e.k,e.f,e.ss,e.g,rfl,R.at',rfl,_,rfl,?_⟩;have dt:Xb #[cd] s (n+1) [e.n]:=λh2=>by simp at h2
   have cW:YI #[cd] (n+1) [e.n] 0 0:=.few (by show 1<2;decide);have X:=Win.sing (hd:=hdM L) (n:=e.n);have hd:=Wf M.nd he;have M':=M.cast (li':=li+0) (lo':=lo'+0) #[2] #[2];cases g:e.ss[e.g]? with
   | none=>rw[show Wg e.ss e.g=.non by unfold Wg;rw[g]];rw[hd,g]at X;exact Xv rfl (q af s 0 0 H X dt cW #[hm] #[gp] M' #[qH])
   | some x=>rw[Sw g];rw[hd,g]at X;exact Xp #[O] ⟨_,rfl,l,_,_,_,rfl,rfl,SqL.of B,bF,q (U e.n) s 0 0 H X dt cW #[hm] #[gp] M' #[qH]⟩
  have c:#[it]:=by have:¬ ((N.length:Int)=1):=λz=>d (decide_eq_true (by rw[iV,z]));lia
  have kL:1<=n:=by
   cases n with
   | zero=>simp at jW;lia
   | succ m=>lia
  have CF:2 ^ n=2*2 ^ (n-1):=by obtain⟨m,rfl⟩:∃m,n=m+1:=⟨n-1,by lia⟩;rw[Nat.pow_succ,QaA];lia
  have iN:#[sA].length<=2 ^ (n-1)/\#[sA].length<=60:=by unfold lo mid;rw[QC];lia
  have qm:#[s6].length<=2 ^ (n-1)/\#[s6].length<=60:=by unfold up mid;rw[Q7];lia
  have jY:#[sA].length+#[s6].length=N.length:=by rw[<- Qf,Yk]
  have qo:∀x∈lo N,x∈ZF L:=λx g=>gp x (Qae g);have qp:∀x∈up N,x∈ZF L:=λx g=>gp x (Qai g);refine⟨_,rfl,l,N,rfl,SqL.of B,by lia,λt f r H2 ht hf uR rT dk lb dL s2 ntf ntr=>?_⟩;rw[if_pos rfl]at dk;rw[ZrE]at lb;rw[Zsg]at dL;show#[dm,t,dk];have M2:=M.same s2;have cI:=s2 _ _ hm;have rV:r≠m:=(Zd hm uR).symm;have Am:r≠sd:=(Zd M.stays uR).symm;refine⟨_,rfl,m,dx,_,rfl,cI,OI ..,_,rfl,m,rd,sd,L,s,nb,li,lo',W,f,lo N,rfl,M2,lb,(WS c).2,iN.2,kL,iN.1,qo,SD C,λk u=>e8 k ⟨c,.inl u⟩,by lia,λw1 s1 k1 q1 H3 i S1 P1 o1 l1 M3 b3=>?_⟩;have cY:=b3 _ _ dL rV Am;show#[c5,An,Ao,M3.ob];refine⟨_,rfl,m,An,_,rfl,Ao,OI ..,_,rfl,m,rd,sd,L,s1,nb,_,_,W,r,up N,rfl,M3,cY,(WB c).2,qm.2,kL,qm.1,qp,SA C,λk u=>?_,by lia,λw2 I k2 q2 H4 p S2 P2 o2 l2 M4 b4=>?_⟩
  ·rw[o1 k ((OY C c u).2 n)];exact e8 k ⟨c,.inr (.inl u)⟩
  have nC:¬ Xn n #[sA] (ZV N)/\¬ Xn n #[s6] (ZV N):=⟨λz=>(OZ C c z).1 rfl,λz=>(OY C c z).1 rfl⟩;have uS:Xb #[cd] I n #[sA]:=S1.congr n _ #[hm] (λk u=>o2 k ((OZ C c u).2 n));have gD:Z1 I (ZV N)=af:=by rw[o2 _ nC.2,o1 _ nC.1];exact e8 _ ⟨c,.inr #[pq]⟩
  have oth:∀j,¬ Xn (n+1) N j->Z1 I j=Z1 s j:=λj hj=>by rw[o2 j (λz=>hj ⟨c,.inr (.inl z)⟩),o1 j (λz=>hj ⟨c,.inl z⟩)]
  have rW:∀b o,H b=U o->b≠m->b≠sd->H4 b=U o:=λb o hb n1 n2=>b4 b o (b3 b o (s2 b o hb) n1 n2) n1 n2;have nE:∀wn,Win #[cd] N wn->(Win #[cd] #[sA] af\/Win #[cd] #[s6] af)->Q (XT wn) H4:=λwn hw dY=>by
   refine q wn I (k1+k2) (q1+q2) H4 hw (λ_=>⟨uS,S2,λa b x y wa wb _ _=>?_,λ_=>.inl gD⟩) (.none c P1 P2 dY) oth #[2] (M4.cast #[2] #[2]) rW;rcases dY with z|z
   ·show#[nP,wa]
   ·show#[nP,wb]
  cases w1 with
  | none=>exact⟨_,rfl,rfl,_,rfl,Xv rfl ⟨_,rfl,nE w2 (by have:=Win.right i p;rwa [Yk]at this) (.inl i)⟩⟩
  | some a =>
  show#[am];cases w2 with
  | none=>exact⟨_,rfl,rfl,_,rfl,Xv rfl ⟨_,rfl,nE (U a) (by have:=Win.left i p;rwa [Yk]at this) (.inr p)⟩⟩
  | some b =>
  show#[am];obtain⟨J,pj,qN⟩:=T3 (qo a i.1);obtain⟨O,pk,Ap⟩:=T3 (qp b p.1);subst qN;subst Ap;have Y:=Wf M.nd pj;have Z:=Wf M.nd pk;cases g:J.ss[J.g]? with
  | none=>obtain⟨_,z,hz,_⟩:=i;show#[d9,Y,g,hz]
  | some x =>
  cases hy:O.ss[O.g]? with
  | none=>obtain⟨_,z,hz,_⟩:=p;show#[d9,Z,hy,hz]
  | some y =>
  rw[g]at Y;rw[hy]at Z;show#[c5,jZ,ix,M4.ob];refine⟨_,rfl,m,jZ,_,rfl,ix,Lb ..,_,rfl,_,rfl,m,rd,sd,L,I,nb,_,_,W,J,O,x,y,0,rfl,M4,pj,pk,g,hy,Qt _,λt5 wi D H5 hw rX nF M5 b5=>?_⟩;show#[en,t5,nF];have nG:2<=aq:=by decide
  refine⟨_,rfl,_,rfl,nG,λF rY=>?_⟩;have s6:=Zh rY #[eo,D,#[o]];have j0:(upd H5 F #[eo,D,#[o]]) F=U #[eo,D,#[o]]:=Zb;have M6:=M5.same s6;generalize upd H5 F (.tup [.int D,.int ((lcp (cds x) (cds y):Nat):Int)])=H6 at s6 j0 M6 ⊢;show#[c5,nH,nJ,M6.ob];have uT:H6 l=U #[d8,N.map]:=s6 _ _ (b5 _ _ (rW _ _ B uP Al) uP);refine⟨_,rfl,m,ao,nH,_,_,rfl,nJ,T.cl_Merge,T.na_Merge_stays,T0 ..,_,rfl,l,_,_,_,rfl,rfl,SqL.of uT,Lc hN,_,rfl,_,rfl,l,_,_,_,rfl,rfl,SqL.of uT,Ld hN,nG,λt7 Aq=>?_⟩;have s7:=Zh Aq #[i0];have qq:(upd H6 t7 #[i0]) t7=U (.tup (#[pB].map kV)):=Zb;have M7:=M6.same s7;generalize upd H6 t7 (.tup [.int (N.headD 0),.int (N.getLastD 0)])=H7 at s7 qq M7 ⊢;have j5:(kvS I).length<aq:=by unfold kvS;rw[Qa];exact #[rC]
  refine⟨sd,_,rfl,WV.t (k:=#[pB]) M7.stays qq j5,?_⟩;rw[show V.ref F=stV (U #[ko]) from rfl,SE];have cW:=Znd I (ZV N) (U #[ko]);have l1':=(WS c).2;have M8:=M7.put (k:=ZV N) (v:=U #[ko]) (λt ht=>by injection ht with ht;rw[<- ht];exact s7 _ _ j0) #[2];have cj:J.n≠O.n:=λz=>by have:=ZR C i.1 p.1;lia
  have Ar:∀b o,H b=U o->b≠m->b≠sd->(upd H7 sd (.dT (kvS (Yj I (ZV N) (U #[ko]))))) b=U o:=λb o hb n1 n2=>by rw[Ze n2];exact s7 _ _ (s6 _ _ (b5 _ _ (rW _ _ hb n1 n2) n1))
  have X:Win #[cd] N (U wi):=by
   rcases hw with⟨S,rfl,_⟩|⟨S,rfl,_⟩
   ·have:=Win.both i p Y Z S;rwa [Yk]at this
   ·have:=Win.both' i p Y Z #[oF,cj,S];rwa [Yk]at this
  have As:D=if ZL #[aT] #[bE]<0\/#[ie] then O.n else J.n:=by
   rcases hw with⟨S,_,rfl⟩|⟨S,_,rfl⟩
   ·exact(if_pos (show ZL #[aT] #[bE]<0\/#[ie] from S)).symm
   ·exact(if_neg (show ¬ (ZL #[aT] #[bE]<0\/#[ie]) from S)).symm
  refine⟨_,rfl,q (U wi) _ (k1+k2+1) (q1+q2+#[o]+1) _ X (λ_=>⟨?_,?_,?_,λdY=>?_⟩) (.both c P1 P2 i p Y Z) (λj hj=>?_) #[2] (M8.cast #[2] #[2]) Ar⟩
  ·exact uS.congr n _ #[hm] (λk u=>by rw[WA,if_neg (OZ C c u).1])
  ·exact S2.congr n _ #[hm] (λk u=>by rw[WA,if_neg (OY C c u).1])
  ·intro a' b' x' y' wa wb lc lf;have e1:=Qk (wa.one i);have e2:=Qk (wb.one p);subst e1;subst e2;have e3:=Qk (lc.symm.trans Y);have e4:=Qk (lf.symm.trans Z);subst e3;subst e4;exact⟨F,by rw[WA,if_pos rfl,As]⟩
  ·rcases dY with z|z
   ·show#[nP,i]
   ·show#[nP,p]
  ·rw[WA,if_neg (λz=>hj ⟨c,.inr (.inr z)⟩)];exact oth j hj
theorem WR.mono{C:ae}{H a:Hp}{e:ZD}(h:WR C H e)(k:∀b o,H b=U o->b=e.p\/b=e.k\/b=e.f->a b=U o):WR C a e:=by obtain⟨c,d⟩:=h.at'.ob;exact⟨⟨⟨c,k _ _ d #[8]⟩,k _ _ h.at'.ks (.inr #[8]),k _ _ h.at'.fs (.inr #[pq])⟩,h.le,h.len,h.srt,h.str⟩
theorem K8(L:#[a4]):(kvM L).map (λa=>kV a.1)=#[lX].map V.int:=by unfold kvM ZF;rw[QA,QA];rfl
theorem ZoF{n:Nat}{N:#[i]}{k:#[cs]}(_:Xn n N k):Z1 [] k=af:=rfl
def K7(c d:ae):Sp:=λvs H Q _=>X9 λ(m rd sd:ae) (L:List ZD) (s:StL) (nb li lo:Int) (g:V)=>vs=#[sU]/\Zt c d H m rd sd L s nb li lo g /\
 ∀ (e:ae) (f:StL) (w:Option Int) (k q:Int) (a:Hp),H e=af->Win #[cd] #[lX] w->Xb #[cd] f 8 #[lX]->YI #[cd] 8 #[lX] k q->Zt c d a m rd e L f nb (li+k) (lo+q) (XT w)->#[dO,H,m,a]->Q .non a
theorem Zjs(T:#[n])(bT:Mf P w K mg base 12 ao "play" #[i2] (La K aB ao 8)):Mf P w K mg base 13 ao "play_all" #[V] (K7 aB ao):=by
 show#[oG,T.t_Merge_play_all.mf,Zfb];obtain⟨m,j,sd,L,s,p,t,i,u,rfl,M,q⟩:=h;refine⟨_,#[Zg,#[tM],#[Zj,#[Xq,‹0›,#[Xz,#[Zm,WZ,#[Zk,Zuz,#[5],T.b.n_len,Qv,#[Zc,#[W]]],#[Zi],#[h4]],#[W6,bT,T.cl_Merge,hr,‹0›,#[Zc,#[kd]]],#[YN]]]]],?_⟩;refine λg v=>?_;show#[oo,z,J];have B:=Zh v (.dT []);have N:(upd H g (.dT [])) g=U (.dT (kvS [])):=Zb;have M1:=M.same B;have O:=B _ _ J;have mz:m≠g:=Zd J v;have uU:j≠g:=Zd M.rows v;generalize upd H g (.dT [])=G at B N M1 O ⊢;refine⟨_,rfl,m,ao,z,_,rfl,O,T.cl_Merge,T.na_Merge_stays,VX ..,?_⟩;rw[ZgU];show#[e9,n1,n2,n3,M.ne_m];have M2:Zt aB ao #[kf] m j g L [] p t i u:=by refine⟨⟨z,Zb⟩,by rw[Ze n1.symm];exact M1.rows,by rw[Ze mz.symm];exact N,#[cM,e,C],λe C=>?_,M.up,M.pd,M.few,by decide⟩;show#[nB,a,b,c,M1.ne_p,C];show#[fr,M1.each,C]
 have k2:∀b o,H b=U o->b≠m->#[kf] b=U o:=λb o y n=>by rw[Ze n];exact B b o y
 generalize upd G m (.ins ao z (mgF j p t i g u))=R at M2 k2 ⊢;show#[c5,D,F,M2.ob];have aW:#[cU,kvM,L]=(L.length:Int):=by unfold kvM;rw[Qa]
 have iy:#[lX].length=L.length:=by unfold ZF;rw[Qa]
 have fe:=M.few;refine⟨_,rfl,m,ao,D,_,_,rfl,F,T.cl_Merge,T.na_Merge_rows,Wx ..,j,_,rfl,M2.rows,_,_,rfl,rfl,_,rfl,Y2 #[79] #[79]⟩
 ·have fO:0<L.length:=by have:#[lM]<#[cU,kvM,L]:=#[58];lia
  refine⟨_,rfl,m,D,_,rfl,F,OI ..,_,rfl,m,ao,D,_,_,rfl,F,T.cl_Merge,T.na_Merge_rows,Wx ..,j,_,rfl,M2.rows,λl hl=>?_⟩;rw[K8];have I:=Zh hl #[88];show#[cW,X,R,l,#[88]];have Y:=M2.same I;generalize upd R l (.lst ((ZF L).map V.int))=H3 at I X Y ⊢;refine⟨m,j,g,L,[],p,t,i,u,l,ZF L,rfl,Y,X,by lia,by lia,by decide,QL (by lia:#[lX].length<=60) #[6],λx hx=>hx,M.up,λk hk=>ZoF hk,by show 0+_<=_;lia,λw1 s' k q' H4 W S Pl _ _ Z b4=>?_⟩;show#[c5,jZ,ix,Z.ob];show#[dV,jZ,ix];exact q g s' w1 k q' _ v W S Pl Z.obj (λb o y n=>by rw[Ze n];exact b4 b o (I b o (k2 b o y n)) n (Zd y v))
 ·have uV:L=[]:=by
   cases L with
   | nil=>rfl
   | cons e r=>exact absurd (decide_eq_true (show (0:Int)<(((kvM (e::r)).length:Nat):Int) by rw[aW];simp only[List.length_cons];lia)) d
  subst uV;show#[dV,D,F];exact q g [] af 0 0 _ v (Win.nil _) (λh2=>absurd h2 #[6]) (.few #[6]) (M2.obj.cast #[2] #[2]) (λb o y n=>by rw[Ze n];exact k2 b o y n)
def OH(L:#[a4])(a:#[17]):Prop:=ZF L=ZX 0 a.length/\L.map (λe=>(e.ss,e.g))=a.map λx=>(x.2,0)
def Sv(g d:ae):Sp:=λvs H Q _=>X4 λ(m dx r:ae) (a:List (ae×List aj))=>vs=#[nZ,m,r]/\H m=U (.ins d dx [])/\Wy H r a/\#[eA,a] /\
 ∀ (e f:ae) (L:List ZD) (s:StL) (w:Option Int) (k q:Int) (c:Hp),Zt g d c m e f L s #[h3] k q (XT w)->OH L a->Win #[cd] #[lX] w->Xb #[cd] s 8 #[lX]->YI #[cd] 8 #[lX] k q->(∀b,Fp m e f L b->b=m\/H b=af)->#[dO,H,m,c]->Q .non c
theorem Zgs(rd:ae)(nb li lo:Int)(sd:ae)(a:V):#[21].lookup ("play_all" : aj)=af:=#[q]
theorem ZqU{ss:#[y]}(h:#[rv]):T6 ss .non:=by refine .inl ⟨rfl,λi x y a b=>?_⟩;have:=Lr h i y x b a;have:=Xu #[bE] #[aT];lia
theorem Zg6(T:#[n])(cB:#[gW])(dO:Cf P w K mg base 4 aB "Row" #[kc] (Ln aB))(ck:#[cX,13,"play_all",#[V],K7]):Cf P w K mg base 14 ao "Merge" #[rq] (Sv aB ao):=by
 show#[oG,T.t_Merge_init.cf,Pu];obtain⟨m,g,r,l,rfl,hm,N,cZ,q⟩:=h;refine⟨_,#[Zg,#[Xq,‹0›,(@Zm5 _ _)],#[Zg,#[Xx,ba.never,#[iE,K,T.b.n_enumerate,#[Zc,‹1›]],#[nu,2,Pu.nd,3],#[Zg,#[Yf,#[ZE,cB,hr,#[fb,2,3],#[5]]],#[Zj,#[Yv,#[Vf,dO,hr,#[qg]],#[WJ,#[W],‹2›,(Uu hr)]]]]],#[Zg,#[Xq,‹0›,#[18]],#[Zg,#[mz],#[Zg,#[mz],#[Zg,#[tM],#[Zg,#[Xq,‹0›,#[YN]],#[Zj,#[Yf,#[dD,ck,hr,0]]]]]]]]]],?_⟩;refine λc dh=>?_;have nK:m≠c:=Zd hm dh;have s1:=Zh dh (.dK []);have gc:(upd H c (.dK [])) c=U (.dK (kvM [])):=Zb;have dI:=s1 _ _ hm;generalize upd H c (.dK [])=H1 at s1 gc dI ⊢;refine⟨_,rfl,m,ao,g,_,rfl,dI,T.cl_Merge,T.na_Merge_rows,#[o4,0],?_⟩;have nL:r≠m:=λz=>by have:=N.at';show#[n0,hm]
 have k2:#[nn,o,m,H1,#[hL]]:=λb o d n=>by rw[Ze n];exact s1 b o d
 show#[tZ,cI,H1,m,#[hL],#[hL]];have dL:(upd H1 m #[hL]) c=U (.dK (kvM [])):=by rw[Ze nK.symm];exact gc
 generalize upd H1 m (.ins ao g (Zu "rows" (.ref c) []))=H2 at k2 cI dL ⊢;have fe:=N.few;have Au:#[35].lookup ("rows" : aj)=U (V.ref c):=by rw[Zo,if_pos rfl]
 refine⟨_,rfl,r,_,rfl,SqL.of (k2 _ _ N.at' nL),?_⟩;refine RB (K:=K) (a:=r) (xs:=l.map λx=>V.ref x.1) (λi σ t=>X3 λ(L:List ZD) (v2 v3:Option V)=>σ=[U (.ref m),U #[83],v2,v3]/\t m=U #[hL]/\t c=U #[bm]/\(∀e∈L,WR aB t e)/\OH L (l.take i)/\#[tu].Nodup/\(∀e∈L,H e.p=af/\H e.k=af/\H e.f=af)/\#[dO,H,m,t]) ⟨[],_,_,rfl,cI,dL,#[cM,e,h],#[aR],List.nodup_nil,#[cM,e,h],k2⟩ (λi σ t hq=>by obtain⟨_,_,_,_,_,_,_,_,_,_,k5⟩:=hq;exact SqL.of (k5 _ _ N.at' nL)) ?_ ?_
 ·rintro i y σ t p hy ⟨L,v2,v3,rfl,I,F,C,⟨n1,n2⟩,pd,io,k5⟩ hp;rw[Ql]at hy;cases hz:l[i]? with
  | none=>rw[hz]at hy;cases hy
  | some x =>
  show#[nV,hz,hy,l.length];have rZ:=Qo hz;obtain⟨lx,lJ,mC⟩:=N.lst x rZ;have Av:x.1≠m:=λz=>by rw[z,hm]at lx;cases lx
  have Aw:L.length=i:=by have:=#[cO,n1];unfold ZF at this;rw[Qa,XN,QC]at this;lia
  have aN:∀e∈L,e.n≠(i:Int):=λe he z=>by
   have h1:e.n∈ZX 0 (l.take i).length:=by rw[<- n1];exact Qm (f:=λe:ZD=>e.n) he
   unfold ZX at h1;show#[nB,j,hj,ej,Qs.mp,h1];have:=Q1.mp hj;rw[QC]at this;lia
  have sp:=Zh hp #[47];show#[cW,uW,t,p,#[47]];generalize upd t p (.tup [.int (i:Int),.ref x.1])=H6 at sp uW ⊢;show#[dm,p,uW];have uX:H6 x.1=U #[kT]:=sp _ _ (k5 _ _ lx Av);refine⟨_,rfl,_,rfl,(i:Int),x.1,x.2,rfl,SqL.of uX,by lia,λs hs=>(mC s hs).1,ZqU (cZ x rZ),λH7 s7=>?_⟩;have nM:=sp.trans s7;refine⟨_,rfl,λu G hu pp ndu=>?_⟩;have O:t u=af:=nM.free hu;have uY:#[cm] x.1=U #[kT]:=by have:=s7 _ _ uX;show#[ld]
  have s8:#[nW,t,#[cm]]:=λb o d=>by have:=nM _ _ d;show#[ld]
  have uZ:#[cm] u=U (.ins aB G []):=Zb;generalize upd (upd H7 G (.own u)) u (.ins aB G [])=X at uY s8 uZ ⊢;refine⟨u,G,x.1,x.2,rfl,uZ,uY,lJ,λs hs=>(mC s hs).1,λk f H9 hk D uL R k9=>⟨rfl,?_⟩⟩;have s9:#[nW,t,H9]:=#[n1,d,k9,s8,O];have Y:∀b,X b=af->t b=af:=λb d=>by
   cases e:t b with
   | none=>rfl
   | some o=>rw[s8 b o e]at d;cases d
  have iz:∀b,b≠m->t b=af->H b=af:=λb Z d=>by
   cases e:H b with
   | none=>rfl
   | some o=>rw[k5 b o e Z]at d;cases d
  have num:u≠m:=λz=>by rw[z,I]at O;cases O
  have Ax:k≠m:=λz=>by have:=Y k hk;show#[n0,I]
  have rV:f≠m:=λz=>by have:=Y f D;show#[n0,I]
  have r6:c≠u/\c≠k/\c≠f:=⟨Zd F O,Zd F (Y k hk),Zd F (Y f D)⟩;have hsz:(kvM L).length<aq:=by unfold kvM;rw[Qa];exact #[rC]
  have kL:Ys (kvM L) (.inl (i:Int))=af:=by
   cases hv:Ys (kvM L) (.inl (i:Int)) with
   | none=>rfl
   | some v=>obtain⟨e,he,z⟩:=Qs.mp (Zn3 hv);injection z with z _;exact absurd #[r8] (aN e he)
  refine⟨_,rfl,m,ao,g,_,_,rfl,s9 _ _ I,T.cl_Merge,T.na_Merge_rows,Au,_,rfl,c,_,rfl,WV.k (k:=.inl (i:Int)) (s9 _ _ F) hsz,?_⟩;rw[Zps _ kL,show kvM L++[((.inl (i:Int):Key),V.ref u)]=kvM (L++[⟨(i:Int),u,k,f,x.2,0⟩]) by unfold kvM;rw[Qd];rfl];refine⟨L++[⟨(i:Int),u,k,f,x.2,0⟩],_,_,rfl,by rw[Ze nK];exact s9 _ _ I,Zb,λe he=>?_,#[sM],?_,λe he=>?_,λb o d n=>?_⟩
  ·rcases Qg.mp he with he|he
   ·show#[qp];refine J.mono λb o d gA=>?_;have Z:b≠c:=λz=>by
     rw[z,F]at d;injection d with d;subst d;rcases gA with z2|z2|z2
     ·rw[<- z2,z,F]at nN;cases nN
     ·have:=J.at'.ks;rw[<- z2,z,F]at this;cases this
     ·have:=J.at'.fs;rw[<- z2,z,F]at this;cases this
    rw[Ze Z];exact s9 b o d
   ·rw[Qe.mp he];refine WR.keep (H:=H9) ⟨R,Qt _,lJ,cZ x rZ,mC⟩ (Ze r6.1.symm) (Ze r6.2.1.symm) (Ze r6.2.2.symm)
  ·unfold ZF at n1 ⊢;rw[Qd,n1,QC,QC,Nat.min_eq_left #[2],Nat.min_eq_left #[2]];unfold ZX;rw[QaC,Qd];simp
  ·rw[Qd,n2,QE,hz,Qd];rfl
  ·rw[Qd];refine QY.mpr ⟨pd,by simp,λa ha b d=>?_⟩;show#[cK,e,he,ha];have:b=u:=by simpa using d
   rw[this];obtain⟨de,nN⟩:=(C e he).at'.ob;exact Zd nN O
  ·rcases Qg.mp he with he|he
   ·exact io e he
   ·rw[Qe.mp he];exact⟨iz u num O,iz k Ax (Y k hk),iz f rV (Y f D)⟩
  ·rw[Ze (Zd d dh)];exact s9 b o (k5 b o d n)
 ·rintro σ t ⟨L,v2,v3,rfl,I,F,C,fv,pd,io,k5⟩;show#[oh,fv];have p1:=VY "rows" (V.ref c) [];have p2:=VY "next_number" (V.int #[mL]) #[35];have p3:=VY "likened" (V.int 0) (Zu "next_number" (.int #[mL]) #[35]);have p4:=VY "looked" (V.int 0) #[g];have p0:#[ri]:=rfl;refine⟨_,rfl,r,_,rfl,.inl (SqL.of (k5 _ _ N.at' nL)),_,rfl,m,ao,g,_,rfl,I,T.cl_Merge,T.na_Merge_next_number,by lia,?_⟩;rw[Qa];refine⟨_,rfl,m,ao,g,_,rfl,Zb,T.cl_Merge,T.na_Merge_likened,by lia,_,rfl,m,ao,g,_,rfl,Zb,T.cl_Merge,T.na_Merge_looked,by lia,?_⟩;have k8:∀b,b≠m->#[au] b=t b:=λb n=>by rw[Ze n,Ze n,Ze n]
  have mE:#[au] m=U (.ins ao g #[qQ]):=Zb;generalize (upd (upd (upd t m (.ins ao g (Zu "next_number" (.int (l.length:Int)) (Zu "rows" (.ref c) [])))) m (.ins ao g (Zu "likened" (.int 0) (Zu "next_number" (.int (l.length:Int)) (Zu "rows" (.ref c) []))))) m (.ins ao g (Zu "looked" (.int 0) (Zu "likened" (.int 0) (Zu "next_number" (.int (l.length:Int)) (Zu "rows" (.ref c) []))))))=X at k8 mE ⊢;refine λB js=>?_;have mz:m≠B:=Zd mE js;have p5:=VY "stays" (V.ref B) #[qQ];refine⟨_,rfl,m,ao,g,_,rfl,by rw[Ze mz];exact mE,T.cl_Merge,T.na_Merge_stays,by lia,_,rfl,m,ao,g,_,rfl,Zb,T.cl_Merge,T.na_Merge_best,by lia,?_⟩;have u4:t B=af:=by rw[<- k8 B mz.symm];exact js
  have pq:#[B] m=U (.ins ao g (mgF c #[mL] 0 0 B .non)):=by rw[VB];exact Zb
  have u5:#[B] B=U (.dT (kvS [])):=by rw[Ze mz.symm,Ze mz.symm];exact Zb
  have k9:∀b o,t b=U o->b≠m->#[B] b=U o:=λb o d n=>by rw[Ze n,Ze n,Ze (Zd d u4),k8 b n];exact d
  generalize (upd (upd (upd X B (.dT [])) m (.ins ao g (Zu "stays" (.ref B) (Zu "looked" (.int 0) (Zu "likened" (.int 0) (Zu "next_number" (.int (l.length:Int)) (Zu "rows" (.ref c) []))))))) m (.ins ao g (Zu "best" .non (Zu "stays" (.ref B) (Zu "looked" (.int 0) (Zu "likened" (.int 0) (Zu "next_number" (.int (l.length:Int)) (Zu "rows" (.ref c) []))))))))=H9 at pq u5 k9 ⊢;have Aw:L.length=l.length:=by have:=#[cO,fv.1];unfold ZF at this;show#[oC,Qa,XN]
  have M9:Zt aB ao H9 m c B L [] #[mL] 0 0 .non:=by
   refine⟨⟨g,pq⟩,k9 _ _ F nK.symm,u5,#[cM,e,he],λe he=>?_,by rw[fv.1];exact Sz _,pd,by lia,by decide⟩;show#[qp];refine J.mono λb o d gA=>k9 b o d λz=>?_;have D:=io e he;have M:=hm;rw[<- z]at M;rcases gA with z2|z2|z2
   ·show#[d9,z2,D.1,M]
   ·show#[d9,z2,D.2.1,M]
   ·show#[d9,z2,D.2.2,M]
  refine⟨_,rfl,m,g,_,rfl,pq,Zgs ..,m,c,B,L,[],_,0,0,.non,rfl,M9,λfu s' w1 k q' gU nO W S Pl Ay Az=>?_⟩;have iz:∀b,b≠m->H9 b=af->H b=af:=λb Z d=>by
   cases e:H b with
   | none=>rfl
   | some o=>rw[k9 b o (k5 b o e Z) Z]at d;cases d
  refine q c fu L s' w1 k q' gU (Ay.cast #[2] #[2]) fv W S Pl (λb d=>?_) (λb o d n=>Az b o (k9 b o (k5 b o d n) n) n);rcases d with rfl|rfl|rfl|⟨e,he,d⟩
  ·exact #[kn]
  ·exact .inr dh
  ·exact .inr (iz _ (λz=>by rw[z,pq]at nO;cases nO) nO)
  ·have D:=io e he;rcases d with rfl|rfl|rfl
   ·exact .inr D.1
   ·exact .inr D.2.1
   ·exact .inr D.2.2
def OG(a b:ae):Sp:=λvs H Q _=>X9 λ(m rd sd:ae) (L:List ZD) (s:StL) (nb li lo:Int) (c:V)=>vs=#[sU]/\Zt a b H m rd sd L s nb li lo c/\Q (.int li) H
def OF(a b:ae):Sp:=λvs H Q _=>X9 λ(m rd sd:ae) (L:List ZD) (s:StL) (nb li lo:Int) (c:V)=>vs=#[sU]/\Zt a b H m rd sd L s nb li lo c/\Q (.int lo) H
theorem ZiM(T:#[n]):Mf P w K mg base 1 ao "likenings" #[V] (OG aB ao):=by
 show#[cE,T.t_Merge_likenings.mf,ZeI,a,hr];show#[bM];exact⟨_,rfl,m,ao,i,_,_,rfl,j,T.cl_Merge,T.na_Merge_likened,OK ..,q⟩
theorem ZnD(T:#[n]):Mf P w K mg base 1 ao "looks" #[V] (OF aB ao):=by
 show#[cE,T.t_Merge_looks.mf,Zgi,a,hr];show#[bM];exact⟨_,rfl,m,ao,i,_,_,rfl,j,T.cl_Merge,T.na_Merge_looked,Lf ..,q⟩
def K6(b c:ae):Sp:=λvs H Q _=>X9 λ(m rd sd:ae) (L:List ZD) (s:StL) (nb li lo:Int) (w:Option Int)=>vs=#[sU]/\Zt b c H m rd sd L s nb li lo (XT w)/\Win #[cd] #[lX] w/\∀ (x:V) (a:Hp),ZtE #[gC] a x->Zw H a->Q x a
theorem ZlV(T:#[n])(r:#[52]):Mf P w K mg base 3 ao "coming" #[V] (K6 aB ao):=by
 show#[cE,T.t_Merge_coming.mf,LK,u,i];obtain⟨m,j,v,L,s,y,B,lo,w,rfl,M,W,q⟩:=h;refine⟨_,#[Zg,#[Y0,#[Zm,Wo,#[W],#[YN],#[h4]],#[Zj,#[Zn,#[YN]]],#[ZM]],#[Zg,#[ZB,1,LK.nd,#[3],#[Zx,(ixG i),#[W],#[W]]],#[Zj,#[Zn,#[ZO,#[Zc,#[W],#[Z8,‹1›],#[Yb,r,T.cl_Row,i,‹1›]]]]]]],?_⟩;show#[oo,b,c];refine⟨_,rfl,m,ao,b,_,_,rfl,c,T.cl_Merge,T.na_Merge_best,TZ ..,rfl,_,rfl,?_⟩;have l:Win (hdL #[gC]) (#[gC].map #[lW]) w:=by rw[Sy];exact W
 cases w with
 | none=>exact Xv rfl (q _ H (.inl ⟨rfl,l⟩) #[tp])
 | some a =>
  obtain⟨e,d,rfl⟩:=T3 W.1;show#[o5,d,n,o];have C:=Wf M.nd d;cases g:e.ss[e.g]? with
  | none=>obtain⟨_,z,p,_⟩:=W;show#[d9,C,g,p]
  | some x =>
  refine Xp #[O] ?_;refine⟨_,rfl,m,ao,b,_,_,rfl,c,T.cl_Merge,T.na_Merge_rows,Wx ..,_,rfl,m,ao,b,_,_,rfl,c,T.cl_Merge,T.na_Merge_best,TZ ..,j,_,rfl,XY.k' (k:=.inl e.n) M.rows (T4 M.nd d),_,rfl,m,ao,b,_,_,rfl,c,T.cl_Merge,T.na_Merge_best,TZ ..,_,rfl,e.p,aB,n,_,_,rfl,o,T.cl_Row,T.na_Row_gone,T5 ..,_,rfl,e.p,n,_,rfl,o,UY ..,e.p,e.k,e.f,e.ss,e.g,rfl,R.at',#[K],λt D=>?_⟩;rw[Sw g];exact q _ _ (.inr ⟨t,toL e,x,rfl,Qm d,g,Zb,l⟩) (Zh D _)
def K5(b c:ae):Sp:=λvs H Q _=>X9 λ(m rd sd:ae) (L:List ZD) (s:StL) (nb li lo:Int) (d:V)=>vs=#[sU]/\Zt b c H m rd sd L s nb li lo d/\∀a:Hp,Zw H a->Q (.int (Wz #[gC]).sum) a
theorem Ziv(k f:ae)(g:Int):#[iV].lookup ("to_go" : aj)=af:=#[sV]
theorem ZoT(T:#[n])(J:#[jq]):Mf P w K mg base 2 ao "left" #[V] (K5 aB ao):=by
 show#[cE,T.t_Merge_left.mf,Zg2,N,O];obtain⟨m,a,S,L,s,W,X,lo,Y,rfl,M,q⟩:=h;refine⟨_,#[Zj,#[Zn,#[Zk,(Tf K),#[5],T.b.n_sum,boot_sum,#[Zc,(@LZ _ _ _ #[Yd,Pn,(@Zpy _ _ _ _ _ _ #[W] #[5] #[5]),#[di,1,Pn],#[J],(λ_ _ _ _=>#[Yb,J,T.cl_Row,O,#[cw,1,Pn]])])]]]],?_⟩;show#[oo,Z,hm];have fe:=M.few;refine⟨a,_,M.rows,True.intro,_,rfl,m,ao,Z,_,_,rfl,hm,T.cl_Merge,T.na_Merge_rows,Wx ..,a,_,rfl,M.rows,λj B t=>?_⟩;have u:#[sz] a=U (.frz j #[bm]):=Zb;have k1:∀b x,H b=U x->b≠a->#[sz] b=U x:=λb x h n=>by rw[Ze n];exact h
 generalize upd H a (.frz j (.dK (kvM L)))=H1 at u k1 t ⊢;refine Zqj (d:=a) (o:=j) (kvs:=kvM L) (λi zs D c=>(∃v:Option V,D=[U (.ref m),v])/\zs=(Wz ((L.take i).map toL)).map V.int/\i<=L.length/\c B=U #[bl]/\Zw H1 c) ?_ (λ_ _ _ _ h=>h.2.2.2.2 _ _ u) ?_ ?_
 ·show#[dL,t]
 ·rintro i k x zs D c l ⟨⟨v,rfl⟩,rfl,hi,y,p⟩;show#[tW,kvM,l];cases r:L[i]? with
  | none=>rw[r]at l;cases l
  | some e =>
  show#[nV,r,l,L.length];have C:=Qo r;have R:=M.each e C;obtain⟨_,_,_,n1,n2,n3⟩:=M.ne_sd C;have R2:WR aB c e:=R.mono λb o g gA=>p _ _ (k1 b o g #[fQ]);show#[c5,dp,hp,R2.at'.ob];refine⟨_,rfl,e.p,dp,_,rfl,hp,Ziv ..,e.p,e.k,e.f,e.ss,e.g,rfl,R2.at',y,(by unfold Wz;rw[Qa,Qa,Qa,QC];exact #[rC]),#[H],?_,ce,Zb,λb x g=>?_⟩
  ·rw[QE,r,Qd];unfold Wz;rw[Qd,Qd];rfl
  ·show#[nv,g,t,p,b,x]
 show#[fu,D,c,v,y,p];have g8:#[tc]:=by unfold kvM;rw[Qa]
 rw[g8,Qw #[gp]]at y;refine⟨j,p _ _ u,?_⟩;have F:(upd c a #[bm]) B=U (.lst ((Wz #[gC]).map V.int)):=by rw[Ze (Zd u t).symm];exact y
 have G:Zw H (upd c a #[bm]):=λb x g=>by
  by_cases e:b=a
  ·rw[e,M.rows]at g;rw[e,Zb];exact g
  ·rw[Ze e];exact p _ _ (k1 b x g e)
 generalize upd c a (.dK (kvM L))=H3 at F G ⊢;refine⟨B,Wz #[gC],rfl,SqL.of F,(by unfold Wz;rw[Qa,Qa];lia),λn I=>?_,q H3 G⟩;unfold Wz at I;show#[cK,e',dW,I];show#[cK,e,C,dW];have R:=M.each e C;have a1:=R.le;have a2:=R.len;show 0<=#[qc]/\#[qc]<=_;lia
noncomputable def UX(L:List XX):List (Int×Option aj):=L.map λe=>(e.1,e.2.2.1[e.2.2.2]?)
def Ztx(H:Hp)(l:ae)(E:#[f8]):Prop:=∃ts:List (ae×Int×Option aj),ts.map #[f6]=E/\H l=U (.lst (ts.map λt=>V.ref t.1))/\∀t∈ts,H t.1=U #[qv]
theorem K4(ss:#[y])(g:Nat):Wg ss g=oV ss[g]?:=by unfold Wg oV;cases ss[g]?<;>rfl
def K3(b c:ae):Sp:=λvs H Q _=>X9 λ(m rd sd:ae) (L:List ZD) (s:StL) (nb li lo:Int) (d:V)=>vs=#[sU]/\Zt b c H m rd sd L s nb li lo d/\∀ (l:ae) (a:Hp),H l=af->Ztx a l (UX #[gC])->Zw H a->Q #[h6] a
theorem ZmM(T:#[n])(aU:#[52]):Mf P w K mg base 3 ao "heads" #[V] (K3 aB ao):=by
 show#[oG,T.t_Merge_heads.mf,ZfW];obtain⟨m,a,sd,L,s,nb,li,lo,aC,rfl,M,q⟩:=h;refine⟨_,#[Zj,#[Zn,(@LZ _ _ _ #[Yd,Uc,(@Zm9 _ _ _ _ _ _ _ _ #[W] #[5] #[5]),#[cQ,1,Uc,2],#[J],(λ_ _ _ _=>#[ZO,#[Zc,#[cw,1,Uc],#[Yb,aU,T.cl_Row,hr,#[cw,2,Uc]]]])])]],?_⟩;show#[oo,dx,hm];have fe:=M.few;refine⟨a,_,M.rows,True.intro,_,rfl,m,ao,dx,_,_,rfl,hm,T.cl_Merge,T.na_Merge_rows,Wx ..,a,_,rfl,M.rows,λg B c=>?_⟩;show#[tZ,F,H,a,#[jO],#[jO]];have k1:#[nn,x,a,H,#[jO]]:=λb x h n=>by rw[Ze n];exact h
 have r8:H B=af:=by
  cases e:H B with
  | none=>rfl
  | some o =>
   by_cases z:B=a
   ·rw[z]at c;rw[show (upd H a #[jO]) a=U #[jO] from Zb]at c;cases c
   ·rw[k1 B o e z]at c;cases c
 generalize upd H a (.frz g (.dK (kvM L)))=H1 at F k1 c ⊢;refine ZpI (d:=a) (o:=g) (kvs:=kvM L) (λi zs J r=>(X2 λN O:Option V=>J=[U (.ref m),N,O])/\(∃j:List (ae×Int×Option aj),j.map #[f6]=UX ((L.take i).map toL)/\zs=(j.map λt=>V.ref t.1)/\∀t∈j,r t.1=U #[qv]/\t.1≠B/\t.1≠a)/\i<=L.length/\r B=U #[bl]/\Zw H1 r) ?_ (λ_ _ _ _ h=>h.2.2.2.2 _ _ F) ?_ ?_
 ·exact⟨⟨af,af,rfl⟩,⟨[],rfl,rfl,#[cM,t,h]⟩,Qt _,Zb,Zh c _⟩
 ·rintro i k x zs J r p v ⟨⟨N,O,rfl⟩,⟨j,G,rfl,S⟩,hi,W,y⟩ AA;show#[tW,kvM,v];cases I:L[i]? with
  | none=>rw[I]at v;cases v
  | some e =>
  show#[nV,I,v,L.length];have he:=Qo I;have R:=M.each e he;obtain⟨_,_,_,n1,n2,n3⟩:=M.ne_sd he;have C:=Zh AA #[nb];have j7:(upd r p #[nb]) p=U (.tup [.int e.n,.ref e.p]):=Zb;generalize upd r p (.tup [kV (.inl e.n),.ref e.p])=H3 at C j7 ⊢;have R2:WR aB H3 e:=R.mono λb o l gA=>C _ _ (y _ _ (k1 b o l #[fQ]));show#[c5,dp,hp,R2.at'.ob];have nP:=C _ _ W;have jr:=C _ _ (y _ _ F);have aW:j.length=i:=by have:=#[cO,G];unfold UX at this;rw[Qa,Qa,Qa,QC]at this;lia
  refine⟨p,_,rfl,SqT.of j7,rfl,_,_,rfl,_,_,rfl,rfl,_,rfl,_,rfl,e.p,dp,_,rfl,hp,UY ..,e.p,e.k,e.f,e.ss,e.g,rfl,R2.at',#[w],λt D=>?_⟩;rw[K4];have X:B≠t:=Zd nP D;have mF:a≠t:=Zd jr D;refine⟨by rw[Ze X];exact nP,#[kr],#[iK],⟨j++[(t,e.n,e.ss[e.g]?)],?_,by rw[Qd];rfl,λu hu'=>?_⟩,ce,Zb,λb x l=>?_⟩
  ·rw[Qd,G,QE,I,Qd];unfold UX;rw[Qd];rfl
  ·rcases Qg.mp hu' with hu'|hu'
   ·obtain⟨Y,Z,g3⟩:=S u hu';have:=C _ _ Y;exact⟨by rw[Ze Z,Ze (Zd this D)];exact this,Z,g3⟩
   ·rw[Qe.mp hu'];exact⟨by rw[Ze X.symm];exact Zb,X.symm,mF.symm⟩
  ·have:=C b x (y b x l);rw[Ze (Zd l c),Ze (Zd this D)];exact this
 rintro zs J r ⟨⟨N,O,rfl⟩,⟨j,G,rfl,S⟩,_,W,y⟩;have g8:#[tc]:=by unfold kvM;rw[Qa]
 rw[g8,Qw #[gp]]at G;refine⟨g,y _ _ F,?_⟩;have AB:B≠a:=(Zd F c).symm;refine q B _ r8 ⟨j,G,by rw[Ze AB];exact W,λt D=>?_⟩ #[oW,b,x,l]
 ·obtain⟨Y,Z,g3⟩:=S t D;rw[Ze g3];exact Y
 ·by_cases e:b=a
  ·rw[e,M.rows]at l;rw[e,Zb];exact l
  ·rw[Ze e];exact y _ _ (k1 b x l e)
def Agr(Lo:List XX)(L:#[a4]):Prop:=Lo.map #[m4]=L.map (λe=>(e.n,(e.ss,e.g)))
theorem K2:∀ (A B:List XX),A.map #[m4]=B.map #[m4]->hdL A=hdL B
 | [],[],_=>rfl
 | [],_::_,h=>by cases h
 | _::_,[],h=>by cases h
 | a::A,b::B,h=>by
  rw[Qj,Qj]at h;injection h with h1 h2;injection h1 with h3 d;have f:=K2 A B h2;funext n;have c:=congrFun f n;unfold hdL at c ⊢;rw[Qag,Qag,h3];split
  ·simp only[Option.bind_some];rw[d]
  ·exact c
theorem Wd{α a:Type}:∀ {P:List (α×a)},(P.map #[lW]).Nodup->∀ {p q:α×a},p∈P->q∈P->p.1=q.1->p=q
 | [],_,_,_,h,_,_=>by cases h
 | x::r,nd,p,q,b,hq,e=>by
  rw[Qj,Q0]at nd;rcases QG.mp b with h1|h1
  ·rcases QG.mp hq with h2|h2
   ·rw[h1,h2]
   ·exact absurd (show x.1∈r.map #[lW] by rw[<- h1,e];exact Qm (f:=λx:α×a=>x.1) h2) nd.1
  ·rcases QG.mp hq with h2|h2
   ·exact absurd (show x.1∈r.map #[lW] by rw[<- h2,<- e];exact Qm (f:=λx:α×a=>x.1) h1) nd.1
   ·exact Wd nd.2 h1 h2 e
structure F2 (R:V->V->Prop) (xs ys:#[jr]):Prop where
 len:xs.length=ys.length
 at':∀ (i:Nat) (x y:V),xs[i]? = U x->ys[i]? = U y->R x y
theorem K1(rd:ae)(nb li lo:Int)(sd:ae)(a:V):#[21].lookup ("likenings" : aj)=af:=#[q]
theorem K0(rd:ae)(nb li lo:Int)(sd:ae)(a:V):#[21].lookup ("looks" : aj)=af:=#[q]
theorem Ziy(rd:ae)(nb li lo:Int)(sd:ae)(a:V):#[21].lookup ("coming" : aj)=af:=#[q]
theorem Zke(rd:ae)(nb li lo:Int)(sd:ae)(a:V):#[21].lookup ("left" : aj)=af:=#[q]
theorem ZjZ(rd:ae)(nb li lo:Int)(sd:ae)(a:V):#[21].lookup ("heads" : aj)=af:=#[q]
noncomputable def Z3(M:#[i])(n:Int):List Int:=if n∈lo M then lo M else up M
noncomputable def Y8(M:#[i])(n:Int):List Int:=if n∈lo M then up M else lo M
noncomputable def ZY:Nat->List Int->Int->List #[iZ]
 | 0,_,_=>[]
 | k+1,M,n=>if 2<=M.length then ZY k #[aF] n++[M] else []
inductive Sub (N:#[i]):List Int->Prop
 | top:Sub N N
 | lo {M:List Int}:Sub N M->2<=M.length->Sub N (lo M)
 | up {M:List Int}:Sub N M->2<=M.length->Sub N (up M)
theorem Sub.trans{A B C:#[i]}(h:Sub A B)(k:Sub B C):Sub A C:=by
 induction k with
 | top=>exact h
 | lo _ a b=>exact b.lo a
 | up _ a b=>exact b.up a
theorem Sub.rise{N M:#[i]}(h:Sub N M)(r:YS N):YS M:=by
 induction h with
 | top=>exact r
 | lo _ _ a=>exact SD a
 | up _ _ a=>exact SA a
theorem Sub.mem{N M:#[i]}(h:Sub N M){x:Int}(hx:x∈M):x∈N:=by
 induction h with
 | top=>exact hx
 | lo _ _ a=>exact a (Qae hx)
 | up _ _ a=>exact a (Qai hx)
theorem OE{M:#[i]}(h:#[hE])(n:Int):Sub M #[aF]:=by
 unfold Z3;split
 ·exact Sub.top.lo h
 ·exact Sub.top.up h
theorem UW{M:#[i]}{n:Int}(h:n∈M):n∈Z3 M n:=by
 unfold Z3;split
 ·assumption
 ·rename_i a;rw[<- Yk M]at h;exact(Qg.mp h).resolve_left a
theorem Su{M:#[i]}(r:YS M){n:Int}(hn:n∈Z3 M n):n ∉ Y8 M n:=by
 intro h;unfold Y8 Z3 at *
 split at h
 ·rename_i a;have:=ZR r a h;lia
 ·rename_i a;exact a h
theorem Ss(M:#[i])(n:Int):(Z3 M n++Y8 M n).Perm M:=by
 unfold Z3 Y8;split
 ·rw[Yk]
 ·exact List.perm_append_comm.trans (by rw[Yk])
def Kys(M:#[i])(k:#[cs]):Prop:=∃a,Sub M a/\2<=a.length/\k=ZV a
theorem Sr{M:#[i]}{k:#[cs]}(h:Kys M k):k.1∈M/\k.2∈M:=by obtain⟨b,s,h2,rfl⟩:=h;have a:b≠[]:=Xt #[2];exact⟨s.mem (U1 a),s.mem (U0 a)⟩
theorem KZ{M:#[i]}(r:YS M)(h2:#[hE]){k:#[cs]}(h:Kys (lo M) k):k≠ZV M/\¬ Kys (up M) k:=by
 show#[qB]
 ·show#[t0,a,O3];have:=ZR r this.2 (U0 (Xt (WB h2).2));lia
 ·have:=ZR r this.1 (Sr m).1;lia
theorem KY{M:#[i]}(r:YS M)(h2:#[hE]){k:#[cs]}(h:Kys (up M) k):k≠ZV M/\¬ Kys (lo M) k:=by
 show#[qB]
 ·show#[t0,a,O0];have:=ZR r (U1 (Xt (WS h2).2)) this.1;lia
 ·have:=ZR r (Sr m).1 this.1;lia
theorem KW{M:#[i]}(r:YS M)(h2:#[hE]){n:Int}{k:#[cs]}(h:Kys #[aF] k):k≠ZV M/\¬ Kys #[hJ] k:=by
 unfold Z3 at h;unfold Y8;split
 ·rename_i a;show#[n3,a,h];exact KZ r h2 h
 ·rename_i a;show#[fx,a,h];exact KY r h2 h
theorem KU{M:#[i]}(r:YS M)(h2:#[hE]){n:Int}{k:#[cs]}(h:Kys #[hJ] k):k≠ZV M/\¬ Kys #[aF] k:=by
 unfold Y8 at h;unfold Z3;split
 ·rename_i a;show#[n3,a,h];exact KY r h2 h
 ·rename_i a;show#[fx,a,h];exact KZ r h2 h
theorem OD{M c:#[i]}(h:Sub M c):c=M\/(2<=M.length/\(Sub (lo M) c\/Sub (up M) c)):=by
 induction h with
 | top=>exact #[kn]
 | lo h a b =>
  rcases b with rfl|⟨g,b⟩
  ·exact .inr ⟨a,.inl .top⟩
  ·exact .inr ⟨g,b.imp (λz=>z.lo a) (λz=>z.lo a)⟩
 | up h a b =>
  rcases b with rfl|⟨g,b⟩
  ·exact .inr ⟨a,.inr .top⟩
  ·exact .inr ⟨g,b.imp (λz=>z.up a) (λz=>z.up a)⟩
theorem ZoE{M a:#[i]}(n:Int)(h:Sub M a):a=M\/(2<=M.length/\(Sub #[aF] a\/Sub #[hJ] a)):=by
 rcases OD h with h|⟨g,h⟩
 ·exact .inl h
 ·refine .inr ⟨g,?_⟩;unfold Z3 Y8;split
  ·exact h
  ·exact h.symm
def Ww(hd:Hd)(s:StL)(A B:#[i])(k:#[cs]):Prop :=
 (∀a b x y,Win hd A (U a)->Win hd B (U b)->hd a=U x->hd b=U y->X2 λt c=>Z1 s k=U (U (t,c,#[dC,x,y]))/\((Btr x a y b/\c=b)\/(Btr y b x a/\c=a))) /\
 (#[rj]->Z1 s k=af\/Z1 s k=U af)
theorem Ww.swap{hd:Hd}{s:StL}{A B:#[i]}{k:#[cs]}(h:Ww hd s A B k):Ww hd s B A k:=by refine⟨λa b x y c d f g=>?_,λhw=>h.2 hw.symm⟩;obtain⟨t,i,e,o⟩:=h.1 b a y x d c g f;exact⟨t,i,by rw[WU x y];exact e,o.symm⟩
def Yy(hd:Hd)(s:StL)(N:#[i]):Prop:=∀M,Sub N M->2<=M.length->Ww hd s (lo M) (up M) (ZV M)
theorem Yy.sub{hd:Hd}{s:StL}{N M:#[i]}(h:Yy hd s N)(k:Sub N M):Yy hd s M:=λa h' h2=>h a (k.trans h') h2
theorem Yy.at_side{hd:Hd}{s:StL}{M:#[i]}(h:Yy hd s M)(h2:#[hE])(n:Int):Ww hd s #[aF] #[hJ] (ZV M):=by
 have:=h M .top h2;unfold Z3 Y8;split
 ·exact this
 ·exact this.swap
theorem TY:∀ (n:Nat) (hd:Hd) (s:StL) (N:List Int),YS N->N.length<=2 ^ (n-1)->0<n->Xb hd s n N->Yy hd s N
 | 0,_,_,_,_,_,h,_=>absurd h #[2]
 | n+1,hd,s,N,r,hl,_,h=>λM hM h2=>by
  rw[QaA]at hl;rcases OD hM with rfl|⟨g,hM⟩
  ·obtain⟨_,_,c1,c2⟩:=h h2;refine⟨λa b x y d f j k=>?_,c2⟩;obtain⟨t,e⟩:=c1 a b x y d f j k;have dH:=ZR r d.1 f.1;by_cases c:ZL x y<0\/#[r0]
   ·show#[n3,c,e];exact⟨t,b,e,.inl ⟨c,rfl⟩⟩
   ·show#[fx,c,e];exact⟨t,a,e,.inr ⟨(Btr.total (show a≠b by lia)).resolve_left c,rfl⟩⟩
  ·obtain⟨l,o,_⟩:=h g;have i:1<=n:=by
    cases n with
    | zero=>simp at hl;lia
    | succ m=>lia
   have hp:2 ^ n=2*2 ^ (n-1):=by obtain⟨m,rfl⟩:∃m,n=m+1:=⟨n-1,by lia⟩;rw[Nat.pow_succ,QaA];lia
   rcases hM with hM|hM
   ·exact TY n hd s #[sA] (SD r) (by unfold lo mid;rw[QC];lia) i l M hM h2
   ·exact TY n hd s #[s6] (SA r) (by unfold up mid;rw[Q7];lia) i o M hM h2
theorem Ww.congr{hd hd':Hd}{s s':StL}{A B:#[i]}{k:#[cs]}(h:Ww hd s A B k)(ha:∀m∈A,hd' m=hd m)(hb:∀m∈B,hd' m=hd m)(hk:Z1 s' k=Z1 s k):Ww hd' s' A B k:=by
 refine⟨λa b x y d e f g=>?_,λhw=>?_⟩
 ·rw[hk];exact h.1 a b x y (d.congr λm c=>(ha m c).symm) (e.congr λm c=>(hb m c).symm) #[oR,ha,a,d.1,f] #[oR,hb,b,e.1,g]
 ·rw[hk];exact h.2 (hw.imp (λw=>w.congr λm c=>(ha m c).symm) (λw=>w.congr λm c=>(hb m c).symm))
theorem Yy.congr{hd hd':Hd}{s s':StL}{M:#[i]}(h:Yy hd s M)(b:∀m∈M,hd' m=hd m)(hk:∀k,Kys M k->Z1 s' k=Z1 s k):Yy hd' s' M:=λc hM h2 =>
 (h c hM h2).congr (λm a=>b m (hM.mem (Qae a))) (λm a=>b m (hM.mem (Qai a))) (hk _ ⟨c,hM,h2,rfl⟩)
theorem ZmE{hd:Hd}{s:StL}{M:#[i]}{n:Int}(h1:Yy hd s #[aF])(h3:Yy hd s #[hJ])(h:Ww hd s #[aF] #[hJ] (ZV M)):Yy hd s M:=λa hM h2=>by
 rcases ZoE n hM with rfl|⟨g,hM|hM⟩
 ·unfold Z3 Y8 at h;split at h
  ·exact h
  ·exact h.swap
 ·exact h1 a hM h2
 ·exact h3 a hM h2
noncomputable def low(n:Int)(C:#[k]):Nat->List Int
 | 0=>[n]
 | i+1=>C.getD i []
theorem OC:∀ (k:Nat) (M:List Int) (n:Int),n∈M->M.length<=2 ^ k->(∀i X,#[lE][i]? = U X->Sub M X/\2<=X.length/\n∈X/\Z3 X n=low n #[lE] i)/\low n #[lE] #[lE].length=M/\#[lE].length<=k
 | 0,M,n,d,hl=>by
  refine⟨λi X h=>by unfold ZY at h;simp at h,?_,Qh _⟩;have h1:M.length=1:=by have:=QZ d;simp at hl;lia
  obtain⟨x,rfl⟩:=Qao.mp h1;have:n=x:=by simpa using d
  rw[this];rfl
 | k+1,M,n,d,hl=>by
  unfold ZY;by_cases e:2<=M.length
  ·rw[if_pos e];have g:#[my]:=by
    rw[Nat.pow_succ]at hl;unfold Z3;split
    ·unfold lo mid;rw[QC];lia
    ·unfold up mid;rw[Q7];lia
   obtain⟨a,b,c⟩:=OC k #[aF] n (UW d) g;refine⟨λi X h=>?_,?_,by rw[Qf,Qp];lia⟩
   ·have f:∀j,j<=#[h5].length->low n (ZY k #[aF] n++[M]) j=low n #[h5] j:=λj hj=>by
     cases j with
     | zero=>rfl
     | succ j=>show (ZY k #[aF] n++[M]).getD j []=#[h5].getD j [];rw[Qq,Qq,QX #[2]]
    by_cases l:i<#[h5].length
    ·rw[QX l]at h;obtain⟨m,o,p,q⟩:=a i X h;exact⟨(OE e n).trans m,o,p,by rw[f i #[2]];exact q⟩
    ·have r:i=#[h5].length:=by have:=(Qc.mp h).1;rw[Qf,Qp]at this;lia
     subst r;rw[QW #[gp],Nat.sub_self]at h;cases h;exact⟨.top,e,d,by rw[f _ #[gp],b]⟩
   ·rw[Qf,Qp];show (ZY k #[aF] n++[M]).getD _ []=M;rw[Qq,QW #[gp],Nat.sub_self];rfl
  ·rw[if_neg e];refine⟨λi X h=>by simp at h,?_,Qt _⟩;have h1:M.length=1:=by have:=QZ d;lia
   obtain⟨x,rfl⟩:=Qao.mp h1;have:n=x:=by simpa using d
   rw[this];rfl
structure Tk (hd hd':Hd) (N:#[i]) (n:Int) (z:#[aY]):Prop where
 win:Win hd N (U n)
 key:hd n=U z
 oth:∀b,b≠n->hd' b=hd b
 nxt:∀x,hd' n=U x->ZL z x<=0
 up:YS N
theorem Tk.ge{hd hd':Hd}{N:#[i]}{n:Int}{z:#[aY]}(h:#[rG]){b:Int}(hb:b∈N){y:#[aY]}(hy:hd' b=U y):ZL z y<=0:=by
 by_cases e:b=n
 ·exact h.nxt y #[c9,e,hy]
 ·obtain⟨_,x,a,hw⟩:=h.win;show#[oz,h.key,a];rw[h.oth b e]at hy;rcases hw b hb y hy with z|z
  ·exact absurd z e
  ·rcases z with z|z<;>lia
inductive Ag (hd:Hd) (z:#[aY]):List #[gB]->Int->Int->Prop
 | nil:Ag hd z [] 0 0
 | no {C:List (List Int×List Int)} {A B:List Int} {k q:Int}:Ag hd z C k q->(Win hd A af\/Win hd B af)->Ag hd z (C++[(A,B)]) k q
 | eq {C:List (List Int×List Int)} {A B:List Int} {k q:Int} {a b:Int} {x y:List Nat}:Ag hd z C k q->Win hd A (U a)->Win hd B (U b)->hd a=U x->hd b=U y->lcp x z=lcp y z->Ag hd z (C++[(A,B)]) (k+1) (q+((lcp x y:Nat)-(lcp x z:Nat)+1))
 | ne {C:List (List Int×List Int)} {A B:List Int} {k q:Int} {a b:Int} {x y:List Nat}:Ag hd z C k q->Win hd A (U a)->Win hd B (U b)->hd a=U x->hd b=U y->lcp x z≠lcp y z->Ag hd z (C++[(A,B)]) (k+1) q
theorem Sq{α:Type}{C D:List α}{c d:α}(h:C++[c]=D++[d]):C=D/\c=d:=by have:=List.append_inj' h rfl;exact⟨this.1,by simpa using this.2⟩
theorem Ag.last{hd:Hd}{z:#[aY]}{D:List #[gB]}{k q:Int}(h:Ag hd z D k q):∀ {C:List (List Int×List Int)} {A B:List Int},D=C++[(A,B)]->X2 λk0 d=>Ag hd z C k0 d/\((#[rj]/\k=k0/\q=d)\/(X4 λa b x y=>Win hd A (U a)/\Win hd B (U b)/\hd a=U x/\hd b=U y/\k=k0+1/\q=if lcp x z=lcp y z then d+((lcp x y:Nat)-(lcp x z:Nat)+1) else d)):=by
 intro C A B e;cases h with
 | nil=>simp at e
 | no g hw=>obtain⟨rfl,c⟩:=Sq e;cases c;exact⟨_,_,g,.inl ⟨hw,rfl,rfl⟩⟩
 | eq g f i j l m=>obtain⟨rfl,c⟩:=Sq e;cases c;exact⟨_,_,g,.inr ⟨_,_,_,_,f,i,j,l,rfl,by rw[if_pos m]⟩⟩
 | ne g f i j l m=>obtain⟨rfl,c⟩:=Sq e;cases c;exact⟨_,_,g,.inr ⟨_,_,_,_,f,i,j,l,rfl,by rw[if_neg m]⟩⟩
theorem Ag.one{hd:Hd}{z:#[aY]}{C:List #[gB]}{k q:Int}(h:Ag hd z C k q):∀ {k' e:Int},Ag hd z C k' e->k=k'/\q=e:=by
 induction h with
 | nil =>
  intro k' e g;generalize r:([]:List (List Int×List Int))=C at g;cases g with
  | nil=>exact#[aR]
  | no _ _=>simp at r
  | eq _ _ _ _ _ _=>simp at r
  | ne _ _ _ _ _ _=>simp at r
 | no g hw f =>
  show#[aq];rcases o with⟨_,rfl,rfl⟩|⟨a,b,x,y,c,d,_⟩
  ·exact⟨l,m⟩
  ·rcases hw with hw|hw
   ·show#[fq,c]
   ·show#[fq,d]
 | eq g c d s t u f =>
  show#[aq];rcases o with⟨hw,_⟩|⟨a,b,x,y,v,w,n,p,rfl,rfl⟩
  ·rcases hw with hw|hw
   ·show#[fq,c]
   ·show#[fq,d]
  ·show#[b5];rw[if_pos u];exact⟨by rw[l],by rw[m]⟩
 | ne g c d s t u f =>
  show#[aq];rcases o with⟨hw,_⟩|⟨a,b,x,y,v,w,n,p,rfl,rfl⟩
  ·rcases hw with hw|hw
   ·show#[fq,c]
   ·show#[fq,d]
  ·show#[b5];rw[if_neg u];exact⟨by rw[l],m⟩
theorem KS:∀ (x z y:List Nat),lcp z y<lcp x z->ZL x y=ZL z y
 | [],z,y,h=>by rw[lcp_nil']at h;lia
 | _::_,[],y,h=>by rw[U5]at h;lia
 | a::x,b::z,[],h=>by unfold ZL;rfl
 | a::x,b::z,c::y,h=>by
  unfold lcp at h;by_cases e:a=b
  ·subst e;rw[if_pos rfl]at h;by_cases e2:a=c
   ·subst e2;rw[if_pos rfl]at h;unfold ZL;rw[if_pos rfl,if_pos rfl];exact KS x z y #[2]
   ·unfold ZL;show#[e7,e2,e2]
  ·show#[sj];lia
theorem ZqY{x z y:#[aY]}(h:lcp z y<lcp x z):lcp x y=lcp z y:=by have:=Pd x y z;rw[WU y z]at this;lia
theorem ZrW{x z y:#[aY]}(h:lcp x z=lcp y z):lcp x z<=lcp x y:=by have:=Pd x y z;lia
theorem So{x z y:#[aY]}{a b:Int}(h:lcp y z<lcp x z)(hz:ZL z y<=0):Btr x a y b/\lcp x y=lcp y z:=by
 rw[WU y z]at h ⊢;refine⟨.inl ?_,ZqY h⟩;rw[KS x z y h];rcases Int.lt_or_eq_of_le hz with g|g
 ·exact g
 ·have e:=U3 _ _ g;subst e;rw[Lz]at h;have:=(VZ x z).2;lia
noncomputable abbrev Com:=Option (Int×Int)
def TX(hd:Hd)(z:#[aY])(M:#[i])(c:Com):Prop:=Win hd M (c.map #[lW])/\∀p,c=U p->∃x,hd p.1=U x/\p.2=#[dC,x,z]
theorem Zom{hd hd':Hd}{N M:#[i]}{n:Int}{z:#[aY]}{s:StL}(T:#[rG])(hM:Sub N M)(h2:#[hE])(h:n∈M)(ok:Yy hd s N) :
  (Win hd' #[hJ] af/\#[lY])\/X3 λt b y=>Win hd' #[hJ] (U b)/\hd' b=U y/\b∈N/\Z1 s (ZV M)=U (U (t,b,#[dC,y,z])):=by
 have r:=hM.rise T.up;have nd:=Xm r;have i:=Su r (UW h);have j:=(ok.sub hM).at_side h2 n;have l:#[o6,Y8]:=λb c=>(Ss M n).mem_iff.mp (Qn _ c);have p:#[o6,Z3]:=λb c=>(Ss M n).mem_iff.mp (Qr _ c);have q:Win hd #[aF] (U n):=by obtain⟨_,x,d,hw⟩:=T.win;exact⟨UW h,x,d,λb c y a=>hw b (hM.mem (p b c)) y a⟩
 have f:#[sr]:=λm u=>T.oth m λe=>i (e ▸ u);have v:#[hJ].Nodup:=by unfold Y8;split;exact Xm (SA r);exact Xm (SD r)
 obtain⟨w,hw⟩:=Win.ex hd #[hJ] v;cases w with
 | none=>exact .inl ⟨hw.congr f,j.2 (.inr hw)⟩
 | some b =>
  obtain⟨y,a⟩:∃y,hd b=U y:=by obtain⟨_,y,a,_⟩:=hw;exact⟨y,a⟩
  obtain⟨t,g,e,o⟩:=j.1 n b z y q hw T.key a;have k:=l b hw.1;have A:b≠n:=λz=>i (z ▸ hw.1);have B:Btr z n y b:=by obtain⟨_,x,d,C⟩:=T.win;show#[oz,T.key,d];exact(C b (hM.mem k) y a).resolve_left A
  have D:g=b:=by
   rcases o with⟨_,e⟩|⟨e,_⟩
   ·exact e
   ·exact(B.asym e).elim
  subst D;exact .inr ⟨t,g,y,hw.congr f,by rw[f g hw.1];exact a,hM.mem k,by rw[WU y z];exact e⟩
theorem OB(ns:#[i]):(XH ns).length=(ns.length+1) / 2:=by unfold XH mid;rw[QC];lia
theorem OA(ns:#[i]):(WD ns).length=ns.length / 2:=by unfold WD mid;rw[Q7];lia
noncomputable def Wv:Nat->List Int->Int->List #[iZ]
 | 0,_,_=>[]
 | f+1,ns,n=>if ns.length<=1 then [] else if n∈XH ns then WD ns::Wv f (XH ns) n else XH ns::Wv f (WD ns) n
noncomputable def X1(ns:#[i])(n:Int):List Int:=if n∈XH ns then XH ns else WD ns
noncomputable def Wc(ns:#[i])(n:Int):List Int:=if n∈XH ns then WD ns else XH ns
theorem TW{ns:#[i]}{n:Int}(h:#[sZ]):#[pZ].length<ns.length:=by
 unfold X1;split
 ·rw[OB];lia
 ·rw[OA];lia
theorem Znb{ns:#[i]}{n:Int}(h:#[sZ]):0<#[pZ].length:=by
 unfold X1;split
 ·rw[OB];lia
 ·rw[OA];lia
theorem Oz{f:Nat}{ns:#[i]}{n:Int}(h:#[sZ]):Wv (f+1) ns n=Wc ns n::Wv f #[pZ] n:=by
 conv=>lhs;unfold Wv
 show#[jY];unfold Wc X1;split<;>rfl
theorem VA{f:Nat}{ns:#[i]}{n:Int}(h:ns.length<=1):Wv f ns n=[]:=by
 cases f with
 | zero=>rfl
 | succ f=>unfold Wv;rw[if_pos h]
theorem KR:∀ (f g:Nat) (ns:List Int) (n:Int),ns.length<=f+1->ns.length<=g+1->Wv f ns n=Wv g ns n
 | 0,g,ns,n,h,_=>by rw[VA #[2],VA #[2]]
 | f+1,0,ns,n,_,h=>by rw[VA #[2],VA #[2]]
 | f+1,g+1,ns,n,h1,h2=>by
  by_cases h:1<ns.length
  ·have:=TW (n:=n) h;rw[Oz h,Oz h,KR f g _ n #[2] #[2]]
  ·rw[VA #[2],VA #[2]]
noncomputable def way(ns:#[i])(n:Int):List #[iZ]:=Wv ns.length ns n
theorem Oy{ns:#[i]}{n:Int}(h:#[sZ]):way ns n=Wc ns n::way #[pZ] n:=by
 unfold way;cases e:ns.length with
 | zero=>lia
 | succ f=>have:=TW (n:=n) h;rw[Oz h,KR f #[pZ].length _ n #[2] #[2]]
theorem TU{ns:#[i]}{n:Int}(h:ns.length<=1):way ns n=[]:=VA h
theorem KQ(n:Int):∀ns:List Int,inV (.int n) #[z]=decide (n∈ns)
 | []=>rfl
 | m::r=>by
  have a:=KQ n r;unfold inV at a ⊢;rw[Qj,QaN,a];by_cases h:m=n
  ·subst h;simp[eqV]
  ·have:(m == n)=false:=by simpa using h
   simp[eqV,this,List.mem_cons,Ne.symm h]
theorem KP:∀ns:List Int,#[z].all Wm=true
 | []=>rfl
 | _::r=>by rw[Qj,List.all_cons,KP r];rfl
def Rd(H:Hp):List ae->List #[iZ]->Prop
 | [],[]=>True
 | l::ls,d::ds=>H l=U #[tH]/\Rd H ls ds
 | _,_=>False
theorem Rd.len{H:Hp}:∀ {ls:List ae} {ds:List (List Int)},Rd H ls ds->ls.length=ds.length
 | [],[],_=>rfl
 | [],_::_,h=>h.elim
 | _::_,[],h=>h.elim
 | _::ls,_::ds,h=>by rw[QF,QF,Rd.len h.2]
theorem Rd.mono{H a:Hp}:∀ {ls:List ae} {ds:List (List Int)},(∀l∈ls,∀o,H l=U o->a l=U o)->Rd H ls ds->Rd a ls ds
 | [],[],_,_=>trivial
 | [],_::_,_,h=>h.elim
 | _::_,[],_,h=>h.elim
 | l::ls,_::ds,k,h=>⟨k l #[4] _ h.1,Rd.mono (λx hx=>k x (Qu _ hx)) h.2⟩
theorem Rd.app{H:Hp}:∀ {ls:List ae} {ds:List (List Int)} {a:List ae} {b:List (List Int)},Rd H ls ds->Rd H a b->Rd H (ls++a) (ds++b)
 | [],[],_,_,_,h=>h
 | [],_::_,_,_,h,_=>h.elim
 | _::_,[],_,_,h,_=>h.elim
 | _::ls,_::ds,_,_,h,g=>⟨h.1,Rd.app h.2 g⟩
theorem Rd.rev{H:Hp}:∀ {ls:List ae} {ds:List (List Int)},Rd H ls ds->Rd H ls.reverse ds.reverse
 | [],[],h=>h
 | [],_::_,h=>h.elim
 | _::_,[],h=>h.elim
 | l::ls,d::ds,h=>by rw[QaE,QaE];exact Rd.app (Rd.rev h.2) ⟨h.1,trivial⟩
theorem Rd.at{H:Hp}:∀ {ls:List ae} {ds:List (List Int)} {i:Nat} {l:ae},Rd H ls ds->ls[i]? = U l->∃d,ds[i]? = U d/\H l=U #[tH]
 | [],_,i,l,_,h=>by simp at h
 | _::_,[],_,_,h,_=>h.elim
 | l::ls,d::ds,0,x,h,e=>⟨d,rfl,by simp at e;subst e;exact h.1⟩
 | l::ls,d::ds,i+1,x,h,e=>by simpa using Rd.at (i:=i) h.2 #[cG,e]
def Ox:Sp:=λvs H Q _=>X3 λ(a:ae) (ns:List Int) (n:Int)=>vs=#[ft,a,n]/\H a=U #[ty]/\1<=ns.length/\ns.length<=100 /\
 ∀ (r:ae) (b:List ae) (c:Hp),H r=af->c r=U #[dp,b.map,V.ref]->r ∉ b->(∀l∈b,H l=af)->Rd c b (way ns n).reverse->Zw H c->Q #[83] c
def Dn(H:Hp)(a o:ae)(ns:#[i])(n:Int)(b:ae)(c:#[i])(ls:#[hB])(d:Hp):Prop :=
 ∃done:List (List Int),d b=U #[d8,c.map]/\b≠o/\1<=c.length/\c.length<=100/\way ns n=done++way c n/\Rd d ls done/\d o=U #[hb]/\Zw H d/\(∀l∈ls,H l=af)/\o ∉ ls/\ls.length+c.length<=100
theorem Dn.step{H:Hp}{a o:ae}{ns:#[i]}{n:Int}{b:ae}{d:#[i]}{ls:#[hB]}{h f:Hp}(D:Dn H a o ns n b d ls h)(t:H o=af)(h1:1<d.length)(s:Zw h f){x y:ae}(hx:f x=U #[t5,X1,d])(hy:f y=U #[t5,Wc,d])(nx:h x=af)(i:h y=af) :
  Dn H a o ns n x (X1 d n) (ls++[y]) #[jE]:=by
 obtain⟨done,d1,d2,d3,d4,v,w,j,m,z,p,AG⟩:=D;have q:x≠o:=(Zd j nx).symm;have r:y≠o:=(Zd j i).symm;have sl:=TW (n:=n) h1;have k:∀l,l≠o->∀u,f l=U u->#[jE] l=U u:=λl hl u g=>by rw[Ze hl];exact g
 refine⟨done++[Wc d n],k x q _ hx,q,Znb h1,by lia,by rw[v,Oy h1,Q4];rfl,?_,?_,λc u g=>?_,?_,?_,?_⟩
 ·refine Rd.app (Rd.mono (λl hl u g=>k l (λe=>p (e ▸ hl)) u (s _ _ g)) w) ⟨k y r _ hy,trivial⟩
 ·rw[Zb,Qd];rfl
 ·rw[Ze (Zd g t)];exact s _ _ (m _ _ g)
 ·intro l hl;rcases Qg.mp hl with hl|hl
  ·exact z l hl
  ·rw[Qe.mp hl];exact m.free i
 ·intro A;rcases Qg.mp A with hl|hl
  ·exact p hl
  ·exact r (Qe.mp hl).symm
 ·rw[Qf,Qp];lia
theorem ZsC(T:#[n])(cD:#[a5]):Df P w K mg base 2 "way_up" #[bk] Ox:=by
 show#[oG,T.t_way_up.df,VF];obtain⟨a,p,n,rfl,L,h1,M,q⟩:=h;refine⟨_,#[Zg,#[dU,2,VF.nd],#[Zg,#[nY,VF.nd,0],#[Zg,(@UG _ _ _ _ _ _ ba.never #[Zm,WZ,#[dT,3],#[Zi],#[h4]] #[Zg,#[Yv,#[fG,cD,hr,3],#[nu,4,VF.nd,5]],#[Zj,#[Y0,#[Zm,(inQ K),‹1›,‹4›,#[id]],#[Zg,#[tT,QS,QT,WW,2,5],#[Zj,#[nY,VF.nd,4]]],#[Zg,#[tT,QS,QT,WW,2,4],#[Zj,#[nY,VF.nd,5]]]]]]),#[Zg,#[Yf,(@MP _ _ _ _ _ _ _ _ _ QI PySem.F.slot_list_reverse PySem.F.type_list_reverse Zkk ‹2› #[5] #[5])],#[aP]]]]],#[29],λo g=>?_⟩;have N:a≠o:=Zd L g;refine⟨_,rfl,λm O R=>X5 λ(b:ae) (d:List Int) (i:List ae) (S W:Option V)=>O=[U #[61],U (.int n),U (.ref o),U #[p6],S,W]/\Dn H a o p n b d i R/\m=d.length,⟨_,a,p,[],af,af,rfl,⟨[],?_,N,h1,M,rfl,trivial,Zb,Zh g _,#[cM,l,j],#[tX,B],by simpa using M⟩,rfl⟩,?_⟩
 ·rw[Ze N];exact L
 rintro m O R ⟨b,d,i,S,W,rfl,D,rfl⟩;obtain⟨done,X,d2,d3,d4,d5,d6,C,d8,d9,Y,AG⟩:=id D;have hlc:#[o3,d.map]=(d.length:Int):=by rw[Qa]
 show#[es,b,X];show#[d3,c1]
 ·have AH:(1:Int)<#[o3,d.map]:=of_decide_eq_true c1;have F:1<d.length:=by lia
  refine#[gR];refine⟨_,rfl,b,d,rfl,SqL.of X,d4,λt x y H3 ht Z hy nxy et ex ey G ntx nty=>?_⟩;show#[dm,t,et];have r:=G _ _ C;have aN:(i.map V.ref).length<aq:=by rw[Qa];exact #[rC]
  have sl:=TW (n:=n) F;refine⟨_,rfl,_,rfl,x,_,rfl,.inl (SqL.of ex),rfl,KP _,_,rfl,?_⟩;show if inV (V.int n) ((XH d).map V.int)=true then _ else _
  rw[KQ];show#[d3,c2]
  ·have k:n∈XH d:=of_decide_eq_true c2;have I:X1 d n=XH d:=by unfold X1;rw[if_pos k]
   have J:Wc d n=WD d:=by unfold Wc;rw[if_pos k]
   refine⟨_,rfl,.inl #[dl,r],_,rfl,o,_,_,rfl,rfl,r,aN,_,rfl,_,?_,x,X1 d n,i++[y],_,_,rfl,D.step g F G #[cL,I,ex] #[cL,J,ey] Z hy,rfl⟩;exact sl
  ·have k:¬ n∈XH d:=λz=>c2 #[75];have I:X1 d n=WD d:=by unfold X1;rw[if_neg k]
   have J:Wc d n=XH d:=by unfold Wc;rw[if_neg k]
   refine⟨_,rfl,.inl #[dl,r],_,rfl,o,_,_,rfl,rfl,r,aN,_,rfl,_,?_,y,X1 d n,i++[x],_,_,rfl,D.step g F G #[cL,I,ey] #[cL,J,ex] hy Z,rfl⟩;exact sl
 ·have AH:¬ (1:Int)<#[o3,d.map]:=λz=>c1 #[75];have e:way p n=done:=by rw[d5,TU #[2],QO]
  refine⟨_,rfl,.inl #[dl,C],o,_,rfl,rfl,C,_,rfl,q o i.reverse _ g (by rw[Zb,List.map_reverse]) (λB=>Y (List.mem_reverse.mp B)) (λl j=>d9 l #[tt]) ?_ λc u v=>?_⟩
  ·rw[e];refine Rd.mono (λl j u v=>?_) d6.rev;rw[Ze (λz=>by subst z;exact Y #[tt])];exact v
  ·rw[Ze (Zd v g)];exact d8 _ _ v
theorem Ow:∀ (k:Nat) (M:List Int) (n:Int),M.length<=2 ^ k->(way M n).reverse=#[lE].map (λX=>Y8 X n)
 | 0,M,n,h=>by rw[TU #[cG,h]];rfl
 | k+1,M,n,h=>by
  unfold ZY;by_cases h2:2<=M.length
  ·rw[if_pos h2,Oy #[2],QaE,Qd];have a:#[my]:=by
    rw[Nat.pow_succ]at h;unfold Z3;split
    ·unfold lo mid;rw[QC];lia
    ·unfold up mid;rw[Q7];lia
   have e:=Ow k #[aF] n a;rw[<- e];rfl
  ·rw[if_neg h2,TU #[2]];rfl
theorem ZnF{M:#[i]}(h:#[hE])(n:Int):Y8 M n≠[]:=by
 unfold Y8;split
 ·exact Xt (WB h).2
 ·exact Xt (WS h).2
theorem ZkB{M:#[i]}(r:YS M)(h:#[hE])(n:Int):ZV M=(if #[hJ].headD 0<#[aF].headD 0 then (Y8 M n).headD 0 else (Z3 M n).headD 0,if #[hJ].getLastD 0>#[aF].getLastD 0 then (Y8 M n).getLastD 0 else (Z3 M n).getLastD 0):=by have a:=O0 h;have b:=O3 h;have l1:=U1 (Xt (WS h).2);have l2:=U0 (Xt (WS h).2);have e:=U1 (Xt (WB h).2);have f:=U0 (Xt (WB h).2);have c:=ZR r l1 e;have d:=ZR r l2 f;unfold Z3 Y8;split<;>(refine Prod.ext ?_ ?_<;>dsimp only<;>first|lia|(split<;>lia))
theorem Rd.get{H:Hp}:∀ {ls:List ae} {ds:List (List Int)},Rd H ls ds->∀ {i:Nat} {l:ae} {d:List Int},ls[i]? = U l->ds[i]? = U d->H l=U #[tH]
 | [],[],_,i,l,d,h,_=>by simp at h
 | l::ls,d::ds,⟨h1,h2⟩,0,a,b,e1,e2=>by simp at e1 e2;rw[<- e1,<- e2];exact h1
 | l::ls,d::ds,⟨h1,h2⟩,i+1,a,b,e1,e2=>Rd.get h2 #[cG,e1] #[cG,e2]
def KO:Sp:=λvs H Q _=>X3 λ(a:ae) (N:List Int) (n:Int)=>vs=#[ft,a,n]/\H a=U #[d8,N.map]/\n∈N/\N.length<=60/\YS N /\
 ∀ (r:ae) (c:List ae) (b:Hp),H r=af->b r=U #[dp,c.map,V.ref]->c.length=#[pn].length->(∀ (i:Nat) (t:ae) (X:List Int),c[i]? = U t->#[pn][i]? = U X->b t=U #[ep,X])->Zw H b->Q #[83] b
theorem Zky(T:#[n])(fF:#[sq]):Df P w K mg base 3 "matches_up" #[bk] KO:=by
 show#[oG,T.t_matches_up.df,VE];obtain⟨a,N,n,rfl,ha,Z,fZ,dM,q⟩:=h;refine⟨_,#[Zg,#[dU,2,VE.nd],#[Zg,#[nY,VE.nd,1],#[Zg,#[ZB,4,VE.nd,#[3],‹1›],#[Zg,#[Xx,ba.never,#[iL,K,#[tS,fF,hr]],#[oc,5,VE.nd],#[Zg,#[ZB,3,VE.nd,#[3],#[Zk,(RP rfl),#[5],T.b.n_min,boot_min,#[Zc,‹3›,#[df,ixL,5]]]],#[Zg,#[ZB,4,VE.nd,#[3],#[Zk,(No rfl),#[5],T.b.n_max,boot_max,#[Zc,‹4›,#[Zx,#[lz],‹5›,#[gk]]]]],#[Zj,#[Yf,#[Xw,QI,QS,QT,WW,‹2›,#[Zc,#[ZO,#[fb,3,4]]]]]]]]],#[aP]]]]],?_⟩;have fO:=QZ Z;have pC:N.length<=2 ^ 8:=QL fZ #[6];obtain⟨sf,qr,u8⟩:=OC 8 N n Z pC;show#[tU,r,G,I];show#[cW,g,H,r,#[av]];generalize upd H r (.lst [])=H1 at I g ⊢;refine⟨_,rfl,_,rfl,_,rfl,_,rfl,a,N,n,rfl,I _ _ ha,fO,by lia,λwy v H2 u9 qu CG io J L=>?_⟩;rw[Ow 8 N n pC]at J;have iV:=J.len;rw[Qa]at iV;have AI:=I.trans L;refine⟨wy,rfl,⟨_,SqL.of qu⟩,?_⟩;refine RV (K:=K) (a:=wy) (xs:=v.map V.ref) (λi x d=>X2 λ(M:Option V) (c:List ae)=>x=[U #[61],U (.int n),U #[83],U (.int (#[h1].headD 0)),U (.int (#[h1].getLastD 0)),M]/\i<=v.length/\c.length=i/\d r=U #[dp,c.map,V.ref]/\(∀ (j:Nat) (t:ae) (X:List Int),c[j]? = U t->#[pn][j]? = U X->d t=U #[ep,X])/\(∀t∈c,t≠r/\∃xs,d t=U #[71])/\#[dO,H2,r,d]) ⟨_,[],rfl,Qt _,rfl,L _ _ g,(λj t X h=>by simp at h),#[cM,t,h],λb o h _=>h⟩ (λi x d _ hq=>by obtain⟨_,_,_,_,_,_,_,_,k3⟩:=hq;exact SqL.of (k3 _ _ qu (λz=>by rw[z,g]at u9;cases u9))) ?_ ?_
 ·rintro i y x d k ⟨M,c,rfl,hi,O,e,R,pD,k3⟩;rw[Ql]at k;cases m:v[i]? with
  | none=>rw[m]at k;cases k
  | some l =>
  show#[nV,m,k,v.length];cases p:(ZY 8 N n)[i]? with
  | none=>rw[QaL]at p;lia
  | some X =>
  obtain⟨x1,x2,x3,x4⟩:=sf i X p;have S:H2 l=U #[t5,Y8,X]:=J.get m #[oj,p];have AJ:l≠r:=λz=>by rw[z]at S;rw[L _ _ g]at S;have:=io l (Qo m);show#[n0,g]
  have eX:=k3 _ _ S AJ;have cj:=ZnF x2 n;have B:=ZkB (x1.rise dM) x2 n;rw[x4]at B;have e3:low n #[pn] (i+1)=X:=by show (ZY 8 N n).getD i []=X;rw[Qq,p];rfl
  refine⟨_,rfl,_,rfl,l,_,_,_,rfl,rfl,SqL.of eX,Lc cj,_,_,rfl,_,rfl,_,rfl,_,rfl,l,_,_,_,rfl,rfl,SqL.of eX,Ld cj,_,_,rfl,_,rfl,.inl #[dl,e],_,rfl,_,rfl,#[w],λt C=>?_⟩;have D:r≠t:=Zd e C;refine⟨r,_,_,rfl,rfl,by rw[Ze D];exact e,#[kr],U #[h6],c++[t],?_,ce,by rw[Qf,Qp];lia,by rw[Zb,Qd];rfl,λj u Y hu W=>?_,λu hu=>?_,λb o F nb=>?_⟩
  ·rw[e3];have h1:=congrArg Prod.fst B;have h2:=congrArg Prod.snd B;simp only at h1 h2;rw[show X.headD 0=(ZV X).1 from rfl,show X.getLastD 0=(ZV X).2 from rfl,h1,h2];rfl
  ·have pF:∀ (u:ae) (xs:List V),d u=U #[71]->(upd (upd d t (.tup [.int (if (Y8 X n).headD 0<#[h1].headD 0 then (Y8 X n).headD 0 else (low n #[pn] i).headD 0),.int (if (Y8 X n).getLastD 0>#[h1].getLastD 0 then (Y8 X n).getLastD 0 else (low n #[pn] i).getLastD 0)])) r (.lst (c.map V.ref++[.ref t]))) u=U #[71]:=λu xs hu=>by rw[Ze (λz=>by rw[z,e]at hu;cases hu),Ze (Zd hu C)];exact hu
   by_cases hj:j<c.length
   ·rw[QX hj]at hu;exact pF u _ (R j u Y hu W)
   ·have ej:j=c.length:=by have:=(Qc.mp hu).1;rw[Qf,Qp]at this;lia
    subst ej;rw[QW #[gp],Nat.sub_self]at hu;cases hu;show#[d9,O,p,W];rw[Ze D.symm,Zb,B]
  ·rcases Qg.mp hu with hu|hu
   ·obtain⟨g1,xs,g2⟩:=pD u hu;exact⟨g1,xs,by rw[Ze g1,Ze (Zd g2 C)];exact g2⟩
   ·rw[Qe.mp hu];exact⟨D.symm,_,by rw[Ze D.symm];exact Zb⟩
  ·have:=k3 b o F nb;rw[Ze nb,Ze (Zd this C)];exact this
 ·rintro x d ⟨M,c,rfl,_,O,e,R,_,k3⟩;rw[Qa]at O;exact⟨_,rfl,q r c d G e #[2] R (λb o F=>k3 b o (AI b o F) (Zd F G))⟩
def CV(H:Hp)(v:V)(c:Com):Prop:=(c=af/\v=.non)\/X2 λ(t:ae) (p:Int×Int)=>c=U p/\v=.ref t/\H t=U #[fl,p.1,p.2]
theorem CV.keep{H a:Hp}{v:V}{c:Com}(h:CV H v c)(k:#[dE,t,xs,H,#[71],a]):CV a v c:=by
 rcases h with h|⟨t,p,b,d,e⟩
 ·exact .inl h
 ·exact .inr ⟨t,p,b,d,k _ _ e⟩
theorem Zoz{s:StL}{k:#[cs]}{a:#[78]}(h:Z1 s k=U a):s.any #[hF]=true:=List.any_eq_true.mpr ⟨_,Ll h,decide_eq_true rfl⟩
theorem Ov{s:StL}{k:#[cs]}{a v:#[78]}(h:Z1 s k=U a):#[iW].length=s.length:=by unfold Yj;rw[if_pos (Zoz h),Qa]
def AgS(hd:Hd)(z:#[aY])(A B:#[i])(k q:Int):Prop:=∀C k0 a,Ag hd z C k0 a->Ag hd z (C++[(A,B)]) (k0+k) (a+q)
def KN(e f:ae):Sp:=λvs H Q _=>X15 λ(m rd sd:ae) (L:List ZD) (s:StL) (nb li lo:Int) (g:V) (h:ae) (v:V) (c:Com) (z:List Nat) (M:List Int) (n:Int)=>vs=[.ref m,.ref h,v]/\Zt e f H m rd sd L s nb li lo g/\H h=U #[ep,M]/\CV H v c/\TX #[cd] z #[aF] c /\
 ((Win #[cd] #[hJ] af/\#[lY])\/X3 λt b y=>Win #[cd] #[hJ] (U b)/\hdM L b=U y/\Z1 s (ZV M)=U (U (t,b,#[dC,y,z]))) /\
 (∀b∈M,∀y,hdM L b=U y->ZL z y<=0)/\YS M/\(∀b∈M,b∈ZF L)/\2<=M.length/\n∈M /\
 ∀ (i:V) (l:Com) (d:StL) (k q:Int) (a:Hp),CV a i l->TX #[cd] z M l->Ww #[cd] d #[aF] #[hJ] (ZV M)->(∀j,j≠ZV M->Z1 d j=Z1 s j)->AgS #[cd] z #[aF] #[hJ] k q ->
  Zt e f a m rd sd L d nb (li+k) (lo+q) g->#[eR,H,sd,a]->Q i a
theorem KL{L:#[a4]}(nd:#[j8]){b:Int}(hb:b∈ZF L){y:#[aY]}(hy:hdM L b=U y):∃e∈L,e.n=b/\∃x,e.ss[e.g]? = U x/\y=cds x:=by
 obtain⟨e,c,rfl⟩:=T3 hb;rw[Wf nd c]at hy;cases a:e.ss[e.g]? with
 | none=>rw[a]at hy;cases hy
 | some x=>rw[a]at hy;cases hy;exact⟨e,c,rfl,x,a,rfl⟩
theorem ZoC(T:#[n])(bH:#[tI]):Mf P w K mg base 4 ao "play_again" #[a3] (KN aB ao):=by
 show#[oG,T.t_Merge_play_again.mf,Ue];obtain⟨m,rd,I,L,s,nb,li,lo',aC,tm,v,c,z,M,n,rfl,Mg,iS,pG,⟨wS,va⟩,dt,di,dM,hin,h2,hn,q⟩:=h;refine⟨_,#[Zg,#[ZB,3,Ue.nd,#[3],(@ZsH _ _ _ _ _ _ _ _ hr #[W] ‹1› #[5] #[5] #[5])],#[Zg,#[Y0,#[ov,3],#[aP],#[ZM]],#[Zg,#[Y0,#[ov,2],#[Zg,#[Yv,#[YN],#[iA]],#[dH,3]],#[ZM]],#[Zg,#[Y0,#[Zm,YG,#[bo],#[bn],#[h4]],#[Zg,#[Yv,#[W6,bH,T.cl_Merge,hr,‹0›,#[Zc,#[bo],#[bn],#[bo]]],#[ez,4,Ue.nd,5,6]],#[Zg,#[Yv,#[ZO,#[fb,5,6]],#[iA]],#[Zj,#[Zn,#[ZO,#[Zc,‹4›,#[bo]]]]]]],#[ZM]],#[Zg,#[e1,0],#[Zg,#[Y0,#[Zm,WZ,#[bo],#[bn],#[h4]],#[aP],#[ZM]],#[Zg,#[Yv,‹2›,#[iA]],#[dH,3]]]]]]]],?_⟩;show#[c5,dx,N,Mg.ob];have lK:#[fo,H]:=iS;have Z:=Ss M n;have dg:=XY.t (k:=#[51]) Mg.stays lK;rw[Lm]at dg;have sA:#[o6,Z3]:=λb r=>Z.mem_iff.mp (Qr _ r);have sB:#[o6,Y8]:=λb r=>Z.mem_iff.mp (Qn _ r);have dY:=Su dM (UW hn);have AK:∀a b,a∈Z3 M n->b∈Y8 M n->a≠b:=λa b ha r e=>by
  subst e;unfold Z3 Y8 at *
  split at ha
  ·rename_i hl;show#[n3,hl,r];have:=ZR dM ha r;lia
  ·rename_i hl;show#[fx,hl,r];have:=ZR dM r ha;lia
 refine⟨_,rfl,m,ao,dx,_,_,rfl,N,T.cl_Merge,T.na_Merge_stays,T0 ..,I,rfl,.inr ⟨_,.inl Mg.stays⟩,_,rfl,_,dg,?_⟩;rcases dt with⟨u,W⟩|⟨t,b,y,u,D,W⟩
 ·have ev:#[tB].getD .non=.non:=by rcases W with e|e<;>rw[e]<;>rfl
  rw[ev];refine⟨_,rfl,rfl,_,rfl,Xv rfl ⟨_,rfl,q v c s 0 0 H pG ⟨(Win.left wS u).perm Z,va⟩ ⟨(λa b x y _ wb _ _=>nomatch u.one wb),λ_=>W⟩ #[hm] (λC k0 q0 g=>by rw[Qaf,Qaf];exact .no g (.inr u)) (Mg.cast #[2] #[2]) #[qH]⟩⟩
 have bF:=Mg.ats _ (Ll W) _ rfl;have e1:#[tB].getD .non=.ref t:=by rw[W];rfl
 rw[e1];have sg:=Mg.sfew;have j5:(kvS s).length<aq:=by unfold kvS;rw[Qa];exact #[rC]
 show#[am];have lg:=sB b u.1;rcases pG with⟨rfl,rfl⟩|⟨F,p,rfl,rfl,J⟩
 ·refine#[mR];refine⟨_,rfl,m,ao,dx,_,_,rfl,N,T.cl_Merge,T.na_Merge_stays,T0 ..,_,rfl,I,_,rfl,WV.t (k:=#[51]) Mg.stays lK j5,?_⟩;rw[show V.non=stV af from rfl,SE];have kM:(Yj s (ZV M) af).length<=100:=by rw[Ov W];exact sg
  have M2:=Mg.put (k:=ZV M) (v:=af) #[cM,t,X] kM;have B:Win #[cd] #[aF] af:=wS;refine⟨_,rfl,q #[i9] (U (b,#[dC,y,z])) _ 0 0 _ #[nT,t,?_] ⟨(Win.right B u).perm Z,λp hp=>?_⟩ ⟨(λa b x y wa _ _ _=>nomatch B.one wa),λ_=>.inr ?_⟩ (λj hj=>?_) (λC k0 q0 g=>?_) (M2.cast #[2] #[2]) (λb o r _ n2=>by rw[Ze n2];exact r)⟩
  ·show#[ny,Ze,z,Mg.stays,bF]
  ·cases hp;exact⟨y,D,rfl⟩
  ·rw[WA,if_pos rfl]
  ·rw[WA,if_neg hj]
  ·rw[Qaf,Qaf];exact .no g (.inl B)
 show#[c5,a,fa,p];obtain⟨x,G,vb⟩:=va _ rfl;simp only at G vb;subst vb;have B:Win #[cd] #[aF] (U a):=wS;have vc:=sA a B.1;have dH:=AK a b B.1 u.1;obtain⟨O,pj,rfl,i,AL,rfl⟩:=KL Mg.nd (hin a vc) G;obtain⟨eb,pk,rfl,l,AM,rfl⟩:=KL Mg.nd (hin b lg) D;show#[eT,c0,O.n,#[27],0,O.n];show#[eT,c1,O.n,#[27],1,#[27]];show#[eT,d0,eb.n,#[aL],0,eb.n];show#[eT,d1,eb.n,#[aL],1,#[aL]];show#[am];refine⟨_,rfl,F,_,_,_,rfl,rfl,SqT.of J,c1,_,rfl,t,_,_,_,rfl,rfl,SqT.of bF,d1,rfl,_,rfl,Y2 #[79] #[79]⟩
 ·have ef:lcp (cds i) z=lcp (cds l) z:=by have:=#[58];injection this with this;lia
  have dR:=ZrW ef;refine⟨_,rfl,m,dx,_,rfl,N,Lb ..,_,rfl,F,_,_,_,rfl,rfl,SqT.of J,c0,_,rfl,t,_,_,_,rfl,rfl,SqT.of bF,d0,_,rfl,F,_,_,_,rfl,rfl,SqT.of J,c1,m,rd,I,L,s,nb,li,lo',aC,O,eb,i,l,lcp (cds i) z,rfl,Mg,pj,pk,AL,AM,dR,λt5 wi R H5 hw rX nF M5 b5=>?_⟩;show#[en,t5,nF];have nG:2<=aq:=by decide
  refine⟨_,rfl,_,rfl,nG,λS rY=>?_⟩;have s6:=Zh rY #[fl,R,#[39]];have j0:(upd H5 S #[fl,R,#[39]]) S=U #[fl,R,#[39]]:=Zb;have M6:=M5.same s6;generalize upd H5 S (.tup [.int R,.int ((lcp (cds i) (cds l):Nat):Int)])=H6 at s6 j0 M6 ⊢;show#[c5,nH,nJ,M6.ob];have si:tm≠m:=λz=>by rw[z,N]at iS;cases iS
  have sj:F≠m:=λz=>by rw[z,N]at J;cases J
  have vd:#[fo,H6]:=s6 _ _ (b5 _ _ lK si);refine⟨_,rfl,m,ao,nH,_,_,rfl,nJ,T.cl_Merge,T.na_Merge_stays,T0 ..,_,rfl,I,_,rfl,WV.t (k:=#[51]) M6.stays vd j5,?_⟩;rw[show V.ref S=stV (U (S,R,#[39])) from rfl,SE];have kM:#[pY].length<=100:=by rw[Ov W];exact sg
  have M7:=M6.put (k:=ZV M) (v:=U (S,R,#[39])) (λt X=>by injection X with X;rw[<- X];exact j0) kM;have b7:∀b o,H b=U o->b≠m->b≠I->(upd H6 I (.dT (kvS #[pY]))) b=U o:=λb o r n1 n2=>by rw[Ze n2];exact s6 _ _ (b5 b o r n1)
  have vf:F≠I:=λz=>by rw[z,Mg.stays]at J;cases J
  generalize upd H6 I (.dT (kvS (Yj s (ZV M) (U (S,R,((lcp (cds i) (cds l):Nat):Int))))))=H7 at M7 b7 ⊢;refine⟨_,rfl,_,rfl,F,_,_,_,rfl,rfl,SqT.of (b7 _ _ J sj vf),c1,nG,λt8 vg=>?_⟩;have wn:Win #[cd] M (U wi):=by
   rcases hw with⟨Y,rfl,_⟩|⟨Y,rfl,_⟩
   ·exact(Win.both B u G D Y).perm Z
   ·exact(Win.both' B u G D #[oF,dH,Y]).perm Z
  refine q (.ref t8) (U (wi,#[27])) _ 1 ((lcp (cds i) (cds l):Nat)-(lcp (cds i) z:Nat)+1) _ #[nT,t8,Zb] ⟨wn,λp hp=>?_⟩ ⟨λa b x' y' wa wb lc lf=>?_,λdY=>?_⟩ #[pN] (λC k0 q0 g=>.eq g B u G D ef) ((M7.same (Zh vg _)).cast rfl rfl) (λb o r n1 n2=>Zh vg _ _ _ (b7 b o r n1 n2))
  ·cases hp;rcases hw with⟨Y,rfl,_⟩|⟨Y,rfl,_⟩
   ·exact⟨_,G,rfl⟩
   ·exact⟨_,D,by simp only;rw[ef]⟩
  ·show#[R];refine⟨S,R,by rw[WA,if_pos rfl],?_⟩;rcases hw with⟨Y,_,rfl⟩|⟨Y,_,rfl⟩
   ·exact .inl ⟨Y,rfl⟩
   ·exact .inr ⟨(Btr.total dH).resolve_left Y,rfl⟩
  ·rcases dY with z|z
   ·show#[nP,B]
   ·show#[nP,u]
 have vh:lcp (cds i) z≠lcp (cds l) z:=λe=>d (decide_eq_true (by rw[e]));refine⟨_,rfl,m,ao,dx,_,_,rfl,N,T.cl_Merge,T.na_Merge_likened,OK ..,_,_,rfl,rfl,dx,_,N,VX ..,?_⟩;rw[Le];have M2:=Mg.obj (nb':=nb) (li':=li+1) (lo':=lo') (best':=aC) (dx:=dx);have k2:∀b o,H b=U o->b≠m->(upd H m (.ins ao dx (mgF rd nb (li+1) lo' I aC))) b=U o:=λb o r n=>by rw[Ze n];exact r
 have sj:F≠m:=λz=>by rw[z,N]at J;cases J
 have AN:t≠m:=λz=>by rw[z,N]at bF;cases bF
 have si:tm≠m:=λz=>by rw[z,N]at iS;cases iS
 generalize upd H m (.ins ao dx (mgF rd nb (li+1) lo' I aC))=H2 at M2 k2 ⊢;have nU:=k2 _ _ J sj;have lL:=k2 _ _ bF AN;refine⟨_,rfl,F,_,_,_,rfl,rfl,SqT.of nU,c1,_,rfl,t,_,_,_,rfl,rfl,SqT.of lL,d1,_,_,rfl,rfl,_,rfl,Y2 (λg=>?_) (λg=>?_)⟩
 ·have hgt:lcp (cds l) z<lcp (cds i) z:=by have:#[aL]<#[27]:=#[l8];lia
  obtain⟨bt,el⟩:=So (a:=O.n) (b:=eb.n) hgt (di _ lg _ D);refine⟨_,rfl,q (.ref F) (U (O.n,#[27])) s 1 0 H2 #[nT,F,nU] ⟨(Win.both B u G D bt).perm Z,λp hp=>by cases hp;exact⟨_,G,rfl⟩⟩ ⟨λa b x' y' wa wb lc lf=>?_,λdY=>?_⟩ #[hm] (λC k0 q0 g=>by rw[Qaf];exact .ne g B u G D vh) (M2.cast rfl #[2]) (λb o r n1 _=>k2 b o r n1)⟩
  ·show#[R];exact⟨t,_,by rw[el];exact W,.inl ⟨bt,rfl⟩⟩
  ·rcases dY with z|z
   ·show#[nP,B]
   ·show#[nP,u]
 ·have aN:lcp (cds i) z<lcp (cds l) z:=by have:¬ #[aL]<#[27]:=λe=>g (decide_eq_true e);lia
  obtain⟨bt,el⟩:=So (a:=eb.n) (b:=O.n) aN (di _ vc _ G);show#[hO];have vi:#[fo,H2]:=k2 _ _ lK si;refine⟨_,rfl,_,rfl,m,ao,gb,_,_,rfl,cI,T.cl_Merge,T.na_Merge_stays,T0 ..,_,rfl,I,_,rfl,WV.t (k:=#[51]) M2.stays vi j5,?_⟩;rw[show V.ref F=stV (U (F,O.n,#[27])) from rfl,SE];have kM:(Yj s (ZV M) (U (F,O.n,#[27]))).length<=100:=by rw[Ov W];exact sg
  have M3:=M2.put (k:=ZV M) (v:=U (F,O.n,#[27])) (λt X=>by injection X with X;rw[<- X];exact nU) kM;refine⟨_,rfl,q #[i9] (U (eb.n,#[aL])) _ 1 0 _ #[nT,t,?_] ⟨(Win.both' B u G D bt).perm Z,λp hp=>by cases hp;exact⟨_,D,rfl⟩⟩ ⟨λa b x' y' wa wb lc lf=>?_,λdY=>?_⟩ #[pN] (λC k0 q0 g=>by rw[Qaf];exact .ne g B u G D vh) (M3.cast rfl #[2]) (λb o r n1 n2=>by rw[Ze n2];exact k2 b o r n1)⟩
  ·show#[ny,Ze,z,M2.stays,lL]
  ·show#[R];exact⟨F,_,by rw[WA,if_pos rfl,WU (cds i) (cds l),el],.inr ⟨bt,rfl⟩⟩
  ·rcases dY with z|z
   ·show#[nP,B]
   ·show#[nP,u]
noncomputable def W9(n:Int)(e:ZD):ZD:=if e.n=n then ⟨e.n,e.p,e.k,e.f,e.ss,e.g+1⟩ else e
noncomputable def bump(L:#[a4])(n:Int):List ZD:=L.map (W9 n)
theorem Vz(n:Int)(e:ZD):(W9 n e).n=e.n/\(W9 n e).p=e.p/\(W9 n e).k=e.k/\(W9 n e).f=e.f/\(W9 n e).ss=e.ss:=by unfold W9;split<;>exact#[rt]
theorem Sn{n:Int}{e:ZD}(h:e.n=n):W9 n e=⟨e.n,e.p,e.k,e.f,e.ss,e.g+1⟩:=if_pos h
theorem Ou{n:Int}{e:ZD}(h:¬ e.n=n):W9 n e=e:=if_neg h
theorem UV(L:#[a4])(n:Int):ZF #[lC]=ZF L:=by unfold ZF bump;rw[QA];exact QJ λe _=>(Vz n e).1
theorem Zqx(L:#[a4])(n:Int):#[lC].map (·.p)=L.map (·.p):=by unfold bump;rw[QA];exact QJ λe _=>(Vz n e).2.1
theorem ZnJ(L:#[a4])(n:Int):kvM #[lC]=kvM L:=by unfold kvM bump;rw[QA];refine QJ λe _=>?_;simp only[Function.comp];rw[(Vz n e).1,(Vz n e).2.1]
theorem Zqm{m rd sd:ae}{L:#[a4]}{n:Int}{b:ae}(h:Fp m rd sd #[lC] b):Fp m rd sd L b:=by
 rcases h with h|h|h|⟨e',a,h⟩
 ·exact .inl h
 ·exact .inr (.inl h)
 ·exact #[lr]
 ·show#[cK,e,c,a];obtain⟨_,d,f,g,_⟩:=Vz n e;rw[d,f,g]at h;exact .inr (.inr (.inr ⟨e,c,h⟩))
theorem Fp_bump'{m rd sd:ae}{L:#[a4]}{n:Int}{b:ae}(h:Fp m rd sd L b):Fp m rd sd #[lC] b:=by
 rcases h with h|h|h|⟨e,a,h⟩
 ·exact .inl h
 ·exact .inr (.inl h)
 ·exact #[lr]
 ·obtain⟨_,c,d,f,_⟩:=Vz n e;refine .inr (.inr (.inr ⟨W9 n e,Qm a,?_⟩));rw[c,d,f];exact h
theorem KJ{n b:Int}(h:b≠n):∀L:List ZD,hdM #[lC] b=hdM L b
 | []=>rfl
 | e::L=>by
  have c:=KJ h L;unfold hdM hdL bump at c ⊢;rw[Qj,Qj,Qj,Qag,Qag];have d:(toL (W9 n e)).1=e.n:=(Vz n e).1;rw[d];by_cases a:e.n=b
  ·rw[decide_eq_true a,decide_eq_true (show (toL e).1=b from a),Ou (λz=>h (a.symm.trans z))]
  ·rw[decide_eq_false a,decide_eq_false (show ¬ (toL e).1=b from a)];exact c
theorem KI{L:#[a4]}(nd:#[j8]){e:ZD}(he:e∈L):hdM #[j7] e.n=(e.ss[e.g+1]?).map cds:=by have a:W9 e.n e∈bump L e.n:=Qm he;rw[Sn rfl]at a;exact Wf (L:=bump L e.n) #[cL,UV,nd] a
theorem Ot(k f:ae)(g:Int):Yr k f g=([("all_keys",.ref k),("fars",.ref f),("gone",.int g)]:List (aj×V)):=by unfold Yr;rw[We,Zv nFK,We,Zv nGK,Zv nGF,We]
theorem ZgV(k f:ae)(g v:Int):Zu "gone" (.int v) #[iV]=Yr k f v:=by rw[Ot,Ot,Zv nGK,Zv nGF,T1]
theorem Zop(k f:ae)(g:Int):#[iV].length<1000:=by rw[Ot];show 3<1000;decide
theorem ZlY(k f:ae)(g:Int):#[iV].lookup ("fars" : aj)=U #[a1]:=by unfold Yr;rw[Zo,if_neg nGF,Zo,if_pos rfl]
theorem ZsU{L:#[a4]}(pd:#[tu].Nodup){e e':ZD}(he:e∈L)(a:e'∈L)(h:e.p=e'.p):e=e':=by
 have b:((L.map λx=>(x.p,x)).map #[lW]).Nodup:=by rw[QA];exact pd
 have:=Wd b #[ok,x.p,he] #[ok,x.p,a] h;injection this
theorem Zt.bump{b h:ae}{H:Hp}{m rd sd:ae}{L:#[a4]}{s:StL}{nb li lo:Int}{i:V}(M:#[e2,b,h,i]){e:ZD}(he:e∈L)(k:e.g<e.ss.length){dp:ae} :
  Zt b h (upd H e.p (.ins b dp (Yr e.k e.f #[ej,e.g,1]))) m rd sd (My.bump L e.n) s nb li lo i:=by
 show#[oo,l,n];obtain⟨dq,c⟩:=(M.each e he).at'.ob;obtain⟨o,_,_⟩:=M.ne_p he;obtain⟨d,_,_,p,_,_⟩:=M.ne_sd he;refine⟨⟨l,by rw[Ze o];exact n⟩,by rw[Ze p,ZnJ];exact M.rows,by rw[Ze d];exact M.stays,λx a t q=>?_,λe' r=>?_,by rw[UV];exact M.up,by rw[Zqx];exact M.pd,by unfold My.bump;rw[Qa];exact M.few,M.sfew⟩
 ·have:=M.ats x a t q;show#[dJ,c]
 ·show#[cK,x,a,r];have R:=M.each x a;have u:∀ {y:ZD},y∈L->y.k≠e.p/\y.f≠e.p:=λ{y} v=>by have j:=M.each y v;exact⟨(λz=>by have:=j.at'.ks;rw[z,c]at this;cases this),(λz=>by have:=j.at'.fs;rw[z,c]at this;cases this)⟩
  obtain⟨k1,k2⟩:=u a;by_cases g:x.n=e.n
  ·have ex:x=e:=by
    have d:((L.map λx=>(x.n,x)).map #[lW]).Nodup:=by rw[QA];exact M.nd
    have:=Wd d #[ok,x.n,a] #[ok,x.n,he] g;injection this
   subst ex;rw[Sn rfl];exact⟨⟨⟨dp,Zb⟩,by show (upd H x.p _) x.k=_;rw[Ze k1];exact R.at'.ks,by show (upd H x.p _) x.f=_;rw[Ze k2];exact R.at'.fs⟩,k,R.len,R.srt,R.str⟩
  ·rw[Ou g];exact R.keep (Ze (λz=>g (by rw[ZsU M.pd a he z]))) (Ze k1) (Ze k2)
theorem ZtH{L:#[a4]}{e:ZD}{x:aj}(nd:#[j8])(up:YS #[lX])(he:e∈L)(hx:e.ss[e.g]? = U x)(srt:sortedS e.ss=true)(W:#[jf]):Tk #[cd] #[aA] #[lX] e.n #[aT]:=by
 refine⟨W,by rw[Wf nd he,hx];rfl,λb d=>KJ d L,λy a=>?_,up⟩;rw[KI nd he]at a;cases c:e.ss[e.g+1]? with
 | none=>rw[c]at a;cases a
 | some f=>rw[c]at a;cases a;exact Lr srt e.g x f hx c
theorem Zrj{c:Bool}{e1 e2:VK->Prop}{Q:VK}(P:V->Hp->Prop)(h1:c=true->∀a:VK,(∀v H,P v H->a v H)->e1 a)(h2:c=false->∀a:VK,(∀v H,P v H->a v H)->e2 a)(q:∀v H,P v H->Q v H):if c=true then e1 Q else e2 Q:=by
 cases c with
 | true=>rw[if_pos rfl];exact h1 rfl Q q
 | false=>rw[if_neg #[6]];exact h2 rfl Q q
noncomputable def Wb(n:Int)(C:#[k]):List #[gB]:=C.map λX=>(Z3 X n,Y8 X n)
theorem ZjH(rd:ae)(nb li lo:Int)(sd:ae)(a:V):#[21].lookup ("play_again" : aj)=af:=#[q]
def KH(c d:ae):Sp:=λvs H Q _=>X11 λ(m rd sd:ae) (L:List ZD) (s:StL) (nb li lo:Int) (h:V) (e:ZD) (x:aj)=>vs=#[ft,m,e.n]/\Zt c d H m rd sd L s nb li lo h/\e∈L/\e.ss[e.g]? = U x/\Win #[cd] #[lX] (U e.n)/\Yy #[cd] s #[lX] /\
 ∀ (f:StL) (g:Option Int) (k q:Int) (a:Hp),Zt c d a m rd sd #[j7] f nb (li+k) (lo+q) (XT g)->Win #[aA] #[lX] g->Yy #[aA] f #[lX]->Ag #[aA] #[aT] (Wb e.n #[cz]) k q->#[ew,rd,sd,a]->Q .non a
theorem ZpA(T:#[n])(aU:#[52])(cQ:#[c2,3,"matches_up",#[bk],KO])(bV:#[cX,4,"play_again",#[a3],KN]):Mf P w K mg base 5 ao "send_out" #[jU] (KH aB ao):=by
 show#[oG,T.t_Merge_send_out.mf,Uf];obtain⟨m,O,G,L,s,nb,li,lo',aC,e,x,rfl,M,S,hx,W,ok,q⟩:=h;refine⟨_,#[Zg,#[ZB,2,Uf.nd,#[3],#[t1,hr,1]],#[Zg,#[e1,2],#[Zg,#[ZB,3,Uf.nd,#[3],#[Xz,#[Zm,Wo,#[Yb,aU,T.cl_Row,hr,‹2›],#[YN],#[h4]],#[YN],#[ZO,#[Zc,‹1›,#[Zx,#[lz],#[Z8,‹2›],#[Z8,‹2›]]]]]],#[Zg,#[Xx,ba.never,#[iL,K,#[ZE,cQ,hr,#[Zc,#[kd],‹1›],#[5]]],#[oc,4,Uf.nd],#[Zj,#[ZB,3,Uf.nd,#[3],#[W6,bV,T.cl_Merge,hr,‹0›,#[fb,4,3]]]]],#[Zj,#[Xq,‹0›,#[Xz,#[ov,3],#[YN],#[bn]]]]]]]],?_⟩;show#[oo,dx,hm];show#[o5,S,dp,hp];have hg:e.g<e.ss.length:=(Qc.mp hx).1;have tk:=ZtH M.nd M.up S hx R.srt W;refine⟨_,rfl,m,ao,dx,_,_,rfl,hm,T.cl_Merge,T.na_Merge_rows,Wx ..,_,rfl,O,_,rfl,XY.k' (k:=.inl e.n) M.rows (T4 M.nd S),_,rfl,e.p,aB,dp,_,_,rfl,hp,T.cl_Row,T.na_Row_gone,T5 ..,_,_,rfl,rfl,dp,_,hp,Zop ..,?_⟩;rw[ZgV,show ((e.g:Int)+1)=#[ej,e.g,1] by lia];have M1:=M.bump S hg (dp:=dp);show#[cW,pH,H,e.p,#[cf]];have k1:#[nn,o,e.p,H,#[cf]]:=λb o B n=>by rw[Ze n];exact B
 generalize upd H e.p (.ins aB dp (Yr e.k e.f ((e.g+1:Nat):Int)))=H1 at M1 pH k1 ⊢;have bZ:(⟨e.n,e.p,e.k,e.f,e.ss,e.g+1⟩:ZD)∈bump L e.n:=by have:W9 e.n e∈bump L e.n:=Qm S;rwa [Sn rfl]at this
 have R1:=M1.each _ bZ;have fX:∀ {C:Hp},#[eR,H1,G,C]->∀b o,H b=U o->¬ Fp m O G L b->C b=U o:=λ{C} k b o B nf =>
  k b o (k1 b o B λz=>nf (.inr (.inr (.inr ⟨e,S,.inl z⟩)))) (λz=>nf (.inl z)) (λz=>nf (.inr (.inr (.inl z))))
 have fO:e.n∈ZF L:=W.1;have fZ:#[lX].length<=60:=by unfold ZF;rw[Qa];exact M.few
 have pC:#[lX].length<=2 ^ 8:=QL fZ #[6];obtain⟨sf,qr,u8⟩:=OC 8 #[lX] e.n fO pC;have sk:hdM #[j7] e.n=(e.ss[e.g+1]?).map cds:=KI M.nd S;have vj:∀ (c:Com),(c=af/\e.ss[e.g+1]? = af)\/(∃y,e.ss[e.g+1]? = U y/\c=U (e.n,#[jT]))->TX #[aA] #[aT] [e.n] c:=λc hc=>by
  have hw:=Win.sing (hd:=hdM #[j7]) (n:=e.n);rcases hc with⟨rfl,hn⟩|⟨y,u,rfl⟩
  ·rw[sk,hn]at hw;exact⟨hw,λp hp=>by cases hp⟩
  ·rw[sk,u]at hw;exact⟨hw,λp hp=>by cases hp;exact⟨cds y,by rw[sk,u];rfl,rfl⟩⟩
 refine⟨_,rfl,e.p,dp,_,rfl,pH,UY ..,e.p,e.k,e.f,e.ss,e.g+1,rfl,R1.at',rfl,_,rfl,?_⟩;rw[K4];refine Zrj (λv C=>Zw H1 C/\∃c,CV C v c/\TX #[aA] #[aT] [e.n] c) #[oW,d,Q',Z] #[oW,d,Q',Z] (λv C ⟨s2,c,pG,hok⟩=>?_)
 ·have hn:e.ss[e.g+1]? = af:=by
   have:=#[58];cases u:e.ss[e.g+1]? with
   | none=>rfl
   | some y=>rw[u]at this;cases this
  exact Z _ _ ⟨Zw.refl _,af,.inl #[aR],vj af (.inl ⟨rfl,hn⟩)⟩
 ·obtain⟨y,u⟩:∃y,e.ss[e.g+1]? = U y:=by
   cases u:e.ss[e.g+1]? with
   | none=>rw[u]at d;exact absurd rfl (of_decide_eq_false d)
   | some y=>exact⟨y,rfl⟩
  have AQ:e.g+1<e.ss.length:=(Qc.mp u).1;have iR:Xc e.ss (e.g+1)=#[jT]:=by unfold Xc;rw[if_neg #[2],QaA,Qq,Qq,hx,u,WU];rfl
  have bF:atI ((List.range e.ss.length).map λj=>V.int (Xc e.ss j)) #[ej,e.g,1]=U (.int #[jT]):=Yz (by rw[Ql,Qaw AQ,<- iR];rfl);refine⟨_,rfl,_,rfl,e.p,aB,dp,_,_,rfl,pH,T.cl_Row,T.na_Row_fars,ZlY ..,_,rfl,e.p,aB,dp,_,_,rfl,pH,T.cl_Row,T.na_Row_gone,T5 ..,e.f,_,_,_,rfl,rfl,SqL.of R1.at'.fs,bF,#[w],λtc gH=>?_⟩;exact Z _ _ ⟨Zh gH _,U (e.n,#[jT]),.inr ⟨tc,_,rfl,rfl,Zb⟩,vj _ (.inr ⟨y,u,rfl⟩)⟩
 have M2:=M1.same s2;show#[hO];refine⟨_,rfl,m,ao,gb,_,_,rfl,cI,T.cl_Merge,T.na_Merge_rows,Wx ..,O,_,rfl,M2.rows,λl hl=>?_⟩;rw[K8,UV];have s3:=s2.trans (Zh hl #[88]);show#[cW,eX,C,l,#[88]];have qv:CV (upd C l #[88]) v c:=pG.keep λt xs ht=>Zh hl _ _ _ ht;generalize upd C l (.lst ((ZF L).map V.int))=H3 at s3 eX qv ⊢;refine⟨_,rfl,l,ZF L,e.n,rfl,eX,fO,fZ,M.up,λr ts H4 cq nV dF dJ s4=>?_⟩;have gX:=s3.trans s4;have M4:=M1.same gX;have vm:CV H4 v c:=qv.keep λt xs ht=>s4 _ _ ht;refine⟨r,rfl,⟨_,SqL.of nV⟩,?_⟩;show#[c5,dm4,ix,M4.ob];show#[c5,dm1,dI,M1.ob];have nL:r≠m:=(Zd (s3 _ _ dI) cq).symm;have uU:r≠G:=(Zd (s3 _ _ M1.stays) cq).symm;refine RV (K:=K) (a:=r) (xs:=ts.map V.ref) (λi σ I=>X6 λ(v':V) (c':Com) (J:StL) (k q':Int) (v4:Option V)=>σ=[U (.ref m),U (.int e.n),U (.ref e.p),U v',v4]/\i<=ts.length/\CV I v' c'/\TX #[aA] #[aT] #[pS] c'/\Zt aB ao I m O G #[j7] J nb (li+k) (lo'+q') aC/\Yy #[aA] J #[pS]/\(∀j,¬ Kys #[pS] j->Z1 J j=Z1 s j)/\Ag #[aA] #[aT] (Wb e.n (#[cz].take i)) k q'/\#[eR,H4,G,I]) ?_ (λi σ I _ Z=>by obtain⟨_,_,_,_,_,_,_,_,_,_,_,_,_,_,k5⟩:=Z;exact SqL.of (k5 _ _ nV nL uU)) ?_ ?_
 ·refine⟨v,c,s,0,0,_,rfl,Qt _,vm,hok,M4.cast #[2] #[2],λX F h2=>?_,λ_ _=>rfl,.nil,λb o h _ _=>h⟩;have:=OD F;rcases this with rfl|⟨g,_⟩
  ·exact absurd h2 #[sB]
  ·exact absurd g #[sB]
 ·rintro i y σ I u ⟨v',c',J,k,q',v4,rfl,hi,nW,gk,M5,nX,fw,ag,k5⟩;rw[Ql]at u;cases hz:ts[i]? with
  | none=>rw[hz]at u;cases u
  | some t =>
  show#[nV,hz,u,ts.length];cases F:(ZY 8 (ZF L) e.n)[i]? with
  | none=>rw[QaL]at F;lia
  | some X =>
  obtain⟨x1,D,x3,x4⟩:=sf i X F;have dM:=x1.rise M.up;have e3:low e.n #[cz] (i+1)=X:=by show (ZY 8 #[lX] e.n).getD i []=X;rw[Qq,F];rfl
  have rX:I t=U #[ep,X]:=k5 _ _ (dJ i t X hz F) (λz=>by have:=dJ i t X hz F;rw[z,ix]at this;cases this) (λz=>by have:=dJ i t X hz F;rw[z,M4.stays]at this;cases this);show#[c5,nY,gZ,M5.ob];rw[<- x4]at gk nX fw;have AR:=Zom tk x1 D x3 ok;have fN:Z1 J (ZV X)=Z1 s (ZV X):=fw _ λz=>(KW dM D z).1 rfl;refine⟨_,rfl,m,nY,_,rfl,gZ,ZjH ..,_,rfl,_,rfl,m,O,G,bump L e.n,J,nb,_,_,aC,t,v',c',cds x,X,e.n,rfl,M5,rX,nW,gk,?_,λb B y u=>tk.ge (x1.mem B) u,dM,λb B=>by rw[UV];exact x1.mem B,D,x3,λv6 c6 s6 k6 q6 H6 vn vo vp lh vq M6 AS=>?_⟩
  ·rw[fN];rcases AR with w|⟨t',b,y,w1,w2,_,w4⟩
   ·exact .inl w
   ·exact .inr ⟨t',b,y,w1,w2,w4⟩
  ·refine⟨v6,c6,s6,k+k6,q'+q6,_,rfl,ce,vn,by rw[e3];exact vo,M6.cast #[2] #[2],?_,λj N=>?_,?_,λb o B n1 n2=>AS b o (k5 b o B n1 n2) n1 n2⟩
   ·rw[e3];refine ZmE (n:=e.n) (nX.congr #[hm] λj N=>lh j (KW dM D N).1) ?_ vp;have dY:=Su dM (UW x3);have so:Sub X (Y8 X e.n):=by unfold Y8;split;exact Sub.top.up D;exact Sub.top.lo D
    refine(ok.sub (x1.trans so)).congr (λb B=>tk.oth b λz=>dY (z ▸ B)) λj N=>?_;rw[lh j (KU dM D N).1,fw j (KU dM D N).2]
   ·rw[e3]at N;rw[lh j (λz=>N ⟨X,.top,D,z⟩),fw j (λZ=>by obtain⟨Y,y1,y2,y3⟩:=Z;exact N ⟨Y,(OE D e.n).trans y1,y2,y3⟩)]
   ·have:=vq _ _ _ ag;unfold Wb at this ⊢;rw[QE,F,Qd];exact this
 ·rintro σ I ⟨v',c',J,k,q',v4,rfl,_,nW,gk,M5,nX,fw,ag,k5⟩;rw[Qa,dF,qr]at gk nX;rw[Qa,dF,Qw #[gp]]at ag;show#[c5,nY,gZ,M5.ob];have fin:∀w':Option Int,w'=c'.map #[lW]->Q .non (upd I m (.ins ao nY (mgF O nb (li+k) (lo'+q') G (XT w')))):=λw' ew=>by subst ew;refine q J _ k q' _ M5.obj gk.1 nX ag λb o B nf=>?_;rw[Ze (λz=>nf (.inl z))];exact fX (λb o B n1 n2=>k5 b o (gX b o B) n1 n2) b o B nf
  rcases nW with⟨rfl,rfl⟩|⟨t,p,rfl,rfl,ht⟩
  ·refine#[mR];show#[dV,nY,gZ];exact fin af rfl
  ·show#[am];refine⟨_,rfl,t,_,_,_,rfl,rfl,SqT.of ht,(show atI [V.int p.1,V.int p.2] 0=U (.int p.1) from Yz (j:=0) rfl),_,rfl,m,ao,nY,_,rfl,gZ,T.cl_Merge,T.na_Merge_best,VX ..,?_⟩;rw[Sx];exact fin (U p.1) rfl
def Sl(L:#[a4])(w:#[bb])(x:V)(a:#[a4])(k q:Int)(b:Hp):Prop :=
 (w=af/\x=.non/\a=L/\k=0/\q=0)\/X3 λ(e:ZD) (t:ae) (z:aj)=>e∈L/\w=U e.n/\x=.ref t/\e.ss[e.g]? = U z/\b t=U #[fm,e.n,e.g]/\a=bump L e.n/\Ag (hdM a) (cds z) (Wb e.n #[cz]) k q
theorem Zkb(rd:ae)(nb li lo:Int)(sd:ae)(a:V):#[21].lookup ("send_out" : aj)=af:=#[q]
theorem ZkF(rd:ae)(nb li lo:Int)(sd:ae)(a:V):#[21].lookup ("take" : aj)=af:=#[q]
def KG(d e:ae):Sp:=λvs H Q _=>X9 λ(m rd sd:ae) (L:List ZD) (s:StL) (nb li lo:Int) (w:Option Int)=>vs=#[sU]/\Zt d e H m rd sd L s nb li lo (XT w)/\Win #[cd] #[lX] w/\Yy #[cd] s #[lX] /\
 ∀ (x:V) (a:List ZD) (f:StL) (g:Option Int) (k q:Int) (c:Hp),Sl L w x a k q c->Zt d e c m rd sd a f nb (li+k) (lo+q) (XT g)->Win (hdM a) (ZF a) g->Yy (hdM a) f (ZF a)->#[ew,rd,sd,c]->Q x c
theorem ZqO(T:#[n])(I:#[cX,3,"coming",#[V],K6])(J:Mf P w K mg base 5 ao "send_out" #[jU] (KH aB ao)):Mf P w K mg base 6 ao "take" #[V] (KG aB ao):=by
 show#[cE,T.t_Merge_take.mf,LJ,N,v];obtain⟨m,d,g,L,s,i,j,c,w,rfl,M,W,ok,q⟩:=h;refine⟨_,#[Zg,#[ZB,1,LJ.nd,#[3],#[dD,I,v,0]],#[Zg,#[Y0,#[cR,Tt,1,#[YN]],#[Zj,#[Yf,#[W6,J,T.cl_Merge,v,‹0›,#[Zc,#[W]]]]],#[ZM]],#[dH,1]]],?_⟩;show#[oo,O,S];refine⟨_,rfl,m,O,_,rfl,S,Ziy ..,m,d,g,L,s,i,j,c,w,rfl,M,W,λx V X l=>?_⟩;have M1:=M.same l;rcases X with⟨rfl,hw⟩|⟨t,e',z,rfl,Y,B,C,hw⟩
 ·have n:Win #[cd] #[lX] af:=by rw[Sy]at hw;exact hw
  have p:=W.one n;subst p;exact⟨_,rfl,rfl,_,rfl,UC rfl ⟨_,rfl,q .non L s af 0 0 V (.inl #[rt]) (M1.cast #[2] #[2]) W ok (λb o r _=>l b o r)⟩⟩
 ·show#[cK,e,D,Y];have n:#[jf]:=by rw[Sy]at hw;exact hw
  have p:=W.one n;subst p;show#[c5,F,u,M1.ob];refine⟨_,rfl,rfl,_,rfl,Pa #[O] ?_⟩;refine⟨_,rfl,m,F,_,rfl,u,Zkb ..,_,rfl,m,ao,F,_,_,rfl,u,T.cl_Merge,T.na_Merge_best,TZ ..,m,d,g,L,s,i,j,c,_,e,z,rfl,M1,D,B,W,ok,λZ w' k q' G M2 W2 j8 ag k2=>?_⟩;have dk:G t=U #[fm,e.n,e.g]:=k2 _ _ C λhf=>by
   have a:=C;rcases hf with h|h|h|⟨y,hy,h⟩
   ·show#[d9,h,u,a]
   ·show#[d9,h,M1.rows,a]
   ·show#[d9,h,M1.stays,a]
   ·have R:=(M1.each y hy).at';show#[c5,dy,pp,R.ob];rcases h with h|h|h
    ·show#[d9,h,pp,a]
    ·show#[d9,h,R.ks,a]
    ·show#[d9,h,R.fs,a]
  exact⟨_,rfl,q #[i9] #[j7] Z w' k q' G (.inr ⟨e,t,z,D,rfl,rfl,B,dk,rfl,ag⟩) M2 #[cL,UV,W2] #[cL,UV,j8] (λb o r nf=>k2 b o (l b o r) nf)⟩
noncomputable abbrev Zy:=Int×List aj×Nat
noncomputable def Y5(L:#[a4]):List Zy:=L.map λe=>(e.n,(e.ss,e.g))
noncomputable def hdP(P:#[an]):Hd:=hdL (P.map λx=>(x.1,0,x.2))
noncomputable def ZG(P:#[an]):List Int:=P.map #[lW]
noncomputable def Z2(n:Int)(x:Zy):Zy:=if x.1=n then (x.1,x.2.1,x.2.2+1) else x
noncomputable def YW(P:#[an])(n:Int):List Zy:=P.map (Z2 n)
theorem Wa(L:#[a4]):hdM L=hdP (Y5 L):=K2 _ _ (by unfold Y5;rw[QA,QA,QA];rfl)
theorem Xl(L:#[a4]):ZF L=ZG (Y5 L):=by unfold ZG Y5 ZF;rw[QA];rfl
theorem KC(L:#[a4])(n:Int):Y5 #[lC]=YW (Y5 L) n:=by
 unfold Y5 bump YW;rw[QA,QA];refine QJ λe _=>?_;show#[g2];unfold Z2;by_cases h:e.n=n
 ·rw[Sn h,if_pos h]
 ·rw[Ou h,if_neg h]
theorem Sk(P:#[an])(n:Int):ZG (YW P n)=ZG P:=by unfold ZG YW;rw[QA];refine QJ λx _=>?_;simp only[Function.comp];unfold Z2;split<;>rfl
theorem WQ{P:#[an]}(nd:#[af]){x:Zy}(h:x∈P):hdP P x.1=(x.2.1[x.2.2]?).map cds :=
 OX (L:=P.map λx:Zy=>((x.1,0,x.2):XX)) (e:=(x.1,0,x.2)) #[cL,QA,nd] (Qm (f:=λx:Zy=>((x.1,0,x.2):XX)) h)
def WP(P:#[an])(x:Zy)(z:aj)(k q:Int):Prop:=x∈P/\x.2.1[x.2.2]? = U z/\Win (hdP P) #[k2] (U x.1)/\Ag #[f4] (cds z) (Wb x.1 (ZY 8 #[k2] x.1)) k q
noncomputable abbrev ZC:=Int×Nat×aj
inductive YV (P:#[an]):List ZC->List Zy->Int->Int->Prop
 | nil:YV P [] P 0 0
 | snoc {ts:List ZC} {P1:List Zy} {x:Zy} {z:aj} {k q k1 q1:Int}:YV P ts P1 k q->WP P1 x z k1 q1->YV P (ts++[(x.1,x.2.2,z)]) (YW P1 x.1) (k+k1) (q+q1)
inductive YH:List Zy->Int->Int->Prop
 | stop {P:List Zy}:Win (hdP P) (ZG P) af->YH P 0 0
 | go {P:List Zy} {x:Zy} {z:aj} {k q k1 q1:Int}:WP P x z k1 q1->YH (YW P x.1) k q->YH P (k1+k) (q1+q)
theorem WP.one{P:#[an]}(nd:#[af]){x y:Zy}{z u:aj}{k q k' a:Int}(h:WP P x z k q)(g:WP P y u k' a):x=y/\z=u/\k=k'/\q=a:=by obtain⟨b,c,d,e⟩:=h;obtain⟨f,i,j,l⟩:=g;have m:=Qk (d.one j);have n:=Wd nd b f m;subst n;have o:=Qk (c.symm.trans i);subst o;exact⟨rfl,rfl,e.one l⟩
theorem YH.one{P:#[an]}{k q:Int}(h:YH P k q):#[k2].Nodup->∀ {k' a:Int},YH P k' a->k=k'/\q=a:=by
 induction h with
 | stop w =>
  intro nd k' a g;cases g with
  | stop _=>exact#[aR]
  | go s _=>exact nomatch w.one s.2.2.1
 | go s _ b =>
  intro nd k' a g;cases g with
  | stop w=>exact nomatch w.one s.2.2.1
  | go c d=>obtain⟨e,_,f,i⟩:=s.one nd c;subst e;obtain⟨j,l⟩:=b #[cL,Sk,nd] d;exact⟨by rw[f,j],by rw[i,l]⟩
theorem YV.ends{P b:#[an]}{ts:#[gV]}{k q:Int}(h:#[n4,b]):∀ {k' a:Int},YH b k' a->YH P (k+k') (q+a):=by
 induction h with
 | nil=>intro k' a g;rw[Int.zero_add,Int.zero_add];exact g
 | snoc _ s c=>intro k' a g;have:=c (.go s g);rwa [<- Int.add_assoc,<- Int.add_assoc]at this
theorem YV.num{P a:#[an]}{ts:#[gV]}{k q:Int}(h:#[n4,a]):ZG a=ZG P:=by
 induction h with
 | nil=>rfl
 | snoc _ _ b=>rw[Sk,b]
noncomputable def Y1(P:#[an]):Nat:=(P.map λx=>x.2.1.length-x.2.2).sum
theorem Sj:∀ (P:List Zy),#[k2].Nodup->∀ {x:Zy},x∈P->x.2.2<x.2.1.length->Y1 #[po]+1=Y1 P
 | [],_,_,h,_=>by cases h
 | y::P,nd,x,h,a=>by
  show#[eu,Y1];rw[Qj,Qj,Qj,QN,QN];rcases QG.mp h with rfl|h
  ·have e:#[km]:=by
    conv=>rhs;rw[<- List.map_id P]
    refine QJ λu b=>?_;show#[94];rfl
   rw[e];unfold Z2;show#[jc];show x.2.1.length-(x.2.2+1)+_+1=_;lia
  ·have c:=Sj P nd.2 h a;unfold Y1 YW at c;show#[11];lia
theorem KA{P:#[an]}(nd:#[af])(h:Y1 P=0)(ok:#[qi]):Win (hdP P) #[k2] af:=λn d=>by
 show#[cK,x,c,d];rw[WQ nd c];have:x.2.1.length-x.2.2=0:=by
  unfold Y1 at h;have e:∀l:List Nat,l.sum=0->∀a∈l,a=0:=λl g a ha=>by
   induction l with
   | nil=>cases ha
   | cons b r i =>
    rw[QN]at g;rcases QG.mp ha with rfl|ha
    ·lia
    ·exact i #[2] ha
  exact e _ h _ (Qm (f:=λx:Zy=>x.2.1.length-x.2.2) c)
 rw[QM #[2]];rfl
theorem YV.left{P a:#[an]}{ts:#[gV]}{k q:Int}(h:#[n4,a])(nd:#[af]):Y1 a+ts.length=Y1 P:=by
 induction h with
 | nil=>rfl
 | snoc h s ih=>have:=#[pi];rw[Qf,Qp];lia
theorem ZmV{L a:#[a4]}{w:#[bb]}{x:V}{k q:Int}{H:Hp}(W:Win #[cd] #[lX] w)(h:Sl L w x a k q H):(Win (hdP (Y5 L)) (ZG (Y5 L)) af/\x=.non/\a=L/\k=0/\q=0)\/X3 λ(y:Zy) (z:aj) (t:ae)=>WP (Y5 L) y z k q/\Y5 a=YW (Y5 L) y.1/\x=.ref t/\H t=U #[fm,y.1,y.2.2]:=by
 rw[Wa,Xl]at W;rcases h with⟨rfl,c,d,g,i⟩|⟨e,t,z,j,rfl,rfl,l,m,rfl,b⟩
 ·exact .inl ⟨W,c,d,g,i⟩
 ·refine .inr ⟨(e.n,(e.ss,e.g)),z,t,⟨Qm (f:=λe:ZD=>(e.n,(e.ss,e.g))) j,l,W,?_⟩,KC L e.n,rfl,m⟩;rw[Wa,KC,Xl]at b;exact b
def Si(K:#[7])(f g:ae):Sp:=λvs H Q _=>X10 λ(m rd sd:ae) (L:List ZD) (s:StL) (nb li lo:Int) (w:Option Int) (many:Int)=>vs=#[ft,m,many]/\Zt f g H m rd sd L s nb li lo (XT w)/\Win #[cd] #[lX] w/\Yy #[cd] s #[lX]/\Y1 (Y5 L)<=100000 /\
 ∀ (r:ae) (c:List (ae×ZC)) (a:List ZD) (h:StL) (e:Option Int) (k q:Int) (d:Hp),H r=af->d r=U #[d2,c.map]->(∀u∈c,d u.1=U #[60])->YV (Y5 L) (c.map #[f6]) (Y5 a) k q->(#[gi]<many->e=af)->(c≠[]->#[gi]<=many)->Zt f g d m rd sd a h nb (li+k) (lo+q) (XT e)->Win (hdM a) (ZF a) e->Yy (hdM a) h (ZF a)->(∀b,Fp m rd sd a b↔Fp m rd sd L b)->#[ew,rd,sd,d]->Q #[83] d
theorem Sl.fp{L a:#[a4]}{w:#[bb]}{x:V}{k q:Int}{H:Hp}(h:Sl L w x a k q H){m rd sd b:ae}:Fp m rd sd a b↔Fp m rd sd L b:=by
 rcases h with⟨_,_,rfl,_⟩|⟨e,t,z,_,_,_,_,_,rfl,_⟩
 ·exact Iff.rfl
 ·exact⟨Zqm,Fp_bump'⟩
theorem Zt.fp_live{c d:ae}{H:Hp}{m rd sd:ae}{L:#[a4]}{s:StL}{nb li lo:Int}{f:V}(M:#[e2,c,d,f]){b:ae}(h:Fp m rd sd L b):∃o,H b=U o/\∀xs,o≠.tup xs:=by
 rcases h with rfl|rfl|rfl|⟨e,g,h⟩
 ·show#[oo,i,a];show#[dF,a,xs]
 ·show#[dF,M.rows,xs]
 ·show#[dF,M.stays,xs]
 ·have R:=(M.each e g).at';show#[c5,i,a,R.ob];rcases h with rfl|rfl|rfl
  ·show#[dF,a,xs]
  ·show#[dF,R.ks,xs]
  ·show#[dF,R.fs,xs]
theorem Zt.fp_fresh{c d:ae}{H:Hp}{m rd sd:ae}{L:#[a4]}{s:StL}{nb li lo:Int}{e:V}(M:#[e2,c,d,e]){b:ae}(h:H b=af):¬ Fp m rd sd L b:=λz=>by obtain⟨o,a,_⟩:=M.fp_live z;rw[h]at a;cases a
theorem Zt.fp_tup{c d:ae}{H:Hp}{m rd sd:ae}{L:#[a4]}{s:StL}{nb li lo:Int}{e:V}(M:#[e2,c,d,e]){b:ae}{xs:#[jr]}(h:H b=U #[71]):¬ Fp m rd sd L b:=λz=>by obtain⟨o,a,f⟩:=M.fp_live z;rw[h]at a;cases a;exact f xs rfl
theorem ZsG(T:#[n])(cS:#[cX,6,"take",#[V],KG]):Mf P w K mg base 7 ao "take_few" #[rr] (Si K aB ao):=by
 show#[oG,T.t_Merge_take_few.mf,LI];obtain⟨m,j,l,L,s,F,Y,G,w,many,rfl,M,W,ok,AT,q⟩:=h;refine⟨_,#[Zg,#[dU,2,LI.nd],#[Zg,(@UG _ _ _ _ _ _ ba.never (@PW.pt _ _ _ #[WK,#[Zm,Xg,#[gn],‹1›,#[h4]],(@VP _ _ _ _ #[Zm,Tt,#[W],#[YN],#[h4]])]) #[Zj,#[Yf,#[Xw,QI,QS,QT,WW,‹2›,#[Zc,#[dD,cS,hr,0]]]]]),#[aP]]],?_⟩;have nd:#[ol,L]:=by rw[<- Xl];exact M.nd
 show#[eY,#[29],r,n];have Z:=M.fp_fresh n;refine⟨λmm σ i=>X6 λ(c:List (ae×ZC)) (d:List ZD) (s':StL) (w':Option Int) (k p:Int)=>σ=[U (.ref m),U (.int many),U #[83]]/\i r=U #[d2,c.map]/\(∀u∈c,u.1≠r/\i u.1=U #[60])/\YV (Y5 L) (c.map #[f6]) (Y5 d) k p/\(c≠[]->#[gi]<=many)/\Zt aB ao i m j l d s' F (Y+k) (G+p) (XT w')/\Win (hdM d) (ZF d) w'/\Yy (hdM d) s' (ZF d)/\(∀b,Fp m j l d b↔Fp m j l L b)/\#[ew,j,l,i]/\mm=Y1 (Y5 d),⟨_,[],L,s,w,0,0,rfl,Zb,#[cM,u,h],.nil,(λh=>absurd rfl h),(M.same (Zh n _)).cast #[2] #[2],W,ok,λ_=>Iff.rfl,λb o g _=>Zh n _ _ _ g,rfl⟩,?_⟩;rintro mm σ i ⟨c,L1,s1,I,k,p,rfl,C,im,D,fC,M2,v,j8,B,k2,rfl⟩;have sq:#[ps]=#[gi]:=by rw[Qa]
 have sr:=D.left nd;rw[Qa]at sr;show#[hO];have done:(#[gi]<many->I=af)->Q #[83] i:=λhd=>q r c L1 s1 I k p i n C (λu hu=>(im u hu).2) D hd fC M2 v j8 B k2;refine⟨_,rfl,r,_,rfl,.inl (SqL.of C),_,rfl,_,_,rfl,rfl,_,rfl,Y2 (λJ=>?_) (λJ=>?_)⟩
 ·have rQ:#[gi]<many:=by have:=of_decide_eq_true J;lia
  refine⟨_,rfl,m,ao,gb,_,_,rfl,cI,T.cl_Merge,T.na_Merge_best,TZ ..,rfl,_,rfl,?_⟩;cases I with
  | none=>exact UC rfl ⟨_,rfl,done λ_=>rfl⟩
  | some a =>
  refine Pa #[O] ?_;refine#[gR];refine⟨_,rfl,.inl #[dl,C],_,rfl,m,gb,_,rfl,cI,ZkF ..,m,j,l,L1,s1,F,_,_,U a,rfl,M2,v,j8,λx L3 s3 w3 k3 q3 H3 N M3 W3 AU O=>?_⟩;have R:H3 r=U #[d2,c.map]:=O _ _ C (λz=>Z ((B r).mp z));rcases ZmV v N with⟨w0,_⟩|⟨y,z,t,S,eL,rfl,X⟩
  ·rw[Wa,Xl]at v;show#[dY,w0.one,v]
  have jQ:=Sj _ #[cL,D.num,nd] S.1 (Qc.mp S.2.1).1;have pD:t≠r:=λe=>by rw[e,R]at X;cases X
  refine⟨r,_,_,rfl,rfl,R,#[oL,Qa,aG],Y1 (Y5 L3),by rw[eL];lia,c++[(t,(y.1,y.2.2,z))],L3,s3,w3,k+k3,p+q3,rfl,by rw[Zb,Qd];rfl,λu hu=>?_,?_,λ_=>by rw[Qf,Qp];lia,?_,W3,AU,λb=>(N.fp).trans (B b),λb o g nf=>?_,rfl⟩
  ·rcases Qg.mp hu with hu|hu
   ·obtain⟨g2,g3⟩:=im u hu;exact⟨g2,by rw[Ze g2];exact O _ _ g3 (M2.fp_tup g3)⟩
   ·rw[Qe.mp hu];exact⟨pD,by rw[Ze pD];exact X⟩
  ·rw[Qd,eL];exact .snoc D S
  ·refine Zt.cast (M3.keep λb o g gA=>?_) #[2] #[2];rw[Ze (λe=>?_)]
   ·exact g
   ·subst e;rcases gA with hf|⟨xs,rfl⟩
    ·exact Z ((B b).mp (N.fp.mp hf))
    ·show#[eX,R,g,g]
  ·rw[Ze (Zd g n)];exact O b o (k2 b o g nf) (λz=>nf ((B b).mp z))
 ·refine YQ ⟨_,rfl,done λh=>?_⟩;have:¬ (#[ps]<many):=λz=>J #[75];lia
structure MS where
 m:ae
 rd:ae
 sd:ae
 L:List ZD
 s:StL
 nb:Int
 li:Int
 lo:Int
 w:Option Int
structure OS where
 o:ae
 ra:ae
 ga:ae
 Lo:List XX
 nb:Int
def ZuB(Y:OS)(b:ae):Prop:=b=Y.o\/b=Y.ra\/b=Y.ga\/∃e∈Y.Lo,b=e.2.1
def MFp(X:MS)(b:ae):Prop:=Fp X.m X.rd X.sd X.L b
structure MOk (cR cM:ae) (H:Hp) (X:MS):Prop where
 M:Zt cR cM H X.m X.rd X.sd X.L X.s X.nb X.li X.lo (XT X.w)
 W:Win (hdM X.L) (ZF X.L) X.w
 ok:Yy (hdM X.L) X.s (ZF X.L)
structure Pair (cR cM:ae) (H:Hp) (X:MS) (Y:OS):Prop where
 mg:MOk cR cM H X
 ow:Own H Y.o Y.ra Y.ga Y.Lo Y.nb X.li X.lo
 ag:Agr Y.Lo X.L
 sep:∀b,MFp X b->¬ ZuB Y b
theorem MOk.same{a b:ae}{H c:Hp}{X:MS}(h:MOk a b H X)(s:Zw H c):MOk a b c X:=⟨h.M.same s,h.W,h.ok⟩
theorem Kz{P:#[an]}(nd:#[af])(h:Win (hdP P) #[k2] af)(ok:#[qi]):Y1 P=0:=by
 unfold Y1;have:∀l:List Nat,(∀a∈l,a=0)->l.sum=0:=λl e=>by
  induction l with
  | nil=>rfl
  | cons b r j=>rw[QN,e b #[4],j λa c=>e a (Qu _ c)]
 refine this _ λa c=>?_;show#[cK,x,g,c];have d:=h x.1 (Qm (f:=#[sN]) g);rw[WQ nd g]at d;cases i:x.2.1[x.2.2]? with
 | none=>rw[QaL]at i;show x.2.1.length-x.2.2=0;lia
 | some y=>rw[i]at d;cases d
theorem Ky{a b:ae}{H:Hp}{X:MS}(h:MOk a b H X):∀x∈Y5 X.L,x.2.2<=x.2.1.length:=λx hx=>by obtain⟨e,c,rfl⟩:=Qs.mp hx;exact(h.M.each e c).le
theorem Oq{a b:ae}{H:Hp}{X:MS}(h:MOk a b H X):(ZG (Y5 X.L)).Nodup:=by rw[<- Xl];exact h.M.nd
noncomputable def Y4(a:#[17]):List Zy:=#[lF].zip #[gy]
theorem Kx{α a b:Type}(f:α->a)(g:α->b):∀l:List α,l.map (λx=>(f x,g x))=(l.map f).zip (l.map g)
 | []=>rfl
 | x::r=>by rw[Qj,Qj,Qj,Q6,Kx f g r]
theorem Op{L:#[a4]}{a:#[17]}(h:OH L a):Y5 L=Y4 a:=by unfold Y5 Y4;rw[Kx (λe:ZD=>e.n) (λe=>(e.ss,e.g)) L,<- h.1,<- h.2];rfl
theorem UU(a:#[17]):Y1 (Y4 a)=#[53].sum:=by
 unfold Y1 Y4;have e:(#[lF].zip #[gy]).map #[qt]=(((#[lF].zip #[gy]).map #[f6])).map #[lV]:=by rw[QA];rfl
 show#[jZ];rfl
def Sh:Sp:=λvs H Q _=>X2 λ(r:ae) (a:List (ae×List aj))=>vs=[.ref r]/\Wy H r a/\∀b:Hp,Zw H b->Q (.int #[hN]) b
theorem Kw:∀a:List (ae×List aj),(a.map λx=>(x.2.length:Int)).sum=#[hN]
 | []=>rfl
 | x::r=>by rw[Qj,Qj,QN,QN,Kw r,QaD]
theorem Zjl(T:#[n]):Df P w K mg base 1 "how_many" #[hY] Sh:=by
 show#[cE,T.t_how_many.df,Zjh,t,hr];obtain⟨r,c,rfl,d,q⟩:=h;refine⟨_,#[Zj,#[Zn,#[Zk,(Tf K),#[5],T.b.n_sum,boot_sum,#[Zc,#[Yd,SR,#[si],#[di,1,SR],#[J],(λ_ _ _ _=>#[Zk,(YX K),#[tQ,SR],T.b.n_len,Qv,#[Zc,#[cw,1,SR]]])]]]]],?_⟩;have fe:=d.few;show#[c1,r,d.at',D,o];refine WT (K:=K) (a:=r) (xs:=c.map λx=>V.ref x.1) (λi zs m e=>(∃v:Option V,m=[U #[83],v])/\zs=(#[pl].map λx=>(x.2.length:Int)).map V.int/\i<=c.length/\e D=U #[bl]/\Zw H e) ?_ #[cJ,d.at'] ?_ ?_
 ·show#[dL,o]
 ·rintro i y zs m e g ⟨⟨v,rfl⟩,rfl,hi,k,l⟩;rw[Ql]at g;cases j:c[i]? with
  | none=>rw[j]at g;cases g
  | some x =>
  show#[cI,j,g,z,i,c.length];refine⟨_,rfl,x.1,_,rfl,.inl (SqL.of (l _ _ (d.lst x (Qo j)).1)),k,#[m8],#[H],?_,z,Zb,λb u p=>?_⟩
  ·rw[QE,j,Qd,Qd,Qa];rfl
  ·show#[nv,p,o,l,b,u]
 show#[fu,m,e,v,k,l];show#[oh,k];refine⟨D,_,rfl,SqL.of k,by rw[Qa];lia,λn B=>?_,?_⟩
 ·show#[cK,x,C,B];have:=(d.lst x C).2.1;lia
 ·rw[Kw];exact q e l
def Oo:Sp:=λvs H Q _=>X2 λ(r:ae) (a:List (ae×List aj))=>vs=[.ref r]/\Wy H r a/\#[eA,a]/\∀ (t:ae) (k0 c k1 d:Int) (b:Hp),YI (hdP (Y4 a)) 8 #[jG] k0 c->YH (Y4 a) k1 d->b t=U (.tup [.int (k0+k1),.int (c+d)])->Zw H b->Q #[i9] b
theorem Om(rd:ae)(nb li lo:Int)(sd:ae)(a:V):#[21].lookup ("take_few" : aj)=af:=#[q]
theorem Sg(a:#[17])(h:∀x∈a,x.2.length<=100):#[53].sum<=a.length*100:=by
 induction a with
 | nil=>exact Qh _
 | cons x r b=>have:=b λy c=>h y (Qu _ c);have:=h x #[4];rw[Qj,QN,QF];lia
theorem Zmq(T:#[n])(S:#[ar])(V:#[aa])(W:#[cu])
  (X:#[qV]) (Y:#[tJ]):Df P w K mg base 16 "counts" #[hY] Oo:=by
 show#[cE,T.t_counts.df,LD,Z,g];show#[eq,r,d,j,cZ];refine⟨_,#[Zg,#[ZB,1,LD.nd,#[3],#[Vf,S,g,#[bp]]],#[Zg,#[Yf,#[W6,V,T.cl_Merge,g,‹1›,#[Zc,#[dN,W,g,#[bp]]]]],#[Zj,#[Zn,#[ZO,#[Zc,#[dD,X,g,1],#[dD,Y,g,1]]]]]]],_,rfl,λm c v mG sw=>?_⟩;have k:Zw H #[c8,H,c,m,ao]:=λb o a=>by rw[Ze (Zd a v),Ze (Zd a mG)];exact a
 show#[cZ,C,H,c,H1,k];refine⟨m,c,r,d,rfl,C,j.same k,cZ,λl n L st w0 k0 D H2 M2 fv W2 S2 P2 jo k2=>⟨rfl,?_⟩⟩;have F:Zw H H2:=#[n1,a,k2,k,v];have sx:∀b,Fp m l n L b->H b=af:=λb a=>by
  rcases jo b a with z|z
  ·rw[z];exact v
  ·exact k.free z
 show#[aQ];have p:=Op fv;show#[hO];have jY:=Sg d λx y=>(j.lst x y).2.1;have fe:=j.few;have G:=UU d;refine⟨_,rfl,m,gb,_,rfl,cI,Om ..,_,rfl,r,d,rfl,j.same F,λH3 I=>?_⟩;have M3:=M2.same I;refine⟨m,l,n,L,st,_,k0,D,w0,_,rfl,M3,W2,j8,by rw[p,G];lia,λrr us i J w' k1 q1 H4 vv n6 im B j9 fC u M AV AW k4=>?_⟩;have s4:Zw H H4:=λb o a=>k4 b o (I b o (F b o a)) λz=>by rw[sx b z]at a;cases a
 have nd:#[ol,L]:=by rw[<- Xl];exact M2.nd
 have sr:=B.left nd;rw[Qa,p,G]at sr;have AX:#[ol,i]:=by rw[B.num];exact nd
 have wn:Win (hdP (Y5 i)) (ZG (Y5 i)) af:=by
  by_cases aN:(us.length:Int)<((#[oZ,d.map].sum:Nat):Int)
  ·have:=j9 aN;subst this;rw[Wa,Xl]at M;exact M
  ·refine KA AX #[2] λx y=>?_;show#[cK,e,he,y];exact(u.each e he).le
 have N:=B.ends (.stop wn);rw[Qaf,Qaf,p]at N;show#[c5,O,R,u.ob];refine⟨_,rfl,m,O,_,rfl,R,K1 ..,m,l,n,i,J,_,_,_,_,rfl,u,_,rfl,m,O,_,rfl,R,K0 ..,m,l,n,i,J,_,_,_,_,rfl,u,#[w],λt ht=>?_⟩;exact q t k0 D k1 q1 _ (by rw[<- p,<- Wa,<- Xl];exact P2) N Zb (s4.trans (Zh ht _))
theorem ZnM{a:#[a4]}{P:#[an]}{ts:#[gV]}{k q:Int}{b:#[bb]}{many:Nat}(nd:#[af])(h:YV P ts (Y5 a) k q)(h1:#[lx]<(many:Int)->b=af)(h2:ts≠[]->#[lx]<=(many:Int))(W:Win (hdM a) (ZF a) b)(ok:∀x∈Y5 a,x.2.2<=x.2.1.length):ts.length=min many (Y1 P):=by
 have hl:=h.left nd;by_cases c:#[lx]<(many:Int)
 ·have e:=h1 c;subst e;rw[Wa,Xl]at W;have hz:=Kz #[cy] W ok;lia
 ·by_cases d:ts=[]
  ·subst d;simp only[List.length_nil]at c ⊢;lia
  ·have:=h2 d;lia
theorem Kv:∀ns:List Int,ax.canLayAll0 #[iT]=true
 | []=>rfl
 | x::r=>by simp[ax.canLayAll0,ax.canLay0,Kv r]
theorem Ku:∀ns:List Int,ax.depthAll #[iT]=0
 | []=>rfl
 | _::r=>by simp[ax.depthAll,ax.depth,Ku r]
theorem Sf(ns:#[i]):SeqAt.shaped #[fv,ns.map]=true:=by simp[SeqAt.shaped,ax.canLay0,ax.depth,Kv ns,Ku]
theorem TR{K:#[7]}{H:Hp}:∀ns:List Int,DVs K H #[z] #[iT]
 | []=>.nil
 | s::r=>.cons (.int s) (TR r)
theorem Ol:∀a b:List Nat,Spec.ltCps a b=true↔a<b
 | [],[]=>by simp[Spec.ltCps]
 | [],y::s=>by simp[Spec.ltCps]
 | x::r,[]=>by simp[Spec.ltCps]
 | x::r,y::s=>by have c:=Ol r s;rw[List.cons_lt_cons_iff];simp[Spec.ltCps,c]
def LeS(a b:aj):Prop:=¬ b.cps.toList<a.cps.toList
theorem LeS.trans{a b c:aj}(h:LeS a b)(k:LeS b c):LeS a c:=List.not_lt.mpr (List.le_trans (List.not_lt.mp h) (List.not_lt.mp k))
theorem Kt:∀ (r:List aj) (x:aj),risingS x r=true↔(x::r).Pairwise LeS
 | [],x=>by simp[risingS]
 | y::r,x=>by
  have d:=Kt r y;rw[List.pairwise_cons];unfold risingS;rw[QU,Bool.not_eq_true'];constructor
  ·rintro⟨a,c⟩;have p:=d.mp c;have e:LeS x y:=λz=>by rw[(Ol _ _).mpr z]at a;cases a
   refine⟨λb hb=>?_,p⟩;rcases QG.mp hb with rfl|hb
   ·exact e
   ·exact e.trans ((QaB.mp p).1 b hb)
  ·rintro⟨a,c⟩;exact⟨Bool.eq_false_iff.mpr λz=>a y #[4] ((Ol _ _).mp z),d.mpr c⟩
theorem UT(ss:#[y]):sortedS ss=true↔ss.Pairwise LeS:=by
 cases ss with
 | nil=>simp[sortedS]
 | cons x r=>exact Kt r x
def Ks:Sp:=λvs H Q _=>X2 λ(r:ae) (b:List (ae×List aj))=>vs=[.ref r]/\Wy H r b/\#[eA,b] /\
 ∀ (t:ae) (a:List (ae×ZC)) (d:List Zy) (k q:Int) (c:Hp),YV (Y4 b) (a.map #[f6]) d k q->a.length=#[oZ,b.map].sum->c t=U #[d2,a.map]->(∀u∈a,c u.1=U #[mw])->H t=af->(∀u∈a,H u.1=af)->Zw H c->Q #[i9] c
theorem ZlW(T:#[n])(bj:#[ar])(aX:#[aa])(bI:#[cu]):Df P w K mg base 16 "merged" #[hY] Ks:=by
 show#[cE,T.t_merged.df,ZmA,vs,G];show#[eq,r,g,v,cZ];refine⟨_,#[Zj,#[Zn,#[Yd,Va,#[iL,K,#[W6,aX,T.cl_Merge,G,#[Vf,bj,G,#[bp]],#[Zc,#[dN,bI,G,#[bp]]]]],(λ_ _ _ _=>#[gT,K,3,#[Zp,#[cg,1,Va],#[c7,2,Va,3]]]),#[J],#[nq,1,Va,2]]]],?_⟩;refine⟨_,rfl,λm d I mG sw=>?_⟩;have B:Zw H #[c8,H,d,m,ao]:=λb o c=>by rw[Ze (Zd c I),Ze (Zd c mG)];exact c
 show#[cZ,dI,H,d,H1,B];refine⟨m,d,r,g,rfl,dI,v.same B,cZ,λrd sd L st w0 k0 q0 H2 M2 fv W2 S2 P2 jo k2=>⟨rfl,?_⟩⟩;have s2:Zw H H2:=#[n1,c,k2,B,I];have sx:∀b,Fp m rd sd L b->H b=af:=λb c=>by
  rcases jo b c with z|z
  ·rw[z];exact I
  ·exact B.free z
 show#[aQ];have J:=Op fv;show#[hO];have jY:=Sg g λx hx=>(v.lst x hx).2.1;have fe:=v.few;have hl:=UU g;refine⟨m,gb,_,rfl,cI,Om ..,_,rfl,r,g,rfl,v.same s2,λH3 s3=>?_⟩;have M3:=M2.same s3;refine⟨m,rd,sd,L,st,_,k0,q0,w0,_,rfl,M3,W2,j8,by rw[J,hl];lia,λrr j L' s' w' k1 q1 H4 vv n6 im M j9 fC M4 W4 AV AW k4=>?_⟩;have N:Zw H H4:=λb o c=>k4 b o (s3 b o (s2 b o c)) λz=>by rw[sx b z]at c;cases c
 have nd:#[ol,L]:=by rw[<- Xl];exact M2.nd
 have aW:=ZnM (ts:=j.map #[f6]) (many:=#[oZ,g.map].sum) nd M #[cL,Qa,j9] (by rw[Qa];exact λz=>fC λy=>z (by rw[y];rfl)) W4 (λx hx=>by obtain⟨e,he,rfl⟩:=Qs.mp hx;exact(M4.each e he).le);rw[Qa,J,hl,Nat.min_self]at aW;rw[J]at M;refine#[fI,rr,n6,D,O];have AY:H D=af:=N.free O;refine WT (K:=K) (a:=rr) (xs:=j.map λu=>V.ref u.1) (λi zs R k=>(X3 λS W X:Option V=>R=[U #[83],S,W,X])/\(∃ws:List (ae×ZC),zs=#[dA,ws.map]/\ws.map #[f6]=(j.take i).map #[f6]/\∀u∈ws,u.1≠D/\H u.1=af/\k u.1=U #[mw])/\i<=j.length/\k D=U #[bl]/\Zw H4 k) ?_ #[cJ,n6] ?_ ?_
 ·exact⟨⟨af,af,af,rfl⟩,⟨[],rfl,rfl,λu h=>by cases h⟩,Qt _,Zb,Zh O _⟩
 ·rintro i y zs R k l ⟨⟨S,W,X,rfl⟩,⟨ws,rfl,hw,C⟩,hi,F,p⟩;rw[Ql]at l;cases t:j[i]? with
  | none=>rw[t]at l;cases l
  | some u =>
  show#[nV,t,l,j.length];have ff:ws.length=i:=by have:=#[cO,hw];rw[Qa,Qa,QC]at this;lia
  refine⟨u.1,_,rfl,SqT.of (p _ _ (im u (Qo t))),rfl,_,_,rfl,_,_,rfl,_,_,rfl,rfl,_,rfl,_,rfl,#[w],λn Y=>?_⟩;have Z:=Zh Y #[mw];have eZ:D≠n:=Zd F Y;refine⟨Z _ _ F,#[el,ff],⟨_,_,_,rfl⟩,⟨ws++[(n,u.2)],by rw[Qd];rfl,?_,λx hx=>?_⟩,ce,Zb,λb o c=>?_⟩
  ·rw[QE,t,Qd,Qd,hw];rfl
  ·rcases Qg.mp hx with hx|hx
   ·obtain⟨g1,g2,g3⟩:=C x hx;exact⟨g1,g2,by rw[Ze g1];exact Z _ _ g3⟩
   ·rw[Qe.mp hx];exact⟨eZ.symm,N.free (p.free Y),by rw[Ze eZ.symm];exact Zb⟩
  ·show#[c6,c,O,Z,p,b]
 rintro zs R k ⟨⟨S,W,X,rfl⟩,⟨ws,rfl,hw,C⟩,_,F,p⟩;show#[oh,hw];exact q D ws _ k1 q1 k #[cL,hw,M] (by have:=#[cO,hw];rw[Qa,Qa]at this;lia) F (λu hu=>(C u hu).2.2) AY (λu hu=>(C u hu).2.1) (N.trans p)
theorem Kq:∀ns:List Int,ax.eqvAll #[iT] #[iT]=true
 | []=>by simp[ax.eqvAll]
 | x::r=>by simp[ax.eqvAll,ax.eqv,Kq r]
theorem ZlQ(ns:#[i]):ax.eqv #[fv,ns.map] #[fv,ns.map]=true:=by simp[ax.eqv,Kq ns]
theorem Rd.out{H:Hp}{ls:#[hB]}{ds:#[k]}(h:Rd H ls ds){l:ae}(hl:H l=af):l ∉ ls:=λhm=>by obtain⟨i,b⟩:=List.mem_iff_getElem?.mp hm;obtain⟨d,_,a⟩:=h.at b;rw[hl]at a;cases a
theorem Rd.split{H:Hp}:∀ {ls:List ae} {ds:List (List Int)} {d:List Int},Rd H ls (ds++[d])->X2 λa l=>ls=a++[l]/\Rd H a ds/\H l=U #[tH]
 | [],[],d,h=>h.elim
 | [],_::_,d,h=>h.elim
 | [l],[],d,h=>⟨[],l,rfl,trivial,h.1⟩
 | l::m::ls,[],d,h=>h.2.elim
 | l::ls,e::ds,d,h=>by obtain⟨a,x,e1,e2,e3⟩:=Rd.split (ls:=ls) (ds:=ds) h.2;exact⟨l::a,x,by rw[e1];rfl,⟨h.1,e2⟩,e3⟩
noncomputable def ks(ss:#[y])(n:Int):aj×Int:=(ss.getD n.toNat "",n)
def US(ss:#[y])(A:#[i])(n:Int):Prop:=n∈A/\∀m∈A,ZP (kk (ks ss m)) #[h2]=false
theorem Oj{e f:aj×Int}(h:kk e=kk f):e=f:=by obtain⟨a,b⟩:=e;obtain⟨c,d⟩:=f;unfold kk at h;injection h with i g;injection g with g _;have j:a=c:=Sum.inr.inj i;have k:b=d:=Sum.inl.inj g;rw[j,k]
def ltK(ss:#[y])(c n:Int):Prop:=cds (ss.getD c.toNat "")<cds #[ci]
inductive Res (ss:#[y]):List Int->List Int->Nat->List Int->List #[iZ]->List #[iZ]->Prop where
 | stop0 {c:Nat} {done:List (List Int)}:Res ss [] [] c [] done done
 | stop {c:Nat} {g:Int} {gone:List Int} {done:List (List Int)}:Res ss [] [] c (g::gone) done (done++[g::gone])
 | switch {b:Int} {B:List Int} {c:Nat} {gone:List Int} {done R:List (List Int)}:Res ss (b::B) [] c [] (done++[gone]) R->Res ss [] (b::B) c gone done R
 | stepN {A B:List Int} {c:Nat} {gone:List Int} {done R:List (List Int)} {n:Int}:US ss A n->¬ c<ss.length->Res ss (A.erase n) B c (gone++[n]) done R->Res ss A B c gone done R
 | stepA {A B:List Int} {c:Nat} {gone:List Int} {done R:List (List Int)} {n:Int}:US ss A n->c<ss.length->¬ ltK ss c n->Res ss (A.erase n++[(c:Int)]) B (c+1) (gone++[n]) done R->Res ss A B c gone done R
 | stepB {A B:List Int} {c:Nat} {gone:List Int} {done R:List (List Int)} {n:Int}:US ss A n->c<ss.length->ltK ss c n->Res ss (A.erase n) (B++[(c:Int)]) (c+1) (gone++[n]) done R->Res ss A B c gone done R
noncomputable def kt(ss:#[y])(r:Int)(n:Int):List Key:=[.inl r,.inr #[ci],.inl n]
theorem ZrN{ss:#[y]}{r n m:Int}:ZP (kt ss r n) (kt ss r m)=ZP #[h2] (kk (ks ss m)):=by unfold kt;rw[ZQ,if_pos rfl];rfl
theorem ZsR{ss:#[y]}{r n m:Int}:ZP (kt ss r n) (kt ss (r+1) m)=true:=by unfold kt;rw[ZQ,if_neg (by intro z;have:=#[kC];lia)];exact #[fN]
noncomputable def Yi(ss:#[y])(r:Int)(A B:#[i]):List #[sb]:=A.map (kt ss r)++B.map (kt ss (r+1))
theorem Zrk{ss:#[y]}{r:Int}{A B:#[i]}{M:List #[sb]}(b:M.Perm #[kL])(hA:A≠[]){t:#[f3]}(ht:t∈M)(hm:∀u∈M,ZP u t=false):∃n,t=kt ss r n/\US ss A n:=by
 have h1:=b.mem_iff.mp ht;rcases Qg.mp h1 with h1|h1
 ·show#[cK,n,c,h1];refine⟨n,rfl,c,λm d=>?_⟩;rw[<- ZrN (r:=r)];exact hm _ (b.mem_iff.mpr (Qr _ (Qm d)))
 ·obtain⟨m,_,rfl⟩:=Qs.mp h1;cases A with
  | nil=>exact #[oJ,hA]
  | cons a A=>have:=hm _ (b.mem_iff.mpr (Qr _ (Qm (QV (a:=a)))));rw[ZsR]at this;cases this
theorem Zpu{ss:#[y]}{r:Int}{A B:#[i]}{M a:List #[sb]}{n:Int}(b:M.Perm #[kL])(c:n∈A)(he:M.Perm (kt ss r n::a)):a.Perm (Yi ss r #[lL] B):=by
 have d:(kt ss r n::a).Perm #[kL]:=he.symm.trans b;have e:#[kL].Perm (kt ss r n::Yi ss r #[lL] B):=by unfold Yi;exact((List.perm_cons_erase c).map (kt ss r)).append_right _
 exact(d.trans e).cons_inv
def Kp:Sp:=λvs H Q _=>X3 λ(r:Int) (x y:aj)=>vs=[.int r,.str x,.str y]/\x.length<=1000/\y.length<=1000/\(¬ cds y<cds x->Q (.int r) H)/\(cds y<cds x->Q #[oA,r,1] H)
theorem Zl3(T:#[n])(a:#[jl]):Df P w K mg base 4 "run_behind" #[cn] Kp:=by
 show#[cE,T.t_run_behind.df,Zg8,b,c];obtain⟨r,x,y,rfl,e,g,i,j⟩:=h;refine⟨_,#[Zj,#[Zn,#[Xz,#[Zm,RR,#[ZE,a,c,#[fb,2,1],#[5]],#[Zi],#[h4]],‹0›,#[ZJ,YL,‹0›,#[Zi]]]]],_,rfl,_,rfl,y,x,rfl,g,e,_,_,rfl,rfl,_,rfl,Y2 #[79] #[79]⟩
 ·have k:#[lM]<=ZL #[bE] #[aT]:=#[58];exact⟨_,rfl,i (λz=>by have:=#[mM].mp z;lia)⟩
 ·have k:¬ #[lM]<=ZL #[bE] #[aT]:=#[l1];exact⟨_,rfl,_,_,rfl,rfl,j (#[mM].mpr #[2])⟩
noncomputable def first(k:Nat):List Int:=ZX 0 k
def Ko(K:#[7]):Sp:=λvs H Q _=>X3 λ(a:ae) (ss:List aj) (room:Nat)=>vs=[.ref a,.int room]/\SqL K H a #[64]/\ss.length<=60/\#[bC]/\room<=100 /\
 ∀ (r:ae) (b:List ae) (R:List (List Int)) (c:Hp),H r=af->c r=U #[dp,b.map,V.ref]->r ∉ b->(∀l∈b,H l=af)->Rd c b R->Res ss #[fT] [] #[iH] [] [] R->R.length<=100->(∀d∈R,d.length<=100)->Zw H c->Q #[83] c
theorem Se{k:Nat}{n:Int}(h:n∈first k):0<=n/\n<k:=by
 unfold first ZX at h
 show#[cK,m,a,h];have:=Q1.mp a;lia
theorem UR{ss:#[y]}{n:Int}(h0:0<=n)(h:n<ss.length):atI #[64] n=U (.str #[ci]):=by
 have a:n.toNat<ss.length:=by lia
 have b:n=#[eb,n.toNat]:=by lia
 have q:atI #[64] #[eb,n.toNat]=U (.str ss[n.toNat]):=Yz #[eK,a];rw[<- b]at q;rw[q,Qq,Qb a];rfl
theorem Kn{ss:#[y]}(h:∀s∈ss,s.length<=1000)(n:Nat):(ss.getD n "").length<=1000:=by
 rw[Qq];cases a:ss[n]? with
 | none=>decide
 | some z=>exact h z (Qo a)
noncomputable def Yx(gone:#[i])(done:#[k]):List #[iZ]:=if gone=[] then done else done++[gone]
structure At (ss:#[y]) (k:Nat) (H0 H:Hp) (ia ru:ae) (ts:YO) (ls:#[hB]) (A B:#[i]) (c:Nat) (gone:#[i]) (done:#[k]):Prop where
 ins:H ia=U #[dp,Z7,ts]
 att:AtT H ts
 per:#[mJ].Perm (Yi ss #[30] A B)
 run:H ru=U #[hb]
 rd:Rd H ls #[jH]
 rul:ru ∉ ls
 nd:ls.Nodup
 fr:∀l∈ls,H0 l=af
 ne:ia≠ru
 nil:ia ∉ ls
 sm:Zw H0 H
 i0:H0 ia=af
 r0:H0 ru=af
 hc:c<=ss.length
 mem:∀n∈A++B,0<=n/\n<c
 cnt:#[tD].sum+A.length+B.length+#[pR]=ss.length
 nem:∀d∈done,d≠[]
 go:B≠[]->A=[]->gone≠[]
 res:∀R,Res ss A B c gone done R->Res ss (first k) [] k [] [] R
theorem UQ(k:Nat):(first k).length=k:=XN 0 k
theorem Sd:∀D:List (List Int),(∀d∈D,d≠[])->D.length<=(D.map List.length).sum/\∀d∈D,d.length<=(D.map List.length).sum
 | [],_=>⟨Qh _,λd h=>by cases h⟩
 | x::r,h=>by
  obtain⟨a,b⟩:=Sd r λd hd=>h d (Qu _ hd);have hx:x.length≠0:=λz=>h x #[4] (QP z);rw[Qj,QN,QF];refine⟨by lia,λd hd=>?_⟩;rcases QG.mp hd with rfl|hd
  ·lia
  ·have:=b d hd;lia
structure In (ss:#[y]) (k:Nat) (H0 H:Hp) (h1 la go fo:ae) (ls:#[hB]) (A B:#[i]) (c:Nat) (gone:#[i]) (done:#[k]):Prop where
 hA:H h1=U #[d8,A.map]
 hB:H la=U #[d8,B.map]
 hG:H go=U #[tG]
 hF:H fo=U #[hb]
 rd:Rd H ls done
 d1:h1≠la
 d2:h1≠go
 d3:la≠go
 e1:h1≠fo
 e2:la≠fo
 e3:go≠fo
 l0:fo ∉ ls
 l1:h1 ∉ ls
 l2:la ∉ ls
 l3:go ∉ ls
 f0:H0 fo=af
 f1:H0 h1=af
 f2:H0 la=af
 f3:H0 go=af
 fl:∀l∈ls,H0 l=af
 sm:Zw H0 H
 hc:c<=ss.length
 mem:∀n∈A++B,0<=n/\n<c
 cnt:#[he].sum+gone.length+A.length+B.length+#[pR]=ss.length
 nem:∀d∈done,d≠[]
 go':A≠[]\/gone≠[]
 res:∀R,Res ss A B c gone done R->Res ss (first k) [] k [] [] R
structure Out (ss:#[y]) (k:Nat) (H0 H:Hp) (h1 fo:ae) (ls:#[hB]) (A:#[i]) (c:Nat) (done:#[k]):Prop where
 hA:H h1=U #[d8,A.map]
 hF:H fo=U #[hb]
 rd:Rd H ls done
 e1:h1≠fo
 l0:fo ∉ ls
 l1:h1 ∉ ls
 f0:H0 fo=af
 f1:H0 h1=af
 fl:∀l∈ls,H0 l=af
 sm:Zw H0 H
 hc:c<=ss.length
 mem:∀n∈A,0<=n/\n<c
 cnt:#[he].sum+A.length+#[pR]=ss.length
 nem:∀d∈done,d≠[]
 res:∀R,Res ss A [] c [] done R->Res ss (first k) [] k [] [] R
def Ord(E:#[cr]):Prop:=E.Pairwise λa b=>ZP (kk b) (kk a)=false
theorem ZkH{d ts:YO}{E:#[cr]}(f:#[kz])(pm:d.Perm ts)(pw:d.Pairwise #[iR]):∃c,c.Perm E/\d.map #[f6]=c.map kk/\Ord c:=by obtain⟨c,p,e⟩:=Rv kk (pm.map #[f6]) E f;refine⟨c,p,e,?_⟩;have:(d.map #[f6]).Pairwise (λa b=>ZP b a=false):=List.pairwise_map.mpr pw;rw[e]at this;exact List.pairwise_map.mp this
theorem Zl0{K:#[7]}{a:ae}{xs:#[jr]}{k:Nat}{D:ae}{b:L2.St}{f:Hp}{g:TG}{h:TE}{Q:VK}(Pv:#[23])(h0:#[cS,b,f])
  (hl:#[dz,zs,b])
  (n:∀i zs b H x p,xs[i]? = U x->Pv i zs b H->H p=af->g #[gY] b #[ic] λj o=>h j o λz l=>l D=U #[bl]/\zs.length<aq/\Pv (i+1) (zs++[z]) j #[dM,l,zs,z])
  (hd:#[dB,zs,b,xs.length]):WG #[p2] D k b f g WH h Q:=by
 show#[cY,zs,b,d];by_cases c:i<xs.length
 ·refine .inr ⟨⟨xs,d,c⟩,Pv (i+1),λcJ aP q s=>⟨xs.length-(i+1),by lia,rfl,c,s⟩,λx q y=>?_⟩;show#[ns,t,u,d,c];simp only[WH,↓reduceIte];exact n i zs b H _ r (Qb c) p t
 ·have e:#[hv]:=by lia
  show#[fH,d,zs,b]
def Ris(ss:#[y])(ns:#[i]):Prop:=∀ (p:Nat) (x y:Int),ns[p]? = U x->ns[p+1]? = U y->ZP #[90] #[bN]=true
theorem ZjN(ss:#[y])(n:Nat):#[oS,n,ss].Nodup:=by
 unfold first ZX
 rw[QA];show#[j2];have:=congrArg Prod.snd z;exact h (by simp only[Function.comp_apply,ks]at this;lia)
theorem Zrh{ss:#[y]}{n:Nat}{E:#[cr]}(g:E.Perm #[oS,n,ss])(k:Ord E):Ris ss (E.map #[f6])/\(∀m∈E.map (·.2),#[lM]<=m/\m<(n:Int))/\E.length=n:=by
 have i:∀e∈E,e=ks ss e.2/\#[lM]<=e.2/\e.2<(n:Int):=λe h=>by obtain⟨m,j,rfl⟩:=Qs.mp (g.mem_iff.mp h);exact⟨rfl,Se j⟩
 refine⟨λp x y a b=>?_,λm j=>?_,?_⟩
 ·rw[Ql]at a b;cases c:E[p]? with
  | none=>rw[c]at a;cases a
  | some e =>
   cases d:E[p+1]? with
   | none=>rw[d]at b;cases b
   | some f =>
    rw[c]at a;show#[eX,d,b,a];cases b;show#[nQ,l,c,q,d];have o:=Qab.mp k p (p+1) l1 l2 #[2];have nd:=Qab.mp (g.nodup_iff.mpr (ZjN ss n)) p (p+1) l1 l2 #[2];rw[l,q]at o nd;rw[<- (i e (Qo c)).1,<- (i f (Qo d)).1];cases r:ZP (kk e) (kk f) with
    | true=>rfl
    | false=>exact absurd (Oj (Vi _ _ r o)) nd
 ·show#[cK,e,h,j];exact(i e h).2
 ·rw[g.length_eq,Qa,UQ]
def Km(K:#[7]):Sp:=λvs H Q _=>X2 λ(a:ae) (ss:List aj)=>vs=#[iF]/\SqL K H a #[64]/\ss.length<=60 /\
 ∀ (r:ae) (b:List Int) (c:Hp),H r=af->c r=U #[d8,b.map]->b.length=ss.length->#[n7,b]->Ris ss b->Zw H c->Q #[83] c
theorem Zi2(T:#[n]):Df P w K mg base 1 "_law_in_order" #[hi] (Km K):=by
 show#[oG,T.t_l_in_order.df,Zg0];show#[eq,a,d,hS,fZ];refine⟨_,#[Zj,#[Zn,#[Yd,SN,#[iL,K,#[Zk,(Mr K),#[5],T.b.n_sorted,boot_sorted,#[Zc,#[Yd,Ua,#[o2,#[bp]],#[cQ,1,Ua,2],#[J],#[nq,2,Ua,1]]]]],#[cQ,1,SN,2],#[J],(λ_ _ _ _=>#[cw,2,SN])]]],?_⟩;refine⟨_,rfl,a,d.map V.str,rfl,hS,λD hD=>?_⟩;refine Zl0 (K:=K) (a:=a) (xs:=d.map V.str) (λi zs r j=>(X2 λu v:Option V=>r=[U #[61],u,v])/\(∃k:YO,zs=Z7 k/\AtT j k/\k.length=i/\k.map #[f6]=#[oS,i,d].map kk)/\i<=d.length/\j D=U #[bl]/\Zw H j) ?_ (λ_ _ _ _ h=>h.2.2.2.2.seq hS) ?_ ?_
 ·exact⟨⟨af,af,rfl⟩,⟨[],rfl,#[cM,t,h],rfl,rfl⟩,Qt _,Zb,Zh hD _⟩
 ·rintro i zs r j x p g ⟨⟨u,v,rfl⟩,⟨k,rfl,M,N,G⟩,kI,W,X⟩ hp;rw[Ql]at g;cases O:d[i]? with
  | none=>rw[O]at g;cases g
  | some y =>
   show#[nV,O,g,d.length];have Y:=Zh hp #[aG];show#[cW,j7,j,p,#[aG]];have B:=Y _ _ W;have I:=AtT.mono M Y;have F:=X.trans Y;generalize upd j p (.tup [.int i,.str y])=Z at j7 B I F ⊢;refine⟨p,_,rfl,SqT.of j7,rfl,_,_,rfl,_,_,rfl,rfl,_,rfl,_,rfl,#[w],λn fM=>?_⟩;have sn:=Zh fM #[fA,y,i];show#[oq,C,sn,B,fM];refine⟨C,(by unfold Z7;rw[Qa,N];exact #[rC]),#[iK],⟨k++[(n,kk (ks d (i:Int)))],by unfold Z7;rw[Qd];rfl,λt ht=>?_,by rw[Qf,Qp];lia,?_⟩,by lia,Zb,λb o J=>?_⟩
   ·rcases Qg.mp ht with ht|ht
    ·exact #[oT,C,I]
    ·show#[q6];have ey:d.getD i "" = y:=by rw[Qq,O];rfl
     show (upd Z n _) n=_;rw[Zb,<- ey];rfl
   ·rw[Qd,G];unfold first ZX
    rw[QaC,Qd,Qd,Qd];simp
   ·show#[c6,J,hD,sn,F,b]
 rintro zs r j ⟨⟨u,v,rfl⟩,⟨k,rfl,M,N,G⟩,_,W,X⟩;rw[Qa]at G N;have cb:∀t∈k,shape t.2=#[q9]:=λt ht=>by
  have:t.2∈#[oS,d.length,d].map kk:=by rw[<- G];exact Qm (f:=#[ky]) ht
  obtain⟨m,_,e⟩:=#[rH];rw[<- e];rfl
 refine⟨D,k,#[q9],rfl,SqL.of W,M,by simp,cb,by lia,λl c hl pm pw=>?_⟩;obtain⟨R,pE,eE,oE⟩:=ZkH G pm pw;obtain⟨iB,gp,A0⟩:=Zrh pE oE;have F:=X.trans (Zh hl #[sn]);show#[tZ,eX,j,l,#[sn],#[sn]];have I:AtT (upd j l #[sn]) c:=λt ht=>Zh hl _ _ _ (M t (pm.mem_iff.mp ht));generalize upd j l (.lst (Z7 c))=Z at F eX I ⊢;have CH:c.length=d.length:=by rw[pm.length_eq];exact N
 refine#[fI,l,eX,D3,B];refine WT (K:=K) (a:=l) (xs:=Z7 c) (λi zs r L=>(X2 λu v:Option V=>r=[U #[61],u,v])/\zs=((R.take i).map #[f6]).map V.int/\i<=c.length/\L D3=U #[bl]/\Zw Z L) ?_ #[cJ,eX] ?_ ?_
 ·show#[fw,B]
 ·rintro i x zs r L g ⟨⟨u,v,rfl⟩,rfl,A3,C,S⟩;show#[tW,Z7,g];cases ht:c[i]? with
  | none=>rw[ht]at g;cases g
  | some t =>
   show#[nV,ht,g,c.length];have vx:R[i]? = U R[i]:=Qb #[2];have e5:t.2=kk R[i]:=by have:=congrArg (λz=>z[i]?) eE;simp only[List.getElem?_map,ht,vx,Option.map_some]at this;exact Qk this
   have hH:=S _ _ (I t (Qo ht));rw[e5]at hH;refine⟨t.1,_,rfl,SqT.of hH,rfl,_,_,rfl,_,_,rfl,rfl,_,rfl,C,#[m8],#[iK],?_,ce,Zb,λb o J=>?_⟩
   ·rw[QE,vx,Qd,Qd];rfl
   ·show#[nv,J,B,S,b,o]
 rintro zs r L ⟨⟨u,v,rfl⟩,rfl,A3,C,S⟩;rw[show (Z7 c).length=c.length from Qa _,Qw #[2]]at C;exact q D3 _ L (F.free B) C #[cL,Qa,A0] gp iB (F.trans S)
inductive PT where
 | leaf (k:Int)
 | node (l:List PT)
mutual
inductive TV (H:Hp):V->PT->Prop where
 | leaf (k:Int):TV H (.int k) (.leaf k)
 | node {a:ae} {xs:List V} {l:List PT}:H a=U (.tup xs)->TVs H xs l->TV H (.ref a) (.node l)
inductive TVs (H:Hp):List V->List PT->Prop where
 | nil:TVs H [] []
 | cons {x:V} {t:PT} {xs:List V} {l:List PT}:TV H x t->TVs H xs l->TVs H (x::xs) (t::l)
end
mutual
theorem TV.mono{H b:Hp}(s:#[bK]):∀ {x:V} {t:PT},TV H x t->TV b x t
 | _,_,.leaf k=>.leaf k
 | _,_,.node h c=>.node (s _ _ h) (c.mono s)
theorem TVs.mono{H b:Hp}(s:#[bK]):∀ {xs:List V} {l:List PT},TVs H xs l->TVs b xs l
 | _,_,.nil=>.nil
 | _,_,.cons h c=>.cons (h.mono s) (c.mono s)
end
mutual
noncomputable def toD:PT->ax
 | .leaf k=>.int k
 | .node l=>.tuple (Xk l)
noncomputable def Xk:List PT->List ax
 | []=>[]
 | t::r=>toD t::Xk r
end
mutual
theorem TV.dv{K:#[7]}{H:Hp}:∀ {x:V} {t:PT},TV H x t->DV K H x (toD t)
 | _,_,.leaf k=>.int k
 | _,_,.node h a=>.tup (SqT.of h) a.dv
theorem TVs.dv{K:#[7]}{H:Hp}:∀ {xs:List V} {l:List PT},TVs H xs l->DVs K H xs (Xk l)
 | _,_,.nil=>.nil
 | _,_,.cons h a=>.cons h.dv a.dv
end
theorem TVs.len{H:Hp}:∀ {xs:List V} {l:List PT},TVs H xs l->xs.length=l.length
 | _,_,.nil=>rfl
 | _,_,.cons _ a=>by rw[QF,QF,a.len]
theorem TVs.app{H:Hp}:∀ {xs ys:List V} {l m:List PT},TVs H xs l->TVs H ys m->TVs H (xs++ys) (l++m)
 | _,_,_,_,.nil,h=>h
 | _,_,_,_,.cons h a,g=>.cons h (a.app g)
theorem TVs.at{H:Hp}:∀ {xs:List V} {l:List PT} {i:Nat} {x:V},TVs H xs l->xs[i]? = U x->∃t,l[i]? = U t/\TV H x t
 | _,_,i,x,.nil,h=>by simp at h
 | _,_,0,x,.cons (t:=t) h _,e=>by simp at e;subst e;exact⟨t,rfl,h⟩
 | _,_,i+1,x,.cons _ a,e=>by simpa using a.at (i:=i) #[cG,e]
mutual
noncomputable def tSz(ns:#[i]):PT->Int
 | .leaf k=>ns.getD k.toNat 0
 | .node l=>WO ns l
noncomputable def WO(ns:#[i]):List PT->Int
 | []=>0
 | t::r=>tSz ns t+WO ns r
end
mutual
noncomputable def tCo(ns:#[i]):PT->Int
 | .leaf _=>0
 | .node l=>YD ns l+WO ns l
noncomputable def YD(ns:#[i]):List PT->Int
 | []=>0
 | t::r=>tCo ns t+YD ns r
end
mutual
noncomputable def tLf:PT->Nat
 | .leaf _=>1
 | .node l=>TQ l
noncomputable def TQ:List PT->Nat
 | []=>0
 | t::r=>tLf t+TQ r
end
mutual
noncomputable def tDp:PT->Nat
 | .leaf _=>0
 | .node l=>XF l+1
noncomputable def XF:List PT->Nat
 | []=>0
 | t::r=>max (tDp t) (XF r)
end
mutual
noncomputable def tNo:PT->Nat
 | .leaf _=>1
 | .node l=>WN l+1
noncomputable def WN:List PT->Nat
 | []=>0
 | t::r=>tNo t+WN r
end
mutual
def tOk(n:Nat):PT->Prop
 | .leaf k=>0<=k/\k<n
 | .node l=>UP n l
def UP(n:Nat):List PT->Prop
 | []=>True
 | t::r=>tOk n t/\UP n r
end
theorem Kl(ns:#[i]):∀a b:List PT,YD ns (a++b)=YD ns a+YD ns b
 | [],b=>by show YD ns b=0+YD ns b;lia
 | t::r,b=>by show tCo ns t+YD ns (r++b)=tCo ns t+YD ns r+YD ns b;rw[Kl ns r b];lia
theorem Kk(n:Nat):∀ (l:List PT) (i:Nat) (t:PT),UP n l->l[i]? = U t->tOk n t
 | [],i,t,_,h=>by simp at h
 | a::r,0,t,h,e=>by simp at e;subst e;exact h.1
 | a::r,i+1,t,h,e=>Kk n r i t h.2 #[cG,e]
theorem Kj:∀ (l:List PT) (i:Nat) (t:PT),l[i]? = U t->tDp t<=XF l
 | [],i,t,h=>by simp at h
 | a::r,0,t,e=>by simp at e;subst e;show tDp a<=max (tDp a) (XF r);lia
 | a::r,i+1,t,e=>by have:=Kj r i t #[cG,e];show tDp t<=max (tDp a) (XF r);lia
mutual
theorem Ki:∀t:PT,1<=tNo t
 | .leaf _=>Qh _
 | .node l=>by show 1<=WN l+1;lia
theorem ZnH:∀l:List PT,l.length<=WN l
 | []=>Qh _
 | t::r=>by have:=Ki t;have:=ZnH r;show r.length+1<=tNo t+WN r;lia
end
mutual
theorem Zry:∀t:PT,tLf t<=tNo t
 | .leaf _=>Qh _
 | .node l=>by have:=Kh l;show TQ l<=WN l+1;lia
theorem Kh:∀l:List PT,TQ l<=WN l
 | []=>Qh _
 | t::r=>by have:=Zry t;have:=Kh r;show tLf t+TQ r<=tNo t+WN r;lia
end
theorem Zmp{k:Int}(h0:0<=k)(h1:k<=10000000000):(ax.int k).intsShort 13=true/\(ax.int k).showable=true/\(ax.int k).weight<=40:=by
 have a:k.natAbs<2 ^ 34:=by lia
 have CI:k.natAbs.log2<34:=by
  by_cases e:k.natAbs=0
  ·rw[e];decide
  ·exact(Nat.log2_lt e).mpr a
 refine⟨?_,?_,?_⟩
 ·simp only[ax.intsShort];exact decide_eq_true (ax.shown_int_le #[2])
 ·simp only[ax.showable];exact #[fN]
 ·simp only[ax.weight];split<;>lia
mutual
theorem Zoh{n:Nat}(f:n<=1000):∀t:PT,tOk n t->(toD t).canLay0=true/\(toD t).depth=tDp t/\(toD t).weight+1<=42*tNo t/\(toD t).intsShort 13=true/\(toD t).showable=true
 | .leaf k,h=>by obtain⟨h0,h1⟩:=h;obtain⟨a,b,c⟩:=Zmp h0 #[2];refine⟨by simp[toD,ax.canLay0],by simp[toD,ax.depth,tDp],?_,a,b⟩;show (ax.int k).weight+1<=42*1;lia
 | .node l,h=>by obtain⟨a,b,c,d,e⟩:=Kg f l h;refine⟨by simpa [toD,ax.canLay0] using a,by simp[toD,ax.depth,tDp,b],?_,by simpa [toD,ax.intsShort] using d,by simpa [toD,ax.showable] using e⟩;show ax.weightAll (Xk l)+1<=42*(WN l+1);lia
theorem Kg{n:Nat}(f:n<=1000):∀l:List PT,UP n l->ax.canLayAll0 (Xk l)=true/\ax.depthAll (Xk l)=XF l/\ax.weightAll (Xk l)<=42*WN l/\ax.intsShortAll 13 (Xk l)=true/\ax.showableAll (Xk l)=true
 | [],_=>⟨rfl,rfl,Qt _,rfl,rfl⟩
 | t::r,h=>by obtain⟨a,b,c,d,e⟩:=Zoh f t h.1;obtain⟨g,i,c',j,k⟩:=Kg f r h.2;have hp:=Ki t;refine⟨by simp[Xk,ax.canLayAll0,a,g],by simp[Xk,ax.depthAll,XF,b,i],?_,by simp[Xk,ax.intsShortAll,d,j],by simp[Xk,ax.showableAll,e,k]⟩;show (toD t).weight+1+ax.weightAll (Xk r)<=42*(tNo t+WN r);lia
end
mutual
noncomputable def tLv:PT->List Int
 | .leaf k=>[k]
 | .node l=>Y3 l
noncomputable def Y3:List PT->List Int
 | []=>[]
 | t::r=>tLv t++Y3 r
end
mutual
def tPl(w:Nat):PT->Prop
 | .leaf _=>True
 | .node l=>2<=l.length/\l.length<=w/\X0 w l
def X0(w:Nat):List PT->Prop
 | []=>True
 | t::r=>tPl w t/\X0 w r
end
theorem Kf:∀a b:List PT,Y3 (a++b)=Y3 a++Y3 b
 | [],b=>rfl
 | t::r,b=>by show tLv t++Y3 (r++b)=#[kI]++Y3 b;rw[Kf r b,Q4]
theorem Ke(w:Nat):∀a b:List PT,X0 w (a++b)↔X0 w a/\X0 w b
 | [],b=>by show X0 w b↔True/\X0 w b;simp
 | t::r,b=>by show tPl w t/\X0 w (r++b)↔(tPl w t/\X0 w r)/\X0 w b;rw[Ke w r b,and_assoc]
def Oi:Sp:=λvs H Q _=>(∃i:Int,vs=[.int i]/\Q #[pr] H)\/(X2 λ(a:ae) (xs:List V)=>vs=#[iF]/\H a=U #[71]/\Q #[tA] H)
theorem Zmz(K:#[7]):PySem.W.kitOne K #[fE,"tuple"] #[jS]=U false:=by unfold PySem.W.kitOne PySem.W.kitCls;rfl
theorem ZrT(T:#[n]):Df P w K mg base 1 "is_number" ["thing"] Oi:=by
 refine T.t_is_number.df Zig (λb H Q E h=>?_) #[cF,b,hr]
 ·rcases h with⟨_,rfl,_⟩|⟨_,_,rfl,_⟩<;>rfl
 refine⟨_,#[Zj,#[Zn,(@UK _ _ _ _ _ _ _ #[Zk,(Ti K),#[5],T.b.n_isinstance,boot_isinstance,#[Zc,‹0›,#[Vm,T.b.n_int,boot_int]]] (@Tx _ _ _ _ _ (@ZrZ _ _ _ _ #[Zk,(Ti K),#[5],T.b.n_isinstance,boot_isinstance,#[Zc,‹0›,#[Vm,T.b.n_bool,boot_bool]]])))]],?_⟩;rcases h with⟨i,rfl,q⟩|⟨a,xs,rfl,c,q⟩
 ·exact⟨_,rfl,_, "int",_,_,rfl,.int i,Zl8 K,_,rfl,Wl ⟨_,rfl,_, "bool",_,_,rfl,.int i,Zn4 K,_,rfl,q⟩⟩
 ·exact⟨_,rfl,_, "int",_,_,rfl,.tup c,Zmz K,_,rfl,YQ q⟩
theorem Kd{α:Type}:∀ (l:List α) (i:Nat) (h:i<l.length),(l[i]::l.eraseIdx i).Perm l
 | [],i,h=>by simp at h
 | a::r,0,h=>.refl _
 | a::r,i+1,h=>by rw[List.getElem_cons_succ,List.eraseIdx_cons_succ];exact(List.Perm.swap a _ _).trans ((Kd r i #[cG,h]).cons a)
theorem Kc{gone:#[i]}{done:#[k]}(h:∀d∈done,d≠[]):∀d∈Yx gone done,d≠[]:=λd hd=>by
 unfold Yx at hd;by_cases a:gone=[]
 ·show#[n3,a,hd];exact h d hd
 ·show#[fx,a,hd];rcases Qg.mp hd with hd|hd
  ·exact h d hd
  ·rw[Qe.mp hd];exact a
theorem Oh(gone:#[i])(done:#[k])(n:Int):Yx (gone++[n]) done=done++[gone++[n]]:=by unfold Yx;rw[if_neg #[4]]
theorem TN(gone:#[i])(done:#[k]):#[tD].sum=#[he].sum+gone.length:=by
 unfold Yx;by_cases a:gone=[]
 ·rw[if_pos a,a];rfl
 ·rw[if_neg a,Qd,Q9];simp
theorem At.switch{ss:#[y]}{k:Nat}{a H:Hp}{f ru:ae}{ts:YO}{ls:#[hB]}{b:Int}{B:#[i]}{c:Nat}{gone:#[i]}{done:#[k]}(h:At ss k a H f ru ts ls [] (b::B) c gone done):At ss k a H f ru ts ls (b::B) [] c [] (done++[gone]):=by
 have g:=h.go #[4] rfl;have e:Yx [] (done++[gone])=Yx gone done:=by unfold Yx;rw[if_pos rfl,if_neg g]
 refine⟨h.ins,h.att,?_,h.run,by rw[e];exact h.rd,h.rul,h.nd,h.fr,h.ne,h.nil,h.sm,h.i0,h.r0,h.hc,λn i=>h.mem n #[cG,i],?_,λd hd=>?_,λj=>absurd rfl j,λR l=>h.res R (.switch l)⟩
 ·have:=h.per;unfold Yi at this ⊢;rw[Qar,List.nil_append]at this;rw[Qar,QO,Qf,Qp];exact this
 ·rw[e];have:=h.cnt;simpa using this
 ·rcases Qg.mp hd with hd|hd
  ·exact h.nem d hd
  ·rw[Qe.mp hd];exact g
theorem ZnX{ss:#[y]}{r:Int}{A B:#[i]}{ts:YO}(a:#[mJ].Perm #[kL]):∀t∈ts,shape t.2=[true,false,true]:=λt ht=>by
 have:=a.mem_iff.mp (Qm (f:=#[ky]) ht);rcases Qg.mp this with h|h
 ·show#[su];rfl
 ·show#[su];rfl
theorem ZpP(T:#[n])(cT:#[c2,4,"run_behind",#[cn],Kp]):Df P w K mg base 5 "runs_of" #[i5] (Ko K):=by
 show#[oG,T.t_runs_of.df,Wi];obtain⟨a,p,room,rfl,hS,fZ,aW,A4,q⟩:=h;refine⟨_,#[Zg,#[UA,2,Wi.nd,Ub,#[Vq,T.b.n_range,#[Zc,#[Zk,(RP rfl),#[5],T.b.n_min,boot_min,#[Zc,‹1›,#[bh]]]]],#[di,9,Ub],#[J],(λ_ _ _ _=>#[ZO,#[Zc,#[Zi],#[fJ,0,Ub,9],#[cw,9,Ub]]])],#[Zg,#[ZB,3,Wi.nd,#[3],#[gn]],#[Zg,#[dU,4,Wi.nd],#[Zg,(@UG _ _ _ _ _ _ ba.never #[nG,WZ,#[gn]] #[Zg,#[ZB,5,Wi.nd,#[3],#[Zk,(Mn K hr),#[5],T.b.n_min,boot_min,#[ag]]],#[Zg,#[Yf,#[Xw,QI,PySem.F.slot_list_remove,PySem.F.type_list_remove,(Zuc hr),‹2›,#[Zc,‹5›]]],#[Zg,#[Yv,‹5›,#[ez,6,Wi.nd,7,8]],(@LU _ _ _ _ _ #[Y0,#[Zm,YG,‹6›,#[dT,4],#[h4]],#[Zj,#[Yf,#[Xw,QI,QS,QT,WW,‹4›,#[Zc,#[Ym,#[Zc]]]]]],#[ZM]] #[Zg,#[Yf,#[Xw,QI,QS,QT,WW,#[eL,4,6],#[Zc,‹8›]]],#[Zj,#[Y0,#[cR,Xg,3,#[bh]],#[Zg,#[Yf,#[Xw,QI,QS,QT,WW,‹2›,#[Zc,#[ZO,#[Zc,#[ZE,cT,hr,#[Zc,‹6›,‹7›,#[qY]],#[5]],#[qY],‹3›]]]]],#[Zj,(@NF _ _ 3 _ _ _ _ _ _ Wi.nd rfl #[3] #[Zi] NE (by trivial))]],#[ZM]]]])]]]),#[dH,4]]]]],?_⟩;have hl:#[cU,p.map,V.str]=(p.length:Int):=by rw[Qa]
 have dX:(if #[cU,p.map,V.str]<(room:Int) then (((p.map V.str).length:Nat):Int) else (room:Int))=#[qa]:=by split<;>lia
 refine⟨_,rfl,_,rfl,a,_,rfl,.inl hS,_,_,rfl,?_⟩;simp only[dX];refine⟨_,rfl,by lia,by lia,λD hD=>?_⟩;rw[Qak];refine MF (λi zs S H2=>(∃v:Option V,S=[U #[61],U #[tz],af,af,af,af,af,af,af,v])/\(∃r:YO,zs=Z7 r/\AtT H2 r/\r.map #[f6]=(first i).map (kt p 0))/\i<=min room p.length/\H2 D=U #[bl]/\Zw H H2) ?_ ?_ ?_
 ·exact⟨⟨af,rfl⟩,⟨[],rfl,#[cM,t,h],rfl⟩,Qt _,Zb,Zh hD _⟩
 ·rintro i zs S H2 hi ⟨⟨v,rfl⟩,⟨r,rfl,bF,hE⟩,kI,bU,s2⟩;have ce:i<p.length:=by lia
  have e0:#[jL]=#[eb,i]:=by lia
  have fN:atI (p.map V.str) #[jL]=U (.str #[ta]):=UR #[2] #[2];refine⟨_,rfl,_,rfl,a,_,_,_,rfl,rfl,s2.seq hS,fN,_,rfl,#[K],λn fM=>?_⟩;have sn:=Zh fM (.tup [.int 0,.str #[ta],.int #[jL]]);show#[oq,cz,sn,bU,fM];have dF:r.length=i:=by have:=#[cO,hE];rw[Qa,Qa,UQ]at this;exact this
  refine⟨cz,(by unfold Z7;rw[Qa,dF];exact #[rC]),#[H],⟨r++[(n,kt p 0 #[jL])],by unfold Z7;rw[Qd];rfl,λt ht=>?_,?_⟩,by lia,Zb,λb o I=>?_⟩
  ·rcases Qg.mp ht with ht|ht
   ·exact #[oT,cz,bF]
   ·show#[q6];exact Zb
  ·rw[Qd,hE];unfold first ZX
   rw[QaC,Qd,Qd];rfl
  ·show#[c6,I,hD,sn,s2,b]
 rintro zs S H2 ⟨⟨v,rfl⟩,⟨pI,rfl,vz,vA⟩,_,bU,s2⟩;have vB:pI.length=min room p.length:=by have:=#[cO,vA];rw[Qa,Qa,UQ]at this;exact this
 have vC:#[cU,Z7,pI]=#[qa]:=by unfold Z7;rw[Qa,vB]
 refine⟨_,rfl,D,_,rfl,.inl (SqL.of bU),?_⟩;simp only[vC];show#[eY,#[29],C,n9];have A5:D≠C:=Zd bU n9;have s3:=s2.trans (Zh n9 #[av]);have vD:At p #[me] H (upd H2 C #[av]) D C pI [] (first (min room p.length)) [] #[me] [] []:=by
  refine⟨Zh n9 _ _ _ bU,AtT.mono vz (Zh n9 _),?_,Zb,by unfold Yx;rw[if_pos rfl];trivial,#[tX,h],List.nodup_nil,#[cM,l,h],A5,#[tX,h],s3,hD,s2.free n9,by lia,λn hn=>?_,?_,#[cM,d,h],λh=>absurd rfl h,λR h=>h⟩
  ·rw[vA];unfold Yi;rw[Qar,QO];exact .refl _
  ·rw[QO]at hn;exact Se hn
  ·unfold Yx;rw[if_pos rfl,UQ];simp;lia
 generalize upd H2 C (.lst [])=H3 at vD ⊢;refine⟨λm S M=>X11 λ(r:YO) (F:List ae) (A B:List Int) (c:Nat) (gone:List Int) (done:List (List Int)) (v5 v6 v7 v8:Option V)=>S=[U #[61],U #[tz],U #[iy],U (.int c),U #[aU],v5,v6,v7,v8]/\At p #[me] H M D C r F A B c gone done/\m=A.length+B.length+(p.length-c),⟨_,pI,[],first (min room p.length),[],min room p.length,[],[],af,af,af,af,rfl,vD,rfl⟩,?_⟩;rintro m S M ⟨r,F,A',B',c,jt,oa,v5,v6,v7,v8,rfl,L,rfl⟩;have vE:r.length=A'.length+B'.length:=by have:=L.per.length_eq;show#[px];exact this
 refine⟨_,rfl,D,_,rfl,.inl (SqL.of L.ins),_,_,rfl,rfl,_,rfl,Y2 #[79] #[79]⟩
 ·have d':#[lM]<#[cU,Z7,r]:=#[58];have fO:0<r.length:=by unfold Z7 at d';rw[Qa]at d';lia
  obtain⟨A,B,gone,done,j,vF,hm⟩:X4 λA B gone done=>At p (min room p.length) H M D C r F A B c gone done/\A≠[]/\A'.length+B'.length=A.length+B.length:=by
   by_cases hA:A'=[]
   ·subst hA;cases B' with
    | nil=>exact absurd fO (by rw[vE];decide)
    | cons b B=>exact⟨_,_,_,_,L.switch,by simp,by simp⟩
   ·exact⟨A',B',jt,oa,L,hA,rfl⟩
  refine#[gR];have qw:=j.cnt;rw[TN]at qw;have pJ:=(Sd done j.nem).1;have vG:r≠[]:=λz=>by rw[z]at fO;simp at fO
  refine⟨_,rfl,D,r,[true,false,true],rfl,SqL.of j.ins,j.att,vG,ZnX j.per,λt ht sy=>?_⟩;obtain⟨n,et,hZ⟩:=Zrk j.per vF (Qm (f:=#[ky]) ht) (λu hu=>by obtain⟨t',eF,rfl⟩:=Qs.mp hu;exact sy t' eF);have vH:t.2=kt p #[30] n:=et;have pK:=hZ.1;have hn:=j.mem n (Qr _ pK);have o0:=j.hc;refine⟨_,rfl,.inl #[dl,j.ins],_,rfl,D,r,t,rfl,rfl,j.ins,j.att,ht,by lia,λi hi ir=>?_⟩;have qx:=j.att t ht;rw[vH]at qx;have og:#[41] t.1=U (.tup [.int #[30],.str (p.getD n.toNat ""),.int n]):=WC j.ins _ _ _ qx;have j':#[41] D=U (.lst (Z7 #[mK])):=Zb;have lM:AtT #[41] #[mK]:=λu hu=>WC j.ins _ _ _ (j.att u (List.mem_of_mem_eraseIdx hu));have run1:#[41] C=U #[dp,F.map,V.ref]:=by rw[Ze j.ne.symm];exact j.run
  have mH:Rd #[41] F #[jH]:=Rd.mono (λl hl' u hu=>by rw[Ze #[nE,D,j.nil]];exact hu) j.rd;have pL:Zw H #[41]:=λb o I=>by rw[Ze (Zd I j.i0)];exact j.sm b o I
  have ka:(#[mK].map #[f6]).Perm (Yi p #[30] #[lL] B):=by refine Zpu j.per pK ?_;have:=(Kd r i hi).symm.map (λt:ae×List Key=>t.2);rw[Qj,ir,vH]at this;exact this
  have hel:#[lL].length+1=A.length:=by have:=Qac pK;have:0<A.length:=QZ pK;lia
  have vI:#[mK].length<=60:=by have:=ka.length_eq;show#[px];lia
  generalize upd M D (.lst (Z7 (r.eraseIdx i)))=H5 at og j' lM run1 mH pL ⊢;generalize r.eraseIdx i=N at j' lM ka vI ⊢;refine⟨_,rfl,t.1,_,rfl,SqT.of og,rfl,_,_,rfl,_,_,rfl,_,_,rfl,rfl,?_⟩;have qy:F.length=#[jH].length:=j.rd.len;have A6:F.length<=60:=by have:=(Sd _ (Kc (gone:=gone) j.nem)).1;rw[TN]at this;lia
  have iV:#[cU,F.map,V.ref]=(F.length:Int):=by rw[Qa]
  refine⟨λS J=>X2 λ(G:List ae) (k:ae)=>S=[U #[61],U #[tz],U #[iy],U (.int c),U #[aU],U (.ref t.1),U (.int #[30]),U (.str (p.getD n.toNat "")),U (.int n)]/\J D=U #[dp,Z7,N]/\AtT J N/\J C=U (.lst #[lN])/\Rd J G done/\J k=U #[tG]/\Zw H J/\C ∉ G++[k]/\D ∉ G++[k]/\(G++[k]).Nodup/\(∀l∈G++[k],H l=af)/\G.length=done.length,?_,?_⟩
  ·refine⟨_,rfl,_,rfl,C,_,rfl,.inl (SqL.of run1),rfl,_,rfl,?_⟩;by_cases hg:gone=[]
   ·have iC:F.length=done.length:=by rw[qy,hg];unfold Yx;show#[jc]
    refine Xv (by rw[iV,iC]) ?_;refine⟨_,rfl,.inl #[dl,run1],#[29],λk iy=>⟨C,_,_,rfl,rfl,Zh iy _ _ _ run1,#[kr],?_⟩⟩;have oh:=Zh iy #[av];have vJ:C≠k:=Zd run1 iy;have eZ:D≠k:=Zd j' iy;have vK:k ∉ F:=mH.out iy;have lN:#[M] D=U #[dp,Z7,N]:=by rw[Ze j.ne];exact oh _ _ j'
    have lO:AtT #[M] N:=λu hu=>WC (oh _ _ run1) _ _ _ (oh _ _ (lM u hu));have kb:#[M] C=U (.lst ((F++[k]).map V.ref)):=by rw[Zb,Qd];rfl
    have mI:Rd #[M] F done:=by
     have:Yx gone done=done:=by unfold Yx;rw[if_pos hg]
     rw[this]at mH;exact Rd.mono (λl hl' u hu=>by rw[Ze #[nE,C,j.rul]];exact oh _ _ hu) mH
    have X:#[M] k=U #[tG]:=by rw[Ze vJ.symm,hg];exact Zb
    have pM:Zw H #[M]:=λb o I=>by rw[Ze (Zd I j.r0)];exact oh _ _ (pL b o I)
    have i6:C ∉ F++[k]:=λhm=>by
     rcases Qg.mp hm with hm|hm
     ·exact j.rul hm
     ·exact vJ (Qe.mp hm)
    have Y:D ∉ F++[k]:=λhm=>by
     rcases Qg.mp hm with hm|hm
     ·exact j.nil hm
     ·exact eZ (Qe.mp hm)
    have mJ:(F++[k]).Nodup:=by rw[List.nodup_append];exact⟨j.nd,by simp,λx hx y hy e=>vK (by rw[<- Qe.mp hy,<- e];exact hx)⟩
    have mK:∀l∈F++[k],H l=af:=λl hl'=>by
     rcases Qg.mp hl' with hl'|hl'
     ·exact j.fr l hl'
     ·rw[Qe.mp hl'];exact pL.free iy
    generalize upd (upd H5 k (.lst [])) C (.lst (F.map V.ref++[.ref k]))=J at lN lO kb mI X pM ⊢;exact⟨F,k,rfl,lN,lO,kb,mI,X,pM,i6,Y,mJ,mK,iC⟩
   ·have vL:Yx gone done=done++[gone]:=by unfold Yx;rw[if_neg hg]
    have iC:F.length=done.length+1:=by rw[qy,vL,Qf];rfl
    refine Xp (λz=>by have z':=V.int.inj z;rw[iV,iC]at z';lia) ?_;rw[vL]at mH;obtain⟨G,k,rfl,mI,X⟩:=mH.split;have vM:G.length=done.length:=by rw[Qf,Qp]at iC;lia
    exact⟨G,k,rfl,j',lM,run1,mI,X,pL,j.rul,j.nil,j.nd,j.fr,vM⟩
  rintro S J ⟨G,k,rfl,lN,lO,kb,mI,X,pM,i6,Y,mJ,mK,vM⟩;have jk:=QY.mp mJ;have vN:k ∉ G:=λh=>jk.2.2 k h k #[4] rfl;have A7:C≠k:=λz=>i6 #[nL,z];have A8:D≠k:=λz=>Y #[nL,z];have fP:atI #[lN] #[30]=U (.ref k):=Yz (by rw[Ql,QW #[2],show done.length-G.length=0 by lia];rfl);refine⟨_,rfl,_,rfl,C,_,_,_,rfl,rfl,SqL.of kb,fP,ZrL X,_,rfl,k,_,_,rfl,rfl,X,#[kr],?_⟩;have W:#[43] D=U #[dp,Z7,N]:=by rw[Ze A8];exact lN
  have lP:AtT #[43] N:=λu hu=>WC X _ _ _ (lO u hu);have lQ:#[43] C=U (.lst #[lN]):=by rw[Ze A7];exact kb
  have pN:Rd #[43] (G++[k]) (done++[gone++[n]]):=by
   refine Rd.app (Rd.mono (λl hl' u hu=>?_) mI) ⟨?_,trivial⟩
   ·rw[Ze #[nE,k,vN]];exact hu
   ·rw[Zb,Qd];rfl
  have Z:Zw H #[43]:=λb o I=>by rw[Ze (Zd I (mK k #[4]))];exact pM b o I
  generalize upd J k (.lst (gone.map V.int++[.int n]))=H7 at W lP lQ pN Z ⊢;refine⟨_,rfl,_,rfl,a,_,rfl,.inl (Z.seq hS),_,_,rfl,rfl,_,rfl,Y2 (λd2=>?_) (λd2=>?_)⟩
  ·have ju:c<p.length:=by have:=of_decide_eq_true d2;lia
   have sC:atI (p.map V.str) (c:Int)=U (.str #[iS]):=UR #[2] #[2];refine⟨_,rfl,.inl #[dl,W],_,rfl,_,rfl,_,rfl,_,rfl,a,_,_,_,rfl,rfl,Z.seq hS,sC,#[30],p.getD n.toNat "",p.getD (c:Int).toNat "",rfl,Kn aW _,Kn aW _,λaN=>?_,λaN=>?_⟩
   ·refine#[67];have O:=Zh lj (.tup [.int #[30],.str #[iS],.int (c:Int)]);have sE:D≠tn:=Zd W lj;have oi:((N++[#[s9]]).map #[f6]).Perm (Yi p #[30] (A.erase n++[(c:Int)]) (B)):=by rw[Qd];show#[ja];rw[Qd,Q4,Q4];exact List.Perm.append_left _ List.perm_append_comm
    refine#[q0];have lY:((c:Int)+1)=#[ej,c,1]:=by lia
    simp only[lY];refine⟨_,by simp only[List.length_append,List.length_singleton];lia,N++[#[s9]],G++[k],A.erase n++[(c:Int)],B,c+1,gone++[n],done,_,_,_,_,rfl,⟨by rw[Zb];unfold Z7;rw[Qd];rfl,λu hu=>by
     rcases Qg.mp hu with hu|hu
     ·exact #[k1]
     ·rw[Qe.mp hu,Ze sE.symm];exact Zb,oi,by rw[Ze j.ne.symm];exact O _ _ lQ,by rw[Oh];exact Rd.mono (λl hl' u hu=>by rw[Ze #[nE,D,Y]];exact O _ _ hu) pN,i6,mJ,mK,j.ne,Y,λb o I=>by rw[Ze (Zd I j.i0)];exact O _ _ (Z b o I),j.i0,j.r0,by lia,λz hz=>by
     have:z∈A++B\/z=(c:Int):=by
      show#[dK,hz];rcases hz with hz|hz
      ·rcases hz with hz|hz
       ·exact #[o7,hz]
       ·exact .inr hz
      ·exact .inl (.inr hz)
     rcases this with h|h
     ·have:=j.mem z h;lia
     ·lia,by rw[TN,Qf,Qp];show#[jX];lia,j.nem,λ_ _=>by simp,λR hR=>j.res R (.stepA hZ ju aN hR)⟩,rfl⟩
   ·refine#[67];have O:=Zh lj (.tup [.int (#[30]+1),.str #[iS],.int (c:Int)]);have sE:D≠tn:=Zd W lj;have oi:((N++[#[qK]]).map #[f6]).Perm (Yi p #[30] #[lL] (B++[(c:Int)])):=by rw[Qd];show#[ja];rw[Qd,Q4];exact .refl _
    refine#[q0];have lY:((c:Int)+1)=#[ej,c,1]:=by lia
    simp only[lY];refine⟨_,by simp only[List.length_append,List.length_singleton];lia,N++[#[qK]],G++[k],A.erase n,B++[(c:Int)],c+1,gone++[n],done,_,_,_,_,rfl,⟨by rw[Zb];unfold Z7;rw[Qd];rfl,λu hu=>by
     rcases Qg.mp hu with hu|hu
     ·exact #[k1]
     ·rw[Qe.mp hu,Ze sE.symm];exact Zb,oi,by rw[Ze j.ne.symm];exact O _ _ lQ,by rw[Oh];exact Rd.mono (λl hl' u hu=>by rw[Ze #[nE,D,Y]];exact O _ _ hu) pN,i6,mJ,mK,j.ne,Y,λb o I=>by rw[Ze (Zd I j.i0)];exact O _ _ (Z b o I),j.i0,j.r0,by lia,λz hz=>by
     have:z∈A++B\/z=(c:Int):=by
      show#[dK,hz];rcases hz with hz|hz
      ·exact #[o7,hz]
      ·rcases hz with hz|hz
       ·exact .inl (.inr hz)
       ·exact .inr hz
     rcases this with h|h
     ·have:=j.mem z h;lia
     ·lia,by rw[TN,Qf,Qp];show#[jX];lia,j.nem,λ_ _=>by simp,λR hR=>j.res R (.stepB hZ ju aN hR)⟩,rfl⟩
  ·have ju:¬ c<p.length:=λz=>d2 (decide_eq_true #[2]);refine⟨_,by lia,N,G++[k],A.erase n,B,c,gone++[n],done,_,_,_,_,rfl,⟨W,lP,ka,lQ,by rw[Oh];exact pN,i6,mJ,mK,j.ne,Y,Z,j.i0,j.r0,by lia,λz hz=>j.mem z (by
    rcases Qg.mp hz with hz|hz
    ·exact Qr _ (QD hz)
    ·exact Qn _ hz),by rw[TN,Qf,Qp];lia,j.nem,λ_ _=>by simp,λR hR=>j.res R (.stepN hZ ju hR)⟩,rfl⟩
 ·have d':¬ #[lM]<#[cU,Z7,r]:=#[l1];have h0:r.length=0:=by unfold Z7 at d';rw[Qa]at d';lia
  have A9:A'=[]:=QP #[2];have r8:B'=[]:=QP #[2];subst A9 r8;have qw:=L.cnt;obtain⟨b1,b2⟩:=Sd _ (Kc (gone:=jt) L.nem);refine⟨_,rfl,q C F (Yx jt oa) M L.r0 L.run L.rul L.fr L.rd (L.res _ ?_) #[2] (λd hd=>by have:=b2 d hd;lia) L.sm⟩;unfold Yx;cases jt with
  | nil=>rw[if_pos rfl];exact .stop0
  | cons g gr=>rw[if_neg #[4]];exact .stop
theorem Ka{A:#[i]}{n:Int}(h:n∈A):#[lL].length+1=A.length:=by have:=Qac h;have:=QZ h;lia
theorem Zqp{ss:#[y]}{room:Nat}(hr:1<=room){A B:#[i]}{c:Nat}{gone:#[i]}{done R:#[k]}(h:#[gL]):(c<ss.length->A.length+B.length=room)->(∀m:Int,0<=m->m<c->(∃d∈done,m∈d)\/m∈gone\/m∈A\/m∈B)->∀m:Int,0<=m->m<ss.length->∃d∈R,m∈d:=by
 induction h with
 | stop0 =>
  intro f g m a i;rename_i c _;by_cases b:c<ss.length
  ·have:=f b;simp at this;lia
  ·rcases g m a #[2] with h|h|h|h
   ·exact h
   ·cases h
   ·cases h
   ·cases h
 | stop =>
  intro f g m a i;rename_i c _ _ _;by_cases b:c<ss.length
  ·have:=f b;simp at this;lia
  ·rcases g m a #[2] with⟨d,h,k⟩|h|h|h
   ·exact⟨d,Qr _ h,k⟩
   ·exact#[qx]
   ·cases h
   ·cases h
 | switch _ j =>
  intro f g;refine j #[cG,f] λm a i=>?_;rcases g m a i with⟨d,h,k⟩|h|h|h
  ·exact .inl ⟨d,Qr _ h,k⟩
  ·exact .inl #[qx]
  ·cases h
  ·exact #[lr]
 | @stepN A B c gone done R n l b _ j =>
  intro f g;refine j (λz=>absurd z b) λm a i=>?_;rcases g m a i with h|h|h|h
  ·exact .inl h
  ·exact #[ls]
  ·by_cases e:m=n
   ·exact .inr #[cB]
   ·exact #[lU]
  ·exact .inr (.inr (.inr h))
 | @stepA A B c gone done R n l b _ _ j =>
  show#[sQ];refine j (λ_=>by rw[Qf,Qp];lia) λm a i=>?_;by_cases e:m=(c:Int)
  ·exact .inr (.inr #[cB])
  rcases g m a #[2] with h|h|h|h
  ·exact .inl h
  ·exact #[ls]
  ·by_cases e:m=n
   ·exact .inr #[cB]
   ·exact .inr (.inr (.inl (Qr _ ((QaF e).mpr h))))
  ·exact .inr (.inr (.inr h))
 | @stepB A B c gone done R n l b _ _ j =>
  show#[sQ];refine j (λ_=>by rw[Qf,Qp];lia) λm a i=>?_;by_cases e:m=(c:Int)
  ·exact .inr (.inr (.inr (Qn _ #[nL,e])))
  rcases g m a #[2] with h|h|h|h
  ·exact .inl h
  ·exact #[ls]
  ·by_cases e:m=n
   ·exact .inr #[cB]
   ·exact #[lU]
  ·exact .inr (.inr (.inr (Qr _ h)))
theorem ZlX{k:Nat}{m:Int}(h0:0<=m)(h:m<k):m∈first k:=by
 unfold first ZX
 exact Qs.mpr ⟨m.toNat,Q1.mpr #[2],by lia⟩
theorem Zpv{ss:#[y]}{room:Nat}(a:1<=room){R:#[k]}(h:#[pG]):∀m:Int,0<=m->m<ss.length->∃d∈R,m∈d :=
 Zqp a h (λz=>by rw[UQ];simp;lia) λm b c=>.inr (.inr (.inl (ZlX b c)))
theorem J9{ss:#[y]}{a n x:Int}(h:ltK ss a n)(g:¬ ltK ss x n):ltK ss a x:=by
 unfold ltK at *
 rw[Xo]at *
 have h1:=Xu (cds #[ax]) (cds #[ci]);have h2:=Xu #[iu] (cds #[ax]);have h4:=Xu #[iu] (cds #[ci]);have h3:=U4 (cds #[ci]) (cds #[ax]) #[iu] #[2];lia
theorem ZoV{ss:#[y]}{A:#[i]}{n x:Int}(h:US ss A n)(hx:x∈A):¬ ltK ss x n:=λz=>by
 have:=h.2 x hx;unfold kk at this;rw[ZQ]at this;by_cases e:#[r7]=Sum.inr (ks ss n).1
 ·have a:ss.getD x.toNat "" = ss.getD n.toNat "":=Sum.inr.inj e;unfold ltK at z;rw[a,Xo,Wh]at z;lia
 ·rw[if_neg e]at this;exact of_decide_eq_false this z
theorem Og{ss:#[y]}{a b:Int}(h:ltK ss a b):ss.getD a.toNat ""≠ss.getD b.toNat "":=λe=>by unfold ltK at h;rw[e,Xo,Wh]at h;lia
def TM(ss:#[y])(d e:#[i]):Prop:=∀b∈d,∀a∈e,a<b->ss.getD a.toNat ""≠ss.getD b.toNat ""
theorem Zoq{ss:#[y]}{A B:#[i]}{c:Nat}{gone:#[i]}{done R:#[k]}(h:#[gL]):(∀n∈A++B,n<(c:Int))->(∀n∈gone,n<(c:Int))->(∀d∈done,∀n∈d,n<(c:Int))->(∀a∈B,∀x∈A,ltK ss a x)->TM ss gone B->(∀d∈done,TM ss d (gone++A++B))->done.Pairwise (TM ss)->R.Pairwise (TM ss):=by
 induction h with
 | stop0=>intro _ _ _ _ _ _ h;exact h
 | stop=>intro _ _ _ _ _ i m;refine Qas.mpr #[oN,m,d,hd,e,u];rw[Qe.mp u];have:=i d hd;simpa using this
 | switch _ r =>
  intro j q o k s i m;refine r #[cG,j] #[cM,n,h] (λd hd=>?_) #[cM,a,h] #[cM,b,h] (λd hd=>?_) (Qas.mpr #[oN,m,d,hd,e,u])
  ·rcases Qg.mp hd with hd|hd
   ·exact o d hd
   ·rw[Qe.mp hd];exact q
  ·rcases Qg.mp hd with hd|hd
   ·intro b g a ha;exact i d hd b g a (by simp at ha ⊢;exact .inr ha)
   ·rw[Qe.mp hd];intro b g a ha;exact s b g a #[cG,ha]
  ·rw[Qe.mp u];intro b g a ha;exact i d hd b g a (by simp;exact .inl ha)
 | @stepN A B c gone done R n l C _ r =>
  intro j q o k s i m;refine r (λx f=>j x ?_) (λx f=>?_) o (λa ha x f=>k a ha x (QD f)) (λb g a ha p=>?_) (λd hd b g a ha=>i d hd b g a ?_) m
  ·rcases Qg.mp f with h|h
   ·exact Qr _ (QD h)
   ·exact Qn _ h
  ·rcases Qg.mp f with h|h
   ·exact q x h
   ·rw[Qe.mp h];exact j n (Qr _ l.1)
  ·rcases Qg.mp g with h|h
   ·exact s b h a ha p
   ·show#[hW]
  ·show#[bH];rcases ha with((h|h)|h)|h
   ·exact #[kE]
   ·exact #[jD]
   ·exact #[m3]
   ·exact .inr h
 | @stepA A B c gone done R n l C v _ r =>
  show#[pc]
  ·show#[kh];rcases f with(h|h)|h
   ·have:=t x (QD h);lia
   ·lia
   ·have:=w x h;lia
  ·rcases Qg.mp f with h|h
   ·have:=q x h;lia
   ·rw[Qe.mp h];have:=t n l.1;lia
  ·rcases Qg.mp f with h|h
   ·exact k a ha x (QD h)
   ·rw[Qe.mp h];exact J9 (k a ha n l.1) v
  ·rcases Qg.mp g with h|h
   ·exact s b h a ha p
   ·show#[hW]
  ·have D:=o d hd b g;have y:a≠(c:Int):=λz=>by lia
   show#[sP];rcases ha with((h|h)|h|h)|h
   ·exact #[kE]
   ·exact #[jD]
   ·exact #[m3]
   ·exact absurd h y
   ·exact .inr h
 | @stepB A B c gone done R n l C v _ r =>
  show#[pc]
  ·show#[kh];rcases f with h|h|h
   ·have:=t x (QD h);lia
   ·have:=w x h;lia
   ·lia
  ·rcases Qg.mp f with h|h
   ·have:=q x h;lia
   ·rw[Qe.mp h];have:=t n l.1;lia
  ·rcases Qg.mp ha with h|h
   ·exact k a h x (QD f)
   ·rw[Qe.mp h];exact J9 v (ZoV l (QD f))
  ·have D:b<(c:Int):=by
    rcases Qg.mp g with h|h
    ·exact q b h
    ·rw[Qe.mp h];exact t n l.1
   rcases Qg.mp ha with ha|ha
   ·rcases Qg.mp g with h|h
    ·exact s b h a ha p
    ·show#[hW]
   ·have:=Qe.mp ha;lia
  ·have D:=o d hd b g;have y:a≠(c:Int):=λz=>by lia
   show#[sP];rcases ha with((h|h)|h)|h|h
   ·exact #[kE]
   ·exact #[jD]
   ·exact #[m3]
   ·exact .inr h
   ·exact absurd h y
theorem Zmk{ss:#[y]}{k:Nat}{R:#[k]}(h:#[hA]):R.Pairwise (TM ss) :=
 Zoq h (by rw[QO];exact λn c=>(Se c).2) #[cM,n,h] #[cM,d,h] #[cM,a,h] #[cM,b,h] #[cM,d,h] List.Pairwise.nil
def J8(K:#[7]):Sp:=λvs H Q _=>X4 λ(a t:ae) (ss:List aj) (ns:List Int)=>vs=#[nZ,a,t]/\SqL K H a #[64]/\H t=U #[ty]/\ns.length<=100/\#[n7,ns] /\
 (ns≠[]/\Ris ss ns->∀b,Zw H b->Q #[pr] b)/\(¬ (ns≠[]/\Ris ss ns)->∀b,Zw H b->Q #[tA] b)
theorem ZmR(T:#[n])(bQ:#[pt]):Df P w K mg base 2 "is_run" #[aN] (J8 K):=by
 show#[cE,T.t_is_run.df,Pt,vs,N];obtain⟨a,t,ss,b,rfl,O,l,nR,u,q1,R⟩:=h;refine⟨_,#[Zg,#[Y0,(@PW.pt _ _ _ #[W5,(@Tz _ _ _ _ #[VQ,#[bu]]),(@VO _ _ _ _ #[nG,YG,#[18]])]),#[ao],#[ZM]],#[Zg,#[Xx,ba.never,#[iL,K,‹1›],#[oc,2,Pt.nd],#[Zj,#[Y0,(@PW.pt _ _ _ #[W5,(@Tz _ _ _ _ #[VQ,#[dN,bQ,N,#[ag]]]),#[W5,#[cR,Xg,2,#[Zi]],(@VO _ _ _ _ #[cR,RR,2,#[r]])]]),#[ao],#[ZM]]]],#[Zg,#[Xx,ba.never,#[VN,T.b.n_range,#[Zc,#[Zi],#[18]]],#[oc,3,Pt.nd],#[Zj,#[Y0,#[Zm,(geK K N),#[ZO,#[Zc,#[Zx,#[lz],‹0›,#[d5,1,3]],#[d5,1,3]]],#[ZO,#[Zc,#[Zx,#[lz],‹0›,#[eL,1,3]],#[eL,1,3]]],#[h4]],#[ao],#[ZM]]]],#[ao]]]],?_⟩;have v:#[o3,b.map]=(b.length:Int):=by rw[Qa]
 refine⟨_,rfl,_, "list",_,_,rfl,.lst l,Lv K,_,rfl,YQ ⟨_,rfl,t,_,rfl,.inl (SqL.of l),rfl,_,rfl,?_⟩⟩;show#[iD]
 ·have d':=#[rE];have h0:b=[]:=QP #[2];exact R (λz=>z.1 h0) H #[tp]
 have S:b≠[]:=λz=>d (by rw[z];rfl);refine⟨_,rfl,t,rfl,⟨_,SqL.of l⟩,?_⟩;refine RV (K:=K) (a:=t) (xs:=b.map V.int) (λi g q=>∃j:Option V,g=[U #[61],U #[i9],j,af]/\q=H) ⟨_,rfl,rfl⟩ (λ_ _ _ _ hq=>by obtain⟨_,_,e⟩:=hq;exact by rw[e];exact SqL.of l) ?_ ?_
 ·rintro i x g q c ⟨j,rfl,rfl⟩;rw[Ql]at c;cases B:b[i]? with
  | none=>rw[B]at c;cases c
  | some n=>rw[B]at c;cases c;have hn:=u n (Qo B);refine⟨_,rfl,.inl ⟨n,rfl,_,rfl,YQ ⟨_,rfl,_,_,rfl,rfl,_,rfl,Xp #[2] ⟨_,rfl,_,rfl,a,_,rfl,.inl O,_,_,rfl,rfl,_,rfl,Xp #[dv,Qa] ⟨_,rfl,rfl⟩⟩⟩⟩⟩
 rintro g q ⟨j,rfl,rfl⟩;have fO:0<b.length:=QaM.mpr S;refine⟨_,rfl,t,_,rfl,.inl (SqL.of l),_,_,rfl,⟨by lia,by lia,by rw[v];lia,by rw[v];lia⟩,?_⟩;refine VM (λi g m=>X2 λj C:Option V=>g=[U #[61],U #[i9],j,C]/\Zw q m/\∀ (p:Nat) (x y:Int),p<i->b[p]? = U x->b[p+1]? = U y->ZP #[90] #[bN]=true) ⟨_,_,rfl,Zw.refl _,λp x y h=>absurd h #[2]⟩ ?_ ?_
 ·rintro i g m hi ⟨j,C,rfl,o,D⟩;rw[v]at hi;have iq:i+1<b.length:=by lia
  show#[n8,x,c,b,i];obtain⟨y,k⟩:∃y,b[i+1]? = U y:=⟨_,Qb iq⟩;have W:atI (b.map V.int) (1+(i:Int)-1)=U (.int x):=by rw[show (1+(i:Int)-1)=#[eb,i] by lia];exact Yz #[oj,c]
  have X:atI (b.map V.int) (1+(i:Int))=U (.int y):=by rw[show (1+(i:Int))=#[ej,i,1] by lia];exact Yz #[oj,k]
  have Y:=u x (Qo c);have Z:=u y (Qo k);have kx:=UR (ss:=ss) Y.1 Y.2;have ky:=UR (ss:=ss) Z.1 Z.2;have F:=o _ _ l;have vP:=o.seq O;refine⟨_,rfl,_,rfl,_,rfl,_,_,rfl,rfl,t,_,_,_,rfl,rfl,SqL.of F,W,a,_,_,_,rfl,rfl,vP,kx,_,rfl,_,rfl,_,_,rfl,rfl,t,_,_,_,rfl,rfl,SqL.of F,W,#[w],λr h1=>?_⟩;have G:=Zh h1 #[fA,#[ax],x];have I:=G _ _ F;have vQ:=G.seq vP;have e4:(upd m r #[fA,#[ax],x]) r=U #[fA,#[ax],x]:=Zb;have mL:=o.trans G;generalize upd m r (.tup [.str (ss.getD x.toNat ""),.int x])=H4 at I vQ e4 mL ⊢;refine⟨_,rfl,_,rfl,_,rfl,t,_,_,_,rfl,rfl,SqL.of I,X,a,_,_,_,rfl,rfl,vQ,ky,_,rfl,_,rfl,t,_,_,_,rfl,rfl,SqL.of I,X,#[w],λJ h2=>?_⟩;have s5:=Zh h2 #[cA];show#[cW,e5,H4,J,#[cA]];refine⟨r,J,kk (ks ss x),kk (ks ss y),rfl,rfl,SqT.of (s5 _ _ e4),SqT.of e5,rfl,_,rfl,?_⟩;have vR:=mL.trans s5;cases hb:ZP (kk (ks ss x)) (kk (ks ss y)) with
  | true =>
   refine YQ ⟨_,_,rfl,vR,λp x' y' hp L M=>?_⟩;by_cases e:p=i
   ·subst e;rw[c]at L;show#[eX,k,M,L];cases M;exact hb
   ·exact D p x' y' #[2] L M
  | false=>refine Wl (R (λz=>?_) _ vR);have:=z.2 i x y c k;rw[hb]at this;cases this
 ·rintro g m ⟨j,C,rfl,o,D⟩;refine q1 ⟨S,λp x y c k=>D p x y ?_ c k⟩ _ o;have:=(Qc.mp k).1;lia
mutual
theorem J7(w:Nat):∀t:PT,tPl w t->1<=#[m5].length
 | .leaf k,_=>Qh 1
 | .node l,h=>by have h1:2<=l.length:=h.1;have:=TK w l h.2.2;show 1<=(Y3 l).length;lia
theorem TK(w:Nat):∀l:List PT,X0 w l->l.length<=(Y3 l).length
 | [],_=>Qh 0
 | t::r,h=>by have h1:=J7 w t h.1;have h2:=TK w r h.2;show r.length+1<=#[kI].length;rw[Qf];lia
end
noncomputable def Yq(b e:Nat):List Int:=(List.range (e-b)).map λi=>((b+i:Nat):Int)
theorem Vy(b e:Nat):(Yq b e).length=e-b:=by unfold Yq;simp
theorem TH{b e i:Nat}(h:i<e-b):(Yq b e)[i]? = U #[ej,b,i]:=by unfold Yq;rw[Ql,Qaw h];rfl
theorem J6{b e k:Nat}(h:b+k<=e):(Yq b e).take k=Yq b (b+k):=by
 refine Qat λi=>?_;rw[List.getElem?_take];by_cases a:i<k
 ·rw[if_pos a,TH #[2],TH #[2]]
 ·rw[if_neg a,QM #[dv,Vy]]
theorem J5{b e k:Nat}(h:b+k<=e):(Yq b e).drop k=Yq (b+k) e:=by
 refine Qat λi=>?_;rw[List.getElem?_drop];by_cases a:k+i<e-b
 ·rw[TH a,TH #[2],Nat.add_assoc]
 ·rw[QM #[dv,Vy],QM #[dv,Vy]]
theorem ZnU{b m e:Nat}(h1:b<=m)(h2:m<=e):Yq b m++Yq m e=Yq b e:=by have a:=J6 (b:=b) (e:=e) (k:=m-b) #[2];have c:=J5 (b:=b) (e:=e) (k:=m-b) #[2];rw[show b+(m-b)=m by lia]at a c;rw[<- a,<- c,List.take_append_drop]
def Nf(w b e:Nat)(ts:#[m1]):Prop:=Y3 ts=Yq b e/\X0 w ts
theorem Nf.cut{w b e:Nat}{t:PT}{r:#[m1]}(h:Nf w b e (t::r))(hr:1<=r.length):∃mid,b<mid/\mid<e/\Nf w b mid [t]/\Nf w mid e r:=by
 show#[e9,a,c,d,h];have p1:=J7 w t c;have p2:=TK w r d;have hl:#[m5].length+(Y3 r).length=e-b:=by have:=#[cO,a];rw[Vy]at this;rw[<- this];show _=#[kI].length;rw[Qf]
 have f:tLv t++Y3 r=Yq b e:=a;refine⟨b+#[m5].length,by lia,by lia,⟨?_,c,trivial⟩,⟨?_,d⟩⟩
 ·rw[<- J6 (b:=b) (e:=e) #[2],<- f,List.take_left];show tLv t++[]=_;rw[QO]
 ·rw[<- J5 (b:=b) (e:=e) #[2],<- f,List.drop_left]
theorem Nf.app{w b m e:Nat}{a c:#[m1]}(h1:Nf w b m a)(h2:Nf w m e c)(hb:b<=m)(he:m<=e):Nf w b e (a++c):=by refine⟨?_,(Ke w a c).mpr ⟨h1.2,h2.2⟩⟩;rw[Kf,h1.1,h2.1,ZnU hb he]
theorem Nf.len{w b e:Nat}{ts:#[m1]}(h:Nf w b e ts):ts.length<=e-b:=by have:=TK w ts h.2;rw[h.1,Vy]at this;exact this
mutual
theorem ZsM(ns:#[i]):∀t:PT,tSz ns t=(#[m5].map λk=>ns.getD k.toNat 0).sum
 | .leaf k=>by show _=([ns.getD k.toNat 0]:List Int).sum;simp[tSz]
 | .node l=>Of ns l
theorem Of(ns:#[i]):∀l:List PT,WO ns l=((Y3 l).map λk=>ns.getD k.toNat 0).sum
 | []=>rfl
 | t::r=>by show tSz ns t+WO ns r=(#[kI].map _).sum;rw[Qd,Q9,ZsM ns t,Of ns r]
end
noncomputable def seg(ns:#[i])(b e:Nat):Int:=#[sI].sum
theorem Zsw{ns:#[i]}{b e:Nat}(h:e<=ns.length):((Yq b e).map λk=>ns.getD k.toNat 0).sum=seg ns b e:=by
 unfold seg;congr 1;refine Qat λi=>?_;rw[Ql,List.getElem?_take,List.getElem?_drop];by_cases a:i<e-b
 ·rw[if_pos a,TH a,Qb #[2],Option.map_some,Qak,Qq,Qb #[2]];rfl
 ·rw[if_neg a,QM #[dv,Vy]];rfl
theorem Nf.size{ns:#[i]}{w b e:Nat}{ts:#[m1]}(h:Nf w b e ts)(he:e<=ns.length):WO ns ts=seg ns b e:=by rw[Of,h.1,Zsw he]
mutual
theorem Zrn{ns:#[i]}(a:#[iG]):∀t:PT,0<=tSz ns t
 | .leaf k=>by
  show 0<=ns.getD k.toNat 0;rw[Qq];cases h:ns[k.toNat]? with
  | none=>exact Qah 0
  | some v=>exact a v (Qo h)
 | .node l=>Oe a l
theorem Oe{ns:#[i]}(a:#[iG]):∀l:List PT,0<=WO ns l
 | []=>Qah 0
 | t::r=>by have h1:=Zrn a t;have h2:=Oe a r;show 0<=tSz ns t+WO ns r;lia
end
mutual
theorem Zr6{ns:#[i]}(a:#[iG]):∀t:PT,0<=tCo ns t
 | .leaf k=>Qah 0
 | .node l=>by have h1:=Od a l;have h2:=Oe a l;show 0<=YD ns l+WO ns l;lia
theorem Od{ns:#[i]}(a:#[iG]):∀l:List PT,0<=YD ns l
 | []=>Qah 0
 | t::r=>by have h1:=Zr6 a t;have h2:=Od a r;show 0<=tCo ns t+YD ns r;lia
end
structure Gr (ns:#[i]) (w b e m:Nat) (p:Int) (ts:#[m1]):Prop where
 l1:1<=ts.length
 lm:ts.length<=m
 nf:Nf w b e ts
 co:YD ns ts=p
 le:∀us,1<=us.length->us.length<=m->Nf w b e us->p<=YD ns us
structure Gc (ns:#[i]) (w b e m:Nat) (p:Int) (ts:#[m1]):Prop where
 l1:2<=ts.length
 lm:ts.length<=m
 nf:Nf w b e ts
 co:YD ns ts=p
 le:∀us,2<=us.length->us.length<=m->Nf w b e us->p<=YD ns us
theorem ZpL{ns:#[i]}(a:#[iG])(w b m:Nat)(h:1<=m):Gr ns w b (b+1) m 0 [.leaf (b:Int)]:=by refine⟨Qh 1,h,⟨?_,trivial,trivial⟩,rfl,λc _ _ _=>Od a c⟩;show [(b:Int)]=Yq b (b+1);unfold Yq;rw[show b+1-b=1 by lia];rfl
theorem Zr0{ns:#[i]}{w b e m mid:Nat}{i j:Int}{l n:#[m1]}(hm:2<=m)(hb:b<mid)(he:mid<e)(g:Gr ns w b mid 1 i l)(h:Gr ns w mid e (m-1) j n)
  (s:∀k a c d f,b<k->k<e->Gr ns w b k 1 a d->Gr ns w k e (m-1) c f->i+j<=a+c) (hex:∀k,b<k->k<e->X4 λa c d f=>Gr ns w b k 1 a d/\Gr ns w k e (m-1) c f):Gc ns w b e m (i+j) (l++n):=by
 have a1:=g.l1;have a2:=g.lm;have a3:=h.l1;have a4:=h.lm;refine⟨by rw[Qf];lia,by rw[Qf];lia,g.nf.app h.nf #[2] #[2],by rw[Kl,g.co,h.co],λu o v x=>?_⟩;cases u with
 | nil=>simp at o
 | cons t r =>
  simp only[List.length_cons]at o v;obtain⟨k,k1,k2,y,z⟩:=x.cut #[2];obtain⟨a,c,d,f,p,q⟩:=hex k k1 k2;have c1:=p.le [t] #[4] #[4] y;have c2:=q.le r #[2] #[2] z;have c3:=s k a c d f k1 k2 p q;have e1:YD ns [t]=tCo ns t:=by show tCo ns t+0=_;lia
  show _<=tCo ns t+YD ns r;lia
theorem Zpz{ns:#[i]}{w b e:Nat}{p:Int}{ts:#[m1]}(h:Gc ns w b e w p ts)(ie:b+1<e)(he:e<=ns.length):Gr ns w b e 1 (p+seg ns b e) [.node ts]:=by
 have a1:=h.l1;have a2:=h.lm;refine⟨Qh 1,Qh 1,⟨?_,⟨a1,a2,h.nf.2⟩,trivial⟩,?_,λg i j a=>?_⟩
 ·show Y3 ts++[]=_;rw[QO,h.nf.1]
 ·show YD ns ts+WO ns ts+0=_;rw[h.co,h.nf.size he];lia
 ·cases g with
  | nil=>simp at i
  | cons t r =>
   have:r=[]:=by simpa using j
   subst this;cases t with
   | leaf k=>have:=#[cO,a.1];rw[Vy]at this;have:1=e-b:=this;lia
   | node l =>
    have c:2<=l.length/\l.length<=w/\X0 w l:=a.2.1;have m:Y3 l=Yq b e:=by have d:Y3 l++[]=Yq b e:=a.1;rw[QO]at d;exact d
    have f:Nf w b e l:=⟨m,c.2.2⟩;have:=h.le l c.1 c.2.1 f;show _<=YD ns l+WO ns l+0;rw[f.size he];lia
theorem Zqr{ns:#[i]}{w b e m:Nat}{p q:Int}{ts us:#[m1]}(hm:1<=m)(h:Gr ns w b e 1 p ts)(g:Gc ns w b e m q us):(q<p->Gr ns w b e m q us)/\(¬ q<p->Gr ns w b e m p ts):=by
 have a1:=h.l1;have a2:=h.lm;have a3:=g.l1;have both:∀a,1<=a.length->a.length<=m->Nf w b e a->(a.length=1/\p<=YD ns a)\/q<=YD ns a:=λa f d c=>by
  by_cases i:a.length=1
  ·exact .inl ⟨i,h.le a #[2] #[2] c⟩
  ·exact .inr (g.le a #[2] d c)
 refine⟨λj=>⟨by lia,g.lm,g.nf,g.co,λa f d c=>?_⟩,λj=>⟨h.l1,by lia,h.nf,h.co,λa f d c=>?_⟩⟩
 ·rcases both a f d c with⟨_,z⟩|z<;>lia
 ·rcases both a f d c with⟨_,z⟩|z<;>lia
theorem Zss{ns:#[i]}{w b m:Nat}{p:Int}{ts:#[m1]}(h:Gr ns w b (b+1) 1 p ts)(hm:1<=m):Gr ns w b (b+1) m p ts:=by have a1:=h.l1;have a2:=h.lm;refine⟨h.l1,by lia,h.nf,h.co,λc d u2 a=>h.le c d ?_ a⟩;have:=a.len;lia
theorem Sc{ns:#[i]}{w b e:Nat}{p q:Int}{ts us:#[m1]}{m:Nat}(h:Gr ns w b e m p ts)(g:Gr ns w b e m q us):p=q:=by have a:=h.le us g.l1 g.lm g.nf;have c:=g.le ts h.l1 h.lm h.nf;rw[g.co]at a;rw[h.co]at c;lia
theorem ZnP(ts:YO):(Z7 ts).length=ts.length:=by unfold Z7;rw[Qa]
theorem Zp5{x y:Int}{r s:#[f3]}(h:ZP (.inl x::r) (.inl y::s)=false):y<=x:=by
 rw[ZQ]at h;by_cases e:(Sum.inl x:Key)=.inl y
 ·injection e with e;lia
 ·show#[sj];have:¬ x<y:=#[lf];lia
noncomputable def Kb(b e m:Nat):List Key:=[.inl (b:Int),.inl (e:Int),.inl (m:Int)]
theorem Zri{b e m d e' f:Nat}(h:Kb b e m=Kb d e' f):b=d/\e=e'/\m=f:=by unfold Kb at h;injection h with g a;injection a with a c;injection c with c _;injection g with g;injection a with a;injection c with c;lia
def Wu(H:Hp)(v:V)(p:Int)(ts:#[m1]):Prop:=X3 λ(a t:ae) (xs:List V)=>v=.ref a/\H a=U (.tup [.int p,.ref t])/\H t=U #[71]/\TVs H xs ts
theorem Wu.mono{H b:Hp}{v:V}{p:Int}{ts:#[m1]}(h:Wu H v p ts)(s:#[bK]):Wu b v p ts:=by obtain⟨a,t,xs,e,c,d,f⟩:=h;exact⟨a,t,xs,e,s _ _ c,s _ _ d,f.mono s⟩
def Has(ns:#[i])(w:Nat)(H:Hp)(kvs:#[N])(b e:Nat):Prop:=∀m,1<=m->m<w->X3 λv p ts=>XU kvs (Kb b e m)=U v/\Wu H v p ts/\Gr ns w b e m p ts
theorem Has.mono{ns:#[i]}{w:Nat}{H d:Hp}{kvs:#[N]}{b e:Nat}(h:Has ns w H kvs b e)(s:#[dE,a,xs,H,#[71],d]):Has ns w d kvs b e:=λm h1 h2=>by obtain⟨v,p,f,a,c,g⟩:=h m h1 h2;exact⟨v,p,f,a,c.mono s,g⟩
def Oc(ns:#[i])(a:Nat):Sp:=λvs H Q _=>X5 λ(d:ae) (kvs:List (List Key×V)) (b e m:Nat)=>vs=[.ref d,.int b,.int e,.int m]/\H d=U #[hM]/\b+1<e/\e<=60/\2<=m/\m<=a/\#[ed,a] /\
 ∀ (r:ae) (p:Int) (f:List PT) (c:Hp),Wu c #[83] p f->Gc ns a b e m p f->Zw H c->Q #[83] c
def PS(ns:#[i])(a b e m k:Nat)(s:Int):Prop:=X4 λc d f g=>Gr ns a b k 1 c f/\Gr ns a k e (m-1) d g/\s=c+d
theorem Zro(T:#[n])(ns:#[i])(wy:Nat):Df P w K mg base 1 "least_cut" #[93] (Oc ns wy):=by
 show#[cE,T.t_least_cut.df,Pq,vs,N];obtain⟨d,g,b,e,m,rfl,Z,ie,qz,cI,hmw,cc,q⟩:=h;refine⟨_,#[Zg,#[Yv,#[Zk,(Mn K N),#[5],T.b.n_min,boot_min,#[Zc,#[Yd,WE,#[VN,T.b.n_range,#[Zc,#[ZJ,YL,#[ec,1],#[Zi]],#[ec,2]]],#[di,6,WE],#[J],(λ_ _ _ _=>#[ZO,#[Zc,#[ZJ,YL,#[Zx,(ixT K),#[Zx,(ixD N),#[cv,0,WE],#[ZO,#[Zc,#[cv,1,WE],#[cw,6,WE],#[Zi]]]],#[Zi]],#[Zx,(ixT K),#[Zx,(ixD N),#[cv,0,WE],#[ZO,#[Zc,#[cw,6,WE],#[cv,2,WE],#[ZJ,Xh,#[cv,3,WE],#[Zi]]]]],#[Zi]]],#[cw,6,WE]]])]]],#[nu,4,Pq.nd,5]],#[Zj,#[Zn,#[ZO,#[Zc,‹4›,#[ZJ,Zp3,#[Zx,(ixT K),#[Zx,(ixD N),#[ec,0],#[ZO,#[Zc,#[ec,1],‹5›,#[Zi]]]],#[Zi]],#[Zx,(ixT K),#[Zx,(ixD N),#[ec,0],#[ZO,#[Zc,‹5›,#[ec,2],#[ZJ,Xh,#[ec,3],#[Zi]]]]],#[Zi]]]]]]]],?_⟩;refine⟨_,rfl,_,_,rfl,rfl,_,rfl,_,_,rfl,#[bA],λD hD=>?_⟩;rw[show ((e:Int)-((b:Int)+1)).toNat=e-(b+1) by lia];refine MF (λi zs σ l=>(∃v:Option V,σ=[U (.ref d),U (.int b),U (.int e),U (.int m),af,af,v])/\(∃p:YO,zs=Z7 p/\AtT l p/\p.length=i/\∀ (j:Nat) (t:ae×List Key),p[j]? = U t->∃s,t.2=[.inl s,.inl ((b+1+j:Nat):Int)]/\PS ns wy b e m (b+1+j) s)/\i<=e-(b+1)/\l D=U #[bl]/\Zw H l) ?_ ?_ ?_
 ·exact⟨⟨af,rfl⟩,⟨[],rfl,#[cM,t,h],rfl,λj t h=>by cases h⟩,Qt _,Zb,Zh hD _⟩
 ·rintro i zs σ l hi ⟨⟨v,rfl⟩,⟨p,rfl,bF,O,R⟩,kI,bU,s2⟩;rw[show ((b:Int)+1+(i:Int))=#[jQ] by lia];obtain⟨A1,A2⟩:=cc (b+1+i) #[2] #[2];obtain⟨v1,B,I,l1,⟨a1,y1,u,rfl,nj,pO,sI⟩,g1⟩:=A1 1 #[2] #[2];obtain⟨v2,C,J,l2,⟨a2,y2,x,rfl,kO,g9,sJ⟩,g2⟩:=A2 (m-1) #[2] #[2];refine⟨_,rfl,_,rfl,_,rfl,#[K],λk1 S=>?_⟩;have F:=s2.trans (Zh S #[65]);have cz:=Zh S #[65] _ _ bU;have fP:=AtT.mono bF (Zh S #[65]);show#[cW,W,l,k1,#[65]];change Wk _ _ (upd l k1 #[65]) _;generalize upd l k1 (.tup ((Kb b (b+1+i) 1).map kV))=G at F cz fP W ⊢;refine⟨d,g,k1,Kb b (b+1+i) 1,_,rfl,rfl,F _ _ Z,W,l1,a1,_,_,_,rfl,rfl,SqT.of (F _ _ nj),rfl,_,rfl,_,rfl,_,rfl,_,rfl,_,_,rfl,rfl,#[K],λk2 X=>?_⟩;have c:=F.trans (Zh X #[42]);have gI:=Zh X #[42] _ _ cz;have qA:=AtT.mono fP (Zh X #[42]);show#[cW,Y,G,k2,#[42]];change Wk _ _ (upd G k2 (.tup [V.int #[jQ],V.int (e:Int),V.int #[qb]])) _;show#[tk];change Wk _ _ (upd G k2 #[42]) _;generalize upd G k2 (.tup ((Kb (b+1+i) e (m-1)).map kV))=L at c gI qA Y ⊢;refine⟨d,g,k2,Kb (b+1+i) e (m-1),_,rfl,rfl,c _ _ Z,Y,l2,a2,_,_,_,rfl,rfl,SqT.of (c _ _ kO),rfl,_,_,rfl,rfl,_,rfl,#[w],λn hn=>?_⟩;have sn:=Zh hn (.tup [.int (B+C),.int #[jQ]]);show#[oq,iA,sn,gI,hn];refine⟨iA,(by rw[ZnP,O];exact #[rC]),#[H],⟨p++[(n,[.inl (B+C),.inl #[jQ]])],by unfold Z7;rw[Qd];rfl,λt ht=>?_,by rw[Qf,Qp];lia,λj t y=>?_⟩,by lia,Zb,λb' o hb=>?_⟩
  ·rcases Qg.mp ht with ht|ht
   ·exact #[oT,iA,qA]
   ·show#[q6];exact Zb
  ·by_cases ke:j<p.length
   ·rw[QX ke]at y;exact R j t y
   ·have Ba:=(Qc.mp y).1;rw[Qf,Qp]at Ba;have ej:j=i:=by lia
    subst ej;rw[QW #[2],O,Nat.sub_self]at y;cases y;exact⟨B+C,rfl,B,C,I,J,g1,g2,rfl⟩
  ·show#[c6,hb,hD,sn,c,b']
 rintro zs σ l ⟨⟨v,rfl⟩,⟨p,rfl,bF,O,R⟩,_,bU,s2⟩;have cb:∀t∈p,shape t.2=[true,true]:=λt ht=>by obtain⟨j,y⟩:=#[qF];obtain⟨s,e1,_⟩:=R j t y;rw[e1];rfl
 refine⟨D,p,[true,true],rfl,SqL.of bU,bF,(λz=>by rw[z]at O;simp at O;lia),cb,λt ht dX=>?_⟩;obtain⟨j,y⟩:=#[qF];have ke:=(Qc.mp y).1;obtain⟨sm,et,q1,q2,u1,u2,g1,g2,es⟩:=R j t y;have mM:=bF t ht;rw[et]at mM;show#[dm,t.1,mM];have on:b<b+1+j:=by lia
 have oo:b+1+j<e:=by lia
 obtain⟨A1,A2⟩:=cc (b+1+j) on oo;obtain⟨v1,B,I,l1,⟨a1,y1,u,rfl,nj,pO,sI⟩,pP⟩:=A1 1 #[2] #[2];obtain⟨v2,C,J,l2,⟨a2,y2,x,rfl,kO,g9,sJ⟩,pQ⟩:=A2 (m-1) #[2] #[2];have e1:=Sc g1 pP;have e2:=Sc g2 pQ;have vS:Gc ns wy b e m (B+C) (I++J):=by
  refine Zr0 cI on oo pP pQ (λk r1 r2 w1 w2 k1 k2 f1 f2=>?_) #[oW,k,k1,k2]
  ·have g8:k-(b+1)<p.length:=by lia
   obtain⟨s',e3,gC,r2',w1',w2',vT,vU,ko⟩:=R (k-(b+1)) _ (Qb g8);have bZ:=dX _ (Q3 g8);rw[e3,et]at bZ;have:=Zp5 bZ;rw[show b+1+(k-(b+1))=k by lia]at vT vU;have e4:=Sc f1 vT;have e5:=Sc f2 vU;lia
  ·obtain⟨B1,B2⟩:=cc k k1 k2;obtain⟨_,r1,w1,_,_,f1⟩:=B1 1 #[2] #[2];obtain⟨_,r2,w2,_,_,f2⟩:=B2 (m-1) #[2] #[2];exact⟨r1,r2,w1,w2,f1,f2⟩
 refine⟨_,rfl,_,rfl,_,rfl,_,rfl,#[K],λk1 S=>?_⟩;have F:=s2.trans (Zh S #[bP]);show#[cW,W,l,k1,#[bP]];change Wk _ _ (upd l k1 #[bP]) _;generalize upd l k1 (.tup ((Kb b (b+1+j) 1).map kV))=G at F W ⊢;refine⟨d,g,k1,Kb b (b+1+j) 1,_,rfl,rfl,F _ _ Z,W,l1,a1,_,_,_,rfl,rfl,SqT.of (F _ _ nj),rfl,_,rfl,_,rfl,_,rfl,_,rfl,_,_,rfl,rfl,#[K],λk2 X=>?_⟩;have c:=F.trans (Zh X #[a0]);show#[cW,Y,G,k2,#[a0]];change Wk _ _ (upd G k2 (.tup [V.int ((b+1+j:Nat):Int),V.int (e:Int),V.int #[qb]])) _;show#[tk];change Wk _ _ (upd G k2 #[a0]) _;generalize upd G k2 (.tup ((Kb (b+1+j) e (m-1)).map kV))=L at c Y ⊢;have vV:TVs L u I:=sI.mono λa xs e=>c _ _ e;have vW:TVs L x J:=sJ.mono λa xs e=>c _ _ e;have n1:=sI.len;have n2:=sJ.len;have c1:=pP.l1;have c2:=pQ.l1;have c3:=pP.lm;have c4:=pQ.nf.len;refine⟨d,g,k2,Kb (b+1+j) e (m-1),_,rfl,rfl,c _ _ Z,Y,l2,a2,_,_,_,rfl,rfl,SqT.of (c _ _ kO),rfl,y1,y2,u,x,rfl,rfl,SqT.of (c _ _ pO),SqT.of (c _ _ g9),(λz=>by rw[z]at n1;simp at n1;lia),QaG (ZK #[2]),(λz=>by rw[z]at n2;simp at n2;lia),λ_ M kf=>?_⟩;have s5:=c.trans (Zh kf #[p4]);show#[tZ,f5,L,M,#[p4],#[p4]];have vX:TVs (upd L M #[p4]) (u++x) (I++J):=(vV.app vW).mono λa xs e=>Zh kf _ _ _ e;generalize upd L M (.tup (u++x))=H5 at s5 f5 vX ⊢;show#[eY,#[w],r,cq];have vY:sm=B+C:=by lia
 rw[vY];have s6:=Zh cq (.tup [.int (B+C),.ref M]);exact q r (B+C) (I++J) _ ⟨r,M,u++x,rfl,Zb,s6 _ _ f5,vX.mono λa xs e=>s6 _ _ e⟩ vS (s5.trans s6)
def J4(K:#[7])(ns:#[i])(c:Nat):Sp:=λvs H Q _=>X5 λ(d a:ae) (kvs:List (List Key×V)) (b e:Nat)=>vs=[.ref d,.ref a,.int c,.int b,.int e]/\H d=U #[hM]/\SqL K H a #[z]/\b<e/\e<=ns.length/\ns.length<=60/\#[g7]/\2<=c/\#[ed,c] /\
 ∀ (r:ae) (p:Int) (g:List PT) (f:Hp),Wu f #[83] p g->Gr ns c b e 1 p g->Zw H f->Q #[83] f
theorem Zpo(T:#[n])(ns:#[i])(i:Nat)(G:Df P w K mg base 1 "least_cut" #[93] (Oc ns i)):Df P w K mg base 2 "least_tree" #[98] (J4 K ns i):=by
 show#[cE,T.t_least_tree.df,Pr,I,J];obtain⟨d,a,c,b,e,rfl,L,M,ie,n,CJ,o,N,O,q⟩:=h;refine⟨_,#[Zg,#[Y0,#[Zm,YG,#[nJ,Xh,4,3],#[Zi],#[h4]],#[Zj,#[Zn,#[ZO,#[Zc,#[Zi],#[ZO,#[qg]]]]]],#[ZM]],#[Zg,#[Yv,#[ZE,G,J,#[Zc,‹0›,‹3›,‹4›,‹2›],#[5]],#[nu,5,Pr.nd,6]],#[Zj,#[Zn,#[ZO,#[Zc,#[ZJ,YL,‹5›,#[Zk,(Tf K),#[5],T.b.n_sum,boot_sum,#[Zc,(@RL _ _ _ _ _ _ _ _ _ _ (slL K) ‹1› #[oE,3] #[oE,4])]]],#[ZO,#[Zc,‹6›]]]]]]]],?_⟩;have R:#[iG]:=λv k=>(o v k).1;refine⟨_,rfl,_,rfl,_,_,rfl,rfl,rfl,_,rfl,Y2 (λl=>?_) (λl=>?_)⟩
 ·have d':=V.int.inj (of_decide_eq_true l);have S:e=b+1:=by lia
  subst S;refine⟨_,rfl,#[eM,1],λu W=>⟨#[w],λr X=>?_⟩⟩;have g:=Zh X (.tup [.int 0,.ref u]);exact q r 0 [.leaf (b:Int)] _ ⟨r,u,_,rfl,Zb,g _ _ Zb,.cons (.leaf _) .nil⟩ (ZpL R i b 1 (Qh 1)) ((Zh W _).trans g)
 ·have cj:¬ e=b+1:=λz=>l #[aX];refine⟨_,rfl,_,rfl,_,rfl,_,rfl,d,c,b,e,i,rfl,L,by lia,by lia,N,Qh _,O,λr p Y x Z hG y=>?_⟩;obtain⟨r',t,xs,er,h1,h2,h3⟩:=Z;cases er;refine⟨r,_,rfl,SqT.of h1,rfl,_,_,rfl,_,_,rfl,rfl,_,rfl,_,rfl,_,rfl,_,rfl,_,rfl,_,rfl,a,_,rfl,y.seq M,λj j5=>?_⟩;rw[Zo8 #[z] b e #[dv,Qa] #[cL,Qa,n],<- List.map_drop,<- List.map_take];have g:=Zh j5 #[ce];show#[cW,B,x,j,#[ce]];generalize upd x j (.lst (((ns.drop b).take (e-b)).map V.int))=H2 at g B ⊢;refine⟨j,(ns.drop b).take (e-b),rfl,SqL.of B,by rw[QC,Q7];lia,λv k=>?_,_,_,rfl,rfl,_,rfl,#[eM,1],λC dk=>⟨#[w],λD dL=>?_⟩⟩
  ·have:=o v (Qai (Qae k));lia
  have s3:=Zh dk (.tup [.ref t]);have F:=Zh dL (.tup [.int (p+#[sI].sum),.ref C]);have m:=(g.trans s3).trans F;exact q D (p+seg ns b e) [.node Y] _ ⟨D,C,_,rfl,Zb,F _ _ Zb,.cons (.node (m _ _ h2) (h3.mono λa xs e=>m _ _ e)) .nil⟩ (Zpz hG #[2] n) (y.trans m)
def J3(ns:#[i])(a:Nat):Sp:=λvs H Q _=>X8 λ(d f:ae) (kvs:List (List Key×V)) (b e m:Nat) (p:Int) (ts:List PT)=>vs=[.ref d,.ref f,.int b,.int e,.int m]/\H d=U #[hM]/\b<e/\e<=60/\1<=m/\m<a/\Wu H #[a1] p ts/\Gr ns a b e 1 p ts/\#[ed,a] /\
 ∀ (r:ae) (p:Int) (ts:List PT) (c:Hp),Wu c #[83] p ts->Gr ns a b e m p ts->Zw H c->Q #[83] c
theorem Zn6(T:#[n])(ns:#[i])(v:Nat)(C:Df P w K mg base 1 "least_cut" #[93] (Oc ns v)):Df P w K mg base 2 "least_grove" #[99] (J3 ns v):=by
 show#[cE,T.t_least_grove.df,LF,D,F];obtain⟨d,c,g,b,e,m,p,i,rfl,G,ie,I,x,mw,j,l,J,q⟩:=h;refine⟨_,#[Zg,#[Y0,(@PW.pt _ _ _ #[W5,#[Zm,YG,#[nJ,Xh,3,2],#[Zi],#[h4]],(@VO _ _ _ _ #[nS,4])]),#[dH,1],#[ZM]],#[Zg,#[ZB,5,LF.nd,#[3],#[ZE,C,F,#[Zc,‹0›,‹2›,‹3›,‹4›],#[5]]],#[Zj,#[Zn,#[Xz,#[Zm,Xg,#[df,ixT,5],#[df,ixT,1],#[h4]],‹5›,‹1›]]]]],_,rfl,_,rfl,_,_,rfl,rfl,rfl,_,rfl,Y2 (λn=>Wl #[ge]) (λn=>⟨_,rfl,rfl,_,rfl,Y2 #[t6,o] (λo=>?_)⟩)⟩
 ·have L:=V.int.inj (of_decide_eq_true n);have M:e=b+1:=by lia
  subst M;exact q c p i H j (Zss l x) #[tp]
 ·have L:=V.int.inj (of_decide_eq_true o);have N:m=1:=by lia
  subst N;exact q c p i H j l #[tp]
 ·have cj:¬ e=b+1:=λz=>n #[aX];have dI:¬ m=1:=λz=>o (decide_eq_true (by rw[z];rfl));refine⟨_,rfl,_,rfl,_,rfl,_,rfl,d,g,b,e,m,rfl,G,by lia,I,by lia,by lia,J,λr O R y B S k=>?_⟩;obtain⟨U,W⟩:=Zqr x l S;obtain⟨r',t,X,Y,Z,h2,h3⟩:=id B;cases Y;obtain⟨al',t',zo,ea,k1,k2,k3⟩:=id j;cases ea;refine⟨_,rfl,r,_,_,_,rfl,rfl,SqT.of Z,rfl,_,rfl,c,_,_,_,rfl,rfl,SqT.of (k _ _ k1),rfl,_,_,rfl,rfl,_,rfl,Y2 #[t6,u] #[t6,u]⟩
  ·exact q r O R y B (U (of_decide_eq_true u)) k
  ·exact q c p i y (j.mono λa X e=>k _ _ e) (W λz=>u #[75]) k
theorem J1{H:Hp}{d:ae}{kvs:#[N]}(h:H d=U #[hM])(o:HO):∀a xs,H a=U #[71]->(upd H d o) a=U #[71]:=λa xs e=>by rw[Ze (RY e h #[O])];exact e
structure St (ns:#[i]) (wy:Nat) (H0 H:Hp) (d:ae) (kvs:#[N]) (i j:Nat):Prop where
 hd:H d=U #[hM]
 has:∀b e,b<e->e<=ns.length->#[ji]->Has ns wy H kvs b e
 only:∀b e m,XU kvs (Kb b e m)≠af->e-b<=i\/(e-b=i+1/\b<j)
 len:kvs.length<=360*i+6*j
 sm:Zw H0 H
 d0:H0 d=af
def J0(K:#[7])(ns:#[i])(f:Nat):Sp:=λvs H Q _=>∃ (a:ae),vs=#[ft,a,f]/\SqL K H a #[z]/\1<=ns.length/\ns.length<=60/\#[g7]/\2<=f/\f<=6 /\
 ∀ (d:ae) (c:List (List Key×V)) (g:Hp),g d=U (.dT c)->(∀b e,b<e->e<=ns.length->Has ns f g c b e)->Zw H g->Q (.ref d) g
theorem Zmf(T:#[n])(ns:#[i])(g:Nat)(iW:Df P w K mg base 2 "least_tree" #[98] (J4 K ns g))(iF:Df P w K mg base 2 "least_grove" #[99] (J3 ns g)):Df P w K mg base 3 "least_groves" #[bB] (J0 K ns g):=by
 show#[oG,T.t_least_groves.df,VD];obtain⟨a,rfl,hS,n1,sK,eW,w2,w6,q⟩:=h;refine⟨_,#[Zg,#[ZB,2,VD.nd,#[3],(@Rx _ _)],#[Zg,#[Xx,ba.never,#[VN,T.b.n_range,#[Zc,#[Zi],#[ZJ,YL,#[r],#[Zi]]]],#[oc,3,VD.nd],#[Zj,#[Xx,ba.never,#[Vq,T.b.n_range,#[Zc,#[ZJ,YL,#[ZJ,Xh,#[r],‹3›],#[Zi]]]],#[oc,4,VD.nd],#[Zg,#[ZB,5,VD.nd,#[3],#[nJ,YL,4,3]],#[Zg,#[ZB,6,VD.nd,#[3],#[ZE,iW,hr,#[Zc,‹2›,‹0›,‹1›,‹4›,‹5›],#[5]]],#[Zj,#[Xx,ba.never,#[VN,T.b.n_range,#[Zc,#[Zi],‹1›]],#[oc,7,VD.nd],#[Zj,#[Yv,#[ZE,iF,hr,#[Zc,‹2›,‹6›,‹4›,‹5›,‹7›],#[5]],#[WJ,‹2›,#[ZO,#[ey,4,5,7]],(Zur hr)]]]]]]]]]],#[aP]]],?_⟩;have hl:#[bg]=#[rU]:=by rw[Qa]
 refine λd wc=>?_;have jX:St ns g H (upd H d (.dT [])) d [] 0 0:=⟨Zb,λb e t u L=>by lia,λb e m h=>absurd rfl h,Qt _,Zh wc _,wc⟩;generalize upd H d (.dT [])=H1 at jX ⊢;refine⟨_,rfl,a,_,rfl,.inl (jX.sm.seq hS),_,_,rfl,rfl,_,_,rfl,#[bA],?_⟩;rw[show (#[bg]+1-1).toNat=ns.length by lia];refine VM (λi y X=>X6 λ(c:List (List Key×V)) (v3 G I J C:Option V)=>y=[U #[61],U (.int g),U (.ref d),v3,G,I,J,C]/\St ns g H X d c i 0) ⟨[],_,_,_,_,_,rfl,jX⟩ ?_ ?_
 ·rintro i y X hi ⟨c,v3,G,I,J,C,rfl,D⟩;rw[show ((1:Int)+(i:Int))=#[ej,1,i] by lia];refine⟨_,rfl,a,_,rfl,.inl (D.sm.seq hS),_,rfl,_,_,rfl,rfl,_,_,rfl,rfl,_,rfl,by lia,by lia,?_⟩;rw[show (#[bg]-#[ej,1,i]+1).toNat=ns.length-i by lia];refine VM (λj y M=>X5 λ(c:List (List Key×V)) (G I J C:Option V)=>y=[U #[61],U (.int g),U (.ref d),U (.int #[ej,1,i]),G,I,J,C]/\St ns g H M d c i j) ⟨c,_,_,_,_,rfl,D⟩ ?_ ?_
  ·rintro j y M hj ⟨c,G,I,J,C,rfl,n⟩;rw[show (#[lM]+(j:Int))=(j:Int) by lia];refine⟨_,rfl,_,rfl,_,_,rfl,rfl,?_⟩;simp only[show ((j:Int)+#[ej,1,i])=((j+1+i:Nat):Int) by lia];have Bc:∀k,j<k->k<j+1+i->Has ns g M c j k/\Has ns g M c k #[td]:=λk t u=>⟨n.has j k t #[2] #[jN],n.has k #[td] u #[2] #[jN]⟩;refine⟨_,rfl,_,rfl,_,rfl,_,rfl,_,rfl,d,a,c,j,j+1+i,rfl,n.hd,n.sm.seq hS,by lia,by lia,sK,eW,w2,Bc,λal p N H4 hC hG s4=>?_⟩;refine⟨_,rfl,_,_,rfl,#[bA],?_⟩;rw[show ((g:Int)-1).toNat=g-1 by lia];refine VM (λl y B=>X2 λ(c:List (List Key×V)) (C:Option V)=>y=[U #[61],U (.int g),U (.ref d),U (.int #[ej,1,i]),U (.int (j:Int)),U (.int ((j+1+i:Nat):Int)),U (.ref al),C]/\B d=U (.dT c)/\(∀b e,b<e->e<=ns.length->#[ji]->Has ns g B c b e)/\(∀m,1<=m->m<=l->X3 λv p N=>XU c (Kb j #[td] m)=U v/\Wu B v p N/\Gr ns g j #[td] m p N)/\(∀b e m,XU c (Kb b e m)≠af->#[ji]\/(b=j/\e=j+1+i/\m<=l))/\c.length<=360*i+6*j+l/\Zw H B/\Wu B (.ref al) p N)
    ⟨c,_,rfl,s4 _ _ n.hd,λb e t u L=>(n.has b e t u L).mono λa F e=>s4 _ _ e,λm t u=>by lia,λb e m h=>.inl (n.only b e m h),by have:=n.len;lia,n.sm.trans s4,hC⟩ ?_ ?_
   ·rintro l y B iV ⟨x,Bd,rfl,Y,O,oq,Z,wd,s5,sL⟩;rw[show ((1:Int)+(l:Int))=#[ej,1,l] by lia];have we:∀k,j<k->k<j+1+i->Has ns g B x j k/\Has ns g B x k #[td]:=λk t u=>⟨O j k t #[2] #[jN],O k #[td] u #[2] #[jN]⟩;refine⟨_,rfl,_,rfl,_,rfl,_,rfl,_,rfl,d,al,x,j,j+1+i,1+l,p,N,rfl,Y,by lia,by lia,by lia,by lia,sL,hG,we,λr p6 Be H6 Bf Bg s6=>?_⟩;have Bh:=s6 _ _ Y;refine⟨_,rfl,_,rfl,_,rfl,_,rfl,#[K],λk1 fg=>?_⟩;have s7:=Zh fg #[aZ];show#[cW,f7,H6,k1,#[aZ]];change Rs _ _ _ (upd H6 k1 #[aZ]) _;generalize upd H6 k1 (.tup ((Kb j (j+1+i) (1+l)).map kV))=H7 at s7 f7 ⊢;have sM:=s7 _ _ Bh;have ot:XU x (Kb j #[td] (1+l))=af:=by
     cases hx:XU x (Kb j (j+1+i) (1+l)) with
     | none=>rfl
     | some v=>rcases Z j (j+1+i) (1+l) (by rw[hx];simp) with h|h<;>lia
    have nM:=s6.trans s7;have ln:#[nl,a,F,B,#[hT]]:=λa F e=>J1 sM _ _ _ (nM _ _ e);have pS:#[nl,a,F,H6,#[hT]]:=λa F e=>J1 sM _ _ _ (s7 _ _ e);have iQ:∀k v,XU x k=U v->XU (x++[(Kb j #[td] (1+l),V.ref r)]) k=U v:=λk v h=>by rw[Rt,h];rfl
    refine⟨d,x,k1,Kb j #[td] (1+l),rfl,rfl,sM,f7,ot,#[dv,aG],_,_,rfl,Zb,λb e t u L m R m2=>?_,λm R m2=>?_,λb e m h=>?_,by rw[Qf,Qp];lia,λb o hb=>?_,sL.mono ln⟩
    ·obtain⟨v,p',bz,S,W,x3⟩:=O b e t u L m R m2;exact#[k5]
    ·by_cases hm:m<=l
     ·obtain⟨v,p',bz,S,W,x3⟩:=oq m R hm;exact#[k5]
     ·have em:m=1+l:=by lia
      subst em;exact⟨.ref r,p6,Be,by rw[Rt,ot,if_pos rfl];rfl,Bf.mono pS,Bg⟩
    ·rw[Rt]at h;by_cases hk:Kb j #[td] (1+l)=Kb b e m
     ·show#[nB,S,W,x3,Zri,hk];exact .inr ⟨S.symm,W.symm,by lia⟩
     ·show#[fx,hk,h];rcases Z b e m (λz=>h (by rw[z];rfl)) with h|h
      ·exact .inl h
      ·exact .inr ⟨h.1,h.2.1,by lia⟩
    ·show#[c6,hb,D.d0,nM,s5,b]
   ·rintro y B ⟨x,Bd,rfl,Y,O,oq,Z,wd,s5,sL⟩;refine⟨x,_,_,_,_,rfl,Y,λb e t u L=>?_,λb e m h=>?_,by lia,s5,D.d0⟩
    ·by_cases hb:e-b<=i\/(e-b=i+1/\b<j)
     ·exact O b e t u hb
     ·have eb:b=j:=by lia
      have ee:e=j+1+i:=by lia
      subst eb ee;exact λm R m2=>oq m R #[2]
    ·rcases Z b e m h with h|h
     ·rcases h with h|h
      ·exact .inl h
      ·exact .inr ⟨h.1,by lia⟩
     ·exact .inr #[57]
  ·rintro y M ⟨c,G,I,J,C,rfl,n⟩;refine⟨c,_,_,_,_,_,rfl,n.hd,λb e t u L=>n.has b e t u #[2],λb e m h=>?_,by have:=n.len;lia,n.sm,n.d0⟩;have:=n.only b e m h;lia
 ·rintro y X ⟨c,v3,G,I,J,C,rfl,D⟩;exact⟨_,rfl,q d c X D.hd (λb e t u=>D.has b e t u #[jN]) D.sm⟩
def JZ(K:#[7]):Sp:=λvs H Q _=>X3 λ(a:ae) (ns:List Int) (b:Nat)=>vs=#[ft,a,b]/\SqL K H a #[z]/\1<=ns.length/\ns.length<=60/\#[g7]/\2<=b/\b<=6 /\
 ∀ (r:ae) (x:V) (p:Int) (t:PT) (c:Hp),H r=af->c r=U (.tup [.int p,x])->TV c x t->Gr ns b 0 ns.length 1 p [t]->Zw H c->Q #[83] c
theorem ZpM(T:#[n])(G:∀ns g,Df P w K mg base 3 "least_groves" #[bB] (J0 K ns g)):Df P w K mg base 4 "near_plan" #[bB] (JZ K):=by
 show#[cE,T.t_near_plan.df,Ps,I,m];obtain⟨a,ns,g,rfl,n,J,L,M,N,O,q⟩:=h;have R:=G ns g;refine⟨_,#[Zg,#[Yv,#[Zx,(ixD m),#[tS,R,m],#[ZO,#[Zc,#[Zi],#[r],#[Zi]]]],#[nu,2,Ps.nd,3]],#[Zj,#[Zn,#[ZO,#[Zc,‹2›,#[bn]]]]]],?_⟩;have S:#[bg]=#[rU]:=by rw[Qa]
 refine⟨_,rfl,_,rfl,a,rfl,n,J,L,M,N,O,λd i k W X o=>?_⟩;refine⟨_,rfl,a,_,rfl,.inl (o.seq n),#[K],λk1 Y=>?_⟩;obtain⟨v,p,ts,Z,⟨c,t,y,rfl,hc,ht,tv⟩,l⟩:=X 0 ns.length #[2] #[gp] 1 #[2] #[2];have b:=Zh Y #[bt];show#[cW,z,k,k1,#[bt]];rw[S];change Wk _ _ (upd k k1 #[bt]) _;generalize upd k k1 (.tup ((Kb 0 ns.length 1).map kV))=H2 at b z ⊢;refine⟨d,i,k1,Kb 0 ns.length 1,_,rfl,rfl,b _ _ W,z,Z,c,_,rfl,SqT.of (b _ _ hc),rfl,_,_,rfl,_,_,rfl,rfl,?_⟩;have g1:=l.l1;have B:=l.lm;have C:=o.trans b;cases tv with
 | nil=>simp at g1
 | @cons x u y us hx hxs=>have:us=[]:=QP (by simp at B;rw[B];rfl);subst this;refine⟨_,rfl,_,rfl,t,_,_,_,rfl,rfl,SqT.of (b _ _ ht),(Yz (j:=0) rfl),#[w],λr D=>?_⟩;have F:=Zh D (.tup [.int p,x]);exact q r x p u _ (C.free D) Zb (hx.mono λa y e=>F _ _ (b _ _ e)) l (C.trans F)
theorem Zpn{H b:Hp}(s:Zw H b):∀a xs,H a=U #[71]->b a=U #[71]:=λa xs h=>s a _ h
noncomputable def Yh(P:#[an]):List aj:=P.flatMap λx=>x.2.1.drop x.2.2
theorem Sb{ss:#[y]}{g:Nat}{z:aj}(h:ss[g]? = U z):ss.drop g=z::ss.drop (g+1):=by obtain⟨a,e⟩:=Qc.mp h;rw[List.drop_eq_getElem_cons a,e]
theorem Ob:∀ (P:List Zy),#[k2].Nodup->∀ {x:Zy} {z:aj},x∈P->x.2.1[x.2.2]? = U z->(z::Yh #[po]).Perm (Yh P)
 | [],_,_,_,h,_=>by cases h
 | y::P,nd,x,z,h,hz=>by
  show#[eB,Yh];rcases QG.mp h with rfl|h
  ·have e:#[km]:=by
    conv=>rhs;rw[<- List.map_id P]
    refine QJ λu b=>?_;show#[94];rfl
   rw[e,Sb hz];unfold Z2;show#[jc];exact Qaj _
  ·have a:=Ob P nd.2 h hz;show#[eU,Yh,a,a.append_left]
theorem Sa{a b:aj}(h:ZL (cds a) (cds b)<=0):LeS a b:=λz=>by have c:cds b<cds a:=z;have:=#[mM].mp c;have:=#[m0];lia
theorem LeS.refl(a:aj):LeS a a:=Sa #[dj,Wh,Qah,_]
theorem LeS.anti{a b:aj}(h:LeS a b)(k:LeS b a):a=b:=by have h1:¬ ZL (cds b) (cds a)<0:=λz=>h (#[mM].mpr z);have h2:¬ ZL (cds a) (cds b)<0:=λz=>k (#[mM].mpr z);have:=#[m0];have e:cds a=cds b:=U3 _ _ #[2];obtain⟨⟨a⟩⟩:=a;obtain⟨⟨b⟩⟩:=b;have c:a=b:=e;rw[c]
def Yg(P:#[an]):Prop:=∀x∈P,sortedS x.2.1=true
theorem Yg.bump{P:#[an]}(h:Yg P)(n:Int):Yg (YW P n):=λx hx=>by
 show#[cK,y,a,hx];unfold Z2;split
 ·exact h y a
 ·exact h y a
theorem WP.le{P:#[an]}(nd:#[af])(srt:Yg P){x:Zy}{z:aj}{k q:Int}(h:WP P x z k q):∀y∈Yh P,LeS z y:=λy hy=>by
 obtain⟨g,i,W,_⟩:=h;obtain⟨_,m,j,n⟩:=W;rw[WQ nd g,i]at j;have o:cds z=m:=Qk j;subst o;show#[tE];cases d:u.2.1[u.2.2]? with
 | none=>rw[List.drop_eq_nil_of_le #[mN]]at hyu;cases hyu
 | some r =>
  have l:LeS r y:=by
   show#[bR];rcases QG.mp hyu with rfl|hyu
   ·exact LeS.refl _
   ·exact(QaB.mp p).1 y hyu
  have a:=WQ nd c;rw[d]at a;rcases n u.1 (Qm (f:=λx:Zy=>x.1) c) _ a with e|b
  ·have s:=Wd nd c g e;subst s;show#[sR];exact l
  ·refine(Sa ?_).trans l;rcases b with b|⟨b,_⟩<;>lia
theorem Zl7{P c:#[an]}{ts:#[gV]}{k q:Int}(h:#[n4,c])(nd:#[af])(srt:Yg P):Yg c/\#[s8].Perm (Yh P)/\#[hG].Pairwise LeS/\∀a∈ts.map (·.2.2),∀b∈Yh c,LeS a b:=by
 induction h with
 | nil=>exact#[hp]
 | snoc h s l =>
  obtain⟨g,m,n,i⟩:=l;show#[aS]
  ·rw[Qd,Q4];exact(e.append_left _).trans m
  ·rw[Qd];refine Qas.mpr #[oN,n,a,ha,b,f];have o:=Qe.mp f;rw[o];exact #[mW]
  ·show#[pg];rcases Qg.mp ha with ha|ha
   ·exact i a ha b j
   ·rw[Qe.mp ha];exact le b j
theorem Oa{P:#[an]}(h:Y1 P=0):Yh P=[]:=by
 have e:(Yh P).length=Y1 P:=by unfold Yh Y1;rw[List.length_flatMap];congr 1;refine QJ λx _=>?_;rw[Q7]
 exact QP (e.trans h)
theorem Zmg{P a:#[an]}{ts:#[gV]}{k q:Int}(h:#[n4,a])(nd:#[af])(srt:Yg P)(hl:Y1 a=0):#[hG].Perm (Yh P)/\sortedS #[hG]=true:=by obtain⟨_,p,s,_⟩:=Zl7 h nd srt;rw[Oa hl,QO]at p;exact⟨p,(UT _).mpr s⟩
def Vx(P:#[an])(x:Zy)(z:aj):Prop:=x∈P/\x.2.1[x.2.2]? = U z/\Win (hdP P) #[k2] (U x.1)
inductive TkW (P:#[an]):List ZC->List Zy->Prop
 | nil:TkW P [] P
 | snoc {ts:List ZC} {P1:List Zy} {x:Zy} {z:aj}:TkW P ts P1->Vx P1 x z->TkW P (ts++[(x.1,x.2.2,z)]) (YW P1 x.1)
theorem YV.tk{P a:#[an]}{ts:#[gV]}{k q:Int}(h:#[n4,a]):TkW P ts a:=by
 induction h with
 | nil=>exact .nil
 | snoc h s b=>exact .snoc b ⟨s.1,s.2.1,s.2.2.1⟩
theorem Vx.one{P:#[an]}(nd:#[af]){x y:Zy}{z u:aj}(h:Vx P x z)(g:Vx P y u):x=y/\z=u:=by obtain⟨a,b,c⟩:=h;obtain⟨d,e,f⟩:=g;have i:=Qk (c.one f);have j:=Wd nd a d i;subst j;exact⟨rfl,Qk (b.symm.trans e)⟩
theorem TkW.num{P a:#[an]}{ts:#[gV]}(h:TkW P ts a):ZG a=ZG P:=by
 induction h with
 | nil=>rfl
 | snoc _ _ b=>rw[Sk,b]
theorem TkW.one{P:#[an]}(nd:#[af]){ts:#[gV]}{c:#[an]}(h:TkW P ts c):∀ {us:List ZC} {b:List Zy},TkW P us b->ts.length=us.length->ts=us/\c=b:=by
 induction h with
 | nil =>
  intro us b g a;cases g with
  | nil=>exact#[aR]
  | snoc _ _=>rw[Qf,Qp]at a;exact absurd a #[4]
 | snoc h s d =>
  intro us b g a;cases g with
  | nil=>rw[Qf,Qp]at a;exact absurd a #[4]
  | snoc e f=>rw[Qf,Qf,Qp,Qp]at a;obtain⟨i,j⟩:=d e #[2];subst i;subst j;obtain⟨k,l⟩:=s.one #[cy] f;subst k;subst l;exact#[aR]
theorem TkW.left{P a:#[an]}{ts:#[gV]}(h:TkW P ts a)(nd:#[af]):Y1 a+ts.length=Y1 P:=by
 induction h with
 | nil=>rfl
 | snoc h s ih=>have:=#[pi];rw[Qf,Qp];lia
theorem TkW.row{P b:#[an]}{ts:#[gV]}(h:TkW P ts b):∀x∈b,∃y∈P,y.1=x.1/\y.2.1=x.2.1:=by
 induction h with
 | nil=>exact λx a=>⟨x,a,rfl,rfl⟩
 | snoc h s c =>
  intro x a;show#[cK,u,d,a];obtain⟨y,e,f,g⟩:=c u d;refine⟨y,e,?_,?_⟩
  ·unfold Z2;split<;>exact f
  ·unfold Z2;split<;>exact g
theorem TkW.at{P a:#[an]}{ts:#[gV]}(h:TkW P ts a):∀u∈ts,∃y∈P,y.1=u.1/\y.2.1[u.2.1]? = U u.2.2:=by
 induction h with
 | nil=>exact λu hu=>by cases hu
 | snoc h s b =>
  intro u hu;rcases Qg.mp hu with hu|hu
  ·exact b u hu
  ·rw[Qe.mp hu];obtain⟨y,c,d,e⟩:=h.row _ s.1;exact⟨y,c,d,by rw[e];exact s.2.1⟩
theorem Vx.le{P:#[an]}(nd:#[af])(srt:Yg P){x:Zy}{z:aj}(h:Vx P x z):∀y∈Yh P,LeS z y:=λy hy=>by
 show#[e9,g,i,W,h];obtain⟨_,l,j,m⟩:=W;rw[WQ nd g,i]at j;have n:cds z=l:=Qk j;subst n;show#[tE];cases d:u.2.1[u.2.2]? with
 | none=>rw[List.drop_eq_nil_of_le #[mN]]at hyu;cases hyu
 | some o =>
  have k:LeS o y:=by
   show#[bR];rcases QG.mp hyu with rfl|hyu
   ·exact LeS.refl _
   ·exact(QaB.mp p).1 y hyu
  have a:=WQ nd c;rw[d]at a;rcases m u.1 (Qm (f:=λx:Zy=>x.1) c) _ a with e|b
  ·have q:=Wd nd c g e;subst q;show#[sR];exact k
  ·refine(Sa ?_).trans k;rcases b with b|⟨b,_⟩<;>lia
theorem TkW.srt{P c:#[an]}{ts:#[gV]}(h:TkW P ts c)(nd:#[af])(srt:Yg P):Yg c/\#[s8].Perm (Yh P)/\#[hG].Pairwise LeS/\∀a∈ts.map (·.2.2),∀b∈Yh c,LeS a b:=by
 induction h with
 | nil=>exact#[hp]
 | snoc h s k =>
  obtain⟨g,l,m,i⟩:=k;show#[aS]
  ·rw[Qd,Q4];exact(e.append_left _).trans l
  ·rw[Qd];refine Qas.mpr #[oN,m,a,ha,b,f];have n:=Qe.mp f;rw[n];exact #[mW]
  ·show#[pg];rcases Qg.mp ha with ha|ha
   ·exact i a ha b j
   ·rw[Qe.mp ha];exact le b j
noncomputable def YZ(ss:#[y])(d:#[i]):List aj:=d.map λn=>ss.getD n.toNat ""
noncomputable def XS(R:#[gh]):List Zy:=#[aK].zip #[na]
theorem ZsO(a:#[17]):Y4 a=XS (a.map #[f6]):=by unfold Y4 XS;rw[Qa,QA];rfl
theorem JY(R:#[gh]):ZG (XS R)=ZX 0 R.length:=by unfold ZG XS;rw[List.map_fst_zip];unfold ZX;rw[Qa,Qa,Qal];exact Qh _
theorem Vw(R:#[gh]):(ZG (XS R)).Nodup:=by rw[JY];exact(Sz _).imp λh=>by lia
theorem JX(R:#[gh])(i:Nat):(XS R)[i]? = (R[i]?).map λx=>((i:Int),(x,0)):=by
 unfold XS ZX;rw[List.zip_eq_zipWith,List.getElem?_zipWith,Ql,Ql];by_cases h:i<R.length
 ·rw[Qb h,Qaw h];simp
 ·rw[QM (by lia:R.length<=i)];simp
theorem TF{R:#[gh]}{x:Zy}(h:x∈XS R):∃i:Nat,x.1=(i:Int)/\R[i]? = U x.2.1/\x.2.2=0:=by
 obtain⟨i,a⟩:=Qau h;rw[JX]at a;cases b:R[i]? with
 | none=>rw[b]at a;cases a
 | some d=>rw[b]at a;cases a;exact⟨i,rfl,b,rfl⟩
theorem JW(R:#[gh]):Y1 (XS R)=#[82].sum:=by
 unfold Y1 XS;have e:(#[aK].zip #[na]).map #[qt]=(((#[aK].zip #[na]).map #[f6])).map #[lV]:=by rw[QA];rfl
 show#[jZ];rfl
theorem JV{R:#[gh]}(h:∀d∈R,sortedS d=true):Yg (XS R):=λx hx=>by obtain⟨i,_,a,_⟩:=TF hx;exact h _ (Qo a)
noncomputable def YU(R:#[k])(u:ZC):Int:=(R.getD u.1.toNat []).getD u.2.1 0
def Put(ss:#[y])(R:#[k])(out:#[i]):Prop:=X2 λ(ts:List ZC) (a:List Zy)=>TkW #[gz] ts a/\ts.length=#[82].sum/\out=ts.map (YU R)
theorem Put.one{ss:#[y]}{R:#[k]}{a b:#[i]}(h:Put ss R a)(g:Put ss R b):a=b:=by obtain⟨ts,P1,c,d,e⟩:=h;obtain⟨us,P2,f,i,j⟩:=g;have:=(c.one (Vw _) f (by rw[d,i])).1;rw[e,j,this]
theorem R9(ss:#[y])(R:#[k]):((R.map (YZ ss)).map List.length).sum=#[82].sum:=by rw[QA];congr 1;refine QJ λd _=>?_;show (YZ ss d).length=d.length;unfold YZ;rw[Qa]
theorem Vv{ss:#[y]}{R:#[k]}{u:ZC}{l:#[an]}{ts:#[gV]}(h:TkW #[gz] ts l)(hu:u∈ts):∃d,R[u.1.toNat]? = U d/\0<=u.1/\d[u.2.1]? = U (YU R u)/\ss.getD (YU R u).toNat "" = u.2.2:=by
 obtain⟨y,m,f,a⟩:=h.at u hu;obtain⟨i,g,b,_⟩:=TF m;rw[Ql]at b;cases c:R[i]? with
 | none=>rw[c]at b;cases b
 | some d =>
  rw[c]at b;have o:=Qk b;rw[<- o]at a;show#[tW,YZ,a];cases e:d[u.2.1]? with
  | none=>rw[e]at a;cases a
  | some n =>
   rw[e]at a;have p:=Qk a;have j:u.1.toNat=i:=by rw[<- f,g];rfl
   have k:YU R u=n:=by unfold YU;rw[j,Qq,Qq,c];show (d[u.2.1]?).getD 0=n;rw[e];rfl
   exact⟨d,by rw[j];exact c,by rw[<- f,g];lia,by rw[k];exact e,by rw[k];exact p⟩
theorem Put.ok{ss:#[y]}{R:#[k]}{out:#[i]}(h:#[rb])(g:∀d∈R,sortedS (YZ ss d)=true):out.length=#[82].sum/\(∀n∈out,∃d∈R,n∈d)/\sortedS (YZ ss out)=true:=by
 obtain⟨f,P1,a,i,rfl⟩:=h;refine⟨by rw[Qa];exact i,λn j=>?_,?_⟩
 ·show#[cK,u,b,j];obtain⟨d,c,_,k,_⟩:=Vv a b;exact⟨d,Qo c,Qo k⟩
 ·have e:YZ ss (f.map (YU R))=f.map (·.2.2):=by unfold YZ;rw[QA];refine QJ λu b=>?_;obtain⟨d,_,_,_,e⟩:=Vv a b;exact e
  rw[e];have l:#[k9]:=λd c=>by obtain⟨x,m,rfl⟩:=Qs.mp c;exact g x m
  exact(UT _).mpr (a.srt (Vw _) (JV l)).2.2.1
mutual
inductive Yo (ss:#[y]) (R:#[k]):PT->List Int->Prop where
 | leaf {i:Int}:Yo ss R (.leaf i) (R.getD i.toNat [])
 | node {l:List PT} {os:List (List Int)} {out:List Int}:YR ss R l os->Put ss os out->Yo ss R (.node l) out
inductive YR (ss:#[y]) (R:#[k]):List PT->List #[iZ]->Prop where
 | nil:YR ss R [] []
 | cons {t:PT} {o:List Int} {l:List PT} {os:List (List Int)}:Yo ss R t o->YR ss R l os->YR ss R (t::l) (o::os)
end
mutual
theorem Yo.one{ss:#[y]}{R:#[k]}:∀ {t:PT} {a b:List Int},Yo ss R t a->Yo ss R t b->a=b
 | _,_,_,.leaf,.leaf=>rfl
 | _,_,_,.node h p,.node g q=>by have:=YR.one h g;subst this;exact p.one q
theorem YR.one{ss:#[y]}{R:#[k]}:∀ {l:List PT} {a b:List (List Int)},YR ss R l a->YR ss R l b->a=b
 | _,_,_,.nil,.nil=>rfl
 | _,_,_,.cons h c,.cons g d=>by rw[Yo.one h g,YR.one c d]
end
theorem YR.app{ss:#[y]}{R:#[k]}:∀ {l m:List PT} {a b:List (List Int)},YR ss R l a->YR ss R m b->YR ss R (l++m) (a++b)
 | _,_,_,_,.nil,g=>g
 | _,_,_,_,.cons h c,g=>.cons h (c.app g)
noncomputable def wtR(R:#[k])(a:#[i]):Nat:=(a.map λi=>(R.getD i.toNat []).length).sum
theorem N9(R:#[k])(a b:#[i]):wtR R (a++b)=wtR R a+wtR R b:=by unfold wtR;rw[Qd,Q9]
def V9(ss:#[y])(d:#[i]):Prop:=(∀n∈d,0<=n/\n<#[rT])/\sortedS (YZ ss d)=true
theorem Zsf(ss:#[y]):V9 ss []:=⟨λn h=>(by cases h),rfl⟩
theorem Zte{ss:#[y]}{R:#[k]}(h:#[qy])(i:Nat):V9 ss (R.getD i []):=by
 rw[Qq];cases a:R[i]? with
 | none=>exact Zsf ss
 | some d=>exact h d (Qo a)
mutual
theorem Yo.ok{ss:#[y]}{R:#[k]}(e:#[qy]):∀ {t:PT} {o:List Int},Yo ss R t o->V9 ss o/\o.length=wtR R #[m5]
 | .leaf i,_,.leaf=>⟨Zte e _,by show _=((([i]:List Int).map λi=>(R.getD i.toNat []).length).sum);simp⟩
 | .node l,o,.node h p=>by obtain⟨a,b⟩:=YR.ok e h;obtain⟨f,g,j⟩:=p.ok λd c=>(a d c).2;refine⟨⟨λn k=>?_,j⟩,by rw[f,b];rfl⟩;obtain⟨d,c,m⟩:=g n k;exact(a d c).1 n m
theorem YR.ok{ss:#[y]}{R:#[k]}(e:#[qy]):∀ {l:List PT} {os:List (List Int)},YR ss R l os->(∀d∈os,V9 ss d)/\(os.map List.length).sum=wtR R (Y3 l)
 | [],_,.nil=>⟨λd h=>(by cases h),rfl⟩
 | t::l,_,.cons h f=>by
  obtain⟨a,b⟩:=Yo.ok e h;obtain⟨c,d⟩:=YR.ok e f;refine⟨λx hx=>?_,?_⟩
  ·rcases QG.mp hx with rfl|hx
   ·exact a
   ·exact c x hx
  ·rw[Qj,QN,b,d];show _=wtR R (tLv t++Y3 l);rw[N9]
end
theorem Zn8{K:#[7]}{a:ae}{xs:#[jr]}{k:Nat}{D:ae}{b:L2.St}{d:Hp}{g:TG}{f:TE}{Q:VK}(Pv:#[23])(h0:#[bv])
  (hl:∀i ys b H,Pv i ys b H->SqT K H a xs)
  (n:#[56])
  (hd:#[b7]):WG (Itt K a) D k b d g WH f Q:=by
 show#[s];by_cases l:i<xs.length
 ·show#[28]
 ·have e:#[hv]:=by lia
  show#[76]
theorem JU{ls:#[hB]}{k:Int}{l:ae}(h0:0<=k)(h:ls[k.toNat]? = U l):atI (ls.map V.ref) k=U #[h6]:=by
 have a:k=#[bF]:=by lia
 rw[a];exact Yz #[oj,h]
theorem YR.len{ss:#[y]}{R:#[k]}:∀ {l:List PT} {os:List (List Int)},YR ss R l os->os.length=l.length
 | _,_,.nil=>rfl
 | _,_,.cons _ h=>by rw[QF,QF,h.len]
theorem JT{w:Nat}:∀ {l:List PT} {i:Nat} {t:PT},X0 w l->l[i]? = U t->tPl w t
 | [],i,t,_,h=>by simp at h
 | u::r,0,t,a,h=>by simp at h;rw[<- h];exact a.1
 | u::r,i+1,t,a,h=>JT a.2 #[cG,h]
theorem UO:∀ {R:List (List Int)} {i:Nat} {d:List Int},R[i]? = U d->d.length<=#[82].sum
 | [],i,d,h=>by simp at h
 | u::r,0,d,h=>by simp at h;rw[<- h,Qj,QN];lia
 | u::r,i+1,d,h=>by have:=UO (R:=r) (i:=i) (d:=d) #[cG,h];rw[Qj,QN];lia
theorem JS(R:#[k]):∀ {l:List PT} {i:Nat} {t:PT},l[i]? = U t->wtR R #[m5]<=wtR R (Y3 l)
 | [],i,t,h=>by simp at h
 | u::r,0,t,h=>by simp at h;rw[<- h];show#[sO];lia
 | u::r,i+1,t,h=>by have:=JS R (l:=r) (i:=i) (t:=t) #[cG,h];show#[sO];lia
structure Vu (H:Hp) (a r:ae) (ss:#[y]) (ls:#[hB]) (R:#[k]):Prop where
 th:H a=U #[mo]
 s60:ss.length<=60
 key:∀s∈ss,s.length<=1000/\AZ s
 ru:H r=U #[hb]
 rd:Rd H ls R
 rg:∀d∈R,V9 ss d
theorem Vu.same{H b:Hp}{a r:ae}{ss:#[y]}{ls:#[hB]}{R:#[k]}(h:Vu H a r ss ls R)(s:Zw H b):Vu b a r ss ls R:=⟨s _ _ h.th,h.s60,h.key,s _ _ h.ru,Rd.mono #[tO,c,s] h.rd,h.rg⟩
def JR(n:Nat):Sp:=λvs H Q _=>X7 λ(a r:ae) (ss:List aj) (ls:List ae) (R:List (List Int)) (x:V) (t:PT)=>vs=[.ref a,.ref r,x]/\Vu H a r ss ls R/\TV H x t/\tOk R.length t/\tPl 60 t/\wtR R #[m5]<=100/\tDp t<n /\
 ∀ (b:ae) (out:List Int) (c:Hp),H b=af->c b=U #[d8,out.map]->Yo ss R t out->Zw H c->Q #[p6] c
theorem JQ(T:#[n])(bQ:#[pt])(ed:#[fC,16,"merged","rows",Ks]):∀n:Nat,Df P w K mg base (n+17) "merged_by" #[gg] (JR n)
 | 0=>by
  show#[q7]
  ·show#[rz];rfl
  show#[jz];exact absurd oZ #[2]
 | n+1=>by
  have b8:=JQ T bQ ed n;show#[q7]
  ·show#[rz];rfl
  show#[jz];refine⟨_,#[Zg,#[Y0,#[VQ,#[dN,bQ,hr,#[ag]]],#[Zj,#[Zn,#[XQ,(MD K),T.b.n_list,boot_list,#[Zc,#[Zx,#[lz],#[ec,1],‹2›]]]]],#[ZM]],#[Zg,#[ZB,3,SV.nd,#[rk],#[Yd,U8,(@iT _ K _ _ _ ‹2› #[5]),#[di,5,U8],#[J],(λ_ _ _ _=>#[ZE,b8,hr,#[Zc,#[cv,0,U8],#[cv,1,U8],#[cw,5,U8]],#[tQ,U8]])]],#[Zg,#[UA,4,SV.nd,Pm,#[iL,K,#[ec,3]],#[di,5,Pm],#[J],(λ_ _ _ _=>#[Yd,SQ,#[iL,K,#[cw,5,Pm]],#[di,6,SQ],#[J],(λ_ _ _ _=>#[fJ,0,SQ,6])])],#[Zj,#[Zn,#[Yd,U7,#[iL,K,#[fG,ed,hr,4]],#[cQ,5,U7,6],#[J],(λ_ _ _ _=>#[Zx,#[lz],#[fJ,3,U7,5],#[cw,6,U7]])]]]]]],?_⟩;have wg:R.length=ls.length:=M.rd.len.symm;cases hT with
  | leaf k =>
   refine⟨_,rfl,.inl ⟨k,rfl,_,rfl,Wl ?_⟩⟩;have hk:0<=k/\k<(R.length:Nat):=S;show#[n8,l,hl,ls,k.toNat];show#[nB,d,p,Bj,M.rd.at,hl];refine⟨_,rfl,_,rfl,r,_,_,_,rfl,rfl,SqL.of M.ru,JU hk.1 hl,l,_,rfl,.inl (SqL.of Bj),λb G=>?_⟩;refine q b d _ G Zb ?_ (Zh G _);have e:R.getD k.toNat []=d:=by rw[Qq,p];rfl
   rw[<- e];exact .leaf
  | node mN wj =>
   rename_i W xs l;refine⟨_,rfl,.inr ⟨W,xs,rfl,mN,_,rfl,YQ ?_⟩⟩;have Bk:=wj.len;have CK:l.length<=60:=cW.2.1;have wk:X0 60 l:=cW.2.2;have wl:UP R.length l:=S;have ou:wtR R (Y3 l)<=100:=wf;have wm:XF l<n:=by have:XF l+1<n+1:=oZ;lia
   refine⟨_,rfl,W,rfl,⟨_,SqT.of mN⟩,λD hD=>?_⟩;refine Zn8 (K:=K) (a:=W) (xs:=xs) (λi zs m H2=>(∃v:Option V,m=[U #[61],U #[83],U (.ref W),af,af,v])/\(X2 λ(bs:List ae) (os:List (List Int))=>zs=bs.map V.ref/\Rd H2 bs os/\YR ss R (l.take i) os/\D ∉ bs)/\i<=xs.length/\H2 D=U #[bl]/\Zw H H2) ?_ (λ_ _ _ _ h=>SqT.of (h.2.2.2.2 _ _ mN)) ?_ ?_
   ·exact⟨⟨af,rfl⟩,⟨[],[],rfl,True.intro,.nil,λh=>by cases h⟩,Qt _,Zb,Zh hD _⟩
   ·rintro i x zs m H2 hx ⟨⟨v,rfl⟩,⟨bs,os,rfl,dh,X,wo⟩,hi,bU,Y⟩;show#[nB,t,ht,sN,wj.at,hx];have ce:i<xs.length:=(Qc.mp hx).1;have jQ:bs.length=i:=by rw[dh.len,X.len,QC];lia
    refine⟨_,rfl,_,rfl,_,rfl,a,r,ss,ls,R,x,t,rfl,M.same Y,sN.mono (Zpn Y),Kk _ _ _ _ wl ht,JT wk ht,QL (JS R ht) ou,Qay (Kj _ _ _ ht) wm,λb out N pT G hp I=>?_⟩;have cz:=I _ _ bU;have wq:b≠D:=λz=>by rw[z,bU]at pT;cases pT
    refine⟨cz,#[el,jQ],#[H],⟨bs++[b],os++[out],by rw[Qd];rfl,?_,?_,?_⟩,ce,Zb,λc o B=>?_⟩
    ·refine Rd.app (Rd.mono (λc B o ho=>?_) dh) ⟨by rw[Ze wq];exact G,True.intro⟩;rw[Ze (λz:c=D=>wo #[c9,z,B])];exact I _ _ ho
    ·rw[QE,ht];exact X.app #[oK,hp]
    ·intro h;rcases Qg.mp h with h|h
     ·exact wo h
     ·exact wq (Qe.mp h).symm
    ·show#[c6,B,hD,I,Y,c]
   rintro zs m H2 ⟨⟨v,rfl⟩,⟨bs,os,rfl,dh,X,_⟩,_,bU,Y⟩;rw[Qw #[2]]at X;obtain⟨sO,wt⟩:=YR.ok M.rg X;have hos:os.length=l.length:=X.len;have Bl:=dh.len;show#[c1,D,bU,D2,i7];refine WT (K:=K) (a:=D) (xs:=bs.map V.ref) (λi zs m N=>(∃v:Option V,m=[U #[61],U #[83],U (.ref W),U #[iy],af,v])/\(∃C:List (ae×List aj),zs=#[t3,C.map]/\C.map #[f6]=(os.take i).map (YZ ss)/\∀x∈C,x.1≠D2/\N x.1=U #[kT])/\i<=bs.length/\N D2=U #[bl]/\Zw H2 N) ?_ #[cJ,bU] ?_ ?_
   ·exact#[f7]
   ·rintro i y zs m N g ⟨⟨v,rfl⟩,⟨C,rfl,L,gP⟩,hi,cz,I⟩;rw[Ql]at g;cases G:bs[i]? with
    | none=>rw[G]at g;cases g
    | some b =>
    show#[nV,G,g,bs.length];show#[nB,d,p,jw,dh.at,G];have kj:C.length=i:=by have:=#[cO,L];rw[Qa,Qa,QC]at this;lia
    have sP:=(sO d (Qo p)).1;have pJ:d.length<=100:=QL (UO p) #[cL,wt,ou];have ox:=I _ _ jw;show#[c1,b,ox,E0,hE];have oy:D2≠E0:=Zd cz hE;refine WT (K:=K) (a:=b) (xs:=d.map V.int) (λj ys m J=>(∃v:Option V,m=[U #[61],U #[83],U (.ref W),U #[iy],af,U #[p6],v])/\ys=((YZ ss d).take j).map V.str/\j<=d.length/\J E0=U #[gd]/\Zw N J) ?_ #[cJ,ox] ?_ ?_
    ·show#[dL,hE]
    ·rintro j y ys m J g ⟨⟨v',rfl⟩,rfl,hj,jx,F⟩;rw[Ql]at g;cases hn:d[j]? with
     | none=>rw[hn]at g;cases g
     | some nn =>
     show#[cI,hn,g,ke,j,d.length];obtain⟨n0,n1⟩:=sP nn (Qo hn);refine⟨_,rfl,_,rfl,a,_,_,_,rfl,rfl,SqL.of (F _ _ (I _ _ (Y _ _ M.th))),UR n0 n1,jx,#[el,QC],#[H],?_,ke,Zb,λc o B=>?_⟩
     ·unfold YZ;rw[QE,Ql,hn,Qd];rfl
     ·show#[nv,B,hE,F,c,o]
    rintro ys m J ⟨⟨v',rfl⟩,rfl,_,jx,F⟩;show#[kY];refine⟨F _ _ cz,#[el,kj],#[H],⟨C++[(E0,YZ ss d)],by rw[Qd];rfl,?_,λx hx=>?_⟩,ce,Zb,λc o B=>?_⟩
    ·rw[QE,p,Qd,Qd,L];rfl
    ·rcases Qg.mp hx with hx|hx
     ·obtain⟨g1,g2⟩:=gP x hx;exact⟨g1,by rw[Ze g1];exact F _ _ g2⟩
     ·show#[im]
    ·show#[c6,B,i7,F,I,c]
   rintro zs m N ⟨⟨v,rfl⟩,⟨C,rfl,L,gP⟩,_,cz,I⟩;rw[Qa,Qw #[2]]at L;have cZ:#[oH,C]:=λx hx=>by have:x.2∈C.map #[f6]:=#[bX];show#[eN,L,p];rw[<- e];exact(sO d p).2
   have kj:C.length=os.length:=by have:=#[cO,L];rwa [Qa,Qa]at this
   have R3:Wy N D2 C:=⟨cz,by lia,λx hx=>by
    have:x.2∈C.map #[f6]:=#[bX];show#[eN,L,p];obtain⟨i,hi⟩:=Qau p;refine#[mS]
    ·rw[<- e];unfold YZ;rw[Qa];exact QL (UO hi) #[cL,wt,ou]
    ·show#[kA];obtain⟨n0,n1⟩:=(sO d p).1 nn fW;rw[Qq,Qb #[2]];exact M.key _ (Q3 _)⟩
   refine⟨_,rfl,D2,C,rfl,R3,cZ,λmt Z P' k0 q0 H4 cV kl wu im _ _ s4=>?_⟩;have sQ:=cV.tk;rw[ZsO,L]at sQ;have wv:(Z.map #[f6]).length=(os.map List.length).sum:=by rw[Qa,kl,<- R9 ss os,<- L,QA];rfl
   have gI:=s4 _ _ (I _ _ bU);have mL:=I.trans s4;have wx:Rd H4 bs os:=Rd.mono #[tO,ho,mL] dh;refine#[fI,mt,wu,O,hO];refine WT (K:=K) (a:=mt) (xs:=Z.map λu=>V.ref u.1) (λi zs m J=>(X2 λv1 v2:Option V=>m=[U #[61],U #[83],U (.ref W),U #[iy],U (.ref D2),v1,v2])/\zs=(((Z.take i).map #[f6]).map (YU os)).map V.int/\i<=Z.length/\J O=U #[bl]/\Zw H4 J) ?_ #[cJ,wu] ?_ ?_
   ·show#[fw,hO]
   ·rintro i y zs m J g ⟨⟨v1,v2,rfl⟩,rfl,hi,pU,F⟩;rw[Ql]at g;cases hz:Z[i]? with
    | none=>rw[hz]at g;cases g
    | some u =>
    show#[nV,hz,g,Z.length];have wz:=Qo hz;obtain⟨d,p,Bm,Bn,_⟩:=Vv sQ (Qm (f:=λu:ae×ZC=>u.2) wz);obtain⟨b,G⟩:∃b,bs[u.2.1.toNat]? = U b:=⟨_,Qb (by rw[Bl];exact(Qc.mp p).1)⟩;have jw:=wx.get G p;have sq:=Qa (as:=Z) (λu:ae×ZC=>u.2);refine⟨u.1,_,rfl,SqT.of (F _ _ (im u wz)),rfl,_,_,rfl,_,_,rfl,rfl,_,rfl,_,rfl,D,_,_,_,rfl,rfl,SqL.of (F _ _ gI),JU Bm G,_,rfl,b,_,_,_,rfl,rfl,SqL.of (F _ _ jw),Yz #[oj,Bn],pU,(by rw[Qa,Qa,Qa,QC,aG];lia),#[iK],?_,ce,Zb,λc o B=>?_⟩
    ·rw[QE,hz,Qd,Qd,Qd];rfl
    ·show#[nv,B,hO,F,c,o]
   rintro zs m J ⟨⟨v1,v2,rfl⟩,rfl,_,pU,F⟩;show#[oh,pU];have Bo:=Y.trans (mL.trans F);exact q O _ J ((Y.trans mL).free hO) pU (.node X ⟨_,_,sQ,wv,rfl⟩) Bo
theorem JP{x y:aj}(h:cds x=cds y):x=y:=by obtain⟨x⟩:=x;obtain⟨y⟩:=y;have:x=y:=Array.ext' h;rw[this]
theorem Zsr{a b:aj×Int}(h:ZP (kk b) (kk a)=false):ZL (cds a.1) (cds b.1)<0\/(a.1=b.1/\a.2<=b.2):=by
 by_cases e:a.1=b.1
 ·refine .inr ⟨e,?_⟩;unfold kk at h;rw[ZQ,if_pos (by rw[e]),ZQ]at h;by_cases c:a.2=b.2
  ·lia
  ·rw[if_neg (λz=>c #[r8].symm)]at h;have:=#[lf];exact Int.not_lt.mp this
 ·left;unfold kk at h;rw[ZQ,if_neg (λz=>e #[r5].symm)]at h;have d:¬ (cds b.1<cds a.1):=#[lf];have h2:¬ ZL (cds b.1) (cds a.1)<0:=λz=>d (#[mM].mpr z);have h3:=Xu (cds a.1) (cds b.1);have h4:ZL (cds a.1) (cds b.1)≠0:=λz=>e (JP (U3 _ _ z));lia
theorem N8{ss:#[y]}{g:#[i]}{n:Int}(h:Ris ss g)(hl:∀x,g.getLast? = U x->ZP #[90] #[h2]=true):Ris ss (g++[n]):=λp x y hx hy=>by
 have a:=(Qc.mp hy).1;rw[Qf,Qp]at a;rw[QX #[2]]at hx;by_cases e:p+1<g.length
 ·rw[QX e]at hy;exact h p x y hx hy
 ·rw[QW #[2],show p+1-g.length=0 by lia]at hy;cases hy;refine hl x ?_;rw[List.getLast?_eq_getElem?,show g.length-1=p by lia];exact hx
theorem ZmJ{ss:#[y]}{n:Int}{c:Nat}(hn:n<c)(h:¬ ltK ss (c:Int) n):ZP #[h2] (kk #[rV])=true:=by
 cases a:ZP (kk (ks ss n)) (kk (ks ss (c:Int))) with
 | true=>rfl
 | false =>
  have b:ZP (kk #[rV]) #[h2]=false:=by
   unfold kk;rw[ZQ];by_cases e:(Sum.inr #[rV].1:Key)=Sum.inr (ks ss n).1
   ·rw[if_pos e,ZQ,if_neg (by intro z;have:=#[kC];show False;simp only[ks]at this;lia)];exact decide_eq_false (by show ¬ ((c:Int)<n);lia)
   ·rw[if_neg e];exact decide_eq_false h
  have:=Oj (Vi _ _ a b);have:=congrArg Prod.snd this;simp only[ks]at this;lia
def N7(ss:#[y])(d:#[i]):Prop:=d≠[]/\Ris ss d/\∀n∈d,0<=n/\n<ss.length
theorem N6{ss:#[y]}{A B:#[i]}{n:Int}(hl:US ss A n)(nd:(A++B).Nodup):∀a∈A.erase n,ZP #[h2] (kk (ks ss a))=true:=λa ha=>by
 have b:=(QY.mp nd).1;have c:a≠n:=((List.Nodup.mem_erase_iff b).mp ha).1;cases d:ZP (kk (ks ss n)) (kk (ks ss a)) with
 | true=>rfl
 | false=>exact absurd (congrArg Prod.snd (Oj (Vi _ _ (hl.2 a (QD ha)) d))) c
theorem N5{A B:#[i]}{n:Int}(nd:(A++B).Nodup):(A.erase n++B).Nodup:=by have h:=QY.mp nd;exact QY.mpr ⟨h.1.erase n,h.2.1,λx a y b=>h.2.2 x (QD a) y b⟩
theorem Zoa{ss:#[y]}{A B:#[i]}{c:Nat}{gone:#[i]}{done R:#[k]}(h:#[gL]):(A++B).Nodup->(∀n∈A++B,0<=n/\n<(c:Int))->c<=ss.length->(∀d∈done,N7 ss d)->Ris ss gone->#[n7,gone]->(∀x,gone.getLast? = U x->∀a∈A,ZP #[90] (kk (ks ss a))=true)->(A=[]->B≠[]->gone≠[])->∀d∈R,N7 ss d:=by
 induction h with
 | stop0=>intro _ _ _ f _ _ _ _;exact f
 | stop =>
  intro _ _ _ f g i _ _ d r;rcases Qg.mp r with h|h
  ·exact f d h
  ·rw[Qe.mp h];exact⟨by simp,g,i⟩
 | switch _ j =>
  intro nd mem k f g i _ go;refine j #[cG,nd] #[cG,mem] k (λd r=>?_) (λp x y hx=>by simp at hx) #[cM,n,o] (λx hx=>by simp at hx) #[tX,z];rcases Qg.mp r with h|h
  ·exact f d h
  ·rw[Qe.mp h];exact⟨go rfl #[4],g,i⟩
 | stepN l q _ j =>
  intro nd mem k f g i last go;have o:=mem _ (Qr _ l.1);refine j (N5 nd) (λm b=>mem m ?_) k f (N8 g (λx hx=>last x hx _ l.1)) (λm b=>?_) (λx hx=>?_) (λ_ _=>by simp)
  ·rcases Qg.mp b with h|h
   ·exact Qr _ (QD h)
   ·exact Qn _ h
  ·rcases Qg.mp b with h|h
   ·exact i m h
   ·rw[Qe.mp h];lia
  ·show#[g1];exact N6 l nd
 | @stepA A B c gone done R n l q s _ j =>
  show#[59]
  ·have e:=QY.mp (N5 (n:=n) nd);refine QY.mpr ⟨QY.mpr ⟨e.1,by simp,λx hx y hy=>?_⟩,e.2.1,λx hx y hy=>?_⟩
   ·show#[qo];lia
   ·rcases Qg.mp hx with hx|hx
    ·exact e.2.2 x hx y hy
    ·have:=mem y (Qn _ hy);rw[Qe.mp hx];lia
  ·have:m∈A++B\/m=(c:Int):=by
    show#[dK,b];rcases b with(h|h)|h
    ·exact #[o7,h]
    ·exact .inr h
    ·exact .inl (.inr h)
   rcases this with h|h
   ·have:=mem m h;lia
   ·lia
  ·rcases Qg.mp b with h|h
   ·exact i m h
   ·rw[Qe.mp h];lia
  ·show#[g1];intro a ha;rcases Qg.mp ha with ha|ha
   ·exact N6 l nd a ha
   ·rw[Qe.mp ha];exact ZmJ o.2 s
 | @stepB A B c gone done R n l q s _ j =>
  show#[59]
  ·have e:=QY.mp (N5 (n:=n) nd);refine QY.mpr ⟨e.1,QY.mpr ⟨e.2.1,by simp,λx hx y hy=>?_⟩,λx hx y hy=>?_⟩
   ·have:=mem x (Qn _ hx);rw[Qe.mp hy];lia
   ·rcases Qg.mp hy with hy|hy
    ·exact e.2.2 x hx y hy
    ·show#[qo];lia
  ·have:m∈A++B\/m=(c:Int):=by
    show#[dK,b];rcases b with h|h|h
    ·exact #[o7,h]
    ·exact .inl (.inr h)
    ·exact .inr h
   rcases this with h|h
   ·have:=mem m h;lia
   ·lia
  ·rcases Qg.mp b with h|h
   ·exact i m h
   ·rw[Qe.mp h];lia
  ·show#[g1];exact N6 l nd
theorem ZoX(n:Nat):(first n).Nodup:=by
 unfold first ZX
 show#[j2];exact h #[2]
theorem N4{ss:#[y]}{k:Nat}(hk:k<=ss.length){R:#[k]}(h:#[hA]):∀d∈R,N7 ss d :=
 Zoa h #[dj,QO,ZoX,k] (by rw[QO];exact λn b=>Se b) hk #[cM,d,h] (λp x y a=>by simp at a) #[cM,n,h] (λx a=>by simp at a) (λ_ z=>absurd rfl z)
theorem Ris.far{ss:#[y]}{ns:#[i]}(h:Ris ss ns):∀ (d p:Nat) (x y:Int),ns[p]? = U x->ns[p+d+1]? = U y->ZP #[90] #[bN]=true
 | 0,p,x,y,hx,hy=>h p x y hx hy
 | d+1,p,x,y,hx,hy=>by
  have hl:p+d+1<ns.length:=by have:=(Qc.mp hy).1;lia
  have a:=Qb hl;exact Vj _ _ _ (h.far d p x _ hx a) (h (p+d+1) _ _ a hy)
theorem Ris.pw{ss:#[y]}{ns:#[i]}(h:Ris ss ns):ns.Pairwise λx y=>ZP #[90] #[bN]=true:=by refine List.pairwise_iff_getElem.mpr λi j a b jc=>?_;exact h.far (j-i-1) i _ _ (Qb a) (by rw[show i+(j-i-1)+1=j by lia];exact Qb b)
theorem ZqX{ss:#[y]}{x y:Int}(h:ZP #[90] #[bN]=true):LeS #[ax] (ss.getD y.toNat ""):=by
 by_cases e:ss.getD x.toNat "" = ss.getD y.toNat ""
 ·rw[e];exact LeS.refl _
 ·unfold kk at h;rw[ZQ,if_neg (show ¬ #[r7]=Sum.inr (ks ss y).1 from λz=>e #[r5])]at h;have a:cds #[ax]<cds (ss.getD y.toNat ""):=of_decide_eq_true h;have:=#[mM].mp a;exact Sa #[2]
theorem JO{ss:#[y]}{d:#[i]}(h:#[kB]):sortedS (YZ ss d)=true:=(UT _).mpr (List.pairwise_map.mpr (h.imp λh=>ZqX h))
theorem Zp0{ss:#[y]}{A B:#[i]}{c:Nat}{gone:#[i]}{done R:#[k]}(h:#[gL]):c<=ss.length->#[82].sum<=#[he].sum+gone.length+A.length+B.length+#[pR]:=by
 induction h with
 | stop0=>intro _;lia
 | stop=>intro _;rw[Qd,Q9,Qj,Qar,QN,List.sum_nil];lia
 | switch _ a=>intro b;have:=a b;rw[Qd,Q9,Qj,Qar,QN,List.sum_nil,List.length_nil]at this;rw[List.length_nil];lia
 | stepN l _ _ a=>intro b;have:=a b;rw[Qf,Qp,Qac l.1]at this;have:=QZ l.1;lia
 | stepA l d _ _ a=>intro b;show#[iN];lia
 | stepB l d _ _ a=>intro b;show#[iN];lia
theorem N3{ss:#[y]}{k:Nat}(hk:k<=ss.length){R:#[k]}(h:#[hA]):#[82].sum<=ss.length:=by have:=Zp0 h hk;rw[UQ,List.length_nil]at this;simp at this;lia
theorem JN:∀R:List (List Int),(∀d∈R,d≠[])->R.length<=#[82].sum
 | [],_=>Qh _
 | d::R,h=>by have:=JN R λx hx=>h x (Qu _ hx);have:=QaM.mpr (h d #[4]);rw[Qj,QN,QF];lia
def LtT(u v:ZC):Prop:=ZL (cds u.2.2) (cds v.2.2)<0\/(u.2.2=v.2.2/\(u.1<v.1\/(u.1=v.1/\u.2.1<v.2.1)))
theorem R8{a b:aj}(h:LeS a b):ZL (cds a) (cds b)<0\/a=b:=by
 by_cases e:ZL (cds a) (cds b)<0
 ·exact .inl e
 ·refine .inr (h.anti λz=>e (#[mM].mp z))
theorem N1{ss:#[y]}(h:#[rv]){i j:Nat}(a:i<=j){x y:aj}(hx:ss[i]? = U x)(hy:ss[j]? = U y):LeS x y:=by
 rcases Nat.lt_or_eq_of_le a with b|rfl
 ·have p:=(UT _).mp h;show#[nw,c,d,hx];show#[nw,e,f,hy];rw[<- d,<- f];exact Qab.mp p i j c e b
 ·rw[Qk (hx.symm.trans hy)];exact LeS.refl _
theorem Ziu{a b c:aj}(h:ZL (cds a) (cds b)<0)(g:LeS b c):ZL (cds a) (cds c)<0:=by
 rcases R8 g with g|rfl
 ·have h1:=U4 _ _ _ (Int.le_of_lt h) (Int.le_of_lt g);by_cases e:ZL (cds a) (cds c)=0
  ·have d:=U3 _ _ e;rw[<- d]at g;have:=#[m0];lia
  ·lia
 ·exact h
theorem TkW.lt{P p:#[an]}{ts:#[gV]}(h:TkW P ts p)(nd:#[af])(srt:Yg P):ts.Pairwise LtT/\∀u∈ts,∀x∈p,∀ (k:Nat) (y:aj),x.2.2<=k->x.2.1[k]? = U y->LtT u (x.1,k,y):=by
 induction h with
 | nil=>exact⟨List.Pairwise.nil,λu hu=>by cases hu⟩
 | snoc h s F =>
  rename_i ts G x z;show#[c5,H,q,F];have j:(ZG G).Nodup:=by rw[h.num];exact nd
  have r:=(h.srt nd srt).1;show#[e9,l,m,W,s];obtain⟨_,I,t,J⟩:=W;rw[WQ j l,m]at t;have K:cds z=I:=Qk t;subst K;refine⟨Qas.mpr #[oN,H,u,hu,v,L],λu hu w hw k y A d=>?_⟩
  ·rw[Qe.mp L];exact q u hu x l x.2.2 z #[gp] m
  ·show#[cK,a,c,hw];have M:#[r1].1=a.1:=by unfold Z2;split<;>rfl
   have N:#[r1].2.1=a.2.1:=by unfold Z2;split<;>rfl
   have B:a.2.2<=#[r1].2.2:=by unfold Z2;split<;>simp
   rw[N]at d;rw[M];rcases Qg.mp hu with hu|hu
   ·exact q u hu a c k y (QL B A) d
   ·rw[Qe.mp hu];by_cases C:a.1=x.1
    ·have:=Wd j c l C;subst this;have n:a.2.2+1<=k:=by
      have:(Z2 a.1 a).2.2=a.2.2+1:=by unfold Z2;show#[jc]
      lia
     rcases R8 (N1 (r a c) #[2] m d) with g|g
     ·exact .inl g
     ·exact .inr ⟨g,.inr ⟨rfl,n⟩⟩
    ·have n:a.2.2<=k:=QL B A;obtain⟨g8,_⟩:=Qc.mp d;show#[n8,o,D,a.2.1,a.2.2];have E:=N1 (r a c) n D d;have i:=WQ j c;rw[D]at i;rcases J a.1 (Qm (f:=λx:Zy=>x.1) c) _ i with e|b
     ·exact absurd e C
     ·rcases b with b|⟨b,bl⟩
      ·exact .inl (Ziu b E)
      ·have O:z=o:=JP (U3 _ _ b);rw[O];rcases R8 E with g|g
       ·exact .inl g
       ·exact .inr ⟨g,.inl bl⟩
theorem TkW.cnt{R:#[gh]}{ts:#[gV]}{P:#[an]}(h:TkW (XS R) ts P):∀x∈P,(ts.filter λu=>decide (u.1=x.1)).map (·.2.1)=List.range x.2.2:=by
 induction h with
 | nil=>intro x f;obtain⟨_,_,_,e⟩:=TF f;rw[e];rfl
 | snoc h s g =>
  rename_i ts i x z;intro w hw;have j:(ZG i).Nodup:=by rw[h.num];exact Vw _
  show#[cK,a,d,hw];have k:#[r1].1=a.1:=by unfold Z2;split<;>rfl
  rw[k,List.filter_append,Qd,g a d];by_cases b:a.1=x.1
  ·have:=Wd j d s.1 b;subst this;have c:(Z2 a.1 a).2.2=a.2.2+1:=by unfold Z2;show#[jc]
   rw[c,QaC];simp
  ·have c:#[r1].2.2=a.2.2:=by unfold Z2;rw[if_neg b]
   rw[c];have:¬ x.1=a.1:=λz=>b z.symm;simp[this]
theorem Put.sub{ss:#[y]}{R:#[k]}{out:#[i]}(h:#[rb]):∀d∈R,d.Sublist out:=λd hd=>by
 obtain⟨a,P,b,h2,rfl⟩:=h;obtain⟨i,m⟩:=Qau hd;have v:=b.left (Vw _);rw[JW,R9]at v;have w:Y1 P=0:=by lia
 have z:=b.num;obtain⟨x,c,ex⟩:∃x∈P,x.1=(i:Int):=by
  have:(i:Int)∈ZG P:=by rw[z,JY,Qa];unfold ZX;exact Qs.mpr ⟨i,Q1.mpr (Qc.mp m).1,by lia⟩
  show#[fc,x,c,e];exact⟨x,c,e⟩
 obtain⟨y,A,e1,B⟩:=b.row x c;obtain⟨j,hj,q,_⟩:=TF A;have C:j=i:=by lia
 subst C;rw[Ql,m]at q;have D:x.2.1=YZ ss d:=by rw[<- B];exact(Qk q).symm
 have Bk:x.2.1.length=d.length:=by rw[D];unfold YZ;rw[Qa]
 have di:d.length<=x.2.2:=by have:=List.flatMap_eq_nil_iff.mp (Oa w) x c;have:=List.drop_eq_nil_iff.mp this;lia
 have r:=b.cnt x c;have dR:x.2.2<=d.length:=by
  by_cases hz:x.2.2=0
  ·lia
  ·have s:x.2.2-1∈List.range x.2.2:=Q1.mpr #[2];rw[<- r]at s;show#[nB,u,n,eu,Qs.mp,s];obtain⟨E,F⟩:=List.mem_filter.mp n;obtain⟨G,f,_,H,_⟩:=Vv b E;have o:u.1=x.1:=of_decide_eq_true F;have:u.1.toNat=j:=by rw[o,ex];rfl
   rw[this,m]at f;have:d=G:=Qk f;subst this;have:=(Qc.mp H).1;lia
 have I:x.2.2=d.length:=by lia
 have t:(#[bO].map (YU R)).Sublist (a.map (YU R)):=List.Sublist.map _ List.filter_sublist;have J:#[bO].map (YU R)=d:=by
  have K:#[bO].map (YU R)=(#[bO].map (·.2.1)).map λg=>d.getD g 0:=by
   rw[QA];refine QJ λu n=>?_;have o:u.1=x.1:=of_decide_eq_true (List.mem_filter.mp n).2;unfold YU;have:u.1.toNat=j:=by rw[o,ex];rfl
   rw[this];show ((R.getD j []).getD u.2.1 0)=d.getD u.2.1 0;rw[Qq (l:=R),m];rfl
  rw[K,r,I];refine Qat λk=>?_;rw[Ql];by_cases p:k<d.length
  ·rw[Qaw p,Qb p];simp[List.getD_eq_getElem?_getD,List.getElem?_eq_getElem p]
  ·rw[QM #[dv,Qal],QM #[2]];rfl
 rw[J]at t;exact t
noncomputable def Wt(R:#[k])(P:#[an]):List Int:=P.flatMap λx=>(R.getD x.1.toNat []).drop x.2.2
theorem JM(R:#[k]):∀ (P:List Zy),#[k2].Nodup->∀ {x:Zy} {n:Int},x∈P->(R.getD x.1.toNat [])[x.2.2]? = U n->(n::Wt R #[po]).Perm (Wt R P)
 | [],_,_,_,h,_=>by cases h
 | y::P,nd,x,n,h,a=>by
  show#[eB,Wt];rcases QG.mp h with rfl|h
  ·have e:#[km]:=by
    conv=>rhs;rw[<- List.map_id P]
    refine QJ λu c=>?_;unfold Z2;rw[if_neg (λz:u.1=x.1=>nd.1 (z ▸ Qm (f:=#[sN]) c))];rfl
   show#[nw,d,g,a];rw[e,List.drop_eq_getElem_cons d,g];unfold Z2;show#[jc];exact Qaj _
  ·have b:=JM R P nd.2 h a;show#[eU,Wt,b,b.append_left]
theorem Put.perm{ss:#[y]}{R:#[k]}{out:#[i]}(h:#[rb]):out.Perm R.flatten:=by
 obtain⟨b,P,f,h2,rfl⟩:=h;have g:∀ {b:List ZC} {P:List Zy},TkW #[gz] b P->(b.map (YU R)++Wt R P).Perm (Wt R #[gz]):=by
  intro b P h;induction h with
  | nil=>exact Qaj _
  | snoc h s o =>
   rename_i b l x z;have p:(ZG l).Nodup:=by rw[h.num];exact Vw _
   have q:=Vv (TkW.snoc h s) (u:=#[f9]) (Qn _ (Qe.mpr rfl));obtain⟨d,c,_,r,_⟩:=q;have a:(R.getD x.1.toNat [])[x.2.2]? = U (YU R #[f9]):=by
    have:R.getD x.1.toNat []=d:=by rw[Qq];show (R[x.1.toNat]?).getD []=d;rw[c];rfl
    rw[this];exact r
   rw[Qd,Q4];exact((JM R l p s.1 a).append_left _).trans o
 have t:=f.left (Vw _);rw[JW,R9]at t;have v:Y1 P=0:=by lia
 have w:Wt R P=[]:=by
  unfold Wt;refine List.flatMap_eq_nil_iff.mpr λx m=>?_;have k:=List.drop_eq_nil_iff.mp (List.flatMap_eq_nil_iff.mp (Oa v) x m);obtain⟨y,A,B,C⟩:=f.row x m;obtain⟨j,D,a,_⟩:=TF A;rw[Ql]at a;cases c:R[j]? with
  | none=>rw[c]at a;cases a
  | some d =>
   rw[c]at a;have E:YZ ss d=x.2.1:=by rw[<- C];exact Qk a
   have F:x.1.toNat=j:=by rw[<- B,D];rfl
   refine List.drop_eq_nil_iff.mpr ?_;rw[F,Qq,c];show d.length<=_;rw[<- E]at k;unfold YZ at k;rwa [Qa]at k
 have n:=g f;rw[w,QO]at n;refine n.trans ?_;have e:Wt R #[gz]=R.flatten:=by
  unfold Wt;rw[List.flatMap_def];congr 1;refine Qat λi=>?_;rw[Ql,JX,Ql];cases a:R[i]? with
  | none=>rfl
  | some d=>show U (((R.getD ((i:Int).toNat) []).drop 0))=U d;rw[Qak,Qq,a];rfl
 rw[e]
theorem Put.ris{ss:#[y]}{R:#[k]}{out:#[i]}(h:#[rb])(s:∀d∈R,d.Pairwise λx y=>ZP #[90] #[bN]=true)(ha:R.Pairwise λd e=>∀b∈d,∀a∈e,ss.getD a.toNat "" = ss.getD b.toNat ""->b<a):out.Pairwise λx y=>ZP #[90] #[bN]=true:=by
 obtain⟨t,P,j,h2,rfl⟩:=h;have B:#[k9]:=λd f=>by obtain⟨x,c,rfl⟩:=Qs.mp f;exact JO (s x c)
 have C:=(j.lt (Vw _) (JV B)).1;refine List.pairwise_map.mpr ((List.pairwise_iff_forall_sublist.mpr λ{u v} k=>?_));have D:u∈t:=k.subset #[4];have E:v∈t:=k.subset #[4];have F:LtT u v:=List.pairwise_iff_forall_sublist.mp C k;obtain⟨d,f,u0,w,l⟩:=Vv j D;obtain⟨e,m,v0,A,n⟩:=Vv j E;rcases F with g|⟨G,i⟩
 ·unfold kk;rw[ZQ,if_neg (show ¬ (Sum.inr (ks ss (YU R u)).1:Key)=Sum.inr (ks ss (YU R v)).1 from λz=>by have o:#[ht]:=Sum.inr.inj z;rw[l,n]at o;rw[o,Wh]at g;lia)];refine decide_eq_true ?_;show cds (ss.getD (YU R u).toNat "")<cds (ss.getD (YU R v).toNat "");rw[l,n];exact#[mM].mpr g
 ·have p:#[ht]:=by rw[l,n,G]
  have H:YU R u<YU R v:=by
   rcases i with i|⟨i,I⟩
   ·have J:u.1.toNat<v.1.toNat:=by lia
    show#[nQ,q,f,r,m];have:=Qab.mp ha _ _ l1 l2 J;rw[q,r]at this;exact this _ (Qo w) _ (Qo A) p.symm
   ·have K:u.1.toNat=v.1.toNat:=by rw[i]
    rw[K,m]at f;have:e=d:=Qk f;subst this;show#[nQ,q,w,r,A];have c:=Qab.mp (s e (Qo m)) _ _ l1 l2 I;rw[q,r]at c;unfold kk at c;rw[ZQ,if_pos #[bx],ZQ]at c;split at c
    ·cases c
    ·exact of_decide_eq_true c
  unfold kk;rw[ZQ,if_pos #[bx],ZQ,if_neg (show ¬ (Sum.inl (ks ss (YU R u)).2:Key)=Sum.inl (ks ss (YU R v)).2 from λz=>by have o:YU R u=YU R v:=#[kC];lia)];exact decide_eq_true H
abbrev Xj(ss:#[y])(d:#[i]):Prop:=#[kB]
abbrev ApP(ss:#[y])(d e:#[i]):Prop:=∀b∈d,∀a∈e,ss.getD a.toNat "" = ss.getD b.toNat ""->b<a
noncomputable def lvR(R:#[k])(a:#[i]):List #[iZ]:=a.map λi=>R.getD i.toNat []
theorem R7(R:#[k])(a b:#[i]):lvR R (a++b)=lvR R a++lvR R b:=by unfold lvR;rw[Qd]
mutual
theorem Yo.srt{ss:#[y]}{R:#[k]}(e:∀d∈R,Xj ss d):∀ {t:PT} {o:List Int},Yo ss R t o->(lvR R #[m5]).Pairwise (ApP ss)->Xj ss o/\o.Perm (lvR R #[m5]).flatten
 | .leaf i,_,.leaf,_=>by
  refine#[sM]
  ·rw[Qq];cases hx:R[i.toNat]? with
   | none=>exact List.Pairwise.nil
   | some d=>exact e d (Qo hx)
  ·show#[bw]
 | .node l,o,.node h p,ha=>by obtain⟨a,b,c⟩:=YR.srt e h ha;exact⟨p.ris a b,p.perm.trans c⟩
theorem YR.srt{ss:#[y]}{R:#[k]}(a:∀d∈R,Xj ss d):∀ {l:List PT} {os:List (List Int)},YR ss R l os->#[tb].Pairwise (ApP ss)->(∀o∈os,Xj ss o)/\os.Pairwise (ApP ss)/\os.flatten.Perm #[tb].flatten
 | [],_,.nil,_=>⟨λo h=>(by cases h),List.Pairwise.nil,Qaj _⟩
 | t::l,_,.cons (o:=o) (os:=os) h f,ha=>by
  have g:(lvR R #[m5]++lvR R (Y3 l)).Pairwise (ApP ss):=by rw[<- R7];exact ha
  show#[nB,a1,a2,a3,List.pairwise_append.mp,g];obtain⟨i,c⟩:=Yo.srt a h a1;obtain⟨j,k,q3⟩:=YR.srt a f a2;refine⟨λx hx=>?_,List.pairwise_cons.mpr ⟨λe m b n x hx=>?_,k⟩,?_⟩
  ·rcases QG.mp hx with rfl|hx
   ·exact i
   ·exact j x hx
  ·obtain⟨p,q,r⟩:=List.mem_flatten.mp (c.mem_iff.mp n);obtain⟨s,u,v⟩:=List.mem_flatten.mp (q3.mem_iff.mp (List.mem_flatten.mpr ⟨e,m,hx⟩));exact a3 p q s u b r x v
  ·show#[f2];exact c.append q3
end
mutual
theorem Yo.any{ss:#[y]}{R:#[k]}:∀ {t:PT} {o:List Int},Yo ss R t o->o.Perm (lvR R #[m5]).flatten/\∀d∈lvR R (tLv t),d.Sublist o
 | .leaf i,_,.leaf=>by
  show#[eY,?_,d,hd]
  ·show#[bw]
  ·have:d=R.getD i.toNat []:=Qe.mp hd;rw[this];exact List.Sublist.refl _
 | .node l,o,.node h p=>by obtain⟨a,b⟩:=YR.any h;refine⟨p.perm.trans a,λd hd=>?_⟩;obtain⟨x,c,e⟩:=b d hd;exact e.trans (p.sub x c)
theorem YR.any{ss:#[y]}{R:#[k]}:∀ {l:List PT} {os:List (List Int)},YR ss R l os->os.flatten.Perm #[tb].flatten/\∀d∈lvR R (Y3 l),∃o∈os,d.Sublist o
 | [],_,.nil=>⟨Qaj _,λd h=>by cases h⟩
 | t::l,_,.cons (o:=o) (os:=os) h a=>by
  obtain⟨b,c⟩:=Yo.any h;obtain⟨e,f⟩:=YR.any a;show#[eY,?_,d,g]
  ·show#[f2];exact b.append e
  ·have hd':d∈lvR R #[m5]++lvR R (Y3 l):=by rw[<- R7];exact g
   rcases Qg.mp hd' with hd'|hd'
   ·exact⟨o,QV ..,c d hd'⟩
   ·obtain⟨x,i,j⟩:=f d hd';exact⟨x,Qu _ i,j⟩
end
theorem UN(R:#[k]):lvR R #[aK]=R:=by
 unfold lvR;refine Qat λi=>?_;unfold ZX;rw[Ql,Ql];by_cases h:i<R.length
 ·rw[Qaw h,Qb h];simp[List.getD_eq_getElem?_getD,List.getElem?_eq_getElem h]
 ·rw[QM #[dv,Qal],QM #[2]];rfl
theorem JL{ss:#[y]}{a b:#[i]}(ha:Xj ss a)(hb:Xj ss b)(p:a.Perm b):a=b:=List.Perm.eq_of_pairwise (λx y _ _ h1 h2=>by have:ZP #[90] #[90]=true:=Vj _ _ _ h1 h2;have c:=Vk #[90];rw[c]at this;cases this) ha hb p
theorem Zr2{ss:#[y]}{a:#[i]}(ha:Xj ss a):a.Nodup:=ha.imp λ{x y} h e=>by rw[e]at h;have b:=Vk #[bN];rw[b]at h;cases h
structure R6 (ss:#[y]) (R:#[k]):Prop where
 rg:∀d∈R,V9 ss d
 lex:∀d∈R,Xj ss d
 ap:R.Pairwise (ApP ss)
 pm:R.flatten.Perm #[f5]
theorem R5:∀R:List (List Int),R.flatten.length=#[82].sum
 | []=>rfl
 | d::R=>by rw[List.flatten_cons,Qf,Qj,QN,R5 R]
theorem JK(n:Nat):(ZX 0 n).Nodup:=(Sz n).imp λh=>by lia
theorem JJ{ss:#[y]}{room:Nat}(k:1<=room){R:#[k]}(h:#[pG]):R6 ss R:=by
 have e:=N4 #[sa] h;have l:=N3 #[sa] h;have n:=Zpv k h;have f:R.flatten.Perm #[f5]:=(Rp (JK _) (λx g=>by unfold ZX at g;obtain⟨m,o,rfl⟩:=Qs.mp g;have:=Q1.mp o;obtain⟨d,c,p⟩:=n (0+(m:Int)) #[2] #[2];exact List.mem_flatten.mpr ⟨d,c,p⟩) (by rw[R5,XN];exact l)).symm;have nd:R.flatten.Nodup:=f.nodup_iff.mpr (JK _);have q:=(List.pairwise_flatten.mp nd).2;refine⟨λd c=>⟨(e d c).2.2,JO (e d c).2.1.pw⟩,λd c=>(e d c).2.1.pw,?_,f⟩;refine((Zmk h).and q).imp λr b i a j s=>?_;show#[c5,t,u,r];have cj:b≠a:=u b i a j;by_cases v:a<b
 ·exact absurd s (t b i a j v)
 ·lia
mutual
theorem N0{n:Nat}:∀t:PT,(∀k∈tLv t,0<=k/\k<(n:Nat))->tOk n t
 | .leaf k,h=>h k (Qe.mpr rfl)
 | .node l,h=>JI l h
theorem JI{n:Nat}:∀l:List PT,(∀k∈Y3 l,0<=k/\k<(n:Nat))->UP n l
 | [],_=>trivial
 | t::r,h=>⟨N0 t λk hk=>h k (Qr _ hk),JI r λk hk=>h k (Qn _ hk)⟩
end
mutual
theorem JH{w:Nat}(hw:w<=60):∀t:PT,tPl w t->tPl 60 t
 | .leaf _,_=>trivial
 | .node l,h=>⟨h.1,QL h.2.1 hw,JG hw l h.2.2⟩
theorem JG{w:Nat}(hw:w<=60):∀l:List PT,X0 w l->X0 60 l
 | [],_=>trivial
 | t::r,h=>⟨JH hw t h.1,JG hw r h.2⟩
end
mutual
theorem JF{w:Nat}:∀t:PT,tPl w t->tDp t+1<=#[m5].length
 | .leaf _,_=>Qh _
 | .node l,h=>by have h2:2<=l.length:=h.1;have:=JE l h.2.2 #[2];show XF l+1+1<=(Y3 l).length;lia
theorem JE{w:Nat}:∀l:List PT,X0 w l->1<=l.length->XF l+l.length<=(Y3 l).length
 | [],_,h=>absurd h #[6]
 | t::r,h,_=>by
  have h1:=JF t h.1;have h2:=TK w r h.2;show max (tDp t) (XF r)+(r.length+1)<=#[kI].length;rw[Qf];by_cases a:r=[]
  ·subst a;have:XF []=0:=rfl;simp only[List.length_nil];lia
  ·have h3:=JE r h.2 (QaM.mpr a);lia
end
theorem Zp9(n:Nat):Yq 0 n=ZX 0 n:=by unfold Yq ZX;rw[Nat.sub_zero];refine QJ λi _=>by lia
theorem Zog{ss:#[y]}{R:#[k]}(h:R6 ss R){ns:#[i]}{b:Nat}{p:Int}{t:PT}(i:ns.length=R.length)(hw:b<=6)(g:Gr ns b 0 ns.length 1 p [t]) :
  tOk R.length t/\tPl 60 t/\wtR R #[m5]=ss.length/\tDp t+1<=R.length/\tCo ns t=p/\∀out,Yo ss R t out->Xj ss out/\out.Perm #[f5]:=by
 show#[c5,j,l,g.nf];have a:tLv t=ZX 0 R.length:=by have:tLv t++[]=Yq 0 ns.length:=j;rw[QO,Zp9,i]at this;exact this
 have d:tPl b t:=l.1;have f:=JF t d;rw[a,XN]at f;refine⟨N0 t λk c=>?_,JH #[2] t d,?_,f,?_,λout n=>?_⟩
 ·rw[a]at c;unfold ZX at c;show#[cK,m,o,c];have:=Q1.mp o;lia
 ·rw[a];have e:#[il]:=by unfold wtR lvR;rw[QA];rfl
  rw[e,UN,<- R5,h.pm.length_eq,XN]
 ·have:tCo ns t+0=p:=g.co;lia
 ·have:=Yo.srt h.lex n #[sD];show#[j0]
noncomputable def V8(R:#[k]):List Int:=R.map λd=>(d.length:Int)
def Ztq(ss:#[y])(R:#[k])(a:Nat)(p:Int):Prop:=(R=[]/\p=0)\/(R≠[]/\∃t,Gr (V8 R) a 0 (V8 R).length 1 p [t])
def ZrH(K:#[7]):Sp:=λvs H Q _=>X4 λ(a:ae) (ss:List aj) (room c:Nat)=>vs=[.ref a,.int room,.int c]/\H a=U #[mo]/\ss.length<=60/\#[fd,ss,1000]/\1<=room/\room<=100/\2<=c/\c<=6 /\
 ∀ (t b:ae) (out:List Int) (p:Int) (R:List (List Int)) (d:Hp),d t=U (.tup #[ft,b,p])->d b=U #[d8,out.map]->Xj ss out->out.Perm #[f5]->Res ss #[fT] [] #[iH] [] [] R->Ztq ss R c p->Zw H d->Q #[i9] d
theorem Zqw(T:#[n])(dG:Df P w K mg base 5 "runs_of" #[i5] (Ko K))(dn:Df P w K mg base 4 "near_plan" #[bB] (JZ K))(b8:Df P w K mg base (61+17) "merged_by" #[gg] (JR 61)):Df P w K mg base 79 "sort_by" #[iq] (ZrH K):=by
 show#[cE,T.t_sort_by.df,SU,vs,F];obtain⟨a,l,room,G,rfl,N,O,S,r1,r2,w2,W,q⟩:=h;refine⟨_,#[Zg,#[ZB,3,SU.nd,#[3],#[tS,dG,F]],#[Zg,#[Y0,#[Zm,YG,#[dT,3],#[Zi],#[h4]],#[Zj,#[Zn,#[ZO,#[Zc,#[Ym,#[Zc]],#[Zi]]]]],#[ZM]],#[Zg,#[Yv,#[ZE,dn,F,#[Zc,#[Yd,SO,#[iL,K,‹3›],#[di,6,SO],#[J],(λ_ _ _ _=>#[Zk,(YX K),#[tQ,SO],T.b.n_len,Qv,#[Zc,#[cw,6,SO]]])],‹2›],#[5]],#[nu,4,SU.nd,5]],#[Zj,#[Zn,#[ZO,#[Zc,#[ZE,b8,F,#[ey,0,3,5],#[5]],‹4›]]]]]]],?_⟩;refine⟨_,rfl,_,rfl,a,l,room,rfl,SqL.of N,O,λs hs=>(S s hs).1,r2,λr c R H1 cq n kj wD I j _ _ X=>?_⟩;have J:=JJ r1 j;have Y:(c.map V.ref).length=R.length:=by rw[Qa];exact I.len
 have hRl:R.length<=60:=by have h1:=JN R λd hd=>(N4 #[sa] j d hd).1;have h2:=N3 #[sa] j;lia
 show#[ef,r,n]
 ·have h0:R=[]:=by have:=#[rE];exact QP #[2]
  subst h0;have Bv:l.length=0:=by have:=J.pm.length_eq;rw[XN]at this;exact this.symm
  refine⟨#[29],λb e=>⟨#[w],λt ht=>?_⟩⟩;have k:=Zh e #[av];have u:=Zh ht (.tup #[ft,b,0]);refine q t b [] 0 [] _ Zb (u _ _ Zb) List.Pairwise.nil ?_ j (.inl #[aR]) (X.trans (k.trans u));rw[Bv];exact Qaj _
 ·have Z:R≠[]:=λz=>d (decide_eq_true (by rw[Y,z];rfl));have hRp:=QaM.mpr Z;show#[c1,r,n,D,hD];refine WT (K:=K) (a:=r) (xs:=c.map V.ref) (λi zs L B=>(∃v:Option V,L=[U #[61],U #[tz],U (.int G),U #[83],af,af,v])/\zs=(V8 (R.take i)).map V.int/\i<=c.length/\B D=U #[bl]/\Zw H1 B) ?_ #[cJ,n] ?_ ?_
  ·show#[dL,hD]
  ·rintro i y zs L B m ⟨⟨v,rfl⟩,rfl,hi,C,k⟩;rw[Ql]at m;cases e:c[i]? with
   | none=>rw[e]at m;cases m
   | some b =>
   show#[nV,e,m,c.length];show#[nB,d',g,jw,I.at,e];refine⟨_,rfl,b,_,rfl,.inl (SqL.of (k _ _ jw)),C,(by unfold V8;rw[Qa,Qa,QC,aG];lia),#[H],?_,ce,Zb,λx o hx=>?_⟩
   ·unfold V8;rw[QE,g,Qd,Qd,Qa];rfl
   ·show#[nv,hx,hD,k,x,o]
  show#[fu,L,B,v,C,k];rw[show (c.map V.ref).length=R.length from Y,Qw #[gp]]at C;have iV:(V8 R).length=R.length:=by unfold V8;rw[Qa]
  refine⟨_,rfl,D,V8 R,G,rfl,SqL.of C,by lia,by lia,λv hv=>?_,w2,W,λt0 x p t H3 CL Bw sN hG u=>?_⟩
  ·unfold V8 at hv;show#[cK,d',g,hv];obtain⟨i,hi⟩:=Qau g;have h1:=UO hi;have h2:=N3 #[sa] j;lia
  obtain⟨g1,g2,g3,g4,g5,g6⟩:=Zog J iV W hG;have M:=k.trans u;have wF:=X.trans M;have I3:Vu H3 a r l c R:=⟨wF _ _ N,O,S,M _ _ n,Rd.mono #[tO,ho,M] I,J.rg⟩;refine⟨t0,_,rfl,SqT.of Bw,rfl,_,_,rfl,_,_,rfl,rfl,_,rfl,_,rfl,_,rfl,a,r,l,c,R,x,t,rfl,I3,sN,g1,g2,by lia,by lia,λb out H4 pT e hp s4=>?_⟩;obtain⟨k1,k2⟩:=g6 out hp;refine⟨_,rfl,#[w],λtt mM=>?_⟩;have s5:=Zh mM (.tup #[ft,b,p]);exact q tt b out p R _ Zb (s5 _ _ e) k1 k2 j (.inr ⟨Z,t,hG⟩) (wF.trans (s4.trans s5))
def ZrJ(K:#[7]):Sp:=λvs H Q _=>X4 λ(a t:ae) (ss:List aj) (ns:List Int)=>vs=#[nZ,a,t]/\H a=U #[mo]/\ss.length<=60/\H t=U #[ty]/\Xj ss ns/\ns.Perm #[f5]/\∀b,Zw H b->Q #[pr] b
theorem Zqg{ss:#[y]}{ns:#[i]}(h:Xj ss ns):Ris ss ns:=λp x y hx hy=>by obtain⟨a,b⟩:=Qc.mp hx;obtain⟨c,d⟩:=Qc.mp hy;have:=Qab.mp h p (p+1) a c #[2];rwa [b,d]at this
theorem Zqh(T:#[n])(p:Df P w K mg base 2 "is_run" #[aN] (J8 K)):Df P w K mg base 3 "is_sorted" #[aN] (ZrJ K):=by
 show#[cE,T.t_is_sorted.df,Zid,r,u];obtain⟨a,t,b,c,rfl,g,fZ,e,v,l,q⟩:=h;refine⟨_,#[Zg,#[Y0,#[nG,YG,#[r]],#[Zj,#[Zn,(@UK _ _ _ _ _ _ _ #[bu] (@Tx _ _ _ _ _ #[WY,YG,#[18],#[Zi],#[h4]]))]],#[ZM]],#[Zj,#[Zn,(@UK _ _ _ _ _ _ _ #[tS,p,u] (@Tx _ _ _ _ _ #[WY,YG,#[18],#[r],#[h4]]))]]],?_⟩;have i:c.length=b.length:=by rw[l.length_eq,XN]
 show#[ef,a,g]
 ·have j:b.length=0:=by have:=#[rE];rw[Qa]at this;lia
  refine⟨_,rfl,_, "list",_,_,rfl,.lst e,Lv K,_,rfl,Wl ⟨_,rfl,t,_,rfl,.inl (SqL.of e),rfl,?_⟩⟩;show Q (V.bl (decide (V.int #[o3,c.map]=V.int 0))) H;rw[decide_eq_true (by rw[Qa,i,j];rfl)];exact q H (Zw.refl _)
 ·have j:b.length≠0:=λz=>d (decide_eq_true (by rw[Qa,z];rfl));refine⟨_,rfl,_,rfl,a,t,b,c,rfl,SqL.of g,e,by lia,λn x=>?_,λ_ o k=>?_,λy=>?_⟩
  ·have:=l.mem_iff.mp x;unfold ZX at this;obtain⟨m,B,rfl⟩:=#[rH];have:=Q1.mp B;lia
  ·refine⟨_,rfl,Wl ⟨_,rfl,t,_,rfl,.inl (SqL.of (k _ _ e)),_,rfl,a,_,rfl,.inl (SqL.of (k _ _ g)),rfl,?_⟩⟩;show Q (V.bl (decide (V.int #[o3,c.map]=V.int #[cU,b.map,V.str]))) o;rw[decide_eq_true (by rw[Qa,Qa,i])];exact q o k
  ·exact absurd ⟨λz=>j (by rw[<- i,z];rfl),Zqg v⟩ y
theorem Zni{ss:#[y]}{ns:#[i]}(hl:ns.length=ss.length)(hm:∀n∈ns,0<=n/\n<ss.length)(h:Ris ss ns):Xj ss ns/\ns.Perm #[f5]:=by refine⟨h.pw,Rp (Zr2 h.pw) (λx a=>?_) #[dv,XN]⟩;have:=hm x a;unfold ZX;exact Qs.mpr ⟨x.toNat,Q1.mpr #[2],by lia⟩
abbrev XD:=List (ae×Int×Option aj)
noncomputable def JD:Option aj->V
 | none=>.non
 | some z=>.str z
noncomputable def ZtS:Option aj->ax
 | none=>.none
 | some z=>.str z
noncomputable def UM(a:XD):List V:=a.map λh=>V.ref h.1
def AtH(H:Hp)(a:XD):Prop:=∀h∈a,H h.1=U (.tup [.int h.2.1,JD h.2.2])
noncomputable def WM(a:XD):List (aj×Int):=a.filterMap λh=>h.2.2.map λz=>(z,h.2.1)
theorem AtH.mono{H a:Hp}{b:XD}(h:AtH H b)(s:Zw H a):AtH a b:=λx hx=>s _ _ (h x hx)
def JC(E:#[cr])(v:V):Prop:=(E=[]/\v=.non)\/∃e∈E,(∀u∈E,ZP (kk u) (kk e)=false)/\v=.int e.2
theorem Zkz(a:XD)(i:Nat){h:#[mX]}(e:a[i]? = U h):WM (a.take (i+1))=WM (a.take i)++(match h.2.2 with|none=>[]|some z=>[(z,h.2.1)]):=by
 unfold WM;rw[QE,e,List.filterMap_append];congr 1;cases b:h.2.2 with
 | none=>simp[b]
 | some z=>simp[b]
theorem ZpG{a:XD}{i:Nat}{x:V}(h:(UM a)[i]? = U x):∃y,a[i]? = U y/\x=.ref y.1:=by
 show#[tW,UM,h];cases b:a[i]? with
 | none=>rw[b]at h;cases h
 | some y=>rw[b]at h;cases h;exact⟨y,rfl,rfl⟩
def TD(E:#[cr])(zs:#[jr])(a H:Hp):Prop:=∃ts:YO,zs=Z7 ts/\AtT H ts/\ts.map #[f6]=E.map kk/\∀t∈ts,a t.1=af
theorem ZoJ{E:#[cr]}{zs:#[jr]}{b H c:Hp}{e:aj×Int}{n:ae}(m:TD E zs b H)(k:#[dE,a,xs,H,#[71],c])(d:c n=U #[fA,e.1,e.2])(h0:b n=af):TD (E++[e]) (zs++[.ref n]) b c:=by
 obtain⟨f,rfl,g,h,i⟩:=m;refine⟨f++[(n,kk e)],?_,λt ht=>?_,?_,λt ht=>?_⟩
 ·unfold Z7;rw[Qd];rfl
 ·rcases Qg.mp ht with ht|ht
  ·exact k _ _ (g t ht)
  ·rw[Qe.mp ht];exact d
 ·rw[Qd,Qd,h];rfl
 ·rcases Qg.mp ht with ht|ht
  ·exact i t ht
  ·rw[Qe.mp ht];exact h0
theorem TD.shape{E:#[cr]}{ts:YO}(a:#[kz]):∀t∈ts,L2.shape t.2=#[q9]:=λt ht=>by
 have:t.2∈E.map kk:=by rw[<- a];exact Qm ht
 obtain⟨e,_,b⟩:=#[rH];rw[<- b];rfl
theorem Zm7{E:#[cr]}{ts:YO}(a:#[kz]){t:ae×List Key}(ht:t∈ts)(hm:∀u∈ts,ZP u.2 t.2=false):∃e∈E,t.2=kk e/\∀u∈E,ZP (kk u) (kk e)=false:=by
 have:t.2∈E.map kk:=by rw[<- a];exact Qm ht
 show#[fc,e,c,b];refine⟨e,c,b.symm,λu d=>?_⟩;have:kk u∈ts.map #[f6]:=by rw[a];exact Qm d
 show#[fc,f,g,h];rw[<- h,b];exact hm f g
def JB(K:#[7]):Sp:=λvs H Q _=>X2 λ(a:ae) (b:XD)=>vs=#[iF]/\SqL K H a (UM b)/\AtH H b/\b.length<=100/\∀ (v:V) (c:Hp),JC (WM b) v->Zw H c->Q v c
theorem ZqB(T:#[n]):Df P w K mg base 1 "next_of" ["heads"] (JB K):=by
 show#[cE,T.t_next_of.df,LG,O,R];obtain⟨a,c,rfl,C,S,hn,q⟩:=h;refine⟨_,#[Zg,#[ZB,1,LG.nd,#[3],(@ZpC _ _ _ _ _ _ _ _ K R #[5] T.b.n_min #[Zc,#[Yd,Vb,#[si],#[cQ,2,Vb,3],(λ_ _ _ _=>(@ZpS _ _ _ #[Zm,Tt,#[cw,3,Vb],#[YN],#[h4]])),#[nq,3,Vb,2]]] #[YN] #[5] #[5] #[5] #[5])],#[Zj,#[Zn,#[Xz,#[ov,1],#[YN],#[df,ixT,1]]]]],?_⟩;refine⟨_,rfl,a,rfl,⟨_,C⟩,λD F=>?_⟩;refine Zkw (K:=K) (a:=a) (xs:=UM c) (λi zs p j=>(X2 λr u:Option V=>p=[U #[61],af,r,u])/\TD (WM #[pl]) zs H j/\zs.length<=i/\i<=c.length/\j D=U #[bl]/\Zw H j) ?_ (λ_ _ _ _ h=>h.2.2.2.2.2.seq C) ?_ ?_
 ·exact⟨⟨af,af,rfl⟩,⟨[],rfl,λt h=>(by cases h),rfl,λt h=>(by cases h)⟩,Qh _,Qt _,Zb,Zh F _⟩
 ·rintro i x zs p j W ⟨⟨r,u,rfl⟩,m,X,Y,k,d⟩;obtain⟨h,v,rfl⟩:=ZpG W;have G:i<c.length:=(Qc.mp v).1;have Z:=S.mono d h (Qo v);show#[dm,h.1,Z];have kt:=Zkz c i v;cases I:h.2.2 with
  | none=>rw[I]at kt;refine⟨_,rfl,rfl,_,rfl,UC rfl ⟨⟨_,_,rfl⟩,?_,by lia,G,k,d⟩⟩;rw[kt,QO];exact m
  | some z =>
   rw[I]at kt;refine⟨_,rfl,rfl,_,rfl,Pa (by intro e;cases e) ?_⟩;refine⟨_,rfl,_,rfl,#[w],λn y=>?_⟩;have B:=Zh y #[fA,z,h.2.1];show#[oq,J,B,k,y];refine⟨J,ZK #[2],#[iK],?_,by rw[Qf,Qp];lia,G,Zb,λb o l=>?_⟩
   ·rw[kt];refine ZoJ m #[oW,b,xs,l] ?_ (d.free y)
    ·exact WC J _ b xs (B _ _ l)
    ·rw[Ze eZ.symm];exact Zb
   ·show#[c6,l,F,B,d,b]
 ·rintro zs p j ⟨⟨r,u,rfl⟩,⟨ts,rfl,L,g,io⟩,X,Y,k,d⟩;rw[show (UM c).length=c.length from Qa _,Qw #[gp]]at g;refine⟨D,ts,#[q9],rfl,SqL.of k,L,TD.shape g,λh0=>?_,λt M hm=>?_⟩
  ·refine⟨_,rfl,rfl,_,rfl,Xv rfl (q _ _ (.inl ⟨?_,rfl⟩) d)⟩;rw[h0]at g;cases hk:WM c with
   | nil=>rfl
   | cons _ _=>rw[hk]at g;cases g
  ·obtain⟨e,he,h2,dX⟩:=Zm7 g M hm;have N:=L t M;rw[h2]at N;refine⟨_,rfl,rfl,_,rfl,Xp (by intro z;cases z) ⟨_,rfl,t.1,_,_,_,rfl,rfl,SqT.of N,rfl,q _ _ (.inr ⟨e,he,dX,rfl⟩) d⟩⟩
noncomputable def headD(h:#[mX]):ax:=.tuple [.int h.2.1,ZtS h.2.2]
noncomputable abbrev Tri:=Int×Int×Int
abbrev KE:=#[cr]
noncomputable def q3(e:Tri):List Key:=[.inl e.1,.inl e.2.1,.inl e.2.2]
theorem ZmC{c:XD}{e:aj×Int}(he:e∈WM c):∃h∈c,h.2.1=e.2/\h.2.2=U e.1:=by
 show#[nB,h,d,a,List.mem_filterMap.mp,he];cases b:h.2.2 with
 | none=>rw[b]at a;cases a
 | some z=>rw[b]at a;cases a;exact⟨h,d,rfl,b⟩
def R4(K:#[7]):Sp:=λvs H Q _=>X2 λ(a:ae) (ns:List Int)=>vs=#[iF]/\SqL K H a #[z]/\ns.length<=63/\∀b,Q #[pr] b
noncomputable def hgt(m:Nat):Nat:=if m<=1 then 0 else (m-1).log2+1
theorem Zph(m:Nat)(h:1<m):hgt m=hgt ((m+1) / 2)+1:=by
 unfold hgt;show#[jY];by_cases a:m=2
 ·subst a;decide
 ·rw[if_neg #[2],Nat.log2_def (m-1),if_pos #[2]];rw[show (m+1) / 2-1=(m-1) / 2 by lia]
theorem Zl1:∀ (a b:Nat),a<=b->a.log2<=b.log2:=λa b h=>by
 by_cases c:a=0
 ·subst c;simp
 ·exact(Nat.le_log2 #[2]).mpr (QL (Nat.log2_self_le c) h)
theorem Zol(a b:Nat)(h:a<=b):hgt a<=hgt b:=by
 unfold hgt;by_cases c:a<=1
 ·rw[if_pos c];lia
 ·show#[e7,c,#[2]];have:=Zl1 (a-1) (b-1) #[2];lia
theorem JA:∀ (f:Nat) (ns:List Int) (n:Int),ns.length<=f+1->(way ns n).length<=hgt ns.length
 | 0,ns,n,h=>by rw[TU #[2]];exact Qt _
 | f+1,ns,n,h=>by
  by_cases h1:1<ns.length
  ·have a:=TW (n:=n) h1;have ih:=JA f #[pZ] n #[2];have b:hgt #[pZ].length<=hgt ((ns.length+1) / 2):=by
    apply Zol;unfold X1;split
    ·rw[OB];lia
    ·rw[OA];lia
   rw[Oy h1,QF,Zph _ h1];lia
  ·rw[TU #[2]];exact Qt _
theorem ZoO(m:Nat)(h:0<m):((aT.Int.intBits #[qb]:Nat):Int)=(hgt m:Nat):=by
 unfold aT.Int.intBits hgt;have e:#[qb].natAbs=m-1:=by lia
 by_cases b:m<=1
 ·have a:(m:Int)-1=0:=by lia
  rw[if_pos b,a];rfl
 ·have a:(#[qb] == 0)=false:=by simpa using (by lia:¬ (m:Int)-1=0)
  rw[if_neg b,a,e];rfl
def NZ:Sp:=λvs H Q _=>∃m:Nat,vs=[.int m]/\Q (.int (hgt m:Nat)) H
theorem Zl4(T:#[n]):Df P w K mg base 1 "height" ["many"] NZ:=by
 show#[cE,T.t_height.df,ZmP,a,hr];obtain⟨m,rfl,q⟩:=h;refine⟨_,#[Zj,#[Zn,#[Xz,#[nS,0],#[Zi],(@MP _ _ _ _ _ _ _ _ _ PySem.F.plainAttrs_int PySem.F.slot_int_bit_length PySem.F.type_int_bit_length ZpN #[ZJ,Xh,‹0›,#[Zi]] #[5] #[5])]]],_,rfl,rfl,_,rfl,?_⟩;by_cases b:m=0
 ·subst b;exact Xv rfl q
 ·refine Xp (λz=>by injection z with z;lia) ⟨_,rfl,_,_,rfl,rfl,rfl,_,rfl,rfl,?_⟩;rw[ZoO m #[2]];exact q
theorem Zkr{K:#[7]}{a:ae}{xs:#[jr]}{k:Nat}{D:ae}{c:L2.St}{j:Hp}{g:TG}{l:TT}{n:TE}{Q:VK}(Pv:#[23])(h0:#[cS,c,j])
  (hl:#[dz,zs,c])
  (s:∀i zs c H x p,xs[i]? = U x->Pv i zs c H->H p=af->g #[gY] c #[ic] λd t=>l d t λb o=>if b=true then n d o λz q=>q D=U #[bl]/\zs.length<aq/\Pv (i+1) (zs++[z]) d #[dM,q,zs,z] else Pv (i+1) zs d o)
  (hd:#[dB,zs,c,xs.length]):WG #[p2] D k c j g l n Q:=by
 show#[cY,zs,c,h];by_cases f:i<xs.length
 ·refine .inr ⟨⟨xs,h,f⟩,Pv (i+1),λcJ aP u v=>⟨xs.length-(i+1),by lia,rfl,f,v⟩,λx u y=>?_⟩;show#[ns,w,A,h,f];exact s i zs c H _ r (Qb f) p w
 ·have e:#[hv]:=by lia
  show#[fH,h,zs,c]
theorem Jz:∀ (ns:List Int) (a:List (ae×List aj)),ns.length=a.length->Yh (ns.zip #[gy])=a.flatMap #[f6]
 | [],[],_=>rfl
 | [],_::_,h=>by cases h
 | _::_,[],h=>by cases h
 | n::ns,x::a,h=>by have b:=Jz ns a (Nat.succ.inj h);unfold Yh at b ⊢;rw[Qj,Q6,Q5,Q5,b];rfl
theorem Zqd(a:#[17]):Yh (Y4 a)=a.flatMap #[f6]:=Jz _ _ (by unfold ZX;rw[Qa,Qal])
theorem NY:∀ (ns:List Int) (a:List (ae×List aj)),#[eA,a]->Yg (ns.zip #[gy])
 | [],_,_=>λx hx=>by rw[List.zip_nil_left]at hx;cases hx
 | _::_,[],_=>λx hx=>by cases hx
 | n::ns,y::a,h=>λx hx=>by
  rw[Qj,Q6]at hx;rcases QG.mp hx with rfl|hx
  ·exact h y #[4]
  ·exact NY ns a (λz hz=>h z (Qu _ hz)) x hx
theorem YV.app{P a b:#[an]}{us ts:#[gV]}{k q k' c:Int}(h:YV P us a k q)(g:YV a ts b k' c):YV P (us++ts) b (k+k') (q+c):=by
 induction g with
 | nil=>rw[QO,Qaf,Qaf];exact h
 | snoc _ s d=>rw[<- Q4,<- Int.add_assoc,<- Int.add_assoc];exact .snoc d s
theorem YV.cast{P a:#[an]}{us:#[gV]}{k q k' b:Int}(h:YV P us a k q)(e1:k=k')(e2:q=b):YV P us a k' b:=by subst e1;subst e2;exact h
def VW(H:Hp)(u:ae×ZC):Prop:=H u.1=U #[60]
theorem Zrw{L:#[a4]}(h:∀e∈L,e.g<=e.ss.length):(Wz #[gC]).sum=((Y1 (Y5 L):Nat):Int):=by
 induction L with
 | nil=>rfl
 | cons e r a=>have i:=a λx b=>h x (Qu _ b);have g:=h e #[4];unfold Wz Y1 Y5 at i ⊢;rw[Qj,Qj,Qj,Qj,QN,QN,i,QaD];congr 1;show (e.ss.length:Int)-(e.g:Int)=((e.ss.length-e.g:Nat):Int);lia
noncomputable def kT(u:ZC):List Key:=[.inr u.2.2,.inl u.1,.inl (u.2.1:Int)]
noncomputable def Vt(x:Zy):List ZC:=((x.2.1.drop x.2.2).zipIdx x.2.2).map λe=>(x.1,e.2,e.1)
noncomputable def Xs(P:#[an]):List ZC:=P.flatMap Vt
theorem Zo6{x:Zy}{u:ZC}(h:u∈Vt x):u.1=x.1/\x.2.2<=u.2.1/\x.2.1[u.2.1]? = U u.2.2:=by unfold Vt at h;obtain⟨e,c,rfl⟩:=Qs.mp h;have a:=List.mem_zipIdx_iff_le_and_getElem?_sub.mp c;refine⟨rfl,a.1,?_⟩;have b:=a.2;rw[List.getElem?_drop]at b;show x.2.1[e.2]? = U e.1;rw[<- b];congr 1;lia
theorem Jy{P:#[an]}{u:ZC}(h:u∈Xs P):∃x∈P,u.1=x.1/\x.2.2<=u.2.1/\x.2.1[u.2.1]? = U u.2.2:=by obtain⟨x,a,b⟩:=QaZ.mp h;exact⟨x,a,Zo6 b⟩
theorem Jx:∀ (P:List Zy),#[k2].Nodup->∀ {x:Zy} {z:aj},x∈P->x.2.1[x.2.2]? = U z->(#[f9]::Xs #[po]).Perm (Xs P)
 | [],_,_,_,h,_=>by cases h
 | y::P,nd,x,z,h,hz=>by
  show#[eB,Xs];rcases QG.mp h with rfl|h
  ·have e:#[km]:=by
    conv=>rhs;rw[<- List.map_id P]
    refine QJ λu b=>?_;show#[94];rfl
   have c:Vt x=#[f9]::Vt (Z2 x.1 x):=by unfold Vt Z2;rw[if_pos rfl,Sb hz];rfl
   rw[e,c];exact Qaj _
  ·have a:=Jx P nd.2 h hz;show#[eU,Xs,a,a.append_left]
theorem NX(P:#[an]):(Xs P).length=Y1 P:=by unfold Xs Y1;rw[List.length_flatMap];congr 1;refine QJ λx _=>?_;unfold Vt;rw[Qa,List.length_zipIdx,Q7]
def Ws(P:#[an])(D:#[gV]):Prop:=D.Perm (Xs P)/\D.Pairwise λa b=>ZP (kT b) (kT a)=false
theorem Zqu{u v:ZC}(h:LtT u v):ZP (kT u) (kT v)=true:=by
 unfold kT;rcases h with h|⟨e,h⟩
 ·have a:u.2.2≠v.2.2:=λz=>by rw[z,Wh]at h;lia
  rw[ZQ,if_neg (λz=>a #[r5])];exact decide_eq_true (#[mM].mpr h)
 ·rw[ZQ,if_pos (by rw[e]),ZQ];rcases h with h|⟨b,h⟩
  ·rw[if_neg (λz=>by have:=#[kC];lia)];exact decide_eq_true h
  ·rw[if_pos (by rw[b]),ZQ,if_neg (λz=>by have:=#[kC];lia)];exact #[fN]
theorem Ws.len{P:#[an]}{D:#[gV]}(O:Ws P D):D.length=Y1 P:=by rw[O.1.length_eq,NX]
theorem Ws.step{P:#[an]}{D:#[gV]}(O:Ws P D)(nd:#[af])(srt:Yg P){x:Zy}{z:aj}(s:Vx P x z):∃a,D=#[f9]::a/\Ws #[po] a:=by
 have b:=Jx P nd s.1 s.2.1;have hin:#[f9]∈D:=O.1.mem_iff.mpr (b.mem_iff.mp (QV ..));have f:=((TkW.nil.snoc s).lt nd srt).2 #[f9] #[4];cases D with
 | nil=>cases hin
 | cons d a =>
  have g:d=#[f9]:=by
   rcases QG.mp hin with e|hin
   ·exact e.symm
   ·have h:=(QaB.mp O.2).1 _ hin;have i:d∈Xs P:=O.1.mem_iff.mp (QV ..);rcases QG.mp (b.mem_iff.mpr i) with e|h3
    ·exact e
    ·obtain⟨y,j,k,l,m⟩:=Jy h3;have c:=Zqu (f y j d.2.1 d.2.2 l m);have n:(y.1,d.2.1,d.2.2)=d:=by rw[<- k]
     show#[d9,n,h,c]
  subst g;exact⟨a,rfl,(List.perm_cons _).mp (O.1.trans b.symm),(QaB.mp O.2).2⟩
theorem ZnS(a:#[17])(x:ae×List aj):Y4 (a++[x])=Y4 a++[(#[h3],x.2,0)]:=by
 unfold Y4;rw[Qd,Qf,Qp];have e:ZX 0 (a.length+1)=ZX 0 a.length++[#[h3]]:=by unfold ZX;rw[QaC,Qd,List.map_singleton,Int.zero_add]
 rw[e,List.zip_append (by unfold ZX;rw[Qa,Qa,Qal])];rfl
theorem ZmL(a:#[17])(x:ae×List aj):Xs (Y4 (a++[x]))=Xs (Y4 a)++(x.2.zipIdx.map λe=>(#[h3],e.2,e.1)):=by rw[ZnS];unfold Xs;rw[List.flatMap_append,List.flatMap_singleton];rfl
noncomputable def Wr(us:List (ae×ZC)):YO:=us.map λu=>(u.1,kT u.2)
theorem Jw(us:List (ae×ZC)):Z7 (Wr us)=us.map λu=>V.ref u.1:=by unfold Z7 Wr;rw[QA];rfl
def KAt(H:Hp)(u:ae×ZC):Prop:=H u.1=U (.tup [.str u.2.2.2,.int u.2.1,.int (u.2.2.1:Int)])
theorem Ws.takes{P a:#[an]}{ts:#[gV]}(h:TkW P ts a)(nd:#[af])(srt:Yg P):∀ {D:List ZC},Ws P D->∃b,D=ts++b/\Ws a b/\Yg a:=by
 induction h with
 | nil=>exact λO=>⟨_,rfl,O,srt⟩
 | snoc h s d=>intro D O;obtain⟨D1,e,f,c⟩:=d O;obtain⟨g,i,j⟩:=f.step #[cy] c s;exact⟨g,by rw[e,i,Q4];rfl,j,c.bump _⟩
inductive Phi (hd:Hd):List Int->Int->Prop
 | few {N:List Int}:N.length<2->Phi hd N 0
 | no {N:List Int} {f g:Int}:2<=N.length->Phi hd (lo N) f->Phi hd (up N) g->(Win hd (lo N) af\/Win hd (up N) af)->Phi hd N (f+g)
 | both {N:List Int} {f g:Int} {a b:Int} {x y:List Nat}:2<=N.length->Phi hd (lo N) f->Phi hd (up N) g->Win hd (lo N) (U a)->Win hd (up N) (U b)->hd a=U x->hd b=U y->Phi hd N (f+g+(lcp x y:Nat))
theorem YI.phi{hd:Hd}{n:Nat}{N:#[i]}{k l:Int}(h:YI hd n N k l):Phi hd N (l-k)/\0<=k/\k<=#[fn,N.length]:=by
 induction h with
 | few h=>exact⟨.few h,Qah _,by lia⟩
 | none h _ _ w d f =>
  rename_i N k l k' c _ _;refine⟨?_,by lia,?_⟩
  ·have:=Phi.no h d.1 f.1 w;rwa [show l-k+(c-k')=l+c-(k+k') by lia]at this
  ·show#[gr];lia
 | both h _ _ g i j m d f =>
  rename_i N k l k' c a b x y _ _;refine⟨?_,by lia,?_⟩
  ·have:=Phi.both h d.1 f.1 g i j m;rwa [show l-k+(c-k')+#[dC,x,y]=l+c+(lcp x y:Nat)+1-(k+k'+1) by lia]at this
  ·show#[gr];lia
theorem Phi.one{hd:Hd}{N:#[i]}{f:Int}(h:Phi hd N f):∀ {g:Int},Phi hd N g->f=g:=by
 induction h with
 | few h =>
  intro g p;cases p with
  | few _=>rfl
  | no c _ _ _=>lia
  | both c _ _ _ _ _ _=>lia
 | no h _ _ w d e =>
  intro g p;cases p with
  | few c=>lia
  | no _ i j _=>rw[d i,e j]
  | both _ _ _ a b _ _ =>
   rcases w with w|w
   ·show#[dY,w.one,a]
   ·show#[dY,w.one,b]
 | both h _ _ a b k l d e =>
  intro g p;cases p with
  | few c=>lia
  | no _ _ _ w =>
   rcases w with w|w
   ·show#[dY,w.one,a]
   ·show#[dY,w.one,b]
  | both _ i j m n o q=>rw[d i,e j];have r:=Qk (a.one m);have s:=Qk (b.one n);subst r;subst s;rw[Qk (k.symm.trans o),Qk (l.symm.trans q)]
theorem Jv{hd:Hd}{N:#[i]}{a:Int}(h:Win hd N (U a)):∃x,hd a=U x:=by obtain⟨_,x,b,_⟩:=h;exact⟨x,b⟩
theorem Phi.ex(hd:Hd):∀ (m:Nat) (N:List Int),N.length<=m->N.Nodup->∃f,Phi hd N f
 | 0,N,h,_=>⟨0,.few #[2]⟩
 | m+1,N,h,nd=>by
  by_cases h2:2<=N.length
  ·have j:#[sA].Nodup:=nd.sublist #[jI];have k:#[s6].Nodup:=nd.sublist (QaT _ _);obtain⟨f,c⟩:=Phi.ex hd m #[sA] (by have:=(WS h2).1;lia) j;obtain⟨g,d⟩:=Phi.ex hd m #[s6] (by have:=(WB h2).1;lia) k;obtain⟨l,e⟩:=Win.ex hd #[sA] j;obtain⟨n,i⟩:=Win.ex hd #[s6] k;cases l with
   | none=>exact⟨_,.no h2 c d (.inl e)⟩
   | some a =>
    cases n with
    | none=>exact⟨_,.no h2 c d (.inr i)⟩
    | some b=>obtain⟨x,o⟩:=Jv e;obtain⟨y,p⟩:=Jv i;exact⟨_,.both h2 c d e i o p⟩
  ·exact⟨0,.few #[2]⟩
theorem Phi.congr{hd hd':Hd}{N:#[i]}{f:Int}(h:Phi hd N f):(∀n∈N,hd' n=hd n)->Phi hd' N f:=by
 induction h with
 | few h=>exact λ_=>.few h
 | no h _ _ w d g=>intro e;have b:#[od,lo]:=λn a=>e n (Qae a);have c:#[od,up]:=λn a=>e n (Qai a);exact .no h (d b) (g c) (w.imp (λw=>w.congr b) λw=>w.congr c)
 | both h _ _ i j k l d g=>intro e;have b:#[od,lo]:=λn a=>e n (Qae a);have c:#[od,up]:=λn a=>e n (Qai a);exact .both h (d b) (g c) (i.congr b) (j.congr c) (by rw[b _ i.1];exact k) (by rw[c _ j.1];exact l)
theorem Phi.sides{hd:Hd}{N:#[i]}{f:Int}(h:Phi hd N f)(h2:#[it])(n:Int):X3 λi j e=>Phi hd (Z3 N n) i/\Phi hd (Y8 N n) j/\f=i+j+e/\(((Win hd (Z3 N n) af\/Win hd (Y8 N n) af)/\e=0)\/X4 λa b x y=>Win hd (Z3 N n) (U a)/\Win hd (Y8 N n) (U b)/\hd a=U x/\hd b=U y/\e=#[dC,x,y]):=by
 unfold Z3 Y8;cases h with
 | few h=>lia
 | no _ d g w =>
  by_cases c:n∈lo N
  ·show#[fe,c];exact⟨_,_,0,d,g,by lia,.inl ⟨w,rfl⟩⟩
  ·show#[e7,c,c];exact⟨_,_,0,g,d,by lia,.inl ⟨w.symm,rfl⟩⟩
 | both _ d g k l m o =>
  by_cases c:n∈lo N
  ·show#[fe,c];exact⟨_,_,_,d,g,rfl,.inr ⟨_,_,_,_,k,l,m,o,rfl⟩⟩
  ·show#[e7,c,c];exact⟨_,_,_,g,d,by rw[WU];lia,.inr ⟨_,_,_,_,l,k,o,m,rfl⟩⟩
noncomputable def lcO(hd:Hd)(w:#[bb])(z:#[aY]):Int:=match w.bind hd with
 | some x=>((lcp x z:Nat):Int)
 | none=>0
theorem UL{hd:Hd}{a:Int}{x:#[aY]}(h:hd a=U x)(z:#[aY]):lcO hd (U a) z=#[dC,x,z]:=by unfold lcO;rw[QaJ,h]
theorem NW(hd:Hd)(z:#[aY]):lcO hd af z=0:=rfl
theorem ZrK(hd:Hd)(w:#[bb])(z:#[aY]):0<=lcO hd w z:=by unfold lcO;split<;>lia
theorem Zr8(hd:Hd)(w:#[bb])(z:#[aY]):lcO hd w z<=#[mI]:=by
 unfold lcO;split
 ·rename_i x _;have:=(VZ x z).2;lia
 ·lia
theorem Ju{hd:Hd}{A B:#[i]}(p:A.Perm B){w:#[bb]}(h:Win hd A w):Win hd B w:=by
 cases w with
 | none=>exact #[ql]
 | some a=>obtain⟨d,x,e,f⟩:=h;exact#[hq]
theorem amort{hd hd':Hd}{N:#[i]}{n:Int}{z:#[aY]}(T:#[rG]):∀ (k:Nat) (M:List Int),M.length<=2 ^ k->Sub N M->n∈M->Win hd M (U n)->∀ {kk q f G:Int} {d:Option Int},Ag hd' z (Wb n #[lE]) kk q->Phi hd M f->Phi hd' M G->Win hd' M d->q-kk+f+lcO hd' (U n) z<=G+lcO hd' d z
 | k,M,hk,u,H,hw,kk,q,f,G,d,ag,X,Y,I=>by
  by_cases h2:2<=M.length
  ·cases k with
   | zero=>rw[Nat.pow_zero]at hk;lia
   | succ k =>
   have J:=UW H;have Bx:=Su (u.rise T.up) J;have Z:Sub N #[aF]:=u.trans (OE h2 n);have v:=Ss M n;have By:=Ju v.symm hw;have K:Win hd #[aF] (U n):=By.sub J;have i:#[sr]:=λm hm=>T.oth m λe=>Bx (e ▸ hm);have L:ZY (k+1) M n=ZY k #[aF] n++[M]:=by show (if 2<=M.length then _ else _)=_;rw[if_pos h2]
   rw[L]at ag;obtain⟨k0,q0,Bz,oz⟩:=ag.last (C:=Wb n #[h5]) (A:=Z3 M n) (B:=Y8 M n) (by unfold Wb;rw[Qd];rfl);have aW:#[my]:=by
    have O:=congrArg List.length (Yk M);rw[Qf]at O;unfold Z3;have h3:(lo M).length=(M.length+1) / 2:=by unfold lo mid;rw[QC];lia
    rw[Nat.pow_succ]at hk;split<;>lia
   obtain⟨fA,fB,e,pA,pB,rfl,P⟩:=X.sides h2 n;obtain⟨fA',BA,e',BB,BC,rfl,Q⟩:=Y.sides h2 n;have eB:BA=fB:=BC.one (pB.congr i);subst eB;obtain⟨wA,E⟩:=Win.ex hd' #[aF] (Xm (Z.rise T.up));have ih:=amort T k #[aF] aW Z J K Bz pA BB E;have t:=Ju v.symm I;rcases P with⟨P,rfl⟩|⟨a,b,x,y,ha,R,hx,hy,rfl⟩
   ·-- nothing stays here
    have BD:Win hd #[hJ] af:=by
     rcases P with h|h
     ·show#[dY,h.one,K]
     ·exact h
    have S:=BD.congr i;have p:d=wA:=t.one (E.left S);subst p;rcases Q with⟨_,rfl⟩|⟨_,_,_,_,_,c,_⟩
    ·rcases oz with⟨_,rfl,rfl⟩|⟨_,b',_,_,_,c,_⟩
     ·lia
     ·show#[dY,S.one,c]
    ·show#[dY,S.one,c]
   ·have ea:=Qk (ha.one K);subst ea;have ez:=Qk (hx.symm.trans T.key);subst ez;have c:=R.congr i;have g:hd' b=U y:=by rw[i b R.1];exact hy
    have lg:b∈N:=(u.trans .top).mem (v.mem_iff.mp (Qn _ R.1));rcases oz with⟨hc,rfl,rfl⟩|⟨a1,r,s,o,j,BE,l,pO,rfl,rfl⟩
    ·have V:Win hd' (Z3 M a) af:=by
      rcases hc with h|h
      ·exact h
      ·show#[dY,h.one,c]
     have w:=E.one V;subst w;have p:d=U b:=t.one (V.right c);subst p;rw[NW]at ih;rw[UL g,WU y x];rcases Q with⟨_,rfl⟩|⟨_,_,_,_,h,_⟩
     ·lia
     ·show#[dY,h.one,V]
    ·have w:=E.one j;subst w;have W:=Qk (BE.one c);subst W;have e3:=Qk (pO.symm.trans g);subst e3;rw[UL l]at ih;have dW:e'=#[dC,s,o]:=by
      rcases Q with⟨h,_⟩|⟨_,_,_,_,D,F,g3,g4,rfl⟩
      ·rcases h with h|h
       ·show#[dY,h.one,j]
       ·show#[dY,h.one,c]
      ·have:=Qk (D.one j);subst this;have:=Qk (F.one c);subst this;rw[Qk (g3.symm.trans l),Qk (g4.symm.trans g)]
     subst dW;have BF:a1∈N:=(u.trans .top).mem (v.mem_iff.mp (Qr _ j.1));have gx:=T.ge BF l;have gy:=T.ge lg g;have cy:=WU x o;have BG:d=U a1\/d=U r:=by
      by_cases dH:Btr s a1 o r
      ·exact .inl (t.one (j.both c l g dH))
      ·have cj:a1≠r:=λz=>by have:=(QY.mp (v.nodup_iff.mpr (Xm (u.rise T.up)))).2.2 a1 j.1 r c.1;exact this z
       exact .inr (t.one (j.both' c l g #[oF,cj,dH]))
     by_cases he:lcp s x=lcp o x
     ·rw[if_pos he];rcases BG with rfl|rfl
      ·rw[UL l];lia
      ·rw[UL g];lia
     ·rw[if_neg he];by_cases aN:lcp o x<lcp s x
      ·obtain⟨D,F⟩:=So (a:=a1) (b:=r) aN gy;have p:d=U a1:=t.one (j.both c l g D);subst p;rw[UL l];lia
      ·obtain⟨D,F⟩:=So (x:=o) (y:=s) (a:=r) (b:=a1) (by lia:lcp s x<lcp o x) gx;have p:d=U r:=t.one (j.both' c l g D);subst p;rw[WU o s]at F;rw[UL g];lia
  ·have O:M.length=1:=by have:=QZ H;lia
   obtain⟨m,rfl⟩:=Qao.mp O;have:n=m:=by simpa using H
   subst this;have L:ZY k [n] n=[]:=by
    cases k with
    | zero=>rfl
    | succ k=>show (if 2<=[n].length then _ else _)=_;rw[if_neg h2]
   rw[L]at ag;obtain⟨rfl,rfl⟩:=Ag.one ag .nil;have w:=X.one (.few #[2]);have W:=Y.one (.few #[2]);subst w;subst W;have nZ:d=af\/d=U n:=by
    cases d with
    | none=>exact #[kn]
    | some b=>exact .inr (by have:=I.1;simp at this;rw[this])
   rcases nZ with rfl|rfl
   ·have:=I n #[4];have e:lcO hd' (U n) z=0:=by unfold lcO;rw[QaJ,this]
    rw[e,NW];decide
   ·lia
theorem ZpD{n b:Int}(hb:b≠n)(P:#[an]):hdP (YW P n) b=hdP P b:=by
 unfold hdP hdL YW;rw[QA];congr 1;induction P with
 | nil=>rfl
 | cons y P c =>
  rw[Qj,Qj,Qag,Qag];have d:(Z2 n y).1=y.1:=by unfold Z2;split<;>rfl
  show#[g2];by_cases a:y.1=b
  ·have e:y.1≠n:=λz=>hb (a.symm.trans z);have f:Z2 n y=y:=if_neg e;simp only[f,a,decide_true]
  ·simp only[d,a,decide_false];exact c
theorem Zrp{P:#[an]}{x:Zy}{z:aj}(up:YS #[k2])(srt:Yg P)(hx:x∈P)(hz:x.2.1[x.2.2]? = U z)(W:Win (hdP P) #[k2] (U x.1)):Tk (hdP P) #[f4] #[k2] x.1 (cds z):=by
 have nd:=Xm up;refine⟨W,by rw[WQ nd hx,hz];rfl,λb e=>ZpD e P,λy g=>?_,up⟩;have d:Z2 x.1 x∈YW P x.1:=Qm (f:=Z2 x.1) hx;have i:Z2 x.1 x=(x.1,x.2.1,x.2.2+1):=if_pos rfl;rw[i]at d;have:=WQ #[cL,Sk,nd] d;have a:hdP #[po] x.1=U y:=g;rw[this]at a;cases c:x.2.1[x.2.2+1]? with
 | none=>rw[c]at a;cases a
 | some u =>
  rw[c]at a;have j:cds u=y:=Qk a;rw[<- j];rcases R8 (N1 (srt x hx) (Qaq _) hz c) with h|h
  ·lia
  ·rw[h,Wh];exact Qah _
noncomputable def sgn(ts:#[gV]):Nat:=(ts.map λt=>t.2.2.length).sum
theorem Znm(ts:#[gV])(t:ZC):sgn (ts++[t])=sgn ts+t.2.2.length:=by unfold sgn;rw[Qd,Q9];simp
theorem Zpk(M:#[i])(n:Int)(h:M.length<=2 ^ 8):(ZY 8 M n).length<=hgt M.length:=by have a:=congrArg List.length (Ow 8 M n h);rw[List.length_reverse,Qa]at a;rw[<- a];exact JA M.length M n (Qaq _)
theorem Ag.few{hd:Hd}{z:#[aY]}{C:List #[gB]}{k q:Int}(h:Ag hd z C k q):0<=k/\k<=(C.length:Int):=by
 induction h with
 | nil=>exact⟨Qah _,Qah _⟩
 | no _ _ a=>rw[Qf,Qp];lia
 | eq _ _ _ _ _ _ a=>rw[Qf,Qp];lia
 | ne _ _ _ _ _ _ a=>rw[Qf,Qp];lia
theorem WP.amort{P:#[an]}{x:Zy}{z:aj}{k q:Int}(s:WP P x z k q)(up:YS #[k2])(d:#[k2].length<=2 ^ 8)(srt:Yg P){f b:Int}(i:Phi (hdP P) #[k2] f)(j:Phi #[f4] #[k2] b):q-k+f<=b+#[mI]/\(Win #[f4] #[k2] af->q-k+f<=b)/\0<=k/\k<=(hgt #[k2].length:Int):=by obtain⟨e,l,W,g⟩:=s;have T:=Zrp up srt e l W;have m:x.1∈ZG P:=Qm (f:=#[sN]) e;obtain⟨n,h⟩:=Win.ex #[f4] #[k2] (Xm up);have a:=My.amort T 8 #[k2] d .top m W g i j h;have g0:=ZrK #[f4] (U x.1) (cds z);have o:=Zr8 #[f4] n (cds z);rw[Pb]at o;have c:=g.few;have hc:=Zpk #[k2] x.1 d;unfold Wb at c;rw[Qa]at c;refine⟨by lia,λp=>?_,c.1,by lia⟩;have r:=h.one p;subst r;rw[NW]at a;lia
theorem YV.amort{P c:#[an]}{ts:#[gV]}{k q:Int}(h:#[n4,c])(up:YS #[k2])(o:#[k2].length<=2 ^ 8)(srt:Yg P){f:Int}(p:Phi (hdP P) #[k2] f):Yg c/\0<=k/\k<=(hgt #[k2].length:Int)*#[lx]/\∀a,Phi (hdP c) #[k2] a->q-k+f<=a+(sgn ts:Int)/\(∀d t,ts=d++[t]->Win (hdP c) #[k2] af->q-k+f<=a+(sgn d:Int)):=by
 induction h with
 | nil=>refine⟨srt,by lia,by simp,λa g=>?_⟩;have:=p.one g;refine⟨by show 0-0+f<=a+#[eb,0];lia,λd t e=>by simp at e⟩
 | snoc h s r =>
  rename_i ts i x z k q k1 u;obtain⟨j,k0,k9,v⟩:=r;have b:=h.num;obtain⟨w,l⟩:=Phi.ex (hdP i) #[k2].length #[k2] #[gp] (Xm up);obtain⟨i1,_⟩:=v w l;have up1:YS (ZG i):=by rw[b];exact up
  obtain⟨y,m⟩:=Phi.ex (hdP (YW i x.1)) #[k2].length #[k2] #[gp] (Xm up);have n:=s.amort up1 #[cL,b,o] j #[cL,b,l] #[cL,b,m];rw[b]at n;obtain⟨a1,a2,a3,a4⟩:=n;refine⟨j.bump _,by lia,?_,λa g=>?_⟩
  ·rw[Qf,Qp,QaD,Int.mul_add];lia
  ·have A:=m.one g;subst A;refine⟨by rw[Znm,QaD];show q+u-(k+k1)+f<=y+((sgn ts:Int)+#[mI]);lia,λd t e B=>?_⟩;have C:=(Sq e).1;subst C;have:=a2 B;lia
noncomputable def hSg(hd:Hd)(N:#[i]):Nat:=(N.map λn=>((hd n).map List.length).getD 0).sum
theorem Jt(hd:Hd)(A B:#[i]):hSg hd (A++B)=hSg hd A+hSg hd B:=by unfold hSg;rw[Qd,Q9]
noncomputable def VU(hd:Hd)(w:#[bb]):Nat:=((w.bind hd).map List.length).getD 0
theorem Phi.le{hd:Hd}{N:#[i]}{f:Int}(h:Phi hd N f):∀ {w:Option Int},Win hd N w->0<=f/\f+(VU hd w:Int)<=(hSg hd N:Int):=by
 induction h with
 | few h =>
  intro w hw;rename_i N;refine⟨Qah _,?_⟩;cases w with
  | none=>show 0+#[eb,0]<=_;lia
  | some a =>
   have ha:=hw.1;have:N=[a]:=by
    cases N with
    | nil=>cases ha
    | cons b r=>have:r=[]:=QP (by rw[QF]at h;lia);subst this;rw[Qe.mp ha]
   subst this;show 0+((((U a).bind hd).map List.length).getD 0:Int)<=((([a].map λn=>((hd n).map List.length).getD 0).sum:Nat):Int);rw[QaJ];simp
 | no u _ _ hw m o =>
  intro w d;rename_i N f g _ _;show#[q8];rcases hw with hw|hw
  ·obtain⟨l,q⟩:∃l,Win hd (up N) l:=by
    cases w with
    | none=>exact⟨af,λn p=>d n (Qn _ p)⟩
    | some a =>
     refine⟨U a,d.sub' ?_⟩;rcases Qg.mp d.1 with ha|ha
     ·show#[lg]
     ·exact ha
   have e:=d.one (hw.right q);subst e;have s:=m hw;have t:=o q;have:(VU hd af:Int)=0:=rfl;lia
  ·obtain⟨j,ha⟩:∃j,Win hd (lo N) j:=by
    cases w with
    | none=>exact⟨af,λn p=>d n (Qr _ p)⟩
    | some a =>
     refine⟨U a,d.sub ?_⟩;rcases Qg.mp d.1 with ha|ha
     ·exact ha
     ·show#[lg]
   have e:=d.one (ha.left hw);subst e;have s:=m ha;have t:=o hw;have:(VU hd af:Int)=0:=rfl;lia
 | both u _ _ j l i v m o =>
  intro w d;rename_i N f g a b x y _ _;show#[q8];have s:=m j;have t:=o l;have ea:VU hd (U a)=x.length:=by unfold VU;rw[QaJ,i];rfl
  have eb:VU hd (U b)=y.length:=by unfold VU;rw[QaJ,v];rfl
  have lx:=(VZ x y).1;have ly:=(VZ x y).2;have hw:w=U a\/w=U b:=by
   cases w with
   | none=>have:=d a (Qr _ j.1);rw[i]at this;cases this
   | some c =>
    rcases Qg.mp d.1 with hc|hc
    ·exact .inl ((d.sub hc).one j)
    ·exact .inr ((d.sub' hc).one l)
  rcases hw with rfl|rfl
  ·lia
  ·lia
theorem ZkE{K:#[7]}{a:ae}{xs:#[jr]}{k:Nat}{D:ae}{b:L2.St}{d:Hp}{g:TG}{f:TI}{h:TG}{j:TE}{Q:VK}(Pv:#[23])(h0:#[bv])
  (hl:#[dz,ys,b])
  (o:∀i x ys b H,xs[i]? = U x->Pv i ys b H->g x b H λl q=>f l q λr s=>Rr r D ys l s h j (Pv (i+1)))
  (hd:#[b7]):Md #[kN] D k b d g f h j Q:=by
 show#[s];by_cases n:i<xs.length
 ·show#[c0,c,n,t,u];exact o i x ys b _ (e xs c) p
 ·have e:#[hv]:=by lia
  show#[76]
theorem Zkj{K:#[7]}{a:ae}{xs:#[jr]}{D:ae}{ys:#[jr]}{b:L2.St}{H:Hp}{d:TG}{f:TE}{N:List V->L2.St->Hp->Prop}(Pv:#[23])(h0:Pv 0 ys b H)
  (hl:#[dz,ys,b])
  (k:∀i x ys b H,xs[i]? = U x->Pv i ys b H->d x b H λg l=>f g l λy h=>h D=U #[gd]/\ys.length<aq/\Pv (i+1) #[pP] g #[tV,h])
  (hd:∀ys b H,Pv xs.length ys b H->N ys b H):Rr #[kN] D ys b H d f N:=by
 show#[s];by_cases j:i<xs.length
 ·show#[c0,c,j,n,o];exact k i x ys b _ (e xs c) p
 ·have e:#[hv]:=by lia
  show#[76]
noncomputable def V7(a:#[17]):List Int:=a.flatMap λx=>x.2.map λs=>(s.length:Int)
noncomputable def sgR(a:#[17]):Nat:=(a.map λx=>(x.2.map λs=>s.length).sum).sum
theorem Js:∀a:List (ae×List aj),(V7 a).sum=(sgR a:Int)
 | []=>rfl
 | x::r=>by
  have b:=Js r;unfold V7 sgR at b ⊢;rw[Q5,Q9,b,Qj,QN,QaD];congr 1;generalize x.2=c;induction c with
  | nil=>rfl
  | cons s c d=>rw[Qj,Qj,QN,QN,d,QaD]
theorem NV:∀a:List (ae×List aj),(V7 a).length=#[53].sum
 | []=>rfl
 | x::r=>by have b:=NV r;unfold V7 at b ⊢;rw[Q5,Qf,b,Qa,Qj,QN]
def Jr:Sp:=λvs H Q _=>X2 λ(r:ae) (a:List (ae×List aj))=>vs=[.ref r]/\Wy H r a/\#[eA,a]/\#[53].sum<=1000/\∀ (t:ae) (k0 c k1 d:Int) (b:Hp),YI (hdP (Y4 a)) 8 #[jG] k0 c->YH (Y4 a) k1 d->b t=U (.tup [.int (#[fn,a.length]+(hgt a.length:Int)*#[hN]),.int (k0+k1+(sgR a:Int))])->Zw H b->Q #[i9] b
theorem Zma(T:#[n])(W:#[rp])(X:#[cu])(Y:#[qS]):Df P w K mg base 17 "bounds_of" #[hY] Jr:=by
 show#[cE,T.t_bounds_of.df,Pp,Z,I];obtain⟨r,c,rfl,e,cZ,hsm,q⟩:=h;refine⟨_,#[Zg,#[ZB,1,Pp.nd,#[3],#[Zk,(No rfl),#[5],T.b.n_max,boot_max,#[Zc,#[ZJ,Xh,#[r],#[Zi]],#[Zi]]]],#[Zg,#[ZB,2,Pp.nd,#[3],#[Zk,(Tf K),#[5],T.b.n_sum,boot_sum,#[Zc,(@Zn7 _ _ _ _ _ _ _ _ _ _ _ _ _ _ _ _ U9 rfl rfl rfl #[si] #[di,3,U9] (λ_ _ _ _=>#[iL,K,#[cw,3,U9]]) #[di,4,U9] (λ_ _ _ _=>#[Zk,VG,#[tQ,U9],T.b.n_len,Qv,#[Zc,#[cw,4,U9]]]) (by intro _;rfl) (by intro _ _ _ _ _;rfl))]]],#[Zj,#[Zn,#[ZO,#[Zc,#[ZJ,YL,‹1›,#[ZJ,VL,#[ZE,W,I,#[Zc,#[r]],#[5]],#[dN,X,I,#[bp]]]],#[ZJ,YL,#[Zx,(ixT K),#[dN,Y,I,#[bp]],#[Zi]],‹2›]]]]]]],?_⟩;have fe:=e.few;have N:((#[t3,c.map].length:Nat):Int)=#[gi]:=by rw[Qa]
 refine⟨_,rfl,r,_,rfl,.inl (SqL.of e.at'),_,_,rfl,rfl,?_⟩;rw[N];refine⟨_,_,rfl,?_⟩;have e1:(if #[lM]>#[gi]-1 then (0:Int) else (c.length:Int)-1)=#[tF]:=by split<;>lia
 rw[e1];show#[c1,r,e.at',D,O];refine ZkE (K:=K) (a:=r) (xs:=c.map λx=>V.ref x.1) (λi zs g C=>(X2 λJ j:Option V=>g=[U #[83],U (.int #[tF]),af,J,j])/\zs=(V7 #[pl]).map V.int/\i<=c.length/\C D=U #[bl]/\Zw H C) ?_ #[cJ,e.at'] ?_ ?_
 ·show#[fw,O]
 ·rintro i y zs g C d ⟨⟨J,j,rfl⟩,rfl,hi,F,m⟩;rw[Ql]at d;cases p:c[i]? with
  | none=>rw[p]at d;cases d
  | some x =>
  show#[nV,p,d,c.length];obtain⟨R,lJ,mC⟩:=e.lst x (Qo p);have g8:(V7 #[pl]).length<=100*i:=by rw[NV];have:=Sg #[pl] λy d=>(e.lst y (Qae d)).2.1;rw[QC]at this;lia
  refine⟨_,rfl,x.1,rfl,⟨_,SqL.of (m _ _ R)⟩,?_⟩;refine Zkj (K:=K) (a:=x.1) (xs:=x.2.map V.str) (λk zs g u=>(∃j:Option V,g=[U #[83],U (.int #[tF]),af,U (.ref x.1),j])/\zs=(V7 #[pl]++(x.2.take k).map λs=>(s.length:Int)).map V.int/\k<=x.2.length/\u D=U #[bl]/\Zw H u) ⟨⟨_,rfl⟩,by simp,Qt _,F,m⟩ #[cJ,R] ?_ ?_
  ·rintro k y zs g u d ⟨⟨j,rfl⟩,rfl,hk,G,l⟩;rw[Ql]at d;cases v:x.2[k]? with
   | none=>rw[v]at d;cases d
   | some z =>
   show#[cI,v,d,wL,k,x.2.length];have pV:=(mC z (Qo v)).1;refine⟨_,rfl,z,rfl,by rw[aG];lia,G,?_,#[H],?_,wL,Zb,λb o S=>?_⟩
   ·rw[Qa,Qf,Qa,QC,aG];lia
   ·rw[QE,v,Qd,Qd,Qd,Qd,Q4];rfl
   ·show#[nv,S,O,l,b,o]
  ·show#[fu,g,u,j,G,l];show#[oh,G];refine⟨⟨_,_,rfl⟩,?_,ce,?_,l⟩
   ·rw[Qa,Qw #[gp],QE,p];unfold V7;rw[List.flatMap_append];congr 2;show _=[x].flatMap _;rw[List.flatMap_singleton]
   ·rw[G,Qa,Qw #[gp]]
 rintro zs g C ⟨⟨J,j,rfl⟩,rfl,_,F,m⟩;show#[oh,F];have j5:=Sg c λx L=>(e.lst x L).2.1;refine⟨D,V7 c,rfl,SqL.of F,by rw[NV];lia,λn B=>?_,?_⟩
 ·show#[nB,x,L,B,QaZ.mp,B];show#[cK,s,hs,B];have:=((e.lst x L).2.2 s hs).1;lia
 rw[Js];have M:=e.same m;refine⟨_,rfl,_,rfl,r,_,rfl,.inl (SqL.of M.at'),?_⟩;rw[N];refine⟨c.length,rfl,_,rfl,r,c,rfl,M,λu l=>?_⟩;have wM:=M.same l;refine⟨_,_,rfl,rfl,.inr #[57],_,_,rfl,rfl,_,rfl,r,c,rfl,wM,cZ,λt k0 q0 k1 q1 H3 hP hE ht s3=>?_⟩;refine⟨t,_,_,_,rfl,rfl,SqT.of ht,rfl,_,rfl,_,_,rfl,rfl,#[w],λn B=>?_⟩;exact q n k0 q0 k1 q1 _ hP hE Zb (m.trans (l.trans (s3.trans (Zh B _))))
theorem YH.takes{P:#[an]}{k q:Int}(h:YH P k q):X2 λts a=>YV P ts a k q/\Win (hdP a) (ZG a) af:=by
 induction h with
 | stop w=>exact⟨[],_,.nil,w⟩
 | go s _ b=>obtain⟨ts,a,h,w⟩:=b;have c:=(YV.nil (P:=_)).snoc s;refine⟨_,a,(c.app h).cast #[2] #[2],w⟩
theorem ZoL(ts:#[gV]):sgn ts=(#[hG].map λs=>s.length).sum:=by unfold sgn;rw[QA];rfl
theorem Jq:∀a:List (ae×List aj),sgR a=(#[pV].map λs=>s.length).sum
 | []=>rfl
 | x::r=>by have b:=Jq r;unfold sgR at b ⊢;rw[Qj,QN,b,Q5,Qd,Q9]
theorem ZoW(a:#[17]):YS #[jG]:=by
 have e:ZG (Y4 a)=ZX 0 a.length:=by unfold ZG Y4;rw[List.map_fst_zip];unfold ZX;rw[Qa,Qa,Qal];exact Qh _
 rw[e];exact Sz _
theorem ZoM(a:#[17]):#[jG].length=a.length:=by unfold ZG Y4 ZX;simp
theorem Zpe{hd:Hd}{N:#[i]}(h:Win hd N af):hSg hd N=0:=by
 unfold hSg;induction N with
 | nil=>rfl
 | cons n r a=>rw[Qj,QN,h n #[4],a λm b=>h m (Qu _ b)];rfl
theorem ZmS{a:#[17]}(p:a.length<=60)(srt:#[oH,a]){k0 d k1 g:Int}(q:YI (hdP (Y4 a)) 8 #[jG] k0 d)(r:YH (Y4 a) k1 g):k0+k1<=#[fn,a.length]+(hgt a.length:Int)*#[hN]/\d+g<=k0+k1+(sgR a:Int)/\∃ts,(ts.map λt:ZC=>t.2.2).Perm #[pV]/\∀b t,ts=b++[t]->d+g<=k0+k1+(sgn b:Int):=by
 obtain⟨ts,c,tk,w⟩:=r.takes;show#[e9,v,hk0,y,q.phi];have up:=ZoW a;have i:=ZoM a;have j:=NY #[lF] a srt;have z:=tk.amort up (by rw[i];exact QL p #[6]) j v;obtain⟨_,b0,k,A⟩:=z;rw[tk.num]at w;obtain⟨B,l⟩:=Phi.ex (hdP c) #[jG].length #[jG] #[gp] (Xm up);have C:=l.le w;rw[Zpe w]at C;have D:B=0:=by have:(VU (hdP c) af:Int)=0:=rfl;lia
 subst D;obtain⟨c1,c2⟩:=A 0 l;have E:Y1 c=0:=by
  have h1:=tk.tk.row;have F:Xs c=[]:=by
   apply List.eq_nil_iff_forall_not_mem.mpr;intro u G;obtain⟨x,m,e1,e2,H⟩:=Jy G;have I:x.1∈ZG (Y4 a):=by rw[<- tk.num];exact Qm (f:=#[sN]) m
   have h:=w x.1 I;rw[WQ #[dj,tk.num,Xm,up] m]at h;have aN:=(Qc.mp H).1;rw[Qb #[2]]at h;cases h
  rw[<- NX,F];rfl
 have J:=tk.left (Xm up);rw[UU]at J;have n:=(Zmg tk (Xm up) j E).1;have o:(ts.map λt:ZC=>t.2.2).Perm #[pV]:=by have e:Yh (Y4 a)=a.flatMap #[f6]:=Zqd a;rw[e]at n;exact n
 have hsg:sgn ts=sgR a:=by rw[ZoL,Jq];exact(o.map λs=>s.length).sum_nat
 rw[i]at k y;have K:ts.length=#[53].sum:=by lia
 rw[K]at k;refine⟨by lia,by lia,ts,o,λb t e=>?_⟩;have:=c2 b t e w;lia
structure Pcs (cR cM:ae) (H0:Hp) (F:ae->Prop) (p D:ae) (P0:#[an]) (lr lu:Int) (H:Hp) (X:MS) (us:List (ae×ZC)):Prop where
 mg:MOk cR cM H X
 nb:X.nb<=35
 tk:YV P0 (us.map #[f6]) (Y5 X.L) (X.li-lr) (X.lo-lu)
 fp:∀b,MFp X b->F b\/H0 b=af
 np:¬ MFp X p
 nD:¬ MFp X D
 d:H D=U #[d2,us.map]
 tu:∀u∈us,VW H u
 kp:∀b o,H0 b=U o->b≠p->¬ F b->H b=U o
variable {cR cM:ae} {H0 H H':Hp} {F:ae->Prop} {p D:ae} {P0:List Zy} {lr lu:Int} {X X':MS} {us ts:List (ae×ZC)} in
theorem Pcs.same(h:#[lT])(s:Zw H H'):Pcs cR cM H0 F p D P0 lr lu H' X us :=
 ⟨h.mg.same s,h.nb,h.tk,h.fp,h.np,h.nD,s _ _ h.d,λu a=>s _ _ (h.tu u a),λb o c n f=>s _ _ (h.kp b o c n f)⟩
variable {cR cM:ae} {H0 H H':Hp} {F:ae->Prop} {p D:ae} {P0:List Zy} {lr lu:Int} {X X':MS} {us ts:List (ae×ZC)} in
theorem Pcs.took(h:#[lT])(i:H0 D=af){k q:Int}(d:MOk cR cM H' X')(e1:X'.nb=X.nb)(e2:X'.li=X.li+k)(e3:X'.lo=X.lo+q)(tk:YV (Y5 X.L) #[mJ] (Y5 X'.L) k q)(fp:∀b,MFp X' b->MFp X b)(kk:∀b o,H b=U o->¬ MFp X b->H' b=U o)(j:∀u∈ts,VW H' u) :
  Pcs cR cM H0 F p D P0 lr lu (upd H' D (.lst ((us++ts).map λu=>V.ref u.1))) X' (us++ts):=by
 have e:=kk _ _ h.d h.nD;refine⟨⟨d.M.keep λb o a l=>?_,d.W,d.ok⟩,by rw[e1];exact h.nb,by rw[Qd];exact(h.tk.app tk).cast #[2] #[2],λb a=>h.fp b (fp b a),λz=>h.np (fp _ z),λz=>h.nD (fp _ z),Zb,λu hu=>?_,λb o a n f=>?_⟩
 ·rw[Ze (λz=>?_)]
  ·exact a
  ·rcases l with f|⟨xs,rfl⟩
   ·exact h.nD (fp _ (z ▸ f))
   ·show#[d9,z,e,a]
 ·have c:VW H' u:=by
   rcases Qg.mp hu with hu|hu
   ·exact kk _ _ (h.tu u hu) (h.mg.M.fp_tup (h.tu u hu))
   ·exact j u hu
  unfold VW at c ⊢;show#[ny,Ze,z,e,c]
 ·rw[Ze (Zd a i)];exact kk _ _ (h.kp b o a n f) λz=>by
   rcases h.fp b z with g|g
   ·exact f g
   ·show#[eX,g,a,a]
theorem Zsm(o:Option aj):oV o=JD o:=by cases o<;>rfl
def XA(L:#[a4])(a:XD):Prop:=a.map #[f6]=UX #[gC]
theorem XA.eq{L:#[a4]}{a:XD}(h:XA L a):a.map #[f6]=L.map λe=>(e.n,e.ss[e.g]?):=by have:=h;unfold XA UX at this;rw[QA]at this;exact this
theorem XA.len{L:#[a4]}{a:XD}(h:XA L a):a.length=L.length:=by have:=#[cO,h.eq];rwa [Qa,Qa]at this
theorem XA.mem{L:#[a4]}{a:XD}(h:XA L a){x:#[mX]}(hx:x∈a):∃e∈L,x.2=#[qN]:=by have:x.2∈a.map #[f6]:=Qm (f:=λx:ae×Int×Option aj=>x.2) hx;rw[h.eq]at this;obtain⟨e,b,c⟩:=#[rH];exact⟨e,b,c.symm⟩
theorem XA.mem'{L:#[a4]}{a:XD}(h:XA L a){e:ZD}(he:e∈L):∃x∈a,x.2=#[qN]:=by have:#[qN]∈L.map λe:ZD=>(e.n,e.ss[e.g]?):=Qm (f:=λe:ZD=>(e.n,e.ss[e.g]?)) he;rw[<- h.eq]at this;obtain⟨x,b,c⟩:=#[rH];exact⟨x,b,c⟩
theorem XA.in{L:#[a4]}{a:XD}(h:XA L a){e:ZD}(he:e∈L){z:aj}(hz:e.ss[e.g]? = U z):(z,e.n)∈WM a:=by obtain⟨x,b,c⟩:=h.mem' he;unfold WM;refine List.mem_filterMap.mpr ⟨x,b,?_⟩;rw[c,hz];rfl
theorem XA.at{L:#[a4]}{a:XD}(h:XA L a){u:aj×Int}(hu:u∈WM a):∃e∈L,e.n=u.2/\e.ss[e.g]? = U u.1:=by obtain⟨x,d,b,c⟩:=ZmC hu;obtain⟨e,f,g⟩:=h.mem d;rw[g]at b c;exact⟨e,f,b,c⟩
theorem XA.least{L:#[a4]}{c:XD}(h:XA L c)(nd:#[j8]){e:ZD}(he:e∈L){z:aj}(hz:e.ss[e.g]? = U z)(W:#[jf]){v:V}(l:JC (WM c) v):v=.int e.n:=by
 have a:=h.in he hz;rcases l with⟨m,_⟩|⟨u,n,o,rfl⟩
 ·show#[eX,m,a,a]
 obtain⟨p,d,q,r⟩:=h.at n;obtain⟨_,x,i,s⟩:=W;rw[Wf nd he,hz]at i;have t:cds z=x:=Qk i;subst t;have b:=Wf nd d;rw[r]at b;rcases s p.n (Qm (f:=λe:ZD=>e.n) d) _ b with g|g
 ·rw[<- q,g]
 ·exfalso;have w:=Xu (cds z) (cds u.1);rcases Zsr (o _ a) with k|⟨k1,k2⟩
  ·have k':ZL (cds u.1) (cds z)<0:=k;rcases g with g|⟨g,_⟩<;>lia
  ·have j:u.1=z:=k1;have Ac:u.2<=e.n:=k2;rw[j,Wh]at w;rcases g with g|⟨_,g⟩
   ·rw[j,Wh]at g;lia
   ·lia
def Dg(s:aj)(n:Nat):Prop:=s.length<=n/\∀c∈cds s,48<=c/\c<58
theorem Dg.app{x y:aj}{n m:Nat}(a:Dg x n)(b:Dg y m):Dg (x++y) (n+m):=by
 refine⟨by rw[PySem.Str.length_append];have:=a.1;have:=b.1;lia,λc h=>?_⟩;rw[Lw]at h;rcases Qg.mp h with h|h
 ·exact a.2 c h
 ·exact b.2 c h
noncomputable def dgB(s:aj)(n:Nat):Bool:=decide (s.length<=n)&&(cds s).all λc=>decide (48<=c)&&decide (c<58)
theorem NU{s:aj}{n:Nat}(h:dgB s n=true):Dg s n:=by unfold dgB at h;rw[QU]at h;refine⟨of_decide_eq_true h.1,λc a=>?_⟩;have:=List.all_eq_true.mp h.2 c a;rw[QU]at this;exact⟨of_decide_eq_true this.1,of_decide_eq_true this.2⟩
noncomputable def okI(i:Int)(n:Nat):Bool:=dgB (V4 #[p8]) n&&ax.layable0 #[p8]&&(ax.int i).intsShort 13&&(ax.int i).showable
theorem Zp7:∀k:Fin 40,okI (1990+(k.val:Int)) 4=true:=by ac_rfl
theorem Jp:∀k:Fin 28,okI (1+(k.val:Int)) 2=true:=by ac_rfl
theorem Zr9{i:Int}{n:Nat}(h:okI i n=true):Dg (V4 #[p8]) n/\ax.layable0 #[p8]=true/\(ax.int i).intsShort 13=true/\(ax.int i).showable=true:=by unfold okI at h;rw[QU,QU,QU]at h;exact⟨NU h.1.1.1,h.1.1.2,h.1.2,h.2⟩
theorem NT{a i:Int}{m n:Nat}(h:∀k:Fin m,okI (a+(k.val:Int)) n=true)(h0:0<=i)(h1:i<(m:Int)):Dg (V4 #[oA,a,i]) n/\ax.layable0 #[oA,a,i]=true/\(ax.int (a+i)).intsShort 13=true/\(ax.int (a+i)).showable=true:=by
 have e:i=#[eb,i.toNat]:=by lia
 rw[e];exact Zr9 (h ⟨i.toNat,by lia⟩)
theorem Jo(b:Bool):∃z:aj,atI [V.str "0",V.str ""] #[b0]=U (.str z)/\Dg z 1:=by
 cases b
 ·exact⟨"0",rfl,NU #[1]⟩
 ·exact⟨"",rfl,NU #[1]⟩
theorem Zsk:AZ "abcdefghij":=by unfold AZ cds;ac_rfl
def Jn:Sp:=λvs H Q _=>X2 λ(p:ae) (c:Int)=>vs=#[hd]/\YM H p c/\c<2 ^ 50 /\
 ∀ (z:aj) (a:Int) (H':Hp),z.length<=28/\AZ z->YM H' p a->c<=a->a<=c+3->But p H H'->Q (.str z) H'
theorem ZqF(T:#[n])(N:#[25]):Df P w K mg base 3 "_law_date" #[bV] Jn:=by
 show#[cE,T.t_l_date.df,Po,vs,a];show#[eq,p,c,hL,c1];refine⟨_,#[Zg,(@ZpV _ _ 1 2 3 _ _ _ _ _ _ _ _ _ _ _ _ _ _ rfl Po.nd rfl rfl rfl rfl rfl rfl #[Zc,#[eE,N,a],#[eE,N,a],#[eE,N,a]] rfl #[5]),#[Zg,#[ZB,4,Po.nd,#[3],#[ZJ,UE,#[ZJ,UE,#[ZJ,UE,#[ZJ,UE,#[XQ,(RA K a),T.b.n_str,boot_str,#[Zc,‹1›]],#[Zx,#[lz],#[tL],#[XQ,Ts,T.b.n_int,boot_int,#[Zc,#[WY,WZ,‹2›,#[Zi],#[h4]]]]]],#[XQ,(RA K a),T.b.n_str,boot_str,#[ag]]],#[Zx,#[lz],#[tL],#[XQ,Ts,T.b.n_int,boot_int,#[Zc,#[WY,WZ,‹3›,#[Zi],#[h4]]]]]],#[XQ,(RA K a),T.b.n_str,boot_str,#[qg]]]],#[Zj,#[Zn,#[Xw,PySem.F.plainAttrs_str,PySem.F.slot_str_join,PySem.F.type_str_join,(Zs8 K),#[ZN],#[Zc,#[Yd,Pk,(@Zst _ _ _ _ ‹4›),#[di,5,Pk],#[J],(λ_ _ _ _=>#[Zx,UD,#[ZN],#[XQ,ZuA,T.b.n_int,boot_int,#[Zc,#[cw,5,Pk]]]])]]]]]]],?_⟩;have c0:=hL.ge;refine⟨_,rfl,p,c,_,rfl,hL,by lia,by decide,by decide,λy H1 y0 y1 L1 B1=>⟨_,_,rfl,rfl,?_⟩⟩;refine⟨_,rfl,p,c+1,_,rfl,L1,by lia,by decide,by decide,λF H2 m0 m1 L2 B2=>⟨_,_,rfl,rfl,?_⟩⟩;refine⟨_,rfl,p,c+1+1,_,rfl,L2,by lia,by decide,by decide,λd H3 d0 d1 L3 B3=>⟨_,_,rfl,rfl,?_⟩⟩;have sY:But p H H3:=(B1.trans B2).trans B3;obtain⟨t,ay,BI,cy⟩:=NT Zp7 y0 y1;obtain⟨I,am,bm,cm⟩:=NT (i:=F) Jp m0 #[2];obtain⟨gd,ad,bd,cd⟩:=NT (i:=d) Jp d0 d1;have J:∀ {z u:aj} {n m:Nat},Dg z n->Dg u m->n+m<=100->z.length+u.length<=aq:=λg g' h=>small (by have:=g.1;have:=g'.1;lia);refine⟨_,_,_,rfl,_,rfl,_,.int _,rfl,.int _,ay,BI,cy,#[w],λl hl=>⟨_,rfl,_,_,rfl,rfl,.inr #[ge]⟩⟩;obtain⟨z1,BJ,B⟩:=Jo (decide ((9:Int)<1+F));refine⟨l,_,_,_,rfl,rfl,SqL.of Zb,BJ,_,_,rfl,rfl,J t B #[6],_,rfl,_,.int _,rfl,.int _,am,bm,cm,_,_,rfl,rfl,J (t.app B) I #[6],#[w],λl2 eV=>⟨_,rfl,_,_,rfl,rfl,.inr #[ge]⟩⟩;obtain⟨z2,hU,O⟩:=Jo (decide ((9:Int)<1+d));refine⟨l2,_,_,_,rfl,rfl,SqL.of Zb,hU,_,_,rfl,rfl,J #[p9] O #[6],_,rfl,_,.int _,rfl,.int _,ad,bd,cd,_,_,rfl,rfl,J (#[p9].app O) gd #[6],?_⟩;have G:=(#[p9].app O).app gd;have s4:=(Zh hl #[sf]).trans (Zh eV #[sf]);have R:=L3.same s4;have B4:But p H _:=sY.trans (But.same s4);generalize upd (upd H3 l (.lst [.str "0",.str ""])) l2 (.lst [.str "0",.str ""])=H4 at R B4 ⊢;generalize V4 (.int (1990+y))++z1++V4 (.int (1+F))++z2++V4 (.int (1+d))=j at G ⊢;refine⟨rfl,_,rfl,j,rfl,λD S=>?_⟩;have npD:p≠D:=by obtain⟨o,ho⟩:=R.here;exact Zd ho S
 have pV:j.cps.size=j.length:=rfl;have CM:=G.1;refine Zmn (λi L W C=>X2 λ(ts:List aj) (v:Option V)=>W=[U #[gY],U #[oA,1990,y],U #[oA,1,F],U #[oA,1,d],U (.str j),v]/\L=ts.map V.str/\ts.length=i/\i<=j.length/\#[fd,ts,1]/\C D=U (.lst L)/\Zw H4 C) ?_ ?_ ?_
 ·exact⟨[],af,rfl,rfl,rfl,Qt _,#[cM,s,r],Zb,Zh S _⟩
 ·rintro i X L W C e7 ⟨ts,v,rfl,rfl,Y,hi,r,Z,M⟩;have ce:i<j.length:=by rw[<- pV];exact(Array.getElem?_eq_some_iff.mp e7).1
  have fI:=G.2 X (Qo #[cL,Array.getElem?_toList,e7]);obtain⟨n,rfl⟩:∃n,X=48+n:=⟨X-48,by lia⟩;obtain⟨e,BK,he⟩:=T7 (z := "abcdefghij") (k:=(n:Int)) #[2] (by show (n:Int)<10;lia);unfold UH WH;refine Wl ⟨_,rfl,n,rfl,by lia,_,_,_,rfl,rfl,#[1],he,Z,(by rw[Qa,Y];exact #[rC]),ts++[⟨#[e]⟩],_,rfl,by rw[Qd];rfl,by rw[Qf,Y];rfl,ce,λx hx=>?_,Zb,λb o hb=>by rw[Ze (Zd hb S)];exact M b o hb⟩;rcases Qg.mp hx with hx|hx
  ·exact r x hx
  ·rw[Qe.mp hx];exact⟨Qh 1,Zsk.one BK⟩
 ·rintro L W C ⟨ts,v,rfl,rfl,Y,_,r,Z,M⟩;have jY:=LA ts λs h=>(r s h).1;have ke:=Zm2 "" ts;have e0:("" : aj).length=0:=by ac_rfl
  rw[e0]at ke;refine⟨_,D,ts,rfl,rfl,SqL.of Z,#[dv,e0],?_⟩;exact q _ (c+1+1+1) C ⟨by lia,AZ.joinT ts λs h=>(r s h).2⟩ (R.same M) #[2] #[2] (B4.trans (But.same M))
noncomputable def NS:List aj:=["the", "then", "there", "these", "they", "a", "an", "and", "any", "in", "into", "inn", "of", "off", "or"]
noncomputable def NR:List aj:=["order", "row", "rows", "merge", "merged", "merges", "key", "keys", "run"]
noncomputable def TC:List aj:=["ann", "anna", "annabel", "anne", "ben", "benedict", "benno", "clara", "clare", "claire"]
theorem Znj:∀s∈NS++NR,s.length<=6/\AZ s:=by unfold AZ cds;ac_rfl
theorem ZnN:∀s∈TC,s.length<=8/\AZ s:=by unfold AZ cds;ac_rfl
theorem NQ:("smith" : aj).length=5/\AZ "smith":=by unfold AZ cds;ac_rfl
def Jm:Sp:=λvs H Q _=>X3 λ(p:ae) (c so:Int)=>vs=#[ft,p,so]/\YM H p c/\c<2 ^ 40/\0<=so/\so<3 /\
 ∀ (z:aj) (a:Int) (H':Hp),z.length<=28/\AZ z->YM H' p a->c<=a->a<=c+3->But p H H'->Q (.str z) H'
theorem Zpl(T:#[n])(F:#[25])(I:#[c2,3,"_law_date",#[bV],Jn]):Df P w K mg base 4 "_law_thing" #[bW] Jm:=by
 show#[cE,T.t_l_thing.df,SS,J,u];obtain⟨p,c,L,rfl,n,c1,wQ,wR,q⟩:=h;refine⟨_,#[Zg,#[ZB,2,SS.nd,#[3],#[Ym,#[Za,#[ZN],#[Za,#[ZN],#[Za,#[ZN],#[Za,#[ZN],#[Za,#[ZN],#[Za,#[ZN],#[40]]]]]]]]],#[Zg,#[ZB,2,SS.nd,#[3],#[ZJ,Zsi,‹2›,#[Ym,#[40]]]],#[Zg,#[ZB,3,SS.nd,#[3],#[Ym,#[Za,#[ZN],#[40]]]],#[Zg,#[Y0,#[nS,1],#[Zj,#[Zn,#[dN,I,u,#[bp]]]],#[ZM]],#[Zg,#[Y0,#[nS,1],#[Zj,#[Zn,#[ZJ,UE,#[ZN],#[Zx,#[lz],‹3›,#[dN,F,u,#[84]]]]]],#[ZM]],#[Zj,#[Zn,#[Zx,#[lz],‹2›,#[dN,F,u,#[84]]]]]]]]]],?_⟩;have c0:=n.ge;refine⟨#[eM,15],λa v=>?_⟩;refine⟨_,rfl,#[eM,9],λb i=>?_⟩;have M:a≠b:=λz=>by rw[<- z,Zb]at i;cases i
 refine⟨a,b,NS.map V.str,NR.map V.str,rfl,rfl,by rw[Ze M];exact Zb,Zb,#[eM,24],λj hw=>?_⟩;refine⟨#[eM,10],λe g=>?_⟩;have nwe:j≠e:=λz=>by rw[<- z,Zb]at g;cases g
 have G:=((Zh v _).trans (Zh i _)).trans ((Zh hw _).trans (Zh g #[ff,TC.map]));have r:=n.same G;have x:=But.same (p:=p) G;have N:=(Zh g #[ff,TC.map]) j _ Zb;have O:j≠p:=λz=>by obtain⟨o,ho⟩:=r.here;obtain⟨_,_,y,_⟩:=n;rw[z,(Zh i _) _ _ ((Zh v _) _ _ y)]at hw;cases hw
 have R:e≠p:=λz=>by obtain⟨_,_,y,_⟩:=n;rw[z,(Zh hw _) _ _ ((Zh i _) _ _ ((Zh v _) _ _ y))]at g;cases g
 refine#[kV]
 ·exact⟨_,rfl,p,c,rfl,r,by lia,λz S H' l U W X B=>q z S H' l U W X (x.trans B)⟩
 refine#[kV]
 ·refine#[fK];obtain⟨z,l,t⟩:=Pf (ss:=TC) k0 (by show k<10;exact k1);obtain⟨z1,z2⟩:=ZnN z l;refine⟨e,_,_,_,rfl,rfl,SqL.of (m e #[ff,TC.map] Zb R),t,_,_,rfl,rfl,small #[oQ,NQ.1],?_⟩;exact q _ _ C ⟨by rw[PySem.Str.length_append];have:=NQ.1;lia,NQ.2.app z2⟩ D #[2] #[2] (x.trans m)
 ·refine#[fK];obtain⟨z,l,t⟩:=Pf (ss:=NS++NR) k0 (by show k<24;exact k1);obtain⟨z1,z2⟩:=Znj z l;rw[Qd]at t;refine⟨j,_,_,_,rfl,rfl,SqL.of (m j _ N O),t,?_⟩;exact q _ _ C ⟨by lia,z2⟩ D #[2] #[2] (x.trans m)
theorem ZrS(b:Bool)(x y:Int):atI [V.int x,V.int y] #[b0]=U (.int (if b=true then y else x)):=by cases b<;>rfl
def Zp6:Sp:=λvs H Q _=>X2 λ(p:ae) (c:Int)=>vs=#[hd]/\YM H p c/\c<2 ^ 30 /\
 ∀ (r:ae) (ts:List aj) (a:Int) (H':Hp),H r=af->H' r=U #[ff,ts.map]->1<=ts.length->ts.length<=40->#[fd,ts,28]->YM H' p a->c<=a->a<=c+500->But p H H'->Q #[83] H'
theorem ZoS(T:#[n])(v:#[25])(eM:#[c2,4,"_law_thing",#[bW],Jm]):Df P w K mg base 5 "_law_everyday" #[bV] Zp6:=by
 show#[cE,T.t_l_everyday.df,Ud,vs,k];show#[eq,p,c,hL,c1];refine⟨_,#[Zg,#[ZB,1,Ud.nd,#[3],#[sp]],#[Zg,#[dU,2,Ud.nd],#[Zg,#[Xx,ba.never,#[Vq,T.b.n_range,#[Zc,#[Zx,#[lz],#[Ym,#[Zc,#[eE,v,k],#[eE,v,k]]],#[XQ,Ts,T.b.n_int,boot_int,#[Zc,#[WY,YG,#[sp],#[Zi],#[h4]]]]]]],#[oc,3,Ud.nd],#[Zg,#[ZB,4,Ud.nd,#[3],#[tS,eM,k]],#[Zj,#[Yf,#[Xw,QI,QS,QT,WW,‹2›,#[Zc,#[Xz,(@PW.pt _ _ _ #[WK,#[cR,WZ,3,#[Zi]],(@VP _ _ _ _ #[Zm,YG,#[sp],#[Zi],#[h4]])]),#[Zx,#[lz],‹2›,#[ZE,v,k,#[fb,0,3],#[5]]],‹4›]]]]]]],#[aP]]]],?_⟩;have c0:=hL.ge;refine⟨_,rfl,p,c,_,rfl,hL,by lia,by decide,by decide,λJ H1 wQ wR L1 B1=>?_⟩;show#[eY,#[29],r,L];have a:p≠r:=by obtain⟨o,R⟩:=L1.here;exact Zd R L
 have oC:H r=af:=ZqS B1 a L;have BP:But p H (upd H1 r #[av]):=B1.trans (But.same (Zh L _));show#[tZ,gc,H1,r,#[av],#[nd]];refine⟨_,rfl,p,c+1,_,rfl,L1.new L,by lia,by decide,by decide,λa1 l a10 a11 L2 y=>⟨_,_,rfl,rfl,?_⟩⟩;refine⟨_,rfl,p,c+1+1,_,rfl,L2,by lia,by decide,by decide,λa2 M a20 a21 B C=>⟨_,_,rfl,rfl,?_⟩⟩;show#[eY,#[w],m,N];have BQ:p≠m:=by obtain⟨o,R⟩:=B.here;exact Zd R N
 have g:=C r _ (y r _ gc a.symm) a.symm;have nK:r≠m:=Zd g N;have sY:But p H #[jt]:=((BP.trans y).trans C).trans (But.same (Zh N _));have wT:#[jt] r=U #[nd]:=by rw[Ze nK];exact g
 refine⟨_,rfl,p,c+1+1+1,_,rfl,B.new N,by lia,by decide,by decide,λa3 j a30 a31 S D=>⟨rfl,.inr #[ge]⟩⟩;refine⟨m,_,_,_,rfl,rfl,SqL.of (D m _ Zb BQ.symm),ZrS ..,?_⟩;have nV:=D r _ wT a.symm;have BR:#[e5,j]:=sY.trans D;have fC:∀b:Bool,7<=#[m6]/\#[m6]<=40:=λb=>by cases b<;>simp<;>lia
 have BS:=fC (decide (V.int a3=V.int 0));generalize (if decide (V.int a3=V.int 0)=true then 7+a2 else 7+a1)=many at BS ⊢;refine⟨_,rfl,by lia,by lia,?_⟩;refine VM (λi W l=>X4 λ(ts:List aj) (F G:Option V) (c2:Int)=>W=#[mF]/\l r=U #[ff,ts.map]/\ts.length=i/\#[fd,ts,28]/\YM l p c2/\c+4<=c2/\c2<=c+4+8*i/\∀b o,H b=U o->b≠p->l b=U o) ⟨[],_,_,_,rfl,nV,rfl,#[cM,s,hs],S,by lia,by lia,BR⟩ ?_ ?_
 ·rintro i W l hi ⟨ts,F,G,c2,rfl,X,Y,O,L2,BU,BV,y⟩;have CN:(i:Int)<41:=by lia
  refine⟨_,rfl,_,rfl,p,c2,J,rfl,L2,by lia,wQ,wR,λt c3 M fN B a3 a4 C=>?_⟩;have g:=C r _ X a.symm;have u:∀ (k2:aj) (c4:Int) (j:Hp),k2.length<=28/\AZ k2->YM j p c4->c2<=c4->c4<=c2+8->j r=U #[ff,ts.map]->#[dO,H,p,j] ->
    X4 λ(Z:List aj) (F G:Option V) (sZ:Int)=>[U (V.ref p),U (V.int J),U (V.ref r),U (V.int #[jL]),U (V.str t)]=#[mF] /\
     (upd j r #[gZ]) r=U #[ff,Z.map]/\Z.length=i+1/\#[fd,Z,28]/\YM (upd j r #[gZ]) p sZ/\c+4<=sZ/\sZ<=c+4+8*#[ej,i,1] /\
     (∀b o,H b=U o->b≠p->(upd j r #[gZ]) b=U o):=λk2 c4 j hk S b1 b2 nV D=>by
   refine⟨ts++[k2],_,_,c4,rfl,?_,by rw[Qf,Y];rfl,?_,S.at a,by lia,by lia,λb o e n=>?_⟩
   ·rw[Zb,Qd];rfl
   ·intro x hx;rcases Qg.mp hx with hx|hx
    ·exact O x hx
    ·rw[Qe.mp hx];exact hk
   ·rw[Ze (Zd e oC)];exact D b o e n
  have aN:(ts.map V.str).length<aq:=by rw[Qa,Y];exact #[rC]
  have tf:#[e5,M]:=λb o z n=>C b o (y b o z n) n;refine⟨_,rfl,.inl #[dl,g],_,rfl,_,_,rfl,rfl,_,rfl,Y2 #[79] (λd=>YQ ?_)⟩
  ·have rk:#[lM]<0+(i:Int):=#[58];refine⟨_,rfl,p,c3,_,rfl,B,by lia,by decide,by decide,λd5 H5 d50 d51 L5 I=>⟨rfl,_,rfl,Y2 (λ_=>?_) (λ_=>?_)⟩⟩
   ·have g7:=I r _ g a.symm;refine⟨_,rfl,_,rfl,_,rfl,p,c3+1,_,rfl,L5,by lia,rk,by lia,λd6 H6 BW d61 L6 B6=>?_⟩;obtain⟨st,kN,ij⟩:=Pf (ss:=ts) BW #[2];have tj:=B6 r _ g7 a.symm;refine⟨r,_,_,_,rfl,rfl,SqL.of tj,ij,r,_,_,rfl,rfl,tj,aN,?_⟩;exact u st _ _ (O st kN) L6 #[2] #[2] tj λb o z n=>B6 b o (I b o (tf b o z n) n) n
   ·refine⟨_,rfl,r,_,_,rfl,rfl,I r _ g a.symm,aN,?_⟩;exact u t _ _ fN L5 #[2] #[2] (I r _ g a.symm) λb o z n=>I b o (tf b o z n) n
  ·exact⟨_,rfl,r,_,_,rfl,rfl,g,aN,u t _ _ fN B #[2] #[2] g tf⟩
 ·rintro W l ⟨ts,F,G,c2,rfl,X,Y,O,L2,BU,BV,y⟩;exact⟨_,rfl,q r ts c2 l oC X #[2] #[2] O L2 #[2] #[2] λb o e n=>y b o e n⟩
noncomputable def Xr(u:ZC):ax:=.tuple [.int u.1,.int (u.2.1:Int),.str u.2.2]
theorem NP:∀us:List ZC,(∀u∈us,AZ u.2.2)->ax.canLayAll0 (us.map Xr)=true/\ax.depthAll (us.map Xr)<=1
 | [],_=>⟨rfl,by simp[ax.depthAll]⟩
 | n::r,h=>by obtain⟨a,b⟩:=NP r λu hu=>h u (Qu _ hu);refine⟨by simp[ax.canLayAll0,ax.canLay0,Xr,a,(h n #[4]).ok],?_⟩;rw[Qj];simp only[ax.depthAll,ax.depth,Xr];lia
theorem NO(us:#[gV])(h:∀u∈us,AZ u.2.2):SeqAt.shaped (.list (us.map Xr))=true:=by obtain⟨a,b⟩:=NP us h;simp only[SeqAt.shaped,ax.canLay0,ax.depth,a,Bool.true_and];exact #[fN]
theorem R0{K:#[7]}{H:Hp}:∀us:List (ae×ZC),(∀u∈us,VW H u)->DVs K H #[dA,us.map] #[ab]
 | [],_=>.nil
 | u::r,h=>.cons (.tup (SqT.of (h u #[4])) (.cons (.int _) (.cons (.int _) (.cons (.str _) .nil)))) (R0 r λx hx=>h x (Qu _ hx))
theorem YV.first{P b:#[an]}{ts:#[gV]}{k q:Int}(h:#[n4,b]):ts=[]/\b=P\/X5 λx z k1 a r=>WP P x z k1 a/\ts=#[f9]::r:=by
 induction h with
 | nil=>exact .inl #[aR]
 | snoc h s c =>
  rcases c with⟨rfl,rfl⟩|⟨x,z,k1,a,r,d,rfl⟩
  ·exact .inr ⟨_,_,_,_,[],s,rfl⟩
  ·exact .inr ⟨x,z,k1,a,r++[_],d,rfl⟩
def Zsp(K:#[7]):Sp:=λvs H Q _=>X5 λ(a r:ae) (ss:List aj) (ls:List ae) (R:List (List Int))=>vs=#[nZ,a,r]/\Vu H a r ss ls R/\R6 ss R/\R.length<=16/\ss.length<=40/\∀H',Zw H H'->Q #[pr] H'
theorem Zqq(T:#[n])(bj:#[ar])(cU:#[cX,2,"left",#[V],K5])(cH:#[cX,3,"heads",#[V],K3])(eO:#[fF,1,"next_of","heads",JB])(aX:#[aa])(bh:#[qV])(bL:#[tJ])(dr:#[fC,17,"bounds_of","rows",Jr])(cN:#[qS]):Df P w K mg base 18 "_law_taken_right" #[hx] (Zsp K):=by
 show#[cE,T.t_l_taken_right.df,ZS,vs,Z];obtain⟨a,r,ss,ls,R,rfl,hI,wU,CO,wV,q⟩:=h;refine⟨_,#[Zg,#[UA,2,ZS.nd,Pj,#[iL,K,‹1›],#[di,12,Pj],#[J],(λ_ _ _ _=>#[Yd,SM,#[iL,K,#[cw,12,Pj]],#[di,13,SM],#[J],(λ_ _ _ _=>#[fJ,0,SM,13])])],#[Zg,#[ZB,3,ZS.nd,#[3],#[Vf,bj,Z,#[ag]]],#[Zg,#[dU,4,ZS.nd],#[Zg,(@UG _ _ _ _ _ _ ba.never #[Zm,WZ,#[dD,cU,Z,3],#[Zi],#[h4]] #[Zg,#[ZB,5,ZS.nd,#[3],#[ZE,eO,Z,#[Zc,#[dD,cH,Z,3]],#[5]]],#[Zg,#[ZB,6,ZS.nd,#[3],#[W6,aX,T.cl_Merge,Z,‹3›,#[Zc,#[Zi]]]],#[Zg,#[Y0,(@PW.pt _ _ _ #[W5,#[Zm,(@eqD _ K _ Z #[5]),‹6›,#[Ym,#[Zc]],#[h4]],#[W5,#[Zm,Ztm,#[Zx,(ixT K),#[df,ixL,6],#[Zi]],‹5›,#[h4]],(@VO _ _ _ _ #[Zm,WZ,#[dT,4],#[bh],#[h4]])]]),#[ao],#[ZM]],#[Zj,#[tT,PySem.F.slot_list_extend,PySem.F.type_list_extend,MO,4,6]]]]]),#[Zg,#[dU,7,ZS.nd],#[Zg,#[Xx,ba.never,#[o2,#[ag]],#[gT,K,2,#[Zp,#[Zz,8,ZS.nd,#[rk]],#[Zp,#[oc,9,ZS.nd],(@YB _)]]],#[Zj,#[Yf,#[Xw,QI,PySem.F.slot_list_extend,PySem.F.type_list_extend,MO,‹7›,#[Zc,#[Yd,U6,#[iE,K,T.b.n_enumerate,#[Zc,‹9›]],#[cQ,12,U6,13],#[J],(λ_ _ _ _=>#[ZO,#[Zc,#[cw,13,U6],#[cv,8,U6],#[cw,12,U6]]])]]]]]],#[Zg,#[Y0,#[Zm,(@neD _ K _ Z #[5]),‹4›,#[Yd,VC,#[iL,K,#[Zk,(Mr K),#[5],T.b.n_sorted,boot_sorted,#[Zc,‹7›]]],(λ_ _ _ _=>#[gT,K,3,#[Zp,#[cg,12,VC],#[c7,13,VC,14]]]),#[J],(λ_ _ _ _=>#[ZO,#[Zc,#[cw,13,VC],#[cw,14,VC],#[cw,12,VC]]])],#[h4]],#[ao],#[ZM]],#[Zg,(@Zsb _ _ 10 11 _ _ _ _ _ _ _ _ _ _ _ rfl ZS.nd rfl rfl #[6] rfl rfl #[Zc,#[ZO,#[Zc,#[dD,bh,Z,3],#[dD,bL,Z,3]]],#[dN,dr,Z,#[ag]]] rfl #[5]),#[Zj,#[Zn,(@UK _ _ _ _ _ _ _ #[WY,(@eqD _ K _ Z #[5]),‹10›,#[dN,cN,Z,#[ag]],#[h4]] (@UK _ _ _ _ _ _ _ #[ke] (@Tx _ _ _ _ _ #[ke])))]]]]]]]]]],?_⟩;have wg:R.length=ls.length:=hI.rd.len.symm;have jY:#[82].sum=ss.length:=by have:=wU.pm.length_eq;show#[oC,List.length_flatten,XN]
 show#[c1,r,hI.ru,M,i7];refine WT (K:=K) (a:=r) (xs:=ls.map V.ref) (λi zs F G=>(∃v:Option V,F=[U #[61],U #[83],af,af,af,af,af,af,af,af,af,af,v])/\(∃g:List (ae×List aj),zs=#[t3,g.map]/\g.map #[f6]=(R.take i).map (YZ ss)/\∀x∈g,x.1≠M/\G x.1=U #[kT])/\i<=ls.length/\G M=U #[bl]/\Zw H G) ?_ #[cJ,hI.ru] ?_ ?_
 ·exact#[f7]
 ·rintro i y zs F G B ⟨⟨v,rfl⟩,⟨g,rfl,N,gP⟩,hi,cz,s3⟩;rw[Ql]at B;cases C:ls[i]? with
  | none=>rw[C]at B;cases B
  | some b =>
  show#[nV,C,B,ls.length];show#[nB,d,hd,jw,hI.rd.at,C];have kj:g.length=i:=by have:=#[cO,N];rw[Qa,Qa,QC]at this;lia
  have sP:=(hI.rg d (Qo hd)).1;have pJ:d.length<=100:=QL (UO hd) #[2];have ox:=s3 _ _ jw;show#[c1,b,ox,E0,hE];have oy:M≠E0:=Zd cz hE;refine WT (K:=K) (a:=b) (xs:=d.map V.int) (λj ys F H5=>(∃v:Option V,F=[U #[61],U #[83],af,af,af,af,af,af,af,af,af,af,U #[p6],v])/\ys=((YZ ss d).take j).map V.str/\j<=d.length/\H5 E0=U #[gd]/\Zw G H5) ?_ #[cJ,ox] ?_ ?_
  ·show#[dL,hE]
  ·rintro j y ys F H5 B ⟨⟨v',rfl⟩,rfl,hj,jx,O⟩;rw[Ql]at B;cases hn:d[j]? with
   | none=>rw[hn]at B;cases B
   | some nn =>
   show#[cI,hn,B,ke,j,d.length];obtain⟨n0,n1⟩:=sP nn (Qo hn);refine⟨_,rfl,_,rfl,a,_,_,_,rfl,rfl,SqL.of (O _ _ (s3 _ _ hI.th)),UR n0 n1,jx,#[el,QC],#[H],?_,ke,Zb,λc o hc=>?_⟩
   ·unfold YZ;rw[QE,Ql,hn,Qd];rfl
   ·show#[nv,hc,hE,O,c,o]
  rintro ys F H5 ⟨⟨v',rfl⟩,rfl,_,jx,O⟩;show#[kY];refine⟨O _ _ cz,#[el,kj],#[H],⟨g++[(E0,YZ ss d)],by rw[Qd];rfl,?_,λx hx=>?_⟩,ce,Zb,λc o hc=>?_⟩
  ·rw[QE,hd,Qd,Qd,N];rfl
  ·rcases Qg.mp hx with hx|hx
   ·obtain⟨g1,g2⟩:=gP x hx;exact⟨g1,by rw[Ze g1];exact O _ _ g2⟩
   ·show#[im]
  ·show#[c6,hc,i7,O,s3,c]
 rintro zs F G ⟨⟨v,rfl⟩,⟨g,rfl,N,gP⟩,_,cz,s3⟩;rw[Qa,Qw #[2]]at N;have cZ:#[oH,g]:=λx hx=>by have:x.2∈g.map #[f6]:=#[bX];show#[eN,N,hd];rw[<- e];exact(hI.rg d hd).2
 have kj:g.length=R.length:=by have:=#[cO,N];rwa [Qa,Qa]at this
 have R3:Wy G M g:=⟨cz,by lia,λx hx=>by
  have:x.2∈g.map #[f6]:=#[bX];show#[eN,N,hd];obtain⟨i,hi⟩:=Qau hd;refine#[mS]
  ·rw[<- e];unfold YZ;rw[Qa];exact QL (UO hi) #[2]
  ·show#[kA];obtain⟨n0,n1⟩:=(hI.rg d hd).1 nn fW;rw[Qq,Qb #[2]];exact hI.key _ (Q3 _)⟩
 have oF:#[oZ,g.map].sum=ss.length:=by rw[<- jY,<- R9 ss R,<- N,QA];rfl
 have km:=s3 _ _ hI.th;clear gP wU i7;refine⟨_,rfl,λm dx hm mG sw=>?_⟩;have s7:Zw G #[c8,G,dx,m,ao]:=λb o C=>by rw[Ze (Zd C hm),Ze (Zd C mG)];exact C
 show#[cZ,tq,G,dx,H7,s7];refine⟨m,dx,M,g,rfl,tq,R3.same s7,cZ,λrd sd L st w0 k0 q0 S M8 fv W8 S8 J wW k8=>⟨rfl,?_⟩⟩;have tw:Zw G S:=#[n1,C,k8,s7,hm];have wX:∀b,MFp #[jo] b->G b=af:=λb C=>by
  rcases wW b C with z|z
  ·rw[z];exact hm
  ·exact s7.free z
 have wY:=TY 8 #[cd] st #[lX] M8.up (QL (show (ZF L).length<=60 by unfold ZF;rw[Qa];exact M8.few) #[6]) #[6] S8;have eP:=Op fv;have wZ:YI (hdP (Y4 g)) 8 (ZG (Y4 g)) k0 q0:=by rw[<- eP,<- Wa,<- Xl];exact J
 clear wW k8 fv S8 J tq s7 hm mG sw;show#[tU,D,hD,sD];have cz:G D=af:=tw.free hD;have P1:Pcs aB ao G (λ_=>False) D D (Y4 g) k0 q0 (upd S D #[av]) #[jo] []:=⟨⟨M8.same sD,W8,wY⟩,(by show (g.length:Int)<=35;lia),YV.cast (by show YV _ _ (Y5 L) 0 0;rw[eP];exact .nil) (by show 0=k0-k0;lia) (by show 0=q0-q0;lia),λb C=>.inr (wX b C),M8.fp_fresh hD,M8.fp_fresh hD,Zb,#[cM,u,h],λb o C _ _=>sD b o (tw b o C)⟩;clear M8 W8 wY eP wX tw sD hD;generalize upd S D (.lst [])=H9 at P1 ⊢;have kC:(ZG (Y4 g)).Nodup:=by rw[<- P1.tk.num,<- Xl];exact P1.mg.M.nd
 refine⟨λmm F H2=>X4 λ(v5 v6:Option V) (Y:MS) (us:List (ae×ZC))=>F=[U #[61],U #[83],U (.ref M),U (.ref m),U #[iy],v5,v6,af,af,af,af,af]/\Y.m=m/\Pcs aB ao G (λ_=>False) D D (Y4 g) k0 q0 H2 Y us/\mm=Y1 (Y5 Y.L),⟨_,_,_,_,[],rfl,rfl,P1,rfl⟩,?_⟩;rintro mm F H2 ⟨v5,v6,Y,us,rfl,rfl,P2,rfl⟩;have sq:=P2.tk.left kC;rw[Qa,UU,oF]at sq;show#[c5,dx,hm,P2.mg.M.ob];refine⟨_,rfl,Y.m,dx,_,rfl,hm,Zke ..,Y.m,Y.rd,Y.sd,Y.L,Y.s,Y.nb,Y.li,Y.lo,XT Y.w,rfl,P2.mg.M,λH4 s4=>?_⟩;have P4:=P2.same s4;have eL:=Zrw (λe he=>(P4.mg.M.each e he).le);clear P2 s4 hm;refine⟨_,_,rfl,rfl,_,rfl,?_⟩;rw[eL];show#[iD]
 ·have CP:#[lM]<#[tC]:=#[58];refine#[gR];show#[c5,jZ,ix,P4.mg.M.ob];refine⟨_,rfl,Y.m,jZ,_,rfl,ix,ZjZ ..,Y.m,Y.rd,Y.sd,Y.L,Y.s,Y.nb,Y.li,Y.lo,XT Y.w,rfl,P4.mg.M,λl H5 sX BX O=>?_⟩;obtain⟨hs,BY,hl,bF⟩:=BX;have hO:XA Y.L hs:=BY;have w8:AtH H5 hs:=λh hh=>by rw[<- Zsm];exact bF h hh
  have xa:H5 l=U #[dp,UM,hs]:=hl;have hhl:=hO.len;have fe:=P4.mg.M.few;refine⟨l,hs,rfl,SqL.of xa,w8,by lia,λv H6 hv s6=>?_⟩;have I:=P4.same (O.trans s6);clear P4 w8 xa bF hl sX O s6 ix;show#[c5,nH,nJ,I.mg.M.ob];refine⟨_,rfl,Y.m,nH,_,rfl,nJ,Om ..,Y.m,Y.rd,Y.sd,Y.L,Y.s,Y.nb,Y.li,Y.lo,Y.w,3,rfl,I.mg.M,I.mg.W,I.mg.ok,by lia,λrr ts L7 s7 w7 k7 q7 H7 vv xb dJ cV j9 fC M7 W7 xc BZ tz=>?_⟩;have B0:#[ol,Y.L]:=Oq I.mg;have B7:=tz _ _ I.d I.nD;have iH:=tz _ _ (I.kp _ _ km (λz=>by rw[z,cz]at km;cases km) (λz=>z)) (λz=>by rcases I.fp _ z with f|f;exact f;rw[f]at km;cases km);have B8:∀u∈ts,VW H7 u:=dJ;have dF:=cV.left B0;rw[Qa]at dF;have h1:ts≠[]:=λz=>by have w0:=j9 (by rw[z];decide);have M0:MOk aB ao H7 #[bj]:=⟨M7,W7,xc⟩;have:=Kz (Oq M0) (by rw[<- Wa,<- Xl];rw[w0]at W7;exact W7) (Ky M0);rw[z]at dF;have e0:([]:List (ae×ZC)).length=0:=rfl;change Y1 (Y5 L7)=0 at this;lia
  have h3:=fC h1;have oG:∀u∈ts.map (·.2),AZ u.2.2:=λu hu=>by obtain⟨y,B,_,e⟩:=cV.tk.at u hu;show#[cK,x,hx,B];exact((I.mg.M.each x hx).str _ (Qo e)).2
  refine⟨_,rfl,#[29],λe0 B9=>?_⟩;have se:=Zh B9 #[av];show#[cW,xf,H7,e0,#[av]];generalize upd H7 e0 (.lst [])=S at se xf ⊢;have J:=I.took (X':=#[bj]) (ts:=ts) (k:=k7) (q:=q7) cz ⟨M7.same se,W7,xc⟩ rfl rfl rfl cV (λb C=>(BZ b).mp C) (λb o C nf=>se _ _ (tz b o C nf)) (λu hu=>se _ _ (dJ u hu));rw[Qd]at J;have jB:=se _ _ B7;have oH:=se _ _ xb;have xg:=se _ _ iH;have qB:∀u∈ts,VW S u:=λu hu=>se _ _ (B8 u hu);refine⟨.list (#[mJ].map Xr),.list [],.lst (SqL.of oH) (R0 ts qB),.lst (SqL.of xf) .nil,NO _ oG,#[1],_,rfl,?_⟩;cases ts with
  | nil=>exact #[oJ,h1]
  | cons t0 tr =>
  have ev:(if false=true then !ax.eqv #[kP] (.list []) else ax.eqv #[kP] (.list []))=false:=by simp[ax.eqv,ax.eqvAll]
  rw[ev];refine YQ ?_;rcases cV.first with⟨z,_⟩|⟨x,z,k1,q1,r',dt,ez⟩
  ·cases z
  show#[cK,e,he,dt.1];have Ca:t0.2.1=e.n:=by have:=congrArg (λu:ZC=>u.1) (List.cons.inj ez).1;exact this
  have ma:=hO.least I.mg.M.nd he dt.2.1 (by rw[Wa,Xl];exact dt.2.2.1) hv;subst ma;refine⟨_,rfl,rr,_,_,_,rfl,rfl,SqL.of oH,(show atI _ #[eb,0]=_ from Yz rfl),t0.1,_,_,_,rfl,rfl,SqT.of (qB t0 #[4]),rfl,_,rfl,rfl,_,rfl,?_⟩;rw[Ca,show (!decide (V.int e.n=V.int e.n))=false by simp];refine YQ ?_;have CQ:us.length<=ss.length:=by lia
  refine⟨_,rfl,D,_,rfl,.inl (SqL.of jB),_,rfl,a,_,rfl,.inl (SqL.of xg),_,_,rfl,rfl,_,rfl,Y2 (λd=>absurd #[gb] #[oL,Qa,Qa]) (λ_=>?_)⟩;refine⟨_,rfl,.inl #[dl,jB],_,rfl,D,rr,_,_,rfl,rfl,jB,oH,#[el,Qa],Y1 (Y5 L7),by simp only[List.length_cons]at dF;lia,_,_,#[bj],us++(t0::tr),rfl,rfl,J,rfl⟩
 ·have d0:Y1 (Y5 Y.L)=0:=by have d':¬ (#[lM]<#[tC]):=of_decide_eq_false #[cG,d];lia
  have k34:Zw G H4:=λb o C=>P4.kp b o C (λz=>by rw[z,cz]at C;cases C) (λz=>z);have N:=R3.same k34;have fe:=N.few;clear d eL;show#[tU,fo,xh,s1];refine⟨_,rfl,M,_,rfl,SqL.of (s1 _ _ N.at'),?_⟩;refine RB (K:=K) (a:=M) (xs:=g.map λx=>V.ref x.1) (λi F hV=>X3 λ(v2 v3:Option V) (uu:List (ae×ZC))=>F=[U #[61],U #[83],U (.ref M),U (.ref Y.m),U #[iy],v5,v6,U (.ref fo),v2,v3,af,af]/\hV fo=U #[d2,uu.map]/\(∀u∈uu,u.1≠fo/\KAt hV u)/\uu.map #[f6]=Xs (Y4 (g.take i))/\uu.length<=100*i/\Zw H4 hV) ⟨_,_,[],rfl,Zb,#[cM,u,h],rfl,by decide,s1⟩ (λi F hV hq=>by obtain⟨_,_,_,_,_,_,_,_,s2⟩:=hq;exact SqL.of (s2 _ _ N.at')) ?_ ?_
  ·rintro i y F hV p B ⟨v2,v3,uu,rfl,lb,mP,iR,kl,s2⟩ hp;rw[Ql]at B;cases W:g[i]? with
   | none=>rw[W]at B;cases B
   | some x =>
   show#[nV,W,B,g.length];obtain⟨lx,lJ,mC⟩:=N.lst x (Qo W);have sp:=Zh hp #[47];show#[cW,j7,hV,p,#[47]];have jr:=sp _ _ lb;have qC:∀u∈uu,u.1≠fo/\KAt (upd hV p #[47]) u:=λu hu=>⟨(mP u hu).1,sp _ _ (mP u hu).2⟩;have s3:=s2.trans sp;generalize upd hV p (.tup [.int (i:Int),.ref x.1])=tD at j7 jr qC s3 ⊢;have xi:=s3 _ _ lx;refine⟨p,_,rfl,SqT.of j7,rfl,_,_,rfl,_,_,rfl,rfl,_,rfl,.inl #[dl,jr],_,rfl,x.1,x.2.map V.str,rfl,SqL.of xi,λDn tE=>?_⟩;refine Zkr (K:=K) (a:=x.1) (xs:=x.2.map V.str) (λk zs F kn=>(X2 λv1 v2:Option V=>F=[U #[61],U #[83],U (.ref M),U (.ref Y.m),U #[iy],v5,v6,U (.ref fo),U (.int (i:Int)),U (.ref x.1),af,af,v1,v2])/\(∃ws:List (ae×ZC),zs=#[dA,ws.map]/\ws.length=k/\ws.map #[f6]=((x.2.zipIdx).take k).map (λe=>((i:Int),e.2,e.1))/\∀u∈ws,u.1≠Dn/\tD u.1=af/\KAt kn u)/\k<=x.2.length/\kn Dn=U #[bl]/\Zw tD kn) ?_ #[cJ,xi] ?_ ?_
   ·exact⟨⟨af,af,rfl⟩,#[kg],Qt _,Zb,Zh tE _⟩
   ·rintro k zs F kn y p4 B ⟨⟨v1,Cb,rfl⟩,⟨ws,rfl,ff,hw,gf⟩,hk,oI,s4⟩ Cc;rw[Ql]at B;cases hU:x.2[k]? with
    | none=>rw[hU]at B;cases B
    | some z =>
    show#[cI,hU,B,g8,k,x.2.length];have tF:=Zh Cc #[fV];show#[tZ,xj,kn,p4,#[fV],#[fV]];have oJ:=tF _ _ oI;have O:=s4.trans tF;have qD:∀u∈ws,u.1≠Dn/\tD u.1=af/\KAt (upd kn p4 #[fV]) u:=λu hu=>⟨(gf u hu).1,(gf u hu).2.1,tF _ _ (gf u hu).2.2⟩;generalize upd kn p4 (.tup [.int (k:Int),.str z])=H65 at xj oJ O qD ⊢;refine⟨p4,_,rfl,SqT.of xj,rfl,_,_,rfl,_,_,rfl,rfl,_,rfl,_,rfl,_,rfl,#[K],λn hn=>?_⟩;have sn:=Zh hn (.tup [.str z,.int (i:Int),.int (k:Int)]);have eZ:Dn≠n:=Zd oJ hn;refine⟨sn _ _ oJ,#[el,ff],#[iK],⟨ws++[(n,((i:Int),k,z))],by rw[Qd];rfl,by rw[Qf,ff];rfl,?_,λu hu=>?_⟩,g8,Zb,λb o C=>?_⟩
    ·rw[Qd,hw,QE,List.getElem?_zipIdx,hU,Qd];simp
    ·rcases Qg.mp hu with hu|hu
     ·obtain⟨g1,g2,g3⟩:=qD u hu;exact⟨g1,g2,by show upd _ Dn _ u.1=_;rw[Ze g1];exact sn _ _ g3⟩
     ·rw[Qe.mp hu];exact⟨eZ.symm,O.free hn,by show upd _ Dn _ n=_;rw[Ze eZ.symm];exact Zb⟩
    ·show#[c6,C,tE,sn,O,b]
   rintro zs F kn ⟨⟨v1,Cb,rfl⟩,⟨ws,rfl,ff,hw,gf⟩,_,oI,s4⟩;rw[Qa]at ff hw;rw[Qw #[dj,List.length_zipIdx,Qh,_]]at hw;have Cd:=s4 _ _ jr;have nDf:fo≠Dn:=Zd jr tE;refine⟨fo,Dn,_,_,rfl,rfl,Cd,oI,(by rw[Qa,Qa,ff,aG];lia),_,_,uu++ws,rfl,by rw[Zb,Qd],λu hu=>?_,?_,by rw[Qf,ff];lia,λb o C=>?_⟩
   ·rcases Qg.mp hu with hu|hu
    ·obtain⟨g1,g2⟩:=qC u hu;exact⟨g1,by show upd _ fo _ u.1=_;rw[Ze g1];exact s4 _ _ g2⟩
    ·obtain⟨g1,g2,g3⟩:=gf u hu;have nf:u.1≠fo:=λz=>by rw[z,jr]at g2;cases g2
     exact⟨nf,by show upd _ fo _ u.1=_;rw[Ze nf];exact g3⟩
   ·rw[Qd,iR,hw,QE,W];show _=Xs (Y4 (g.take i++[x]));rw[ZmL,QC,Nat.min_eq_left #[2]]
   ·show#[c6,C,xh,s4,s3,b]
  ·rintro F hV ⟨v2,v3,uu,rfl,lb,mP,iR,kl,s2⟩;show#[oh,iR];have I:=P4.same s2;have CS:uu.length=ss.length:=by have:=#[cO,iR];rw[Qa,NX,UU,oF]at this;exact this
   refine⟨_,rfl,_,rfl,fo,Wr uu,[false,true,true],rfl,SqL.of #[cL,Jw,lb],λt ht=>?_,#[6],λt ht=>?_,(by unfold Wr;rw[Qa];lia),λl bz hl hp hs=>?_⟩
   ·show#[cK,u,hu,ht];exact(mP u hu).2
   ·show#[cK,u,hu,ht];rfl
   obtain⟨X,iP,e⟩:=Rv (λu:ae×ZC=>(u.1,kT u.2)) hp uu rfl;have e2:bz=Wr X:=e;subst e2;have sl:=Zh hl #[nc];have hO:Ws (Y4 g) (X.map #[f6]):=⟨by rw[<- iR];exact iP.map _,by
    have:=hs;unfold Wr at this;rw[List.pairwise_map]at this ⊢;exact this⟩
   have eX:(upd hV l #[nc]) l=U #[d2,X.map]:=by rw[Zb,Jw]
   have tG:∀u∈X,KAt (upd hV l #[nc]) u:=λu hu=>sl _ _ (mP u (iP.mem_iff.mp hu)).2;have P7:=I.same sl;have k37:=(k34.trans s2).trans sl;clear I P4 hs hp iP mP lb s1 iR hl s2 sl kl;generalize upd hV l (.lst (Z7 (Wr X)))=H7 at eX tG P7 k37 ⊢;refine#[fI,l,eX,Dw,xk];refine WT (K:=K) (a:=l) (xs:=X.map λu=>V.ref u.1) (λi zs F S=>(X3 λw1 w2 w3:Option V=>F=[U #[61],U #[83],U (.ref M),U (.ref Y.m),U #[iy],v5,v6,U (.ref fo),v2,v3,af,af,w1,w2,w3])/\(∃ws:List (ae×ZC),zs=#[dA,ws.map]/\ws.length=i/\ws.map #[f6]=(X.take i).map #[f6]/\∀u∈ws,u.1≠Dw/\VW S u)/\i<=X.length/\S Dw=U #[bl]/\Zw H7 S) ?_ #[cJ,eX] ?_ ?_
   ·exact⟨⟨af,af,af,rfl⟩,#[kg],Qt _,Zb,Zh xk _⟩
   ·rintro i y zs F S B ⟨⟨w1,w2,w3,rfl⟩,⟨ws,rfl,ff,hw,gf⟩,hi,jB,s8⟩;rw[Ql]at B;cases W:X[i]? with
    | none=>rw[W]at B;cases B
    | some u =>
    show#[nV,W,B,X.length];refine⟨u.1,_,rfl,SqT.of (s8 _ _ (tG u (Qo W))),rfl,_,_,rfl,_,_,rfl,_,_,rfl,rfl,_,rfl,_,rfl,_,rfl,#[K],λn fM=>?_⟩;have sn:=Zh fM #[60];have eZ:Dw≠n:=Zd jB fM;have Ce:ws.length<=100:=by have:=hO.len;rw[Qa,UU,oF]at this;lia
    refine⟨sn _ _ jB,#[oL,Qa,aG],⟨_,_,_,rfl⟩,⟨ws++[(n,u.2)],by rw[Qd];rfl,by rw[Qf,ff];rfl,?_,λx hx=>?_⟩,ce,Zb,λb o C=>?_⟩
    ·rw[QE,W,Qd,Qd,hw];rfl
    ·rcases Qg.mp hx with hx|hx
     ·obtain⟨g1,g3⟩:=gf x hx;exact⟨g1,by show upd _ Dw _ x.1=_;rw[Ze g1];exact sn _ _ g3⟩
     ·rw[Qe.mp hx];exact⟨eZ.symm,by show upd _ Dw _ n=_;rw[Ze eZ.symm];exact Zb⟩
    ·show#[c6,C,xk,sn,s8,b]
   rintro zs F S ⟨⟨w1,w2,w3,rfl⟩,⟨ws,rfl,ff,hw,gf⟩,_,jB,s8⟩;rw[Qa]at ff hw;rw[Qw #[gp]]at hw;have J:=P7.same s8;have k38:=k37.trans s8;have cV:=J.tk;have Cg:=R3.same k38;obtain⟨D',eD,xl,_⟩:=Ws.takes cV.tk kC (NY _ g cZ) hO;have qE:D'=[]:=by have:=xl.len;rw[d0]at this;exact List.length_eq_zero_iff.mp this
   rw[qE,QO,<- hw]at eD;have oG:∀u∈us.map (·.2),AZ u.2.2:=λu hu=>by obtain⟨y,B,_,e⟩:=cV.tk.at u hu;have W:Y4 g=(ZX 0 g.length).zip (g.map λx=>(x.2,0)):=rfl;rw[W]at B;obtain⟨_,h2⟩:=List.of_mem_zip B;show#[nB,x,hx,ez,Qs.mp,h2];exact((R3.lst x hx).2.2 _ (by rw[<- show (x.2,0).1=y.2.1 from by rw[ez]]at e;exact Qo e)).2
   have tH:=R0 (K:=K) ws λu hu=>(gf u hu).2;rw[eD]at tH;have ev:(if true=true then !ax.eqv #[p7] #[p7] else ax.eqv #[p7] #[p7])=false:=by rw[if_pos rfl,SeqAt.eqv_refl _ (by simp only[ax.canLay0,(NP _ oG).1])];rfl
   refine⟨.list #[ab],.list #[ab],.lst (SqL.of J.d) (R0 us J.tu),.lst (SqL.of jB) tH,NO _ oG,NO _ oG,_,rfl,?_⟩;rw[ev];refine YQ ?_;clear ev tH eD hw gf ff jB P7 tG eX hO xl qE;show#[c5,xm,mE,J.mg.M.ob];refine⟨_,rfl,Y.m,xm,_,rfl,mE,K1 ..,Y.m,Y.rd,Y.sd,Y.L,Y.s,Y.nb,Y.li,Y.lo,XT Y.w,rfl,J.mg.M,_,rfl,Y.m,xm,_,rfl,mE,K0 ..,Y.m,Y.rd,Y.sd,Y.L,Y.s,Y.nb,Y.li,Y.lo,XT Y.w,rfl,J.mg.M,#[w],λt ht=>?_⟩;have st:=Zh ht (.tup #[77]);have xn:(upd S t (.tup #[77])) t=U (.tup #[77]):=Zb;have tI:=Cg.same st;have k39:=k38.trans st;generalize upd S t (.tup [.int Y.li,.int Y.lo])=H9' at st xn tI k39 ⊢;have qF:YH (Y4 g) (Y.li-k0) (Y.lo-q0):=by have:=cV.ends (.stop (KA (Oq J.mg) d0 (Ky J.mg)));show#[oC,Qaf,Qaf]
   refine⟨_,rfl,M,g,rfl,tI,cZ,by lia,λt2 rP q0' ml q1' gU hP hE xp fj=>⟨_,_,rfl,?_⟩⟩;obtain⟨e1,e2⟩:=wZ.one hP;obtain⟨e3,e4⟩:=qF.one kC hE;have dR:=ZmS #[2] cZ hP hE;have xq:=tI.same fj;refine⟨_,rfl,_,rfl,M,g,rfl,xq,cZ,λt3 k2 q2 k3 q3 fV Ch Ci qG fJ=>?_⟩;obtain⟨f1,f2⟩:=wZ.one Ch;obtain⟨f3,f4⟩:=qF.one kC Ci;have lB:=fJ _ _ (fj _ _ xn);have e5:k2+k3=Y.li:=by lia
   have e6:q2+q3=Y.lo:=by lia
   rw[e5,e6]at qG;refine⟨.tuple #[77],.tuple #[77],.tup (SqT.of lB) #[kq],.tup (SqT.of qG) #[kq],#[gc],#[gc],_,rfl,?_⟩;have Cj:(if false=true then !ax.eqv #[mO] #[mO] else ax.eqv #[mO] #[mO])=true:=by simp[ax.eqv,ax.eqvAll]
   rw[Cj];refine Wl ?_;have oK:=fJ _ _ xp;have z0:∀ {x y:V},atI [x,y] 0=U x:=λ{x y}=>rfl;have z1:∀ {x y:V},atI [x,y] 1=U y:=λ{x y}=>rfl;refine⟨_,rfl,t,_,_,_,rfl,rfl,SqT.of lB,z0,_,rfl,t2,_,_,_,rfl,rfl,SqT.of oK,z0,_,_,rfl,rfl,_,rfl,Y2 (λ_=>?_) (λd=>absurd (decide_eq_true #[oQ,dR.1]) d)⟩;refine⟨_,rfl,t,_,_,_,rfl,rfl,SqT.of lB,z1,_,rfl,t2,_,_,_,rfl,rfl,SqT.of oK,z1,_,_,rfl,rfl,?_⟩;show Q (.bl (decide (Y.lo<=rP+ml+(sgR g:Int)))) fV;rw[decide_eq_true (show Y.lo<=rP+ml+(sgR g:Int) by have:=dR.2.1;lia)];exact q fV (s3.trans (k39.trans (fj.trans fJ)))
theorem Zqk{n:Nat}{v:Int}(h:v∈ZX 0 n):0<=v/\v<(n:Nat):=by unfold ZX at h;obtain⟨m,a,rfl⟩:=Qs.mp h;have:=Q1.mp a;lia
noncomputable def Vs(n:Nat):PT:=.node ((ZX 0 n).map PT.leaf)
theorem Jl:∀l:List Int,Y3 #[hk]=l
 | []=>rfl
 | a::l=>by show [a]++Y3 #[hk]=_;rw[Jl l];rfl
theorem Jk{w:Nat}:∀l:List Int,X0 w #[hk]
 | []=>trivial
 | a::l=>⟨trivial,Jk l⟩
theorem Jj:∀l:List Int,XF #[hk]=0
 | []=>rfl
 | a::l=>by show max 0 (XF #[hk])=0;rw[Jj l];rfl
theorem Ji{H:Hp}:∀l:List Int,TVs H (l.map V.int) #[hk]
 | []=>.nil
 | a::l=>.cons (.leaf a) (Ji l)
theorem Znp{ss:#[y]}{R:#[k]}(h:R6 ss R)(h2:2<=R.length)(c:R.length<=60):tOk R.length #[iY]/\tPl 60 #[iY]/\wtR R (tLv #[iY])=ss.length/\tDp #[iY]=1/\∀out,Yo ss R #[iY] out->Xj ss out/\out.Perm #[f5]:=by
 have a:tLv #[iY]=ZX 0 R.length:=Jl _;refine⟨N0 _ λk b=>?_,⟨by rw[Qa,XN];exact h2,by rw[Qa,XN];exact c,Jk _⟩,?_,by show XF _+1=1;rw[Jj],λout d=>?_⟩
 ·rw[a]at b;exact Zqk b
 ·rw[a];have e:#[il]:=by unfold wtR lvR;rw[QA];rfl
  rw[e,UN,<- R5,h.pm.length_eq,XN]
 ·have:=Yo.srt h.lex d #[sD];show#[j0]
theorem Zsv{f:ae}{fd:bo}(F:Fun K "law" "law" V1 f fd)(T:#[n]):Yu P w K mg base CX0 90 f fd #[lm] (R4 K):=by
 have fm:#[qX]:=ZrM T;have i8:Df P w K mg base 1 "_law_left" #[gt] (LC K):=ZpH T;have N:#[25]:=ZqK T fm;have bS:#[hP]:=ZgS T;have dD:#[jm]:=Znf T bS;have cr:#[ig]:=Znl T;have dE:#[jl]:=Znt T dD cr;have cP:#[qf]:=Zg3 T bS cr;have cG:#[ng]:=Zns T dE;have cB:#[gW]:=Zms T cG;have fE:#[sl]:=ZmG T dD;have cD:#[a5]:=ZmI T;show#[dW,b6,ZpR];have O:=Zqc T b6;have dO:=Zkq T fE;have bH:=ZpZ T O cP;have bT:=K9 T O cD bH 8;have ck:=Zjs T bT;have bj:=Zg6 T cB dO ck;have cC:=ZlV T O;have fF:#[sq]:=ZsC T cD;have cQ:=Zky T fF;have bV:=ZoC T bH;have cn:=ZpA T O cQ bV;have cS:=ZqO T cC cn;have aX:=ZsG T cS;show#[dW,bI,Zjl];have ed:=ZlW T bj aX bI;show#[dW,bQ,ZrT];have b8:=JQ T bQ ed 61;have fQ:#[fF,1,"_law_in_order","_law_things",Km]:=Zi2 T;have cT:=Zl3 T dE;have dG:=ZpP T cT;have eg:=ZmR T bQ;have gu:=Zqh T eg;have fR:=λu x=>Zro T (P:=P) (w:=w) (base:=base) u x;have iI:=λu x=>Zpo T u x (fR u x);have hW:=λu x=>Zn6 T u x (fR u x);have cL:=λu x=>Zmf T u x (iI u x) (hW u x);have dn:=ZpM T cL;have iJ:=Zqw T dG dn b8;have cU:=ZoT T b6;have cH:=ZmM T O;show#[dW,bh,ZiM];show#[dW,bL,ZnD];have cN:=Zmq T bj aX bI bh bL;have fG:#[rp]:=Zl4 T;have dr:=Zma T fG bI cN;show#[dW,eO,ZqB];have fH:=ZqF T N;have eM:=Zpl T N fH;have fS:=ZoS T N eM;have eh:=Zqq T bj cU cH eO aX bh bL dr cN;refine F.ok V0 #[g8] (λaR A outer s H vs Q E n h=>?_)
 ·obtain⟨a,u,rfl,_⟩:=h;rfl
 show#[eq,a,sc,hS,uK];refine⟨_,#[Zg,#[Xx,ba.never,#[Vq,T.b.n_range,#[Zc,#[ZJ,YL,#[Zi],#[Zk,(RP rfl),#[5],T.b.n_min,boot_min,#[Zc,#[Zi],#[r]]]]]],#[oc,1,V0.nd],#[Zg,#[ZB,2,V0.nd,#[3],#[tS,i8,n]],#[Zg,#[Yv,#[ZO,#[Zc,#[dN,fS,n,#[ag]],#[ih],#[ih]]],#[gT,K,3,#[Zp,#[Zz,3,V0.nd,#[rk]],#[cH,4,V0.nd,5]]]],#[Zg,#[ZB,6,V0.nd,#[3],#[nN,dG,4]],#[Zg,#[ZB,7,V0.nd,#[3],#[ZE,fQ,n,#[Zc,#[ec,3]],#[5]]],#[Zg,#[Y0,(@PW.pt _ _ _ #[W5,(@Tz _ _ _ _ #[VQ,#[Zk,(Zuy K),#[5],T.b.n_all,boot_all,#[Zc,#[Yd,T9,#[iL,K,‹6›],#[di,8,T9],#[J],(λ_ _ _ _=>#[ZE,eg,n,#[Zc,#[cv,3,T9],#[cw,8,T9]],#[tQ,T9]])]]]]),(@VO _ _ _ _ #[Zm,(@neD _ K _ n #[5]),#[Zx,(ixT K),#[ZE,iJ,n,#[Zc,#[ec,3],‹4›,‹5›],#[5]],#[Zi]],‹7›,#[h4]])]),#[ao],#[ZM]],(@LU _ _ _ _ _ #[Y0,(@PW.pt _ _ _ #[WK,(@Zov _ _ _ _ _ _ _ _ _ _ _ _ Xg Xg #[Zi] #[b3] #[Zi] #[id]),(@VP _ _ _ _ #[Zm,(@neD _ K _ n #[5]),#[ZE,b8,n,#[Zc,#[ec,3],‹6›,#[XQ,Zue,T.b.n_tuple,boot_tuple,#[Zc,#[XQ,ZuC,T.b.n_range,boot_range,#[Zc,#[b3]]]]]],#[5]],‹7›,#[h4]])]),#[ao],#[ZM]] #[Zj,#[Y0,(@PW.pt _ _ _ #[W5,(@PW.pt _ _ _ #[WK,#[nG,Xg,#[b3]],(@VP _ _ _ _ (@Tz _ _ _ _ #[VQ,#[nN,eh,6]]))]),(@VO _ _ _ _ #[Zm,ZqW,#[nN,gu,7],#[Xi],#[h4]])]),#[ao],#[ZM]]])]]]]]],#[ao]],?_⟩;clear fm i8 N bS dD cr dE cP cG cB fE cD b6 O dO bH bT ck bj cC fF cQ bV cn cS aX bI ed bQ b8 fQ cT dG eg gu dn iJ cU cH bh bL cN fG dr eO fH eM fS eh;have aW:(sc.map V.int).length=sc.length:=by rw[Qa]
 refine⟨_,rfl,a,_,rfl,.inl hS,_,_,rfl,_,_,rfl,rfl,_,rfl,by split<;>lia,by split<;>lia,?_⟩;refine VM (λi B H2=>X7 λX Y Z v4 v5 v6 v7:Option V=>B=#[qC]/\Zw H H2) ⟨_,_,_,_,_,_,_,rfl,Zw.refl _⟩ ?_ ?_
 ·rintro ii B H2 hi ⟨X,Y,Z,v4,v5,v6,v7,rfl,s2⟩;have hi8:(ii:Int)<65:=by split at hi<;>lia
  clear hi;refine⟨_,rfl,_,rfl,a,sc,_,rfl,s2.seq hS,uK,by lia,by lia,λp H3 hp L3 s3=>?_⟩;have tJ:H p=af:=s2.free hp;refine⟨_,rfl,p,0,rfl,L3,by decide,λl C c4 H4 oM xr h1 wV lA L4 a1 a2 B4=>?_⟩;have xt:l≠p:=λz=>by obtain⟨o,ho⟩:=L3.here;show#[d9,z,ho,oM]
  refine⟨_,rfl,p,c4,_,rfl,L4,by lia,by decide,by decide,λG H5 uw r11 L5 B5=>⟨_,_,rfl,rfl,?_⟩⟩;refine⟨_,rfl,p,c4+1,_,rfl,L5,by lia,by decide,by decide,λI H6 r20 r21 L6 B6=>⟨_,_,rfl,rfl,?_⟩⟩;refine⟨#[K],λtp mN=>⟨tp,_,rfl,SqT.of Zb,rfl,_,_,rfl,_,_,rfl,_,_,rfl,rfl,?_⟩⟩;have st:=Zh mN #[kO];have iH:=st _ _ (B6 _ _ (B5 _ _ xr xt) xt);have xu:∀b o,H b=U o->(upd H6 tp #[kO]) b=U o:=λb o j=>st _ _ (B6 b o (B5 b o (B4 b o (s3 b o (s2 b o j)) (Zd j tJ)) (Zd j tJ)) (Zd j tJ));have jC:∀s∈C,s.length<=1000/\AZ s:=λs hs=>⟨by have:=(lA s hs).1;lia,(lA s hs).2⟩;generalize upd H6 tp (.tup [.ref l,.int (2+G),.int (2+I)])=H7 at iH xu ⊢;clear st mN L6 B6 L5 B5 L4 B4 xr oM L3 s3 s2 hp a1 a2;obtain⟨rn,oC⟩:∃rn:Nat,2+G=(rn:Int):=⟨(2+G).toNat,by lia⟩;obtain⟨wn,Ck⟩:∃wn:Nat,2+I=(wn:Int):=⟨(2+I).toNat,by lia⟩;refine⟨_,rfl,_,rfl,l,C,rn,(by rw[<- oC];rfl),SqL.of iH,by lia,λs hs=>(jC s hs).1,by lia,λr m R H8 cq xv kj wD dh gt Cm tK s8=>?_⟩;refine⟨_,rfl,l,C,rfl,SqL.of (s8 _ _ iH),by lia,λdu oN H9 xw xx pJ S iB s9=>?_⟩;obtain⟨xy,Cn⟩:=Zni pJ S iB;have nr:=JJ (by lia:1<=rn) gt;have hg:=N4 #[sa] gt;have xz:=dh.len;have W:Vu H9 l r C m R:=⟨s9 _ _ (s8 _ _ iH),by lia,jC,s9 _ _ xv,Rd.mono #[tO,ho,s9] dh,nr.rg⟩;have xA:#[nW,H,H9]:=λb o j=>s9 _ _ (s8 _ _ (xu b o j));clear s9 s8 iH xv dh xw cq kj wD;show#[c1,r,W.ru,D,hD];refine WT (K:=K) (a:=r) (xs:=m.map V.ref) (λk zs B gU=>(∃v:Option V,B=[U #[61],U #[mp],U #[gY],U #[h6],U #[oA,2,G],U #[oA,2,I],U #[83],U (.ref du),v])/\zs=List.replicate k #[pr]/\k<=m.length/\gU D=U #[bl]/\Zw H9 gU) #[dr,hD] #[cJ,W.ru] ?_ ?_
  ·rintro k y zs B gU hy ⟨⟨v,rfl⟩,rfl,hk,lS,J⟩;rw[Ql]at hy;cases hz:m[k]? with
   | none=>rw[hz]at hy;cases hy
   | some b =>
   show#[cI,hz,hy,g8,k,m.length];show#[nB,d,hd,jw,W.rd.at,hz];have S:=Qo hd;refine⟨_,rfl,_,rfl,l,b,C,d,rfl,SqL.of (J _ _ W.th),J _ _ jw,tK d S,(nr.rg d S).1,λ_ fV L=>?_,λhn=>absurd ⟨(hg d S).1,(hg d S).2.1⟩ hn⟩;refine⟨L _ _ lS,#[dj,List.length_replicate,ZK,#[2]],#[H],?_,g8,Zb,λc o hc=>?_⟩
   ·rw[List.replicate_succ']
   ·show#[c6,hc,hD,L,J,c]
  show#[fu,B,gU,v,lS,J];refine⟨D,List.replicate (m.map V.ref).length true,rfl,SqL.of #[cL,List.map_replicate,lS],?_⟩;have e:(List.replicate (m.map V.ref).length true).all id=true:=by rw[List.all_eq_true];intro b j;exact(List.eq_of_mem_replicate j)
  rw[e];have kH:=W.same J;have lC:=J _ _ xx;have qH:#[nW,H,gU]:=λb o j=>J _ _ (xA b o j);clear lS J hD W xx xA e;refine⟨_,rfl,YQ ?_⟩;have ev:(if true=true then !ax.eqv #[ro] #[ro] else ax.eqv #[ro] #[ro])=false:=by rw[if_pos rfl,ZlQ];rfl
  refine⟨_,rfl,_,rfl,_,rfl,l,C,rn,wn,(by rw[<- oC,<- Ck];rfl),kH.th,by lia,jC,by lia,by lia,by lia,by lia,λt b out pc R' fV ht j lT pX _ _ L=>?_⟩;have eo:out=oN:=JL lT xy (pX.trans Cn.symm);subst eo;refine⟨t,_,_,_,rfl,rfl,SqT.of ht,rfl,_,rfl,.list (out.map ax.int),.list (out.map ax.int),.lst (SqL.of j) (TR _),.lst (SqL.of (L _ _ lC)) (TR _),Sf _,Sf _,_,rfl,?_⟩;rw[ev];refine YQ ?_;have ji:=kH.same L;have oO:=L _ _ lC;have xB:#[nW,H,fV]:=λb o j=>L _ _ (qH b o j);clear ht j L kH lC qH;have kl:#[bQ]=(R.length:Int):=by rw[Qa];exact congrArg Nat.cast xz
  refine⟨λB pY=>B=[U #[61],U #[mp],U #[gY],U #[h6],U #[oA,2,G],U #[oA,2,I],U #[83],U (.ref du)]/\Zw fV pY,?_,?_⟩
  ·show#[es,r,ji.ru];by_cases h0:1<R.length
   ·refine Xv #[2] ⟨_,_,rfl,rfl,_,rfl,?_⟩;by_cases h7:R.length<7
    ·refine Xv #[2] ?_;obtain⟨f1,f2,f3,f4,f5⟩:=Znp nr #[2] #[2];refine⟨_,rfl,_,rfl,_,rfl,r,_,rfl,.inl (SqL.of ji.ru),_,rfl,λg hg=>?_⟩;refine⟨g,0,_,rfl,Zb,by decide,by decide,by lia,by lia,by lia,λtt mM=>?_⟩;have en:(#[bQ]-0).toNat=R.length:=by lia
     rw[en];have gE:=(Zh hg (.rng 0 #[bQ])).trans (Zh mM #[jj]);have kf:(upd (upd fV g (.rng 0 #[bQ])) tt #[jj]) tt=U #[jj]:=Zb;generalize upd (upd fV g (.rng 0 (((m.map V.ref).length:Nat):Int))) tt (.tup ((ZX 0 R.length).map V.int))=pY at gE kf ⊢;refine⟨l,r,C,m,R,.ref tt,Vs R.length,rfl,ji.same gE,.node kf (Ji _),f1,f2,by lia,by lia,λb lU jV pT j xC M=>?_⟩;obtain⟨tL,xD⟩:=f5 lU xC;have eo:lU=out:=JL tL lT (xD.trans pX.symm);subst eo;refine⟨_,rfl,.list (lU.map ax.int),.list (lU.map ax.int),.lst (SqL.of j) (TR _),.lst (SqL.of (M _ _ (gE _ _ oO))) (TR _),Sf _,Sf _,_,rfl,?_⟩;rw[ev];exact YQ ⟨rfl,gE.trans M⟩
    ·show#[jd];exact YQ #[sE]
   ·show#[jd];exact YQ ⟨_,rfl,YQ #[sE]⟩
  ·rintro B pY ⟨rfl,jp⟩;have mj:=ji.same jp;have oP:=jp _ _ oO;show#[es,r,mj.ru];have fin:∀jV,Zw pY jV->X7 λX Y Z v4 v5 v6 v7:Option V=>[U (V.ref a),U #[mp],U #[gY],U #[h6],U #[oA,2,G],U #[oA,2,I],U #[83],U (.ref du)]=#[qC]/\Zw H jV:=λjV M=>⟨_,_,_,_,_,_,_,rfl,λb o j=>M _ _ (jp _ _ (xB b o j))⟩;by_cases h17:R.length<17
   ·refine Xv #[2] ?_;refine⟨_,rfl,_,rfl,l,r,C,m,R,rfl,mj,nr,by lia,wV,λjV M=>⟨_,rfl,YQ ?_⟩⟩;exact⟨_,rfl,_,rfl,l,du,C,out,rfl,M _ _ mj.th,by lia,M _ _ oP,lT,pX,λrM gX=>⟨_,_,rfl,rfl,_,rfl,UC rfl (fin _ (M.trans gX))⟩⟩
   ·show#[jd];exact YQ (YQ ⟨_,rfl,_,rfl,l,du,C,out,rfl,mj.th,by lia,oP,lT,pX,λrM gX=>⟨_,_,rfl,rfl,_,rfl,UC rfl (fin _ gX)⟩⟩)
 ·rintro B H2 ⟨X,Y,Z,v4,v5,v6,v7,rfl,s2⟩;exact q H2
universe E
theorem ZT{K:#[7]}{h:aE}{mg:#[P]}{x:aj}{st:aJ}{ps:#[y]}{f:ae}{e b:#[md]}{sl:#[hD]}{g kV i pm d ct:aa}(X:K.In h)(G:h.Ns aH mg)
  (a:PySem.W.nsIn K aH x=U #[r4]) (l:K.lookup f=U ⟨g,e,.func #[da,x,i,b,d],sl⟩) (c:PySem.W.codeIn K d x=true) (k:#[pb,K])
  (hb:∀ (kV j pm:aa) (b:Option ae) (m ct:aa) (us:List aa),us.length=ps.length->bindArgs #[da,x,j,b,m] ⟨us,[]⟩=pure #[ly]):Top K mg x st ps :=
 ⟨_,_,ZW (st:=st) l c k,PySem.W.mg_of X G a,#[e6,st,l,c,k].binds hb⟩
theorem RZ{n:Nat}{us:#[ca]}(h:us.length=n+1):X2 λa r=>us=a::r/\r.length=n:=by obtain⟨a,r,rfl⟩:=List.exists_cons_of_length_eq_add_one h;exact⟨a,r,rfl,Nat.succ.inj h⟩
theorem YC(us:#[ca])(h:us.length=1):∃a0,us=[a0]:=Qao.mp h
theorem Yn(us:#[ca])(h:us.length=2):X2 λa0 a1=>us=[a0,a1]:=by obtain⟨a,r,rfl,g⟩:=RZ h;obtain⟨b,rfl⟩:=YC r g;exact⟨a,b,rfl⟩
theorem VT(us:#[ca])(h:us.length=3):X3 λa0 a1 a2=>us=[a0,a1,a2]:=by obtain⟨a,r,rfl,g⟩:=RZ h;obtain⟨b,c,rfl⟩:=Yn r g;exact⟨a,b,c,rfl⟩
theorem NN(us:#[ca])(h:us.length=4):X4 λa0 a1 a2 a3=>us=[a0,a1,a2,a3]:=by obtain⟨a,r,rfl,g⟩:=RZ h;obtain⟨b,c,d,rfl⟩:=VT r g;exact⟨a,b,c,d,rfl⟩
theorem Jh(us:#[ca])(h:us.length=5):X5 λa0 a1 a2 a3 a4=>us=[a0,a1,a2,a3,a4]:=by obtain⟨a,r,rfl,g⟩:=RZ h;obtain⟨b,c,d,e,rfl⟩:=NN r g;exact⟨a,b,c,d,e,rfl⟩
theorem all_mk{l:#[rI]}{w:aA}{K:#[7]}{h:aE}{mg:#[P]}{fa:ae}(X:K.In h)(G:h.Ns aH mg)(Co:mg "law" = U (.ref fa))
  {aB:ae}
  {ao:ae}
  (exx:#[dZ,"Row",aB]) (exs:PySem.W.plainGet K aB aj.empty=true) (exr:#[np,aB]) (exv:#[ow,aB]) (exw:PySem.W.findIn K (.ref aB) "__setattr__" = U #[46]) (exy:#[o9,aB]) (exu:#[Xki,K,aB])
  (exc:#[db,aB,"all_keys"])
  (exj:#[db,aB,"fars"])
  (exi:#[db,aB,"gone"])
  (exq:#[dZ,"Merge",ao]) (exp:PySem.W.plainGet K ao aj.empty=true) (exo:#[np,ao]) (exl:#[ow,ao]) (exk:PySem.W.findIn K (.ref ao) "__setattr__" = U #[46]) (exn:#[o9,ao]) (exm:#[Xki,K,ao])
  (exh:#[db,ao,"best"])
  (exb:#[db,ao,"likened"])
  (exd:#[db,ao,"looked"])
  (exa:#[db,ao,"next_number"])
  (exg:#[db,ao,"rows"])
  (exe:#[db,ao,"stays"])
  (a0:#[dZ,"halves",f0]) (l0:#[Xlk,K,f0,oc0,od0,"halves","halves",Rk,kV0,dc0,pm0,an0,Cp,ct0,sl0]) (c0:#[dt,Cp,"halves"]) (k0:#[Xki,K,f0])
  (a1:#[dZ,"way_up",f1]) (l1:#[Xlk,K,f1,oc1,od1,"way_up","way_up",Rj,kV1,dc1,pm1,an1,Cq,ct1,sl1]) (c1:#[dt,Cq,"way_up"]) (k1:#[Xki,K,f1])
  (a2:#[dZ,"height",f2]) (l2:#[Xlk,K,f2,oc2,od2,"height","height",Ri,kV2,dc2,pm2,an2,Cr,ct2,il]) (c2:#[dt,Cr,"height"]) (k2:#[Xki,K,f2])
  (a3:#[dZ,"alike",f3]) (l3:#[Xlk,K,f3,oc3,od3,"alike","alike",Rh,kV3,dc3,pm3,an3,Cs,ct3,sl3]) (c3:#[dt,Cs,"alike"]) (k3:#[Xki,K,f3])
  (a4:#[dZ,"liken",f4]) (l4:#[Xlk,K,f4,oc4,od4,"liken","liken",Rg,kV4,dc4,pm4,an4,Ct,ct4,sl4]) (c4:#[dt,Ct,"liken"]) (k4:#[Xki,K,f4])
  (a5:#[dZ,"liken_from",f5]) (l5:#[Xlk,K,f5,oc5,od5,"liken_from","liken_from",Rf,kV5,dc5,pm5,an5,Cu,ct5,sl5]) (c5:#[dt,Cu,"liken_from"]) (k5:#[Xki,K,f5])
  (a6:#[dZ,"alike_from",f6]) (l6:#[Xlk,K,f6,oc6,od6,"alike_from","alike_from",Rc,kV6,dc6,pm6,an6,Cv,ct6,sl6]) (c6:#[dt,Cv,"alike_from"]) (k6:#[Xki,K,f6])
  (a7:#[dZ,"order_at",f7]) (l7:#[Xlk,K,f7,oc7,od7,"order_at","order_at",P9,kV7,dc7,pm7,an7,Cw,ct7,sl7]) (c7:#[dt,Cw,"order_at"]) (k7:#[Xki,K,f7])
  (a8:#[dZ,"first_break",f8]) (l8:#[Xlk,K,f8,oc8,od8,"first_break","first_break",PZ,kV8,dc8,pm8,an8,Cy,ct8,sl8]) (c8:#[dt,Cy,"first_break"]) (k8:#[Xki,K,f8])
  (a9:#[dZ,"alikes",f9]) (l9:#[Xlk,K,f9,oc9,od9,"alikes","alikes",PY,kV9,dc9,pm9,an9,Cz,ct9,sl9]) (c9:#[dt,Cz,"alikes"]) (k9:#[Xki,K,f9])
  (a10:#[dZ,"refuse_break",nu]) (l10:#[Xlk,K,nu,CT,CU,"refuse_break","refuse_break",PX,CW,CY,CZ,C0,xE,C1,C2]) (c10:#[dt,xE,"refuse_break"]) (k10:#[Xki,K,nu])
  (a11:#[dZ,"matches_up",xF]) (l11:#[Xlk,K,xF,C3,C4,"matches_up","matches_up",PV,C5,C6,C7,C8,xG,C9,Db]) (c11:#[dt,xG,"matches_up"]) (k11:#[Xki,K,xF])
  (a12:#[dZ,"next_of",xH]) (l12:#[Xlk,K,xH,Dc,Dd,"next_of","next_of",Tb,De,Dh,Di,Dj,xI,Dk,Dl]) (c12:#[dt,xI,"next_of"]) (k12:#[Xki,K,xH])
  (a13:#[dZ,"is_number",xJ]) (l13:#[Xlk,K,xJ,Dm,Do,"is_number","is_number",PU,Dp,Dq,Dr,Ds,xK,Dt,Du]) (c13:#[dt,xK,"is_number"]) (k13:#[Xki,K,xJ])
  (a14:#[dZ,"runs_of",xL]) (l14:#[Xlk,K,xL,Dv,Dx,"runs_of","runs_of",Ta,Dy,Dz,DA,DB,xM,DC,DD]) (c14:#[dt,xM,"runs_of"]) (k14:#[Xki,K,xL])
  (a15:#[dZ,"run_behind",xN]) (l15:#[Xlk,K,xN,DE,DF,"run_behind","run_behind",PR,DG,DI,DJ,DK,xO,DL,DM]) (c15:#[dt,xO,"run_behind"]) (k15:#[Xki,K,xN])
  (a16:#[dZ,"is_run",xP]) (l16:#[Xlk,K,xP,DN,DO,"is_run","is_run",PQ,DP,DQ,DR,DS,xQ,DT,DU]) (c16:#[dt,xQ,"is_run"]) (k16:#[Xki,K,xP])
  (a17:#[dZ,"near_plan",xR]) (l17:#[Xlk,K,xR,DW,DX,"near_plan","near_plan",PP,DY,DZ,D0,D4,xS,D5,D6]) (c17:#[dt,xS,"near_plan"]) (k17:#[Xki,K,xR])
  (a18:#[dZ,"least_groves",xT]) (l18:#[Xlk,K,xT,D7,D8,"least_groves","least_groves",PN,D9,Ea,Eb,Ec,xU,Ed,Ee]) (c18:#[dt,xU,"least_groves"]) (k18:#[Xki,K,xT])
  (a19:#[dZ,"least_tree",xV]) (l19:#[Xlk,K,xV,Ef,Eg,"least_tree","least_tree",PM,Eh,Ei,Ej,Ek,xW,El,Em]) (c19:#[dt,xW,"least_tree"]) (k19:#[Xki,K,xV])
  (a20:#[dZ,"least_grove",xX]) (l20:#[Xlk,K,xX,En,Eo,"least_grove","least_grove",PL,Ep,Er,Es,Et,xY,Eu,Ev]) (c20:#[dt,xY,"least_grove"]) (k20:#[Xki,K,xX])
  (a21:#[dZ,"least_cut",xZ]) (l21:#[Xlk,K,xZ,Ew,Ex,"least_cut","least_cut",S9,Ey,Ez,EB,EC,x0,ED,EE]) (c21:#[dt,x0,"least_cut"]) (k21:#[Xki,K,xZ])
  (a22:#[dZ,"merged",x5]) (l22:#[Xlk,K,x5,EF,EG,"merged","merged",S7,EH,EI,EJ,EK,x6,EL,EM]) (c22:#[dt,x6,"merged"]) (k22:#[Xki,K,x5])
  (a23:#[dZ,"counts",x8]) (l23:#[Xlk,K,x8,EN,EO,"counts","counts",PH,EQ,ER,ES,ET,x9,EU,EV]) (c23:#[dt,x9,"counts"]) (k23:#[Xki,K,x8])
  (a24:#[dZ,"bounds_of",ya]) (l24:#[Xlk,K,ya,EW,EX,"bounds_of","bounds_of",S6,EY,EZ,E1,E3,yb,E4,E5]) (c24:#[dt,yb,"bounds_of"]) (k24:#[Xki,K,ya])
  (a25:#[dZ,"how_many",yc]) (l25:#[Xlk,K,yc,E6,E7,"how_many","how_many",S5,E8,E9,Fa,Fb,yd,Fc,Fd]) (c25:#[dt,yd,"how_many"]) (k25:#[Xki,K,yc])
  (a26:#[dZ,"merged_by",ye]) (l26:#[Xlk,K,ye,Fe,Ff,"merged_by","merged_by",Ve,Fg,Fh,Fi,Fj,yf,Fk,Fl]) (c26:#[dt,yf,"merged_by"]) (k26:#[Xki,K,ye])
  (a27:#[dZ,"sort_by",yg]) (l27:#[Xlk,K,yg,Fm,Fn,"sort_by","sort_by",S0,Fo,Fq,Fs,Ft,yh,Fu,Fw]) (c27:#[dt,yh,"sort_by"]) (k27:#[Xki,K,yg])
  (a28:#[dZ,"is_sorted",yi]) (l28:#[Xlk,K,yi,Fx,Fy,"is_sorted","is_sorted",PF,Fz,FA,FC,FD,yj,FE,FF]) (c28:#[dt,yj,"is_sorted"]) (k28:#[Xki,K,yi])
  (a29:#[dZ,"_law_mix",yk]) (l29:#[Xlk,K,yk,FG,FH,"_law_mix","_law_mix",PD,FI,FJ,FK,FL,yl,FM,FN]) (c29:#[dt,yl,"_law_mix"]) (k29:#[Xki,K,yk])
  (a30:#[dZ,"_law_left",ym]) (l30:#[Xlk,K,ym,FO,FP,"_law_left","_law_left",PB,FQ,FR,FS,FT,yn,FU,FW]) (c30:#[dt,yn,"_law_left"]) (k30:#[Xki,K,ym])
  (a31:#[dZ,"_law_pick",yp]) (l31:#[Xlk,K,yp,FX,FY,"_law_pick","_law_pick",Pz,FZ,F0,F1,F3,yq,F4,F5]) (c31:#[dt,yq,"_law_pick"]) (k31:#[Xki,K,yp])
  (a32:#[dZ,"_law_in_order",yr]) (l32:#[Xlk,K,yr,F6,F7,"_law_in_order","_law_in_order",Ut,F8,F9,F',Ga,yt,Gb,Gd]) (c32:#[dt,yt,"_law_in_order"]) (k32:#[Xki,K,yr])
  (a33:#[dZ,"_law_date",yu]) (l33:#[Xlk,K,yu,Ge,Gf,"_law_date","_law_date",SY,Gg,Gh,Gi,Gj,yv,Gk,Gm]) (c33:#[dt,yv,"_law_date"]) (k33:#[Xki,K,yu])
  (a34:#[dZ,"_law_thing",yw]) (l34:#[Xlk,K,yw,Gn,Go,"_law_thing","_law_thing",Py,Gp,Gq,Gs,Gu,yx,Gv,Gw]) (c34:#[dt,yx,"_law_thing"]) (k34:#[Xki,K,yw])
  (a35:#[dZ,"_law_everyday",yy]) (l35:#[Xlk,K,yy,Gx,Gy,"_law_everyday","_law_everyday",Px,Gz,GA,GB,GC,yz,GD,GF]) (c35:#[dt,yz,"_law_everyday"]) (k35:#[Xki,K,yy])
  (a36:#[dZ,"_law_taken_right",yA]) (l36:#[Xlk,K,yA,GG,GH,"_law_taken_right","_law_taken_right",Z5,GI,GJ,GK,GL,yB,GN,GO]) (c36:#[dt,yB,"_law_taken_right"]) (k36:#[Xki,K,yA])
  (a37:#[dZ,"law",yC]) (l37:#[Xlk,K,yC,GP,GQ,"law","law",V1,yD,yE,yF,yG,qI,yH,GR]) (c37:#[dt,qI,"law"]) (k37:#[Xki,K,yC])
  (a38:#[Xfi,K,aB,"__init__",tM]) (i38:#[Xif,K,tM]) (l38:#[Xlk,K,tM,GS,GU,"__init__","Row.__init__",Us,GV,GW,GX,GY,yI,GZ,G0]) (c38:#[dt,yI,"Row.__init__"]) (k38:#[Xki,K,tM])
  (a39:#[Xfi,K,aB,"to_go",tN]) (i39:#[Xif,K,tN]) (l39:#[Xlk,K,tN,G1,G2,"to_go","Row.to_go",Ur,G3,G4,G5,G6,yJ,G7,G8]) (c39:#[dt,yJ,"Row.to_go"]) (k39:#[Xki,K,tN])
  (a40:#[Xfi,K,aB,"head",tO]) (i40:#[Xif,K,tO]) (l40:#[Xlk,K,tO,G9,G',"head","Row.head",Uq,Ha,Hb,Hc,He,yK,Hg,Hh]) (c40:#[dt,yK,"Row.head"]) (k40:#[Xki,K,tO])
  (a41:#[Xfi,K,ao,"__init__",tP]) (i41:#[Xif,K,tP]) (l41:#[Xlk,K,tP,Hj,Hk,"__init__","Merge.__init__",Up,Hl,Hm,Hn,Ho,yL,Hq,Hr]) (c41:#[dt,yL,"Merge.__init__"]) (k41:#[Xki,K,tP])
  (a42:#[nA,"coming",tQ]) (i42:#[Xif,K,tQ]) (l42:#[Xlk,K,tQ,Hs,Ht,"coming","Merge.coming",Uo,Hv,Hw,Hx,Hy,yM,Hz,HA]) (c42:#[dt,yM,"Merge.coming"]) (k42:#[Xki,K,tQ])
  (a43:#[nA,"take",tR]) (i43:#[Xif,K,tR]) (l43:#[Xlk,K,tR,HB,HC,"take","Merge.take",Um,HD,HE,HF,HG,yN,HH,HI]) (c43:#[dt,yN,"Merge.take"]) (k43:#[Xki,K,tR])
  (a44:#[nA,"take_few",tS]) (i44:#[Xif,K,tS]) (l44:#[Xlk,K,tS,HJ,HK,"take_few","Merge.take_few",Ul,HL,HM,HN,HP,yO,HQ,HR]) (c44:#[dt,yO,"Merge.take_few"]) (k44:#[Xki,K,tS])
  (a45:#[nA,"left",tT]) (i45:#[Xif,K,tT]) (l45:#[Xlk,K,tT,HS,HU,"left","Merge.left",Vd,HV,HW,HX,HY,yP,HZ,Ia]) (c45:#[dt,yP,"Merge.left"]) (k45:#[Xki,K,tT])
  (a46:#[nA,"heads",tU]) (i46:#[Xif,K,tU]) (l46:#[Xlk,K,tU,Ib,Ic,"heads","Merge.heads",Vc,Ie,Ig,Ih,Ii,yQ,Ij,Ik]) (c46:#[dt,yQ,"Merge.heads"]) (k46:#[Xki,K,tU])
  (a47:#[nA,"likenings",tV]) (i47:#[Xif,K,tV]) (l47:#[Xlk,K,tV,Il,Im,"likenings","Merge.likenings",Z4,Io,Ip,Iq,Ir,yR,Iu,Iv]) (c47:#[dt,yR,"Merge.likenings"]) (k47:#[Xki,K,tV])
  (a48:#[nA,"looks",tW]) (i48:#[Xif,K,tW]) (l48:#[Xlk,K,tW,Iw,Ix,"looks","Merge.looks",Uk,Iy,Iz,IA,IB,yS,IC,ID]) (c48:#[dt,yS,"Merge.looks"]) (k48:#[Xki,K,tW])
  (a49:#[nA,"play_all",tX]) (i49:#[Xif,K,tX]) (l49:#[Xlk,K,tX,IE,IF,"play_all","Merge.play_all",Uj,IG,IH,II,IJ,yT,IK,IL]) (c49:#[dt,yT,"Merge.play_all"]) (k49:#[Xki,K,tX])
  (a50:#[nA,"play",tY]) (i50:#[Xif,K,tY]) (l50:#[Xlk,K,tY,IM,IN,"play","Merge.play",Ui,IP,IQ,IR,IS,yU,IT,IU]) (c50:#[dt,yU,"Merge.play"]) (k50:#[Xki,K,tY])
  (a51:#[nA,"send_out",tZ]) (i51:#[Xif,K,tZ]) (l51:#[Xlk,K,tZ,IV,IW,"send_out","Merge.send_out",Uh,IX,IY,IZ,I0,yV,Ja,Jb]) (c51:#[dt,yV,"Merge.send_out"]) (k51:#[Xki,K,tZ])
  (a52:#[nA,"play_again",ua]) (i52:#[Xif,K,ua]) (l52:#[Xlk,K,ua,Jc,Jd,"play_again","Merge.play_again",Z0,Je,Jf,Jg,J',yW,K',T']) (c52:#[dt,yW,"Merge.play_again"]) (k52:#[Xki,K,ua])
  (a53:#[nA,"meet",uc]) (i53:#[Xif,K,uc]) (l53:#[Xlk,K,uc,U',V',"meet","Merge.meet",Ug,Y',Z',pm53,an53,yX,ct53,sl53]) (c53:#[dt,yX,"Merge.meet"]) (k53:#[Xki,K,uc])
  (z0:#[cP,"abs"]) (z1:#[cP,"all"]) (z2:#[cP,"bool"]) (z3:#[cP,"enumerate"]) (z4:#[cP,"int"]) (z5:#[cP,"isinstance"]) (z6:#[cP,"len"]) (z7:#[cP,"list"]) (z8:#[cP,"max"]) (z9:#[cP,"min"]) (z10:#[cP,"range"]) (z11:#[cP,"sorted"]) (z12:#[cP,"str"]) (z13:#[cP,"sum"]) (z14:#[cP,"tuple"]) :
  ∃fd:bo,#[eS,v,fd,"_law_script"]/\∀base:aE,K.In base->base.Ns aH mg->Yu l.prog w K mg base CX0 90 fa fd #[lm] (R4 K):=by
 have e:=Co.symm.trans (PySem.W.mg_of X G a37);cases e;have T:#[n]:=⟨⟨QR X G z0,QR X G z1,QR X G z2,QR X G z3,QR X G z4,QR X G z5,QR X G z6,QR X G z7,QR X G z8,QR X G z9,QR X G z10,QR X G z11,QR X G z12,QR X G z13,QR X G z14⟩,ZT X G a0 l0 c0 k0 #[iB],ZT X G a1 l1 c1 k1 #[jn],ZT X G a2 l2 c2 k2 #[iB],ZT X G a3 l3 c3 k3 #[jn],ZT X G a4 l4 c4 k4 #[jn],ZT X G a5 l5 c5 k5 #[3,VT],ZT X G a6 l6 c6 k6 #[3,VT],ZT X G a7 l7 c7 k7 #[3,VT],ZT X G a8 l8 c8 k8 #[iB],ZT X G a9 l9 c9 k9 #[iB],ZT X G a10 l10 c10 k10 #[jn],ZT X G a11 l11 c11 k11 #[jn],ZT X G a12 l12 c12 k12 #[iB],ZT X G a13 l13 c13 k13 #[iB],ZT X G a14 l14 c14 k14 #[jn],ZT X G a15 l15 c15 k15 #[3,VT],ZT X G a16 l16 c16 k16 #[jn],ZT X G a17 l17 c17 k17 #[jn],ZT X G a18 l18 c18 k18 #[jn],ZT X G a19 l19 c19 k19 (λ_ _ _ _ _ _ us hl=>by obtain⟨_,_,_,_,_,rfl⟩:=Jh us hl;exact rfl),ZT X G a20 l20 c20 k20 (λ_ _ _ _ _ _ us hl=>by obtain⟨_,_,_,_,_,rfl⟩:=Jh us hl;exact rfl),ZT X G a21 l21 c21 k21 (λ_ _ _ _ _ _ us hl=>by obtain⟨_,_,_,_,rfl⟩:=NN us hl;exact rfl),ZT X G a22 l22 c22 k22 #[iB],ZT X G a23 l23 c23 k23 #[iB],ZT X G a24 l24 c24 k24 #[iB],ZT X G a25 l25 c25 k25 #[iB],ZT X G a26 l26 c26 k26 #[3,VT],ZT X G a27 l27 c27 k27 #[3,VT],ZT X G a28 l28 c28 k28 #[jn],ZT X G a29 l29 c29 k29 #[jn],ZT X G a30 l30 c30 k30 #[jn],ZT X G a31 l31 c31 k31 #[jn],ZT X G a32 l32 c32 k32 #[iB],ZT X G a33 l33 c33 k33 #[iB],ZT X G a34 l34 c34 k34 #[jn],ZT X G a35 l35 c35 k35 #[iB],ZT X G a36 l36 c36 k36 #[jn],⟨_,_,ZW (st:=Us) l38 c38 k38,⟨exy,a38,i38,exu⟩,#[e6,Us,l38,c38,k38].binds (ps:=#[kc]) #[jn],PySem.W.mg_of X G exx⟩,⟨_,_,ZW (st:=Ur) l39 c39 k39,⟨a39,i39,k39⟩,#[e6,Ur,l39,c39,k39].binds (ps:=#[V]) #[iB]⟩,⟨_,_,ZW (st:=Uq) l40 c40 k40,⟨a40,i40,k40⟩,#[e6,Uq,l40,c40,k40].binds (ps:=#[V]) #[iB]⟩,⟨_,_,ZW (st:=Up) l41 c41 k41,⟨exn,a41,i41,exm⟩,#[e6,Up,l41,c41,k41].binds (ps:=#[rq]) #[jn],PySem.W.mg_of X G exq⟩,⟨_,_,ZW (st:=Uo) l42 c42 k42,⟨a42,i42,k42⟩,#[e6,Uo,l42,c42,k42].binds (ps:=#[V]) #[iB]⟩,⟨_,_,ZW (st:=Um) l43 c43 k43,⟨a43,i43,k43⟩,#[e6,Um,l43,c43,k43].binds (ps:=#[V]) #[iB]⟩,⟨_,_,ZW (st:=Ul) l44 c44 k44,⟨a44,i44,k44⟩,#[e6,Ul,l44,c44,k44].binds (ps:=#[rr]) #[jn]⟩,⟨_,_,ZW (st:=Vd) l45 c45 k45,⟨a45,i45,k45⟩,#[e6,Vd,l45,c45,k45].binds (ps:=#[V]) #[iB]⟩,⟨_,_,ZW (st:=Vc) l46 c46 k46,⟨a46,i46,k46⟩,#[e6,Vc,l46,c46,k46].binds (ps:=#[V]) #[iB]⟩,⟨_,_,ZW (st:=Z4) l47 c47 k47,⟨a47,i47,k47⟩,#[e6,Z4,l47,c47,k47].binds (ps:=#[V]) #[iB]⟩,⟨_,_,ZW (st:=Uk) l48 c48 k48,⟨a48,i48,k48⟩,#[e6,Uk,l48,c48,k48].binds (ps:=#[V]) #[iB]⟩,⟨_,_,ZW (st:=Uj) l49 c49 k49,⟨a49,i49,k49⟩,#[e6,Uj,l49,c49,k49].binds (ps:=#[V]) #[iB]⟩,⟨_,_,ZW (st:=Ui) l50 c50 k50,⟨a50,i50,k50⟩,#[e6,Ui,l50,c50,k50].binds (ps:=#[i2]) #[jn]⟩,⟨_,_,ZW (st:=Uh) l51 c51 k51,⟨a51,i51,k51⟩,#[e6,Uh,l51,c51,k51].binds (ps:=#[jU]) #[jn]⟩,⟨_,_,ZW (st:=Z0) l52 c52 k52,⟨a52,i52,k52⟩,#[e6,Z0,l52,c52,k52].binds (ps:=#[a3]) #[3,VT]⟩,⟨_,_,ZW (st:=Ug) l53 c53 k53,⟨a53,i53,k53⟩,#[e6,Ug,l53,c53,k53].binds (ps:=#[74]) (λ_ _ _ _ _ _ us hl=>by obtain⟨_,_,_,_,rfl⟩:=NN us hl;exact rfl)⟩,⟨exs,exr,exv,exw⟩,exc,exj,exi,⟨exp,exo,exl,exk⟩,exh,exb,exd,exa,exg,exe⟩;exact⟨PySem.W.fnOf "law" "law" (Zq V1) (Zl V1) (Zf V1) .none yD yE yF yG qI yH,λs v=>.of_eq rfl,λbase _ _=>Zsv #[e6,V1,l37,c37,k37] T⟩
theorem walk{l:#[rI]}{q:ar}{e:#[y]}{g:#[iU]}{b:aA->aE->Prop}{d:DefRec}{K:Params->#[7]}(i:l.most=U 63)(j:#[ll])
  (m:∀ (w:aA) (h:aE),b w h->#[fS].In h)
  (F:∀ (w:aA) (mg:aj->Option aa) (fa:ae) (h:aE),#[fS].In h->h.Ns aH mg->mg d.name=U (.ref fa) ->
   ∃c:bo,#[eS,u,c,"_law_script"]/\∀base:aE,#[fS].In base->base.Ns aH mg->Yu l.prog w #[fS] mg base CX0 90 fa c #[lm] (R4 #[fS])) :
  PySem.W.WalkO q e g b l.row.toRowW d [] #[iQ] :=
 L2.walk_of (n:=63) (k:=90) (x := "_law_script") (CX:=λ_=>CX0) (sp:=λw=>R4 #[fS]) i #[6] j ⟨rfl,by decide,by decide,rfl⟩ m F (λ_ _ a o p _ r=>⟨a,o,rfl,r,p,λ_=>rfl⟩) λ_ _ _ _ _ z=>z
universe E.My
open PySem PySem.W PyProof.Rows
namespace PySem.W.Fast
def tw10744604373720465604:=Nat
def tw18369404594892094086:=Nat
def tw2932742117508335967:=Nat
def tw12592019368168597833:=Nat
def tw13733832154921846955:=Nat
def tw10145659635466435084:=Nat
def tw17701998773308422181:=Nat
def tw2706347142526307845:=Nat
def tw10957464424151278897:=Nat
def tw5197872886386167315:=Nat
def tw17541306460648996116:=Nat
def tw9130351055194372180:=Nat
def tw7926455622368138356:=Nat
def tw8343025940043898157:=Nat
def tw102767491469902349:=Nat
def tw1547234482064919341:=Nat
def tw4020946684180178710:=Nat
def tw1206527098911066511:=Nat
def tw10109529218279342576:=Nat
def tw386536491989840048:=Nat
def tw10800027809634490197:=Nat
def tw14900192239251354744:=Nat
def tw4680079101908947817:=Nat
def tw647613800155135465:=Nat
def tw4060323985318757542:=Nat
def tw10475688373008021722:=Nat
def tw211405272570184755:=Nat
def tw9193704934481796736:=Nat
def tw17313050946086131082:=Nat
def tw5015583826845793919:=Nat
def tw6820187090745259292:=Nat
def tw9866935390164372365:=Nat
def tw13948870358340270757:=Nat
def tw9729093340391831413:=Nat
def tw9548070424081385482:=Nat
def tw3415645558008540953:=Nat
def tw16608689560269813763:=Nat
def tw1979064902439083720:=Nat
def tw7442100328110754120:=Nat
def tw11088971521829217471:=Nat
def tw10818663011124918485:=Nat
def tw2672405526057215971:=Nat
def tw15984010710927732847:=Nat
def tw6683763698534296066:=Nat
def tw3510664950738375084:=Nat
def tw11494107951595675554:=Nat
def tw6010728674289138967:=Nat
def tw6372112822127011257:=Nat
def tw4966651135476659808:=Nat
def tw13757098096524420812:=Nat
def tw16877549937895093289:=Nat
def tw17187091676432650909:=Nat
def tw15459918367496794291:=Nat
def tw6276358447285211955:=Nat
def tw15979400688964248267:=Nat
def tw3461564562709990034:=Nat
def tw12422795405135823522:=Nat
def tw2169337328173104526:=Nat
def tw10196618861683656902:=Nat
def tw16920723448141793176:=Nat
def tw17742387354392473763:=Nat
def tw206293599505831269:=Nat
def tw713827196316820286:=Nat
def tw13070023009650851941:=Nat
def tw18248821503670335945:=Nat
def tw15376374631955412015:=Nat
def tw17347333357463704532:=Nat
def tw15852453078011476280:=Nat
def tw13491652116916193061:=Nat
def tw9196793363735239191:=Nat
def tw9203358793997384175:=Nat
def tw76731512115352752:=Nat
def tw10286525415954853568:=Nat
def tw4715168669001373321:=Nat
def tw15061166353350900879:=Nat
def tw8303984293765892466:=Nat
def tw8298667757936799448:=Nat
def tw17744631168270325980:=Nat
def tw1986359196718531988:=Nat
def tw8482112427180036475:=Nat
def tw6522056416500677881:=Nat
def tw11046817825731066620:=Nat
def tw17636139654323666449:=Nat
def tw17323578057470032406:=Nat
def tw17304793014779383499:=Nat
def tw4937420144623095635:=Nat
def tw6908531522427741068:=Nat
def tw4217813558705641433:=Nat
def tw15897922050052789035:=Nat
def tw9409104289532079392:=Nat
def tw11933948885995371933:=Nat
def tw3398651032079243108:=Nat
def tw6762554123640394832:=Nat
def tw1406589335380386228:=Nat
def tw7054217870114259081:=Nat
def tw2631463773119651443:=Nat
def tw2038330848131604000:=Nat
def tw5564276455816871457:=Nat
def tw17517747723515323674:=Nat
def tw575851757108848309:=Nat
def tw15120997045878180238:=Nat
def tw14975922385743573395:=Nat
def tw15849039664626071787:=Nat
def tw3986633147152301356:=Nat
def tw9236510260949485163:=Nat
def tw10155779416524888286:=Nat
def tw16949798103031000898:=Nat
def tw10873593510268095688:=Nat
def tw10964926672095946703:=Nat
def tw14784914687699068736:=Nat
def tw17743565300218355065:=Nat
def tw9329461122948730199:=Nat
def tw7894212825704453728:=Nat
def tw12622323878058021596:=Nat
def tw5903233699566972348:=Nat
def tw14128305864659683910:=Nat
def tw5610208202594474401:=Nat
def tw13912302599297684712:=Nat
def tw2338365848757074888:=Nat
def tw9407323832861314748:=Nat
def tw5653059901021962554:=Nat
def tw1796214688358677301:=Nat
def tw1408979953385402067:=Nat
def tw3761731074586226888:=Nat
def tw5951791410244026198:=Nat
def tw1616562881808484743:=Nat
def tw4505404416615964180:=Nat
def tw6572249056750100833:=Nat
def tw598863996621575158:=Nat
def tw12054354476822066003:=Nat
def tw660950621002900106:=Nat
def tw13148669171227786850:=Nat
def tw856699011659531075:=Nat
def tw4748014487507398846:=Nat
def tw10661493157348555270:=Nat
def tw3031393551968024504:=Nat
def tw8132799323882666002:=Nat
def tw10862368677226837804:=Nat
def tw461838906645401561:=Nat
def tw2984010193394768645:=Nat
def tw8504243507749067027:=Nat
def tw17577943256191753461:=Nat
def tw16198513579253430683:=Nat
def tw17044100881083373120:=Nat
def tw9611961189267132509:=Nat
def tw17013250861658954689:=Nat
def tw14044209621417247262:=Nat
def tw5891664139655456401:=Nat
def tw14735023940200641656:=Nat
def tw2340072769837015494:=Nat
def tw5024297715099611479:=Nat
def tw4819493631000889319:=Nat
def tw5588389140028845608:=Nat
def tw14356738772894527811:=Nat
def tw6008536183348527872:=Nat
def tw13950532817061921786:=Nat
def tw18201987528320162579:=Nat
def tw9346745268751893637:=Nat
def tw11486471379847115876:=Nat
def tw12090838292119447465:=Nat
def tw14635581596936514345:=Nat
def tw8103459931870839252:=Nat
def tw14664492084076534670:=Nat
def tw13411573559921699389:=Nat
def tw6284224436919080720:=Nat
def tw7220686995911084257:=Nat
def tw10216993975307156852:=Nat
def tw15111781538382567678:=Nat
def tw12836469791872283150:=Nat
def tw15785487247793265650:=Nat
def tw7777331946072651399:=Nat
def tw10068740507063369579:=Nat
def tw6908507732120558013:=Nat
def tw643351231595013307:=Nat
def tw2371861866995426154:=Nat
def tw18108112562973236999:=Nat
def tw8315408873620103575:=Nat
def tw2413473085937383849:=Nat
def tw7920072939631445184:=Nat
def tw245206348875333194:=Nat
def tw14563100590793025267:=Nat
def tw14676696736743896020:=Nat
def tw17959434697089641154:=Nat
def tw16938600220187222481:=Nat
def tw6102567080257568596:=Nat
def tw6607782057957420775:=Nat
def tw16648308977218294850:=Nat
def tw4944306185808296248:=Nat
def tw6845809652554859913:=Nat
def tw17948294949984636085:=Nat
def tw12840279811772264997:=Nat
def tw1890875413390636097:=Nat
def tw13557257299601701459:=Nat
def tw2511159325453854242:=Nat
def tw861308871684340363:=Nat
def tw12484138188474591367:=Nat
def tw18286053940346106481:=Nat
def tw13624699255186881660:=Nat
def tw15788508298246953976:=Nat
def tw10038345986948191700:=Nat
def tw1253858263006882390:=Nat
def tw5263861772509979367:=Nat
def tw9847031004766121921:=Nat
def tw10715156637607670846:=Nat
def tw12995833903321536600:=Nat
def tw924241510602553259:=Nat
def tw15350061349117804085:=Nat
def tw9564906415788521449:=Nat
def tw5687465962934701903:=Nat
def tw12498155452229343998:=Nat
def tw17463606225895258048:=Nat
def tw5725128973951880691:=Nat
def tw3226892927368130757:=Nat
def tw15031954115868966224:=Nat
def tw15028378300066413274:=Nat
def tw7302374458938528625:=Nat
def tw2072167399894713621:=Nat
def tw11182023661918480277:=Nat
def tw189850586109857577:=Nat
def tw14489928272150912868:=Nat
def tw3935480493107828081:=Nat
def tw6308195358004191156:=Nat
def tw3771274617665987412:=Nat
def tw8075552174799679423:=Nat
def tw7343607508019348468:=Nat
def tw7996092936898080201:=Nat
def tw6484789654848122794:=Nat
def tw9876875298602427324:=Nat
def tw6426895698618752480:=Nat
def tw10729255266814898342:=Nat
def tw6798963986894720724:=Nat
def tw2258547646253192529:=Nat
def tw14406265686850841614:=Nat
def tw8106512284081049638:=Nat
def tw10687128376612503215:=Nat
def tw1847019660624391534:=Nat
def tw11977032382659108591:=Nat
def tw8556470335839950073:=Nat
def tw11287950999828978021:=Nat
def tw13267559631048819925:=Nat
def tw13942954579635555928:=Nat
def tw3252920711613736643:=Nat
def tw1454832046286832988:=Nat
def tw2207682016410543524:=Nat
def tw8446712757832867611:=Nat
def tw13174014885985577029:=Nat
def tw6132833210892573064:=Nat
def tw17786895745207254678:=Nat
def tw5438931926875602867:=Nat
def tw12460399441405310293:=Nat
def tw9460651289432051453:=Nat
def tw8604995602369016281:=Nat
def tw15105891920579214439:=Nat
def tw2120964729115093455:=Nat
def tw7544151062395568418:=Nat
def tw3873860124509945214:=Nat
def tw15391712710185841293:=Nat
def tw15771472563001176585:=Nat
def tw11669314909366304476:=Nat
def tw6048571250482740064:=Nat
def tw16928559073405597125:=Nat
def tw7217911341418535921:=Nat
def tw10818733067908511526:=Nat
def tw5326642319960758638:=Nat
def tw2417677927209313671:=Nat
def tw7377570494938656522:=Nat
def tw5892676546245525533:=Nat
def tw16227752031821237603:=Nat
def tw5049255496302805348:=Nat
def tw9694942444967413006:=Nat
def tw14173181769389487624:=Nat
def tw14199988568797979560:=Nat
def tw12603661934609172281:=Nat
def tw8037405180868289501:=Nat
def tw6372475684914507130:=Nat
def tw119427383874826845:=Nat
def tw3389334111301559823:=Nat
def tw10889238106659950338:=Nat
def tw5000480486423173454:=Nat
def tw10298014715656068637:=Nat
def tw12787835844783179752:=Nat
def tw10620813897674777346:=Nat
def tw18371913712783840350:=Nat
def tw17335947105281396394:=Nat
def tw2247470527627099641:=Nat
def tw18138724287599293903:=Nat
def tw9571987831594788475:=Nat
def tw1869110877561717895:=Nat
def tw14409371884621239205:=Nat
def tw4648853583606034151:=Nat
def tw9109124403301924665:=Nat
def tw9229388778183788021:=Nat
def tw6964408292910193597:=Nat
def tw14538274346317598699:=Nat
def tw7089040034303259257:=Nat
def tw7403306611851203504:=Nat
def tw4310903623369918144:=Nat
def tw13470826013812216806:=Nat
def tw12784311417939830787:=Nat
def tw7189694026112578881:=Nat
def tw13329151978067987101:=Nat
def tw17958051115506550703:=Nat
def tw2308840968231535500:=Nat
def tw16861447801691864697:=Nat
def tw12566784255065018510:=Nat
def tw17431122588508574657:=Nat
def tw3492770795480298223:=Nat
def tw10689572631000717736:=Nat
def tw16268674247987446656:=Nat
def tw12308937867291439775:=Nat
def tw4229071096918768663:=Nat
def tw7369757272004497202:=Nat
def tw9020892135833432782:=Nat
def tw9944690207204194043:=Nat
def tw2877224648598511054:=Nat
def tw4429372402132551057:=Nat
def tw15844598057639897473:=Nat
def tw251778368083780059:=Nat
def tw13682024488998719752:=Nat
def tw8455932536407697042:=Nat
def tw6278974016164963730:=Nat
def tw15199410123774491245:=Nat
def tw17889159343002353451:=Nat
universe E.PySem.W.Fast
set_option maxRecDepth 100000 in
set_option maxHeartbeats 0 in
theorem PySem.Challenge.cw_mergetree_k75_whole_everyday_rows_holds : PySem.Challenge.rw_mergetree_k75_whole_everyday_rows.Holds := by
 w_on;o_law;k_head;(case hw=>w_witness2)
 k_fill
 refine My.walk (l:=PySem.Challenge.rw_mergetree_k75_whole_everyday_rows) rfl rfl (λw h Y=>PySem.W.kIn_of Y) ?F;case F =>
  intro w mg fa h KX G hmg
  refine' My.all_mk KX G hmg ?exx ?exs ?exr ?exv ?exw ?exy ?exu ?exc ?exj ?exi ?exq ?exp ?exo ?exl ?exk ?exn ?exm ?exh ?exb ?exd ?exa ?exg ?exe ?a0 ?l0 ?c0 ?k0 ?a1 ?l1 ?c1 ?k1 ?a2 ?l2 ?c2 ?k2 ?a3 ?l3 ?c3 ?k3 ?a4 ?l4 ?c4 ?k4 ?a5 ?l5 ?c5 ?k5 ?a6 ?l6 ?c6 ?k6 ?a7 ?l7 ?c7 ?k7 ?a8 ?l8 ?c8 ?k8 ?a9 ?l9 ?c9 ?k9 ?a10 ?l10 ?c10 ?k10 ?a11 ?l11 ?c11 ?k11 ?a12 ?l12 ?c12 ?k12 ?a13 ?l13 ?c13 ?k13 ?a14 ?l14 ?c14 ?k14 ?a15 ?l15 ?c15 ?k15 ?a16 ?l16 ?c16 ?k16 ?a17 ?l17 ?c17 ?k17 ?a18 ?l18 ?c18 ?k18 ?a19 ?l19 ?c19 ?k19 ?a20 ?l20 ?c20 ?k20 ?a21 ?l21 ?c21 ?k21 ?a22 ?l22 ?c22 ?k22 ?a23 ?l23 ?c23 ?k23 ?a24 ?l24 ?c24 ?k24 ?a25 ?l25 ?c25 ?k25 ?a26 ?l26 ?c26 ?k26 ?a27 ?l27 ?c27 ?k27 ?a28 ?l28 ?c28 ?k28 ?a29 ?l29 ?c29 ?k29 ?a30 ?l30 ?c30 ?k30 ?a31 ?l31 ?c31 ?k31 ?a32 ?l32 ?c32 ?k32 ?a33 ?l33 ?c33 ?k33 ?a34 ?l34 ?c34 ?k34 ?a35 ?l35 ?c35 ?k35 ?a36 ?l36 ?c36 ?k36 ?a37 ?l37 ?c37 ?k37 ?a38 ?i38 ?l38 ?c38 ?k38 ?a39 ?i39 ?l39 ?c39 ?k39 ?a40 ?i40 ?l40 ?c40 ?k40 ?a41 ?i41 ?l41 ?c41 ?k41 ?a42 ?i42 ?l42 ?c42 ?k42 ?a43 ?i43 ?l43 ?c43 ?k43 ?a44 ?i44 ?l44 ?c44 ?k44 ?a45 ?i45 ?l45 ?c45 ?k45 ?a46 ?i46 ?l46 ?c46 ?k46 ?a47 ?i47 ?l47 ?c47 ?k47 ?a48 ?i48 ?l48 ?c48 ?k48 ?a49 ?i49 ?l49 ?c49 ?k49 ?a50 ?i50 ?l50 ?c50 ?k50 ?a51 ?i51 ?l51 ?c51 ?k51 ?a52 ?i52 ?l52 ?c52 ?k52 ?a53 ?i53 ?l53 ?c53 ?k53 ?z0 ?z1 ?z2 ?z3 ?z4 ?z5 ?z6 ?z7 ?z8 ?z9 ?z10 ?z11 ?z12 ?z13 ?z14
  (case exx=>k_is)
  (case exs=>k_is)
  (case exr=>k_is)
  (case exv=>k_is)
  (case exw=>k_is)
  (case exy=>k_is)
  (case exu=>k_is)
  (case exc=>k_is)
  (case exj=>k_is)
  (case exi=>k_is)
  (case exq=>k_is)
  (case exp=>k_is)
  (case exo=>k_is)
  (case exl=>k_is)
  (case exk=>k_is)
  (case exn=>k_is)
  (case exm=>k_is)
  (case exh=>k_is)
  (case exb=>k_is)
  (case exd=>k_is)
  (case exa=>k_is)
  (case exg=>k_is)
  (case exe=>k_is)
  (case a0|l0|c0|k0=>k_is)
  (case a1|l1|c1|k1=>k_is)
  (case a2|l2|c2|k2=>k_is)
  (case a3|l3|c3|k3=>k_is)
  (case a4|l4|c4|k4=>k_is)
  (case a5|l5|c5|k5=>k_is)
  (case a6|l6|c6|k6=>k_is)
  (case a7|l7|c7|k7=>k_is)
  (case a8|l8|c8|k8=>k_is)
  (case a9|l9|c9|k9=>k_is)
  (case a10|l10|c10|k10=>k_is)
  (case a11|l11|c11|k11=>k_is)
  (case a12|l12|c12|k12=>k_is)
  (case a13|l13|c13|k13=>k_is)
  (case a14|l14|c14|k14=>k_is)
  (case a15|l15|c15|k15=>k_is)
  (case a16|l16|c16|k16=>k_is)
  (case a17|l17|c17|k17=>k_is)
  (case a18|l18|c18|k18=>k_is)
  (case a19|l19|c19|k19=>k_is)
  (case a20|l20|c20|k20=>k_is)
  (case a21|l21|c21|k21=>k_is)
  (case a22|l22|c22|k22=>k_is)
  (case a23|l23|c23|k23=>k_is)
  (case a24|l24|c24|k24=>k_is)
  (case a25|l25|c25|k25=>k_is)
  (case a26|l26|c26|k26=>k_is)
  (case a27|l27|c27|k27=>k_is)
  (case a28|l28|c28|k28=>k_is)
  (case a29|l29|c29|k29=>k_is)
  (case a30|l30|c30|k30=>k_is)
  (case a31|l31|c31|k31=>k_is)
  (case a32|l32|c32|k32=>k_is)
  (case a33|l33|c33|k33=>k_is)
  (case a34|l34|c34|k34=>k_is)
  (case a35|l35|c35|k35=>k_is)
  (case a36|l36|c36|k36=>k_is)
  (case a37|l37|c37|k37=>k_is)
  (case a38|i38|l38|c38|k38=>k_is)
  (case a39|i39|l39|c39|k39=>k_is)
  (case a40|i40|l40|c40|k40=>k_is)
  (case a41|i41|l41|c41|k41=>k_is)
  (case a42|i42|l42|c42|k42=>k_is)
  (case a43|i43|l43|c43|k43=>k_is)
  (case a44|i44|l44|c44|k44=>k_is)
  (case a45|i45|l45|c45|k45=>k_is)
  (case a46|i46|l46|c46|k46=>k_is)
  (case a47|i47|l47|c47|k47=>k_is)
  (case a48|i48|l48|c48|k48=>k_is)
  (case a49|i49|l49|c49|k49=>k_is)
  (case a50|i50|l50|c50|k50=>k_is)
  (case a51|i51|l51|c51|k51=>k_is)
  (case a52|i52|l52|c52|k52=>k_is)
  (case a53|i53|l53|c53|k53=>k_is)
  (case z0=>k_is)
  (case z1=>k_is)
  (case z2=>k_is)
  (case z3=>k_is)
  (case z4=>k_is)
  (case z5=>k_is)
  (case z6=>k_is)
  (case z7=>k_is)
  (case z8=>k_is)
  (case z9=>k_is)
  (case z10=>k_is)
  (case z11=>k_is)
  (case z12=>k_is)
  (case z13=>k_is)
  (case z14=>k_is)
end
