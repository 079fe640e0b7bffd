import PyProof.Rows.All
import Wide.All
import OpenK.AllK
import Wide.FinOn
import Lean
import PyProof.EqAt
import PyProof.EqKinds
import PyProof.TupleCall
import PyProof.AttrMissHeap
import KE.KEqDict
import KE.KItemsList
import PyProof.WalksMore
import PyProof.TupleOfStr
import PyProof.DictWalks
import PyProof.WalkInts
import PyProof.ExcClass3
import PyProof.StationsW
import OpenK.KCall
import PyProof.RulesAs
import PyProof.Ns1
import PyProof.InstStoreFacts
import PyProof.ExcBaseAll.ValueError
import PyProof.ExcArgs
import KE.KIsAll
import PyProof.Rows.CountFlat
import PySem.Challenge.RW_mergetree_k21_late_deeds_refused
set_option maxHeartbeats 4000000
set_option maxRecDepth 100000
open PySem renaming Value->aa,Addr->ae,wpAny_bind->aj,Shared->ai,sizeLine->ao,Str->al,wpAny_pure->av,PyData->ar,wpAny->au,Program->ax,starEach->aD,mainGlobals->aL,model->ay,Heap->aF,Around->aB,World->aE,Expr->aH,NameKind->aN,Stmt->aI,Builtin->aO,compareOp->aU,sliceBounds->be,wpAny_holding->aS,PassesOwn->bf,Obj->aJ,wpAny_seqItems->br,wpAny_field->aW,sizeLine_eq->aP,assignEach->bx,compEnvC->b9,attributeBase->bo,wpAny_setField_rec->bH,sysModules->bL,wpAny_passesOwn->bO,wpAny_truthy_bool->bT,strIterType->bK,codeAny->bU,Scope->bh,backTo->bc,wpAny_getItem_str_slice->ck,FuncData->bu,wpAny_pyNext_list_item->cz,wpAny_standAt->bw,wpAny_pyNext_list_end->cG,wpAny_pyIter_list->cH,wpAny_newObj_type->bV,wpAny_call_entry->cQ,bootBuiltins->cm,wpAny_mono->aZ,wpAny_Call_Name_kw->ba,tupleKind_room_in1->dC,wpAny_letGo->dh,wpAny_Call_method0_late->cn,keywordEach->cc
open Option renaming some->U,none->af
local macro_rules
|`(mutual $d* end)=>do
 let `(example:=#[$x,*]):=(d[0]!.raw)|Lean.Macro.throwUnsupported
 let key:=fun (a:Array Lean.Syntax)=>(if a[0]!.isIdent then a[0]!.getId.toString else (a[0]!.isNatLit?.map toString).getD "?")++"/"++toString a.size
 let sub:=fun (t:Std.HashMap String (Array Lean.Name×Lean.Syntax)) (s:Lean.Syntax)=>s.rewriteBottomUp fun s=>
  if s.getKind==`«term#[_,]» then
   let a:=s[1].getSepArgs
   if a.isEmpty then s else match t[key a]? with
   |some (p,b)=>if p.isEmpty then b else b.rewriteBottomUp fun u=>if u.isIdent then match p.idxOf? u.getId with|some i=>a[i+1]!|none=>u else u
   |none=>s
  else if s.getKind==``Lean.Parser.Tactic.show&&s[1].getKind==``Lean.Parser.Term.byTactic then
   Lean.Syntax.node .none ``Lean.Parser.Tactic.paren #[Lean.Syntax.atom .none "(",s[1][1],Lean.Syntax.atom .none ")"]
  else s
 let mut t:Std.HashMap String (Array Lean.Name×Lean.Syntax):={}
 for y in x.getElems do
  let a:=y.raw[1].getSepArgs
  let b:=sub t a.back!
  let p:=(a.extract 1 (a.size-1)).map (·.getId)
  t:=t.insert (key a.pop) (p,b)
 let mut r:Array Lean.Syntax:=#[]
 for c in d.extract 1 d.size do
  let c:=c.raw
  r:=r.push (←if c.getKind==``Lean.Parser.Command.universe then do
   let n:=c[1][0].getId
   if n==`E then `(command|end) else
    let i:=Lean.mkIdent (n.replacePrefix `E .anonymous)
    `(command|end $i)
  else pure ⟨sub t c⟩)
 return Lean.mkNullNode r
mutual
example:=#[#[Xzz,⟨rfl,rfl,by ac_rfl,by ac_rfl,by ac_rfl,by decide,by ac_rfl,by ac_rfl⟩],
#[0,⟨rfl,rfl,rfl,by ac_rfl,rfl,by ac_rfl,by ac_rfl⟩],
#[1,a_,(λ_ _ _ _ _ _ us hl=>by obtain⟨_,h⟩:=a_ us hl;subst h;exact rfl)],
#[2,a_,(λ_ _ _ _ _ _ us hl=>by obtain⟨_,_,h⟩:=a_ us hl;subst h;exact rfl)],
#[3,a_,(λ_ _ _ _ _ _ us hl=>by obtain⟨_,_,_,h⟩:=a_ us hl;subst h;exact rfl)],
#[1,(by ac_rfl)],
#[2,(by lia)],
#[3,(Or.inl rfl)],
#[4,(by simp)],
#[5,(by rfl)],
#[6,(by decide)],
#[7,PySem.W.Frag],
#[8,(.inl rfl)],
#[9,x_,PySem.wpAny (PySem.model (x_).prog (x_).w) (x_).A],
#[Xns,a_,b_,c_,PySem.W.nsIn a_ mainGlobals b_=some (some (.ref c_))],
#[Xfi,a_,b_,c_,d_,PySem.W.findIn a_ (.ref b_) c_=some (some (.ref d_))],
#[Xlk,z_,a_,b_,c_,d_,e_,f_,g_,h_,i_,j_,k_,l_,m_,(z_).lookup a_=some ⟨b_,c_,.func (PySem.W.fnOf d_ e_ (Zv f_) (Zq f_) (Zh f_) .none g_ h_ i_ j_ k_ l_),m_⟩],
#[Xci,a_,b_,c_,PySem.W.codeIn a_ b_ c_=true],
#[Xki,a_,b_,PySem.W.keepIn a_ (.ref b_)=true],
#[Xif,a_,b_,PySem.W.isFn a_ (.ref b_)=true],
#[Ze,a_,b_,@Ze _ _ _ _ _ a_ b_],
#[Zw,a_,b_,c_,d_,@Zw _ _ a_ _ _ _ _ b_ rfl c_ d_ (by rfl) (by trivial)],
#[ZH,a_,b_,c_,@ZH _ _ _ _ _ _ _ _ a_ b_ c_],
#[Zj,@Zj _ _ _ _],
#[Zi,a_,@Zi _ _ _ a_],
#[Zr,a_,@Zr _ _ _ _ a_],
#[WV,a_,b_,c_,@WV _ _ _ _ _ _ _ _ a_ b_ c_],
#[Zm,a_,b_,c_,d_,@Zm _ _ _ _ _ _ _ _ a_ b_ c_ d_],
#[Zk,a_,b_,c_,d_,e_,@Zk _ _ _ _ _ _ _ _ _ a_ b_ c_ d_ e_ (by decide) (by decide) (by rfl) (by rfl)],
#[Za,a_,b_,@Za _ _ _ _ _ a_ b_ (by rfl)],
#[Zc,@Zc _],
#[Zc,a0_,#[Za,a0_,#[Zc]]],
#[Zc,a0_,a1_,#[Za,a0_,#[Za,a1_,#[Zc]]]],
#[Zc,a0_,a1_,a2_,#[Za,a0_,#[Za,a1_,#[Za,a2_,#[Zc]]]]],
#[Zc,a0_,a1_,a2_,a3_,#[Za,a0_,#[Za,a1_,#[Za,a2_,#[Za,a3_,#[Zc]]]]]],
#[Zc,a0_,a1_,a2_,a3_,a4_,#[Za,a0_,#[Za,a1_,#[Za,a2_,#[Za,a3_,#[Za,a4_,#[Zc]]]]]]],
#[Zo,a_,b_,c_,@Zo _ _ _ _ _ _ _ a_ b_ c_ (λ_ _=>rfl)],
#[ZJ,a_,@ZJ _ _ _ _ a_],
#[Xa,a_,b_,c_,d_,@Xa _ _ _ _ _ _ _ _ _ a_ (by rfl) b_ c_ d_ (by decide) (by decide) (by rfl) (by rfl)],
#[XQ,a_,b_,c_,d_,@XQ _ _ _ _ _ _ _ _ a_ b_ c_ d_],
#[Z2,a_,b_,@Z2 _ _ _ _ _ _ a_ b_ (by rfl) (by rfl) (by rfl)],
#[Yq,a_,b_,c_,@Yq _ _ _ _ _ _ _ a_ b_ c_ (by intro _;rfl)],
#[ZN,a_,b_,c_,@ZN _ _ _ _ _ _ _ _ a_ b_ c_],
#[Zy,@Zy _],
#[Zx,a_,b_,c_,d_,@Zx _ _ _ _ _ _ _ _ _ _ _ a_ b_ c_ (by trivial) d_ (by decide) (by rfl) (by rfl)],
#[Zl,@Zl _ _ _ _],
#[Xj,a_,b_,c_,d_,e_,@Xj _ _ _ _ _ _ _ _ _ _ _ _ _ _ a_ rfl rfl rfl b_ c_ d_ e_ (by intro _;rfl)],
#[WT,a_,b_,@WT _ _ _ _ _ _ rfl a_ b_ (by rfl)],
#[pv,a_,b_,@pv _ a_ _ _ (by rfl) b_ (by decide) (by decide)],
#[cg,a_,b_,@cg _ _ _ _ _ _ _ _ _ _ _ a_ b_ rfl (by ac_rfl) (by rfl)],
#[cv,a_,b_,@cv _ _ _ _ _ _ _ _ _ _ _ a_ b_ rfl (by ac_rfl) (by rfl) (by decide) (by decide)],
#[Xl,a_,b_,c_,d_,e_,f_,@Xl _ _ _ _ _ _ _ _ _ _ _ _ a_ b_ c_ d_ e_ f_ (by rfl) (by rfl) (by rfl) (by rfl) (by rfl)],
#[Ya,a_,b_,@Ya _ _ _ _ _ _ _ a_ b_],
#[Xu,a_,@Xu _ _ _ _ a_],
#[Yb,a_,@Yb _ _ _ a_ (by intro _;rfl)],
#[ZV,a_,@ZV _ _ _ _ _ a_],
#[XV,a_,b_,@XV _ _ _ _ a_ b_ (by rfl) (by decide) (by decide)],
#[Xd,a_,b_,@Xd _ _ _ _ _ _ _ a_ b_],
#[WG,a_,@WG _ _ _ _ a_],
#[Xv,@Xv _ _ _ _],
#[Wf,a_,b_,@Wf _ _ _ _ _ _ _ a_ b_],
#[gT,a_,b_,c_,@gT _ a_ _ _ _ b_ _ c_ (by rfl) (by rfl) (by rfl) (by rfl)],
#[Zz,a_,b_,@Zz _ _ _ _ _ a_ b_ (by rfl)],
#[cw,a_,b_,@cw _ _ _ _ _ _ _ _ _ _ _ a_ b_ rfl (by ac_rfl) (by rfl) (by decide) (by decide)],
#[ZU,@ZU _ _ _],
#[XS,a_,b_,c_,d_,@XS _ _ _ _ _ _ _ _ a_ rfl b_ c_ d_ (by intro _;rfl)],
#[ZD,a_,b_,c_,@ZD _ _ a_ _ b_ rfl c_ (by trivial)],
#[neD,a_,b_,@neD _ a_ _ b_ (by rfl)],
#[ZX,a_,@ZX _ _ _ _ a_ (by rfl)],
#[iE,a_,b_,c_,@iE _ a_ _ _ _ _ _ _ _ b_ c_ (by rfl) (by rfl) (by rfl)],
#[WS,a_,b_,@WS _ _ _ _ _ _ a_ b_],
#[W6,a_,b_,c_,d_,@W6 _ _ _ _ _ _ _ _ _ _ a_ b_ c_ d_],
#[Xm,a_,@Xm _ _ _ a_],
#[ZO,a_,@ZO _ _ _ _ _ a_ (by rfl)],
#[YI,a_,b_,c_,d_,@YI _ _ _ _ _ _ _ _ _ _ _ _ a_ b_ c_ d_ (by trivial) (by rfl)],
#[XO,a_,b_,@XO _ _ _ _ _ _ _ _ a_ b_ (by rfl)],
#[UT,a_,b_,c_,d_,e_,f_,g_,@UT _ _ _ _ _ a_ _ _ _ _ _ _ _ _ _ _ _ _ b_ rfl (Or.inl rfl) c_ rfl rfl rfl d_ e_ f_ g_ (by rfl) (by intro _;rfl) (by trivial)],
#[iL,a_,b_,@iL _ a_ _ _ _ b_ (by rfl)],
#[V0,a_,b_,c_,d_,@V0 _ _ a_ b_ _ _ _ _ _ _ _ _ _ _ _ rfl c_ rfl rfl (by decide) rfl rfl d_ rfl (by rfl)],
#[Vr,a_,b_,c_,@Vr _ _ _ _ _ _ _ _ _ a_ b_ c_],
#[XY,@XY _ _],
#[VC,a_,b_,c_,@VC _ _ _ _ _ _ _ _ _ _ a_ b_ c_],
#[Xq,a_,b_,c_,d_,e_,@Xq _ _ _ _ _ _ _ _ _ _ _ _ _ _ _ a_ b_ c_ d_ e_ (by trivial) (by rfl) (by rfl) (by rfl)],
#[T9,a_,b_,c_,@T9 _ _ _ _ _ _ _ _ _ _ _ _ a_ b_ c_ (by trivial) (by rfl) (by decide) (by rfl) (by rfl)],
#[WW,a_,@WW _ _ _ _ a_],
#[W4,a_,b_,@W4 _ _ _ _ _ a_ b_],
#[Xh,a_,b_,@Xh _ _ _ _ _ a_ b_],
#[Vn,a_,b_,c_,d_,e_,f_,@Vn _ _ _ _ _ _ _ _ _ _ _ _ _ _ _ _ a_ b_ c_ d_ e_ f_ (by trivial) (by rfl) (by rfl) (by rfl)],
#[Sa,a_,b_,c_,d_,@Sa _ _ _ _ _ _ _ _ _ _ _ _ a_ b_ c_ d_ (by trivial) (by rfl) (by decide) (by rfl) (by rfl)],
#[WC,a_,@WC _ _ _ _ a_ (by rfl) (by decide)],
#[Vo,a_,@Vo _ _ _ _ _ a_ (by rfl)],
#[R6,a_,b_,c_,@R6 _ _ _ _ _ _ _ _ _ _ _ _ _ a_ b_ c_ (by decide) (by trivial) (by rfl) (by decide) (by rfl) (by rfl)],
#[e,Z1 K mg aw ak ap aG aA am aq],
#[g,(ZA "likened" (.int 0) (ZA "next_number" (.int (l.length:Int)) (ZA "rows" (.ref c) [])))],
#[h,aD (e::es) X.env=(false,eval e X.env)::aD es X.env],
#[i,Inv X ah σ H s],
#[j,(x == ("__debug__" : al))=false],
#[k,h.get? C=U (excClassObj nm q C N bs (.ref B::YH) dr sn sub ab bW dd k0 k1 k2 k3 k5 "ValueError.__new__")],
#[l,["_law_left_here", "_law_stems_here", "_law_most"]],
#[n,Df P w K mg base 2 "_law_pick" ["_law_left_here", "_law_many_here"] WB],
#[o,Xz _ _ _ _ _ _ #[1] #[1] #[1] #[1] #[1] #[1]],
#[p,(ay prog w)],
#[q,#[.ref T,.none,.none,.none,.bool false,.none]],
#[r,(lcp (cds x) (cds y):Nat)],
#[s,(bc pos (aD es X.env)).any (·.1)=false],
#[t,(λz=>nomatch z)],
#[u,["_law_left_here", "_law_own", "_law_stems_here", "_law_numbers", "_law_way_here", "_law_n", "_law_least_here", "_law_keys_here", "_law_most"]],
#[v,(YZ X.env.cells c.names [])],
#[w,List Int],
#[y,⟨ok.mod,ok.kind,ok.glob,ok.blt,ok.above,ok.inj,ok.has,ok.cab,ok.hd,ok.frames,ok.stk,ok.exf,ok.bs,ok.bsz,ok.noex,ok.exfs,ok.funs,ok.frf⟩],
#[z,by rintro i zs k a F G r M S ⟨⟨J,L,rfl⟩,rfl,d,l,FN⟩ m;have W:i<xs.length:=(Qe.mp M).1;have X:D≠r:=Zf l m;have N:ZF H (upd a r (.tup [F,G])):=d.trans (Zg m _);refine⟨r,_,rfl,SqT.of Zb,rfl,_,_,rfl,_,_,rfl,rfl,_,rfl,_,rfl,F,G,rfl,(hi i F G M S).mono N,λY O=>?_⟩;have Z:Y D=U (.lst (List.replicate i (.bl true))):=O _ _ (by rw[Zd X];exact l);refine⟨Z,(by rw[QaN];exact Zn #[2]),⟨_,_,rfl⟩,?_,?_,Zb,W⟩],
#[A,(.builtin "object.__class__")],
#[B,by subst m hw n;obtain⟨q,t,Q,x,y,A⟩:=j it #[4];obtain⟨B,C⟩:=p;obtain⟨D,a,F⟩:=I.dictF B hd;have l:kvs.length=D.length:=a.length],
#[C,(ns.map V.int)],
#[D,(i.heap.push { cls:=.type "dict_items",data:=.fields #[.ref d] })],
#[E,(by nofun)],
#[F,aa->ai->Prop],
#[G,(s.heap.objs.size+1)],
#[H,(upd (upd (upd X B (.dT [])) m (.ins ak g (ZA "stays" (.ref B) (ZA "looked" (.int 0) #[g])))) m (.ins ak g (ZA "best" .non (ZA "stays" (.ref B) (ZA "looked" (.int 0) #[g])))))],
#[I,#[ZO,‹0›]],
#[J,List (Int×Option al)],
#[K,⟨_,rfl⟩],
#[L,(by show 2<=ao;decide)],
#[M,(.ref C)],
#[N,∀vs H Q E,sp vs H Q E->vs.length=ps.length],
#[O,["_law_left_here", "_law_own", "_law_numbers", "_law_none", "_law_way_here", "_law_keys_here", "_law_place", "_law_n", "_law_ended", "_law_row_here", "_law_last"]],
#[P,["_law_left_here", "_law_own", "_law_stems_here", "_law_numbers", "_law_way_here", "_law_n", "_law_least_here", "_law_keys_here", "_law_most", "_law_key_here"]],
#[Q,List al],
#[R,al->Option aa],
#[S,List (ae×aJ)],
#[T,(·.1)],
#[U,by refine⟨λi m ys a H=>m=kvs.length-i/\i<=kvs.length/\Pv i ys a H,⟨kvs.length,by simp,Qu _,h0⟩,?_⟩;rintro i m ys a H ⟨rfl,hi,p⟩;have q:=hl i ys a H p],
#[V,(λaM f A outer s H vs Q E hr h=>?_)],
#[W,["_law_heads_here", "_law_numbers"]],
#[X,#[Zc,‹1›]],
#[Y,(ss.map V.str)],
#[Z,(.Call (.Name x p) (e::es) [] pos)],
#[10,by have e1:=Qn (wa.one B);have e2:=Qn (wb.one u);subst e1;subst e2;have e3:=Qn (oY.symm.trans G);have e4:=Qn (oZ.symm.trans D);subst e3;subst e4],
#[11,["self"]],
#[12,(.lst (ks.map V.str))],
#[13,∀b∈ch,(b∈X.ex\/X.s₀.heap.objs.size<=b)/\b≠X.env.locals/\(∀x c,X.env.cells.lookup x=U c->c≠b)/\∀p∈X.pn++ah,p.1≠b],
#[14,(mgF rd nb li lo sd a)],
#[15,(by show 0<=ao;decide)],
#[16,(Or.inr #[3])],
#[17,(U (.builtin "object.__setattr__"))],
#[18,(mgF rd nb li lo sd aC)],
#[19,(upd H c (.tup (["list", "tuple"].map V.ty)))],
#[20,(X1 X c N' C s H fp)],
#[21,(by show 3<=ao;decide)],
#[22,(ay X.prog X.w)],
#[23,∀ {x y:al} {n m:Nat},x.length<=n->y.length<=m->n+m<=10000->(x++y).length<=n+m],
#[24,["_law_left_here"]],
#[25,(upd (upd H k (.lst (d.map V.str))) p (.ins aw c (ZA "all_keys" (.ref k) [])))],
#[26,X.fn x=true\/X.env.scope.names.lookup x=U .local],
#[27,Own H o ra ga L nb li lo],
#[28,(show false=true from c)],
#[29,((env::outer).filterMap (·.frame))],
#[30,ZW cR cM H m rd sd L s nb li lo aC],
#[31,(.frz o (.dK kvs))],
#[32,(.type "BaseException")],
#[33,(.inr (.inl z))],
#[34,YF X.prog X.w X.K X.mg X.base CX k f fd ps sp],
#[35,by refine⟨_,rfl,rfl,_,rfl,YN #[t] ?_⟩],
#[36,["_law_own"]],
#[37,(Zp _)],
#[38,#[Zk,(YU K),#[5],T.b.n_len,Qr,#[Zc,‹0›]]],
#[39,List (Key×V)],
#[40,(.builtin "ValueError.__init__")],
#[41,List ZE],
#[42,(".0",.«local»)],
#[43,∀i x ys c H,xs[i]? = U x->Pv i ys c H->g x c H λd r=>j d r λb n=>if b=true then l d n λy o=>o D=U (.lst ys)/\ys.length<ao/\Pv (i+1) (ys++[y]) d (upd o D (.lst (ys++[y]))) else Pv (i+1) ys d n],
#[44,(by intro z;cases z)],
#[45,(.type "ValueError")],
#[46,by subst e;obtain⟨o,e,c,d⟩:=st;exact⟨o,e,λv z=>by rw[d]at z;cases z⟩],
#[47,["_law_script", "_law_k", "_law_left_here", "_law_rows_here", "_law_stems_here", "_law_own", "_law_merge", "_law_turn", "_law_again", "_law_ask", "_law_given", "_law_more", "_law_word", "_law_n"]],
#[48,["one", "other", "far"]],
#[49,(.Call (.Attribute o m bi) (e::es) [] pos)],
#[50,⟨_,rfl,rfl,_,rfl,YE rfl ?_⟩],
#[51,[.str "order",.int X.nb,.int 1]],
#[52,(ZY I q #[4])],
#[53,((lcp (cds i) z:Nat):Int)],
#[54,by rw[show its.toArray.any (eqU x)=its.any (eqU x) by simp,Ue r fs];exact q],
#[55,by have m:=J3 b;simp only[m];refine⟨_,rfl,_,rfl,_,rfl,a,_,rfl,c,λl d=>?_⟩;refine⟨_,rfl,_,rfl,_,rfl,a,_,rfl,(Zg d _).seq c,λr i=>⟨#[L],λt e=>?_⟩⟩;rw[J2 b _ g]at i e ⊢;rw[J1 b _ g]at e ⊢],
#[56,Mf P w K mg base 2 aw "head" #[11] (Va aw)],
#[57,(Lo.map #[T])],
#[58,by have I:ZF H #[19]:=Zg v _;refine LH (K:=K) (xs:=xs) (ys:=ys) (λi zs k a=>(X2 λJ L=>k=[U (.ref p),U (.ref t),J,L])/\zs=List.replicate i (.bl true)/\ZF H a/\a D=U (.lst zs)/\i<=xs.length) ?_ ?_ ?_ ?_],
#[59,#[ZH,Z9,#[Zo,(ixT K),‹4›,#[Zj]],#[Zo,(ixT K),‹5›,#[Zj]]]],
#[60,by simp only[List.mem_cons,List.not_mem_nil,or_false]at d],
#[61,(U (.builtin "BaseException.__getattribute__"))],
#[62,⟨h,g,d,t,os⟩],
#[63,(.builtin "getset_descriptor.__get__")],
#[64,(.builtin "type.__call__" ⟨.ref C::us,kw⟩)],
#[65,by refine aj ?_;simp only[List.zipIdx_cons,List.zipIdx_nil,List.forIn_cons,List.forIn_nil];refine aj (aj (wpAny_onRaise ?_));show au _ _ (aO.SmallTypes.nextOf (.ref i1) >>= _) _ _ _],
#[66,Df P w K mg base 5 "refuse_break" ["number", "keys"] (Td K)],
#[67,(ZA "rows" (.ref c) [])],
#[68,(.ref f.heap.objs.size)],
#[69,(((g.map V.str).length:Nat):Int)],
#[70,((lcp (cds i) (cds l):Nat):Int)],
#[71,#[Zk,(YU K),#[5],T.b.n_len,Qr,#[Zc,‹3›]]],
#[72,by show au _ _ (aO.SmallTypes.ownedTupleIsFree (.ref z) >>= _) _ _ _;unfold aO.SmallTypes.ownedTupleIsFree;refine aj (aj (aW g rfl (x:=.none) rfl (av ?_)));simp only[if_true]],
#[73,#[Zo,(ixG p),‹1›,#[Zl]]],
#[74,#[Zc,‹0›,#[Zj]]],
#[75,PA X (e::es) t],
#[76,(s.heap.push { cls:=.type "range",data:=.fields #[.int lo t,.int a u,.int 1 v] })],
#[77,by show au _ _ (if (aa.ref t == aa.none)=true then _ else _) _ _ s;rw[if_neg (show ¬ ((aa.ref t == aa.none)=true) from Qo)];show au _ _ (field (.ref it) 1 >>= _) _ _ s],
#[78,⟨_,rfl,rfl,_,rfl,YN (by intro z;injection z with z;exact absurd z #[1]) ?_⟩],
#[79,["_law_found", "_law_due"]],
#[80,(upd p l (.lst [.bl (bs0 o),.bl (bs1 o),.bl (bs2 o)]))],
#[81,(((kvM L).length:Nat):Int)],
#[82,by refine .inr ⟨⟨xs,xs[i],f,Qb q⟩,Pv (i+1),λjd aQ s t=>⟨xs.length-(i+1),by lia,rfl,q,t⟩,λx s y=>?_⟩;obtain⟨rfl,e⟩:=y;exact hs i x ys c _ (e xs f) p],
#[83,(upd G f.heap.objs.size (.lst []))],
#[84,(b9 c #[v] s.heap.objs.size X.env)],
#[85,[.inl (ZZ M).1,.inl (ZZ M).2]],
#[86,Pv 0 [] (a++List.replicate k af) (upd f D (.lst []))],
#[87,⟨by decide,by decide⟩],
#[88,by refine⟨λi m ys c H=>m=xs.length-i/\i<=xs.length/\Pv i ys c H,⟨xs.length,by simp,Qu _,h0⟩,?_⟩;rintro i m ys c H ⟨rfl,hi,p⟩;have f:=hl i ys c H p],
#[89,of_decide_eq_true d],
#[90,#[Zo,(ixG y),#[pv,1,#[16]],#[Zl]]],
#[91,by refine⟨_,rfl,_,rfl,.list (ks.map ar.str),.list (ks.map ar.str),.lst (SqL.of m8) (VR ks),.lst (SqL.of qM) (VR ks),Ve ks jl,Ve ks jl,?_⟩;rw[if_neg Qo,J4]],
#[92,(post_val_or_str ⟨Ql (Txt.slice_le z _ _) c,a⟩)],
#[93,Mf P w K mg base 13 ak "play_all" #[11] (S9 aw ak)],
#[94,(λ_ _ _ _=>(@Wv _))],
#[95,(A.deeper (envOfC c (Zh st) s.heap.objs.size f a))],
#[96,⟨_,Qt _ rfl,rfl,rfl⟩],
#[97,by rw[show ZA f v ((k,x)::r)=(if k=f then (k,v)::r else (k,x)::ZA f v r) from rfl]],
#[98,["self", "keys"]],
#[99,["one", "other"]],
#[aa,["list", "tuple"]],
#[ab,(by with_unfolding_all rfl)],
#[ad,#[Zo,(ixL K),‹0›,#[Zj]]],
#[ae,["self", "one", "other", "far"]],
#[af,(h.objs.size+1)],
#[ag,(Sum.inr.inj z)],
#[ah,["self", "n"]],
#[ai,["_law_left_here", "_law_stems_here"]],
#[aj,Wk I cR cM HB p H X Y],
#[ak,Option (ae×Int×Int)],
#[al,by rw[<- l]at G;have U:Inv X L M H { s with heap:=g }:=I.turned (t':=s.toks) (λb o f e=>(T.2 b f).trans e) q t x y A;obtain⟨o1,W,c1,Y⟩:=id G],
#[am,X.calm=true],
#[an,(λ_ _ h=>h.unwish)],
#[ao,([""]:List al)],
#[ap,(.lst [.str "b",.str "a"])],
#[aq,by rintro zs k a ⟨_,rfl,d,l,_⟩;refine⟨D,List.replicate (min xs.length ys.length) true,rfl,SqL.of (by rw[List.map_replicate];exact l),?_⟩],
#[ar,(.tup [.int (i:Int),.ref x.1])],
#[au,(h.push { cls:=.type "dict",data:=.dict #[] })],
#[av,zsc [#[42],("_law_key_here",.«local»),("_law_least_here",.free)]],
#[aw,(upd (upd H c (.lst ((i++j).map V.str))) p (.ins aw d (YV c f g)))],
#[ax,(.tup [.int (ZS (cds x) (cds y)),.int #[r],.int (#[r]-(r:Int)+1)])],
#[ay,swapsWith value (U (.Attribute o f dD)) pos.line X.env=pure false],
#[az,PyProof.Rows.KeyKind],
#[aA,(λaM f A outer s H vs Q E G h=>?_)],
#[aB,(ZQ X.prog X.w)],
#[aC,(L.map toL)],
#[aD,(.lst (c.map V.int))],
#[aE,(.lst ((ZG L).map V.int))],
#[aF,#[Zk,(YU K),#[5],T.b.n_len,Qr,#[X]]],
#[aG,#[Zi,#[Zr,#[Xv]]]],
#[aH,(.lst (x.2.map V.str))],
#[aI,List ZC],
#[aJ,Unit->ai->Prop],
#[aK,(decide_eq_true z)],
#[aL,(.ref e)],
#[aM,(λd=>?_)],
#[aN,(.ref am)],
#[aO,by have f1:=tc_lookup;have f2:=tc_bind #[M];have hT:(#[62]:ai).TypeIs #[M] "type":=⟨_,a,rfl⟩;refine wpAny_call (codeAny_of_tree ?_);show au _ _ (callAny #[M] _) _ _ _],
#[aP,(upd (upd (upd t m (.ins ak g (ZA "next_number" (.int (l.length:Int)) #[67]))) m (.ins ak g #[g])) m (.ins ak g (ZA "looked" (.int 0) #[g])))],
#[aQ,Nat->List V->L2.St->Hp->Prop],
#[aR,(backToKw pos (cc [] X.env))],
#[aS,#[Zm,YW,‹4›,#[Zj],#[37]]],
#[aT,by show au _ _ (field (.ref z) 2 >>= _) _ _ _;refine aj (aW g rfl (x:=.bool false) rfl ?_);show au _ _ (field (.ref z) 3 >>= _) _ _ _],
#[aU,["self", "row", "place"]],
#[aV,Mf P w K mg base 1 aw "to_go" #[11] (Th aw)],
#[aW,Df P w K mg base 1 "_law_halves" ["_law_numbers"] (VP K false)],
#[aX,(λw hw=>Ud b c r fs w (by simpa using hw))],
#[aY,(cds x)],
#[aZ,by simp only[Function.comp]],
#[a0,Df P w K mg base 1 "_law_alike" ["_law_one", "_law_other"] VS],
#[a1,(s.heap.update T (aJ.mapFields (·.setIfInBounds 3 aa.none)))],
#[a2,(Y3 ra ga nb li lo)],
#[a3,(Option (Int×Int))],
#[a4,(L.map #[T])],
#[a5,(.ref aq)],
#[a6,∀x,foldedSetIterable iter X.env x=pure x],
#[a7,by intro g s i H R I h;refine thn (hl g s i H _ I h) ?_;rintro v c ⟨x,j,d,k,m⟩;obtain⟨a,e,⟨xs,n⟩,q⟩:=m;subst e;cases k],
#[a8,by have U:Inv X G J H { s with heap:=g }:=I.turned (t':=s.toks) (λb o f e=>(T.2 b f).trans e) y A B C D;obtain⟨o,e,c,d⟩:=id L],
#[a9,absurd #[28] Qo],
#[ba,[g,.int (YO Lo).sum,.ref l]],
#[bb,(QB (Qw (Qm e) I.ok.above))],
#[bc,⟨_,rfl,_,rfl,e.2.1,_,rfl,.inl (SqL.of (S _ _ uh)),_,_,rfl,rfl,Zn (QA rfl),λw hw=>⟨Zn (QA rfl),λt F=>?_⟩⟩],
#[bd,List aa],
#[be,(a.length:Int)],
#[bf,(.ref aG)],
#[bg,(.ref aA)],
#[bh,by intro k' e i;obtain⟨k0,D,j,o⟩:=i.last rfl;obtain⟨l,m⟩:=f j],
#[bi,["_law_left_here", "_law_row_here", "_law_place", "_law_line", "_law_some", "_law_at", "_law_one", "_law_kinds"]],
#[bj,(i.update e λo=>{ o with dict:=U i.objs.size }).get? e=U { cls:=.ref C,dict:=U i.objs.size,data:=.fields #[q] }],
#[bk,aD [a,b] X.env=[(false,eval a X.env),(false,eval b X.env)]],
#[bl,∀ {x:al},x.length<=10000->x.length<=ao],
#[bm,Df P w K mg base 1 "_law_heads" #[36] Tf],
#[bn,#[Zk,VZ,#[5],T.b.n_len,Qr,#[Zc,‹0›]]],
#[bo,∀ {b:ae} {o:aJ},s.heap.get? b=U o->s.heap.objs.size≠b],
#[bp,X.env.scope=o],
#[bq,(hdM (bump L e.n))],
#[br,(.lst [])],
#[bs,⟨by decide,by unfold AZ cds;ac_rfl⟩],
#[bt,∀h',WQ B #[29] h'->h'.FunFrames base (env::outer)->Yh NB h' e cls dd (rawInt L)->Q () { s with heap:=h' }],
#[bu,["one", "other", "at"]],
#[bv,(cds y)],
#[bw,(by simp only[List.size_toArray]<;>lia)],
#[bx,(by show 1<=ao;decide)],
#[bz,(.lst (([g ++ "a"]:List al).map V.str))],
#[bA,((List.range i).map λj=>.int (WZ c j))],
#[bB,⟨λb o e n t hx=>?_,λb o e n t hx=>?_,I.base.free,λb o e hx=>?_,I.base.tups,I.base.frzs,I.base.tbls⟩],
#[bC,(∀s∈ss,s.length<=24/\AZ s)],
#[bD,(.cons (.str _) (.cons (.int _) (.cons (.int _) .nil)))],
#[bE,((lcp (cds l) z:Nat):Int)],
#[bF,#[.ref h.objs.size,.none,.none,.none,.bool false,.none]],
#[bG,[.str "full",.tuple #[51],.str "full"]],
#[bH,∀ {c:ae} {b:Bool},PySem.W.kitOne K #[M] (.ref c)=U b->∀u,ZI (.ref c) u->PySem.W.kitOne K #[M] u=U b],
#[bI,[-1,nb,nb+5,10 ^ 6]],
#[bJ,List (κ×V)],
#[bK,((k.toNat:Nat):Int)],
#[bL,#[Zi,#[Zr,‹2›]]],
#[bM,⟨rfl,rfl⟩],
#[bN,by rw[Se (λz=>by rw[z,A _ #[2]]at g;cases g) (λz=>by rw[w]at z;rw[A b (by have:=G b z;lia)]at g;cases g)];exact g],
#[bO,["self", "n", "keys"]],
#[bP,["_law_ask", "_law_merge", "_law_given", "_law_more"]],
#[bQ,.inr "rows"],
#[bR,(N.map V.int)],
#[bS,(.ref p)],
#[bT,(.ref f)],
#[bU,(.lst [xc,.int (YO #[aC]).sum,.ref z,.int a,.int lo])],
#[bV,(.lst (Wt.map V.str))],
#[bW,(.Raise (U (.Call (.Name x p) (e::es) [] bg)) af pos)],
#[bX,(.Name x pos)],
#[bY,(.Call (.Attribute o m bi) [] [] pos)],
#[bZ,((X.pn++ah).map #[T])],
#[b0,#[Zk,T8,#[5],T.b.n_len,Qr,#[Zc,#[I]]]],
#[b1,#[Zc,‹2›]],
#[b2,by refine⟨λi m ys a H=>m=n-i/\i<=n/\Pv i ys a H,⟨n,by simp,Qu _,h0⟩,?_⟩;rintro i m ys a H ⟨rfl,hi,p⟩],
#[b3,(XN CX0 P w K mg base N c (Zh st) f a A outer s H E)],
#[b4,⟨_,rfl,_,_,rfl,rfl,.inr (Km _),_,rfl,_,rfl,_,_,rfl,rfl,.inl #[87],_,_,rfl,rfl,#[21],λp b=>?_⟩],
#[b5,by intro ah s σ H xs us Q I r h],
#[b6,(∀b o,h.get? b=U o->h'.get? b=U o)],
#[b7,(bc bg (aD es X.env)).any #[T]=false],
#[b8,(Z0 M n)],
#[b9,["self", "meeting", "comer"]],
#[ca,Df P w K mg base 1 "halves" ["numbers"] (VP K true)],
#[cb,by intro b o e;have e1:=O b o (N b o e);rw[Zd (λz=>by subst z;exact nomatch (I b o e).symm.trans u)];exact e1],
#[cc,List (ae×List al)],
#[cd,List (List Key×V)],
#[ce,(λe=>(e.1,e.2.2))],
#[cf,(X.env.scope.kind == .class||(X.env.scope.kind == .module&&X.env.locals != X.env.globals))=false],
#[ci,["_law_left_here", "_law_row_here"]],
#[cj,Option Int],
#[ck,(x == ("__classdict__" : al))=false],
#[cl,(ns.map ar.int)],
#[cm,(excClassObj nm q C N bs (.ref B::YH) true sn sub ab bW dd k0 k1 k2 k3 k5 "ValueError.__new__")],
#[cn,(Sum.inl.inj z)],
#[co,(I.hok.fresh (Qh _))],
#[cp,(.type "type")],
#[cq,(.ref l)],
#[cr,(.builtin "isinstance")],
#[cs,#[Zk,(YU K),#[5],T.b.n_len,Qr,#[Zc,#[pv,2,#[16]]]]],
#[ct,#[ZJ,#[Zc,#[Zl],#[Zl]]]],
#[cu,by intro ah s σ H x y v u Q I a b h],
#[cx,["numbers", "n"]],
#[cy,["_law_left_here", "_law_own", "_law_stems_here"]],
#[cz,X.N[i]? = U x],
#[cA,(∃o,h'.get? e=U o/\o.cls=.type "StopIteration")],
#[cB,(by rw[e];exact True.intro)],
#[cC,(.dK (kvM L))],
#[cD,#[Zo,(ixT K),‹2›,#[Zj]]],
#[cE,#[Zo,(ixG G),‹1›,#[Zl]]],
#[cF,#[Zc,#[W6,(slL K),‹0›,(@W7 _),#[Xm,‹1›]],#[W6,(slL K),‹0›,#[Xm,‹1›],(@W7 _)]]],
#[cG,∀b u,h.get? b=U u->h'.get? b=U u],
#[cH,PySem.W.specialIn K #[A] "__get__" = U (U #[63])],
#[cI,Df P w K mg base 4 "first_break" ["keys"] (RD K)],
#[cJ,#[Zk,(WE K),#[5],T.b.n_isinstance,boot_isinstance,#[Zc,‹0›,#[XV,T.b.n_bool,boot_bool]]]],
#[cK,by refine⟨_,rfl,#[15],λz hz=>?_⟩;have sz:=Zg hz #[br]],
#[cL,(zH5 s.heap S1 S2 a b)],
#[cM,⟨λi m b H=>m=xs.length-i/\i<=xs.length/\Pv i b H,⟨xs.length,by simp,Qu _,h0⟩,?_⟩],
#[cN,⟨_,rfl,rfl,_,rfl,YN #[44] ?_⟩],
#[cO,∀b u,H b=U u->¬ MFp X b->¬ Y5 Y b->H' b=U u],
#[cP,λe:ZE=>(e.1,e.2.2)],
#[cQ,(∀s∈ss,s.length<=1000)],
#[cR,#[Zk,(WE K),#[5],T.b.n_isinstance,boot_isinstance,#[Zc,‹1›,#[XV,T.b.n_str,boot_str]]]],
#[cS,#[ZJ,#[Zc]]],
#[cT,#[Xa,(Vv K),T.b.n_list,boot_list,#[Zc,‹5›]]],
#[cU,by simp only[List.mem_cons,List.not_mem_nil,or_false]at j],
#[cV,by refine .inr ⟨⟨q,r⟩,Pv (i+1),λjd aQ t u=>⟨kvs.length-(i+1),by lia,rfl,r,u⟩,λx t y=>?_⟩],
#[cW,by obtain⟨m,b,c,L,s,nb,d,lo,e,rfl,M,q⟩:=h;refine⟨_,#[Zi,#[Zr,#[I]]],?_⟩;obtain⟨g,i⟩:=M.ob],
#[cX,[.Tuple [.Name x m,.Name y n,.Name z r] kt pt]],
#[cY,(show (aa.ref T != aa.none)=true from by simp)],
#[cZ,(hdM L)],
#[c0,(.lst ((g.take k'++zzS++g.drop k').map V.str))],
#[c1,⟨_,rfl,Y.o,Y.ra,Y.ga,_,_,_,_,rfl,M,nL,λe he=>(M.ne_l he).1,λk6 q6 D tM O b4=>?_⟩],
#[c2,by rw[Qa];exact Zn #[2]],
#[c3,(upd d p (.tup [.int i,.str y]))],
#[c4,(l.length:Int)],
#[c5,(Y.Lo.map #[T]).Pairwise (·<·)],
#[c6,#[WS,Ww,#[Zj]]],
#[c7,⟨X.m,X.rd,X.sd,a,s',X.nb,X.li+k,X.lo+q,l⟩],
#[c8,{ s with toks:=s.toks+1 }],
#[c9,[.ref d1,.ref d2,.ref d3]],
#[da,["self", "row"]],
#[db,(f.objs.size+1)],
#[dc,(e.2.2.2:Int)],
#[dd,(XN CX P w K mg base N d a f g A outer s H E)],
#[de,("rows" : al)],
#[df,#[ZV,#[Zc,#[Zl],‹7›,#[ZH,Z9,#[Zk,(YU K),#[5],T.b.n_len,Qr,#[Zc,‹9›]],#[Zj]]]]],
#[dg,(#[au].update x λo=>{ cls:=o.cls,dict:=U h.objs.size,data:=o.data,slots:=o.slots })],
#[dh,∀ys a H,Pv kvs.length ys a H->Q (.ref D) H],
#[di,by subst r hw t;obtain⟨⟨l,f⟩,g⟩:=st;obtain⟨L,n,l1⟩:=y;obtain⟨its,A,B,_⟩:=I.list n],
#[dj,by intro X hP hw hK f i ah s σ H E I g st hg;subst hP hw hK;obtain⟨J,L,⟨a,b',M⟩,N,O⟩:=st],
#[dk,decide_eq_true rfl],
#[dl,YR N N' o c],
#[dm,(λvs H Q E h=>?_)],
#[dn,(s.heap.push PySem.W.emptyDict)],
#[dp,(if ([]:List Keyword).isEmpty then 0 else 1)],
#[dq,(f.2 b (QB (Qw (Qm e) (I.ok.cab x c S hc))))],
#[dr,(by simpa using a)],
#[ds,(Yd Y.Lo B.1 ks c)],
#[dt,(.dK (Y3 F p nb (B+k+1) (g+v)))],
#[du,#[Zk,VZ,#[5],T.b.n_len,Qr,#[X]]],
#[dv,by have A:=Qn (c.one v);have B:=Qn (d.one w);subst A;subst B;rw[s]at n;cases n;rw[t]at p;cases p],
#[dw,by exact .inl ⟨⟨q,by lia⟩,hd ys a H (e ▸ p)⟩],
#[dx,(.type "object")],
#[dy,λe:ZC=>(e.n,(e.ss,e.g))],
#[dz,by rw[List.getElem?_set_ne (Ne.symm w)]at l;obtain⟨O,P,q⟩:=W j y G g l J;refine⟨O,P,?_⟩],
#[dA,by obtain⟨z,lo,i,l,g,C,D,j,m,n,E⟩:=(show Z5 X.prog X.w k c.heap d (.dK f) from A.hok d _ B)],
#[dB,Option ae],
#[dC,Df P w K mg base 5 "_law_same" #[79] (RI 4)],
#[dD,Df P w K mg base 1 "_law_least" #[W] (Rw K)],
#[dE,(λr g=>r=.ok (.ret (.bool true))/\OldK c.heap g.heap/\g.os=c.os/\AllBare g.gens)],
#[dF,(show false=true from f)],
#[dG,(.tup xs)],
#[dH,(.ins aw dp (YV e.k e.f ((e.g+1:Nat):Int)))],
#[dI,(.dK kvs)],
#[dJ,(.lst (g.map V.str))],
#[dK,(((#[ao]++e.2.2.1)).map V.str)],
#[dL,by refine⟨c.typeIs,λb q=>?_,g⟩;cases q;obtain⟨ob,_,_,h,i,_⟩:=c;exact⟨ob,h,i.2.1⟩],
#[dM,by refine aj (aj (wpAny_onRaise ?_));show au _ _ (aO.SmallTypes.nextOf (.ref i2) >>= _) _ _ _],
#[dN,absurd (Qw (Qm e) (Ql I.ok.bsz z)) (Qam _)],
#[dO,Df P w K mg base 3 "alikes" ["row"] (RH K)],
#[dP,(upd (upd H7 G (.own u)) u (.ins aw G []))],
#[dQ,(by simp at l;rcases l with h|h<;>simp[h])],
#[dR,by unfold aO.«object.__getattribute__»;refine aj (av (aj (av (aj (i.at (aj (j.at ?_)))))))],
#[dS,h.get? C=U (excClassObj nm q C N bs bm true sn sub ab bW dd k0 k1 k2 k3 k5 bE)],
#[dT,["_law_left_here", "_law_row_here", "_law_keys_here", "_law_k", "_law_places"]],
#[dU,[.ref n,.ref r,.ref d,.ref g]],
#[dV,["_law_cell", "_law_k"]],
#[dW,Int×Int],
#[dX,HOk P w H h],
#[dY,G.mg.keep λb u i bS=>J b u i (G.nO i bS)],
#[dZ,A.frames=U (env::outer)],
#[d0,.inr "number"],
#[d1,(·.setIfInBounds 1 (aa.ref c.objs.size))],
#[d2,(kvs.any λa=>decide (a.1=k))],
#[d3,(k == aN.free)],
#[d4,(eval o X.env)],
#[d5,(e.1,e.2.2.1[e.2.2.2]?)],
#[d6,(ZP 8 (ZG L) e.n)],
#[d7,(.type "list")],
#[d8,(.tup [kV t.2.1,t.2.2])],
#[d9,(.ref s.heap.objs.size)],
#[ea,(.ListComp gI [⟨tg,iter,fK,0⟩] c pos)],
#[eb,#[ZJ,#[Zc,#[Zl]]]],
#[ec,(by rw[Qa];exact Zn #[2])],
#[ed,V->Option Int->Option Int->Int->Hp->VK->Prop],
#[ee,a_,b_,c_,d_,by refine a_ b_ #[E] (λaM f A outer s H c_ Q E d_ h=>?_)],
#[ef,a_,b_,(λaM f A outer s H a_ Q E b_ h=>?_)],
#[eg,a_,b_,c_,#[Zz,#[ZD,a_,b_,#[3]],#[Zz,#[ZD,c_,b_,#[3]],(@Yg _)]]],
#[eh,a_,b_,#[Zk,(isX K),#[5],T.b.n_isinstance,boot_isinstance,#[Zc,‹a_›,#[WC,b_]]]],
#[ei,a_,b_,(by rw[a_];exact b_)],
#[ej,a_,b_,c_,d_,#[Zk,(a_ K),#[5],T.b.n_isinstance,boot_isinstance,#[Zc,‹b_›,#[XV,c_,d_]]]],
#[ek,a_,b_,c_,#[Zm,a_,‹b_›,c_,#[37]]],
#[el,a_,(by simpa using a_)],
#[em,a_,b_,c_,d_,Df P w K mg base a_ b_ c_ d_],
#[en,a_,b_,c_,by obtain⟨a_,b_,rfl⟩:=Qq.mp c_],
#[eo,a_,b_,c_,(thn (a_ b_ s c_ H _ I h) ?_)],
#[ep,a_,b_,c_,by obtain⟨a_,b_⟩:=c_],
#[eq,a_,b_,#[Zo,(ixG a_),‹b_›,#[Zl]]],
#[er,a_,PySem.W.nsIn K aL a_ = U af],
#[es,a_,b_,#[Zc,‹a_›,‹b_›]],
#[et,a_,b_,c_,d_,#[Zx,a_,b_,#[Zc,‹c_›,‹d_›],#[5]]],
#[eu,a_,(.lst (a_ V.str))],
#[ev,a_,b_,c_,d_,Mf P w K mg base a_ ak b_ c_ (d_ aw ak)],
#[ew,a_,b_,c_,d_,by have a_:(upd b_ c_ d_) c_=U d_:=Zb],
#[ex,a_,b_,c_,d_,by rw[a_]at b_;cases b_;have c_:i<d_:=(Qe.mp a_).1],
#[ey,a_,b_,PySem.W.subIn K a_ b_=U true],
#[ez,a_,b_,by have a_:=b_ T (P:=P) (w:=w) (base:=base)],
#[eA,a_,b_,c_,d_,e_,∀ (a_:aF) (t:ae×List Key),(∀b o,b_ b=U o->c_ b=U o)->t∈d_->(∀u∈d_,YB u.2 t.2=false)->R (.ok (.ret (.ref t.1))) { e_ with heap:=a_ }],
#[eB,a_,a_ T (P:=P) (w:=w) (base:=base)],
#[eC,a_,b_,#[YI,a_,T.cl_Merge,b_,‹0›]],
#[eD,a_,b_,by obtain⟨a_,rfl⟩:=b_],
#[eE,a_,b_,c_,(show ∃t,u=a_ b_ t from c_)],
#[eF,a_,by refine Y1 (λa_=>?_) (λa_=>?_)],
#[eG,a_,b_,c_,by refine⟨_,rfl,_,rfl,a_,rfl,Yu b_,_,_,rfl,rfl,_,rfl,?_⟩;refine Y1 (λc_=>?_) (λc_=>?_)],
#[eH,a_,b_,(λa A outer s H vs Q E a_ h=>b_ a f A outer s H vs Q E a_ h)],
#[eI,a_,b_,c_,by exact⟨_,a_,λb_ c_=>by cases c_⟩],
#[eJ,a_,b_,(by rw[<- a_];exact b_)],
#[eK,a_,b_,#[Zo,(a_ K),‹b_›,#[Zj]]],
#[eL,a_,b_,PySem.W.findIn K (.ref a_) b_ = U af],
#[eM,a_,b_,PySem.W.subIn K a_ b_=U false],
#[eN,a_,b_,c_,⟨_,a_,λb_ c_=>by cases c_⟩],
#[eO,a_,b_,c_,by rw[a_,b_]at c_;cases c_],
#[eP,a_,b_,(λa_ b_=>by cases b_)],
#[eQ,a_,b_,c_,by refine YY ⟨_,rfl,?_⟩;have a_:¬ (k:Int)<(b_:Int):=of_decide_eq_false (Qag.mpr c_)],
#[eR,a_,b_,c_,(by rw[a_];exact b_ c_)],
#[eS,a_,b_,#[Xci,K,a_,b_]],
#[eT,a_,X.env.scope.names.lookup a_=U .local],
#[eU,a_,b_,c_,d_,e_,(PySem.W.fnOf x a_ (Zv st) (Zq st) (Zh st) .none kV b_ c_ d_ e_ ct)],
#[eV,a_,b_,c_,by obtain⟨its,r,a,e⟩:=a_ hq;refine b_ (eqU x) c_ #[aX] ⟨.bl _,H,I,rfl,?_⟩;show#[54]],
#[eW,a_,λc H R=>b c H λx a=>X2 λd kvs=>x=.ref d/\a d=U #[dI]/\∀o,R (a_ d o kvs) (upd a d #[31])],
#[eX,a_,(But.same a_)],
#[eY,a_,b_,(λ_ _ _ _=>#[cg,a_,b_])],
#[eZ,a_,congrArg List.length a_],
#[e0,a_,(.builtin a_)],
#[e1,a_,by rw[Zd (λz=>by rw[z,a_]at this;cases this)];exact this],
#[e2,a_,b_,c_,(∀b o,a_ b=U o->b≠b_->c_ b=U o)],
#[e3,a_,b_,c_,(∀b o,a_ b=U o->b≠m->b≠b_->c_ b=U o)],
#[e4,a_,b_,by refine⟨a_,_,rfl,SqT.of b_,rfl,_,_,rfl,_,_,rfl,rfl,?_⟩],
#[e5,a_,b_,⟨a_,_,rfl,SqT.of b_,rfl,_,_,rfl,_,_,rfl,rfl,?_⟩],
#[e6,a_,b_,Pv 0 [] (a_++List.replicate k af) (upd b_ D #[br])],
#[e7,a_,b_,(by show a_<=b_;decide)],
#[e8,a_,b_,c_,by intro a_ s b_ H c_ I h],
#[e9,a_,by obtain⟨u,rfl,a_⟩:=Xb r;cases a_],
#[fa,a_,b_,(.lst ((a_ b_ n).map V.int))],
#[fb,a_,#[Zi,#[Zr,‹a_›]]],
#[fc,a_,b_,c_,d_,∀b a_,b_ b=U c_->d_ b=U c_],
#[fd,a_,aD [a_] X.env=[(false,eval a_ X.env)]],
#[fe,a_,b_,c_,by rw[a_]at b_;cases c_],
#[ff,a_,b_,PySem.W.findIn K a_ "__init__" = U (U b_)],
#[fg,a_,∀a_ s',XE X E a_ s'->X.xe a_ s'],
#[fh,a_,b_,c_,d_,∀b a_,b_ b=U a_->b≠c_->d_ b=U a_],
#[fi,a_,b_,c_,by obtain⟨its,r,a,e⟩:=a_ hq;refine b_ (eqU x) c_ #[aX] ⟨.bl _,H,I,rfl,?_⟩],
#[fj,a_,b_,(((a_ b_).length:Nat):Int)],
#[fk,a_,PySem.W.hasDictIn K a_=true],
#[fl,a_,b_,c_,d_,(upd (upd a_ b_ (.own c_)) c_ (.ins d_ b_ []))],
#[fm,a_,⟨rfl,_,SqL.of a_⟩],
#[fn,a_,(A.deeper (envOfC a_ (Zh st) s.heap.objs.size f a))],
#[fo,a_,(c.heap.push { cls:=.type a_,data:=.fields #[.ref d] })],
#[fp,a_,b_,#[Xns,K,a_,b_]],
#[fq,a_,b_,(∀s∈a_,s.length<=b_/\AZ s)],
#[fr,a_,b_,(ha pos a_ s b_ H _ I h)],
#[fs,a_,b_,c_,(show Z5 X.prog X.w H s.heap a_ (.dK b_) from I.hok a_ _ c_)],
#[ft,a_,by exact nomatch hw.one a_],
#[fu,a_,(∀b u,H b=U u->¬ MFp X b->¬ Y5 Y b->a_ b=U u)],
#[fv,a_,(.lst (a_ λt=>V.ref t.1))],
#[fw,a_,b_,c_,d_,e_,∀b a_,b_ b=U a_->¬ c_ d_ b->e_ b=U a_],
#[fx,a_,b_,c_,#[Zx,a_,b_,c_,#[5]]],
#[fy,a_,b_,c_,d_,(λa_ o b_ e=>c_ a_ o d_ e)],
#[fz,a_,b_,by rw[a_,b_]at this;exact this],
#[fA,a_,b_,c_,d_,by obtain⟨a_,b_,rfl,c_,d_,q⟩:=h],
#[fB,a_,b_,c_,d_,e_,by rw[Qd];refine Qbc.mpr ⟨a_,by simp,λb_ c_ d_ e_=>?_⟩;show#[en,e,he,c_]],
#[fC,a_,PySem.W.findIn K a_ "__getattribute__" = U #[61]],
#[fD,a_,#[pv,a_,#[16]]],
#[fE,a_,b_,c_,d_,#[gT,K,3,#[Zz,#[ZD,a_,b_,#[3]],#[eg,c_,b_,d_]]]],
#[fF,a_,b_,c_,(thn (a_ b_ s b H _ I h) λu g ⟨y,i,j,k,c_⟩=>thn (ha b_ g b i _ j c_) ?_)],
#[fG,a_,b_,∀t∈a_,∃its:List aa,ZK (t.2.map kV) its/\IsTup b_ t.1 its.toArray],
#[fH,a_,b_,by refine⟨_,rfl,m,ak,a_,_,rfl,b_,T.cl_Merge,T.na_Merge_best,V4 ..,?_⟩;rw[Rk]],
#[fI,a_,⟨λh z=>h (by show (Sum.inl a_:Key)=_;rw[z]),λh z=>h #[cn]⟩],
#[fJ,a_,b_,[.ref a_,.ref b_]],
#[fK,a_,nomatch hw.one a_],
#[fL,a_,b_,c_,d_,e_,by have a_:=Zg b_ (.dK []);have c_:(upd d_ e_ (.dK [])) e_=U (.dK []):=Zb],
#[fM,a_,b_,c_,d_,#[Zo,(ixG a_),#[Zo,(ixG a_),#[cv,b_,c_],#[Zl]],#[cw,d_,c_]]],
#[fN,a_,b_,c_,#[Zo,(ixG a_),b_,‹c_›]],
#[fO,a_,(a_ λt=>V.ref t.1)],
#[fP,a_,b_,c_,by refine⟨_,rfl,a_,λb_ c_=>?_⟩],
#[fQ,a_,b_,c_,by have a1:(al.empty++(a_ : al)).length<=0+b_:=z #[6] #[6] #[6];have a2:=z a1 c_ #[6]],
#[fR,a_,b_,c_,d_,by obtain⟨its,a_,b_,c_⟩:=I.list d_],
#[fS,a_,b_,c_,d_,by obtain⟨a,b,a_,b_⟩:=c_;exact⟨a,b,by rw[Zd d_];exact a_,b_⟩],
#[fT,a_,(a_ N).length<=2 ^ (n-1)/\(a_ N).length<=60],
#[fU,a_,PySem.W.findIn K a_ "__class__" = U (U #[A])],
#[fV,a_,b_,(SqL.of (a_ _ _ b_))],
#[fW,a_,b_,#[Zm,#[neD,K,a_],‹b_›,#[cS],#[37]]],
#[fX,a_,b_,by exact(a_ e b_).keep (Zd a.symm) (Zd b.symm) (Zd c.symm)],
#[fY,a_,((a_:Nat):Int)],
#[fZ,a_,PySem.W.findIn K a_ "__setattr__" = U #[17]],
#[f0,a_,b_,c_,(upd a_ D (.lst (b_++[c_])))],
#[f1,a_,b_,#[Zm,a_,#[Zo,Vz,‹0›,‹b_›],#[Zo,Vz,‹1›,‹b_›],#[37]]],
#[f2,a_,b_,c_,d_,#[Zx,a_,b_,#[Zc,‹c_›,d_],#[5]]],
#[f3,a_,b_,c_,⟨_,rfl,m,ak,dx,_,_,rfl,a_,T.cl_Merge,b_,c_ ..,_,_,rfl,rfl,dx,_,a_,V4 ..,?_⟩],
#[f4,a_,b_,#[ep,a_,b_,M.ob]],
#[f5,a_,b_,∀ys a_ H,Pv b_ ys a_ H->Q (.ref D) H],
#[f6,a_,b_,c_,d_,by refine⟨_,rfl,m,ak,dx,_,_,rfl,a_,T.cl_Merge,b_,c_ ..,_,_,rfl,rfl,dx,_,a_,V4 ..,?_⟩;rw[d_]],
#[f7,a_,b_,⟨_,rfl,m,ak,a_,_,rfl,b_,T.cl_Merge,T.na_Merge_best,V4 ..,?_⟩],
#[f8,a_,b_,c_,d_,(ZL (st:=a_) b_ c_ d_)],
#[f9,a_,b_,c_,#[Zo,(ixG a_),‹b_›,‹c_›]],
#[ga,a_,b_,c_,#[Zc,‹a_›,‹b_›,‹c_›]],
#[gb,a_,b_,c_,d_,#[Zw,a_,b_,#[3],#[Zo,(ixL K),‹3›,#[Zx,c_,d_,#[Zc,‹0›,#[71]],#[5]]]]],
#[gc,a_,b_,c_,by refine⟨_,rfl,m,ak,dx,_,_,rfl,a_,T.cl_Merge,b_,c_ ..,_,_,rfl,rfl,dx,_,a_,V4 ..,?_⟩],
#[gd,a_,(envOfC a_ (Zh st) s.heap.objs.size f a)],
#[ge,a_,((a_+1:Nat):Int)],
#[gf,a_,b_,c_,d_,e_,by refine Qbc.mpr ⟨a_,by simp,λb_ c_ d_ e_=>?_⟩;show#[en,e,he,c_]],
#[gg,a_,b_,c_,d_,#[Zz,#[ZD,a_,b_,#[3]],#[eg,c_,b_,d_]]],
#[gh,a_,b_,by refine⟨_,rfl,m,ak,a_,_,rfl,b_,T.cl_Merge,T.na_Merge_best,V4 ..,?_⟩],
#[gi,a_,b_,c_,⟨_,rfl,a_,λb_ c_=>?_⟩],
#[gj,a_,b_,(a_ (b_ (Yy Z6)))],
#[gk,a_,b_,⟨a_,g,d,b_,os⟩],
#[gl,a_,b_,c_,zsc [#[42],(a_,.«local»),(b_,.globalImplicit),(c_,.free)]],
#[gm,a_,b_,by show#[ep,a_,b_,M.ob]],
#[gn,a_,b_,c_,by obtain⟨a_,g,d,b_,os⟩:=c_],
#[go,a_,PySem.W.mroIn K a_ #[dx]=U true],
#[gp,a_,h.get? e=U { cls:=.ref C,dict:=a_,data:=.fields #[q] }],
#[gq,a_,b_,c_,d_,e_,by have a_:atI [V.int b_,.int c_] ((d_:Nat):Int)=U (.int e_):=Yo rfl],
#[gr,a_,b_,c_,#[Zx,a_,b_,#[Zc,‹c_›],#[5]]],
#[gs,a_,PySem.W.findIn K a_ "__getattr__" = U af],
#[gt,a_,b_,c_,d_,e_,(thn (ha a_ b_ s c_ H _ I h) λd_ e_ a=>?_)],
#[gu,a_,(a_,.«local»)],
#[gv,a_,b_,(lcp (cds a_) (cds b_):Nat)],
#[gw,a_,b_,(.lst ((a_++b_).map V.str))],
#[gx,a_,b_,c_,d_,by intro ah s σ H x a_ v b_ Q I c_ d_ h],
#[gy,a_,b_,c_,hdS (a_ (b_ (c_ Z6)))],
#[gz,a_,#[ek,XR,a_,#[ZU]]],
#[gA,a_,b_,⟨a_,_,rfl,SqT.of b_,rfl,_,_,rfl,_,_,rfl,_,_,rfl,rfl,?_⟩],
#[gB,a_,b_,c_,ZW a_ b_ H m rd sd L s nb li lo c_],
#[gC,a_,bo o a_ X.env #[d4]=eval o X.env],
#[gD,a_,b_,c_,⟨a,b,by rw[Zd a_];exact b_,c_⟩],
#[gE,a_,b_,#[Zo,(ixL K),‹3›,#[Zx,a_,b_,#[Zc,‹0›,#[71]],#[5]]]],
#[gF,a_,b_,⟨_,rfl,a_,_,rfl,.inl (SqL.of b_),_,_,rfl,rfl,_,rfl,?_⟩],
#[gG,a_,(λz=>a_ (.inl z))],
#[gH,a_,b_,PySem.W.subIn K a_ (.ref b_)=U true],
#[gI,a_,b_,a_ X.prog X.w X.K X.mg X.base k C b_ ps sp],
#[gJ,a_,b_,by refine⟨a_,_,rfl,SqT.of b_,rfl,_,_,rfl,_,_,rfl,_,_,rfl,rfl,?_⟩],
#[gK,a_,(.tup [.int (ZZ a_).1,.int (ZZ a_).2])],
#[gL,a_,PySem.W.isClsIn K a_=true],
#[gM,a_,b_,c_,d_,e_,by obtain⟨a_,q',N,bs,b_,sub,c_,d_,dq,k0,k1,k2,k3,k5,e_⟩:=M.obj],
#[gN,a_,by exact Q6 a_ I.kIn True.intro f e #[t] c],
#[gO,a_,b_,[.int a_,.int b_]],
#[gP,a_,b_,c_,d_,e_,by rintro u a_ ⟨x,b_,c_,d_,a,dx,fs,ex,e_,l,q⟩;subst ex;obtain rfl:u=aa.ref a:=d_],
#[gQ,a_,b_,c_,d_,(.ListComp a_ [⟨b_,iter,c_,0⟩] d_ pos)],
#[gR,a_,(.lst ((a_ k').map V.str))],
#[gS,a_,b_,((lcp a_ b_:Nat):Int)],
#[gU,a_,(.lst [.str a_])],
#[gV,a_,Q6 a_ I.kIn True.intro f e #[t] c],
#[gW,a_,b_,c_,∀C s H fp,a_ #[20] b_ c_],
#[gX,a_,(by show a_<=_;rw[aP];decide)],
#[gY,a_,b_,Inv X a_ b_ H s],
#[gZ,a_,by exact nomatch z.one a_],
#[g0,a_,b_,((a_ : al) = b_)],
#[g1,a_,by simp only[List.mem_cons,List.not_mem_nil,or_false]at a_],
#[g2,a_,b_,c_,d_,by rw[a_ (λb_=>by rw[b_,c_]at d_;cases d_)];exact d_],
#[g3,a_,b_,c_,d_,e_,by subst a_;cases (show u=aa.ref b from b_);obtain⟨z,c_,d_,c,e_⟩:=UP I.hok e],
#[g4,a_,b_,(.inr (.inr (.inr ⟨a_,b_,.inl z⟩)))],
#[g5,a_,b_,c_,⟨SA aw ak a p r l (0+(ii:Int)) HB (I21 a_) (b_+c_),?_,?_⟩],
#[g6,a_,b_,(a_ b_=U .cell\/a_ b_=U .free)],
#[g7,a_,b_,c_,by refine⟨a_,λb_ c_=>?_⟩],
#[g8,a_,b_,(.tup [.int a_,.int b_])],
#[g9,a_,b_,.inl (.inr (.inr (.inr ⟨a_,b_,z⟩)))],
#[ha,a_,by exact QX a_ I.kIn True.intro e #[t] h],
#[hb,a_,b_,by exact .inl (.inr (.inr (.inr ⟨a_,b_,z⟩)))],
#[hc,a_,b_,c_,d_,e_,by obtain⟨z,a_,b_,c_,d_⟩:=e_ I.hok e],
#[hd,a_,b_,c_,d_,e_,(upd (upd a_ b_ (.dK (kvR (XT c_ d_)))) e_ (.dK (kvG (XT c_ d_))))],
#[he,a_,b_,c_,by refine⟨SA aw ak a p r l (0+(ii:Int)) HB (I21 a_) (b_+c_),?_,?_⟩],
#[hf,a_,b_,(.Attribute o a_ b_)],
#[hg,a_,b_,(by rw[<- a_];exact Qg (f:=λx:ae×Key×V=>x.1) b_)],
#[hh,a_,b_,by rw[a_]at this;exact absurd this (Qa1.mpr b_)],
#[hi,a_,["self", a_]],
#[hj,a_,(by rw[Qp,Qb a_]<;>rfl)],
#[hk,a_,b_,c_,(.tup [.str a_,.int b_,.ref c_])],
#[hl,a_,b_,c_,(∀a_ b_,N a_ b_->∃c_,c_<m/\W (i+1) c_ a_ b_)],
#[hm,a_,List (al×a_)],
#[hn,a_,#[cL].get? (a_ s.heap S1 S2 a b).objs.size=U _],
#[ho,a_,⟨_,rfl,rfl,_,rfl,Y1 (λa_=>?_) (λa_=>?_)⟩],
#[hp,a_,b_,c_,(.inr (.inr ⟨a_,b_,c_⟩))],
#[hq,a_,[.str "full",.ref a_,.str "full"]],
#[hr,a_,b_,(a_ s.heap S1 S2 a b).objs.size=s.heap.objs.size+b_],
#[hs,a_,b_,c_,(.inr (.inr (.inr ⟨a_,b_,c_⟩)))],
#[ht,a_,by exact .inr #[ei,z,a_]],
#[hu,a_,b_,c_,d_,∀a_ b_,a_≠c_->d_ a_=U b_->h'.get? a_=U b_],
#[hv,a_,b_,c_,(∀ (s:ai) (a_:aa),BindsTo s b_ ⟨[a_],[]⟩ [(c_,a_)])],
#[hw,a_,b_,c_,d_,by cases (show u=aa.ref b from a_);obtain⟨z,b_,c_,c,d_⟩:=UP I.hok e],
#[hx,a_,b_,c_,(XN (CX1 P w) P w K mg base N a_ b_ f c_ A outer s H E)],
#[hy,a_,b_,c_,d_,e_,by have a_:atI [V.int b_,.int c_] d_=U (.int e_):=Yo (j:=d_) rfl],
#[hz,a_,b_,c_,by subst a_;show#[fe,b_,c_,c_]],
#[hA,a_,b_,c_,by obtain⟨a_,b_⟩:=I.base.there b o e c_],
#[hB,a_,b_,(S1.at_keep (λo e=>a_ _ o D.i1z e) b_)],
#[hC,a_,b_,a_ l (b_ λt=>aa.ref t.1).toArray],
#[hD,a_,by rw[z,a_]at this;cases this],
#[hE,a_,nomatch z.one a_],
#[hF,a_,b_,#[Xfi,K,ak,a_,b_]],
#[hG,a_,b_,(SqL a_ H p b_\/SqT a_ H p b_)],
#[hH,a_,b_,by exact .inl ⟨⟨xs,a_,by lia⟩,hd ys b_ H (e ▸ p)⟩],
#[hI,a_,by have hb:(g == a_)=false:=beq_eq_false_iff_ne.mpr h],
#[hJ,a_,(.inr (.inl a_))],
#[hK,a_,b_,#[ZX,#[Xl,QR,Q9,Qaa,Vy,‹a_›,#[Zc,‹b_›]]]],
#[hL,a_,b_,c_,by unfold Xr at h1;obtain⟨a_,b_,c_⟩:=Qq.mp h1;have:=Qar.mp b_],
#[hM,a_,b_,(.tup [.str "order",.int a_,.int b_])],
#[hN,a_,(a_ λt=>aa.ref t.1)],
#[hO,a_,(.lst (a_ V.int))],
#[hP,a_,(λz=>a_ #[ag])],
#[hQ,a_,["_law_left_here", a_]],
#[hR,a_,by rw[this]at a_;cases a_],
#[hS,a_,b_,c_,(upd a_ b_ (.lst c_))],
#[hT,a_,b_,#[ZH,a_,‹b_›,#[Zj]]],
#[hU,a_,b_,c_,d_,by obtain⟨a_,b_,c_⟩:=d_],
#[hV,a_,b_,c_,{ a_ with heap:=b_ { cls:=.type c_,data:=.fields #[.ref d] } }],
#[hW,a_,a_ tm=U (.tup ((#[85]:List Key).map kV))],
#[hX,a_,(eval a_ X.env)],
#[hY,a_,b_,c_,#[Zw,a_,b_,#[3],‹c_›]],
#[hZ,a_,#[fx,aK,a_,#[74]]],
#[h0,a_,b_,#[Yq,‹a_›,#[Zl],(XZ b_)]],
#[h1,a_,b_,c_,d_,by show#[ep,a_,b_,c_];show#[eO,z,b_,d_]],
#[h2,a_,b_,c_,#[Yq,a_,‹b_›,(XZ c_)]],
#[h3,a_,a_ X.env.scope x],
#[h4,a_,(.type a_)],
#[h5,a_,(by rw[a_];lia)],
#[h6,a_,b_,#[Zm,a_,b_,#[Zj],#[37]]],
#[h7,a_,b_,c_,(a_ b_ s c_ H _ I h)],
#[h8,a_,b_,c_,d_,(upd a_ b_ (c_ b_ C d_))],
#[h9,a_,b_,⟨a_,rfl,⟨_,SqL.of b_⟩,?_⟩],
#[ia,a_,b_,by rw[if_neg a_,if_neg b_]],
#[ib,a_,b_,c_,d_,e_,by show#[e8,a_,b_,Q];refine ba (WH I c_ d_ ?_ e_)],
#[ic,a_,b_,c_,by have a_:(k:Int)<(b_:Int):=of_decide_eq_true c_],
#[id,a_,#[iE,K,T.b.n_enumerate,#[Zc,‹a_›]]],
#[ie,a_,b_,by refine⟨a_,rfl,⟨_,SqL.of b_⟩,?_⟩],
#[ig,a_,b_,c_,d_,by have a_:=z b_ (show (c_ : al).length<=d_ by decide) #[6]],
#[ih,a_,b_,c_,by obtain⟨m,⟨o,_,_,a_,_⟩,_⟩:=b_;exact c_ _ _ a_ z.symm],
#[ii,a_,b_,c_,d_,e_,by have a_:b_≠c_:=(Zf d_ e_).symm],
#[ij,a_,b_,by have:=a_;rw[<- z2,z,b_]at this;cases this],
#[ik,a_,b_,{ a_ with heap:=b_ }],
#[il,a_,by obtain⟨o,A,e,_⟩:=Src.at_obj a_],
#[im,a_,b_,(upd a_ e (exN e C (U b_)))],
#[io,a_,b_,by rw[if_pos a_,if_pos b_]],
#[ip,by refine codeAny_builtin F.entry_min_loop ?_;show au _ _ (seqItems? (.ref S) >>= _) _ _ _],
#[iq,by show#[b5];obtain⟨i,j,rfl,q⟩:=h;obtain⟨u,w',rfl,⟨t,rfl⟩,⟨t',rfl⟩⟩:=Sy r],
#[ir,Zu N ps (Zh st)],
#[it,A.handled=af],
#[iu,(ss.map ar.str)],
#[iv,(show False from r)],
#[iw,(by rcases bS with z|z|z<;>rw[z];exact n1.symm;exact n2.symm;exact n3.symm)],
#[ix,(K w.params)],
#[iy,(I.ok.hd hc)],
#[iz,(#[aa].map aa.type)],
#[iA,List Nat],
#[iB,(.ref a)],
#[iC,⟨by ac_rfl,by unfold AZ cds;ac_rfl⟩],
#[iD,by show#[ep,y,A,x];obtain⟨B,f,C⟩:=I.dictF y hd;have n:kvs.length=B.length:=f.length],
#[iF,by obtain⟨y,A,S,B,C,D⟩:=j it #[4]],
#[iG,e ∉ (env::outer).filterMap (·.frame)],
#[iH,[λv=>bindName X.env z v,λv=>bindName X.env y v,λv=>bindName X.env x v]],
#[iI,["_law_merge", "_law_own", "_law_deed"]],
#[iJ,V->Option Int->Option Int->Hp->VK->Prop],
#[iK,(.cons (WJ _) (.cons (WJ _) (.cons (U5 (.inr (.inr (.inr #[K])))) .nil)))],
#[iM,(.Assign [.Attribute o f dD] value pos)],
#[iN,((Wh i 4).map ar.bool)],
#[iO,((#[bR].length:Nat):Int)=(N.length:Int)],
#[iP,by rw[Zd (Zf this hu),Zd (Zf this nB)];exact this],
#[iQ,(∀c o,c≠z->c≠TO->c≠i1->c≠i2->s.heap.get? c=U o->h'.get? c=U o)],
#[iR,(λxs H Q=>X2 λa kvs=>xs=[V.ref a]/\H a=U #[dI]/\Q (.int kvs.length) H)],
#[iS,(λT=>NB X.s₀.heap.objs.size H #[bZ] T/\(hideAll s.heap ch).get? T=af)],
#[iT,by obtain⟨fW,r1,m1,f1⟩:=I.src B;obtain⟨gr,r2,m2,f2⟩:=I.src C;have T:=g z #[4]],
#[iU,["number", "keys"]],
#[iV,(Sum.inl:Int->Key)],
#[iW,(upd (upd H f A) r B)],
#[iX,(X.nb,c,ks,0)],
#[iY,["_law_numbers", "_law_n"]],
#[iZ,([("all_keys",.ref k),("fars",.ref f),("gone",.int g)]:List (al×V))],
#[i0,(Or.inr rfl)],
#[i1,(EP X a b Q)],
#[i2,(E.map #[T])],
#[i3,(.inl e.1:Key)],
#[i4,∀i ys a H,Pv i ys a H->H d=U #[31]],
#[i5,by rw[exec_Assign_arm];refine aj (bw ?_);rw[hs];refine aj (av ?_);rw[if_neg #[6]]],
#[i6,[.Tuple [.Name x g,.Name y k] kt pt]],
#[i7,(f.heap.push { cls:=.type "list",data:=.seq ([]:List aa).toArray })],
#[i8,(.ins ak dx (mgF j nb (l+1) lo B p))],
#[i9,⟨C,h,T,i,j,a1,a2,a3,a4,a5,a6,a7,a8,a9,a10,hideAll_none _ #[4]⟩],
#[ja,g.get? S=U { cls:=.type "list",data:=.seq #[.ref t.1,.ref t.1] c }],
#[jb,by obtain⟨g,d,r⟩:=e.get b;rw[show its[k]? = U u from f]at d;cases d;exact r],
#[jc,decide_eq_false #[2]],
#[jd,["_law_script", "_law_k"]],
#[je,List (ae×Key×V)],
#[jf,2<=M.length],
#[jg,(λy=>if y=name then U v else mA y)],
#[jh,(tupleKind (ZQ P w))],
#[ji,(YV k f g)],
#[jj,(YL Lo e.1)],
#[jk,(PB ha hb I h λv u f x y g i j k q=>c d f e g x y v u Q i j k q)],
#[jl,(N'.length-N.length)],
#[jm,(L++[⟨nb,u,k,f,j,0⟩])],
#[jn,(.tup [.int e.1,.int #[dc],.str z])],
#[jo,(.lst ((g.take k'++zzS).map V.str))],
#[jp,(.lst #[Y])],
#[jq,(.call (.ref fa) ⟨[.ref a],[]⟩)],
#[jr,#[Ze,#[XY],#[Ze,#[XY],#[Zi,#[XY]]]]],
#[js,by simp only[List.length_map];rw[if_neg #[2]]],
#[jt,by refine Calls.callWith_builtin rfl (QaU ?_)],
#[ju,s.heap.FunFrames base (env::outer)],
#[jv,(seqObj "list" g.toList.toArray 0)],
#[jw,(@U1 _ _ _ _ _ #[XQ,(@eqD _ K _ p #[5]),‹5›,‹6›,#[37]])],
#[jx,(.lst (e.2.2.1.map V.str++[.non]))],
#[jy,(L++[((i:Int),c,x.2,0)])],
#[jz,(.ref t)],
#[jA,(.lst (#[ao].map V.str))],
#[jB,⟨_,rfl,_,rfl,y,rfl,Yu i,rfl,_,rfl,Y1 (λc=>?_) (λc=>?_)⟩],
#[jC,False.elim a],
#[jD,(thn #[fr,a,b] λk l ⟨m,n,o,q,u⟩=>hc a l b n m k Q o q u)],
#[jE,(envOfC a b s.heap.objs.size f c)],
#[jF,(.Call (.Attribute (.Name x p) "__init__" bi) (e::es) [] pos)],
#[jG,by have R:MOk aw ak D X:=#[dY];have jG:=J _ _ gc zg;show#[ep,jK,iS,R.M.ob]],
#[jH,.inr "likenings"],
#[jI,(ZP 8 N n)],
#[jJ,(Qh _)],
#[jK,(.list [])],
#[jL,⟨_,rfl,rfl,_,rfl,Vd #[t] ?_⟩],
#[jM,by simp only[be,HT.sIx,Option.getD_none,show (1:Int)>0 by decide,if_true]],
#[jN,[.ref p]],
#[jO,YF X.prog X.w X.K X.mg X.base (CX1 X.prog X.w) k f fd ps sp],
#[jP,V->List V->Hp->VK->Prop],
#[jQ,Ti _ _ _ #[1] #[1] #[1]],
#[jR,List (List Key×ae×aa)],
#[jS,(bi.endLine == bg.line)],
#[jT,(SqL.of Zb)],
#[jU,(List.replicate (min xs.length ys.length) true).all id=true],
#[jV,(.ref r)],
#[jW,(.lst (#[ba]++[.int a,.int lo]))],
#[jX,(.builtin "min.loop" { pos:=[.ref I,.none,.ref S],kw:=kw })],
#[jY,⟨o,_,_,rfl,rfl,by rw[Zd (Zf F l)];exact F,aX,_,rfl,?_⟩],
#[jZ,⟨l2,_,_,_,rfl,rfl,SqL.of Zb,rfl,q _ _ (S.trans G) rfl⟩],
#[j0,∀b o,s.heap.get? b=U o->(∀g,o.data≠.fields g)->b≠T],
#[j1,(XN (CX1 P w) P w K mg base N b (Zh st) f a A outer s H E)],
#[j2,#[Zm,Px,#[b0],(@Lc _ _ _ _ T.g_MOST_ROWS #[5] #[6]),#[37]]],
#[j3,V->V->Hp->VK->Prop],
#[j4,PySem.W.findIn K #[M] name=U af],
#[j5,PySem.W.InstAt s.heap e oe C od],
#[j6,(thn #[fr,i,j] λus s1 ⟨vs,H1,a,r,q⟩=>⟨a.kIn,?_⟩)],
#[j7,(by simp only[aJ.dropName_eq,aJ.dropNameByArray,c]<;>rfl)],
#[j8,(aD (e::es) X.env)],
#[j9,(Zn (by simp;lia))],
#[ka,(A.mark (U #[aL]))],
#[kb,(.tup [.int D,.int (#[r]:Int)])],
#[kc,(.ref it)],
#[kd,(.lst (g.map V.str++[.str k2]))],
#[ke,#[Zm,VE,#[Zk,(YU K),#[5],T.b.n_len,Qr,#[b1]],#[Zj],#[37]]],
#[kf,#[Zc,‹1›,#[Zk,UO,#[5],T.b.n_sorted,boot_sorted,#[X]]]],
#[kg,#[Xl,Q3,QaP,PySem.F.type_dict_pop,O5,#[73],#[Zc,‹4›]]],
#[kh,by have:X.env.scope.names.lookup x=U .free:=hk;rw[k]at this;cases this],
#[ki,by have q:atI #[C] #[bK]=U (.int ns[k.toNat]):=Yo #[hj,a];rw[<- b]at q],
#[kj,al.ofString "__next__"],
#[kk,Ss z TI TO i1 i2 S1 S2],
#[kl,(Y6 X.L)],
#[km,((x.length-1:Nat):Int)],
#[kn,by show#[cu];obtain⟨i,j,rfl,rfl,q⟩:=h;show#[eD,t,a];show#[eD,c,b]],
#[ko,by refine⟨⟨o,e,ex.1⟩,λa g=>?_⟩;cases g;exact⟨o,e,ex.2.1⟩],
#[kp,YC X.K fd ps ds],
#[kq,List.filter_congr λe _=>decide_eq_decide.mpr #[fI,e.1]],
#[kr,(∀x y,ss[k+1]? = U x->ss[k]? = U y->ZS #[aY] #[bv]<0)],
#[ks,(ss.length:Int)],
#[kt,(Xw n ks k f x)],
#[ku,(.lst ((List.range ss.length).map λj=>.int (WZ ss j)))],
#[kv,((Txt.slice x af (U #[fY,40])).cps.toList<g.cps.toList)],
#[kw,#[XQ,YW,‹0›,‹1›,#[37]]],
#[kx,#[2,YJ]],
#[ky,by have dO:ns=Lo.map #[T]:=Te cK (Rp cx (cK.nodup_iff.mpr ow.nd)) cD],
#[kz,(λ_ _=>rfl)],
#[kA,(.inr #[33])],
#[kB,⟨λz=>?_,λz=>?_,λz=>?_⟩],
#[kC,⟨.int _,H,I.tok _,#[K],q⟩],
#[kD,by unfold PySem.W.kitCls;have b:(PySem.W.clsIn K D).isSome=true:=h1],
#[kE,YZ a ((n,k)::r) b=YZ a r ((n,(a.lookup n).getD 0)::b)],
#[kF,PySem.W.takesIn K #[A]=U true],
#[kG,List aH],
#[kH,.inr "gone"],
#[kI,(λe=>decide (e.1=k))],
#[kJ,(noteFrame #[aL] env)],
#[kK,(be af af (U (-1)) xs.length)],
#[kL,(.tup (k.map kV))],
#[kM,(.lst xs)],
#[kN,(.lst ((#[bI]++i).map V.int))],
#[kO,(.ins ak g #[67])],
#[kP,((e.ss.length:Int)-(e.g:Int))],
#[kQ,(#[57].map V.int)],
#[kR,#[fc,u,s.heap.get?,u,h'.get?]],
#[kS,#[em,1,"alike_from",#[48],RJ]],
#[kT,⟨_,rfl,_, "bool",_,_,rfl,.bl b,Kc K,_,rfl,XJ ?_⟩],
#[kU,by obtain⟨_,_,_,_,o,_,_,e,ex,_⟩:=I.hok p _ b;exact⟨o,e,ex⟩],
#[kV,#[9,X]],
#[kW,∀self:aa,refuseLoop self "__setattr__" bm=pure ()],
#[kX,Xf P w K mg base 1 am ap "OutOfOrder" #[aU] (MY am)],
#[kY,M1f P w K mg base 1 ak "row_of" #[ah] (MU aw ak aA)],
#[kZ,(.tup [.int t.2.1,oV t.2.2])],
#[k0,⟨⟨af,af,rfl⟩,rfl,I.trans (Zg u _),Zb,Qu _⟩],
#[k1,["_law_left_here", "_law_stems_here", "_law_tail"]],
#[k2,X.stack=X.env::X.outer/\X.env.frame=U X.env.locals],
#[k3,H a=U (.ins C dx fs)],
#[k4,(false,eval e X.env)],
#[k5,(ZG L)],
#[k6,(Y7 M n)],
#[k7,(List Int×List Int)],
#[k8,(.ref o)],
#[k9,x ≠ "__name__"],
#[la,by show au _ _ (typeLookup #[M] _) _ _ _;refine(Qac X2 m).at ?_],
#[lb,by obtain⟨p5,f5,k15⟩:=Nd G O J hv gW M5 W5 tN kM nH N zl zm],
#[lc,[λv=>bindName X.env y v,λv=>bindName X.env x v]],
#[ld,Result->ai->Prop],
#[le,(backToKw bg (cc [] X.env))],
#[lf,(ZS #[aY] #[bv]=0/\J.n<O.n)],
#[lg,(Xt N vs)],
#[lh,(NB X.s₀.heap.objs.size a ((X.pn++d).map #[T]))],
#[li,#[em,1,"order_at",#[bu],RE]],
#[lj,#[WW,#[Yb,#[Zx,jb,G,#[Zc,#[fD,6],‹5›],#[5]]]]],
#[ll,#[1,Ys]],
#[lm,by show#[gx,y,u,b,d];obtain⟨p,xs,rfl,hq,c,fs,q⟩:=h;cases d],
#[ln,by rw[Qd,n1,Qy,Qy,QaK #[2],QaK #[2]];unfold Xr;rw[QaJ,Qd];simp],
#[lo,["_law_heads_here", "_law_numbers", "_law_some"]],
#[lp,(λb u i n n'=>s6 _ _ (k15 b u (nJ _ _ i) n n'))],
#[lq,(.list (([]:List (al×Int)).map λe=>tD (kk e)))],
#[lr,⟨by lia,by lia⟩],
#[ls,by obtain⟨C,h,T,i,j,a1,a2,a3,a4,a5,a6,a7,a8,a9,a10⟩:=x.ex],
#[lt,["_law_one", "_law_other"]],
#[lu,["_law_merge", "_law_own"]],
#[lv,Zt (kvG Y.Lo) (.inl e.n)=U (.int (B.2.2.2:Int))],
#[lw,K.In s.heap],
#[lx,2<=N.length],
#[ly,(ixL K)],
#[lz,(by show (0:Int)<_;decide)],
#[lA,(be lo hi (U st) c.length)],
#[lB,(be lo a (U st) xs.length)],
#[lC,(U (m:Int))],
#[lD,(QA rfl)],
#[lE,(0+(ii:Int))],
#[lF,(.ref D)],
#[lG,#[em,5,"_law_row",#[l],Rm]],
#[lH,typeOf #[e0,id]=pure #[h4,"method_descriptor"]],
#[lI,by refine Y1 #[aM] #[aM]],
#[lJ,YF X.prog X.w X.K X.mg X.base CX0 k f fd ps sp],
#[lK,D1f P w K mg base 5 "refuse_break" #[iU] (MX K am)],
#[lL,[.ref a]],
#[lM,⟨zH1 c S1 a,g,d,f,os⟩],
#[lN,λb u i nM=>k5 b u i #[gG,nM] (λz=>nM #[33])],
#[lO,env.frame=U L],
#[lP,c.names.lookup x=U .local],
#[lQ,absurd #[dF] Qo],
#[lR,[z,TI,TO,i1,i2]],
#[lS,X.N.Nodup],
#[lT,Nat->List V->St->Hp->Prop],
#[lU,List (κ×aa)],
#[lV,Array DictEntry],
#[lW,(λf vs=>PySem.call f vs)],
#[lX,(λ_=>?_)],
#[lY,(j.objs.size+1)],
#[lZ,(f (.int i t) (.int j u))],
#[l0,(al->Option aa)->aF->Prop],
#[l1,(Yj L e.n)],
#[l2,(Yf s k v)],
#[l3,(XN CX P w K mg base N m j f o A outer s H E)],
#[l4,(.tup [.int (N.headD 0),.int (N.getLastD 0)])],
#[l5,(.lst zs)],
#[l6,(.lst ys)],
#[l7,(.lst ((([g ++ "a"]:List al)++gY).map V.str))],
#[l8,(.frz o u)],
#[l9,(.dK (kvR L))],
#[ma,#[hi,"numbers"]],
#[mb,by rintro M H5 ⟨X,Y,c,um,uo,uq,nZ,n8,n9,oa,rfl,W,L,hc⟩],
#[mc,List Y2->Int->Prop],
#[md,(Yi L e.n ks k' a)],
#[me,(.int v)],
#[mf,#[Zc,‹1›,#[ZH,Xk,#[ZO,‹3›],‹2›]]],
#[mg,q p _ b ⟨_,_,Zb,Int.le_refl _⟩ (Zg b _)],
#[mh,c.names.lookup x=U .free],
#[mi,Xf X.prog X.w X.K X.mg X.base k C B x ps sp],
#[mj,List ae],
#[mk,(∀a dx,h.get? x=U a->a.dict=U dx->b≠dx)],
#[ml,(λz=>absurd #[ag] #[1])],
#[mm,(PySem.W.fnOf name d C m a D kV F G L g ct)],
#[mn,(.tup [.str "grow",.int e.1,.ref k,.ref w])],
#[mo,(.tup #[fJ,t.2.1,t.2.2])],
#[mp,(.lst (#[bI].map V.int))],
#[mq,(.dK (Y3 d g #[c4] 0 0))],
#[mr,((mq.trans gE).trans iG)],
#[ms,#[em,2,"alike",#[99],VS]],
#[mt,#[Zx,e8,G,#[Zc,‹0›,‹2›,#[Zj]],#[5]]],
#[mu,by obtain⟨zl,zm⟩:=tM.one (by rw[S0 N,WK N];exact P5)],
#[mv,(show s.heap.IsTuple a its.toArray from p)],
#[mw,(S1.raw_keep #[fy,c,n,d.extBut,n] D.s1z G)],
#[mx,by rw[Zd (λz=>by rw[z,e]at q;cases q;exact a)];exact q],
#[my,by have c:=congrFun f n;unfold hdL at c ⊢;rw[QY,QY,d]],
#[mz,aa->aa->Sem aa],
#[mA,["_law_own", "_law_heads_here", "_law_n"]],
#[mB,Y4 k X.A],
#[mC,Cf P w K mg base 4 aw "Row" #[98] (N9 aw)],
#[mD,Array (Option aa)],
#[mE,.inl e.1],
#[mF,(λ_ _=>False)],
#[mG,(λ_ _ q=>Qc _ q)],
#[mH,(ps.zip us)],
#[mI,(aa.ref C::.ref B::YH).contains #[M]=true],
#[mJ,(ZP k #[b8] n)],
#[mK,(X.L++[ne])],
#[mL,(List.range n)],
#[mM,(I.base.free b o e n a)],
#[mN,(.lst #[gO,a,lo])],
#[mO,(.frz g #[cC])],
#[mP,((p,w)::P.zip vs)],
#[mQ,((#[C].length:Nat):Int)],
#[mR,#[hi,"number"]],
#[mS,#[gS,#[bv],#[aY]]],
#[mT,⟨_,rfl,rfl,_,rfl,YN (no #[1]) #[50]⟩],
#[mU,λi h g st k=>st.at λo e=>k it #[4] o e],
#[mV,by have p:c.heap.DictOf #[aB] d i:=⟨g,C,D,j,m,n,E⟩],
#[mW,by have e:=r.length;simp only[Array.length_toList]at e],
#[mX,[U #[bS],U #[cq],U (.int L),U #[jV],C,D]],
#[mY,Zg ce (.lst [.str "full",.str "no row"])],
#[mZ,T5 B base NB env outer L e cls dd s.heap],
#[m0,(upd f o (.lst (h.map V.ref++[.ref y])))],
#[m1,(upd F m (.ins ak y (mgF j nb p i g t)))],
#[m2,(bump L e.n)],
#[m3,(Ql a2 #[6])],
#[m4,(Qao #[6] _)],
#[m5,(.ref #[af])],
#[m6,(.int e.1)],
#[m7,(.inr rfl)],
#[m8,(.Call (.Name "enumerate" p) [l] [] pos)],
#[m9,#[hi,"line"]],
#[na,#[Xa,Lh,T.b.n_list,boot_list,#[Zc,#[I]]]],
#[nb,⟨X.m,X.rd,i,a,s',p,X.li+k,X.lo+q,j⟩],
#[nc,absurd #[cn] (aX e he)],
#[nd,Zt (kvR Y.Lo) (.inl e.n)=U (.ref B.2.1)],
#[ne,X.s₀.heap.objs.size<=s.heap.objs.size],
#[nf,(aF.SameBut.update ..)],
#[ng,(L.map λe=>tD (kk e))],
#[nh,(Bool->Hp->Prop)->Prop],
#[ni,(.tup [.int e.n,.int (e.g:Int),.str z])],
#[nj,#[hQ,"_law_many_here"]],
#[nk,#[W6,Pk,#[cw,9,To],(@W7 _),#[Xm,#[Zj]]]],
#[nl,#[VC,‹0›,#[Zj],Uf]],
#[nm,∀x c,X.env.cells.lookup x=U c->c≠e],
#[nn,by rw[e]at q;exact q],
#[no,by rw[e,a,List.drop_zero,Nat.sub_zero,List.map_take]],
#[np,q t l r _ z2 d z1 z3 Zb z6 z7 z8 z4 z5],
#[nq,by obtain⟨o,p,q⟩:=C d e m;exact⟨o,p,d,e,l,q⟩],
#[nr,by intro ah s σ H vs us Q I r h],
#[ns,by exact .inl (.inl z)],
#[nt,(λ_ _ _=>False)],
#[nu,(ZP 8 #[57] e.1)],
#[nv,(F,D,(#[r]:Int))],
#[nw,(.ref x)],
#[nx,(.frz g (.dK f))],
#[ny,#[Zk,Mw,#[5],T.b.n_abs,boot_abs,#[b1]]],
#[nz,#[Xa,(Vv K),T.b.n_list,boot_list,#[X]]],
#[nA,⟨_,rfl,_,rfl,rfl,_,rfl,YE rfl ?_⟩],
#[nB,∃u,HB p=U u],
#[nC,∀t,v=U t->H t.1=U #[g8,t.2.1,t.2.2]],
#[nD,∀i ys c H,Pv i ys c H->SqL K H a xs],
#[nE,s.heap.IsList t items],
#[nF,Q6 Qa6 I.kIn ⟨o,j,m.1⟩ f e #[t] c],
#[nG,Q6 Qa5 I.kIn ⟨_,j,rfl⟩ f e #[t] c],
#[nH,PE X o ta],
#[nI,PE X a ta],
#[nJ,I.type (M:=ay prog w)],
#[nK,(λz=>a (by simp[z]))],
#[nL,(thn (ha b s d H Q I h) λc s1 e=>?_)],
#[nM,(rawInt X.env.locals)],
#[nN,(fs.map #[T])],
#[nO,(fs.lookup f)],
#[nP,(Yi X.L e.n ks k' f')],
#[nQ,(XU ..)],
#[nR,(Wg c.heap H)],
#[nS,(I.tok _)],
#[nT,(@T3 _ _ _ _ ‹1›)],
#[nU,(.ref ap)],
#[nV,(.lst ((k0.map λx=>g++x).map V.str))],
#[nW,(.list ((e0::er).map λe=>tD (kk e)))],
#[nX,(.inr (.inr ⟨e',(Qah.mp W).1,z⟩))],
#[nY,(.Tuple [a,b,c] k2 t)],
#[nZ,#[h4,"tuple"]],
#[n0,#[eR,I.ok.glob,I.mod.glob.keeps,I.bk]],
#[n1,#[Zc,‹3›]],
#[n2,#[ZX,#[fx,dL,p,#[X]]]],
#[n3,∀x∈e.ss++ks,x.length<=1000/\AZ x],
#[n4,by subst f hw g;obtain⟨m,p,F,q,r,u⟩:=d it #[4]],
#[n5,by obtain⟨m,rd,sd,L,s,nb,li,lo,W,l,N,rfl,_⟩:=h],
#[n6,IsPair s.heap TI (.ref i1) (.ref i2)],
#[n7,(slicePick its.toArray lo hi (U st))],
#[n8,(PySem.W.instObj C s.heap.objs.size)],
#[n9,(.Call (.Name "zip" p) [a,b] [] pos)],
#[oa,((a % 2147483629+k*k*7919+11)*48271)],
#[ob,⟨a,b,I.unwish,q⟩],
#[oc,⟨[],rfl,Qh _,λm h=>by cases h⟩],
#[od,⟨.int (g i j),H,I.tok _,#[K],q⟩],
#[oe,by subst e;exact f.fpOk #[jJ] (f.hok.fresh #[jJ])],
#[og,by subst e;exact d.fpOk #[jJ] (d.hok.fresh #[jJ])],
#[oh,sortedS ss=true],
#[oi,by show#[e8,a,b,Q];refine ba (V1 I c hm d ?_ f g)],
#[oj,by refine T.t_l_first_play.df UI #[dm] #[ef,vs,i]],
#[ok,ps.length<=1000],
#[ol,by have:=Uw n _ k h;refine⟨λz=>?_,λm b=>?_⟩],
#[om,d.params.defaults=[]],
#[oo,["_law_script"]],
#[op,Yt (hdM a) s' (ZG a)],
#[oq,YC X.K fd ps []],
#[os,QX Qa6 I.kIn ⟨o,g,l.1⟩ e #[t] h],
#[ot,QX Qa5 I.kIn ⟨_,g,rfl⟩ e #[t] h],
#[ou,List aI],
#[ov,List Key],
#[ow,List Env],
#[ox,HOk X.prog X.w H' h'],
#[oy,Agr Lo L],
#[oz,A.units+1<cLine],
#[oA,.inl rfl],
#[oB,(λe=>if e.1=k then (e.1,v) else e)],
#[oC,(λb ps e=>⟨#[],by rw[e];simp⟩)],
#[oD,(·<·)],
#[oE,(ys.map (·.length))],
#[oF,(xdO dx fs)],
#[oG,(upd H l #[bV])],
#[oH,(upd H a o)],
#[oI,(low n #[jI] i)],
#[oJ,(ks.map kV)],
#[oK,(if (hd n).isSome then U n else af)],
#[oL,(hideAll_get _ f hc)],
#[oM,(e.ss++ks)],
#[oN,(e.1,e.2.2)],
#[oO,(bump L n)],
#[oP,(Yi L n ks k f)],
#[oQ,(Y.Lo++[(#[iX]:ZE)])],
#[oR,(X1 X c N' s.heap.objs.size s H fp)],
#[oS,(M.each e he).at'.ob],
#[oT,(I.ok.bs b o e)],
#[oU,(I.hok.fresh (Q1 _))],
#[oV,(A.under #[64])],
#[oW,(.lst #[C])],
#[oX,#[k5].Nodup],
#[oY,#[hf,"items",B]],
#[oZ,#[h4,"str"]],
#[o0,#[h4,"int"]],
#[o1,#[e0,"len"]],
#[o2,#[Zo,(ixG M),#[cv,0,Vj],#[cw,3,Vj]]],
#[o3,#[Zi,#[XY]]],
#[o4,#[ZH,SD,#[ZH,Z9,#[38],#[Zj]],#[Zj]]],
#[o5,#[81]=(L.length:Int)],
#[o6,by intro b hb;exact(List.eq_of_mem_replicate hb)],
#[o7,bo o name X.env #[d4]=eval o X.env],
#[o8,(b9 c #[v] j.heap.objs.size X.env)],
#[o9,(Z4 s (ZZ M)=af\/Z4 s (ZZ M)=U af)],
#[pa,(PySem.W.methodObj #[bT] (.ref y))],
#[pb,(NB X.s₀.heap.objs.size H #[bZ])],
#[pc,(.cons (WJ _) (.cons (WJ _) .nil))],
#[pd,⟨rfl,?_⟩],
#[pe,⟨by lia,by lia,by lia,by lia⟩],
#[pf,⟨a,b,I.unpnd,q⟩],
#[pg,∀b H,Pv xs.length b H->D.nx b H],
#[ph,by show#[en,e,he,hx];have tO:e.n=n:=zn;subst tO],
#[pi,by rw[if_neg e]at h],
#[pj,by rw[e];exact r.fpOk #[jJ] (r.hok.fresh #[jJ])],
#[pk,by rw[Qb l]at c;rw[Qb #[2]]at e;cases c;cases e],
#[pl,e=x\/H e=U (.own x)],
#[pm,[bs0 o,bs1 o,bs2 o]],
#[pn,[.inl k.1,.inl k.2]],
#[po,VD s.heap x dx C mA],
#[pp,PE X e te],
#[pq,Option aa->ai->Prop],
#[pr,KV kvs vs],
#[ps,Cls X.K C],
#[pt,.inr "looks"],
#[pu,(envOfC m j s.heap.objs.size f o)],
#[pw,(c.map λk=>kV k.1)],
#[px,(by rw[Qa]at a;lia)],
#[py,(av ?_)],
#[pz,(a == bL)],
#[pA,(Yj X.L e.n)],
#[pB,(U #[e0,"type.__getattribute__"])],
#[pC,(Qb #[2])],
#[pD,(Itl K a)],
#[pE,(.ref B::YH)],
#[pF,(.lst [.int a,.int b,.int (c+1)])],
#[pG,(.lst #[bR])],
#[pH,(.list (([]:List al).map ar.str))],
#[pI,(.bool true)],
#[pJ,(.Tuple [a,b] k2 l)],
#[pK,#[h4,"bool"]],
#[pL,#[Zc,#[fD,0],#[Zj]]],
#[pM,#[Xh,#[Zl],(@Sc _)]],
#[pN,#[XO,‹0›,#[Zj]]],
#[pO,List V],
#[pP,List Y2],
#[pQ,s.heap.objs.size],
#[pR,.inr rfl],
#[pS,Option aa],
#[pT,.inl e.n],
#[pU,(.inl e.1)],
#[pV,⟨_,rfl,?_⟩],
#[pW,by simp only[Vx,↓reduceIte]],
#[pX,by have r:=h.each e he;show#[ep,dy,c,r.at'.ob]],
#[pY,decide_eq_false (λq=>nomatch q)],
#[pZ,Int->Int->Prop],
#[p0,Bool->Hp->Prop],
#[p1,Array aa],
#[p2,(∀e∈L,H e.2.1=af/\e.2.1≠o)],
#[p3,(ys.map V.str)],
#[p4,(x.length:Int)],
#[p5,(g.take k'++zzS++g.drop k'++abS)],
#[p6,(HO.lst.inj e)],
#[p7,(F.args_tuple_iterator_next_1 _)],
#[p8,(.str name tk)],
#[p9,#[gu,"_law_k"]],
#[qa,#[e0,"sorted"]],
#[qb,⟨_,rfl,_,_,rfl,rfl,rfl,rfl⟩],
#[qc,∃u,h'.get? e=U u],
#[qd,["_law_rows_here"]],
#[qe,X.A.units+64<cLine],
#[qf,Sg a i kvs[i].1 kvs[i].2 (Qb C)],
#[qg,(∀b∈fp,k b=af)],
#[qh,(upd H2 Y.ra (.dK (kvR #[ds])))],
#[qi,(if b=true then (1:Int) else 0)],
#[qj,(by show 0<=_;lia)],
#[qk,(aO.SmallTypes.nextOf (.ref i))],
#[ql,([]:List (ae×aJ))],
#[qm,(L++[(nb,r,ss,0)])],
#[qn,(Code.quiet_builtin _ FV.quiet)],
#[qo,(.inl (i:Int):Key)],
#[qp,(.BoolOp .And (a::b::rest) pos)],
#[qq,#[fw,u,D,MFp,X,H5]],
#[qr,#[Zo,(ixG u),#[eq,u,0],‹2›]],
#[qs,(.tup [kV (.inl e.n),.ref e.p])],
#[qt,a_,b_,(Ql (show (ZG a_).length<=60 by unfold ZG;rw[Qa];exact b_) #[6])],
#[qu,a_,b_,c_,d_,by have a_:(upd b_ c_ d_) c_=U d_:=Zb],
#[qv,a_,PySem.W.typeIn K a_=U #[cp]],
#[qw,a_,b_,c_,d_,e_,∀b a_,H b=U a_->b≠b_->(upd c_ d_ e_) b=U a_],
#[qx,a_,b_,c_,∀b,Fp X.m X.rd a_ b_ b->MFp X b\/c_ b=af],
#[qy,a_,(s.heap.objs.size+a_)],
#[qz,a_,b_,(∀x a_,X.env.cells.lookup x=U a_->a_≠b_)],
#[qA,a_,b_,(HT.sIx a_ a_ b_-HT.sIx a_ 0 lo)],
#[qB,a_,b_,c_,(by rw[a_ b_];exact c_)],
#[qC,a_,b_,c_,#[gT,K,2,#[eg,a_,b_,c_]]],
#[qD,a_,b_,c_,d_,e_,Inv X a_ b_ c_ { d_ with heap:=e_ }],
#[qE,a_,b_,[.ref a_,.int b_]],
#[qF,a_,#[ZD,a_,Xg.nd,#[3]]],
#[qG,a_,(ZY I q (congrArg not a_))],
#[qH,a_,b_,c_,by show#[e8,a_,b_,Q];refine QaM (pl:=pl) #[eo,he,a_,b_] c_],
#[qI,a_,b_,c_,⟨_,rfl,_, a_,_,_,rfl,.int i,b_ K,_,rfl,c_ ?_⟩],
#[qJ,a_,b_,c_,(@a_ _ _ _ _ _ _ _ _ _ _ d.xc b_ ‹0› ‹c_› #[5])],
#[qK,a_,b_,c_,(λa_ b_ c_=>?_)],
#[qL,a_,b_,c_,d_,by obtain⟨its,a_,b_,c_⟩:=I.tuple d_],
#[qM,a_,by rw[P,R,uT]at a_;refine thn a_ ?_],
#[qN,a_,b_,by have a_:=k6 _ _ b_ (y4 _ _ b_ λ_ z=>by cases z)],
#[qO,a_,b_,c_,d_,#[Vn,a_,T.cl_Merge,#[an],b_,‹c_›,d_]],
#[qP,a_,b_,c_,Vg (z:=a_) (k:=b_) #[2] c_],
#[qQ,a_,b_,c_,by refine⟨_,rfl,_, a_,_,_,rfl,.int i,b_ K,_,rfl,c_ ?_⟩],
#[qR,a_,b_,c_,d_,by rw[Zd (Zf a_ b_)];exact c_ b d_ a_],
#[qS,a_,b_,c_,d_,e_,by obtain⟨a_,b_,c_⟩:=d_ e_],
#[qT,a_,by exact .inr (.inl a_)],
#[qU,a_,by have hb:(g == a_)=true:=beq_iff_eq.mpr h],
#[qV,a_,b_,by obtain⟨e,n,ne,a_,d⟩:=I.pin p b_],
#[qW,a_,λ_ _ _ _ _ st h=>a_ st h],
#[qX,a_,b_,a_ λ_ _ _ _ _ _ _ q=>b_ q],
#[qY,a_,(But.same (Zg a_ _))],
#[qZ,a_,b_,hdS (a_ (b_ Z6))],
#[q0,a_,b_,(∀x∈a_,x.length<=b_/\AZ x)],
#[q1,a_,(Vw a_ rfl #[1])],
#[q2,a_,b_,c_,d_,e_,by obtain⟨b,a_,b_⟩:=Vg (z:=y) (k:=c_) #[2] d_;rw[Qa7]at e_ a_],
#[q3,a_,b_,(a_ b_).length<ao],
#[q4,a_,b_,c_,d_,by obtain⟨a_,b_⟩:=I.base.slot b o e n c_ d_],
#[q5,a_,(show b∈([]:List ae) from a_)],
#[q6,a_,(λ_ _ _ _ h=>h.2.2.2.2 _ _ a_)],
#[q7,a_,b_,c_,d_,by rintro M a_ ⟨X,Y,b_,qd,qe,qf,mE,mF,pD,mG,rfl,W,c_,d_⟩],
#[q8,a_,b_,∀p∈X.pn++a_,p.1≠b_],
#[q9,a_,b_,c_,(∀b a_,b_ b=U a_->c_ b=U a_)],
#[ra,a_,b_,c_,d_,by obtain⟨d,a_,e,b_,q⟩:=c_;subst e;cases d_],
#[rb,a_,b_,(.inr ⟨a_,_,rfl,rfl,b_⟩)],
#[rc,a_,b_,c_,d_,(∀b,a_ b_ b->a_ c_ b\/d_ b=af)],
#[rd,a_,(bx a_ X.env).findIdx? #[T]=af],
#[re,a_,(QC _ (QC _ (SG a_ e)))],
#[rf,a_,b_,c_,(a_ _ _ (b_ _ _ c_))],
#[rg,a_,b_,∀m∈a_ N,b_ m=hd m],
#[rh,a_,b_,⟨a_,_,rfl,rfl,b_⟩],
#[ri,a_,b_,(I.base.keep b o e n a_ b_)],
#[rj,a_,b_,c_,by obtain⟨f,fd,F,a_,b_,c_⟩:=F.ex],
#[rk,a_,(.int (a_ #[aY] #[bv]))],
#[rl,a_,b_,c_,d_,e_,by generalize upd H a (.frz a_ (.dK (b_ L)))=c_ at d_ k1 e_ ⊢],
#[rm,a_,b_,c_,d_,e_,∀b a_,H b=U a_->b≠b_->(upd c_ b_ (.dK (d_ e_))) b=U a_],
#[rn,a_,(Txt.slice a_ af (U (n:Int)))],
#[ro,a_,b_,c_,d_,(upd a_ b_ (.dK (c_ d_)))],
#[rp,a_,b_,c_,#[Xq,a_,T.cl_Merge,b_,‹0›,c_]],
#[rq,a_,a_ (t':=c.toks) λb o e=>Qc _ e],
#[rr,a_,b_,c_,d_,by obtain⟨⟨T,a_⟩,_,_⟩:=b_ c_ _ d_],
#[rs,a_,by rw[a_]at this;exact this],
#[rt,a_,(decide_eq_true (by rw[a_]))],
#[ru,a_,b_,(Qg (f:=λx:ZC=>(a_,x)) b_)],
#[rv,a_,#[eI,a_,xs,z]],
#[rx,a_,b_,∀b u,a_ b=U u->b_ b≠af],
#[ry,a_,b_,∀b∈fp,WU X a_ b_ b],
#[rz,a_,b_,(aa.ref a_::b_)],
#[rA,a_,b_,c_,d_,e_,by obtain⟨a_,b_,c_,d_,q⟩:=e_;subst e],
#[rB,a_,PySem.W.plainOver K a_=true],
#[rC,a_,λb a_=>Qaf _ _ (Ne.symm a_)],
#[rD,a_,b_,hdS (a_ #[gj,b_,Yx])],
#[rE,a_,b_,(.lst ((a_ b_).map V.int))],
#[rF,a_,b_,c_,d_,e_,by have a_:=M.each e b_;show#[ep,c_,d_,e_]],
#[rG,a_,b_,⟨by rw[a_];exact Qu _,by rw[a_,b_]⟩],
#[rH,a_,b_,c_,d_,by have a_:=M.same b_;have c_:=b_ _ _ d_],
#[rI,a_,b_,#[Yq,#[eq,a_,b_],‹2›,(XZ a_)]],
#[rJ,a_,b_,c_,⟨a_,(b_ b #[bb]).trans c_⟩],
#[rK,a_,b_,a_ b_=U .cell\/a_ b_=U .free],
#[rL,a_,IsZip a_ z TI TO .ellipsis],
#[rM,a_,Zt (a_ L) (.inl (i:Int))=af],
#[rN,a_,#[Zo,#[ly],‹a_›,#[c6]]],
#[rO,a_,b_,#[fc,o,a_,o,b_]],
#[rP,a_,b_,(λb a_ b_=>Qc _ b_)],
#[rQ,a_,b_,c_,d_,e_,by obtain⟨a_,b_,c_,d_⟩:=e_],
#[rR,a_,b_,#[fx,a_,b_,#[X]]],
#[rS,a_,b_,c_,#[YI,a_,T.cl_Row,b_,‹c_›]],
#[rT,a_,b_,c_,d_,e_,by generalize upd a_ b_ (.dK [])=c_ at d_ e_ ⊢],
#[rU,a_,#[e7,a_,1000]],
#[rV,a_,b_,by subst a_;rw[QE #[jJ],QaA]at b_;cases b_],
#[rW,a_,b_,#[Xfi,K,a_,"__init__",b_]],
#[rX,a_,b_,c_,d_,∀a_ b_,c_ a_=U (.tup b_)->d_ a_=U (.tup b_)],
#[rY,a_,b_,by obtain⟨z,its,a_,r,hl,e⟩:=I.lstM b_],
#[rZ,a_,b_,by show#[eO,z,a_,b_]],
#[r0,a_,b_,c_,(by rw[Qa,a_];exact b_ c_)],
#[r1,a_,#[g0,"next_number",a_]],
#[r2,a_,by unfold ZG at this;show#[fz,Qa,a_]],
#[r3,a_,b_,c_,by have:=a_ _ _ b_;rw[<- z,c_]at this;cases this],
#[r4,a_,by obtain⟨a1,a2,a3⟩:=I.pin p a_],
#[r5,a_,by show#[eI,a_,xs,z]],
#[r6,a_,b_,#[gy,Zt32,a_,b_]],
#[r7,a_,b_,((a_ b_).map V.int)],
#[r8,a_,b_,c_,d_,(by rw[<- a_ b_ c_];exact d_)],
#[r9,a_,b_,by rw[QE #[jJ],QaA]at a_;cases b_],
#[sa,a_,b_,(λ_ _ _ _=>#[cw,a_,b_])],
#[sb,a_,b_,c_,∀b,a_ b_ b->a_ c_ b\/H b=af],
#[sc,a_,by rw[if_neg a_,if_pos #[2]]],
#[sd,a_,b_,c_,by exact⟨a_,(b_ b #[bb]).trans c_⟩],
#[se,a_,sortedS a_=true],
#[sf,a_,#[ei,a_,True.intro]],
#[sg,a_,(by rw[a_];simp)],
#[sh,a_,b_,Uc (X:=X) S a_ #[v] b_ x],
#[si,a_,b_,c_,#[Zw,a_,b_,#[3],c_]],
#[sj,a_,#[fj,a_,V.int]],
#[sk,a_,(by show a_<1000;decide)],
#[sl,a_,λm hm=>h m (a_ hm)],
#[sm,a_,b_,c_,d_,by rw[iB,Qx #[jJ]]at a_;refine⟨b_,c_ _ _ d_,?_⟩],
#[sn,a_,∀b∈a_ M n,b∈M],
#[so,a_,#[WT,T.b.n_range,#[Zc,a_]]],
#[sp,a_,by obtain⟨f,a_,F,m,b⟩:=T.ex],
#[sq,a_,PySem.W.makesIn K a_=true],
#[sr,a_,PySem.W.keepIn a_ #[bT]=true],
#[ss,∀T,s.heap.objs.size<=T->NB T],
#[st,by subst e;exact .inl ⟨Qh _,hd ys a H p⟩],
#[su,by show#[ep,e,y,y];subst e y],
#[sv,by show au _ _ (seqItems? #[jz] >>= _) _ _ s],
#[sw,by rw[c,d]at a;rw[g,V5]at hw],
#[sx,absurd rfl (S.nocell _ (Su q))],
#[sy,YD X.K C f],
#[sz,PySem.W.plainGet K C name=true],
#[sA,(∀e∈L,0<=e.n/\e.n<1000000)],
#[sB,(λe=>(e.1,e.2.2.1[e.2.2.2]?))],
#[sC,(λa c i e=>f its d g a c i e)],
#[sD,(by rw[Qf];show 1+_-1<1+_;lia)],
#[sE,(ZP k M n)],
#[sF,(List.replicate n.toNat a.cps)],
#[sG,(List Int)],
#[sH,(Itr lo n)],
#[sI,(.bl true)],
#[sJ,((prs d N).map λe=>tD (kk e))],
#[sK,#[em,2,"_law_coming",#[36],NW]],
#[sL,⟨t,rfl⟩],
#[sM,⟨rfl,rfl,rfl⟩],
#[sN,⟨_,e,rfl⟩],
#[sO,by rw[if_pos d]at h2;rw[if_pos (f.trans d)]],
#[sP,by refine T.t_l_same.df Ky #[dm] #[ef,vs,m]],
#[sQ,by obtain⟨f0,f1,f2,f3,f4,f5⟩:=m it #[4]],
#[sR,ns.length<=ao],
#[sS,i=xs.length],
#[sT,al->Option aN],
#[sU,[.inl (ZZ N).1,.inl (ZZ N).2]],
#[sV,["one", "other", "far", "at"]],
#[sW,Y9 H p c],
#[sX,Y4 j X.A],
#[sY,Q v { s with toks:=s.toks+1 }],
#[sZ,PE X value tv],
#[s0,Option Bool],
#[s1,Nat->St->Hp->Prop],
#[s2,List (TE×TE)],
#[s3,I.hok.fresh #[jJ]],
#[s4,H a=U #[dI]],
#[s5,Array Keyed],
#[s6,2 ^ n=2*2 ^ (n-1)],
#[s7,(λx=>x.1.isSome)],
#[s8,(λj hj=>by rw[Wq,if_neg hj])],
#[s9,(λe:ZE=>e.1)],
#[ta,(tOp r ta tb)],
#[tb,(meets_dict_items #[aB] d lo)],
#[tc,(low e.n #[d6] i)],
#[td,(by rw[Qa,Qf];show 0<1+_;lia)],
#[te,(by rw[QK]<;>lia)],
#[tf,(bs.map V.bl)],
#[tg,([]:List Keyword)],
#[th,(ZQ P w)],
#[ti,(ZF.refl _)],
#[tj,(ZA f y fs)],
#[tk,(ZA f v fs)],
#[tl,(Yf s (ZZ M) (U (S,R,#[70])))],
#[tm,(Txt.join sep ys)],
#[tn,(QB (Qm e))],
#[tp,(PySem.F.args_dict_items_1 _)],
#[tq,(PySem.F.args_dict_get_2 _ _)],
#[tr,(L++[e])],
#[ts,(.ref b)],
#[tt,(.ref ap::YH)],
#[tu,(.list #[cl])],
#[tv,(.int wy)],
#[tw,(.inr #[8])],
#[tx,#[hm,aa]],
#[ty,#[hO,d.map]],
#[tz,#[eu,d.map]],
#[tA,#[ep,sN,qG,M6.ob]],
#[tB,#[ep,kj,fm,M2.ob]],
#[tC,#[em,3,"_law_stems",#[24],Oh]],
#[tD,#[em,2,"liken_from",#[48],Oc]],
#[tE,#[em,10,"_law_play",#[36],NV]],
#[tF,#[eJ,Array.getElem?_toList,e]],
#[tG,#[eD,t,d]],
#[tH,#[Zi,#[Zr,#[ZU]]]],
#[tI,#[Vo,#[eK,ixL,4]]],
#[tJ,⟨rfl,_,SqL.of (G _ _ B)⟩],
#[tK,⟨_,rfl,by lia,by lia,?_⟩],
#[tL,∀b∈fp,b<s.heap.objs.size],
#[tM,z.cps.toList.length=z.length],
#[tN,by show au _ _ (field #[kc] 0 >>= _) _ _ s],
#[tO,by rw[if_pos rfl]],
#[tP,by refine T.t_Merge_play.mf Wa #[dm] #[aA]],
#[tQ,by have J:=C e he;show#[ep,de,fU,J.at'.ob]],
#[tR,absurd this (Qa1.mpr (Q1 _))],
#[tS,VB P w K mg base A outer s H],
#[tT,Qba _ (λa b c z=>c #[cn]) h],
#[tU,(λv fH eD=>aj (bw (av eD)))],
#[tV,(upd H sd (.dT (kvS #[l2])))],
#[tW,(aO.SmallTypes.nextOf #[kc])],
#[tX,(Qc _ (Qc _ (Qt _ (g _ _))))],
#[tY,(.tup [.int (i:Int),.ref e])],
#[tZ,(.BoolOp .And (b::rest) pos)],
#[t0,#[em,3,"_law_many",#[24],Oa]],
#[t1,λe:ZE=>(#[i3],V.ref e.2.1)],
#[t2,λe:ZE=>(#[i3],V.int #[dc])],
#[t3,¬ lcp #[aY] #[bv]=y.length],
#[t4,by show#[cu];obtain⟨rfl,q⟩:=h;cases b],
#[t5,by rintro rfl;have e:=I.ok.mod.kin a o hk],
#[t6,by have:=Rg h;refine⟨λz=>?_,λm=>?_⟩],
#[t7,c.heap.objs.size],
#[t8,bK z = "str_ascii_iterator"],
#[t9,[(al.ofString "default",d)]],
#[ua,["_law_numbers"]],
#[ub,List (Option aH)],
#[uc,(λb o h _ _=>h)],
#[ud,(x.cps.toList<g.cps.toList)],
#[ue,(upd og D2 (.lst #[hq,wd]))],
#[uf,(i.cps.toList<j.cps.toList)],
#[ug,(f.symm.trans e)],
#[uh,(e.trans d.symm)],
#[ui,(c b _ q λz=>z)],
#[uj,(by rw[d];exact⟨_,l,q⟩)],
#[uk,(by rw[Qa];exact Qab #[j9])],
#[ul,(Zg hw _ _ _ Zb)],
#[um,(ZA "looked" (.int 0) #[g])],
#[un,(ZA "all_keys" (.ref k) [])],
#[uo,(YT kvs p.1 p.2)],
#[uq,(Code.quiet_builtin _ #[1])],
#[ur,(.list ((u::v).map ar.str))],
#[us,(.dK (Y3 ra ga nb li' lo'))],
#[ut,#[hQ,"_law_own"]],
#[uu,#[gw,B.2.2.1,ks]],
#[uv,#[em,4,"_law_keys",#[l],Of]],
#[uw,#[em,3,"_law_key",#[ai],Og]],
#[ux,#[em,1,"_law_mix",#[dV],Oo]],
#[uy,#[ek,YW,0,#[Zl]]],
#[uz,#[eE,aa.int,i,d]],
#[uA,#[Zo,#[ly],‹0›,‹1›]],
#[uB,⟨s.toks+1,by rw[QK,c]⟩],
#[uC,∀b o,B.get? b=U o->b≠T],
#[uD,λz=>d #[aK]],
#[uE,by show#[hz,w,B,g];rw[QaG Y]at l;cases l],
#[uF,by rw[Qi.mp hs];exact#[bs]],
#[uG,by rintro x C F Hx N M ⟨v,rfl⟩ hN hM],
#[uH,by have ll:=UD #[aY] #[bv]],
#[uI,by exact .inl #[33]],
#[uJ,[U af,U (U (X.nb,1)),U af]],
#[uK,YZ a ((n,k)::r) b=YZ a r b],
#[uL,Y4 (k+1) X.A],
#[uM,IsZip s.heap z TI TO .none],
#[uN,I.cell x c e],
#[uO,Gl X x],
#[uP,False.elim l],
#[uQ,(·.2)],
#[uR,(upd H a (.dK (WD kvs k)))],
#[uS,(t.endLine == u.line)=true],
#[uT,(show h.get? a=U _ from x)],
#[uU,(exN e C af)],
#[uV,(ay P w)],
#[uW,([]:List (al×V)).length=0],
#[uX,(Win hd A af\/Win hd B af)],
#[uY,(U #[fY,40])],
#[uZ,(Ql a1 #[6])],
#[u0,(.tup #[51])],
#[u1,(.str x)],
#[u2,(.lst ([F,G,I].map V.int))],
#[u3,(.lst ((Wh i 4).map V.bl))],
#[u4,(.int i)],
#[u5,(.inl n)],
#[u6,((min n x.length:Nat):Int)],
#[u7,((a.map V.str).length:Int)],
#[u8,#[hi,"rows"]],
#[u9,#[hd,o,Y.ra,Y.Lo,e.n,Y.ga]],
#[va,#[hJ,z.symm]],
#[vb,#[eu,kk.map]],
#[vc,⟨v,H,I,r,h⟩],
#[vd,⟨rfl,rfl,rfl,rfl,rfl⟩],
#[ve,⟨Zn #[6],λl2 ce=>?_⟩],
#[vf,⟨Y.o,Y.ra,Y.ga,f,nb'⟩],
#[vg,⟨#[c]⟩],
#[vh,s.heap.IsTupleIter it t i],
#[vi,by rw[z];exact .inr ⟨a10,i,j,a7,a8⟩],
#[vj,rest.length<=ao],
#[vk,inj (of_decide_eq_true c)],
#[vl,VA CX X E],
#[vm,V->Hp->VK->Prop],
#[vn,PySem.W.OpenLaw],
#[vo,PE X o to],
#[vp,PE X b tb],
#[vq,List Keyed],
#[vr,H a=U (.dT kvs)],
#[vs,Array (Int×aa)],
#[vt,A.units+4<cLine],
#[vu,(∀x∈P,0<=x.1/\x.1<nb)],
#[vv,(λz=>nO #[33])],
#[vw,(λz=>h (N8 z))],
#[vx,(ys++[y])],
#[vy,(upd #[iW] t T)],
#[vz,(ns.length:Int)],
#[vA,(ne this #[44])],
#[vB,(hw.perm (p.trans c.per))],
#[vC,(e.ss,e.g)],
#[vD,(by rw[QJ,FV.noName];rfl)],
#[vE,(by rw[QJ,FV.noAttr];rfl)],
#[vF,(binaryOp .Add)],
#[vG,(arrOf st)],
#[vH,(Zt kvs k)],
#[vI,(ZS x y=0/\a<b)],
#[vJ,(Yd L e.1 ks r)],
#[vK,(Y.Lo++[#[iX]])],
#[vL,(X.wish E)],
#[vM,(X.pnd ah)],
#[vN,(Sum.inr a:Key)],
#[vO,(Sum.inl a:Key)],
#[vP,(Qw y (by rw[aP];decide))],
#[vQ,(Qt _ rfl)],
#[vR,(I.freeC x c e)],
#[vS,(DVs.mono s hs)],
#[vT,(DHs.mono s hs)],
#[vU,(.type T)],
#[vV,(.Compare a [op] [b] pos)],
#[vW,#[hU,ok,j,a,st]],
#[vX,#[h3,Loc]],
#[vY,#[h2,#[I],1,hr]],
#[vZ,#[h2,#[73],4,p]],
#[v0,#[fx,a,b,#[74]]],
#[v1,#[fN,p,#[73],4]],
#[v2,#[ev,3,"coming",#[11],NA]],
#[v3,#[ev,1,"row_of",#[ah],PY]],
#[v4,#[em,2,"way_up",#[cx],Np]],
#[v5,⟨_,rfl,_,rfl,rfl,?_⟩],
#[v6,by rw[decide_eq_true rfl]],
#[v7,by obtain⟨a,q⟩:=Inv.readsAll I c f],
#[v8,by have nF:N.length<=2 ^ 8:=Ql hZ #[6]],
#[v9,behindInMarks op b=false],
#[wa,X.s₀.heap.objs.size<=e],
#[wb,SeqAt.EqAt.bool_bool _ _],
#[wc,(upd H a (.frz m #[l9]))],
#[wd,(upd H a (.frz j #[cC]))],
#[we,(e.g<e.ss.length\/ks=[])],
#[wf,(by subst e;exact #[dk])],
#[wg,(by show ¬ 2<=1;decide)],
#[wh,(by rw[d];simpa using k)],
#[wi,(List.range h.objs.size)],
#[wj,(KP (s:=#[c8]) X I c ?_)],
#[wk,(Int.emod_nonneg _ #[2])],
#[wl,(.lst (#[bA]++[.int z]))],
#[wm,(.Slice lo hi (U st) p2)],
#[wn,(((a-lo).toNat:Nat):Int)],
#[wo,("_law_left_here",.free)],
#[wq,#[g6,o.names.lookup,y.1]],
#[wr,#[em,3,"liken",#[99],Od]],
#[ws,⟨us,[]⟩],
#[wt,⟨o,k it #[4] o e,r⟩],
#[wu,⟨by simp,λQ d=>?_⟩],
#[wv,⟨_,λaQ H' h=>h,?_⟩],
#[ww,⟨?_,?_⟩],
#[wx,λx:Int×Option al=>x.1],
#[wy,s.toks],
#[wz,by simp only[Option.bind_some];rw[h4]],
#[wA,s.TypeIs (.ref z) "zip"],
#[wB,by rw[if_neg (λz=>h #[cn]),if_neg h]],
#[wC,r.length],
#[wD,h.objs.size<=a],
#[wE,bf #[22] X.A X.env X.xe],
#[wF,ae->Prop],
#[wG,aF.get?_push_at rfl rfl],
#[wH,[.ref m]],
#[wI,Win #[cZ] #[k5] (U e.n)],
#[wJ,SO P nb n ks d],
#[wK,PySem.W.handedIn v=true],
#[wL,KT H kvs xs],
#[wM,A.freeze B True.intro j],
#[wN,1<ns.length],
#[wO,(∀b∈fp,WU X ah H b)],
#[wP,(x == n)=false],
#[wQ,(sc.map V.int)],
#[wR,(n == 1||a.length == 0)],
#[wS,(kvM L).length=L.length],
#[wT,(if i<0 then -i else i)],
#[wU,(g i2 #[4])],
#[wV,(g i1 #[4])],
#[wW,(g TO #[4])],
#[wX,(exN e C c)],
#[wY,(cne y c e)],
#[wZ,(cds z)],
#[w0,(by rw[QJ,FV.hasB,Qaz])],
#[w1,(be lo a af n)],
#[w2,(ae×Int×Int)],
#[w3,(aa.ref #[G]::(us++ds))],
#[w4,(aD [e] X.env)],
#[w5,(Zg i _)],
#[w6,(ZF.refl H)],
#[w7,(Uh f y fs)],
#[w8,(U (-1))],
#[w9,(Qbm _ Qap)],
#[xa,(PySem.W.plainGet_of a)],
#[xb,(List.take_sublist _ _)],
#[xc,(List.mem_reverse.mp j)],
#[xd,(L.map (·.p))],
#[xe,(Key×V)],
#[xf,(J b o e a)],
#[xg,(I.mod.glob.keeps I.bk)],
#[xh,(0:Int)],
#[xi,(.str z)],
#[xj,(.ref a.heap.objs.size)],
#[xk,(.own a)],
#[xl,(.inr "number",.int nb)],
#[xm,((Z4 s (ZZ M)).map stV)],
#[xn,(#[gv,C,L]-#[gv,C,z]+1)],
#[xo,#[gm,dx,hm]],
#[xp,#[ev,3,"meet",#[ae],ND]],
#[xq,#[eK,ixT,3]],
#[xr,#[e0,id]],
#[xs,#[e0,"min"]],
#[xt,#[Zc,#[eb],#[ct],#[cS]]],
#[xu,#[XO,‹0›,(@LA _ _)]],
#[xv,#[3,Wz]],
#[xw,a_,#[Zk,(YU K),#[5],T.b.n_len,Qr,#[Zc,a_]]],
#[xx,a_,b_,∀a_ s',Inv X ah σ b_ s'->ZI v a_->Q a_ s'],
#[xy,a_,b_,c_,aF.SameBut a_ b_ c_],
#[xz,a_,b_,⟨.str a_,H,I.tok _,#[K],b_⟩],
#[xA,a_,b_,⟨.bl a_,H,I,rfl,b_⟩],
#[xB,a_,b_,c_,d_,#[ZH,a_,#[ZH,b_,‹c_›,‹d_›],#[Zj]]],
#[xC,a_,b_,by rw[if_neg a_]at b_],
#[xD,a_,b_,c_,Z5 X.prog X.w (upd H a_ b_) c_ a_ b_],
#[xE,a_,(λz=>(a_ _ z).2.1 rfl)],
#[xF,a_,absurd rfl a_],
#[xG,a_,b_,c_,d_,e_,by obtain⟨oc,od,kV,a_,b_,c_,d_,ct,j4,rfl,lk,e_⟩:=F.ex],
#[xH,a_,o.data=.dict a_ ep],
#[xI,a_,[.str x,.str y,.int a_]],
#[xJ,a_,b_,c_,⟨(a_ p.1 b_).trans e,n,ne,c_,d⟩],
#[xK,a_,Qac (M:=ay prog w) X a_],
#[xL,a_,b_,by refine a_ b_ #[E] #[V]],
#[xM,a_,b_,c_,d_,(lcp x a_<=lcp b_ c_/\lcp d_ z=lcp x a_)],
#[xN,a_,b_,by have a_:=b_ h2;rw[z,a_]at this],
#[xO,a_,b_,c_,(upd a_ b_ #[eu,c_]) b_=U #[eu,c_]],
#[xP,a_,(∀f,Yr #[nO] (a_ f))],
#[xQ,a_,b_,c_,⟨a_,G.extBut _ _ b_ c_⟩],
#[xR,a_,(bx a_ X.env).length=n],
#[xS,a_,b_,(.Subscript a_ b_ pos)],
#[xT,a_,(.cons a_ .nil)],
#[xU,a_,b_,(by rw[a_,b_];lia)],
#[xV,a_,b_,c_,⟨a_ _ a1,x,b_,λc hc z c_=>?_⟩],
#[xW,a_,b_,by rw[Zd e];exact a_ _ _ (k1 b x b_ e)],
#[xX,a_,b_,c_,d_,e_,⟨_,rfl,m,ak,a_,_,_,rfl,b_,T.cl_Merge,c_,d_ ..,e_⟩],
#[xY,a_,b_,c_,d_,e_,Own a_ Y.o Y.ra Y.ga b_ c_ (X.li+d_) (X.lo+e_)],
#[xZ,a_,b_,(upd a_ b_ #[br])]]
inductive X2 {t0 t1:Type} (p:t0->t1->Prop):Prop where
 | mk (a0:t0) (a1:t1) (h:p a0 a1)
inductive X3 {t0 t1 t2:Type} (p:t0->t1->t2->Prop):Prop where
 | mk (a0:t0) (a1:t1) (a2:t2) (h:p a0 a1 a2)
inductive X4 {t0 t1 t2 t3:Type} (p:t0->t1->t2->t3->Prop):Prop where
 | mk (a0:t0) (a1:t1) (a2:t2) (a3:t3) (h:p a0 a1 a2 a3)
inductive X5 {t0 t1 t2 t3 t4:Type} (p:t0->t1->t2->t3->t4->Prop):Prop where
 | mk (a0:t0) (a1:t1) (a2:t2) (a3:t3) (a4:t4) (h:p a0 a1 a2 a3 a4)
inductive X6 {t0 t1 t2 t3 t4 t5:Type} (p:t0->t1->t2->t3->t4->t5->Prop):Prop where
 | mk (a0:t0) (a1:t1) (a2:t2) (a3:t3) (a4:t4) (a5:t5) (h:p a0 a1 a2 a3 a4 a5)
inductive X7 {t0 t1 t2 t3 t4 t5 t6:Type} (p:t0->t1->t2->t3->t4->t5->t6->Prop):Prop where
 | mk (a0:t0) (a1:t1) (a2:t2) (a3:t3) (a4:t4) (a5:t5) (a6:t6) (h:p a0 a1 a2 a3 a4 a5 a6)
inductive X8 {t0 t1 t2 t3 t4 t5 t6 t7:Type} (p:t0->t1->t2->t3->t4->t5->t6->t7->Prop):Prop where
 | mk (a0:t0) (a1:t1) (a2:t2) (a3:t3) (a4:t4) (a5:t5) (a6:t6) (a7:t7) (h:p a0 a1 a2 a3 a4 a5 a6 a7)
inductive X9 {t0 t1 t2 t3 t4 t5 t6 t7 t8:Type} (p:t0->t1->t2->t3->t4->t5->t6->t7->t8->Prop):Prop where
 | mk (a0:t0) (a1:t1) (a2:t2) (a3:t3) (a4:t4) (a5:t5) (a6:t6) (a7:t7) (a8:t8) (h:p a0 a1 a2 a3 a4 a5 a6 a7 a8)
inductive X10 {t0 t1 t2 t3 t4 t5 t6 t7 t8 t9:Type} (p:t0->t1->t2->t3->t4->t5->t6->t7->t8->t9->Prop):Prop where
 | mk (a0:t0) (a1:t1) (a2:t2) (a3:t3) (a4:t4) (a5:t5) (a6:t6) (a7:t7) (a8:t8) (a9:t9) (h:p a0 a1 a2 a3 a4 a5 a6 a7 a8 a9)
inductive X11 {t0 t1 t2 t3 t4 t5 t6 t7 t8 t9 gu:Type} (p:t0->t1->t2->t3->t4->t5->t6->t7->t8->t9->gu->Prop):Prop where
 | mk (a0:t0) (a1:t1) (a2:t2) (a3:t3) (a4:t4) (a5:t5) (a6:t6) (a7:t7) (a8:t8) (a9:t9) (a10:gu) (h:p a0 a1 a2 a3 a4 a5 a6 a7 a8 a9 a10)
inductive X12 {t0 t1 t2 t3 t4 t5 t6 t7 t8 t9 gu ig:Type} (p:t0->t1->t2->t3->t4->t5->t6->t7->t8->t9->gu->ig->Prop):Prop where
 | mk (a0:t0) (a1:t1) (a2:t2) (a3:t3) (a4:t4) (a5:t5) (a6:t6) (a7:t7) (a8:t8) (a9:t9) (a10:gu) (a11:ig) (h:p a0 a1 a2 a3 a4 a5 a6 a7 a8 a9 a10 a11)
inductive X13 {t0 t1 t2 t3 t4 t5 t6 t7 t8 t9 gu ig jq:Type} (p:t0->t1->t2->t3->t4->t5->t6->t7->t8->t9->gu->ig->jq->Prop):Prop where
 | mk (a0:t0) (a1:t1) (a2:t2) (a3:t3) (a4:t4) (a5:t5) (a6:t6) (a7:t7) (a8:t8) (a9:t9) (a10:gu) (a11:ig) (a12:jq) (h:p a0 a1 a2 a3 a4 a5 a6 a7 a8 a9 a10 a11 a12)
inductive X14 {t0 t1 t2 t3 t4 t5 t6 t7 t8 t9 gu ig jq mM:Type} (p:t0->t1->t2->t3->t4->t5->t6->t7->t8->t9->gu->ig->jq->mM->Prop):Prop where
 | mk (a0:t0) (a1:t1) (a2:t2) (a3:t3) (a4:t4) (a5:t5) (a6:t6) (a7:t7) (a8:t8) (a9:t9) (a10:gu) (a11:ig) (a12:jq) (a13:mM) (h:p a0 a1 a2 a3 a4 a5 a6 a7 a8 a9 a10 a11 a12 a13)
inductive X15 {t0 t1 t2 t3 t4 t5 t6 t7 t8 t9 gu ig jq mM rg:Type} (p:t0->t1->t2->t3->t4->t5->t6->t7->t8->t9->gu->ig->jq->mM->rg->Prop):Prop where
 | mk (a0:t0) (a1:t1) (a2:t2) (a3:t3) (a4:t4) (a5:t5) (a6:t6) (a7:t7) (a8:t8) (a9:t9) (a10:gu) (a11:ig) (a12:jq) (a13:mM) (a14:rg) (h:p a0 a1 a2 a3 a4 a5 a6 a7 a8 a9 a10 a11 a12 a13 a14)
inductive X16 {t0 t1 t2 t3 t4 t5 t6 t7 t8 t9 gu ig jq mM rg Aj:Type} (p:t0->t1->t2->t3->t4->t5->t6->t7->t8->t9->gu->ig->jq->mM->rg->Aj->Prop):Prop where
 | mk (a0:t0) (a1:t1) (a2:t2) (a3:t3) (a4:t4) (a5:t5) (a6:t6) (a7:t7) (a8:t8) (a9:t9) (a10:gu) (a11:ig) (a12:jq) (a13:mM) (a14:rg) (a15:Aj) (h:p a0 a1 a2 a3 a4 a5 a6 a7 a8 a9 a10 a11 a12 a13 a14 a15)
set_option Elab.async false
set_option linter.all false
local macro_rules|`(tactic|nofun)=>`(tactic|(intro _ _ _ _ h;repeat(first|(obtain⟨h,_⟩:=h;subst h;rfl)|(cases h;rename_i h))))
local macro_rules|`(tactic|ac_rfl)=>`(tactic|decide +kernel)
def Qa:=@List.length_map
def Qb:=@List.getElem?_eq_getElem
def Qc:=@PySem.Heap.get?_push_of_some
def Qd:=@List.map_append
def Qe:=@List.getElem?_eq_some_iff
def Qf:=@List.length_append
def Qg:=@List.mem_map_of_mem
def Qh:=@Nat.le_refl
def Qi:=@List.mem_singleton
def Qj:=@List.mem_append
def Qk:=@List.map_map
def Ql:=@Nat.le_trans
def Qm:=@PySem.Heap.lt_size
def Qn:=@Option.some.inj
def Qo:=@Bool.false_ne_true
def Qp:=@List.getElem?_map
def Qq:=@List.mem_map
def Qr:=@PySem.boot_len
def Qs:=@List.map_cons
def Qt:=@PySem.Heap.get?_push_size
def Qu:=@Nat.zero_le
def Qv:=@List.mem_of_getElem?
def Qw:=@Nat.lt_of_lt_of_le
def Qx:=@List.take_of_length_le
def Qy:=@List.length_take
def Qz:=@List.length_singleton
def QA:=@Nat.le_of_ble_eq_true
def QB:=@Nat.ne_of_lt
def QC:=@List.mem_append_right
def QD:=@List.map_congr_left
def QE:=@List.getElem?_append_right
def QF:=@List.mem_cons_of_mem
def QG:=@PySem.W.mg_none_of
def QH:=@List.length_cons
def QI:=@List.getD_eq_getElem?_getD
def QJ:=@List.contains_cons
def QK:=@List.size_toArray
def QL:=@List.take_add_one
def QM:=@List.getElem?_append_left
def QN:=@List.mem_append_left
def QO:=@List.mem_cons
def QP:=@List.getElem?_eq_none
def QR:=@PySem.F.plainAttrs_list
def QS:=@PySem.Heap.get?_update_self
def QT:=@List.length_drop
def QU:=@List.mem_of_mem_take
def QV:=@Int.add_zero
def QW:=@PySem.Heap.size_push
def QX:=@PySem.W.kia_one
def QY:=@List.find?_cons
def QZ:=@Bool.and_eq_true
def Q0:=@PySem.W.mg_of
def Q1:=@Nat.le_succ
def Q2:=@PyProof.Rows.callWith_type1
def Q3:=@PySem.F.plainAttrs_dict
def Q4:=@PySem.W.callWith_K
def Q5:=@List.nodup_cons
def Q6:=@PySem.W.kia_tup
def Q7:=@Nat.ne_of_gt
def Q8:=@List.filterMap_cons
def Q9:=@PySem.F.slot_list_append
def Qaa:=@PySem.F.type_list_append
def Qab:=@Nat.le_of_lt
def Qac:=@PySem.W.looks_findIn
def Qad:=@List.getElem_mem
def Qae:=@List.mem_of_mem_drop
def Qaf:=@PySem.Heap.get?_update_other
def Qag:=@Bool.eq_false_iff
def Qah:=@List.mem_filter
def Qai:=@List.append_nil
def Qaj:=@List.length_filter_le
def Qak:=@List.mem_iff_getElem?
def Qal:=@Nat.add_sub_cancel
def Qam:=@Nat.lt_irrefl
def Qan:=@PySem.mem_of_lookup
def Qao:=@Nat.add_lt_add_left
def Qap:=@List.filter_sublist
def Qaq:=@PySem.Heap.get?_update_of_ne
def Qar:=@List.mem_range
def Qas:=@List.mem_cons_self
def Qat:=@Array.getElem?_eq_some_iff
def Qau:=@List.getElem?_toArray
def Qav:=@List.mem_of_find?_eq_some
def Qaw:=@List.getLastD_eq_getLast?
def Qax:=@List.getElem?_eq_none_iff
def Qay:=@List.append_assoc
def Qaz:=@Bool.or_true
def QaA:=@Nat.sub_self
def QaB:=@Array.length_toList
def QaC:=@List.length_pos_iff
def QaD:=@Nat.lt_add_of_pos_right
def QaE:=@PySem.F.slot_dict_items
def QaF:=@List.any_eq_true
def QaG:=@List.getElem?_set_self
def QaH:=@List.find?_cons_of_neg
def QaI:=@List.length_eq_one_iff
def QaJ:=@List.range_succ
def QaK:=@Nat.min_eq_left
def QaL:=@List.filter_map
def QaM:=@PySem.W.methodCall_KW
def QaN:=@List.length_replicate
def QaO:=@List.filterMap_append
def QaP:=@PySem.F.slot_dict_pop
def QaQ:=@List.cons_lt_cons_iff
def QaR:=@List.reverse_cons
def QaS:=@List.lookup_cons
def QaT:=@Nat.le_add_right
def QaU:=@PySem.evalArgs_none
def QaV:=@List.length_reverse
def QaW:=@List.take_succ_cons
def QaX:=@PySem.Heap.get?_update_ne
def QaY:=@List.any_cons
def QaZ:=@List.getLast?_eq_getLast
def Qa0:=@Bool.eq_iff_iff
def Qa1:=@Nat.not_lt
def Qa2:=@Int.emod_lt_of_pos
def Qa3:=@PySem.Str.length_append
def Qa4:=@List.pairwise_singleton
def Qa5:=@PySem.W.kitx_list
def Qa6:=@PySem.W.kitx_dict
def Qa7:=@Int.toNat_natCast
def Qa8:=@List.map_nil
def Qa9:=@Option.map_eq_some_iff
def Qba:=@List.Pairwise.map
def Qbb:=@Nat.pow_succ
def Qbc:=@List.nodup_append
def Qbd:=@List.length_pos_of_mem
def Qbi:=@PySem.W.any_some
def Qbj:=@Nat.lt_succ_self
def Qbk:=@List.all_eq_true
def Qbl:=@Nat.succ_le_succ
def Qbm:=@List.Sublist.map
namespace L2
open PySem PySem.Spec PyProof.Rows
abbrev Key:=Sum Int al
noncomputable def VG:Key->aa->Bool
 | .inl k,v=>aa.isInt k v
 | .inr x,v=>aa.isStrOf x v
noncomputable def MP(w:aE):Key->Int
 | .inl k=>hashInt k
 | .inr x=>hashStr w x
theorem Wy:∀ {k:Key} {v:aa},VG k v=true->(X2 λi t=>k=Sum.inl i/\v=aa.int i t)\/(X2 λx t=>k=Sum.inr x/\v=aa.str x t)
 | .inl i,v,h=>by obtain⟨t,e⟩:=aa.isInt_shape (k:=i) (v:=v) h;exact .inl ⟨i,t,rfl,e⟩
 | .inr x,v,h=>by obtain⟨t,e⟩:=aa.isStrOf_shape (x:=x) (v:=v) h;exact .inr ⟨x,t,rfl,e⟩
theorem ZnJ(i:Int)(t:Tok):VG (.inl i) (.int i t)=true:=by simp[VG,aa.isInt]
theorem ZnK(x:al)(t:Tok):VG (.inr x) (.str x t)=true:=by simp[VG,aa.isStrOf]
theorem Zs8(a b:Int):decide (#[vO]=Sum.inl b)=(a == b):=by
 by_cases e:a=b
 ·subst e;simp
 ·have h:¬ #[vO]=Sum.inl b:=λq=>e (Sum.inl.inj q);rw[decide_eq_false h];exact(beq_eq_false_iff_ne.mpr e).symm
theorem Zsy(a b:al):decide (#[vN]=Sum.inr b)=decide (a=b):=by
 by_cases e:a=b
 ·subst e;simp
 ·have h:¬ #[vN]=Sum.inr b:=λq=>e (Sum.inr.inj q);rw[decide_eq_false h,decide_eq_false e]
theorem ZsM(a:Int)(b:al):decide (#[vO]=Sum.inr b)=false:=#[pY]
theorem Zsp(a:al)(b:Int):decide (#[vN]=Sum.inl b)=false:=#[pY]
noncomputable def ZQ(prog:ax)(w:aE):PySem.KeyKind prog w Key where
 is:=VG
 hash:=MP w
 inj:=λv a b g f=>by
  rcases Wy g with⟨i,t,rfl,rfl⟩|⟨x,t,rfl,rfl⟩
  ·rcases Wy f with⟨j,u,rfl,e⟩|⟨y,u,rfl,e⟩
   ·injection e with c _;rw[c]
   ·exact nomatch e
  ·rcases Wy f with⟨j,u,rfl,e⟩|⟨y,u,rfl,e⟩
   ·exact nomatch e
   ·injection e with c _;rw[c]
 byValue:=λk v h=>by rcases Wy h with⟨i,t,rfl,rfl⟩|⟨x,t,rfl,rfl⟩<;>rfl
 pyHash:=λd h=>by
  rcases Wy d with⟨i,t,rfl,rfl⟩|⟨x,t,rfl,rfl⟩
  ·exact wpAny_pyHash_int h
  ·exact wpAny_pyHash_str h
 eqBool:=λl d h=>by
  rcases Wy l with⟨i,t,rfl,rfl⟩|⟨x,t,rfl,rfl⟩
  ·rcases Wy d with⟨j,u,rfl,rfl⟩|⟨y,u,rfl,rfl⟩
   ·rw[Zs8]at h;exact wpAny_eqBool_int h
   ·rw[ZsM]at h;exact SeqAt.EqAt.int_str i t y u _ _ _ _ h
  ·rcases Wy d with⟨j,u,rfl,rfl⟩|⟨y,u,rfl,rfl⟩
   ·rw[Zsp]at h;exact SeqAt.EqAt.str_int x t j u _ _ _ _ h
   ·rw[Zsy]at h;exact wpAny_eqBool_str h
 «strs»:=λk x t v h=>by
  rcases Wy h with⟨i,u,rfl,e⟩|⟨y,u,rfl,e⟩
  ·exact nomatch e
  ·injection e with c _;subst c;cases v<;>rfl
theorem Zk6(prog:ax)(w:aE)(k:Key)(v:aa):(ZQ prog w).is k v=VG k v:=rfl
theorem ZkO(prog:ax)(w:aE)(i:Int)(t:Tok):(ZQ prog w).is (.inl i) (.int i t)=true:=ZnJ i t
theorem Zk1(prog:ax)(w:aE)(x:al)(t:Tok):(ZQ prog w).is (.inr x) (.str x t)=true:=ZnK x t
inductive V where
 | non|bl (b:Bool)|int (i:Int)|str (x:al)|byt (b:Array UInt8)|flt (b:UInt64)|ref (a:ae)|ty (n:String)
 deriving DecidableEq
def ZI:V->aa->Prop
 | .non,u=>u=aa.none
 | .bl b,u=>u=aa.bool b
 | .int i,u=>∃t,u=aa.int i t
 | .str x,u=>∃t,u=aa.str x t
 | .byt b,u=>∃t,u=aa.bytes b t
 | .flt b,u=>∃t,u=aa.float b t
 | .ref a,u=>u=aa.ref a
 | .ty n,u=>u=aa.type n
abbrev ZK:List V->List aa->Prop:=Paired ZI
theorem ZK.length{xs:#[pO]}{us:#[bd]}(r:ZK xs us):xs.length=us.length:=Paired.length r
theorem ZK.get:∀ {xs:List V} {us:List aa} {i:Nat} {x:V},ZK xs us->xs[i]? = U x->∃u,us[i]? = U u/\ZI x u
 | _,_,_,_,.nil,e=>by simp at e
 | _,_,0,_,.cons r _,e=>by simp at e;subst e;exact⟨_,rfl,r⟩
 | _,_,i+1,x,.cons _ t,e=>by obtain⟨u,h1,h2⟩:=ZK.get (i:=i) (x:=x) t #[el,e];exact⟨u,by simpa using h1,h2⟩
theorem ZK.set{x:V}{u:aa}(r:ZI x u):∀ {xs:List V} {us:List aa} (i:Nat),ZK xs us->ZK (xs.set i x) (us.set i u)
 | _,_,_,.nil=>.nil
 | _,_,0,.cons _ t=>.cons r t
 | _,_,i+1,.cons q t=>.cons q (ZK.set r i t)
theorem ZK.append:∀ {xs ys:List V} {us ws:List aa},ZK xs us->ZK ys ws->ZK (xs++ys) (us++ws)
 | _,_,_,_,.nil,s=>s
 | _,_,_,_,.cons r t,s=>.cons r (ZK.append t s)
theorem ZK.take:∀ {xs:List V} {us:List aa} (n:Nat),ZK xs us->ZK (xs.take n) (us.take n)
 | _,_,0,_=>.nil
 | _,_,_+1,.nil=>.nil
 | _,_,n+1,.cons r t=>.cons r (ZK.take n t)
theorem ZK.drop:∀ {xs:List V} {us:List aa} (n:Nat),ZK xs us->ZK (xs.drop n) (us.drop n)
 | _,_,0,r=>r
 | _,_,_+1,.nil=>.nil
 | _,_,n+1,.cons _ t=>ZK.drop n t
def Yr:Option V->Option aa->Prop
 | some v,U u=>ZI v u
 | none,af=>True
 | _,_=>False
def KV{a:Type}:List (a×V)->List (a×aa)->Prop:=Paired λ(p:a×V) (q:a×aa)=>p.1=q.1/\ZI p.2 q.2
noncomputable def kV:Key->V
 | .inl i=>.int i
 | .inr x=>.str x
inductive HO where
  | lst (xs:List V)
  | tup (xs:List V)
  | dK (kvs:List (Key×V))|dT (kvs:List (List Key×V))
  | set (S:Int->Bool) (n:Nat)
  | ins (C dx:ae) (fs:List (al×V))
  | own (x:ae)
  | xd (fs:List (al×V))
  | met (f x:ae)
  | rng (lo hi:Int)
  | frz (o:aJ) (u:HO)
  | tbl (ps:Array aa)
  | ext (φ:aF->Prop)
noncomputable abbrev Hp:=ae->Option HO
noncomputable def upd(H:Hp)(a:ae)(o:HO):Hp:=λb=>if b=a then U o else H b
theorem Zb{H:Hp}{a:ae}{o:HO}:upd H a o a=U o:=by unfold upd;rw[if_pos rfl]
theorem Zd{H:Hp}{a b:ae}{o:HO}(h:b≠a):upd H a o b=H b:=by unfold upd;rw[if_neg h]
theorem MO{H:Hp}{a:ae}{o u:HO}:upd #[oH] a u=upd H a u:=by funext b;unfold upd;split<;>rfl
theorem PM{H:Hp}{a b:ae}{o u:HO}(h:H a=U o)(h':H b=U u)(d:o≠u):a≠b:=by intro e;subst e;rw[h]at h';exact d (Qn h')
theorem Zf{H:Hp}{a b:ae}{o:HO}(h:H a=U o)(h':H b=af):a≠b:=by intro e;subst e;rw[h]at h';cases h'
section
variable (P:ax) (w:aE)
def Z5(H:Hp)(h:aF)(a:ae):HO->Prop
 | .lst xs=>xs.length<=ao/\X2 λ(its:List aa) (n:Nat)=>ZK xs its/\h.get? a=U { cls:=.type "list",data:=.seq its.toArray n }
 | .tup xs=>xs.length<=ao/\∃its:List aa,ZK xs its/\IsTup h a its.toArray
 | .dK b=>b.length<=ao/\#[pz]=false/\∃g,KV b g/\h.DictOf #[th] a g
 | .dT b=>b.length<=ao/\#[pz]=false/\∃xs:List (List Key×ae×aa),
   Paired (λ(p:List Key×V) (q:List Key×ae×aa)=>p.1=q.1/\H q.2.1=U (.tup (p.1.map kV))/\ZI p.2 q.2.2) b xs /\
   X3 λo i l=>h.get? a=U o/\o.ExactDict/\o.data=.dict i l/\i.toList=xs.map (entryOfKey #[jh])/\(xs.map #[T]).Nodup
 | .set S n=>h.SetOf (intKind P w) a S n
 | .ins C d fs=>H d=U #[xk]/\fs.length<=1000/\d≠a/\h.get? a=U (PySem.W.instObj C d) /\
   ∃c,h.Ns1 d c/\#[xP,c]/\PySem.Within c #[nN]
 | .own _=>∃o,h.get? a=U o
 | .xd fs=>∃c,h.Ns1 a c/\∀f,Yr #[nO] (c f)
 | .rng lo m=>X3 λt u v=>h.get? a=U { cls:=.type "range",data:=.fields #[.int lo t,.int m u,.int 1 v] }
 | .frz o u=>h.get? a=U o/\Z5 H h a u
 | .tbl r=>h.get? a=U { cls:=.none,data:=.fields r }
 | .met f x=>h.get? a=U (PySem.W.methodObj #[bT] #[nw])
 | .ext e=>e h/\(∃o,h.get? a=U o)/\∀j k:aF,e j->(∀o,j.get? a=U o->k.get? a=U o)->e k
def HOk(H:Hp)(h:aF):Prop:=∀a o,H a=U o->Z5 P w H h a o
universe E
section
variable {P:ax} {w:aE} {H H':Hp} {h h':aF} {a:ae} {o:HO}
theorem Z5.lt(x:Z5 P w H h a o):a<h.objs.size:=by
 cases o with
 | lst c=>obtain⟨_,_,_,_,e⟩:=x;exact Qm e
 | tup c=>obtain⟨_,_,_,p⟩:=x;exact p.lt
 | dK b=>obtain⟨_,_,_,_,o,_,_,e,_⟩:=x;exact Qm e
 | dT b=>obtain⟨_,_,_,_,o,_,_,e,_⟩:=x;exact Qm e
 | set S n=>obtain⟨o,_,_,_,e,_⟩:=x;exact Qm e
 | ins C dx fs=>obtain⟨_,_,_,e,_⟩:=x;exact Qm e
 | own y=>obtain⟨_,e⟩:=x;exact Qm e
 | xd fs=>obtain⟨_,⟨_,_,_,e,_⟩,_⟩:=x;exact Qm e
 | rng lo hi=>obtain⟨_,_,_,e⟩:=x;exact Qm e
 | frz ob u=>obtain⟨e,_⟩:=x;exact Qm e
 | tbl ps=>exact Qm #[uT]
 | met f y=>exact Qm #[uT]
 | ext φ=>obtain⟨_,⟨_,e⟩,_⟩:=x;exact Qm e
theorem Paired.mapP{α c:Type}{F G:α->c->Prop}:∀ {d:List α} {l₂:List c},Paired F d l₂->(∀a b,F a b->G a b)->Paired G d l₂
 | _,_,.nil,_=>.nil
 | _,_,.cons r t,f=>.cons (f _ _ r) (Paired.mapP t f)
theorem Z5.stay(x:Z5 P w H h a o)(k:∀b u,(b=a\/H b=U #[xk])->h.get? b=U u->h'.get? b=U u)
  (B:∀b,H b=U #[xk]->H' b=U #[xk]) (D:#[fc,xs,H,#[dG],H']):Z5 P w H' h' a o:=by
 induction o with
 | lst xs=>obtain⟨z,its,n,r,e⟩:=x;exact⟨z,its,n,r,k _ _ #[8] e⟩
 | tup xs=>obtain⟨z,its,r,g,e,c⟩:=x;exact⟨z,its,r,g,k _ _ #[8] e,c⟩
 | dK l=>obtain⟨z,y,E,r,g,i,j,e,c⟩:=x;exact⟨z,y,E,r,g,i,j,k _ _ #[8] e,c⟩
 | dT l=>obtain⟨z,y,xs,r,g,i,j,e,c⟩:=x;exact⟨z,y,xs,Paired.mapP r λp q z=>⟨z.1,D _ _ z.2.1,z.2.2⟩,g,i,j,k _ _ #[8] e,c⟩
 | set S n=>obtain⟨g,i,j,t,e,c⟩:=x;exact⟨g,i,j,t,k _ _ #[8] e,c⟩
 | ins C dx fs=>obtain⟨d,z,ne,e,m,⟨s,i,j,F,c⟩,r⟩:=x;exact⟨B _ d,z,ne,k _ _ #[8] e,m,⟨s,i,j,k _ _ (.inr d) F,c⟩,r⟩
 | own y=>obtain⟨g,e⟩:=x;exact⟨g,k _ _ #[8] e⟩
 | xd fs=>obtain⟨m,⟨s,i,j,e,c⟩,r⟩:=x;exact⟨m,⟨s,i,j,k _ _ #[8] e,c⟩,r⟩
 | rng lo hi=>obtain⟨t,u,v,e⟩:=x;exact⟨t,u,v,k _ _ #[8] e⟩
 | frz g u G=>obtain⟨e,q⟩:=x;exact⟨k _ _ #[8] e,G q⟩
 | tbl A=>have e:h.get? a=U { cls:=.none,data:=.fields A }:=x;show h'.get? a=U { cls:=.none,data:=.fields A };exact k a _ #[8] e
 | met f y=>have e:h.get? a=U #[pa]:=x;show h'.get? a=U #[pa];exact k a _ #[8] e
 | ext φ=>obtain⟨p,⟨o,e⟩,st⟩:=x;exact⟨st _ _ p λo q=>k _ _ #[8] q,⟨o,k _ _ #[8] e⟩,st⟩
theorem HOk.lt(x:#[dX])(e:H a=U o):a<h.objs.size:=(x a o e).lt
theorem HOk.fresh(x:#[dX])(e:#[wD]):H a=af:=by
 cases q:H a with
 | none=>rfl
 | some u=>exact absurd (Qw (x.lt q) e) (Qam _)
theorem HOk.kept(x:#[dX])(k:#[cG]):HOk P w H h':=λa o e =>
 (x a o e).stay (λb u _ q=>k b u q) (λ_ q=>q) λ_ _ q=>q
theorem HOk.laid(x:#[dX])(k:#[cG])(g:#[wD])(new:Z5 P w #[oH] h' a o):HOk P w #[oH] h':=λb u e=>by
 have d:=x.fresh g;by_cases f:b=a
 ·show#[hz,f,Zb,e];exact new
 ·rw[Zd f]at e;exact(x b u e).stay (λc v _ q=>k c v q) (λc q=>by rw[Zd (Zf q d)];exact q) λc xs q=>by rw[Zd (Zf q d)];exact q
universe E
def Rd(H:Hp)(a:ae)(u:HO):Prop:=H a=U u\/∃o,H a=U #[l8]
theorem Rd.ok{P:ax}{w:aE}{H:Hp}{h:aF}{a:ae}{u:HO}(r:Rd H a u)(x:#[dX]):Z5 P w H h a u:=by
 rcases r with r|⟨o,r⟩
 ·exact x a u r
 ·obtain⟨_,q⟩:=x a _ r;exact q
def Mut:Option HO->Prop
 | some (.lst _)=>True
 | some (.dK _)=>True
 | some (.dT _)=>True
 | some (.set _ _)=>True
 | some (.ins _ _ _)=>True
 | some (.ext _)=>True
 | _=>False
section
variable {P:ax} {w:aE} {H:Hp} {h h':aF} {x e:ae} {o':HO}
theorem HOk.write(ok:#[dX])(a:Mut (H x))(he:#[pl])(k:#[hu,b,u,e,h.get?])(l:#[qc])
  (new:Z5 P w (upd H x o') h' x o'):HOk P w (upd H x o') h':=λb u q=>by
 have i:∀c y,H c=U (.own y)->c≠x:=λc y r z=>by subst z;rw[r]at a;exact a
 have m:∀c d,H c=U (.tup d)->c≠x:=λc d r z=>by subst z;rw[r]at a;exact a
 by_cases f:b=x
 ·show#[hz,f,Zb,q];exact new
 ·rw[Zd f]at q;by_cases g:b=e
  ·have j:H b=U (.own x):=by
    rcases he with z|z
    ·exact absurd (g.trans z) f
    ·rw[g];exact z
   show#[fe,q,j,j];show#[ep,v,n,l];exact⟨v,by rw[g];exact n⟩
  ·refine(ok b u q).stay (λc v hc r=>k c v ?_ r) (λc r=>by rw[Zd (i c b r)];exact r) λc d r=>by rw[Zd (m c d r)];exact r
   rcases hc with rfl|hc
   ·exact g
   ·rintro rfl;rcases he with z|z
    ·exact i c b hc z
    ·show#[fe,hc,z,z];exact f rfl
universe E
structure Un (fs ex:#[mj]) (H H':Hp) (h h':aF):Prop where
 keep:∀b o,h.get? b=U o->H b=af->b ∉ fs->b ∉ ex->h'.get? b=U o
 slot:∀b o,h.get? b=U o->H b=af->b∈fs->b ∉ ex->∃sl,h'.get? b=U { o with slots:=sl }
 free:∀b o,h.get? b=U o->H b=af->b ∉ ex->H' b=af
 there:∀b o,h.get? b=U o->b ∉ ex->∃o',h'.get? b=U o'
 tups:∀b xs,H b=U #[dG]->H' b=U #[dG]
 frzs:∀b o u,H b=U #[l8]->H' b=U #[l8]
 tbls:∀b ps,H b=U (.tbl ps)->∃more,H' b=U (.tbl (ps++more))
section
variable {fs qj ex ex':List ae} {H H1 H2:Hp} {h h1 h2 h':aF} {a x e:ae} {o:HO}
theorem Un.any(u:Un fs ex H H1 h h1){b:ae}{ob:aJ}(q:h.get? b=U ob)(n:H b=af)(hx:b ∉ ex):∃sl,h1.get? b=U { ob with slots:=sl }:=by
 by_cases a:b∈fs
 ·exact u.slot b ob q n a hx
 ·exact⟨ob.slots,u.keep b ob q n a hx⟩
theorem Un.kept(k:#[cG]):Un fs ex H H h h' :=
 ⟨λb a q _ _ _=>k b a q,λb a q _ _ _=>⟨a.slots,k b a q⟩,λ_ _ _ n _=>n,λb a q _=>⟨a,k b a q⟩,λ_ _ q=>q,λ_ _ _ q=>q,λ_ ps q=>⟨#[],by rw[q];simp⟩⟩
theorem Un.refl:Un fs ex H H h h:=Un.kept λ_ _ q=>q
theorem Un.laid(k:#[cG])(d:#[wD])(c:H a=af):Un fs ex H #[oH] h h' where
 keep:=λb u q _ _ _=>k b u q
 slot:=λb u q _ _ _=>⟨u.slots,k b u q⟩
 free:=λb u q n _=>by rw[Zd (QB (Qw (Qm q) d))];exact n
 there:=λb u q _=>⟨u,k b u q⟩
 tups:=λb e q=>by rw[Zd (Zf q c)];exact q
 frzs:=λb u e q=>by rw[Zd (Zf q c)];exact q
 tbls:=λb ps q=>⟨#[],by rw[Zd (Zf q c),q];simp⟩
theorem Un.write(a:Mut (H x))(he:#[pl])(k:#[hu,b,u,e,h.get?])(i:#[qc]):Un fs ex H (upd H x o) h h':=by
 have d:∀b,H b=af->b≠x:=λb n z=>by subst z;rw[n]at a;exact a
 have f:∀b,H b=af->b≠e:=λb n z=>by
  subst z;rcases he with r|r
  ·exact d b n r
  ·show#[fe,n,r,r]
 have c:∀b u,H b=U u->¬ Mut (U u)->b≠x:=λb u q j z=>by subst z;rw[q]at a;exact j a
 refine⟨λb u q n _ _=>k b u (f b n) q,λb u q n _ _=>⟨u.slots,k b u (f b n) q⟩,λb u q n _=>by rw[Zd (d b n)];exact n,λb u q _=>?_,
  λb l q=>by rw[Zd #[ui]];exact q,λb u l q=>by rw[Zd #[ui]];exact q,λb ps q=>⟨#[],by rw[Zd #[ui],q];simp⟩⟩
 by_cases g:b=e
 ·subst g;exact i
 ·exact⟨u,k b u g q⟩
universe E
noncomputable def trk(h:aF)(H:Hp):List ae:=#[wi].filter λa=>(H a).isSome
noncomputable def Wg(h:aF)(H:Hp):aF:=PySem.W.hideAll h (trk h H)
theorem ZmJ(h:aF)(H:Hp):(Wg h H).objs.size=h.objs.size:=PySem.W.hideAll_size _ _
theorem Zo2{h:aF}{H:Hp}{b:ae}{o:aJ}(e:h.get? b=U o)(n:H b=af):(Wg h H).get? b=U o :=
 PySem.W.hideAll_get _ e λa=>by have q:(H b).isSome=true:=(Qah.mp a).2;rw[n]at q;simp at q
theorem Zqx{h:aF}{H:Hp}{b:ae}{o:aJ}(e:(Wg h H).get? b=U o):h.get? b=U o/\H b=af:=by
 have a:h.get? b=U o:=PySem.W.of_hideAll (trk h H) e;refine⟨a,?_⟩;cases q:H b with
 | none=>rfl
 | some x=>have c:b∈trk h H:=List.mem_filter.mpr ⟨Qar.mpr (Qm a),by simp[q]⟩;have z:(Wg h H).get? b=af:=PySem.W.hideAll_none (trk h H) c;show#[fe,z,e,e]
noncomputable def Zru(g h:aF)(L:ae):List (ae×aJ):=#[wi].filterMap λa=>if a=L\/(g.get? a).isSome=true then af else (h.get? a).map λo=>(a,o)
noncomputable def rest(g h:aF)(L d:ae):List (ae×aJ):=(Zru g h L).filter λp=>decide (p.1≠d)
structure Mod (K:#[7]) (mg:#[R]) (base:aF):Prop where
 kin:K.In base
 glob:base.Ns aL mg
 blt:∃mb,base.Ns builtinsNs mb/\∀x:al,x ≠ "__name__"->mb x=cm x
 nolimit:base.NoLimit
structure Cx where
 prog:ax
 w:aE
 K:#[7]
 mg:al->Option aa
 base:aF
 A:aB
 N:List al
 s₀:ai
 H₀:Hp
 env:Env
 outer:List Env
 stack:List Env
 ex:List ae
 fn:al->Bool
 calm:Bool
 pn:List (ae×aJ)
 xe:aa->ai->Prop
noncomputable def frs(l:#[ow]):List ae:=l.filterMap (·.frame)
noncomputable abbrev Cx.fs(X:Cx):List ae:=frs X.outer
def Vis(a:bh)(x:al):Prop:=a.names.lookup x=U .local\/a.names.lookup x=U .cell\/a.names.lookup x=U .free
def Loc(a:bh)(x:al):Prop:=a.names.lookup x=U .local\/a.names.lookup x=U .cell
def MN(env:Env)(h:aF)(m:#[R])(x:al)(u:aa):Prop :=
 (env.kindOf x=U .local/\m x=U u)\/(#[g6,env.kindOf,x]/\∃c,env.cells.lookup x=U c/\h.IsCell c (U u))
structure Cx.Ok (X:Cx):Prop where
 mod:Mod X.K X.mg X.base
 kind:X.env.scope.kind=.function
 glob:X.env.globals=aL
 blt:X.env.builtins=builtinsNs
 above:X.s₀.heap.objs.size<=X.env.locals
 inj:∀x y c,X.env.cells.lookup x=U c->X.env.cells.lookup y=U c->x=y
 has:∀x,#[g6,X.env.kindOf,x]->∃c,X.env.cells.lookup x=U c
 cab:∀x c,X.fn x=true->X.env.cells.lookup x=U c->X.s₀.heap.objs.size<=c
 hd:X.calm=true->X.A.handled=af
 frames:X.A.frames=U X.stack
 stk:X.stack=X.outer\/(X.stack=X.env::X.outer/\X.env.frame=U X.env.locals)
 exf:∀b∈X.ex,b≠X.env.locals/\∀x c,X.env.cells.lookup x=U c->c≠b
 bs:∀b o,X.base.get? b=U o->X.s₀.heap.get? b=U o/\X.H₀ b=af
 bsz:X.base.objs.size<=X.s₀.heap.objs.size
 noex:∀b o,X.base.get? b=U o->b ∉ X.ex
 exfs:∀b∈X.ex,b ∉ X.fs
 funs:X.s₀.heap.FunFrames X.base X.outer
 frf:∀b∈X.fs,X.H₀ b=af
structure Inv (X:Cx) (ah:#[S]) (σ:List (Option V)) (H:Hp) (s:ai):Prop where
 ok:X.Ok
 os:s.os=X.s₀.os
 bare:AllBare s.gens
 base:Un X.fs X.ex X.H₀ H X.s₀.heap s.heap
 loc:∃m,s.heap.Ns X.env.locals m/\∀ (i:Nat) (x:al) (v:V),X.N[i]? = U x->σ[i]? = U (U v)->Vis X.env.scope x->∃u,ZI v u/\MN X.env s.heap m x u
 cell:∀x c,X.env.cells.lookup x=U c->∃v,s.heap.IsCell c v
 free:H X.env.locals=af
 freeC:∀x c,X.env.cells.lookup x=U c->H c=af
 pin:∀p∈X.pn++ah,s.heap.get? p.1=U p.2/\H p.1=af/\p.1≠X.env.locals/\p.1 ∉ X.fs/\∀v,p.2.data≠.cell v
 hok:HOk X.prog X.w H s.heap
 len:σ.length=X.N.length
section
variable {X:Cx} {ah:List (ae×aJ)} {σ:List (Option V)} {H H':Hp} {s:ai} {h':aF}
theorem Cx.Ok.nofr(ok:X.Ok){b:ae}{o:aJ}(e:X.base.get? b=U o):b ∉ X.fs:=λhb=>by have:=(ok.funs.mem hb).1;rw[e]at this;cases this
theorem Inv.bs(I:#[i]):∀b o,X.base.get? b=U o->s.heap.get? b=U o/\H b=af:=λb o e =>
 ⟨I.base.keep b o #[oT].1 #[oT].2 (I.ok.nofr e) (I.ok.noex b o e),I.base.free b o #[oT].1 #[oT].2 (I.ok.noex b o e)⟩
theorem Inv.bk(I:#[i]):∀b o,X.base.get? b=U o->s.heap.get? b=U o:=λb o e=>(I.bs b o e).1
theorem Inv.mod(I:#[i]):Mod X.K X.mg X.base:=I.ok.mod
theorem Inv.kIn(I:#[i]):X.K.In s.heap:=I.ok.mod.kin.keeps I.bk
theorem Inv.lt(I:#[i]):X.env.locals<s.heap.objs.size:=let ⟨_,a,_⟩:=I.loc;a.lt
theorem Inv.sz(I:#[i]):X.s₀.heap.objs.size<=s.heap.objs.size:=Ql I.ok.above (Qab I.lt)
theorem Inv.nofs(I:#[i]){a:ae}(h:s.heap.objs.size<=a):a ∉ X.fs:=λhb=>by obtain⟨_,o,b,_⟩:=I.ok.funs.mem hb;exact absurd (Qw (Qm b) (Ql I.sz h)) (Qam _)
theorem Inv.cne(I:#[i]):∀x c,X.env.cells.lookup x=U c->c≠X.env.locals:=λx c e z=>by obtain⟨v,o,a,b⟩:=#[uN];obtain⟨m,⟨o',es,ep,d,f,_⟩,_⟩:=I.loc;rw[z,d]at a;cases a;rw[f]at b;cases b
theorem Inv.funs(I:#[i]):s.heap.FunFrames X.base X.outer:=by
 have all:∀ (l:List Env),(∀b∈frs l,b∈X.fs)->X.s₀.heap.FunFrames X.base l->s.heap.FunFrames X.base l:=by
  intro l;induction l with
  | nil=>intro _ _;trivial
  | cons env r g=>intro f h;obtain⟨i,⟨L,o,a,j,k,m⟩,n⟩:=h;have c:L∈X.fs:=f L (by unfold frs;rw[Q8,a];exact Qas);obtain⟨sl,e⟩:=I.base.slot L o k (I.ok.frf L c) c λz=>I.ok.exfs L z c;exact⟨i,⟨L,_,a,j,e,m⟩,g (λb d=>f b (by unfold frs;rw[Q8,a];exact QF _ d)) n⟩
 exact all X.outer (λ_ d=>d) I.ok.funs
theorem Inv.stack(I:#[i]):s.heap.FunFrames X.base X.stack:=by
 rcases I.ok.stk with e|⟨e,a⟩
 ·rw[e];exact I.funs
 ·rw[e];obtain⟨m,b,_⟩:=I.loc;refine .cons (by rw[I.ok.kind];decide) a b ?_ I.funs;exact aF.get?_none_of_le (Ql I.ok.bsz I.ok.above)
theorem Inv.stkSub(I:#[i]):∀b∈frs X.stack,b∈X.env.locals::X.fs:=λb hb=>by
 rcases I.ok.stk with e|⟨e,a⟩
 ·rw[e]at hb;exact QF _ hb
 ·rw[e]at hb;unfold frs at hb;rw[Q8,a]at hb;exact hb
theorem Inv.stkFree(I:#[i]):∀b∈frs X.stack,H b=af:=λb hb=>by
 rcases QO.mp (I.stkSub b hb) with e|hb
 ·rw[e];exact I.free
 ·obtain⟨_,o,a,_⟩:=I.ok.funs.mem hb;exact I.base.free b o a (I.ok.frf b hb) λz=>I.ok.exfs b z hb
theorem Inv.step{g':Array GenState}{t':Nat}{d':Drawn}{ch:#[mj]}(I:#[i])
  (w:#[13])
  (keep:∀b o,b≠X.env.locals->b ∉ X.fs->b ∉ ch->s.heap.get? b=U o->H b=af->h'.get? b=U o)
  (slot:∀b o,b≠X.env.locals->b∈X.fs->b ∉ ch->s.heap.get? b=U o->H b=af->∃sl,h'.get? b=U { o with slots:=sl }) (free:∀b o,b ∉ ch->s.heap.get? b=U o->H b=af->H' b=af)
  (h:∀b o,b ∉ ch->s.heap.get? b=U o->∃y,h'.get? b=U y)
  (A:#[rX,b,g,H,H']) (B:∀b o u,H b=U #[l8]->H' b=U #[l8]) (C:∀b G,H b=U (.tbl G)->∃D,H' b=U (.tbl (G++D)))
  (R:∀m,s.heap.Ns X.env.locals m->h'.Ns X.env.locals m) (K:#[ox]) (S:AllBare g') :
  Inv X ah σ H' { s with heap:=h',gens:=g',drawn:=d',toks:=t' }:=by
 have M:∀b o,X.s₀.heap.get? b=U o->b≠X.env.locals:=λb o e=>QB (Qw (Qm e) I.ok.above);have J:∀b o,X.s₀.heap.get? b=U o->b ∉ X.ex->b ∉ ch:=λb o e a j=>by
  rcases(w b j).1 with z|z
  ·exact a z
  ·exact absurd (Qw (Qm e) z) (Qam _)
 have N:∀x c,X.env.cells.lookup x=U c->∀v,s.heap.IsCell c v->h'.IsCell c v:=λx c e v ⟨o,t,L⟩=>by
  have E:c ∉ ch:=λz=>(w c z).2.2.1 x c e rfl;by_cases O:c∈X.fs
  ·obtain⟨sl,q⟩:=slot c o (I.cne x c e) O E t #[vR];exact⟨_,q,L⟩
  ·exact⟨o,keep c o (I.cne x c e) O E t #[vR],L⟩
 refine⟨I.ok,I.os,S,⟨λb o e n j a=>?_,λb o e n j a=>?_,λb o e n a=>?_,λb o e a=>?_,λb g e=>A b g (I.base.tups b g e),λb o g e=>B b o g (I.base.frzs b o g e),λb G e=>?_⟩,?_,λx c e=>?_,?_,λx c e=>?_,λp P=>?_,K,I.len⟩
 ·exact keep b o (M b o e) j #[xf] #[ri,j,a] #[mM]
 ·show#[q4,sl,f,j,a];obtain⟨T,F⟩:=slot b _ (M b o e) j #[xf] f #[mM];exact⟨T,F⟩
 ·show#[hA,y,f,a];exact free b y #[xf] f #[mM]
 ·show#[hA,y,f,a];exact h b y #[xf] f
 ·obtain⟨V,f⟩:=I.base.tbls b G e;obtain⟨W,F⟩:=C b _ f;exact⟨V++W,by rw[F,Array.append_assoc]⟩
 ·show#[hU,m,Y,Z,I.loc];refine⟨m,R m Y,λi x v f F e3=>?_⟩;obtain⟨u,r,l⟩:=Z i x v f F e3;refine⟨u,r,?_⟩;rcases l with l|⟨k,c,e,z⟩
  ·exact .inl l
  ·exact .inr ⟨k,c,e,N x c e _ z⟩
 ·obtain⟨v,z⟩:=#[uN];exact⟨v,N x c e v z⟩
 ·obtain⟨m,⟨o,_,_,t,_⟩,_⟩:=I.loc;exact free _ o #[xE,w] t I.free
 ·obtain⟨v,o,t,L⟩:=#[uN];exact free c o (λz=>(w c z).2.2.1 x c e rfl) t #[vR]
 ·show#[qV,Q,P];have E:p.1 ∉ ch:=λz=>(w p.1 z).2.2.2 p P rfl;exact⟨keep p.1 p.2 ne Q E e n,free p.1 p.2 E e n,ne,Q,d⟩
theorem Inv.un{t':Nat}(I:#[i])(u:Un X.fs [] H H' s.heap h')(hok:#[ox]):Inv X ah σ H' { s with heap:=h',toks:=t' }:=by obtain⟨m,⟨o,es,ep,c,r⟩,_⟩:=id I.loc;obtain⟨sl,f⟩:=u.any c I.free #[4];exact I.step (g':=s.gens) (d':=s.drawn) (ch:=[]) (λ_ z=>nomatch z) (λb o _ a _ e n=>u.keep b o e n a #[4]) (λb o _ a _ e n=>u.slot b o e n a #[4]) (λb o _ e n=>u.free b o e n #[4]) (λb o _ e=>u.there b o e #[4]) u.tups u.frzs u.tbls (λm' g=>by obtain⟨o',h,i,d,j⟩:=g;rw[c]at d;cases d;exact⟨_,h,i,f,j⟩) hok I.bare
theorem Inv.call{g':Array GenState}{t':Nat}{d':Drawn}{ch:#[mj]}(I:#[i])(u:Un (frs X.stack) ch H H' s.heap h')(hok:#[ox])(i:AllBare g')
  (f:#[13]) :
  Inv X ah σ H' { s with heap:=h',gens:=g',drawn:=d',toks:=t' }:=by
 obtain⟨m,⟨o,es,ep,g,r⟩,_⟩:=id I.loc;obtain⟨sl,d⟩:=u.any g I.free λz=>(f _ z).2.1 rfl;exact I.step (ch:=ch) f (λb o d j a e n=>u.keep b o e n (λz=>(QO.mp (I.stkSub b z)).elim d j) a) (λb o _ _ a e n=>u.any e n a) (λb o a e n=>u.free b o e n a) (λb o a e=>u.there b o e a) u.tups u.frzs u.tbls (λm' k=>by obtain⟨o',l,q,h,t⟩:=k;rw[g]at h;cases h;exact⟨_,l,q,d,t⟩) hok i
theorem Inv.turned{t':Nat}{it:ae}(I:#[i])(k:#[hu,b,o,it,s.heap.get?])(g:H it=af)(d:it≠X.env.locals)
  (h1:it∈X.ex\/X.s₀.heap.objs.size<=it) (h2:∀x c,X.env.cells.lookup x=U c->c≠it) (h:#[q8,ah,it]):Inv X ah σ H { s with heap:=h',toks:=t' }:=by
 have f:∀b u,H b=U u->b≠it:=λb u e z=>by rw[z,g]at e;cases e
 refine I.step (g':=s.gens) (d':=s.drawn) (ch:=[it]) (λb i=>?_) (λb o _ _ a e _=>k b o #[nK] e) (λb o _ _ a e _=>⟨o.slots,k b o #[nK] e⟩) (λ_ _ _ _ n=>n)
  (λb o a e=>⟨o,k b o #[nK] e⟩) (λ_ _ e=>e) (λ_ _ _ e=>e) #[oC] (λm j=>?_) #[qK,b,u,e] I.bare
 ·have e:b=it:=by simpa using i
  subst e;exact⟨h1,d,h2,h⟩
 ·obtain⟨o,l,t,w,r⟩:=j;exact⟨o,l,t,k _ o (Ne.symm d) w,r⟩
 ·refine(I.hok b u e).stay (λc v a q=>k c v ?_ q) (λ_ q=>q) λ_ _ q=>q;rcases a with z|z
  ·rw[z];exact f b u e
  ·exact f c _ z
theorem Inv.tok(I:#[i])(t:Nat):Inv X ah σ H { s with toks:=t }:=I.un (h':=s.heap) (t':=t) Un.refl I.hok
theorem Inv.kept{t':Nat}(I:#[i])(k:#[kR]):Inv X ah σ H { s with heap:=h',toks:=t' }:=I.un (Un.kept k) (I.hok.kept k)
theorem Inv.laid{a:ae}{o:HO}{t':Nat}(I:#[i])(k:#[kR])(c:s.heap.objs.size<=a)(new:Z5 X.prog X.w #[oH] h' a o) :
  Inv X ah σ #[oH] { s with heap:=h',toks:=t' }:=I.un (Un.laid k c (I.hok.fresh c)) (I.hok.laid k c new)
theorem Inv.write{x e:ae}{o:HO}{t':Nat}(I:#[i])(a:Mut (H x))(he:#[pl])(k:#[hu,b,u,e,s.heap.get?])(c:#[qc])
  (new:#[xD,x,o,h']):Inv X ah σ (upd H x o) { s with heap:=h',toks:=t' }:=I.un (Un.write a he k c) (I.hok.write a he k c new)
theorem Inv.pins_of{a:#[S]}(I:#[i])(h:∀p∈a,s.heap.get? p.1=U p.2/\H p.1=af/\p.1≠X.env.locals/\p.1 ∉ X.fs/\∀v,p.2.data≠.cell v):Inv X a σ H s :=
 ⟨I.ok,I.os,I.bare,I.base,I.loc,I.cell,I.free,I.freeC,λp b=>(Qj.mp b).elim (λz=>I.pin p (QN _ z)) (h p),I.hok,I.len⟩
theorem PL{N:#[Q]}(c:N.Nodup){i j:Nat}{x:al}(a:N[i]? = U x)(b:N[j]? = U x):i=j:=by obtain⟨h1,d⟩:=Qe.mp a;obtain⟨h2,e⟩:=Qe.mp b;exact(List.getElem_inj c).mp (d.trans e.symm)
theorem MM{M:Model}{A:aB}{E:#[F]}{i:Nat}{x:al}{v:V}{u:aa}{Q:#[aJ]}(I:#[i])(T:#[lS])(B:#[cz])(hx:#[vX])(r:ZI v u)
  (h:∀s',Inv X ah (σ.set i (U v)) H s'->(∃a,aF.SameBut a s.heap s'.heap/\(a=X.env.locals\/X.env.cells.lookup x=U a))->Q () s') (hf:#[26]:=by first|exact #[oA]|exact #[pR]|assumption):au M A (storeName X.env x u) Q E s:=by
 show#[qS,m,F,W,id,I.loc];have jr:#[cf]:=by rw[I.ok.kind];rfl
 have Y:i<σ.length:=by rw[I.len];exact(Qe.mp B).1
 have cne:=I.cne;have Z:∀ {a:ae} {h':aF},(∃o,s.heap.get? a=U o/\H a=af)->aF.SameBut a s.heap h'->HOk X.prog X.w H h':=λ{a h'} ha f b ob e=>by
  obtain⟨_,_,fg⟩:=ha;refine(I.hok b ob e).stay (λc C hc q=>(f.2 c ?_).trans q) (λ_ q=>q) λ_ _ q=>q;rintro rfl;rcases hc with rfl|hc
  ·show#[fe,fg,e,e]
  ·show#[fe,fg,hc,hc]
 rcases hx with hk|hk
 ·refine wpAny_storeName_local hk F #[qK,h',lD,f] jr;obtain⟨oL,_,_,rl,_⟩:=id F;refine h _ ⟨I.ok,I.os,I.bare,#[bB],⟨_,lD,λj y G g l J=>?_⟩,λy c e=>?_,I.free,I.freeC,λp K=>?_,Z ⟨oL,rl,I.free⟩ f,by simpa using I.len⟩ ⟨_,f,.inl rfl⟩
  ·exact(f.2 b #[bb]).trans #[ri,t,hx]
  ·show#[q4,L,g,t,hx];show#[sd,L,f.2,g]
  ·show#[hA,N,g,hx];show#[sd,N,f.2,g]
  ·by_cases w:j=i
   ·show#[uE];exact⟨u,r,.inl ⟨hk,by simp⟩⟩
   ·show#[dz];rcases q with⟨k,e⟩|⟨k,c,e,z⟩
    ·refine .inl ⟨k,?_⟩;have:y≠x:=λe=>w (PL T g (e ▸ B));simp[this,e]
    ·exact .inr ⟨k,c,e,z.sameBut f #[wY]⟩
  ·obtain⟨C,z⟩:=I.cell y c e;exact⟨C,z.sameBut f #[wY]⟩
  ·show#[qV,R,K];exact#[xJ,f.2,ne,R]
 ·have S:X.fn x=true:=by
   rcases hf with z|z
   ·exact z
   ·show#[fe,z,hk,hk]
  obtain⟨c,hc⟩:=I.ok.has x (.inl hk);obtain⟨C,z⟩:=I.cell x c hc;refine wpAny_storeName_cell I.ok.kind hk hc z #[qK,h',lE,f];show#[qS,oc,An,Ao,id,z];refine h { s with heap:=h' } ⟨I.ok,I.os,I.bare,#[bB],⟨m,F.sameBut f (Ne.symm (cne x c hc)),λj y G g l J=>?_⟩,λy D e=>?_,I.free,I.freeC,λp K=>?_,Z ⟨oc,An,I.freeC x c hc⟩ f,by simpa using I.len⟩ ⟨c,f,.inr hc⟩
  ·exact#[dq].trans #[ri,t,hx]
  ·show#[q4,L,g,t,hx];exact⟨L,#[dq].trans g⟩
  ·show#[hA,N,g,hx];exact⟨N,#[dq].trans g⟩
  ·by_cases w:j=i
   ·show#[uE];exact⟨u,r,.inr ⟨.inl hk,c,hc,lE⟩⟩
   ·show#[dz];rcases q with q|⟨k,D,e,z'⟩
    ·exact .inl q
    ·refine .inr ⟨k,D,e,z'.sameBut f ?_⟩;rintro rfl;exact w (PL T g (I.ok.inj _ _ _ e hc ▸ B))
  ·by_cases Ap:D=c
   ·subst Ap;exact⟨_,lE⟩
   ·obtain⟨w2,z2⟩:=I.cell y D e;exact⟨w2,z2.sameBut f Ap⟩
  ·show#[qV,R,K];refine#[xJ,f.2,?_,R];intro q;rw[q,An]at e;have q':oc=p.2:=Qn e;exact d C #[eJ,q',Ao]
theorem Wx{M:Model}{A:aB}{E:#[F]}{i:Nat}{x:al}{v:V}{u:aa}{Q:#[aJ]}(I:#[i])(a:#[lS])(b:#[cz])(hx:#[vX])(r:ZI v u)
  (h:∀s',Inv X ah (σ.set i (U v)) H s'->Q () s') (c:#[26]:=by first|exact #[oA]|exact #[pR]|assumption):au M A (storeName X.env x u) Q E s :=
 MM I a b hx r (λs' d _=>h s' d) c
theorem Inv.call'{s':ai}{ch:#[mj]}(I:#[i])(a:s'.os=s.os)(u:Un (frs X.stack) ch H H' s.heap s'.heap)(hok:HOk X.prog X.w H' s'.heap)(d:AllBare s'.gens)
  (f:#[13]):Inv X ah σ H' s':=by
 obtain⟨h',g',d',t',g⟩:=s';have e:g=s.os:=a;subst e;exact I.call (g':=g') (t':=t') (d':=d') u hok d f
universe E
abbrev XK:=aa->Option ae->Hp->Prop
abbrev St:=List (Option V)
abbrev VK:=V->Hp->Prop
abbrev TE:=St->Hp->VK->Prop
abbrev TT:=St->Hp->(Bool->Hp->Prop)->Prop
abbrev TA:=St->Hp->(List V->Hp->Prop)->Prop
structure Xo where
 nx:St->Hp->Prop
 rt:VK
 bk:St->Hp->Prop:=λ_ _=>False
 ct:St->Hp->Prop:=λ_ _=>False
abbrev TS:=Xo->St->Hp->Prop
def EP(X:Cx)(b:#[S])(c:St)(Q:VK)(u:aa)(s':ai):Prop:=X2 λv a=>Inv X b c a s'/\ZI v u/\Q v a
def TP(X:Cx)(c:#[S])(d:St)(Q:#[p0])(b:Bool)(s':ai):Prop:=∃a,Inv X c d a s'/\Q b a
def AP(X:Cx)(b:#[S])(c:St)(Q:List V->Hp->Prop)(us:#[bd])(s':ai):Prop:=X2 λvs a=>Inv X b c a s'/\ZK vs us/\Q vs a
def SP(X:Cx)(c:#[S])(D:Xo)(f:Flow)(s':ai):Prop :=
 match f with
 | .next=>X2 λb a=>Inv X c b a s'/\D.nx b a
 | .brk=>X2 λb a=>Inv X c b a s'/\D.bk b a
 | .cont=>X2 λb a=>Inv X c b a s'/\D.ct b a
 | .ret u=>X3 λv b a=>Inv X c b a s'/\ZI v u/\D.rt v a
def PE(X:Cx)(e:aH)(t:TE):Prop :=
 ∀ (b:List (ae×aJ)) (s:ai) (a:St) (H:Hp) (Q:VK),Inv X b a H s->t a H Q->#[kV] #[hX,e] (EP X b a Q) X.xe s
def PT(X:Cx)(e:aH)(t:TT):Prop :=
 ∀ (b:List (ae×aJ)) (s:ai) (a:St) (H:Hp) (Q:Bool->Hp->Prop),Inv X b a H s->t a H Q->#[kV] (isTrue e X.env #[hX,e]) (TP X b a Q) X.xe s
def PW(X:Cx)(e:aH)(t:TT):Prop :=
 ∀ (c:Sem aa) (b:List (ae×aJ)) (s:ai) (a:St) (H:Hp) (Q:Bool->Hp->Prop),Inv X b a H s->t a H Q->#[kV] (isTrue e X.env c) (TP X b a Q) X.xe s
theorem PW.pt{X:Cx}{e:aH}{t:TT}(h:PW X e t):PT X e t:=h _
def PA(X:Cx)(d:#[kG])(t:TA):Prop :=
 ∀ (a:Pos) (c:List (ae×aJ)) (s:ai) (b:St) (H:Hp) (Q:List V->Hp->Prop),Inv X c b H s->t b H Q->#[kV] (spliced (bc a (aD d X.env))) (AP X c b Q) X.xe s
def PS(X:Cx)(st:aI)(t:TS):Prop :=
 ∀ (a:List (ae×aJ)) (s:ai) (b:St) (H:Hp) (D:Xo),Inv X a b H s->t D b H->#[kV] (exec st X.env) (SP X a D) X.xe s
def PSs(X:Cx)(st:#[ou])(t:TS):Prop :=
 ∀ (a:List (ae×aJ)) (s:ai) (b:St) (H:Hp) (D:Xo),Inv X a b H s->t D b H->#[kV] (execs st X.env) (SP X a D) X.xe s
theorem thn{α:Type}{t:Sem α}{Q b:α->ai->Prop}{M:Model}{A:aB}{E:#[F]}{s:ai}(h:au M A t Q E s)(c:∀a s,Q a s->b a s):au M A t b E s:=aZ h c λ_ _ x=>x
section
variable {X:Cx}
inductive EA {α:Type} (A B:α->Prop):Prop where
 | mk (v:α) (a:A v) (b:B v)
def SK(i:Nat):TE:=λa H Q=>EA (λv=>a[i]? = U (U v)) (λv=>Q v H)
def tC(v:V):TE:=λ_ H Q=>Q v H
theorem PH{i:Nat}{x:al}{pos:Pos}(f:#[cz])(g:#[h3,Vis])(hd:#[j]:=by decide)(j:#[ck]:=by decide):PE X #[bX] (SK i):=by
 show#[e8,k,n,Q];show#[hU,v,e,h,h];show#[hU,m,o,p,I.loc];obtain⟨u,r,l⟩:=p i x v f e g;have a:EP X k n Q u s:=#[vc];rcases l with⟨hk,q⟩|⟨hk,c,b,d⟩
 ·exact wpAny_Name (wpAny_loadName_local I.ok.kind hk o q a) hd
 ·rcases hk with hk|hk
  ·exact wpAny_Name (wpAny_loadName_cell I.ok.kind hk b d a) hd
  ·exact wpAny_Name (wpAny_loadName_free I.ok.kind hk b d a j) hd
theorem Zj{i j pos}:PE X (.Constant #[u4] j pos) (tC #[u4]):=λ_ _ _ H _ I h=>wpAny_Constant_int ⟨.int i,H,I.tok _,#[K],h⟩
theorem Xv{b j pos}:PE X (.Constant (.bool b) j pos) (tC (.bl b)):=λ_ _ _ H _ I h=>Constant_bool #[xA,b,h]
theorem ZU{j pos}:PE X (.Constant .none j pos) (tC .non):=λ_ _ _ H _ I h=>Constant_none ⟨.non,H,I,rfl,h⟩
theorem Zl{x j pos}:PE X (.Constant #[u1] j pos) (tC #[u1]):=λ_ _ _ H _ I h=>Calls.Constant_str #[xz,x,h]
def Gl(X:Cx)(x:al):Prop:=X.env.kindOf x=U .globalImplicit
theorem WH{E:#[F]}{a:#[S]}{s:ai}{b:St}{H:Hp}{x:al}{u:aa}{pos:Pos}{Q:#[F]}(I:#[gY,a,b])(c:#[uO])(hm:X.mg x=U u)(h:Q u s)
  (hd:#[j]:=by decide):#[kV] #[hX,#[bX]] Q E s :=
 Calls.Name_function_global I.ok.kind c (Calls.loadGlobal_global #[n0] hm h) hd
theorem V1{E:#[F]}{a:#[S]}{s:ai}{b:St}{H:Hp}{x:al}{u:aa}{pos:Pos}{Q:#[F]}(I:#[gY,a,b])(c:#[uO])(hm:X.mg x=af)(d:cm x=U u)(h:Q u s)
  (e:#[k9]:=by decide) (hd:#[j]:=by decide):#[kV] #[hX,#[bX]] Q E s:=by
 show#[hU,mb,f,g,I.mod.blt];exact Calls.Name_function_global I.ok.kind c (Calls.loadGlobal_builtin #[n0] hm #[eR,I.ok.blt,f.keeps,I.bk] ((g x e).trans d) h) hd
theorem Zrt{x:al}{v:V}{u:aa}{pos:Pos}(a:#[uO])(hm:X.mg x=U u)(r:ZI v u)(hd:#[j]:=by decide):PE X #[bX] (tC v) :=
 λ_ _ _ H _ I h=>WH I a hm #[vc] hd
theorem Zre{x:al}{v:V}{u:aa}{pos:Pos}(a:#[uO])(hm:X.mg x=af)(b:cm x=U u)(r:ZI v u)(c:#[k9]:=by decide)(hd:#[j]:=by decide):PE X #[bX] (tC v) :=
 λ_ _ _ H _ I h=>V1 I a hm b #[vc] c hd
variable {a b:aH} {ta tb:TE} {pos:Pos}
def tB(t:TE):TT:=λa H Q=>t a H λx b=>EA (λc=>x=.bl c) (λc=>Q c b)
theorem Yb{e:aH}{t:TE}(h:PE X e t)(he:∀a,isTrue e X.env a=(do let v <- a;standAt e.pos;holding [v] (truthy v)):=by intro _;rfl):PT X e (tB t):=by intro b s c H Q I hw;refine isTrue_plain (thn (h b s c H _ I hw) ?_) (he _);rintro v s1 ⟨x,f,g,i,j⟩;obtain⟨d,rfl,q⟩:=j;cases i;exact bT ⟨f,g,q⟩
variable {tA uK:TT} {rest:List aH}
def ZuD(t u:TT):TT:=λa H Q=>t a H λc b=>if c=true then u a b Q else Q false b
def tOr(t u:TT):TT:=λa H Q=>t a H λc b=>if c=true then Q true b else u a b Q
def ZuS(t:TT):TT:=λa H Q=>t a H λc b=>Q (!c) b
theorem Xu(ha:PT X a tA):PW X (.BoolOp .And [a] pos) tA:=by
 intro wh b s d H Q I h;refine isTrue_and #[nL];cases c with
 | true=>exact isTrue_and_nil e
 | false=>exact e
theorem WG(ha:PT X a tA):PW X (.BoolOp .Or [a] pos) tA:=by
 intro wh b s d H Q I h;refine isTrue_or #[nL];cases c with
 | false=>exact isTrue_or_nil e
 | true=>exact e
theorem Ya(ha:PT X a tA)(hb:PW X #[tZ] uK):PW X #[qp] (ZuD tA uK):=by
 intro j d s e H Q I h;refine isTrue_and #[eo,ha,d,e];rintro c k ⟨f,g,i⟩;cases c with
 | true=>exact hb j d k e f Q g i
 | false=>exact⟨f,g,i⟩
theorem Xd(ha:PT X a tA)(hb:PW X (.BoolOp .Or (b::rest) pos) uK):PW X (.BoolOp .Or (a::b::rest) pos) (tOr tA uK):=by
 intro j d s e H Q I h;refine isTrue_or #[eo,ha,d,e];rintro c k ⟨f,g,i⟩;cases c with
 | true=>exact⟨f,g,i⟩
 | false=>exact hb j d k e f Q g i
theorem WW(ha:PT X a tA):PT X (.UnaryOp .Not a pos) (ZuS tA):=by intro b s d H Q I h;exact isTrue_not (ha b s d H (λc e=>Q (!c) e) I h)
def Ztz(ta tb:TE):TE:=λa H Q=>ta a H λx b=>∃c,x=.bl c/\if c=true then tb a b Q else Q (.bl false) b
def ZtB(ta:TE):TE:=λa H Q=>ta a H λx b=>∃c,x=.bl c/\Q (.bl (!c)) b
theorem U1{op}{t:TE}(h:PE X a t):PE X (.BoolOp op [a] pos) t:=λb s c H Q I hw=>BoolOp_one (h b s c H Q I hw)
theorem Wf(ha:#[nI])(hb:PE X #[tZ] tb):PE X #[qp] (Ztz ta tb):=by
 show#[e8,e,f,Q];refine BoolOp_and #[eo,ha,e,f];rintro v j ⟨x,g,i,k,d⟩;obtain⟨c,rfl,d⟩:=d;cases k;refine bT ?_;cases c with
 | true=>exact hb e j f g Q i d
 | false=>exact⟨.bl false,g,i,rfl,d⟩
theorem Zs3(ha:#[nI]):PE X (.UnaryOp .Not a pos) (ZtB ta):=by intro d s e H Q I h;refine UnaryOp_ #[eo,ha,d,e];rintro v s1 ⟨x,f,g,i,b⟩;obtain⟨c,rfl,b⟩:=b;cases i;exact not_of (bT ⟨.bl (!c),f,g,rfl,b⟩)
def tIf(t:TT)(ta tb:TE):TE:=λa H Q=>t a H λc b=>if c=true then ta a b Q else tb a b Q
theorem WV{c:aH}(hc:PT X c tA)(ha:#[nI])(hb:#[vp]):PE X (.IfExp c a b pos) (tIf tA ta tb):=by
 show#[e8,e,f,Q];refine wpAny_IfExp #[eo,hc,e,f];rintro d g ⟨i,j,k⟩;cases d with
 | true=>exact ha e g f i Q j k
 | false=>exact hb e g f i Q j k
universe E
def SqL(K:#[7])(H:Hp)(a:ae)(xs:#[pO]):Prop :=
 Rd H a #[kM] \/
  X3 λ(o:aJ) (its:Array aa) (n:Nat)=>K.lookup a=U o/\o.cls=.type "list"/\o.dict=af/\o.data=.seq its n/\its.size<=ao/\ZK xs its.toList
def SqT(K:#[7])(H:Hp)(a:ae)(xs:#[pO]):Prop :=
 Rd H a #[dG] \/
  X3 λ(o:aJ) (its:Array aa) (n:Nat)=>K.lookup a=U o/\o.cls=.type "tuple"/\o.data=.seq its n/\its.size<=ao/\ZK xs its.toList
noncomputable def Zuy:aa->Option V
 | .none=>U .non
 | .bool b=>U (.bl b)
 | .int i _=>U #[u4]
 | .str x _=>U #[u1]
 | .bytes b _=>U (.byt b)
 | .float b _=>U (.flt b)
 | .ref a=>U #[iB]
 | .type n=>U (.ty n)
 | _=>af
theorem ZI.abs{x:V}{u:aa}(r:ZI x u):Zuy u=U x:=by
 cases x with
 | non=>cases r;rfl
 | bl _=>cases r;rfl
 | int _=>obtain⟨t,rfl⟩:=r;rfl
 | str _=>obtain⟨t,rfl⟩:=r;rfl
 | byt _=>obtain⟨t,rfl⟩:=r;rfl
 | flt _=>obtain⟨t,rfl⟩:=r;rfl
 | ref _=>cases r;rfl
 | ty _=>cases r;rfl
theorem ZI.inj{x y:V}{u:aa}(r:ZI x u)(q:ZI y u):x=y:=Qn (r.abs.symm.trans q.abs)
theorem ZK.inj:∀ {xs ys:List V} {us:List aa},ZK xs us->ZK ys us->xs=ys
 | _,_,_,.nil,.nil=>rfl
 | _,_,_,.cons r t,.cons a t'=>by rw[r.inj a,ZK.inj t t']
section
variable {X:Cx} {ah:List (ae×aJ)} {σ:St} {H:Hp} {s:ai} {a:ae} {xs ys:List V}
theorem SqL.of{K:#[7]}(h:H a=U #[kM]):SqL K H a xs:=.inl (.inl h)
theorem SqT.of{K:#[7]}(h:H a=U #[dG]):SqT K H a xs:=.inl (.inl h)
theorem Inv.list(I:#[i])(h:SqL X.K H a xs):∃its:List aa,ZK xs its/\PlainL s.heap a its.toArray/\xs.length<=ao:=by
 rcases h with h|⟨o,its,n,b,c,d,f,hz,r⟩
 ·obtain⟨z,its,n,r,e⟩:=h.ok I.hok;exact⟨its,r,⟨_,n,e,rfl,rfl,rfl⟩,z⟩
 ·refine⟨its.toList,r,⟨o,n,I.kIn a o b,c,d,by simpa using f⟩,?_⟩;show#[mW];lia
theorem Inv.tuple(I:#[i])(h:SqT X.K H a xs):∃its:List aa,ZK xs its/\IsTup s.heap a its.toArray/\xs.length<=ao:=by
 rcases h with h|⟨o,its,n,b,c,d,hz,r⟩
 ·obtain⟨z,its,r,p⟩:=h.ok I.hok;exact⟨its,r,p,z⟩
 ·refine⟨its.toList,r,⟨o,I.kIn a o b,c,n,by simpa using d⟩,?_⟩;show#[mW];lia
theorem Inv.list_inj(I:#[i])(h:SqL X.K H a xs)(h':SqL X.K H a ys):xs=ys:=by
 obtain⟨its,r,⟨o,n,e,_,_,d⟩,_⟩:=I.list h;obtain⟨b,g,⟨o',n',c,_,_,f⟩,_⟩:=I.list h';show#[fe,e,c,c];rw[d]at f;injection f with i _;have:its=b:=by simpa using congrArg Array.toList i
 subst this;exact r.inj g
theorem Inv.tuple_inj(I:#[i])(h:SqT X.K H a xs)(h':SqT X.K H a ys):xs=ys:=by
 obtain⟨its,r,⟨o,e,_,n,d⟩,_⟩:=I.tuple h;obtain⟨b,g,⟨o',c,_,n',f⟩,_⟩:=I.tuple h';show#[fe,e,c,c];rw[d]at f;injection f with i _;have:its=b:=by simpa using congrArg Array.toList i
 subst this;exact r.inj g
universe E
noncomputable abbrev Cx.wish(X:Cx)(E:#[F]):Cx:={ X with xe:=E }
noncomputable abbrev Cx.nox(X:Cx):Cx:=X.wish λ_ _=>False
theorem Cx.Ok.wish{X:Cx}(ok:X.Ok)(E:#[F]):#[vL].Ok :=
 #[y]
theorem Cx.Ok.unwish{X:Cx}{E:#[F]}(ok:#[vL].Ok):X.Ok :=
 #[y]
section
variable {X:Cx} {ah:List (ae×aJ)} {σ:St} {H:Hp} {s:ai} {E:aa->ai->Prop}
theorem Inv.wish(I:#[i])(E:#[F]):Inv #[vL] ah σ H s:=⟨I.ok.wish E,I.os,I.bare,I.base,I.loc,I.cell,I.free,I.freeC,I.pin,I.hok,I.len⟩
theorem Inv.unwish(I:Inv #[vL] ah σ H s):Inv X ah σ H s:=⟨I.ok.unwish,I.os,I.bare,I.base,I.loc,I.cell,I.free,I.freeC,I.pin,I.hok,I.len⟩
theorem SP.unwish{D:Xo}{f:Flow}{s':ai}(h:SP #[vL] ah D f s'):SP X ah D f s':=by
 cases f with
 | next=>obtain⟨a,b,I,q⟩:=h;exact#[ob]
 | brk=>obtain⟨a,b,I,q⟩:=h;exact#[ob]
 | cont=>obtain⟨a,b,I,q⟩:=h;exact#[ob]
 | ret u=>obtain⟨v,a,b,I,r,q⟩:=h;exact⟨v,a,b,I.unwish,r,q⟩
theorem PSs.nox{st:#[ou]}{t:TS}(h:PSs X.nox st t):PSs X st t:=λah s σ H D I hw =>
 aZ (h ah s σ H D (I.wish _) hw) (λ_ _ q=>q.unwish) λ_ _ z=>False.elim z
universe E
section
variable {X:Cx} {st:aI} {rest:List aI} {t u:TS} {e:aH} {te:TE} {pos:Pos}
def Zto:TS:=λD a H=>D.nx a H
def ZuK(t u:TS):TS:=λD a H=>t { D with nx:=u D } a H
theorem Zy:PSs X [] Zto:=λ_ _ a H _ I h=>wpAny_execs_nil ⟨a,H,I,h⟩
theorem Ze(h1:PS X st t)(h2:PSs X rest u):PSs X (st::rest) (ZuK t u):=by
 show#[e8,a,b,D];refine wpAny_execs_cons (thn (h1 a s b H { D with nx:=u D } I h) λf c q=>?_);cases f with
 | next=>obtain⟨d,e,g,q⟩:=q;exact h2 a c d e D g q
 | ret v=>exact q
 | brk=>exact q
 | cont=>exact q
theorem Zi(h1:PS X st t):PSs X [st] t:=by
 show#[e8,a,b,D];refine wpAny_execs_cons (thn (h1 a s b H D I h) λf s1 q=>?_);cases f with
 | next=>exact wpAny_execs_nil q
 | ret v=>exact q
 | brk=>exact q
 | cont=>exact q
theorem Inv.quiet{a:#[S]}{b:St}{H:Hp}{s:ai}(I:#[gY,a,b]):interactive X.env=false:=by simp[interactive,I.ok.kind]
def Ztx(te:TE):TS:=λD a H=>te a H λ_ b=>D.nx a b
theorem ZX(he:#[pp])(hs:swapsWith e af pos.line X.env=pure false:=by rfl):PS X (.Expr e pos) (Ztx te):=by intro b s a H D I h;exact wpAny_Expr_any (thn #[h7,he,b,a] λv s1 ⟨x,c,d,r1,f⟩=>⟨a,c,d,f⟩) I.quiet hs
def Zuu(te:TE):TS:=λD a H=>te a H D.rt
theorem Zr(he:#[pp]):PS X (.Return (U e) pos) (Zuu te):=by intro b s a H D I h;exact wpAny_Return_some (thn #[h7,he,b,a] λv s1 ⟨x,c,d,f,g⟩=>⟨x,a,c,d,f,g⟩)
def Zu3(c:TT)(t u:TS):TS:=λD a H=>c a H λb d=>if b=true then t D a d else u D a d
theorem ZN{c:aH}{a b:#[ou]}{g:TT}(hc:PT X c g)(ha:PSs X a t)(hb:PSs X b u):PS X (.If c a b pos) (Zu3 g t u):=by
 show#[e8,e,f,D];refine wpAny_If #[eo,hc,e,f];rintro d i ⟨j,k,l⟩;cases d with
 | true=>exact ha e i f j D k l
 | false=>exact hb e i f j D k l
universe E
abbrev TG:=V->St->Hp->(St->Hp->Prop)->Prop
abbrev TGs:=List V->St->Hp->(St->Hp->Prop)->Prop
def PG(X:Cx)(e:aH)(t:TG):Prop :=
 ∀ (a:List (ae×aJ)) (s:ai) (b:St) (H:Hp) (v:V) (u:aa) (Q:St->Hp->Prop),Inv X a b H s->ZI v u->t v b H Q ->
  #[kV] (assign e X.env u) (λ_ f=>X2 λc d=>Inv X a c d f/\Q c d) X.xe s
def PGs(X:Cx)(g:#[kG])(t:TGs):Prop :=
 ∀ (a:List (ae×aJ)) (s:ai) (b:St) (H:Hp) (c:List V) (d:List aa) (Q:St->Hp->Prop),Inv X a b H s->ZK c d->t c b H Q ->
  #[kV] (assignInOrder ((bx g X.env).map #[uQ]) d) (λ_ h=>X2 λe f=>Inv X a e f h/\Q e f) X.xe s
abbrev SJ:=V->V->V->Hp->(Hp->Prop)->Prop
def PF(X:Cx)(t:SJ):Prop :=
 ∀ (a:List (ae×aJ)) (s:ai) (b:St) (H:Hp) (o i v:V) (c d u:aa) (Q:Hp->Prop),Inv X a b H s->ZI o c->ZI i d->ZI v u->t o i v H Q ->
  #[kV] (setItem c d u) (λ_ f=>∃e,Inv X a b e f/\Q e) X.xe s
abbrev TIp:=#[j3]
def PIp(X:Cx)(op:Operator)(t:TIp):Prop :=
 ∀ (a:List (ae×aJ)) (s:ai) (b:St) (H:Hp) (x y:V) (v u:aa) (Q:VK),Inv X a b H s->ZI x v->ZI y u->t x y H Q ->
  #[kV] (inplaceOp op v u) #[i1] X.xe s
section
variable {X:Cx} {pos:Pos}
def SI(i:Nat):TG:=λv a H Q=>Q (a.set i (U v)) H
theorem ZD{i:Nat}{x:al}(a:#[lS])(b:#[cz])(hx:#[vX])(c:#[26]:=by first|exact #[oA]|exact #[pR]|assumption):PG X #[bX] (SI i):=by intro ah s σ H v u Q I r h;exact wpAny_assign_Name (Wx I a b hx r (λs' d=>⟨_,H,d,h⟩) c)
def Zuz:TGs:=λvs a H Q=>vs=[]/\Q a H
inductive RGc (vs:#[pO]) (B:V->List V->Prop):Prop where
 | mk (v:V) (r:List V) (e:vs=v::r) (q:B v r)
def ZtG(t:TG)(u:TGs):TGs:=λvs a H Q=>RGc vs λv r=>t v a H λb c=>u r b c Q
theorem Yg:PGs X [] Zuz:=by intro ah s a H vs us Q I r h;obtain⟨e,h⟩:=h;subst e;cases r;exact assignInOrder_nil ⟨a,H,I,h⟩
theorem Zz{e:aH}{a:#[kG]}{t:TG}{u:TGs}(h1:PG X e t)(h2:PGs X a u)
  (hs:(bx (e::a) X.env).map #[uQ]=assign e X.env::(bx a X.env).map #[uQ]:=by rfl):PGs X (e::a) (ZtG t u):=by
 intro b s c H vs us Q I r h;show#[rQ,v,vr,d,h,h];subst d;cases r with
 | cons r f=>rw[hs];refine assignInOrder_cons (thn (h1 b s c H _ _ _ I r h) ?_);rintro _ g ⟨i,j,k,l⟩;exact h2 b g i j _ _ Q k f l
inductive RGt (K:#[7]) (H:Hp) (n:Nat) (v:V) (B:List V->Prop):Prop where
 | mk (a:ae) (xs:List V) (e:v=.ref a) (s:SqT K H a xs) (l:xs.length=n) (q:B xs)
def ML(K:#[7])(n:Nat)(t:TGs):TG:=λv a H Q=>RGt K H n v λxs=>t xs a H Q
theorem ZsY{c:#[kG]}{k:Nat}{t:TGs}{n:Nat}(hc:#[am])(h:PGs X c t)
  (i:#[xR,c]:=by rfl) (j:#[rd,c]:=by rfl):PG X (.Tuple c k pos) (ML X.K n t):=by
 intro d s f H v u Q I r hw;obtain⟨a,l,m,p,q,hw⟩:=hw;subst m;cases r;show#[qL,g,w,hz,p];refine assign_Tuple_tuple #[iy] w (by simp[i,<- q,g.length]) j λx y=>?_;have z:#[qD,d,f,H,s,x]:=I.kept (t':=#[wy]) λb o e=>y b o #[tn] e;exact h d _ f H l _ Q z #[el,g] hw
def Zu2(to b:TE)(t:SJ):TG:=λv a H Q=>to a H λo c=>b a c λi d=>t o i v d λe=>Q a e
theorem Yq{o i:aH}{to e:TE}{t:SJ}(f:#[vo])(g:PE X i e)(hs:PF X t)
  (ha:∀v,assign #[xS,o,i] X.env v=(do
   let a <- holding [v] (eval o X.env);let b <- holding [v,a] (eval i X.env)
   standAt pos
   holding [v,a,b] (setItem a b v)
   release [v,a,b] []):=by intro _;rfl):PG X #[xS,o,i] (Zu2 to e t):=by
 intro d s c H v u Q I r h;rw[ha];refine aj (aS #[eo,f,d,c]);rintro a j ⟨x,k,l,m,n⟩;refine aj (aS (thn (g d j c k _ l n) ?_));rintro b p ⟨y,q,w,z,A⟩;refine aj (bw (aj (aS (thn (hs d p c q x y v a b u _ w m z r A) ?_))));rintro _ s3 ⟨B,C,D⟩;exact wpAny_release ⟨c,B,C,D⟩
def PD(b:TE)(g:TG):TS:=λD a H=>b a H λx c=>g x a c D.nx
theorem Z2{a e:aH}{b:TE}{g:TG}(he:PE X e b)(f:PG X a g)(hs:swapsWithSole [a] e pos.line X.env=pure false:=by rfl)(hw:swappedStores [a] e X.env=pure af:=by rfl)
  (i:(bx [a] X.env).map #[uQ]=[assign a X.env]:=by rfl):PS X (.Assign [a] e pos) (PD b g):=by
 show#[e8,c,d,D];refine wpAny_Assign_stores #[eo,he,c,d] hs hw;rintro v j ⟨x,k,l,m,n⟩;rw[i];exact thn (f c j d k x v _ l m n) λ_ s2 q=>q
theorem Zw{i:Nat}{x:al}{e:aH}{a:TE}{b:Pos}(c:#[lS])(d:#[cz])(hx:#[vX])(he:PE X e a)(hs:swapsWith e (U (.Name x b)) pos.line X.env=pure false:=by rfl)(f:#[26]:=by first|exact #[oA]|exact #[pR]|assumption) :
  PS X (.Assign [.Name x b] e pos) (PD a (SI i)):=by
 show#[e8,g,j,D];refine wpAny_Assign_Name #[eo,he,g,j] hs;rintro v s1 ⟨y,k,l,m,n⟩;exact Wx l c d hx m (λs2 o=>⟨_,k,o,n⟩) f
def ZuX(i j:Nat)(b:TA):TS:=λD a H=>b a H λvs c=>X2 λv w=>vs=[v,w]/\D.nx ((a.set i (U v)).set j (U w)) c
theorem V0{i j:Nat}{x y:al}{a b:aH}{n:TA}{g k pt:Pos}{kt k2 l}(hc:#[am])(r:#[lS])(B:#[cz])(C:X.N[j]? = U y)(E:i≠j)
  (hx:#[eT,x]) (hy:#[eT,y]) (ha:PA X [a,b] n)
  (hw:swappedStores #[i6] #[pJ] X.env=pure (U [x,y]))
  (hs:swapsWithSole #[i6] #[pJ] pos.line X.env=pure false:=by rfl) :
  PS X (.Assign #[i6] #[pJ] pos) (ZuX i j n):=by
 show#[e8,t,u,D];show#[i5];refine aj (Tuple_ (thn (ha _ t s u H _ I h) ?_));rintro F c ⟨vs,z,G,J,m⟩;show#[rQ,v,w,K,m,m];subst K;obtain⟨d,f,rfl,L,M⟩:X2 λd f=>F=[d,f]/\ZI v d/\ZI w f:=by
  cases J with
  | cons p q =>
   cases q with
   | cons N O=>cases O;exact⟨_,_,rfl,p,N⟩
 refine bV ?_ #[L];have P:Inv X t u z { c with heap:=c.heap.push { cls:=.type "tuple",data:=.seq [d,f].toArray } }:=#[rq,G.kept];rw[hw];refine aj #[py];show #[kV] (do rule "assign.swapped-stores";let items <- unpackItems (.ref c.heap.objs.size) 2 af;assignInOrder #[lc] items.reverse;pure Flow.next) _ _ _;refine aj (wpAny_rule (aj (unpackItems_tuple (items:=#[d,f]) #[iy] (IsTup.new c.heap _) λh' Q=>?_)));have R:=P.kept (h':=h') (t':=c.toks) λb o e=>Q b o #[tn] e;show au _ _ (assignInOrder #[lc] [f,d] >>= λ_=>pure Flow.next) _ _ _;refine aj (assignInOrder_cons (wpAny_bindName (Wx R r C (.inl hy) M (λs2 S=>?_) (.inr hy))));refine assignInOrder_cons (wpAny_bindName (Wx S r B (.inl hx) L (λs3 A=>assignInOrder_nil #[py]) (.inr hx)));rw[List.set_comm _ _ (Ne.symm E)]at A;exact⟨_,z,A,m⟩
def ZuE(i:Nat)(b:TE)(c:TIp):TS:=λD a H=>∃x,a[i]? = U (U x)/\b a H λy d=>c x y d λz e=>D.nx (a.set i (U z)) e
theorem Zs7{i:Nat}{x:al}{e:aH}{b:TE}{op:Operator}{d:TIp}{j:Pos}(n:#[lS])(f:#[cz])(hx:#[vX])(he:PE X e b)(o:PIp X op d)(p:#[26]:=by first|exact #[oA]|exact #[pR]|assumption) :
  PS X (.AugAssign (.Name x j) op e pos) (ZuE i b d):=by
 show#[e8,a,g,D];show#[hU,v,q,h,h];show#[hU,m,t,A,I.loc];have B:#[h3,Vis]:=by rcases hx with k|k;exact .inl k;show#[qT,k]
 obtain⟨u,r,l⟩:=A i x v f q B;refine wpAny_AugAssign_Name ?_;have go:#[kV] #[hX,e] (λw C=>#[kV] (inplaceOp op u w) (λr E=>#[kV] (storeName X.env x r) (λ_=>SP X a D .next) X.xe E) X.xe C) X.xe s:=by refine thn #[h7,he,a,g] ?_;rintro w F ⟨y,G,J,K,L⟩;refine thn (o a F g G v y u w _ J r K L) ?_;rintro z s2 ⟨zv,M,N,O,P⟩;exact Wx N n f hx O (λs3 Q=>⟨_,M,Q,P⟩) p
 rcases l with⟨hk,R⟩|⟨hk,c,S,T⟩
 ·exact wpAny_loadName_local I.ok.kind hk t R go
 ·rcases hk with hk|hk
  ·exact wpAny_loadName_cell I.ok.kind hk S T go
  ·rcases hx with k|k
   ·show#[kh]
   ·show#[kh]
def ipI(f:Int->Int->Int):TIp:=λx y H Q=>X2 λi j=>x=.int i/\y=.int j/\Q (.int (f i j)) H
theorem Zs0:PIp X .Add (ipI λi j=>i+j):=by intro ah s σ H x y v u Q I a b h;obtain⟨i,j,c,d,q⟩:=h;subst c;subst d;obtain⟨t,rfl⟩:=a;obtain⟨t',rfl⟩:=b;exact iadd_int #[kC]
universe E
section
variable {X:Cx} {pos:Pos}
def ZsS(c:TT)(h:TS):TS:=λD a H=>∃W:Nat->St->Hp->Prop,(∃m,W m a H)/\∀m a H,W m a H ->
 c a H λb d=>if b=true then ∃N:St->Hp->Prop,(∀e f,N e f->∃g,g<m/\W g e f)/\h { D with nx:=N,ct:=N,bk:=D.nx } a d else D.nx a d
theorem SH{c:aH}{r:#[ou]}{t:TT}{u:TS}(w:#[wE])(hc:PT X c t)(hb:PSs X r u):PS X (.While c r [] pos) (ZsS t u):=by
 show#[e8,k,E,D];obtain⟨W,⟨F,G⟩,a⟩:=h;refine wpAny_While (codeAny_whileLoop (λn J=>X2 λx y=>Inv X k x y J/\W n x y) ?_ F ⟨E,H,I,G⟩);rintro n K ⟨g,z,L,M⟩;refine bO w (thn (hc k K g z _ L (a n g z M)) ?_);rintro b O ⟨A,B,i⟩;cases b with
 | true =>
  show#[hU,N,C,i,i];show#[tO];refine bO w (thn (hb k O g A _ B i) λf s3 j=>?_);cases f with
  | next=>obtain⟨d,e,l,m⟩:=j;show#[nq]
  | cont=>obtain⟨d,e,l,m⟩:=j;show#[nq]
  | brk=>exact j
  | ret v=>exact j
 | false=>rw[if_neg Qo];exact wpAny_execs_nil ⟨g,A,B,i⟩
universe E
structure It where
 go:Nat->Hp->Prop
 yld:Nat->Hp->V->Hp->Prop
 stop:Nat->Hp->Prop
def WU(X:Cx)(a:#[S])(H:Hp)(b:ae):Prop :=
 H b=af/\b≠X.env.locals/\b ∉ X.fs/\(b∈X.ex\/X.s₀.heap.objs.size<=b)/\#[qz,c,b]/\∀p∈X.pn++a,p.1≠b
theorem Inv.fpOk{X:Cx}{a:#[S]}{f:St}{H d:Hp}{s:ai}{b:ae}(I:#[gY,a,f])(hb:s.heap.objs.size<=b)(g:d b=af):WU X a d b:=by
 refine⟨g,Q7 (Qw I.lt hb),I.nofs hb,.inr (Ql I.sz hb),λx c e z=>?_,λp h z=>?_⟩
 ·obtain⟨v,q⟩:=#[uN];exact absurd (Qw q.lt #[ei,z,hb]) (Qam _)
 ·exact absurd (Qw (Qm (I.pin p h).1) #[ei,z,hb]) (Qam _)
structure We (P:ax) (w:aE) (K:#[7]) (tg:aH) (J:It) (fp:#[mj]) (it:ae) (tn:Nat->aF->Prop):Prop where
 mem:it∈fp
 obj:∀i h,tn i h->∀b∈fp,∃o,h.get? b=U o/\∀v,o.data≠.cell v
 keep:∀i h h',tn i h->(∀b∈fp,∀o,h.get? b=U o->h'.get? b=U o)->tn i h'
 item:∀ (X:Cx),X.prog=P->X.w=w->X.K=K->X.calm=true->∀ (i:Nat) (ah:List (ae×aJ)) (s:ai) (σ:St) (H:Hp) (E:aa->ai->Prop),Inv X ah σ H s->#[wO]->tn i s.heap->J.go i H ->
  au #[uV] X.A (pyNext #[kc]) (λr s1=>∃u,r=U u /\
   au #[uV] X.A (letOwnedTupleGo tg #[kc] u) (λ_ s2=>X2 λx H'=>Inv X ah σ H' s2/\ZI x u/\J.yld i H x H'/\tn (i+1) s2.heap/\∀b∈fp,H' b=af) E s1) E s
 done:∀ (X:Cx),X.prog=P->X.w=w->X.K=K->X.calm=true->∀ (i:Nat) (ah:List (ae×aJ)) (s:ai) (σ:St) (H:Hp) (E:aa->ai->Prop),Inv X ah σ H s->#[wO]->tn i s.heap->J.stop i H ->
  au #[uV] X.A (pyNext #[kc]) (λr s1=>r=af/\Inv X ah σ H s1) E s
 self:∀ (A:aB) (i:Nat) (s:ai) (Q:aa->ai->Prop) (E:aa->ai->Prop),tn i s.heap->Q #[kc] s->au #[uV] A (pyIter #[kc]) Q E s
abbrev TI:=St->Hp->(It->Hp->Prop)->Prop
def PIE(X:Cx)(c:#[S])(g:St)(h:aH)(R:It->Hp->Prop)(i:aa)(d:ai):Prop :=
 X5 λ(e:ae) (fp:List ae) (f:Nat->aF->Prop) (J:It) (a:Hp)=>i=.ref e/\Inv X c g a d/\We X.prog X.w X.K h J fp e f/\f 0 d.heap/\(∀b∈fp,WU X c a b)/\R J a
def PI(X:Cx)(c iter:aH)(d:TI):Prop :=
 ∀ (b:List (ae×aJ)) (s:ai) (a:St) (H:Hp) (R:It->Hp->Prop),Inv X b a H s->d a H R ->
  #[kV] #[hX,iter] (λv e=>#[kV] (pyIter v) (PIE X b a c R) X.xe e) X.xe s
theorem Uj{M:Model}{A:aB}{E:#[F]}{s:ai}{b:aH}{it:ae}{u:aa}{o:aJ}{n:String}{vs:#[p1]}{Q:#[aJ]}(c:s.heap.get? it=U o)(hc:o.cls=.type n)(hd:o.data=.fields vs)
  (d:["enumerate", "zip", "dict_itemiterator", "dict_reverseitemiterator", "odict_iterator", "itertools.zip_longest", "itertools.pairwise"].contains n=false) (a:Q () s):au M A (letOwnedTupleGo b #[kc] u) Q E s:=by
 unfold letOwnedTupleGo;cases b<;>first
  | exact av a
  | (cases u<;>first
    | exact av a
    | (refine aj (wpAny_load c ?_);rw[hc,hd];show au M A (if (["enumerate", "zip", "dict_itemiterator", "dict_reverseitemiterator", "odict_iterator", "itertools.zip_longest", "itertools.pairwise"].contains n&&vs[0]? == U (rawInt _))=true then _ else _) Q E s;rw[if_neg (by intro h;rw[d,Bool.false_and]at h;cases h)];exact av a))
noncomputable def Itl(K:#[7])(a:ae):It :=
 ⟨λi H=>X2 λb x=>SqL K H a b/\b[i]? = U x,λi H x c=>c=H/\∀b,SqL K H a b->b[i]? = U x,λi H=>∃b,SqL K H a b/\b.length<=i⟩
noncomputable def Itt(K:#[7])(a:ae):It :=
 ⟨λi H=>X2 λb x=>SqT K H a b/\b[i]? = U x,λi H x c=>c=H/\∀b,SqT K H a b->b[i]? = U x,λi H=>∃b,SqT K H a b/\b.length<=i⟩
noncomputable def Itr(lo:Int)(n:Nat):It:=⟨λi _=>i<n,λi H x a=>a=H/\x=.int (lo+i),λi _=>n<=i⟩
theorem Znh{P:ax}{w:aE}{K:#[7]}{M:aH}(a it:ae):We P w K M #[pD] [it] it (λi h=>h.IsListIter it a i) where
 mem:=by simp
 obj:=λi h st b f=>by
  have e:b=it:=by simpa using f
  show#[46]
 keep:=#[mU]
 item:=by intro X m hw n F i G s J H E I j st q;subst m hw n;show#[rQ,N,x,l,r,q];show#[fR,t,p,O,l];show#[qS,u,Q,R,t.get,r];show#[iF];refine cz st p.isList (x:=u) #[el,Q] λg L T=>?_;show#[a8];exact⟨u,rfl,Uj (s:=#[ik,s,g]) e c d #[6] ⟨x,H,U,R,⟨rfl,λys V=>by rw[I.list_inj V l];exact r⟩,L,λb f=>(j b f).1⟩⟩
 done:=by intro X m hw n F i G s J H E I j st q;subst m hw n;show#[hU,N,l,r,q];show#[fR,t,p,O,l];show#[iF];have hl:=t.length;exact cG (I.ok.hd F) st p.isList (by simp;lia) λg W=>⟨rfl,I.turned (t':=#[wy]) #[fy,b,f,W,f] y A B C D⟩
 self:=#[qW,wpAny_pyIter_listiter]
theorem Zlm{P:ax}{w:aE}{K:#[7]}{M:aH}(a it:ae):We P w K M (Itt K a) [it] it (λi h=>h.IsTupleIter it a i) where
 mem:=by simp
 obj:=λi h st b f=>by
  have e:b=it:=by simpa using f
  show#[46]
 keep:=#[mU]
 item:=by intro X m hw n F i G s J H E I j st q;subst m hw n;show#[rQ,N,x,l,r,q];show#[qL,t,p,O,l];show#[qS,u,Q,R,t.get,r];show#[iF];refine wpAny_pyNext_tuple_item st #[mv] (x:=u) #[el,Q] λg L T=>?_;show#[a8];exact⟨u,rfl,Uj (s:=#[ik,s,g]) e c d #[6] ⟨x,H,U,R,⟨rfl,λys V=>by rw[I.tuple_inj V l];exact r⟩,L,λb f=>(j b f).1⟩⟩
 done:=by intro X m hw n F i G s J H E I j st q;subst m hw n;show#[hU,N,l,r,q];show#[qL,t,p,O,l];show#[iF];have hl:=t.length;exact wpAny_pyNext_tuple_end (I.ok.hd F) st #[mv] (by simp;lia) λg W=>⟨rfl,I.turned (t':=#[wy]) #[fy,b,f,W,f] y A B C D⟩
 self:=#[qW,wpAny_pyIter_tupleiter]
theorem ZlS{P:ax}{w:aE}{K:#[7]}{C:aH}(it:ae)(lo:Int)(n:Nat):We P w K C #[sH] [it] it (λi h=>IsRangeIter h it (lo+(i:Nat)*1) ((n:Int)-(i:Nat)) 1) where
 mem:=by simp
 obj:=λi h st b a=>by
  have e:b=it:=by simpa using a
  subst e;exact⟨_,st,λv z=>by have D:Data.fields _=Data.cell v:=z;cases D⟩
 keep:=λi h c st k=>k it #[4] _ st
 item:=by intro X f hw g j i x s y H E I d st l;show#[n4];have W:=Walks.range (prog:=X.prog) (w:=X.w) (I.ok.hd j) it lo 1 n;refine W.item i s _ _ l st λv c A G B kk=>?_;show#[eD,t,G];have J:Inv X x y H { s with heap:=c,toks:=A }:=I.turned #[fy,b,a,kk,#[dr]] m p q r u;refine⟨_,rfl,Uj (s:={ s with heap:=c,toks:=A }) (n := "range_iterator") B rfl rfl #[6] ⟨.int (lo+i),H,J,⟨t,?_⟩,#[bM],B,λb a=>(d b a).1⟩⟩;rw[Int.mul_one]
 done:=by intro X f hw g j i x s y H E I d st l;show#[n4];exact wpAny_pyNext_range_end (I.ok.hd j) st (by have:n<=i:=l;lia) λc L=>⟨rfl,I.turned (t':=#[wy]) #[fy,b,a,L,a] m p q r u⟩
 self:=#[qW,wpAny_pyIter_rangeiter]
section
variable {X:Cx} {tg:aH}
def MK(K:#[7])(c:TE):TI:=λd H R=>c d H λx b=>∃a,x=.ref a/\(∃xs,SqL K b a xs)/\R #[pD] b
def MJ(K:#[7])(c:TE):TI:=λd H R=>c d H λx b=>∃a,x=.ref a/\(∃xs,SqT K b a xs)/\R (Itt K a) b
theorem Zqs{l:aH}{f:TE}(hl:PE X l f):PI X tg l (MK X.K f):=by
 show#[a7];obtain⟨its,rv,p,hz⟩:=d.list n;refine cH p.isList ?_;refine⟨c.heap.objs.size,[c.heap.objs.size],_,_,j,rfl,d.kept (t':=c.toks) λb o e=>Qc _ e,Znh a _,#[96],λb r=>?_,q⟩;have e:b=c.heap.objs.size:=by simpa using r
 show#[og]
theorem ZsP{l:aH}{f:TE}(hl:PE X l f):PI X tg l (MJ X.K f):=by
 show#[a7];obtain⟨its,rv,p,hz⟩:=d.tuple n;refine wpAny_pyIter_tuple (show c.heap.IsTuple a its.toArray from p) ?_;refine⟨c.heap.objs.size,[c.heap.objs.size],_,_,j,rfl,d.kept (t':=c.toks) λb o e=>Qc _ e,Zlm a _,#[96],λb r=>?_,q⟩;have e:b=c.heap.objs.size:=by simpa using r
 show#[og]
theorem MI{c:#[S]}{d:St}{H:Hp}{s:ai}{R:It->Hp->Prop}{E:#[F]}{lo a:Int}{t u v:Tok}{tk:Nat}(I:#[gY,c,d])(h1:-(2 ^ 62)<=lo)(h2:lo<2 ^ 62)(g:-(2 ^ 62)<=a)(h4:a<2 ^ 62)
  (q:R (Itr lo (a-lo).toNat) H):#[kV] (pyIter #[d9]) (PIE X c d tg R) E { s with heap:=s.heap.push { cls:=.type "range",data:=.fields #[.int lo t,.int a u,.int 1 v] },toks:=tk }:=by
 refine wpAny_pyIter_range (IsRange.new ..) (small_one h1 h2 g h4) ?_;have f:Inv X c d H { s with heap:=s.heap.push { cls:=.type "range",data:=.fields #[.int lo t,.int a u,.int 1 v] },toks:=tk }:=I.kept λb o e=>Qc _ e;refine⟨#[76].objs.size,[#[76].objs.size],_,_,H,rfl,
  f.kept (t':=tk) λb o e=>Qc _ e,ZlS _ lo (a-lo).toNat,?_,λb h=>?_,q⟩
 ·have i:lo+#[fY,0]*1=lo:=by simp
  have j:#[wn]-#[fY,0]=aO.Range.rangeSize lo a 1:=by rw[rangeSize_one];split<;>lia
  show IsRangeIter _ _ (lo+#[fY,0]*1) (#[wn]-#[fY,0]) 1;rw[i,j];exact Qt _ rfl
 ·have e:b=#[76].objs.size:=by simpa using h
  show#[oe]
def Zte(a:TA):TI:=λb H R=>a b H λvs c=>∃j:Int,vs=[.int j] /\ -(2 ^ 62)<=j/\j<2 ^ 62/\R (Itr 0 j.toNat) c
def ZtM(a:TA):TI:=λb H R=>a b H λvs c=>X2 λi j:Int=>vs=#[gO,i,j]/\(-(2 ^ 62)<=i/\i<2 ^ 62 /\ -(2 ^ 62)<=j/\j<2 ^ 62)/\R (Itr i (j-i).toNat) c
theorem WT{a:aH}{c:TA}{p pos:Pos}(d:Gl X "range")(hm:X.mg "range" = af)(ha:PA X [a] c)(hs:#[fd,a]:=by rfl):PI X tg (.Call (.Name "range" p) [a] [] pos) (Zte c):=by
 show#[e8,f,g,R];refine Call_ (V1 I d hm boot_range (Q2 (thn #[fr,f,g] ?_) hs rfl));rintro us s1 ⟨vs,H1,i,k,b⟩;show#[rA,j,e,b,l,b];cases k with
 | cons r m=>cases m;show#[eD,t,r];exact call_range_1 (MI i #[2] #[2] b l #[el,q])
theorem MH{a b:aH}{f:TA}{p pos:Pos}(k:Gl X "range")(hm:X.mg "range" = af)(ha:PA X [a,b] f)(hs:#[bk]:=by rfl)(g:#[fd,b]:=by rfl) :
  PI X tg (.Call (.Name "range" p) [a,b] [] pos) (ZtM f):=by
 show#[e8,l,m,R];refine Call_ (V1 I k hm boot_range (Q2 (thn #[fr,l,m] ?_) (by rw[hs,g]) (by rw[g];rfl)));rintro us s1 ⟨vs,H1,n,o,c⟩;obtain⟨i,j,e,⟨c,u,v,w⟩,q⟩:=c;subst e;cases o with
 | cons r d =>
  cases d with
  | cons x d=>cases d;show#[eD,t,r];show#[eD,t',x];exact call_range_2 (MI n c u v w q)
def ZuM(e:TI)(g:TG)(f:TS):TS:=λD a H=>e a H λJ h=>∃W:Nat->Nat->St->Hp->Prop,(∃m,W 0 m a h)/\∀i m a H,W i m a H ->
 (J.stop i H/\D.nx a H)\/(J.go i H/\∃N:St->Hp->Prop,#[hl,c,b,d]/\∀x b,J.yld i H x b->g x a b λj k=>f { D with nx:=N,ct:=N,bk:=D.nx } j k)
noncomputable def Ui(fp:#[mj])(h:aF):List (ae×aJ):=fp.filterMap λb=>(h.get? b).map λo=>(b,o)
theorem SG{fp:#[mj]}{h:aF}{b:ae}{o:aJ}(hb:b∈fp)(e:h.get? b=U o):(b,o)∈Ui fp h:=List.mem_filterMap.mpr ⟨b,hb,by rw[e];rfl⟩
theorem Znc{fp:#[mj]}{h:aF}{p:ae×aJ}(a:p∈Ui fp h):p.1∈fp/\h.get? p.1=U p.2:=by
 show#[qS,b,c,e,List.mem_filterMap.mp,a];cases q:h.get? b with
 | none=>rw[q]at e;cases e
 | some o=>rw[q]at e;have d:(b,o)=p:=Qn e;subst d;exact⟨c,q⟩
theorem Inv.pinned{a:#[S]}{c:St}{H:Hp}{s:ai}{fp:#[mj]}(I:#[gY,a,c])(h:#[ry,a,H])(i:∀b∈fp,∃o,s.heap.get? b=U o/\∀v,o.data≠.cell v):Inv X (a++Ui fp s.heap) c H s :=
 I.pins_of λp j=>(Qj.mp j).elim (λz=>I.pin p (QC _ z)) λz=>by obtain⟨f,e⟩:=Znc z;obtain⟨k,l,m,_⟩:=h p.1 f;obtain⟨o,g,d⟩:=i p.1 f;show#[fe,e,g,g];exact⟨e,k,l,m,d⟩
theorem Inv.unpinned{a pl:#[S]}{b:St}{H:Hp}{s:ai}(I:Inv X (a++pl) b H s):Inv X a b H s:=I.pins_of λp c=>I.pin p (QC _ (QN _ c))
theorem XS{iter:aH}{G:#[ou]}{K:TI}{g:TG}{L:TS}{pos:Pos}(q:#[wE])(hc:#[am])(hi:PI X tg iter K)(hg:PG X tg g)(hb:PSs X G L)
  (hs:#[a6]:=by intro _;rfl):PS X (.For tg iter G [] pos) (ZuM K g L):=by
 show#[e8,p,M,D];refine wpAny_For (thn #[h7,hi,p,M] λv s1 h1=>thn h1 λxK s2 h2=>?_) hs;obtain⟨it,fp,O,J,H2,e,I2,T,uL,P,W,⟨m0,w0⟩,t⟩:=h2;subst e;have B:∀ {k:Hp},#[qg]->∀b∈fp,WU X p k b:=λhn b hb=>⟨hn b hb,(P b hb).2⟩;refine codeAny_forLoop_any (λn Q=>X3 λi w k=>Inv X p w k Q/\O i Q.heap/\#[qg]/\W i n w k) ?_ m0 ⟨0,M,H2,I2,uL,λb hb=>(P b hb).1,w0⟩;rintro n R ⟨i,y,A,S,U,V,w3⟩;rcases t i n y A w3 with⟨stop,qn⟩|⟨go,N,hN,step⟩
 ·refine bO q (thn (T.done X rfl rfl rfl hc i p R y A X.xe S (B V) U stop) ?_);rintro r s4 ⟨C,I4⟩;subst C;exact wpAny_execs_nil ⟨y,A,I4,qn⟩
 ·refine bO q (thn (T.item X rfl rfl rfl hc i p R y A X.xe S (B V) U go) ?_);rintro r s4 ⟨u,C,h4⟩;subst C;refine bO q (thn h4 ?_);rintro _ Y ⟨x,Z,I5,r5,y5,E,uN⟩;have EX:=I5.pinned (B uN) (T.obj _ _ E);refine bO q (thn (hg _ Y y Z x u _ EX r5 (step x Z y5)) ?_);rintro _ s6 ⟨EY,H6,I6,q6⟩;refine bO q (thn (hb _ s6 EY H6 _ I6 q6) λf F l=>?_);have again:∀ {a:St} {c:Hp},Inv X (p++Ui fp Y.heap) a c F->N a c->∃m,m<n/\X3 λi w k=>Inv X p w k F/\O i F.heap/\#[qg]/\W i m w k:=λ{a c} j z=>by obtain⟨m',hm,w7⟩:=hN a c z;refine⟨m',hm,i+1,a,c,j.unpinned,T.keep _ _ _ E λb hb o e=>(j.pin (b,o) #[re,hb]).1,λb hb=>?_,w7⟩;obtain⟨o,e,d⟩:=T.obj _ _ E b hb;exact(j.pin (b,o) #[re,hb]).2.1
  cases f with
  | next=>obtain⟨a,c,j,z⟩:=l;exact again j z
  | cont=>obtain⟨a,c,j,z⟩:=l;exact again j z
  | brk=>obtain⟨a,c,j,l⟩:=l;exact⟨a,c,j.unpinned,l⟩
  | ret v=>obtain⟨x7,a,c,j,r7,l⟩:=l;exact⟨x7,a,c,j.unpinned,r7,l⟩
universe E
theorem SE{K:#[7]}{a:ae}{xs:#[pO]}{g:TG}{j:TS}{D:Xo}{b:St}{H:Hp}(Pv:#[s1])(h0:Pv 0 b H)(hl:∀i b H,i<=xs.length->Pv i b H->SqL K H a xs)
  (hs:∀i x b H,xs[i]? = U x->Pv i b H->g x b H λd f=>j { D with nx:=Pv (i+1),ct:=Pv (i+1),bk:=D.nx } d f) (hd:#[pg]) :
  ∃W:Nat->Nat->St->Hp->Prop,(∃m,W 0 m b H)/\∀i m b H,W i m b H ->
   (#[pD].stop i H/\D.nx b H)\/(#[pD].go i H/\∃N:St->Hp->Prop,#[hl,h,c,k]/\∀x c,#[pD].yld i H x c->g x b c λd f=>j { D with nx:=N,ct:=N,bk:=D.nx } d f):=by
 refine#[cM];rintro i m b H ⟨rfl,n,p⟩;have q:=hl i b H n p;by_cases l:i<xs.length
 ·refine .inr ⟨⟨xs,xs[i],q,by simp[l]⟩,Pv (i+1),λh c o=>⟨xs.length-(i+1),by lia,rfl,l,o⟩,λx c y=>?_⟩;show#[ep,e,y,y];subst e;exact hs i x b _ (y xs q) p
 ·have e:#[sS]:=by lia
  subst e;exact .inl ⟨⟨xs,q,Qh _⟩,hd b H p⟩
theorem U0{lo:Int}{n:Nat}{g:TG}{j:TS}{D:Xo}{a:St}{H:Hp}(Pv:#[s1])(h0:Pv 0 a H)
  (hs:∀i a H,i<n->Pv i a H->g (.int (lo+i)) a H λc d=>j { D with nx:=Pv (i+1),ct:=Pv (i+1),bk:=D.nx } c d) (hd:∀a H,Pv n a H->D.nx a H) :
  ∃W:Nat->Nat->St->Hp->Prop,(∃m,W 0 m a H)/\∀i m a H,W i m a H ->
   (#[sH].stop i H/\D.nx a H)\/(#[sH].go i H/\∃N:St->Hp->Prop,#[hl,f,b,k]/\∀x b,#[sH].yld i H x b->g x a b λc d=>j { D with nx:=N,ct:=N,bk:=D.nx } c d):=by
 refine⟨λi m a H=>m=n-i/\i<=n/\Pv i a H,⟨n,by simp,Qu _,h0⟩,?_⟩;rintro i m a H ⟨rfl,hi,p⟩;by_cases h:i<n
 ·refine .inr ⟨h,Pv (i+1),λf b l=>⟨n-(i+1),by lia,rfl,h,l⟩,λx b y=>?_⟩;show#[su];exact hs i a _ h p
 ·have e:i=n:=by lia
  subst e;exact .inl ⟨Qh _,hd a H p⟩
abbrev R2:=#[j3]
def OpR(X:Cx)(f:#[mz])(r:R2):Prop :=
 ∀ (a:List (ae×aJ)) (s:ai) (b:St) (H:Hp) (x y:V) (v u:aa) (Q:VK),Inv X a b H s->ZI x v->ZI y u->r x y H Q ->
  #[kV] (f v u) #[i1] X.xe s
def UnR(X:Cx)(f:aa->Sem aa)(r:#[vm]):Prop :=
 ∀ (a:List (ae×aJ)) (s:ai) (b:St) (H:Hp) (x:V) (v:aa) (Q:VK),Inv X a b H s->ZI x v->r x H Q ->
  #[kV] (f v) #[i1] X.xe s
def YS(X:Cx)(f:aa)(r:List V->Hp->VK->Prop):Prop :=
 ∀ (a:List (ae×aJ)) (s:ai) (b:St) (H:Hp) (c:List V) (d:List aa) (Q:VK),Inv X a b H s->ZK c d->r c H Q ->
  #[kV] (call f d) #[i1] X.xe s
def tOp(r:R2)(b c:TE):TE:=λa H Q=>b a H λx d=>c a d λy e=>r x y e Q
def tUn(r:#[vm])(a:TE):TE:=λb H Q=>a b H λx c=>r x c Q
inductive RI2 (x y:V) (B:#[pZ]):Prop where
 | mk (i j:Int) (a:x=.int i) (b:y=.int j) (q:B i j)
inductive RI3 (x y:V) (C B:#[pZ]):Prop where
 | mk (i j:Int) (a:x=.int i) (b:y=.int j) (c:C i j) (q:B i j)
def rI(C:#[pZ])(g:Int->Int->V):R2:=λx y H Q=>RI3 x y C (λi j=>Q (g i j) H)
def rI0(g:Int->Int->V):R2:=λx y H Q=>RI2 x y (λi j=>Q (g i j) H)
def rU(g:Int->V):V->Hp->VK->Prop:=λx H Q=>EA (λi=>x=.int i) (λi=>Q (g i) H)
section
variable {X:Cx} {a b c:aH} {ta tb tc:TE} {pos:Pos}
theorem PB(ha:#[nI])(hb:#[vp]){e:#[S]}{s:ai}{c:St}{H:Hp}{R:V->V->Hp->Prop}(I:#[gY,e,c])
  (h:ta c H λx i=>tb c i λy d=>R x y d) {Q:#[F]} {f:#[mz]}
  (j:∀v u g x y d,Inv X e c d g->ZI x v->ZI y u->R x y d->#[kV] (f v u) Q X.xe g) :
  #[kV] #[hX,a] (λv k=>#[kV] #[hX,b] (λu l=>#[kV] (f v u) Q X.xe l) X.xe k) X.xe s:=by
 refine thn #[h7,ha,e,c] ?_;rintro v m ⟨x,i,n,o,p⟩;refine thn (hb e m c i _ n p) ?_;rintro u g ⟨y,d,q,r,t⟩;exact j v u g x y d q o r t
theorem ZH{op:Operator}{r:R2}(c:OpR X (binaryOp op) r)(ha:#[nI])(hb:#[vp]):PE X (.BinOp a op b pos) #[ta]:=by intro d s e H Q I h;exact wpAny_BinOp #[jk]
theorem WS{op:UnaryOp}{r:#[vm]}(d:UnR X (unaryOp op) r)(ha:#[nI]):PE X (.UnaryOp op a pos) (tUn r ta):=by intro b s c H Q I h;exact UnaryOp_ (thn #[h7,ha,b,c] λv e ⟨x,f,g,i,j⟩=>d b e c f x v Q g i j)
theorem opI{f:#[mz]}{C:#[pZ]}{g:Int->Int->Int}
  (rule:∀ (i j:Int) (t u:Tok) (s:ai) (Q:aa->ai->Prop) (E:aa->ai->Prop),C i j->Q (.int (g i j) s.toks) { s with toks:=s.toks+1 }->#[kV] #[lZ] Q E s) :
  OpR X f (rI C λi j=>.int (g i j)):=by
 show#[cu];obtain⟨i,j,rfl,rfl,c,q⟩:=h;show#[eD,t,a];show#[eD,d,b];exact rule i j t d s _ _ c #[od]
theorem MG{f:#[mz]}{g:Int->Int->Int}
  (rule:∀ (i j:Int) (t u:Tok) (s:ai) (Q:aa->ai->Prop) (E:aa->ai->Prop),Q (.int (g i j) s.toks) { s with toks:=s.toks+1 }->#[kV] #[lZ] Q E s) :
  OpR X f (rI0 λi j=>.int (g i j)):=by
 show#[kn];exact rule i j t c s _ _ #[od]
theorem Pz{f:#[mz]}{g:Int->Int->Bool}
  (rule:∀ (i j:Int) (t u:Tok) (s:ai) (Q:aa->ai->Prop) (E:aa->ai->Prop),Q (.bool (g i j)) s->#[kV] #[lZ] Q E s) :
  OpR X f (rI0 λi j=>.bl (g i j)):=by
 show#[kn];exact rule i j t c s _ _ ⟨.bl (g i j),H,I,rfl,q⟩
def ZuC(i j:Int):Prop:=0<j/\j<1073741824
def MF(i j:Int):Prop:=0<=j/\j<=1000000/\i.natAbs<2 ^ 64
def Py(i j:Int):Prop:=(-(2 ^ 64)<i/\i<2 ^ 64)\/(-(2 ^ 64)<j/\j<2 ^ 64)
theorem Py.ok{i j:Int}(h:Py i j):IntMulOk i j:=by
 rcases h with⟨a,b⟩|⟨a,b⟩
 ·exact .of_left (intBits_le_64 a b)
 ·exact .of_right (intBits_le_64 a b)
theorem Z9:OpR X #[vF] (rI0 λi j=>.int (i+j)):=#[qX,MG,add_int]
theorem Wd:OpR X (binaryOp .Sub) (rI0 λi j=>.int (i-j)):=#[qX,MG,sub_int]
theorem VF:OpR X (binaryOp .Mult) (rI Py λi j=>.int (i*j)):=opI λ_ _ _ _ _ _ _ hc q=>mul_int q hc.ok
theorem SD:OpR X (binaryOp .FloorDiv) (rI ZuC λi j=>.int (i / j)):=opI λi j _ _ _ _ _ hc q=>by have h1:#[xh]<j:=hc.1;have h2:j<1073741824:=hc.2;exact floordiv_int #[2] (by rw[Int.fdiv_eq_ediv_of_nonneg i #[2]];exact q) (.inl (PyProof.noPylong_small #[2]))
theorem UZ:OpR X (binaryOp .Mod) (rI (λ_ j=>0<j) λi j=>.int (i % j)):=opI λi j _ _ _ _ _ hc q=>by have h1:#[xh]<j:=hc;exact mod_int' #[2] (by rw[Int.fmod_eq_emod_of_nonneg i #[2]];exact q)
theorem ME:OpR X (binaryOp .Pow) (rI MF λi j=>.int (i ^ j.toNat)):=opI λ_ _ _ _ _ _ _ hc q=>pow_int_small hc.1 hc.2.1 hc.2.2 q
theorem unI{f:aa->Sem aa}{g:Int->Int}
  (rule:∀ (i:Int) (t:Tok) (s:ai) (Q:aa->ai->Prop) (E:aa->ai->Prop),Q (.int (g i) s.toks) { s with toks:=s.toks+1 }->#[kV] (f (.int i t)) Q E s) :
  UnR X f (rU λi=>.int (g i)):=by
 intro ah s σ H x v Q I a h;obtain⟨i,rfl,q⟩:=h;show#[eD,t,a];exact rule i t s _ _ ⟨.int (g i),H,I.tok _,#[K],q⟩
theorem Ww:UnR X (unaryOp .USub) (rU λi=>.int (-i)):=unI λ_ _ _ _ _ q=>neg_int q
universe E
noncomputable def MD:V->V->Bool
 | .non,.non=>true|.non,.int _=>true|.int _,.non=>true|.non,.bl _=>true|.bl _,.non=>true|.non,.str _=>true|.str _,.non=>true
 | .int _,.int _=>true|.bl _,.bl _=>true|.str _,.str _=>true|.byt _,.byt _=>true
 | .int _,.str _=>true|.str _,.int _=>true|.bl _,.str _=>true|.str _,.bl _=>true
 | _,_=>false
def rEq:R2:=λx y H Q=>MD x y=true/\Q (.bl (decide (x=y))) H
def rNe:R2:=λx y H Q=>MD x y=true/\Q (.bl (!decide (x=y))) H
theorem MC{i j:Int}:decide (V.int i=V.int j)=(i == j):=by rw[Qa0];simp
theorem MB{i j:Bool}:decide (V.bl i=V.bl j)=(i == j):=by rw[Qa0];simp
theorem MA{i j:al}:decide (V.str i=V.str j)=(i == j):=by rw[Qa0];simp
theorem Mz{i j:Array UInt8}:decide (V.byt i=V.byt j)=(i.toList == j.toList):=by rw[Qa0];cases i;cases j;simp
section
variable {X:Cx} {a b c:aH} {ta tb tc:TE} {pos:Pos}
theorem ZY{a:#[S]}{b:St}{H:Hp}{s:ai}{Q:VK}{k k':Bool}(I:#[gY,a,b])(q:Q (.bl k) H)(e:k=k'):EP X a b Q (.bool k') s:=by subst e;exact#[xA,k,q]
theorem YW:OpR X (aU .Eq) rEq:=by
 show#[gx,y,u,d,a];show#[ep,c,q,h];cases x with
 | non =>
  cases d;cases y with
  | non=>cases a;exact PySem.EqNone.eq_none_none #[52]
  | bl j=>cases a;exact PySem.EqNone.eq_none_bool #[52]
  | int j=>obtain⟨b,rfl⟩:=a;exact PySem.EqNone.eq_none_int #[52]
  | str j=>obtain⟨b,rfl⟩:=a;exact PySem.EqNone.eq_none_str #[52]
  | _=>exact #[a9]
 | bl i =>
  cases d;cases y with
  | non=>cases a;exact PySem.EqNone.eq_bool_none #[52]
  | bl j=>cases a;exact eq_bool (ZY I q MB)
  | str j=>obtain⟨b,rfl⟩:=a;exact PySem.EqMixed.eq_bool_str #[52]
  | _=>exact #[a9]
 | int i =>
  show#[tG];cases y with
  | non=>cases a;exact PySem.EqNone.eq_int_none #[52]
  | int j=>obtain⟨b,rfl⟩:=a;exact eq_int (ZY I q MC)
  | str j=>obtain⟨b,rfl⟩:=a;exact PySem.EqMixed.eq_int_str #[52]
  | _=>exact #[a9]
 | str i =>
  show#[tG];cases y with
  | non=>cases a;exact PySem.EqNone.eq_str_none #[52]
  | bl j=>cases a;exact PySem.EqMixed.eq_str_bool #[52]
  | int j=>obtain⟨b,rfl⟩:=a;exact PySem.EqMixed.eq_str_int #[52]
  | str j=>obtain⟨b,rfl⟩:=a;exact eq_str (ZY I q MA)
  | _=>exact #[a9]
 | byt i =>
  show#[tG];cases y with
  | byt j=>obtain⟨b,rfl⟩:=a;exact PySem.W.eq_bytes (ZY I q Mz)
  | _=>exact #[a9]
 | _=>cases y<;>exact #[a9]
theorem Sz:OpR X (aU .NotEq) rNe:=by
 show#[gx,y,u,d,a];show#[ep,c,q,h];cases x with
 | non =>
  cases d;cases y with
  | non=>cases a;exact PySem.EqNone.ne_none_none #[52]
  | bl j=>cases a;exact PySem.EqNone.ne_none_bool #[52]
  | int j=>obtain⟨b,rfl⟩:=a;exact PySem.EqNone.ne_none_int #[52]
  | str j=>obtain⟨b,rfl⟩:=a;exact PySem.EqNone.ne_none_str #[52]
  | _=>exact #[a9]
 | bl i =>
  cases d;cases y with
  | non=>cases a;exact PySem.EqNone.ne_bool_none #[52]
  | bl j=>cases a;exact ne_bool #[qG,MB]
  | str j=>obtain⟨b,rfl⟩:=a;exact PySem.EqMixed.ne_bool_str #[52]
  | _=>exact #[a9]
 | int i =>
  show#[tG];cases y with
  | non=>cases a;exact PySem.EqNone.ne_int_none #[52]
  | int j=>obtain⟨b,rfl⟩:=a;exact ne_int #[qG,MC]
  | str j=>obtain⟨b,rfl⟩:=a;exact PySem.EqMixed.ne_int_str #[52]
  | _=>exact #[a9]
 | str i =>
  show#[tG];cases y with
  | non=>cases a;exact PySem.EqNone.ne_str_none #[52]
  | bl j=>cases a;exact PySem.EqMixed.ne_str_bool #[52]
  | int j=>obtain⟨b,rfl⟩:=a;exact PySem.EqMixed.ne_str_int #[52]
  | str j=>obtain⟨b,rfl⟩:=a;exact ne_str #[qG,MA]
  | _=>exact #[a9]
 | byt i =>
  show#[tG];cases y with
  | byt j=>obtain⟨b,rfl⟩:=a;exact PySem.W.ne_bytes #[qG,Mz]
  | _=>exact #[a9]
 | _=>cases y<;>exact #[a9]
theorem Xc:OpR X (aU .Lt) (rI0 λi j=>.bl (decide (i<j))):=#[qX,Pz,lt_int]
theorem VE:OpR X (aU .Gt) (rI0 λi j=>.bl (decide (j<i))):=#[qX,Pz,gt_int]
theorem Px:OpR X (aU .GtE) (rI0 λi j=>.bl (decide (j<=i))):=#[qX,Pz,ge_int]
theorem Mx:OpR X (aU .Lt) (λx y H Q=>X2 λi j=>x=.str i/\y=.str j/\Q (.bl (decide #[uf])) H):=by intro ah s σ H x y v u Q I a b h;obtain⟨i,j,rfl,rfl,q⟩:=h;obtain⟨t,rfl⟩:=a;obtain⟨t',rfl⟩:=b;exact lt_str (ZY I q rfl)
theorem XR:OpR X (aU .Is) (λx y H Q=>y=.non/\Q (.bl (decide (x=.non))) H):=by
 show#[t4];refine is_none_gen (ZY I q ?_);cases x<;>first
  | (cases a;rfl)
  | (obtain⟨t,rfl⟩:=a;rfl)
theorem UY:OpR X (aU .IsNot) (λx y H Q=>y=.non/\Q (.bl (!decide (x=.non))) H):=by
 show#[t4];refine isnot_none_gen (ZY I q ?_);cases x<;>first
  | (cases a;rfl)
  | (obtain⟨t,rfl⟩:=a;rfl)
theorem Zp(b:aH){op:CmpOp}(h:op≠.In:=by decide)(h2:op≠.NotIn:=by decide):behindInMarks op b=false:=by
 have a:(op == CmpOp.In)=false:=by cases op<;>first|rfl|exact #[xF,h]
 have c:(op == CmpOp.NotIn)=false:=by cases op<;>first|rfl|exact #[xF,h2]
 cases b<;>simp[behindInMarks,a,c]
theorem XQ{op:CmpOp}{r:R2}(c:OpR X (aU op) r)(ha:#[nI])(hb:#[vp])(hm:#[v9]):PE X #[vV] #[ta]:=by intro d s e H Q I h;exact wpAny_Compare1 #[jk] hm
def Ztd(t:TE):TT:=λa H Q=>t a H λx b=>EA (λk=>x=.bl k) (λk=>Q k b)
theorem Zm{op:CmpOp}{r:R2}(g:OpR X (aU op) r)(ha:#[nI])(hb:#[vp])(hm:#[v9]):PT X #[vV] (Ztd #[ta]):=by
 show#[e8,d,f,Q];refine wpAny_isTrue_Compare1 (thn #[h7,ha,d,f] λv i ⟨x,j,l,m,n⟩=>thn (hb d i f j _ l n) λu o ⟨y,p,q,t,w⟩=>
  thn (g d o f p x y v u _ q m t w) λc s3 ⟨z,A,B,C,k,e,D⟩=>?_) hm
 subst e;cases C;exact bT ⟨A,B,D⟩
theorem UX:(ao:Nat)<2 ^ 63:=by rw[aP];decide
theorem Pw:OpR X #[vF] (λx y H Q=>X2 λi j=>x=.str i/\y=.str j/\i.length+j.length<=ao/\Q (.str (i++j)) H):=by intro ah s σ H x y v u Q I a b h;obtain⟨i,j,rfl,rfl,c,q⟩:=h;obtain⟨t,rfl⟩:=a;obtain⟨d,rfl⟩:=b;exact add_str (λd tk=>⟨.str (i++j),H,I.tok _,#[K],q⟩) c
theorem Xb{x:V}{us:#[bd]}(r:ZK [x] us):∃u,us=[u]/\ZI x u:=by
 cases r with
 | cons a b=>cases b;exact⟨_,rfl,a⟩
theorem Sy{x y:V}{us:#[bd]}(r:ZK [x,y] us):X2 λu a=>us=[u,a]/\ZI x u/\ZI y a:=by
 cases r with
 | cons b c =>
  cases c with
  | cons d e=>cases e;exact⟨_,_,rfl,b,d⟩
theorem Mw:YS X #[e0,"abs"] (λxs H Q=>∃i,xs=[.int i]/\Q (.int #[wT]) H):=by intro ah s σ H xs us Q I r h;obtain⟨i,rfl,q⟩:=h;obtain⟨u,rfl,t,rfl⟩:=Xb r;exact call_abs_int λu tk=>⟨.int #[wT],H,I.tok _,#[K],q⟩
theorem Zm5(hc:#[am]):YS X #[e0,"max"] (λxs H Q=>X2 λi j=>xs=#[gO,i,j]/\Q (.int (if j>i then j else i)) H):=by
 show#[iq];refine max_two_ints #[iy] λh' tk k=>⟨_,H,I.kept k,?_,q⟩;by_cases a:j>i
 ·show#[io,a,a];exact#[K]
 ·show#[ia,a,a];exact#[K]
theorem Znx(hc:#[am]):YS X #[xs] (λxs H Q=>X2 λi j=>xs=#[gO,i,j]/\Q (.int (if j<i then j else i)) H):=by
 show#[iq];refine min_two_ints #[iy] λh' tk k=>⟨_,H,I.kept k,?_,q⟩;by_cases a:j<i
 ·show#[io,a,a];exact#[K]
 ·show#[ia,a,a];exact#[K]
theorem Mv:YS X #[o0] (λxs H Q=>(∃i,xs=[.int i]/\Q #[u4] H)\/∃k,xs=[.bl k]/\Q (.int (if k then 1 else 0)) H):=by
 show#[b5];rcases h with⟨i,rfl,q⟩|⟨k,rfl,q⟩
 ·obtain⟨u,rfl,t,rfl⟩:=Xb r;exact call_int_int ⟨.int i,H,I,#[K],q⟩
 ·show#[e9,a];exact call_int_bool ⟨.int (if k then 1 else 0),H,I.tok _,#[K],q⟩
universe E
structure VD (h:aF) (x dx C:ae) (mA:#[R]):Prop where
 obj:h.get? x=U (PySem.W.instObj C dx)
 ns:h.Ns1 dx mA
 ne:dx≠x
theorem Mu{h:aF}{dx:ae}{mA:#[R]}(n:h.Ns1 dx mA):∃od,h.get? dx=U od/\∀name,PySem.W.lookIn name od=U (mA name):=by
 obtain⟨o,b,ep,c,d,f,_,g⟩:=n;refine⟨o,c,λname=>?_⟩;have e:=g name;unfold nsFind findBy at e;rw[<- Array.find?_toList]at e;unfold PySem.W.lookIn;rw[d];dsimp only;split
 ·rename_i y q;rw[q]at e;exact congrArg U e
 ·rename_i q;rw[q]at e;have a:b.toList.any (·.refKey)=false:=by rw[List.any_eq_false];intro y i;obtain⟨z,t,j⟩:=f y (Array.mem_toList_iff.mp i);simp[DictEntry.refKey,j]
  have k:¬ b.toList.any (·.refKey)=true:=by rw[a];exact Qo
  rw[if_neg k];exact congrArg U e
theorem VD.look{h:aF}{x dx C:ae}{mA:#[R]}(I:VD h x dx C mA):∃od,PySem.W.InstAt h x (PySem.W.instObj C dx) C (U od)/\∀name,PySem.W.lookIn name od=U (mA name) :=
 let ⟨od,a,b⟩:=Mu I.ns
 ⟨od,⟨I.obj,rfl,rfl,a⟩,b⟩
section
variable {prog:ax} {w:aE} {A:aB} {E:aa->ai->Prop} {s:ai} {K:#[7]} {x dx C f:ae} {mA:al->Option aa} {name:al} {v:aa}
theorem ZqJ{a:Bool}{Q:#[F]}(X:#[lw])(I:#[po])(b:#[sz])(c:#[fk,C])
  (ha:#[j4]) (d:mA name=U v) (e:#[wK]) (h:#[sY]) :
  au #[p] A (getAttr #[nw] name a) Q E s:=by
 show#[hU,od,J,f,I.look];exact PySem.W.get_value X J (PySem.W.plainGet_of b).1 (PySem.W.findObj_own c ha rfl (by rw[f,d])) e h
theorem Zpu{pl:Sem Bool}{Q:aa×List aa->ai->Prop}(X:#[lw])(I:#[po])(a:#[sz])
  (b:PySem.W.findIn K #[M] name=U (U #[bT])) (c:PySem.W.isFn K #[bT]=true) (d:mA name=af) (h:Q (.ref f,[.ref x]) s) :
  au #[p] A (getMethod #[nw] name pl) Q E s:=by
 show#[hU,e,J,g,I.look];exact PySem.W.method_fn X J #[xa].1 #[xa].2 b (beq_iff_eq.mp c) (by show (PySem.W.lookIn name e).map (·.isSome)=U false;rw[g,d];rfl) h
theorem Zrr{ns:#[Q]}{Q:#[aJ]}(X:#[lw])(I:#[po])
  (hs:#[fZ,#[M]]) (e:#[rB,C]) (f:PySem.W.takerIn K C name=U af) (g:#[fk,C])
  (hw:PySem.Within mA ns) (hsz:#[sR])
  (h:∀h',VD h' x dx C #[jg]->aF.SameBut dx s.heap h'->Q () { s with heap:=h',toks:=s.toks+2 }) :
  au #[p] A (setAttr #[nw] name v) Q E s:=by
 show#[hU,od,J,hl,I.look];refine PySem.W.set_plain X J hs (PySem.W.osa_open (s:=#[c8]) (r:=af) X J e f λb=>?_);show#[qS,cd,i,j,Qbi,g];have k:s.heap.get? x=U ⟨.ref C,U dx,.plain,#[]⟩:=I.obj;refine aj (av (aj (aj (wpAny_loadPart k (aj (PySem.W.Looks.here (s:=#[c8]) (PySem.W.looks_clsIn X i) ?_))))));rw[j];refine av (a:=U dx) (aj (av (aj ?_)));refine wpAny_nsSet1 (s:=#[c8]) I.ns λh' c d=>?_;obtain⟨oD,Ar,As,l,m,n⟩:=c.count (PySem.Within.cons name v hw);refine aj (wpAny_lookBehind l (by rw[m];exact pastItsLine_dict (Ql n #[h5,QH])) ?_);exact av (h _ ⟨(d.2 _ (Ne.symm I.ne)).trans I.obj,c,I.ne⟩ d)
theorem ZpD{R:#[ld]}{vs:#[bd]}{kw:#[tx]}(X:#[lw])(hm:#[sq,C])
  (a:#[ff,#[M],#[bT]]) (b:PySem.W.typeIn K #[bT]=U #[h4,"function"])
  (h:bU #[p] (A.under (.builtin "type.__call__" ⟨.ref C::vs,kw⟩)) (.call #[bT] ⟨.ref #[G]::vs,kw⟩) (PySem.W.InitBack #[G] R)
   { s with heap:=(s.heap.push PySem.W.emptyDict).push (PySem.W.instObj C s.heap.objs.size) }) :
  bU #[p] A (.call #[M] ⟨vs,kw⟩) R s:=by
 show#[gn,hh,t,s];exact PySem.W.make_core (PySem.W.makes_of X hm) (Qac X a) (λself=>PySem.W.bind_fn X self b) #[8] h
universe E
noncomputable def ZA(f:al)(v:V):List (al×V)->List (al×V)
 | []=>[(f,v)]
 | (g,x)::r=>if g=f then (g,v)::r else (g,x)::ZA f v r
theorem Zs(f g:al)(v:V):∀fs:List (al×V),#[tk].lookup g=if g=f then U v else fs.lookup g
 | []=>by
  show List.lookup g [(f,v)]=_;by_cases h:g=f
  ·show#[qU,f];simp only[List.lookup,hb,if_pos h]
  ·show#[hI,f];simp only[List.lookup,hb,if_neg h]
 | (k,x)::r=>by
  have b:=Zs f g v r;show#[97];by_cases a:k=f
  ·rw[if_pos a];by_cases h:g=k
   ·show#[qU,k];simp only[List.lookup,hb,if_pos (h.trans a)]
   ·show#[hI,k];simp only[List.lookup,hb,if_neg (λe:g=f=>h (e.trans a.symm))]
  ·rw[if_neg a];by_cases h:g=k
   ·show#[qU,k];simp only[List.lookup,hb,if_neg (λe:g=f=>a (h.symm.trans e))]
   ·show#[hI,k];simp only[List.lookup,hb];exact b
theorem Uh(f:al)(v:V):∀fs:List (al×V),f∈#[tk].map #[T]/\∀g,g∈fs.map #[T]->g∈#[tk].map #[T]
 | []=>⟨by simp[ZA],λg h=>by simp at h⟩
 | (k,x)::r=>by
  obtain⟨i1,i2⟩:=Uh f v r;show#[97];by_cases a:k=f
  ·rw[if_pos a];subst a;exact⟨by simp,λg h=>by simpa using h⟩
  ·rw[if_neg a];show#[g7,?_,g,h]
   ·rw[Qs];exact QF _ i1
   ·rw[Qs]at h ⊢;rcases QO.mp h with e|e
    ·exact List.mem_cons.mpr (.inl e)
    ·exact QF _ (i2 g e)
theorem Mt(f:al)(v:V):∀fs:List (al×V),#[tk].length<=fs.length+1
 | []=>by simp[ZA]
 | (k,x)::r=>by
  have ih:=Mt f v r;show#[97];by_cases a:k=f
  ·rw[if_pos a,QH,QH];lia
  ·rw[if_neg a,QH,QH];lia
theorem Yr.some_of{v:V}{o:#[pS]}(r:Yr (U v) o):∃u,o=U u/\ZI v u:=by
 cases o with
 | none=>exact#[iv].elim
 | some u=>exact⟨u,rfl,r⟩
theorem Yr.none_of{o:#[pS]}(r:Yr af o):o=af:=by
 cases o with
 | none=>rfl
 | some u=>exact#[iv].elim
theorem Ms{v:V}{u:aa}(r:ZI v u):PySem.W.handedIn u=true:=by
 cases v with
 | non=>cases (show u=aa.none from r);rfl
 | bl b=>cases (show u=aa.bool b from r);rfl
 | int i=>obtain⟨t,e⟩:=#[eE,aa.int,i,r];cases e;rfl
 | str x=>obtain⟨t,e⟩:=#[eE,aa.str,x,r];cases e;rfl
 | byt b=>obtain⟨t,e⟩:=#[eE,aa.bytes,b,r];cases e;rfl
 | flt b=>obtain⟨t,e⟩:=#[eE,aa.float,b,r];cases e;rfl
 | ref a=>cases (show u=aa.ref a from r);rfl
 | ty n=>cases (show u=aa.type n from r);rfl
section
variable {P:ax} {w:aE} {H H':Hp} {h h':aF} {a C dx:ae} {fs qj:List (al×V)}
theorem Ug(hok:#[dX])(e:#[k3]):∃mA,VD h a dx C mA/\#[xP,mA]/\PySem.Within mA #[nN]/\fs.length<=1000/\H dx=U #[xk]:=by obtain⟨d,z,ne,b,mA,n,r,q⟩:=(show Z5 P w H h a (.ins C dx fs) from hok a _ e);exact⟨mA,⟨b,n,ne⟩,r,q,z,d⟩
universe E
structure Cls (K:#[7]) (C:ae):Prop where
 pg:PySem.W.plainGet K C al.empty=true
 hd:PySem.W.hasDictIn K C=true
 po:PySem.W.plainOver K C=true
 sa:PySem.W.findIn K #[M] "__setattr__" = U #[17]
theorem Cls.get{K:#[7]}{C:ae}(c:Cls K C)(f:al):PySem.W.plainGet K C f=true:=c.pg
def YD(K:#[7])(C:ae)(f:al):Prop:=PySem.W.findIn K #[M] f=U af
theorem YD.taker{K:#[7]}{C:ae}{f:al}(n:YD K C f):PySem.W.takerIn K C f=U af:=by unfold PySem.W.takerIn;rw[show PySem.W.findIn K #[M] f=U af from n];rfl
structure Con (K:#[7]) (C:ae) (f:al) (v:V) (u:aa):Prop where
 at_:PySem.W.findIn K #[M] f=U (U u)
 rel:ZI v u
 get:PySem.W.specialIn K u "__get__" = U af
 cp:PySem.W.copiedNames.contains f=false
structure UW (K:#[7]) (C:ae) (m:al) (f:ae):Prop where
 at_:PySem.W.findIn K #[M] m=U (U #[bT])
 fn:PySem.W.isFn K #[bT]=true
 kp:PySem.W.keepIn K #[bT]=true
section
variable {X:Cx} {ah:List (ae×aJ)} {σ:St} {H:Hp} {s:ai} {a C dx:ae} {fs:List (al×V)} {f:al} {v:V} {A:aB} {E:aa->ai->Prop}
theorem Mr{b:Bool}{Q:#[F]}(I:#[i])(e:#[k3])(c:#[ps])(n:#[sy])(l:fs.lookup f=U v)
  (h:#[xx,u,H]):au #[22] A (getAttr #[iB] f b) Q E s:=by
 obtain⟨g,O,r,_,_,_⟩:=Ug I.hok e;obtain⟨u,i,d⟩:=Yr.some_of (v:=v) (o:=g f) (by rw[<- l];exact r f);exact ZqJ I.kIn O (c.get f) c.hd n i (Ms d) (h u _ #[nS] d)
theorem Pu{m:al}{g:ae}{pl:Sem Bool}{Q:aa×List aa->ai->Prop}(I:#[i])(e:#[k3])(c:#[ps])(k:UW X.K C m g)(l:fs.lookup m=af)
  (h:Q (.ref g,#[lL]) s):au #[22] A (getMethod #[iB] m pl) Q E s:=by
 obtain⟨b,O,r,_,_,_⟩:=Ug I.hok e;have d:b m=af:=Yr.none_of (by rw[<- l];exact r m);exact Zpu I.kIn O (c.get m) k.at_ k.fn d h
theorem Mq{y:V}{u:aa}{Q:#[aJ]}(I:#[i])(e:#[k3])(c:#[ps])(n:#[sy])(hl:fs.length<1000)(l:ZI y u)
  (h:∀s',Inv X ah σ (upd H a (.ins C dx #[tj])) s'->Q () s'):au #[22] A (setAttr #[iB] f u) Q E s:=by
 obtain⟨i,O,r,j,_,k⟩:=Ug I.hok e;have m:#[nN].length<=ao:=by rw[Qa,aP];lia
 refine Zrr I.kIn O c.sa c.po n.taker c.hd j m λp d t=>h _ ?_;have v:∃o,p.get? dx=U o:=let ⟨o,_,_,w,_⟩:=d.ns;⟨o,w⟩;refine I.write (x:=a) (e:=dx) #[cB] (.inr k) (λb q B z=>(t.2 b B).trans z) v ?_;refine⟨by rw[Zd O.ne];exact k,?_,O.ne,d.obj,_,d.ns,λg=>?_,λg D=>?_⟩
 ·have:=Mt f y fs;lia
 ·show Yr (#[tj].lookup g) (if g=f then U u else i g);rw[Zs];by_cases q:g=f
  ·show#[io,q,q];exact l
  ·show#[ia,q,q];exact r g
 ·by_cases q:g=f
  ·rw[q];exact#[w7].1
  ·refine#[w7].2 g (j g λz=>D ?_);show (if g=f then U u else i g)=af;rw[if_neg q];exact z
theorem Inv.made(I:#[i]):Inv X ah σ #[fl,H,s.heap.objs.size,#[G],C]
  { s with heap:=(s.heap.push PySem.W.emptyDict).push (PySem.W.instObj C s.heap.objs.size) }:=by
 have c:#[dn].get? s.heap.objs.size=U PySem.W.emptyDict:=Qt s.heap rfl;have d:(#[dn].push #[n8]).get? #[G]=U #[n8]:=by have:=Qt #[dn] (o:=PySem.W.instObj C s.heap.objs.size) rfl;rwa [QW]at this
 have f:#[dn].Ns s.heap.objs.size (λ_=>af):=⟨PySem.W.emptyDict,#[],_,c,rfl,(λe g=>absurd g #[4]),λ_=>rfl⟩;have h:=I.laid (a:=#[pQ]) (o:=.own #[G]) (h':=s.heap.push PySem.W.emptyDict) (t':=#[wy]) #[rP,u,q] #[jJ] ⟨_,c⟩;refine h.laid (a:=s.heap.objs.size+1) (o:=.ins C s.heap.objs.size []) (t':=#[wy]) #[rP,u,q] (Nat.le_of_eq (QW _ _)) ?_;have ne:s.heap.objs.size≠s.heap.objs.size+1:=QB (Qbj _);refine⟨by rw[Zd ne,Zb],Qu _,ne,d,λ_=>af,(aF.Ns1.of_empty f).at λo q=>Qc _ q,λ_=>True.intro,λy i=>absurd rfl i⟩
theorem Mp{prog:ax}{w:aE}{env:Env}{e:aH}{f:al}{pos:Pos}{s:ai}{Q:#[F]}(hb:bo e f env (eval e env)=eval e env)
  (h:au #[p] A (eval e env) (λo a=>au #[p] A (getAttr o f true) Q E a) E s):au #[p] A (eval (.Attribute e f pos) env) Q E s :=
 Attribute_any_ h (by rw[arm_eval_Attribute,hb])
universe E
inductive ZuQ (K:#[7]) (f:al) (x:V) (H:Hp) (B:V->Prop):Prop where
 | mk (a C dx:ae) (fs:List (al×V)) (v:V) (e:x=.ref a) (g:H a=U (.ins C dx fs)) (c:Cls K C) (n:YD K C f) (l:fs.lookup f=U v) (q:B v)
def ZuY(K:#[7])(b:TE)(f:al):TE:=λc H Q=>b c H λx a=>ZuQ K f x a (λv=>Q v a)
inductive RSF (K:#[7]) (f:al) (x:V) (H:Hp) (B:ae->HO->Prop) (y:V):Prop where
 | mk (a C dx:ae) (fs:List (al×V)) (e:x=.ref a) (g:H a=U (.ins C dx fs)) (c:Cls K C) (n:YD K C f) (l:fs.length<1000) (q:B a (.ins C dx (ZA f y fs)))
def ZuP(K:#[7])(d e:TE)(f:al):TS:=λD b H=>e b H λy g=>d b g λx c=>RSF K f x c (λa o=>D.nx b (upd c a o)) y
def Mo(X:Cx)(op:Operator)(rd:#[j3]):Prop :=
 ∀ (a:List (ae×aJ)) (s:ai) (b:St) (H:Hp) (x y:V) (u v:aa) (Q:VK),Inv X a b H s->ZI x u->ZI y v->rd x y H Q->#[kV] (inplaceOp op u v) #[i1] X.xe s
def Zra(K:#[7])(h i:TE)(rd:#[j3])(f:al):TS:=λD b H=>h b H λx d=>X5 λa C dx fs v=>x=.ref a/\d a=U (.ins C dx fs)/\Cls K C/\YD K C f/\fs.lookup f=U v /\
 i b d λy j=>rd v y j λz e=>X2 λg c=>e a=U (.ins C g c)/\c.length<1000/\D.nx b (upd e a (.ins C g (ZA f z c)))
section
variable {X:Cx} {o e value:aH} {f:al} {pos dD eB:Pos} {ta tv:TE}
theorem ZO(he:PE X e ta)(hb:bo e f X.env #[hX,e]=eval e X.env):PE X (.Attribute e f pos) (ZuY X.K ta f):=by intro b s d H Q I h;refine Mp hb #[eo,he,b,d];rintro u s1 ⟨x,g,i,j,a,C,dx,fs,v,ex,k,c,n,l,q⟩;subst ex;obtain rfl:u=aa.ref a:=j;exact Mr i k c n l λu' s2 m o=>⟨v,g,m,o,q⟩
theorem XO(ha:#[nH])(e:#[sZ])(hs:#[ay]):PS X #[iM] (ZuP X.K ta tv f):=by intro d s b H D I h;refine plainObj_wpAny_Assign_Attribute #[fF,e,d,q] hs;rintro m s2 ⟨x,H2,p,r,a,C,dx,fs,ex,t,c,n,l,v⟩;subst ex;obtain rfl:m=aa.ref a:=r;exact Mq p t c n l k λs3 w=>⟨b,_,w,v⟩
theorem VC{op:Operator}{rd:#[j3]}(ha:#[nH])(e:#[sZ])(g:Mo X op rd):PS X (.AugAssign #[hf,f,eB] op value pos) (Zra X.K ta tv rd f):=by intro d s b H D I h;refine wpAny_AugAssign_AttributeAny #[eo,ha,d,b];rintro i s1 ⟨x,j,k,m,a,C,dx,fs,v,ex,p,c,n,l,q⟩;subst ex;obtain rfl:i=aa.ref a:=m;refine Mr k p c n l λu r t w=>thn (e d r b j _ t q) λA B ⟨y,E,F,G,J⟩=>thn (g d B b E v y u A _ F w G J) ?_;rintro w4 s4 ⟨z,H3,K,L,rp,qj,M,N,O⟩;exact Mq K M c n N L λs5 P=>⟨b,_,P,O⟩
def ZuU:V->V->Hp->VK->Prop:=λx y H Q=>RI2 x y (λi j=>Q (.int (i+j)) H)
theorem Uf:Mo X .Add ZuU:=by rintro ah s σ H x y u v Q I b c ⟨i,j,rfl,rfl,q⟩;obtain⟨t,rfl⟩:=#[eE,aa.int,i,b];obtain⟨a,rfl⟩:=(show ∃a,v=aa.int j a from c);exact PyProof.Rows.iadd_int ⟨.int (i+j),H,I.tok _,#[K],q⟩
universe E
section
variable {X:Cx} {ah:List (ae×aJ)} {σ:St} {H:Hp} {s:ai} {A:aB} {E:aa->ai->Prop} {Q:aa->ai->Prop} {c:aa} {b:Bool}
inductive Xn (K:#[7]) (H:Hp):V->aa->Prop where
 | non:Xn K H .non (.type "NoneType")
 | bl (x:Bool):Xn K H (.bl x) (.type "bool")
 | int (i:Int):Xn K H (.int i) (.type "int")
 | str (x:al):Xn K H (.str x) (.type "str")
 | flt (x:UInt64):Xn K H (.flt x) (.type "float")
 | lst {a:ae} {xs:List V} (e:H a=U (.lst xs)):Xn K H (.ref a) (.type "list")
 | frz {a:ae} {o:aJ} {xs:List V} (e:H a=U (.frz o (.lst xs))):Xn K H (.ref a) (.type "list")
 | tup {a:ae} {xs:List V} (e:H a=U (.tup xs)):Xn K H (.ref a) (.type "tuple")
 | dK {a:ae} {kvs:List (Key×V)} (e:H a=U (.dK kvs)):Xn K H (.ref a) (.type "dict")
 | dT {a:ae} {kvs:List (List Key×V)} (e:H a=U (.dT kvs)):Xn K H (.ref a) (.type "dict")
 | ins {a C dx:ae} {fs:List (al×V)} (e:H a=U (.ins C dx fs)) (cl:Cls K C) (ha:PySem.W.findIn K (.ref C) "__class__" = U (U (.builtin "object.__class__")))
   (hn:#[cH]) (qm:#[kF])
   (hm:#[go,C]):Xn K H #[iB] #[M]
theorem Zm3{x:V}{u t:aa}(I:#[i])(d:ZI x u)(ty:Xn X.K H x t)(e:PySem.W.kitOne X.K t c=U b)(h:∀tk,Q (.bool b) { s with toks:=tk }) :
  au #[22] A (call #[cr] [u,c]) Q E s:=by
 cases ty with
 | non=>cases (show u=aa.none from d);show#[ha,PySem.W.kitx_none]
 | bl y=>cases (show u=aa.bool y from d);show#[ha,PySem.W.kitx_bool]
 | int i=>obtain⟨t,q⟩:=#[uz];cases q;show#[ha,PySem.W.kitx_int]
 | str y=>obtain⟨t,q⟩:=#[eE,aa.str,y,d];cases q;show#[ha,PySem.W.kitx_str]
 | flt y=>obtain⟨t,q⟩:=#[eE,aa.float,y,d];cases q;show#[ha,PySem.W.kitx_float]
 | @lst a k f=>cases (show u=aa.ref a from d);obtain⟨_,_,n,_,g⟩:=(show Z5 X.prog X.w H s.heap a (.lst k) from I.hok a _ f);exact #[ot]
 | @frz a r k f=>cases (show u=aa.ref a from d);obtain⟨_,_,_,n,_,g⟩:=(show Z5 X.prog X.w H s.heap a (.frz r (.lst k)) from I.hok a _ f);exact #[ot]
 | @tup a k f=>cases (show u=aa.ref a from d);obtain⟨_,_,_,p⟩:=(show Z5 X.prog X.w H s.heap a (.tup k) from I.hok a _ f);obtain⟨o,g,l,_⟩:=p;exact QX PySem.W.kitx_tuple I.kIn ⟨o,g,l⟩ e #[t] h
 | @dK a j f=>cases (show u=aa.ref a from d);obtain⟨_,_,vs,_,p⟩:=#[fs,a,j,f];obtain⟨o,v,w,g,l,_⟩:=p;exact #[os]
 | @dT a j f=>cases (show u=aa.ref a from d);obtain⟨_,_,k,_,o,v,w,g,l,_⟩:=(show Z5 X.prog X.w H s.heap a (.dT j) from I.hok a _ f);exact #[os]
 | @ins a C dx fs f m B D F G=>cases (show u=aa.ref a from d);obtain⟨mA,O,_⟩:=Ug I.hok f;obtain⟨od,J,_⟩:=O.look;exact QX (PySem.W.kitx_own (m.get _) m.hd B D F G) I.kIn J e #[t] h
universe E
structure Y4 (k:Nat) (A:aB):Prop where
 hd:A.handled=af
 dp:A.depth+3*k+5<recursionLimit
 un:A.units+16*k+200<cLine
 gd:A.guards=U []
theorem Y4.mono{j k:Nat}{A:aB}(r:Y4 k A)(h:j<=k):Y4 j A:=⟨r.hd,by have:=r.dp;lia,by have:=r.un;lia,r.gd⟩
theorem Y4.deeper{k:Nat}{A:aB}(r:Y4 (k+1) A)(env:Env):Y4 k (A.deeper env) :=
 ⟨r.hd,by have:=r.dp;show A.depth+1+3*k+5<_;lia,by have:=r.un;show A.units+3+16*k+200<_;lia,r.gd⟩
theorem ZlT{A:aB}{C:ae}{us:#[bd]}{kw:#[tx]}:#[oV].depth=A.depth+1:=by first|rfl|simp[aB.under,Code.weight,Code.isCreation,Code.isGuard,Code.isCaller,Code.frames,Code.isFrame,guardIds]
theorem ZlA{A:aB}{C:ae}{us:#[bd]}{kw:#[tx]}:#[oV].units=A.units+1:=by first|rfl|simp[aB.under,Code.cUnits,Code.frames,Code.isFrame]
theorem Y4.make{k:Nat}{A:aB}(r:Y4 (k+1) A)(C:ae)(us:#[bd])(kw:#[tx]):Y4 k #[oV] :=
 ⟨r.hd,by have:=r.dp;rw[ZlT];lia,by have:=r.un;rw[ZlA];lia,by rw[show (A.under #[64]).guards=A.guards from by first|rfl|simp[aB.under,pushGuards,Code.guards,Code.isGuard,guardIds]];exact r.gd⟩
theorem Y4.depth{k:Nat}{A:aB}(r:Y4 k A):A.depth<recursionLimit:=by have:=r.dp;lia
theorem Y4.units{k:Nat}{A:aB}(r:Y4 k A):A.units+64<cLine:=by have:=r.un;lia
def Pt:TA:=λ_ H Q=>Q [] H
def Zup(b:TE)(c:TA):TA:=λa H Q=>b a H λx d=>c a d λxs e=>Q (x::xs) e
section
variable {X:Cx} {e:aH} {es:List aH} {te:TE} {t:TA} {pos:Pos}
theorem Zc:PA X [] Pt:=λ_ _ _ _ H Q I h=>Calls.spliced_nil ⟨[],H,I,.nil,h⟩
theorem Za(ha:#[pp])(c:PA X es t)(hs:#[h]:=by rfl):PA X (e::es) (Zup te t):=by intro pos a s b H Q I h;rw[hs];show au _ _ (spliced (#[k4]::bc pos (aD es X.env))) _ _ s;refine Calls.spliced_cons #[eo,ha,a,b];rintro u d ⟨x,f,g,i,j⟩;exact thn (c pos a d b f _ g j) λus s2 ⟨k,l,m,n,o⟩=>⟨x::k,l,m,.cons i n,o⟩
def ZuJ(t:TA):TE:=λb H Q=>t b H λxs a=>xs.length<=ao/\∀p,a p=af->Q #[bS] (upd a p #[dG])
def ZuW(t:TA):TE:=λb H Q=>t b H λxs a=>xs.length<=ao/\∀p,a p=af->Q #[bS] #[hS,a,p,xs]
theorem ZV{f}(h:PA X es t):PE X (.Tuple es f pos) (ZuJ t):=by intro g s i H Q I j;refine wpAny_Tuple_spliced (thn (h pos g s i H _ I j) λk a ⟨l,c,d,r,z,q⟩=>⟨by rw[<- r.length];exact z,?_⟩);have m:c a.heap.objs.size=af:=d.hok.fresh #[jJ];refine⟨.ref a.heap.objs.size,upd c a.heap.objs.size (.tup l),d.laid (t':=a.toks) #[rP,u,e] #[jJ] ?_,rfl,q _ m⟩;exact⟨z,k,r,⟨_,Qt _ rfl,rfl,_,rfl⟩⟩
theorem ZJ(h:PA X es t):PE X (.List es pos) (ZuW t):=by intro f s g H Q I i;refine wpAny_List_spliced (thn (h pos f s g H _ I i) λj a ⟨k,c,d,r,z,q⟩=>⟨by rw[<- r.length];exact z,?_⟩);have l:c a.heap.objs.size=af:=d.hok.fresh #[jJ];refine⟨.ref a.heap.objs.size,upd c a.heap.objs.size (.lst k),d.laid (t':=a.toks) #[rP,u,e] #[jJ] ?_,rfl,q _ l⟩;exact⟨z,j,0,r,Qt _ rfl⟩
universe E
abbrev Sp:=List V->Hp->VK->XK->Prop
abbrev CXT:=List Env->Hp->ai->XK->aa->ai->Prop
structure VB (P:ax) (w:aE) (K:#[7]) (mg:#[R]) (base:aF) (A:aB) (outer:#[ow]) (s:ai) (H:Hp):Prop where
 frames:A.frames=U outer
 mod:Mod K mg base
 bs:∀b o,base.get? b=U o->s.heap.get? b=U o/\H b=af
 bsz:base.objs.size<=s.heap.objs.size
 funs:s.heap.FunFrames base outer
 frf:∀b∈frs outer,H b=af
 hok:HOk P w H s.heap
 bare:AllBare s.gens
def CE(outer:#[ow])(P:ax)(w:aE)(H:Hp)(s:ai)(Q:VK)(u:aa)(s':ai):Prop :=
 X2 λv a=>s'.os=s.os/\AllBare s'.gens/\Un (frs outer) [] H a s.heap s'.heap/\HOk P w a s'.heap/\ZI v u/\Q v a
def CR(CX:CXT)(outer:#[ow])(P:ax)(w:aE)(H:Hp)(s:ai)(Q:VK)(E:XK)(r:Result)(s':ai):Prop :=
 match r with
 | .ok (.ret u)=>CE outer P w H s Q u s'
 | .ok _=>False
 | .error e=>CX outer H s E e s'
structure YF (P:ax) (w:aE) (K:#[7]) (mg:#[R]) (base:aF) (CX:CXT) (k:Nat) (f:ae) (fd:bu) (ps:#[Q]) (sp:Sp):Prop where
 len:∀vs H Q E,sp vs H Q E->vs.length=ps.length
 run:∀ (A:aB) (outer:List Env) (s:ai) (H:Hp) (args:Args) (us:List aa) (vs:List V) (Q:VK) (E:XK),Y4 k A->VB P w K mg base A outer s H->BindsTo s fd args #[mH]->ZK vs us->sp vs H Q E ->
  bU #[uV] A (.call #[bT] args) (CR CX outer P w H s Q E) s
theorem VB.make{P:ax}{w:aE}{K:#[7]}{mg:#[R]}{base:aF}{A:aB}{outer:#[ow]}{s:ai}{H:Hp}(e:#[tS])(C:ae)(us:#[bd])(kw:#[tx]) :
  VB P w K mg base #[oV] outer s H:=⟨by first|exact e.frames|(simpa [aB.under,Code.envs,Code.isFrame,pushEnvs] using e.frames),e.mod,e.bs,e.bsz,e.funs,e.frf,e.hok,e.bare⟩
section
variable {X:Cx} {ah:List (ae×aJ)} {σ:St} {H:Hp} {s s':ai}
theorem Inv.env0(I:#[i]):VB X.prog X.w X.K X.mg X.base X.A X.stack s H :=
 ⟨I.ok.frames,I.ok.mod,I.bs,Ql I.ok.bsz I.sz,I.stack,I.stkFree,I.hok,I.bare⟩
theorem Inv.after{Q:VK}{u:aa}(I:#[i])(h:CE X.stack X.prog X.w H s Q u s'):EP X ah σ Q u s':=by obtain⟨v,e,os,a,un,c,r,q⟩:=h;obtain⟨f,g,d,t,i⟩:=s';obtain rfl:i=s.os:=os;exact⟨v,e,I.call (h':=f) (g':=g) (d':=d) (t':=t) (ch:=[]) un c a (λb z=>absurd z #[4]),r,q⟩
universe E
def Mn(sp:Sp)(a:#[pO])(E:XK)(t:TA):TE:=λb H Q=>t b H λvs c=>sp (vs++a) c Q E
inductive RMt (C:ae) (m:al) (x:V) (H:Hp) (B:Prop):Prop where
 | mk (a dx:ae) (fs:List (al×V)) (e:x=.ref a) (g:H a=U (.ins C dx fs)) (l:fs.lookup m=af) (q:B)
def Sx(C:ae)(m:al)(sp:Sp)(c:#[pO])(E:XK)(d:TE)(t:TA):TE:=λa H Q=>d a H λx b=>RMt C m x b (t a b λvs e=>sp (x::(vs++c)) e Q E)
def Mm(C:ae)(sp:Sp)(b:#[pO])(E:XK)(t:TA):TE:=λc H Q=>t c H λvs a=>∀x dx,a x=af->a dx=af->dx≠x ->
 sp (.ref x::(vs++b)) #[fl,a,dx,x,C] (λv d=>v=.non/\Q #[nw] d) E
def YC(K:#[7])(b:bu)(ps:#[Q])(ds:#[bd]):Prop :=
 ∀ (s:ai) (a:List aa),K.In s.heap->(a++ds).length=ps.length->BindsTo s b ⟨a,[]⟩ (ps.zip (a++ds))
theorem YC.all{K:#[7]}{a:bu}{ps:#[Q]}(h:∀us:List aa,us.length=ps.length->bindArgs a #[ws]=pure #[mH]):YC K a ps []:=λs us _ hl=>by rw[Qai]at hl ⊢;exact .of_eq (h us hl)
def VA(CX:CXT)(X:Cx)(E:XK):Prop:=∀ (a:List (ae×aJ)) (b:St) (H:Hp) (s:ai) (e:aa) (s':ai),Inv X a b H s->CX X.stack H s E e s'->X.xe e s'
section
variable {X:Cx} {CX:CXT} {k:Nat} {f C:ae} {fd:bu} {ps:List al} {sp:Sp} {fj:List V} {ds:List aa} {E:XK} {x m:al} {p pos bi:Pos} {e o:aH} {es:List aH} {ta:TE} {t:TA}
theorem Ps{b:#[S]}{c:St}{H:Hp}{s:ai}{Q:VK}{us:#[bd]}{vs:#[pO]}(F:#[34])(g:#[mB])(hb:#[kp])(hd:ZK fj ds)(hx:#[vl])
  (I:#[gY,b,c]) (r:ZK vs us) (h:sp (vs++fj) H Q E):#[kV] (call #[bT] us) (EP X b c Q) X.xe s:=by
 have d:ZK (vs++fj) (us++ds):=r.append hd;have i:(us++ds).length=ps.length:=by rw[<- d.length];exact F.len _ _ _ _ h
 refine wpAny_call (codeAny_mono (F.run X.A X.stack s H #[ws] (us++ds) (vs++fj) Q E g I.env0 (hb s us I.kIn i) d h) λr j a=>?_);cases r with
 | error e=>exact hx b c H s e j I a
 | ok l =>
  cases l with
  | ret u=>exact I.after a
  | next=>exact #[jC]
  | brk=>exact #[jC]
  | cont=>exact #[jC]
theorem ZqG(F:#[34])(b:#[mB])(c:#[uO])(hm:X.mg x=U #[bT])(hk:#[sr,X.K])(hb:#[kp])(hd:ZK fj ds)(hx:#[vl])
  (ha:#[75]) (d:#[j]:=by decide) (he:#[h]:=by rfl) (g:#[s]:=by rfl) :
  PE X #[Z] (Mn sp fj E t):=by
 show#[ib,i,j,c,hm,d];refine Q4 (h₀:=X.base) I.ok.mod.kin hk #[j6] he g;exact Ps F b hb hd hx a r q
theorem ZqO{pl:Sem Bool}(he:#[nH])(c:#[ps])(hm:UW X.K C m f)(F:#[34])(n:#[mB])(hb:#[kp])(hd:ZK fj ds)(hx:#[vl])(ha:#[75])
  (p:#[h]:=by rfl) (v:#[s]:=by rfl)
  (w:eval #[49] X.env=(do
   let b <- eval o X.env
   standAt bi.atName
   let (f,first) <- holding [b] (getMethod b m pl)
   callWith pos f first (bc pos #[j8]) #[aR]):=by rfl) :
  PE X #[49] (Sx C m sp fj E ta t):=by
 show#[qH,d,g,w];show#[gP,y,z,i,A,B];refine Pu i B c hm l ?_;refine Q4 (first:=#[lL]) (h₀:=X.base) I.ok.mod.kin hm.kp (thn (ha pos d y g z _ i q) λus s2 ⟨vs,H2,j,r,D⟩=>⟨j.kIn,?_⟩) p v;exact Ps (us:=.ref a::us) (vs:=.ref a::vs) F n hb hd hx j (.cons rfl r) D
theorem ZpC{pl:Sem Bool}(he:#[nH])(c:#[ps])(hm:UW X.K C m f)(F:#[34])(e:#[mB])(hb:#[kp])(hd:ZK fj ds)(hx:#[vl])
  (g:eval #[bY] X.env=(do
   let d <- eval o X.env
   standAt bi.atName
   let (f,first) <- holding [d] (getMethod d m pl)
   callWith pos f first (bc pos (aD [] X.env)) #[aR]):=by rfl) :
  PE X #[bY] (Sx C m sp fj E ta Pt):=by
 show#[qH,i,j,g];show#[gP,s1,H1,b,n,p];refine Pu b p c hm l ?_;exact PySem.W.callWith_K0 (first:=#[lL]) b.kIn hm.kp (Ps (us:=#[lL]) (vs:=#[lL]) F e hb hd hx b (.cons rfl .nil) q)
structure Mk (K:#[7]) (C f:ae):Prop where
 makes:PySem.W.makesIn K C=true
 init:PySem.W.findIn K #[M] "__init__" = U (U #[bT])
 fn:PySem.W.isFn K #[bT]=true
 kp:PySem.W.keepIn K #[M]=true
theorem Zoh{c:#[S]}{d:St}{H:Hp}{s:ai}{Q:VK}{us:#[bd]}{vs:#[pO]}(M:Mk X.K C f)(F:#[34])(j:#[uL])(hb:#[kp])(hd:ZK fj ds)
  (hx:#[vl]) (I:#[gY,c,d]) (r:ZK vs us)
  (h:∀x dx,H x=af->H dx=af->dx≠x->sp (.ref x::(vs++fj)) #[fl,H,dx,x,C] (λv l=>v=.non/\Q #[nw] l) E) :
  #[kV] (call #[M] us) (EP X c d Q) X.xe s:=by
 have g:=h #[G] s.heap.objs.size #[oU] #[co] (QB (Qbj _));have b:=Inv.made (C:=C) I;have i:ZK (V.ref #[G]::(vs++fj)) #[w3]:=.cons rfl (r.append hd);have m:(aa.ref #[G]::us++ds).length=ps.length:=by have e:=i.length;rw[F.len _ _ _ _ g]at e;exact e.symm
 refine wpAny_call (ZpD (f:=f) I.kIn M.makes M.init (beq_iff_eq.mp M.fn) (codeAny_mono (F.run _ X.stack _ _ ⟨aa.ref #[G]::us,[]⟩ #[w3] _ _ E (j.make C us [])
  (b.env0.make C us []) (hb _ #[rz,#[G],us] b.kIn m) i g) λr n a=>?_))
 cases r with
 | error e=>exact hx c d _ _ e n b a
 | ok o =>
  cases o with
  | ret u=>obtain⟨v,p,q,t,w,y⟩:=b.after a;subst w;exact⟨t,⟨V.ref #[G],p,q,rfl,y⟩⟩
  | next=>exact #[jC]
  | brk=>exact #[jC]
  | cont=>exact #[jC]
theorem Zqd(M:Mk X.K C f)(F:#[34])(b:#[uL])(c:#[uO])(hm:X.mg x=U #[M])(hb:#[kp])(hd:ZK fj ds)(hx:#[vl])
  (ha:#[75]) (d:#[j]:=by decide) (he:#[h]:=by rfl) (g:#[s]:=by rfl) :
  PE X #[Z] (Mm C sp fj E t):=by
 show#[ib,i,j,c,hm,d];refine Q4 (h₀:=X.base) I.ok.mod.kin M.kp #[j6] he g;exact Zoh M F b hb hd hx a r q
universe E
section
variable {X:Cx} {CX:CXT} {k:Nat} {f C:ae} {fd:bu} {ps ks:List al} {sp:Sp} {E:XK} {x m:al} {p pos bi kpos:Pos} {e o:aH} {es:List aH} {kws:List Keyword} {te ta:TE} {t tk:TA} {nm:Option al}
structure KBinds (K:#[7]) (fd:bu) (ps ks:#[Q]) (g:List aa->List aa->List aa) (gV:List V->List V->List V):Prop where
 to:∀ (s:ai) (us ws:List aa),K.In s.heap->(g us ws).length=ps.length->BindsTo s fd ⟨us,ks.zip ws⟩ (ps.zip (g us ws))
 rel:∀ {vs:List V} {us:List aa} {zs:List V} {ws:List aa},ZK vs us->ZK zs ws->ZK (gV vs zs) (g us ws)
variable {g:List aa->List aa->List aa} {gV:List V->List V->List V}
universe E
structure Zu (N P:#[Q]) (sc:bh):Prop where
 kind:sc.kind=.function
 co:sc.isCoroutine=false
 gen:sc.isGenerator=false
 nd:N.Nodup
 pre:N.take P.length=P
 par:∀x∈P,sc.names.lookup x=U .local\/sc.names.lookup x=U .cell
 nofree:∀y∈sc.names,y.2≠.free
theorem Ml{kindOf:#[sT]}{x:al}:∀ {binds:List (al×aa)} {m:al->Option aa},(∀v,(x,v) ∉ binds)->bindL kindOf binds m x=m x
 | [],_,_=>rfl
 | (n,v)::r,m,h=>by
  unfold bindL;rw[Ml λw hw=>h w (QF _ hw)];split
  ·have:x≠n:=by rintro rfl;exact h v Qas
   simp[this]
  ·rfl
theorem Mj{kindOf:#[sT]}{x:al}:∀ {binds:List (al×aa)} {m:al->Option aa},(∀v,(x,v) ∉ binds)->bindC kindOf binds m x=m x
 | [],_,_=>rfl
 | (n,v)::r,m,h=>by
  unfold bindC;rw[Mj λw hw=>h w (QF _ hw)];split
  ·rfl
  ·have:x≠n:=by rintro rfl;exact h v Qas
   simp[this]
theorem Mi{kindOf:#[sT]}{x:al}{v:aa}:∀ {P:List al} {vs:List aa} {i:Nat} {m:al->Option aa},P.Nodup->P[i]? = U x->vs[i]? = U v->kindOf x=U .local ->
  bindL kindOf (P.zip vs) m x=U v
 | [],_,_,_,_,h,_,_=>by simp at h
 | _::_,[],_,_,_,_,h,_=>by simp at h
 | p::P,w::vs,0,m,nd,h1,h2,hk=>by simp at h1 h2;subst h1;subst h2;show bindL kindOf #[mP] m p=_;unfold bindL;rw[Ml λv a=>(Q5.mp nd).1 (List.of_mem_zip a).1,if_pos hk];simp
 | p::P,w::vs,i+1,m,nd,h1,h2,hk=>by show bindL kindOf #[mP] m x=_;unfold bindL;exact Mi (i:=i) (Q5.mp nd).2 #[el,h1] #[el,h2] hk
theorem Me{kindOf:#[sT]}{x:al}{v:aa}:∀ {P:List al} {vs:List aa} {i:Nat} {m:al->Option aa},P.Nodup->P[i]? = U x->vs[i]? = U v->kindOf x≠U .local ->
  bindC kindOf (P.zip vs) m x=U v
 | [],_,_,_,_,h,_,_=>by simp at h
 | _::_,[],_,_,_,_,h,_=>by simp at h
 | p::P,w::vs,0,m,nd,h1,h2,hk=>by simp at h1 h2;subst h1;subst h2;show bindC kindOf #[mP] m p=_;unfold bindC;rw[Mj λv a=>(Q5.mp nd).1 (List.of_mem_zip a).1,if_neg hk];simp
 | p::P,w::vs,i+1,m,nd,h1,h2,hk=>by show bindC kindOf #[mP] m x=_;unfold bindC;exact Me (i:=i) (Q5.mp nd).2 #[el,h1] #[el,h2] hk
noncomputable def Xt(N:#[Q])(vs:#[pO]):St:=vs.map U++List.replicate (N.length-vs.length) af
noncomputable def XN(CX:CXT)(P:ax)(w:aE)(K:#[7])(mg:#[R])(base:aF)(N:#[Q])(a:al)(b:bh)(f:ae)(c:aa)(A:aB)(outer:#[ow])(s:ai)(H:Hp)(E:XK):Cx where
 prog:=P
 w:=w
 K:=K
 mg:=mg
 base:=base
 A:=A.deeper #[jE]
 N:=N
 s₀:=s
 H₀:=H
 env:=envOfC a b s.heap.objs.size f c
 outer:=outer
 stack:=envOfC a b s.heap.objs.size f c::outer
 ex:=[]
 calm:=true
 fn:=λ_=>true
 pn:=[]
 xe:=λe g=>au #[uV] (A.deeper #[jE]) (leaving #[jE] e) (λ_ d=>CX outer H s E e d) (λh d=>CX outer H s E h d) g
theorem Md{a:bh}{n:Nat}{x:al}(h:a.names.lookup x=U .cell):∃c,(cellsFrom n a.names []).lookup x=U c:=by have q:=PySem.W.cellsFrom_some a.names n [] (.inl h);exact Option.isSome_iff_exists.mp q
theorem ZmM{CX:CXT}{P:ax}{w:aE}{K:#[7]}{mg:#[R]}{base:aF}{N ps:#[Q]}{m:al}{j:bh}{f:ae}{o:aa}{A:aB}{outer:#[ow]}{s D:ai}{H:Hp}{E:XK}{us:#[bd]}{vs:#[pO]}
  (S:Zu N ps j) (hd:#[it]) (g:#[tS]) (hl:vs.length=ps.length) (r:ZK vs us)
  (x:InCallC s s.heap.objs.size (bindL #[pu].kindOf #[mH] λ_=>af) (cellsFrom #[G] j.names []) (bindC #[pu].kindOf #[mH] λ_=>af) D) :
  Inv #[l3] [] #[lg] H D:=by
 have bI:ps.length<=N.length:=by have:=#[eZ,S.pre];rw[Qy]at this;lia
 obtain⟨t,tk,rfl,F⟩:=x.done;have C:∀b:ae,b ∉ #[l3].ex:=λb z=>absurd #[q5,z] #[4];refine⟨⟨g.mod,S.kind,rfl,rfl,Qh _,λy z c t d=>?_,λy hy=>?_,λy c _ h=>?_,λ_=>hd,aB.frames_deeper g.frames,.inr #[bM],λb z=>absurd z (C b),g.bs,g.bsz,λb _ _=>C b,λb z=>absurd z (C b),g.funs,g.frf⟩,
  rfl,g.bare,Un.kept F,⟨_,x.toInCall.ns,λi y v t d h3=>?_⟩,λy c h=>⟨_,x.cell y c h⟩,g.hok.fresh #[jJ],λy c h=>?_,λp l=>absurd (show p∈#[ql] from l) #[4],g.hok.kept F,?_⟩
 ·exact name_of_addr x.apart (Qan t) (Qan d)
 ·have hy:#[rK,j.names.lookup,y]:=hy;rcases hy with hy|hy
  ·exact Md hy
  ·exact absurd rfl (S.nofree _ (Qan hy))
 ·exact Qab (x.above y c (Qan h))
 ·have B:i<vs.length:=by
   unfold Xt at d;by_cases B:i<vs.length
   ·exact B
   ·rw[QE #[el,B]]at d;rw[List.getElem?_replicate]at d;split at d<;>cases d
  have J:vs[i]? = U v:=by
   unfold Xt at d;rw[QM #[el,B],Qp]at d;cases e:vs[i]? with
   | none=>rw[e]at d;cases d
   | some a=>rw[e]at d;cases d;rfl
  show#[qS,u,G,L,r.get,J];have l:ps[i]? = U y:=by rw[<- S.pre,List.getElem?_take_of_lt #[2]];exact t
  have I:ps.Nodup:=by rw[<- S.pre];exact S.nd.sublist #[xb]
  refine⟨u,L,?_⟩;rcases S.par y (Qv l) with k|k
  ·exact .inl ⟨k,Mi I l G k⟩
  ·obtain⟨c,e⟩:=Md (n:=s.heap.objs.size+1) k;refine .inr ⟨.inl k,c,e,?_⟩;have q:=x.cell y c e;rw[Me I l G (by show j.names.lookup y≠_;rw[k];decide)]at q;exact q
 ·exact g.hok.fresh (Qab (x.above y c (Qan h)))
 ·unfold Xt;show _=N.length;rw[Qf,Qa,QaN];lia
theorem Mc{CX:CXT}{P:ax}{w:aE}{K:#[7]}{mg:#[R]}{base:aF}{k:Nat}{f:ae}{name d:al}{C:Arguments}{m:#[ou]}{a:bh}{D kV F G g ct R:aa}{L od:#[dB]}
  {T:#[mD]} {N ps:#[Q]} {sp:Sp} (lk:K.lookup f=U ⟨R,od,.func #[mm],T⟩) (W:PySem.W.codeIn K g d=true) (S:Zu N ps a)
  (len:#[N])
  (X:∀ (A:aB) (outer:List Env) (s:ai) (H:Hp) (vs:List V) (Q:VK) (E:XK),Y4 k (A.deeper (envOfC d a s.heap.objs.size f g))->sp vs H Q E ->
   ∃t,PSs #[dd] m t/\t { nx:=λ_ c=>Q .non c,rt:=Q } #[lg] H) :
  YF P w K mg base CX (k+1) f #[mm] ps sp:=by
 refine⟨len,λA outer s H args Y vs Q E p i Z r M=>?_⟩;have hl:=len _ _ _ _ M;have KX:#[lw]:=i.mod.kin.keeps λb o e=>(i.bs b o e).1;have E1:s.heap.NoLimit:=i.mod.nolimit.keeps λb o e=>(i.bs b o e).1;have xO:∀y∈ps.zip Y,a.names.lookup y.1=U .local\/(a.names.lookup y.1=U .cell/\((cellsFrom #[G] a.names []).lookup y.1).isSome=true):=λ⟨n,v⟩ hy=>by
  rcases S.par n (List.of_mem_zip hy).1 with q|q
  ·exact .inl q
  ·exact .inr ⟨q,PySem.W.cellsFrom_some _ _ _ (.inl q)⟩
 refine codeAny_call_function p.depth (KX _ _ lk) rfl S.co S.gen rfl (PySem.W.codeRec_of KX W) (Z _ _ _ _ ?_);refine wpAny_newFunctionEnv_cells S.kind xO λenv he O x=>?_;subst he;refine⟨E1.keeps x.toInCall.keep,codeAny_func ?_⟩;obtain⟨t,ht,hq⟩:=X A outer s H vs Q E (p.deeper _) M;have I:Inv #[dd] [] #[lg] H O:=ZmM S p.hd i hl r x;refine aZ (ht [] O #[lg] H _ I hq) #[qK,fl,z,h] λe z h=>h;have j:∀ {l:St} {c:Hp} {v:V} {u:aa},Inv #[dd] [] l c z->ZI v u->Q v c->CE outer P w H s Q u z :=
  λ{l c v u} J B q=>⟨v,c,J.os,J.bare,J.base,J.hok,B,q⟩
 cases fl with
 | ret u=>obtain⟨v,l,c,J,B,q⟩:=h;exact j J B q
 | next=>obtain⟨l,c,J,q⟩:=h;exact j (v:=V.non) (u:=aa.none) J rfl q
 | brk=>obtain⟨_,_,_,q⟩:=h;exact False.elim q
 | cont=>obtain⟨_,_,_,q⟩:=h;exact False.elim q
section
variable {X:Cx} {x:al} {p pos:Pos} {e:aH} {es:List aH} {t:TA} {id T:String} {r:List V->Hp->VK->Prop}
def tCB(r:List V->Hp->VK->Prop)(t:TA):TE:=λa H Q=>t a H λvs b=>r vs b Q
theorem Zk(hc:YS X #[xr] r)(c:#[uO])(hm:X.mg x=af)(d:cm x=U #[xr])(ha:#[75])(f:#[k9]:=by decide)(g:#[j]:=by decide)
  (i:#[h]:=by rfl) (j:#[s]:=by rfl):PE X #[Z] (tCB r t):=by
 show#[oi];exact PyProof.Rows.callWith_builtin1 #[jD] i j
theorem Xa(hc:YS X #[vU] r)(c:#[uO])(hm:X.mg x=af)(d:cm x=U #[vU])(ha:#[75])(f:#[k9]:=by decide)(g:#[j]:=by decide)
  (i:#[h]:=by rfl) (j:#[s]:=by rfl):PE X #[Z] (tCB r t):=by
 show#[oi];exact Q2 #[jD] i j
universe E
universe E.L2
namespace HT
open PySem PyProof.Rows
section
variable {prog:ax} {w:aE} {A:aB} {E:aa->ai->Prop} {s:ai}
noncomputable def sIx(n d:Nat):Option Int->Nat
 | none=>d
 | some v=>if v<0 then (v+(n:Int)).toNat else min v.toNat n
theorem sIx_nat(n d k:Nat):sIx n d (U (k:Int))=min k n:=by show (if (k:Int)<0 then ((k:Int)+(n:Int)).toNat else min (k:Int).toNat n)=min k n;rw[if_neg #[2],Qa7]
universe E
universe E.HT
namespace L2
open PySem PySem.Spec PyProof.Rows
abbrev TO:=St->Hp->(Option Int->Hp->Prop)->Prop
def PO(X:Cx)(e:Option aH)(t:TO):Prop :=
 ∀ (b:List (ae×aJ)) (s:ai) (a:St) (H:Hp) (Q:Option Int->Hp->Prop),Inv X b a H s->t a H Q ->
  #[kV] (evalPart e X.env) (λu d=>X2 λo c=>Inv X b a c d/\IsPart u o/\Q o c) X.xe s
def Zqf:TO:=λ_ H Q=>Q af H
def Zur(t:TE):TO:=λa H Q=>t a H λx b=>EA (λi=>x=.int i) (λi=>Q (U i) b)
theorem Mb{ns:#[w]}:∀ {us:List aa},ZK #[C] us->IntsAre us ns:=by
 induction ns with
 | nil=>intro us r;show#[fe,Qa8,r,r];exact .nil
 | cons n ns a =>
  intro us r;rw[Qs]at r;cases r with
  | cons b c=>obtain⟨t,e⟩:=b;subst e;exact .cons n t (a c)
section
variable {X:Cx} {e:aH} {te:TE} {lo hi:Option aH} {tl th:TO} {pos p2:Pos}
theorem W7:PO X af Zqf:=by intro ah s σ H Q I h;rw[evalPart_none];exact av ⟨af,H,I,.none,h⟩
theorem Xm(h:#[pp]):PO X (U e) (Zur te):=by intro a s b H Q I hw;rw[evalPart_some];refine thn (h a s b H _ I hw) ?_;rintro u s1 ⟨x,c,d,f,g⟩;obtain⟨i,rfl,q⟩:=g;obtain⟨t,rfl⟩:=f;exact⟨U i,c,d,.int i t,q⟩
def SlR(X:Cx)(r:#[iJ]):Prop :=
 ∀ (a:List (ae×aJ)) (s:ai) (b:St) (H:Hp) (x:V) (v c d:aa) (lo hi:Option Int) (e:ae) (Q:VK),Inv X a b H s->ZI x v->s.heap.IsSliceOf e c d .none->IsPart c lo->IsPart d hi->r x lo hi H Q ->
  X2 λT id=>typeLookup #[vU] "__getitem__" = pure (U #[xr])/\s.TypeIs v T/\#[kV] (getItem v #[aL]) #[i1] X.xe s
def tSl(r:#[iJ])(te:TE)(tl th:TO):TE:=λa H Q=>te a H λx b=>tl a b λl c=>th a c λu d=>r x l u d Q
theorem W6{r:#[iJ]}(j:SlR X r)(he:#[pp])(hl:PO X lo tl)(hu:PO X hi th):PE X (.Subscript e (.Slice lo hi af p2) pos) (tSl r te tl th):=by intro c s d H Q I h;refine Subscript_ #[eo,he,c,d];rintro v k ⟨x,m,n,o,p⟩;refine wpAny_Slice (thn (hl c k d m _ n p) λf t ⟨l,w,y,z,A⟩=>thn (hu c t d w _ y A) ?_);rintro g a ⟨u,i,B,C,D⟩;rw[evalPart_none];refine av ?_;have E:Inv X c d i { a with heap:=a.heap.push { cls:=.type "slice",data:=.fields #[f,g,.none] } }:=B.kept (t':=a.toks) λb ob q=>Qc _ q;obtain⟨T,id,F,G,J⟩:=j c { a with heap:=a.heap.push { cls:=.type "slice",data:=.fields #[f,g,.none] } } d i x v f g l u a.heap.objs.size Q E o (aF.IsSliceOf.new ..) z C D;show #[kV] (subscriptTail e (.Slice lo hi af p2) v #[xj]) (EP X c d Q) X.xe { a with heap:=a.heap.push { cls:=.type "slice",data:=.fields #[f,g,.none] } };exact tail_any (ops:=[.ref a.heap.objs.size,v]) G F J #[ab]
noncomputable def Xs(xs:#[pO])(lo hi:#[cj]):List V:=(xs.drop (HT.sIx xs.length 0 lo)).take #[qA,xs.length,hi]
theorem Ma(xs:#[pO])(lo hi:#[cj]):(Xs xs lo hi).length<=xs.length:=by unfold Xs;rw[Qy,QT];lia
universe E
noncomputable def ixN(n:Nat)(i:Int):Option Nat:=if 0<=i then (if i<n then U i.toNat else af) else if -(n:Int)<=i then U (i+n).toNat else af
noncomputable def atI{α:Type}(xs:List α)(i:Int):Option α:=(ixN xs.length i).bind λj=>xs[j]?
theorem LZ{n:Nat}{i:Int}{j:Nat}(h:ixN n i=U j):seqIndex? i n=U j/\j<n /\ -(n:Int)<=i/\i<n:=by
 unfold ixN at h;by_cases b:0<=i
 ·rw[if_pos b]at h;by_cases a:i<n
  ·rw[if_pos a]at h;have e:i.toNat=j:=Qn h;exact⟨by rw[seqIndex_of b a,e],by lia,by lia,a⟩
  ·show#[xC,a,h];cases h
 ·show#[xC,b,h];by_cases a:-(n:Int)<=i
  ·rw[if_pos a]at h;have e:(i+n).toNat=j:=Qn h;exact⟨by rw[seqIndex_neg #[2] a,e],by lia,a,by lia⟩
  ·show#[xC,a,h];cases h
theorem Pr{α:Type}{xs:List α}{i:Int}{v:α}(h:atI xs i=U v):∃j,seqIndex? i xs.length=U j/\xs[j]? = U v/\j<xs.length /\ -(xs.length:Int)<=i/\i<xs.length:=by
 unfold atI at h;cases e:ixN xs.length i with
 | none=>rw[e]at h;cases h
 | some j=>rw[e]at h;obtain⟨a,b,c,d⟩:=LZ e;exact⟨j,a,h,b,c,d⟩
theorem Yo{α:Type}{xs:List α}{j:Nat}{v:α}(h:xs[j]? = U v):atI xs (j:Int)=U v:=by
 have hj:j<xs.length:=(Qe.mp h).1;have e:ixN xs.length (j:Int)=U j:=by unfold ixN;show#[io,#[2],#[2]];simp
 unfold atI;rw[e];exact h
theorem ZnV{α:Type}(xs:List α)(v:α):atI (xs++[v]) (-1)=U v:=by
 have a:(xs++[v]).length=xs.length+1:=by simp
 have e:ixN (xs++[v]).length (-1)=U xs.length:=by unfold ixN;rw[a,if_neg #[6],if_pos #[2]];congr 1;lia
 unfold atI;rw[e];show (xs++[v])[xs.length]? = U v;simp
def Zq5(b:aH):Prop:=∀o i,subscripted b false o i=operate [o,i] (getItem o i)
def IxR(X:Cx)(r:R2):Prop :=
 ∀ (value slice:aH) (a:List (ae×aJ)) (s:ai) (b:St) (H:Hp) (x y:V) (v u:aa) (Q:VK),Inv X a b H s->ZI x v->ZI y u->r x y H Q ->
  subscripted slice false v u=operate [v,u] (getItem v u)->#[kV] (subscriptTail value slice v u) #[i1] X.xe s
def MtR(X:Cx)(id:String)(r:#[jP]):Prop :=
 ∀ (a:List (ae×aJ)) (s:ai) (b:St) (H:Hp) (x:V) (c:List V) (v:aa) (d:List aa) (Q:VK),Inv X a b H s->ZI x v->ZK c d->r x c H Q ->
  #[kV] (call #[xr] (v::d)) #[i1] X.xe s
section
variable {X:Cx} {a b:aH} {ta tb:TE} {pos:Pos}
theorem Zo{r:R2}(c:IxR X r)(ha:#[nI])(hb:#[vp])(hs:Zq5 b):PE X #[xS,a,b] #[ta]:=by intro d s e H Q I h;exact Subscript_ (PB ha hb I h λv u f x y g i j k q=>c a b d f e g x y v u Q i j k q (hs _ _))
inductive RIx (S:ae->List V->Prop) (x y:V) (B:V->Prop):Prop where
 | mk (p:ae) (xs:List V) (i:Int) (v:V) (a:x=.ref p) (b:y=.int i) (c:S p xs) (d:atI xs i=U v) (q:B v)
def LY(K:#[7]):R2:=λx y H Q=>RIx (SqL K H) x y (λv=>Q v H)
def LX(K:#[7]):R2:=λx y H Q=>RIx (SqT K H) x y (λv=>Q v H)
def ZuR:R2:=λx y H Q=>X3 λz i c=>x=.str z/\y=.int i/\z.length<=ao/\atI z.cps.toList i=U c/\Q (.str #[vg]) H
theorem Zq6:IxR X (LY X.K):=by
 intro value slice e s f H x y v u Q I m n h g;obtain⟨p,xs,i,z,rfl,rfl,o,A,q⟩:=h;cases m;show#[eD,t,n];show#[fR,r,c,hz,o];obtain⟨j,b,B,h3,C,D⟩:=Pr A;show#[qS,w,k,E,r.get,B];have F:=#[wC];have hn:=UX;have a:EP X e f Q w s:=⟨z,H,I,E,q⟩;by_cases l:0<=i
 ·have d:i.toNat=j:=by rw[seqIndex_of l D]at b;exact Qn b
  exact item_listR c.isList l #[2] #[wh] a g
 ·have d:(i+(its.toArray.size:Int)).toNat=j:=by rw[seqIndex_neg #[2] C]at b;rw[QK,<- F];exact Qn b
  exact subscriptTail_builtinR (x:=w) c.isList.typeIs slot_list_getitem.lookup
   (wpAny_getItem_list_neg (Q:=λr G=>r=w/\EP X e f Q r G) c.isList #[2] #[te] #[2] #[wh] ⟨rfl,a⟩) g
theorem ZsF:IxR X (LX X.K):=by
 intro value slice b s c H x y v u Q I e f h g;obtain⟨p,xs,i,z,rfl,rfl,k,l,q⟩:=h;cases e;show#[eD,t,f];show#[qL,r,d,hz,k];obtain⟨j,m,n,h3,h4,h5⟩:=Pr l;show#[qS,w,o,A,r.get,n];have B:=#[wC];have hn:=UX;have a:EP X b c Q w s:=⟨z,H,I,A,q⟩;exact subscriptTail_builtinR (x:=w) d.typeIs slot_tuple_getitem.lookup
  (getItem_tuple (j:=j) (Q:=λr C=>r=w/\EP X b c Q r C) d #[2] #[2] (by rw[QK,<- B];exact m) #[el,o] ⟨rfl,a⟩) g
theorem Vz:IxR X ZuR:=by
 intro value slice ah s σ H x y v u Q I b d h e;obtain⟨z,i,c,rfl,rfl,hz,f,q⟩:=h;show#[eD,t,b];show#[eD,t',d];obtain⟨j,a,g,h3,k,l⟩:=Pr f;have m:#[tM]:=by simp[al.length]
 rw[m]at a k l;have hn:=UX;exact tail_any (typeIs_str s z t) slot_str_getitem.lookup (getItem_str (c:=c) (by have n:decide (i < -(2 ^ 63:Int))=false:=#[jc];have o:decide (i>=2 ^ 63)=false:=#[jc];rw[n,o,Bool.or_false]) (by rw[a];simpa using g) #[xz,#[vg],q]) e
theorem Zlq(its:#[bd])(n j:Nat)(u:aa):aJ.mapSeq (·.setIfInBounds j u) { cls:=.type "list",data:=.seq its.toArray n }={ cls:=.type "list",data:=.seq (its.set j u).toArray n }:=by simp[aJ.mapSeq]
theorem Inv.lst{a:#[S]}{b:St}{H:Hp}{s:ai}{p:ae}{xs:#[pO]}(I:#[gY,a,b])(h:H p=U #[kM]) :
  X2 λ(its:List aa) (n:Nat)=>ZK xs its/\s.heap.get? p=U { cls:=.type "list",data:=.seq its.toArray n }/\xs.length<=ao:=by
 obtain⟨z,its,n,r,e⟩:=I.hok p _ h;exact⟨its,n,r,e,z⟩
theorem Inv.lstUpd{c:#[S]}{d:St}{H:Hp}{s:ai}{p:ae}{xs ys:#[pO]}{its its':#[bd]}{n a:Nat}{f:aJ->aJ}(I:#[gY,c,d])(h:H p=U #[kM])
  (i:s.heap.get? p=U { cls:=.type "list",data:=.seq its.toArray n }) (g:f { cls:=.type "list",data:=.seq its.toArray n }={ cls:=.type "list",data:=.seq its'.toArray a }) (r:ZK ys its') (j:ys.length<=ao) (t:Nat) :
  Inv X c d #[hS,H,p,ys] { s with heap:=s.heap.update p f,toks:=t }:=by
 have e:(s.heap.update p f).get? p=U { cls:=.type "list",data:=.seq its'.toArray a }:=by rw[QS f i (by rw[g]<;>rfl),g]
 refine I.write (x:=p) (e:=p) (by rw[h];trivial) #[8] (λb u k q=>(Qaf _ _ (Ne.symm k)).trans q) ⟨_,e⟩ ?_;exact⟨j,its',a,r,e⟩
def Zuk:V->V->V->Hp->(Hp->Prop)->Prop:=λo i v H Q=>X4 λp xs k j=>o=.ref p/\i=.int k/\H p=U #[kM]/\ixN xs.length k=U j/\Q (upd H p (.lst (xs.set j v)))
theorem LW:PF X Zuk:=by
 intro w s x H o i v ov iv u Q I y z A h;obtain⟨p,B,k,j,rfl,rfl,e,C,q⟩:=h;cases y;show#[eD,t,z];obtain⟨its,n,r,b,D⟩:=I.lst e;obtain⟨a,h2,f,g⟩:=LZ C;have c:=#[wC];have hn:=UX;have l:Inv X w x (upd H p (.lst (B.set j v))) { s with heap:=s.heap.update p (aJ.mapSeq (·.setIfInBounds j u)) } :=
  I.lstUpd e b (Zlq its n j u) (r.set A j) #[ei,List.length_set,D] s.toks
 by_cases m:0<=k
 ·have d:k.toNat=j:=by rw[seqIndex_of m g]at a;exact Qn a
  exact PySem.W.ki_setAt b m #[2] (by rw[QK,<- c];exact g) #[uj]
 ·have d:(k+(its.toArray.size:Int)).toNat=j:=by rw[seqIndex_neg #[2] f]at a;rw[QK,<- c];exact Qn a
  exact PySem.W.ki_setBack b #[2] (by rw[QK,<- c];exact f) #[2] #[uj]
theorem Zjz(lo a:#[cj])(n:Nat):#[w1].1=((HT.sIx n 0 lo:Nat):Int)/\#[w1].2.1=((HT.sIx n n a:Nat):Int)/\#[w1].2.2=1:=by
 refine⟨?_,?_,rfl⟩
 ·cases lo with
  | none=>simp[be,HT.sIx]
  | some i =>
   show#[jM];by_cases h:i<0
   ·simp only[h,if_true]<;>lia
   ·simp only[h,if_false]<;>lia
 ·cases a with
  | none=>simp[be,HT.sIx]
  | some i =>
   show#[jM];by_cases h:i<0
   ·simp only[h,if_true]<;>lia
   ·simp only[h,if_false]<;>lia
theorem Zh4(its:#[bd])(lo a:#[cj]):slicePick its.toArray lo a af=((its.drop (HT.sIx its.length 0 lo)).take #[qA,its.length,a]).toArray:=by obtain⟨b,c,d⟩:=Zjz lo a its.toArray.size;unfold slicePick;rw[b,c,d];simp only[sliceRange_one,pick_run,List.size_toArray]<;>rfl
inductive RSl (K:#[7]) (x:V) (lo hi:#[cj]) (H:Hp) (B:ae->Hp->Prop):Prop where
 | mk (a:ae) (xs:List V) (e:x=.ref a) (s:SqL K H a xs) (q:∀p,H p=af->B p (upd H p (.lst (Xs xs lo hi))))
def LV(K:#[7]):V->Option Int->Option Int->Hp->VK->Prop:=λx lo a H Q=>RSl K x lo a H λp b=>Q #[bS] b
theorem ZqP:SlR X (LV X.K):=by intro ah s σ H x v vl vu lo d sl Q I f g i j h;obtain⟨a,c,rfl,k,q⟩:=h;cases f;obtain⟨its,r,e,l⟩:=I.list k;have m:=#[wC];refine⟨"list",_,slot_list_getitem.lookup,e.isList.typeIs,?_⟩;refine wpAny_getItem_list_slice e.isList g i j .none #[4] ?_ #[te];rw[Zh4,<- m];refine⟨.ref s.heap.objs.size,_,I.laid (t':=#[wy]) (o:=.lst (Xs c lo d)) #[rP,ob,q] #[jJ] ?_,rfl,q _ #[co]⟩;exact⟨Ql (Ma c lo d) l,_,0,(r.drop (HT.sIx c.length 0 lo)).take #[qA,c.length,d],Qt _ rfl⟩
noncomputable def Wc:V->Bool
 | .non=>true
 | .bl _=>true
 | .int _=>true
 | .str _=>true
 | _=>false
noncomputable def eqV:V->V->Bool
 | .non,.non=>true
 | .bl a,.bl b=>a == b
 | .bl a,.int b=>(if a then 1 else 0) == b
 | .int a,.bl b=>a == (if b then 1 else 0)
 | .int a,.int b=>a == b
 | .str a,.str b=>a == b
 | _,_=>false
theorem ZsT{A:aB}{s:ai}{y x:V}{u v:aa}(e:ZI y u)(c:ZI x v)(g:Wc y=true)(f:Wc x=true):SeqAt.EqAt A s u v (eqV y x):=by
 cases y with
 | non =>
  cases e;cases x with
  | non=>cases c;exact SeqAt.EqAt.same _
  | bl b=>cases c;exact SeqAt.EqAt.none_bool b
  | int b=>obtain⟨t,rfl⟩:=c;exact SeqAt.EqAt.none_int b t
  | str b=>obtain⟨t,rfl⟩:=c;exact SeqAt.EqAt.none_str b t
  | _=>exact #[lQ]
 | bl a =>
  cases e;cases x with
  | non=>cases c;exact SeqAt.EqAt.bool_none a
  | bl b=>cases c;exact SeqAt.EqAt.bool_bool a b
  | int b=>obtain⟨t,rfl⟩:=c;exact SeqAt.EqAt.bool_int a b t
  | str b=>obtain⟨t,rfl⟩:=c;exact SeqAt.EqAt.bool_str a b t
  | _=>exact #[lQ]
 | int a =>
  show#[eD,d,e];cases x with
  | non=>cases c;exact SeqAt.EqAt.int_none a d
  | bl b=>cases c;exact SeqAt.EqAt.int_bool a d b
  | int b=>obtain⟨t,rfl⟩:=c;exact SeqAt.EqAt.int_int a d b t
  | str b=>obtain⟨t,rfl⟩:=c;exact SeqAt.EqAt.int_str a d b t
  | _=>exact #[lQ]
 | str a =>
  show#[eD,d,e];cases x with
  | non=>cases c;exact SeqAt.EqAt.str_none a d
  | bl b=>cases c;exact SeqAt.EqAt.str_bool a d b
  | int b=>obtain⟨t,rfl⟩:=c;exact SeqAt.EqAt.str_int a d b t
  | str b=>obtain⟨t,rfl⟩:=c;exact SeqAt.EqAt.str_str a d b t
  | _=>exact #[lQ]
 | _=>exact absurd (show false=true from g) Qo
noncomputable def eqU(x:V)(u:aa):Bool:=match u with
 | .none=>eqV .non x
 | .bool b=>eqV (.bl b) x
 | .int i _=>eqV #[u4] x
 | .str z _=>eqV #[xi] x
 | _=>false
theorem LU{x y:V}{u:aa}(r:ZI y u)(f:Wc y=true):eqU x u=eqV y x:=by
 cases y with
 | non=>cases r;rfl
 | bl b=>cases r;rfl
 | int i=>obtain⟨t,rfl⟩:=r;rfl
 | str z=>obtain⟨t,rfl⟩:=r;rfl
 | _=>exact #[lQ]
theorem Ue{x:V}:∀ {xs:List V} {us:List aa},ZK xs us->xs.all Wc=true->us.any (eqU x)=xs.any λy=>eqV y x
 | _,_,.nil,_=>rfl
 | y::xs,u::us,.cons r t,f=>by rw[List.all_cons,QZ]at f;rw[QaY,QaY,LU r f.1,Ue t f.2]
theorem Ud{A:aB}{s:ai}{x:V}{v:aa}(a:ZI x v)(b:Wc x=true):∀ {xs:List V} {us:List aa},ZK xs us->xs.all Wc=true->∀u∈us,SeqAt.EqAt A s u v (eqU x u)
 | _,_,.nil,_=>λu hu=>by cases hu
 | y::xs,u::us,.cons r t,f=>λc hu=>by
  rw[List.all_cons,QZ]at f;rcases QO.mp hu with rfl|hu
  ·rw[LU r f.1];exact ZsT r a f.1 b
  ·exact Ud a b t f.2 c hu
noncomputable def inV(x:V)(xs:#[pO]):Bool:=xs.any λy=>eqV y x
def rIn(K:#[7])(a:Bool):R2:=λx y H Q=>X2 λp xs=>y=.ref p/\#[hG,K,xs]/\Wc x=true/\xs.all Wc=true/\Q (.bl (if a then !inV x xs else inV x xs)) H
theorem Znw:OpR X (aU .In) (rIn X.K false):=by
 show#[lm];rcases hq with hq|hq
 ·show#[eV,I.list,SeqAt.in_listAt,a.isList]
 ·show#[eV,I.tuple,SeqAt.in_tupleAt,a]
theorem Zjr:OpR X (aU .NotIn) (rIn X.K true):=by
 show#[lm];rcases hq with hq|hq
 ·show#[eV,I.list,SeqAt.notIn_listAt,a.isList]
 ·show#[eV,I.tuple,SeqAt.notIn_tupleAt,a]
theorem Zjs:YS X #[o1] (λxs H Q=>X2 λp ys=>xs=#[jN]/\#[hG,X.K,ys]/\Q (.int ys.length) H):=by
 show#[b5];obtain⟨p,ys,rfl,hq,q⟩:=h;show#[e9,d];have hn:=UX;rcases hq with hq|hq
 ·show#[fR,a,b,e,hq];have c:=a.length;exact Calls.call_len_list b.isList #[bw] ⟨.int ys.length,H,I.tok _,#[uB],q⟩
 ·show#[qL,a,b,e,hq];have c:=a.length;exact len_tuple b #[bw] ⟨.int ys.length,H,I.tok _,#[uB],q⟩
theorem VZ:YS X #[o1] (λxs H Q=>∃z,xs=[.str z]/\z.length<=ao/\Q (.int z.length) H):=by intro ah s σ H xs us Q I r h;obtain⟨z,rfl,hz,q⟩:=h;obtain⟨u,rfl,t,rfl⟩:=Xb r;have hn:=UX;exact len_str #[2] ⟨.int z.length,H,I.tok _,#[K],q⟩
theorem Zjw:YS X #[d7] (λxs H Q=>X2 λp ys=>xs=#[jN]/\#[hG,X.K,ys]/\∀l,H l=af->Q #[cq] #[hS,H,l,ys]):=by
 intro w s x H xs us Q I r h;obtain⟨p,ys,rfl,hq,q⟩:=h;show#[e9,y];have f:∀ (its:List aa),ZK ys its->ys.length<=ao->∀ (a:aF) (c:Nat),#[q9,v,s.heap.get?,a.get?] ->
   a.get? s.heap.objs.size=U { cls:=.type "list",dict:=af,data:=.seq its.toArray c,slots:=#[] }->EP X w x Q #[d9] { s with heap:=a }:=λits d g a c i e =>
  ⟨.ref s.heap.objs.size,_,I.laid (t':=#[wy]) i #[jJ] (show Z5 X.prog X.w _ a _ #[l6] from⟨g,its,c,d,e⟩),rfl,q _ #[co]⟩
 rcases hq with hq|hq
 ·show#[fR,d,j,g,hq];have z:=d.length;obtain⟨o,k,m,n,t⟩:=j.isList;exact call_list_seq p #[8] k m t #[sC] #[bw]
 ·show#[qL,d,j,g,hq];have z:=d.length;obtain⟨o,k,m,n,t⟩:=j;exact call_list_seq p #[m7] k m t #[sC] #[bw]
def tyV(K:#[7])(T:String)(x:V)(H:Hp):Prop:=match x with
 | .str _=>T = "str"
 | .int _=>T = "int"
 | .ref p=>(T = "list"/\∃b,SqL K H p b)\/(T = "tuple"/\∃o,K.lookup p=U o/\o.cls=.type "tuple"/\o.dict=af) \/
   (T = "dict"/\((∃a,H p=U (.dK a))\/∃a,H p=U (.dT a)))\/(T = "set"/\X2 λS n=>H p=U (.set S n))
 | _=>False
theorem LS{j:#[S]}{k:St}{H:Hp}{s:ai}{T:String}{x:V}{v:aa}(I:#[gY,j,k])(r:ZI x v)(ty:tyV X.K T x H) :
  s.TypeIs v T/\∀a,v=.ref a->∃ob,s.heap.get? a=U ob/\ob.dict=af:=by
 cases x with
 | str z=>obtain⟨t,rfl⟩:=r;cases (show T = "str" from ty);exact⟨typeIs_str s z t,λ_ e=>nomatch e⟩
 | int i=>obtain⟨t,rfl⟩:=r;cases (show T = "int" from ty);exact⟨typeIs_int s i t,λ_ e=>nomatch e⟩
 | ref p =>
  cases r;rcases ty with⟨rfl,xs,l⟩|⟨rfl,o,b,m,d⟩|⟨rfl,b⟩|⟨rfl,S,n,b⟩
  ·obtain⟨its,_,h,_⟩:=I.list l;show#[g7,h.isList.typeIs,a,e];cases e;obtain⟨o,n,e,c,d,_⟩:=h;exact⟨o,e,d⟩
  ·refine⟨⟨o,I.kIn p o b,m⟩,λa e=>?_⟩;cases e;exact⟨o,I.kIn _ o b,d⟩
  ·have z:∃o,s.heap.get? p=U o/\o.ExactDict:=by
    rcases b with⟨f,b⟩|⟨f,b⟩
    ·show#[kU]
    ·show#[kU]
   show#[hU,o,e,ex,z];show#[ko]
  ·obtain⟨o,_,_,_,e,ex,_⟩:=I.hok p _ b;show#[ko]
 | _=>exact False.elim ty
def Zux(K:#[7])(T:String)(r:#[jP])(to:TE):TE:=λb H Q=>to b H λx a=>tyV K T x a/\r x [] a Q
def tBM(K:#[7])(T:String)(r:#[jP])(to:TE)(t:TA):TE:=λa H Q=>to a H λx b=>tyV K T x b/\t a b λxs c=>r x xs c Q
variable {o e:aH} {es:List aH} {to:TE} {t:TA} {name:al} {bi bg:Pos} {T id:String} {r:V->List V->Hp->VK->Prop}
theorem Zsa(e:PlainAttrs T)(slot:Slot T name id)(f:#[lH])(hm:MtR X id r)(g:#[vo])
  (i:#[o7]:=by rfl) (j:#[jS]=true:=by rfl):PE X (.Call (.Attribute o name bi) [] [] bg) (Zux X.K T r to):=by
 show#[e8,a,b,Q];refine cn i j #[eo,g,a,b];rintro v k ⟨x,l,c,d,ty,m⟩;obtain⟨n,p⟩:=LS c d ty;exact⟨T,id,e,slot,f,n,p,Calls.callWith_builtin rfl (QaU (hm a k b l x [] v [] Q c d .nil m))⟩
theorem Xl(g:PlainAttrs T)(slot:Slot T name id)(i:#[lH])(hm:MtR X id r)(j:#[vo])(ha:#[75])
  (k:#[o7]:=by rfl)
  (l:((bc bg #[j8]).all (λx=>!x.1)&&#[le].all #[s7]
   && decide ((e::es).length+#[tg].length+#[dp]<30))=true:=by rfl)
  (m:#[jS]=true:=by rfl) (n:#[h]:=by rfl) (p:#[b7]:=by rfl) :
  PE X (.Call (.Attribute o name bi) (e::es) [] bg) (tBM X.K T r to t):=by
 show#[e8,a,b,Q];refine wpAny_Call_method_late k l m rfl #[eo,j,a,b];rintro v q ⟨x,u,c,d,ty,w⟩;obtain⟨y,z⟩:=LS c d ty;refine⟨T,id,g,slot,i,y,z,?_⟩;have f:=ha bg a q b u _ c w;rw[n]at f ⊢;refine Calls.callWith_builtin (by show (false||(bc bg (aD es X.env)).any #[T])=false;rw[p]<;>rfl) (Calls.evalArgs_plain ?_);exact thn f λA B ⟨C,D,E,F,G⟩=>hm a B b D x C v A Q E d F G
universe E
def MtM(X:Cx)(id:String)(r:#[jP]):Prop :=
 ∀ (a:List (ae×aJ)) (s:ai) (b:St) (H:Hp) (x:V) (c:List V) (v:aa) (d:List aa) (Q:VK),Inv X a b H s->ZI x v->ZK c d->r x c H Q ->
  #[kV] (call #[xr] (v::d)) #[i1] X.xe s
theorem ZK.one:∀ {x:V} {us:List aa},ZK [x] us->∃u,us=[u]/\ZI x u
 | _,_,.cons r .nil=>⟨_,rfl,r⟩
theorem ZK.two:∀ {x y:V} {us:List aa},ZK [x,y] us->X2 λu v=>us=[u,v]/\ZI x u/\ZI y v
 | _,_,_,.cons r (.cons q .nil)=>⟨_,_,rfl,r,q⟩
theorem ZK.zero:∀ {us:List aa},ZK [] us->us=[]
 | _,.nil=>rfl
theorem ZK.reverse{xs:#[pO]}{us:#[bd]}(h:ZK xs us):ZK xs.reverse us.reverse:=by
 induction h with
 | nil=>exact .nil
 | cons r t a=>rw[QaR,QaR];exact ZK.append a #[xT,r]
section
variable {X:Cx} {ah:List (ae×aJ)} {σ:St} {H:Hp} {s:ai} {l b:ae} {xs ys zs:List V}
theorem Inv.lset{its its':#[bd]}{n:Nat}{f:Array aa->Array aa}{t':Nat}(I:#[i])(a:H l=U #[kM])
  (e:s.heap.get? l=U { cls:=.type "list",data:=.seq its.toArray n }) (b:f its.toArray=its'.toArray) (c:ZK ys its') (d:ys.length<=ao) :
  Inv X ah σ #[hS,H,l,ys] { s with heap:=s.heap.update l (aJ.mapSeq f),toks:=t' }:=by
 have q:=PySem.IsL.update e f;rw[b]at q;refine I.write (x:=l) (e:=l) (by rw[a];exact trivial) #[8] (λb' u g h=>(Qaf s.heap (aJ.mapSeq f) (Ne.symm g)).trans h) ⟨_,q⟩ ?_;exact⟨d,its',_,c,q⟩
theorem Inv.lnew{its:#[bd]}{t':Nat}(I:#[i])(a:ZK ys its)(b:ys.length<=ao) :
  Inv X ah σ #[hS,H,s.heap.objs.size,ys] { s with heap:=s.heap.push { cls:=.type "list",data:=.seq its.toArray },toks:=t' } :=
 I.laid #[mG] #[jJ] ⟨b,its,0,a,Qt _ rfl⟩
theorem Inv.fresh(I:#[i]):H s.heap.objs.size=af:=#[s3]
theorem Inv.lstM(I:#[i])(a:H l=U #[kM]):xs.length<=ao/\X2 λ(its:List aa) (n:Nat)=>ZK xs its/\xs.length=its.length/\s.heap.get? l=U { cls:=.type "list",data:=.seq its.toArray n }:=by obtain⟨z,its,n,r,e⟩:=I.hok l _ a;exact⟨z,its,n,r,r.length,e⟩
universe E
section
variable {X:Cx}
inductive RAp (x:V) (vs:#[pO]) (H:Hp) (B:Hp->Prop):Prop where
 | mk (l:ae) (xs:List V) (y:V) (a:x=.ref l) (b:vs=[y]) (c:H l=U (.lst xs)) (d:xs.length<ao) (q:B (upd H l (.lst (xs++[y]))))
def ZqI:V->List V->Hp->VK->Prop:=λx vs H Q=>RAp x vs H λa=>Q .non a
theorem Vy:MtM X "list.append" ZqI:=by intro ah s σ H x vs v us Q I b c h;obtain⟨l,xs,y,rfl,rfl,a,hz,q⟩:=h;cases b;obtain⟨u,rfl,d⟩:=c.one;obtain⟨z,its,n,r,hl,e⟩:=I.lstM a;refine call_meets F.slot_list_append #[sN] F.entry_list_append (F.args_list_append_2 _ _) (PySem.list_append l its.toArray n u #[h5,QK]) ⟨e,?_⟩;refine⟨.non,_,I.lset (its':=its++[u]) a e #[4] (r.append #[xT,d]) ?_,rfl,q⟩;rw[Qf,Qz];lia
def Zo8:V->List V->Hp->VK->Prop:=λx vs H Q=>X2 λl xs=>x=.ref l/\vs=[]/\H l=U #[kM]/\Q .non #[hS,H,l,xs.reverse]
theorem ZlJ:MtM X "list.reverse" Zo8:=by intro ah s σ H x vs v us Q I b c h;obtain⟨l,xs,rfl,rfl,a,q⟩:=h;cases b;have d:=c.zero;subst d;obtain⟨z,its,n,r,hl,e⟩:=I.lstM a;refine call_meets F.slot_list_reverse #[sN] F.entry_list_reverse (F.args_list_reverse_1 _) (AutoSeq1.list_reverse_list_0 l its.toArray n #[h5,QK]) ⟨e,?_⟩;refine⟨.non,_,I.lset (its':=its.reverse) a e #[4] r.reverse ?_,rfl,q⟩;rw[QaV];lia
def ZuN:R2:=λx y H Q=>X4 λl b xs zs=>x=.ref l/\y=.ref b/\H l=U #[kM]/\H b=U #[l5]/\xs.length+zs.length<=ao/\∀p,H p=af->Q #[bS] (upd H p (.lst (xs++zs)))
theorem Xk:OpR X #[vF] ZuN:=by
 show#[gx,y,u,c,d];obtain⟨l,b,xs,zs,rfl,rfl,f,g,hz,q⟩:=h;cases c;cases d;show#[rY,n,f];obtain⟨z2,a,n2,i,ce,j⟩:=I.lstM g;refine PySem.P.add_list e j ?_ #[xU,QK,QK];have k:its.toArray++a.toArray=(its++a).toArray:=by simp
 rw[k];exact⟨.ref _,_,I.lnew (t':=#[wy]) (r.append i) #[h5,Qf],rfl,q _ I.fresh⟩
universe E
universe E.L2
namespace Att
open PySem PySem.W PySem.Calls PyProof.Rows
theorem ZgI{P:Params}{h:aF}:∀ (ns:List Int) (vs:List aa),WellAll P h vs (ns.map WData.int)->IntsAre vs ns:=by
 intro ns;induction ns with
 | nil=>intro vs w;show#[fe,Qa8,w,w];exact .nil
 | cons n ns c =>
  intro vs w;rw[Qs]at w;cases w with
  | cons a b=>cases a;exact .cons _ _ (c _ b)
theorem Zna{l:OpenLaw}{n:Nat}(i:l.most=U n){P:Params}{h:aF}{args:List WData}{e:#[bd]}
  (f:l.row.toRowW.claim.pre args=true) (j:WellAll P h e args) :
  X3 λa vs ns=>e=[aa.ref a]/\args=[WData.list (ns.map WData.int)]/\h.get? a=U { cls:=.type "list",data:=.seq vs.toArray }/\IntsAre vs ns/\ns.length<=n:=by
 have k:WShape.hasAll [] args [.list .int]=true:=(pre_splitW f).1;have g:l.pre.holds [] { args:=args }=true:=(pre_splitW f).2;obtain⟨d,r,rfl,m,o⟩:=hasAllW_cons k;obtain rfl:=hasAllW_nil o;obtain⟨xs,rfl,p⟩:=hasW_list m;obtain⟨ns,rfl⟩:=items_int p;have s:ns.length<=n:=by
  unfold OpenLaw.pre at g;have b:(WTm.not (.lt (.lit (.int (n:Int))) (.len (.arg 0)))).holds [] { args:=[.list (ns.map .int)] }=true:=by have b:=(holds_andW g).1;rw[i]at b;exact b
  have c:=condW_of b (w_not (w_lt w_lit (w_len_list (w_arg rfl))));rw[Qa]at c;refine Nat.le_of_not_lt λq=>?_;have t:(n:Int)<#[fY,ns.length]:=by lia
  first
   | (rw[decide_eq_true t]at c;exact absurd c #[6])
   | (simp at c;lia)
 cases j with
 | cons u v =>
  cases v;cases u with
  | list w x=>exact⟨_,_,ns,rfl,rfl,w,ZgI ns _ x,s⟩
theorem ZmP(l:OpenLaw)(args:List WData):l.row.toRowW.claim.post args #[pI] args=true :=
 postW_of (r:=l.row.toRowW) (X:=(true == true))
  (show WShape.has [] #[pI] .bool=true by first|rfl|decide|simp[WShape.has,WShape.arms,WShape.armsAll])
  (show (WTm.eq .res (.lit #[pI])).value [] { args:=args,res:=U #[pI],after:=args }=U (.bool (true == true)) from w_eq_bool (w_res rfl) w_lit) rfl
theorem attach_call{l:OpenLaw}{n:Nat}{q:ax}{j:#[Q]}{k:#[l0]}{m:aE->aF->Prop}{d:DefRec}
  (s:l.most=U n) (t:#[om])
  (call:∀ (w:aE) (s₀ b:ai) (mg g:al->Option aa) (fa:ae) (o:aJ) (h c i:aa) (a:ae) (vs:List aa) (ns:List Int),
   Ground q j [] k w s₀ mg g b.heap->m w b.heap ->
   b.heap.get? fa=U o->o.data=.func (docDef d.name d.params d.body d.scope h c i)->b.heap.CodeRec c d.name->mg d.name=U (.ref fa) ->
   b.heap.get? a=U { cls:=.type "list",data:=.seq vs.toArray }->IntsAre vs ns->ns.length<=n->b.gens = #[] ->
   bU (ay l.prog w) callerA #[jq] (λr e=>r=.ok (.ret #[pI])/\OldK b.heap e.heap/\e.os=b.os/\AllBare e.gens) b) :
  WalkO q j k m l.row.toRowW d [] #[lW]:=by
 intro w s₀ b mg g G Y fa o h c i u kV v x y p hmg z args rB as A hlay lH B iM;obtain rfl:u=.none:=Dflts.none p t;obtain rfl:kV=.none:=Dflts.noKw p;obtain⟨a,vs,ns,rfl,rfl,C,D,E⟩:=Zna s A B;refine enter_call (codeAny_mono (call w s₀ b mg g fa o h c i a vs ns G Y v (fd_plain x) y hmg C D E z) λr e F=>?_);obtain⟨rfl,H,I,J⟩:=F;exact⟨.inl ⟨.bool true,.bool true,[],rfl,λ_=>rfl,.bool true,ZmP l _,λ_=>⟨List.Pairwise.nil,λ_ K=>(nomatch K)⟩⟩,H,I,J⟩
universe E.Att
namespace L2
open PySem PySem.Spec PyProof.Rows
theorem Pq:∀ {vs:List aa} {ns:List Int},IntsAre vs ns->ZK #[C] vs
 | _,_,.nil=>.nil
 | _,_,.cons n t h=>.cons #[sL] (Pq h)
def Pp(H:Hp):Prop:=∀b,H b=af\/X2 λo xs=>H b=U (.frz o #[kM])
theorem ZpQ{P:ax}{w:aE}{K:#[7]}{mg A:#[R]}{CX:CXT}{k:Nat}{fa a:ae}{D:bu}{x:al}{sp:Sp}{c:ai}{vs:#[bd]}{ns:#[w]}
  (KX:K.In c.heap) (E:c.heap.Ns aL mg) (hb:c.heap.Ns builtinsNs A) (Q:∀x:al,x ≠ "__name__"->A x=cm x) (R:c.heap.NoLimit) (S:c.gens = #[])
  (ha:c.heap.get? a=U { cls:=.type "list",data:=.seq vs.toArray }) (G:IntsAre vs ns) (hl:#[sR]) (T:Y4 k callerA)
  (F:∀f:aF,K.In f->f.Ns aL mg->YF P w K mg f CX k fa D [x] sp) (W:∀ (s:ai) (u:aa),BindsTo s D ⟨[u],[]⟩ [(x,u)])
  (X:∀H:Hp,Pp H->SqL K H a #[C]->sp #[lL] H (λv _=>v=.bl true) λ_ _ _=>False)
  (Y:∀H e g,CX [] H c #[nt] e g->False) :
  bU #[uV] callerA #[jq] #[dE] c:=by
 have I:=Pq G;have Z:=G.length;have core:∀H:Hp,Pp H->SqL K H a #[C]->HOk P w H c.heap->(∀b,H b≠af->b=a)->(H a≠af->K.lookup a=af) ->
   bU #[uV] callerA #[jq] #[dE] c:=by
  intro H J hS i L hK;have M:∀ {b:ae} {o:aJ},c.heap.get? b=U o->H b=af->#[nR].get? b=U o:=λe n=>Zo2 e n;have rA:∀ {b:ae} {o:aJ} {j:Array DictEntry} {l:Nat},c.heap.get? b=U o->o.data=.dict j l->H b=af:=λ{b o j l} e d=>by
   cases q:H b with
   | none=>rfl
   | some u=>have B:b=a:=L b #[sg,q];show#[hz,B,ha,e];have d':Data.seq vs.toArray _=Data.dict j l:=d;cases d'
  have y:∀ {b:ae} {m:al->Option aa},c.heap.Ns b m->#[nR].Ns b m:=λ{b m} ⟨o,j,l,e,d,r⟩=>⟨o,j,l,M e (rA e d),d,r⟩;have N:K.In #[nR]:=λb o e=>M (KX b o e) (by
   cases q:H b with
   | none=>rfl
   | some u=>have B:b=a:=L b #[sg,q];subst B;rw[hK #[sg,q]]at e;cases e)
  have hM:Mod K mg #[nR]:=⟨N,y E,⟨A,y hb,Q⟩,let ⟨mc,h1,h2⟩:=R;⟨mc,y h1,h2⟩⟩;have e0:VB P w K mg #[nR] callerA [] c H:=⟨rfl,hM,λb o e=>Zqx e,Nat.le_of_eq (ZmJ _ _),trivial,λb hb=>absurd #[q5,hb] #[4],i,.of_eq S⟩;refine codeAny_mono ((F _ N (y E)).run callerA [] c H ⟨[.ref a],[]⟩ #[lL] #[lL] _ _ T e0 (W c #[iB]) (.cons rfl .nil) (X H J hS)) λr g h=>?_;cases r with
  | error e=>exact(Y H e g h).elim
  | ok fl =>
   cases fl with
   | next=>exact False.elim h
   | brk=>exact False.elim h
   | cont=>exact False.elim h
   | ret u =>
    obtain⟨v,H',os,p,un,Ax,r',q⟩:=h;have q':v=.bl true:=q;subst q';obtain rfl:u=aa.bool true:=r';refine⟨rfl,OldK.of_keep λb o e=>?_,os,p⟩;cases q:H b with
    | none=>exact un.keep b o e q (by intro z;exact absurd #[q5,z] #[4]) #[4]
    | some u =>
     rcases J b with z|⟨ob,xs,z⟩
     ·show#[fe,q,z,z]
     ·have z2:=un.frzs b ob _ z;obtain⟨O,_⟩:=i b _ z;obtain⟨e2,_⟩:=Ax b _ z2;show#[fe,e,O,O];exact e2
 cases C:K.lookup a with
 | some o=>have e:=KX a o C;show#[fe,ha,e,e];refine core (λ_=>af) (λ_=>.inl rfl) (.inr ⟨_,vs.toArray,_,C,rfl,rfl,rfl,by rw[QK,Z];exact hl,by simpa using I⟩) (λb u z=>by have t:(af:Option HO)=U u:=z;cases t) (λb z=>absurd rfl z) λz=>absurd rfl z
 | none =>
  refine core (λb=>if b=a then U (.frz { cls:=.type "list",data:=.seq vs.toArray } #[oW]) else af) (λb=>?_) (.inl (.inr ⟨{ cls:=.type "list",data:=.seq vs.toArray },if_pos rfl⟩)) #[qK,b,u,z] (λb z=>?_) λ_=>C
  ·by_cases hb:b=a
   ·exact .inr ⟨_,_,if_pos hb⟩
   ·exact .inl (if_neg hb)
  ·by_cases hb:b=a
   ·have t:=(if_pos hb).symm.trans z;cases t;subst hb;exact⟨ha,by rw[Qa];exact hl,vs,_,I,ha⟩
   ·have t:=(if_neg hb).symm.trans z;cases t
  ·by_cases hb:b=a
   ·exact hb
   ·exact absurd (if_neg hb) z
theorem walk_of{l:#[vn]}{n k:Nat}{q:ax}{i:#[Q]}{j:#[l0]}{c:aE->aF->Prop}{d:DefRec}{K:Params->#[7]}{CX:aE->CXT}{sp:aE->Sp}{x:al}
  (m:l.most=U n) (p:n<=ao) (r:#[om]) (t:Y4 k callerA)
  (y:∀ (w:aE) (h:aF),c w h->#[ix].In h)
  (F:∀ (w:aE) (mg:al->Option aa) (fa:ae) (h:aF),#[ix].In h->h.Ns aL mg->mg d.name=U (.ref fa) ->
   ∃b:bu,#[hv,u,b,x] /\
    ∀base:aF,#[ix].In base->base.Ns aL mg->YF l.prog w #[ix] mg base (CX w) k fa b [x] (sp w))
  (z:∀ (w:aE) (H:Hp) (a:ae) (ns:List Int),ns.length<=n->Pp H->SqL #[ix] H a #[C]->sp w #[lL] H (λv _=>v=.bl true) λ_ _ _=>False)
  (A:∀ (w:aE) (H:Hp) (s:ai) (e:aa) (s':ai),CX w [] H s #[nt] e s'->False) :
  PySem.W.WalkO q i j c l.row.toRowW d [] #[lW]:=by
 refine Att.attach_call m r λw s₀ B mg mb fa o pm cd fk a vs ns G Y ho hd fh hmg C D g E=>?_;have KX:=y w _ Y;obtain⟨b,I,J⟩:=F w mg fa _ KX G.T.g hmg;exact ZpQ KX G.T.g G.T.b G.T.builtins G.T.nolimit E C D (Ql g p) t J I (λH L M=>z w H a ns g L M) λH e s'=>A w H B e s'
noncomputable def Yn(s:aI)(j:Nat):aI:=match s with
 | .ClassDef _ _ _ a _ _ _ _ _ _ _=>a.getD j (.Pass ⟨0,0,0,0⟩)
 | _=>.Pass ⟨0,0,0,0⟩
noncomputable def Zv(s:aI):Arguments:=match s with
 | .FunctionDef _ a _ _ _ _ _ _ _ _=>a
 | _=>{ posonlyargs:=[],args:=[],vararg:=af,kwonlyargs:=[],kw_defaults:=[],kwarg:=af,defaults:=[] }
noncomputable def Zq(s:aI):List aI:=match s with
 | .FunctionDef _ _ b _ _ _ _ _ _ _=>b
 | _=>[]
noncomputable def Zh(s:aI):bh:=match s with
 | .FunctionDef _ _ _ _ _ _ a _ _ _=>a
 | _=>{ kind:=.function,names:=[],isGenerator:=false,isCoroutine:=false }
abbrev CX0:CXT:=λ_ _ _ _ _ _=>False
abbrev E0:XK:=λ_ _ _=>False
theorem Sw{X:Cx}:VA CX0 X E0:=λ_ _ _ _ _ _ _ h=>h.elim
structure Fun (K:#[7]) (x aR:al) (st:aI) (f:ae) (fd:bu):Prop where
 ex:X9 λ(oc:aa) (od:Option ae) (kV fk pm:aa) (an:Option ae) (aM ct:aa) (j4:Array (Option aa)) =>
  fd=PySem.W.fnOf x aR (Zv st) (Zq st) (Zh st) .none kV fk pm an aM ct/\K.lookup f=U ⟨oc,od,.func fd,j4⟩/\PySem.W.codeIn K aM aR=true
 kp:PySem.W.keepIn K #[bT]=true
section
variable {P:ax} {w:aE} {K:#[7]} {mg:al->Option aa} {base:aF}
theorem Fun.ok{x b:al}{st:aI}{f:ae}{c:bu}{N ps:#[Q]}{k:Nat}{sp:Sp}(F:Fun K x b st f c)(S:#[ir])(len:#[N])
  (d:∀ (a:aa) (A:aB) (outer:List Env) (s:ai) (H:Hp) (vs:List V) (Q:VK) (E:XK),Y4 k #[fn,b]->sp vs H Q E ->
   ∃t,PSs (XN CX0 P w K mg base N b (Zh st) f a A outer s H E).nox (Zq st) t/\t { nx:=λ_ e=>Q .non e,rt:=Q } #[lg] H):YF P w K mg base CX0 (k+1) f c ps sp:=by
 show#[xG,fk,pm,an,a,g];refine Mc lk g S len λA outer s H vs Q E i j=>?_;obtain⟨t,h,q⟩:=d a A outer s H vs Q E i j;exact⟨t,h.nox,q⟩
theorem Fun.binds{x e:al}{st:aI}{f:ae}{g:bu}{ps:#[Q]}(F:Fun K x e st f g)
  (h:∀ (kV a b:aa) (c:Option ae) (d ct:aa) (us:List aa),us.length=ps.length->bindArgs #[eU,e,a,b,c,d] ⟨us,[]⟩=pure #[mH]):YC K g ps []:=by
 show#[xG,a,b,c,d,fh];exact .all (h kV a b c d ct)
theorem ZL{x a:al}{st:aI}{f:ae}{h:aa}{od d:#[dB]}{i:#[mD]}{kV e g b ct:aa}(l:K.lookup f=U ⟨h,od,.func #[eU,a,e,g,d,b],i⟩)
  (c:PySem.W.codeIn K b a=true) (k:#[sr,K]):Fun K x a st f #[eU,a,e,g,d,b]:=⟨⟨h,od,kV,e,g,d,b,ct,i,rfl,l,c⟩,k⟩
universe E
theorem Sv{A:aB}{k:Nat}(a:Y4 k A):A.units+1<cLine:=Nat.lt_of_le_of_lt (Nat.add_le_add_left (by decide:1<=64) _) a.units
theorem Zn{n:Nat}(h:n<=1000):n<ao:=Nat.lt_of_le_of_lt h #[6]
section
variable {X:Cx}
theorem pv(i:Nat){x:al}{pos:Pos}(a:#[cz]:=by rfl)(b:#[h3,Vis]:=by first|exact Or.inl rfl|exact Or.inr #[3]|exact Or.inr #[i0])(hd:#[j]:=by decide)
  (c:#[ck]:=by decide):PE X #[bX] (SK i):=PH a b hd c
universe E
theorem YY{A B:Prop}(h:B):if false=true then A else B:=by rw[if_neg Qo];exact h
theorem XJ{A B:Prop}(h:A):if true=true then A else B:=by rw[if_pos rfl];exact h
theorem Y1{c A B:Prop}[Decidable c](h1:c->A)(h2:¬ c->B):if c then A else B:=by
 by_cases h:c
 ·rw[if_pos h];exact h1 h
 ·rw[if_neg h];exact h2 h
theorem WR{c A B:Prop}[Decidable c](hc:c)(h:B):if (!decide c)=true then A else B:=by rw[decide_eq_true hc];exact YY h
def ZF(H a:Hp):Prop:=#[rO,H,a]
theorem ZF.refl(H:Hp):ZF H H:=λ_ _ h=>h
theorem ZF.trans{H d e:Hp}(a:ZF H d)(b:ZF d e):ZF H e:=λc o h=>b c o (a c o h)
theorem ZF.free{H a:Hp}(e:ZF H a){l:ae}(h:a l=Option.none):H l=Option.none:=by
 cases q:H l with
 | none=>rfl
 | some o=>rw[e l o q]at h;cases h
theorem ZF.seq{K:#[7]}{H b:Hp}{a:ae}{xs:#[pO]}(e:ZF H b)(h:SqL K H a xs):SqL K b a xs:=by
 rcases h with(h|⟨o,h⟩)|h
 ·exact .inl (.inl (e _ _ h))
 ·exact .inl (.inr ⟨o,e _ _ h⟩)
 ·exact .inr h
noncomputable def YZ(b:#[hm,ae]):List (al×aN)->List (al×ae)->List (al×ae)
 | [],a=>a
 | (n,k)::r,a=>if k == .free then YZ b r ((n,(b.lookup n).getD 0)::a) else YZ b r a
theorem Zid{d:bh}{env:Env}(h:∀y∈d.names,y.2=.free->∃c,env.cells.lookup y.1=U c) :
  closureFor d env=pure (YZ env.cells d.names []):=by
 have go:∀ (a:List (al×aN)) (b:List (al×ae)),(∀y∈a,y.2=.free->∃c,env.cells.lookup y.1=U c) ->
   (forIn a b λ(x:al×aN) (r:List (al×ae))=>if (x.2 == aN.free)=true then (do let c <- cellOf env x.1;pure (ForInStep.yield ((x.1,c)::r))) else pure (ForInStep.yield r):Sem (List (al×ae)))=pure (YZ env.cells a b):=by
  intro a;induction a with
  | nil=>intro b _;rfl
  | cons y r j =>
   intro b f;show#[ep,n,k,y];rw[List.forIn_cons];cases e:(k == aN.free) with
   | false =>
    have g:YZ env.cells ((n,k)::r) b=YZ env.cells r b:=by show (if #[d3]=true then _ else _)=_;rw[e];rfl
    rw[g,<- j b λz i=>f z (QF _ i)];simp only[e,Bool.false_eq_true,if_false,pure_bind]
   | true =>
    have m:k=.free:=by simpa using e
    obtain⟨c,l⟩:=f (n,k) Qas m;have g:YZ env.cells ((n,k)::r) b=YZ env.cells r ((n,c)::b):=by show (if #[d3]=true then _ else _)=_;rw[e,l];rfl
    have o:cellOf env n=pure c:=by unfold cellOf;rw[l]
    rw[g,<- j ((n,c)::b) λz i=>f z (QF _ i)];simp only[e,if_true,o,pure_bind]
 have q:=go d.names [] h;unfold closureFor;first
  | (rw[show (forIn d.names ([]:List (al×ae)) _:Sem (List (al×ae)))=pure (YZ env.cells d.names []) from q];rfl)
  | (simp only[bind_pure];exact q)
  | exact q
theorem Po(a:#[hm,ae]):∀ (names:List (al×aN)) (b:List (al×ae)) (x:al) (c:ae),(YZ a names b).lookup x=U c ->
  (∃y∈names,y.1=x/\y.2=.free/\c=(a.lookup x).getD 0)\/b.lookup x=U c
 | [],b,x,c,h=>.inr h
 | (n,k)::r,b,x,c,h=>by
  by_cases hk:#[d3]=true
  ·have e:#[kE]:=by show (if #[d3]=true then _ else _)=_;rw[if_pos hk]
   rw[e]at h;rcases Po a r _ x c h with⟨y,d,q⟩|q
   ·exact .inl ⟨y,QF _ d,q⟩
   ·rw[QaS]at q;by_cases f:(x == n)=true
    ·rw[f]at q;have g:x=n:=by simpa using f
     subst g;exact .inl ⟨(x,k),Qas,rfl,by simpa using hk,(Qn q).symm⟩
    ·have g:#[wP]:=by simpa using f
     rw[g]at q;exact .inr q
  ·have e:#[uK]:=by show (if #[d3]=true then _ else _)=_;rw[if_neg hk]
   rw[e]at h;rcases Po a r _ x c h with⟨y,d,q⟩|q
   ·exact .inl ⟨y,QF _ d,q⟩
   ·exact .inr q
theorem Pn(a:#[hm,ae]):∀ (names:List (al×aN)) (b:List (al×ae)) (x:al),((∃y∈names,y.1=x/\y.2=.free)\/∃c,b.lookup x=U c) ->
  ∃c,(YZ a names b).lookup x=U c
 | [],b,x,h=>by
  rcases h with⟨y,hy,_⟩|h
  ·cases hy
  ·exact h
 | (n,k)::r,b,x,h=>by
  by_cases hk:#[d3]=true
  ·have e:#[kE]:=by show (if #[d3]=true then _ else _)=_;rw[if_pos hk]
   rw[e];refine Pn a r _ x ?_;by_cases d:(x == n)=true
   ·exact .inr ⟨_,by rw[QaS,d]⟩
   ·have f:#[wP]:=by simpa using d
    rcases h with⟨y,hy,q⟩|⟨c,q⟩
    ·rcases QO.mp hy with rfl|hy
     ·exact absurd #[el,q.1.symm] d
     ·exact .inl ⟨y,hy,q⟩
    ·exact .inr ⟨c,by rw[QaS,f];exact q⟩
  ·have e:#[uK]:=by show (if #[d3]=true then _ else _)=_;rw[if_neg hk]
   rw[e];refine Pn a r _ x ?_;rcases h with⟨y,hy,q⟩|h
   ·rcases QO.mp hy with rfl|hy
    ·exact absurd #[el,q.2] hk
    ·exact .inl ⟨y,hy,q⟩
   ·exact .inr h
structure YR (N N':#[Q]) (o c:bh):Prop where
 kind:c.kind=.function
 okind:o.kind=.function
 nocell:∀y∈c.names,y.2≠.cell
 loc:∀y∈c.names,y.2=.local->c.names.lookup y.1=U .local
 free:∀y∈c.names,y.2=.free->c.names.lookup y.1=U .free/\#[wq]
 len:N.length<=N'.length
 same:∀i∈List.range N.length,∀x∈N'[i]?,c.names.lookup x=U .local\/c.names.lookup x=U .free->c.names.lookup x=U .free/\N[i]? = U x
 nd:N'.Nodup
noncomputable def X1(X:Cx)(c:bh)(a:#[Q])(C:ae)(s:ai)(H:Hp)(fp:#[mj]):Cx :=
 { X with N:=a,s₀:=s,H₀:=H,env:=b9 c (YZ X.env.cells c.names []) C X.env,outer:=X.stack,stack:=X.stack,ex:=fp,fn:=λ_=>false,pn:=[],xe:=λ_ _=>False }
theorem LR{env:Env}(c:env.scope.kind=.function):∀ (names:List (al×aN)) (x:al),
  (names.map λ(p:al×aN)=>if (p.2 == aN.free&&env.scope.kind == .function&&env.kindOf p.1 == U .cell)=true then (p.1,aN.cell) else (p.1,p.2)).lookup x =
   match names.lookup x with
   | some .free=>if env.kindOf x=U .cell then U .cell else U .free
   | k=>k
 | [],x=>rfl
 | (n,k)::r,x=>by
  have g:=LR c r x;rw[Qs];by_cases f:(x == n)=true
  ·have a:x=n:=by simpa using f
   subst a;have d:List.lookup x ((x,k)::r)=U k:=by rw[QaS];simp
   rw[d];by_cases e:k=.free
   ·subst e;by_cases b:env.kindOf x=U .cell
    ·simp[List.lookup_cons,c,b]
    ·simp[List.lookup_cons,c,b]
   ·have h:#[d3]=false:=by simpa using e
    rw[h];simp only[Bool.false_and,Bool.false_eq_true,if_false,List.lookup_cons,beq_self_eq_true];all_goals (cases k<;>first|rfl|exact #[xF,e])
  ·have a:#[wP]:=by simpa using f
   have d:List.lookup x ((n,k)::r)=List.lookup x r:=by rw[QaS,a]
   rw[d,<- g];by_cases b:(k == aN.free&&env.scope.kind == .function&&env.kindOf n == U .cell)=true
   ·simp only[b,if_true,List.lookup_cons,a]
   ·simp only[b,if_false,List.lookup_cons,a,Bool.false_eq_true]
section
variable {X:Cx} {N N':List al} {o c:bh}
theorem Uc(S:#[dl])(a:#[bp])(b:#[hm,ae])(C:ae)(x:al):(b9 c b C X.env).kindOf x =
  match c.names.lookup x with
  | some .free=>if X.env.kindOf x=U .cell then U .cell else U .free
  | k=>k:=LR (env:=X.env) #[ei,a,S.okind] c.names x
theorem Su{names:#[hm,aN]}{x:al}{k:aN}(h:names.lookup x=U k):(x,k)∈names:=Qan h
theorem UV(S:#[dl])(g:#[bp])(ok:X.Ok){x:al}{a:ae}(h:#[v].lookup x=U a) :
  X.env.cells.lookup x=U a/\c.names.lookup x=U .free:=by
 rcases Po _ _ _ _ _ h with⟨y,i,rfl,j,e⟩|q
 ·have d:=S.free y i j;have k:#[rK,X.env.kindOf,y.1]:=by show X.env.scope.names.lookup y.1=_\/X.env.scope.names.lookup y.1=_;rw[g];exact d.2
  obtain⟨b,f⟩:=ok.has y.1 k;rw[f]at e;exact⟨by rw[f,e];rfl,d.1⟩
 ·cases q
theorem LQ(S:#[dl])(d:#[bp])(ok:X.Ok){x:al}(h:#[mh]):∃a,#[v].lookup x=U a/\X.env.cells.lookup x=U a:=by obtain⟨a,b⟩:=Pn X.env.cells c.names [] x (.inl ⟨(x,.free),Su h,rfl,rfl⟩);exact⟨a,b,(UV S d ok b).1⟩
theorem Zq0(S:#[dl])(f:#[bp]){l:#[S]}{n:St}{H:Hp}{s:ai}{fp:#[mj]}(I:#[gY,l,n])
  (i:#[ry,l,H]) (p:#[tL]):#[oR].Ok where
 mod:=I.ok.mod
 kind:=S.kind
 glob:=I.ok.glob
 blt:=I.ok.blt
 above:=Qh _
 inj:=λx y a r t=>I.ok.inj x y a (UV S f I.ok r).1 (UV S f I.ok t).1
 has:=λx u=>by
  have e:=#[sh,f,s.heap.objs.size];have g:#[84].kindOf x=U .cell\/#[84].kindOf x=U .free:=u;rw[e]at g;cases q:c.names.lookup x with
  | none=>rw[q]at g;rcases g with z|z<;>cases z
  | some k =>
   by_cases m:k=.free
   ·subst m;obtain⟨a,v,_⟩:=LQ S f I.ok q;exact⟨a,v⟩
   ·rw[q]at g;have w:k=.cell:=by cases k<;>first|rfl|exact #[xF,m]|(rcases g with z|z<;>cases z)
    subst w;exact #[sx]
 cab:=λx a h=>by cases (show false=true from h)
 hd:=I.ok.hd
 frames:=I.ok.frames
 stk:=#[oA]
 exf:=λb d=>⟨QB (p b d),λx a h=>(i b d).2.2.2.2.1 x a (UV S f I.ok h).1⟩
 bs:=λb j e=>I.bs b j e
 bsz:=Ql I.ok.bsz I.sz
 noex:=λb j e d=>by
  rcases(i b d).2.2.2.1 with z|z
  ·exact I.ok.noex b j e z
  ·exact #[dN]
 exfs:=λb d A=>by
  rcases QO.mp (I.stkSub b A) with z|z
  ·exact(i b d).2.1 z
  ·exact(i b d).2.2.1 z
 funs:=I.stack
 frf:=I.stkFree
theorem Zpm(S:#[dl])(t:X.N=N)(g:#[bp]){B:#[S]}{f:St}{H:Hp}{s:ai}{fp:#[mj]}{w:aF}{tk:Nat}{C:#[R]}(I:#[gY,B,f])
  (E:#[ry,B,H]) (F:#[tL]) (G:w.Ns s.heap.objs.size C) (hk:#[fc,ob,s.heap.get?,ob,w.get?]) :
  Inv #[oR] [] (f++List.replicate #[jl] af) H { s with heap:=w,toks:=tk } where
 ok:=Zq0 S g I E F
 os:=rfl
 bare:=I.bare
 base:=Un.kept hk
 loc:=by
  refine⟨C,G,λi x v J j K=>?_⟩;show#[hU,m,hn,L,I.loc];have M:f.length=N.length:=by rw[I.len,t]
  have y:i<f.length:=by
   by_cases y:i<f.length
   ·exact y
   ·rw[QE #[2],List.getElem?_replicate]at j;split at j<;>cases j
  have O:f[i]? = U (U v):=by rw[QM y]at j;exact j
  have D:=#[sh,g,s.heap.objs.size];have P:c.names.lookup x=U .local\/c.names.lookup x=U .free:=by
   have n:#[84].kindOf x=U .local\/#[84].kindOf x=U .cell\/#[84].kindOf x=U .free:=K;rw[D]at n;cases q:c.names.lookup x with
   | none=>rw[q]at n;rcases n with z|z|z<;>cases z
   | some k =>
    cases k with
    | «local»=>exact #[oA]
    | free=>exact #[pR]
    | cell=>exact #[sx]
    | _=>rw[q]at n;rcases n with z|z|z<;>cases z
  obtain⟨A,Q⟩:=S.same i (Qar.mpr #[2]) x (by rw[show N'[i]? = U x from J];rfl) P;have hok:#[rK,X.env.kindOf,x]:=by show X.env.scope.names.lookup x=_\/X.env.scope.names.lookup x=_;rw[g];exact(S.free _ (Su A) rfl).2
  obtain⟨u,r,l⟩:=L i x v #[ei,t,Q] O (.inr hok);refine⟨u,r,.inr #[ww]⟩
  ·show (b9 c #[v] s.heap.objs.size X.env).kindOf x=U .cell\/#[84].kindOf x=U .free;rw[D,A];show (if X.env.kindOf x=U .cell then U aN.cell else U aN.free)=U .cell\/(if X.env.kindOf x=U .cell then U aN.cell else U aN.free)=U .free;by_cases q:X.env.kindOf x=U .cell
   ·rw[if_pos q];exact #[oA]
   ·rw[if_neg q];exact #[pR]
  ·obtain⟨a,R,T⟩:=LQ S g I.ok A;refine⟨a,R,?_⟩;rcases l with⟨z,_⟩|⟨_,a',e,ob,V,W⟩
   ·rcases hok with q|q<;>rw[q]at z<;>cases z
   ·show#[fe,T,e,e];exact⟨ob,hk _ _ V,W⟩
 cell:=λx a h=>by obtain⟨v,ob,e,d⟩:=I.cell x a (UV S g I.ok h).1;exact⟨v,ob,hk _ _ e,d⟩
 free:=#[s3]
 freeC:=λx a h=>I.freeC x a (UV S g I.ok h).1
 pin:=λp Y=>absurd (show p∈#[ql] from Y) #[4]
 hok:=I.hok.kept hk
 len:=by
  have M:f.length=N.length:=by rw[I.len,t]
  have:=S.len;show (f++List.replicate #[jl] af).length=N'.length;rw[Qf,QaN];lia
universe E
noncomputable abbrev LP(a:#[kG])(env:Env):Sem Bool :=
 forIn a true λk r=>if r=true then do let ok <- isTrue k env (eval k env);pure (ForInStep.yield ok) else pure (ForInStep.yield r)
def PTs(X:Cx)(c:#[kG])(t:TT):Prop :=
 ∀ (b:List (ae×aJ)) (s:ai) (a:St) (H:Hp) (Q:Bool->Hp->Prop),Inv X b a H s->t a H Q->#[kV] (LP c X.env) (TP X b a Q) X.xe s
def Vx:TT:=λ_ H Q=>Q true H
theorem Wv{X:Cx}:PTs X [] Vx:=λ_ _ _ H _ I h=>wpAny_tests_nil ⟨H,I,h⟩
theorem UU{X:Cx}{e:aH}{t:TT}(h:PT X e t):PTs X [e] t:=λa s b H Q I q=>wpAny_tests_one (h a s b H Q I q)
section
variable {prog:ax} {w:aE} {A:aB} {R:Result->ai->Prop} {s:ai}
theorem Zju{c b iter:aH}{d:#[kG]}{k:bh}{pos:Pos}{it f:aa}{env:Env}{E:#[F]}(I:Nat->ai->Prop)
  (B:∀e s',E e s'->False)
  (turn:∀n s,I n s->au #[p] A (pyNext it) (λr g=>match r with
   | none=>R (.ok .next) g
   | some v=>au #[p] A (letOwnedTupleGo b it v) (λ_ s₀=>au #[p] A (assign b env v) (λ_ l =>
     au #[p] A (LP d env) (λok i =>
      if ok=true then au #[p] A (eval c env) (λx o =>
       au #[p] A (call #[e0,"list.append"] [f,x]) (λ_ p=>∃m,m<n/\I m p) E o) E i
      else ∃m,m<n/\I m i) E l) E s₀) E g) E s)
  (n:Nat) (h:I n s):bU #[p] A (.compLoop #[gQ,c,b,d,k] 0 it f env) R s:=by
 have go:∀ {j:Type} {t:Sem j} {Q:j->ai->Prop} {s:ai},au #[p] A t Q E s->au #[p] A t Q (notedBy #[p] A env λe s'=>R (.error e) s') s :=
  λ{j t Q s} q=>aZ q (λ_ _ z=>z) λe s' z=>(B e s' z).elim
 refine codeAny_loop rfl I #[qK,n,s,C] n h;show au _ A ((compTurn #[gQ,c,b,d,k] 0 it f env).onRaise (λx=>do noteFrame x env;theTreesLotGoes x)) _ _ s;refine wpAny_noted ?_;rw[compTurn_list];refine aj (bw (aj (thn (go (turn n s C)) λr g u=>?_)));cases r with
 | none=>exact av u
 | some v =>
  refine aj (thn (go u) λ_ s₀ a=>aj (thn (go a) λ_ l D=>aj (thn (go D) λok i y=>?_)));cases ok with
  | false=>exact av ⟨rfl,y⟩
  | true=>exact aj (aj (thn (go y) λx o F=>aj (thn (go F) λ_ p G=>av (av ⟨rfl,G⟩))))
universe E
def WF(J:It)(D:ae)(k:Nat)(q:St)(r:Hp)(g:TG)(s:TT)(t:TE)(Q:VK):Prop :=
 ∃W:Nat->Nat->List V->St->Hp->Prop,(∃m,W 0 m [] (q++List.replicate k af) #[xZ,r,D]) /\
  ∀i m a e c,W i m a e c->(J.stop i c/\Q #[lF] c) \/
   (J.go i c/\∃N:List V->St->Hp->Prop,(∀f h j,N f h j->∃l,l<m/\W (i+1) l f h j)/\∀x n,J.yld i c x n->g x e n λd u=>s d u λb o =>
    if b=true then t d o λy p=>p D=U (.lst a)/\a.length<ao/\N (a++[y]) d #[f0,p,a,y] else N a d o)
def Pm(n:Nat)(c:TI)(g:TG)(d:TT)(e:TE):TE:=λa H Q=>c a H λJ b=>∀D,b D=af->WF J D n a b g d e Q
section
variable {X:Cx} {N N':List al} {o c:bh}
theorem LO{gI tg iter:aH}{fK:#[kG]}{pos dD:Pos}{wi:TI}{g:TG}{tc:TT}{te:TE}{use:Option (aa->Sem Unit)}{QQ:#[F]}(S:#[dl])(hN:X.N=N)(ho:#[bp])(hc:#[am])
  (hi:PI X tg iter wi) (hg:#[gW,PG,tg,g]) (ht:#[gW,PTs,fK,tc]) (he:#[gW,PE,gI,te])
  (hs:#[a6]) {Z:#[S]} {s:ai} {σ:St} {H:Hp} {Q:VK} (I:#[gY,Z,σ]) (h:Pm #[jl] wi g tc te σ H Q)
  (post:∀ (D C:ae) (t:ai) (l:Hp) (m:al->Option aa),Inv X Z σ l t->l C=af->t.heap.Ns C m->C≠X.env.locals->X.s₀.heap.objs.size<=C->#[qz,a,C]->(∀p∈X.pn++Z,p.1≠C) ->
   Q #[lF] l->compPost #[22] X.A X.xe use QQ #[lF] C (.ok .next) t) :
  #[kV] (comprehension #[ea] c X.env dD (newList []) false #[hX,iter] use) QQ X.xe s:=by
 have xV:closureFor c X.env=pure #[v]:=Zid λy hy hf=>by refine I.ok.has y.1 ?_;show X.env.scope.names.lookup y.1=_\/X.env.scope.names.lookup y.1=_;rw[ho];exact(S.free y hy hf).2
 refine wpAny_comprehension_free (use:=use) rfl hs xV S.kind S.loc (thn #[h7,hi,Z,σ] λv s1 h1=>thn h1 λxK f h2=>?_);obtain⟨it,fp,tn,J,G,e,I2,T,uL,f2,hR⟩:=h2;subst e;have hD:G f.heap.objs.size=af:=I2.fresh;have M:Inv X Z σ #[83] { f with heap:=f.heap.push { cls:=.type "list",data:=.seq ([]:List aa).toArray } } :=
  I2.lnew (ys:=[]) (its:=[]) (t':=f.toks) .nil (Qu _)
 have Ay:∀b∈fp,b<f.heap.objs.size:=λb k=>by obtain⟨A,e,_⟩:=T.obj 0 _ uL b k;exact Qm e
 refine bV (wpAny_newFunctionEnv S.nocell (by intro y hy;simp at hy) #[qK,K,uR,uS] S.kind);have O:∃j:ai,j={ f with heap:=f.heap.push { cls:=.type "list",data:=.seq ([]:List aa).toArray } }:=#[K];show#[ep,j,xW,O];have O:j.heap=f.heap.push { cls:=.type "list",data:=.seq ([]:List aa).toArray }:=by rw[xW]
 have qo:j.heap.objs.size=f.heap.objs.size+1:=by rw[O,QW]
 have Az:∀b∈fp,b<j.heap.objs.size:=λb k=>Qw (Ay b k) #[eR,qo,Q1,_];have f3:#[ry,Z,#[83]]:=λb k=>⟨by rw[Zd (QB (Ay b k))];exact(f2 b k).1,(f2 b k).2⟩;have uM:tn 0 j.heap:=T.keep 0 _ _ uL λb _ A e=>by rw[O];exact Qc _ e
 rw[<- xW]at M;show bU #[22] X.A (.compStart _ 0 #[kc] #[68] (b9 c #[v] #[i7].objs.size X.env))
  (compPost #[22] X.A X.xe use QQ #[68] #[i7].objs.size)
  { f with heap:=K,toks:=f.toks+([]:List (al×aa)).length }
 have dO:K.Ns j.heap.objs.size (λx=>([]:List (al×aa)).reverse.lookup x):=by rw[O];exact uR
 have xX:#[fc,A,j.heap.get?,A,K.get?]:=λb A e=>by rw[O]at e;exact uS.extBut b A #[tn] (Qc _ e)
 rw[<- O];have E5:({ f with heap:=K,toks:=f.toks+([]:List (al×aa)).length }:ai)={ j with heap:=K,toks:=f.toks }:=by rw[xW];rfl
 rw[E5];obtain⟨W,⟨m0,w0⟩,turn⟩:=hR f.heap.objs.size hD;have I4:=Zpm (tk:=f.toks) S hN ho M f3 Az dO xX;have AA:tn 0 K:=T.keep 0 _ _ uM λb _ A e=>xX b A e;generalize w:X1 X c N' j.heap.objs.size j (upd G f.heap.objs.size (.lst [])) fp=Y at I4;have P:Y.prog=X.prog:=by rw[<- w];rfl
 have R:Y.w=X.w:=by rw[<- w];rfl
 have YK:Y.K=X.K:=by rw[<- w];rfl
 have Yc:Y.calm=true:=by rw[<- w];exact hc
 have YA:Y.A=X.A:=by rw[<- w];rfl
 have wH:Y.env=b9 c #[v] j.heap.objs.size X.env:=by rw[<- w];rfl
 have Yl:Y.env.locals=j.heap.objs.size:=by rw[wH];rfl
 have uT:Y.xe=λ_ _=>False:=by rw[<- w];rfl
 have AB:=hg j.heap.objs.size j #[83] fp;have eX:=ht j.heap.objs.size j #[83] fp;have cA:=he j.heap.objs.size j #[83] fp;rw[w]at AB eX cA;have jt:∀ {B:Hp},(∀b∈fp,B b=af)->∀b∈fp,WU Y [] B b:=λ{B} hn b k=>by
  obtain⟨_,q1,q2,q3,q4,_⟩:=f3 b k;have z1:=I4.ok.exf b #[eJ,w,k];refine⟨hn b k,z1.1,I4.ok.exfs b #[eJ,w,k],.inl #[eJ,w,k],z1.2,λp hp=>?_⟩;have gq:p∈#[ql]:=by
   have:Y.pn=[]:=by rw[<- w];rfl
   rw[this]at hp;exact hp
  cases gq
 have fin:∀ (t:ai) (L:St) (l:Hp),Inv Y [] L l t->Q #[68] l->compPost #[22] X.A X.xe use QQ #[68] j.heap.objs.size (.ok .next) t:=λt L l F q=>by
  obtain⟨m,hn,_⟩:=id F.loc;rw[Yl]at hn;have rE:l j.heap.objs.size=af:=by have:=F.free;show#[rs,Yl]
  have un:Un (frs X.stack) fp #[83] l j.heap t.heap:=by have:=F.base;rw[<- w]at this;exact this
  have E6:t.os=j.os:=by have:=F.os;rw[<- w]at this;exact this
  have jw:HOk X.prog X.w l t.heap:=by have:=F.hok;show#[fz,P,R]
  refine post _ _ t l m (M.call' (s':=t) (ch:=fp) E6 un jw F.bare λb k=>?_) rE hn (Q7 M.lt) M.sz #[qK,x,a,e] (λp hp=>?_) q
  ·obtain⟨_,q1,_,q3,q4,q5⟩:=f3 b k;exact⟨q3,q1,q4,q5⟩
  ·obtain⟨v,A,e',_⟩:=M.cell x a e;exact QB (Qm e')
  ·exact QB (Qm (M.pin p hp).1)
 have wI:bU #[22] X.A (.compLoop #[ea] 0 #[kc] #[68] #[o8])
   (compPost #[22] X.A X.xe use QQ #[68] j.heap.objs.size) { j with heap:=K,toks:=f.toks }:=by
  rw[<- wH,<- YA];refine Zju (E:=λ_ _=>False) (λn s'=>X4 λi ys aQ B=>Inv Y [] aQ B s'/\tn i s'.heap/\(∀b∈fp,B b=af)/\W i n ys aQ B) (λ_ _ z=>z) ?_ m0
   ⟨0,[],_,_,I4,AA,λb k=>(f3 b k).1,?_⟩
  ·rintro n t ⟨i,ys,L,l,F,ql,uN,w5⟩;rcases turn i n ys L l w5 with⟨stop,qn⟩|⟨go,Nn,AC,step⟩
   ·refine thn (T.done Y P R YK Yc i [] t L l _ F (jt uN) ql stop) ?_;rintro r s6 ⟨hr,I6⟩;subst hr;have fq:=fin s6 L l I6 qn;rw[<- YA]at fq;exact fq
   ·refine thn (T.item Y P R YK Yc i [] t L l _ F (jt uN) ql go) ?_;rintro r s6 ⟨u,hr,h6⟩;subst hr;refine thn h6 ?_;rintro _ s7 ⟨x,H7,I7,r7,y7,xY,E7⟩;have E8:=I7.pinned (jt E7) (T.obj _ _ xY);have wJ:∀ {xZ:St} {V:Hp} {s9:ai},Inv Y ([]++Ui fp s7.heap) xZ V s9->Inv Y [] xZ V s9/\tn (i+1) s9.heap/\∀b∈fp,V b=af:=λ{xZ V s9} I9=>by refine⟨I9.unpinned,T.keep _ _ _ xY λb k A e=>(I9.pin (b,A) #[re,k]).1,λb k=>?_⟩;obtain⟨A,e,d⟩:=T.obj _ _ xY b k;exact(I9.pin (b,A) #[re,k]).2.1
    have P1:=AB _ s7 L H7 x u _ E8 r7 (step x H7 y7);show#[qM,P1];rintro _ s8 ⟨qp,H8,I8,q8⟩;have P2:=eX _ s8 qp H8 _ I8 q8;show#[qM,P2];rintro ok s9 ⟨V,I9,q9⟩;cases ok with
    | false=>rw[if_neg Qo]at q9;rw[if_neg Qo];show#[qS,b1,b2,b3,wJ,I9];obtain⟨m',gX,w9⟩:=AC _ _ _ q9;exact⟨m',gX,i+1,ys,qp,V,b1,b2,b3,w9⟩
    | true=>rw[if_pos rfl]at q9;show#[tO];have P3:=cA _ s9 qp V _ I9 q9;show#[qM,P3];rintro y jx ⟨vy,eT,E9,Fa,Fb,hsz,Fc⟩;have P4:=Vy (X:=Y) _ jx qp eT #[68] [vy] #[68] [y] (λ_ B=>Nn (ys++[vy]) qp B) E9 rfl #[xT,Fa] ⟨_,ys,vy,rfl,rfl,Fb,hsz,Fc⟩;show#[qM,P4];rintro _ fL ⟨_,e6,Fd,_,Fe⟩;show#[qS,b1,b2,b3,wJ,Fd];obtain⟨m',gX,Ff⟩:=AC _ _ _ Fe;exact⟨m',gX,i+1,ys++[vy],qp,e6,b1,b2,b3,Ff⟩
  ·exact w0
 have lp:=T.self X.A 0 { j with heap:=K,toks:=f.toks } (λFg s'=>bU #[22] X.A (.compLoop #[ea] 0 Fg #[68] #[o8])
   (compPost #[22] X.A X.xe use QQ #[68] j.heap.objs.size) s') #[mF] AA wI
 exact codeAny_compStart_list wI (aZ lp (λ_ _ z=>z) λ_ _ z=>z.elim)
theorem Inv.let{c:#[S]}{d:St}{H:Hp}{s:ai}{C:ae}{h':aF}(I:#[gY,c,d])(f:H C=af)(g:C≠X.env.locals)(h1:X.s₀.heap.objs.size<=C)
  (h2:∀x a,X.env.cells.lookup x=U a->a≠C) (h:#[q8,c,C]) (hs:#[xy,C,s.heap,h']):Inv X c d H { s with heap:=h' } :=
 I.turned (t':=#[wy]) (λb i j e=>hs.extBut b i j e) f g (.inr h1) h2 h
theorem Xj{b a iter:aH}{d:#[kG]}{pos:Pos}{e:TI}{g:TG}{f:TT}{i:TE}(S:#[dl])(j:X.N=N)(k:#[bp])(hc:#[am])
  (l:PI X a iter e) (n:#[gW,PG,a,g]) (p:#[gW,PTs,d,f]) (he:#[gW,PE,b,i])
  (hs:#[a6]:=by intro _;rfl) :
  PE X #[gQ,b,a,d,c] (Pm #[jl] e g f i):=by
 show#[e8,ah,σ,Q];rw[eval_ListComp];refine LO (use:=af) S j k hc l n p he hs I h λD C s5 r m t u v w y z A q=>⟨m,v,λh' B=>?_⟩;exact⟨.ref D,r,t.let u w y z A B,rfl,q⟩
theorem UT{i:Nat}{x:al}{e b iter:aH}{f:#[kG]}{pos d j:Pos}{k:TI}{g:TG}{l:TT}{n:TE}(u:#[lS])(hx:#[cz])(hl:#[vX])(S:#[dl])(w:X.N=N)(y:#[bp])(hc:#[am])
  (A:PI X b iter k) (B:#[gW,PG,b,g]) (E:#[gW,PTs,f,l]) (he:#[gW,PE,e,n])
  (F:swapsWith #[gQ,e,b,f,c] (U (.Name x d)) j.line X.env=pure true)
  (hs:#[a6]:=by intro _;rfl) (G:#[26]:=by first|exact #[oA]|exact #[pR]|assumption) :
  PS X (.Assign [.Name x d] #[gQ,e,b,f,c] j) (PD (Pm #[jl] k g l n) (SI i)):=by
 show#[e8,J,σ,D];rw[exec_Assign_Name_used _ _ _ _ F];refine aj (bw (aj ?_));show au _ X.A (do let _ <- comprehension (.ListComp e [⟨b,iter,f,0⟩] c pos) c X.env _ (newList []) false (eval iter X.env) (U (assign (.Name x d) X.env))) _ _ s;refine aj (thn (LO (QQ:=λ_ p=>SP X J D .next p) (use:=U (assign (.Name x d) X.env)) S w y hc A B E he hs I h ?_) λ_ p K=>av (av K));intro L C s5 M m O P Q r R t T q;show au _ X.A (assign (.Name x d) X.env (.ref L)) _ _ _;refine wpAny_assign_Name (MM (v:=.ref L) O u hx hl rfl (?_) G);rintro s6 V ⟨a,W,Y⟩;have Z:C≠a:=by
  rcases Y with z|z
  ·rw[z];exact r
  ·exact(t x a z).symm
 exact⟨m,Q.sameBut W Z,λh' AD=>⟨_,M,V.let P r R t T AD,q⟩⟩
universe E
theorem LN{ys:#[Q]}:∀ {us:List aa},ZK #[p3] us->StrsAre us ys:=by
 induction ys with
 | nil=>intro us r;show#[fe,Qa8,r,r];exact .nil
 | cons y ys a =>
  intro us r;rw[Qs]at r;cases r with
  | cons b c=>obtain⟨t,e⟩:=b;subst e;exact .cons _ _ (a c)
theorem LM:∀ {vs:List aa} {ys:List al},StrsAre vs ys->ZK #[p3] vs
 | _,_,.nil=>.nil
 | _,_,.cons _ t h=>.cons #[sL] (LM h)
section
variable {X:Cx}
def LL(K:#[7]):List V->Hp->VK->Prop:=λxs H Q=>X4 λx c t b=>xs=[x,.ty c]/\Xn K H x t/\PySem.W.kitOne K t (.type c)=U b/\Q (.bl b) H
theorem Zpd:YS X #[cr] (LL X.K):=by intro ah s σ H xs us Q I r h;obtain⟨x,c,t,b,rfl,ty,e,q⟩:=h;obtain⟨u,w',rfl,a,d⟩:=Sy r;cases d;exact Zm3 I a ty e λtk=>⟨.bl b,H,I.tok _,rfl,q⟩
def LK(K:#[7]):List V->Hp->VK->Prop:=λxs H Q=>X5 λ(x:V) (a:ae) (c:List String) (t:aa) (b:Bool)=>xs=[x,.ref a]/\H a=U (.tup (c.map V.ty))/\Xn K H x t/\PySem.W.kitAny K t (c.map aa.type)=U b/\Q (.bl b) H
theorem ZqD{a:List String}:∀ {us:List aa},ZK (a.map V.ty) us->us=a.map aa.type:=by
 induction a with
 | nil=>intro us r;show#[fe,Qa8,r,r];rfl
 | cons y ys b =>
  intro us r;rw[Qs]at r;cases r with
  | cons c d=>rw[show _=aa.type y from c,b d];rfl
theorem ZnL:YS X #[cr] (LK X.K):=by
 intro A s B H k us Q I r h;obtain⟨x,D,E,t,b,rfl,F,ty,e,q⟩:=h;obtain⟨u,w',rfl,d,G⟩:=Sy r;cases G;obtain⟨_,its,K,⟨L,f,M,n,N⟩⟩:=I.hok D _ F;have P:=ZqD K;subst P;show#[rQ,R,S,T,sl,L];have U:R=aa.type "tuple":=M;have V:T=Data.seq (E.map aa.type).toArray n:=N;subst U;subst V;have c:∀v,EP X A B Q (.bool b) { s with toks:=v }:=λv=>⟨.bl b,H,I.tok _,rfl,q⟩;cases ty with
 | non=>cases (show u=aa.none from d);show#[gN,PySem.W.kitx_none]
 | bl y=>cases (show u=aa.bool y from d);show#[gN,PySem.W.kitx_bool]
 | int i=>obtain⟨t,q⟩:=#[uz];cases q;show#[gN,PySem.W.kitx_int]
 | str y=>obtain⟨t,q⟩:=#[eE,aa.str,y,d];cases q;show#[gN,PySem.W.kitx_str]
 | flt y=>obtain⟨t,q⟩:=#[eE,aa.float,y,d];cases q;show#[gN,PySem.W.kitx_float]
 | @lst a k g=>cases (show u=aa.ref a from d);obtain⟨_,_,n,_,j⟩:=(show Z5 X.prog X.w H s.heap a (.lst k) from I.hok a _ g);exact #[nG]
 | @frz a W k g=>cases (show u=aa.ref a from d);obtain⟨_,_,_,n,_,j⟩:=(show Z5 X.prog X.w H s.heap a (.frz W (.lst k)) from I.hok a _ g);exact #[nG]
 | @tup a k g=>cases (show u=aa.ref a from d);obtain⟨_,_,_,p⟩:=(show Z5 X.prog X.w H s.heap a (.tup k) from I.hok a _ g);obtain⟨o,j,m,_⟩:=p;exact Q6 PySem.W.kitx_tuple I.kIn ⟨o,j,m⟩ f e #[t] c
 | @dK a l g=>cases (show u=aa.ref a from d);obtain⟨_,_,vs,_,p⟩:=#[fs,a,l,g];obtain⟨o,Y,Z,j,m,_⟩:=p;exact #[nF]
 | @dT a l g=>cases (show u=aa.ref a from d);obtain⟨_,_,k,_,o,Y,Z,j,m,_⟩:=(show Z5 X.prog X.w H s.heap a (.dT l) from I.hok a _ g);exact #[nF]
 | @ins a C dx fs g w ha hn qm hm=>cases (show u=aa.ref a from d);obtain⟨mA,O,_⟩:=Ug I.hok g;obtain⟨S,J,_⟩:=O.look;exact Q6 (PySem.W.kitx_own (w.get _) w.hd ha hn qm hm) I.kIn J f e #[t] c
theorem ZoX(hc:#[am]):YS X #[e0,"all"] (λxs H Q=>X2 λ(p:ae) (bs:List Bool)=>xs=#[jN]/\SqL X.K H p #[tf]/\Q (.bl (bs.all id)) H):=by
 show#[b5];obtain⟨p,bs,rfl,o,q⟩:=h;show#[e9,t];show#[fR,f,w,hz,o];have g:=w.isList;have x:p<s.heap.objs.size:=by obtain⟨_,e,_⟩:=g;exact Qm e
 refine call_all_walk (cH g ?_);refine⟨s.heap.objs.size,[s.heap.objs.size,p],[s.heap.objs.size],its.toArray.size,_,_,λi=>(bs[i]?).getD true,rfl,Walks.list (A:=X.A.in1) #[iy] _ p (QB x) its.toArray,
  ⟨⟨_,Qt _ rfl,rfl,rfl⟩,g.push _⟩,λi v y B E' C D=>?_,λh' tk E=>?_⟩
 ·have l:its[i]? = U v:=by simpa using C
  have c:i<its.length:=(Qe.mp l).1;have a:=f.length;have j:#[tf][i]? = U (V.bl (bs[i]'#[px])):=by rw[Qp,Qb #[px]];rfl
  show#[qS,u',d,F,f.get,j];show#[fe,l,d,d];obtain rfl:v=aa.bool _:=F;have m:B ((bs[i]?).getD true) y:=D;rw[Qb #[px]]at m;exact bT m
 ·have e:((List.range its.toArray.size).all λi=>(bs[i]?).getD true)=bs.all id:=by
   have a:=f.length;rw[Qa]at a;rw[QK,<- a,Qa0,Qbk,Qbk];constructor
   ·intro z b j;obtain⟨i,c,rfl⟩:=List.mem_iff_getElem.mp j;have:=z i (Qar.mpr c);rw[Qb c]at this;exact this
   ·intro z i c;have n:=Qar.mp c;rw[Qb n];exact z _ (Qad n)
  refine⟨.bl (bs.all id),H,I.kept λb G k=>E b G (λJ=>?_) (Qc _ k),by rw[e];rfl,q⟩;rw[Qi.mp J]at k;exact Qam _ (Qm k)
theorem Zjq:YS X #[qa] (λxs H Q=>X2 λ(p:ae) (ss:List al)=>xs=#[jN]/\SqL X.K H p #[Y]/\ss.length<64 /\
  ∀ (l:ae) (a:List al),H l=af->a.Perm ss->sortedS a=true->Q #[cq] (upd H l #[eu,a.map])):=by
 show#[b5];show#[fA,p,ss,d,uU];show#[e9,f];show#[fR,c,g,i,d];have j:=c.length;rw[Qa]at j i;refine sorted_strs g.isList (LN c) #[2] λb a a1 a2 a3=>?_;obtain⟨e,k⟩:=sortedAll_at s.heap its b;have hp:=a2.length_eq;refine⟨.ref #[G],_,I.laid (t':=#[wy]) (o:=.lst (a.map V.str)) (λ_ _=>sortedAll_old) (Q1 _) ⟨by rw[Qa];lia,b.toList,e,LM a1,by simpa using k⟩,rfl,q _ a #[oU] a2 a3⟩
theorem ZqV:MtR X "str.join" (λx vs H Q=>X3 λ(sep:al) (p:ae) (ys:List al)=>x=.str sep/\vs=#[jN]/\SqL X.K H p #[p3]/\#[oE].sum+ys.length*sep.length<=16777216/\Q (.str #[tm]) H):=by intro ah s σ H x vs v us Q I a b h;obtain⟨sep,p,ys,rfl,rfl,c,d,q⟩:=h;obtain⟨t,rfl⟩:=a;obtain⟨u,rfl,e⟩:=b.one;cases e;obtain⟨its,f,g,_⟩:=I.list c;exact join_list g.isList (LN f) d λt' k=>⟨.str _,H,I.tok _,#[K],q⟩
theorem ZqM:OpR X (binaryOp .Mult) (λx y H Q=>X2 λa n=>x=.str a/\y=.int n/\0<=n/\n<=1000000/\#[be]*n<=1000000/\Q (.str (Txt.mul a n)) H):=by
 show#[gx,y,u,d,f];obtain⟨a,n,rfl,rfl,g,i,h2,q⟩:=h;show#[tG];show#[eD,t',f];have j:a.length*n.toNat<=1000000:=by
  have e:((a.length*n.toNat:Nat):Int)=#[be]*n:=by rw[Int.natCast_mul,Int.toNat_of_nonneg g]
  lia
 refine PySem.P.mul_str ?_ (λc1 c2=>?_) (λc1 c2=>?_) ?_
 ·have l:decide (n < -(2 ^ 63:Int))=false:=#[jc];have c:decide (n>=2 ^ 63)=false:=#[jc];rw[l,c];rfl
 ·have m:(1:Int)<=n:=by lia
  have q1:#[be]*1<=#[be]*n:=Int.mul_le_mul_of_nonneg_left m (Int.natCast_nonneg _);have q2:(1000000:Int)<=(2 ^ 63-1) / n:=by rw[Int.le_ediv_iff_mul_le #[2]];have:(1000000:Int)*n<=1000000*1000000:=Int.mul_le_mul_of_nonneg_left i #[6];lia
  lia
 ·unfold aO.Str.tooLong;have o:ao=16777216:=aP;exact #[jc]
 ·have e:Txt.mul a n=if n<1 then al.empty else if #[wR]=true then a else ⟨#[sF].foldl (·++·) #[]⟩:=rfl
  rw[e]at q;by_cases c1:n<1
  ·rw[if_pos c1]at q ⊢;exact⟨by decide,.str _,H,I.tok _,#[K],q⟩
  ·rw[if_neg c1]at q ⊢;by_cases c2:#[wR]=true
   ·rw[if_pos c2]at q ⊢;exact⟨.str _,H,I,#[K],q⟩
   ·rw[if_neg c2]at q ⊢;refine⟨?_,.str _,H,I.tok _,#[K],q⟩;have p:∀ (k:Nat) (b:Array Nat),((List.replicate k a.cps).foldl (·++·) b).size=b.size+k*a.cps.size:=by
     intro k;induction k with
     | zero=>intro b;simp
     | succ k r=>intro b;rw[List.replicate_succ,List.foldl_cons,r,Array.size_append,Nat.succ_mul];lia
    show (#[sF].foldl (·++·) #[]).size<=ao;rw[p];have c:a.cps.size=a.length:=rfl;have:n.toNat*a.cps.size<=1000000:=by rw[c,Nat.mul_comm];exact j
    have o:ao=16777216:=aP;simp only[List.size_toArray,List.length_nil];lia
def ZuZ:V->Option Int->Option Int->Hp->VK->Prop:=λx lo a H Q=>∃z,x=.str z/\z.length<=ao/\Q (.str (Txt.slice z lo a)) H
theorem Pk:SlR X ZuZ:=by
 intro m s n H x v vl vu lo o sl Q I p b r e h;obtain⟨z,rfl,c,q⟩:=h;show#[eD,t,p];have a:∀f k,EP X m n Q (.str (Txt.slice z lo o) f) { s with toks:=k }:=λf k=>⟨.str _,H,I.tok _,#[K],q⟩;refine⟨"str",_,PySem.F.slot_str_getitem.lookup,typeIs_str _ _ _,?_⟩;cases r with
 | none =>
  cases e with
  | none=>exact ck (l:=af) (u:=af) (st:=af) b rfl #[92]
  | int j d=>exact ck (l:=af) (u:=U (j,d)) (st:=af) b rfl #[92]
 | int i g =>
  cases e with
  | none=>exact ck (l:=U (i,g)) (u:=af) (st:=af) b rfl #[92]
  | int j d=>exact ck (l:=U (i,g)) (u:=U (j,d)) (st:=af) b rfl #[92]
universe E
inductive Src where
 | l (a:ae)|t (a:ae)|s (z:al)
noncomputable def Src.val:Src->V
 | .l a=>.ref a
 | .t a=>.ref a
 | .s z=>.str z
noncomputable def Zqi(c:Nat):V:=.str #[vg]
def Src.its(K:#[7])(H:Hp):Src->List V->Prop
 | .l a,xs=>SqL K H a xs
 | .t a,xs=>SqT K H a xs
 | .s z,xs=>xs=z.cps.toList.map Zqi
def Src.at(h:aF)(i:ae):Src->Nat->Prop
 | .l a,k=>h.IsListIter i a k
 | .t a,k=>h.IsTupleIter i a k
 | .s z,k=>∃tk,h.IsStrIter i (bK z) z tk k
def Src.raw(h:aF):Src->List aa->Prop
 | .l a,us=>h.IsList a us.toArray
 | .t a,us=>h.IsTuple a us.toArray
 | .s _,_=>True
def Src.fit:Src->List aa->Nat->aa->Prop
 | .l _,us,k,u=>us[k]? = U u
 | .t _,us,k,u=>us[k]? = U u
 | .s z,_,k,u=>X2 λc tk=>z.cps[k]? = U c/\u=.str #[vg] tk
noncomputable def Src.many:Src->List aa->Nat
 | .l _,us=>us.length
 | .t _,us=>us.length
 | .s z,_=>z.cps.size
def Src.off:Src->ae->Prop
 | .l a,b=>a≠b
 | .t a,b=>a≠b
 | .s _,_=>True
theorem Src.at_obj{h:aF}{i:ae}:∀ {S:Src} {k:Nat},S.at h i k->X2 λo vs=>h.get? i=U o/\o.data=.fields vs
 | .l _,_,⟨o,e,_,d⟩=>⟨o,_,e,d⟩
 | .t _,_,⟨o,e,_,d⟩=>⟨o,_,e,d⟩
 | .s _,_,⟨_,o,e,_,d⟩=>⟨o,_,e,d⟩
theorem Src.at_keep{h h':aF}{i:ae}(k':∀o,h.get? i=U o->h'.get? i=U o):∀ {S:Src} {k:Nat},S.at h i k->S.at h' i k
 | .l _,_,⟨o,e,d⟩=>⟨o,k' o e,d⟩
 | .t _,_,⟨o,e,d⟩=>⟨o,k' o e,d⟩
 | .s _,_,⟨tk,o,e,d⟩=>⟨tk,o,k' o e,d⟩
theorem Src.raw_keep{h h':aF}{b:ae}(k':#[hu,c,o,b,h.get?]):∀ {S:Src} {us:List aa},S.off b->S.raw h us->S.raw h' us
 | .l _,_,f,⟨o,e,d⟩=>⟨o,k' _ o f e,d⟩
 | .t _,_,f,⟨o,e,d⟩=>⟨o,k' _ o f e,d⟩
 | .s _,_,_,_=>trivial
section
variable {prog:ax} {w:aE} {A:aB} {E:aa->ai->Prop} {s:ai}
theorem Zjh{it t:ae}{i:Nat}{items:#[p1]}{x:aa}{Q:#[F]}(c:#[vh])(d:s.heap.IsTuple t items)(hx:items[i]? = U x)
  (e:∀h',h'.IsTupleIter it t (i+1)->aF.SameBut it s.heap h'->Q x { s with heap:=h' }):au #[p] A #[tW] Q E s:=by
 obtain⟨o,b,f,a⟩:=id c;obtain⟨ol,g,_,nl,h⟩:=d;unfold aO.SmallTypes.nextOf;refine aj (wpAny_callSpecial?_slot (name:=#[kj]) c.typeIs F.slot_tuple_iterator_next
  (cQ F.slot_tuple_iterator_next c.typeIs F.entry_tuple_iterator_next ?_ #[p7]))
 show#[tN];refine aj (aW b a (x:=.ref t) rfl ?_);show#[77];refine aj (aW b a (x:=.int i 0) rfl ?_);show#[sv];refine aj (br g h ?_);simp only[Int.toNat_natCast,hx];refine aj (wpAny_setField b a #[4] (av ⟨x,rfl,av (e _ ?_ #[nf])⟩));exact⟨_,QS _ b (aJ.isFreed_of_fields (aJ.data_mapFields a _)),(aJ.cls_mapFields ..).trans f,by
  rw[aJ.data_mapFields a];simp[rawInt]⟩
theorem Pj{i:ae}{k:Nat}{us:#[bd]}{Q:#[F]}:∀ {S:Src},S.at s.heap i k->S.raw s.heap us->k<S.many us ->
  (∀h' tk u,S.fit us k u->S.at h' i (k+1)->aF.SameBut i s.heap h'->Q u { s with heap:=h',toks:=tk })->au #[p] A #[qk] Q E s
 | .l a,c,h,b,g=>wpAny_nextOf_list_item c h (x:=us[k]'b) #[eR,Qau,Qb,b] λh' d f=>g h' s.toks _ (Qb b) d f
 | .t a,c,h,b,g=>Zjh c h (x:=us[k]'b) #[eR,Qau,Qb,b] λh' d f=>g h' s.toks _ (Qb b) d f
 | .s z,⟨tk,c⟩,h,b,g=>by
  have j:z.cps[k]? = U z.cps[k]:=Array.getElem?_eq_getElem b;by_cases l:z.cps.all (·<128)=true
  ·have e:#[t8]:=by unfold bK;rw[if_pos l]
   rw[e]at c;exact wpAny_nextOf_ascii_item c j λh' d f=>g h' _ _ ⟨_,_,j,rfl⟩ ⟨tk,by rw[e];exact d⟩ f
  ·have e:bK z = "str_iterator":=by unfold bK;rw[if_neg l]
   rw[e]at c;exact wpAny_nextOf_wide_item c j λh' d f=>g h' _ _ ⟨_,_,j,rfl⟩ ⟨tk,by rw[e];exact d⟩ f
theorem Zgw{it t:ae}{i:Nat}{items:#[p1]}{Q:#[F]}(f:#[it])(b:#[vh])(g:s.heap.IsTuple t items)(hx:items[i]? = af)
  (h:∀h' e,aF.ExtBut it s.heap h'->#[cA]->E #[aL] { s with heap:=h' }):au #[p] A #[tW] Q E s:=by
 obtain⟨o,c,hc,d⟩:=id b;obtain⟨ol,j,_,nl,k⟩:=g;unfold aO.SmallTypes.nextOf;refine aj (wpAny_callSpecial?_slot (name:=#[kj]) b.typeIs F.slot_tuple_iterator_next
  (cQ F.slot_tuple_iterator_next b.typeIs F.entry_tuple_iterator_next ?_ #[p7]))
 show#[tN];refine aj (aW c d (x:=.ref t) rfl ?_);show#[77];refine aj (aW c d (x:=.int i 0) rfl ?_);show#[sv];refine aj (br j k ?_);simp only[Int.toNat_natCast,hx];refine aj (wpAny_rule (aj (wpAny_setField c d #[4] ?_)));show au _ _ (newExc #[h4,"StopIteration"] [] >>= _) _ _ _;refine aj ?_;simp only[newExc,newTuple];refine aj (bV ?_ (by size_fits));refine aj (m:=firstArgMember _ _) (wpAny_of_eq (a:=aa.none) (by first|rfl|(simp only[firstArgMember];rfl)) ?_);refine bV ?_ (by size_fits);simp only[raiseNew];refine aj (wpAny_handled ?_);first|rw[show A.in1.handled=af from f]|rw[f]
 refine aj (av (wpAny_throw ?_));exact h _ _ ((#[nf].extBut.push _).push _) ⟨_,Qt _ rfl,rfl⟩
theorem LJ{i:ae}{k:Nat}{us:#[bd]}{Q:#[F]}(f:#[it]):∀ {S:Src},S.at s.heap i k->S.raw s.heap us->S.many us<=k ->
  (∀h' e,aF.ExtBut i s.heap h'->#[cA]->E #[aL] { s with heap:=h' })->au #[p] A #[qk] Q E s
 | .l a,b,g,d,c=>wpAny_nextOf_list_end f b g #[eR,Qau,QP,d] c
 | .t a,b,g,d,c=>Zgw f b g #[eR,Qau,QP,d] c
 | .s z,⟨tk,b⟩,g,d,c=>by
  have h:z.cps[k]? = af:=Array.getElem?_eq_none d;by_cases j:z.cps.all (·<128)=true
  ·have e:#[t8]:=by unfold bK;rw[if_pos j]
   rw[e]at b;exact wpAny_nextOf_ascii_end f b h c
  ·have e:bK z = "str_iterator":=by unfold bK;rw[if_neg j]
   rw[e]at b;exact wpAny_nextOf_wide_end f b h c
structure Ss (z TI TO i1 i2:ae) (S1 S2:Src):Prop where
 TIz:TI≠z
 TOz:TO≠z
 i1z:i1≠z
 i2z:i2≠z
 TITO:TI≠TO
 TIi1:TI≠i1
 TIi2:TI≠i2
 TOi1:TO≠i1
 TOi2:TO≠i2
 i12:i1≠i2
 s1z:S1.off z
 s1TO:S1.off TO
 s1i1:S1.off i1
 s1i2:S1.off i2
 s2z:S2.off z
 s2TO:S2.off TO
 s2i1:S2.off i1
 s2i2:S2.off i2
theorem ZoA{z TI TO i1 i2:ae}{S1 S2:Src}{k:Nat}{q r:#[bd]}{a b:aa}{Q:#[pq]}(D:#[kk])
  (g:#[uM]) (W:#[n6]) (X:IsPair s.heap TO a b)
  (h1:S1.at s.heap i1 k) (h2:S2.at s.heap i2 k) (Y:S1.raw s.heap q) (Z:S2.raw s.heap r) (m1:k<S1.many q) (m2:k<S2.many r)
  (hQ:∀h' tk x y,S1.fit q k x->S2.fit r k y->IsZip h' z TI TO (rawInt s.heap.objs.size)->IsPair h' TO x y->S1.at h' i1 (k+1)->S2.at h' i2 (k+1)->IsPair h' s.heap.objs.size x y->h'.objs.size=s.heap.objs.size+1 ->
   (∀c o,c≠z->c≠TO->c≠i1->c≠i2->s.heap.get? c=U o->h'.get? c=U o)->Q (U #[d9]) { s with heap:=h',toks:=tk }) :
  au #[p] A (pyNext (.ref z)) Q E s:=by
 have L:#[wA]:=⟨_,g,rfl⟩;unfold pyNext;refine aj (wpAny_attempt (wpAny_callSpecial?_slot (name:=#[kj]) L F.slot_zip_next (cQ F.slot_zip_next L F.entry_zip_next ?_ (F.args_zip_next_1 _))));show#[aT];refine aj (aW g rfl (x:=.ref TI) rfl (aj (br W rfl ?_)));show#[72];refine aj (wpAny_rule (aj (aW g rfl (x:=.ref TO) rfl (aj (bH g #[4] λM v f=>?_)))));replace v:IsZip M z TI TO .ellipsis:=v;show#[65];refine aj (Pj (S:=S1) (us:=q) (k:=k) #[hB,f.extBut,h1] (S1.raw_keep #[fy,c,n,f.extBut,n] D.s1z Y) m1 λB x8 x fx rG gz=>av ?_);have h:#[xy,i1,M,B]:=gz;have N:IsPair B TO a b:=h.extBut _ _ D.TOi1 (f.extBut _ _ D.TOz X);refine aj (br N rfl (aj (wpAny_updateSeq_pair N λC G iN=>aj (dh #[py]))));replace G:IsPair C TO x b:=G;have i:#[xy,TO,B,C]:=iN;show#[dM];refine aj (Pj (S:=S2) (us:=r) (k:=k)
  (S2.at_keep (λo e=>i.extBut _ o D.TOi2.symm (h.extBut _ o D.i12.symm (f.extBut _ o D.i2z e))) h2)
  (S2.raw_keep #[fy,c,n,i.extBut,n] D.s2TO (S2.raw_keep #[fy,c,n,h.extBut,n] D.s2i1 (S2.raw_keep #[fy,c,n,f.extBut,n] D.s2z Z))) m2 λH x9 y fy ya lI=>av ?_)
 have j:#[xy,i2,C,H]:=lI;have O:IsPair H TO x b:=j.extBut _ _ D.TOi2 G;refine aj (br O rfl (aj (wpAny_updateSeq_pair O λd t lJ=>aj (dh (av #[py])))));replace t:IsPair d TO x y:=t;have l:#[xy,TO,H,d]:=lJ;refine aj (br t rfl (aj (wpAny_newTuple ?_)));have m:d.objs.size=s.heap.objs.size:=by rw[l.1,j.1,i.1,h.1,f.1]
 have P:#[rL,d]:=l.extBut _ _ D.TOz.symm (j.extBut _ _ D.i2z.symm (i.extBut _ _ D.TOz.symm (h.extBut _ _ D.i1z.symm v)));have yb:∀c o,c≠z->c≠TO->c≠i1->c≠i2->s.heap.get? c=U o->d.get? c=U o:=λc o c1 c2 c3 c4 e =>
  l.extBut _ _ c2 (j.extBut _ _ c4 (i.extBut _ _ c2 (h.extBut _ _ c3 (f.extBut _ _ c1 e))))
 have yd:S1.at d i1 (k+1):=S1.at_keep (λo e=>l.extBut _ o D.TOi1.symm (j.extBut _ o D.i12 (i.extBut _ o D.TOi1.symm e))) rG;have ye:S2.at d i2 (k+1):=S2.at_keep (λo e=>l.extBut _ o D.TOi2.symm e) ya;have R:z<d.objs.size:=Qm P;show au _ _ (aO.SmallTypes.ownedTupleHandOut (.ref z) (.ref d.objs.size) >>= _) _ _ _;refine aj ?_;unfold aO.SmallTypes.ownedTupleHandOut;have yf:IsZip (d.push { cls:=.type "tuple",data:=.seq #[x,y] }) z TI TO .ellipsis:=Qc _ P;refine aj (bH yf #[4] λAG I J=>?_);replace I:IsZip AG z TI TO (rawInt d.objs.size):=I;refine bH I #[4] λp u K=>?_;replace u:IsZip p z TI TO (rawInt d.objs.size):=u;have up:∀c o,c≠z->d.get? c=U o->p.get? c=U o:=λc o c1 e=>K.extBut _ _ c1 (J.extBut _ _ c1 (Qc _ e));have T:IsPair p d.objs.size x y:=K.extBut _ _ (Q7 R) (J.extBut _ _ (Q7 R) #[vQ]);have V:p.objs.size=d.objs.size+1:=by rw[K.1,J.1,QW]
 rw[m]at u T V;refine av ⟨_,rfl,av ?_⟩;show Q (U (.ref d.objs.size)) _;rw[m];exact hQ p x9 x y fx fy u (up _ _ D.TOz t) #[hB,up,yd] (S2.at_keep (λo e=>up _ o D.i2z e) ye) T V λc o c1 c2 c3 c4 e=>up c o c1 (yb c o c1 c2 c3 c4 e)
theorem Zo3{z TI TO i1 i2:ae}{S1 S2:Src}{k:Nat}{h m:#[bd]}{a b:aa}{Q:#[pq]}(C:#[it])(D:#[kk])
  (g:#[uM]) (O:#[n6]) (P:IsPair s.heap TO a b)
  (h1:S1.at s.heap i1 k) (h2:S2.at s.heap i2 k) (G:S1.raw s.heap h) (R:S2.raw s.heap m) (V:S1.many h<=k\/S2.many m<=k)
  (W:∀h' tk,#[iQ]->Q af { s with heap:=h',toks:=tk }) :
  au #[p] A (pyNext (.ref z)) Q E s:=by
 have H:#[wA]:=⟨_,g,rfl⟩;unfold pyNext;have done:∀ (h':aF) (tk:Nat) (e:ae),#[iQ]->#[cA] ->
   au #[p] A (do if (<- isInstance #[aL] #[h4,"StopIteration"]) then pure af else throw #[aL]:Sem (Option aa)) Q E { s with heap:=h',toks:=tk }:=λh' tk e X ⟨o,Y,Z⟩=>
  aj (wpAny_isInstance (T := "StopIteration") (b:=true) ⟨o,Y,Z⟩ isSubtype_stop (av (W h' tk X)))
 refine aj (wpAny_attempt (wpAny_callSpecial?_slot (name:=#[kj]) H F.slot_zip_next (cQ F.slot_zip_next H F.entry_zip_next ?_ (F.args_zip_next_1 _))));show#[aT];refine aj (aW g rfl (x:=.ref TI) rfl (aj (br O rfl ?_)));show#[72];refine aj (wpAny_rule (aj (aW g rfl (x:=.ref TO) rfl (aj (bH g #[4] λI p d=>?_)))));replace p:IsZip I z TI TO .ellipsis:=p;show#[65];by_cases m1:k<S1.many h
 ·have m2:S2.many m<=k:=by rcases V with z'|z';lia;exact z'
  refine aj (Pj (S:=S1) (us:=h) (k:=k) #[hB,d.extBut,h1] #[mw] m1 λi x8 x fx rG q=>av ?_);have j:#[xy,i1,I,i]:=q;have J:IsPair i TO a b:=j.extBut _ _ D.TOi1 (d.extBut _ _ D.TOz P);refine aj (br J rfl (aj (wpAny_updateSeq_pair J λu jo r=>aj (dh #[py]))));have t:#[xy,TO,i,u]:=r;show#[dM];refine aj (LJ (S:=S2) (us:=m) (k:=k) C
   (S2.at_keep (λo e=>t.extBut _ o D.TOi2.symm (j.extBut _ o D.i12.symm (d.extBut _ o D.i2z e))) h2)
   (S2.raw_keep #[fy,c,n,t.extBut,n] D.s2TO (S2.raw_keep #[fy,c,n,j.extBut,n] D.s2i1 (S2.raw_keep #[fy,c,n,d.extBut,n] D.s2z R))) m2 λil e K v=>?_)
  show#[hU,y,f,l,v];have L:#[rL,il]:=K _ _ D.i2z.symm (t.extBut _ _ D.TOz.symm (j.extBut _ _ D.i1z.symm p));have B:e≠z:=λx=>by subst x;show#[fe,L,f,f];simp at l
  exact bH L #[4] λdk _ M=>done dk _ e (λc o c1 c2 c3 c4 x=>M.extBut _ _ c1 (K _ _ c4 (t.extBut _ _ c2 (j.extBut _ _ c3 (d.extBut _ _ c1 x))))) ⟨y,M.extBut _ _ B f,l⟩
 ·refine aj (LJ (S:=S1) (us:=h) (k:=k) C #[hB,d.extBut,h1] #[mw] #[2] λi e q v=>?_);show#[hU,y,f,l,v];have N:#[rL,i]:=q _ _ D.i1z.symm p;have B:e≠z:=λx=>by subst x;show#[fe,N,f,f];simp at l
  exact bH N #[4] λu _ r=>done u _ e (λc o c1 _ c3 _ x=>r.extBut _ _ c1 (q _ _ c3 (d.extBut _ _ c1 x))) ⟨y,r.extBut _ _ B f,l⟩
universe E
noncomputable def Src.iter(tk:Tok):Src->aJ
 | .l a=>{ cls:=.type "list_iterator",data:=.fields #[.ref a,.int 0 0] }
 | .t a=>{ cls:=.type "tuple_iterator",data:=.fields #[.ref a,.int 0 0] }
 | .s z=>{ cls:=.type (bK z),data:=.fields #[.str z tk,.int 0 0] }
noncomputable def Src.value(tk:Tok):Src->aa
 | .l a=>.ref a
 | .t a=>.ref a
 | .s z=>.str z tk
theorem Src.iter_at{h:aF}{i:ae}{tk:Tok}:∀ {S:Src},h.get? i=U (S.iter tk)->S.at h i 0
 | .l _,e=>⟨_,e,rfl,rfl⟩
 | .t _,e=>⟨_,e,rfl,rfl⟩
 | .s _,e=>⟨tk,_,e,rfl,rfl⟩
theorem Src.pyIter{prog:ax}{w:aE}{A:aB}{E:#[F]}{s:ai}{tk:Tok}{us:#[bd]}{Q:#[F]}:∀ {S:Src},S.raw s.heap us ->
  Q #[d9] { s with heap:=s.heap.push (S.iter tk) }->au #[p] A (pyIter (S.value tk)) Q E s
 | .l _,r,q=>cH r q
 | .t _,r,q=>wpAny_pyIter_tuple r q
 | .s _,_,q=>wpAny_pyIter_strU q
theorem Src.raw_push{h:aF}{ob:aJ}:∀ {S:Src} {us:List aa},S.raw h us->S.raw (h.push ob) us
 | .l _,_,⟨o,e,d⟩=>⟨o,Qc _ e,d⟩
 | .t _,_,⟨o,e,d⟩=>⟨o,Qc _ e,d⟩
 | .s _,_,_=>trivial
noncomputable abbrev zH1(h:aF)(S1:Src)(a:Tok):aF:=h.push (S1.iter a)
noncomputable abbrev zH2(h:aF)(S1 S2:Src)(a b:Tok):aF:=(zH1 h S1 a).push (S2.iter b)
noncomputable abbrev zH3(h:aF)(S1 S2:Src)(a b:Tok):aF:=(zH2 h S1 S2 a b).push { cls:=.type "tuple",data:=.seq #[.ref h.objs.size,.ref (zH1 h S1 a).objs.size] }
noncomputable abbrev zH4(h:aF)(S1 S2:Src)(a b:Tok):aF:=(zH3 h S1 S2 a b).push { cls:=.type "tuple",data:=.seq #[.none,.none] }
noncomputable abbrev zH5(h:aF)(S1 S2:Src)(a b:Tok):aF:=(zH4 h S1 S2 a b).push { cls:=.type "zip",data:=.fields #[.none,.bool false,.bool false,.ref (zH2 h S1 S2 a b).objs.size,.ref (zH3 h S1 S2 a b).objs.size] }
theorem Zrp(S1 S2:Src)(a e:Tok)(i j:#[bd]) :
  Meets (aO.«zip.__new__» ⟨[.type "zip",S1.value a,S2.value e],[]⟩) (λ_ R s=>S1.raw s.heap i/\S2.raw s.heap j /\
   R (.ok (.ret (.ref (zH4 s.heap S1 S2 a e).objs.size))) { s with heap:=zH5 s.heap S1 S2 a e }) :=
 .of_wp λb w A R s h=>by
  show#[gn,c,f,s];show#[hU,m,n,h,h];have pS:=sub_zip;have k:∀ {A:aB} {E:aa->ai->Prop} {Q:aa->ai->Prop},Q (.ref c.objs.size) #[lM]->au (ay b w) A (pyIter (S1.value a)) Q E #[gk,c,f]:=
   λ{A E Q} q=>Src.pyIter (s:=#[gk,c,f]) (us:=i) m q
  have l:∀ {A:aB} {E:aa->ai->Prop} {Q:aa->ai->Prop},Q (.ref (zH1 c S1 a).objs.size) ⟨zH2 c S1 S2 a e,g,d,f,os⟩->au (ay b w) A (pyIter (S2.value e)) Q E #[lM]:=
   λ{A E Q} q=>Src.pyIter (s:=#[lM]) (us:=j) (S2.raw_push n) q
  generalize S1.value a=v1 at k ⊢;generalize S2.value e=v2 at l ⊢
  wp_walk using k,l
  exact⟨_,rfl,h⟩
section
variable {prog:ax} {w:aE} {A:aB} {E:aa->ai->Prop} {s:ai}
theorem ZoU{S1 S2:Src}{a b:Tok}{e f:#[bd]}{Q:#[F]}(m:S1.raw s.heap e)(n:S2.raw s.heap f)
  (h:∀h',IsZip h' #[qy,4] #[qy,2] #[qy,3] .none->IsPair h' #[qy,2] #[d9] (.ref #[G]) ->
   IsPair h' #[qy,3] .none .none->S1.at h' s.heap.objs.size 0->S2.at h' #[G] 0->h'.objs.size=s.heap.objs.size+5 ->
   (∀c o,s.heap.get? c=U o->h'.get? c=U o)->Q (.ref #[qy,4]) { s with heap:=h' }) :
  au #[p] A (call #[h4,"zip"] [S1.value a,S2.value b]) Q E s:=by
 refine callType_new F.called_zip #[6] (F.typeCall_zip_2 _ _) (F.newCall_zip_2 _ _) (λobj=>F.args_object_init_3 obj _ _) F.entry_zip_new (Zrp S1 S2 a b e f) ⟨m,n,?_⟩;have z1:(zH1 s.heap S1 a).objs.size=s.heap.objs.size+1:=QW ..;have z2:#[hr,zH2,2]:=by rw[QW,z1]
 have z3:#[hr,zH3,3]:=by rw[QW,z2]
 have z4:#[hr,zH4,4]:=by rw[QW,z3]
 have z5:#[cL].objs.size=s.heap.objs.size+5:=by rw[QW,z4]
 have g:∀ (i:Tok) (S:Src),(S.iter i).isFreed=false:=λi S=>by cases S<;>rfl
 have d:#[hn,zH4]:=Qt _ rfl;have j:#[hn,zH3]:=Qc _ #[vQ];have k:#[hn,zH2]:=Qc _ (Qc _ #[vQ]);have l:#[cL].get? (zH1 s.heap S1 a).objs.size=U (S2.iter b):=Qc _ #[tX];have p:#[cL].get? s.heap.objs.size=U (S1.iter a):=Qc _ (Qc _ #[tX]);show _/\_;rw[z2,z3,z4]at d;rw[z1,z2]at k;rw[z3]at j;rw[z1]at l;rw[z4];exact⟨⟨_,d,rfl⟩,h _ d k j (Src.iter_at p) (Src.iter_at l) z5 λc o x =>
  Qc _ (Qc _ (Qc _ (Qc _ (Qc _ x))))⟩
universe E
noncomputable def Itz(K:#[7])(S1 S2:Src):It :=
 ⟨λi H=>X2 λa b=>S1.its K H a/\S2.its K H b/\i<a.length/\i<b.length,
  λi H v c=>∃p,H p=af/\v=.ref p/\∀a b,S1.its K H a->S2.its K H b->∀x y,a[i]? = U x->b[i]? = U y->c=upd H p (.tup [x,y]),
  λi H=>X2 λa b=>S1.its K H a/\S2.its K H b/\(a.length<=i\/b.length<=i)⟩
section
variable {X:Cx} {ah:List (ae×aJ)} {σ:St} {H:Hp} {s:ai}
theorem Inv.src(I:#[i]):∀ {S:Src} {xs:List V},S.its X.K H xs->∃us,S.raw s.heap us/\S.many us=xs.length/\∀k u x,S.fit us k u->xs[k]? = U x->ZI x u
 | .l a,xs,h=>by obtain⟨its,e,pl,_⟩:=I.list h;refine⟨its,pl.isList,e.length.symm,λk u x f b=>?_⟩;show#[jb]
 | .t a,xs,h=>by obtain⟨its,e,pl,_⟩:=I.tuple h;refine⟨its,pl,e.length.symm,λk u x f b=>?_⟩;show#[jb]
 | .s z,xs,h=>by
  refine⟨[],trivial,?_,λk u x f b=>?_⟩
  ·rw[show xs=_ from h,Qa];simp[Src.many]
  ·show#[rQ,c,i,d,j,f];subst j;rw[show xs=_ from h,Qp]at b;have l:z.cps.toList[k]? = U c:=by simpa using d
   show#[fe,l,b,b];exact⟨i,rfl⟩
theorem Inv.src_off(I:#[i]){b:ae}(hb:WU X ah H b):∀ {S:Src} {xs:List V},S.its X.K H xs->S.off b
 | .l a,xs,h=>by
  rcases h with(h|⟨ob,h⟩)|⟨o,its,n,hk,_⟩
  ·exact Zf h hb.1
  ·exact Zf h hb.1
  ·show#[t5];rcases hb.2.2.2.1 with z|z
   ·exact I.ok.noex a o e z
   ·exact #[dN]
 | .t a,xs,h=>by
  rcases h with(h|⟨ob,h⟩)|⟨o,its,n,hk,_⟩
  ·exact Zf h hb.1
  ·exact Zf h hb.1
  ·show#[t5];rcases hb.2.2.2.1 with z|z
   ·exact I.ok.noex a o e z
   ·exact #[dN]
 | .s z,xs,h=>trivial
theorem Inv.zipped{fp:#[mj]}{h':aF}{tk:Nat}{x y:V}{u v:aa}(I:#[i])(g:#[ry,ah,H])(k:ZI x u)(l:ZI y v)
  (p:IsPair h' s.heap.objs.size u v) (hfh:∀b∈fp,∃o,h'.get? b=U o) (hk:∀c o,c ∉ fp->s.heap.get? c=U o->h'.get? c=U o) :
  Inv X ah σ (upd H s.heap.objs.size (.tup [x,y])) { s with heap:=h',toks:=tk }:=by
 have t:H s.heap.objs.size=af:=I.fresh;have ne:∀b a,s.heap.get? b=U a->b≠s.heap.objs.size:=λb a e=>QB (Qm e);have h:∀b u,H b=U u->b≠s.heap.objs.size:=λb u e=>Zf e t;have i:∀b u,H b=U u->b ∉ fp:=λb u e d=>by rw[(g b d).1]at e;cases e
 refine I.step (g':=s.gens) (d':=s.drawn) (ch:=fp) (λb d=>⟨(g b d).2.2.2.1,(g b d).2.1,(g b d).2.2.2.2.1,(g b d).2.2.2.2.2⟩)
  (λb a _ _ f e _=>hk b a f e) (λb a _ _ f e _=>⟨a.slots,hk b a f e⟩) (λb a _ e n=>by rw[Zd (ne b a e)];exact n) (λb a f e=>⟨a,hk b a f e⟩)
  (λb w e=>by rw[Zd (h b _ e)];exact e) (λb a u e=>by rw[Zd (h b _ e)];exact e) (λb ps e=>⟨#[],by rw[Zd (h b _ e),e];simp⟩) (λm A=>?_) #[qK,b,j,e] I.bare
 ·obtain⟨a,B,C,D,r⟩:=A;exact⟨a,B,C,hk _ a #[xE,g] D,r⟩
 ·by_cases d:b=s.heap.objs.size
  ·show#[hz,d,Zb,e];exact⟨by show 2<=ao;decide,[u,v],.cons k #[xT,l],⟨_,p,rfl,_,rfl⟩⟩
  ·rw[Zd d]at e;refine(I.hok b j e).stay (λc E f q=>hk c E ?_ q) (λc q=>by rw[Zd (h c _ q)];exact q) λc w q=>by rw[Zd (h c _ q)];exact q
   rcases f with z|z
   ·rw[z];exact i b j e
   ·exact i c _ z
universe E
theorem Zou{P:ax}{w:aE}{K:#[7]}{dI:#[kG]}{x1:Nat}{eB:Pos}{S1 S2:Src}{z TI TO i1 i2:ae}
  (Q:TI≠z) (Y:TO≠z) (Z:i1≠z) (d4:i2≠z) (d5:TI≠TO) (d6:TI≠i1) (d7:TI≠i2) (d8:TO≠i1) (d9:TO≠i2) (lL:i1≠i2) :
  We P w K (.Tuple dI x1 eB) (Itz K S1 S2) #[lR] z
   (λi h=>IsZip h z TI TO .none/\IsPair h TI (.ref i1) (.ref i2)/\(X2 λa b=>IsPair h TO a b)/\S1.at h i1 i/\S2.at h i2 i) where
 mem:=by simp
 obj:=λi h st b j=>by
  obtain⟨J,L,⟨a,b',M⟩,N,O⟩:=st;have nf:∀ {o:aJ} {A:Array aa},o.data=.fields A->∀v,o.data≠.cell v:=λd v e=>by rw[d]at e;cases e
  show#[cU];rcases j with rfl|rfl|rfl|rfl|rfl
  ·exact⟨_,J,nf rfl⟩
  ·show#[eI,L,v,e]
  ·show#[eI,M,v,e]
  ·obtain⟨o,A,e,d⟩:=Src.at_obj N;exact⟨o,e,nf d⟩
  ·obtain⟨o,A,e,d⟩:=Src.at_obj O;exact⟨o,e,nf d⟩
 keep:=λi h R st k=>by obtain⟨J,L,⟨a,b',M⟩,N,O⟩:=st;exact⟨k z #[4] _ J,k TI #[4] _ L,⟨a,b',k TO #[4] _ M⟩,Src.at_keep (λo e=>k i1 #[4] o e) N,Src.at_keep (λo e=>k i2 #[4] o e) O⟩
 item:=by
  show#[dj];obtain⟨xs,ys,B,C,l1,l2⟩:=hg;show#[iT];have D:#[kk]:=⟨Q,Y,Z,d4,d5,d6,d7,d8,d9,lL,I.src_off T B,I.src_off #[wW] B,I.src_off #[wV] B,I.src_off #[wU] B,
   I.src_off T C,I.src_off #[wW] C,I.src_off #[wV] C,I.src_off #[wU] C⟩
  refine ZoA D J L M N O r1 r2 #[2] #[2] λR tk x y fx fy a1 a2 a3 a4 a5 a6 a7=>?_;have rx:=f1 i x _ fx (Qb l1);have ry:=f2 i y _ fy (Qb l2);refine⟨_,rfl,wpAny_letOwnedTupleGo_zip a1 λlM wM mU=>?_⟩;have G:#[xy,z,R,lM]:=mU;have wN:IsPair R TI (.ref i1) (.ref i2):=a7 _ _ Q d5 d6 d7 L;have lt:#[bo]:=λe=>Q7 (Qm e);have oG:s.heap.objs.size≠z:=lt J;have I2:Inv X ah σ (upd H s.heap.objs.size (.tup [xs[i],ys[i]])) { s with heap:=lM,toks:=tk }:=by
   refine I.zipped (fp:=#[lR]) g rx ry (G.extBut _ _ oG a5) (λb j=>?_) λc o f e=>?_
   ·show#[cU];rcases j with rfl|rfl|rfl|rfl|rfl
    ·exact⟨_,wM⟩
    ·exact#[xQ,_,Q,wN]
    ·exact#[xQ,_,Y,a2]
    ·show#[il,a3];exact#[xQ,o,Z,e]
    ·show#[il,a4];exact#[xQ,o,d4,e]
   ·simp only[List.mem_cons,List.not_mem_nil,or_false,not_or]at f;exact G.extBut _ _ f.1 (a7 c o f.1 f.2.2.1 f.2.2.2.1 f.2.2.2.2 e)
  refine⟨.ref s.heap.objs.size,_,I2,rfl,⟨s.heap.objs.size,I.fresh,rfl,λFl jd w1 w2 x' y' e1 e2=>?_⟩,⟨wM,G.extBut _ _ Q wN,⟨_,_,G.extBut _ _ Y a2⟩,Src.at_keep (λo e=>G.extBut _ o Z e) a3,Src.at_keep (λo e=>G.extBut _ o d4 e) a4⟩,λb j=>?_⟩
  ·have same:∀ {S:Src} {us A:List V},S.its X.K H us->S.its X.K H A->us=A:=λ{S us A} p q=>by
    cases S with
    | l a=>exact I.list_inj p q
    | t a=>exact I.tuple_inj p q
    | s z=>rw[show us=_ from p,show A=_ from q]
   have e3:=same w1 B;have e4:=same w2 C;subst e3;subst e4;rw[Qb l1]at e1;rw[Qb l2]at e2;cases e1;cases e2;rfl
  ·rw[Zd (λe=>by
    obtain⟨o,e1,_⟩:∃o,s.heap.get? b=U o/\True:=by
     show#[cU];rcases j with rfl|rfl|rfl|rfl|rfl
     ·exact⟨_,J,trivial⟩
     ·exact⟨_,L,trivial⟩
     ·exact⟨_,M,trivial⟩
     ·show#[il,N];exact⟨o,e,trivial⟩
     ·show#[il,O];exact⟨o,e,trivial⟩
    exact lt e1 e.symm)]
   exact(g b j).1
 done:=by
  show#[dj];obtain⟨xs,ys,B,C,l⟩:=hg;show#[iT];have D:#[kk]:=⟨Q,Y,Z,d4,d5,d6,d7,d8,d9,lL,I.src_off T B,I.src_off #[wW] B,I.src_off #[wV] B,I.src_off #[wU] B,
   I.src_off T C,I.src_off #[wW] C,I.src_off #[wV] C,I.src_off #[wU] C⟩
  refine Zo3 (I.ok.hd f) D J L M N O r1 r2 #[2] λR tk hk=>⟨rfl,?_⟩;have W:∀c o,c ∉ #[lR]->s.heap.get? c=U o->R.get? c=U o:=λc o f e=>by simp only[List.mem_cons,List.not_mem_nil,or_false,not_or]at f;exact hk c o f.1 f.2.2.1 f.2.2.2.1 f.2.2.2.2 e
  have rN:∀b u,H b=U u->b ∉ #[lR]:=λb u e j=>by rw[(g b j).1]at e;cases e
  refine I.step (g':=s.gens) (d':=s.drawn) (ch:=#[lR]) (λb j=>⟨(g b j).2.2.2.1,(g b j).2.1,(g b j).2.2.2.2.1,(g b j).2.2.2.2.2⟩)
   (λb F _ _ f e _=>W b F f e) (λb F _ _ f e _=>⟨F.slots,W b F f e⟩) (λb F _ e n=>n) (λb F f e=>⟨F,W b F f e⟩)
   (λb xs e=>e) (λb F u e=>e) #[oC] (λm hm=>?_) #[qK,b,ub,e] I.bare
  ·obtain⟨F,es,ep,ho,r⟩:=hm;exact⟨F,es,ep,W _ F #[xE,g] ho,r⟩
  ·refine(I.hok b ub e).stay (λc w' f q=>W c w' ?_ q) (λc q=>q) λc xs q=>q;rcases f with z'|z'
   ·rw[z'];exact rN b ub e
   ·exact rN c _ z'
 self:=λ_ _ _ _ _ st h=>wpAny_pyIter_zip st.1 h
def LI(K:#[7])(b:TA):TI:=λc H R=>b c H λvs a=>X4 λS1 S2 xs ys=>vs=[Src.val S1,Src.val S2]/\S1.its K a xs/\S2.its K a ys/\R (Itz K S1 S2) a
theorem ZsD{X:Cx}{a b:aH}{i:TA}{p pos:Pos}{A:#[kG]}{B:Nat}{C:Pos}(D:Gl X "zip")(hm:X.mg "zip" = af)(ha:PA X [a,b] i)
  (hs:#[bk]:=by rfl) (j:#[fd,b]:=by rfl) :
  PI X (.Tuple A B C) #[n9] (LI X.K i):=by
 show#[e8,k,m,R];refine Call_ (V1 I D hm boot_zip (Q2 (thn #[fr,k,m] ?_) (by rw[hs,j]) (by rw[j];rfl)));rintro us c ⟨vs,o,d,f,E⟩;obtain⟨S1,S2,xs,ys,e,F,G,q⟩:=E;subst e;obtain⟨u1,u2,rfl,J,K⟩:=f.two;have v:∀ {S:Src} {u:aa},ZI S.val u->∃g,u=S.value g:=λ{S u} r=>by
  cases S with
  | l a=>exact⟨0,r⟩
  | t a=>exact⟨0,r⟩
  | s z=>obtain⟨g,e⟩:=r;exact⟨g,e⟩
 obtain⟨t1,rfl⟩:=v J;obtain⟨t2,rfl⟩:=v K;obtain⟨fW,f,m1,f1⟩:=d.src F;obtain⟨gr,L,m2,f2⟩:=d.src G;refine ZoU f L λM w N O a1 a2 a3 P=>wpAny_pyIter_zip w ?_;have Q:#[qD,k,m,o,c,M]:=d.kept (t':=c.toks) P;have n:=#[t7];refine⟨_,_,_,_,o,rfl,Q,Zou (S1:=S1) (S2:=S2) (z:=c.heap.objs.size+4) (TI:=c.heap.objs.size+2) (TO:=c.heap.objs.size+3) (i1:=#[t7]) (i2:=c.heap.objs.size+1)
  (QB #[m4]) (QB #[m4]) (QB (QaD #[6])) (QB #[m4])
  (QB #[m4]) (Q7 (QaD #[6])) (Q7 #[m4]) (Q7 (QaD #[6]))
  (Q7 #[m4]) (QB (QaD #[6])),⟨w,N,⟨_,_,O⟩,a1,a2⟩,λb x=>?_,q⟩
 have y:c.heap.objs.size<=b:=by
  show#[g1,x];rcases x with rfl|rfl|rfl|rfl|rfl
  ·exact QaT _ 4
  ·exact QaT _ 2
  ·exact QaT _ 3
  ·exact Qh _
  ·exact QaT _ 1
 exact d.fpOk y (d.hok.fresh y)
section
variable {X:Cx} (K:#[7])
theorem ixL(h:X.K=K:=by rfl):IxR X (LY K):=by subst h;exact Zq6
theorem ixT(h:X.K=K:=by rfl):IxR X (LX K):=by subst h;exact ZsF
theorem slL(h:X.K=K:=by rfl):SlR X (LV K):=by subst h;exact ZqP
def Zum:List V->Hp->VK->Prop:=λxs H Q=>X2 λp ys=>xs=#[jN]/\#[hG,K,ys]/\Q (.int ys.length) H
theorem YU(h:X.K=K:=by rfl):YS X #[o1] (Zum K):=by subst h;exact Zjs
theorem WE(h:X.K=K:=by rfl):YS X #[cr] (LL K):=by subst h;exact Zpd
theorem Ztc(h:X.K=K:=by rfl):YS X #[cr] (LK K):=by subst h;exact ZnL
def Zun:List V->Hp->VK->Prop:=λxs H Q=>X2 λ(p:ae) (bs:List Bool)=>xs=#[jN]/\SqL K H p #[tf]/\Q (.bl (bs.all id)) H
theorem ZuT(hc:#[am]:=by rfl)(h:X.K=K:=by rfl):YS X #[e0,"all"] (Zun K):=by subst h;exact ZoX hc
def ZtX:List V->Hp->VK->Prop:=λxs H Q=>X2 λ(p:ae) (ss:List al)=>xs=#[jN]/\SqL K H p #[Y]/\ss.length<64 /\
  ∀ (l:ae) (a:List al),H l=af->a.Perm ss->sortedS a=true->Q #[cq] (upd H l #[eu,a.map])
theorem Pg(h:X.K=K:=by rfl):YS X #[qa] (ZtX K):=by subst h;exact Zjq
def Zs9:V->List V->Hp->VK->Prop:=λx vs H Q=>X3 λ(sep:al) (p:ae) (ys:List al)=>x=.str sep/\vs=#[jN]/\SqL K H p #[p3]/\#[oE].sum+ys.length*sep.length<=16777216/\Q (.str #[tm]) H
theorem Ztb(h:X.K=K:=by rfl):MtR X "str.join" (Zs9 K):=by subst h;exact ZqV
theorem iL{b l:aH}{a:TE}(hl:PE X l a)(h:X.K=K:=by rfl):PI X b l (MK K a):=by subst h;exact Zqs hl
theorem iT{b l:aH}{a:TE}(hl:PE X l a)(h:X.K=K:=by rfl):PI X b l (MJ K a):=by subst h;exact ZsP hl
theorem gT{a:#[kG]}{k:Nat}{t:TGs}{n:Nat}{pos:Pos}(h:PGs X a t)(b:X.K=K:=by rfl)(hc:#[am]:=by rfl)
  (c:#[xR,a]:=by rfl) (d:#[rd,a]:=by rfl):PG X (.Tuple a k pos) (ML K n t):=by subst b;exact ZsY hc h c d
theorem iZ{a b:aH}{c:TA}{p pos:Pos}{d:#[kG]}{e:Nat}{f:Pos}(hm:X.mg "zip" = af)(ha:PA X [a,b] c)(g:Gl X "zip":=by rfl)(h:X.K=K:=by rfl)
  (i:#[bk]:=by rfl) (j:#[fd,b]:=by rfl) :
  PI X (.Tuple d e f) #[n9] (LI K c):=by subst h;exact ZsD g hm ha i j
universe E
structure Df (P:ax) (w:aE) (K:#[7]) (mg:#[R]) (base:aF) (k:Nat) (x:al) (ps:#[Q]) (sp:Sp):Prop where
 ex:X2 λf fd=>YF P w K mg base CX0 k f fd ps sp/\mg x=U #[bT]/\PySem.W.keepIn K #[bT]=true/\YC K fd ps []
section
variable {P:ax} {w:aE} {K:#[7]} {mg:al->Option aa} {base:aF}
structure Top (K:#[7]) (mg:#[R]) (x:al) (st:aI) (ps:#[Q]):Prop where
 ex:X2 λf fd=>Fun K x x st f fd/\mg x=U #[bT]/\YC K fd ps []
theorem Top.df{x:al}{st:aI}{N ps:#[Q]}{k:Nat}{sp:Sp}(T:Top K mg x st ps)(S:#[ir])(len:#[N])
  (c:∀ (a:aa) (f:ae) (A:aB) (outer:List Env) (s:ai) (H:Hp) (vs:List V) (Q:VK) (E:XK),Y4 k #[fn,x]->sp vs H Q E ->
   ∃t,PSs (XN CX0 P w K mg base N x (Zh st) f a A outer s H E).nox (Zq st) t/\t { nx:=λ_ d=>Q .non d,rt:=Q } #[lg] H):Df P w K mg base (k+1) x ps sp:=by
 show#[sp,e];exact⟨f,e,F.ok S len #[eH,g,c],m,F.kp,b⟩
universe E
section
variable {X:Cx} {k j:Nat} {x:al} {ps:List al} {sp:Sp} {e:aH} {es:List aH} {t:TA} {p pos:Pos}
theorem Zx(F:Df X.prog X.w X.K X.mg X.base k x ps sp)(a:#[sX])(ha:#[75])(c:k<=j:=by decide)(d:#[uO]:=by rfl)(g:#[j]:=by decide)
  (h:#[h]:=by rfl) (i:#[s]:=by rfl) :
  PE X #[Z] (Mn sp [] E0 t):=by
 show#[rj,m,l,b];exact ZqG F (a.mono c) d m l b .nil Sw ha g h i
theorem XV{T:String}(hm:X.mg x=af)(a:cm x=U #[vU])(b:#[uO]:=by rfl)(c:#[k9]:=by decide)(hd:#[j]:=by decide):PE X #[bX] (tC (.ty T)) :=
 Zre b hm a rfl c hd
universe E
theorem Sr{lo:Int}{n k:Nat}{D:ae}{a:St}{c:Hp}{g:TG}{d:TE}{Q:VK}(Pv:#[lT])(h0:#[e6,a,c])
  (hs:∀i ys a H,i<n->Pv i ys a H->g (.int (lo+i)) a H λf j=>d f j λy h=>h D=U #[l6]/\ys.length<ao/\Pv (i+1) #[vx] f #[f0,h,ys,y])
  (hd:#[f5,a,n]):WF #[sH] D k a c g Vx d Q:=by
 show#[b2];by_cases b:i<n
 ·refine .inr ⟨b,Pv (i+1),λjd aQ l o=>⟨n-(i+1),by lia,rfl,b,o⟩,λx l y=>?_⟩;show#[su];show#[pW];exact hs i ys a _ b p
 ·have e:i=n:=by lia
  show#[st]
theorem LH{K:#[7]}{S1 S2:Src}{xs ys:#[pO]}{k:Nat}{D:ae}{a:St}{d:Hp}{g:TG}{f:TE}{Q:VK}(Pv:#[lT])(h0:#[e6,a,d])
  (hl:∀i zs a H,Pv i zs a H->S1.its K H xs/\S2.its K H ys)
  (hs:∀i zs a H x y p,xs[i]? = U x->ys[i]? = U y->Pv i zs a H->H p=af->g #[bS] a (upd H p (.tup [x,y])) λh l=>f h l λz j=>j D=U #[l5]/\zs.length<ao/\Pv (i+1) (zs++[z]) h #[f0,j,zs,z])
  (hd:∀zs a H,Pv (min xs.length ys.length) zs a H->Q #[lF] H):WF (Itz K S1 S2) D k a d g Vx f Q:=by
 refine⟨λi m zs a H=>m=min xs.length ys.length-i/\i<=min xs.length ys.length/\Pv i zs a H,⟨min xs.length ys.length,by simp,Qu _,h0⟩,?_⟩;rintro i m zs a H ⟨rfl,hi,p⟩;obtain⟨b,c⟩:=hl i zs a H p;by_cases n:i<min xs.length ys.length
 ·have l1:i<xs.length:=by lia
  have l2:i<ys.length:=by lia
  refine .inr ⟨⟨xs,ys,b,c,l1,l2⟩,Pv (i+1),λjd aQ o q=>⟨min xs.length ys.length-(i+1),by lia,rfl,n,q⟩,λx o y=>?_⟩;obtain⟨r,s,rfl,e⟩:=y;have t:=e xs ys b c _ _ (Qb l1) (Qb l2);subst t;show#[pW];exact hs i zs a H _ _ r (Qb l1) (Qb l2) p s
 ·have e:i=min xs.length ys.length:=by lia
  refine .inl ⟨⟨xs,ys,b,c,by lia⟩,hd zs a H (e ▸ p)⟩
section
variable {X:Cx} {N N':List al} {o c:bh} {x:al} {pos:Pos} {C:ae} {s:ai} {H:Hp} {fp:List ae}
theorem Pf(S:#[dl])(a:#[bp])(hl:#[lP]):#[20].env.scope.names.lookup x=U .local:=by have e:=#[sh,a,C];rw[hl]at e;exact e
theorem Vw(S:#[dl])(a:#[bp])(hl:c.names.lookup x=U .globalImplicit):Gl #[20] x:=by have e:=#[sh,a,C];rw[hl]at e;exact e
theorem Zog(S:#[dl])(b:#[bp])(hl:#[mh]):Vis #[20].env.scope x:=by
 have e:=#[sh,b,C];rw[hl]at e;have a:#[20].env.scope.names.lookup x=if X.env.kindOf x=U .cell then U aN.cell else U aN.free:=e
 by_cases z:X.env.kindOf x=U .cell
 ·rw[if_pos z]at a;show#[qT,a]
 ·show#[xC,z,a];exact .inr (.inr a)
theorem cv(i:Nat)(S:#[dl])(a:#[bp])(hl:#[mh])(b:N'[i]? = U x:=by rfl)(hd:#[j]:=by decide)(d:#[ck]:=by decide) :
  PE #[20] #[bX] (SK i):=PH b (Zog S a hl) hd d
theorem cw(i:Nat)(S:#[dl])(a:#[bp])(hl:#[lP])(b:N'[i]? = U x:=by rfl)(hd:#[j]:=by decide)(d:#[ck]:=by decide) :
  PE #[20] #[bX] (SK i):=PH b (.inl (Pf S a hl)) hd d
theorem cg(i:Nat)(S:#[dl])(a:#[bp])(hl:#[lP])(b:N'[i]? = U x:=by rfl):PG #[20] #[bX] (SI i) :=
 ZD S.nd b (.inl (Pf S a hl)) (.inr (Pf S a hl))
universe E
mutual
inductive DV (K:#[7]) (H:Hp):V->ar->Prop where
 | non:DV K H .non .none
 | bl (b:Bool):DV K H (.bl b) (.bool b)
 | int (i:Int):DV K H (.int i) (.int i)
 | str (s:al):DV K H (.str s) (.str s)
 | lst {a:ae} {xs:List V} {ds:List ar}:SqL K H a xs->DVs K H xs ds->DV K H (.ref a) (.list ds)
 | tup {a:ae} {xs:List V} {ds:List ar}:SqT K H a xs->DVs K H xs ds->DV K H (.ref a) (.tuple ds)
inductive DVs (K:#[7]) (H:Hp):List V->List ar->Prop where
 | nil:DVs K H [] []
 | cons {x:V} {d:ar} {xs:List V} {ds:List ar}:DV K H x d->DVs K H xs ds->DVs K H (x::xs) (d::ds)
end
section
variable {X:Cx} {ah:List (ae×aJ)} {σ:St} {H:Hp} {s:ai}
mutual
theorem Inv.reads(I:#[i]):∀ {x:V} {d:ar} {u:aa},DV X.K H x d->ZI x u->∃a,Reads s.heap u d a
 | _,_,_,.non,r=>by cases r;exact⟨_,.none⟩
 | _,_,_,.bl b,r=>by cases r;exact⟨_,.bool b⟩
 | _,_,_,.int i,r=>by obtain⟨t,rfl⟩:=r;exact⟨_,.int i t⟩
 | _,_,_,.str z,r=>by obtain⟨t,rfl⟩:=r;exact⟨_,.str z t⟩
 | _,_,_,.lst h c,r=>by cases r;obtain⟨its,f,⟨o,n,e,g,_,j⟩,_⟩:=I.list h;show#[v7];exact⟨_,reads_list_at e g j #[el,q]⟩
 | _,_,_,.tup h c,r=>by cases r;obtain⟨its,f,⟨o,e,g,n,j⟩,_⟩:=I.tuple h;show#[v7];exact⟨_,reads_tuple_at e g j #[el,q]⟩
theorem Inv.readsAll(I:#[i]):∀ {xs:List V} {ds:List ar} {us:List aa},DVs X.K H xs ds->ZK xs us->∃a,ReadsAll s.heap us ds a
 | _,_,_,.nil,r=>by cases r;exact⟨_,.nil⟩
 | _,_,_,.cons h hs,r=>by
  cases r with
  | cons b c=>obtain⟨a,d⟩:=Inv.reads I h b;obtain⟨bs,e⟩:=Inv.readsAll I hs c;exact⟨_,.cons d e⟩
end
def Sq(K:#[7])(a:Bool):R2:=λx y H Q=>X2 λd e=>DV K H x d/\DV K H y e/\SeqAt.shaped d=true/\SeqAt.shaped e=true/\Q (.bl (if a then !ar.eqv d e else ar.eqv d e)) H
theorem ZsJ(hu:#[qe]):OpR X (aU .Eq) (Sq X.K false):=by intro ah s σ H x y v u Q I a b h;obtain⟨d,e,c,f,g,i,q⟩:=h;obtain⟨as,j⟩:=I.reads c a;obtain⟨bs,k⟩:=I.reads f b;exact eq_dataH j k g i hu #[xA,_,q]
theorem ZsV(hu:#[qe]):OpR X (aU .NotEq) (Sq X.K true):=by intro ah s σ H x y v u Q I a b h;obtain⟨d,e,c,f,g,i,q⟩:=h;obtain⟨as,j⟩:=I.reads c a;obtain⟨bs,k⟩:=I.reads f b;exact ne_dataH j k g i hu #[xA,_,q]
universe E
theorem eqD{X:Cx}(K:#[7]){k:Nat}(a:#[mB])(h:X.K=K:=by rfl):OpR X (aU .Eq) (Sq K false):=by subst h;exact ZsJ a.units
theorem neD{X:Cx}(K:#[7]){k:Nat}(a:#[mB])(h:X.K=K:=by rfl):OpR X (aU .NotEq) (Sq K true):=by subst h;exact ZsV a.units
mutual
theorem DV.mono{K:#[7]}{H a:Hp}(s:ZF H a):∀ {x:V} {d:ar},DV K H x d->DV K a x d
 | _,_,.non=>.non
 | _,_,.bl b=>.bl b
 | _,_,.int i=>.int i
 | _,_,.str z=>.str z
 | _,_,.lst h hs=>.lst (s.seq h) #[vS]
 | _,_,.tup h hs=>.tup (by
   rcases h with(h|⟨ob,h⟩)|h
   ·exact .inl (.inl (s _ _ h))
   ·exact .inl (.inr ⟨ob,s _ _ h⟩)
   ·exact .inr h) #[vS]
theorem DVs.mono{K:#[7]}{H a:Hp}(s:ZF H a):∀ {xs:List V} {ds:List ar},DVs K H xs ds->DVs K a xs ds
 | _,_,.nil=>.nil
 | _,_,.cons h hs=>.cons (DV.mono s h) #[vS]
end
noncomputable def Ite(K:#[7])(a:ae):It :=
 ⟨λi H=>∃b,SqL K H a b/\i<b.length,
  λi H v c=>∃p,H p=af/\v=.ref p/\∀b,SqL K H a b->∀x,b[i]? = U x->c=upd H p (.tup [.int i,x]),
  λi H=>∃b,SqL K H a b/\b.length<=i⟩
theorem Zm2{P:ax}{w:aE}{K:#[7]}{Q:#[kG]}{R:Nat}{S:Pos}{a e it:ae}(F:e≠it) :
  We P w K (.Tuple Q R S) (Ite K a) [e,it] e (λi h=>(∃l,IsEnum h e it i l)/\h.IsListIter it a i) where
 mem:=by simp
 obj:=λi h st b d=>by
  obtain⟨⟨l,f⟩,o,g,j,T⟩:=st;show#[60];rcases d with rfl|rfl
  ·show#[eI,f,v,z]
  ·exact⟨o,g,λv z=>by rw[T]at z;cases z⟩
 keep:=λi h p st k=>by obtain⟨⟨l,f⟩,g⟩:=st;exact⟨⟨l,k e #[4] _ f⟩,g.at λo q=>k it #[4] o q⟩
 item:=by
  intro X r hw t j i G s J H E I m st y;show#[di];obtain⟨u,V,W⟩:=A.get (Qb l1);refine wpAny_pyNext_enum_item f g B.isList (x:=u) #[el,V] F λp a1 a2 a3 a4 a5=>?_;have lt:#[bo]:=λq=>Q7 (Qm q);have Y:s.heap.objs.size≠e:=lt f;refine⟨_,rfl,wpAny_letOwnedTupleGo_enum a1 λC M Z=>?_⟩;have D:#[xy,e,p,C]:=Z;have N:C.IsListIter it a (i+1):=a2.extBut D.extBut F.symm;have I2:Inv X G J (upd H s.heap.objs.size (.tup [.int i,L[i]])) { s with heap:=C,toks:=s.toks+1 }:=by
   refine I.zipped (fp:=[e,it]) (u:=.int i s.toks) (v:=u) m #[K] W (D.extBut _ _ Y a3) (λb d=>?_) λc o j q=>?_
   ·show#[60];rcases d with rfl|rfl
    ·exact⟨_,M⟩
    ·obtain⟨o,q,_⟩:=N;exact⟨o,q⟩
   ·simp only[List.mem_cons,List.not_mem_nil,or_false,not_or]at j;exact D.extBut _ _ j.1 (a5 c o j.1 j.2 q)
  refine⟨.ref s.heap.objs.size,_,I2,rfl,⟨s.heap.objs.size,I.fresh,rfl,λFl w1 x' O=>?_⟩,⟨⟨_,M⟩,N⟩,λb d=>?_⟩
  ·have e3:=I.list_inj w1 n;subst e3;rw[Qb l1]at O;cases O;rfl
  ·rw[Zd (λz=>by
    obtain⟨o,q⟩:∃o,s.heap.get? b=U o:=by
     show#[60];rcases d with rfl|rfl
     ·exact⟨_,f⟩
     ·obtain⟨o,q,_⟩:=g;exact⟨o,q⟩
    exact lt q z.symm)]
   exact(m b d).1
 done:=by intro X r hw t j i G s J H E I m st y;show#[di];show#[sQ];have hl:=A.length;exact wpAny_pyNext_enum_end (I.ok.hd j) f g B.isList #[eR,Qau,QP,#[2]] λp eb=>⟨rfl,I.turned (t':=#[wy]) (λb o d q=>eb b o d q) f0 f1 f3 f4 f5⟩
 self:=λ_ _ _ _ _ st h=>by obtain⟨⟨l,f⟩,_⟩:=st;exact wpAny_pyIter_enum f h
def LG(K:#[7])(c:TA):TI:=λd H R=>c d H λvs b=>X2 λa xs=>vs=[V.ref a]/\SqL K b a xs/\R (Ite K a) b
theorem ZqS{X:Cx}{l:aH}{f:TA}{p pos:Pos}{o:#[kG]}{r:Nat}{t:Pos}(v:Gl X "enumerate")(hm:X.mg "enumerate" = af)(ha:PA X [l] f)
  (hs:#[fd,l]:=by rfl):PI X (.Tuple o r t) #[m8] (LG X.K f):=by
 show#[e8,g,i,R];refine Call_ (V1 I v hm boot_enumerate (Q2 (thn #[fr,g,i] ?_) hs rfl));rintro us c ⟨vs,j,d,w,x⟩;show#[rA,a,xs,e,y,x];obtain⟨u,rfl,z⟩:=w.one;cases z;obtain⟨its,rv,A,_⟩:=d.list y;refine call_enumerate_list A.isList λB k C hsz D=>wpAny_pyIter_enum k ?_;have E:#[qD,g,i,j,c,B]:=d.kept (t':=c.toks) D;refine⟨_,_,_,_,j,rfl,E,Zm2 (a:=a) (e:=c.heap.objs.size+1) (it:=#[t7]) (Q7 (Qbj _)),⟨⟨_,k⟩,C⟩,λb m=>?_,q⟩;have n:c.heap.objs.size<=b:=by
  show#[g1,m];rcases m with rfl|rfl
  ·exact QaT _ 1
  ·exact Qh _
 exact d.fpOk n (d.hok.fresh n)
theorem iE{X:Cx}(K:#[7]){l:aH}{a:TA}{p pos:Pos}{b:#[kG]}{c:Nat}{d:Pos}(hm:X.mg "enumerate" = af)(ha:PA X [l] a)(e:Gl X "enumerate":=by rfl)(f:X.K=K:=by rfl)
  (g:#[fd,l]:=by rfl):PI X (.Tuple b c d) #[m8] (LG K a):=by subst f;exact ZqS e hm ha g
theorem So{K:#[7]}{a:ae}{xs:#[pO]}{g:TG}{l:TS}{D:Xo}{b:St}{H:Hp}(Pv:#[s1])(h0:Pv 0 b H)(hl:∀i b H,Pv i b H->SqL K H a xs)
  (hs:∀i x b H p,xs[i]? = U x->Pv i b H->H p=af->g #[bS] b (upd H p (.tup [.int i,x])) λf h=>l { D with nx:=Pv (i+1),ct:=Pv (i+1),bk:=D.nx } f h) (hd:#[pg]) :
  ∃W:Nat->Nat->St->Hp->Prop,(∃m,W 0 m b H)/\∀i m b H,W i m b H ->
   ((Ite K a).stop i H/\D.nx b H)\/((Ite K a).go i H/\∃N:St->Hp->Prop,#[hl,j,c,n]/\∀x c,(Ite K a).yld i H x c->g x b c λf h=>l { D with nx:=N,ct:=N,bk:=D.nx } f h):=by
 refine#[cM];rintro i m b H ⟨rfl,hi,p⟩;have k:=hl i b H p;by_cases d:i<xs.length
 ·refine .inr ⟨⟨xs,k,d⟩,Pv (i+1),λj c o=>⟨xs.length-(i+1),by lia,rfl,d,o⟩,λx c y=>?_⟩;obtain⟨r,q,rfl,e⟩:=y;have s:=e xs k _ (Qb d);subst s;exact hs i _ b H r (Qb d) p q
 ·have e:#[sS]:=by lia
  exact .inl ⟨⟨xs,k,by lia⟩,hd b H (e ▸ p)⟩
def ZsO(K:#[7]):List V->Hp->VK->Prop:=λxs H Q=>X2 λp ys=>xs=#[jN]/\#[hG,K,ys]/\∀l,H l=af->Q #[cq] #[hS,H,l,ys]
theorem Vv{X:Cx}(K:#[7])(h:X.K=K:=by rfl):YS X #[d7] (ZsO K):=by subst h;exact Zjw
section
variable {prog:ax} {w:aE} {A:aB} {E:aa->ai->Prop} {s:ai}
theorem LF{it t:ae}{items:#[p1]}(c:t≠it):∀ (n i:Nat) (s:ai) (Q:List aa->ai->Prop),s.heap.IsListIter it t i->s.heap.IsList t items->i+n<=items.size ->
  (∀h',h'.IsListIter it t (i+n)->aF.SameBut it s.heap h'->Q ((items.toList.drop i).take n) { s with heap:=h' })->au #[p] A (draw #[kc] n) Q E s
 | 0,i,s,Q,a,_,_,b=>by show au _ _ (pure []) Q E s;exact av (by simpa using b s.heap a (aF.SameBut.refl ..))
 | n+1,i,s,Q,a,d,oH,b=>by
  have e:i<items.size:=by lia
  show au _ _ (pyNext #[kc] >>= _) Q E s;refine aj (cz a d (x:=items[i]) (by simp[e]) λcq g f=>?_);refine aj (aS (LF c n (i+1) _ _ g (d.extBut f.extBut c) #[2] λh j k=>av ?_));have l:items.toList.drop i=items[i]::items.toList.drop (i+1):=by simp[List.drop_eq_getElem_cons,e]
  have:=b h (by rw[show i+(n+1)=i+1+n by lia];exact j) (f.trans k);show#[fz,l,QaW]
theorem Zgq{t:ae}{items:#[p1]}{Q:List aa->ai->Prop}(g:#[it])(a:#[nE])
  (h:∀h',aF.ExtBut s.heap.objs.size s.heap h'->Q items.toList { s with heap:=h' }):au #[p] A (unpackItems #[jz] items.size af) Q E s:=by
 have c:t≠s.heap.objs.size:=by obtain⟨o,i,_⟩:=a;exact QB (Qm i)
 unfold unpackItems;refine aj ?_
 ·unfold notIterableAtAll;refine aj (wpAny_specialOf a.typeIs slot_list_iter.lookup ?_);refine av ?_;simp only[Bool.false_eq_true,if_false];refine aj (aS (cH a ?_));refine aj (aS (LF c items.size 0 _ _ #[96] (a.push _) #[2] λj k d=>?_));have l:List.take items.size (List.drop 0 items.toList)=items.toList:=by rw[List.drop_zero];exact Qx #[4]
  rw[l];rw[if_neg #[4]];have m:j.IsList t items:=(a.push _).extBut d.extBut c;refine aj (aS (cG g k m #[4] λn p=>?_));simp only[Option.isSome_none,Bool.false_eq_true,if_false];refine av (h n λb o f e=>p b o f (d.extBut b o f (Qc _ e)))
theorem Zj9{t:ae}{items:#[p1]}{a:List (Bool×(aa->Sem Unit))}{Q:#[aJ]}(b:#[it])(c:#[nE])
  (d:a.length=items.size) (e:a.findIdx? #[T]=af)
  (h:∀h',aF.ExtBut s.heap.objs.size s.heap h'->au #[p] A (assignInOrder (a.map #[uQ]) items.toList) Q E { s with heap:=h' }) :
  au #[p] A (unpack #[jz] a) Q E s:=by
 unfold unpack;rw[d,e];exact aj (aS (Zgq b c h))
theorem Zfw{env:Env}{a:#[kG]}{b}{pos:Pos}{t:ae}{items:#[p1]}{Q:#[aJ]}(c:#[it])(d:#[nE])
  (e:(bx a env).length=items.size) (f:(bx a env).findIdx? #[T]=af)
  (h:∀h',aF.ExtBut s.heap.objs.size s.heap h'->au #[p] A (assignInOrder ((bx a env).map #[uQ]) items.toList) Q E { s with heap:=h' }) :
  au #[p] A (assign (.Tuple a b pos) env #[jz]) Q E s:=by
 rw[assign_Tuple];exact aj (bw (Zj9 c d e f h))
universe E
def ZuL(K:#[7])(n:Nat)(t:TGs):TG:=λv b H Q=>X2 λa xs=>v=.ref a/\SqL K H a xs/\xs.length=n/\t xs b H Q
theorem gL{X:Cx}(K:#[7]){c:#[kG]}{k:Nat}{t:TGs}{n:Nat}{pos:Pos}(h:PGs X c t)(i:X.K=K:=by rfl)(hc:#[am]:=by rfl)
  (j:#[xR,c]:=by rfl) (l:#[rd,c]:=by rfl):PG X (.Tuple c k pos) (ZuL K n t):=by
 subst i;intro d s f H v u Q I r hw;obtain⟨a,m,p,q,w,hw⟩:=hw;subst p;cases r;show#[fR,g,x,hz,q];refine Zfw #[iy] x.isList (by simp[j,<- w,g.length]) l λy z=>?_;have A:#[qD,d,f,H,s,y]:=I.kept (t':=#[wy]) λb o e=>z b o #[tn] e;exact h d _ f H m _ Q A #[el,g] hw
noncomputable def US(xs:#[pO])(lo a:#[cj])(st:Int):List V :=
 (sliceRange #[lB].1 #[lB].2.1 #[lB].2.2).filterMap λi=>xs[i]?
theorem LD{xs:#[pO]}{us:#[bd]}(r:ZK xs us):∀is:List Nat,ZK (is.filterMap λi=>xs[i]?) (is.filterMap λi=>us[i]?)
 | []=>.nil
 | i::is=>by
  have b:=LD r is;by_cases c:i<xs.length
  ·have a:xs[i]? = U xs[i]:=Qb c;show#[qS,u,d,e,r.get,a];rw[Q8,Q8,a,d];exact .cons e b
  ·have a:xs[i]? = af:=QP #[2];have f:us[i]? = af:=QP (by rw[<- r.length];lia);rw[Q8,Q8,a,f];exact b
def Pe(X:Cx)(r:#[ed]):Prop :=
 ∀ (a:List (ae×aJ)) (s:ai) (b:St) (H:Hp) (x:V) (v c d e:aa) (lo f:Option Int) (st:Int) (g:ae) (Q:VK),Inv X a b H s->ZI x v->s.heap.IsSliceOf g c d e->IsPart c lo->IsPart d f->IsPart e (U st)->r x lo f st H Q ->
  X2 λT id=>typeLookup #[vU] "__getitem__" = pure (U #[xr])/\s.TypeIs v T/\#[kV] (getItem v (.ref g)) #[i1] X.xe s
def ZuV(r:#[ed])(b:TE)(c d e:TO):TE:=λa H Q=>b a H λx f=>c a f λl g=>d a g λu h=>e a h λk j=>∃i,k=U i/\r x l u i j Q
section
variable {X:Cx} {e st:aH} {te:TE} {lo hi:Option aH} {tl th ts:TO} {pos p2:Pos}
theorem Zni{r:#[ed]}(o:Pe X r)(he:#[pp])(hl:PO X lo tl)(hu:PO X hi th)(p:PO X (U st) ts):PE X #[xS,e,#[wm]] (ZuV r te tl th ts):=by intro c s d H Q I h;refine Subscript_ #[eo,he,c,d];rintro v t ⟨x,w,y,z,A⟩;refine wpAny_Slice (thn (hl c t d w _ y A) λf B ⟨l,C,D,E,F⟩=>thn (hu c B d C _ D F) λg G ⟨u,J,K,L,M⟩=>thn (p c G d J _ K M) ?_);rintro j a ⟨k,n,N,O,m⟩;obtain⟨i,rfl,m⟩:=m;have P:Inv X c d n { a with heap:=a.heap.push { cls:=.type "slice",data:=.fields #[f,g,j] } }:=N.kept (t':=a.toks) λb ob q=>Qc _ q;obtain⟨T,id,R,S,W⟩:=o c { a with heap:=a.heap.push { cls:=.type "slice",data:=.fields #[f,g,j] } } d n x v f g j l u i a.heap.objs.size Q P z (aF.IsSliceOf.new ..) E L O m;show #[kV] (subscriptTail e #[wm] v #[xj]) (EP X c d Q) X.xe { a with heap:=a.heap.push { cls:=.type "slice",data:=.fields #[f,g,j] } };exact tail_any (ops:=[v,.ref a.heap.objs.size]) S R W #[ab]
def LC(K:#[7]):V->Option Int->Option Int->Int->Hp->VK->Prop:=λx lo hi st H Q=>X2 λa xs=>x=.ref a/\SqL K H a xs/\st≠0/\∀p,H p=af->Q #[bS] (upd H p (.lst (US xs lo hi st)))
theorem Zn0:Pe X (LC X.K):=by
 intro ah s σ H x v vl vu vs lo hi st sl Q I j k l m n h;show#[fA,a,c,p,t];cases j;show#[fR,r,f,u,p];have g:=#[wC];refine⟨"list",_,slot_list_getitem.lookup,f.isList.typeIs,?_⟩;refine wpAny_getItem_list_slice f.isList k l m n (by intro e;exact t (Qn e)) ?_ #[te];have d:=slicePick_size_le its.toArray lo hi (U st);have i:ZK (US c lo hi st) #[n7].toList:=by unfold slicePick US;simp only[List.size_toArray,<- g];have:=LD r (sliceRange #[lA].1 #[lA].2.1 #[lA].2.2);simpa using this
 refine⟨.ref s.heap.objs.size,_,I.laid (t':=#[wy]) (o:=.lst (US c lo hi st)) #[rP,ob,q] #[jJ] ?_,rfl,q _ #[co]⟩;refine⟨?_,#[n7].toList,0,i,?_⟩
 ·have w:its.toArray.size=c.length:=by rw[QK];exact g.symm
  rw[i.length,QaB];exact Ql d #[ei,w,u]
 ·simpa using Qt _ rfl
theorem ZuH(K:#[7])(h:X.K=K:=by rfl):Pe X (LC K):=by subst h;exact Zn0
universe E
theorem ZgN(n:Nat):sliceRange ((n:Int)-1) (-1) (-1)=#[mL].map λi=>n-1-i:=by
 unfold sliceRange;have a:(if (-1:Int)>0 then (if (n:Int)-1 < -1 then (-1-((n:Int)-1) + -1-1) / -1 else 0) else (if (n:Int)-1 > -1 then ((n:Int)-1 - -1 - -1-1) / (- -1) else 0)).toNat=n:=by
  rw[if_neg #[6]];by_cases h:(n:Int)-1 > -1
  ·rw[if_pos h,show (- -1:Int)=1 by decide,Int.ediv_one];lia
  ·rw[if_neg h];lia
 simp only[];rw[a];apply QD;intro k b;have:=Qar.mp b;lia
theorem Zig{α:Type}(xs:List α):((List.range xs.length).map λi=>xs.length-1-i).filterMap (λi=>xs[i]?)=xs.reverse:=by
 rw[List.filterMap_map];have e:∀n,n<=xs.length->#[mL].filterMap ((λi=>xs[i]?) ∘ λi=>xs.length-1-i)=xs.reverse.take n:=by
  intro n;induction n with
  | zero=>intro _;rfl
  | succ n b=>intro hn;rw[QaJ,QaO,b #[2]];have a:xs[xs.length-1-n]? = U xs[xs.length-1-n]:=Qb #[2];rw[Q8];simp only[Function.comp,a,List.filterMap_nil];rw[QL,List.getElem?_reverse #[2],a];rfl
 rw[e _ #[jJ]];exact Qx #[4]
theorem Znp(xs:#[pO]):US xs af af (-1)=xs.reverse:=by have e:sliceRange #[kK].1 #[kK].2.1 #[kK].2.2=sliceRange ((xs.length:Int)-1) (-1) (-1):=rfl;unfold US;rw[e,ZgN,Zig]
section
variable {X:Cx}
theorem inQ(K:#[7])(h:X.K=K:=by rfl):OpR X (aU .In) (rIn K false):=by subst h;exact Znw
universe E
section
variable {X:Cx} {tg:aH}
theorem ZnC:OpR X (aU .Gt) (λx y H Q=>X2 λi j=>x=.str i/\y=.str j/\Q (.bl (decide (j.cps.toList<i.cps.toList))) H):=by intro ah s σ H x y v u Q I a b h;obtain⟨i,j,rfl,rfl,q⟩:=h;obtain⟨t,rfl⟩:=a;obtain⟨t',rfl⟩:=b;exact PySem.P.gt_str (ZY I q rfl)
universe E
universe E.L2
namespace L2
open PySem PySem.Spec PyProof.Rows
section
variable {X:Cx} {ah:List (ae×aJ)} {σ:St} {H:Hp} {s:ai}
def Zug:TE:=λ_ H Q=>∀p,H p=af->Q #[bS] (upd H p (.dT []))
theorem LA{pos:Pos}:PE X (.Dict [] [] pos) Zug:=by intro ah s σ H Q I h;have a:bL<s.heap.objs.size:=Nat.lt_trans #[6] (show aL<s.heap.objs.size from#[xg].lt);refine wpAny_Dict_empty ⟨.ref s.heap.objs.size,upd H s.heap.objs.size (.dT []),?_,rfl,h _ #[co]⟩;refine I.laid (t':=#[wy]) #[mG] #[jJ] ?_;refine⟨Qu _,?_,[],.nil,_,#[],0,Qt _ rfl,#[sM],rfl,rfl,List.nodup_nil⟩;exact beq_eq_false_iff_ne.mpr λz=>Qam _ (z ▸ a)
universe E
noncomputable def Xr(lo:Int)(n:Nat):List Int:=#[mL].map λ(k:Nat)=>lo+k
theorem Ub(lo:Int)(n:Nat):(Xr lo n).length=n:=by simp[Xr]
theorem Lz{lo:Int}{n k:Nat}{D:ae}{a:St}{f:Hp}{g:TG}{h:TT}{j:TE}{Q:VK}(Pv:#[lT])(h0:#[86])
  (hs:∀i ys a H,i<n->Pv i ys a H->g (.int (lo+i)) a H λc q=>h c q λb l=>if b=true then j c l λy o=>o D=U #[l6]/\ys.length<ao/\Pv (i+1) #[vx] c #[f0,o,ys,y] else Pv (i+1) ys c l)
  (hd:#[f5,a,n]):WF #[sH] D k a f g h j Q:=by
 show#[b2];by_cases d:i<n
 ·refine .inr ⟨d,Pv (i+1),λjd aQ r s=>⟨n-(i+1),by lia,rfl,d,s⟩,λx r y=>?_⟩;show#[su];exact hs i ys a _ d p
 ·have e:i=n:=by lia
  show#[st]
section
variable {X:Cx}
theorem Sn(ns:#[w]):∀n,n<=ns.length->preSum (λj=>ns.getD j 0) n=(ns.take n).sum
 | 0,_=>rfl
 | n+1,h=>by
  have a:=Sn ns n #[2];have e:ns.take (n+1)=ns.take n++[ns.getD n 0]:=by rw[QL,Qb #[2],QI,Qb #[2]];rfl
  rw[e,List.sum_append,<- a];simp[preSum]
universe E
section
variable {prog:ax} {w:aE} {A:aB} {E:aa->ai->Prop} {s:ai} {κ:PyProof.Rows.KeyKind} {k0:SortKind} {gS:Array Keyed} {st:SortSt}
structure SB (k0:SortKind) (gS:#[s5]) (st:SortSt):Prop where
 perm:#[vG].Perm gS
 kind:kindOf st=k0
 failed:failedOf st=af
 pend:pendingOf st = #[]
universe E
noncomputable def kLt:Key->Key->Bool
 | .inl i,.inl j=>decide (i<j)
 | .inr x,.inr y=>decide (x.cps.toList<y.cps.toList)
 | .inl _,.inr _=>true
 | .inr _,.inl _=>false
theorem Zlb:∀a:Key,kLt a a=false
 | .inl i=>decide_eq_false #[2]
 | .inr x=>decide_eq_false (List.lt_irrefl _)
theorem Znf:∀a b c:Key,kLt a b=true->kLt b c=true->kLt a c=true
 | .inl i,.inl j,.inl k,h1,h2=>by have:=of_decide_eq_true h1;have:=of_decide_eq_true h2;exact decide_eq_true #[2]
 | .inr x,.inr y,.inr z,h1,h2=>decide_eq_true (List.lt_trans (of_decide_eq_true h1) (of_decide_eq_true h2))
 | .inl _,.inl _,.inr _,_,_=>rfl
 | .inl _,.inr _,.inr _,_,_=>rfl
 | .inl _,.inr _,.inl _,_,h=>by cases h
 | .inr _,.inl _,_,h,_=>by cases h
 | .inr _,.inr _,.inl _,_,h=>by cases h
noncomputable def YB:List Key->List Key->Bool
 | [],[]=>false
 | [],_::_=>true
 | _::_,[]=>false
 | x::xs,y::ys=>if x=y then YB xs ys else kLt x y
theorem Pd(x y:Key)(xs ys:#[ov]):YB (x::xs) (y::ys)=if x=y then YB xs ys else kLt x y:=rfl
theorem Pc:∀a:List Key,YB a a=false
 | []=>rfl
 | x::r=>by unfold YB;show#[tO];exact Pc r
theorem Ly:∀a b c:List Key,YB a b=true->YB b c=true->YB a c=true
 | [],[],_,h,_=>by cases h
 | [],_::_,[],_,h=>by cases h
 | [],_::_,_::_,_,_=>rfl
 | _::_,[],_,h,_=>by cases h
 | _::_,_::_,[],_,h=>by cases h
 | x::r,y::s,z::t,h1,h2=>by
  have i:=Ly r s t;unfold YB at h1 h2 ⊢;by_cases f:x=y
  ·rw[if_pos f]at h1;by_cases d:y=z
   ·show#[sO];exact i h1 h2
   ·show#[xC,d,h2];rw[if_neg (λe=>d #[ug]),f];exact h2
  ·show#[xC,f,h1];by_cases d:y=z
   ·rw[if_neg (λe=>f #[uh]),<- d];exact h1
   ·show#[xC,d,h2];have g:=Znf _ _ _ h1 h2;show#[g2,if_neg,e,Zlb,g]
noncomputable def Xi(ks:#[ov]):List Bool:=ks.map λk=>k.isLeft
abbrev Wb:=List (ae×List Key)
noncomputable def Vu(a:Wb):List V:=a.map λt=>V.ref t.1
def AtT(H:Hp)(a:Wb):Prop:=∀t∈a,H t.1=U (.tup (t.2.map kV))
theorem Lx:∀ {c:Wb} {us:List aa},ZK (Vu c) us->us=c.map λt=>aa.ref t.1
 | [],_,h=>by cases h;rfl
 | t::r,_,h=>by
  cases h with
  | cons a b=>rw[Lx b];cases a;rfl
theorem Zpj(A:aB)(s:ai){k m:Key}{p q:aa}(a:ZI (kV k) p)(hq:ZI (kV m) q)(hs:k.isLeft=m.isLeft):∃e,SeqAt.EqAt A s p q e/\(e=true↔k=m):=by
 cases k with
 | inl i =>
  cases m with
  | inl j=>obtain⟨t,rfl⟩:=a;show#[eD,u,hq];exact⟨_,SeqAt.EqAt.int_int i t j u,by simp⟩
  | inr y=>cases hs
 | inr x =>
  cases m with
  | inl j=>cases hs
  | inr y=>obtain⟨t,rfl⟩:=a;show#[eD,u,hq];exact⟨_,SeqAt.EqAt.str_str x t y u,by simp⟩
theorem ZpW(A:aB)(s:ai){k m:Key}{p q:aa}(a:ZI (kV k) p)(hq:ZI (kV m) q)(hs:k.isLeft=m.isLeft)(prog:ax)(w:aE)(E:#[F])(Q:#[F])(h:Q (.bool (kLt k m)) s) :
  au #[p] A (richCompare .Lt p q) Q E s:=by
 cases k with
 | inl i =>
  cases m with
  | inl j=>obtain⟨t,rfl⟩:=a;show#[eD,u,hq];exact(PyProof.Rows.lt_int h:au #[p] A (aU .Lt (.int i t) (.int j u)) Q E s)
  | inr y=>cases hs
 | inr x =>
  cases m with
  | inl j=>cases hs
  | inr y=>obtain⟨t,rfl⟩:=a;show#[eD,u,hq];exact(PyProof.Rows.lt_str h:au #[p] A (aU .Lt (.str x t) (.str y u)) Q E s)
section
open PySem.SeqAt
open PySem.AutoSeq1 (wpAny_loadPart')
open PySem.MeetsSeq PySem.MeetsSeq2 PySem.MeetsSeq3
theorem Zii(l b:ae)(items o:#[p1])(n K:Nat)(L M:#[dB])(sl N:#[mD])(ks m:#[ov])(E:ZK #[oJ] items.toList)(F:ZK (m.map kV) o.toList)(hs:Xi ks=Xi m) :
  Meets (aO.«tuple.__lt__» ⟨[.ref l,.ref b],[]⟩)
   (λ_ R s=>s.heap.get? l=U { cls:=.type "tuple",dict:=L,data:=.seq items n,slots:=sl }/\s.heap.get? b=U { cls:=.type "tuple",dict:=M,data:=.seq o K,slots:=N } /\
    R (.ok (.ret (.bool (YB ks m)))) s) :=
 .of_wp λc w A R s h=>by
  show#[gn,p,r,s];show#[hU,O,P,h,h];have f2:=AutoSeq1.sub_tuple_tuple;have z1:items.size=ks.length:=by have:=E.length;simpa using this.symm
  have z2:o.size=m.length:=by have:=F.length;simpa using this.symm
  have z3:ks.length=m.length:=by have:=#[eZ,hs];simpa [Xi] using this
  wp_walk using wpAny_loadPart' O,wpAny_loadPart' P,wpAny_forIn_list _ (λrest b v=>b.1=af/\v=⟨p,g,d,r,os⟩/\X4 λ(t ws:List aa) (f a:List Key)=>rest=t.zip ws /\
   ZK (f.map kV) t/\ZK (a.map kV) ws/\Xi f=Xi a/\R (.ok (.ret (.bool (YB f a)))) #[gk,p,r]) _
  case turn =>
   rintro⟨y,x⟩ rest b v ⟨z,rfl,t,ws,f,a,j,u,B,k,i⟩;cases f with
   | nil=>cases u;show#[fe,List.zip_nil_left,j,j]
   | cons k1 kr =>
    cases a with
    | nil=>cases k
    | cons Q S =>
     cases u with
     | cons C G =>
      cases B with
      | cons D H =>
       rw[List.zip_cons_cons]at j;injection j with T V;injection T with W X;subst W X;rw[Pd]at i;unfold Xi at k;rw[Qs,Qs]at k;injection k with I Y;obtain⟨e,Z,J⟩:=Zpj A.in1 #[gk,p,r] C D I;refine aj (Z c w _ _ ?_);cases e with
       | true =>
        rw[if_pos (J.mp rfl)]at i
        wp_walk
        exact⟨rfl,rfl,_,_,_,_,V,G,H,Y,i⟩
       | false =>
        rw[if_neg (λq=>absurd (J.mpr q) Qo)]at i;have Fn:=ZpW A.in1 #[gk,p,r] C D I c w
        wp_walk using Fn
        exact⟨_,rfl,by simpa using i⟩
  case fin =>
   rintro⟨b1,b2⟩ v ⟨z,rfl,t,ws,f,a,j,u,B,k,i⟩;simp only at z;subst z;have hv:YB f a=decide (items.size<o.size):=by
    rw[decide_eq_false #[2]];cases f with
    | nil =>
     cases a with
     | nil=>rfl
     | cons _ _=>cases k
    | cons k1 kr =>
     cases a with
     | nil=>cases k
     | cons Q S =>
      cases u with
      | cons C G =>
       cases B with
       | cons D H=>rw[List.zip_cons_cons]at j;cases j
   rw[hv]at i
   wp_walk
   exact⟨_,rfl,by simpa [aO.Tuple.tupleCompareSizes] using i⟩
  case h=>exact⟨rfl,rfl,items.toList,o.toList,ks,m,rfl,E,F,hs,h⟩
universe E
section
variable {prog:ax} {w:aE} {A:aB} {E:aa->ai->Prop} {s:ai}
theorem ZlR{l b:ae}{items c:#[p1]}{ks a:#[ov]}{Q:#[F]}(hl:IsTup s.heap l items)(hb:IsTup s.heap b c)(k:ZK #[oJ] items.toList)(m:ZK (a.map kV) c.toList)(hs:Xi ks=Xi a)
  (hu:A.units<cLine) (h:Q (.bool (YB ks a)) s):au #[p] A (richCompare .Lt #[cq] #[ts]) Q E s:=by
 obtain⟨⟨cls,o,data,p⟩,d,e,n,f⟩:=id hl;obtain⟨⟨cls2,q,data2,r⟩,g,i,t,j⟩:=id hb;simp only at e f i j;subst e f i j;exact richCompare_meets_room (op:=.Lt) ⟨_,d,rfl⟩ ⟨_,g,rfl⟩ PySem.F.slot_tuple_lt PySem.F.entry_tuple_lt (PySem.F.args_tuple_lt_2 _ _) (Zii l b items c n t o q p r ks a k m hs)
  ⟨d,g,show aa.bool (YB ks a)≠aa.notImplemented/\Q (.bool (YB ks a)) s from⟨(λx=>nomatch x),h⟩⟩ hu
universe E
section
variable {prog:ax} {w:aE}
theorem ZmY{A:aB}{a:Args}:(A.under (.builtin "min.loop" a)).units<=A.units+1:=by show A.units+(Code.builtin "min.loop" a).cUnits<=A.units+1;first|exact Qh _|simp[Code.cUnits,Code.frames,Code.isFrame]
theorem Pb{A:aB}{R:#[ld]}{l I S:ae}{d:Wb}{sh:List Bool}{h0:aF}{kw:#[tx]}(C:#[it])(hu:#[vt])(D:#[hC,h0.IsList,d.map])
  (p:h0.get? I=af) (s:h0.get? S=af) (i:S≠I) (v:#[fG,d,h0]) (x:∀t∈d,Xi t.2=sh) (y:ai)
  (q:#[eA,h',h0.get?,h'.get?,d,y]) :
  ∀ (k j:Nat) (h:aF) (t:ae×List Key) (c:Nat),d.length-j=k->j<=d.length->#[q9,o,h0.get?,h.get?]->h.IsListIter I l j->h.get? S=U { cls:=.type "list",data:=.seq #[.ref t.1,.ref t.1] c }->t∈d ->
   (∀u∈d.take j,YB u.2 t.2=false)->bU #[p] A #[jX] R { y with heap:=h }
 | k,j,h,t,c,hk,hj,keep,M,E,z,G=>by
  show#[ip];refine aj (br E rfl ?_);have N:#[hC,h.IsList,d.map]:=by obtain⟨o,m,r⟩:=D;exact⟨o,keep _ _ m,r⟩
  by_cases B:j<d.length
  ·have H:(#[hN,d.map].toArray)[j]? = U (aa.ref d[j].1):=by simp[B]
   refine aj (wpAny_tryCatch (cz M N H λg O P=>?_));have J:#[rO,h0.get?,g.get?]:=λb o f=>by
    have nb:b≠I:=λe=>by rw[e,p]at f;cases f
    rw[P.2 b nb];exact keep b o f
   have n:#[ja]:=by rw[P.2 S i];exact E
   refine aj #[py];have K:d[j]∈d:=Qad B;obtain⟨i1,V,W⟩:=v _ K;obtain⟨i2,X,Y⟩:=v _ z;have Q:∀ {a:ae} {its:List aa},IsTup h0 a its.toArray->IsTup g a its.toArray:=λ⟨o,m,Z⟩=>⟨o,J _ _ m,Z⟩;have AK:Xi d[j].2=Xi t.2:=(x _ K).trans (x _ z).symm;refine aj (wpAny_tryCatch (aS (aj (ZlR (Q W) (Q Y) #[el,V] #[el,X] AK (Nat.lt_of_le_of_lt ZmY #[2]) (aj (aS (bT (aj (dh #[py])))))))));cases f:YB d[j].2 t.2 with
   | true =>
    refine aj (wpAny_updateSeq n rfl ?_ #[gX,2] #[gX,2]);refine aj (dh (av #[pd]));refine Pb C hu D p s i v x y q (k-1) (j+1) _ d[j] c #[2] #[2] #[qK,b,o,L] ?_ ?_ K (λu hu'=>?_)
    ·have nb:S≠b:=λe=>by rw[<- e,s]at L;cases L
     exact Qaq _ nb (J b o L)
    ·show#[hU,o,m,r,O];exact⟨o,Qaq _ i m,r⟩
    ·have:=get?_update_seq (c := "list") n (λ_=>#[.ref d[j].1,.ref d[j].1]);simpa using this
    ·rw[QL,Qb B]at hu';rcases Qj.mp hu' with hu'|hu'
     ·have:=G u hu';cases hz:YB u.2 d[j].2 with
      | false=>rfl
      | true=>rw[Ly _ _ _ hz f]at this;cases this
     ·have:u=d[j]:=by simpa using hu'
      rw[this];exact Pc _
   | false =>
    refine aj (dh (av #[pd]));refine Pb C hu D p s i v x y q (k-1) (j+1) g t c #[2] #[2] J O n z (λu hu'=>?_);rw[QL,Qb B]at hu';rcases Qj.mp hu' with hu'|hu'
    ·exact G u hu'
    ·have:u=d[j]:=by simpa using hu'
     rw[this];exact f
  ·have H:(#[hN,d.map].toArray)[j]? = af:=by simp;lia
   refine aj (wpAny_tryCatch (cG C M N H λg T=>?_));have n:#[ja]:=T S _ i E;refine aj (wpAny_updateSeq n rfl ?_ #[gX,2] #[qj]);refine aj (dh #[py]);refine q _ t #[qK,b,o,f] z (λu hu'=>G u #[qB,Qx,#[2],hu']);have nb:S≠b:=λe=>by rw[<- e,s]at f;cases f
   have nI:b≠I:=λe=>by rw[e,p]at f;cases f
   exact Qaq _ nb (T b o nI (keep b o f))
termination_by k=>k
theorem Zm4{A:aB}{R:#[ld]}{l I S:ae}{a:Wb}{sh:List Bool}{h0 h:aF}{c:Nat}{kw:#[tx]}(y:#[it])(hu:#[vt])(z:#[hC,h0.IsList,a.map])
  (j:h0.get? I=af) (B:h0.get? S=af) (k:S≠I) (J:#[fG,a,h0]) (K:∀t∈a,Xi t.2=sh) (i:ai) (keep:#[rO,h0.get?,h.get?]) (C:h.IsListIter I l 0) (D:h.get? S=U { cls:=.type "list",data:=.seq #[] c })
  (L:a≠[]\/X3 λn d kr=>kw=(n,d)::kr/\∀g:aF,#[q9,o,h0.get?,g.get?]->R (.ok (.ret d)) { i with heap:=g })
  (q:#[eA,g,h0.get?,g.get?,a,i]) :
  bU #[p] A #[jX] R { i with heap:=h }:=by
 show#[ip];refine aj (br D rfl ?_);have E:#[hC,h.IsList,a.map]:=by obtain⟨o,m,r⟩:=z;exact⟨o,keep _ _ m,r⟩
 cases a with
 | nil =>
  obtain⟨n,d,kr,rfl,M⟩:=L.resolve_left #[4];refine aj (wpAny_tryCatch (cG y C E #[4] λp N=>?_));show au _ _ (rule _ >>= _) _ _ _;refine aj (wpAny_rule #[py]);refine M _ λb o f=>?_;have O:b≠I:=λe=>by rw[e,j]at f;cases f
  exact N b o O (keep b o f)
 | cons t r =>
  refine aj (wpAny_tryCatch (cz C E (x:=.ref t.1) #[4] λp P G=>?_));have Q:#[rO,h0.get?,p.get?]:=λb o f=>by
   have nb:b≠I:=λe=>by rw[e,j]at f;cases f
   rw[G.2 b nb];exact keep b o f
  have H:p.get? S=U { cls:=.type "list",data:=.seq #[] c }:=by rw[G.2 S k];exact D
  refine aj #[py];show au _ _ (updateSeq S _ >>= _) _ _ _;refine aj (wpAny_updateSeq H rfl ?_ #[qj] #[gX,2]);refine av #[pd];refine Pb y hu z j B k J K i q _ 1 _ t (c+1) rfl #[4] #[qK,b,o,s] ?_ ?_ #[4] (λu v=>?_)
  ·have nb:S≠b:=λe=>by rw[<- e,B]at s;cases s
   exact Qaq _ nb (Q b o s)
  ·show#[hU,o,m,r,P];exact⟨o,Qaq _ k m,r⟩
  ·have:=get?_update_seq (c := "list") H (λ_=>#[.ref t.1,.ref t.1]);simpa using this
  ·have:u=t:=by simpa using v
   rw[this];exact Pc _
universe E
section
variable {X:Cx}
def Lw(K:#[7]):List V->Hp->VK->Prop:=λvs H Q=>X3 λ(p:ae) (a:Wb) (sh:List Bool)=>vs=#[jN]/\SqL K H p (Vu a)/\AtT H a/\a≠[]/\(∀t∈a,Xi t.2=sh) /\
 ∀t:ae×List Key,t∈a->(∀u∈a,YB u.2 t.2=false)->Q (.ref t.1) H
theorem Zoj{prog:ax}{w:aE}{A:aB}{R:#[ld]}{s:ai}{l:ae}{a:Wb}{sh:List Bool}{kw:#[tx]}{i:#[tx]}(k:#[it])(hu:#[vt])(r:#[hC,s.heap.IsList,a.map])
  (v:(kw=[]/\i=[])\/∃d,kw=#[t9]/\i=#[t9])
  (z:#[fG,a,s.heap]) (B:∀t∈a,Xi t.2=sh)
  (C:a≠[]\/X3 λn d kr=>i=(n,d)::kr/\∀h':aF,#[q9,o,s.heap.get?,h'.get?]->R (.ok (.ret d)) { s with heap:=h' })
  (q:#[eA,h',s.heap.get?,h'.get?,a,s]) :
  bU #[p] A (.call #[xs] { pos:=[.ref l],kw:=kw }) R s:=by
 refine codeAny_call_builtin_at rfl F.entry_min ?_;have D:checkBuiltinCall "min" { pos:=[.ref l],kw:=kw }=pure ():=by rcases v with⟨rfl,_⟩|⟨d,rfl,_⟩<;>rfl
 rw[D];refine av ?_;have go:∀ {m:aB},m.handled=af->au #[p] m (pyIter #[cq] >>= λE=>newList [] >>= λb=>again (.builtin "min.loop" { pos:=[E,.none,b],kw:=i })) (λp j=>match p with
   | Fin.done f=>R (Except.ok f) j
   | Fin.again x=>x.quiet=true/\bU #[p] A x R j) (λe j=>R (Except.error e) j) s:=λ{m} hA'=>by
  refine aj (cH r ?_);refine aj (wpAny_newList ?_ #[qj]);refine av #[pd];have y:∀b,s.heap.objs.size<=b->s.heap.get? b=af:=λb G=>by
   cases e:s.heap.get? b with
   | none=>rfl
   | some o=>exact absurd (Qm e) (Qa1.mpr G)
  have g:(s.heap.push { cls:=aa.type "list_iterator",data:=Data.fields #[aa.ref l,aa.int 0 0] }).objs.size=s.heap.objs.size+1:=size_push' _ _;refine Zm4 (h0:=s.heap) (c:=0) k hu r (y _ #[jJ]) (y _ #[eR,g,Q1,_]) #[eR,g,Nat.succ_ne_self,_] z B s (λb o h=>Qc _ (Qc _ h)) ⟨_,Qc _ #[vQ],rfl,rfl⟩ #[vQ] C q
 rcases v with⟨rfl,rfl⟩|⟨d,rfl,rfl⟩
 ·exact go k
 ·exact go k
theorem ZmZ(hc:#[am])(hu:#[qe]):YS X #[xs] (Lw X.K):=by
 show#[nr];obtain⟨p,ts,sh,rfl,b,c,d,e,q⟩:=h;show#[e9,f];show#[fR,g,j,hz,b];have k:=Lx g;subst k;refine wpAny_call (Zoj (sh:=sh) #[iy] #[2] j.isList (.inl #[bM]) (λt a=>?_) e (.inl d) λh' t l a m=>?_)
 ·obtain⟨i,v,q,_⟩:=I.tuple (SqT.of (K:=X.K) (c t a));exact⟨i,v,q⟩
 ·exact⟨.ref t.1,H,I.kept (t':=#[wy]) l,rfl,q t a m⟩
theorem ZuB(K:#[7]){k:Nat}(a:#[mB])(hc:#[am]:=by rfl)(h:X.K=K:=by rfl):YS X #[xs] (Lw K):=by subst h;exact ZmZ hc a.units
universe E
section
variable {X:Cx}
def Lv(K:#[7]):List V->Hp->VK->Prop:=λvs H Q=>X2 λ(p:ae) (ns:List Int)=>vs=#[jN]/\SqL K H p #[C]/\ns.length<=1000/\(∀n∈ns,0<=n/\n<=10000000000000)/\Q (.int ns.sum) H
theorem Znm(hc:#[am]):YS X #[e0,"sum"] (Lv X.K):=by
 show#[nr];obtain⟨p,a,rfl,o,hn,d,q⟩:=h;show#[e9,t];obtain⟨its,v,w,_⟩:=I.list o;have f:=Mb v;show#[ep,b,e,f.allInts.items];have g:a=b.toList.map #[T]:=by rw[<- f.numsOf,<- nums_intItems,<- e]
 have c:b.size=a.length:=by rw[g,Qa,QaB]
 have i:numAt b=λj=>a.getD j 0:=by funext j;rw[numAt_eq,g]
 have k:=w.isList;rw[e]at k;have bound:∀n,n<=a.length->0<=(a.take n).sum/\(a.take n).sum<=10000000000000*n:=by
  intro n;induction n with
  | zero=>intro _;exact⟨by simp,by simp⟩
  | succ n l =>
   intro h;have l:=l #[2];have x:=d a[n] (Qad #[2]);have y:a.take (n+1)=a.take n++[a[n]]:=by rw[QL,Qb #[2]];rfl
   rw[y,List.sum_append];have z:([a[n]]:List Int).sum=a[n]:=by simp
   rw[z];lia
 refine sum_intList #[iy] k (λj hj=>?_) λh' tk A B=>⟨.int _,H,I.kept B,⟨A,rfl⟩,?_⟩
 ·rw[i];have x:=d a[j] (Qad #[2]);have m:a.getD j 0=a[j]:=by rw[QI,Qb #[2]];rfl
  have hp:=bound (j+1) #[2];refine⟨⟨?_,?_⟩,#[ww]⟩
  ·show -(2 ^ 63)<=a.getD j 0;rw[m];lia
  ·show a.getD j 0<2 ^ 63;rw[m];lia
  ·rw[Sn a (j+1) #[2]];lia
  ·rw[Sn a (j+1) #[2]];lia
 ·rw[i,c,Sn a a.length #[jJ],Qx #[jJ]];exact q
theorem Lu(K:#[7])(hc:#[am]:=by rfl)(h:X.K=K:=by rfl):YS X #[e0,"sum"] (Lv K):=by subst h;exact Znm hc
universe E
universe E.L2
namespace Hf
open L2
abbrev PW:=List (Int×Nat)
noncomputable def val(P:PW):Int:=(P.map λp=>p.1*(p.2:Int)).sum
noncomputable def ws(P:PW):List Int:=P.map #[T]
noncomputable def ds(P:PW):List Nat:=P.map #[uQ]
noncomputable def zs(z:Nat):List Int:=List.replicate z 0
noncomputable def kr(w E:Nat)(D:#[iA]):Nat:=(D.map λd=>w ^ (E-d)).sum
inductive Hu (w:Nat):List Int->Nat->Int->Prop
 | stop {e:Int} {m:Nat}:Hu w [e] m 0
 | step {E L:List Int} {m:Nat} {C:Int}:1<L.length->E.Perm L->L.Pairwise (·<=·)->Hu w (L.drop m++[(L.take m).sum]) w C->Hu w E m (C+(L.take m).sum)
def Fit(w n m:Nat):Prop:=n=1\/∃t,n=m+t*(w-1)
structure Fits (w n m:Nat):Prop where
 w2:2<=w
 m2:2<=m
 mw:m<=w
 ok:Fit w n m
universe E.Hf
namespace L2
open PySem PySem.Spec PyProof.Rows
section
variable {κ:Type} [DecidableEq κ]
noncomputable def Zt(kvs:#[bJ])(k:κ):Option V:=(kvs.find? λa=>decide (a.1=k)).map #[uQ]
noncomputable def YT(kvs:#[bJ])(k:κ)(v:V):List (κ×V) :=
 if #[d2]=true then kvs.map (λa=>if a.1=k then (a.1,v) else a) else kvs++[(k,v)]
noncomputable def WD(kvs:#[bJ])(k:κ):List (κ×V):=kvs.filter λa=>decide (a.1≠k)
theorem UR{p:κ×V}{r:#[bJ]}{k:κ}(e:p.1=k):Zt (p::r) k=U p.2:=by simp[Zt,List.find?_cons,e]
theorem UQ{p:κ×V}{r:#[bJ]}{k:κ}(e:¬ p.1=k):Zt (p::r) k=Zt r k:=by simp[Zt,List.find?_cons,e]
theorem Sl(k:κ):∀kvs:List (κ×V),#[d2]=#[vH].isSome
 | []=>rfl
 | p::r=>by
  rw[QaY];by_cases e:p.1=k
  ·simp only[UR e,decide_eq_true e,Bool.true_or,Option.isSome_some]
  ·rw[UQ e,decide_eq_false e,Bool.false_or];exact Sl k r
theorem Pa(kvs:#[bJ])(k:κ)(v:V):(YT kvs k v).length<=kvs.length+1:=by
 unfold YT;split
 ·rw[Qa];lia
 ·rw[Qf,QH,List.length_nil];lia
theorem VY{kvs:#[bJ]}{k:κ}(v:V)(h:Zt kvs k=af):YT kvs k v=kvs++[(k,v)]:=by unfold YT;rw[Sl,h];exact if_neg #[6]
theorem Yr.isSome_eq{o:Option V}{u:#[pS]}(r:Yr o u):o.isSome=u.isSome:=by
 cases o with
 | none=>cases u with
  | none=>rfl
  | some _=>exact#[iv].elim
 | some _=>cases u with
  | none=>exact#[iv].elim
  | some _=>rfl
theorem Yr.getD{o:Option V}{u:#[pS]}{d:V}{d':aa}(r:Yr o u)(rd:ZI d d'):ZI (o.getD d) (u.getD d'):=by
 cases o with
 | none=>cases u with
  | none=>exact rd
  | some _=>exact#[iv].elim
 | some _=>cases u with
  | none=>exact#[iv].elim
  | some _=>exact r
theorem KV.val{kvs:#[bJ]}{vs:#[lU]}(r:#[pr])(k:κ):Yr #[vH] (valueAt vs k):=by
 unfold KV at r;induction r with
 | nil=>exact True.intro
 | @cons p q ps a h t f =>
  show#[ep,d,g,h];by_cases e:p.1=k
  ·have c:q.1=k:=d.symm.trans e;have b:valueAt (q::a) k=U q.2:=by simp[valueAt,List.find?_cons,c]
   rw[UR e,b];exact g
  ·have c:¬ q.1=k:=λz=>e (d.trans z);have b:valueAt (q::a) k=valueAt a k:=by simp[valueAt,List.find?_cons,c]
   rw[UQ e,b];exact f
theorem KV.any{kvs:#[bJ]}{vs:#[lU]}(r:#[pr])(k:κ):#[d2]=vs.any λa=>decide (a.1=k):=by
 unfold KV at r;induction r with
 | nil=>rfl
 | cons h t b=>rw[QaY,QaY,b,h.1]
theorem KV.repl{kvs:#[bJ]}{vs:#[lU]}(r:#[pr])(k:κ){y:V}{u:aa}(c:ZI y u) :
  KV (kvs.map λa=>if a.1=k then (a.1,y) else a) (vs.map λa=>if a.1=k then (a.1,u) else a):=by
 unfold KV at r ⊢;induction r with
 | nil=>exact .nil
 | @cons p q ps qs h t d =>
  rw[Qs,Qs];refine .cons ?_ d;show#[ep,b,f,h];by_cases e:p.1=k
  ·rw[if_pos e,if_pos (b.symm.trans e)];exact⟨b,c⟩
  ·rw[if_neg e,if_neg (λz=>e (b.trans z))];exact⟨b,f⟩
theorem KV.put{kvs:#[bJ]}{vs:#[lU]}(r:#[pr])(k:κ){y:V}{u:aa}(a:ZI y u):KV (YT kvs k y) (stored vs k u):=by
 unfold YT stored;rw[r.any k];by_cases e:(vs.any λb=>decide (b.1=k))=true
 ·show#[io,e,e];exact r.repl k a
 ·show#[ia,e,e];exact Paired.snoc r ⟨rfl,a⟩
theorem KV.drop{kvs:#[bJ]}{vs:#[lU]}(r:#[pr])(k:κ):KV (WD kvs k) (without vs k):=by
 unfold KV at r ⊢;unfold WD without;induction r with
 | nil=>exact .nil
 | @cons p q ps qs h t d =>
  show#[ep,c,f,h];rw[List.filter_cons,List.filter_cons];by_cases e:p.1=k
  ·have a:¬ decide (p.1≠k)=true:=by simp[e]
   have b:¬ decide (q.1≠k)=true:=by simp[c.symm.trans e]
   show#[ia,a,b];exact d
  ·have g:¬ q.1=k:=λz=>e (c.trans z);have a:decide (p.1≠k)=true:=by simp[e]
   have b:decide (q.1≠k)=true:=by simp[g]
   show#[io,a,b];exact .cons ⟨c,f⟩ d
theorem KV.length{kvs:#[bJ]}{vs:#[lU]}(r:#[pr]):kvs.length=vs.length:=Paired.length r
theorem ZoI(kvs:#[bJ])(k:κ):(WD kvs k).length<=kvs.length:=Qaj _ _
universe E
theorem Vt{P:ax}{w:aE}{k:Key}{u:aa}(r:ZI (kV k) u):#[th].is k u=true:=by
 cases k with
 | inl i=>obtain⟨t,e⟩:=#[eE,aa.int,i,r];subst e;exact ZkO P w i t
 | inr x=>obtain⟨t,e⟩:=#[eE,aa.str,x,r];subst e;exact Zk1 P w x t
theorem Ls{P:ax}{w:aE}:∀ {ks:List Key} {us:List aa},ZK #[oJ] us->ItemsAre #[th] ks us
 | [],_,r=>by rw[Qa8]at r;cases r;exact .nil
 | k::ks,_,r=>by
  rw[Qs]at r;cases r with
  | cons h t=>exact .cons (Vt h) (Ls t)
abbrev KT(H:Hp):List (List Key×V)->List (List Key×ae×aa)->Prop:=Paired λp q=>p.1=q.1/\H q.2.1=U (.tup (p.1.map kV))/\ZI p.2 q.2.2
theorem KT.val{H:Hp}{kvs:#[cd]}{xs:#[jR]}(r:#[wL])(k:#[ov]):Yr #[vH] ((atKey xs k).map #[uQ]):=by
 induction r with
 | nil=>exact True.intro
 | @cons p q ps a h t f =>
  obtain⟨d,_,g⟩:=h;by_cases e:p.1=k
  ·have c:q.1=k:=d.symm.trans e;have b:atKey (q::a) k=U q.2:=by simp[atKey,List.find?_cons,c]
   rw[UR e,b];exact g
  ·have c:¬ q.1=k:=λz=>e (d.trans z);have b:atKey (q::a) k=atKey a k:=by simp[atKey,List.find?_cons,c]
   rw[UQ e,b];exact f
theorem KT.repl{H:Hp}{kvs:#[cd]}{xs:#[jR]}(r:#[wL])(k:#[ov]){y:V}{u:aa}(d:ZI y u) :
  KT H (kvs.map λb=>if b.1=k then (b.1,y) else b) (xs.map (putAt k u)):=by
 induction r with
 | nil=>exact .nil
 | @cons p q ps qs h t f =>
  rw[Qs,Qs];refine .cons ?_ f;show#[hU,a,c,g,h];unfold putAt;by_cases e:p.1=k
  ·rw[if_pos e,if_pos (a.symm.trans e)];exact⟨a,c,d⟩
  ·rw[if_neg e,if_neg (λz=>e (a.trans z))];exact⟨a,c,g⟩
theorem KT.put{H:Hp}{kvs:#[cd]}{xs:#[jR]}(r:#[wL])(k:#[ov]){b:ae}{y:V}{u:aa}(hb:H b=U #[kL])(a:ZI y u) :
  KT H (YT kvs k y) (storedH xs k b u):=by
 have e:(kvs.any λc=>decide (c.1=k))=(atKey xs k).isSome:=by rw[Sl,(r.val k).isSome_eq,Option.isSome_map]
 unfold YT storedH;rw[e];by_cases q:(atKey xs k).isSome=true
 ·show#[io,q,q];exact r.repl k a
 ·show#[ia,q,q];exact Paired.snoc r ⟨rfl,hb,a⟩
theorem KT.keeps{H a:Hp}{kvs:#[cd]}{xs:#[jR]}(r:#[wL])(c:#[rX,b,ys,H,a]):KT a kvs xs :=
 Paired.mapP r λ_ _ z=>⟨z.1,c _ _ z.2.1,z.2.2⟩
section
variable {P:ax} {w:aE} {H:Hp} {h:aF} {a:ae}
theorem Lr{u:HO}(ok:#[dX])(e:Rd H a u):Z5 P w H h a u:=e.ok ok
theorem Vs{kvs:#[39]}(ok:#[dX])(e:Rd H a #[dI]):kvs.length<=ao/\#[pz]=false/\∃vs,KV kvs vs/\h.DictOf #[th] a vs :=
 show Z5 P w H h a #[dI] from Lr ok e
theorem O9{kvs:#[39]}(ok:#[dX])(e:#[s4]):kvs.length<=ao/\#[pz]=false/\∃vs,KV kvs vs/\h.DictOf #[th] a vs:=Vs ok (.inl e)
theorem Ua{ks:#[ov]}(ok:#[dX])(e:H a=U (.tup #[oJ])):#[jh].is h ks a:=by obtain⟨_,its,r,o,b,c,n,d⟩:=(show Z5 P w H h a (.tup #[oJ]) from ok a _ e);exact⟨o,its.toArray,n,b,c,d,by simpa using Ls r⟩
theorem UP{kvs:#[cd]}(ok:#[dX])(e:Rd H a (.dT kvs)):kvs.length<=ao/\#[pz]=false /\
  ∃xs,KT H kvs xs/\h.DictOfH #[jh] a xs:=by
 obtain⟨z,y,xs,r,o,c,d,f,g,i,j,k⟩:=(show Z5 P w H h a (.dT kvs) from Lr ok e);refine⟨z,y,xs,r,o,c,d,f,g,i,j,λx hx=>?_,k⟩;have all:∀ {l:List (List Key×V)} {m:List (List Key×ae×aa)},KT H l m->∀x∈m,#[jh].is h x.1 x.2.1:=by
  intro l m q;induction q with
  | nil=>intro x hx;exact nomatch hx
  | @cons p q ps qs b t n =>
   intro x hx;rcases QO.mp hx with e|hx
   ·subst e;exact Ua ok #[eJ,b.1,b.2.1]
   ·exact n x hx
 exact all r x hx
theorem ZtR{kvs:#[cd]}(ok:#[dX])(e:#[vr]):kvs.length<=ao/\#[pz]=false /\
  ∃xs,KT H kvs xs/\h.DictOfH #[jh] a xs:=UP ok (.inl e)
universe E
def ZM(H:Hp)(a:ae)(y:V)(r:Option V):Prop :=
 (X2 λc k=>Rd H a (.dK c)/\y=kV k/\r=Zt c k)\/X3 λc k b=>Rd H a (.dT c)/\y=.ref b/\H b=U #[kL]/\r=Zt c k
def Yz(H:Hp)(a:ae)(y v:V)(d:Hp):Prop :=
 (X2 λc k=>H a=U (.dK c)/\y=kV k/\c.length<ao/\d=upd H a (.dK (YT c k v))) \/
 X3 λc k b=>H a=U (.dT c)/\y=.ref b/\H b=U #[kL]/\c.length<ao/\d=upd H a (.dT (YT c k v))
theorem ZM.k{H:Hp}{a:ae}{kvs:#[39]}{k:Key}(e:#[s4]):ZM H a (kV k) #[vH]:=.inl ⟨kvs,k,.inl e,rfl,rfl⟩
theorem ZM.t{H:Hp}{a b:ae}{kvs:#[cd]}{k:#[ov]}(e:#[vr])(c:H b=U #[kL]):ZM H a #[ts] #[vH]:=.inr ⟨kvs,k,b,.inl e,rfl,c,rfl⟩
theorem Yz.k{H:Hp}{a:ae}{kvs:#[39]}{k:Key}{v:V}(e:#[s4])(hl:kvs.length<ao):Yz H a (kV k) v (upd H a (.dK (YT kvs k v))):=.inl ⟨kvs,k,e,rfl,hl,rfl⟩
theorem Yz.t{H:Hp}{a b:ae}{kvs:#[cd]}{k:#[ov]}{v:V}(e:#[vr])(c:H b=U #[kL])(hl:kvs.length<ao) :
  Yz H a #[ts] v (upd H a (.dT (YT kvs k v))):=.inr ⟨kvs,k,b,e,rfl,c,hl,rfl⟩
section
variable {X:Cx} {ah:List (ae×aJ)} {σ:St} {H:Hp} {s:ai} {a:ae} {y v:V} {u r:aa} {o:Option V} {A:aB} {E:aa->ai->Prop}
theorem Inv.big(I:#[i]):bL<s.heap.objs.size:=by have h:aL<s.heap.objs.size:=#[xg].lt;exact Nat.lt_trans #[6] h
theorem ZmO{Q:#[F]}(hu:#[oz])(I:#[i])(g:ZM H a y (U v))(n:ZI y u)(h:#[xx,d,H]) :
  au #[22] A (getItem #[iB] u) Q E s:=by
 rcases g with⟨f,k,e,i,l⟩|⟨f,k,b,e,i,q,l⟩
 ·subst i;show#[hc,r,t,c,j,Vs];obtain⟨d,hw,m⟩:=Yr.some_of (v:=v) (o:=valueAt t k) #[eR,l,c.val,k];exact wpAny_getItem_of (Vt n) j.mapOf hw (h d _ #[nS] m)
 ·show#[g3,i,n,r,w,j];obtain⟨d,hw,m⟩:=Yr.some_of (v:=v) (o:=(atKey w k).map #[uQ]) #[eR,l,c.val,k];show#[qS,p,x,B,Qa9.mp,hw];refine wpAny_getItem_heap (dC hu) (Ua I.hok q) j x ?_;rw[B];exact h d _ #[nS] m
theorem Zrj{Q:#[F]}(hu:#[oz])(I:#[i])(g:ZM H a y o)(m:ZI y u)(h:∀s',Inv X ah σ H s'->Q (.bool (!o.isSome)) s') :
  au #[22] A (aU .NotIn u #[iB]) Q E s:=by
 rcases g with⟨d,k,e,f,l⟩|⟨d,k,b,e,f,n,l⟩
 ·subst f;show#[hc,i,vs,c,j,Vs];refine wpAny_notIn_of (Vt m) i j.mapOf ?_;rw[<- (c.val k).isSome_eq,<- l];exact h _ #[nS]
 ·show#[g3,f,m,i,xs,j];refine wpAny_notIn_heap (dC hu) (Ua I.hok n) i j ?_;have q:=(c.val k).isSome_eq;rw[Option.isSome_map]at q;rw[<- q,<- l];exact h _ #[nS]
theorem Sk{h':aF}{t':Nat}{ob:HO}(I:#[i])(c:Mut (H a))(hs:#[xy,a,s.heap,h'])(he:∃q,h'.get? a=U q)(new:#[xD,a,ob,h']) :
  Inv X ah σ (upd H a ob) { s with heap:=h',toks:=t' } :=
 I.write (x:=a) (e:=a) c #[8] (λb q d z=>(hs.2 b d).trans z) he new
theorem O8{P:ax}{w:aE}{b:Hp}{h':aF}{kvs:#[39]}{vs:List (Key×aa)}(z:kvs.length<=ao)(hd:#[pz]=false)(rel:#[pr])(c:h'.DictOf #[th] a vs) :
  Z5 P w b h' a #[dI]:=⟨z,hd,vs,rel,c⟩
theorem ZnD{B:Hp}{Q:#[aJ]}(hu:#[oz])(I:#[i])(g:Yz H a y v B)(C:ZI y u)(D:ZI v r)(h:∀s',Inv X ah σ B s'->Q () s') :
  au #[22] A (setItem #[iB] u r) Q E s:=by
 rcases g with⟨d,k,e,m,l,n⟩|⟨d,k,b,e,m,F,l,n⟩
 ·subst m n;show#[hc,o,K,f,p,O9];have t:K.length<=ao:=by rw[<- f.length];exact z
  have w:(YT d k v).length<=ao:=by have:=Pa d k v;lia
  refine wpAny_setItem_pairs (hsz:=t) (Vt C) p λG i x=>h _ ?_;have L:∃q,G.get? a=U q:=let ⟨q,_,_,j,_⟩:=i;⟨q,j⟩;exact Sk I #[cB] x L (O8 w o (f.put k D) i)
 ·subst m n;cases (show u=aa.ref b from C);show#[hc,o,M,f,p,ZtR];have t:M.length<=ao:=by rw[<- Paired.length f];exact z
  have w:(YT d k v).length<=ao:=by have:=Pa d k v;lia
  refine wpAny_setItem_heap (hsz:=t) (dC hu) (Ua I.hok F) p λG i x=>h _ ?_;obtain⟨q,N,O,j,P,R,S,_,T⟩:=i;refine Sk I #[cB] x ⟨q,j⟩ ⟨w,o,_,(f.put k F D).keeps λc ys J=>?_,q,N,O,j,P,R,S,T⟩;rw[Zd (PM J e #[t])];exact J
universe E
section
variable {X:Cx} {ah:List (ae×aJ)} {σ:St} {H:Hp} {s:ai} {a:ae} {kvs:List (Key×V)} {k:Key} {u:aa} {A:aB} {E:aa->ai->Prop}
theorem Ztu{v:V}{more:#[bd]}{Q:#[F]}(I:#[i])(e:#[s4])(d:ZI (kV k) u)(l:Zt kvs k=U v)(hm:more=[]\/∃x,more=[x])
  (h:#[xx,c,#[uR]]):au #[22] A (call #[e0,"dict.pop"] (.ref a::u::more)) Q E s:=by
 show#[hc,m,f,b,g,O9];obtain⟨c,hw,n⟩:=Yr.some_of (v:=v) (o:=valueAt f k) (by rw[<- l];exact b.val k);have p:(keyPart u).isSome=true:=by
  cases k with
  | inl i=>obtain⟨t,q⟩:=#[uz];subst q;rfl
  | inr x=>obtain⟨t,q⟩:=#[eE,aa.str,x,d];subst q;rfl
 have r:argsOk "dict.pop" ⟨.ref a::u::more,[]⟩:=by
  rcases hm with q|⟨x,q⟩
  ·subst q;exact PySem.F.args_dict_pop_2 _ _
  ·subst q;exact PySem.F.args_dict_pop_3 _ _ _
 refine call_meetsIn QaP g.typeIs PySem.F.entry_dict_pop r (meets_dict_pop_there #[aB] a (Vt d) more hm p)
  ⟨f,c,g,by rw[<- b.length];exact z,hw,λw j y=>h c _ ?_ n⟩
 have B:∃q,w.get? a=U q:=let ⟨q,_,_,C,_⟩:=j;⟨q,C⟩;exact Sk I #[cB] y B (O8 (Ql (ZoI kvs k) z) m (b.drop k) j)
theorem Zul{Q:#[F]}(I:#[i])(e:Rd H a #[dI])(h:∀t s',Inv X ah σ H s'->Q (.int kvs.length t) s'):au #[22] A (call #[o1] #[lL]) Q E s:=by obtain⟨z,c,vs,b,d⟩:=Vs I.hok e;refine call_len_dict c d (by rw[<- b.length];rw[aP]at z;lia) ?_;rw[<- b.length];exact h _ _ #[nS]
universe E
theorem Zkd{X:Cx}{f:#[S]}{h:St}{H:Hp}{s:ai}{a:ae}{y:V}{o:Option V}(I:#[gY,f,h])(g:ZM H a y o):s.TypeIs #[iB] "dict":=by
 rcases g with⟨c,k,e,_,_⟩|⟨c,k,b,e,_,_,_⟩
 ·obtain⟨_,_,vs,_,d⟩:=Vs I.hok e;exact d.typeIs
 ·obtain⟨_,_,xs,_,d⟩:=UP I.hok e;exact d.typeIs
theorem Lq{P:ax}{w:aE}{H:Hp}(h:aF)(hb:bL<h.objs.size):Z5 P w H #[au] h.objs.size (.dK []) :=
 ⟨Qu _,beq_eq_false_iff_ne.mpr (Ne.symm (QB hb)),[],.nil,aF.DictOf.new h⟩
def Zsl:TE:=λ_ H Q=>∀p,H p=af->Q #[bS] (upd H p (.dK []))
section
variable {X:Cx} {pos:Pos}
theorem Sj:PE X (.Dict [] [] pos) Zsl:=λah s σ H Q I h =>
 wpAny_Dict_empty ⟨.ref s.heap.objs.size,_,I.laid (a:=#[pQ]) (o:=.dK []) (t':=#[wy]) #[mG] #[jJ] (Lq s.heap I.big),rfl,h _ #[co]⟩
universe E
def O7:List (TE×TE)->St->Hp->(List (V×V)->Hp->Prop)->Prop
 | [],_,H,Q=>Q [] H
 | (tk,b)::r,a,H,Q=>tk a H λx c=>b a c λy d=>O7 r a d λps e=>Q ((x,y)::ps) e
abbrev VV:List (V×V)->List (aa×aa)->Prop:=Paired λp q=>ZI p.1 q.1/\ZI p.2 q.2
def PPs(X:Cx)(pos:Pos)(e:#[ub])(f:#[kG])(g:#[s2]):Prop :=
 ∀ (b:List (ae×aJ)) (s:ai) (a:St) (H:Hp) (Q:List (V×V)->Hp->Prop),Inv X b a H s->O7 g a H Q ->
  #[kV] (evalPairs (pairTrees e f X.env pos)) (λh i=>X2 λc d=>Inv X b a d i/\VV c h/\Q c d) X.xe s
theorem Zrd{X:Cx}{pos:Pos}:PPs X pos [] [] []:=λah s σ H Q I h=>pairTrees_nil_walk ⟨[],H,I,.nil,h⟩
theorem Vr{X:Cx}{pos:Pos}{k v:aH}{ks:#[ub]}{vs:#[kG]}{tk d:TE}{e:#[s2]}(hk:PE X k tk)(f:PE X v d)(g:PPs X pos ks vs e) :
  PPs X pos (U k::ks) (v::vs) ((tk,d)::e):=λa s b H Q I h =>
 pairTrees_cons_walk (thn #[h7,hk,a,b] λu i ⟨x,j,l,m,n⟩=>thn (f a i b j _ l n) λw2 o ⟨y,p,q,r,t⟩=>
  thn (g a o b p _ q t) λws s3 ⟨w,z,A,c,B⟩=>⟨(x,y)::w,z,A,.cons ⟨m,r⟩ c,B⟩)
noncomputable def VX(kvs more:#[39]):List #[xe]:=more.foldl (λb a=>YT b a.1 a.2) kvs
theorem KV.merge:∀ {more:List (Key×V)} {a:List (Key×aa)} {kvs:List (Key×V)} {vs:List (Key×aa)},KV more a->KV kvs vs->KV (VX kvs more) (merged vs a):=by
 intro more a kvs vs r;unfold KV at r;induction r generalizing kvs vs with
 | nil=>intro q;exact q
 | @cons p q ps qs h t b =>
  intro c;have e:KV #[uo] (stored vs q.1 q.2):=by have:=c.put p.1 h.2;rw[<- h.1];exact this
  exact b e
theorem Lp:∀ (more kvs:List (Key×V)),(VX kvs more).length<=kvs.length+more.length
 | [],kvs=>by show kvs.length<=kvs.length+0;lia
 | p::r,kvs=>by have h1:=Lp r #[uo];have h2:=Pa kvs p.1 p.2;show (VX #[uo] r).length<=_;rw[QH];lia
theorem Ln{P:ax}{w:aE}:∀ {kvs:List (Key×V)} {ws:List (aa×aa)},VV (kvs.map λe=>(kV e.1,e.2)) ws->∃d,Carries #[th] ws d/\KV kvs d
 | [],_,r=>by rw[Qa8]at r;cases r;exact⟨[],True.intro,.nil⟩
 | p::kvs,_,r=>by
  rw[Qs]at r;cases r with
  | @cons a b as bs h t=>obtain⟨d,c,q⟩:=Ln (P:=P) (w:=w) t;show#[ep,b1,f,b];exact⟨(p.1,f)::d,⟨Vt h.1,rfl,c⟩,.cons ⟨rfl,h.2⟩ q⟩
def Ztk(c:#[s2]):TE:=λd H Q=>∀p,H p=af->O7 c d (upd H p (.dK [])) λps a=>a p=U (.dK [])/\∃kvs:List (Key×V),ps=kvs.map (λb=>(kV b.1,b.2))/\kvs.length<=15/\Q #[bS] (upd a p (.dK (VX [] kvs)))
theorem Zrm{X:Cx}{pos:Pos}{b:#[ub]}{f:#[kG]}{i:#[s2]}(h:PPs X pos b f i)(l:b.all (·.isSome)=true)(hl:b.length=f.length)(h0:b≠[])
  (m:b.length<=15):PE X (.Dict b f pos) (Ztk i):=by
 intro n s p H Q I q;have r:=I.hok.fresh (Qh s.heap.objs.size);have t:=I.laid (a:=#[pQ]) (o:=.dK []) (h':=s.heap.push { cls:=.type "dict",data:=.dict #[] }) (t':=#[wy]) #[mG] #[jJ] (Lq s.heap I.big);refine wpAny_Dict_walk (knd:=ZQ X.prog X.w) l hl h0 m (thn (h n _ p _ _ t (q _ r)) ?_);rintro ws s2 ⟨ps,H2,j,g,e,d,u,lk,v⟩;subst u;obtain⟨x,c,y⟩:=Ln (P:=X.prog) (w:=X.w) g;obtain⟨z,A,vs0,B,C⟩:=O9 j.hok e;cases B;refine⟨x,c,C,λh' k D=>⟨.ref s.heap.objs.size,_,?_,rfl,v⟩⟩;have E:(VX [] d).length<=ao:=by have F:=Lp d [];rw[List.length_nil]at F;rw[aP];lia
 have G:∃q,h'.get? s.heap.objs.size=U q:=let ⟨q,_,_,J,_⟩:=k;⟨q,J⟩;exact Sk j #[cB] D G (O8 E A (y.merge .nil) k)
structure M1 (X:Cx) (o:aH) (m:al) (bi:Pos) (e:aH) (bg:Pos):Prop where
 base:bo o m X.env #[d4]=eval o X.env
 few:((bc bg #[w4]).all (λx=>!x.1)&&#[le].all #[s7]
  && decide (([e]:List aH).length+#[tg].length+#[dp]<30))=true
 line:#[jS]=true
 trees:bc bg #[w4]=[#[k4]]
structure M2 (X:Cx) (o:aH) (m:al) (bi:Pos) (e f:aH) (bg:Pos):Prop where
 base:bo o m X.env #[d4]=eval o X.env
 few:((bc bg (aD [e,f] X.env)).all (λx=>!x.1)&&#[le].all #[s7]
  && decide (([e,f]:List aH).length+#[tg].length+#[dp]<30))=true
 line:#[jS]=true
 trees:bc bg (aD [e,f] X.env)=[#[k4],(false,eval f X.env)]
def IsD(H:Hp)(a:ae):Prop:=(∃kvs,Rd H a #[dI])\/∃kvs,Rd H a (.dT kvs)
theorem Zsu{X:Cx}{j:#[S]}{k:St}{H:Hp}{s:ai}{a:ae}(I:#[gY,j,k])(d:IsD H a) :
  s.TypeIs #[iB] "dict"/\(∀b,aa.ref a=.ref b->∃ob,s.heap.get? b=U ob/\ob.dict=af)/\#[pz]=false:=by
 rcases d with⟨f,e⟩|⟨f,e⟩
 ·obtain⟨_,g,vs,_,c⟩:=Vs I.hok e;show#[dL]
 ·obtain⟨_,g,xs,_,c⟩:=UP I.hok e;show#[dL]
section
variable {X:Cx} {ah:List (ae×aJ)} {σ:St} {H:Hp} {s:ai} {a:ae} {y d:V} {u r:aa} {o:Option V} {A:aB} {E:aa->ai->Prop}
theorem Zsz{Q:#[F]}(hu:#[oz])(I:#[i])(g:ZM H a y o)(m:ZI y u)(h:∀n s',Inv X ah σ H s'->ZI (o.getD .non) n->Q n s') :
  au #[22] A (call #[e0,"dict.get"] [.ref a,u]) Q E s:=by
 rcases g with⟨f,k,e,i,l⟩|⟨f,k,b,e,i,p,l⟩
 ·subst i;show#[hc,j,vs,c,d,Vs];refine call_meetsIn PySem.F.slot_dict_get d.typeIs PySem.F.entry_dict_get #[tq] (meets_dict_get #[aB] a (Vt m) j) ⟨_,d.mapOf,h _ _ #[nS] ?_⟩;rw[l];exact(c.val k).getD rfl
 ·show#[g3,i,m,j,q,d];refine call_meetsIn PySem.F.slot_dict_get d.typeIs PySem.F.entry_dict_get #[tq] (meetsH_dict_get (tupleKind #[aB]) a b j) ⟨dC hu,k,q,Ua I.hok p,d,h _ _ #[nS] ?_⟩;rw[l];exact(c.val k).getD rfl
universe E
def Lm(e ty:TE):TE:=λb H Q=>e b H λx c=>∃a,x=.ref a/\IsD c a/\ty b c λy d=>∃o,ZM d a y o/\Q (o.getD .non) d
section
variable {X:Cx} {o e f:aH} {bi bg:Pos} {td ty tx:TE}
theorem ZpV(hu:X.A.units+1<cLine)(i:PE X o td)(he:PE X e ty)(m:M1 X o "get" bi e bg):PE X (.Call #[hf,"get",bi] [e] [] bg) (Lm td ty):=by intro b s c H Q I h;refine wpAny_Call_method m.base m.few m.line Q3 PySem.F.slot_dict_get PySem.F.type_dict_get #[eo,i,b,c];rintro u j ⟨x,k,f,l,a,ex,d,n⟩;subst ex;obtain rfl:u=aa.ref a:=l;obtain⟨p,q,_⟩:=Zsu f d;refine⟨p,q,?_⟩;rw[m.trees];refine Calls.callWith_builtin rfl (Calls.evalArgs_plain (Calls.spliced_cons (thn (he b j c k _ f n) λiv s2 ⟨y,r,t,v,ov,g,w⟩=>Calls.spliced_nil ?_)));exact Zsz hu t g v λw' s3 z A=>⟨_,r,z,A,w⟩
universe E
section
variable {X:Cx}
theorem Zm6:YS X #[o1] #[iR]:=by intro ah s σ H xs us Q I r h;obtain⟨a,kvs,rfl,b,q⟩:=h;obtain⟨u,rfl,c⟩:=Xb r;cases c;exact Zul I (.inl b) λt s' d=>⟨.int kvs.length,H,d,#[sL],q⟩
universe E
section
variable {κ:Type} [DecidableEq κ]
theorem Zqa{kvs:#[bJ]}{k:κ}{v:V}(h:Zt kvs k=U v):k∈kvs.map #[T]:=by
 have q:#[d2]=true:=by rw[Sl,h];all_goals rfl
 show#[qS,p,b,e,List.any_eq_true.mp,q];exact List.mem_map.mpr ⟨p,b,of_decide_eq_true e⟩
universe E
structure Mf (P:ax) (w:aE) (K:#[7]) (mg:#[R]) (base:aF) (k:Nat) (C:ae) (m:al) (ps:#[Q]) (sp:Sp):Prop where
 ex:X2 λf fd=>YF P w K mg base CX0 k f fd ps sp/\UW K C m f/\YC K fd ps []
structure Cf (P:ax) (w:aE) (K:#[7]) (mg:#[R]) (base:aF) (k:Nat) (C:ae) (x:al) (ps:#[Q]) (sp:Sp):Prop where
 ex:X2 λf fd=>YF P w K mg base CX0 k f fd ps sp/\Mk K C f/\YC K fd ps []/\mg x=U #[M]
structure Ym (K:#[7]) (C:ae) (m aR:al) (st:aI) (ps:#[Q]):Prop where
 ex:X2 λf fd=>Fun K m aR st f fd/\UW K C m f/\YC K fd ps []
structure Si (K:#[7]) (mg:#[R]) (C:ae) (x aR:al) (st:aI) (ps:#[Q]):Prop where
 ex:X2 λf fd=>Fun K "__init__" aR st f fd/\Mk K C f/\YC K fd ps []/\mg x=U #[M]
section
variable {P:ax} {w:aE} {K:#[7]} {mg:al->Option aa} {base:aF}
theorem Ym.mf{C:ae}{m c:al}{st:aI}{N ps:#[Q]}{k:Nat}{sp:Sp}(T:Ym K C m c st ps)(S:#[ir])(len:#[N])
  (d:∀ (a:aa) (f:ae) (A:aB) (outer:List Env) (s:ai) (H:Hp) (vs:List V) (Q:VK) (E:XK),Y4 k #[95]->sp vs H Q E ->
   ∃t,PSs #[b3].nox (Zq st) t/\t { nx:=λ_ e=>Q .non e,rt:=Q } #[lg] H):Mf P w K mg base (k+1) C m ps sp:=by
 show#[sp,g];exact⟨f,g,F.ok S len #[eH,i,d],m,b⟩
theorem Si.cf{C:ae}{x c:al}{st:aI}{N ps:#[Q]}{k:Nat}{sp:Sp}(T:Si K mg C x c st ps)(S:#[ir])(len:#[N])
  (d:∀ (a:aa) (f:ae) (A:aB) (outer:List Env) (s:ai) (H:Hp) (vs:List V) (Q:VK) (E:XK),Y4 k #[95]->sp vs H Q E ->
   ∃t,PSs #[b3].nox (Zq st) t/\t { nx:=λ_ e=>Q .non e,rt:=Q } #[lg] H):Cf P w K mg base (k+1) C x ps sp:=by
 obtain⟨f,i,F,m,b,g⟩:=T.ex;exact⟨f,i,F.ok S len #[eH,j,d],m,b,g⟩
universe E
section
variable {X:Cx} {k j:Nat} {C:ae} {m x:al} {ps:List al} {sp:Sp} {o e:aH} {es:List aH} {ta:TE} {t:TA} {p bi pos:Pos} {pl:Sem Bool}
theorem Xq(F:#[gI,Mf,m])(c:#[ps])(d:#[sX])(he:#[nH])(ha:#[75])(h:k<=j:=by decide)
  (i:#[h]:=by rfl) (l:#[s]:=by rfl)
  (n:eval #[49] X.env=(do
   let a <- eval o X.env
   standAt bi.atName
   let (f,first) <- holding [a] (getMethod a m pl)
   callWith pos f first (bc pos #[j8]) #[aR]):=by rfl) :
  PE X #[49] (Sx C m sp [] E0 ta t):=by
 obtain⟨f,fd,F,g,b⟩:=F.ex;exact ZqO he c g F (d.mono h) b .nil Sw ha i l n
theorem YI(F:#[gI,Mf,m])(c:#[ps])(d:#[sX])(he:#[nH])(e:k<=j:=by decide)
  (h:eval #[bY] X.env=(do
   let a <- eval o X.env
   standAt bi.atName
   let (f,first) <- holding [a] (getMethod a m pl)
   callWith pos f first (bc pos (aD [] X.env)) #[aR]):=by rfl) :
  PE X #[bY] (Sx C m sp [] E0 ta Pt):=by
 obtain⟨f,fd,F,g,b⟩:=F.ex;exact ZpC he c g F (d.mono e) b .nil Sw h
theorem T9(F:#[gI,Cf,x])(a:#[sX])(ha:#[75])(c:k+1<=j:=by decide)(d:#[uO]:=by rfl)(h:#[j]:=by decide)
  (i:#[h]:=by rfl) (l:#[s]:=by rfl) :
  PE X #[Z] (Mm C sp [] E0 t):=by
 show#[rj,g,b,m];exact Zqd g F (a.mono c) d m b .nil Sw ha h i l
universe E
section
variable {X:Cx} {ah:List (ae×aJ)} {σ:St} {H:Hp} {s:ai} {d:ae} {o:aJ} {u:HO}
theorem Inv.freeze(I:#[i])(e:H d=U u)(a:Mut (U u))(c:s.heap.get? d=U o):Inv X ah σ (upd H d #[l8]) s:=by
 have h:=I.write (x:=d) (e:=d) (o:=.frz o u) (t':=#[wy]) (h':=s.heap) #[ei,e,a] #[8] (λb v _ q=>q) ⟨o,c⟩ ?_
 ·exact h
 ·refine⟨c,(I.hok d u e).stay (λb v _ q=>q) (λb q=>?_) #[qK,b,xs,q]⟩
  ·show#[mx]
  ·show#[mx]
theorem Inv.nofrz(I:#[i])(e:H d=U u)(c:Mut (U u)):∀a b,X.H₀ d≠U (.frz a b):=λa b z=>by have:=I.base.frzs d a b z;rw[e]at this;cases this;exact c
theorem Inv.thaw(I:#[i])(e:H d=U #[l8])(mu:Mut (U u))(n:∀h i,X.H₀ d≠U (.frz h i)):Inv X ah σ (upd H d u) s:=by
 have j:∀b,H b=af->b≠d:=λb z=>Zf (H:=H) e z |>.symm;refine⟨I.ok,I.os,I.bare,⟨I.base.keep,I.base.slot,λb v a1 a2 a3=>?_,I.base.there,λb f q=>?_,λb h i q=>?_,λb l q=>?_⟩,I.loc,I.cell,?_,λx c q=>?_,λp m=>?_,?_,I.len⟩
 ·have:=I.base.free b v a1 a2 a3;rw[Zd (j b this)];exact this
 ·have:=I.base.tups b f q;show#[e1,e]
 ·have:=I.base.frzs b h i q;rw[Zd (λz=>by rw[z]at q;exact n h i q)];exact this
 ·obtain⟨g,this⟩:=I.base.tbls b l q;refine⟨g,?_⟩;show#[e1,e]
 ·rw[Zd (j _ I.free)];exact I.free
 ·rw[Zd (j _ (I.freeC x c q))];exact I.freeC x c q
 ·show#[r4,m];exact⟨a1,by rw[Zd (j _ a2)];exact a2,a3⟩
 ·intro b v q;have own:∀c a,H c=U #[xk]->(upd H d u) c=U #[xk]:=λc a q=>by rw[Zd (λz=>by rw[z,e]at q;cases q)];exact q
  have tup:∀c f,H c=U (.tup f)->(upd H d u) c=U (.tup f):=λc f q=>by rw[Zd (λz=>by rw[z,e]at q;cases q)];exact q
  by_cases k:b=d
  ·show#[hz,k,Zb,q];obtain⟨_,r⟩:=(show Z5 X.prog X.w H s.heap b #[l8] from I.hok b _ e);exact r.stay (λc v _ q=>q) (λc q=>own c b q) tup
  ·rw[Zd k]at q;exact(I.hok b v q).stay (λc v _ q=>q) (λc q=>own c b q) tup
universe E
def ZtY(t:TE):TE:=λb H Q=>X2 λd u=>H d=U u/\Mut (U u)/\t b H λv a=>∃o,a d=U #[l8]/\Q v (upd a d u)
theorem O6{X:Cx}{e:aH}{t:TE}(h:PE X e t):PE X e (ZtY t):=by intro b s c H Q I q;obtain⟨d,u,f,a,q⟩:=q;have n:=I.nofrz f a;refine thn (h b s c H _ I q) ?_;rintro v s1 ⟨x,H1,g,i,o,j,k⟩;exact⟨x,_,g.thaw j a n,i,k⟩
theorem Sh{P:ax}{w:aE}{k:Key}{v:aa}(h:#[th].is k v=true):ZI (kV k) v:=by
 rw[Zk6]at h;rcases Wy h with⟨i,t,rfl,rfl⟩|⟨x,t,rfl,rfl⟩
 ·exact#[sL]
 ·exact#[sL]
def Ll:List V->Hp->VK->Prop:=λxs H Q=>X2 λd kvs=>xs=[.ref d]/\H d=U #[dI]/\∀l,H l=af->Q #[cq] (upd H l (.lst (kvs.map λa=>kV a.1)))
theorem Lk{P:ax}{w:aE}:∀ (kvs:List (Key×V)) (vs:List (Key×aa)) (us:List aa),KV kvs vs->us.length=vs.length->(∀ (j:Nat) (v:aa),us[j]? = U v->∃k x,vs[j]? = U (k,x)/\#[th].is k v=true)->ZK (kvs.map λf=>kV f.1) us:=by
 intro kvs vs us r;unfold KV at r;induction r generalizing us with
 | nil =>
  intro c _;cases us with
  | nil=>exact .nil
  | cons a b=>simp at c
 | @cons p q ps qs h t g =>
  intro c d;cases us with
  | nil=>simp at c
  | cons a b =>
   obtain⟨k,x,e,i⟩:=d 0 a rfl;have l:q=(k,x):=by simpa using e
   rw[Qs];refine .cons ?_ (g b #[el,c] λj v m=>?_)
   ·rw[h.1,l];exact Sh i
   ·simpa using d (j+1) v #[el,m]
theorem Zls{X:Cx}(hc:#[am]):YS X #[d7] Ll:=by intro ah s σ H xs us Q I r h;obtain⟨d,b,rfl,m,q⟩:=h;obtain⟨u,rfl,n⟩:=Xb r;cases n;obtain⟨z,lo,k,f,p⟩:=#[fs,d,b,m];obtain⟨ep,t⟩:=p.dictAt;have hl:b.length=k.length:=f.length;refine PySem.W.kdl_call (PySem.W.kdl_dict lo) #[iy] t #[2] λh' x g c y A l=>?_;have B:ZK (b.map λi=>kV i.1) g.toList:=Lk (P:=X.prog) (w:=X.w) b k g.toList f #[ei,QaB,l.1] λj v e=>l.2 j v #[tF];refine⟨.ref s.heap.objs.size,_,I.laid (a:=#[pQ]) (o:=.lst (b.map λi=>kV i.1)) (t':=x) y #[jJ] ?_,rfl,q _ #[co]⟩;exact⟨by rw[Qa];exact z,g.toList,c,B,by simpa using A⟩
theorem Inv.dictF{X:Cx}{h:#[S]}{i:St}{H:Hp}{s:ai}{d:ae}{o:aJ}{kvs:#[39]}{b:#[lV]}{ep:Nat}(I:#[gY,h,i])(e:H d=U #[31])(hd:#[xH,b]) :
  ∃vs,KV kvs vs/\s.heap.DictAt #[aB] d vs ep:=by
 obtain⟨c,_,_,vs,a,o',uI,uJ,f,j,g,k⟩:=(show Z5 X.prog X.w H s.heap d #[31] from I.hok d _ e);show#[fe,c,f,f];show#[fe,hd,g,g];exact⟨vs,a,o,b,c,j,hd,k⟩
theorem Sg{kvs:#[39]}{vs:List (Key×aa)}(r:#[pr]):∀ (i:Nat) (k:Key) (x:V),kvs[i]? = U (k,x)->∃u,vs[i]? = U (k,u)/\ZI x u:=by
 unfold KV at r;induction r with
 | nil=>intro i k x h;simp at h
 | @cons p q ps qs h t b =>
  intro i k x a;cases i with
  | zero =>
   have e:p=(k,x):=by simpa using a
   refine⟨q.2,?_,?_⟩
   ·have:q=(k,q.2):=by rw[show k=q.1 by rw[<- h.1,e]]
    simpa using this
   ·have:=h.2;show#[rs,e]
  | succ i=>simpa using b i k x #[dr]
noncomputable def Itv(d:ae)(o:aJ)(kvs:#[39]):It :=
 ⟨λi H=>H d=U #[31]/\i<kvs.length,λi H v a=>a=H/\∃k,kvs[i]? = U (k,v),λi H=>H d=U #[31]/\kvs.length<=i⟩
noncomputable def Itk(d:ae)(o:aJ)(kvs:#[39]):It :=
 ⟨λi H=>H d=U #[31]/\i<kvs.length,λi H v a=>a=H/\X2 λk x=>kvs[i]? = U (k,x)/\v=kV k,λi H=>H d=U #[31]/\kvs.length<=i⟩
theorem ZmI{P:ax}{w:aE}{K:#[7]}{N:aH}{d it:ae}{o:aJ}{kvs:#[39]}{O:#[lV]}{ep:Nat}(hd:#[xH,O]):We P w K N (Itv d o kvs) [it] it (λi h=>h.IsValIter it d i kvs.length ep) where
 mem:=by simp
 obj:=λi h st b f=>by
  have e:b=it:=by simpa using f
  show#[46]
 keep:=λi h g st k=>by obtain⟨o,e,r⟩:=st;exact#[wt]
 item:=by intro X m hw n J i L s M H E I j st p;show#[B];obtain⟨u,R,S⟩:=#[qf];refine wpAny_pyNext_values_item #[eJ,l,st] F R λg G T=>?_;show#[al];exact⟨_,rfl,Uj (s:=#[ik,s,g]) W c1 Y #[6] ⟨kvs[i].2,H,U,S,⟨rfl,kvs[i].1,Qb C⟩,G,λb f=>(j b f).1⟩⟩
 done:=by intro X m hw n J i L s M H E I j st p;show#[B];exact wpAny_pyNext_values_end (I.ok.hd J) #[eJ,l,st] F (QP #[2]) λg Z=>⟨rfl,I.turned (t':=#[wy]) #[fy,b,f,Z,f] q t x y A⟩
 self:=#[qW,wpAny_pyIter_valiter]
theorem Znr{P:ax}{w:aE}{K:#[7]}{N:aH}{d it:ae}{o:aJ}{kvs:#[39]}{O:#[lV]}{ep:Nat}(hd:#[xH,O]):We P w K N (Itk d o kvs) [it] it (λi h=>h.IsKeyIter it d i kvs.length ep) where
 mem:=by simp
 obj:=λi h st b f=>by
  have e:b=it:=by simpa using f
  show#[46]
 keep:=λi h g st k=>by obtain⟨o,e,r⟩:=st;exact#[wt]
 item:=by intro X m hw n J i L s M H E I j st p;show#[B];obtain⟨u,R,ru⟩:=#[qf];refine wpAny_pyNext_dict_item #[eJ,l,st] F R λkey g S G T=>?_;show#[al];exact⟨_,rfl,Uj (s:=#[ik,s,g]) W c1 Y #[6] ⟨kV kvs[i].1,H,U,Sh S,⟨rfl,kvs[i].1,kvs[i].2,Qb C,rfl⟩,G,λb f=>(j b f).1⟩⟩
 done:=by intro X m hw n J i L s M H E I j st p;show#[B];exact wpAny_pyNext_dict_end (I.ok.hd J) #[eJ,l,st] F (QP #[2]) λg Z=>⟨rfl,I.turned (t':=#[wy]) #[fy,b,f,Z,f] q t x y A⟩
 self:=#[qW,wpAny_pyIter_keyiter]
def Ztp(b:TE):TI:=#[eW,Itk]
theorem ZqZ{X:Cx}{r l:aH}{g:TE}(hl:PE X l g):PI X r l (Ztp g):=by
 show#[e8,t,u,R];refine thn #[h7,hl,t,u] ?_;rintro v a ⟨x,i,j,w,y⟩;show#[ra,kvs,k,y,w];obtain⟨z,lo,m,c,o,A,ep,n,B,p,C⟩:=(show Z5 X.prog X.w i a.heap d #[dI] from j.hok d _ k);have D:kvs.length=m.length:=c.length;have f:=j.freeze k True.intro n;refine wpAny_pyIter_dict (knd:=ZQ X.prog X.w) (kvs:=m) (ep:=ep) lo ⟨o,A,n,B,p,C⟩ ?_;rw[<- D];refine⟨a.heap.objs.size,[a.heap.objs.size],_,Itk d o kvs,upd i d #[31],rfl,f.kept (t':=a.toks) λb o e=>Qc _ e,Znr p,#[96],λb E=>?_,q o⟩;have e:b=a.heap.objs.size:=by simpa using E
 show#[oe]
def Lj:List V->Hp->VK->Prop:=λxs H Q=>X3 λd kvs ns=>xs=[.ref d]/\H d=U #[dI]/\kvs.map #[T]=ns.map Sum.inl/\ns.length<64 /\
 ∀ (l:ae) (a:List Int),H l=af->a.Perm ns->a.Pairwise (·<=·)->Q #[cq] (upd H l #[hO,a.map])
theorem ZjM{X:Cx}(hc:#[am]):YS X #[qa] Lj:=by
 intro G s J H xs us Q I r h;obtain⟨d,c,n,rfl,K,x,y,q⟩:=h;show#[e9,L];obtain⟨z,lo,A,i,M⟩:=#[fs,d,c,K];show#[ep,ep,N,M.dictAt];have hl:c.length=A.length:=i.length;have Fq:c.length=n.length:=by have:=#[eZ,x];simpa using this
 refine Calls.call_function_entry kind_sorted plain_sorted entry_sorted (args_sorted1 _) ?_;unfold aO.«sorted»;refine aj (m:=checkCount "sorted" 1 1 _) #[py];refine aj (PySem.W.kdu_collect (PySem.W.kdl_dict (knd:=ZQ X.prog X.w) lo) #[iy] N #[2] λf l g O B=>?_);have p:ZK #[pw] g.toList:=Lk (P:=X.prog) (w:=X.w) c A g.toList i #[ei,QaB,B.1] λj v e=>B.2 j v #[tF];have R:#[pw]=n.map V.int:=by
  have:#[pw]=(c.map #[T]).map kV:=by rw[Qk];rfl
  rw[this,x,Qk];rfl
 rw[R]at p;have S:g.toList.length=n.length:=by rw[<- p.length,Qa]
 refine aj (wpAny_newList ?_ (by rw[S];exact Qab #[vP]));have t:(f.push #[jv]).get? f.objs.size=U #[jv]:=Qt _ rfl;show au _ _ _ _ _ { s with heap:=f.push (seqObj "list" g.toList.toArray 0),toks:=l };refine aj (aS (cQ slot_list_sort ⟨_,t,rfl⟩ entry_list_sort (list_sort_tree t (Mb p) #[2] λout C a1 a2 a3=>⟨_,rfl,?_⟩) (args_list_sort _)));refine av #[pV];obtain⟨e,T⟩:=sortedHeap_at (out:=out) t;have D:Inv X G J H { s with heap:=f,toks:=l }:=I.kept (t':=l) O;have W:∀b o,f.get? b=U o->(sortedHeap (f.push #[jv]) f.objs.size g.toList out).get? b=U o:=λb o E=>by have F:=Qm E;rw[sortedHeap_old (QB F) #[eR,size_push',Nat.lt_succ_of_lt,F]];exact Qc _ E
 refine⟨.ref f.objs.size,_,D.laid (a:=f.objs.size) (o:=.lst (C.map V.int)) (t':=l) W #[jJ] ?_,rfl,q _ C (D.hok.fresh #[jJ]) a2 a3⟩;have Y:=a2.length_eq;exact⟨by rw[Qa,Y];exact Qab #[vP],out.toList,e,Pq a1,by simpa using T⟩
def ZtW(b:TE):TI:=#[eW,Itv]
theorem Zq1{X:Cx}{F o:aH}{to:TE}{t u:Pos}(G:#[vo])(J:#[gC,"values"]:=by rfl)(K:#[uS]:=by rfl) :
  PI X F (.Call #[hf,"values",t] [] [] u) (ZtW to):=by
 show#[e8,w,y,R];refine cn J K #[eo,G,w,y];rintro v c ⟨x,k,A,L,M⟩;show#[ra,f,B,M,L];show#[dA];have N:f.length=i.length:=l.length;have O:=#[wM];show#[mV];refine⟨"dict", "dict.values",Q3,PySem.F.slot_dict_values,PySem.F.type_dict_values,p.typeIs,λa e=>?_,?_⟩
 ·cases e;exact⟨g,j,m.2.1⟩
 show#[jt];refine call_meetsIn PySem.F.slot_dict_values p.typeIs PySem.F.entry_dict_values (PySem.F.args_dict_values_1 _) (meets_dict_values #[aB] d lo) ⟨⟨i,p⟩,?_⟩;have P:#[fo,"dict_values"].IsValuesView c.heap.objs.size d:=#[96];have Q:#[fo,"dict_values"].DictAt #[aB] d i D:=⟨g,C,Qc _ j,m,n,E⟩;refine wpAny_pyIter_values (s:=#[hV,c,c.heap.push,"dict_values"]) P Q ?_;rw[<- N];have r:Inv X w y (upd k d #[nx]) { c with heap:=c.heap.push { cls:=.type "dict_values",data:=.fields #[.ref d] } }:=#[rq,O.kept];refine⟨_,[_],_,Itv d g f,upd k d #[nx],rfl,r.kept (t':=c.toks) λb o e=>Qc _ e,ZmI n,#[96],λb S=>?_,q g⟩;have e:=Qi.mp S;show#[pj]
noncomputable def Iti(d:ae)(o:aJ)(kvs:#[39]):It :=
 ⟨λi H=>H d=U #[31]/\i<kvs.length,
  λi H v a=>X3 λp k x=>H p=af/\v=.ref p/\kvs[i]? = U (k,x)/\a=upd H p (.tup [kV k,x]),
  λi H=>H d=U #[31]/\kvs.length<=i⟩
theorem Zlc{P:ax}{w:aE}{K:#[7]}{Q:#[kG]}{R:Nat}{S:Pos}{d it:ae}{o:aJ}{kvs:#[39]}{T:#[lV]}{ep:Nat}(hd:#[xH,T]) :
  We P w K (.Tuple Q R S) (Iti d o kvs) [it] it (λi h=>X2 λok j=>IsItemIter h it d i kvs.length ep ok j) where
 mem:=by simp
 obj:=λi h st b g=>by
  have e:b=it:=by simpa using g
  subst e;show#[vW];show#[eI,a,v,z]
 keep:=λi h p st k=>by obtain⟨ok,j,a⟩:=st;exact⟨ok,j,k it #[4] _ a⟩
 item:=by
  intro X r hw t l i F s G H E I m st x;subst r hw t;show#[vW];show#[iD];obtain⟨u,W,Y⟩:=Sg f i kvs[i].1 kvs[i].2 (Qb A);refine wpAny_pyNext_items_item #[eJ,n,a] C W λD p Z a1 a2 a3 a4=>?_;rw[<- n]at a1;have lt:#[bo]:=λq=>Q7 (Qm q);have J:s.heap.objs.size≠it:=lt a;refine⟨_,rfl,wpAny_letOwnedTupleGo_items a1 λL M mU=>?_⟩;have N:#[xy,it,p,L]:=mU;have I2:Inv X F G (upd H s.heap.objs.size (.tup [kV kvs[i].1,kvs[i].2])) { s with heap:=L,toks:=s.toks }:=by
   refine I.zipped (fp:=[it]) (u:=D) (v:=u) m (Sh Z) Y (N.extBut _ _ J a2) (λb g=>?_) λc o l q=>?_
   ·have e:=Qi.mp g;subst e;exact⟨_,M⟩
   ·have O:c≠it:=λz=>l #[sg,z];exact N.extBut _ _ O (a4 c o O q)
  refine⟨.ref s.heap.objs.size,_,I2,rfl,⟨s.heap.objs.size,kvs[i].1,kvs[i].2,I.fresh,rfl,Qb A,rfl⟩,⟨_,_,M⟩,λb g=>?_⟩;have e:=Qi.mp g;subst e;rw[Zd J.symm];exact(m _ g).1
 done:=by intro X r hw t l i F s G H E I m st x;subst r hw t;show#[vW];show#[sQ];show#[iD];exact wpAny_pyNext_items_end (I.ok.hd l) #[eJ,n,a] C (QP #[2]) λp eb=>⟨rfl,I.turned (t':=#[wy]) #[fy,b,g,eb,g] f0 f1 f3 f4 f5⟩
 self:=λ_ _ _ _ _ st h=>by obtain⟨ok,j,a⟩:=st;exact PySem.W.kcp_self a h
def Zsb(b:TE):TI:=#[eW,Iti]
theorem Zpv{X:Cx}{F:#[kG]}{G:Nat}{J:Pos}{o:aH}{to:TE}{t u:Pos}(K:#[vo])(L:#[gC,"items"]:=by rfl)(M:#[uS]:=by rfl) :
  PI X (.Tuple F G J) (.Call #[hf,"items",t] [] [] u) (Zsb to):=by
 show#[e8,w,y,R];refine cn L M #[eo,K,w,y];rintro v c ⟨x,k,A,N,O⟩;show#[ra,f,B,O,N];show#[dA];have P:f.length=i.length:=l.length;have Q:=#[wM];show#[mV];refine⟨"dict", "dict.items",Q3,QaE,PySem.F.type_dict_items,p.typeIs,λa e=>?_,?_⟩
 ·cases e;exact⟨g,j,m.2.1⟩
 show#[jt];refine call_meetsIn QaE p.typeIs PySem.F.entry_dict_items #[tp] #[tb] ⟨⟨i,p⟩,?_⟩;have S:#[fo,"dict_items"].IsItemsView c.heap.objs.size d:=#[96];have T:#[fo,"dict_items"].DictAt #[aB] d i D:=⟨g,C,Qc _ j,m,n,E⟩;refine wpAny_pyIter_items (s:=#[hV,c,c.heap.push,"dict_items"]) S T ?_;rw[<- P];have r:Inv X w y (upd k d #[nx]) { c with heap:=c.heap.push { cls:=.type "dict_items",data:=.fields #[.ref d] } }:=#[rq,Q.kept];refine⟨_,[_],_,Iti d g f,upd k d #[nx],rfl,r.kept (t':=c.toks) λb o e=>Qc _ e,Zlc n,⟨_,_,Qt _ rfl⟩,λb U=>?_,q g⟩;have e:=Qi.mp U;show#[pj]
def Zrl:R2:=λy x H Q=>X2 λa o=>x=.ref a/\ZM H a y o/\Q (.bl (!o.isSome)) H
def Zuw:R2:=λx y H Q=>X2 λa v=>x=.ref a/\ZM H a y (U v)/\Q v H
section
variable {X:Cx} {k:Nat}
theorem Li(b:#[mB]):OpR X (aU .NotIn) Zrl:=by intro ah s σ H x y v u Q I c d h;obtain⟨a,o,rfl,g,q⟩:=h;cases d;exact Zrj (Sv b) I g c λs3 e=>⟨.bl (!o.isSome),H,e,rfl,q⟩
noncomputable def Ztt:SJ:=λo i v H Q=>X2 λa b=>o=.ref a/\Yz H a i v b/\Q b
theorem XZ(b:#[mB]):PF X Ztt:=by intro ah s σ H o i v ov iv u Q I c d e h;obtain⟨a,f,rfl,g,q⟩:=h;cases c;exact ZnD (Sv b) I g d e λs4 j=>⟨f,j,q⟩
theorem Zlp{prog:ax}{w:aE}{A:aB}{E:#[F]}{s:ai}{value slice:aH}{o i:aa}{T id:String}{Q:#[F]}(b:s.TypeIs o T)
  (hl:typeLookup #[vU] "__getitem__" = pure (U #[xr])) (hs:subscripted slice false o i=operate [o,i] (getItem o i)) (h:au #[p] A (getItem o i) Q E s) :
  au #[p] A (subscriptTail value slice o i) Q E s:=by
 unfold subscriptTail;refine aj ?_;rw[getitemInPython_of_ne b.not_modules];refine aj (wpAny_specialOf b hl ?_);have a:au #[p] A (subscripted slice false o i) (λr c=>au #[p] A (letTemporaryGo value o r >>= λ_=>pure r) Q E c) E s:=by rw[hs];exact wpAny_operating (aZ h (λr c d=>aj (wpAny_letTemporaryGo (av d))) λ_ _ x=>x)
 first
  | exact av (aj a)
  | exact aj (av (aj a))
  | exact aj a
theorem ixG(b:#[mB]):IxR X Zuw:=by intro value slice ah s σ H x y v u Q I c d h e;obtain⟨a,z,rfl,g,q⟩:=h;cases c;exact Zlp (Zkd I g) PySem.F.slot_dict_getitem.lookup e (ZmO (Sv b) I g d λw' s' f i=>⟨z,H,f,i,q⟩)
theorem ZrZ(K:#[7])(h:X.K=K:=by rfl):OpR X (aU .NotIn) (rIn K true):=by subst h;exact Zjr
theorem T8:YS X #[o1] #[iR]:=Zm6
theorem UO(hc:#[am]:=by rfl):YS X #[qa] Lj:=ZjM hc
theorem Lh(hc:#[am]:=by rfl):YS X #[d7] Ll:=Zls hc
universe E
mutual
inductive DH (H:Hp):V->ar->Prop where
 | non:DH H .non .none
 | bl (b:Bool):DH H (.bl b) (.bool b)
 | int (i:Int):DH H (.int i) (.int i)
 | str (s:al):DH H (.str s) (.str s)
 | lst {a:ae} {xs:List V} {ds:List ar}:H a=U (.lst xs)->DHs H xs ds->DH H (.ref a) (.list ds)
 | tup {a:ae} {xs:List V} {ds:List ar}:H a=U (.tup xs)->DHs H xs ds->DH H (.ref a) (.tuple ds)
inductive DHs (H:Hp):List V->List ar->Prop where
 | nil:DHs H [] []
 | cons {x:V} {d:ar} {xs:List V} {ds:List ar}:DH H x d->DHs H xs ds->DHs H (x::xs) (d::ds)
end
mutual
theorem DH.mono{H a:Hp}(s:ZF H a):∀ {x:V} {d:ar},DH H x d->DH a x d
 | _,_,.non=>.non
 | _,_,.bl b=>.bl b
 | _,_,.int i=>.int i
 | _,_,.str z=>.str z
 | _,_,.lst h hs=>.lst (s _ _ h) #[vT]
 | _,_,.tup h hs=>.tup (s _ _ h) #[vT]
theorem DHs.mono{H a:Hp}(s:ZF H a):∀ {xs:List V} {ds:List ar},DHs H xs ds->DHs a xs ds
 | _,_,.nil=>.nil
 | _,_,.cons h hs=>.cons (DH.mono s h) #[vT]
end
mutual
theorem DH.dv{K:#[7]}{H:Hp}:∀ {x:V} {d:ar},DH H x d->DV K H x d
 | _,_,.non=>.non
 | _,_,.bl b=>.bl b
 | _,_,.int i=>.int i
 | _,_,.str z=>.str z
 | _,_,.lst h hs=>.lst (SqL.of h) (DHs.dv hs)
 | _,_,.tup h hs=>.tup (SqT.of h) (DHs.dv hs)
theorem DHs.dv{K:#[7]}{H:Hp}:∀ {xs:List V} {ds:List ar},DHs H xs ds->DVs K H xs ds
 | _,_,.nil=>.nil
 | _,_,.cons h hs=>.cons (DH.dv h) (DHs.dv hs)
end
theorem Zrc{K:#[7]}{a:ae}{xs:#[pO]}{k:Nat}{D:ae}{c:L2.St}{h:Hp}{g:TG}{j:TT}{l:TE}{Q:VK}(Pv:#[aQ])(h0:#[e6,c,h])
  (hl:#[nD])
  (hs:#[43])
  (hd:#[f5,c,xs.length]):WF #[pD] D k c h g j l Q:=by
 show#[88];by_cases q:i<xs.length
 ·show#[82]
 ·have e:#[sS]:=by lia
  show#[hH,f,c]
theorem Lg:∀ (more a:List (Key×V)),((a++more).map #[T]).Nodup->VX a more=a++more
 | [],a,_=>by show a=_;rw[Qai]
 | x::r,a,h=>by
  have hx:Zt a x.1=af:=by
   cases b:Zt a x.1 with
   | none=>rfl
   | some v=>have:=Zqa b;rw[Qd,Qs]at h;have:=(List.nodup_append.mp h).2.2 x.1 this x.1 #[4];exact absurd rfl this
  show VX (YT a x.1 x.2) r=_;rw[VY _ hx,Lg r (a++[x]) #[ei,Qay,h],Qay];rfl
theorem VW{kvs:#[39]}{k:Key}{v:V}(h:Zt kvs k=U v):(k,v)∈kvs:=by
 unfold Zt at h;obtain⟨p,a,rfl⟩:=Qa9.mp h;have b:=List.find?_some a;have c:=Qav a;have:p.1=k:=by simpa using b
 rw[<- this];exact c
theorem Sf{kvs:#[39]}(a:(kvs.map #[T]).Nodup){k:Key}{v:V}(h:(k,v)∈kvs):Zt kvs k=U v:=by
 induction kvs with
 | nil=>cases h
 | cons p r b =>
  obtain⟨c,d⟩:=Q5.mp (by simpa using a:(p.1::r.map #[T]).Nodup);rcases QO.mp h with rfl|h
  ·exact UR rfl
  ·rw[UQ λe=>c (e ▸ Qg (f:=#[T]) h)];exact b d h
theorem Lf{α:Type}(xs:List α):∀n,n<=xs.length->(#[mL].filterMap λi=>xs[i]?)=xs.take n
 | 0,_=>by simp
 | n+1,h=>by
  have a:n<xs.length:=by lia
  rw[QaJ,QaO,Lf xs n #[2],QL];simp[List.getElem?_eq_getElem a]
theorem T7(x:al)(n:Nat):#[rn,x].cps.toList=x.cps.toList.take n:=by
 have hl:x.cps.toList.length=x.length:=by simp[al.length]
 have e:aO.Str.strSliceIndices af (U (n:Int)) 1 x.length=List.range (min n x.length):=by
  unfold aO.Str.strSliceIndices sliceRange;have b:¬ ((n:Int)<0):=by lia
  simp only[show (1:Int)>0 by decide,if_true,b,if_false];have c:max 0 (min (n:Int) #[p4])=#[u6]:=by lia
  rw[c];split
  ·have a:((#[u6]-0+1-1) / 1).toNat=min n x.length:=by rw[Int.ediv_one];lia
   rw[a];have:((λ(k:Nat)=>(#[xh]+1*(k:Int)).toNat))=id:=by funext k;simp
   rw[this,List.map_id]
  ·have a:min n x.length=0:=by lia
   rw[a];rfl
 unfold Txt.slice;rw[e];split
 ·rename_i h;have:min n x.length=x.length:=by simpa using h
  rw[Qx #[2]]
 ·show List.filterMap _ _=_;have:=Lf x.cps.toList (min n x.length) #[2];simp only[Array.getElem?_toList]at this;rw[this];rcases Nat.le_total n x.length with h|h
  ·rw[QaK h]
  ·rw[Nat.min_eq_right h,Qx #[2],Qx #[2]]
universe E.L2
namespace L2
open PySem PySem.Spec PyProof.Rows
theorem ZM.fz{H:Hp}{a:ae}{o:aJ}{kvs:#[39]}{k:Key}{r:Option V}(e:H a=U #[31])(h:Zt kvs k=r):ZM H a (kV k) r:=.inl ⟨kvs,k,.inr ⟨o,e⟩,rfl,h.symm⟩
theorem Zry{d:ae}{o:aJ}{kvs:#[39]}{k:Nat}{D:ae}{a:L2.St}{f:Hp}{g:TG}{h:TT}{j:TE}{Q:VK}(Pv:#[aQ])(h0:#[86])
  (hl:#[i4])
  (hs:∀i k x ys a H,kvs[i]? = U (k,x)->Pv i ys a H->g (kV k) a H λc s=>h c s λb l=>if b=true then j c l λy n=>n D=U #[l6]/\ys.length<ao/\Pv (i+1) #[vx] c #[f0,n,ys,y] else Pv (i+1) ys c l)
  (hd:#[dh]):WF (Itk d o kvs) D k a f g h j Q:=by
 show#[U];by_cases r:i<kvs.length
 ·show#[cV];obtain⟨rfl,k',v,e,rfl⟩:=y;exact hs i k' v ys a _ e p
 ·have e:i=kvs.length:=by lia
  show#[dw]
theorem Zrq{d:ae}{o:aJ}{kvs:#[39]}{k:Nat}{D:ae}{a:L2.St}{f:Hp}{g:TG}{h:TT}{j:TE}{Q:VK}(Pv:#[aQ])(h0:#[86])
  (hl:#[i4])
  (hs:∀i k x ys a H,kvs[i]? = U (k,x)->Pv i ys a H->g x a H λc s=>h c s λb l=>if b=true then j c l λy n=>n D=U #[l6]/\ys.length<ao/\Pv (i+1) #[vx] c #[f0,n,ys,y] else Pv (i+1) ys c l)
  (hd:#[dh]):WF (Itv d o kvs) D k a f g h j Q:=by
 show#[U];by_cases r:i<kvs.length
 ·show#[cV];obtain⟨rfl,k',e⟩:=y;exact hs i k' x ys a _ e p
 ·have e:i=kvs.length:=by lia
  show#[dw]
theorem Zq4{d:ae}{o:aJ}{kvs:#[39]}{k:Nat}{D:ae}{a:L2.St}{f:Hp}{g:TG}{h:TT}{j:TE}{Q:VK}(Pv:#[aQ])(h0:#[86])
  (hl:#[i4])
  (hs:∀i k x ys a H p,kvs[i]? = U (k,x)->Pv i ys a H->H p=af->g #[bS] a (upd H p (.tup [kV k,x])) λc t=>h c t λb l=>if b=true then j c l λy n=>n D=U #[l6]/\ys.length<ao/\Pv (i+1) #[vx] c #[f0,n,ys,y] else Pv (i+1) ys c l)
  (hd:#[dh]):WF (Iti d o kvs) D k a f g h j Q:=by
 show#[U];by_cases s:i<kvs.length
 ·refine .inr ⟨⟨q,s⟩,Pv (i+1),λjd aQ u v=>⟨kvs.length-(i+1),by lia,rfl,s,v⟩,λx u y=>?_⟩;obtain⟨r,k',w,z,rfl,e,rfl⟩:=y;exact hs i k' w ys a H r e p z
 ·have e:i=kvs.length:=by lia
  show#[dw]
noncomputable def off(p:ae)(H:Hp):Hp:=λb=>if b=p then af else H b
theorem Vq{p b:ae}{H:Hp}{o:HO}(h:H b=U o)(n:b≠p):off p H b=U o:=by unfold off;rw[if_neg n];exact h
theorem Zr2{p:ae}{H:Hp}:ZF (off p H) H:=λb o h=>by
 unfold off at h;split at h
 ·cases h
 ·exact h
theorem ZoF{p l:ae}{H:Hp}(h:H l=af):off p H l=af:=by unfold off;split;rfl;exact h
def Zub:V->List V->Hp->VK->Prop:=λx vs H Q=>X4 λa kvs k v=>x=.ref a/\vs=[kV k]/\H a=U #[dI]/\Zt kvs k=U v/\Q v #[uR]
theorem O5{X:Cx}:MtM X "dict.pop" Zub:=by intro ah s σ H x vs v us Q I b c h;obtain⟨a,kvs,k,y,rfl,rfl,d,e,q⟩:=h;cases b;obtain⟨u,rfl,f⟩:=c.one;exact Ztu I d f e #[8] λw' s' g i=>⟨y,_,g,i,q⟩
theorem XY{X:Cx}{s:aI}:PS X s #[nt]:=λah s' σ H D I h=>h.elim
theorem Inv.laidMany{X:Cx}{f:#[S]}{g:St}{H a:Hp}{s:ai}{h':aF}{t':Nat}(I:#[gY,f,g])(k:#[kR])
  (same:#[rO,H,a]) (low:∀b,b<s.heap.objs.size->a b=H b) (new:∀b o,H b=af->a b=U o->Z5 X.prog X.w a h' b o):Inv X f g a { s with heap:=h',toks:=t' }:=by
 refine I.un (t':=t') ⟨λb u q _ _ _=>k b u q,λb u q _ _ _=>⟨u.slots,k b u q⟩,λb u q n _=>by rw[low b (Qm q)];exact n,λb u q _=>⟨u,k b u q⟩,λb h q=>same b _ q,λb u h q=>same b _ q,λb ps q=>⟨#[],by rw[same b _ q];simp⟩⟩ λb u e=>?_;cases d:H b with
 | none=>exact new b u d e
 | some v=>have:=same b v d;show#[hR,e];exact(I.hok b _ d).stay (λc x _ q=>k c x q) (λc q=>same c _ q) λc h q=>same c _ q
noncomputable def Vp(a:#[je])(l:ae)(H:Hp):Hp:=λb=>if b=l then U #[fv,a.map] else
 match a.find? λt=>decide (t.1=b) with
 | some t=>U #[d8]
 | none=>H b
theorem Le(a:#[je])(l:ae)(H:Hp):Vp a l H l=U #[fv,a.map]:=by unfold Vp;rw[if_pos rfl]
theorem Zq9{a:#[je]}(nd:(a.map #[T]).Nodup){t:ae×Key×V}(h:t∈a):(a.find? λx=>decide (x.1=t.1))=U t:=by
 induction a with
 | nil=>cases h
 | cons x r b =>
  rw[Qs,Q5]at nd;rw[QY];rcases QO.mp h with rfl|h
  ·show#[v6]
  ·rw[decide_eq_false (λz:x.1=t.1=>nd.1 (by rw[z];exact Qg (f:=λx:ae×Key×V=>x.1) h))];exact b nd.2 h
theorem Ld{a:#[je]}{l:ae}{H:Hp}(nd:(a.map #[T]).Nodup)(hl:l ∉ a.map #[T]){t:ae×Key×V}(h:t∈a):Vp a l H t.1=U #[d8]:=by unfold Vp;rw[if_neg (λz:t.1=l=>hl #[hg,z,h]),Zq9 nd h]
theorem Se{a:#[je]}{l:ae}{H:Hp}{b:ae}(hl:b≠l)(h:b ∉ a.map #[T]):Vp a l H b=H b:=by
 unfold Vp;rw[if_neg hl];cases e:a.find? λt=>decide (t.1=b) with
 | none=>rfl
 | some t=>have c:=List.find?_some e;have d:=Qav e;have g:t.1=b:=of_decide_eq_true c;exact absurd #[hg,g,d] h
def Zm0(to:TE):TE:=λf H Q=>to f H λx a=>X2 λd kvs=>x=.ref d/\a d=U #[dI] /\
 ∀ (l:ae) (e:List (ae×Key×V)) (c:Hp),a l=af->e.map #[uQ]=kvs->(∀t∈e,a t.1=af/\c t.1=U #[d8])->#[q9,o,a,c]->c l=U #[fv,e.map]->Q #[cq] c
theorem ZkR{X:Cx}{o:aH}{to:TE}{B C pos p:Pos}(hc:#[am])(D:Gl X "list")(hm:X.mg "list" = af)(ho:#[vo])(eF:#[gC,"items"]:=by rfl)(fV:(B.endLine == C.line)=true:=by rfl)
  (Z:aD [.Call #[oY] [] [] C] X.env=[(false,eval (.Call #[oY] [] [] C) X.env)]:=by rfl) :
  PE X (.Call (.Name "list" p) [.Call #[oY] [] [] C] [] pos) (Zm0 to):=by
 show#[e8,ah,σ,Q];refine ba (V1 I D hm boot_list ?_ #[6] #[6]);refine Q2 (e:=.Call #[oY] [] [] C) (rest:=[]) ?_ Z rfl;rw[Z];refine Calls.spliced_cons ?_;refine cn eF fV #[eo,ho,ah,σ];rintro v i ⟨x,M,J,r1,q1⟩;show#[ra,l,hd,q1,r1];obtain⟨z,lo,K,E,N,es,ep,O,P,h3,h4⟩:=(show Z5 X.prog X.w M i.heap d (.dK l) from J.hok d _ hd);have bb:l.length=K.length:=E.length;have R:i.heap.DictOf #[aB] d K:=⟨N,es,ep,O,P,h3,h4⟩;refine⟨"dict", "dict.items",Q3,QaE,PySem.F.type_dict_items,R.typeIs,λa e=>?_,?_⟩
 ·cases e;exact⟨N,O,P.2.1⟩
 show#[jt];refine call_meetsIn QaE R.typeIs PySem.F.entry_dict_items #[tp] #[tb] ⟨⟨K,R⟩,?_⟩;have hv:#[D].IsItemsView i.heap.objs.size d:=#[96];have da:#[D].DictAt #[aB] d K ep:=⟨N,es,Qc _ O,P,h3,h4⟩;refine Calls.spliced_nil ?_;refine PySem.W.kdx_call (s:=#[hV,i,i.heap.push,"dict_items"]) (J.ok.hd hc) hv da #[2] λh' tk bj c F k hL AM S jz=>?_;have lT:#[D].objs.size=i.heap.objs.size+1:=QW _ _;have gJ:F.length=l.length:=by lia
 obtain⟨n,w,L⟩:∃n:List (ae×Key×V),n.map (·.1)=F/\n.map (·.2)=l:=⟨F.zip l,by rw[List.map_fst_zip #[2]],by rw[List.map_snd_zip #[2]]⟩;have G:∀a∈F,i.heap.objs.size+1<a:=λa ha=>by have:=S.above a ha;show#[rs,lT]
 have T:(n.map #[T]).Nodup:=by rw[w];exact S.rise.imp λh=>QB h
 have W:#[D].objs.size ∉ n.map #[T]:=by rw[w];intro z;have:=G _ z;lia
 have A:∀b,i.heap.objs.size<=b->M b=af:=λb g=>J.hok.fresh g;have tup:∀t∈n,X2 λm u=>ZI (kV t.2.1) m/\ZI t.2.2 u/\h'.get? t.1=U { cls:=.type "tuple",data:=.seq #[m,u] }:=λt y=>by
  obtain⟨j,hj⟩:=Qak.mp y;have ja:F[j]? = U t.1:=by rw[<- w,Qp,hj];rfl
  have jk:l[j]? = U (t.2.1,t.2.2):=by rw[<- L,Qp,hj];rfl
  obtain⟨m,k',x,xL,j6,D⟩:=S.pairs j t.1 ja;obtain⟨u,hu,Y⟩:=Sg E j t.2.1 t.2.2 jk;show#[fe,xL,hu,hu];exact⟨m,_,Sh j6,Y,D⟩
 refine⟨.ref #[D].objs.size,Vp n #[D].objs.size M,?_,rfl,q _ n _ (A _ #[2]) L (λt y=>⟨A _ ?_,Ld T W y⟩) #[qK,b,o,g] (Le _ _ _)⟩
 ·refine J.laidMany (h':=h') (t':=tk) (λb u e=>k b u (Qc _ e)) #[qK,b,o,g] (λb g=>?_) (λb o hn g=>?_)
  ·show#[bN]
  ·exact Se (by rw[lT];exact QB (Nat.lt_succ_of_lt g)) (λz=>by rw[w]at z;have:=G b z;lia)
  ·by_cases h5:b=#[D].objs.size
   ·show#[hz,h5,Le,g];refine⟨by have:=#[eZ,L];rw[Qa]at this ⊢;lia,bj.toList,c,?_,by simpa using hL⟩;rw[jz,<- w,Qk];clear w L T W tup;induction n with
    | nil=>exact .nil
    | cons t r ih=>exact .cons rfl ih
   ·by_cases h6:b∈n.map #[T]
    ·show#[en,t,y,h6];rw[Ld T W y]at g;cases g;obtain⟨m,u,rk,Y,D⟩:=tup t y;exact⟨by show 2<=ao;decide,[m,u],.cons rk #[xT,Y],_,D,rfl,_,rfl⟩
    ·rw[Se h5 h6,hn]at g;cases g
 ·have:=G t.1 #[hg,w,y];lia
 ·show#[bN]
theorem Zr5{X:Cx}{k:Nat}{o e:aH}{b ty:TE}{c a:Pos}(f:#[mB])(g:PE X o b)(he:PE X e ty)(hb:#[gC,"get"]:=by rfl)
  (h:(c.endLine == a.line)=true:=by rfl) (d:bc a #[w4]=[#[k4]]:=by rfl):PE X (.Call #[hf,"get",c] [e] [] a) (Lm b ty):=by
 refine ZpV (Sv f) g he ⟨hb,?_,h,d⟩;rw[d];rfl
section
variable {X:Cx}
theorem Lc{x:al}{n:Int}{pos:Pos}(hm:∃tk,X.mg x=U (.int n tk))(a:#[uO]:=by rfl)(hd:#[j]:=by decide):PE X #[bX] (tC (.int n)):=by obtain⟨tk,h⟩:=hm;exact Zrt a h ⟨tk,rfl⟩ hd
universe E
section
variable {X:Cx}
theorem Lb:OpR X (aU .GtE) (λx y H Q=>X2 λi j=>x=.str i/\y=.str j/\Q (.bl (!decide #[uf])) H):=by intro ah s σ H x y v u Q I a b h;obtain⟨i,j,rfl,rfl,q⟩:=h;obtain⟨t,rfl⟩:=a;obtain⟨t',rfl⟩:=b;exact PySem.P.ge_str (ZY I q rfl)
universe E
def Zu1(t u:TS):TS:=λD c H=>∃M:St->Hp->Prop,t { D with nx:=M } c H/\∀a b,M a b->u D a b
theorem W4{X:Cx}{st:aI}{rest:#[ou]}{t u:TS}(h1:PS X st t)(h2:PSs X rest u):PSs X (st::rest) (Zu1 t u):=by
 show#[e8,a,d,D];show#[hU,M,h,e,h];refine wpAny_execs_cons (thn (h1 a s d H { D with nx:=M } I h) λf g q=>?_);cases f with
 | next=>obtain⟨b,c,i,q⟩:=q;exact h2 a g b c D i (e b c q)
 | ret v=>exact q
 | brk=>exact q
 | cont=>exact q
noncomputable def apart:List Int->Bool
 | []=>true
 | x::r=>r.all (λy=>x != y)&&apart r
structure CompScC (N N':#[Q]) (o c:bh):Prop where
 kind:c.kind=.function
 okind:o.kind=.function
 cel:∀y∈c.names,y.2=.cell->c.names.lookup y.1=U .cell
 loc:∀y∈c.names,y.2=.local->c.names.lookup y.1=U .local
 free:∀y∈c.names,y.2=.free->c.names.lookup y.1=U .free/\#[wq]
 len:N.length<=N'.length
 same:∀i∈List.range N.length,∀x∈N'[i]?,c.names.lookup x=U .local\/c.names.lookup x=U .free\/c.names.lookup x=U .cell->c.names.lookup x=U .free/\N[i]? = U x
 nd:N'.Nodup
universe E.L2
namespace L2
open PySem PySem.Spec PyProof.Rows
def Has(b:#[az])(p:Keyed):Prop:=∃a,b.keyOf p.1=U a
noncomputable def kyd(a:#[az])(p:Keyed):a.α:=(a.keyOf p.1).getD a.dflt
section
variable {κ:PyProof.Rows.KeyKind}
def kS(κ:#[az])(l:#[vq]):Prop:=l.Pairwise λp q=>κ.kle (kyd κ p) (kyd κ q)
def kLe(κ:#[az])(l m:#[vq]):Prop:=∀x∈l,∀y∈m,κ.kle (kyd κ x) (kyd κ y)
structure Mg (κ:#[az]) (all out l m:#[vq]):Prop where
 perm:(out++(l++m)).Perm all
 so:kS κ out
 sl:kS κ l
 sm:kS κ m
 ol:kLe κ out l
 om:kLe κ out m
structure Mh (κ:#[az]) (all l m out:#[vq]):Prop where
 perm:((l++m)++out).Perm all
 so:kS κ out
 sl:kS κ l
 sm:kS κ m
 lo:kLe κ l out
 mo:kLe κ m out
structure LoPre (κ:#[az]) (a b:#[s5]):Prop where
 ha:∀p∈a.toList,Has κ p
 hb:∀p∈b.toList,Has κ p
 sa:kS κ a.toList
 sb:kS κ b.toList
 a0:0<a.size
 b0:0<b.size
 fst:∀i,i<a.size->κ.kle (KK κ b 0) (KK κ a i)
 lst:∀i,i<b.size->κ.kle (KK κ b i) (KK κ a (a.size-1))
def Lo(κ:#[az])(a b out:#[s5])(c d:Nat):Prop:=Mg κ (a.toList++b.toList) out.toList (a.toList.drop c) (b.toList.drop d)
variable {a b out:Array Keyed} {ia ib:Nat}
variable {na nb:Nat}
universe E
noncomputable def La:Nat->List (List Keyed)->List (Nat×Nat)
 | _,[]=>[]
 | o,r::a=>(o,r.length)::La (o+r.length) a
noncomputable def ZuA(p:Nat×Nat×Nat):Nat×Nat:=(p.1,p.2.1)
section
variable {prog:ax} {w:aE} {A:aB} {E:aa->ai->Prop} {s:ai} {κ:PyProof.Rows.KeyKind} {k0:SortKind} {st:SortSt} {gS:Array Keyed}
structure Rn (κ:#[az]) (k0:SortKind) (gS:#[s5]) (st:SortSt) (rs:List (List Keyed)) (rest:#[vq]):Prop where
 kind:kindOf st=k0
 failed:failedOf st=af
 arr:#[vG].toList=rs.flatten++rest
 perm:#[vG].Perm gS
 srt:∀r∈rs,kS κ r
 ne:∀r∈rs,r≠[]
 pend:(pendingOf st).toList.map ZuA=La 0 rs
universe E
section
variable {prog:ax} {w:aE} {A:aB} {E:aa->ai->Prop} {s:ai} {κ:PyProof.Rows.KeyKind} {k0:SortKind} {st uZ:SortSt} {gS:Array Keyed} {α:Type} {lo:Nat}
structure Ph (k0:SortKind) (gS:#[s5]) (lo:Nat) (uZ st:SortSt):Prop where
 kind:kindOf st=k0
 failed:failedOf st=af
 pend:pendingOf st=pendingOf uZ
 perm:#[vG].Perm gS
 pre:∀k,k<lo->#[vG][k]? = (arrOf uZ)[k]?
universe E
universe E.L2
set_option maxHeartbeats 4000000
namespace L2
open PySem PySem.Spec PyProof.Rows
variable {X:Cx}
universe E.L2
set_option maxHeartbeats 4000000
namespace L2
open PySem PySem.Spec PyProof.Rows
@[reducible] def intKd:PyProof.Rows.KeyKind where
 α:=Int
 blt a b:=decide (a<b)
 irrefl a:=by simp
 trans a b c h1 h2:=by simp only[decide_eq_true_eq]at *;lia
 negTrans a b c h:=by
  simp only[decide_eq_true_eq]at *
  lia
 total a b h1 h2:=by simp only[decide_eq_false_iff_not]at *;lia
 keyOf v:=match v with|.int x _=>U x|_=>af
 dflt:=0
def rSrtIA(K:#[7]):List V->Hp->VK->Prop:=λxs H Q=>X2 λ(p:ae) (ns:List Int)=>xs=#[jN]/\SqL K H p #[C]/\∀ (l:ae) (a:List Int),H l=af->a.Perm ns->a.Pairwise (·<=·)->Q #[cq] (upd H l #[hO,a.map])
universe E.L2
set_option maxHeartbeats 4000000
namespace L2
open PySem PySem.Spec PyProof.Rows
noncomputable def txt:aa->al
 | .str x _=>x
 | _ => ""
section
variable {prog:ax} {w:aE} {A:aB} {E:aa->ai->Prop} {s:ai}
def Zud(w:aE)(a:#[vs]):Prop:=∀e∈a.toList,X2 λx u=>e.2=.str x u/\e.1=MP w (.inr x)
noncomputable def K9(a:#[vs]):List al:=a.toList.map λe=>txt e.2
structure SetAt (w:aE) (L:Bool) (T:al->Prop) (o:aJ) (es:#[vs]) (ep:Nat) (t:SetTable):Prop where
 ex:o.ExactSet
 da:o.data=.set es ep t
 el:Zud w es
 nd:(K9 es).Nodup
 me:∀x,T x↔x∈K9 es
 sz:es.size<scanBound
 ft:t.fits es.size=true
 ld:t.led=L
 pl:es.size≠0->t.plain=false
universe E
universe E.L2
set_option maxHeartbeats 4000000
namespace L2
open PySem PySem.Spec PyProof.Rows
universe E.L2
namespace L2
open PySem PyProof.Rows
section
variable {X:Cx} {xe:aa->ai->Prop}
theorem PSs.wish{st:#[ou]}{t:TS}(h:PSs (X.wish xe) st t)(hx:∀e s,xe e s->X.xe e s):PSs X st t:=λa s b H D I hw=>aZ (h a s b H D (I.wish _) hw) (λ_ _ q=>q.unwish) hx
universe E
def O4(a:#[mj])(e:ae)(h h':aF):Prop:=(∀b o,h.get? b=U o->b≠e->b ∉ a->h'.get? b=U o)/\∀b o,h.get? b=U o->b≠e->∃sl,h'.get? b=U { o with slots:=sl }
def WQ(B:aF)(a:#[mj])(h:aF):Prop:=(∀b o,B.get? b=U o->b ∉ a->h.get? b=U o)/\∀b o,B.get? b=U o->∃sl,h.get? b=U { o with slots:=sl }
theorem WQ.keep{B:aF}{d:#[mj]}{e:ae}{h h':aF}(a:WQ B d h)(he:B.get? e=af)(k:O4 d e h h'):WQ B d h' :=
 ⟨λb o c n=>k.1 b o (a.1 b o c n) (λz=>by rw[z,he]at c;cases c) n,λb o c=>by obtain⟨sl,f⟩:=a.2 b o c;obtain⟨g,i⟩:=k.2 b _ f (λz=>by rw[z,he]at c;cases c);exact⟨g,i⟩⟩
structure Yh (NB:#[wF]) (h:aF) (e:ae) (cls:aa) (dd:#[dB]) (fl:aa):Prop where
 ex:X5 λoe vs T oT ts=>h.get? e=U oe/\oe.cls=cls/\oe.dict=dd/\oe.data=.fields vs/\vs[1]? = U (.ref T)/\T≠e/\h.get? T=U oT/\oT.data=.fields ts/\ts[3]? = U fl/\NB T
structure T6 (h:aF) (e:ae) (cls:aa) (dd:#[dB]):Prop where
 ex:X2 λoe vs=>h.get? e=U oe/\oe.cls=cls/\oe.dict=dd/\oe.data=.fields vs/\vs[1]? = U .none
section
variable {M:Model} {A:aB} {E:aa->ai->Prop} {s:ai} {env:Env} {outer:List Env} {base:aF} {L e:ae} {cls:aa} {dd:Option ae} {Q:Unit->ai->Prop}
theorem ZhS(o:aJ)(f:Array aa->Array aa):(aJ.mapFields f o).dict=o.dict:=by unfold aJ.mapFields;split<;>rfl
theorem K8{d:aJ}{vs:#[p1]}{l:aa}{u:Bool}(v:#[dZ])(hl:#[ju])(w:#[lO])
  (he:s.heap.get? e=U d) (hd:d.data=.fields vs) (hsz:1<vs.size) (x:#[iG])
  (h:∀h',O4 #[29] e s.heap h'->(∀NB:ae->Prop,(∀T,s.heap.objs.size<=T->NB T)->Yh NB h' e d.cls d.dict (rawInt L))->Q () { s with heap:=h' }) :
  au M A (do let a <- frameOf env;let g <- entryPlaceOf L u;let b <- EntryCells.newEntry l a .none (rawInt L) .none g;setField #[aL] 1 b) Q E s:=by
 refine aj (wpAny_frameOf_fun v hl w λc i=>?_);refine aj (wpAny_entryPlaceOf λg m=>?_);unfold EntryCells.newEntry newFields;refine aj (bV ?_ (m.sizeOk5 _ _ _ _ _));have n:c.get? e=U d:=(i.2.1 e x).trans he;have p:c.objs.size≠e:=Q7 (Qm n);generalize q:({ cls:=.type "traceback",dict:=af,data:=.fields ([l,.ref L,.none,rawInt L,.none]++(if g.isEmpty then List.replicate 6 aa.none else g)).toArray }:aJ)=j;have r:(c.push j).get? e=U d:=Qc _ n;have t:=aJ.data_mapFields hd #[d1];have y:=QS (aJ.mapFields #[d1]) r (aJ.isFreed_of_fields t);have k:∀b,b≠e->((c.push j).update e (aJ.mapFields #[d1])).get? b=(c.push j).get? b:=#[rC,f];refine wpAny_setField r hd hsz (h _ ⟨λb o f nb z=>?_,λb o f nb=>?_⟩ (λB C=>⟨_,_,c.objs.size,j,_,y,aJ.cls_mapFields _ _,ZhS _ _,t,by simp[hsz],p,(k _ p).trans (Qt c (by rw[<- q];rfl)),by rw[<- q],?_,?_⟩))
 ·rw[k b nb];exact Qc _ ((i.2.1 b z).trans f)
 ·obtain⟨D,F⟩:=i.2.2 b o f;exact⟨D,by rw[k b nb];exact Qc _ F⟩
 ·first|(simp;done)|(rcases m with rfl|⟨_,_,_,_,_,_,_,rfl⟩<;>simp)
 ·exact C _ (Nat.le_of_eq i.1.symm)
theorem ZoQ{NB:#[wF]}(g:#[ss])(i:#[dZ])(hl:#[ju])(c:#[lO])(hx:T6 s.heap e cls dd)
  (h:∀h',O4 #[29] e s.heap h'->Yh NB h' e cls dd (rawInt L)->Q () { s with heap:=h' }):au M A #[kJ] Q E s:=by
 obtain⟨oe,j,a,rfl,rfl,b,d⟩:=hx.ex;have l:#[iG]:=λm=>by obtain⟨_,o,f,n⟩:=hl.mem m;show#[fe,a,f,f];exact n j b
 unfold noteFrame;simp only[c];refine aj (aW a b d ?_);rw[if_neg #[6]];exact K8 i hl c a b (Qat.mp d).1 l λh' k x=>h h' k (x NB g)
theorem Zql{B:aF}{NB:#[wF]}(D:#[ss])(hB:∀T,NB T->B.get? T=af)(F:#[dZ])(hl:#[ju])(p:#[lO])(G:B.get? e=af)(q:WQ B #[29] s.heap)(hx:Yh NB s.heap e cls dd .none)
  (h:#[bt]):au M A #[kJ] Q E s:=by
 obtain⟨oe,g,T,oT,H,i,rfl,rfl,j,r,t,d,l,u,I⟩:=hx.ex;have J:=hB T I;have K:#[iG]:=λN=>by obtain⟨_,o,v,c⟩:=hl.mem N;show#[fe,i,v,v];exact c g j
 unfold noteFrame;simp only[p];refine aj (aW i j r ?_);rw[if_pos #[cY]];refine aj (aW d l u ?_);rw[if_neg (show ¬ ((aa.none == rawInt L)=true) from by simp[rawInt])];refine aj (wpAny_setField d l (Qat.mp u).1 ?_);have f:∀b,b≠T->#[a1].get? b=s.heap.get? b:=#[rC,a];have w:#[uC]:=λb o a z=>by rw[z,J]at a;cases a
 have O:WQ B #[29] #[a1]:=⟨λb o a m=>(f b (w b o a)).trans (q.1 b o a m),λb o a=>by obtain⟨y,n⟩:=q.2 b o a;exact⟨y,(f b (w b o a)).trans n⟩⟩;have P:#[j0]:=λb o a c z=>by rw[z,d]at a;cases a;exact c H l
 have C:#[a1].FunFrames base (env::outer):=hl.of_keeps λb o a c=>⟨o,(f b (P b o a c)).trans a,rfl⟩;refine K8 (s:={ s with heap:=s.heap.update T (aJ.mapFields (·.setIfInBounds 3 aa.none)) }) F C p ((f e (Ne.symm t)).trans i) j (Qat.mp r).1 K λh' k x=>h h' (O.keep G k) ?_ (x NB λT d=>D T (by rw[aF.size_update]at d;exact d));exact C.of_keeps λb o a c=>by obtain⟨y,n⟩:=k.2 b o a (λz=>by rw[z]at a;rw[(f e (Ne.symm t)).trans i]at a;cases a;exact c g j);exact⟨_,n,rfl⟩
theorem Zly{NB:#[wF]}(a:#[lO])(hx:Yh NB s.heap e cls dd (rawInt L))(h:Q () s):au M A #[kJ] Q E s:=by obtain⟨oe,vs,T,oT,ts,b,rfl,rfl,c,d,qr,f,g,i,u9⟩:=hx.ex;unfold noteFrame;simp only[a];refine aj (aW b c d ?_);rw[if_pos #[cY]];refine aj (aW f g i ?_);rw[if_pos (show (rawInt L == rawInt L)=true from by simp)];exact av h
theorem O3{B:aF}{NB:#[wF]}(hB:∀T,NB T->B.get? T=af){k:#[mj]}{y:aa}{F:#[dB]}{l:#[ow]}(hl:s.heap.FunFrames base l)(n:WQ B k s.heap)(hx:Yh NB s.heap e cls dd y)
  (h:∀h',WQ B k h'->h'.FunFrames base l->Yh NB h' e cls dd (F.elim .none λf=>rawInt f)->Q () { s with heap:=h' }):au M A (setFlight #[aL] F) Q E s:=by
 obtain⟨C,g,T,oT,p,q,rfl,rfl,r,t,u,i,c,D,v⟩:=hx.ex;have G:=hB T v;have w:3<p.size:=(Qat.mp D).1;have d:∀b,b≠T->(s.heap.update T (aJ.mapFields (·.setIfInBounds 3 (F.elim aa.none λf=>rawInt f)))).get? b=s.heap.get? b:=#[rC,a];have x:#[uC]:=λb o a z=>by rw[z,G]at a;cases a
 have H:#[j0]:=λb o a j z=>by rw[z,i]at a;cases a;exact j p c
 unfold setFlight;refine aj (aW q r t ?_);rw[if_pos #[cY]];refine wpAny_setField i c w (h _ ⟨λb o a m=>(d b (x b o a)).trans (n.1 b o a m),λb o a=>?_⟩ (hl.of_keeps λb o a j=>⟨o,(d b (H b o a j)).trans a,rfl⟩) ⟨C,g,T,_,_,(d e (Ne.symm u)).trans q,rfl,rfl,r,t,u,QS _ i (aJ.isFreed_of_fields (aJ.data_mapFields c _)),aJ.data_mapFields c _,by simp[w],v⟩);obtain⟨I,J⟩:=n.2 b o a;exact⟨I,(d b (x b o a)).trans J⟩
universe E
structure T5 (B base:aF) (NB:#[wF]) (env:Env) (outer:#[ow]) (L e:ae) (cls:aa) (dd:#[dB]) (h:aF):Prop where
 st:WQ B #[29] h
 fun_:h.FunFrames base (env::outer)
 new:B.get? e=af
 nb:∀T,h.objs.size<=T->NB T
 hB:∀T,NB T->B.get? T=af
 ex:T6 h e cls dd\/Yh NB h e cls dd .none\/Yh NB h e cls dd (rawInt L)
section
variable {M:Model} {A:aB} {E:aa->ai->Prop} {s:ai} {env:Env} {outer:List Env} {B base:aF} {NB:ae->Prop} {L e:ae} {cls:aa} {dd:Option ae} {Q:Unit->ai->Prop}
theorem T5.noted(hx:#[mZ])(d:#[dZ])(a:#[lO])
  (h:#[bt]):au M A #[kJ] Q E s:=by
 rcases hx.ex with x|x|x
 ·refine ZoQ hx.nb d hx.fun_ a x λh' k f=>h h' (hx.st.keep hx.new k) ?_ f;obtain⟨oe,g,i,_,_,j,_⟩:=x.ex;refine hx.fun_.of_keeps λb o c l=>?_;obtain⟨sl,m⟩:=k.2 b o c (λz=>by rw[z,i]at c;cases c;exact l g j);exact⟨_,m,rfl⟩
 ·exact Zql hx.nb hx.hB d hx.fun_ a hx.new hx.st x h
 ·exact Zly a x (h s.heap hx.st hx.fun_ x)
theorem T5.leaves(hx:#[mZ])(d:#[dZ])(f:#[lO])
  (h:∀h',WQ B #[29] h'->h'.FunFrames base (env::outer)->Yh NB h' e cls dd .none->Q () { s with heap:=h' }):au M A (leaving env #[aL]) Q E s:=by
 unfold leaving;refine aj (hx.noted d f λg a b c=>?_);exact O3 hx.hB (s:=#[ik,s,g]) (F:=af) b a c h
universe E
open PySem.W (hideAll hideAll_none hideAll_get hideAll_size of_hideAll)
def NB(lo:Nat)(H:Hp)(ps:#[mj])(T:ae):Prop:=lo<=T/\H T=af/\T ∉ ps
def CX1(P:ax)(w:aE):CXT:=λouter H s E c s'=>X4 λ(e:ae) (cls:aa) (b:Option ae) (a:Hp)=>c=.ref e/\s.heap.objs.size<=e/\a e=af/\Yh (NB s.heap.objs.size a []) s'.heap e cls b .none /\
 s'.os=s.os/\AllBare s'.gens/\Un (frs outer) [] H a s.heap s'.heap/\HOk P w a s'.heap/\E cls b a
def XE(X:Cx)(E:St->XK):aa->ai->Prop:=λg s'=>X6 λ(e:ae) (cls:aa) (b:Option ae) (d:List (ae×aJ)) (f:St) (a:Hp)=>g=.ref e/\X.s₀.heap.objs.size<=e/\e≠X.env.locals/\#[qz,c,e]/\a e=af/\Inv X d f a s'/\(∀p∈X.pn++d,p.1≠e) /\
 (T6 s'.heap e cls b\/Yh #[lh] s'.heap e cls b .none\/Yh #[lh] s'.heap e cls b #[nM])/\E f cls b a
section
variable {X:Cx} {ah:List (ae×aJ)} {σ:St} {H:Hp} {s s':ai} {E:St->XK}
theorem Inv.refused(I:#[i]){r:aa}(h:CX1 X.prog X.w X.stack H s (E σ) r s'):XE X E r s':=by
 obtain⟨e,cls,y,u,rfl,w,A,B,os,f,un,j,q⟩:=h;have i:#[ne]:=I.sz;have C:Inv X ah σ u s':=by obtain⟨D,g,d,t,F⟩:=s';obtain rfl:F=s.os:=os;exact I.call (h':=D) (g':=g) (d':=d) (t':=t) (ch:=[]) un j f (λb z=>absurd z #[4])
 have k:∀a o,s.heap.get? a=U o->a≠e:=λa o G z=>by have:=Qm G;show#[hh,z,w]
 refine⟨e,cls,y,ah,σ,u,rfl,Ql i w,λz=>?_,λx c J z=>?_,A,C,λp l z=>?_,.inr (.inl ?_),q⟩
 ·show#[ih,n,I.loc,k]
 ·obtain⟨v,o,n,_⟩:=I.cell x c J;exact k _ _ n z
 ·exact k _ _ (I.pin p l).1 z
 ·obtain⟨K,L,T,M,N,a1,a2,a3,a4,a5,a6,a7,a8,a9,a10⟩:=B.ex;refine⟨K,L,T,M,N,a1,a2,a3,a4,a5,a6,a7,a8,a9,Ql i a10.1,a10.2.1,λO=>?_⟩;show#[qS,p,l,P,Qq.mp,O];have:=Qm (I.pin p l).1;show#[hh,P,a10.1]
theorem Inv.fly{e:ae}{cls:aa}{g:#[dB]}(I:#[i])(t:#[k2])(he:#[wa])(K:e≠X.env.locals)(L:#[nm])(N:H e=af)(O:#[q8,ah,e])
  (hx:T6 s.heap e cls g\/Yh #[pb] s.heap e cls g .none\/Yh #[pb] s.heap e cls g #[nM]) :
  X2 λ(B:aF) (M:ae->Prop)=>T5 B X.base M X.env X.outer X.env.locals e cls g s.heap/\(∀T,M T->NB X.s₀.heap.objs.size H #[bZ] T)/\∀h',WQ B ((X.env::X.outer).filterMap (·.frame)) h'->Inv X ah σ H { s with heap:=h' }:=by
 have w:#[ne]:=I.sz;obtain⟨ch,A,P⟩:∃ch:List ae,(e∈ch/\∀T∈ch,T=e\/(NB X.s₀.heap.objs.size H ((X.pn++ah).map (·.1)) T/\X2 λo h=>s.heap.get? T=U o/\o.data=.fields h)) /\
   (T6 s.heap e cls g\/Yh #[iS] s.heap e cls g .none\/Yh #[iS] s.heap e cls g #[nM]):=by
  rcases hx with x|x|x
  ·exact⟨[e],⟨List.mem_singleton.mpr rfl,λT d=>.inl (Qi.mp d)⟩,.inl x⟩
  ·show#[ls];refine⟨[e,T],#[wu],.inr (.inl #[i9])⟩;show#[60];rcases d with z|z
   ·exact .inl z
   ·show#[vi]
  ·show#[ls];refine⟨[e,T],#[wu],.inr (.inr #[i9])⟩;show#[60];rcases d with z|z
   ·exact .inl z
   ·show#[vi]
 have R:∀T∈ch,H T=af:=λT d=>by
  rcases A.2 T d with z|z
  ·rw[z];exact N
  ·exact z.1.2.1
 have big:∀T,s.heap.objs.size<=T->NB X.s₀.heap.objs.size H #[bZ] T:=λT d=>by refine⟨Ql w d,I.hok.fresh d,λk=>?_⟩;show#[qS,p,D,E,Qq.mp,k];have:=Qm (I.pin p D).1;show#[hh,E,d]
 refine⟨hideAll s.heap ch,λT=>NB X.s₀.heap.objs.size H #[bZ] T/\(hideAll s.heap ch).get? T=af,⟨⟨λb o f _=>of_hideAll _ f,λb o f=>⟨o.slots,of_hideAll _ f⟩⟩,?_,hideAll_none _ A.1,λT d=>⟨big T d,aF.get?_none_of_le #[ei,hideAll_size,d]⟩,λT d=>d.2,P⟩,λT d=>d.1,λh' r=>?_⟩
 ·rw[<- t.1];exact I.stack
 ·refine I.call' (s':=#[ik,s,h']) (ch:=ch) rfl ⟨λb o f _ F hc=>r.1 b o #[oL] ?_,λb o f _ _ hc=>r.2 b o #[oL],λb o _ f _=>f,λb o f hc=>?_,λ_ _ z=>z,λ_ _ _ z=>z,λb ps z=>⟨#[],by rw[Array.append_empty];exact z⟩⟩ ?_ I.bare λb f=>?_
  ·rw[t.1]at F;exact F
  ·obtain⟨sl,S⟩:=r.2 b o #[oL];exact⟨_,S⟩
  ·intro a o l;refine(I.hok a o l).stay (λc u hc V=>r.1 c u (hideAll_get _ V λk=>?_) λk=>?_) (λ_ z=>z) λ_ _ z=>z
   ·have:=R c k;rcases hc with rfl|hc
    ·show#[hR,l]
    ·show#[hR,hc]
   ·have:H c=af:=I.stkFree c #[ei,t.1,k];rcases hc with rfl|hc
    ·show#[hR,l]
    ·show#[hR,hc]
  ·rcases A.2 b f with rfl|⟨z,o,h,G,J⟩
   ·exact⟨.inr he,K,L,O⟩
   ·refine⟨.inr z.1,λy=>?_,λx c hc y=>?_,λp D y=>z.2.2 (List.mem_map.mpr ⟨p,D,y⟩)⟩
    ·obtain⟨m,⟨W,es,E,n,q,_⟩,_⟩:=I.loc;rw[<- y,G]at n;cases n;show#[fe,J,q,q]
    ·obtain⟨v,W,n,q⟩:=I.cell x c hc;show#[eO,y,G,n];show#[fe,J,q,q]
universe E
theorem Yh.mono{M N:#[wF]}{h:aF}{e:ae}{cls:aa}{a:#[dB]}{b:aa}(x:Yh M h e cls a b)(k:∀T,M T->N T):Yh N h e cls a b:=by obtain⟨c,d,T,f,g,a1,a2,a3,a4,a5,a6,a7,a8,a9,a10⟩:=x.ex;exact⟨c,d,T,f,g,a1,a2,a3,a4,a5,a6,a7,a8,a9,k T a10⟩
section
variable {X:Cx} {E:St->XK} {k:Nat} {f:ae} {fd:bu} {ps:List al} {sp:Sp} {t:TA}
theorem K7{c:#[S]}{b:St}{H:Hp}{s:ai}{Q:VK}{us:#[bd]}{vs:#[pO]}(F:#[jO])(g:#[mB])(hb:#[oq])(hx:#[fg,d])
  (I:#[gY,c,b]) (r:ZK vs us) (h:sp vs H Q (E b)):#[kV] (call #[bT] us) (EP X c b Q) X.xe s:=by
 have i:us.length=ps.length:=by rw[<- r.length];exact F.len _ _ _ _ h
 have j:BindsTo s fd #[ws] #[mH]:=by have:=hb s us I.kIn #[ei,Qai,i];rwa [Qai]at this
 refine wpAny_call (codeAny_mono (F.run X.A X.stack s H #[ws] us vs Q (E b) g I.env0 j r h) λr s' a=>?_);cases r with
 | error e=>exact hx e s' (I.refused a)
 | ok l =>
  cases l with
  | ret u=>exact I.after a
  | next=>exact #[jC]
  | brk=>exact #[jC]
  | cont=>exact #[jC]
def K6(sp:Sp)(E:St->XK)(t:TA):TE:=λa H Q=>t a H λvs b=>sp vs b Q (E a)
universe E
section
variable {P:ax} {w:aE} {K:#[7]} {mg:al->Option aa} {base:aF}
theorem XE.leaves{N:#[Q]}{d:al}{g:bh}{f:ae}{i:aa}{A:aB}{outer:#[ow]}{s:ai}{H:Hp}{E:XK}{j:aa}{s':ai}
  (h:XE #[hx,d,g,i] (λ_=>E) j s'):#[hx,d,g,i].xe j s':=by
 obtain⟨e,cls,o,ah,σ,p,rfl,k,r,t,l,I,u,v,q⟩:=h;obtain⟨B,M,x,m,y⟩:=I.fly #[bM] k r t l u v;refine x.leaves I.ok.frames rfl λz a b c=>?_;have J:=y z a;exact⟨e,cls,o,p,rfl,k,l,c.mono λT n=>⟨(m T n).1,(m T n).2.1,by simp⟩,J.os,J.bare,J.base,J.hok,q⟩
theorem Fun.ok1{x b:al}{st:aI}{f:ae}{c:bu}{N ps:#[Q]}{k:Nat}{sp:Sp}(F:Fun K x b st f c)(S:#[ir])(len:#[N])
  (d:∀ (a:aa) (A:aB) (outer:List Env) (s:ai) (H:Hp) (vs:List V) (Q:VK) (E:XK),Y4 k #[fn,b]->sp vs H Q E ->
   ∃t,PSs (#[j1].wish (XE #[j1] (λ_=>E))) (Zq st) t/\t { nx:=λ_ g=>Q .non g,rt:=Q } #[lg] H):YF P w K mg base (CX1 P w) (k+1) f c ps sp:=by
 show#[xG,fk,pm,an,a,i];refine Mc lk i S len λA outer s H vs Q E j l=>?_;obtain⟨t,h,q⟩:=d a A outer s H vs Q E j l;exact⟨t,h.wish λe s h=>XE.leaves h,q⟩
universe E
section
variable {M:Model} {A:aB} {E:aa->ai->Prop} {h:aF} {g:Array GenState} {d:Drawn} {t:Nat} {os:OsState}
variable {nm q:al} {C N:ae} {bs bm:List aa} {dr:Bool} {sn:List al} {sub:List aa} {ab:Bool} {bW:Option Bool} {dd:Option ae} {k0 k1 k2 k3 k5:Option aa} {bE:String}
variable {AR q':al} {C' N':ae} {AS qt:List aa} {rV:Bool} {AT:List al} {wT:List aa} {AU:Bool} {wU:Option Bool} {je:Option ae} {AV AW AX AY A1:Option aa} {pV:String}
theorem Zjl{e:ae}{a:aJ}{b:Bool}{Q:Bool->ai->Prop}(c:h.get? C=U (excClassObj nm q C N bs bm dr sn sub ab bW dd k0 k1 k2 k3 k5 bE))(hB:h.get? C'=U (excClassObj AR q' C' N' AS qt rV AT wT AU wU je AV AW AX AY A1 pV))
  (he:h.get? e=U a) (i:a.cls=.ref C) (j:qt.contains #[32]=true) (k:#[rz,C,bm].contains (.ref C')=b) (hq:Q b #[62]):au M A (excMatches #[aL] (.ref C')) Q E #[62]:=by
 have l:#[rz,C',qt].contains #[32]=true:=by rw[QJ,j,Qaz]
 have f:=tc_notTuple;unfold excMatches;repeat (first|(with_reducible refine wpAny_loadPart_at he ?_;rw[i])|with_reducible refine wpAny_loadPart_at hB ?_|(with_reducible refine wpAny_isSubtype_exc hB ?_;rw[l])|(with_reducible refine wpAny_isSubtype_exc c ?_;rw[k])|wp_step)
 cases b<;>(wp_walk;exact hq)
universe E
section
variable {prog:ax} {w:aE} {A:aB} {E:aa->ai->Prop} {s:ai} {env:Env}
theorem Zns{e:ae}{t:aH}{n:al}{a:aI}{d:#[ou]}{pos:Pos}{rest:List ExceptHandler}{Q:Flow->ai->Prop}
  (h:au #[p] #[ka] (eval t env) (λc g=>au #[p] #[ka] (excMatches #[aL] c) (λb i=>b=true /\
   au #[p] #[ka] (setFlight #[aL] af) (λ_ j=>au #[p] #[ka] (storeName env n #[aL]) (λ_ k=>au #[p] #[ka] (execs (a::d) env)
    (λf l=>au #[p] A (do bindName env n .none;unbindBehindTheSuite env n pos) (λ_ m=>Q f m) E l)
    (λ_ _=>False) k) #[mF] j) #[mF] i) #[mF] g) #[mF] s) :
  au #[p] A (handleBy #[aL] env (.ExceptHandler (U t) (U n) (a::d) pos::rest)) Q E s:=by
 refine wpAny_handleBy_cons (codeAny_handlers_test (aZ h (λc g o=>aZ o #[qK,b,i,p] λ_ _ x=>x.elim) λ_ _ x=>x.elim)) (by intro q;cases q);obtain⟨rfl,r⟩:=p;refine codeAny_handlers_suite_as (aZ r (λ_ j u=>aZ u (λ_ k v=>aZ v (λf l y=>y) λ_ _ x=>x.elim) λ_ _ x=>x.elim) λ_ _ x=>x.elim)
universe E
section
variable {X:Cx} {E:St->XK} {k:Nat} {f C:ae} {fd:bu} {ps:List al} {sp:Sp} {x:al} {p pos:Pos} {e:aH} {es:List aH} {t:TA}
theorem XE.unwish{xe:#[F]}{a:aa}{s:ai}(h:XE (X.wish xe) E a s):XE X E a s:=by obtain⟨e,cls,b,c,d,f,a1,a2,a3,a4,a5,I,a6,a7,a8⟩:=h;exact⟨e,cls,b,c,d,f,a1,a2,a3,a4,a5,I.unwish,a6,a7,a8⟩
theorem ZoM(F:#[jO])(d:#[mB])(g:#[uO])(hm:X.mg x=U #[bT])(hk:#[sr,X.K])(hb:#[oq])(hx:#[fg,b])
  (ha:#[75]) (i:#[j]:=by decide) (he:#[h]:=by rfl) (j:#[s]:=by rfl) :
  PE X #[Z] (K6 sp E t):=by
 show#[ib,l,m,g,hm,i];refine Q4 (h₀:=X.base) I.ok.mod.kin hk #[gt,pos,l,m,us,s1] he j;obtain⟨vs,H1,c,r,q⟩:=a;exact⟨c.kIn,K7 F d hb hx c r q⟩
universe E
theorem K5{α:Type}{p:α->Bool}:∀ (l:List α) (i:Nat) (h:i<l.length),p l[i]=false->(l.eraseIdx i).find? p=l.find? p
 | [],i,h,_=>absurd h (Nat.not_lt_zero i)
 | a::l,0,h,b=>by have c:p a=false:=b;rw[List.eraseIdx_cons_zero,QY,c]
 | a::l,i+1,h,b=>by
  rw[List.eraseIdx_cons_succ,QY,QY];cases hq:p a with
  | true=>rfl
  | false=>exact K5 l i #[el,h] b
theorem Zli{a:#[lV]}{name x:al}{i:Nat}(b:a.findIdx? (λe=>e.key.isStr name)=U i)(hx:x≠name):nsFind (a.eraseIdxIfInBounds i) x=nsFind a x:=by obtain⟨l⟩:=a;simp only[nsFind,findBy,List.eraseIdxIfInBounds_toArray,List.find?_toArray,List.findIdx?_toArray]at b ⊢;obtain⟨c,d,_⟩:=List.findIdx?_eq_some_iff_getElem.mp b;rw[K5 l i c (isStr_other hx _ d)]
section
variable {M:Model} {A:aB} {E:aa->ai->Prop} {s:ai} {env:Env}
theorem Zno{a:ae}{m:#[R]}{name:al}{Q:Bool->ai->Prop}(r:s.heap.Ns a m)(f:(m name).isSome=true)
  (u:∀h' k,h'.Ns a k->(∀x,x≠name->k x=m x)->aF.SameBut a s.heap h'->Q true { s with heap:=h' }):au M A (nsDel a name) Q E s:=by
 obtain⟨o,b,v,g,l,p,q⟩:=id r;have hany:b.any (·.refKey)=false:=by rw[Array.any_eq_false'];intro e j;obtain⟨n,t,h⟩:=p e j;simp[DictEntry.refKey,h]
 obtain⟨i,c⟩:∃i,b.findIdx? (λe=>e.key.isStr name)=U i:=by
  cases c:b.findIdx? (λe=>e.key.isStr name) with
  | some i=>exact⟨i,rfl⟩
  | none =>
   rw[<- q name]at f;have:nsFind b name=af:=by unfold nsFind findBy;rw[Array.find?_eq_none.mpr λe j=>by have:=(Array.findIdx?_eq_none_iff.mp c) e j;simp[this]];rfl
   show#[hR,f]
 have w:b.any (·.key.isStr name)=true:=by rw[Array.any_eq_true];obtain⟨y,z,_⟩:=Array.findIdx?_eq_some_iff_getElem.mp c;exact⟨i,y,z⟩
 have B:nsHas name o=pure true:=by rw[nsHas_eq];unfold nsHasByArray;rw[l];show (if (b.any λx=>x.key.isStr name)=true then _ else _)=_;rw[w];rfl
 unfold nsDel;refine aj (wpAny_loadPart g ?_);rw[B];refine aj #[py];refine aj (wpAny_updatePart g #[py]);show#[rQ,cl,d,dt,sl,o];subst l;exact u _ _ ⟨_,_,v+1,QS _ g #[j7],#[j7],p.erase i,λ_=>rfl⟩ (λx C=>by rw[<- q x];exact Zli c C) #[nf]
universe E
section
variable {X:Cx} {ah:List (ae×aJ)} {σ:St} {H:Hp} {s:ai}
theorem Inv.lost{i:Nat}{x:al}{h':aF}{t':Nat}{m r:#[R]}(I:#[i])(A:#[lS])(t:#[cz])(B:s.heap.Ns X.env.locals m/\∀ (i:Nat) (x:al) (v:V),X.N[i]? = U x->σ[i]? = U (U v)->Vis X.env.scope x->∃u,ZI v u/\MN X.env s.heap m x u)
  (C:h'.Ns X.env.locals r) (hm:∀y,y≠x->r y=m y) (hs:#[xy,X.env.locals,s.heap,h']):Inv X ah (σ.set i af) H { s with heap:=h',toks:=t' }:=by
 show#[ep,hn,D,B];have cne:=I.cne;have E:i<σ.length:=by rw[I.len];exact(Qe.mp t).1
 refine⟨I.ok,I.os,I.bare,⟨λb o e n h f=>?_,λb o e n h f=>?_,I.base.free,λb o e f=>?_,I.base.tups,I.base.frzs,I.base.tbls⟩,⟨_,C,λj y F a g G=>?_⟩,λy c e=>?_,I.free,I.freeC,λp J=>?_,λb K e=>?_,by rw[List.length_set];exact I.len⟩
 ·exact(hs.2 b #[bb]).trans #[ri,h,f]
 ·show#[q4,L,a,h,f];show#[sd,L,hs.2,a]
 ·show#[hA,M,a,f];show#[sd,M,hs.2,a]
 ·by_cases l:j=i
  ·subst l;rw[QaG E]at g;cases g
  ·rw[List.getElem?_set_ne (Ne.symm l)]at g;obtain⟨N,O,q⟩:=D j y F a g G;refine⟨N,O,?_⟩;have P:y≠x:=λe=>l (PL A a (e ▸ t));rcases q with⟨k,e⟩|⟨k,c,e,z⟩
   ·exact .inl ⟨k,by rw[hm y P];exact e⟩
   ·exact .inr ⟨k,c,e,z.sameBut hs #[wY]⟩
 ·obtain⟨w,z⟩:=I.cell y c e;exact⟨w,z.sameBut hs #[wY]⟩
 ·show#[qV,Q,J];exact#[xJ,hs.2,ne,Q]
 ·refine(I.hok b K e).stay (λc w hc q=>(hs.2 c ?_).trans q) (λ_ q=>q) λ_ _ q=>q;rintro rfl;rcases hc with rfl|hc
  ·show#[fe,I.free,e,e]
  ·show#[fe,I.free,hc,hc]
theorem Zng{M:Model}{A:aB}{E:#[F]}{i:Nat}{x:al}{pos:Pos}{Q:#[aJ]}(I:#[i])(c:#[lS])(a:#[cz])(hk:X.env.kindOf x=U .local)(b:#[eT,x])
  (h:∀s',Inv X ah (σ.set i af) H s'->Q () s'):au M A (do bindName X.env x .none;unbindBehindTheSuite X.env x pos) Q E s:=by
 have j:#[cf]:=by rw[I.ok.kind];rfl
 refine aj (wpAny_bindName (Wx I c a (.inl b) (v:=.non) rfl (λk d=>?_) (.inr b)));have l:i<σ.length:=by rw[I.len];exact(Qe.mp a).1
 show#[qS,m,f,g,id,d.loc];have n:(m x).isSome=true:=by
  obtain⟨u,_,q⟩:=g i x .non a (QaG l) (.inl b);rcases q with⟨_,e⟩|⟨z,_⟩
  ·rw[e];rfl
  ·rw[hk]at z;rcases z with z|z<;>cases z
 unfold unbindBehindTheSuite;refine wpAny_onRaise ?_;unfold unbindName;refine aj (wpAny_point (aj ?_));unfold deleteName;simp only[hk,j];rw[if_neg #[6]];refine aj (Zno f n λh2 m2 o p r=>?_);simp only[if_true,Bool.not_true,Bool.false_eq_true,if_false];refine av (wpAny_point (h _ ?_));have J:=Inv.lost (t':=k.toks) d c a ⟨f,g⟩ o p r;rw[List.set_set]at J;exact J
universe E
noncomputable abbrev Cx.pnd(X:Cx)(a:#[S]):Cx:={ X with pn:=X.pn++a }
noncomputable abbrev Cx.mkd(X:Cx)(e:ae):Cx:={ X with A:=X.A.mark (U (.ref e)),calm:=false,xe:=λ_ _=>False }
section
variable {X:Cx} {ah iI:List (ae×aJ)} {σ:St} {H:Hp} {s:ai}
theorem Cx.Ok.pnd(ok:X.Ok)(ah:#[S]):#[vM].Ok :=
 #[y]
theorem Cx.Ok.unpnd{ah:#[S]}(ok:#[vM].Ok):X.Ok :=
 #[y]
theorem Inv.pnd(I:#[i]):Inv #[vM] [] σ H s:=⟨I.ok.pnd ah,I.os,I.bare,I.base,I.loc,I.cell,I.free,I.freeC,λp a=>I.pin p #[dr],I.hok,I.len⟩
theorem Inv.unpnd(I:Inv #[vM] iI σ H s):Inv X ah σ H s:=⟨I.ok.unpnd,I.os,I.bare,I.base,I.loc,I.cell,I.free,I.freeC,λp a=>I.pin p (QN _ a),I.hok,I.len⟩
theorem SP.unpnd{D:Xo}{f:Flow}{s':ai}(h:SP #[vM] iI D f s'):SP X ah D f s':=by
 cases f with
 | next=>obtain⟨a,b,I,q⟩:=h;exact#[pf]
 | brk=>obtain⟨a,b,I,q⟩:=h;exact#[pf]
 | cont=>obtain⟨a,b,I,q⟩:=h;exact#[pf]
 | ret u=>obtain⟨v,a,b,I,r,q⟩:=h;exact⟨v,a,b,I.unpnd,r,q⟩
theorem Inv.mkd(I:#[i])(e:ae):Inv (X.mkd e) ah σ H s :=
 ⟨⟨I.ok.mod,I.ok.kind,I.ok.glob,I.ok.blt,I.ok.above,I.ok.inj,I.ok.has,I.ok.cab,(λh=>by cases h),I.ok.frames,I.ok.stk,I.ok.exf,I.ok.bs,I.ok.bsz,I.ok.noex,I.ok.exfs,I.ok.funs,I.ok.frf⟩,I.os,I.bare,I.base,I.loc,I.cell,I.free,I.freeC,I.pin,I.hok,I.len⟩
theorem Inv.unmkd{e:ae}(I:Inv (X.mkd e) ah σ H s)(ok:X.Ok):Inv X ah σ H s:=⟨ok,I.os,I.bare,I.base,I.loc,I.cell,I.free,I.freeC,I.pin,I.hok,I.len⟩
theorem Inv.track{e:ae}{o:HO}(I:#[i])(he:#[wa])(r:e≠X.env.locals)(t:#[nm])(v:H e=af)(w:#[q8,ah,e])(new:#[xD,e,o,s.heap]):Inv X ah σ (upd H e o) s:=by
 have ne:∀ {b:ae} {u:HO},H b=U u->b≠e:=λh z=>by rw[z,v]at h;cases h
 refine⟨I.ok,I.os,I.bare,⟨I.base.keep,I.base.slot,λb i d n y=>?_,I.base.there,λb j h=>?_,λb i u h=>?_,λb A h=>?_⟩,I.loc,I.cell,?_,λx c k=>?_,λp l=>?_,λa u g=>?_,I.len⟩
 ·rw[Zd (λz=>by rw[z]at d;exact absurd (Qm d) (Qa1.mpr he))];exact I.base.free b i d n y
 ·have:=I.base.tups b j h;rw[Zd (ne this)];exact this
 ·have:=I.base.frzs b i u h;rw[Zd (ne this)];exact this
 ·obtain⟨f,this⟩:=I.base.tbls b A h;exact⟨f,by rw[Zd (ne this)];exact this⟩
 ·rw[Zd (Ne.symm r)];exact I.free
 ·rw[Zd (t x c k)];exact I.freeC x c k
 ·show#[r4,l];exact⟨a1,by rw[Zd (w p l)];exact a2,a3⟩
 ·by_cases m:a=e
  ·show#[hz,m,Zb,g];exact new
  ·rw[Zd m]at g;exact(I.hok a u g).stay (λ_ _ _ q=>q) (λb d=>by rw[Zd (ne d)];exact d) λb j d=>by rw[Zd (ne d)];exact d
universe E
def UN(K:#[7])(C:ae)(a:#[bd]):Prop:=X16 λ(b q:al) (N:ae) (bs:List aa) (c:Bool) (d:List al) (sub:List aa) (e:Bool) (f:Option Bool) (g:Option ae) (k0 k1 k2 k3 k5:Option aa) (h:String) =>
 K.lookup C=U (excClassObj b q C N bs a c d sub e f g k0 k1 k2 k3 k5 h)
noncomputable abbrev exO(e C:ae)(b:#[dB]):HO:=.ext λh=>X2 λa vs=>h.get? e=U a/\a.cls=.ref C/\a.dict=b/\a.data=.fields vs
def K4(K:#[7])(b:ae)(i:Nat)(c:TS)(D:Xo):St->XK:=λd cls f H=>X2 λC a=>cls=.ref C/\UN K C a/\#[rz,C,a].contains #[ts]=true /\
 ∀e,H e=af->c { nx:=λg h=>D.nx (g.set i af) h,rt:=λ_ _=>False } (d.set i (U #[aL])) #[h8,H,e,exO,f]
def ZtH(K:#[7])(a:ae)(i:Nat)(b:(St->XK)->TS)(c:TS):TS:=λD d H=>b (K4 K a i c D) D d H
section
variable {X:Cx}
theorem Zqz{x n:al}{np gU pos:Pos}{Q:#[ou]}{R:aI}{S:#[ou]}{l:ae}{V:#[bd]}{i:Nat}{W:(St->XK)->TS}{t:TS}
  (hb:∀ (d:List (ae×aJ)) (E:St->XK),PSs ((X.pnd d).wish (XE (X.pnd d) E)) Q (W E)) (Fs:∀e,PSs (X.mkd e) (R::S) t)
  (w:#[k2]) (hg:#[uO]) (hm:X.mg x=U #[cq]) (Ft:UN X.K l V) (eF:V.contains #[32]=true)
  (Y:#[lS]) (Z:X.N[i]? = U n) (hk:X.env.kindOf n=U .local) (y:#[eT,n]) (cI:#[j]:=by decide) :
  PS X (.Try Q [.ExceptHandler (U (.Name x np)) (U n) (R::S) gU] [] [] pos) (ZtH X.K l i W t):=by
 show#[e8,d,σ,D];refine wpAny_Try_except (aZ (hb d (K4 X.K l i t D) [] s σ H D (I.pnd.wish _) h) #[qK,f,g,m] λev g m=>?_)
 ·have j:SP X d D f g:=m.unwish.unpnd;cases f with
  | next=>exact wpAny_execs_nil j
  | brk=>exact j
  | cont=>exact j
  | ret u=>exact j
 obtain⟨e,cls,dd,iI,A,G,rfl,he,mZ,m3,J,I',hp,hx,C,bm,rfl,hC,pS,dX⟩:=m;obtain⟨B,M,K,hM,hI⟩:=I'.fly w he mZ m3 J hp hx;have cX:X.A.frames=U (X.env::X.outer):=by rw[<- w.1];exact I.ok.frames
 refine K.noted cX w.2 λj a b c=>?_;refine O3 K.hB (s:=#[ik,g,j]) (F:=af) b a c λL a3 b3 c3=>?_;have O:#[qD,d,A,G,g,L]:=(hI L a3).unpnd;have Fu:#[q8,d,e]:=λp gq=>hp p (QN _ gq);refine Zns ?_;refine WH (X:=X.mkd e) (O.mkd e) hg hm ?_ cI;obtain⟨oe,vs,T,oT,qu,lU,yq,yr,_⟩:=c3.ex;obtain⟨nm,q,N,bs,dr,sn,sub,ab,bW,dq,k0,k1,k2,k3,k5,bE,lC⟩:=hC;obtain⟨AR,q',N',AS,rV,AT,wT,AU,wU,dq',AV,AW,AX,AY,A1,pV,Fv⟩:=Ft;refine Zjl (O.kIn _ _ lC) (O.kIn _ _ Fv) lU yq eF pS #[pd];refine O3 K.hB (s:=#[ik,g,L]) (F:=af) b3 a3 c3 λP a4 b4 c4=>?_;have I4:#[qD,d,A,G,g,P]:=(hI P a4).unpnd;obtain⟨A7,Fw,T4,oT4,ts4,A8,A9,Ba,Bb,_⟩:=c4.ex;have I5:Inv X d A #[h8,G,e,exO,dd] { g with heap:=P }:=I4.track he mZ m3 J Fu ⟨⟨A7,Fw,A8,A9,Ba,Bb⟩,⟨A7,A8⟩,λm j z k=>by obtain⟨o,vs,z1,z2⟩:=z;exact⟨o,vs,k o z1,z2⟩⟩;refine Wx (X:=X.mkd e) (I5.mkd e) Y Z (.inl y) (v:=.ref e) rfl (λs5 I6=>?_) (.inr y);refine aZ (Fs e d s5 _ _ _ I6 (dX e J)) #[qK,f,s6,r] λ_ _ z=>z;cases f with
 | next=>obtain⟨jc,H7,I7,q7⟩:=r;exact Zng (I7.unmkd I.ok) Y Z hk y λs8 I8=>⟨_,_,I8,q7⟩
 | brk=>obtain⟨_,_,_,z⟩:=r;exact z.elim
 | cont=>obtain⟨_,_,_,z⟩:=r;exact z.elim
 | ret u=>obtain⟨_,_,_,_,_,z⟩:=r;exact z.elim
universe E
open Builtin Builtin.ObjectAttr
section
variable {prog:ax} {w:aE} {A:aB} {E:aa->ai->Prop} {h:aF} {g:Array GenState} {d:Drawn} {t:Nat} {os:OsState} {K:#[7]}
variable {nm q:al} {C N x:ae} {bs bm:List aa} {sn:List al} {sub:List aa} {ab:Bool} {bW:Option Bool} {dd:Option ae} {k0 k1 k2 k3 k5:Option aa} {bE:String}
 {mA:#[R]} {name:al} {v:aa}
theorem Zk4{tk:Tok}{Q:Fin->ai->Prop}{ns:#[Q]}(X:K.In h)(hm:#[kW])
  (O:#[dS]) (ha:#[j4]) (Bc:x≠C) (I:h.Inst x C mA)
  (hq:∀h' P,h'.Inst x C #[jg] ->
   (∀b o,b≠x->#[mk]->h.get? b=U o->h'.get? b=U o) ->
   (∀a,h.get? x=U a->∃j,h'.get? x=U j/\j.cls=a.cls/\j.data=a.data/\j.slots=a.slots/\(∀dx,a.dict=U dx->j.dict=U dx)/\(a.dict=af->j.dict=U h.objs.size))->Q (.done (.ret .none)) #[gk,h',P]) (hw:Within mA ns) (hsz:#[sR]) :
  au #[p] A (aO.«object.__setattr__» ⟨[.ref x,.str name tk,v],[]⟩) Q E #[62]:=by
 obtain⟨o,i,p,r,R⟩:=I;have S:=hm #[nw];have L:=#[xK,ha];unfold aO.«object.__setattr__»;repeat (first|rw[refuse_eq]|(rw[refuseLoop_ref,S])|(with_reducible refine wpAny_loadPart_at i ?_;rw[p])|with_reducible refine wpAny_mroOf_exc O ?_|(with_reducible refine aj (L.at ?_))|wp_step)
 rcases R with⟨G,T⟩|⟨dx,m,s,V⟩
 ·
  rw[G,if_neg (by simp[typeHasDict])];split
  ·rename_i u;cases u
  split
  ·rename_i c u;exact absurd u (r c)
  ·have H:#[au].get? x=U o:=Qc _ i;have z:x≠h.objs.size:=QB (Qm i);refine aj (wpAny_alloc' ?_);refine aj (wpAny_update' H ?_);refine av ?_;have W:#[dg].get? h.objs.size
     = U { cls:=.type "dict",data:=.dict #[] } :=
    (QaX _ _ _ _ z.symm).trans (aF.get?_push_at rfl rfl)
   have Y:#[dg].Ns h.objs.size (λ_=>af) :=
    ⟨_,#[],_,W,rfl,λe Z=>absurd Z #[4],λ_=>rfl⟩
   show au _ _ (storeInDict h.objs.size #[p8] name v) _ _ _;unfold storeInDict newKeyGuard;refine aj (av (aj (wpAny_nsSet1 (aF.Ns1.of_empty Y) λh' l k=>?_)));obtain⟨oD,Ar,As,B,D,F⟩:=l.count (Within.cons name v Within.nil);refine aj (wpAny_lookBehind B (by rw[D];exact pastItsLine_dict (Ql F (by rw[QH,List.length_nil,aP];lia))) ?_)
   wp_walk
   have J:h'.get? x=U { cls:=o.cls,dict:=U h.objs.size,data:=o.data,slots:=o.slots }:=?_;refine hq h' _ ⟨{ cls:=o.cls,dict:=U h.objs.size,data:=o.data,slots:=o.slots },J,p,r,.inr ⟨h.objs.size,rfl,z.symm,?_⟩⟩ (λb ob Fz _ n=>?_)
    (λa f=>by obtain rfl:o=a:=Qn (i.symm.trans f);exact⟨_,J,rfl,rfl,rfl,λdx e=>(by rw[G]at e;cases e),λ_=>rfl⟩)
   ·obtain⟨o',es,ep,e1,e2,e3,eu,e4⟩:=l;exact⟨o',es,ep,e1,e2,e3,eu,λy=>by rw[e4 y];by_cases hy:y=name<;>simp[hy,T]⟩
   ·exact(k.2 b (QB (Qm n))).trans ((QaX _ _ _ _ Fz).trans (Qc _ n))
   ·refine(k.2 x z).trans (QS _ H ?_);have cX:=(aF.get?_some_iff.mp i).2;show#[rQ,oc,od,FA,j4,o];cases FA<;>first|rfl|exact cX
 ·
  rw[m];refine av ?_;show au _ _ (storeInDict dx #[p8] name v) _ _ _;unfold storeInDict newKeyGuard;refine aj (av (aj (wpAny_nsSet1 V λh' l k=>?_)));obtain⟨oD,Ar,As,B,D,F⟩:=l.count (Within.cons name v hw);refine aj (wpAny_lookBehind B (by rw[D];exact pastItsLine_dict (Ql F #[h5,QH])) ?_)
  wp_walk
  refine hq h' _ ⟨o,(k.2 x s.symm).trans i,p,r,.inr ⟨dx,m,s,l⟩⟩ (λb ob _ FC n=>?_)
   (λa f=>⟨a,(k.2 x s.symm).trans f,rfl,rfl,rfl,λ_ e=>e,λe=>by obtain rfl:o=a:=Qn (i.symm.trans f);rw[m]at e;cases e⟩)
  exact(k.2 b (FC o dx i m)).trans n
theorem K3{Q:#[aJ]}{ns:#[Q]}(X:K.In h)(hm:#[kW])(m:bm.contains #[dx]=true)
  (j:#[dS]) (hs:#[fZ,#[M]]) (ha:#[j4]) (n:x≠C) (I:h.Inst x C mA)
  (hq:∀h' i,h'.Inst x C #[jg] ->
   (∀b o,b≠x->#[mk]->h.get? b=U o->h'.get? b=U o) ->
   (∀a,h.get? x=U a->∃c,h'.get? x=U c/\c.cls=a.cls/\c.data=a.data/\c.slots=a.slots/\(∀dx,a.dict=U dx->c.dict=U dx)/\(a.dict=af->c.dict=U h.objs.size))->Q () #[gk,h',i]) (hw:Within mA ns) (hsz:#[sR]) :
  au #[p] A (setAttr #[nw] name v) Q E #[62]:=by
 have f:=PySem.F.store_object;obtain⟨o,p,r,vd,hd⟩:=id I;have l:PySem.W.Looks #[p] h (typeOf #[nw]) #[M]:=r ▸ (PySem.W.Looks.ld p).andThen .now;refine aj (wpAny_mkText (aj (aj (aj (l _ _ _ _ (λ_ _ e=>e) (Qac X hs _ _ _ _ (λ_ _ e=>e) (aS ?_)))))));rw[PySem.F.store_object.slot.bind];have s:#[rz,C,bm].contains #[dx]=true:=by rw[QJ,m,Qaz]
 refine aj (av (aj (wpAny_call (codeAny_call_builtin f.slot.plain f.entry (@PySem.W.check_slot #[p] _ _ ⟨h,g,d,t+1,os⟩ "object.__setattr__" "object" "__setattr__" #[nw] [.str name t,v] [] _ f.kind f.split (l.andThen ?_) (f.args #[nw] (.str name t) v) (Zk4 X hm j ha n I (λh' i u z B=>av (av (hq h' i u z B))) hw hsz))))));intro A' Q' E' D k F;obtain⟨h2,g2,d2,t2,os2⟩:=D;refine wpAny_isSubtype_exc (k _ _ j) ?_;rw[s];exact F
universe E
noncomputable abbrev YH:List aa:=[.type "ValueError",.type "Exception",.type "BaseException",.type "object"]
structure XC (K:#[7]) (C B:ae):Prop where
 obj:X15 λ(nm q:al) (N:ae) (bs:List aa) (sn:List al) (sub:List aa) (ab:Bool) (bW:Option Bool) (dd:Option ae) (k0 k1 k2 k3 k5:Option aa) (bE:String) =>
  K.lookup C=U (excClassObj nm q C N bs #[pE] true sn sub ab bW dd k0 k1 k2 k3 k5 bE)
 sa:PySem.W.findIn K #[M] "__setattr__" = U #[17]
theorem XC.cls{K:#[7]}{C B:ae}(c:XC K C B):UN K C #[pE]:=by obtain⟨a,q,N,bs,b,sub,d,e,f,k0,k1,k2,k3,k5,g,h⟩:=c.obj;exact⟨a,q,N,bs,true,b,sub,d,e,f,k0,k1,k2,k3,k5,g,h⟩
noncomputable abbrev exN(e C:ae)(a:#[dB]):HO:=.ext λh=>∃T,h.get? e=U { cls:=.ref C,dict:=a,data:=.fields #[q] }
noncomputable abbrev xdO(dx:ae)(fs:List (al×V)):HO:=.ext λh=>∃mA,h.Ns1 dx mA/\#[xP,mA]/\PySem.Within mA #[nN]
section
variable {X:Cx} {ah:List (ae×aJ)} {σ:St} {H:Hp} {s:ai} {A:aB} {E:aa->ai->Prop} {C B e dx:ae} {f:al} {fs:List (al×V)}
theorem K2(B:ae)(self:aa):refuseLoop self "__setattr__" #[pE]=pure ():=by rw[refuseLoop_ref];exact PySem.F.store_ValueError.passes self
theorem Sd{P:ax}{w:aE}{H:Hp}{h:aF}{a:#[dB]}{T:ae}(he:#[gp,a]):Z5 P w H h e (exN e C a) :=
 ⟨⟨T,he⟩,⟨_,he⟩,λh1 h2 z k=>by obtain⟨b,z⟩:=z;exact⟨b,k _ z⟩⟩
theorem K1{P:ax}{w:aE}{H:Hp}{h:aF}{mA:#[R]}(a:h.Ns1 dx mA)(r:∀f,Yr #[nO] (mA f))(b:PySem.Within mA #[nN]):Z5 P w H h dx #[oF] :=
 ⟨⟨mA,a,r,b⟩,let ⟨o,_,_,c,_⟩:=a;⟨o,c⟩,λh1 h2 z k=>by obtain⟨m,z1,z2⟩:=z;exact⟨m,z1.at λo q=>k o q,z2⟩⟩
theorem Zth{y:V}{u:aa}{Q:#[aJ]}(I:#[i])(c:XC X.K C B)(n:#[sy])(he:H e=U #[uU])(G:ZI y u)
  (h:∀dx s',H dx=af->dx≠e->Inv X ah σ (upd #[im,H,dx] dx (xdO dx [(f,y)])) s'->Q () s'):au #[22] A (setAttr #[aL] f u) Q E s:=by
 obtain⟨nm,q,N,bs,sn,sub,ab,bW,dd,k0,k1,k2,k3,k5,bE,J⟩:=c.obj;show#[rr,j,I.hok,e,he];have v:=I.kIn _ _ J;have K:e≠C:=λz=>by subst z;have:=v.symm.trans j;cases this
 show#[gn,i,t,s];refine K3 (mA:=λ_=>af) (ns:=[]) I.kIn (K2 B) rfl v c.sa n K ⟨_,j,rfl,#[eP,_,z],.inl ⟨rfl,λ_=>rfl⟩⟩ (λh' p L M O=>?_) (λy P=>absurd rfl P) (Qu _);obtain⟨R,r,c1,w,D,_,S⟩:=O _ j;show#[rQ,cl,di,da,sl,R];have F:=S rfl;dsimp only at c1 w D F r;subst c1 w D F;have W:H i.objs.size=af:=#[s3];have Y:e<i.objs.size:=Qm j;have ne:i.objs.size≠e:=Q7 Y;obtain⟨Z,e2,_,_,hd⟩:=L;obtain rfl:_=Z:=Qn (r.symm.trans e2);obtain⟨qv,_⟩|⟨dx,jC,_,dO⟩:=hd
 ·cases qv
 cases jC;refine h i.objs.size _ W ne ?_;have I1:Inv X ah σ #[im,H,i.objs.size] ⟨i.update e λo=>{ o with dict:=U i.objs.size },g,d,p,os⟩:=by have m:#[bj]:=QS _ j rfl;exact I.write (x:=e) (e:=e) (t':=p) #[sf,he] #[8] (λb u k q=>(QaX _ _ _ _ k).trans q) ⟨_,m⟩ (Sd m)
 have m:#[bj]:=QS _ j rfl;refine I1.laid (a:=i.objs.size) (h':=h') (t':=p) #[qK,b,u,q] (Nat.le_of_eq (aF.size_update _ _ _)) (K1 dO (λl=>?_) λl hg=>?_)
 ·by_cases k:b=e
  ·show#[hz,k,m,q];exact r
  ·exact M b u k (λcB dx a b'=>by rw[j]at a;cases a;cases b') ((QaX _ _ _ _ k).symm.trans q)
 ·show Yr (List.lookup l [(f,y)]) (if l=f then U u else af);by_cases z:l=f
  ·subst z;show#[tO];simp only[List.lookup,beq_self_eq_true];exact G
  ·rw[if_neg z];simp only[List.lookup,beq_eq_false_iff_ne.mpr z];exact True.intro
 ·by_cases z:l=f
  ·subst z;simp
  ·exact absurd (if_neg z) hg
theorem Ztq{y:V}{u:aa}{Q:#[aJ]}(I:#[i])(c:XC X.K C B)(n:#[sy])(he:H e=U (exN e C (U dx)))(l:H dx=U #[oF])(J:dx≠e)(hl:fs.length<1000)(K:ZI y u)
  (h:∀s',Inv X ah σ (upd H dx (xdO dx #[tj])) s'->Q () s'):au #[22] A (setAttr #[aL] f u) Q E s:=by
 obtain⟨nm,q,N,bs,sn,sub,ab,bW,dd,k0,k1,k2,k3,k5,bE,L⟩:=c.obj;show#[rr,j,I.hok,e,he];obtain⟨⟨mA,M,r,m⟩,_,_⟩:=I.hok dx _ l;have p:=I.kIn _ _ L;have O:e≠C:=λz=>by subst z;have:=p.symm.trans j;cases this
 show#[gn,P,t,s];refine K3 (mA:=mA) (ns:=fs.map #[T]) I.kIn (K2 B) rfl p c.sa n O ⟨_,j,rfl,#[eP,_,z],.inr ⟨dx,rfl,J,M⟩⟩ (λh' R S W Y=>?_) m #[xU,Qa,aP];obtain⟨Z,k,c1,v,w,dn,_⟩:=Y _ j;show#[rQ,cl,di,da,sl,Z];have D:=dn dx rfl;dsimp only at c1 v w D k;subst c1 v w D;obtain⟨o2,e2,_,_,hd⟩:=S;obtain rfl:_=o2:=Qn (k.symm.trans e2);obtain⟨qv,_⟩|⟨rp,Bd,_,F⟩:=hd
 ·cases qv
 cases Bd;refine h _ (I.write (x:=dx) (e:=dx) (h':=h') (t':=R) #[sf,l] #[8] (λb u hb q=>?_) (let ⟨o,_,_,e',_⟩:=F;⟨o,e'⟩) (K1 F (λi=>?_) λi hg=>?_))
 ·by_cases G:b=e
  ·subst G;rw[show P.get? b=_ from j]at q;cases q;exact k
  ·exact W b u G (λcB rp a b'=>by rw[j]at a;cases a;cases b';exact hb) q
 ·show Yr (#[tj].lookup i) (if i=f then U u else mA i);rw[Zs];by_cases q:i=f
  ·show#[io,q,q];exact K
  ·show#[ia,q,q];exact r i
 ·by_cases q:i=f
  ·rw[q];exact#[w7].1
  ·refine#[w7].2 i (m i λz=>hg ?_);show (if i=f then U u else mA i)=af;rw[if_neg q];exact z
universe E
def sX0(K:#[7])(C B:ae)(c d:TE)(f:al):TS:=λD a H=>d a H λy g=>c a g λx b=>∃e,x=.ref e/\b e=U #[uU]/\∀dx,b dx=af->dx≠e->D.nx a (upd #[im,b,dx] dx (xdO dx [(f,y)]))
def sX1(K:#[7])(C B:ae)(c d:TE)(f:al):TS:=λD a H=>d a H λy g=>c a g λx b=>X3 λe dx fs=>x=.ref e/\b e=U (exN e C (U dx))/\b dx=U #[oF]/\dx≠e/\fs.length<1000/\D.nx a (upd b dx (xdO dx #[tj]))
section
variable {X:Cx} {C B:ae} {f:al} {o value:aH} {ta tv:TE} {pos dD:Pos}
theorem K0(c:XC X.K C B)(n:#[sy])(ha:#[nH])(d:#[sZ])(hs:#[ay]):PS X #[iM] (sX0 X.K C B ta tv f):=by intro a s b H D I h;refine plainObj_wpAny_Assign_Attribute #[fF,d,a,l] hs;rintro m s2 ⟨x,H2,p,r,e,ex,t,q⟩;subst ex;obtain rfl:m=aa.ref e:=r;exact Zth p c n t k λv s' w ne z=>⟨_,_,z,q v w ne⟩
theorem ZtU(c:XC X.K C B)(n:#[sy])(ha:#[nH])(d:#[sZ])(hs:#[ay]):PS X #[iM] (sX1 X.K C B ta tv f):=by intro a s b H D I h;refine plainObj_wpAny_Assign_Attribute #[fF,d,a,l] hs;rintro m s2 ⟨x,H2,p,r,e,dx,fs,ex,t,v,ne,w,q⟩;subst ex;obtain rfl:m=aa.ref e:=r;exact Ztq p c n t v ne w k λs' z=>⟨_,_,z,q⟩
universe E
noncomputable abbrev FV:ExcBaseFacts "ValueError" "ValueError.__new__" "ValueError.__init__" YH:=PySem.F.excBase_ValueError
section
variable {prog:ax} {w:aE} {A:aB} {E:aa->ai->Prop} {h:aF} {g:Array GenState} {d:Drawn} {t:Nat} {os:OsState} {K:#[7]}
variable {nm q:al} {C N B:ae} {bs:List aa} {dr:Bool} {sn:List al} {sub:List aa} {ab:Bool} {bW:Option Bool} {dd:Option ae} {k0 k1 k2 k3 k5:Option aa}
theorem mvV(C B:ae):(aa.ref C::.ref B::YH).contains #[45]=true:=by rw[QJ,QJ,FV.hasB];simp
theorem KZ{M:Model}{rest:#[bd]}{Q:#[aJ]}(a:#[k])(hq:Q () #[62]):au M A (checkBuiltinCall "ValueError.__new__" ⟨.ref C::rest,[]⟩) Q E #[62]:=by
 have b:=mvV C B;have lO:=FV.noStar;simp only[checkBuiltinCall,FV.newKind,FV.newSplit,FV.newRow];repeat (first|refine wpAny_loadPart_at a ?_|(refine wpAny_isSubtype_exc a ?_;rw[b])|refine wpAny_staticBase_exc a ?_|refine wpAny_madeBy_exc a ?_|simp only[bne_self_eq_false,Bool.false_eq_true,if_false]|wp_step)
 exact hq
theorem KY{b c f:String}{a i:#[bd]}(F:ExcBaseFacts b c f i)(c1:a.contains (.type b)=true)(c2:a.contains #[h4,"AttributeError"]=false)(c3:a.contains #[h4,"NameError"]=false){R:#[ld]}{rest:#[bd]}(e:h.get? C=U (excClassObj nm q C N bs a dr sn sub ab bW dd k0 k1 k2 k3 k5 c))
  (hq:R (.ok (.ret #[m5])) ⟨(h.push { cls:=.type "tuple",data:=.seq rest.toArray }).push
   { cls:=.ref C,data:=.fields #[bF] },g,d,t,os⟩) (iO:#[vj]) :
  bU #[p] A (.builtin c ⟨.ref C::rest,[]⟩) R #[62]:=by
 have FD:=F.ends;have j:#[rz,C,a].contains (.type b)=true:=by rw[QJ,c1,Qaz]
 have k:#[rz,C,a].contains #[h4,"AttributeError"]=false:=by rw[QJ,c2];rfl
 have l:#[rz,C,a].contains #[h4,"NameError"]=false:=by rw[QJ,c3];rfl
 refine codeAny_builtinAt F.entry ?_;unfold aO.«BaseException.__new__»;refine PySem.wpAt_bind ?_;show PySem.wpAt _ _ _ (stack >>= _) _ _ _;refine PySem.wpAt_bind (PySem.wpAt_stack λp FG=>PySem.wpAt_of_wpAny ?_)
 wp_walk
 refine PySem.wpAt_of_wpAny ?_;rw[F.owner];repeat (first|with_reducible refine wpAny_madeHere_exc F.canon e ?_|with_reducible refine wpAny_loadPart_at e ?_|(with_reducible refine wpAny_isSubtype_exc e ?_;first|rw[j]|rw[k]|rw[l])|wp_step)
 show R _ _;rw[QW];exact hq
theorem Zlh{rest:#[bd]}{e:ae}{Q:Fin->ai->Prop}(X:K.In h)(a:#[k])(m:#[ff,#[M],#[aL]])(n:PySem.W.isFn K #[aL]=true)
  (hq:∀h' T,#[b6]->h'.get? #[af]=U { cls:=.ref C,data:=.fields #[q] }->au #[p] A (call #[aL] (.ref #[af]::rest)) (λr s'=>r=.none/\Q (.done (.ret #[m5])) s') E #[gk,h',t]) (p:#[vj]) :
  au #[p] A (aO.«type.__call__» ⟨.ref C::rest,[]⟩) Q E #[62]:=by
 repeat (first|with_reducible refine wpAny_loadPart_at a ?_|with_reducible refine wpAny_madeBy_exc a ?_|wp_step)
 refine codeAny_call_builtin_code #[qn] (KZ a ?_);refine KY FV #[w0] #[vE] #[vD] a ?_ p;show au _ _ _ _ _ _;generalize j:h.push { cls:=.type "tuple",data:=.seq rest.toArray }=f;have s:f.objs.size=h.objs.size+1:=by rw[<- j];exact QW _ _
 have k1:#[rO,h.get?,f.get?]:=λb o i=>by rw[<- j];exact Qc _ i
 generalize k:f.push { cls:=.ref C,data:=.fields #[.ref h.objs.size,.none,.none,.none,.bool false,.none] }=c;have k2:#[rO,h.get?,c.get?]:=λb o i=>by rw[<- k];exact Qc _ (k1 b o i)
 have l:c.get? #[af]=U { cls:=.ref C,data:=.fields #[bF] }:=by rw[<- k,<- s];exact #[wG]
 have u:=k2 _ _ a;have X2:K.In c:=X.keeps k2;have v:#[mI]:=by simp
 unfold isInstance;repeat (first|with_reducible refine wpAny_loadPart_at l ?_|(with_reducible refine wpAny_isSubtype_exc u ?_;rw[v])|wp_step)
 show#[la];refine aS (aj ?_);refine(PySem.W.bind_fn X2 #[m5] (beq_iff_eq.mp n)).at ?_;refine aj (aZ (hq c h.objs.size k2 l) #[qK,r,s',y] λ_ _ x=>x);obtain⟨rfl,z⟩:=y
 wp_walk
 exact z
theorem Ztw{rest:#[bd]}{c:ae}{Q:#[F]}(X:K.In h)(a:#[k])(e:PySem.W.findIn K #[M] "__init__" = U (U (.ref c)))(f:PySem.W.isFn K (.ref c)=true)
  (hq:∀h' T,#[b6]->h'.get? #[af]=U { cls:=.ref C,data:=.fields #[q] }->au #[p] (A.under (.builtin "type.__call__" ⟨.ref C::rest,[]⟩)) (call (.ref c) (.ref #[af]::rest)) (λr s'=>r=.none/\Q #[m5] s') E #[gk,h',t]) (i:#[vj]) :
  au #[p] A (call #[M] rest) Q E #[62]:=by
 show#[aO];repeat (any_goals (first|assumption|with_reducible refine wpAny_loadPart_at a ?_|wp_step))
 refine⟨rfl,codeAny_call_builtin_at #[uq] entry_typeCall (wpAny_check_type_call_sub a (Zlh X a e f (λh' T k j=>hq h' T k j) i))⟩
theorem Zkh{M:Model}{e:ae}{c:aJ}{rest:#[bd]}{Q:#[aJ]}(f:#[k])(he:h.get? e=U c)(i:c.cls=.ref C)(hq:Q () #[62]) :
  au M A (checkBuiltinCall "ValueError.__init__" ⟨.ref e::rest,[]⟩) Q E #[62]:=by
 have j:=mvV C B;have EV:=FV.noStar;simp only[checkBuiltinCall,FV.initKind,FV.initSplit,FV.initRow];repeat (first|(with_reducible refine wpAny_loadPart_at he ?_;rw[i])|with_reducible refine wpAny_loadPart_at f ?_|(with_reducible refine wpAny_isSubtype_exc f ?_;rw[j])|wp_step)
 refine wpAny_onRaise ?_;rw[show ∀ (a b:String) (n:Nat),Bind.check ⟨.positional, "*", "ValueError",.self,[⟨"args",.varPos,false⟩]⟩ a b n (List.map (λx=>x.fst) ({ pos:=aa.ref e::rest }:Args).kw)=pure () from
  λa b n=>check_star_args _ _ _ _ _ _]
 exact av hq
theorem KW{e T:ae}{u:aa}{c:#[dB]}{Q:#[F]}(f:#[k])(he:#[gp,c])
  (i:∀a,(∀b o,b≠e->h.get? b=U o->a.get? b=U o)->(∃j,a.get? e=U { cls:=.ref C,dict:=c,data:=.fields #[.ref j,.none,.none,.none,.bool false,.none] })->Q .none #[gk,a,t]) :
  au #[p] A (call #[40] [.ref e,u]) Q E #[62]:=by
 refine wpAny_call (codeAny_call_builtin FV.init.plain FV.initEntry (Zkh f he rfl ?_))
 wp_walk
 refine i _ (λb o k l=>?_) ⟨h.objs.size,?_⟩
 ·rw[Qaf _ _ (Ne.symm k)];exact Qc _ l
 ·rw[QS _ (Qc _ he) rfl];rfl
universe E
abbrev TJ:=al->St->Hp->VK->Prop
def PJ(X:Cx)(d:#[kG])(t:TJ):Prop :=
 ∀ (c:List (ae×aJ)) (s:ai) (b:St) (H:Hp) (a:al) (Q:VK),Inv X c b H s->t a b H Q->#[kV] (joinParts a (evalEach d X.env)) (EP X c b Q) X.xe s
def ZuI:TJ:=λout _ H Q=>out.length<=ao/\Q (.str out) H
def Zui(b:TE)(t:TJ):TJ:=λout a H Q=>b a H λv c=>∃y,v=.str y/\(out++y).length<=ao/\t (out++y) a c Q
def ZtL(a:TE):TE:=λb H Q=>a b H λv c=>∃i:Int,v=.int i/\i.natAbs.log2<1920/\Q (.str (toString i)) c
section
variable {X:Cx} {e e1 e2:aH} {es:List aH} {te:TE} {t:TJ} {pos:Pos}
theorem Sc:PJ X [] ZuI:=λ_ _ _ H out _ I h=>joinParts_nil #[xz,out,h.2] h.1
theorem Xh(he:#[pp])(f:PJ X es t):PJ X (e::es) (Zui te t):=by intro b s c H out Q I h;refine joinParts_cons (thn #[h7,he,b,c] λu g a=>?_);obtain⟨v,i,j,r,y,rfl,k,q⟩:=a;obtain⟨d,rfl⟩:=(show ∃d,u=aa.str y d from r);exact⟨k,f b g c i _ Q j q⟩
theorem Sb(h:PJ X (e1::e2::es) t):PE X (.JoinedStr (e1::e2::es) pos) (t al.empty):=λa s b H Q I q=>JoinedStr_many (h a s b H _ Q I q)
theorem T3(he:#[pp]):PE X (.FormattedValue e (-1) af pos) (ZtL te):=by intro c s d H Q I h;refine FormattedValue_plain (thn #[h7,he,c,d] λu s1 a=>?_);obtain⟨v,f,g,r,i,rfl,j,q⟩:=a;obtain⟨b,rfl⟩:=(show ∃b,u=aa.int i b from r);exact formatField_int_small j ⟨.str (toString i),f,g.tok _,#[K],q⟩
universe E
structure XB (K:#[7]) (B:ae):Prop where
 sp:PySem.W.specialIn K (.ref B) "__getattribute__" = U #[pB]
 rd:PySem.W.readsIn K B #[cp]=true
 fi:PySem.W.findCls K (.ref B) #[cp] "__init__" = U (.val #[40])
def tXI(C:ae)(t:TA):TE:=λb H Q=>t b H λvs a=>X3 λe x c=>vs=[.ref e,.str x]/\a e=U #[wX]/\Q .non a
structure XM (K:#[7]) (C B f:ae):Prop where
 obj:X14 λ(nm q:al) (N:ae) (bs:List aa) (sn:List al) (sub:List aa) (ab:Bool) (bW:Option Bool) (dd:Option ae) (k0 k1 k2 k3 k5:Option aa) =>
  K.lookup C=U #[cm]
 init:PySem.W.findIn K #[M] "__init__" = U (U #[bT])
 fn:PySem.W.isFn K #[bT]=true
 kp:PySem.W.keepIn K #[M]=true
 sa:PySem.W.findIn K #[M] "__setattr__" = U #[17]
theorem XM.xc{K:#[7]}{C B f:ae}(c:XM K C B f):XC K C B:=by obtain⟨a,q,N,bs,b,sub,d,e,g,k0,k1,k2,k3,k5,h⟩:=c.obj;exact⟨⟨a,q,N,bs,b,sub,d,e,g,k0,k1,k2,k3,k5,_,h⟩,c.sa⟩
section
variable {X:Cx} {C B f:ae} {x:al} {p bi pos bg:Pos} {e:aH} {es:List aH} {t:TA}
theorem KU{pl:Sem Bool}(c:XM X.K C B f)(b:XB X.K B)(D:#[uO])(hm:X.mg x=U (.ref B))(ha:#[75])(E:#[j]:=by decide)
  (F:#[h]:=by rfl) (G:#[s]:=by rfl)
  (J:eval #[jF] X.env=(do
   let v <- eval (.Name x p) X.env
   standAt bi.atName
   let (f,first) <- holding [v] (getMethod v "__init__" pl)
   callWith pos f first (bc pos #[j8]) #[aR]):=by rfl) :
  PE X #[jF] (tXI C t):=by
 show#[e8,K,L,Q];refine QaM (pl:=pl) (WH I D hm ?_ E) J;refine PySem.W.method_cls I.kIn b.sp (PySem.W.cls_value I.kIn b.rd b.fi rfl ?_);refine PyProof.Rows.callWith_builtin1 (thn (ha pos K _ L H _ #[nS] h) λus M a=>?_) F G;obtain⟨vs,l,m,r,i,y,w,rfl,n,q⟩:=a;obtain⟨nm,q',N,bs,sn,sub,ab,bW,dq,k0,k1,k2,k3,k5,O⟩:=c.obj;show#[rr,P,m.hok,i,n];cases r with
 | cons R r =>
  cases r with
  | cons r2 r =>
   cases r;obtain rfl:=R;show#[gn,hh,S,M];refine KW (m.kIn _ _ O) P λh' k j=>?_;show#[ep,T',j,j];have A:=m.write (x:=i) (e:=i) (o:=exN i C w) (h':=h') (t':=S) #[sf,n] #[8] (λb u V z=>k b u V z) ⟨_,j⟩ (Sd j);have W:upd l i (exN i C w)=l:=by
    funext b;by_cases z:b=i
    ·rw[z,Zb,n]
    ·rw[Zd z]
   rw[W]at A;exact⟨.non,l,A,rfl,q⟩
universe E
section
variable {X:Cx} {ah:List (ae×aJ)} {σ:St} {H:Hp} {s:ai}
theorem Inv.untrack{e:ae}{i:aF->Prop}(I:#[i])(hx:H e=U (.ext i)):Inv X ah σ (off e H) s:=by
 have g:∀ {b:ae},H b=af->off e H b=af:=λh=>ZoF h;have ne:∀ {b:ae} {o:HO},H b=U o->o≠.ext i->b≠e:=λh n z=>by rw[z,hx]at h;cases h;exact n rfl
 refine⟨I.ok,I.os,I.bare,⟨I.base.keep,I.base.slot,λb o d n x=>g (I.base.free b o d n x),I.base.there,λb j h=>?_,λb o u h=>?_,λb k h=>?_⟩,I.loc,I.cell,g I.free,λx c l=>g (I.freeC x c l),λp m=>?_,λa u r=>?_,I.len⟩
 ·have:=I.base.tups b j h;exact Vq this #[vA]
 ·have:=I.base.frzs b o u h;exact Vq this #[vA]
 ·obtain⟨f,this⟩:=I.base.tbls b k h;exact⟨f,Vq this #[vA]⟩
 ·show#[r4,m];exact⟨a1,g a2,a3⟩
 ·exact(I.hok a u (Zr2 a u r)).stay (λ_ _ _ q=>q) (λb d=>Vq d (ne d #[44])) λb j d=>Vq d (ne d #[44])
universe E
section
variable {M:Model} {A:aB} {E:aa->ai->Prop} {env:Env}
theorem KS{s:ai}{x:Sem aa}{Q:Flow->ai->Prop}(p:#[it])
  (h:au M A x (λv a=>∃ (e C T:ae) (c:Option ae) (f q:al) (N:ae) (bs b:List aa) (i:Bool) (j:List al) (sub:List aa) (k:Bool) (l:Option Bool) (m:Option ae) (k0 k1 k2 k3 k5:Option aa) (n:String),
   v=.ref e/\a.heap.get? C=U (excClassObj f q C N bs b i j sub k l m k0 k1 k2 k3 k5 n)/\b.contains #[32]=true/\a.heap.get? e=U { cls:=.ref C,dict:=c,data:=.fields #[q] }/\E #[aL] a) E s) :
  au M A (raiseStmt env (U x) af) Q E s:=by
 unfold raiseStmt;refine aj (aZ h #[qK,v,a,r] λ_ _ x=>x);obtain⟨e,C,T,c,f,q,N,bs,b,i,j,sub,k,l,m,k0,k1,k2,k3,k5,n,rfl,o,t,u,w⟩:=r;show#[gn,hp,tk,a];have y:#[rz,C,b].contains #[32]=true:=by rw[QJ,t,Qaz]
 repeat (first|with_reducible refine wpAny_loadPart_at u ?_|with_reducible refine wpAny_loadPart_at o ?_|(with_reducible refine wpAny_isSubtype_exc o ?_;rw[y])|wp_step)
 exact wpAny_raiseNew_none p w
universe E
def KR(C:ae)(sp:Sp)(E:St->XK)(t:TA):TS:=λ_ a H=>t a H λvs b=>∀e,b e=af ->
 sp (.ref e::vs) #[h8,b,e,exN,af] (λv c=>v=.non/\∃d,c e=U (exN e C d)/\E a #[M] d (off e c)) λ_ _ _=>False
section
variable {X:Cx} {E:St->XK} {k:Nat} {f C B:ae} {fd:bu} {ps:List al} {sp:Sp} {x:al} {p pos bg:Pos} {e:aH} {es:List aH} {t:TA}
theorem KQ{m:#[S]}{n:St}{H:Hp}{s:ai}{us:#[bd]}{vs:#[pO]}{Q:Hp->Option ae->ae->Prop}(M:XM X.K C B f)(F:#[lJ])(y:#[uL])(hb:#[oq])(lT:#[ok])
  (I:#[gY,m,n]) (r:ZK vs us) (h:∀e,H e=af->sp (.ref e::vs) #[h8,H,e,exN,af] (λv i=>v=.non/\∃c,i e=U #[wX]/\Q i c e) λ_ _ _=>False) :
  #[kV] (call #[M] us) (λu s'=>X3 λe c i=>u=.ref e/\s.heap.objs.size<=e/\Inv X m n i s'/\i e=U #[wX]/\Q i c e) X.xe s:=by
 have p:=h #[G] #[oU];show#[gM,nm,sn,ab,bW,A];have q:ZK (V.ref #[G]::vs) #[rz,#[G],us]:=.cons rfl r;have t:#[rz,#[G],us].length=ps.length:=by have e:=q.length;rw[F.len _ _ _ _ p]at e;exact e.symm
 show#[gn,j,w,s];refine Ztw I.kIn (I.kIn _ _ A) M.init M.fn (λh' T D E=>?_) (by rw[QH]at t;rw[aP];lia);have o:Inv X m n (upd H #[lY] (exN #[lY] C af)) #[gk,h',w]:=I.laid (a:=j.objs.size+1) (h':=h') (t':=w) (λb u z=>D b u z) (Q1 _) (Sd E);have x:=hb _ #[rz,#[lY],us] o.kIn #[ei,Qai,t];rw[Qai]at x;refine wpAny_call (codeAny_mono (F.run _ X.stack _ _ ⟨aa.ref #[lY]::us,[]⟩ #[rz,#[lY],us] _ _ #[nt] (y.make C us [])
  (o.env0.make C us []) x q p) λr s' l=>?_)
 cases r with
 | error e=>exact #[uP]
 | ok G =>
  cases G with
  | ret u=>obtain⟨v,J,K,L,O,c,P,R⟩:=o.after l;subst O;exact⟨L,_,c,J,rfl,Q1 _,K,P,R⟩
  | next=>exact #[uP]
  | brk=>exact #[uP]
  | cont=>exact #[uP]
theorem ZnA(M:XM X.K C B f)(F:#[lJ])(R:#[uL])(hg:#[uO])(hm:X.mg x=U #[M])(hb:#[oq])(lT:#[ok])(hx:#[fg,S])
  (ha:#[75]) (cI:#[j]:=by decide) (he:#[h]:=by rfl) (bI:#[b7]:=by rfl) :
  PS X #[bW] (KR C sp E t):=by
 show#[e8,V,l,D];rw[arm_exec_Raise];refine aj (bw (KS R.hd ?_));refine aj (aZ (Q:=λv i=>∃ (b n T:ae) (di:Option ae) (w q:al) (N:ae) (bs W:List aa) (dr:Bool) (A:List al) (sub:List aa) (G:Bool) (J:Option Bool) (d:Option ae) (k0 k1 k2 k3 k5:Option aa) (bE:String),
   v=.ref b/\i.heap.get? n=U (excClassObj w q n N bs W dr A sub G J d k0 k1 k2 k3 k5 bE)/\W.contains #[32]=true/\i.heap.get? b=U { cls:=.ref n,dict:=di,data:=.fields #[q] }/\X.xe #[ts] i) (ba (WH I hg hm ?_ cI)) #[tU] λ_ _ x=>x)
 refine Q4 (h₀:=X.base) I.ok.mod.kin M.kp #[gt,bg,V,l,us,i] he bI;obtain⟨vs,H1,g,r,q⟩:=a;refine⟨g.kIn,thn (KQ (Q:=λK d e=>E l #[M] d (off e K)) M F R hb lT g r q) λu s2 z=>?_⟩;obtain⟨b,d,K,rfl,j,L,Y,q2⟩:=z;show#[gM,w,A,G,J,lC];show#[rr,Z,L.hok,b,Y];have O:∀a o,i.heap.get? a=U o->a≠b:=λa o ha z=>by have:=Qm ha;show#[hh,z,j]
 refine⟨b,C,T,d,w,q',N,bs,.ref B::YH,true,A,sub,G,J,dq,k0,k1,k2,k3,k5, "ValueError.__new__",rfl,L.kIn _ _ lC,by rw[QJ,FV.hasBase,Qaz],Z,hx _ _ ?_⟩;refine⟨b,.ref C,d,V,l,off b K,rfl,Ql g.sz j,λz=>?_,λy c hc z=>?_,by unfold off;rw[if_pos rfl],L.untrack Y,λp hp z=>?_,.inl ⟨_,_,Z,rfl,rfl,rfl,rfl⟩,q2⟩
 ·show#[ih,P,g.loc,O]
 ·obtain⟨v,o,P,_⟩:=g.cell y c hc;exact O _ _ P z
 ·exact O _ _ (g.pin p hp).1 z
universe E
abbrev O2(prog:ax)(w:aE)(A:aB)(E:#[F])(Q:#[F]):Result->ai->Prop:=λr s'=>match r with|.ok (.ret v)=>au #[p] A (handedOut v) Q E s'|_=>False
structure XG (K:#[7]) (C:ae):Prop where
 ga:PySem.W.findIn K #[M] "__getattribute__" = U #[61]
 gh:PySem.W.findIn K #[M] "__getattr__" = U af
 sb:PySem.W.subIn K #[M] #[32]=U true
 hd:PySem.W.hasDictIn K C=true
 ca:PySem.W.findIn K #[M] "__class__" = U (U #[A])
 hm:PySem.W.mroIn K C #[dx]=U true
section
variable {prog:ax} {w:aE} {A:aB} {E:aa->ai->Prop} {s:ai} {K:#[7]} {C e:ae} {oe:aJ} {od:Option aJ} {name:al}
theorem KP{tk:Tok}{fill a:Bool}{Q:#[F]}(X:#[lw])(I:#[j5])(c:XG K C)
  (h:au #[p] A.in1 (aO.«object.__getattribute__» ⟨[.ref e,.str name tk],[]⟩)
   (λfin s'=>match fin with|.done f=>O2 prog w A E Q (.ok f) s'|.again b=>b.quiet=true/\bU #[p] A b (O2 prog w A E Q) s') (λg s'=>O2 prog w A E Q (.error g) s') s) :
  au #[p] A (getAttrBy #[aL] #[p8] fill a) Q E s:=by
 have d:=#[nJ];have i:=#[xK,c.ga];have L2:=#[xK,c.gh];unfold getAttrBy;refine aS (aj (d.here (aj (i.here ?_))));dsimp only;have j:(aa.builtin "BaseException.__getattribute__" == aa.builtin "object.__getattribute__")=false:=by ac_rfl
 rw[j,Bool.and_false,if_neg #[6]];unfold getAttrByItsOwn hookBefore callGetattribute boundAndCalled;have k:(a&&onTheHeap (aa.builtin "BaseException.__getattribute__"))=false:=by cases a<;>rfl
 rw[show onTheHeap (aa.ref C)=true from rfl,if_pos rfl,k,if_neg #[6],PySem.F.excAttr_ValueError.ga.bind];refine aj (L2.here (aj (wpAny_attempt (aS (aj (av (wpAny_call ?_)))))));refine codeAny_call_builtin PySem.F.excAttr_ValueError.ga.plain PySem.F.entry_bexc_ga ?_;refine @PySem.W.check_slot #[p] _ _ s "BaseException.__getattribute__" "BaseException" "__getattribute__" #[aL] [.str name tk] [] _ #[1] #[1] (d.andThen (PySem.W.looks_subIn X c.sb)) (PySem.F.args_bexc_ga #[aL] #[p8]) ?_;refine aZ h #[qK,fin,s',z] λ_ _ z=>z.elim;cases fin with
 | done f=>cases f<;>first|exact z|exact z.elim
 | again b=>exact⟨z.1,codeAny_mono z.2 λr s2 y=>by rcases r with _|(_|_|_|_)<;>first|exact y|exact y.elim⟩
theorem Zod{a:Bool}{v:aa}{Q:#[F]}(X:#[lw])(I:#[j5])(c:XG K C)(b:PySem.W.findObj K C od name=U (.value v))(f:#[wK])
  (h:#[sY]):au #[p] A (getAttr #[aL] name a) Q E s:=by
 refine aj (wpAny_mkText #[wj]);show#[gn,h0,tt,s];have i:=#[nJ];have j:=PySem.W.looks_find (M:=ay prog w) X I b;show#[dR];refine av ?_;show au _ _ (handedOut v) _ _ _;rw[PySem.W.handedOut_of f];exact av h
theorem ZrU{Q:#[pq]}(X:#[lw])(I:#[j5])(c:XG K C)(a:PySem.W.findObj K C od "__class__" = U (.bind #[63] #[A]))
  (h:Q (U #[M]) { s with toks:=s.toks+1 }):au #[p] A (getAttr? #[aL] "__class__") Q E s:=by
 refine aj (wpAny_mkText (aj (wpAny_attempt #[wj])));show#[gn,b,f,s];have i:=#[nJ];have j:=PySem.W.looks_find (M:=ay prog w) X I a;show#[dR];show au _ _ (aO.ObjectAttr.bindTo _ _ _ _) _ _ _;unfold aO.ObjectAttr.bindTo;refine aj (aS (wpAny_call (PySem.W.class_get (s:=⟨b,g,d,f+1,os⟩) (ox:=oe) (od:=od) X I c.hm ?_)));refine av ?_;show au _ _ (handedOut #[M]) _ _ _;rw[PySem.W.handedOut_of rfl];exact av (av h)
theorem ZuG(c:XG K C)(d:#[cH])(f:#[kF]) :
  PySem.W.KitX K #[aL] #[M] (λh=>X2 λoe od=>PySem.W.InstAt h e oe C od) where
 ty:=λ_ _ _ I=>by obtain⟨oe,od,I⟩:=I;exact I.type
 it:=λ_ _ X _=>by
  obtain⟨g,a,_⟩:=Qbi c.hd;unfold PySem.W.clsIn at a;split at a
  ·rename_i i j l m b;intro A' Q' E' s' k q;unfold isType loadHead;exact aj (wpAny_loadPart #[rf,k,X,b] (av q))
  ·cases a
 ne:=λh o dd its n sl X p=>by
  obtain⟨g,a,_⟩:=Qbi c.hd;refine Qag.mpr λq=>?_;have e:C=o:=aa.ref.inj (beq_iff_eq.mp q);subst e;unfold PySem.W.clsIn at a;split at a
  ·rename_i i j l m b;have z:=(X _ _ b).symm.trans p;cases z
  ·cases a
 ca:=λX I k=>by obtain⟨oe,od,I⟩:=I;refine ZrU X I c ?_ k;obtain⟨cd,r,_⟩:=Qbi c.hd;unfold PySem.W.findObj;rw[r,c.ca];simp only[Option.bind_some,d,f]
universe E
universe E.L2
namespace L2
open PySem PySem.Spec PyProof.Rows
def tXF(K:#[7])(b:TE)(f:al):TE:=λc H Q=>b c H λx a=>X5 λe C dx fs v=>x=.ref e/\a e=U (exO e C (U dx))/\a dx=U #[oF]/\XG K C/\YD K C f/\fs.lookup f=U v/\Q v a
def Zuv(K:#[7]):List V->Hp->VK->Prop:=λvs H Q=>X5 λe C a c b=>vs=[.ref e,c]/\H e=U (exO e C a)/\XG K C/\(a=af\/X2 λdx fs=>a=U dx/\H dx=U #[oF]) /\
 (∀u,ZI c u->PySem.W.kitOne K #[M] u=U b)/\PySem.W.specialIn K #[A] "__get__" = U (U #[63])/\PySem.W.takesIn K #[A]=U true/\Q (.bl b) H
def ZqH:V->List V->Hp->VK->Prop:=λx vs H Q=>X3 λ(l:ae) (ns:List Bool) (n:Bool)=>x=.ref l/\vs=[.bl n]/\H l=U (.lst (ns.map V.bl))/\Q (.int ((ns.count n:Nat):Int)) H
theorem KO(n:Bool):∀ {ns:List Bool} {us:List aa},ZK (ns.map V.bl) us->us.countP (isBoolOf n)=ns.count n
 | [],_,h=>by cases h;rfl
 | m::r,_,h=>by
  cases h with
  | cons h1 h2=>obtain rfl:=h1;rw[List.countP_cons,List.count_cons,KO n h2];rfl
section
variable {X:Cx} {ah:List (ae×aJ)} {σ:St} {H:Hp} {s:ai} {e C:ae} {dd:Option ae}
theorem Zue(I:#[i])(he:H e=U (exO e C dd))(hd:dd=af\/X2 λdx fs=>dd=U dx/\H dx=U #[oF]):X2 λa od=>PySem.W.InstAt s.heap e a C od:=by
 obtain⟨⟨a,vs,b,c,d,g⟩,_,_⟩:=I.hok e _ he;have f:PySem.W.notCls a=true:=by unfold PySem.W.notCls;rw[g]
 rcases hd with rfl|⟨dx,fs,rfl,hd⟩
 ·exact⟨a,af,b,c,f,by rw[d];exact True.intro⟩
 ·obtain⟨_,⟨od,h⟩,_⟩:=I.hok dx _ hd;exact⟨a,U od,b,c,f,by rw[d];exact h⟩
theorem Vo{o:aH}{f:al}{pos:Pos}{i:TE}(ha:PE X o i)(hb:#[gC,f]):PE X #[hf,f,pos] (tXF X.K i f):=by
 show#[e8,ah,σ,Q];refine Mp hb (thn #[h7,ha,ah,σ] λu k a=>?_);obtain⟨x,m,d,p,e,C,t,fs,v,rfl,w,y,c,n,l,q⟩:=a;obtain rfl:u=aa.ref e:=p;obtain⟨⟨j,vs,z,A,B,D⟩,_,_⟩:=d.hok e _ w;obtain⟨⟨E,F,r,_⟩,_,_⟩:=d.hok t _ y;show#[qS,G,K,L,Mu,F];have M:PySem.W.notCls j=true:=by unfold PySem.W.notCls;rw[D]
 have J:PySem.W.InstAt k.heap e j C (U G):=⟨z,A,M,by rw[B];exact K⟩;have b:=r f;rw[l]at b;cases g:E f with
 | none=>rw[g]at b;exact b.elim
 | some u=>rw[g]at b;exact Zod d.kIn J c (PySem.W.findObj_own c.hd n rfl (by rw[L,g])) (Ms b) ⟨v,m,d.tok _,b,q⟩
theorem isX(K:#[7])(a:X.K=K:=by rfl):YS X #[cr] (Zuv K):=by
 subst a;show#[nr];obtain⟨e,C,dd,c,b,rfl,d,g,f,i,j,k,q⟩:=h;cases r with
 | cons l r =>
  cases r with
  | cons m r=>cases r;obtain rfl:=l;exact QX (ZuG g j k) I.kIn (Zue I d f) (i _ m) #[t] λtk=>⟨.bl b,H,I.tok _,rfl,q⟩
theorem ZsZ:MtM X "list.count" ZqH:=by
 show#[gx,vs,us,d,f];obtain⟨l,a,n,rfl,rfl,g,q⟩:=h;cases d;obtain⟨u,rfl,i⟩:=f.one;obtain rfl:=i;show#[rY,j,g];refine call_meets F.slot_list_count #[sN] F.entry_list_count (F.args_list_count_2 _ _) (SeqAt.list_countAt l its.toArray j _ _ (.bool n) (isBoolOf n)) ⟨e,?_,?_⟩
 ·intro y k;obtain⟨m,b⟩:=Qak.mp (List.mem_toArray.mp k);have o:m<a.length:=by have:=(Qe.mp b).1;have:=#[wC];rw[Qa]at this;lia
  have p:(a.map V.bl)[m]? = U (V.bl a[m]):=by rw[Qp,Qb o];rfl
  show#[qS,y',c,t,r.get,p];show#[fe,b,c,c];obtain rfl:=t;exact #[wb]
 ·rw[KO n r];exact#[kC]
theorem WC{x:al}{pos:Pos}{C:ae}(hm:X.mg x=U #[M])(a:#[uO]:=by rfl)(b:#[j]:=by decide):PE X #[bX] (tC #[M]) :=
 λ_ _ _ H _ I h=>WH I a hm ⟨.ref C,H,I,rfl,h⟩ b
universe E
structure D1f (P:ax) (w:aE) (K:#[7]) (mg:#[R]) (base:aF) (k:Nat) (x:al) (ps:#[Q]) (sp:Sp):Prop where
 ex:X2 λf fd=>YF P w K mg base (CX1 P w) k f fd ps sp/\mg x=U #[bT]/\PySem.W.keepIn K #[bT]=true/\YC K fd ps []
structure C1f (P:ax) (w:aE) (K:#[7]) (mg:#[R]) (base:aF) (k:Nat) (C:ae) (x:al) (ps:#[Q]) (sp:Sp):Prop where
 ex:X2 λf fd=>YF P w K mg base (CX1 P w) k f fd ps sp/\Mk K C f/\YC K fd ps []/\mg x=U #[M]
structure Xf (P:ax) (w:aE) (K:#[7]) (mg:#[R]) (base:aF) (k:Nat) (C B:ae) (x:al) (ps:#[Q]) (sp:Sp):Prop where
 ex:X2 λf fd=>YF P w K mg base CX0 k f fd ps sp/\XM K C B f/\YC K fd ps []/\mg x=U #[M]
structure UM (K:#[7]) (mg:#[R]) (C B:ae) (x aR:al) (st:aI) (ps:#[Q]):Prop where
 ex:X2 λf fd=>Fun K "__init__" aR st f fd/\XM K C B f/\YC K fd ps []/\mg x=U #[M]
section
variable {P:ax} {w:aE} {K:#[7]} {mg:al->Option aa} {base:aF}
theorem UM.xf{C B:ae}{x c:al}{st:aI}{N ps:#[Q]}{k:Nat}{sp:Sp}(T:UM K mg C B x c st ps)(S:#[ir])(len:#[N])
  (d:∀ (a:aa) (f:ae) (A:aB) (outer:List Env) (s:ai) (H:Hp) (vs:List V) (Q:VK) (E:XK),Y4 k #[95]->XM K C B f->sp vs H Q E ->
   ∃t,PSs #[b3].nox (Zq st) t/\t { nx:=λ_ e=>Q .non e,rt:=Q } #[lg] H):Xf P w K mg base (k+1) C B x ps sp:=by
 obtain⟨f,i,F,m,b,g⟩:=T.ex;exact⟨f,i,F.ok S len (λa A outer s H vs Q E j h=>d a f A outer s H vs Q E j m h),m,b,g⟩
theorem UM.cls{C B:ae}{x a:al}{st:aI}{ps:#[Q]}(T:UM K mg C B x a st ps):UN K C #[pE]:=by obtain⟨f,fd,F,m,b,g⟩:=T.ex;exact m.xc.cls
noncomputable abbrev cx1(P:ax)(w:aE)(K:#[7])(mg:#[R])(base:aF)(N:#[Q])(a:al)(b:bh)(f:ae)(c:aa)(A:aB)(outer:#[ow])(s:ai)(H:Hp)(E:XK):Cx :=
 (XN (CX1 P w) P w K mg base N a b f c A outer s H E).wish (XE #[hx,a,b,c] (λ_=>E))
theorem Top.df1{x:al}{st:aI}{N ps:#[Q]}{k:Nat}{sp:Sp}(T:Top K mg x st ps)(S:#[ir])(len:#[N])
  (c:∀ (a:aa) (f:ae) (A:aB) (outer:List Env) (s:ai) (H:Hp) (vs:List V) (Q:VK) (E:XK),Y4 k #[fn,x]->sp vs H Q E ->
   ∃t,PSs (cx1 P w K mg base N x (Zh st) f a A outer s H E) (Zq st) t/\t { nx:=λ_ d=>Q .non d,rt:=Q } #[lg] H):D1f P w K mg base (k+1) x ps sp:=by
 show#[sp,e];exact⟨f,e,F.ok1 S len #[eH,g,c],m,F.kp,b⟩
universe E
section
variable {X:Cx} {E:St->XK} {k j:Nat} {C B:ae} {x:al} {ps:List al} {sp:Sp} {e:aH} {es:List aH} {t:TA} {p pos bg:Pos}
theorem Sa(F:D1f X.prog X.w X.K X.mg X.base k x ps sp)(hx:#[fg,a])(c:#[sX])(ha:#[75])(d:k<=j:=by decide)(g:#[uO]:=by rfl)(h:#[j]:=by decide)
  (i:#[h]:=by rfl) (l:#[s]:=by rfl) :
  PE X #[Z] (K6 sp E t):=by
 show#[rj,m,n,b];exact ZoM F (c.mono d) g m n b hx ha h i l
theorem ZtN(F:#[mi])(hx:#[fg,a])(c:#[sX])(ha:#[75])(d:#[ok]:=by decide)(h:k+1<=j:=by decide)(i:#[uO]:=by rfl)(l:#[j]:=by decide)
  (m:#[h]:=by rfl) (n:#[b7]:=by rfl) :
  PS X #[bW] (KR C sp E t):=by
 show#[rj,g,b,o];exact ZnA g F (c.mono h) i o b d hx ha l m n
universe E
section
variable {K:#[7]} {C D:ae}
theorem R9:PySem.W.kitOne K #[M] #[M]=U true:=by unfold PySem.W.kitOne;rw[if_pos #[4]]
theorem R8(h1:#[gL,D])(h2:#[qv,#[lF]])(a:#[gH,#[M],D]):PySem.W.kitOne K #[M] #[lF]=U true:=by
 unfold PySem.W.kitOne;split
 ·rfl
 ·show#[kD];dsimp only;rw[b,h2,if_pos #[5]];exact a
theorem WP(h1:#[gL,D])(h2:#[qv,#[lF]])(a:PySem.W.subIn K #[M] #[lF]=U false)(h4:#[ey,#[M],#[M]]):PySem.W.kitOne K #[M] #[lF]=U false:=by
 have ne:C≠D:=λz=>by subst z;show#[fe,a,h4,h4]
 unfold PySem.W.kitOne;rw[if_neg (by simp[ne])];show#[kD];dsimp only;rw[b,h2,if_pos #[5]];exact a
theorem R7(h:#[ey,#[M],#[45]]):PySem.W.kitOne K #[M] #[45]=U true:=by unfold PySem.W.kitOne;rw[if_neg (λz=>by cases z)];unfold PySem.W.kitCls;dsimp only;rw[if_pos #[1]];exact h
universe E
theorem KN:cm "ValueError" = U #[45]:=by first|rfl|ac_rfl
universe E.L2
namespace L2
open PySem PyProof.Rows
section
variable {prog:ax} {w:aE} {A:aB} {E:aa->ai->Prop} {h:aF} {g:Array GenState} {d:Drawn} {t:Nat} {os:OsState} {K:#[7]}
variable {nm q:al} {C N B:ae} {bs:List aa} {dr:Bool} {sn:List al} {sub:List aa} {ab:Bool} {bW:Option Bool} {dd:Option ae} {k0 k1 k2 k3 k5:Option aa}
theorem Zlg{u:aa}{Q:Fin->ai->Prop}(X:K.In h)(c:#[k])(m:#[ff,#[M],#[40]])
  (hq:∀h' T,#[b6]->h'.get? #[af]=U { cls:=.ref C,data:=.fields #[q] }->Q (.done (.ret #[m5])) #[gk,h',t]) :
  au #[p] A (aO.«type.__call__» ⟨[.ref C,u],[]⟩) Q E #[62]:=by
 repeat (first|with_reducible refine wpAny_loadPart_at c ?_|with_reducible refine wpAny_madeBy_exc c ?_|wp_step)
 refine codeAny_call_builtin_code #[qn] (KZ c ?_);refine KY FV #[w0] #[vE] #[vD] c ?_ #[gX,1];show au _ _ _ _ _ _;generalize i:h.push { cls:=.type "tuple",data:=.seq [u].toArray }=e;have n:e.objs.size=h.objs.size+1:=by rw[<- i];exact QW _ _
 have k1:#[rO,h.get?,e.get?]:=λb o a=>by rw[<- i];exact Qc _ a
 generalize j:e.push { cls:=.ref C,data:=.fields #[.ref h.objs.size,.none,.none,.none,.bool false,.none] }=f;have k2:#[rO,h.get?,f.get?]:=λb o a=>by rw[<- j];exact Qc _ (k1 b o a)
 have k:f.get? #[af]=U { cls:=.ref C,data:=.fields #[bF] }:=by rw[<- j,<- n];exact #[wG]
 have l:=k2 _ _ c;have X2:K.In f:=X.keeps k2;have p:#[mI]:=by simp
 unfold isInstance;repeat (first|with_reducible refine wpAny_loadPart_at k ?_|(with_reducible refine wpAny_isSubtype_exc l ?_;rw[p])|wp_step)
 show#[la];refine aS (aj (wpAny_of_eq (FV.init.bind _) ?_));refine aj (KW l k ?_);rintro h' r ⟨s,v⟩
 wp_walk
 exact hq h' s (λb o a=>r b o (λz=>by have:=Qm a;rw[z]at this;exact #[tR]) (k2 b o a)) v
theorem KL{u:aa}{Q:#[F]}(X:K.In h)(a:#[k])(c:#[ff,#[M],#[40]])
  (hq:∀h' T,#[b6]->h'.get? #[af]=U { cls:=.ref C,data:=.fields #[q] }->Q #[m5] #[gk,h',t]) :
  au #[p] A (call #[M] [u]) Q E #[62]:=by
 show#[aO];repeat (any_goals (first|assumption|with_reducible refine wpAny_loadPart_at a ?_|wp_step))
 refine⟨rfl,codeAny_call_builtin_at #[uq] entry_typeCall (wpAny_check_type_call_sub a (Zlg X a c λh' T k e=>hq h' T k e))⟩
universe E
structure XW (K:#[7]) (mg:#[R]) (C B:ae) (x:al):Prop where
 obj:X14 λ(nm q:al) (N:ae) (bs:List aa) (sn:List al) (sub:List aa) (ab:Bool) (bW:Option Bool) (dd:Option ae) (k0 k1 k2 k3 k5:Option aa) =>
  K.lookup C=U #[cm]
 init:PySem.W.findIn K #[M] "__init__" = U (U #[40])
 kp:PySem.W.keepIn K #[M]=true
 m:mg x=U #[M]
theorem XW.cls{K:#[7]}{mg:#[R]}{C B:ae}{x:al}(c:XW K mg C B x):UN K C #[pE]:=by obtain⟨a,q,N,bs,b,sub,d,e,f,k0,k1,k2,k3,k5,h⟩:=c.obj;exact⟨a,q,N,bs,_,b,sub,d,e,f,k0,k1,k2,k3,k5,_,h⟩
def Zqq(C:ae)(E:St->XK)(t:TA):TS:=λ_ a H=>t a H λvs b=>∃x,vs=[.str x]/\E a #[M] af b
section
variable {X:Cx} {E:St->XK} {k j:Nat} {C B:ae} {x m:al} {ps:List al} {sp:Sp} {p bi pos bg:Pos} {e o:aH} {es:List aH} {ta:TE} {t:TA}
theorem KJ(M:XW X.K X.mg C B x)(hx:#[fg,S])(hr:#[sX])(ha:#[75])(hg:#[uO]:=by rfl)(cI:#[j]:=by decide)
  (he:#[h]:=by rfl) (bI:#[b7]:=by rfl) :
  PS X #[bW] (Zqq C E t):=by
 show#[e8,n,w,D];rw[arm_exec_Raise];refine aj (bw (KS hr.hd ?_));refine aj (aZ (Q:=λv k=>∃ (A F T:ae) (di:Option ae) (G q:al) (N:ae) (bs V:List aa) (dr:Bool) (J:List al) (sub:List aa) (K:Bool) (L:Option Bool) (dd:Option ae) (k0 k1 k2 k3 k5:Option aa) (bE:String),
   v=.ref A/\k.heap.get? F=U (excClassObj G q F N bs V dr J sub K L dd k0 k1 k2 k3 k5 bE)/\V.contains #[32]=true/\k.heap.get? A=U { cls:=.ref F,dict:=di,data:=.fields #[q] }/\X.xe (.ref A) k) (ba (WH I hg M.m ?_ cI)) #[tU] λ_ _ x=>x)
 refine Q4 (h₀:=X.base) I.ok.mod.kin M.kp #[gt,bg,n,w,us,k] he bI;obtain⟨vs,l,i,r,y,rfl,q⟩:=a;obtain⟨u,rfl,ru⟩:=r.one;show#[gM,G,J,K,L,W];show#[gn,f,Y,k];refine⟨i.kIn,KL i.kIn (i.kIn _ _ W) M.init λh' T Z O=>?_⟩;have hn:l #[db]=af:=i.hok.fresh (Q1 _);have I2:Inv X n w #[h8,l,#[db],exN,af] #[gk,h',Y]:=i.laid (a:=f.objs.size+1) (h':=h') (t':=Y) (λb u z=>Z b u z) (Q1 _) (Sd O);have I3:=I2.untrack (e:=f.objs.size+1) Zb;have eH:off #[db] #[h8,l,#[db],exN,af]=l:=by
  funext b;unfold off;by_cases z:b=f.objs.size+1
  ·rw[if_pos z,z,hn]
  ·rw[if_neg z,Zd z]
 rw[eH]at I3;have P:∀a o,f.get? a=U o->a≠f.objs.size+1:=λa o ha z=>by have:=Qm ha;rw[z]at this;exact #[tR]
 refine⟨f.objs.size+1,C,T,af,G,q',N,bs,.ref B::YH,true,J,sub,K,L,dq,k0,k1,k2,k3,k5, "ValueError.__new__",rfl,Z _ _ (i.kIn _ _ W),by rw[QJ,FV.hasBase,Qaz],O,hx _ _ ?_⟩;refine⟨f.objs.size+1,.ref C,af,n,w,l,rfl,Ql i.sz (Q1 _),λz=>?_,λy c hc z=>?_,hn,I3,λp hp z=>?_,.inl ⟨_,_,O,rfl,rfl,rfl,rfl⟩,q⟩
 ·show#[ih,R,i.loc,P]
 ·obtain⟨v,o,R,_⟩:=i.cell y c hc;exact P _ _ R z
 ·exact P _ _ (i.pin p hp).1 z
structure M1f (P:ax) (w:aE) (K:#[7]) (mg:#[R]) (base:aF) (k:Nat) (C:ae) (m:al) (ps:#[Q]) (sp:Sp):Prop where
 ex:X2 λf fd=>YF P w K mg base (CX1 P w) k f fd ps sp/\UW K C m f/\YC K fd ps []
def ZsH(C:ae)(m:al)(sp:Sp)(E:St->XK)(ta:TE)(t:TA):TE:=λa H Q=>ta a H λx b=>RMt C m x b (t a b λvs c=>sp (x::vs) c Q (E a))
theorem Vn{pl:Sem Bool}(F:#[gI,M1f,m])(c:#[ps])(hx:#[fg,d])(y:#[sX])(he:#[nH])(ha:#[75])(z:k<=j:=by decide)
  (A:#[h]:=by rfl) (B:#[s]:=by rfl)
  (D:eval #[49] X.env=(do
   let g <- eval o X.env
   standAt bi.atName
   let (f,first) <- holding [g] (getMethod g m pl)
   callWith pos f first (bc pos #[j8]) #[aR]):=by rfl) :
  PE X #[49] (ZsH C m sp E ta t):=by
 obtain⟨f,fd,F,i,b⟩:=F.ex;show#[qH,n,p,D];show#[gP,G,J,v,K,L];refine Pu v L c i l ?_;refine Q4 (first:=#[lL]) (h₀:=X.base) I.ok.mod.kin i.kp (thn (ha pos n G p J _ v q) λus s2 ⟨vs,H2,w,r,M⟩=>⟨w.kIn,?_⟩) A B;exact K7 (us:=.ref a::us) (vs:=.ref a::vs) F (y.mono z) b hx w (.cons rfl r) M
universe E
theorem Ym.mf1{P:ax}{w:aE}{K:#[7]}{mg:#[R]}{base:aF}{C:ae}{m c:al}{st:aI}{N ps:#[Q]}{k:Nat}{sp:Sp}(T:Ym K C m c st ps)(S:#[ir])(len:#[N])
  (d:∀ (a:aa) (f:ae) (A:aB) (outer:List Env) (s:ai) (H:Hp) (vs:List V) (Q:VK) (E:XK),Y4 k #[95]->sp vs H Q E ->
   ∃t,PSs (cx1 P w K mg base N c (Zh st) f a A outer s H E) (Zq st) t/\t { nx:=λ_ e=>Q .non e,rt:=Q } #[lg] H):M1f P w K mg base (k+1) C m ps sp:=by
 show#[sp,g];exact⟨f,g,F.ok1 S len #[eH,i,d],m,b⟩
def Zp9:V->List V->Hp->VK->Prop:=λx vs H Q=>X4 λ(l:ae) (ns:List Bool) (b:Bool) (j:Nat)=>x=.ref l/\vs=[.bl b]/\H l=U (.lst (ns.map V.bl))/\ns.length<=1000/\ns[j]? = U b/\(∀m,m<j->ns[m]?≠U b)/\Q (.int (j:Int)) H
theorem Zs4{X:Cx}:MtM X "list.index" Zp9:=by
 show#[gx,vs,us,w,A];obtain⟨l,f,b,j,rfl,rfl,B,bb,o,C,q⟩:=h;cases w;obtain⟨u,rfl,D⟩:=A.one;obtain rfl:=D;show#[rY,E,B];have ce:its.length=f.length:=by have:=#[wC];rw[Qa]at this;lia
 have a:∀ {m:Nat} {y:aa},its[m]? = U y->∃c,f[m]? = U c/\y=.bool c:=λ{m y} d=>by
  have g:m<f.length:=by have:=(Qe.mp d).1;lia
  have G:(f.map V.bl)[m]? = U (V.bl f[m]):=by rw[Qp,Qb g];rfl
  show#[qS,y',p,J,r.get,G];show#[fe,d,p,p];exact⟨_,Qb g,J⟩
 have t:j<its.length:=by have:=(Qe.mp o).1;lia
 refine call_meets F.slot_list_index #[sN] F.entry_list_index (F.args_list_index_2 _ _) (SeqAt.list_indexAt l its.toArray E _ _ (.bool b) (isBoolOf b) j #[el,t] #[2] ?_ ?_) ⟨e,?_,?_⟩
 ·obtain⟨c,i,k⟩:=a (Qb t);show#[fe,o,i,i];show isBoolOf b (its[j])=true;rw[k];cases b<;>rfl
 ·intro m d K;have g:m<its.length:=by simpa using d
  obtain⟨c,i,k⟩:=a (Qb g);have n:c≠b:=λz=>C m K (by rw[i,z]);show isBoolOf b (its[m])=false;rw[k];revert n;cases b<;>cases c<;>intro n<;>first|rfl|exact #[xF,n]
 ·intro y L;obtain⟨m,d⟩:=Qak.mp (List.mem_toArray.mp L);obtain⟨c,_,rfl⟩:=a d;exact #[wb]
 ·exact#[kC]
theorem KI{P:ax}{w:aE}{H:Hp}{h:aF}{e C T:ae}{f:#[dB]}(he:#[gp,f]):Z5 P w H h e (exO e C f) :=
 ⟨⟨_,_,he,rfl,rfl,rfl⟩,⟨_,he⟩,λh1 h2 z k=>by obtain⟨g,i,a,b,c,d⟩:=z;exact⟨g,i,k _ a,b,c,d⟩⟩
def Zu4(C:ae)(t:TA):TE:=λb H Q=>t b H λvs a=>∃x,vs=[.str x]/\∀e,a e=af->Q #[aL] #[h8,a,e,exO,af]
def Zu0(C:ae)(sp:Sp)(t:TA):TE:=λd H Q=>t d H λvs a=>∀e,a e=af->sp (.ref e::vs) #[h8,a,e,exN,af] (λv b=>v=.non/\∃c,b e=U #[wX]/\Q #[aL] #[h8,b,e,exO,c]) λ_ _ _=>False
section
variable {X:Cx} {k j:Nat} {C B:ae} {x:al} {ps:List al} {sp:Sp} {p pos:Pos} {e:aH} {es:List aH} {t:TA}
theorem KH(M:XW X.K X.mg C B x)(ha:#[75])(l:#[uO]:=by rfl)(m:#[j]:=by decide)
  (n:#[h]:=by rfl) (o:#[s]:=by rfl) :
  PE X #[Z] (Zu4 C t):=by
 show#[ib,i,j,l,M.m,m];refine Q4 (h₀:=X.base) I.ok.mod.kin M.kp #[gt,pos,i,j,us,v] n o;obtain⟨vs,w,c,r,y,rfl,q⟩:=a;obtain⟨u,rfl,ru⟩:=r.one;show#[gM,nm,sn,ab,bW,A];show#[gn,f,k,v];refine⟨c.kIn,KL c.kIn (c.kIn _ _ A) M.init λh' T D E=>?_⟩;have F:Inv X i j #[h8,w,#[db],exO,af] #[gk,h',k]:=c.laid (a:=f.objs.size+1) (h':=h') (t':=k) (λb u z=>D b u z) (Q1 _) (KI E);exact⟨.ref #[db],_,F,rfl,q _ (c.hok.fresh (Q1 _))⟩
theorem R6(F:#[mi])(y:#[sX])(ha:#[75])(A:#[ok]:=by decide)(D:k+1<=j:=by decide)(E:#[uO]:=by rfl)(G:#[j]:=by decide)
  (J:#[h]:=by rfl) (K:#[s]:=by rfl) :
  PE X #[Z] (Zu0 C sp t):=by
 show#[rj,M,L,N];show#[ib,l,m,E,N,G];refine Q4 (h₀:=X.base) I.ok.mod.kin M.kp #[gt,pos,l,m,us,s1] J K;obtain⟨vs,H1,n,r,q⟩:=a;refine⟨n.kIn,thn (KQ (Q:=λd g e=>Q #[aL] #[h8,d,e,exO,g]) M F (y.mono D) L A n r q) λu i z=>?_⟩;obtain⟨c,g,d,rfl,hsz,o,v,O⟩:=z;show#[rr,w,o.hok,c,v];have P:Inv X l m #[h8,d,c,exO,g] i:=o.write (x:=c) (e:=c) (h':=i.heap) (t':=i.toks) #[sf,v] #[8] (λb u _ q=>q) ⟨_,w⟩ (KI w);exact⟨.ref c,_,P,rfl,O⟩
universe E
def ZtF(i j l:Nat)(b:TA):TS:=λD a H=>b a H λvs c=>X3 λv w z=>vs=[v,w,z]/\D.nx (((a.set l (U z)).set j (U w)).set i (U v)) c
theorem Zqp{X:Cx}{pos:Pos}{i j l:Nat}{x y z:al}{a b c:aH}{B:TA}{m n r pt:Pos}{kt k2 t}(hc:#[am])(A:#[lS])(J:#[cz])(K:X.N[j]? = U y)(hl:X.N[l]? = U z)
  (hx:#[eT,x]) (hy:#[eT,y]) (C:#[eT,z]) (ha:PA X [a,b,c] B)
  (hw:swappedStores #[cX] #[nY] X.env=pure (U [x,y,z]))
  (hs:swapsWithSole #[cX] #[nY] pos.line X.env=pure false:=by rfl) :
  PS X (.Assign #[cX] #[nY] pos) (ZtF i j l B):=by
 show#[e8,E,F,D];show#[i5];refine aj (Tuple_ #[gt,_,E,F,L,d]);obtain⟨vs,G,M,N,v,w,u,O,P⟩:=a;subst O;obtain⟨f,g,k,rfl,Q,R,S⟩:X3 λf g k=>L=[f,g,k]/\ZI v f/\ZI w g/\ZI u k:=by
  cases N with
  | cons p q =>
   cases q with
   | cons T V =>
    cases V with
    | cons W Y=>cases Y;exact⟨_,_,_,rfl,p,T,W⟩
 refine bV ?_ #[21];have Z:Inv X E F G { d with heap:=d.heap.push { cls:=.type "tuple",data:=.seq [f,g,k].toArray } }:=M.kept (t':=d.toks) λb o e=>Qc _ e;rw[hw];refine aj #[py];show #[kV] (do rule "assign.swapped-stores";let items <- unpackItems (.ref d.heap.objs.size) 3 af;assignInOrder #[iH] items.reverse;pure Flow.next) _ _ _;refine aj (wpAny_rule (aj (unpackItems_tuple (items:=#[f,g,k]) #[iy] (IsTup.new d.heap _) λh' cr=>?_)));have I3:=Z.kept (h':=h') (t':=d.toks) λb o e=>cr b o #[tn] e;show au _ _ (assignInOrder #[iH] [k,g,f] >>= λ_=>pure Flow.next) _ _ _;refine aj (assignInOrder_cons (wpAny_bindName (Wx I3 A hl (.inl C) S (λs2 I4=>?_) (.inr C))));refine assignInOrder_cons (wpAny_bindName (Wx I4 A K (.inl hy) R (λs3 I5=>?_) (.inr hy)));refine assignInOrder_cons (wpAny_bindName (Wx I5 A J (.inl hx) Q (λs4 I6=>assignInOrder_nil #[py]) (.inr hx)));exact⟨_,G,I6,P⟩
universe E.L2
set_option maxHeartbeats 9000000
namespace My
open PySem L2 PyProof.Rows
noncomputable abbrev Yy:=@List.tail aI
noncomputable abbrev Yx(x:#[ou]):=Yy (Yy x)
noncomputable abbrev YG(x:#[ou]):=Yx (Yx x)
noncomputable abbrev Yv(x:#[ou]):=YG (YG x)
noncomputable abbrev Zt16(x:#[ou]):=Yv (Yv x)
noncomputable abbrev Zt32(x:#[ou]):=Zt16 (Zt16 x)
local macro_rules|`(‹$i:num›)=>`(@pv _ $i _ _ (by rfl) (Or.inl rfl) (by decide) (by decide))
local macro_rules|`(tactic|trivial)=>`(tactic|first|exact .inl rfl|exact .inr rfl|decide|exact Nat.le_refl _|lia)
noncomputable def hdS:List aI->aI
 | a::_=>a
 | []=>.Pass ⟨0,0,0,0⟩
noncomputable abbrev Z6:List aI:=PySem.Challenge.pw_mergetree_k21_late_deeds_refused.main.body
noncomputable abbrev Zie:aI:=#[qZ,YG,Yy]
noncomputable abbrev Zk5:aI:=#[qZ,YG,Yx]
noncomputable abbrev R5:aI:=#[gy,Zt16,YG,Yy]
noncomputable abbrev XI:aI:=#[gy,Zt16,YG,Yx]
noncomputable abbrev O1:aI:=hdS (Yv Z6)
noncomputable abbrev O0:aI:=#[qZ,Yv,Yy]
noncomputable abbrev OZ:aI:=#[gy,Yv,Yx,Yy]
noncomputable abbrev OY:aI:=#[qZ,Yv,YG]
noncomputable abbrev OX:aI:=#[gy,Yv,YG,Yy]
noncomputable abbrev OW:aI:=#[gy,Yv,YG,Yx]
noncomputable abbrev OV:aI:=#[rD,Yv,YG]
noncomputable abbrev OU:aI:=#[qZ,Zt16,Yy]
noncomputable abbrev OT:aI:=#[qZ,Zt16,Yx]
noncomputable abbrev OR:aI:=#[rD,Zt16,YG]
noncomputable abbrev OQ:aI:=#[qZ,Zt16,Yv]
noncomputable abbrev OP:aI:=#[gy,Zt16,Yv,Yx]
noncomputable abbrev OO:aI:=#[rD,Zt16,Yv]
noncomputable abbrev ON:aI:=#[gy,Zt16,Yv,YG]
noncomputable abbrev R4:aI:=hdS (Zt16 #[gj,Yv,YG])
noncomputable abbrev R3:aI:=hdS (Zt16 (Yv (YG (Yx Z6))))
noncomputable abbrev OM:aI:=hdS (Zt16 (Yv #[gj,YG,Yx]))
noncomputable abbrev OL:aI:=hdS (Zt32 Z6)
noncomputable abbrev OK:aI:=#[qZ,Zt32,Yy]
noncomputable abbrev R0:aI:=#[qZ,Zt32,Yx]
noncomputable abbrev OJ:aI:=#[r6,Yx,Yy]
noncomputable abbrev OI:aI:=#[qZ,Zt32,YG]
noncomputable abbrev RZ:aI:=#[r6,YG,Yy]
noncomputable abbrev RY:aI:=#[r6,YG,Yx]
noncomputable abbrev OH:aI:=#[rD,Zt32,YG]
noncomputable abbrev OG:aI:=#[qZ,Zt32,Yv]
noncomputable abbrev OF:aI:=#[r6,Yv,Yy]
noncomputable abbrev OE:aI:=#[r6,Yv,Yx]
noncomputable abbrev OD:aI:=#[rD,Zt32,Yv]
noncomputable abbrev OC:aI:=#[r6,Yv,YG]
noncomputable abbrev OB:aI:=hdS (Zt32 #[gj,Yv,YG])
noncomputable abbrev RX:aI:=hdS (Zt32 (Yv (YG (Yx Z6))))
noncomputable abbrev OA:aI:=hdS (Zt32 (Yv #[gj,YG,Yx]))
noncomputable abbrev RW:aI:=#[qZ,Zt32,Zt16]
noncomputable abbrev Oz:aI:=#[r6,Zt16,Yy]
noncomputable abbrev UL:aI:=#[r6,Zt16,Yx]
noncomputable abbrev Oy:aI:=#[rD,Zt32,Zt16]
noncomputable abbrev T0:aI:=#[r6,Zt16,YG]
noncomputable abbrev RV:aI:=hdS (Zt32 #[gj,Zt16,YG])
noncomputable abbrev VU:aI:=hdS (Zt32 (Zt16 (YG (Yx Z6))))
noncomputable abbrev Z8:aI:=Yn Zie 0
noncomputable abbrev TZ:aI:=Yn Zk5 0
noncomputable abbrev TY:aI:=Yn R5 0
noncomputable abbrev TX:aI:=Yn R5 2
noncomputable abbrev TW:aI:=Yn R5 3
noncomputable abbrev TV:aI:=Yn R5 4
noncomputable abbrev TU:aI:=Yn XI 0
noncomputable abbrev TR:aI:=Yn XI 1
noncomputable abbrev TQ:aI:=Yn XI 2
noncomputable abbrev UK:aI:=Yn XI 4
noncomputable abbrev UJ:aI:=Yn XI 5
noncomputable abbrev Z7:aI:=Yn XI 6
noncomputable abbrev TN:aI:=Yn XI 7
noncomputable abbrev TM:aI:=Yn XI 9
noncomputable abbrev TK:aI:=Yn XI 10
noncomputable abbrev TH:aI:=Yn XI 11
noncomputable abbrev TF:aI:=Yn XI 12
noncomputable abbrev TD:aI:=Yn XI 13
noncomputable abbrev TC:aI:=Yn XI 14
noncomputable abbrev TB:aI:=Yn XI 15
noncomputable abbrev Z3:aI:=Yn XI 16
noncomputable abbrev Tz:aI:=Yn XI 17
theorem KG:Zu ["_law_cell", "_law_k", "_law_m"] #[dV] (Zh OP):=#[0]
theorem KD:Zu ["_law_script", "_law_k", "_law_cell"] #[jd] (Zh OO):=#[0]
theorem KC:Zu ["_law_left_here", "_law_many_here", "_law_digit"] #[nj] (Zh ON):=#[0]
theorem KA:Zu #[hQ,"_law_some"] #[24] (Zh R4):=#[0]
theorem Kz:Zu #[k1] #[ai] (Zh R3):=#[0]
theorem Ox:Zu #[sV] #[48] (Zh OW):=#[0]
theorem ZpS:Zu #[99] #[99] (Zh OZ):=#[0]
theorem Ow:Zu ["_law_one", "_law_other", "_law_far"] #[lt] (Zh OJ):=#[0]
theorem Ky:Zu #[79] #[79] (Zh RY):=#[0]
theorem Tx:Zu ["_law_left_here", "_law_stems_here", "_law_most", "_law_found", "_law_k", "_law_key_here"] #[l] (Zh OM):=#[0]
theorem RU:Zu ["row", "told", "place", "key"] ["row"] (Zh OT):=#[0]
theorem Zkm:Zu #[bu] #[bu] (Zh OV):=#[0]
theorem Zn8:Zu #[99] #[99] (Zh OY):=#[0]
theorem Kx:Zu #[sV] #[48] (Zh OX):=#[0]
theorem Kw:Zu ["keys", "place"] ["keys"] (Zh OU):=#[0]
theorem Kv:Zu ["numbers", "middle"] ["numbers"] (Zh O1):=#[0]
theorem Ku:Zu ["_law_numbers", "_law_cut"] #[ua] (Zh OI):=#[0]
theorem Kt:Zu #[hQ,"_law_way_here"] #[24] (Zh OK):=#[0]
theorem ZjG:Zu #[11] #[11] (Zh TX):=#[0]
theorem Zke:Zu #[11] #[11] (Zh TW):=#[0]
theorem ZkP:Zu #[98] #[98] (Zh TY):=#[0]
theorem Ov:Zu ["self", "rows", "number", "keys"] #[u8] (Zh TU):=#[0]
theorem Ks:Zu #[da] #[11] (Zh TR):=#[0]
theorem Zh5:Zu #[11] #[11] (Zh UK):=#[0]
theorem Zhx:Zu #[11] #[11] (Zh UJ):=#[0]
theorem Zfb:Zu #[11] #[11] (Zh Z7):=#[0]
theorem ZhJ:Zu #[11] #[11] (Zh TN):=#[0]
theorem ZfI:Zu #[11] #[11] (Zh TD):=#[0]
theorem Wa:Zu ["self", "numbers", "first_side", "other_side", "one", "other", "winner", "loser", "far"] #[ma] (Zh TC):=#[0]
theorem RT:Zu ["self", "one", "other", "far", "order", "alike_far", "seen"] #[ae] (Zh Tz):=#[0]
theorem RS:Zu ["number", "keys", "place"] #[iU] (Zh OR):=#[0]
theorem ZpH:Zu #[l] #[l] (Zh OL):=#[0]
theorem Ou:Zu #[l] #[24] (Zh R0):=#[0]
theorem Kq:Zu #[lo] #[W] (Zh RZ):=#[0]
theorem RR:Zu ["_law_rows_here", "_law_own", "_law_n", "_law_row_here"] #[qd] (Zh OH):=#[0]
theorem Ot:Zu #[mA] #[36] (Zh OG):=#[0]
theorem UI:Zu ["_law_heads_here", "_law_numbers", "_law_one", "_law_other", "_law_here", "_law_there", "_law_a", "_law_b"] #[W] (Zh OF):=#[0]
theorem RQ:Zu ["_law_own", "_law_heads_here", "_law_likenings", "_law_looks"] #[36] (Zh OE):=#[0]
theorem Oq:Zu #[mA] #[36] (Zh OC):=#[0]
theorem Zjy:Zu #[36] #[36] (Zh RX):=#[0]
theorem RP:Zu ["_law_merge", "_law_own", "_law_heads_here", "_law_so_far", "_law_told"] #[lu] (Zh OA):=#[0]
theorem Kp:Zu #[hi,"thing"] #[11] (Zh TQ):=#[0]
theorem Tw:Zu ["self", "number", "row", "comer", "meeting"] #[mR] (Zh TB):=#[0]
theorem Tv:Zu ["self", "meeting", "comer", "stayer", "winner", "loser", "far"] #[b9] (Zh Z3):=#[0]
theorem Vm:Zu ["numbers", "n", "matches", "least", "greatest", "others"] #[cx] (Zh OQ):=#[0]
theorem Vl:Zu ["numbers", "n", "others", "side", "first", "rest"] #[cx] (Zh O0):=#[0]
theorem UH:Zu ["_law_numbers", "_law_n", "_law_some", "_law_way_here", "_law_one", "_law_other"] #[iY] (Zh OD):=#[0]
theorem Wu:Zu ["_law_own", "_law_thing", "_law_n", "_law_place", "_law_key_here", "_law_heads_here", "_law_here", "_law_there", "_law_a", "_law_b", "_law_far"] #[36] (Zh OB):=#[0]
theorem RO:Zu ["self", "row", "number"] #[da] (Zh TM):=#[0]
theorem ZgJ:Zu #[98] #[98] (Zh TV):=#[0]
theorem Ko:Zu #[ah] #[ah] (Zh TF):=#[0]
theorem RN:Zu ["self", "n", "many"] #[ah] (Zh TK):=#[0]
theorem Tu:Zu ["self", "n", "keys", "row", "sent_nothing"] #[bO] (Zh TH):=#[0]
theorem V9:Zu #[u] #[cy] (Zh UL):=#[0]
theorem Vk:Zu ["_law_merge", "_law_own", "_law_deed", "_law_word", "_law_n", "_law_keys_here", "_law_kept", "_law_many_here", "_law_sent_none"] #[iI] (Zh Oy):=#[0]
theorem Zfe:Zu #[aU] #[aU] (Zh Z8):=#[0]
theorem ZgM:Zu #[m9] #[m9] (Zh TZ):=#[0]
theorem Tt:Zu #[dT] #[ci] (Zh RW):=#[0]
theorem Ts:Zu ["_law_ask", "_law_merge", "_law_given", "_law_more", "_law_caught", "error", "_law_some"] #[bP] (Zh Oz):=#[0]
theorem WO:Zu #[O] #[ut] (Zh T0):=#[0]
theorem UG:Zu #[bi] #[24] (Zh RV):=#[0]
theorem Xg:Zu #[47] #[oo] (Zh VU):=#[0]
noncomputable abbrev zsc(l:#[hm,aN]):bh:={ kind:=.function,names:=l,isGenerator:=false,isCoroutine:=false,more:=[] }
noncomputable def ZqW:bh:=zsc [#[42],#[p9],("_law_pick",.globalImplicit),#[wo],("_law_some",.free)]
theorem Tr:YR #[hQ,"_law_some"] ["_law_left_here", "_law_some", "_law_k"] (Zh R4) ZqW:=#[Xzz]
noncomputable def Zqh:bh:=#[gl,"_law_k","_law_pick","_law_left_here"]
theorem RM:YR #[k1] ["_law_left_here", "_law_stems_here", "_law_tail", "_law_k"] (Zh R3) Zqh:=#[Xzz]
noncomputable def ZqC:bh:=zsc [#[42],#[gu,"_law_one"],#[gu,"_law_other"],("_law_same",.globalImplicit)]
theorem UF:YR #[79] ["_law_found", "_law_due", "_law_one", "_law_other"] (Zh RY) ZqC:=#[Xzz]
noncomputable def ZqL:bh:=zsc [#[42],#[gu,"row"]]
theorem Op:YR #[11] #[da] (Zh UK) ZqL:=#[Xzz]
noncomputable def Zp0:bh:=zsc [#[42],#[gu,"number"],#[gu,"row"]]
theorem Tq:YR #[11] ["self", "number", "row"] (Zh UJ) Zp0:=#[Xzz]
noncomputable def Zqu:bh:=zsc [#[42],#[p9],("_law_row",.globalImplicit),#[wo],("_law_most",.free),("_law_stems_here",.free)]
theorem UE:YR #[l] ["_law_left_here", "_law_stems_here", "_law_most", "_law_k"] (Zh R0) Zqu:=#[Xzz]
noncomputable def Zqt:bh:=zsc [#[42],#[gu,"_law_n"],("_law_heads_here",.free)]
theorem Vj:YR #[lo] ["_law_heads_here", "_law_numbers", "_law_some", "_law_n"] (Zh RZ) Zqt:=#[Xzz]
noncomputable def Zrv:bh:=#[gl,"_law_n","len","_law_own"]
theorem Vi:YR #[36] ["_law_own", "_law_n"] (Zh RX) Zrv:=#[Xzz]
noncomputable def Zri:bh:=#[av]
theorem Tp:YR #[u] #[P] (Zh UL) Zri:=#[Xzz]
noncomputable def Zqn:bh:=#[av]
theorem RL:YR #[u] #[P] (Zh UL) Zqn:=#[Xzz]
noncomputable def Zpl:bh:=#[av]
theorem To:YR #[u] #[P] (Zh UL) Zpl:=#[Xzz]
noncomputable def Zoo:bh:=zsc [#[42],#[p9],("_law_keys_here",.free)]
theorem Vh:YR #[dT] ["_law_left_here", "_law_row_here", "_law_keys_here", "?_law_k", "_law_places", "_law_k"] (Zh RW) Zoo:=#[Xzz]
noncomputable def ZoS:bh:=zsc [#[42],#[gu,"_law_n"],("_law_numbers",.free)]
theorem Tn:YR #[O] ["_law_left_here", "_law_own", "_law_numbers", "_law_none", "_law_way_here", "_law_keys_here", "_law_place", "?_law_n", "_law_ended", "_law_row_here", "_law_last", "_law_n"] (Zh T0) ZoS:=#[Xzz]
noncomputable def Zom:bh:=#[gl,"_law_m","len","_law_own"]
theorem VT:YR #[O] ["_law_left_here", "_law_own", "_law_numbers", "_law_none", "_law_way_here", "_law_keys_here", "_law_place", "_law_n", "_law_ended", "_law_row_here", "_law_last", "_law_m"] (Zh T0) Zom:=#[Xzz]
noncomputable def Zos:bh:=zsc [#[42],#[p9],("_law_at",.free)]
theorem RK:YR #[bi] ["_law_left_here", "_law_row_here", "_law_place", "_law_line", "_law_some", "_law_at", "_law_one", "_law_kinds", "_law_k"] (Zh RV) Zos:=#[Xzz]
noncomputable def ZoE:bh:=#[gl,"_law_some","_law_refused","_law_merge"]
theorem Tl:YR #[47] ["_law_script", "_law_k", "_law_left_here", "_law_rows_here", "_law_stems_here", "_law_own", "_law_merge", "_law_turn", "_law_again", "_law_ask", "_law_given", "_law_more", "_law_word", "_law_n", "_law_some"] (Zh VU) ZoE:=#[Xzz]
structure Bt (mg:#[R]):Prop where
 n_ValueError:mg "ValueError" = af
 n_abs:mg "abs" = af
 n_all:mg "all" = af
 n_bool:mg "bool" = af
 n_enumerate:mg "enumerate" = af
 n_int:mg "int" = af
 n_isinstance:mg "isinstance" = af
 n_len:mg "len" = af
 n_list:mg "list" = af
 n_max:mg "max" = af
 n_min:mg "min" = af
 n_range:mg "range" = af
 n_sorted:mg "sorted" = af
 n_str:mg "str" = af
 n_sum:mg "sum" = af
 n_tuple:mg "tuple" = af
 n_zip:mg "zip" = af
structure Z1 (K:#[7]) (mg:#[R]) (aw:ae) (ak:ae) (ap:ae) (aG:ae) (aA:ae) (am:ae) (aq:ae):Prop where
 b:Bt mg
 t_halves:Top K mg "halves" O1 ["numbers"]
 t_way_up:Top K mg "way_up" O0 #[cx]
 t_alike:Top K mg "alike" OZ #[99]
 t_liken:Top K mg "liken" OY #[99]
 t_liken_from:Top K mg "liken_from" OX #[48]
 t_alike_from:Top K mg "alike_from" OW #[48]
 t_order_at:Top K mg "order_at" OV #[bu]
 t_first_break:Top K mg "first_break" OU ["keys"]
 t_alikes:Top K mg "alikes" OT ["row"]
 t_refuse_break:Top K mg "refuse_break" OR #[iU]
 t_matches_up:Top K mg "matches_up" OQ #[cx]
 t_l_mix:Top K mg "_law_mix" OP #[dV]
 t_l_left:Top K mg "_law_left" OO #[jd]
 t_l_pick:Top K mg "_law_pick" ON #[nj]
 t_l_stems:Top K mg "_law_stems" R4 #[24]
 t_l_key:Top K mg "_law_key" R3 #[ai]
 t_l_keys:Top K mg "_law_keys" OM #[l]
 t_l_row:Top K mg "_law_row" OL #[l]
 t_l_many:Top K mg "_law_many" OK #[24]
 t_l_rows:Top K mg "_law_rows" R0 #[24]
 t_l_alike:Top K mg "_law_alike" OJ #[lt]
 t_l_halves:Top K mg "_law_halves" OI #[ua]
 t_l_least:Top K mg "_law_least" RZ #[W]
 t_l_same:Top K mg "_law_same" RY #[79]
 t_l_world:Top K mg "_law_world" OH #[qd]
 t_l_heads:Top K mg "_law_heads" OG #[36]
 t_l_first_play:Top K mg "_law_first_play" OF #[W]
 t_l_play:Top K mg "_law_play" OE #[36]
 t_l_way:Top K mg "_law_way" OD #[iY]
 t_l_coming:Top K mg "_law_coming" OC #[36]
 t_l_taken:Top K mg "_law_taken" OB #[36]
 t_l_left_of:Top K mg "_law_left_of" RX #[36]
 t_l_stands:Top K mg "_law_stands" OA #[lu]
 t_l_broken:Top K mg "_law_broken" RW #[ci]
 t_l_refused:Top K mg "_law_refused" Oz #[bP]
 t_l_late:Top K mg "_law_late" UL #[cy]
 t_l_done:Top K mg "_law_done" Oy #[iI]
 t_l_bad:Top K mg "_law_bad" T0 #[ut]
 t_l_made_right:Top K mg "_law_made_right" RV #[24]
 t_OutOfOrder_init:UM K mg am ap "OutOfOrder" "OutOfOrder.__init__" Z8 #[aU]
 t_BadLine_init:UM K mg aq ap "BadLine" "BadLine.__init__" TZ #[m9]
 t_Row_init:Si K mg aw "Row" "Row.__init__" TY #[98]
 t_Row_to_go:Ym K aw "to_go" "Row.to_go" TX #[11]
 t_Row_head:Ym K aw "head" "Row.head" TW #[11]
 t_Row_lengthen:Ym K aw "lengthen" "Row.lengthen" TV #[98]
 t_Merge_init:Si K mg ak "Merge" "Merge.__init__" TU #[u8]
 t_Merge_coming:Ym K ak "coming" "Merge.coming" TR #[11]
 t_Merge_take:Ym K ak "take" "Merge.take" TQ #[11]
 t_Merge_left:Ym K ak "left" "Merge.left" UK #[11]
 t_Merge_heads:Ym K ak "heads" "Merge.heads" UJ #[11]
 t_Merge_likenings:Ym K ak "likenings" "Merge.likenings" Z7 #[11]
 t_Merge_looks:Ym K ak "looks" "Merge.looks" TN #[11]
 t_Merge_add_row:Ym K ak "add_row" "Merge.add_row" TM #[da]
 t_Merge_drop_row:Ym K ak "drop_row" "Merge.drop_row" TK #[ah]
 t_Merge_grow:Ym K ak "grow" "Merge.grow" TH #[bO]
 t_Merge_row_of:Ym K ak "row_of" "Merge.row_of" TF #[ah]
 t_Merge_play_all:Ym K ak "play_all" "Merge.play_all" TD #[11]
 t_Merge_play:Ym K ak "play" "Merge.play" TC #[ma]
 t_Merge_send_out:Ym K ak "send_out" "Merge.send_out" TB #[mR]
 t_Merge_play_again:Ym K ak "play_again" "Merge.play_again" Z3 #[b9]
 t_Merge_meet:Ym K ak "meet" "Merge.meet" Tz #[ae]
 cl_Row:Cls K aw
 na_Row_all_keys:YD K aw "all_keys"
 na_Row_fars:YD K aw "fars"
 na_Row_gone:YD K aw "gone"
 cl_Merge:Cls K ak
 na_Merge_best:YD K ak "best"
 na_Merge_likened:YD K ak "likened"
 na_Merge_looked:YD K ak "looked"
 na_Merge_next_number:YD K ak "next_number"
 na_Merge_rows:YD K ak "rows"
 na_Merge_stays:YD K ak "stays"
 g_MOST_ROWS:∃tk,mg "MOST_ROWS" = U (.int 16 tk)
 m_MergeError:mg "MergeError" = U #[nU]
 m_Full:mg "Full" = U #[bf]
 m_NoRow:mg "NoRow" = U #[bg]
 m_OutOfOrder:mg "OutOfOrder" = U #[aN]
 m_BadLine:mg "BadLine" = U #[a5]
 x_MergeError:UN K ap YH
 xb_MergeError:XB K ap
 na_OutOfOrder_row:YD K am "row"
 na_OutOfOrder_place:YD K am "place"
 na_BadLine_line:YD K aq "line"
 xw_Full:XW K mg aG ap "Full"
 xw_NoRow:XW K mg aA ap "NoRow"
 xg_Full:XG K aG
 ki_Full_MergeError:PySem.W.kitOne K #[bf] #[nU]=U true
 ki_Full_Full:PySem.W.kitOne K #[bf] #[bf]=U true
 ki_Full_NoRow:PySem.W.kitOne K #[bf] #[bg]=U false
 ki_Full_OutOfOrder:PySem.W.kitOne K #[bf] #[aN]=U false
 ki_Full_BadLine:PySem.W.kitOne K #[bf] #[a5]=U false
 ki_Full_V:PySem.W.kitOne K #[bf] #[45]=U true
 xg_NoRow:XG K aA
 ki_NoRow_MergeError:PySem.W.kitOne K #[bg] #[nU]=U true
 ki_NoRow_Full:PySem.W.kitOne K #[bg] #[bf]=U false
 ki_NoRow_NoRow:PySem.W.kitOne K #[bg] #[bg]=U true
 ki_NoRow_OutOfOrder:PySem.W.kitOne K #[bg] #[aN]=U false
 ki_NoRow_BadLine:PySem.W.kitOne K #[bg] #[a5]=U false
 ki_NoRow_V:PySem.W.kitOne K #[bg] #[45]=U true
 xg_OutOfOrder:XG K am
 ki_OutOfOrder_MergeError:PySem.W.kitOne K #[aN] #[nU]=U true
 ki_OutOfOrder_Full:PySem.W.kitOne K #[aN] #[bf]=U false
 ki_OutOfOrder_NoRow:PySem.W.kitOne K #[aN] #[bg]=U false
 ki_OutOfOrder_OutOfOrder:PySem.W.kitOne K #[aN] #[aN]=U true
 ki_OutOfOrder_BadLine:PySem.W.kitOne K #[aN] #[a5]=U false
 ki_OutOfOrder_V:PySem.W.kitOne K #[aN] #[45]=U true
 xg_BadLine:XG K aq
 ki_BadLine_MergeError:PySem.W.kitOne K #[a5] #[nU]=U true
 ki_BadLine_Full:PySem.W.kitOne K #[a5] #[bf]=U false
 ki_BadLine_NoRow:PySem.W.kitOne K #[a5] #[bg]=U false
 ki_BadLine_OutOfOrder:PySem.W.kitOne K #[a5] #[aN]=U false
 ki_BadLine_BadLine:PySem.W.kitOne K #[a5] #[a5]=U true
 ki_BadLine_V:PySem.W.kitOne K #[a5] #[45]=U true
 kg:PySem.W.specialIn K #[A] "__get__" = U (U #[63])
 kt:PySem.W.takesIn K #[A]=U true
def Y9(H:Hp)(p:ae)(c:Int):Prop:=X2 λa b:Int=>H p=U (.lst [.int a,.int b,.int c])/\0<=c
def But(p:ae)(H a:Hp):Prop:=#[fh,o,H,p,a]
theorem But.trans{p:ae}{H d e:Hp}(a:But p H d)(b:But p d e):But p H e:=λc o h n=>b c o (a c o h n) n
theorem But.same{p:ae}{H b:Hp}(a:ZF H b):But p H b:=λc o h _=>a c o h
theorem Zg{H:Hp}{p:ae}(h:H p=af)(o:HO):ZF H (upd H p o):=λb u q=>by rw[Zd (Zf q h)];exact q
theorem Yu{n:Nat}(h:n<=1000):n<=ao:=Qab (Zn h)
def Oo:Sp:=λvs H Q _=>X2 λa k:Int=>vs=#[gO,a,k] /\ -(2 ^ 62)<k/\k<2 ^ 62/\∀r:Int,0<=r->r<2000000000->Q (.int r) H
def Kn(K:#[7]):Sp:=λvs H Q _=>X3 λ(a:ae) (ns:List Int) (k:Int)=>vs=#[qE,a,k]/\SqL K H a #[C]/\ns.length<=63/\0<=k/\k<100 /\
 ∀ (p:ae) (b:Hp),H p=af->Y9 b p 0->ZF H b->Q #[bS] b
def WB:Sp:=λvs H Q _=>X3 λ(p:ae) (c m:Int)=>vs=#[qE,p,m]/\Y9 H p c/\c<2 ^ 60/\0<m/\m<1000000 /\
 ∀ (r:Int) (a:Hp),0<=r->r<m->Y9 a p (c+1)->But p H a->Q (.int r) a
theorem ZsK{ns:#[w]}{k:Int}(h0:0<=k)(h:k<#[vz]):∃v:Int,atI #[C] k=U #[me]:=by
 have a:k.toNat<ns.length:=by lia
 have b:k=#[bK]:=by lia
 show#[ki];exact⟨_,q⟩
theorem Om{ss:#[Q]}{k:Int}(h0:0<=k)(h:k<#[ks]):∃s∈ss,atI #[Y] k=U (.str s):=by
 have a:k.toNat<ss.length:=by lia
 have b:k=#[bK]:=by lia
 have q:atI #[Y] #[bK]=U (.str ss[k.toNat]):=Yo #[hj,a];rw[<- b]at q;exact⟨_,Qad a,q⟩
theorem Km(b:Bool):-(2 ^ 64)<#[qi]/\#[qi]<2 ^ 64:=by cases b<;>decide
theorem Vg{z:al}{k:Int}(h0:0<=k)(h:k<(z.length:Int)):∃c:Nat,z.cps.toList[k.toNat]? = U c/\atI z.cps.toList k=U c:=by
 have hl:#[tM]:=by simp[al.length]
 have a:k.toNat<z.cps.toList.length:=by lia
 have b:k=#[bK]:=by lia
 have q:atI z.cps.toList #[bK]=U z.cps.toList[k.toNat]:=Yo (Qb a);rw[<- b]at q;exact⟨_,Qb a,q⟩
theorem ZoT(sep:al)(ys:#[Q]):#[tm].length<=#[oE].sum+ys.length*sep.length:=by
 have e:Txt.join sep ys=al.join sep ys:=by simpa using join_plain_closes sep ys
 rw[e];exact StrLaws.join_length_le sep ys
theorem Kl:∀ss:List al,(∀s∈ss,s.length<=1)->(ss.map (·.length)).sum<=ss.length
 | [],_=>Qh _
 | s::r,h=>by have h1:=h s Qas;have h2:=Kl r λx a=>h x (QF _ a);rw[Qs,List.sum_cons,QH];lia
noncomputable def lcp:List Nat->List Nat->Nat
 | a::r,b::s=>if a=b then lcp r s+1 else 0
 | _,_=>0
theorem UD:∀ (x y:List Nat),lcp x y<=x.length/\lcp x y<=y.length
 | [],_=>⟨Qu _,Qu _⟩
 | _::_,[]=>⟨Qu _,Qu _⟩
 | a::r,b::s=>by
  have h:=UD r s;unfold lcp;split
  ·exact⟨Qbl h.1,Qbl h.2⟩
  ·exact⟨Qu _,Qu _⟩
theorem Vf:∀ (x y:List Nat),lcp x y=lcp y x
 | [],[]=>rfl
 | [],_::_=>rfl
 | _::_,[]=>rfl
 | a::r,b::s=>by
  unfold lcp;by_cases h:a=b
  ·rw[if_pos h,if_pos h.symm,Vf r s]
  ·rw[if_neg h,if_neg λe=>h e.symm]
theorem Kk:∀x:List Nat,lcp x x=x.length
 | []=>rfl
 | a::r=>by unfold lcp;rw[if_pos rfl,Kk r];rfl
theorem UC(x:#[iA]):lcp x []=0:=by cases x<;>rfl
theorem lcp_nil'(x:#[iA]):lcp [] x=0:=by cases x<;>rfl
theorem Ol:∀ (x y:List Nat) (k:Nat),k<=lcp x y->∀a,x[k]? = U a->y[k]? = U a->k+1<=lcp x y
 | [],_,k,_,a,h,_=>by simp at h
 | _::_,[],k,_,a,_,h=>by simp at h
 | a::r,b::s,0,_,c,h1,h2=>by simp at h1 h2;unfold lcp;rw[if_pos (by rw[h1,h2])];lia
 | a::r,b::s,k+1,h,c,h1,h2=>by
  unfold lcp at h ⊢;by_cases e:a=b
  ·rw[if_pos e]at h ⊢;have:=Ol r s k #[2] c #[el,h1] #[el,h2];lia
  ·show#[pi];lia
theorem Kj:∀ (x y:List Nat) (k:Nat),k<lcp x y->x[k]? = y[k]?
 | [],_,k,h=>by unfold lcp at h;lia
 | _::_,[],k,h=>by unfold lcp at h;lia
 | a::r,b::s,0,h=>by
  unfold lcp at h;by_cases e:a=b
  ·simp[e]
  ·show#[pi];lia
 | a::r,b::s,k+1,h=>by
  unfold lcp at h;by_cases e:a=b
  ·rw[if_pos e]at h;simpa using Kj r s k #[2]
  ·show#[pi];lia
theorem UB(x y:#[iA])(k:Nat)(h:k<=lcp x y)(n:x.length<=k\/y.length<=k\/X2 λa b=>x[k]? = U a/\y[k]? = U b/\a≠b):lcp x y=k:=by
 have l:=UD x y;rcases n with n|n|⟨a,b,c,d,ne⟩
 ·lia
 ·lia
 ·by_cases q:k<lcp x y
  ·have:=Kj x y k q;rw[c,d]at this;exact absurd (Qn this) ne
  ·lia
theorem Oj:∀ (x y z:List Nat),#[xM,y,x,z,y]\/#[xM,y,y,z,x]\/#[xM,z,x,y,y]
 | [],y,z=>.inr (.inl #[rG,lcp_nil',lcp_nil'])
 | x,[],z=>.inl #[rG,UC,lcp_nil']
 | x,y,[]=>.inr (.inr #[rG,UC,UC])
 | a::r,b::s,c::t=>by
  have ih:=Oj r s t;unfold lcp;by_cases f:a=b
  ·by_cases d:b=c
   ·rw[if_pos f,if_pos d,if_pos (f.trans d)];lia
   ·rw[if_pos f,if_neg d,if_neg λe=>d #[ug]];lia
  ·rw[if_neg f];by_cases d:b=c
   ·rw[if_pos d,if_neg λe=>f #[uh]];lia
   ·rw[if_neg d];lia
noncomputable abbrev cds(z:al):List Nat:=z.cps.toList
def AZ(z:al):Prop:=∀c∈cds z,97<=c/\c<=122
theorem ZqX(x y:al):cds (x++y)=cds x++cds y:=by show (x++y).cps.toList=_;rw[PySem.Str.cps_append];simp
theorem AZ.app{x y:al}(a:AZ x)(b:AZ y):AZ (x++y):=λc h=>by rw[ZqX]at h;exact(Qj.mp h).elim (a c) (b c)
theorem AZ.nil:AZ "":=by unfold AZ cds;ac_rfl
theorem AZ.join:∀ys:List al,(∀s∈ys,AZ s)->AZ (al.join "" ys)
 | [],_=>λc h=>by cases (show c∈([]:List Nat) from h)
 | [x],h=>h x #[4]
 | x::y::r,h=>((h x #[4]).app AZ.nil).app (AZ.join (y::r) λs hs=>h s (QF _ hs))
theorem AZ.joinT(ys:#[Q])(h:∀s∈ys,AZ s):AZ (Txt.join "" ys):=by
 have e:Txt.join "" ys=al.join "" ys:=by simpa using join_plain_closes "" ys
 rw[e];exact AZ.join ys h
theorem AZ.one{z:al}(a:AZ z){k:Nat}{c:Nat}(h:z.cps.toList[k]? = U c):AZ #[vg]:=λd hd=>by
 have e:d=c:=by simpa using hd
 rw[e];exact a c (Qv h)
theorem AZ.ok{z:al}(a:AZ z):ar.strOk z=true:=by unfold ar.strOk;rw[Array.all_eq_true];intro i hi;have:=a z.cps[i] #[4];exact decide_eq_true #[2]
theorem ZsL:AZ "ababcz":=by unfold AZ cds;ac_rfl
def VS:Sp:=λvs H Q _=>X2 λx y:al=>vs=[.str x,.str y]/\x.length<=1000/\y.length<=1000/\Q #[rk,lcp] H
def RJ:Sp:=λvs H Q _=>X3 λ(x y:al) (a:Nat)=>vs=#[xI,a]/\x.length<=1000/\y.length<=1000/\a<=lcp #[aY] #[bv]/\Q #[rk,lcp] H
def IsD(H:Hp):Nat->V->V->Prop
 | 0,_,_=>False
 | n+1,x,y=>(x=y/\(x=.non\/(∃b,x=.bl b)\/(∃i,x=.int i)\/∃s,x=.str s)) \/
   (X4 λ(p q:ae) (xs ys:List V)=>x=.ref p/\y=.ref q/\((H p=U #[kM]/\H q=U #[l6])\/(H p=U #[dG]/\H q=U (.tup ys)))/\xs.length=ys.length/\xs.length<=1000/\∀ (i:Nat) (x y:V),xs[i]? = U x->ys[i]? = U y->IsD H n x y)
theorem IsD.mono{H c:Hp}(s:ZF H c):∀ {n:Nat} {x y:V},IsD H n x y->IsD c n x y
 | 0,_,_,h=>h.elim
 | n+1,x,y,h=>by
  rcases h with h|⟨p,q,xs,ys,d,e,h,hl,f,g⟩
  ·exact .inl h
  ·refine .inr ⟨p,q,xs,ys,d,e,?_,hl,f,λi x y a b=>(g i x y a b).mono s⟩;rcases h with⟨a,b⟩|⟨a,b⟩
   ·exact .inl ⟨s _ _ a,s _ _ b⟩
   ·exact .inr ⟨s _ _ a,s _ _ b⟩
def RI(n:Nat):Sp:=λvs H Q _=>X2 λx y:V=>vs=[x,y]/\IsD H n x y/\∀a,ZF H a->Q #[sI] a
section
variable (K:#[7])
open PySem.W
theorem Zm1:kitAny K #[o0] #[iz]=U false:=by unfold kitAny kitOne kitCls;rfl
theorem ZnM:kitAny K #[pK] #[iz]=U false:=by unfold kitAny kitOne kitCls;rfl
theorem ZmS:kitAny K #[oZ] #[iz]=U false:=by unfold kitAny kitOne kitCls;rfl
theorem ZmL:kitAny K #[h4,"NoneType"] #[iz]=U false:=by unfold kitAny kitOne kitCls;rfl
theorem ZmH:kitAny K #[d7] #[iz]=U true:=by unfold kitAny kitOne kitCls;rfl
theorem Znb:kitAny K #[nZ] #[iz]=U true:=by unfold kitAny kitOne kitCls;rfl
theorem Ki:kitOne K #[d7] #[d7]=U true:=by unfold kitOne kitCls;rfl
theorem Kh:kitOne K #[d7] #[nZ]=U false:=by unfold kitOne kitCls;rfl
theorem Kg:kitOne K #[nZ] #[d7]=U false:=by unfold kitOne kitCls;rfl
theorem Kf:kitOne K #[nZ] #[nZ]=U true:=by unfold kitOne kitCls;rfl
theorem Znd:kitOne K #[o0] #[oZ]=U false:=by unfold kitOne kitCls;rfl
theorem Ke:kitOne K #[o0] #[pK]=U false:=by unfold kitOne kitCls;rfl
theorem ZmW:kitOne K #[o0] #[o0]=U true:=by unfold kitOne kitCls;rfl
theorem Oi:kitOne K #[oZ] #[oZ]=U true:=by unfold kitOne kitCls;rfl
theorem Kd:kitOne K #[h4,"NoneType"] #[oZ]=U false:=by unfold kitOne kitCls;rfl
theorem ZpY:kitOne K #[pK] #[oZ]=U false:=by unfold kitOne kitCls;rfl
theorem Kc:kitOne K #[pK] #[pK]=U true:=by unfold kitOne kitCls;rfl
universe E
section
variable {P:ax} {w:aE} {K:#[7]} {mg:al->Option aa} {base:aF} {aw ak ap aG aA am aq:ae}
theorem Zr8(T:#[e]):Df P w K mg base 1 "_law_mix" #[dV] Oo:=by
 show#[ee,T.t_l_mix.df,KG,b,hr];show#[fA,a,k,k1,k2];refine⟨_,#[Ze,#[Zw,2,KG.nd,#[3],#[ZH,UZ,#[ZH,VF,#[ZH,Z9,#[ZH,Z9,#[hT,UZ,0],#[xB,VF,VF,1,1]],#[Zj]],#[Zj]],#[Zj]]],#[Zi,#[Zr,#[xB,UZ,VF,2,2]]]],_,rfl,_,_,rfl,rfl,#[lz],_,rfl,_,rfl,_,_,rfl,rfl,.inl #[lr],_,_,rfl,rfl,.inr #[87],_,_,rfl,rfl,_,_,rfl,rfl,_,_,rfl,rfl,.inr #[87],_,_,rfl,rfl,#[lz],?_⟩;have m0:=Int.emod_nonneg #[oa] (show (2147483647:Int)≠0 by decide);have m1:=Qa2 #[oa] (show (0:Int)<2147483647 by decide);refine⟨_,rfl,_,rfl,_,_,rfl,rfl,.inl #[lr],_,_,rfl,rfl,#[lz],?_⟩;exact q _ (Int.emod_nonneg _ #[6]) (Int.lt_trans (Qa2 _ #[6]) #[6])
theorem ZqR(T:#[e]):Df P w K mg base 1 "_law_left" #[jd] (Kn K):=by
 show#[ee,T.t_l_left.df,KD,i,hr];obtain⟨a,ns,k,rfl,d,yx,k0,k1,q⟩:=h;refine⟨_,#[Ze,#[Zw,2,KD.nd,#[3],#[WV,#[ek,Xc,1,#[38]],#[uA],#[Zj]]],#[Zi,#[Zr,#[ZJ,#[Zc,#[ZH,VF,#[ny],#[Xa,Mv,T.b.n_int,boot_int,#[Zc,#[XQ,Px,#[ny],#[ZH,ME,#[Zj],#[Zj]],#[37]]]]],#[ZH,Z9,‹2›,#[ZH,VF,#[Zj],‹1›]],#[Zj]]]]]],?_⟩;have j:#[C].length=ns.length:=Qa _;have e:MF 10 18:=⟨by decide,by decide,by decide⟩;refine⟨_,rfl,_,rfl,a,_,rfl,.inl d,_,_,rfl,rfl,_,rfl,?_⟩;show#[eF,c]
 ·have g:k<#[mQ]:=of_decide_eq_true c;rw[j]at g;obtain⟨v,l⟩:=ZsK (ns:=ns) k0 g;refine⟨_,rfl,_,rfl,a,_,_,_,rfl,rfl,d,l,_,rfl,_,rfl,_,rfl,_,rfl,_,_,rfl,rfl,e,_,_,rfl,rfl,.inr #[b4]⟩;exact #[mg]
 ·refine⟨_,rfl,_,rfl,_,rfl,_,rfl,_,_,rfl,rfl,e,_,_,rfl,rfl,.inr #[b4]⟩;exact #[mg]
theorem Zrk(T:#[e])(j:#[ux]):Df P w K mg base 2 "_law_pick" #[nj] WB:=by
 show#[ee,T.t_l_pick.df,KC,t,k];obtain⟨p,c,m,rfl,⟨a,b,l,c0⟩,c1,i,m1,q⟩:=h;refine⟨_,#[Ze,#[Z2,#[ZH,Z9,#[ad],#[Zj]],#[Yq,‹0›,#[Zj],LW]],#[Ze,#[ZN,#[h6,VE,#[ad]],#[Ze,#[Zw,2,KC.nd,#[3],#[ZH,UZ,#[ad],‹1›]],#[Ze,#[Z2,#[ZH,SD,#[ad],‹1›],#[Yq,‹0›,#[Zj],LW]],#[bL]]],#[Zy]],#[Zi,#[Zr,#[ZH,UZ,#[ZH,SD,#[Zx,j,k,#[Zc,#[Zx,j,k,#[Zc,#[ad],#[ad]],#[5]],#[ZH,Z9,#[ad],#[Zj]]],#[5]],#[Zj]],‹1›]]]]],?_⟩;show#[qu,g,H,p,#[pF]];refine⟨_,rfl,p,_,_,_,rfl,rfl,SqL.of l,rfl,_,_,rfl,rfl,_,rfl,p,_,_,2,rfl,rfl,l,rfl,_,rfl,p,_,_,_,rfl,rfl,SqL.of g,rfl,_,_,rfl,rfl,_,rfl,?_⟩;show#[lI]
 ·refine⟨_,rfl,p,_,_,_,rfl,rfl,SqL.of g,rfl,_,rfl,_,_,rfl,rfl,i,_,rfl,p,_,_,_,rfl,rfl,SqL.of g,rfl,_,rfl,_,_,rfl,rfl,⟨i,by lia⟩,_,rfl,p,_,_,0,rfl,rfl,g,rfl,_,rfl,?_⟩;refine q _ _ #[wk] (Qa2 _ i) ⟨a / m,b,Zb,by lia⟩ λe o h n=>?_;rw[Zd n,Zd n];exact h
 ·refine⟨_,rfl,p,_,_,_,rfl,rfl,SqL.of g,rfl,_,rfl,p,_,_,_,rfl,rfl,SqL.of g,rfl,_,_,rfl,by lia,by lia,λr r0 r1=>?_⟩;refine⟨_,rfl,p,_,_,_,rfl,rfl,SqL.of g,rfl,_,_,rfl,rfl,_,_,rfl,by lia,by lia,λr' qx lQ=>?_⟩;refine⟨_,_,rfl,rfl,#[87],_,rfl,_,_,rfl,rfl,i,?_⟩;refine q _ _ #[wk] (Qa2 _ i) ⟨a,b,Zb,by lia⟩ λe o h n=>?_;rw[Zd n];exact h
noncomputable def Wt:List al:=["", "a", "ab", "aba", "abab", "b", "zebra", "aaaaaaaa", "knowswho", "z", "abababababab",Txt.mul "a" 24]
theorem Zj8:∀s∈Wt,s.length<=24:=by ac_rfl
theorem Zlw:∀s∈Wt,AZ s:=by unfold AZ cds;ac_rfl
def Oh:Sp:=λvs H Q _=>X2 λ(p:ae) (c:Int)=>vs=#[jN]/\Y9 H p c/\c<2 ^ 50 /\
 ∀ (l:ae) (a:List al) (d:Int) (b:Hp),H l=af->b l=U #[eu,a.map]->1<=a.length->a.length<=4->#[fq,a,24]->Y9 b p d->c<=d->d<=c+5->But p H b->Q #[cq] b
def Og:Sp:=λvs H Q _=>X4 λ(p l:ae) (c:Int) (ss:List al)=>vs=#[fJ,p,l]/\Y9 H p c/\c<2 ^ 50/\H l=U #[jp]/\1<=ss.length/\ss.length<=4/\#[bC] /\
 ∀ (z:al) (a:Int) (b:Hp),z.length<=28->AZ z->Y9 b p a->c<=a->a<=c+6->But p H b->Q #[xi] b
theorem ZoG(T:#[e])(W:#[n]):Df P w K mg base 3 "_law_stems" #[24] Oh:=by
 show#[ee,T.t_l_stems.df,KA,vs,X];show#[fA,p,c,C,c1];refine⟨_,#[Ze,#[Zw,1,KA.nd,#[i0],#[ZJ,#[Za,#[Zl],#[Za,#[Zl],#[Za,#[Zl],#[Za,#[Zl],#[Za,#[Zl],#[Za,#[Zl],#[Za,#[Zl],#[Zc,#[Zl],#[Zl],#[Zl],#[Zl],#[ZH,ZqM,#[Zl],#[Zj]]]]]]]]]]]],#[Zi,#[Zr,#[Xj,Tr,#[WT,T.b.n_range,#[Zc,#[ZH,Z9,#[Zj],#[Zx,W,X,#[pL],#[5]]]]],#[eY,2,Tr],#[94],(λ_ _ _ _=>#[Zo,#[ly],#[cv,1,Tr],#[Zx,W,X,#[Zc,#[cv,0,Tr],#[Zj]],#[q1,Tr]]])]]]],?_⟩;refine⟨_,_,rfl,rfl,by decide,by decide,by decide,#[e7,12,ao],λl Y=>?_⟩;have F:p≠l:=by obtain⟨a,b,d,_⟩:=C;exact Zf d Y
 have FL:Y9 #[oG] p c:=by obtain⟨a,b,d,c0⟩:=C;exact#[gD,F,d,c0]
 refine⟨_,rfl,p,c,_,rfl,FL,by lia,by decide,by decide,λr H1 r0 r1 Z t=>?_⟩;refine⟨_,_,rfl,rfl,_,rfl,by lia,by lia,λD g=>?_⟩;have c0:0<=c:=by obtain⟨a,b,d,c0⟩:=C;exact c0
 have ve:H1 l=U #[bV]:=t l _ Zb F.symm;have k:p≠D:=by obtain⟨a,b,d,_⟩:=Z;exact Zf d g
 have y:l≠D:=Zf ve g;refine Sr (λi z G j=>X3 λ(ss:List al) (v:Option V) (c2:Int)=>G=[U #[bS],U #[cq],v]/\z=ss.map V.str/\ss.length=i/\#[bC]/\Y9 j p c2/\c+1<=c2/\c2<=c+1+i /\
   j l=U #[bV]/\j D=U (.lst z)/\But p H j) ?_ ?_ ?_
 ·refine⟨[],af,c+1,rfl,rfl,rfl,#[eP,s,m],?_,by lia,by lia,?_,Zb,?_⟩
  ·show#[fS,d,I,Z,k]
  ·rw[Zd y];exact ve
  ·intro b o e n;have e1:#[oG] b=U o:=by rw[Zd (Zf e Y)];exact e
   have B:=t b o e1 n;rw[Zd (Zf B g)];exact B
 ·rintro i z G j hi ⟨ss,v,c2,rfl,rfl,J,m,L,b1,b2,ce,M,N⟩;refine⟨_,rfl,_,rfl,p,c2,_,rfl,L,by lia,by decide,by decide,λr' H3 qx lQ L3 O=>?_⟩;obtain⟨s,gs,gp⟩:=Om (ss:=Wt) qx lQ;have gM:H3 D=U #[jp]:=O D _ M k.symm;have fZ:H3 l=U #[bV]:=O l _ ce F.symm;refine⟨l,_,_,_,rfl,rfl,SqL.of fZ,gp,gM,#[r0,J,Zn,#[2]],ss++[s],_,c2+1,rfl,?_,?_,?_,?_,by lia,by lia,?_,Zb,?_⟩
  ·rw[Qd];rfl
  ·rw[Qf,J];rfl
  ·intro x hx;rcases Qj.mp hx with hx|hx
   ·exact m x hx
   ·rw[Qi.mp hx];exact⟨Zj8 s gs,Zlw s gs⟩
  ·show#[fS,d,I,L3,k]
  ·rw[Zd y];exact fZ
  ·intro b o e n;have B:=O b o (N b o e n) n;have R:H D=af:=by
    cases S:H D with
    | none=>rfl
    | some u =>
     have oO:D≠p:=k.symm;have z1:#[oG] D=U u:=by rw[Zd y.symm];exact S
     rw[t D u z1 oO]at g;cases g
   rw[Zd (Zf e R)];exact B
 ·rintro z G j ⟨ss,v,c2,rfl,rfl,J,m,L,b1,b2,ce,M,N⟩;have R:H D=af:=by
   cases S:H D with
   | none=>rfl
   | some u =>
    have z1:#[oG] D=U u:=by rw[Zd y.symm];exact S
    rw[t D u z1 k.symm]at g;cases g
  exact q D ss c2 j R M #[2] #[2] m L #[2] #[2] N
theorem Zsm(T:#[e])(F:#[n]):Df P w K mg base 3 "_law_key" #[ai] Og:=by
 refine T.t_l_key.df Kz #[E] #[aA];obtain⟨p,l,c,ss,rfl,I,c1,J,n1,n4,m6,q⟩:=h;refine⟨_,#[Ze,#[Zw,2,Kz.nd,#[3],#[Xl,PySem.F.plainAttrs_str,PySem.F.slot_str_join,PySem.F.type_str_join,(Ztb K),#[Zl],#[Zc,#[Xj,RM,#[WT,T.b.n_range,#[Zc,#[Zx,F,G,#[pL],#[5]]]],#[eY,3,RM],#[94],(λ_ _ _ _=>#[Zo,Vz,#[Zl],#[Zx,F,G,#[Zc,#[cv,0,RM],#[Zj]],#[q1,RM]]])]]]],#[Zi,#[Zr,#[ZH,Pw,#[Zo,#[ly],‹1›,#[Zx,F,G,#[Zc,#[fD,0],#[aF]],#[5]]],‹2›]]]],?_⟩;have c0:0<=c:=by obtain⟨a,b,g,c0⟩:=I;exact c0
 have L:p≠l:=by
  obtain⟨a,b,g,_⟩:=I;refine PM g J λe=>?_;have e1:=congrArg List.length #[p6];cases ss with
  | nil=>cases e1
  | cons x r=>exact absurd #[p6] #[44]
 refine⟨rfl,_,rfl,p,c,_,rfl,I,by lia,by decide,by decide,λr H1 r0 r1 L1 M=>?_⟩;refine⟨_,rfl,by lia,by lia,λD t=>?_⟩;have y:p≠D:=by obtain⟨a,b,g,_⟩:=L1;exact Zf g t
 have ve:=M l _ J L.symm;have qy:l≠D:=Zf ve t;have Be:H D=af:=by
  cases w':H D with
  | none=>rfl
  | some u=>rw[M D u w' y.symm]at t;cases t
 refine Sr (λi B N k=>X3 λ(d:List al) (v:Option V) (c2:Int)=>N=[U #[bS],U #[cq],af,v]/\B=d.map V.str/\d.length=i/\#[fq,d,1]/\Y9 k p c2/\c+1<=c2/\c2<=c+1+i /\
   k D=U (.lst B)/\But p H k) ?_ ?_ ?_
 ·refine⟨[],af,c+1,rfl,rfl,rfl,#[eP,s,j],?_,by lia,by lia,Zb,?_⟩
  ·show#[fS,g,O,L1,y]
  ·intro b o e n;rw[Zd (Zf e Be)];exact M b o e n
 ·rintro i B N k hi ⟨d,v,c2,rfl,rfl,R,j,S,b1,b2,W,C⟩;refine⟨_,rfl,p,c2,_,rfl,S,by lia,by decide,by decide,λr' X Y lQ Z m=>?_⟩;obtain⟨ch,FM,gw⟩:=Vg (z := "ababcz") Y lQ;have gM:X D=U #[tz]:=m D _ W y.symm;refine⟨_,_,_,rfl,rfl,#[1],gw,gM,#[r0,R,Zn,#[2]],d++[⟨#[ch]⟩],_,c2+1,rfl,?_,?_,?_,?_,by lia,by lia,Zb,?_⟩
  ·rw[Qd];rfl
  ·rw[Qf,R];rfl
  ·intro x hx;rcases Qj.mp hx with hx|hx
   ·exact j x hx
   ·rw[Qi.mp hx];exact⟨Qh 1,ZsL.one FM⟩
  ·show#[fS,g,O,Z,y]
  ·intro b o e n;rw[Zd (Zf e Be)];exact m b o (C b o e n) n
 ·rintro B N k ⟨d,v,c2,rfl,rfl,R,j,S,b1,b2,W,C⟩;have Bf:=Kl d λs h=>(j s h).1;have lY:=ZoT "" d;have e0:("" : al).length=0:=by ac_rfl
  rw[e0]at lY;have ce:=C l _ J L.symm;refine⟨_,D,d,rfl,rfl,SqL.of W,#[h5,e0],?_⟩;have bb:((#[Y].length:Nat):Int)=#[ks]:=by rw[Qa]
  refine⟨_,rfl,_,rfl,_,rfl,l,_,rfl,.inl (SqL.of ce),p,c2,_,rfl,S,by lia,by lia,by lia,λr' X Y lQ Z m=>?_⟩;obtain⟨st,gs,gp⟩:=Om (ss:=ss) Y #[2];have cW:=(m6 st gs).1;refine⟨l,_,_,_,rfl,rfl,SqL.of (m l _ ce L.symm),gp,_,rfl,_,_,rfl,rfl,Yu #[2],?_⟩;refine q _ (c2+1) X ?_ ((m6 st gs).2.app (AZ.joinT d λs h=>(j s h).2)) Z #[2] #[2] (C.trans m);rw[Qa3];lia
theorem Zia(T:#[e]):Df P w K mg base 1 "alike_from" #[48] RJ:=by
 show#[ee,T.t_alike_from.df,Ox,D,hr];obtain⟨x,y,c,rfl,p,r,F,q⟩:=h;refine⟨_,#[Ze,#[hY,3,Ox.nd,2],#[Ze,(@SH _ _ _ _ _ _ bf.never (@PW.pt _ _ _ #[Ya,#[ek,Xc,3,#[bn]],#[Ya,#[ek,Xc,3,#[du]],#[Xu,#[f1,YW,3]]]]) #[Zi,(@Zs7 _ _ 3 _ _ _ _ _ _ Ox.nd rfl #[3] #[Zj] Zs0 (by trivial))]),#[fb,3]]],_,rfl,?_⟩;have lx:#[aY].length=x.length:=by simp[al.length]
 have ly:#[bv].length=y.length:=by simp[al.length]
 show#[uH];refine⟨λm t g=>∃k:Nat,t=[U #[u1],U (.str y),U (.int c),U (.int k)]/\g=H/\k<=lcp #[aY] #[bv]/\m=lcp #[aY] #[bv]-k,⟨_,c,rfl,rfl,F,rfl⟩,?_⟩;rintro m t g ⟨k,rfl,rfl,d,rfl⟩;show#[eG,x,p,i]
 ·show#[ic,u,x.length,i];show#[eG,y,r,j]
  ·show#[ic,v,y.length,j];obtain⟨a,l,G⟩:=#[qP,x,k,u];show#[q2,n,I,k,v,l];refine⟨_,rfl,_,rfl,x,_,a,rfl,rfl,Yu p,G,_,rfl,_,rfl,y,_,b,rfl,rfl,Yu r,I,rfl,_,rfl,?_⟩;show#[eF,o]
   ·have J:a=b:=by have:=of_decide_eq_true o;injection this with e;injection e with e;simpa using e
    subst J;have:=Ol _ _ k d a l n;refine⟨λB C=>B=[U #[u1],U (.str y),U (.int c),U (.int #[ge,k])]/\C=g,λB C ⟨L,M⟩=>⟨_,?_,k+1,L,M,this,rfl⟩,?_⟩
    ·lia
    ·exact#[qb]
   ·refine#[pV];have e:=UB _ _ k d (.inr (.inr ⟨a,b,l,n,λe=>o #[wf]⟩));show#[nn]
  ·show#[eQ,v,y.length,j];have e:=UB _ _ k d #[hJ,#[2]];show#[nn]
 ·show#[eQ,u,x.length,i];have e:=UB _ _ k d (.inl #[2]);show#[nn]
theorem Zof(T:#[e])(a:#[kS]):Df P w K mg base 2 "alike" #[99] VS:=by
 show#[ee,T.t_alike.df,ZpS,b,c];show#[fA,x,y,d,e];refine⟨_,#[Zi,#[Zr,#[Zx,a,c,#[Zc,‹0›,‹1›,#[Zj]],#[5]]]],?_⟩;exact⟨_,rfl,_,rfl,x,y,0,rfl,d,e,Qu _,q⟩
theorem ZlL(T:#[e]):Df P w K mg base 1 "_law_alike" #[lt] VS:=by
 show#[ee,T.t_l_alike.df,Ow,C,hr];show#[fA,x,y,o,p];refine⟨_,#[Ze,#[si,2,Ow.nd,#[Zj]],#[Ze,(@SH _ _ _ _ _ _ bf.never (@PW.pt _ _ _ #[Ya,#[ek,Xc,2,#[bn]],#[Ya,#[ek,Xc,2,#[du]],#[Xu,#[f1,YW,2]]]]) #[Zi,#[Zw,2,Ow.nd,#[3],#[hT,Z9,2]]]),#[bL]]],?_⟩;have lx:#[aY].length=x.length:=by simp[al.length]
 have ly:#[bv].length=y.length:=by simp[al.length]
 show#[uH];refine⟨λm r d=>∃k:Nat,r=[U #[u1],U (.str y),U (.int k)]/\d=H/\k<=lcp #[aY] #[bv]/\m=lcp #[aY] #[bv]-k,⟨_,0,rfl,rfl,Qu _,rfl⟩,?_⟩;rintro m r d ⟨k,rfl,rfl,c,rfl⟩;show#[eG,x,o,g]
 ·show#[ic,t,x.length,g];show#[eG,y,p,i]
  ·show#[ic,u,y.length,i];obtain⟨a,j,D⟩:=#[qP,x,k,t];show#[q2,l,F,k,u,j];refine⟨_,rfl,_,rfl,x,_,a,rfl,rfl,Yu o,D,_,rfl,_,rfl,y,_,b,rfl,rfl,Yu p,F,rfl,_,rfl,?_⟩;show#[eF,n]
   ·have G:a=b:=by have:=of_decide_eq_true n;injection this with e;injection e with e;simpa using e
    subst G;have:=Ol _ _ k c a j l;refine⟨λv B=>v=[U #[u1],U (.str y),U (.int #[ge,k])]/\B=d,λv B ⟨I,J⟩=>⟨_,?_,k+1,I,J,this,rfl⟩,?_⟩
    ·lia
    ·exact#[qb]
   ·refine#[pV];have e:=UB _ _ k c (.inr (.inr ⟨a,b,j,l,λe=>n #[wf]⟩));show#[nn]
  ·show#[eQ,u,y.length,i];have e:=UB _ _ k c #[hJ,#[2]];show#[nn]
 ·show#[eQ,t,x.length,g];have e:=UB _ _ k c (.inl #[2]);show#[nn]
theorem YE{c A B:Prop}[Decidable c](hc:c)(h:A):if decide c=true then A else B:=by rw[if_pos (decide_eq_true hc)];exact h
theorem YN{c A B:Prop}[Decidable c](hc:¬ c)(h:B):if decide c=true then A else B:=by rw[if_neg #[qB,decide_eq_false,hc,Qo]];exact h
theorem Kb(T:#[e]):∀n:Nat,Df P w K mg base (n+1) "_law_same" #[79] (RI n)
 | 0=>by
  show#[sP]
  ·obtain⟨x,y,rfl,_⟩:=h;rfl
  obtain⟨x,y,rfl,h,_⟩:=h;exact h.elim
 | n+1=>by
  have cu:=Kb T n;show#[sP]
  ·obtain⟨x,y,rfl,_⟩:=h;rfl
  obtain⟨x,y,rfl,u,q⟩:=h;refine⟨_,#[Ze,#[ZN,#[Yb,#[Zk,(Ztc K),#[5],T.b.n_isinstance,boot_isinstance,#[Zc,‹1›,#[ZV,#[Zc,#[XV,T.b.n_list,boot_list],#[XV,T.b.n_tuple,boot_tuple]]]]]],#[Ze,#[ZN,(@PW.pt _ _ _ #[Xd,#[Zm,Sz,#[ej,WE,0,T.b.n_list,boot_list],#[ej,WE,1,T.b.n_list,boot_list],#[37]],#[WG,#[Zm,Sz,#[ej,WE,0,T.b.n_tuple,boot_tuple],#[ej,WE,1,T.b.n_tuple,boot_tuple],#[37]]]]),#[aG],#[Zy]],#[Zi,#[Zr,#[Wf,#[XQ,YW,#[38],#[aF],#[37]],(@U1 _ _ _ _ _ #[Zk,(ZuT K),#[5],T.b.n_all,boot_all,#[Zc,#[Xj,UF,(@iZ _ K _ _ _ _ _ _ _ _ T.b.n_zip #[es,0,1] #[5] #[5] #[5] #[5]),(λ_ _ _ _=>#[gT,K,2,#[Zz,#[cg,2,UF],#[Zz,#[cg,3,UF],(@Yg _)]]]),#[94],(λ_ _ _ _=>#[Zx,cu,m,#[Zc,#[cw,2,UF],#[cw,3,UF]],#[q1,UF]])]]])]]]],#[Zy]],#[Ze,#[ZN,(@PW.pt _ _ _ #[Xd,#[gz,1],#[WG,#[Yb,#[cR]]]]),#[Zi,#[Zr,#[Wf,#[kw],(@U1 _ _ _ _ _ #[XQ,YW,#[ej,WE,0,T.b.n_str,boot_str],#[cR],#[37]])]]],#[Zy]],#[Ze,#[ZN,#[Yb,#[ej,WE,1,T.b.n_bool,boot_bool]],#[Zi,#[Zr,#[Wf,#[cJ],(@U1 _ _ _ _ _ #[kw])]]],#[Zy]],#[Zi,#[Zr,#[Wf,#[ej,WE,0,T.b.n_int,boot_int],#[Wf,(@Zs3 _ _ _ _ #[cJ]),(@U1 _ _ _ _ _ #[kw])]]]]]]],?_⟩;show#[fP,#[L],c,v];have R:ZF H #[19]:=Zg v _;rcases u with⟨rfl,rfl|⟨b,rfl⟩|⟨i,rfl⟩|⟨z,rfl⟩⟩|⟨p,t,xs,ys,rfl,rfl,⟨B,C⟩|⟨B,C⟩,hl,hz,hi⟩
  ·refine⟨_,c,#[aa],_,_,rfl,Zb,.non,ZmL K,_,rfl,YY ?_⟩;refine⟨_,rfl,rfl,_,rfl,YE rfl (XJ ?_)⟩;refine#[nA];exact⟨_,rfl,_, "str",_,_,rfl,.non,Kd K,_,rfl,_, "str",_,_,rfl,.non,Kd K,rfl,q _ R⟩
  ·refine⟨_,c,#[aa],_,_,rfl,Zb,.bl b,ZnM K,_,rfl,YY ?_⟩;refine#[cN];refine⟨_,rfl,_, "str",_,_,rfl,.bl b,ZpY K,_,rfl,YY ?_⟩;refine#[kT];refine#[kT];refine#[v5];have e:decide (V.bl b=V.bl b)=true:=#[dk];rw[e];exact q _ R
  ·refine⟨_,c,#[aa],_,_,rfl,Zb,.int i,Zm1 K,_,rfl,YY ?_⟩;refine#[cN];show#[qQ,"str",Znd,YY];show#[qQ,"bool",Ke,YY];show#[qQ,"int",ZmW,XJ];refine⟨_,rfl,_, "bool",_,_,rfl,.int i,Ke K,_,rfl,_,rfl,XJ ?_⟩;refine#[v5];have e:decide (V.int i=V.int i)=true:=#[dk];rw[e];exact q _ R
  ·refine⟨_,c,#[aa],_,_,rfl,Zb,.str z,ZmS K,_,rfl,YY ?_⟩;refine#[cN];refine⟨_,rfl,_, "str",_,_,rfl,.str z,Oi K,_,rfl,XJ ?_⟩;refine#[nA];exact⟨_,rfl,_, "str",_,_,rfl,.str z,Oi K,_,rfl,_, "str",_,_,rfl,.str z,Oi K,rfl,q _ R⟩
  ·have j:#[19] p=U #[kM]:=by rw[Zd (Zf B v)];exact B
   have g:#[19] t=U #[l6]:=by rw[Zd (Zf C v)];exact C
   refine⟨_,c,#[aa],_,_,rfl,Zb,.lst g,ZmH K,_,rfl,XJ ?_⟩;refine⟨_,rfl,_, "list",_,_,rfl,.lst j,Ki K,_,rfl,_, "list",_,_,rfl,.lst g,Ki K,rfl,_,rfl,WR rfl ?_⟩;refine⟨_,rfl,_, "tuple",_,_,rfl,.lst j,Kh K,_,rfl,_, "tuple",_,_,rfl,.lst g,Kh K,rfl,_,rfl,WR rfl ?_⟩;refine⟨_,rfl,p,xs,rfl,.inl (SqL.of j),_,rfl,t,ys,rfl,.inl (SqL.of g),rfl,_,rfl,YE (by rw[hl]) ?_⟩;refine⟨_,rfl,_,rfl,.l p,.l t,xs,ys,rfl,SqL.of j,SqL.of g,λD u=>?_⟩;show#[58]
   ·exact#[k0]
   ·rintro i zs k a ⟨_,_,d,_⟩;exact⟨SqL.of (d _ _ B),SqL.of (d _ _ C)⟩
   ·show#[z]
    ·rw[List.replicate_succ']
    ·show#[cb]
   ·show#[aq];have e:#[jU]:=by rw[Qbk];show#[o6]
    rw[e];exact q a d
  ·have j:#[19] p=U #[dG]:=by rw[Zd (Zf B v)];exact B
   have g:#[19] t=U (.tup ys):=by rw[Zd (Zf C v)];exact C
   refine⟨_,c,#[aa],_,_,rfl,Zb,.tup g,Znb K,_,rfl,XJ ?_⟩;refine⟨_,rfl,_, "list",_,_,rfl,.tup j,Kg K,_,rfl,_, "list",_,_,rfl,.tup g,Kg K,rfl,_,rfl,WR rfl ?_⟩;refine⟨_,rfl,_, "tuple",_,_,rfl,.tup j,Kf K,_,rfl,_, "tuple",_,_,rfl,.tup g,Kf K,rfl,_,rfl,WR rfl ?_⟩;refine⟨_,rfl,p,xs,rfl,.inr (SqT.of j),_,rfl,t,ys,rfl,.inr (SqT.of g),rfl,_,rfl,YE (by rw[hl]) ?_⟩;refine⟨_,rfl,_,rfl,.t p,.t t,xs,ys,rfl,SqT.of j,SqT.of g,λD u=>?_⟩;show#[58]
   ·exact#[k0]
   ·rintro i zs k a ⟨_,_,d,_⟩;exact⟨SqT.of (d _ _ B),SqT.of (d _ _ C)⟩
   ·show#[z]
    ·rw[List.replicate_succ']
    ·show#[cb]
   ·show#[aq];have e:#[jU]:=by rw[Qbk];show#[o6]
    rw[e];exact q a d
theorem Y9.new{H:Hp}{p l:ae}{c:Int}{o:HO}(h:#[sW])(n:H l=af):Y9 (upd H l o) p c:=by obtain⟨a,b,d,c0⟩:=h;exact⟨a,b,by rw[Zd (Zf d n)];exact d,c0⟩
theorem Y9.ge{H:Hp}{p:ae}{c:Int}(h:#[sW]):0<=c:=by obtain⟨a,b,hp,c0⟩:=h;exact c0
theorem Y9.here{H:Hp}{p:ae}{c:Int}(h:#[sW]):∃o,H p=U o:=by obtain⟨a,b,d,c0⟩:=h;exact⟨_,d⟩
theorem Y9.at{H:Hp}{p l:ae}{c:Int}{o:HO}(h:#[sW])(n:p≠l):Y9 (upd H l o) p c:=by obtain⟨a,b,d,c0⟩:=h;exact#[gD,n,d,c0]
theorem Ka:∀ss:List al,(∀s∈ss,AZ s)->ar.canLayAll0 #[iu]=true
 | [],_=>rfl
 | x::r,h=>by simp[ar.canLayAll0,ar.canLay0,(h x #[4]).ok,Ka r λs hs=>h s (List.mem_cons_of_mem _ hs)]
theorem J9:∀ss:List al,ar.depthAll #[iu]=0
 | []=>rfl
 | _::r=>by simp[ar.depthAll,ar.depth,J9 r]
theorem Ve(ss:#[Q])(h:∀s∈ss,AZ s):SeqAt.shaped (.list #[iu])=true:=by simp[SeqAt.shaped,ar.canLay0,ar.depth,Ka ss h,J9]
theorem VR{K:#[7]}{H:Hp}:∀ss:List al,DVs K H #[Y] #[iu]
 | []=>.nil
 | s::r=>.cons (.str s) (VR r)
def Of:Sp:=λvs H Q _=>X5 λ(p l:ae) (c a:Int) (ss:List al)=>vs=[.ref p,.ref l,.int a]/\Y9 H p c/\c<2 ^ 40/\0<=a/\a<=60/\H l=U #[jp]/\1<=ss.length/\ss.length<=4/\#[bC] /\
 ∀ (r:ae) (d:List al) (e:Int) (b:Hp),H r=af->b r=U #[tz]->(d.length:Int)<=a->#[fq,d,28]->Y9 b p e->c<=e->e<=c+600->But p H b->Q #[jV] b
theorem Zqg(T:#[e])(S:#[n])(jE:#[uw]):Df P w K mg base 4 "_law_keys" #[l] Of:=by
 show#[ee,T.t_l_keys.df,Tx,vs,y];obtain⟨p,l,c,L,ss,rfl,M,c1,m0,m1,W,n1,n4,m6,q⟩:=h;refine⟨_,#[Ze,#[si,3,Tx.nd,#[cS]],#[Ze,#[XS,bf.never,#[WT,T.b.n_range,#[Zc,#[Zx,S,y,#[Zc,‹0›,#[hT,Z9,2]],#[5]]]],#[ZD,4,Tx.nd,#[3]],#[Ze,#[Zw,5,Tx.nd,#[3],#[et,jE,y,0,1]],#[Ze,#[ZN,(@PW.pt _ _ _ #[Ya,#[fW,y,3],#[Xu,#[Zm,YW,#[fx,S,y,#[74]],#[Zj],#[37]]]]),#[Zi,#[gb,5,Tx.nd,S,y]],#[Zy]],#[Zi,#[hK,3,5]]]]],#[fb,3]]],?_⟩;have c0:=M.ge;show#[g7,#[15],r,m];have B:p≠r:=by obtain⟨o,ho⟩:=M.here;exact Zf ho m
 have Bg:l≠r:=Zf W m;have hW:p≠l:=by
  obtain⟨a,b,hp,_⟩:=M;refine PM hp W λe=>?_;cases ss with
  | nil=>exact absurd (congrArg List.length #[p6]) #[4]
  | cons x r=>exact absurd #[p6] #[44]
 refine⟨_,rfl,_,rfl,_,_,rfl,rfl,p,c,_,rfl,M.new m,by lia,by lia,by lia,λn H1 w0 w1 L1 B1=>?_⟩;refine#[tK];have gc:H1 r=U #[br]:=B1 r _ Zb B.symm;have FO:But p H H1:=#[qY,m].trans B1;refine U0 (λi X t=>X4 λ(g:List al) (C D:Option V) (c2:Int)=>X=#[mX]/\t r=U #[dJ]/\g.length=i/\#[fq,g,28]/\Y9 t p c2/\c+1<=c2/\c2<=c+1+8*i/\#[e2,H,p,t]) ⟨[],af,af,c+1,rfl,gc,rfl,#[eP,s,hs],L1,by lia,by lia,FO⟩ ?_ ?_
 ·rintro i X t hi ⟨g,C,D,c2,rfl,Y,Z,F,L2,a1,a2,N⟩;have hi60:(i:Int)<61:=by lia
  have ce:=N l _ W hW.symm;refine⟨_,rfl,_,rfl,p,l,c2,ss,rfl,L2,by lia,ce,n1,n4,m6,λG c3 H3 gR wW L3 a3 a4 B3=>?_⟩;have gD:=B3 r _ Y B.symm;have j:∀ (k2:al) (c4:Int) (k:Hp),k2.length<=28/\AZ k2->Y9 k p c4->c2<=c4->c4<=c2+8->k r=U #[dJ]->#[e2,H,p,k] ->
    X4 λ(qu:List al) (C D:Option V) (c5:Int)=>[U (V.ref p),U (V.ref l),U (V.int L),U (V.ref r),U (V.int (0+(i:Int))),U (V.str k2)]=#[mX] /\
     (upd k r #[kd]) r=U #[eu,qu.map]/\qu.length=i+1/\#[fq,qu,28]/\Y9 (upd k r #[kd]) p c5/\c+1<=c5/\c5<=c+1+8*#[ge,i] /\
     (∀b o,H b=U o->b≠p->(upd k r #[kd]) b=U o):=λk2 c4 k hk L4 b1 b2 jG B4=>by
   refine⟨g++[k2],_,_,c4,rfl,?_,by rw[Qf,Z];rfl,?_,L4.at B,by lia,by lia,λb o e n=>?_⟩
   ·rw[Zb,Qd];rfl
   ·intro x hx;rcases Qj.mp hx with hx|hx
    ·exact F x hx
    ·rw[Qi.mp hx];exact hk
   ·rw[Zd (Zf e m)];exact B4 b o e n
  have aX:#[q3,g.map,V.str]:=by rw[Qa,Z];exact Zn #[2]
  show#[fP,#[15],e,O];have I:#[xZ,H3,e] r=U #[dJ]:=by rw[Zd (Zf gD O)];exact gD
  refine⟨.list (g.map ar.str),.list [],.lst (SqL.of I) (VR g),.lst #[jT] .nil,Ve g (λs h=>(F s h).2),#[1],_,rfl,?_⟩;have yA:#[qw,o,p,H3,e,#[br]]:=λb o z n=>Zg O _ b o (B3 b o (N b o z n) n);cases g with
  | nil =>
   have ev:(if true=true then !ar.eqv #[pH] #[jK] else ar.eqv #[pH] #[jK])=false:=by ac_rfl
   rw[ev];refine YY (YY ?_);refine⟨_,rfl,.inl #[fm,I],_,rfl,r,_,_,rfl,rfl,I,aX,?_⟩;exact j G c3 _ ⟨gR,wW⟩ (L3.new O) #[2] #[2] I yA
  | cons u v =>
   have ev:(if true=true then !ar.eqv #[ur] #[jK] else ar.eqv #[ur] #[jK])=true:=by simp[ar.eqv,ar.eqvAll]
   rw[ev];refine XJ ⟨_,rfl,p,c3,_,rfl,L3.new O,by lia,by decide,by decide,λd H5 d0 d1 L5 B5=>?_⟩;have J:=B5 r _ I B.symm;refine⟨rfl,_,rfl,Y1 #[lX] #[lX]⟩
   ·have bb:((((u::v).map V.str).length:Nat):Int)=((u::v).length:Int):=by rw[Qa]
    have gU:#[xh]<((u::v).length:Int):=by simp
    refine⟨_,rfl,_,rfl,_,rfl,r,_,rfl,.inl (SqL.of J),p,c3+1,_,rfl,L5,by lia,by lia,by lia,λd' H6 FP qz L6 B6=>?_⟩;obtain⟨st,gs,gp⟩:=Om (ss:=u::v) FP #[2];have R:=B6 r _ J B.symm;refine⟨r,_,_,_,rfl,rfl,SqL.of R,gp,_,rfl,.inl #[fm,R],_,rfl,r,_,_,rfl,rfl,R,aX,?_⟩;exact j st _ _ (F st gs) L6 #[2] #[2] R λb o z n=>B6 b o (B5 b o (yA b o z n) n) n
   ·refine⟨_,rfl,.inl #[fm,J],_,rfl,r,_,_,rfl,rfl,J,aX,?_⟩;exact j G _ _ ⟨gR,wW⟩ L5 #[2] #[2] J λb o z n=>B5 b o (yA b o z n) n
 ·rintro X t ⟨g,C,D,c2,rfl,Y,Z,F,L2,a1,a2,N⟩;exact⟨_,rfl,q r g c2 t m Y #[2] F L2 #[2] #[2] N⟩
noncomputable def WZ(ss:#[Q])(i:Nat):Int:=if i=0 then 0 else (lcp (cds (ss.getD (i-1) "")) (cds (ss.getD i "")):Nat)
def RH(K:#[7]):Sp:=λvs H Q _=>X2 λ(a:ae) (ss:List al)=>vs=#[lL]/\SqL K H a #[Y]/\ss.length<=100/\#[cQ] /\
 ∀ (r:ae) (b:Hp),H r=af->b r=U #[ku]->ZF H b->Q #[jV] b
theorem ZmU(T:#[e])(O:#[ms]):Df P w K mg base 3 "alikes" ["row"] (RH K):=by
 show#[ee,T.t_alikes.df,RU,R,S];obtain⟨a,c,rfl,v,hn,G,q⟩:=h;refine⟨_,#[Ze,#[si,1,RU.nd,#[cS]],#[Ze,#[XS,bf.never,#[id,0],#[qC,2,RU.nd,3],#[Zi,#[ZX,#[Xl,QR,Q9,Qaa,Vy,‹1›,#[Zc,#[WV,#[ek,YW,2,#[Zj]],#[Zj],#[Zx,O,S,#[Zc,#[Zo,#[ly],‹0›,#[hT,Wd,2]],‹3›],#[5]]]]]]]],#[fb,1]]],#[15],λr B=>?_⟩;have I:ZF H #[xZ,H,r]:=Zg B _;refine⟨_,rfl,a,c.map V.str,rfl,I.seq v,?_⟩;refine So (K:=K) (a:=a) (xs:=c.map V.str) (λi C d=>(X2 λg k:Option V=>C=[U #[iB],U #[jV],g,k])/\d r=U (.lst #[bA])/\ZF H d/\i<=c.length) ⟨⟨af,af,rfl⟩,Zb,I,Qu _⟩ (λ_ _ _ W=>by obtain⟨_,_,l,_⟩:=W;exact l.seq v) ?_ ?_
 ·rintro i x C d p m ⟨⟨g,k,rfl⟩,n,l,X⟩ J;rw[Qp]at m;cases t:c[i]? with
  | none=>rw[t]at m;cases m
  | some y =>
   show#[ex,t,m,Y,c.length];have Z:r≠p:=Zf n J;have L:ZF H #[c3]:=l.trans (Zg J _);have D:#[c3] r=U (.lst #[bA]):=by rw[Zd Z];exact n
   have M:((List.range i).map λj=>V.int (WZ c j)).length<ao:=by rw[Qa,List.length_range];exact Zn #[2]
   have u:∀z:Int,z=WZ c i->(X2 λg k:Option V=>[U (V.ref a),U (V.ref r),U (V.int i),U (V.str y)]=[U #[iB],U #[jV],g,k]) /\
     (upd #[c3] r #[wl]) r=U (.lst ((List.range (i+1)).map λj=>.int (WZ c j))) /\
     ZF H (upd #[c3] r #[wl])/\i+1<=c.length:=λz e=>by
    refine⟨⟨_,_,rfl⟩,?_,λb o h=>?_,Y⟩
    ·rw[Zb,QaJ,Qd,e];rfl
    ·show#[qR,h,B,L,o]
   refine⟨p,_,rfl,SqT.of Zb,rfl,_,_,rfl,_,_,rfl,rfl,_,rfl,.inl #[fm,D],_,rfl,rfl,_,rfl,?_⟩;by_cases N:i=0
   ·subst N;exact YE rfl ⟨r,_,_,rfl,rfl,D,M,u 0 rfl⟩
   ·have F:i-1<c.length:=by lia
    have ei:((i:Int)-1)=((i-1:Nat):Int):=by lia
    have cJ:atI (c.map V.str) ((i:Int)-1)=U (.str c[i-1]):=by rw[ei];exact Yo #[hj,F]
    refine YN (λz=>by injection z with z;lia) ⟨_,rfl,_,rfl,_,_,rfl,rfl,a,_,_,_,rfl,rfl,L.seq v,cJ,_,rfl,c[i-1],y,rfl,G _ (Qad F),G _ (Qv t),r,_,_,rfl,rfl,D,M,u _ ?_⟩;unfold WZ;rw[if_neg N,QI,QI,Qb F,t];rfl
 ·rintro C d ⟨⟨g,k,rfl⟩,n,l,X⟩;rw[Qa]at n;exact⟨_,rfl,q r d B n l⟩
noncomputable def ZS:List Nat->List Nat->Int
 | [],[]=>0
 | [],_::_ =>-1
 | _::_,[]=>1
 | a::r,b::s=>if a=b then ZS r s else if a<b then -1 else 1
theorem J8:∀ (x y:List Nat),Spec.ltCps y x=false->ZS x y<=0
 | [],[],_=>by unfold ZS;lia
 | [],_::_,_=>by unfold ZS;lia
 | _::_,[],h=>by unfold Spec.ltCps at h;cases h
 | a::r,b::s,h=>by
  have c:=J8 r s;unfold Spec.ltCps at h;unfold ZS;rw[Bool.or_eq_false_iff,Bool.and_eq_false_iff]at h;show#[ep,d,f,h];have qw:¬ b<a:=of_decide_eq_false d;by_cases e:a=b
  ·rw[if_pos e];rcases f with z|z
   ·rw[e]at z;simp at z
   ·exact c z
  ·show#[sc,e];lia
theorem RG:∀ (x y z:List Nat),ZS x y<=0->ZS y z<=0->ZS x z<=0
 | [],_,[],_,_=>by unfold ZS;lia
 | [],_,_::_,_,_=>by unfold ZS;lia
 | _::_,[],_,h,_=>by unfold ZS at h;lia
 | _::_,_::_,[],_,h=>by unfold ZS at h;lia
 | a::r,b::s,c::t,h1,h2=>by
  unfold ZS at h1 h2 ⊢;have g:=RG r s t;by_cases f:a=b
  ·rw[if_pos f]at h1;by_cases d:b=c
   ·show#[sO];exact g h1 h2
   ·show#[xC,d,h2];rw[if_neg (λe=>d #[ug])];split at h2
    ·rw[if_pos #[2]];lia
    ·lia
  ·show#[xC,f,h1];split at h1
   ·by_cases d:b=c
    ·rw[if_neg (λe=>f #[uh]),if_pos #[2]];lia
    ·show#[xC,d,h2];split at h2
     ·show#[sc,#[2]];lia
     ·lia
   ·lia
theorem J7:∀ (ss:List al) (p:al),risingS p ss=true->∀ (k:Nat) (x y:al),(p::ss)[k]? = U x->ss[k]? = U y->ZS #[aY] #[bv]<=0
 | [],p,_,k,x,y,_,h=>by simp at h
 | z::r,p,h,0,x,y,h1,h2=>by unfold risingS at h;rw[QZ]at h;simp at h1 h2;subst h1 h2;exact J8 _ _ #[el,h.1]
 | z::r,p,h,k+1,x,y,h1,h2=>by unfold risingS at h;rw[QZ]at h;exact J7 r z h.2 k x y #[el,h1] #[el,h2]
theorem J6{ss:#[Q]}(h:#[oh])(k:Nat)(x y:al)(h1:ss[k]? = U x)(h2:ss[k+1]? = U y):ZS #[aY] #[bv]<=0:=by
 cases ss with
 | nil=>simp at h1
 | cons p r=>exact J7 r p h k x y h1 #[el,h2]
theorem J5:∀ss:List al,ar.eqvAll #[iu] #[iu]=true
 | []=>by simp[ar.eqvAll]
 | x::r=>by simp[ar.eqvAll,ar.eqv,J5 r]
theorem J4(ss:#[Q]):ar.eqv (.list #[iu]) (.list #[iu])=true:=by simp[ar.eqv,J5 ss]
theorem RF{ss:#[Q]}{k:Nat}(h:k<ss.length):atI #[Y] (k:Int)=U (.str ss[k]):=Yo #[hj,h]
theorem Y9.same{H a:Hp}{p:ae}{c:Int}(h:#[sW])(s:ZF H a):Y9 a p c:=by obtain⟨b,b2,hb,c0⟩:=h;exact⟨b,b2,s _ _ hb,c0⟩
noncomputable def mid(ns:#[w]):Nat:=(ns.length+1) / 2
noncomputable def XH(ns:#[w]):List Int:=ns.take (mid ns)
noncomputable def Ws(ns:#[w]):List Int:=ns.drop (mid ns)
theorem J3(ns:#[w]):(#[mQ]+1) / 2=((mid ns:Nat):Int):=by rw[Qa];unfold mid;lia
theorem UA{ns:#[w]}{k:Int}(h0:0<=k)(h:k<#[vz]):∃v∈ns,atI #[C] k=U #[me]:=by
 have a:k.toNat<ns.length:=by lia
 have b:k=#[bK]:=by lia
 show#[ki];exact⟨_,Qad a,q⟩
theorem J2(ns:#[w])(m:Nat)(h:m<=ns.length):Xs #[C] af #[lC]=(ns.take m).map V.int:=by
 unfold Xs;have e:HT.sIx #[C].length #[C].length #[lC]=m:=by unfold HT.sIx;show#[js];lia
 have a:HT.sIx #[C].length 0 af=0:=rfl;show#[no]
theorem J1(ns:#[w])(m:Nat)(h:m<=ns.length):Xs #[C] #[lC] af=(ns.drop m).map V.int:=by
 unfold Xs;have e:HT.sIx #[C].length 0 #[lC]=m:=by unfold HT.sIx;show#[js];lia
 have a:HT.sIx #[C].length #[C].length af=#[C].length:=rfl;rw[e,a,List.map_drop,Qx #[xU,QT,Qa]]
theorem J0(z:al):#[wZ].length=z.length:=by simp[al.length]
theorem JZ:∀ (x y:List Nat),(lcp x y=x.length->lcp x y=y.length->ZS x y=0)/\(lcp x y=x.length->lcp x y≠y.length->ZS x y = -1)/\(lcp x y≠x.length->lcp x y=y.length->ZS x y=1) /\
  ∀a b,x[lcp x y]? = U a->y[lcp x y]? = U b->ZS x y=if a<b then -1 else 1
 | [],[]=>⟨λ_ _=>rfl,λ_ h=>absurd rfl h,λh _=>absurd rfl h,λa b h _=>by simp at h⟩
 | [],_::_=>⟨λ_ h=>by unfold lcp at h;simp at h,λ_ _=>rfl,λh _=>absurd rfl h,λa b h _=>by simp at h⟩
 | _::_,[]=>⟨λh _=>by unfold lcp at h;simp at h,λh _=>by unfold lcp at h;simp at h,λ_ _=>rfl,λa b _ h=>by simp at h⟩
 | a::r,b::s=>by
  obtain⟨h1,h2,f,h4⟩:=JZ r s;unfold lcp ZS;by_cases e:a=b
  ·show#[io,e,e];simp only[List.length_cons,List.getElem?_cons_succ];exact⟨λp q=>h1 #[2] #[2],λp q=>h2 #[2] #[2],λp q=>f #[2] #[2],h4⟩
  ·show#[ia,e,e];simp only[List.length_cons,List.getElem?_cons_zero];refine⟨λp=>by lia,λp=>by lia,λ_ p=>by lia,λc d p q=>?_⟩;cases p;cases q;rfl
theorem VQ:∀ (x y:List Nat),ZS y x =-ZS x y
 | [],[]=>rfl
 | [],_::_=>rfl
 | _::_,[]=>rfl
 | a::r,b::s=>by
  have c:=VQ r s;unfold ZS;by_cases e:a=b
  ·rw[if_pos e,if_pos e.symm,c]
  ·rw[if_neg e,if_neg λz=>e z.symm];by_cases l:a<b
   ·rw[if_pos l,if_neg #[2]];rfl
   ·show#[sc,l]
theorem Zr1(a b:Nat):decide ((⟨#[a]⟩:al).cps.toList<(⟨#[b]⟩:al).cps.toList)=decide (a<b):=by
 have e:([a]:List Nat)<[b]↔a<b:=by
  constructor
  ·intro h;cases h with
   | rel h=>exact h
   | cons h=>cases h
  ·exact λh=>List.Lex.rel h
 exact decide_eq_decide.mpr e
theorem JY:∀x:List Nat,ZS x x=0
 | []=>rfl
 | a::r=>by unfold ZS;show#[tO];exact JY r
theorem Oe:∀ (x y:List Nat),ZS x y=0->x=y
 | [],[],_=>rfl
 | [],_::_,h=>by unfold ZS at h;lia
 | _::_,[],h=>by unfold ZS at h;lia
 | a::r,b::s,h=>by
  unfold ZS at h;by_cases e:a=b
  ·rw[if_pos e]at h;rw[e,Oe r s h]
  ·show#[pi];split at h<;>lia
def Od:Sp:=λvs H Q _=>X2 λx y:al=>vs=[.str x,.str y]/\x.length<=1000/\y.length<=1000/\Q #[rk,ZS] H
def RE:Sp:=λvs H Q _=>X2 λx y:al=>vs=#[xI,#[r]]/\x.length<=1000/\y.length<=1000/\Q #[rk,ZS] H
theorem ZpX(T:#[e]):Df P w K mg base 1 "order_at" #[bu] RE:=by
 show#[ee,T.t_order_at.df,Zkm,r,hr];show#[fA,x,y,g,i];refine⟨_,#[Ze,#[ZN,(@PW.pt _ _ _ #[Ya,#[ek,YW,2,#[bn]],#[Xu,#[ek,YW,2,#[du]]]]),#[Zi,#[Zr,#[Zj]]],#[Zy]],#[Ze,#[ZN,#[ek,YW,2,#[bn]],#[Zi,#[Zr,#[c6]]],#[Zy]],#[Ze,#[ZN,#[ek,YW,2,#[du]],#[Zi,#[Zr,#[Zj]]],#[Zy]],#[Zi,#[Zr,#[WV,#[f1,Mx,2],#[c6],#[Zj]]]]]]],?_⟩;obtain⟨t,u,v,B⟩:=JZ #[aY] #[bv];show#[uH];have lx:=J0 x;have ly:=J0 y;have inj:∀ {m n:Nat},V.int (m:Int)=V.int (n:Int)->m=n:=λ{m n} e=>by injection e with e;lia
 refine⟨_,rfl,_,rfl,x,rfl,Yu g,rfl,_,rfl,Y1 #[aM] #[aM]⟩
 ·have j:=inj (of_decide_eq_true d);refine#[jB]
  ·have l:=#[vk];rw[t #[2] #[2]]at q;exact q
  ·have l:#[t3]:=λe=>c #[ei,e,#[dk]];refine⟨_,rfl,_,rfl,x,rfl,Yu g,rfl,_,rfl,YE (by rw[j]) ?_⟩;rw[u #[2] #[2]]at q;exact⟨_,rfl,q⟩
 ·have j:¬ lcp #[aY] #[bv]=x.length:=λe=>d #[ei,e,#[dk]];refine YY ⟨_,rfl,_,rfl,x,rfl,Yu g,rfl,_,rfl,YN (λe=>j (inj e)) ?_⟩;refine#[jB]
  ·have l:=#[vk];rw[v #[2] #[2]]at q;exact q
  ·have l:#[t3]:=λe=>c #[ei,e,#[dk]];obtain⟨a,o,C⟩:=#[qP,x,#[r],#[2]];show#[q2,p,D,#[r],#[2],o];refine⟨_,rfl,_,rfl,x,_,a,rfl,rfl,Yu g,C,_,rfl,_,rfl,y,_,b,rfl,rfl,Yu i,D,_,_,rfl,rfl,_,rfl,?_⟩;rw[Zr1];rw[B a b o p]at q;show#[eF,e]
   ·rw[if_pos (of_decide_eq_true e)]at q;exact⟨_,rfl,q⟩
   ·rw[if_neg (λz=>e #[aK])]at q;exact q
theorem ZpN(T:#[e])(d:#[ms])(e:#[li]):Df P w K mg base 3 "liken" #[99] Od:=by
 show#[ee,T.t_liken.df,Zn8,g,a];show#[fA,x,y,b,c];refine⟨_,#[Zi,#[Zr,#[Zx,e,a,#[Zc,‹0›,‹1›,#[et,d,a,0,1]],#[5]]]],?_⟩;exact⟨_,rfl,_,rfl,_,rfl,_,rfl,x,y,rfl,b,c,x,y,rfl,b,c,q⟩
theorem Vd{c A B:Prop}[Decidable c](hc:¬ c)(h:A):if (!decide c)=true then A else B:=by rw[if_pos (by rw[decide_eq_false hc];rfl)];exact h
def Oc:Sp:=λvs H Q _=>X3 λ(x y:al) (a:Nat)=>vs=#[xI,a]/\x.length<=1000/\y.length<=1000/\a<=lcp #[aY] #[bv] /\
 ∀t,H t=af->Q #[jz] (upd H t (.tup [.int (ZS #[aY] #[bv]),.int #[r],.int (#[r]-(a:Int)+1)]))
theorem Zif(T:#[e])(e:#[kS])(g:#[li]):Df P w K mg base 2 "liken_from" #[48] Oc:=by
 show#[ee,T.t_liken_from.df,Kx,i,a];obtain⟨x,y,b,rfl,c,d,j,q⟩:=h;refine⟨_,#[Ze,#[Zw,3,Kx.nd,#[3],#[Zx,e,a,#[ga,0,1,2],#[5]]],#[Zi,#[Zr,#[ZV,#[Zc,#[Zx,g,a,#[ga,0,1,3],#[5]],‹3›,#[xB,Z9,Wd,3,2]]]]]],_,rfl,_,rfl,_,rfl,x,y,b,rfl,c,d,j,_,rfl,_,rfl,_,rfl,x,y,rfl,c,d,_,rfl,_,rfl,_,rfl,_,_,rfl,rfl,_,_,rfl,rfl,#[21],λt k=>?_⟩;exact q t k
def XF(ss:#[Q])(v:V):Prop :=
 (v=.non/\∀i x y,ss[i+1]? = U x->ss[i]? = U y->0<=ZS #[aY] #[bv]) \/
 ∃k:Nat,v=.int #[ge,k]/\k+1<ss.length/\#[kr]/\∀i,i<k->∀x y,ss[i+1]? = U x->ss[i]? = U y->0<=ZS #[aY] #[bv]
theorem Ob{ss:#[Q]}{v g:V}(h:XF ss v)(h':XF ss g):v=g:=by
 rcases h with⟨rfl,a⟩|⟨k,rfl,l,b,c⟩
 ·rcases h' with⟨rfl,_⟩|⟨k',rfl,d,f,_⟩
  ·rfl
  ·have:=a k' _ _ (Qb d) #[pC];have:=f _ _ (Qb d) #[pC];lia
 ·rcases h' with⟨rfl,a⟩|⟨k',rfl,d,f,i⟩
  ·have:=a k _ _ (Qb l) #[pC];have:=b _ _ (Qb l) #[pC];lia
  ·have e:k=k':=by
    rcases Nat.lt_trichotomy k k' with h|h|h
    ·have:=i k h _ _ (Qb l) #[pC];have:=b _ _ (Qb l) #[pC];lia
    ·exact h
    ·have:=c k' h _ _ (Qb d) #[pC];have:=f _ _ (Qb d) #[pC];lia
   rw[e]
def RD(K:#[7]):Sp:=λvs H Q _=>X2 λ(a:ae) (ss:List al)=>vs=#[lL]/\SqL K H a #[Y]/\ss.length<=200/\#[cQ]/\∀ (v:V) (b:Hp),XF ss v->ZF H b->Q v b
theorem Zo6(T:#[e])(t:#[wr]):Df P w K mg base 4 "first_break" ["keys"] (RD K):=by
 show#[ee,T.t_first_break.df,Kw,u,B];obtain⟨a,b,rfl,n,hn,p,q⟩:=h;refine⟨_,#[Ze,#[XS,bf.never,(@MH _ _ _ _ _ _ _ rfl T.b.n_range #[Zc,#[Zj],#[38]] #[5] #[5]),#[ZD,1,Kw.nd,#[3]],#[Zi,#[ZN,#[Zm,Xc,#[Zx,t,B,#[Zc,#[uA],#[Zo,#[ly],‹0›,#[hT,Wd,1]]],#[5]],#[Zj],#[37]],#[fb,1],#[Zy]]]],#[tH]],?_⟩;have hl:#[fj,b.map,V.str]=(b.length:Int):=by rw[Qa]
 refine⟨_,rfl,a,_,rfl,.inl n,_,_,rfl,#[pe],?_⟩;refine U0 (λi o k=>(∃v:Option V,o=[U #[iB],v])/\ZF H k/\∀j,j<i->∀x y,b[j+1]? = U x->b[j]? = U y->0<=ZS #[aY] #[bv]) ⟨⟨af,rfl⟩,ZF.refl H,λj h=>by lia⟩ ?_ ?_
 ·rintro i o k hi ⟨⟨v,rfl⟩,g,m⟩;have l:i+1<b.length:=by lia
  have r:(1+(i:Int))=#[ge,i]:=by lia
  have C:(1+(i:Int)-1)=#[fY,i]:=by lia
  refine⟨_,rfl,_,rfl,a,_,_,_,rfl,rfl,g.seq n,#[eR,r,RF,l],_,rfl,_,rfl,_,_,rfl,rfl,a,_,_,_,rfl,rfl,g.seq n,#[eR,C,RF,#[2]],b[i+1],b[i],rfl,p _ (Qad l),p _ (Qad #[2]),_,_,rfl,rfl,_,rfl,?_⟩;show#[lI]
  ·have D:ZS (cds b[i+1]) (cds b[i])<0:=#[89];refine⟨_,rfl,q _ k (.inr ⟨i,by rw[r],l,λx y c e=>?_,m⟩) g⟩;show#[pk];lia
  ·have D:¬ ZS (cds b[i+1]) (cds b[i])<0:=#[uD];refine⟨⟨_,rfl⟩,g,λj hj x y c e=>?_⟩;by_cases F:j=i
   ·subst F;show#[pk];lia
   ·exact m j #[2] x y c e
 ·rintro o k ⟨⟨v,rfl⟩,g,m⟩;refine q _ k (.inl ⟨rfl,λj x y c e=>?_⟩) g;have:=(Qe.mp c).1;exact m j #[2] x y c e
def VP(K:#[7])(tup:Bool):Sp:=λvs H Q _=>X2 λ(a:ae) (ns:List Int)=>vs=#[lL]/\SqL K H a #[C]/\ns.length<=100 /\
 ∀ (t f r:ae) (b:Hp),H t=af->H f=af->H r=af->f≠r->b t=U (if tup=true then .tup #[fJ,f,r] else .lst #[fJ,f,r])->b f=U #[rE,XH,ns]->b r=U #[rE,Ws,ns]->ZF H b->t≠f->t≠r->Q #[jz] b
theorem JX{H:Hp}{f r t:ae}{A B T:HO}(j:H f=af)(b:(upd H f A) r=af)(a:#[iW] t=af) :
  H r=af/\H t=af/\f≠r/\t≠f/\t≠r/\#[vy] f=U A/\#[vy] r=U B/\ZF H #[vy]:=by
 have c:f≠r:=Zf (H:=upd H f A) (o:=A) Zb b;have d:#[iW] f=U A:=by rw[Zd c];exact Zb
 have e:f≠t:=Zf d a;have g:r≠t:=Zf (H:=upd (upd H f A) r B) (o:=B) Zb a;have h:ZF H (upd H f A):=Zg j _;have i:=h.trans (Zg b B);have k:=i.trans (Zg a T);exact⟨h.free b,i.free a,c,e.symm,g.symm,by rw[Zd e];exact d,by rw[Zd g];exact Zb,k⟩
theorem Zny(T:#[e]):Df P w K mg base 1 "halves" ["numbers"] (VP K true):=by
 show#[ee,T.t_halves.df,Kv,j,hr];show#[fA,a,b,c,hn];refine⟨_,#[Ze,#[si,1,Kv.nd,#[o4]],#[Zi,#[Zr,#[ZV,#[cF]]]]],_,rfl,a,_,rfl,.inl c,_,_,rfl,rfl,_,_,rfl,rfl,#[87],?_⟩;have k:mid b<=b.length\/b=[]:=by
  cases b with
  | nil=>exact #[pR]
  | cons x r=>left;unfold mid;rw[QH];lia
 have g:mid b<=b.length:=by
  rcases k with h|h
  ·exact h
  ·subst h;decide
 show#[55];obtain⟨z1,z2,z3,z4,z5,z6,z7,z8⟩:=JX (T:=.tup #[fJ,l,r]) d i e;exact #[np]
theorem Zkv(T:#[e]):Df P w K mg base 1 "_law_halves" #[ua] (VP K false):=by
 show#[ee,T.t_l_halves.df,Ku,j,hr];show#[fA,a,b,c,hn];refine⟨_,#[Ze,#[si,1,Ku.nd,#[o4]],#[Zi,#[Zr,#[ZJ,#[cF]]]]],_,rfl,a,_,rfl,.inl c,_,_,rfl,rfl,_,_,rfl,rfl,#[87],?_⟩;have k:mid b<=b.length\/b=[]:=by
  cases b with
  | nil=>exact #[pR]
  | cons x r=>left;unfold mid;rw[QH];lia
 have g:mid b<=b.length:=by
  rcases k with h|h
  ·exact h
  ·subst h;decide
 show#[55];obtain⟨z1,z2,z3,z4,z5,z6,z7,z8⟩:=JX (T:=.lst #[fJ,l,r]) d i e;exact #[np]
def Oa:Sp:=λvs H Q _=>X2 λ(p:ae) (c:Int)=>vs=#[jN]/\Y9 H p c/\c<2 ^ 50/\∀ (v a:Int) (b:Hp),0<=v->v<=12->Y9 b p a->c<=a->a<=c+3->But p H b->Q #[me] b
theorem Zqc(T:#[e])(a:#[n]):Df P w K mg base 3 "_law_many" #[24] Oa:=by
 show#[ee,T.t_l_many.df,Kt,j,b];show#[fA,p,c,d,c1];refine⟨_,#[Ze,#[Zw,1,Kt.nd,#[3],#[v0]],#[Zi,#[Zr,#[Zo,#[ly],#[ZJ,#[Za,#[Zj],#[Za,#[Zj],#[Za,#[Zj],#[Zc,#[Zj],#[Zj],#[Zj],#[v0],#[ZH,Z9,#[Zj],#[v0]]]]]]],‹1›]]]],?_⟩;have c0:=d.ge;refine⟨_,rfl,p,c,_,rfl,d,by lia,by decide,by decide,λwy H1 k l m n=>?_⟩;refine⟨_,rfl,p,c+1,_,rfl,m,by lia,by decide,by decide,λo H2 lL Bh L2 r=>?_⟩;refine⟨_,rfl,p,c+1+1,_,rfl,L2,by lia,by decide,by decide,λt H3 d20 d21 u x=>⟨_,_,rfl,rfl,#[e7,8,ao],λe g=>?_⟩⟩;obtain⟨v,y,z⟩:=UA (ns:=[2,3,4,5,6,3,o,7+t]) k l;have i:0<=v/\v<=12:=by simp only[List.mem_cons,List.not_mem_nil,or_false]at y;lia
 exact⟨_,rfl,e,_,_,_,rfl,rfl,SqL.of Zb,z,q v _ _ i.1 i.2 (u.new g) #[2] #[2] (((n.trans r).trans x).trans #[qY,g])⟩
theorem VO(f:al)(v:V):∀fs:List (al×V),#[tk].length<=fs.length+1
 | []=>Qh _
 | p::r=>by
  unfold ZA;split
  ·exact Q1 _
  ·exact Qbl (VO f v r)
noncomputable def YV(k f:ae)(g:Int):List (al×V):=ZA "gone" (.int g) (ZA "fars" #[bT] #[un])
theorem nGF:¬ #[g0,"fars","gone"]:=by ac_rfl
theorem nGK:¬ #[g0,"all_keys","gone"]:=by ac_rfl
theorem nFK:¬ #[g0,"all_keys","fars"]:=by ac_rfl
theorem Vc(k f:ae)(g:Int):#[ji].lookup ("all_keys" : al)=U (.ref k):=by unfold YV;rw[Zs,if_neg nGK,Zs,if_neg nFK,Zs,if_pos rfl]
theorem Tj(k f:ae)(g:Int):#[ji].lookup ("gone" : al)=U (.int g):=by unfold YV;rw[Zs,if_pos rfl]
theorem Ti(k f:ae)(g:Int){m:al}(h1:¬ m = "gone")(h2:¬ m = "fars")(a:¬ m = "all_keys"):#[ji].lookup m=af:=by unfold YV;rw[Zs,if_neg h1,Zs,if_neg h2,Zs,if_neg a];rfl
structure Vb (C:ae) (H:Hp) (p k f:ae) (ss:#[Q]) (g:Nat):Prop where
 ob:∃dx,H p=U (.ins C dx #[ji])
 ks:H k=U #[jp]
 fs:H f=U #[ku]
def Th(C:ae):Sp:=λvs H Q _=>X5 λ(p k f:ae) (ss:List al) (g:Nat)=>vs=#[jN]/\Vb C H p k f ss g/\Q (.int (#[ks]-(g:Int))) H
theorem Zrs(T:#[e]):Mf P w K mg base 1 aw "to_go" #[11] (Th aw):=by
 show#[ee,T.t_Row_to_go.mf,ZjG,c,hr];obtain⟨p,k,f,d,g,rfl,R,q⟩:=h;refine⟨_,#[Zi,#[Zr,#[ZH,Wd,#[xw,#[I]],#[I]]]],?_⟩;obtain⟨⟨a,b⟩,e,hf⟩:=R;refine⟨_,rfl,p,aw,a,_,_,rfl,b,T.cl_Row,T.na_Row_all_keys,Vc _ _ _,k,_,rfl,.inl (SqL.of e),_,rfl,p,aw,a,_,_,rfl,b,T.cl_Row,T.na_Row_gone,Tj _ _ _,_,_,rfl,rfl,?_⟩;rw[Qa];exact q
noncomputable def WN(ss:#[Q])(g:Nat):V:=match ss[g]? with
 | some z=>.str z
 | none=>.non
def Va(C:ae):Sp:=λvs H Q _=>X5 λ(p k f:ae) (ss:List al) (g:Nat)=>vs=#[jN]/\Vb C H p k f ss g/\Q (WN ss g) H
theorem Zq8(T:#[e])(i:#[aV]):Mf P w K mg base 2 aw "head" #[11] (Va aw):=by
 show#[ee,T.t_Row_head.mf,Zke,j,l];obtain⟨p,k,f,a,g,rfl,R,q⟩:=h;refine⟨_,#[Zi,#[Zr,#[WV,#[Zm,VE,#[rS,i,l,0],#[Zj],#[37]],#[Zo,#[ly],#[I],#[I]],#[ZU]]]],?_⟩;obtain⟨⟨b,c⟩,m,hf⟩:=id R;refine⟨_,rfl,p,b,_,rfl,c,Ti _ _ _ #[1] #[1] #[1],p,k,f,a,g,rfl,R,_,_,rfl,rfl,_,rfl,?_⟩;show#[lI]
 ·have n:#[xh]<#[be]-(g:Int):=#[89];have e:g<a.length:=by lia
  refine⟨_,rfl,p,aw,b,_,_,rfl,c,T.cl_Row,T.na_Row_all_keys,Vc _ _ _,_,rfl,p,aw,b,_,_,rfl,c,T.cl_Row,T.na_Row_gone,Tj _ _ _,k,_,_,_,rfl,rfl,SqL.of m,Yo #[hj,e],?_⟩;unfold WN at q;rw[Qb e]at q;exact q
 ·have n:¬ #[xh]<#[be]-(g:Int):=#[uD];unfold WN at q;rw[QP #[2]]at q;exact q
def N9(C:ae):Sp:=λvs H Q _=>X4 λ(p dx a:ae) (ss:List al)=>vs=#[fJ,p,a]/\H p=U (.ins C dx [])/\H a=U #[jp]/\ss.length<=100/\#[cQ] /\
 ∀ (k f:ae) (c:Hp),H k=af->H f=af->k≠f->Vb C c p k f ss 0->#[e2,H,p,c]->Q .non c
theorem ZlO(T:#[e])(z:#[dO]):Cf P w K mg base 4 aw "Row" #[98] (N9 aw):=by
 show#[ee,T.t_Row_init.cf,ZkP,B,C];obtain⟨p,c,a,d,rfl,m,i,D,F,q⟩:=h;refine⟨_,#[Ze,#[XO,‹0›,#[nz]],#[Ze,#[XO,‹0›,#[rR,z,C]],#[Zi,#[pN]]]],_,rfl,a,_,rfl,.inl (SqL.of i),λk j=>?_⟩;have l:p≠k:=Zf m j;have G:a≠p:=λe=>by rw[e,m]at i;cases i
 have I:a≠k:=Zf i j;refine⟨_,rfl,p,aw,c,[],rfl,#[qB,Zd,l,m],T.cl_Row,T.na_Row_all_keys,#[sk,0],?_⟩;have J:#[25] a=U #[tz]:=by rw[Zd G,Zd I];exact i
 have r:#[25] p=U (.ins aw c #[un]):=Zb;have v:#[25] k=U #[tz]:=by rw[Zd l.symm];exact Zb
 have x:#[fh,o,H,p,#[25]]:=λb o h n=>by rw[Zd n,Zd (Zf h j)];exact h
 refine⟨_,rfl,a,d,rfl,SqL.of J,D,F,λf H3 g L t=>?_⟩;have M:H f=af:=by
  cases N:H f with
  | none=>rfl
  | some u =>
   by_cases e:f=p
   ·show#[eO,e,r,g]
   ·rw[x f u N e]at g;cases g
 have O:k≠f:=Zf v g;have y:p≠f:=Zf r g;refine⟨_,rfl,p,aw,c,_,rfl,t _ _ r,T.cl_Row,T.na_Row_fars,#[sk,1],_,rfl,p,aw,c,_,rfl,Zb,T.cl_Row,T.na_Row_gone,?_,?_⟩
 ·have h1:=VO "all_keys" (V.ref k) [];have h2:=VO "fars" (V.ref f) (ZA "all_keys" (V.ref k) []);have h3:#[uW]:=rfl;lia
 ·refine q k f _ j M O ⟨⟨c,Zb⟩,?_,?_⟩ λb o h n=>?_
  ·rw[Zd l.symm,Zd l.symm];exact t _ _ v
  ·rw[Zd y.symm,Zd y.symm];exact L
  ·rw[Zd n,Zd n];exact t _ _ (x b o h n)
theorem JW{K:#[7]}{a:ae}{xs:#[pO]}{k:Nat}{D:ae}{c:L2.St}{h:Hp}{g:TG}{j:TT}{l:TE}{Q:VK}(Pv:#[aQ])(h0:#[e6,c,h])
  (hl:#[nD])
  (hs:#[43])
  (hd:#[f5,c,xs.length]):WF #[pD] D k c h g j l Q:=by
 show#[88];by_cases q:i<xs.length
 ·show#[82]
 ·have e:#[sS]:=by lia
  show#[hH,f,c]
theorem Uz:∀x y:List Nat,x<y↔ZS x y<0
 | [],[]=>by unfold ZS;exact⟨λh=>absurd h #[4],λh=>absurd h #[2]⟩
 | [],_::_=>by unfold ZS;exact⟨λ_=>by lia,λ_=>List.nil_lt_cons _ _⟩
 | _::_,[]=>by unfold ZS;exact⟨λh=>absurd h (List.not_lt_nil _),λh=>absurd h #[2]⟩
 | a::r,b::s=>by
  have c:=Uz r s;unfold ZS;rw[QaQ];by_cases e:a=b
  ·rw[if_pos e,<- c];exact⟨λh=>h.elim (λz=>by lia) (λz=>z.2),λh=>.inr ⟨e,h⟩⟩
  ·rw[if_neg e];by_cases l:a<b
   ·rw[if_pos l];exact⟨λ_=>by lia,λ_=>.inl l⟩
   ·rw[if_neg l];exact⟨λh=>h.elim (λz=>absurd z l) (λz=>absurd z.1 e),λh=>absurd h #[2]⟩
theorem ZoK{H:Hp}{D:ae}{ys:#[pO]}(h:H D=U #[l6])(o:HO):∀a xs,H a=U #[dG]->(upd H D o) a=U #[dG]:=λa xs e=>by
 have nb:a≠D:=by intro z;show#[rZ,h,e]
 rw[Zd nb];exact e
noncomputable abbrev Hd:=Int->Option (List Nat)
def Btr(x:#[iA])(a:Int)(y:#[iA])(b:Int):Prop:=ZS x y<0\/#[vI]
def Win(hd:Hd)(N:#[w]):Option Int->Prop
 | none=>∀n∈N,hd n=af
 | some a=>a∈N/\∃x,hd a=U x/\∀b∈N,∀y,hd b=U y->b=a\/Btr x a y b
theorem Btr.asym{x y:#[iA]}{a b:Int}(h:Btr x a y b)(g:Btr y b x a):False:=by have e:=VQ x y;rcases h with h|⟨h,h2⟩<;>rcases g with g|⟨g,g2⟩<;>lia
theorem Btr.total{x y:#[iA]}{a b:Int}(h:a≠b):Btr x a y b\/Btr y b x a:=by have e:=VQ x y;unfold Btr;lia
theorem Btr.trans{x y z:#[iA]}{a b c:Int}(h:Btr x a y b)(g:Btr y b z c):Btr x a z c:=by
 have t1:=RG x y z;have t2:=RG z x y;have t3:=RG y z x;have e1:=VQ x y;have e2:=VQ y z;have e3:=VQ x z;unfold Btr at *
 lia
theorem Win.one{hd:Hd}{N:#[w]}{v w:#[cj]}(h:Win hd N v)(g:Win hd N w):v=w:=by
 cases v with
 | none =>
  cases w with
  | none=>rfl
  | some b=>obtain⟨d,y,c,_⟩:=g;rw[h b d]at c;cases c
 | some a =>
  show#[rQ,i,x,f,j,h];cases w with
  | none=>rw[g a i]at f;cases f
  | some b =>
   show#[rQ,d,y,c,k,g];rcases j b d y c with e|e
   ·rw[e]
   ·rcases k a i x f with e'|e'
    ·rw[e']
    ·exact(e.asym e').elim
theorem Win.nil(hd:Hd):Win hd [] af:=λn h=>by cases h
theorem Win.sing{hd:Hd}{n:Int}:Win hd [n] #[oK]:=by
 cases h:hd n with
 | none=>intro m a;rw[Qi.mp a];exact h
 | some x=>exact⟨by simp,x,h,λb c y hy=>.inl (Qi.mp c)⟩
theorem Win.both{hd:Hd}{A B:#[w]}{a b:Int}{x y:#[iA]}(ha:Win hd A (U a))(hb:Win hd B (U b))(hx:hd a=U x)(hy:hd b=U y)(h:Btr x a y b):Win hd (A++B) (U a):=by
 show#[rQ,a1,x',f,a2,ha];show#[rQ,b1,y',g,i,hb];show#[fe,hx,f,f];show#[fe,hy,g,g];refine#[xV,QN,hx,d];rcases Qj.mp hc with hc|hc
 ·exact a2 c hc z d
 ·rcases i c hc z d with e|e
  ·show#[hz,e,hy,d];exact .inr h
  ·exact .inr (h.trans e)
theorem Win.both'{hd:Hd}{A B:#[w]}{a b:Int}{x y:#[iA]}(ha:Win hd A (U a))(hb:Win hd B (U b))(hx:hd a=U x)(hy:hd b=U y)(h:Btr y b x a):Win hd (A++B) (U b):=by have:=Win.both hb ha hy hx h;obtain⟨d,z,e,f⟩:=this;exact⟨by rcases Qj.mp d with h|h<;>simp[h],z,e,λc g=>f c (by rcases Qj.mp g with h|h<;>simp[h])⟩
theorem Win.left{hd:Hd}{A B:#[w]}{w:#[cj]}(ha:Win hd A w)(hb:Win hd B af):Win hd (A++B) w:=by
 cases w with
 | none=>intro n d;rcases Qj.mp d with h|h;exact ha n h;exact hb n h
 | some a =>
  show#[rQ,a1,x,e,a2,ha];refine#[xV,QN,e,b];rcases Qj.mp hc with hc|hc
  ·exact a2 c hc z b
  ·rw[hb c hc]at b;cases b
theorem Win.right{hd:Hd}{A B:#[w]}{w:#[cj]}(ha:Win hd A af)(hb:Win hd B w):Win hd (A++B) w:=by
 cases w with
 | none=>intro n d;rcases Qj.mp d with h|h;exact ha n h;exact hb n h
 | some a =>
  show#[rQ,a1,x,e,a2,hb];refine#[xV,QC,e,b];rcases Qj.mp hc with hc|hc
  ·rw[ha c hc]at b;cases b
  ·exact a2 c hc z b
theorem Win.ex(hd:Hd):∀N:List Int,N.Nodup->∃w,Win hd N w
 | [],_=>⟨af,Win.nil hd⟩
 | n::N,d=>by
  obtain⟨f,g⟩:=Q5.mp d;obtain⟨w,hw⟩:=Win.ex hd N g;have a:Win hd [n] #[oK]:=Win.sing;cases h:hd n with
  | none=>rw[h]at a;exact⟨w,Win.right (A:=[n]) a hw⟩
  | some x =>
   rw[h]at a;cases w with
   | none=>exact⟨U n,Win.left (A:=[n]) a hw⟩
   | some b =>
    obtain⟨i,y,c,b2⟩:=id hw;have j:n≠b:=λe=>f (e ▸ i);rcases Btr.total (x:=x) (y:=y) j with e|e
    ·exact⟨U n,Win.both (A:=[n]) a hw h c e⟩
    ·exact⟨U b,Win.both' (A:=[n]) a hw h c e⟩
theorem Win.congr{hd c:Hd}{N:#[w]}(h:∀n∈N,c n=hd n){w:#[cj]}(hw:Win hd N w):Win c N w:=by
 cases w with
 | none=>intro n d;rw[h n d];exact hw n d
 | some a=>obtain⟨a1,x,f,a2⟩:=hw;exact⟨a1,x,by rw[h a a1];exact f,λb e y g=>a2 b e y #[r8,h,b,e,g]⟩
noncomputable def lo(N:#[w]):List Int:=N.take (mid N)
noncomputable def up(N:#[w]):List Int:=N.drop (mid N)
theorem XD(N:#[w]):lo N++up N=N:=List.take_append_drop _ _
theorem Wr{N:#[w]}(h:#[lx]):(lo N).length<N.length/\1<=(lo N).length:=by unfold lo mid;rw[Qy];lia
theorem V8{N:#[w]}(h:#[lx]):(up N).length<N.length/\1<=(up N).length:=by unfold up mid;rw[QT];lia
noncomputable def ZZ(N:#[w]):Int×Int:=(N.headD 0,N.getLastD 0)
abbrev StL:=List ((Int×Int)×Option #[w2])
noncomputable def stV:Option #[w2]->V
 | none=>.non
 | some t=>.ref t.1
noncomputable def kvS(s:StL):List (List Key×V):=s.map λe=>([.inl e.1.1,.inl e.1.2],stV e.2)
def AtS(H:Hp)(s:StL):Prop:=∀e∈s,∀t,e.2=U t->H t.1=U #[g8,t.2.1,t.2.2]
noncomputable def Z4(s:StL)(k:#[dW]):Option (Option #[w2]):=(s.find? λe=>decide (e.1=k)).map #[uQ]
noncomputable def Yf(s:StL)(k:#[dW])(v:#[ak]):StL:=if s.any #[kI] then s.map #[oB] else s++[(k,v)]
theorem AtS.mono{H b:Hp}{s:StL}(h:AtS H s)(k:∀a xs,H a=U #[dG]->b a=U #[dG]):AtS b s:=λe he t c=>k _ _ (h e he t c)
theorem N8{a b:#[dW]}(h:([.inl a.1,.inl a.2]:List Key)=[.inl b.1,.inl b.2]):a=b:=by obtain⟨a1,a2⟩:=a;obtain⟨b1,b2⟩:=b;injection h with f c;injection c with c _;have d:=Sum.inl.inj f;have e:=Sum.inl.inj c;simp only at d e;rw[d,e]
theorem JV(k:#[dW]):∀s:StL,Zt (kvS s) #[pn]=(Z4 s k).map stV
 | []=>rfl
 | e::s=>by
  have a:=JV k s;by_cases h:e.1=k
  ·unfold kvS Z4;rw[Qs,UR (by rw[h])];simp[List.find?_cons,h]
  ·unfold kvS at a ⊢;rw[Qs,UQ #[vw],a];unfold Z4;simp[List.find?_cons,h]
theorem Zq3(k:#[dW])(s:StL):((kvS s).any λa=>decide (a.1=(#[pn]:List Key)))=s.any λe=>decide (e.1=k):=by
 unfold kvS;rw[List.any_map];congr 1;funext e;show#[aZ];by_cases h:e.1=k
 ·rw[decide_eq_true h,decide_eq_true (by rw[h])]
 ·rw[decide_eq_false h,decide_eq_false #[vw]]
theorem RC(s:StL)(k:#[dW])(v:#[ak]):YT (kvS s) #[pn] (stV v)=kvS #[l2]:=by
 unfold YT Yf;rw[Zq3];split
 ·unfold kvS;rw[Qk,Qk];congr 1;funext e;show#[aZ];by_cases h:e.1=k
  ·rw[if_pos h,if_pos (by rw[h])]
  ·rw[if_neg h,if_neg #[vw]]
 ·unfold kvS;rw[Qd];rfl
theorem Zot(s:StL)(k:#[dW])(v:#[ak]):#[l2].length<=s.length+1:=by
 unfold Yf;split
 ·rw[Qa];lia
 ·rw[Qf];exact Qh _
theorem Wq(s:StL)(k j:#[dW])(v:#[ak]):Z4 #[l2] j=if j=k then U v else Z4 s j:=by
 unfold Yf;split
 ·rename_i h;induction s with
  | nil=>simp at h
  | cons e s f =>
   unfold Z4 at f ⊢;by_cases b:e.1=k
   ·by_cases a:j=k
    ·subst a;simp[List.find?_cons,b]
    ·have c:¬ k=j:=λz=>a z.symm;rw[Qs,if_pos b,QaH (by simp[b,c]),QaH (by simp[b,c]),if_neg a];by_cases d:s.any #[kI]=true
     ·have:=f d;rw[if_neg a]at this;exact this
     ·have:s.map #[oB]=s:=by
       rw[List.map_eq_iff];intro i;cases l:s[i]? with
       | none=>rfl
       | some x=>have g:¬ x.1=k:=λz=>d (QaF.mpr ⟨x,Qv l,by simpa using z⟩);simp[g]
      rw[this]
   ·have d:s.any #[kI]=true:=by simpa [b] using h
    rw[Qs,if_neg b];by_cases a:e.1=j
    ·have:¬ j=k:=λz=>b (a.trans z);rw[List.find?_cons_of_pos #[dr],List.find?_cons_of_pos #[dr],if_neg this]
    ·rw[QaH #[dr],QaH #[dr]];exact f d
 ·rename_i h;unfold Z4;rw[List.find?_append];by_cases a:j=k
  ·subst a;have:s.find? (λe=>decide (e.1=j))=af:=by rw[List.find?_eq_none];intro x g z;exact h (QaF.mpr ⟨x,g,z⟩)
   rw[this];simp
  ·have c:¬ k=j:=λz=>a z.symm;rw[if_neg a];simp[c]
theorem AtS.put{H:Hp}{s:StL}{k:#[dW]}{v:#[ak]}(h:AtS H s)(b:#[nC]):AtS H #[l2]:=by
 unfold Yf;split
 ·intro e he t a;show#[en,x,c,he];split at a
  ·exact b t a
  ·exact h x c t a
 ·intro e he t a;rcases Qj.mp he with he|he
  ·exact h e he t a
  ·rw[Qi.mp he]at a;exact b t a
theorem JU{s:StL}{k:#[dW]}{v:#[ak]}(h:Z4 s k=U v):(k,v)∈s:=by
 unfold Z4 at h;obtain⟨e,a,rfl⟩:=Qa9.mp h;have b:=List.find?_some a;have:e.1=k:=by simpa using b
 rw[<- this];exact Qav a
def ZuO(hd:Hd)(s:StL)(N:#[w]):Prop :=
 (∀a b x y,Win hd (lo N) (U a)->Win hd (up N) (U b)->hd a=U x->hd b=U y->∃t,Z4 s (ZZ N)=U (U (t,if ZS x y<0\/#[vI] then b else a,#[gS,x,y]))) /\
 ((Win hd (lo N) af\/Win hd (up N) af)->Z4 s (ZZ N)=af\/Z4 s (ZZ N)=U af)
def XA(hd:Hd)(s:StL):Nat->List Int->Prop
 | 0,_=>True
 | n+1,N=>2<=N.length->XA hd s n (lo N)/\XA hd s n (up N)/\ZuO hd s N
def Xe:Nat->List Int->Int×Int->Prop
 | 0,_,_=>False
 | n+1,N,k=>2<=N.length/\(Xe n (lo N) k\/Xe n (up N) k\/k=ZZ N)
abbrev YM(N:#[w]):Prop:=N.Pairwise #[oD]
theorem RB{N:#[w]}(h:YM N):YM (lo N):=h.sublist #[xb]
theorem RA{N:#[w]}(h:YM N):YM (up N):=h.sublist (List.drop_sublist _ _)
theorem Tg{N:#[w]}(h:YM N):N.Nodup:=h.imp λ{a b} m9 e=>by lia
theorem ZR{N:#[w]}(h:YM N){a b:Int}(ha:a∈lo N)(hb:b∈up N):a<b:=by
 have:YM (lo N++up N):=by rw[XD];exact h
 exact(List.pairwise_append.mp this).2.2 a ha b hb
theorem Uy{N:#[w]}(h:N≠[]):N.headD 0∈N:=by
 cases N with
 | nil=>exact #[xF,h]
 | cons a r=>simp
theorem Ux{N:#[w]}(h:N≠[]):N.getLastD 0∈N:=by rw[Qaw,QaZ h];exact List.getLast_mem h
theorem Xp{N:#[w]}(h:1<=N.length):N≠[]:=λz=>by rw[z]at h;simp at h
theorem N7{N:#[w]}(h:#[lx]):(ZZ N).2=(up N).getLastD 0:=by
 have a:=Xp (V8 h).2;show N.getLastD 0=_;rw[Qaw,Qaw]
 conv=>lhs;rw[<- XD N]
 rw[List.getLast?_append,QaZ a];rfl
theorem N6{N:#[w]}(h:#[lx]):(ZZ N).1=(lo N).headD 0:=by
 have b:=Xp (Wr h).2;show N.headD 0=_
 conv=>lhs;rw[<- XD N]
 cases c:lo N with
 | nil=>exact absurd c b
 | cons a r=>rfl
theorem Uw:∀ (n:Nat) (N:List Int) (k:Int×Int),Xe n N k->k.1∈N/\k.2∈N
 | 0,_,_,h=>h.elim
 | n+1,N,k,⟨h2,h⟩=>by
  rcases h with h|h|rfl
  ·have:=Uw n _ k h;rw[<- XD N];exact⟨QN _ this.1,QN _ this.2⟩
  ·have:=Uw n _ k h;rw[<- XD N];exact⟨QC _ this.1,QC _ this.2⟩
  ·have a:N≠[]:=Xp #[2];exact⟨Uy a,Ux a⟩
theorem N5{N:#[w]}(a:YM N)(h2:#[lx]){n:Nat}{k:#[dW]}(h:Xe n (lo N) k):k≠ZZ N/\∀m,¬ Xe m (up N) k:=by
 show#[ol]
 ·show#[xN,c,N7];have:=ZR a this.2 (Ux (Xp (V8 h2).2));lia
 ·have:=ZR a this.1 (Uw m _ k b).1;lia
theorem N4{N:#[w]}(a:YM N)(h2:#[lx]){n:Nat}{k:#[dW]}(h:Xe n (up N) k):k≠ZZ N/\∀m,¬ Xe m (lo N) k:=by
 show#[ol]
 ·show#[xN,c,N6];have:=ZR a (Uy (Xp (Wr h2).2)) this.1;lia
 ·have:=ZR a (Uw m _ k b).1 this.1;lia
theorem XA.congr{hd d:Hd}{s s':StL}:∀ (n:Nat) (N:List Int),(∀m∈N,d m=hd m)->(∀k,Xe n N k->Z4 s' k=Z4 s k)->XA hd s n N->XA d s' n N
 | 0,_,_,_,_=>True.intro
 | n+1,N,j,hk,h=>λh2=>by
  obtain⟨a,b,c1,c2⟩:=h h2;have f:#[rg,lo,d]:=λm c=>j m (by rw[<- XD N];exact QN _ c);have g:#[rg,up,d]:=λm c=>j m (by rw[<- XD N];exact QC _ c);have l:∀m∈lo N,hd m=d m:=λm c=>(f m c).symm;have e:∀m∈up N,hd m=d m:=λm c=>(g m c).symm;refine⟨XA.congr n _ f (λk i=>hk k ⟨h2,.inl i⟩) a,XA.congr n _ g (λk i=>hk k ⟨h2,.inr (.inl i)⟩) b,λa b x y o p q r=>?_,λhw=>?_⟩
  ·rw[hk _ ⟨h2,.inr #[m7]⟩];exact c1 a b x y (Win.congr l o) (Win.congr e p) #[r8,f,a,o.1,q] #[r8,g,b,p.1,r]
  ·rw[hk _ ⟨h2,.inr #[m7]⟩];refine c2 ?_;rcases hw with hw|hw
   ·exact .inl (Win.congr l hw)
   ·exact .inr (Win.congr e hw)
inductive YQ (hd:Hd):Nat->List Int->Int->Int->Prop
 | few {n:Nat} {N:List Int}:N.length<2->YQ hd n N 0 0
 | none {n:Nat} {N:List Int} {k l k' l':Int}:2<=N.length->YQ hd n (lo N) k l->YQ hd n (up N) k' l'->(Win hd (lo N) af\/Win hd (up N) af)->YQ hd (n+1) N (k+k') (l+l')
 | both {n:Nat} {N:List Int} {k l k' l':Int} {a b:Int} {x y:List Nat}:2<=N.length->YQ hd n (lo N) k l->YQ hd n (up N) k' l'->Win hd (lo N) (U a)->Win hd (up N) (U b)->hd a=U x->hd b=U y->YQ hd (n+1) N (k+k'+1) (l+l'+(lcp x y:Nat)+1)
theorem YQ.one{hd:Hd}:∀ {n m:Nat} {N:List Int} {k l k' g:Int},YQ hd n N k l->YQ hd m N k' g->k=k'/\l=g
 | _,_,_,_,_,_,_,.few h,p=>by
  cases p with
  | few _=>exact#[bM]
  | none h2 _ _ _=>lia
  | both h2 _ _ _ _ _ _=>lia
 | _,_,_,_,_,_,_,.none h2 a b hw,p=>by
  cases p with
  | few h=>lia
  | none _ c d _=>obtain⟨r,s⟩:=YQ.one a c;obtain⟨t,u⟩:=YQ.one b d;exact#[lr]
  | both _ c d e f i j =>
   rcases hw with hw|hw
   ·show#[ft,e]
   ·show#[ft,f]
 | _,_,_,_,_,_,_,.both h2 a b e f i j,p=>by
  cases p with
  | few h=>lia
  | none _ c d hw =>
   rcases hw with hw|hw
   ·show#[ft,e]
   ·show#[ft,f]
  | both _ c d v w o q=>obtain⟨r,s⟩:=YQ.one a c;obtain⟨t,u⟩:=YQ.one b d;have x:=Qn (e.one v);have y:=Qn (f.one w);subst x y;show#[fe,i,o,o];show#[fe,j,q,q];exact#[lr]
noncomputable def kk(e:al×Int):List Key:=[.inr e.1,.inl e.2]
noncomputable def oV:Option al->V
 | none=>.non
 | some s=>.str s
noncomputable def Yk:Option Int->V
 | none=>.non
 | some a=>.int a
noncomputable def kvH(E:#[J]):List #[xe]:=E.map λe=>(.inl e.1,oV e.2)
noncomputable def lk(E:#[J])(n:Int):Option al:=(E.find? λe=>decide (e.1=n)).bind #[uQ]
noncomputable def hdE(E:#[J]):Hd:=λn=>(lk E n).map cds
theorem Rz:∀ {E:List (Int×Option al)},#[i2].Nodup->∀ {e:Int×Option al},e∈E->lk E e.1=e.2
 | [],_,_,h=>by cases h
 | x::r,nd,e,h=>by
  rw[Qs,Q5]at nd;unfold lk;rw[QY];rcases QO.mp h with rfl|h
  ·show#[v6];rfl
  ·rw[decide_eq_false (λz:x.1=e.1=>nd.1 (by rw[z];exact Qg (f:=#[wx]) h))];exact Rz nd.2 h
theorem Zr6{E:#[J]}(h:#[i2].Nodup):((kvH E).map #[T]).Nodup:=by
 have e:(kvH E).map #[T]=#[i2].map #[iV]:=by unfold kvH;rw[Qk,Qk];rfl
 rw[e];exact #[tT]
theorem Uv{E:#[J]}(h:#[i2].Nodup){n:Int}(b:n∈E.map #[T]):Zt (kvH E) #[u5]=U (oV (lk E n)):=by obtain⟨e,a,rfl⟩:=Qq.mp b;rw[Rz h a];exact Sf (Zr6 h) (Qg (f:=λe:Int×Option al=>(#[i3],oV e.2)) a)
noncomputable def prs(E:#[J])(N:#[w]):List (al×Int):=N.filterMap λn=>(lk E n).map λs=>(s,n)
theorem Rx{E:#[J]}{N:#[w]}{s:al}{n:Int}:(s,n)∈prs E N↔n∈N/\lk E n=U s:=by
 unfold prs;rw[List.mem_filterMap];constructor
 ·rintro⟨m,a,e⟩;cases h:lk E m with
  | none=>rw[h]at e;cases e
  | some x=>rw[h]at e;injection e with e;injection e with b c;rw[<- c,<- b];exact⟨a,h⟩
 ·rintro⟨d,h⟩;exact⟨n,d,by rw[h];rfl⟩
theorem Zqk{x y:al}(h:cds x=cds y):x=y:=by obtain⟨⟨a⟩⟩:=x;obtain⟨⟨b⟩⟩:=y;have:a=b:=h;rw[this]
theorem Zro{s s':al}{a b:Int}(h:YB (kk (s',b)) (kk (s,a))=false):b=a\/Btr (cds s) a (cds s') b:=by
 unfold kk at h;rw[Pd]at h;by_cases e:(Sum.inr s':Key)=Sum.inr s
 ·rw[if_pos e,Pd]at h;have f:s'=s:=Sum.inr.inj e;by_cases c:(Sum.inl b:Key)=Sum.inl a
  ·exact .inl (Sum.inl.inj c)
  ·show#[xC,c,h];have d:¬ b<a:=of_decide_eq_false h;have g:b≠a:=λz=>c (by rw[z]);exact .inr (.inr ⟨by rw[f,JY],by lia⟩)
 ·show#[pi];have d:¬ cds s'<cds s:=of_decide_eq_false h;rw[Uz]at d;have g:=VQ (cds s') (cds s);have h3:ZS (cds s) (cds s')≠0:=λz=>e (by rw[Zqk (Oe _ _ z)]);show#[qT,#[2]]
theorem Zr0{E:#[J]}{N:#[w]}{s:al}{a:Int}(h:(s,a)∈prs E N)(hm:∀e∈prs E N,YB (kk e) (kk (s,a))=false):Win (hdE E) N (U a):=by
 obtain⟨f,g⟩:=Rx.mp h;refine⟨f,cds s,by unfold hdE;rw[g];rfl,λb i y c=>?_⟩;unfold hdE at c;cases d:lk E b with
 | none=>rw[d]at c;cases c
 | some j=>rw[d]at c;cases c;exact Zro (hm (j,b) (Rx.mpr ⟨i,d⟩))
theorem Zpq{E:#[J]}{N:#[w]}(h:prs E N=[]):Win (hdE E) N af:=λn a=>by
 unfold hdE;cases b:lk E n with
 | none=>rfl
 | some s=>have:=Rx.mpr ⟨a,b⟩;rw[h]at this;cases this
noncomputable def JT:Key->ar
 | .inl i=>.int i
 | .inr s=>.str s
noncomputable def tD(k:#[ov]):ar:=.tuple (k.map JT)
theorem N3{K:#[7]}{H:Hp}:∀ks:List Key,DVs K H #[oJ] (ks.map JT)
 | []=>.nil
 | .inl i::r=>.cons #[u4] (N3 r)
 | .inr s::r=>.cons (.str s) (N3 r)
theorem JS{K:#[7]}{H:Hp}:∀a:Wb,AtT H a->DVs K H (Vu a) (a.map λt=>tD t.2)
 | [],_=>.nil
 | t::r,h=>.cons (.tup (SqT.of (h t #[4])) (N3 t.2)) (JS r λx hx=>h x (QF _ hx))
theorem JR:∀L:List (al×Int),(∀e∈L,AZ e.1)->ar.canLayAll0 #[ng]=true/\ar.depthAll #[ng]<=1
 | [],_=>⟨rfl,by simp[ar.depthAll]⟩
 | e::r,h=>by obtain⟨a,b⟩:=JR r λx hx=>h x (QF _ hx);have c:tD (kk e)=.tuple [.str e.1,.int e.2]:=rfl;have d:=(h e #[4]).ok;refine⟨by simp[ar.canLayAll0,ar.canLay0,c,d,a],?_⟩;rw[Qs,c];simp only[ar.depthAll,ar.depth];lia
theorem JQ(L:#[hm,Int])(h:∀e∈L,AZ e.1):SeqAt.shaped (.list #[ng])=true:=by obtain⟨a,b⟩:=JR L h;simp[SeqAt.shaped,ar.canLay0,ar.depth,a];lia
structure Hds (H:Hp) (D:ae) (E:#[J]):Prop where
 at':H D=U (.dK (kvH E))
 nd:#[i2].Nodup
 ok:∀e∈E,∀s,e.2=U s->s.length<=1000/\AZ s
theorem Hds.lk{H:Hp}{D:ae}{E:#[J]}(h:Hds H D E){n:Int}{s:al}(e:lk E n=U s):s.length<=1000/\AZ s:=by
 unfold My.lk at e;cases a:E.find? λe=>decide (e.1=n) with
 | none=>rw[a]at e;cases e
 | some x=>rw[a]at e;exact h.ok x (Qav a) s e
theorem Hds.same{H a:Hp}{D:ae}{E:#[J]}(h:Hds H D E)(s:ZF H a):Hds a D E:=⟨s _ _ h.at',h.nd,h.ok⟩
def Rw(K:#[7]):Sp:=λvs H Q _=>X4 λ(D l:ae) (E:List (Int×Option al)) (N:List Int)=>vs=#[fJ,D,l]/\Hds H D E/\SqL K H l #[bR]/\N.length<=60/\(∀n∈N,n∈E.map #[T]) /\
 ∀ (v:Option Int) (a:Hp),Win (hdE E) N v->ZF H a->Q (Yk v) a
theorem ZnB(T:#[e]):Df P w K mg base 1 "_law_least" #[W] (Rw K):=by
 show#[ee,T.t_l_least.df,Kq,vs,M];obtain⟨D,l,d,N,rfl,S,hl,hZ,ff,q⟩:=h;refine⟨_,#[Ze,#[UT,2,Kq.nd,Vj,#[iL,K,‹1›],#[eY,3,Vj],(λ_ _ _ _=>(@UU _ _ _ #[Zm,UY,#[o2],#[ZU],#[37]])),(λ_ _ _ _=>#[ZV,#[Zc,#[o2],#[cw,3,Vj]]])],#[Zi,#[Zr,#[WV,#[fW,M,2],#[Zo,(ixT K),#[Zk,(ZuB K M),#[5],T.b.n_min,boot_min,#[b1]],#[Zj]],#[ZU]]]]],?_⟩;refine⟨_,rfl,l,rfl,⟨_,hl⟩,λB hB=>?_⟩;refine JW (K:=K) (a:=l) (xs:=N.map V.int) (λi zs W j=>(∃v:Option V,W=[U #[lF],U #[cq],af,v])/\(∃c:Wb,zs=Vu c/\AtT j c/\c.length<=i/\c.map #[uQ]=(prs d (N.take i)).map kk)/\i<=N.length/\j B=U #[l5]/\ZF H j) ?_ (λ_ _ _ _ h=>h.2.2.2.2.seq hl) ?_ ?_
 ·exact⟨⟨af,rfl⟩,⟨[],rfl,#[eP,t,h],Qh _,rfl⟩,Qu _,Zb,Zg hB _⟩
 ·rintro i x zs W j C ⟨⟨v,rfl⟩,⟨c,rfl,F,gt,k⟩,hi,m,G⟩;rw[Qp]at C;cases p:N[i]? with
  | none=>rw[p]at C;cases C
  | some n =>
  show#[ex,p,C,dG,N.length];have hv:=Uv S.nd (ff n (Qv p));have du:=G _ _ S.at';have O:ZM j D (kV #[u5]) (U (oV (lk d n))):=by rw[<- hv];exact ZM.k du
  refine⟨_,rfl,_,rfl,D,_,rfl,O,rfl,_,rfl,?_⟩;cases R:lk d n with
  | none=>rw[R]at O;refine YY ⟨⟨_,rfl⟩,⟨c,rfl,F,by lia,?_⟩,dG,m,G⟩;rw[k,QL,p];unfold prs;rw[QaO];simp[R]
  | some z =>
   rw[R]at O;refine XJ ⟨_,rfl,_,rfl,D,_,rfl,O,_,rfl,#[L],λt sj=>?_⟩;have X:=Zg sj (.tup [.str z,.int n]);have I:=X _ _ m;have FS:B≠t:=Zf m sj;refine⟨I,(by unfold Vu;rw[Qa];exact Zn #[2]),#[K],⟨c++[(t,kk (z,n))],by unfold Vu;rw[Qd];rfl,λy hy=>?_,by rw[Qf,Qz];lia,?_⟩,dG,Zb,λb o hb=>?_⟩
   ·rcases Qj.mp hy with hy|hy
    ·exact ZoK I _ _ _ (X _ _ (F y hy))
    ·rw[Qi.mp hy,Zd FS.symm];exact Zb
   ·rw[Qd,k,QL,p];unfold prs;rw[QaO,Qd];simp[R]
   ·rw[Zd (Zf hb hB)];exact X _ _ (G b o hb)
 rintro zs W j ⟨⟨v,rfl⟩,⟨c,rfl,F,gt,k⟩,_,m,G⟩;rw[Qa,Qx #[jJ]]at k;have FT:∀e∈prs d N,AZ e.1:=λe J=>(S.lk (Rx.mp (show (e.1,e.2)∈prs d N from J)).2).2;have FU:(c.map λt=>tD t.2)=(prs d N).map λe=>tD (kk e):=by have:=congrArg (List.map tD) k;show#[fz,Qk,Qk]
 show#[fP,#[15],Y,lU];have L:=Zg lU #[br];have FW:DVs K #[xZ,j,Y] (Vu c) #[sJ]:=by rw[<- FU];exact JS c (λt g=>L _ _ (F t g))
 refine⟨.list #[sJ],.list [],.lst #[fV,L,m] FW,.lst #[jT] .nil,JQ _ FT,JQ [] #[eP,e,h],_,rfl,?_⟩;have I:=L _ _ m;have Z:AtT #[xZ,j,Y] c:=λt g=>L _ _ (F t g);have gN:=G.trans L;generalize upd j Y (.lst [])=H3 at I Z gN ⊢;cases hp:prs d N with
 | nil=>rw[show (if true=true then !ar.eqv #[lq] #[jK] else ar.eqv #[lq] #[jK])=false by ac_rfl];exact YY (q af H3 (Zpq hp) gN)
 | cons e0 er =>
  rw[show (if true=true then !ar.eqv #[nW] #[jK] else ar.eqv #[nW] #[jK])=true by simp[ar.eqv,ar.eqvAll]];have bR:c≠[]:=λz=>by rw[z,hp]at k;cases k
  have su:∀t∈c,∃e∈prs d N,t.2=kk e:=λt g=>by have:=Qg (f:=λt:ae×List Key=>t.2) g;rw[k]at this;obtain⟨e,J,r⟩:=Qq.mp this;exact⟨e,J,r.symm⟩
  refine XJ ⟨_,rfl,B,c,[false,true],rfl,SqL.of I,Z,bR,λt g=>?_,λt g rQ=>?_⟩
  ·obtain⟨e,_,r⟩:=su t g;rw[r];rfl
  ·obtain⟨e,J,r⟩:=su t g;have vi:=Z t g;rw[r]at vi;refine⟨t.1,_,_,_,rfl,rfl,SqT.of vi,(show atI ((kk e).map kV) #[fY,1]=U (.int e.2) from Yo rfl),?_⟩;refine q (U e.2) H3 (Zr0 (s:=e.1) J λu hu=>?_) gN;have:kk u∈c.map #[uQ]:=by rw[k];exact Qg hu
   obtain⟨t',eX,e3⟩:=Qq.mp this;have:=rQ t' eX;show#[fz,e3,r]
theorem N2(N:#[w]):XH N=lo N:=rfl
theorem N1(N:#[w]):Ws N=up N:=rfl
theorem Rv{E:#[J]}{N:#[w]}{a:Int}(h:Win (hdE E) N (U a)):a∈N/\∃z,lk E a=U z/\hdE E a=U #[wZ]:=by
 obtain⟨d,x,b,_⟩:=h;refine⟨d,?_⟩;cases c:lk E a with
 | none=>unfold hdE at b;show#[fe,c,b,b]
 | some z=>exact⟨z,rfl,by unfold hdE;rw[c];rfl⟩
def JP(K:#[7])(n:Nat):Sp:=λvs H Q _=>X4 λ(D l:ae) (E:List (Int×Option al)) (N:List Int)=>vs=#[fJ,D,l]/\Hds H D E/\SqL K H l #[bR]/\N.length<=60/\0<n/\N.length<=2 ^ (n-1)/\(∀m∈N,m∈E.map #[T]) /\
 ∀ (t:ae) (k q:Int) (a:Hp),YQ (hdE E) n N k q->H t=af->a t=U #[g8,k,q]->ZF H a->Q #[jz] a
theorem JO(T:#[e])(cU:#[aW])(L:#[dD])(cC:#[a0]) :
  ∀n:Nat,Df P w K mg base (n+1) "_law_first_play" #[W] (JP K n)
 | 0=>by
  show#[oj]
  ·obtain⟨D,l,E,N,rfl,_⟩:=h;rfl
  obtain⟨D,l,E,N,rfl,_,_,_,z,_⟩:=h;exact absurd z #[2]
 | n+1=>by
  have bY:=JO T cU L cC n;show#[oj]
  ·obtain⟨D,l,E,N,rfl,_⟩:=h;rfl
  obtain⟨D,l,g,N,rfl,j,hl,hZ,_,e7,ff,q⟩:=h;rw[Qal]at e7;refine⟨_,#[Ze,#[ZN,#[h6,Xc,#[aF]],#[Zi,#[Zr,#[ZV,#[Zc,#[Zj],#[Zj]]]]],#[Zy]],#[Ze,#[Z2,#[rR,cU,i],(@gL _ K _ _ _ 2 _ #[eg,2,UI.nd,3] #[5] #[5] #[5] #[5])],#[Ze,#[V0,4,5,UI.nd,#[Zc,#[et,bY,i,0,2],#[et,bY,i,0,3]]],#[Ze,#[V0,6,7,UI.nd,#[Zc,#[et,L,i,0,2],#[et,L,i,0,3]]],#[Ze,#[ZN,(@PW.pt _ _ _ #[Xd,#[gz,6],#[WG,#[gz,7]]]),#[Zi,#[Zr,#[ZV,#[Zc,#[59],#[59]]]]],#[Zy]],#[Zi,#[Zr,#[ZV,#[Zc,#[ZH,Z9,#[59],#[Zj]],#[ZH,Z9,#[ZH,Z9,#[59],#[Zx,cC,i,#[Zc,#[f9,i,0,6],#[f9,i,0,7]],#[5]]],#[Zj]]]]]]]]]]],?_⟩;have nh:#[iO]:=by rw[Qa]
  refine⟨_,rfl,l,_,rfl,.inl hl,_,_,rfl,rfl,_,rfl,Y1 #[aM] #[aM]⟩
  ·have aX:N.length<2:=by have:=#[89];rw[nh]at this;lia
   exact⟨#[L],λt c=>q t 0 0 _ (.few aX) c Zb (Zg c _)⟩
  have v:#[lx]:=by have:¬ ((N.length:Int)<2):=λz=>d (decide_eq_true #[ei,nh,z]);lia
  have jI:1<=n:=by
   cases n with
   | zero=>simp at e7;lia
   | succ m=>lia
  have Bk:#[s6]:=by obtain⟨m,rfl⟩:∃m,n=m+1:=⟨n-1,by lia⟩;rw[Qbb,Qal];lia
  have M:#[fT,lo]:=by unfold lo mid;rw[Qy];lia
  have O:#[fT,up]:=by unfold up mid;rw[QT];lia
  have R:∀m∈lo N,m∈g.map #[T]:=λm S=>ff m (QU S);have W:∀m∈up N,m∈g.map #[T]:=λm S=>ff m (Qae S);refine⟨_,rfl,l,N,rfl,hl,by lia,λt f r H2 c hf mi FX eR X Y s2 FY FZ=>?_⟩;rw[N2]at X;rw[N1]at Y;refine⟨t,_,rfl,SqL.of eR,rfl,_,_,rfl,_,_,rfl,rfl,_,rfl,_,rfl,D,f,g,lo N,rfl,j.same s2,SqL.of X,M.2,jI,M.1,R,λk k1 B H3 p1 qD h1 Z=>?_⟩;have gN:=s2.trans Z;refine⟨_,rfl,_,rfl,D,r,g,up N,rfl,j.same gN,SqL.of (Z _ _ Y),O.2,jI,O.1,W,λo k2 C H4 p2 ht2' h2 s4=>⟨_,_,rfl,?_⟩⟩;have sv:=gN.trans s4;have Bl:=Z.trans s4;refine⟨_,rfl,_,rfl,D,f,g,lo N,rfl,j.same sv,SqL.of (Bl _ _ X),M.2,R,λF H5 w1 G=>?_⟩;have sx:=sv.trans G;have sy:=Bl.trans G;refine⟨_,rfl,_,rfl,D,r,g,up N,rfl,j.same sx,SqL.of (sy _ _ Y),O.2,W,λI J w2 s6=>⟨_,_,rfl,?_⟩⟩;have x:=sx.trans s6;have p:=s6 _ _ #[rf,G,s4,h1];have u:=s6 _ _ (G _ _ h2);have y:(Win (hdE g) (lo N) af\/Win (hdE g) (up N) af)->∀t H',J t=af->H'=upd J t (.tup [.int (k1+k2),.int (B+C)])->Q #[jz] H':=λhw t H' c e=>by subst e;exact q t _ _ _ (.none v p1 p2 hw) (x.free c) Zb (x.trans (Zg c _))
  show#[gq,a10,k1,B,0,k1];show#[gq,a11,k1,B,1,B];show#[gq,a20,k2,C,0,k2];show#[gq,a21,k2,C,1,C];cases F with
  | none=>refine#[50];refine⟨_,rfl,k,_,_,_,rfl,rfl,SqT.of p,a10,_,rfl,o,_,_,_,rfl,rfl,SqT.of u,a20,_,_,rfl,rfl,_,rfl,k,_,_,_,rfl,rfl,SqT.of p,a11,_,rfl,o,_,_,_,rfl,rfl,SqT.of u,a21,_,_,rfl,rfl,#[L],λt c=>y (.inl w1) t _ c rfl⟩
  | some a =>
  show#[35];cases I with
  | none=>refine#[50];refine⟨_,rfl,k,_,_,_,rfl,rfl,SqT.of p,a10,_,rfl,o,_,_,_,rfl,rfl,SqT.of u,a20,_,_,rfl,rfl,_,rfl,k,_,_,_,rfl,rfl,SqT.of p,a11,_,rfl,o,_,_,_,rfl,rfl,SqT.of u,a21,_,_,rfl,rfl,#[L],λt c=>y (.inr w2) t _ c rfl⟩
  | some b =>
  show#[35];obtain⟨ma,za,ea,ga⟩:=Rv w1;obtain⟨mb,zb,eb,gb⟩:=Rv w2;have lc:=j.same x;have F:=Uv j.nd (R a ma);have I:=Uv j.nd (W b mb);rw[ea]at F;rw[eb]at I;have da:ZM J D (kV (.inl a)) (U (.str za)):=by rw[show U (V.str za)=Zt (kvH g) (.inl a) from F.symm];exact ZM.k lc.at'
  have db:ZM J D (kV (.inl b)) (U (.str zb)):=by rw[show U (V.str zb)=Zt (kvH g) (.inl b) from I.symm];exact ZM.k lc.at'
  refine⟨_,rfl,k,_,_,_,rfl,rfl,SqT.of p,a10,_,rfl,o,_,_,_,rfl,rfl,SqT.of u,a20,_,_,rfl,rfl,_,_,rfl,rfl,_,rfl,k,_,_,_,rfl,rfl,SqT.of p,a11,_,rfl,o,_,_,_,rfl,rfl,SqT.of u,a21,_,_,rfl,rfl,_,rfl,_,rfl,D,_,rfl,da,_,rfl,_,rfl,D,_,rfl,db,za,zb,rfl,(j.lk ea).1,(j.lk eb).1,_,_,rfl,rfl,_,_,rfl,rfl,#[L],λt c=>?_⟩;exact q t _ _ _ (.both v p1 p2 w1 w2 ga gb) (x.free c) Zb (x.trans (Zg c _))
noncomputable abbrev ZE:=Int×ae×List al×Nat
noncomputable def kvR(L:#[41]):List #[xe]:=L.map λe=>(.inl e.1,.ref e.2.1)
noncomputable def kvG(L:#[41]):List #[xe]:=L.map λe=>(.inl e.1,.int #[dc])
noncomputable def Y3(ra ga:ae)(nb li lo:Int):List #[xe]:=[(.inr "rows",.ref ra),(.inr "gone",.ref ga),#[xl],(.inr "likenings",.int li),(.inr "looks",.int lo)]
theorem XU(ra ga:ae)(nb li lo:Int):Zt #[a2] (.inr "rows")=U (.ref ra):=by simp[Zt,Y3]
theorem Zus:¬ (#[de] = "gone"):=by ac_rfl
theorem JN:¬ (#[de] = "number"):=by ac_rfl
theorem Zut:¬ #[g0,"gone","number"]:=by ac_rfl
theorem JM:¬ (#[de] = "likenings"):=by ac_rfl
theorem JL:¬ #[g0,"gone","likenings"]:=by ac_rfl
theorem JK:¬ #[g0,"number","likenings"]:=by ac_rfl
theorem JJ:¬ (#[de] = "looks"):=by ac_rfl
theorem JI:¬ #[g0,"gone","looks"]:=by ac_rfl
theorem JH:¬ #[g0,"number","looks"]:=by ac_rfl
theorem N0:¬ #[g0,"likenings","looks"]:=by ac_rfl
theorem Wp{k k':Key}{v:V}{r:#[39]}(h:¬ k=k'):Zt ((k,v)::r) k'=Zt r k':=UQ h
theorem Ru{k:Key}{v:V}{r:#[39]}:Zt ((k,v)::r) k=U v:=UR rfl
theorem V7(ra ga:ae)(nb li lo:Int):Zt #[a2] (.inr "gone")=U (.ref ga):=by unfold Y3;rw[Wp #[hP,Zus],Ru]
theorem V6(ra ga:ae)(nb li lo:Int):Zt #[a2] (.inr "number")=U (.int nb):=by unfold Y3;rw[Wp #[hP,JN],Wp #[hP,Zut],Ru]
theorem Rt(ra ga:ae)(nb li lo:Int):Zt #[a2] (.inr "likenings")=U (.int li):=by unfold Y3;rw[Wp #[hP,JM],Wp #[hP,JL],Wp #[hP,JK],Ru]
theorem NZ(ra ga:ae)(nb li lo:Int):Zt #[a2] (.inr "looks")=U (.int lo):=by unfold Y3;rw[Wp #[hP,JJ],Wp #[hP,JI],Wp #[hP,JH],Wp #[hP,N0],Ru]
structure Own (H:Hp) (o ra ga:ae) (L:#[41]) (nb li lo:Int):Prop where
 at':H o=U (.dK #[a2])
 rows:H ra=U #[l9]
 gone:H ga=U (.dK (kvG L))
 nd:#[a4].Nodup
 few:L.length<=60
 lst:∀e∈L,H e.2.1=U #[eu,e.2.2.1.map]/\e.2.2.1.length<=100/\e.2.2.2<=e.2.2.1.length/\∀s∈e.2.2.1,s.length<=1000/\AZ s
theorem Own.same{H c:Hp}{o ra ga:ae}{L:#[41]}{nb li lo:Int}(h:#[27])(s:ZF H c):Own c o ra ga L nb li lo :=
 ⟨s _ _ h.at',s _ _ h.rows,s _ _ h.gone,h.nd,h.few,λe d=>let ⟨a,b⟩:=h.lst e d;⟨s _ _ a,b⟩⟩
theorem Rs(L:#[41]):(kvR L).map #[T]=#[a4].map #[iV]:=by unfold kvR;rw[Qk,Qk];rfl
theorem ZoP(L:#[41]):(kvG L).map #[T]=#[a4].map #[iV]:=by unfold kvG;rw[Qk,Qk];rfl
theorem NY{ns:#[w]}(h:ns.Nodup):(ns.map #[iV]).Nodup:=#[tT]
theorem U9{L:#[41]}(nd:#[a4].Nodup){e:ZE}(he:e∈L):Zt (kvR L) #[pU]=U (.ref e.2.1):=Sf #[eR,Rs,NY,nd] (Qg (f:=#[t1]) he)
theorem Uu{L:#[41]}(nd:#[a4].Nodup){e:ZE}(he:e∈L):Zt (kvG L) #[pU]=U (.int #[dc]):=Sf #[eR,ZoP,NY,nd] (Qg (f:=#[t2]) he)
theorem ZM.k'{H:Hp}{a:ae}{kvs:#[39]}{k:Key}{r:Option V}(e:#[s4])(h:Zt kvs k=r):ZM H a (kV k) r:=by rw[<- h];exact ZM.k e
theorem ZqB(ss:#[Q])(g:Nat)(h:g<=ss.length):atI (ss.map V.str++[V.non]) (g:Int)=U (oV ss[g]?):=by
 refine Yo ?_;by_cases a:g<ss.length
 ·rw[QM #[ei,Qa,a],Qp,Qb a];rfl
 ·have e:g=ss.length:=by lia
  rw[QE #[h5,Qa],Qa,e,QaA,QP #[jJ]];rfl
structure Rr (L:#[41]) (E:#[J]):Prop where
 per:#[i2].Perm #[a4]
 up:#[i2].Pairwise #[oD]
 hd:∀e∈L,#[d5]∈E
def Tf:Sp:=λvs H Q _=>X7 λ(o ra ga:ae) (L:List ZE) (nb li lo:Int)=>vs=[.ref o]/\Own H o ra ga L nb li lo /\
 ∀ (D:ae) (E:List (Int×Option al)) (a:Hp),H D=af->Hds a D E->Rr L E->ZF H a->Q #[lF] a
theorem Zne(T:#[e]):Df P w K mg base 1 "_law_heads" #[36] Tf:=by
 show#[ee,T.t_l_heads.df,Ot,vs,u];obtain⟨o,O,ga,L,nb,li,lo,rfl,m,q⟩:=h;refine⟨_,#[Ze,#[Zw,1,Ot.nd,#[3],(@Sj _ _)],#[Ze,#[XS,bf.never,#[iL,K,#[Zk,UO,#[5],T.b.n_sorted,boot_sorted,#[Zc,#[eq,u,0]]]],#[ZD,2,Ot.nd,#[3]],#[Zi,#[Z2,#[Zo,#[ly],#[ZH,Xk,#[qr],#[ZJ,#[Zc,#[ZU]]]],#[qr]],#[Yq,‹1›,‹2›,(XZ u)]]]],#[fb,1]]],?_⟩;refine λD R=>?_;show#[fL,S,R,W,H,D];show#[rT,H,D,H1,S,W];have ci:=m.same S;have eK:=m.few;refine⟨_,rfl,o,_,rfl,ZM.k' (k:=#[bQ]) ci.at' #[nQ],O,_,L.map #[T],rfl,ci.rows,Rs L,by rw[Qa];lia,λl c X B cx=>?_⟩;have s2:=S.trans (Zg X #[aD]);show#[ew,Y,H1,l,#[aD]];have du:=Zg X #[aD] _ _ W;have F0:D≠l:=Zf W X;generalize upd H1 l (.lst (c.map V.int))=H2 at s2 Y du ⊢;have Z:c.Nodup:=B.nodup_iff.mpr m.nd;have gK:c.length=L.length:=by rw[B.length_eq,Qa]
 show#[ie,l,Y];refine SE (K:=K) (a:=l) (xs:=c.map V.int) (λi G g=>X2 λ(E:List (Int×Option al)) (v2:Option V)=>G=[U #[k8],U #[lF],v2]/\g D=U (.dK (kvH E))/\E.map #[T]=c.take i/\(∀e∈L,e.1∈c.take i->#[d5]∈E)/\(∀x∈E,∃e∈L,x=#[d5])/\#[q9,x,H,g]/\g l=U #[aD]) ⟨[],_,rfl,du,rfl,(λe _ h=>by simp at h),#[eP,x,h],s2,Y⟩ (λi G g _ hq=>by obtain⟨_,_,_,_,_,_,_,_,h⟩:=hq;exact SqL.of h) ?_ ?_
 ·rintro i x G g hx ⟨r,v2,rfl,gM,p,I,yE,J,fZ⟩;rw[Qp]at hx;cases t:c[i]? with
  | none=>rw[t]at hx;cases hx
  | some n =>
  show#[ex,t,hx,dG,c.length];obtain⟨e,d,rfl⟩:=Qq.mp (B.mem_iff.mp (Qv t));have M:=m.same J;obtain⟨la,gj,lg,jh⟩:=M.lst e d;refine⟨_,rfl,o,_,rfl,ZM.k' (k:=#[bQ]) M.at' #[nQ],_,rfl,O,_,rfl,ZM.k' (k:=#[mE]) M.rows (U9 m.nd d),#[bx],λc1 sE=>?_⟩;have s4:=Zg sE (.lst [.non]);refine⟨e.2.1,c1,_,_,rfl,rfl,s4 _ _ la,Zb,#[uk],λc2 g9=>?_⟩;have C:=s4.trans (Zg g9 #[jx]);have wX:(upd (upd g c1 (.lst [.non])) c2 #[jx]) c2=U #[jx]:=Zb;generalize upd (upd g c1 (.lst [.non])) c2 (.lst (e.2.2.1.map V.str++[.non]))=H5 at C wX ⊢;show#[rH,ji,C,yF,gM];refine⟨_,rfl,o,_,rfl,ZM.k' (k:=#[kH]) ji.at' (V7 ..),_,rfl,ga,_,rfl,ZM.k' (k:=#[mE]) ji.gone (Uu m.nd d),c2,_,_,_,rfl,rfl,SqL.of wX,ZqB _ _ lg,_,rfl,_,rfl,D,_,rfl,Yz.k (k:=#[mE]) yF ?_,?_⟩
  ·have:=#[eZ,p];rw[Qa,Qy]at this;unfold kvH;show#[c2]
  have yG:Zt (kvH r) #[pU]=af:=by
   cases hv:Zt (kvH r) (.inl e.1) with
   | none=>rfl
   | some v =>
    obtain⟨y,hy,z⟩:=Qq.mp (VW hv);injection z with z _;have N:e.1∈c.take i:=by rw[<- p,<- Sum.inl.inj z];exact Qg (f:=#[wx]) hy
    obtain⟨j,hj⟩:=Qak.mp N;have lY:=(Qe.mp hj).1;rw[Qy]at lY;rw[List.getElem?_take_of_lt #[2]]at hj;have:=(List.getElem?_inj #[2] Z).mp (hj.trans t.symm);lia
  rw[VY _ yG];have F1:kvH r++[(#[i3],oV e.2.2.1[e.2.2.2]?)]=kvH (r++[#[d5]]):=by unfold kvH;rw[Qd];rfl
  rw[F1];refine⟨r++[#[d5]],_,rfl,Zb,?_,λe' cA hm=>?_,λx hx=>?_,λb x F=>?_,?_⟩
  ·rw[Qd,p,QL,t];rfl
  ·rw[QL,t]at hm;rcases Qj.mp hm with hm|hm
   ·exact QN _ (I e' cA hm)
   ·have N:e'.1=e.1:=by simpa using hm
    have h2:e'=e:=by
     obtain⟨a,ha⟩:=Qak.mp d;obtain⟨b,F⟩:=Qak.mp cA;have e1:#[a4][a]? = U e.1:=by rw[Qp,ha];rfl
     have e2:#[a4][b]? = U e.1:=by rw[Qp,F,<- N];rfl
     have:=(List.getElem?_inj (by exact(Qe.mp e1).1) m.nd).mp (e1.trans e2.symm);rw[this,F]at ha;exact Qn ha
    rw[h2];exact QC _ #[4]
  ·rcases Qj.mp hx with hx|hx
   ·exact yE x hx
   ·exact⟨e,d,by simpa using hx⟩
  ·rw[Zd (Zf F R)];exact C _ _ (J b x F)
  ·rw[Zd F0.symm];exact C _ _ fZ
 ·rintro G g ⟨r,v2,rfl,gM,p,I,yE,J,fZ⟩;rw[Qa,Qx #[jJ]]at p I;refine⟨_,rfl,q D r g R ⟨gM,by rw[p];exact Z,λx hx s hs=>?_⟩ ⟨by rw[p];exact B,?_,λe d=>I e d (B.mem_iff.mpr (Qg d))⟩ J⟩
  ·obtain⟨e,d,rfl⟩:=yE x hx;exact(m.lst e d).2.2.2 s (Qv hs)
  ·rw[p];exact List.Pairwise.imp₂ (λa b N h2=>by lia) cx Z
noncomputable def hdL(L:#[41]):Hd:=λn=>((L.find? λe=>decide (e.1=n)).bind λe=>e.2.2.1[e.2.2.2]?).map cds
theorem Rq:∀ {L:List ZE},#[a4].Nodup->∀ {e:ZE},e∈L->hdL L e.1=(e.2.2.1[e.2.2.2]?).map cds
 | [],_,_,h=>by cases h
 | x::r,nd,e,h=>by
  rw[Qs,Q5]at nd;unfold hdL;rw[QY];rcases QO.mp h with rfl|h
  ·show#[v6];rfl
  ·rw[decide_eq_false (λz:x.1=e.1=>nd.1 (by rw[z];exact Qg (f:=λx:ZE=>x.1) h))];exact Rq nd.2 h
theorem Rr.same{L:#[41]}{E:#[J]}(h:Rr L E)(nd:#[a4].Nodup):∀n∈L.map (·.1),hdL L n=hdE E n:=λn b=>by obtain⟨e,a,rfl⟩:=Qq.mp b;rw[Rq nd a];unfold hdE;rw[Rz (h.per.nodup_iff.mpr nd) (h.hd e a)]
theorem Win.perm{hd:Hd}{N M:#[w]}{v:#[cj]}(h:Win hd N v)(p:N.Perm M):Win hd M v:=by
 cases v with
 | none=>exact λn c=>h n (p.mem_iff.mpr c)
 | some a=>obtain⟨d,x,e,f⟩:=h;exact⟨p.mem_iff.mp d,x,e,λb g=>f b (p.mem_iff.mpr g)⟩
theorem YQ.congr{hd c:Hd}:∀ {n:Nat} {N:List Int} {k q:Int},YQ hd n N k q->(∀m∈N,c m=hd m)->YQ c n N k q
 | _,_,_,_,.few h,_=>.few h
 | _,N,_,_,.none h2 a b hw,h=>by have h1:#[rg,lo,c]:=#[sl,QU];have d:#[rg,up,c]:=#[sl,Qae];exact .none h2 (a.congr h1) (b.congr d) (hw.imp (λw=>w.congr h1) (λw=>w.congr d))
 | _,N,_,_,.both h2 a b e f g i,h=>by have h1:#[rg,lo,c]:=#[sl,QU];have d:#[rg,up,c]:=#[sl,Qae];exact .both h2 (a.congr h1) (b.congr d) (e.congr h1) (f.congr d) ((h1 _ e.1).trans g) ((d _ f.1).trans i)
theorem Te{A B:#[w]}(p:A.Perm B)(ha:A.Pairwise #[oD])(hb:B.Pairwise #[oD]):A=B:=List.Perm.eq_of_pairwise (λa b _ _ h1 h2=>by lia) ha hb p
theorem Rp{A:#[w]}(h:A.Pairwise (·<=·))(nd:A.Nodup):A.Pairwise #[oD]:=List.Pairwise.imp₂ (λa b h1 h2=>by lia) h nd
def U8(L:#[41])(H:Hp)(x:V):Prop:=(x=.non/\Win (hdL L) #[a4] af)\/X3 λ(t:ae) (e:ZE) (z:al)=>x=.ref t/\e∈L/\e.2.2.1[e.2.2.2]? = U z/\H t=U #[jn]/\Win (hdL L) #[a4] (U e.1)
theorem NX(E:#[J]):(kvH E).map #[T]=#[i2].map #[iV]:=by unfold kvH;rw[Qk,Qk];rfl
def NW:Sp:=λvs H Q _=>X7 λ(o ra ga:ae) (L:List ZE) (nb li lo:Int)=>vs=[.ref o]/\Own H o ra ga L nb li lo/\∀ (x:V) (a:Hp),U8 L a x->ZF H a->Q x a
theorem ZlI(T:#[e])(R:#[bm])(S:#[dD]):Df P w K mg base 2 "_law_coming" #[36] NW:=by
 show#[ee,T.t_l_coming.df,Oq,W,g];obtain⟨o,G,u,L,nb,I,lo,rfl,b,q⟩:=h;refine⟨_,#[Ze,#[Zw,1,Oq.nd,#[3],#[gr,R,g,0]],#[Ze,#[Zw,2,Oq.nd,#[3],#[Zx,S,g,#[kf],#[5]]],#[Zi,#[Zr,#[WV,#[gz,2],#[ZU],#[ZV,#[Zc,‹2›,#[Zo,(ixG g),#[eq,g,0],‹2›],#[f9,g,1,2]]]]]]]],_,rfl,o,G,u,L,nb,I,lo,rfl,b,λD i J hD j c X=>?_⟩;have Bm:i.length=L.length:=by have:=c.per.length_eq;show#[fz,Qa,Qa]
 have eK:=b.few;refine⟨_,rfl,_,rfl,D,_,i.map #[T],rfl,j.at',NX i,by rw[Qa];lia,λl d Y p cx=>?_⟩;have r:=Zg Y #[ty];have M:(upd J l #[ty]) l=U #[ty]:=Zb;generalize upd J l (.lst (d.map V.int))=H2 at r M ⊢;have Z:=X.trans r;have gK:d.length<=60:=by rw[p.length_eq,Qa];lia
 refine⟨D,l,i,d,rfl,j.same r,SqL.of M,gK,λn hn=>p.mem_iff.mp hn,λv H3 hw N=>?_⟩;have y:=Z.trans N;have Bo:=(j.same r).same N;have B:Win (hdL L) #[a4] v:=#[vB].congr (c.same b.nd);cases v with
 | none=>exact⟨_,rfl,rfl,_,rfl,YE rfl (q _ H3 (.inl ⟨rfl,B⟩) y)⟩
 | some a =>
  show#[qS,e,m,ea,Qq.mp,B.1];have rq:e.1=a:=ea;subst rq;obtain⟨_,x,C,_⟩:=B;rw[Rq b.nd m]at C;cases F:e.2.2.1[e.2.2.2]? with
  | none=>rw[F]at C;cases C
  | some z =>
  have hv:Zt (kvH i) #[pU]=U #[xi]:=by rw[Uv j.nd (c.per.mem_iff.mpr (Qg m)),Rz j.nd (c.hd e m),F];rfl
  have O:=b.same y;refine⟨_,rfl,rfl,_,rfl,YN #[t] ⟨_,rfl,_,rfl,o,_,rfl,ZM.k' (k:=#[kH]) O.at' (V7 ..),_,rfl,u,_,rfl,ZM.k' (k:=#[mE]) O.gone (Uu b.nd m),_,rfl,_,rfl,D,_,rfl,ZM.k' (k:=#[mE]) Bo.at' hv,#[21],λt ht=>?_⟩⟩;refine q _ _ (.inr ⟨t,e,z,rfl,m,F,Zb,?_⟩) (y.trans (Zg ht _));exact#[vB].congr (c.same b.nd)
theorem JG(ra ga:ae)(nb li lo v:Int):YT #[a2] (.inr "likenings") #[me]=Y3 ra ga nb v lo:=by unfold YT Y3;have a1:¬ #[g0,"looks","likenings"]:=λh=>N0 h.symm;simp[JM,JL,JK,a1]
theorem JF(ra ga:ae)(nb li lo v:Int):YT #[a2] (.inr "looks") #[me]=Y3 ra ga nb li v:=by unfold YT Y3;simp[JJ,JI,JH,N0]
def NV:Sp:=λvs H Q _=>X7 λ(o ra ga:ae) (L:List ZE) (nb li lo:Int)=>vs=[.ref o]/\Own H o ra ga L nb li lo/\#[a4].Pairwise #[oD]/\(∀e∈L,e.2.1≠o) /\
 ∀ (k b:Int) (a:Hp),YQ (hdL L) 8 #[a4] k b->Own a o ra ga L nb (li+k) (lo+b)->But o H a->Q .non a
theorem Own.set{H:Hp}{o ra ga:ae}{L:#[41]}{nb li lo li' lo':Int}(h:#[27])(d:∀e∈L,e.2.1≠o)(f:ra≠o)(g:ga≠o):Own (upd H o #[us]) o ra ga L nb li' lo' :=
 ⟨Zb,by rw[Zd f];exact h.rows,by rw[Zd g];exact h.gone,h.nd,h.few,λe c=>let ⟨a,b⟩:=h.lst e c;⟨by rw[Zd (d e c)];exact a,b⟩⟩
theorem Own.ne{H:Hp}{o ra ga:ae}{L:#[41]}{nb li lo:Int}(h:#[27]):ra≠o/\ga≠o:=by
 constructor
 ·rintro rfl;have:=h.rows.symm.trans h.at';injection this with this;injection this with this;cases L with
  | nil=>cases this
  | cons e r=>unfold kvR Y3 at this;injection this with this _;injection this with this _;cases this
 ·rintro rfl;have:=h.gone.symm.trans h.at';injection this with this;injection this with this;cases L with
  | nil=>cases this
  | cons e r=>unfold kvG Y3 at this;injection this with this _;injection this with this _;cases this
theorem ZpE(T:#[e])(Y:#[bm])(Z:Df P w K mg base 9 "_law_first_play" #[W] (JP K 8)):Df P w K mg base 10 "_law_play" #[36] NV:=by
 show#[ee,T.t_l_play.df,RQ,vs,d];obtain⟨o,e,g,L,nb,a,lo,rfl,i,cD,B,q⟩:=h;refine⟨_,#[Ze,#[Zw,1,RQ.nd,#[3],#[gr,Y,d,0]],#[Ze,#[Z2,#[Zx,Z,d,#[kf],#[5]],#[qC,2,RQ.nd,3]],#[Ze,#[Z2,#[ZH,Z9,#[eq,d,0],‹2›],#[h0,0,d]],#[Zi,#[Z2,#[ZH,Z9,#[eq,d,0],‹3›],#[h0,0,d]]]]]],_,rfl,o,e,g,L,nb,a,lo,rfl,i,λD j C hD F r s1=>?_⟩;have Bm:j.length=L.length:=by have:=r.per.length_eq;show#[fz,Qa,Qa]
 have eK:=i.few;refine⟨_,rfl,_,rfl,D,_,j.map #[T],rfl,F.at',NX j,by rw[Qa];lia,λl c hl u cx=>?_⟩;have v:=Zg hl #[aD];show#[ew,G,C,l,#[aD]];generalize upd C l (.lst (c.map V.int))=H2 at v G ⊢;have s2:=s1.trans v;have I:=u.trans r.per;have J:c=L.map #[T]:=Te I (Rp cx (I.nodup_iff.mpr i.nd)) cD;have M:c.length<=60:=by rw[u.length_eq,Qa];lia
 refine⟨D,l,j,c,rfl,F.same v,SqL.of G,M,by decide,Ql M #[6],λn hn=>u.mem_iff.mp hn,λt k N O bI ht vi s3=>?_⟩;show#[e4,t,vi];have R:=s2.trans s3;have y:=i.same R;show#[ep,S,W,i.ne];have mS:(Y3 e g nb a lo).length<ao:=Zn #[rU,5];refine⟨_,rfl,o,_,rfl,ZM.k' (k:=#[jH]) y.at' (Rt ..),_,rfl,_,_,rfl,rfl,_,rfl,o,_,rfl,Yz.k (k:=#[jH]) y.at' mS,?_⟩;rw[JG];have p:=y.set (li':=a+k) (lo':=lo) B S W;have X:But o H (upd O o (.dK (Y3 e g nb (a+k) lo))):=λb x z n=>by rw[Zd n];exact R b x z
 generalize upd O o (.dK (Y3 e g nb (a+k) lo))=H4 at p X ⊢;have Bp:(Y3 e g nb (a+k) lo).length<ao:=Zn #[rU,5];refine⟨_,rfl,o,_,rfl,ZM.k' (k:=#[pt]) p.at' (NZ ..),_,rfl,_,_,rfl,rfl,_,rfl,o,_,rfl,Yz.k (k:=#[pt]) p.at' Bp,?_⟩;rw[JF];refine q k N _ ?_ (p.set (li':=a+k) (lo':=lo+N) B S W) (λb x z n=>by rw[Zd n];exact X b x z n);rw[<- J];exact bI.congr λm hm=>r.same i.nd m #[eJ,J,hm]
noncomputable def YO(L:#[41]):List Int:=L.map λe=>(e.2.2.1.length:Int)-#[dc]
def JE:Sp:=λvs H Q _=>X7 λ(o ra ga:ae) (L:List ZE) (nb li lo:Int)=>vs=[.ref o]/\Own H o ra ga L nb li lo/\∀a:Hp,ZF H a->Q (.int (YO L).sum) a
theorem Own.ne2{H:Hp}{o ra ga:ae}{L:#[41]}{nb li lo:Int}(h:#[27])(hl:L≠[]):ga≠ra:=by
 rintro rfl;have:=h.rows.symm.trans h.gone;injection this with this;injection this with this;cases L with
 | nil=>exact hl rfl
 | cons e r=>unfold kvR kvG at this;injection this with this _;injection this with _ this;cases this
theorem ZnR(T:#[e]):Df P w K mg base 1 "_law_left_of" #[36] JE:=by
 show#[ee,T.t_l_left_of.df,Zjy,S,t];obtain⟨o,a,J,L,nb,W,lo,rfl,c,q⟩:=h;refine⟨_,#[Zi,#[Zr,#[Zk,(Lu K),#[5],T.b.n_sum,boot_sum,#[Zc,(@O6 _ _ _ #[Xj,Vi,(@ZqZ _ _ _ _ #[Zo,(ixG t),#[fD,0],#[Zl]]),#[eY,1,Vi],#[94],(λ_ _ _ _=>#[ZH,Wd,#[Zk,(YU K),#[q1,Vi],T.b.n_len,Qr,#[Zc,#[fM,t,0,Vi,1]]],#[fM,t,0,Vi,1]])])]]]],?_⟩;show#[ep,X,ng,c.ne];have eK:=c.few;refine⟨a,_,c.rows,True.intro,_,rfl,o,_,rfl,ZM.k' (k:=#[bQ]) c.at' #[nQ],a,_,rfl,c.rows,λm B C=>?_⟩;have u:#[wc] a=U (.frz m #[l9]):=Zb;have k1:∀b x,H b=U x->b≠a->#[wc] b=U x:=λb x h n=>by rw[Zd n];exact h
 show#[rl,m,kvR,Y,u,C];refine Zry (d:=a) (o:=m) (kvs:=kvR L) (λi zs F j=>(∃v:Option V,F=[U #[k8],v])/\zs=(YO (L.take i)).map V.int/\i<=L.length/\j B=U #[l5]/\ZF Y j) ?_ #[q6,u] ?_ ?_
 ·exact⟨⟨af,rfl⟩,rfl,Qu _,Zb,Zg C _⟩
 ·rintro i k x zs F j p ⟨⟨v,rfl⟩,rfl,hi,D,g⟩;unfold kvR at p;rw[Qp]at p;cases y:L[i]? with
  | none=>rw[y]at p;cases p
  | some e =>
  show#[ex,y,p,Z,L.length];have l:=Qv y;have G:=c.ne2 (λz=>by rw[z]at l;cases l);obtain⟨I,gj,lg,_⟩:=c.lst e l;have F4:e.2.1≠a:=λz=>by rw[z,c.rows]at I;cases I
  have M:=g _ _ (k1 o _ c.at' X.symm);refine⟨_,rfl,o,_,rfl,ZM.k' (k:=#[bQ]) M #[nQ],_,rfl,a,_,rfl,ZM.fz (k:=#[mE]) (g _ _ u) (U9 c.nd l),e.2.1,_,rfl,.inl (SqL.of (g _ _ (k1 _ _ I F4))),_,rfl,o,_,rfl,ZM.k' (k:=#[kH]) M (V7 ..),_,rfl,J,_,rfl,ZM.k' (k:=#[mE]) (g _ _ (k1 _ _ c.gone G)) (Uu c.nd l),_,_,rfl,rfl,D,(by unfold YO;rw[Qa,Qa,Qy];exact Zn #[2]),#[K],?_,Z,Zb,λb x r=>?_⟩
  ·rw[QL,y];unfold YO;rw[Qd,Qd,Qa];rfl
  ·show#[qR,r,C,g,x]
 rintro zs F j ⟨⟨v,rfl⟩,rfl,_,D,g⟩;have iB:(kvR L).length=L.length:=by unfold kvR;rw[Qa]
 show#[sm,D,m,g,u];have N:(upd j a #[l9]) B=U #[rE,YO,L]:=by rw[Zd (Zf u C).symm];exact D
 have O:ZF H (upd j a #[l9]):=λb x r=>by
  by_cases e:b=a
  ·rw[e,c.rows]at r;rw[e,Zb];exact r
  ·show#[xW,g,r]
 generalize upd j a (.dK (kvR L))=H3 at N O ⊢;refine⟨B,YO L,rfl,SqL.of N,(by unfold YO;rw[Qa];lia),λn R=>?_,q H3 O⟩;unfold YO at R;show#[en,e,l,R];obtain⟨_,gj,lg,_⟩:=c.lst e l;lia
theorem ZkY:([.inr "rows",.inr "gone",.inr "number",.inr "likenings",.inr "looks"]:List Key).Nodup:=by ac_rfl
structure VN (H:Hp) (r:ae) (rs:#[cc]):Prop where
 at':H r=U (.lst (rs.map λx=>V.ref x.1))
 few:rs.length<=60
 lst:∀x∈rs,H x.1=U #[aH]/\x.2.length<=100/\∀s∈x.2,s.length<=1000/\AZ s
theorem VN.same{H c:Hp}{r:ae}{d:#[cc]}(h:VN H r d)(s:ZF H c):VN c r d:=⟨s _ _ h.at',h.few,λx hx=>let ⟨a,b⟩:=h.lst x hx;⟨s _ _ a,b⟩⟩
def Ro(L:#[41])(a:#[cc]):Prop:=L.map #[T]=Xr 0 a.length/\L.map (λe=>e.2.2)=a.map λx=>(x.2,0)
theorem JD(n:Nat):(Xr 0 n).Pairwise #[oD]:=by unfold Xr;exact Qba _ (λa b h=>by lia) (List.pairwise_lt_range)
def Zov:Sp:=λvs H Q _=>X2 λ(r:ae) (a:List (ae×List al))=>vs=[.ref r]/\VN H r a /\
 ∀ (o b c:ae) (L:List ZE) (k f:Int) (d:Hp),H o=af->H b=af->H c=af->c≠b->#[p2]->Ro L a->Own d o b c L #[be] k f->YQ (hdL L) 8 #[a4] k f->ZF H d->Q #[k8] d
theorem Zm8(T:#[e])(dL:#[tE]):Df P w K mg base 11 "_law_world" #[qd] Zov:=by
 show#[ee,T.t_l_world.df,RR,vs,F];obtain⟨r,l,rfl,G,q⟩:=h;refine⟨_,#[Ze,#[Zw,1,RR.nd,#[3],(@Zrm _ _ _ _ _ #[Vr,#[Zl],(@Sj _ _),#[Vr,#[Zl],(@Sj _ _),#[Vr,#[Zl],#[38],#[Vr,#[Zl],#[Zj],#[Vr,#[Zl],#[Zj],(@Zrd _ _)]]]]] rfl rfl #[44] #[e7,5,15])],#[Ze,#[XS,bf.never,#[id,0],#[qC,2,RR.nd,3],#[Ze,#[Z2,#[Xa,(Vv K),T.b.n_list,boot_list,#[n1]],#[rI,F,1]],#[Zi,#[Z2,#[Zj],#[rI,F,1]]]]],#[Ze,#[ZX,#[rR,dL,F]],#[fb,1]]]],?_⟩;refine λo S=>?_;show#[fL,W,S,X,H,o];show#[rT,H,o,H1,W,X];refine λd oS=>?_;show#[fL,I,oS,oQ,H1,d];show#[ii,sF,d,o,X,oS];show#[rT,H1,d,H2,I,oQ];refine λg Y=>?_;show#[fL,Z,Y,Bq,H2,g];show#[ii,B,g,d,oQ,Y];have Br:g≠o:=(Zf (I _ _ X) Y).symm;show#[rT,H2,g,H3,Z,Bq];have s3:ZF H H3:=(W.trans I).trans Z;have wY:H d=af:=W.free oS;have wZ:H g=af:=(W.trans I).free Y;have iC:=(I.trans Z) _ _ X;have sG:=Z _ _ oQ;have F5:∀nb:Int,VX [] (Y3 d g nb 0 0)=Y3 d g nb 0 0:=λnb=>(Lg (Y3 d g nb 0 0) [] (show ((([]:List #[xe])++Y3 d g nb 0 0).map λkv=>kv.1).Nodup from ZkY)).trans (List.nil_append _);refine⟨_,rfl,r,_,rfl,.inl #[fV,s3,G.at'],iC,Y3 d g (((l.map λx=>V.ref x.1).length:Nat):Int) 0 0,rfl,#[e7,5,15],?_⟩;rw[F5,Qa];have fR:Own (upd H3 o #[mq]) o d g [] #[c4] 0 0 :=
  ⟨Zb,by rw[Zd sF];exact sG,by rw[Zd Br];exact Bq,List.nodup_nil,by decide,λe h=>by cases h⟩
 have s4:ZF H (upd H3 o #[mq]):=λb x m=>by rw[Zd (Zf m S)];exact s3 b x m
 generalize upd H3 o (.dK (Y3 d g (l.length:Int) 0 0))=H4 at fR s4 ⊢;refine⟨_,rfl,r,_,rfl,SqL.of (s4 _ _ G.at'),?_⟩;refine So (K:=K) (a:=r) (xs:=l.map λx=>V.ref x.1) (λi σ C=>X3 λ(L:List ZE) (v2 v3:Option V)=>σ=[U #[jV],U #[k8],v2,v3]/\Own C o d g L #[c4] 0 0/\Ro L (l.take i)/\#[p2]/\ZF H C) ⟨[],_,_,rfl,fR,#[bM],#[eP,e,h],s4⟩ (λi σ C hq=>by obtain⟨_,_,_,_,_,_,_,J⟩:=hq;exact SqL.of (J _ _ G.at')) ?_ ?_
 ·rintro i y σ C p M ⟨L,v2,v3,rfl,ow,⟨n1,n2⟩,cX,J⟩ hp;rw[Qp]at M;cases N:l[i]? with
  | none=>rw[N]at M;cases M
  | some x =>
  show#[ex,N,M,dG,l.length];have eK:=G.few;obtain⟨lx,gj,jh⟩:=G.lst x (Qv N);have yI:L.length=i:=by have:=#[eZ,n1];rw[Qa,Ub,Qy]at this;lia
  have aX:∀e∈L,e.1≠(i:Int):=λe he z=>by
   have h1:e.1∈Xr 0 (l.take i).length:=by rw[<- n1];exact Qg (f:=λe:ZE=>e.1) he
   show#[hL,j,hj,ej];rw[Qy]at this;lia
  have sp:=Zg hp #[ar];show#[ew,sH,C,p,#[ar]];have s6:=J.trans sp;have n:=ow.same sp;generalize upd C p (.tup [.int (i:Int),.ref x.1])=H6 at sH s6 n ⊢;refine⟨p,_,rfl,SqT.of sH,rfl,_,_,rfl,_,_,rfl,rfl,_,rfl,x.1,_,rfl,.inl #[fV,s6,lx],λc D=>?_⟩;have s7:=s6.trans (Zg D #[aH]);have t:=n.same (Zg D #[aH]);show#[ew,Bs,H6,c,#[aH]];have yJ:H c=af:=s6.free D;show#[ii,F6,c,o,n.at',D];show#[ii,F7,c,d,n.rows,D];show#[ii,F8,c,g,n.gone,D];generalize upd H6 c (.lst (x.2.map V.str))=H7 at s7 t Bs ⊢;have hsz:#[q3,kvR,L]:=by unfold kvR;show#[c2]
  have Bu:#[q3,kvG,L]:=by unfold kvG;show#[c2]
  have jI:#[rM,kvR]:=by
   cases O:Zt (kvR L) (.inl (i:Int)) with
   | none=>rfl
   | some v=>obtain⟨e,he,z⟩:=Qq.mp (VW O);injection z with z _;exact #[nc]
  have mO:#[rM,kvG]:=by
   cases O:Zt (kvG L) (.inl (i:Int)) with
   | none=>rfl
   | some v=>obtain⟨e,he,z⟩:=Qq.mp (VW O);injection z with z _;exact #[nc]
  refine⟨_,rfl,o,_,rfl,ZM.k' (k:=#[bQ]) t.at' #[nQ],_,rfl,d,_,rfl,Yz.k (k:=.inl (i:Int)) t.rows hsz,?_⟩;rw[VY _ jI,show kvR L++[(#[qo],V.ref c)]=kvR #[jy] by unfold kvR;rw[Qd];rfl];have oU:#[ro,H7,d,kvR,#[jy]] o=U #[mq]:=by rw[Zd sF.symm];exact t.at'
  have F9:#[ro,H7,d,kvR,#[jy]] g=U (.dK (kvG L)):=by rw[Zd B];exact t.gone
  refine⟨_,rfl,o,_,rfl,ZM.k' (k:=#[kH]) oU (V7 ..),_,rfl,g,_,rfl,Yz.k (k:=.inl (i:Int)) F9 Bu,?_⟩;rw[VY _ mO,show kvG L++[(#[qo],V.int 0)]=kvG #[jy] by unfold kvG;rw[Qd];rfl];refine⟨L++[((i:Int),c,x.2,0)],_,_,rfl,⟨by rw[Zd Br.symm];exact oU,by rw[Zd B.symm];exact Zb,Zb,?_,by rw[Qf,Qz];lia,λe he=>?_⟩,#[ww],λe he=>?_,λb y m=>?_⟩
  ·show#[fB,ow.nd,u,hu,v,O];have:v=(i:Int):=by simpa using O
   rw[this];exact aX e he
  ·rcases Qj.mp he with he|he
   ·obtain⟨R,b2⟩:=t.lst e he;have e1:e.2.1≠d:=λz=>by rw[z,t.rows]at R;cases R
    have e2:e.2.1≠g:=λz=>by rw[z,t.gone]at R;cases R
    exact⟨by rw[Zd e2,Zd e1];exact R,b2⟩
   ·rw[Qi.mp he];exact⟨by rw[Zd F8,Zd F7];exact Bs,gj,Qu _,jh⟩
  ·show#[ln]
  ·rw[Qd,n2,QL,N,Qd];rfl
  ·rcases Qj.mp he with he|he
   ·exact cX e he
   ·rw[Qi.mp he];exact⟨yJ,F6⟩
  ·rw[Zd (Zf m wZ),Zd (Zf m wY)];exact s7 b y m
 ·rintro σ C ⟨L,v2,v3,rfl,ow,i8,cX,J⟩;rw[Qa,Qx #[jJ]]at i8;refine⟨_,rfl,o,d,g,L,_,0,0,rfl,ow,by rw[i8.1];exact JD _,λe he=>(cX e he).2,λk q' H6 bI n b6=>?_⟩;rw[Int.zero_add,Int.zero_add]at n;exact⟨_,rfl,q o d g L k q' H6 S wY wZ B cX i8 n bI (λb x m=>b6 b x (J b x m) (Zf m S))⟩
def Rm:Sp:=λvs H Q _=>X5 λ(p l:ae) (c a:Int) (ss:List al)=>vs=[.ref p,.ref l,.int a]/\Y9 H p c/\c<2 ^ 40/\0<=a/\a<=60/\H l=U #[jp]/\1<=ss.length/\ss.length<=4/\#[bC] /\
 ∀ (r:ae) (b:List al) (e:Int) (d:Hp),H r=af->d r=U #[eu,b.map]->(b.length:Int)<=a->sortedS b=true->#[fq,b,28]->Y9 d p e->c<=e->e<=c+600->But p H d->Q #[jV] d
theorem Zp2(T:#[e])(m:#[uv]):Df P w K mg base 5 "_law_row" #[l] Rm:=by
 show#[ee,T.t_l_row.df,ZpH,n,o];obtain⟨p,l,c,b,d,rfl,g,t,u,v,y,B,C,D,q⟩:=h;refine⟨_,#[Zi,#[Zr,#[Zk,(Pg K),#[5],T.b.n_sorted,boot_sorted,#[Zc,#[Zx,m,o,#[ga,0,1,2],#[5]]]]]],_,rfl,_,rfl,_,rfl,p,l,c,b,d,rfl,g,t,u,v,y,B,C,D,λr F G H1 bD I J L i a1 a2 j=>?_⟩;refine⟨r,F,rfl,SqL.of I,by lia,λl2 M a k N=>?_⟩;show#[ep,ob,uQ,g.here];have O:H l2=af:=by
  cases e:H l2 with
  | none=>rfl
  | some x =>
   by_cases z:l2=p
   ·show#[h1,o1,R,i.here,a]
   ·have:=j l2 x e z;show#[hR,a]
 exact q l2 M G _ O Zb #[ei,k.length_eq,J] N (λs S=>L s (k.mem_iff.mp S)) (i.new a) a1 a2 (j.trans #[qY,a])
def JC:Sp:=λvs H Q _=>X2 λ(p:ae) (c:Int)=>vs=#[jN]/\Y9 H p c/\c<2 ^ 30 /\
 ∀ (r:ae) (b:List (ae×List al)) (d:Int) (a:Hp),H r=af->VN a r b->(∀x∈b,H x.1=af/\x.1≠r/\x.1≠p/\sortedS x.2=true/\x.2.length<=60)->b.length<=12->Y9 a p d->c<=d->d<=c+10000->But p H a->Q #[jV] a
theorem Zoy(T:#[e])(aK:#[n])(gf:#[tC])(iR:#[t0])(e8:#[lG]):Df P w K mg base 6 "_law_rows" #[24] JC:=by
 show#[ee,T.t_l_rows.df,Ou,vs,n];show#[fA,p,c,I,c1];refine⟨_,#[Ze,#[Zw,1,Ou.nd,#[i0],#[Zx,gf,n,#[Zc,#[fD,0]],#[5]]],#[Ze,#[Zw,2,Ou.nd,#[i0],#[Zo,#[ly],#[ZJ,#[Za,#[Zj],#[Za,#[Zj],#[Za,#[Zj],#[Zc,#[Zj],#[Zj],#[Zj],#[Zj],#[Zj]]]]]],#[Zx,aK,n,#[pL],#[5]]]],#[Zi,#[Zr,#[Xj,UE,#[WT,T.b.n_range,#[Zc,#[Zx,iR,n,#[Zc,#[fD,0]],#[5]]]],#[eY,3,UE],#[94],(λ_ _ _ _=>#[Zx,e8,n,#[Zc,#[cv,0,UE],#[cv,1,UE],#[cv,2,UE]],#[q1,UE]])]]]]],?_⟩;have c0:=I.ge;refine⟨_,rfl,p,c,rfl,I,by lia,λl ss c2 H1 nz oW n1 n4 m6 L1 a1 a2 B1=>?_⟩;have J:p≠l:=by obtain⟨o,d⟩:=I.here;exact Zf d nz
 refine⟨#[e7,8,ao],λe t=>?_⟩;have F':p≠e:=by obtain⟨o,d⟩:=L1.here;exact Zf d t
 refine⟨_,rfl,p,c2,_,rfl,L1.new t,by lia,by decide,by decide,λi L i0 i1 L2 M=>?_⟩;obtain⟨m,hm,cJ⟩:=UA (ns:=[5,5,4,6,3,7,5,20]) i0 i1;have oJ:L e=U (.lst (([5,5,4,6,3,7,5,20]:List Int).map V.int)):=M e _ Zb F'.symm;have fA:0<=m/\m<=20:=by simp only[List.mem_cons,List.not_mem_nil,or_false]at hm;lia
 have ce:L l=U #[jp]:=M l _ (Zg t _ _ _ oW) J.symm;have vj:But p H L:=(B1.trans #[qY,t]).trans M;refine⟨e,_,_,_,rfl,rfl,SqL.of oJ,cJ,_,rfl,p,_,rfl,L2,by lia,λmn c3 H3 m0 m12 N a3 a4 B3=>?_⟩;have fZ:=B3 l _ ce J.symm;have O:=vj.trans B3;refine⟨_,rfl,by lia,by lia,λD a=>?_⟩;have Ga:H D=af:=by
  cases R:H D with
  | none=>rfl
  | some x =>
   by_cases z:D=p
   ·show#[h1,o1,nq,N.here,a]
   ·have:=O D x R z;show#[hR,a]
 have iP:p≠D:=by obtain⟨o,d⟩:=N.here;exact Zf d a
 have qy:l≠D:=Zf fZ a;refine Sr (λi zs S g=>(∃v:Option V,S=[U #[bS],U #[cq],U (.int m),v])/\(∃j:List (ae×List al),zs=j.map (λx=>V.ref x.1)/\j.length=i/\∀x∈j,g x.1=U #[aH]/\H x.1=af/\x.1≠D/\x.1≠p/\sortedS x.2=true/\x.2.length<=60/\∀s∈x.2,s.length<=28/\AZ s)/\g D=U #[l5]/\(∃c4:Int,Y9 g p c4/\c3<=c4/\c4<=c3+600*i)/\But p H3 g) ?_ ?_ ?_
 ·exact⟨⟨af,rfl⟩,⟨[],rfl,rfl,#[eP,x,h]⟩,Zb,⟨c3,N.new a,by lia,by lia⟩,But.same (Zg a _)⟩
 ·rintro i zs S g hi ⟨⟨v,rfl⟩,⟨j,rfl,Gb,u⟩,y,⟨c4,B,b1,b2⟩,k⟩;have hi12:i<12:=by lia
  refine⟨_,rfl,_,rfl,_,rfl,p,l,c4,m,ss,rfl,B,by lia,fA.1,by lia,k l _ fZ J.symm,n1,n4,m6,λr ts c5 H5 C fv dX eW mh L5 d1 d2 W=>?_⟩;have yF:=W D _ y iP.symm;have qA:D≠r:=Zf y C;have X:p≠r:=by obtain⟨o,d⟩:=B.here;exact Zf d C
  have Bw:H r=af:=by
   cases R:H r with
   | none=>rfl
   | some x=>have:=k r x (O r x R X.symm) X.symm;show#[hR,C]
  refine⟨yF,#[ec],#[K],⟨j++[(r,ts)],by rw[Qd];rfl,by rw[Qf,Qz];lia,λx hx=>?_⟩,Zb,⟨c5,L5.at iP,by lia,by lia⟩,λb x hb nb=>?_⟩
  ·rcases Qj.mp hx with hx|hx
   ·obtain⟨Y,Z,F,G,g5⟩:=u x hx;exact⟨by rw[Zd F];exact W _ _ Y G,Z,F,G,g5⟩
   ·rw[Qi.mp hx];exact⟨by rw[Zd qA.symm];exact fv,Bw,qA.symm,X.symm,eW,by show ts.length<=60;lia,mh⟩
  ·rw[Zd (Zf hb a)];exact W b x (k b x hb nb) nb
 rintro zs S g ⟨⟨v,rfl⟩,⟨j,rfl,Gb,u⟩,y,⟨c4,B,b1,b2⟩,k⟩;refine q D j c4 g Ga ⟨y,by lia,λx hx=>?_⟩ (λx hx=>?_) #[2] B #[2] #[2] (O.trans k)
 ·obtain⟨Y,_,_,_,_,g6,g7⟩:=u x hx;exact⟨Y,by lia,λs hs=>⟨by have:=(g7 s hs).1;lia,(g7 s hs).2⟩⟩
 ·obtain⟨_,Z,F,G,g5,g6,_⟩:=u x hx;exact⟨Z,F,G,g5,g6⟩
def Td(K:#[7]):Sp:=λvs H Q _=>X3 λ(n:Int) (a:ae) (ss:List al)=>vs=[.int n,.ref a]/\SqL K H a #[Y]/\ss.length<=200/\#[cQ]/\XF ss .non/\∀b,ZF H b->Q .non b
theorem ZnF(T:#[e])(c:#[cI]):Df P w K mg base 5 "refuse_break" #[iU] (Td K):=by
 show#[ee,T.t_refuse_break.df,RS,d,g];obtain⟨n,a,b,rfl,i,j,k,l,q⟩:=h;refine⟨_,#[Ze,#[Zw,2,RS.nd,#[3],#[rR,c,g]],#[Zi,#[ZN,#[ek,UY,2,#[ZU]],#[o3],#[Zy]]]],_,rfl,a,b,rfl,i,j,k,λv m o p=>?_⟩;have e:=Ob o l;subst e;exact⟨_,rfl,rfl,_,rfl,YY (q m p)⟩
structure ZC where
 n:Int
 p:ae
 k:ae
 f:ae
 ss:List al
 g:Nat
noncomputable def toL(e:ZC):ZE:=(e.n,e.p,e.ss,e.g)
noncomputable def hdM(L:#[aI]):Hd:=hdL #[aC]
noncomputable def ZG(L:#[aI]):List Int:=L.map (·.n)
theorem V5(L:#[aI]):#[aC].map #[T]=ZG L:=by rw[Qk];rfl
noncomputable def kvM(L:#[aI]):List #[xe]:=L.map λe=>(.inl e.n,.ref e.p)
theorem U7{L:#[aI]}(nd:#[oX]){e:ZC}(he:e∈L):hdM L e.n=(e.ss[e.g]?).map cds :=
 Rq (L:=L.map toL) #[ei,V5,nd] (Qg (f:=toL) he)
theorem Zow(L:#[aI]):(kvM L).map #[T]=#[k5].map #[iV]:=by unfold kvM ZG;rw[Qk,Qk];rfl
theorem Wo{L:#[aI]}(nd:#[oX]){e:ZC}(he:e∈L):Zt (kvM L) (.inl e.n)=U (.ref e.p):=Sf #[eR,Zow,NY,nd] (Qg (f:=λe:ZC=>((.inl e.n:Key),V.ref e.p)) he)
theorem Tc{L:#[aI]}{n:Int}(h:n∈ZG L):∃e∈L,e.n=n:=Qq.mp h
noncomputable def mgF(rd:ae)(nb li lo:Int)(sd:ae)(a:V):List (al×V):=[("rows",.ref rd),("next_number",.int nb),("likened",.int li),("looked",.int lo),("stays",.ref sd),("best",a)]
theorem NU:¬ (#[de] = "next_number"):=by ac_rfl
theorem NT:¬ (#[de] = "likened"):=by ac_rfl
theorem NS:¬ (#[de] = "looked"):=by ac_rfl
theorem NR:¬ (#[de] = "stays"):=by ac_rfl
theorem NQ:¬ (#[de] = "best"):=by ac_rfl
theorem NP:¬ #[r1,"likened"]:=by ac_rfl
theorem NO:¬ #[r1,"looked"]:=by ac_rfl
theorem NN:¬ #[r1,"stays"]:=by ac_rfl
theorem NM:¬ #[r1,"best"]:=by ac_rfl
theorem NL:¬ #[g0,"likened","looked"]:=by ac_rfl
theorem NK:¬ #[g0,"likened","stays"]:=by ac_rfl
theorem NJ:¬ #[g0,"likened","best"]:=by ac_rfl
theorem NI:¬ #[g0,"looked","stays"]:=by ac_rfl
theorem NH:¬ #[g0,"looked","best"]:=by ac_rfl
theorem NG:¬ #[g0,"stays","best"]:=by ac_rfl
theorem VM(f:al)(v x:V)(r:List (al×V)):ZA f v ((f,x)::r)=(f,v)::r:=by unfold ZA;rw[if_pos rfl]
theorem ZB{f g:al}(h:¬ g=f)(v x:V)(r:List (al×V)):ZA f v ((g,x)::r)=(g,x)::ZA f v r:=by show (if g=f then (g,v)::r else (g,x)::ZA f v r)=_;rw[if_neg h]
theorem WM(f:al)(v:V):ZA f v []=[(f,v)]:=rfl
theorem VL(rd:ae)(nb li lo:Int)(sd:ae)(a:V):mgF rd nb li lo sd a=ZA "best" a (ZA "stays" (.ref sd) (ZA "looked" (.int lo) (ZA "likened" (.int li) (ZA "next_number" (.int nb) (ZA "rows" (.ref rd) []))))):=by rw[WM,ZB NU,WM,ZB NT,ZB NP,WM,ZB NS,ZB NO,ZB NL,WM,ZB NR,ZB NN,ZB NK,ZB NI,WM,ZB NQ,ZB NM,ZB NJ,ZB NH,ZB NG,WM];rfl
section
variable (rd:ae) (nb li lo:Int) (sd:ae) (aC:V)
theorem Ye:#[18].lookup #[de]=U (.ref rd):=by rw[VL,Zs,if_neg NQ,Zs,if_neg NR,Zs,if_neg NS,Zs,if_neg NT,Zs,if_neg NU,Zs,if_pos rfl]
theorem NF:#[18].lookup ("next_number" : al)=U (.int nb):=by rw[VL,Zs,if_neg NM,Zs,if_neg NN,Zs,if_neg NO,Zs,if_neg NP,Zs,if_pos rfl]
theorem NE:#[18].lookup ("likened" : al)=U (.int li):=by rw[VL,Zs,if_neg NJ,Zs,if_neg NK,Zs,if_neg NL,Zs,if_pos rfl]
theorem JB:#[18].lookup ("looked" : al)=U (.int lo):=by rw[VL,Zs,if_neg NH,Zs,if_neg NI,Zs,if_pos rfl]
theorem Tb:#[18].lookup ("stays" : al)=U (.ref sd):=by rw[VL,Zs,if_neg NG,Zs,if_pos rfl]
theorem Rl:#[18].lookup ("best" : al)=U aC:=by rw[VL,Zs,if_pos rfl]
theorem Xz{m:al}(h1:¬ m = "rows")(h2:¬ m = "next_number")(a:¬ m = "likened")(h4:¬ m = "looked")(b:¬ m = "stays")(c:¬ m = "best"):#[18].lookup m=af:=by rw[VL,Zs,if_neg c,Zs,if_neg b,Zs,if_neg h4,Zs,if_neg a,Zs,if_neg h2,Zs,if_neg h1];rfl
theorem Zhh(v:Int):ZA "next_number" #[me] #[18]=mgF rd v li lo sd aC:=by unfold mgF;rw[ZB NU,VM]
theorem JA(v:Int):ZA "likened" #[me] #[18]=mgF rd nb v lo sd aC:=by unfold mgF;rw[ZB NT,ZB NP,VM]
theorem Zht(v:Int):ZA "looked" #[me] #[18]=mgF rd nb li v sd aC:=by unfold mgF;rw[ZB NS,ZB NO,ZB NL,VM]
theorem Zh9(x:ae):ZA "stays" #[nw] #[18]=mgF rd nb li lo x aC:=by unfold mgF;rw[ZB NR,ZB NN,ZB NK,ZB NI,VM]
theorem Rk(x:V):ZA "best" x #[18]=mgF rd nb li lo sd x:=by unfold mgF;rw[ZB NQ,ZB NM,ZB NJ,ZB NH,ZB NG,VM]
theorem V4:#[18].length<1000:=by show 6<1000;decide
universe E
structure WL (C:ae) (H:Hp) (e:ZC):Prop where
 at':Vb C H e.p e.k e.f e.ss e.g
 le:e.g<=e.ss.length
 len:e.ss.length<=100
 srt:sortedS e.ss=true
 str:∀s∈e.ss,s.length<=1000/\AZ s
structure ZW (cR cM:ae) (H:Hp) (m rd sd:ae) (L:#[aI]) (s:StL) (nb li lo:Int) (aC:V):Prop where
 ob:∃dx,H m=U (.ins cM dx #[18])
 rows:H rd=U #[cC]
 stays:H sd=U (.dT (kvS s))
 ats:AtS H s
 each:∀e∈L,WL cR H e
 up:YM #[k5]
 pd:#[xd].Nodup
 few:L.length<=60
 sfew:s.length<=100
def Fp(m rd sd:ae)(L:#[aI])(b:ae):Prop:=b=m\/b=rd\/b=sd\/∃e∈L,b=e.p\/b=e.k\/b=e.f
theorem WL.keep{C:ae}{H a:Hp}{e:ZC}(h:WL C H e)(b:a e.p=H e.p)(hk:a e.k=H e.k)(c:a e.f=H e.f):WL C a e :=
 ⟨⟨by rw[b];exact h.at'.ob,by rw[hk];exact h.at'.ks,by rw[c];exact h.at'.fs⟩,h.le,h.len,h.srt,h.str⟩
section
variable {cR cM:ae} {H H':Hp} {m rd sd:ae} {L:List ZC} {s:StL} {nb li lo:Int} {aC:V}
theorem ZW.nd(h:#[30]):#[k5].Nodup:=Tg h.up
theorem ZW.keep(h:#[30])(k:∀b o,H b=U o->Fp m rd sd L b\/(∃xs,o=.tup xs)->H' b=U o):ZW cR cM H' m rd sd L s nb li lo aC:=by
 refine⟨?_,k _ _ h.rows (.inl #[tw]),k _ _ h.stays (.inl (.inr #[tw])),λe a t f=>k _ _ (h.ats e a t f) (.inr #[K]),λe a=>?_,h.up,h.pd,h.few,h.sfew⟩
 ·show#[ep,c,d,h.ob];exact⟨c,k _ _ d (.inl #[8])⟩
 ·have r:=h.each e a;show#[ep,c,d,r.at'.ob];exact⟨⟨⟨c,k _ _ d (.inl (.inr (.inr (.inr ⟨e,a,.inl rfl⟩))))⟩,k _ _ r.at'.ks (.inl (.inr (.inr (.inr ⟨e,a,.inr #[8]⟩)))),k _ _ r.at'.fs (.inl (.inr (.inr (.inr ⟨e,a,.inr #[m7]⟩))))⟩,r.le,r.len,r.srt,r.str⟩
theorem ZW.same(h:#[30])(k:ZF H H'):ZW cR cM H' m rd sd L s nb li lo aC:=h.keep λb o hb _=>k b o hb
theorem ZW.ne_p(h:#[30]){e:ZC}(he:e∈L):m≠e.p/\m≠e.k/\m≠e.f:=by
 show#[ep,dx,b,h.ob];show#[pX];refine#[kB]
 ·rw[z,c]at b;injection b with b;injection b with _ _ b;have a:=Vc e.k e.f (e.g:Int);rw[b,Xz _ _ _ _ _ _ #[1] #[1] #[1] #[1] #[1] #[1]]at a;cases a
 ·show#[rZ,r.at'.ks,b]
 ·show#[rZ,r.at'.fs,b]
theorem ZW.ne_m(h:#[30]):m≠rd/\m≠sd/\rd≠sd:=by
 show#[ep,dx,a,h.ob];refine#[kB]
 ·show#[rZ,h.rows,a]
 ·show#[rZ,h.stays,a]
 ·have:=h.rows;show#[hD,h.stays]
theorem ZW.ne_sd(h:#[30]){e:ZC}(he:e∈L):sd≠e.p/\sd≠e.k/\sd≠e.f/\rd≠e.p/\rd≠e.k/\rd≠e.f:=by
 show#[pX];have a:=h.stays;have b:=h.rows;refine⟨λz=>?_,λz=>?_,λz=>?_,λz=>?_,λz=>?_,λz=>?_⟩
 ·show#[rZ,c,a]
 ·show#[rZ,r.at'.ks,a]
 ·show#[rZ,r.at'.fs,a]
 ·show#[rZ,c,b]
 ·show#[rZ,r.at'.ks,b]
 ·show#[rZ,r.at'.fs,b]
theorem ZW.obj(h:#[30]){nb' li' lo':Int}{best':V}{dx:ae}:ZW cR cM (upd H m (.ins cM dx (mgF rd nb' li' lo' sd best'))) m rd sd L s nb' li' lo' best':=by
 show#[hU,f,g,n3,h.ne_m];show#[ep,dy,i,h.ob];refine⟨⟨dx,Zb⟩,by rw[Zd f.symm];exact h.rows,by rw[Zd g.symm];exact h.stays,λe d t j=>?_,λe d=>?_,h.up,h.pd,h.few,h.sfew⟩
 ·have:=h.ats e d t j;show#[e1,i]
 ·show#[qS,a,b,c,h.ne_p,d];show#[fX,h.each,d]
theorem ZW.put(h:#[30]){k:#[dW]}{v:#[ak]}(i:#[nC])(hs:#[l2].length<=100):ZW cR cM #[tV] m rd sd L #[l2] nb li lo aC:=by
 show#[hU,n1,j,l,h.ne_m];show#[ep,n,o,h.ob];have tup:∀a d,H a=U (.tup d)->#[tV] a=U (.tup d):=λa d f=>by rw[Zd (λz=>by rw[z,h.stays]at f;cases f)];exact f
 refine⟨⟨n,by rw[Zd j];exact o⟩,by rw[Zd l];exact h.rows,Zb,(h.ats.put i).mono tup,λe g=>?_,h.up,h.pd,h.few,hs⟩;obtain⟨a,b,c,_⟩:=h.ne_sd g;show#[fX,h.each,g]
universe E
def ND(g h:ae):Sp:=λvs H Q _=>X14 λ(m rd sd:ae) (L:List ZC) (s:StL) (nb li lo:Int) (i:V) (a b:ZC) (x y:al) (d:Nat)=>vs=[.ref m,.int a.n,.int b.n,.int (d:Int)]/\ZW g h H m rd sd L s nb li lo i/\a∈L/\b∈L/\a.ss[a.g]? = U x/\b.ss[b.g]? = U y/\d<=lcp #[aY] #[bv] /\
 ∀ (t:ae) (e f:Int) (c:Hp),(Btr #[aY] a.n #[bv] b.n/\e=a.n/\f=b.n\/¬ Btr #[aY] a.n #[bv] b.n/\e=b.n/\f=a.n)->H t=af->c t=U (.tup [.int e,.int f,.int (#[r]:Int)]) ->
  ZW g h c m rd sd L s nb (li+1) (lo+(#[r]-(d:Int)+1)) i->#[e2,H,m,c]->Q #[jz] c
theorem Ta{ss:#[Q]}{g:Nat}{x:al}(h:ss[g]? = U x):WN ss g=.str x:=by unfold WN;rw[h]
theorem U6(k f:ae)(g:Int):#[ji].lookup ("head" : al)=af:=#[jQ]
theorem Zrf(T:#[e])(Y:#[56])(fC:#[tD]):Mf P w K mg base 3 ak "meet" #[ae] (ND aw ak):=by
 show#[ee,T.t_Merge_meet.mf,RT,vs,C];obtain⟨m,j,B,L,s,nb,l,lo,p,a,b,x,y,r,rfl,M,Z,v,hx,hy,hf,q⟩:=h;refine⟨_,#[Ze,#[Z2,#[Zx,fC,C,#[Zc,#[YI,Y,T.cl_Row,C,#[fN,C,#[I],1]],#[YI,Y,T.cl_Row,C,#[fN,C,#[I],2]],‹3›],#[5]],#[fE,4,RT.nd,5,6]],#[Ze,#[nl],#[Ze,#[VC,‹0›,‹6›,Uf],#[Ze,#[ZN,(@PW.pt _ _ _ #[Xd,#[ek,Xc,4,#[Zj]],#[WG,(@PW.pt _ _ _ #[Ya,#[aS],#[Xu,#[Zm,Xc,‹1›,‹2›,#[37]]]])]]),#[Zi,#[Zr,#[ZV,#[ga,1,2,5]]]],#[Zy]],#[Zi,#[Zr,#[ZV,#[ga,2,1,5]]]]]]]],?_⟩;show#[gm,dx,J];have N:=M.each a Z;have O:=M.each b v;show#[ep,da,Gc,N.at'.ob];show#[ep,db,Gd,O.at'.ob];have lx:=(N.str x (Qv hx)).1;have ly:=(O.str y (Qv hy)).1;refine⟨_,rfl,m,ak,dx,_,_,rfl,J,T.cl_Merge,T.na_Merge_rows,Ye ..,_,rfl,j,_,rfl,ZM.k' (k:=.inl a.n) M.rows (Wo M.nd Z),a.p,da,_,rfl,Gc,U6 ..,a.p,a.k,a.f,a.ss,a.g,rfl,N.at',_,rfl,m,ak,dx,_,_,rfl,J,T.cl_Merge,T.na_Merge_rows,Ye ..,_,rfl,j,_,rfl,ZM.k' (k:=.inl b.n) M.rows (Wo M.nd v),b.p,db,_,rfl,Gd,U6 ..,b.p,b.k,b.f,b.ss,b.g,rfl,O.at',?_⟩;rw[Ta hx,Ta hy];refine⟨_,rfl,x,y,r,rfl,lx,ly,hf,λt ht=>?_⟩;have G:=Zg ht #[ax];show#[ew,qD,H,t,#[ax]];generalize upd H t (.tup [.int (ZS (cds x) (cds y)),.int (lcp (cds x) (cds y):Nat),.int ((lcp (cds x) (cds y):Nat)-(r:Int)+1)])=R at G qD ⊢;have M1:=M.same G;show#[gJ,t,qD];have fA:=G _ _ J;show#[f6,fA,T.na_Merge_likened,NE,JA];have M2:=M1.obj (nb':=nb) (li':=l+1) (lo':=lo) (best':=p) (dx:=dx);have k2:#[qw,o,m,R,m,#[i8]]:=λb o v n=>by rw[Zd n];exact G b o v
 show#[qu,S,R,m,#[i8]];generalize upd R m (.ins ak dx (mgF j nb (l+1) lo B p))=H2 at M2 k2 S ⊢;refine⟨_,rfl,m,ak,dx,_,_,rfl,S,T.cl_Merge,T.na_Merge_looked,JB ..,_,rfl,_,_,rfl,rfl,dx,_,S,V4 ..,?_⟩;rw[Zht];have V:=M2.obj (nb':=nb) (li':=l+1) (lo':=lo+(#[r]-(r:Int)+1)) (best':=p) (dx:=dx);have k3:∀b o,H b=U o->b≠m->(upd H2 m (.ins ak dx (mgF j nb (l+1) (lo+(#[r]-(r:Int)+1)) B p))) b=U o:=λb o v n=>by rw[Zd n];exact k2 b o v n
 generalize upd H2 m (.ins ak dx (mgF j nb (l+1) (lo+((lcp (cds x) (cds y):Nat)-(r:Int)+1)) B p))=H3 at V k3 ⊢;have u:∀D F:Int,(Btr #[aY] a.n #[bv] b.n/\D=a.n/\F=b.n\/¬ Btr #[aY] a.n #[bv] b.n/\D=b.n/\F=a.n)->∀c,H3 c=af->Q (.ref c) (upd H3 c (.tup [.int D,.int F,.int (#[r]:Int)])):=λD F hw c i=>by
  have fg:H c=af:=by
   cases e:H c with
   | none=>rfl
   | some o =>
    by_cases z:c=m
    ·show#[h1,dz,hz,V.ob,i]
    ·rw[k3 c o e z]at i;cases i
  exact q c D F _ hw fg Zb (V.same #[w5]) (λb o v n=>Zg i _ _ _ (k3 b o v n))
 have I:3<=ao:=by decide
 refine⟨_,rfl,_,_,rfl,rfl,_,rfl,Y1 #[aM] #[aM]⟩
 ·have d':ZS #[aY] #[bv]<0:=#[89];exact XJ ⟨_,rfl,_,rfl,_,rfl,I,λc i=>u _ _ (.inl ⟨.inl d',rfl,rfl⟩) c i⟩
 have d1:¬ ZS #[aY] #[bv]<0:=#[uD];refine#[ho,e]
 ·have W:ZS #[aY] #[bv]=0:=by have:=of_decide_eq_true e;injection this
  refine⟨_,rfl,_,rfl,_,_,rfl,rfl,_,rfl,Y1 (λg=>?_) (λg=>?_)⟩
  ·have X:a.n<b.n:=of_decide_eq_true g;exact⟨_,rfl,_,rfl,_,rfl,I,λc i=>u _ _ (.inl ⟨.inr ⟨W,X⟩,rfl,rfl⟩) c i⟩
  ·have X:¬ a.n<b.n:=λz=>g #[aK];exact⟨_,rfl,_,rfl,_,rfl,I,λc i=>u _ _ (.inr ⟨λz=>by rcases z with z|z;exact d1 z;exact X z.2,rfl,rfl⟩) c i⟩
 ·have W:ZS #[aY] #[bv]≠0:=λz=>e #[rt,z];exact YY ⟨_,rfl,_,rfl,_,rfl,I,λc i=>u _ _ (.inr ⟨λz=>by rcases z with z|z;exact d1 z;exact W z.1,rfl,rfl⟩) c i⟩
theorem ZW.cast{a b:ae}{H:Hp}{m rd sd:ae}{L:#[aI]}{s:StL}{nb li lo li' lo':Int}{c:V}(h:#[gB,a,b,c])(d:li=li')(e:lo=lo'):ZW a b H m rd sd L s nb li' lo' c:=by subst d;subst e;exact h
theorem Jz{N:#[w]}(h:N≠[]):atI #[bR] (-1)=U (.int (N.getLastD 0)):=by
 have e:N=N.dropLast++[N.getLast h]:=(List.dropLast_concat_getLast h).symm;have:=ZnV (N.dropLast.map V.int) (V.int (N.getLast h));rw[Qaw,QaZ h]
 conv=>lhs;rw[e,Qd]
 exact this
theorem Jy{N:#[w]}(h:N≠[]):atI #[bR] 0=U (.int (N.headD 0)):=by
 cases N with
 | nil=>exact #[xF,h]
 | cons a r=>exact Yo (j:=0) rfl
theorem NC(rd:ae)(nb li lo:Int)(sd:ae)(a:V):#[14].lookup ("play" : al)=af:=#[o]
theorem Jx(rd:ae)(nb li lo:Int)(sd:ae)(a:V):#[14].lookup ("meet" : al)=af:=#[o]
def Jw(K:#[7])(d e:ae)(n:Nat):Sp:=λvs H Q _=>X11 λ(m rd sd:ae) (L:List ZC) (s:StL) (nb li lo:Int) (f:V) (l:ae) (N:List Int)=>vs=#[fJ,m,l]/\ZW d e H m rd sd L s nb li lo f/\H l=U #[pG]/\1<=N.length/\N.length<=60/\0<n/\N.length<=2 ^ (n-1)/\(∀x∈N,x∈ZG L)/\YM N/\(∀k,Xe n N k->Z4 s k=af)/\s.length+N.length<=100 /\
 ∀ (w:Option Int) (a:StL) (k q:Int) (c:Hp),Win #[cZ] N w->XA #[cZ] a n N->YQ #[cZ] n N k q->(∀j,¬ Xe n N j->Z4 a j=Z4 s j)->a.length+1<=s.length+N.length->ZW d e c m rd sd L a nb (li+k) (lo+q) f->#[e3,H,sd,c]->Q (Yk w) c
theorem Jv(T:#[e])(aV:#[56])(eI:#[ca])(cj:#[xp]) :
  ∀n:Nat,Mf P w K mg base (n+4) ak "play" #[ma] (Jw K aw ak n)
 | 0=>by
  show#[tP]
  ·show#[n5];rfl
  obtain⟨m,rd,sd,L,s,nb,li,lo,W,l,N,rfl,_,_,_,_,z,_⟩:=h;exact absurd z #[2]
 | n+1=>by
  have cP:=Jv T aV eI cj n;show#[tP]
  ·show#[n5];rfl
  obtain⟨m,rd,sd,L,s,nb,li,lo',W,l,N,rfl,M,B,h1,hZ,_,e7,ff,C,fg,hsz,q⟩:=h;rw[Qal]at e7;refine⟨_,#[Ze,#[ZN,#[h6,YW,#[aF]],#[Zi,#[Zr,#[WV,#[Zm,XR,#[YI,aV,T.cl_Row,G,#[Zo,(ixG G),#[I],#[eK,ixL,1]]],#[ZU],#[37]],#[ZU],#[eK,ixL,1]]]],#[Zy]],#[Ze,#[Z2,#[rR,eI,G],#[qC,2,Wa.nd,3]],#[Ze,#[Zw,4,Wa.nd,#[3],#[rp,cP,G,#[b1]]],#[Ze,#[Zw,5,Wa.nd,#[3],#[rp,cP,G,#[n1]]],#[Ze,#[ZN,#[gz,4],#[fb,5],#[Zy]],#[Ze,#[ZN,#[gz,5],#[fb,4],#[Zy]],#[Ze,#[Z2,#[Xq,cj,T.cl_Merge,G,‹0›,#[Zc,‹4›,‹5›,#[Zj]]],#[fE,6,Wa.nd,7,8]],#[Ze,#[Z2,#[ZV,#[es,7,8]],#[Yq,#[I],#[ZV,#[Zc,#[eK,ixL,1],#[rN,1]]],(XZ G)]],#[fb,6]]]]]]]]],?_⟩;show#[xo];have hN:N≠[]:=Xp h1;have Bx:l≠m:=λz=>by rw[z,hm]at B;cases B
  have Ge:l≠sd:=λz=>by rw[z,M.stays]at B;cases B
  have nh:#[iO]:=by rw[Qa]
  refine⟨_,rfl,l,_,rfl,.inl (SqL.of B),rfl,_,rfl,Y1 #[aM] #[aM]⟩
  ·have rW:N.length=1:=by have:=#[89];injection this with this;rw[nh]at this;lia
   obtain⟨n0,rfl⟩:∃n0,N=[n0]:=QaI.mp rW;obtain⟨e,he,rfl⟩:=Tc (ff n0 #[4]);show#[rF,R,he,dp,hp,R.at'.ob];have cJ:atI (([e.n]:List Int).map V.int) 0=U (.int e.n):=Yo (j:=0) rfl;refine⟨_,rfl,m,ak,dx,_,_,rfl,hm,T.cl_Merge,T.na_Merge_rows,Ye ..,_,rfl,l,_,_,_,rfl,rfl,SqL.of B,cJ,rd,_,rfl,ZM.k' (k:=#[pT]) M.rows (Wo M.nd he),e.p,dp,_,rfl,hp,U6 ..,e.p,e.k,e.f,e.ss,e.g,rfl,R.at',rfl,_,rfl,?_⟩;have cW:XA #[cZ] s (n+1) [e.n]:=λh2=>by simp at h2
   have bI:YQ #[cZ] (n+1) [e.n] 0 0:=.few (by show 1<2;decide);have X:=Win.sing (hd:=hdM L) (n:=e.n);have hd:=U7 M.nd he;have M':=M.cast (li':=li+0) (lo':=lo'+0) #[2] #[2];cases g:e.ss[e.g]? with
   | none=>rw[show WN e.ss e.g=.non by unfold WN;rw[g]];rw[hd,g]at X;exact YE rfl (q af s 0 0 H X cW bI #[kz] #[jJ] M' #[uc])
   | some x=>rw[Ta g];rw[hd,g]at X;exact YN #[t] ⟨_,rfl,l,_,_,_,rfl,rfl,SqL.of B,cJ,q (U e.n) s 0 0 H X cW bI #[kz] #[jJ] M' #[uc]⟩
  have c:#[lx]:=by have:¬ ((N.length:Int)=1):=λz=>d (decide_eq_true (by rw[nh,z]));lia
  have jI:1<=n:=by
   cases n with
   | zero=>simp at e7;lia
   | succ m=>lia
  have Bk:#[s6]:=by obtain⟨m,rfl⟩:∃m,n=m+1:=⟨n-1,by lia⟩;rw[Qbb,Qal];lia
  have iM:#[fT,lo]:=by unfold lo mid;rw[Qy];lia
  have w8:#[fT,up]:=by unfold up mid;rw[QT];lia
  have Bf:(lo N).length+(up N).length=N.length:=by rw[<- Qf,XD]
  have kZ:∀x∈lo N,x∈ZG L:=λx g=>ff x (QU g);have lb:∀x∈up N,x∈ZG L:=λx g=>ff x (Qae g);refine⟨_,rfl,l,N,rfl,SqL.of B,by lia,λt f r H2 ht hf mi FX eR qC fu s2 FY FZ=>?_⟩;rw[if_pos rfl]at eR;rw[N2]at qC;rw[N1]at fu;show#[e4,t,eR];show#[rH,M2,s2,fm,hm];show#[ii,yK,r,m,hm,mi];show#[ii,Gf,r,sd,M.stays,mi];refine⟨_,rfl,m,dx,_,rfl,fm,NC ..,_,rfl,m,rd,sd,L,s,nb,li,lo',W,f,lo N,rfl,M2,qC,(Wr c).2,iM.2,jI,iM.1,kZ,RB C,λk u=>fg k ⟨c,.inl u⟩,by lia,λw1 s1 k1 q1 H3 i S1 P1 o1 l1 M3 b3=>?_⟩;have gD:=b3 _ _ fu yK Gf;show#[ep,Gg,vm,M3.ob];refine⟨_,rfl,m,Gg,_,rfl,vm,NC ..,_,rfl,m,rd,sd,L,s1,nb,_,_,W,r,up N,rfl,M3,gD,(V8 c).2,w8.2,jI,w8.1,lb,RA C,λk u=>?_,by lia,λw2 I k2 q2 H4 p S2 P2 o2 l2 M4 b4=>?_⟩
  ·rw[o1 k ((N4 C c u).2 n)];exact fg k ⟨c,.inr (.inl u)⟩
  have sK:¬ Xe n (lo N) (ZZ N)/\¬ Xe n (up N) (ZZ N):=⟨λz=>(N5 C c z).1 rfl,λz=>(N4 C c z).1 rfl⟩;have By:XA #[cZ] I n (lo N):=S1.congr n _ #[kz] (λk u=>o2 k ((N5 C c u).2 n));have vg:Z4 I (ZZ N)=af:=by rw[o2 _ sK.2,o1 _ sK.1];exact fg _ ⟨c,.inr #[m7]⟩
  have oth:∀j,¬ Xe (n+1) N j->Z4 I j=Z4 s j:=λj hj=>by rw[o2 j (λz=>hj ⟨c,.inr (.inl z)⟩),o1 j (λz=>hj ⟨c,.inl z⟩)]
  have yL:∀b o,H b=U o->b≠m->b≠sd->H4 b=U o:=λb o hb n1 n2=>b4 b o (b3 b o (s2 b o hb) n1 n2) n1 n2;have sL:∀wn,Win #[cZ] N wn->(Win #[cZ] (lo N) af\/Win #[cZ] (up N) af)->Q (Yk wn) H4:=λwn hw dY=>by
   refine q wn I (k1+k2) (q1+q2) H4 hw (λ_=>⟨By,S2,λa b x y wa wb _ _=>?_,λ_=>.inl vg⟩) (.none c P1 P2 dY) oth #[2] (M4.cast #[2] #[2]) yL;rcases dY with z|z
   ·show#[gZ,wa]
   ·show#[gZ,wb]
  cases w1 with
  | none=>exact⟨_,rfl,rfl,_,rfl,YE rfl ⟨_,rfl,sL w2 (by have:=Win.right i p;rwa [XD]at this) (.inl i)⟩⟩
  | some a =>
  show#[35];cases w2 with
  | none=>exact⟨_,rfl,rfl,_,rfl,YE rfl ⟨_,rfl,sL (U a) (by have:=Win.left i p;rwa [XD]at this) (.inr p)⟩⟩
  | some b =>
  show#[35];obtain⟨J,vn,rq⟩:=Tc (kZ a i.1);obtain⟨O,vp,Gh⟩:=Tc (lb b p.1);subst rq;subst Gh;have Y:=U7 M.nd vn;have Z:=U7 M.nd vp;cases g:J.ss[J.g]? with
  | none=>obtain⟨_,z,hz,_⟩:=i;show#[eO,Y,g,hz]
  | some x =>
  cases hy:O.ss[O.g]? with
  | none=>obtain⟨_,z,hz,_⟩:=p;show#[eO,Z,hy,hz]
  | some y =>
  rw[g]at Y;rw[hy]at Z;show#[ep,jK,iS,M4.ob];refine⟨_,rfl,m,jK,_,rfl,iS,Jx ..,_,rfl,_,rfl,m,rd,sd,L,I,nb,_,_,W,J,O,x,y,0,rfl,M4,vn,vp,g,hy,Qu _,λt5 wi D H5 hw yM sM M5 b5=>?_⟩;show#[gJ,t5,sM];have kh:2<=ao:=by decide
  refine⟨_,rfl,_,rfl,kh,λF yN=>?_⟩;have s6:=Zg yN #[kb];show#[qu,nA,H5,F,#[kb]];have M6:=M5.same s6;generalize upd H5 F (.tup [.int D,.int ((lcp (cds x) (cds y):Nat):Int)])=H6 at s6 nA M6 ⊢;show#[tA];have Bz:H6 l=U #[pG]:=s6 _ _ (b5 _ _ (yL _ _ B Bx Ge) Bx);refine⟨_,rfl,m,ak,sN,_,_,rfl,qG,T.cl_Merge,T.na_Merge_stays,Tb ..,_,rfl,l,_,_,_,rfl,rfl,SqL.of Bz,Jy hN,_,rfl,_,rfl,l,_,_,_,rfl,rfl,SqL.of Bz,Jz hN,kh,λt7 Gi=>?_⟩;have s7:=Zg Gi #[l4];have xa:(upd H6 t7 #[l4]) t7=U (.tup (#[sU].map kV)):=Zb;have M7:=M6.same s7;generalize upd H6 t7 (.tup [.int (N.headD 0),.int (N.getLastD 0)])=H7 at s7 xa M7 ⊢;have ki:#[q3,kvS,I]:=by unfold kvS;show#[c2]
  refine⟨sd,_,rfl,Yz.t (k:=#[sU]) M7.stays xa ki,?_⟩;rw[show V.ref F=stV (U #[nv]) from rfl,RC];have bI:=Zot I (ZZ N) (U #[nv]);have l1':=(Wr c).2;have M8:=M7.put (k:=ZZ N) (v:=U #[nv]) (λt ht=>by injection ht with ht;rw[<- ht];exact s7 _ _ nA) #[2];have bR:J.n≠O.n:=λz=>by have:=ZR C i.1 p.1;lia
  have Gj:∀b o,H b=U o->b≠m->b≠sd->(upd H7 sd (.dT (kvS (Yf I (ZZ N) (U #[nv]))))) b=U o:=λb o hb n1 n2=>by rw[Zd n2];exact s7 _ _ (s6 _ _ (b5 _ _ (yL _ _ hb n1 n2) n1))
  have X:Win #[cZ] N (U wi):=by
   rcases hw with⟨S,rfl,_⟩|⟨S,rfl,_⟩
   ·have:=Win.both i p Y Z S;rwa [XD]at this
   ·have:=Win.both' i p Y Z ((Btr.total bR).resolve_left S);rwa [XD]at this
  have sO:D=if ZS #[aY] #[bv]<0\/#[lf] then O.n else J.n:=by
   rcases hw with⟨S,_,rfl⟩|⟨S,_,rfl⟩
   ·exact(if_pos (show ZS #[aY] #[bv]<0\/#[lf] from S)).symm
   ·exact(if_neg (show ¬ (ZS #[aY] #[bv]<0\/#[lf]) from S)).symm
  refine⟨_,rfl,q (U wi) _ (k1+k2+1) (q1+q2+#[r]+1) _ X (λ_=>⟨?_,?_,?_,λdY=>?_⟩) (.both c P1 P2 i p Y Z) (λj hj=>?_) #[2] (M8.cast #[2] #[2]) Gj⟩
  ·exact By.congr n _ #[kz] (λk u=>by rw[Wq,if_neg (N5 C c u).1])
  ·exact S2.congr n _ #[kz] (λk u=>by rw[Wq,if_neg (N4 C c u).1])
  ·intro a' b' x' y' wa wb oY oZ;have e1:=Qn (wa.one i);have e2:=Qn (wb.one p);subst e1;subst e2;have e3:=Qn (oY.symm.trans Y);have e4:=Qn (oZ.symm.trans Z);subst e3;subst e4;exact⟨F,by rw[Wq,if_pos rfl,sO]⟩
  ·rcases dY with z|z
   ·show#[gZ,i]
   ·show#[gZ,p]
  ·rw[Wq,if_neg (λz=>hj ⟨c,.inr (.inr z)⟩)];exact oth j hj
theorem WL.mono{C:ae}{H a:Hp}{e:ZC}(h:WL C H e)(k:∀b o,H b=U o->b=e.p\/b=e.k\/b=e.f->a b=U o):WL C a e:=by obtain⟨c,d⟩:=h.at'.ob;exact⟨⟨⟨c,k _ _ d #[8]⟩,k _ _ h.at'.ks #[tw],k _ _ h.at'.fs (.inr #[m7])⟩,h.le,h.len,h.srt,h.str⟩
theorem Ju(L:#[aI]):(kvM L).map (λa=>kV a.1)=#[k5].map V.int:=by unfold kvM ZG;rw[Qk,Qk];rfl
theorem ZnZ{n:Nat}{N:#[w]}{k:#[dW]}(_:Xe n N k):Z4 [] k=af:=rfl
def S9(c d:ae):Sp:=λvs H Q _=>X9 λ(m rd sd:ae) (L:List ZC) (s:StL) (nb li lo:Int) (g:V)=>vs=#[wH]/\ZW c d H m rd sd L s nb li lo g /\
 ∀ (e:ae) (f:StL) (w:Option Int) (k q:Int) (a:Hp),H e=af->Win #[cZ] #[k5] w->XA #[cZ] f 8 #[k5]->YQ #[cZ] 8 #[k5] k q->ZW c d a m rd e L f nb (li+k) (lo+q) (Yk w)->#[e2,H,m,a]->Q .non a
theorem ZkL(T:#[e])(Z:Mf P w K mg base 12 ak "play" #[ma] (Jw K aw ak 8)):Mf P w K mg base 13 ak "play_all" #[11] (S9 aw ak):=by
 show#[xL,T.t_Merge_play_all.mf,ZfI];obtain⟨m,j,sd,L,s,nb,p,i,t,rfl,M,q⟩:=h;refine⟨_,#[Ze,#[xu],#[Zi,#[XO,‹0›,#[WV,#[h6,VE,#[b0]],#[Xq,Z,T.cl_Merge,hr,‹0›,#[Zc,#[na]]],#[ZU]]]]],?_⟩;refine λg u=>?_;show#[gm,y,I];have z:=Zg u (.dT []);have J:(upd H g (.dT [])) g=U (.dT (kvS [])):=Zb;show#[rH,M1,z,N,I];have qH:m≠g:=Zf I u;have BA:j≠g:=Zf M.rows u;generalize upd H g (.dT [])=F at z J M1 N ⊢;refine⟨_,rfl,m,ak,y,_,rfl,N,T.cl_Merge,T.na_Merge_stays,V4 ..,?_⟩;rw[Zh9];show#[hU,n1,n2,n3,M.ne_m];have M2:ZW aw ak #[m1] m j g L [] nb p i t:=by refine⟨⟨y,Zb⟩,by rw[Zd n1.symm];exact M1.rows,by rw[Zd qH.symm];exact J,#[eP,e,B],λe B=>?_,M.up,M.pd,M.few,by decide⟩;show#[qS,a,b,c,M1.ne_p,B];show#[fX,M1.each,B]
 have k2:∀b o,H b=U o->b≠m->#[m1] b=U o:=λb o v n=>by rw[Zd n];exact z b o v
 generalize upd F m (.ins ak y (mgF j nb p i g t))=O at M2 k2 ⊢;show#[ep,C,D,M2.ob];have bb:#[o5]:=by unfold kvM;rw[Qa]
 have gK:#[k5].length=L.length:=by unfold ZG;rw[Qa]
 have eK:=M.few;refine⟨_,rfl,m,ak,C,_,_,rfl,D,T.cl_Merge,T.na_Merge_rows,Ye ..,j,_,rfl,M2.rows,_,_,rfl,rfl,_,rfl,Y1 #[aM] #[aM]⟩
 ·have gU:0<L.length:=by have:#[xh]<#[81]:=#[89];lia
  refine⟨_,rfl,m,C,_,rfl,D,NC ..,_,rfl,m,ak,C,_,_,rfl,D,T.cl_Merge,T.na_Merge_rows,Ye ..,j,_,rfl,M2.rows,λl hl=>?_⟩;rw[Ju];have G:=Zg hl #[aE];show#[ew,R,O,l,#[aE]];have X:=M2.same G;generalize upd O l (.lst ((ZG L).map V.int))=H3 at G R X ⊢;refine⟨m,j,g,L,[],nb,p,i,t,l,ZG L,rfl,X,R,by lia,by lia,by decide,Ql (by lia:#[k5].length<=60) #[6],λx hx=>hx,M.up,λk hk=>ZnZ hk,by show 0+_<=_;lia,λw1 s' k q' H4 W S Pl _ _ Y b4=>?_⟩;show#[ep,jK,iS,Y.ob];show#[fH,jK,iS];exact q g s' w1 k q' _ u W S Pl Y.obj (λb o v n=>by rw[Zd n];exact b4 b o (G b o (k2 b o v n)) n (Zf v u))
 ·have sP:L=[]:=by
   cases L with
   | nil=>rfl
   | cons e r=>exact absurd (decide_eq_true (show (0:Int)<(((kvM (e::r)).length:Nat):Int) by rw[bb];simp only[List.length_cons];lia)) d
  subst sP;show#[fH,C,D];exact q g [] af 0 0 _ u (Win.nil _) (λh2=>absurd h2 #[6]) (.few #[6]) (M2.obj.cast #[2] #[2]) (λb o v n=>by rw[Zd n];exact k2 b o v n)
def S7(L:#[aI])(a:#[cc]):Prop:=ZG L=Xr 0 a.length/\L.map (λe=>(e.ss,e.g))=a.map λx=>(x.2,0)
def ZjW(g d:ae):Sp:=λvs H Q _=>X4 λ(m dx r:ae) (a:List (ae×List al))=>vs=#[fJ,m,r]/\H m=U (.ins d dx [])/\VN H r a/\(∀x∈a,sortedS x.2=true) /\
 ∀ (e f:ae) (L:List ZC) (s:StL) (w:Option Int) (k q:Int) (c:Hp),ZW g d c m e f L s #[be] k q (Yk w)->S7 L a->Win #[cZ] #[k5] w->XA #[cZ] s 8 #[k5]->YQ #[cZ] 8 #[k5] k q->(∀b,Fp m e f L b->b=m\/H b=af)->#[e2,H,m,c]->Q .non c
theorem Rj(rd:ae)(nb li lo:Int)(sd:ae)(a:V):#[14].lookup ("play_all" : al)=af:=#[o]
theorem S6{ss:#[Q]}(h:#[oh]):XF ss .non:=by refine .inl ⟨rfl,λi x y a b=>?_⟩;have:=J6 h i y x b a;have:=VQ #[bv] #[aY];lia
theorem Zic(T:#[e])(bq:#[66])(dM:#[mC])(aT:#[93]):Cf P w K mg base 14 ak "Merge" #[u8] (ZjW aw ak):=by
 show#[xL,T.t_Merge_init.cf,Ov];obtain⟨m,g,r,l,rfl,Z,N,eW,q⟩:=h;refine⟨_,#[Ze,#[XO,‹0›,(@Sj _ _)],#[Ze,#[XS,bf.never,#[iE,K,T.b.n_enumerate,#[X]],#[qC,2,Ov.nd,3],#[Ze,#[ZX,#[et,bq,hr,2,3]],#[Zi,#[Z2,#[T9,dM,hr,#[n1]],#[h2,#[I],2,hr]]]]],#[Ze,#[XO,‹0›,#[aF]],#[Ze,#[pN],#[Ze,#[pN],#[Ze,#[xu],#[Ze,#[XO,‹0›,#[ZU]],#[Zi,#[ZX,#[eC,aT,hr]]]]]]]]]],?_⟩;refine λc lH=>?_;have yO:m≠c:=Zf Z lH;have s1:=Zg lH (.dK []);have gc:(upd H c (.dK [])) c=U (.dK (kvM [])):=Zb;have fA:=s1 _ _ Z;generalize upd H c (.dK [])=H1 at s1 gc fA ⊢;refine⟨_,rfl,m,ak,g,_,rfl,fA,T.cl_Merge,T.na_Merge_rows,#[sk,0],?_⟩;have sQ:r≠m:=λz=>by have:=N.at';show#[hD,Z]
 have k2:#[qw,o,m,H1,m,#[kO]]:=λb o d n=>by rw[Zd n];exact s1 b o d
 show#[qu,fm,H1,m,#[kO]];have fu:(upd H1 m #[kO]) c=U (.dK (kvM [])):=by rw[Zd yO.symm];exact gc
 generalize upd H1 m (.ins ak g (ZA "rows" (.ref c) []))=H2 at k2 fm fu ⊢;have eK:=N.few;have Gk:#[67].lookup #[de]=U (V.ref c):=by rw[Zs,if_pos rfl]
 refine⟨_,rfl,r,_,rfl,SqL.of (k2 _ _ N.at' sQ),?_⟩;refine So (K:=K) (a:=r) (xs:=l.map λx=>V.ref x.1) (λi σ t=>X3 λ(L:List ZC) (v2 v3:Option V)=>σ=[U (.ref m),U #[jV],v2,v3]/\t m=U #[kO]/\t c=U #[cC]/\(∀e∈L,WL aw t e)/\S7 L (l.take i)/\#[xd].Nodup/\(∀e∈L,H e.p=af/\H e.k=af/\H e.f=af)/\#[e2,H,m,t]) ⟨[],_,_,rfl,fm,fu,#[eP,e,h],#[bM],List.nodup_nil,#[eP,e,h],k2⟩ (λi σ t hq=>by obtain⟨_,_,_,_,_,_,_,_,_,_,k5⟩:=hq;exact SqL.of (k5 _ _ N.at' sQ)) ?_ ?_
 ·rintro i y σ t p hy ⟨L,v2,v3,rfl,I,F,C,⟨n1,n2⟩,pd,cX,k5⟩ hp;rw[Qp]at hy;cases hz:l[i]? with
  | none=>rw[hz]at hy;cases hy
  | some x =>
  show#[ex,hz,hy,dG,l.length];have yP:=Qv hz;obtain⟨lx,gj,jh⟩:=N.lst x yP;have Gm:x.1≠m:=λz=>by rw[z,Z]at lx;cases lx
  have yI:L.length=i:=by have:=#[eZ,n1];unfold ZG at this;rw[Qa,Ub,Qy]at this;lia
  have aX:∀e∈L,e.n≠(i:Int):=λe he z=>by
   have h1:e.n∈Xr 0 (l.take i).length:=by rw[<- n1];exact Qg (f:=λe:ZC=>e.n) he
   show#[hL,j,hj,ej];rw[Qy]at this;lia
  have sp:=Zg hp #[ar];show#[ew,sH,t,p,#[ar]];generalize upd t p (.tup [.int (i:Int),.ref x.1])=H6 at sp sH ⊢;show#[e4,p,sH];have BC:H6 x.1=U #[aH]:=sp _ _ (k5 _ _ lx Gm);refine⟨_,rfl,_,rfl,(i:Int),x.1,x.2,rfl,SqL.of BC,by lia,λs hs=>(jh s hs).1,S6 (eW x yP),λH7 s7=>?_⟩;have BD:=sp.trans s7;refine⟨_,rfl,λu G hu nB Gn=>?_⟩;have O:t u=af:=BD.free hu;have BE:#[dP] x.1=U #[aH]:=by have:=s7 _ _ BC;show#[iP]
  have s8:#[rO,t,#[dP]]:=λb o d=>by have:=BD _ _ d;show#[iP]
  have sR:#[dP] u=U (.ins aw G []):=Zb;generalize upd (upd H7 G (.own u)) u (.ins aw G [])=X at BE s8 sR ⊢;refine⟨u,G,x.1,x.2,rfl,sR,BE,gj,λs hs=>(jh s hs).1,λk f H9 hk D yC R k9=>⟨rfl,?_⟩⟩;have s9:#[rO,t,H9]:=λb o d=>k9 b o (s8 b o d) (Zf d O);have Y:∀b,X b=af->t b=af:=λb d=>by
   cases e:t b with
   | none=>rfl
   | some o=>rw[s8 b o e]at d;cases d
  have jL:∀b,b≠m->t b=af->H b=af:=λb nb d=>by
   cases e:H b with
   | none=>rfl
   | some o=>rw[k5 b o e nb]at d;cases d
  have num:u≠m:=λz=>by rw[z,I]at O;cases O
  have Go:k≠m:=λz=>by have:=Y k hk;show#[hD,I]
  have yK:f≠m:=λz=>by have:=Y f D;show#[hD,I]
  have o5:c≠u/\c≠k/\c≠f:=⟨Zf F O,Zf F (Y k hk),Zf F (Y f D)⟩;have hsz:#[q3,kvM,L]:=by unfold kvM;show#[c2]
  have jI:#[rM,kvM]:=by
   cases hv:Zt (kvM L) (.inl (i:Int)) with
   | none=>rfl
   | some v=>obtain⟨e,he,z⟩:=Qq.mp (VW hv);injection z with z _;exact #[nc]
  refine⟨_,rfl,m,ak,g,_,_,rfl,s9 _ _ I,T.cl_Merge,T.na_Merge_rows,Gk,_,rfl,c,_,rfl,Yz.k (k:=.inl (i:Int)) (s9 _ _ F) hsz,?_⟩;rw[VY _ jI,show kvM L++[(#[qo],V.ref u)]=kvM (L++[⟨(i:Int),u,k,f,x.2,0⟩]) by unfold kvM;rw[Qd];rfl];refine⟨L++[⟨(i:Int),u,k,f,x.2,0⟩],_,_,rfl,by rw[Zd yO];exact s9 _ _ I,Zb,λe he=>?_,#[ww],?_,λe he=>?_,λb o d n=>?_⟩
  ·rcases Qj.mp he with he|he
   ·show#[tQ];refine J.mono λb o d bS=>?_;have nb:b≠c:=λz=>by
     rw[z,F]at d;injection d with d;subst d;rcases bS with z2|z2|z2
     ·rw[<- z2,z,F]at fU;cases fU
     ·show#[ij,J.at'.ks,F]
     ·show#[ij,J.at'.fs,F]
    rw[Zd nb];exact s9 b o d
   ·rw[Qi.mp he];refine WL.keep (H:=H9) ⟨R,Qu _,gj,eW x yP,jh⟩ (Zd o5.1.symm) (Zd o5.2.1.symm) (Zd o5.2.2.symm)
  ·unfold ZG at n1 ⊢;show#[ln]
  ·rw[Qd,n2,QL,hz,Qd];rfl
  ·show#[fB,pd,a,ha,b,d];have:b=u:=by simpa using d
   rw[this];obtain⟨de,fU⟩:=(C e he).at'.ob;exact Zf fU O
  ·rcases Qj.mp he with he|he
   ·exact cX e he
   ·rw[Qi.mp he];exact⟨jL u num O,jL k Go (Y k hk),jL f yK (Y f D)⟩
  ·rw[Zd (Zf d lH)];exact s9 b o (k5 b o d n)
 ·rintro σ t ⟨L,v2,v3,rfl,I,F,C,i8,pd,cX,k5⟩;rw[Qa,Qx #[jJ]]at i8;have p1:=VO "rows" (V.ref c) [];have p2:=VO "next_number" (V.int #[c4]) #[67];have p3:=VO "likened" (V.int 0) (ZA "next_number" (.int #[c4]) #[67]);have p4:=VO "looked" (V.int 0) #[g];have p0:#[uW]:=rfl;refine⟨_,rfl,r,_,rfl,.inl (SqL.of (k5 _ _ N.at' sQ)),_,rfl,m,ak,g,_,rfl,I,T.cl_Merge,T.na_Merge_next_number,by lia,?_⟩;rw[Qa];refine⟨_,rfl,m,ak,g,_,rfl,Zb,T.cl_Merge,T.na_Merge_likened,by lia,_,rfl,m,ak,g,_,rfl,Zb,T.cl_Merge,T.na_Merge_looked,by lia,?_⟩;have k8:∀b,b≠m->#[aP] b=t b:=λb n=>by rw[Zd n,Zd n,Zd n]
  have yQ:#[aP] m=U (.ins ak g #[um]):=Zb;generalize (upd (upd (upd t m (.ins ak g (ZA "next_number" (.int (l.length:Int)) (ZA "rows" (.ref c) [])))) m (.ins ak g (ZA "likened" (.int 0) (ZA "next_number" (.int (l.length:Int)) (ZA "rows" (.ref c) []))))) m (.ins ak g (ZA "looked" (.int 0) (ZA "likened" (.int 0) (ZA "next_number" (.int (l.length:Int)) (ZA "rows" (.ref c) []))))))=X at k8 yQ ⊢;refine λB mj=>?_;have qH:m≠B:=Zf yQ mj;have p5:=VO "stays" (V.ref B) #[um];refine⟨_,rfl,m,ak,g,_,rfl,by rw[Zd qH];exact yQ,T.cl_Merge,T.na_Merge_stays,by lia,_,rfl,m,ak,g,_,rfl,Zb,T.cl_Merge,T.na_Merge_best,by lia,?_⟩;have nC:t B=af:=by rw[<- k8 B qH.symm];exact mj
  have o6:#[H] m=U (.ins ak g (mgF c #[c4] 0 0 B .non)):=by rw[VL];exact Zb
  have BF:#[H] B=U (.dT (kvS [])):=by rw[Zd qH.symm,Zd qH.symm];exact Zb
  have k9:#[fh,o,t,m,#[H]]:=λb o d n=>by rw[Zd n,Zd n,Zd (Zf d nC),k8 b n];exact d
  generalize (upd (upd (upd X B (.dT [])) m (.ins ak g (ZA "stays" (.ref B) (ZA "looked" (.int 0) (ZA "likened" (.int 0) (ZA "next_number" (.int (l.length:Int)) (ZA "rows" (.ref c) []))))))) m (.ins ak g (ZA "best" .non (ZA "stays" (.ref B) (ZA "looked" (.int 0) (ZA "likened" (.int 0) (ZA "next_number" (.int (l.length:Int)) (ZA "rows" (.ref c) []))))))))=H9 at o6 BF k9 ⊢;have yI:L.length=l.length:=by have:=#[eZ,i8.1];show#[r2,Ub]
  have M9:ZW aw ak H9 m c B L [] #[c4] 0 0 .non:=by
   refine⟨⟨g,o6⟩,k9 _ _ F yO.symm,BF,#[eP,e,he],λe he=>?_,by rw[i8.1];exact JD _,pd,by lia,by decide⟩;show#[tQ];refine J.mono λb o d bS=>k9 b o d λz=>?_;have D:=cX e he;have M:=Z;rw[<- z]at M;rcases bS with z2|z2|z2
   ·show#[eO,z2,D.1,M]
   ·show#[eO,z2,D.2.1,M]
   ·show#[eO,z2,D.2.2,M]
  refine⟨_,rfl,m,g,_,rfl,o6,Rj ..,m,c,B,L,[],_,0,0,.non,rfl,M9,λbJ s' w1 k q' eT gk W S Pl nD Gp=>?_⟩;have jL:∀b,b≠m->H9 b=af->H b=af:=λb nb d=>by
   cases e:H b with
   | none=>rfl
   | some o=>rw[k9 b o (k5 b o e nb) nb]at d;cases d
  refine q c bJ L s' w1 k q' eT (nD.cast #[2] #[2]) i8 W S Pl (λb d=>?_) (λb o d n=>Gp b o (k9 b o (k5 b o d n) n) n);rcases d with rfl|rfl|rfl|⟨e,he,d⟩
  ·exact #[oA]
  ·exact .inr lH
  ·exact .inr (jL _ (λz=>by rw[z,o6]at gk;cases gk) gk)
  ·have D:=cX e he;rcases d with rfl|rfl|rfl
   ·exact .inr D.1
   ·exact .inr D.2.1
   ·exact .inr D.2.2
theorem ZsA{c:Bool}{e:#[nh]}{T:#[p0]}{b:Hp}(h1:c=true->∀d:Bool->Hp->Prop,(∀a,ZF b a->d false a)->e d)(h2:∀a,ZF b a->T false a):if c=true then e T else T false b:=by
 cases c with
 | true=>rw[if_pos rfl];exact h1 rfl T h2
 | false=>rw[if_neg #[6]];exact h2 b #[ti]
def Jt(a b:ae):Sp:=λvs H Q _=>X9 λ(m rd sd:ae) (L:List ZC) (s:StL) (nb li lo:Int) (c:V)=>vs=#[wH]/\ZW a b H m rd sd L s nb li lo c/\Q (.int li) H
def Js(a b:ae):Sp:=λvs H Q _=>X9 λ(m rd sd:ae) (L:List ZC) (s:StL) (nb li lo:Int) (c:V)=>vs=#[wH]/\ZW a b H m rd sd L s nb li lo c/\Q (.int lo) H
theorem Zjc(T:#[e]):Mf P w K mg base 1 ak "likenings" #[11] (Jt aw ak):=by
 show#[ee,T.t_Merge_likenings.mf,Zfb,a,hr];show#[cW];exact#[xX,g,i,T.na_Merge_likened,NE,q]
theorem Zoe(T:#[e]):Mf P w K mg base 1 ak "looks" #[11] (Js aw ak):=by
 show#[ee,T.t_Merge_looks.mf,ZhJ,a,hr];show#[cW];exact#[xX,g,i,T.na_Merge_looked,JB,q]
def NA(b c:ae):Sp:=λvs H Q _=>X9 λ(m rd sd:ae) (L:List ZC) (s:StL) (nb li lo:Int) (w:Option Int)=>vs=#[wH]/\ZW b c H m rd sd L s nb li lo (Yk w)/\Win #[cZ] #[k5] w/\∀ (x:V) (a:Hp),U8 #[aC] a x->ZF H a->Q x a
theorem Znn(T:#[e])(r:#[56]):Mf P w K mg base 3 ak "coming" #[11] (NA aw ak):=by
 show#[ee,T.t_Merge_coming.mf,Ks,u,i];obtain⟨m,j,v,L,s,nb,y,lo,w,rfl,M,W,q⟩:=h;refine⟨_,#[Ze,#[ZN,#[Zm,XR,#[I],#[ZU],#[37]],#[tH],#[Zy]],#[Ze,#[Zw,1,Ks.nd,#[3],#[Zo,(ixG i),#[I],#[I]]],#[Zi,#[Zr,#[ZV,#[Zc,#[I],#[ZO,‹1›],#[rS,r,i,1]]]]]]],?_⟩;show#[gm,b,c];refine⟨_,rfl,m,ak,b,_,_,rfl,c,T.cl_Merge,T.na_Merge_best,Rl ..,rfl,_,rfl,?_⟩;have l:Win (hdL #[aC]) (#[aC].map #[T]) w:=by rw[V5];exact W
 cases w with
 | none=>exact YE rfl (q _ H (.inl ⟨rfl,l⟩) #[w6])
 | some a =>
  obtain⟨e,d,rfl⟩:=Tc W.1;show#[rF,R,d,n,o,R.at'.ob];have B:=U7 M.nd d;cases g:e.ss[e.g]? with
  | none=>obtain⟨_,z,p,_⟩:=W;show#[eO,B,g,p]
  | some x =>
  refine YN #[t] ?_;refine⟨_,rfl,m,ak,b,_,_,rfl,c,T.cl_Merge,T.na_Merge_rows,Ye ..,_,rfl,m,ak,b,_,_,rfl,c,T.cl_Merge,T.na_Merge_best,Rl ..,j,_,rfl,ZM.k' (k:=#[pT]) M.rows (Wo M.nd d),_,rfl,m,ak,b,_,_,rfl,c,T.cl_Merge,T.na_Merge_best,Rl ..,_,rfl,e.p,aw,n,_,_,rfl,o,T.cl_Row,T.na_Row_gone,Tj ..,_,rfl,e.p,n,_,rfl,o,U6 ..,e.p,e.k,e.f,e.ss,e.g,rfl,R.at',#[21],λt C=>?_⟩;rw[Ta g];exact q _ _ (.inr ⟨t,toL e,x,rfl,Qg d,g,Zb,l⟩) (Zg C _)
def Jr(b c:ae):Sp:=λvs H Q _=>X9 λ(m rd sd:ae) (L:List ZC) (s:StL) (nb li lo:Int) (d:V)=>vs=#[wH]/\ZW b c H m rd sd L s nb li lo d/\∀a:Hp,ZF H a->Q (.int (YO #[aC]).sum) a
theorem Zjm(k f:ae)(g:Int):#[ji].lookup ("to_go" : al)=af:=#[jQ]
theorem ZoN(T:#[e])(J:#[aV]):Mf P w K mg base 2 ak "left" #[11] (Jr aw ak):=by
 show#[ee,T.t_Merge_left.mf,Zh5,N,O];obtain⟨m,a,S,L,s,nb,W,lo,X,rfl,M,q⟩:=h;refine⟨_,#[Zi,#[Zr,#[Zk,(Lu K),#[5],T.b.n_sum,boot_sum,#[Zc,(@O6 _ _ _ #[Xj,Op,(@Zq1 _ _ _ _ _ _ #[I] #[5] #[5]),#[eY,1,Op],#[94],(λ_ _ _ _=>#[YI,J,T.cl_Row,O,#[cw,1,Op]])])]]]],?_⟩;show#[gm,Y,Z];have eK:=M.few;refine⟨a,_,M.rows,True.intro,_,rfl,m,ak,Y,_,_,rfl,Z,T.cl_Merge,T.na_Merge_rows,Ye ..,a,_,rfl,M.rows,λj B t=>?_⟩;have u:#[wd] a=U (.frz j #[cC]):=Zb;have k1:∀b x,H b=U x->b≠a->#[wd] b=U x:=λb x h n=>by rw[Zd n];exact h
 show#[rl,j,kvM,H1,u,t];refine Zrq (d:=a) (o:=j) (kvs:=kvM L) (λi zs D c=>(∃v:Option V,D=[U (.ref m),v])/\zs=(YO ((L.take i).map toL)).map V.int/\i<=L.length/\c B=U #[l5]/\ZF H1 c) ?_ #[q6,u] ?_ ?_
 ·exact⟨⟨af,rfl⟩,rfl,Qu _,Zb,Zg t _⟩
 ·rintro i k x zs D c l ⟨⟨v,rfl⟩,rfl,hi,y,p⟩;unfold kvM at l;rw[Qp]at l;cases r:L[i]? with
  | none=>rw[r]at l;cases l
  | some e =>
  show#[ex,r,l,dG,L.length];have C:=Qv r;have R:=M.each e C;obtain⟨_,_,_,n1,n2,n3⟩:=M.ne_sd C;have R2:WL aw c e:=R.mono λb o g bS=>p _ _ (k1 b o g #[iw]);show#[ep,dp,hp,R2.at'.ob];refine⟨_,rfl,e.p,dp,_,rfl,hp,Zjm ..,e.p,e.k,e.f,e.ss,e.g,rfl,R2.at',y,(by unfold YO;rw[Qa,Qa,Qa,Qy];exact Zn #[2]),#[K],?_,dG,Zb,λb x g=>?_⟩
  ·rw[QL,r,Qd];unfold YO;rw[Qd,Qd];rfl
  ·show#[qR,g,t,p,x]
 rintro zs D c ⟨⟨v,rfl⟩,rfl,_,y,p⟩;have iB:#[wS]:=by unfold kvM;rw[Qa]
 show#[sm,y,j,p,u];have F:(upd c a #[cC]) B=U #[rE,YO,#[aC]]:=by rw[Zd (Zf u t).symm];exact y
 have G:ZF H (upd c a #[cC]):=λb x g=>by
  by_cases e:b=a
  ·rw[e,M.rows]at g;rw[e,Zb];exact g
  ·show#[xW,p,g]
 generalize upd c a (.dK (kvM L))=H3 at F G ⊢;refine⟨B,YO #[aC],rfl,SqL.of F,(by unfold YO;rw[Qa,Qa];lia),λn I=>?_,q H3 G⟩;unfold YO at I;show#[en,e',cA,I];show#[en,e,C,cA];have R:=M.each e C;have a1:=R.le;have a2:=R.len;show 0<=#[kP]/\#[kP]<=_;lia
noncomputable def Wn(L:#[41]):List (Int×Option al):=L.map λe=>(e.1,e.2.2.1[e.2.2.2]?)
def VJ(H:Hp)(l:ae)(E:#[J]):Prop:=∃a:List (ae×Int×Option al),a.map #[uQ]=E/\H l=U #[fv,a.map]/\∀t∈a,H t.1=U #[kZ]
theorem Jq(ss:#[Q])(g:Nat):WN ss g=oV ss[g]?:=by unfold WN oV;cases ss[g]?<;>rfl
def Jp(b c:ae):Sp:=λvs H Q _=>X9 λ(m rd sd:ae) (L:List ZC) (s:StL) (nb li lo:Int) (d:V)=>vs=#[wH]/\ZW b c H m rd sd L s nb li lo d/\∀ (l:ae) (a:Hp),H l=af->VJ a l (Wn #[aC])->ZF H a->Q #[cq] a
theorem Znz(T:#[e])(aV:#[56]):Mf P w K mg base 3 ak "heads" #[11] (Jp aw ak):=by
 show#[xL,T.t_Merge_heads.mf,Zhx];obtain⟨m,a,sd,L,s,nb,li,lo,aC,rfl,M,q⟩:=h;refine⟨_,#[Zi,#[Zr,(@O6 _ _ _ #[Xj,Tq,(@Zpv _ _ _ _ _ _ _ _ #[I] #[5] #[5]),(λ_ _ _ _=>#[gT,K,2,#[Zz,#[cg,1,Tq],#[Zz,#[cg,2,Tq],(@Yg _)]]]),#[94],(λ_ _ _ _=>#[ZV,#[Zc,#[cw,1,Tq],#[YI,aV,T.cl_Row,hr,#[cw,2,Tq]]]])])]],?_⟩;show#[xo];have eK:=M.few;refine⟨a,_,M.rows,True.intro,_,rfl,m,ak,dx,_,_,rfl,hm,T.cl_Merge,T.na_Merge_rows,Ye ..,a,_,rfl,M.rows,λg B c=>?_⟩;show#[qu,F,H,a,#[mO]];have k1:#[qw,x,a,H,a,#[mO]]:=λb x h n=>by rw[Zd n];exact h
 have Gq:H B=af:=by
  cases e:H B with
  | none=>rfl
  | some o =>
   by_cases z:B=a
   ·rw[z]at c;rw[show (upd H a #[mO]) a=U #[mO] from Zb]at c;cases c
   ·rw[k1 B o e z]at c;cases c
 show#[rl,g,kvM,H1,F,c];refine Zq4 (d:=a) (o:=g) (kvs:=kvM L) (λi zs J r=>(X2 λN O:Option V=>J=[U (.ref m),N,O])/\(∃j:List (ae×Int×Option al),j.map #[uQ]=Wn ((L.take i).map toL)/\zs=#[fO,j.map]/\∀t∈j,r t.1=U #[kZ]/\t.1≠B/\t.1≠a)/\i<=L.length/\r B=U #[l5]/\ZF H1 r) ?_ #[q6,F] ?_ ?_
 ·exact⟨⟨af,af,rfl⟩,⟨[],rfl,rfl,#[eP,t,h]⟩,Qu _,Zb,Zg c _⟩
 ·rintro i k x zs J r p v ⟨⟨N,O,rfl⟩,⟨j,G,rfl,S⟩,hi,W,y⟩ Gr;unfold kvM at v;rw[Qp]at v;cases I:L[i]? with
  | none=>rw[I]at v;cases v
  | some e =>
  show#[ex,I,v,dG,L.length];have he:=Qv I;have R:=M.each e he;obtain⟨_,_,_,n1,n2,n3⟩:=M.ne_sd he;have C:=Zg Gr #[qs];have BG:(upd r p #[qs]) p=U (.tup [.int e.n,.ref e.p]):=Zb;generalize upd r p (.tup [kV (.inl e.n),.ref e.p])=H3 at C BG ⊢;have R2:WL aw H3 e:=R.mono λb o l bS=>C _ _ (y _ _ (k1 b o l #[iw]));show#[ep,dp,hp,R2.at'.ob];have iA:=C _ _ W;have r8:=C _ _ (y _ _ F);have bb:j.length=i:=by have:=#[eZ,G];unfold Wn at this;rw[Qa,Qa,Qa,Qy]at this;lia
  refine⟨p,_,rfl,SqT.of BG,rfl,_,_,rfl,_,_,rfl,rfl,_,rfl,_,rfl,e.p,dp,_,rfl,hp,U6 ..,e.p,e.k,e.f,e.ss,e.g,rfl,R2.at',#[L],λt D=>?_⟩;rw[Jq];have X:B≠t:=Zf iA D;have qJ:a≠t:=Zf r8 D;refine⟨by rw[Zd X];exact iA,#[ec],⟨_,_,rfl⟩,⟨j++[(t,e.n,e.ss[e.g]?)],?_,by rw[Qd];rfl,λu hu'=>?_⟩,dG,Zb,λb x l=>?_⟩
  ·rw[Qd,G,QL,I,Qd];unfold Wn;rw[Qd];rfl
  ·rcases Qj.mp hu' with hu'|hu'
   ·obtain⟨Y,Z,g3⟩:=S u hu';have:=C _ _ Y;exact⟨by rw[Zd Z,Zd (Zf this D)];exact this,Z,g3⟩
   ·rw[Qi.mp hu'];exact⟨by rw[Zd X.symm];exact Zb,X.symm,qJ.symm⟩
  ·have:=C b x (y b x l);rw[Zd (Zf l c),Zd (Zf this D)];exact this
 rintro zs J r ⟨⟨N,O,rfl⟩,⟨j,G,rfl,S⟩,_,W,y⟩;have iB:#[wS]:=by unfold kvM;rw[Qa]
 show#[sm,G,g,y,F];show#[ii,Gs,B,a,F,c];refine q B _ Gq ⟨j,G,by rw[Zd Gs];exact W,λt D=>?_⟩ #[qK,b,x,l]
 ·obtain⟨Y,Z,g3⟩:=S t D;rw[Zd g3];exact Y
 ·by_cases e:b=a
  ·rw[e,M.rows]at l;rw[e,Zb];exact l
  ·show#[xW,y,l]
def Agr(Lo:#[41])(L:#[aI]):Prop:=Lo.map #[ce]=L.map (λe=>(e.n,#[vC]))
theorem S4{Lo:#[41]}{L:#[aI]}(h:#[oy]){α:Type}(F:Int×List al×Nat->α):Lo.map (λe=>F #[oN])=#[aC].map (λe=>F #[oN]):=by have:=congrArg (List.map F) h;rw[Qk,Qk]at this;rw[Qk];exact this
theorem WK{Lo:#[41]}{L:#[aI]}(h:#[oy]):Lo.map #[T]=ZG L:=by have:=S4 h (λx=>x.1);rw[show (L.map toL).map (λe=>e.1)=ZG L from V5 L]at this;exact this
theorem Ri:∀ (A B:List ZE),A.map #[ce]=B.map #[ce]->hdL A=hdL B
 | [],[],_=>rfl
 | [],_::_,h=>by cases h
 | _::_,[],h=>by cases h
 | a::A,b::B,h=>by
  rw[Qs,Qs]at h;injection h with h1 h2;injection h1 with d h4;have f:=Ri A B h2;funext n;show#[my];split
  ·show#[wz]
  ·exact c
theorem S0{Lo:#[41]}{L:#[aI]}(h:#[oy]):hdL Lo=hdM L:=Ri _ _ (S4 h (λx=>x))
theorem Zrx{Lo:#[41]}{L:#[aI]}(h:#[oy]):Wn Lo=Wn #[aC]:=S4 h (λx=>(x.1,x.2.1[x.2.2]?))
theorem ZoV{Lo:#[41]}{L:#[aI]}(h:#[oy]):YO Lo=YO #[aC]:=S4 h (λx=>(x.2.1.length:Int)-(x.2.2:Int))
theorem Jo{α c d e:Type}{f:α->d}{i:c->d}{g:α->e}{g':c->e}:∀ (xs:List α) (ys:List c),xs.map f=ys.map i->xs.map g=ys.map g'->xs.map (λx=>(f x,g x))=ys.map (λy=>(i y,g' y))
 | [],[],_,_=>rfl
 | [],_::_,h,_=>by cases h
 | _::_,[],h,_=>by cases h
 | a::A,b::B,h,k=>by rw[Qs,Qs]at h k;injection h with h1 h2;injection k with k1 k2;rw[Qs,Qs,Jo A B h2 k2,h1,k1]
theorem Zqo{Lo:#[41]}{L:#[aI]}{a b:#[cc]}(h:Ro Lo a)(k:S7 L b)(e:a.map #[uQ]=b.map #[uQ]):Agr Lo L:=by
 have c:a.length=b.length:=by have:=#[eZ,e];show#[fz,Qa,Qa]
 have d:a.map (λx=>(x.2,0))=b.map (λx=>(x.2,0)):=by have:=congrArg (List.map λy:List al=>(y,0)) e;show#[fz,Qk,Qk]
 exact Jo Lo L (by rw[h.1,c];exact k.1.symm) (by rw[h.2,d];exact k.2.symm)
theorem Wm{α a:Type}:∀ {P:List (α×a)},(P.map #[T]).Nodup->∀ {p q:α×a},p∈P->q∈P->p.1=q.1->p=q
 | [],_,_,_,h,_,_=>by cases h
 | x::r,nd,p,q,b,hq,e=>by
  rw[Qs,Q5]at nd;rcases QO.mp b with h1|h1
  ·rcases QO.mp hq with h2|h2
   ·rw[h1,h2]
   ·exact absurd (show x.1∈r.map #[T] by rw[<- h1,e];exact Qg (f:=λx:α×a=>x.1) h2) nd.1
  ·rcases QO.mp hq with h2|h2
   ·exact absurd (show x.1∈r.map #[T] by rw[<- h2,<- e];exact Qg (f:=λx:α×a=>x.1) h1) nd.1
   ·exact Wm nd.2 h1 h2 e
def Zua(x:V):Prop:=x=.non\/(∃b,x=.bl b)\/(∃i,x=.int i)\/∃s,x=.str s
structure F2 (R:V->V->Prop) (xs ys:#[pO]):Prop where
 len:xs.length=ys.length
 at':∀ (i:Nat) (x y:V),xs[i]? = U x->ys[i]? = U y->R x y
theorem F2.nil{R:V->V->Prop}:F2 R [] []:=⟨rfl,λi x y h=>by simp at h⟩
theorem F2.cons{R:V->V->Prop}{x y:V}{xs ys:#[pO]}(h:R x y)(t:F2 R xs ys):F2 R (x::xs) (y::ys):=by
 refine⟨by rw[QH,QH,t.len],λi a b c d=>?_⟩;cases i with
 | zero=>simp at c d;rw[<- c,<- d];exact h
 | succ i=>exact t.at' i a b #[el,c] #[el,d]
theorem U5{H:Hp}{n:Nat}{x:V}(h:Zua x):IsD H (n+1) x x:=.inl ⟨rfl,h⟩
theorem WJ{H:Hp}{n:Nat}(i:Int):IsD H (n+1) #[u4] #[u4]:=U5 (.inr (.inr (.inl ⟨i,rfl⟩)))
theorem ZsB{H:Hp}{n:Nat}(o:Option al):IsD H (n+1) (oV o) (oV o):=by
 cases o with
 | none=>exact U5 #[8]
 | some s=>exact U5 (.inr (.inr (.inr ⟨s,rfl⟩)))
theorem Nz{H:Hp}{n:Nat}{p q:ae}{xs ys:#[pO]}(a:H p=U #[kM])(hq:H q=U #[l6])(h:xs.length<=1000)(f:F2 (IsD H n) xs ys):IsD H (n+1) #[bS] (.ref q):=.inr ⟨p,q,xs,ys,rfl,rfl,.inl ⟨a,hq⟩,f.len,h,f.at'⟩
theorem Ny{H:Hp}{n:Nat}{p q:ae}{xs ys:#[pO]}(a:H p=U #[dG])(hq:H q=U (.tup ys))(h:xs.length<=1000)(f:F2 (IsD H n) xs ys):IsD H (n+1) #[bS] (.ref q):=.inr ⟨p,q,xs,ys,rfl,rfl,.inr ⟨a,hq⟩,f.len,h,f.at'⟩
theorem VJ.same{H a:Hp}{l:ae}{E:#[J]}(h:VJ H l E)(s:ZF H a):VJ a l E:=by obtain⟨b,c,d,e⟩:=h;exact⟨b,c,s _ _ d,λt f=>s _ _ (e t f)⟩
theorem Zp8{H:Hp}{l g:ae}{E:#[J]}{n:Nat}(h:VJ H l E)(k:VJ H g E)(few:E.length<=1000):IsD H (n+3) #[cq] (.ref g):=by
 show#[rQ,j,m,q,r,h];show#[rQ,o,k1,k2,k3,k];have lt:j.length=E.length:=by rw[<- m,Qa]
 have lu:o.length=E.length:=by rw[<- k1,Qa]
 refine Nz q k2 #[h5,Qa] ⟨by rw[Qa,Qa];lia,λi x y b c=>?_⟩;rw[Qp]at b c;cases d:j[i]? with
 | none=>rw[d]at b;cases b
 | some t =>
 cases f:o[i]? with
 | none=>rw[f]at c;cases c
 | some u =>
 rw[d]at b;show#[fe,f,c,b];cases c;have e:t.2=u.2:=by have a:=congrArg (λz=>z[i]?) (m.trans k1.symm);simp only[List.getElem?_map,d,f,Option.map_some]at a;exact Qn a
 have s:=r t (Qv d);have p:=k3 u (Qv f);rw[<- e]at p;exact Ny s p #[rU,2] (.cons (WJ _) (.cons (ZsB _) .nil))
theorem U8.same{L:#[41]}{H a:Hp}{x:V}(h:U8 L H x)(s:ZF H a):U8 L a x:=by
 rcases h with h|⟨t,e,z,b,c,d,f,g⟩
 ·exact .inl h
 ·exact .inr ⟨t,e,z,b,c,d,s _ _ f,g⟩
theorem Zqj{Lo:#[41]}{L:#[aI]}{H:Hp}{x y:V}{n:Nat}(ag:#[oy])(nd:#[oX])(h:U8 #[aC] H x)(k:U8 Lo H y):IsD H (n+2) x y:=by
 have c:=S0 ag;have d:=WK ag;have g:hdL #[aC]=hdM L:=rfl;rcases h with⟨rfl,hw⟩|⟨t,e,z,rfl,r,i,j,hw⟩
 ·rcases k with⟨rfl,a⟩|⟨s,b,u,rfl,l,m,o,a⟩
  ·exact U5 #[8]
  ·show#[sw];show#[ft,a]
 ·rcases k with⟨rfl,a⟩|⟨s,b,u,rfl,l,m,o,a⟩
  ·show#[sw];show#[ft,a]
  ·show#[sw];have p:e.1=b.1:=Qn (hw.one a);have v:#[oN]∈#[aC].map #[ce]:=Qg (f:=#[cP]) r;have w:(b.1,b.2.2)∈#[aC].map #[ce]:=by rw[<- S4 ag (λx=>x)];exact Qg (f:=#[cP]) l
   have A:((#[aC].map #[ce]).map #[T]).Nodup:=by rw[Qk];exact(V5 L) ▸ nd
   have B:=Wm A v w p;injection B with _ q;show#[eO,q,m,i];rw[p,q]at j;exact Ny j o #[rU,3] #[iK]
theorem ZqT{L:#[41]}{E:#[J]}(h:Rr L E)(up:#[a4].Pairwise #[oD]):E=Wn L:=by
 have b:E.map #[T]=L.map #[T]:=Te h.per h.up up;have nd:#[i2].Nodup:=by rw[b];exact Tg up
 apply List.ext_getElem?;intro i;unfold Wn;rw[Qp];cases c:L[i]? with
 | none =>
  have:E[i]? = af:=by rw[Qax]at c ⊢;have:=#[eZ,b];rw[Qa,Qa]at this;lia
  rw[this];rfl
 | some e =>
  have f:=h.hd e (Qv c);have a:#[i2][i]? = U e.1:=by rw[b,Qp,c];rfl
  rw[Qp]at a;cases d:E[i]? with
  | none=>rw[d]at a;cases a
  | some x=>rw[d]at a;have g:x.1=e.1:=Qn a;rw[Wm nd (Qv d) f g];rfl
theorem Jn{H:Hp}:∀ (d:List (ae×Key×V)) (E:List (Int×Option al)),d.map #[uQ]=kvH E->(∀t∈d,H t.1=U #[d8])->∃us:List (ae×Int×Option al),us.map #[uQ]=E/\us.map #[T]=d.map #[T]/\∀t∈us,H t.1=U #[kZ]
 | [],[],_,_=>⟨[],rfl,rfl,λt h=>by cases h⟩
 | [],_::_,h,_=>by unfold kvH at h;cases h
 | _::_,[],h,_=>by unfold kvH at h;cases h
 | t::d,e::E,h,k=>by
  unfold kvH at h;rw[Qs,Qs]at h;injection h with h1 h2;obtain⟨us,a,b,c⟩:=Jn d E h2 λx hx=>k x (QF _ hx);refine⟨(t.1,e)::us,by rw[Qs,a],by rw[Qs,Qs,b],λu hu=>?_⟩;rcases QO.mp hu with rfl|hu
  ·have:=k t #[4];show#[rs,h1]
  ·exact c u hu
theorem ZjV{H:Hp}{l:ae}{d:#[je]}{E:#[J]}(h:d.map #[uQ]=kvH E)(k:∀t∈d,H t.1=U #[d8])(hl:H l=U #[fv,d.map]):VJ H l E:=by obtain⟨e,a,b,c⟩:=Jn d E h k;refine⟨e,a,?_,c⟩;rw[hl];have:=congrArg (List.map V.ref) b;rw[Qk,Qk]at this;exact congrArg (λz=>U (HO.lst z)) this.symm
theorem Jm(rd:ae)(nb li lo:Int)(sd:ae)(a:V):#[14].lookup ("likenings" : al)=af:=#[o]
theorem Jl(rd:ae)(nb li lo:Int)(sd:ae)(a:V):#[14].lookup ("looks" : al)=af:=#[o]
theorem Jk(rd:ae)(nb li lo:Int)(sd:ae)(a:V):#[14].lookup ("coming" : al)=af:=#[o]
theorem Zlr(rd:ae)(nb li lo:Int)(sd:ae)(a:V):#[14].lookup ("left" : al)=af:=#[o]
theorem Zkb(rd:ae)(nb li lo:Int)(sd:ae)(a:V):#[14].lookup ("heads" : al)=af:=#[o]
def Zpb(b c:ae):Sp:=λvs H Q _=>X14 λ(m rd sd:ae) (L:List ZC) (s:StL) (nb li lo:Int) (w:Option Int) (o ra ga:ae) (Lo:List ZE) (nb':Int)=>vs=#[fJ,m,o]/\ZW b c H m rd sd L s nb li lo (Yk w)/\Win #[cZ] #[k5] w/\Own H o ra ga Lo nb' li lo/\Agr Lo L/\∀a,ZF H a->Q #[sI] a
theorem Zm7(T:#[e])(bG:#[bm])(cu:#[dC])(dN:#[sK])(gg:#[em,1,"_law_left_of",#[36],JE])
  (cE:#[ev,1,"likenings",#[11],Jt]) (dQ:#[ev,1,"looks",#[11],Js]) (bZ:#[v2]) (fD:#[ev,2,"left",#[11],Jr]) (e9:#[ev,3,"heads",#[11],Jp]) :
  Df P w K mg base 6 "_law_stands" #[lu] (Zpb aw ak):=by
 show#[ee,T.t_l_stands.df,RP,vs,b];obtain⟨m,d,e,L,s,nb,a,lo,w,o,n,p,Lo,c,rfl,M,W,r,u,q⟩:=h;refine⟨_,#[Ze,#[Zw,2,RP.nd,#[3],(@ZkR _ _ _ _ _ _ _ rfl #[5] T.b.n_list #[rR,bG,b] #[5] #[5] #[5])],#[Ze,#[Zw,3,RP.nd,#[3],#[ZJ,#[Zc,#[eq,b,1],#[eq,b,1]]]],#[Ze,#[ZN,(@PW.pt _ _ _ #[Ya,#[Zm,YW,#[ZH,UZ,#[ZH,Z9,#[eq,b,1],#[eq,b,1]],#[Zj]],#[Zj],#[37]],#[Xu,#[WW,#[Yb,#[Zx,cu,b,#[Zc,#[ZJ,#[Zc,#[eC,cE,b],#[eC,dQ,b]]],‹3›],#[5]]]]]]),#[aG],#[Zy]],#[Ze,#[Zw,4,RP.nd,#[3],#[ZJ,#[Zc,#[eC,bZ,b],#[eC,fD,b],#[eC,e9,b],#[eC,cE,b],#[eC,dQ,b]]]],#[Zi,#[Zr,#[Zx,cu,b,#[Zc,‹4›,#[ZH,Xk,#[ZJ,#[Zc,#[rR,dN,b],#[rR,gg,b],‹2›]],‹3›]],#[5]]]]]]]],?_⟩;have cx:#[57].Pairwise #[oD]:=by rw[WK u];exact M.up
 have kh:2<=ao:=by decide
 refine⟨_,rfl,o,n,p,Lo,c,a,lo,rfl,r,λD E' H1 hD dA ho s1=>?_⟩;refine⟨D,_,rfl,dA.at',λl ts v hl dX cJ s2 ce=>?_⟩;have eE:=ZqT ho cx;have BH:VJ v l (Wn #[aC]):=by rw[<- Zrx u,<- eE];exact ZjV dX (λt G=>(cJ t G).2) ce
 have vv:ZF H v:=s1.trans s2;have I:=r.same vv;refine⟨_,rfl,o,_,rfl,ZM.k' (k:=#[jH]) I.at' (Rt ..),_,rfl,o,_,rfl,ZM.k' (k:=#[pt]) I.at' (NZ ..),kh,λi sU=>?_⟩;have x:=Zg sU #[mN];show#[qu,J,v,i,#[mN]];generalize upd v i (.lst [.int a,.int lo])=H3 at x J ⊢;have ed:=I.same x;have gN:=vv.trans x;refine⟨_,rfl,o,_,rfl,ZM.k' (k:=#[d0]) ed.at' (V6 ..),_,rfl,o,_,rfl,ZM.k' (k:=#[jH]) ed.at' (Rt ..),_,_,rfl,rfl,_,_,rfl,rfl,(by show (0:Int)<2;decide),rfl,_,rfl,?_⟩;refine ZsA #[qK,_,T',Gu] (λH4 j=>?_)
 ·have N:=M.same gN;show#[ep,dx,vm,N.ob];refine⟨_,rfl,m,dx,_,rfl,vm,Jm ..,m,d,e,L,s,nb,a,lo,_,rfl,N,_,rfl,m,dx,_,rfl,vm,Jl ..,m,d,e,L,s,nb,a,lo,_,rfl,N,kh,λt G=>?_⟩;have j:=Zg G #[mN];refine⟨_,rfl,.ref t,.ref i,rfl,Nz Zb (j _ _ J) #[rU,2] #[pc],λH5 y=>⟨_,rfl,Gu H5 (j.trans y)⟩⟩
 have sv:=gN.trans j;have M4:=M.same sv;show#[ep,jK,iS,M4.ob];refine YY ?_;refine⟨_,rfl,m,jK,_,rfl,iS,Jk ..,m,d,e,L,s,nb,a,lo,w,rfl,M4,W,λxc H5 hc y=>?_⟩;have sx:=sv.trans y;have M5:=M.same sx;show#[ep,Gv,iD,M5.ob];refine⟨_,rfl,m,Gv,_,rfl,iD,Zlr ..,m,d,e,L,s,nb,a,lo,_,rfl,M5,λH6 O=>?_⟩;have ni:=sx.trans O;have M6:=M.same ni;show#[tA];refine⟨_,rfl,m,sN,_,rfl,qG,Zkb ..,m,d,e,L,s,nb,a,lo,_,rfl,M6,λz H7 hlh Gw R=>?_⟩;have BI:=ni.trans R;have S:=M.same BI;show#[ep,BJ,sW,S.ob];refine⟨_,rfl,m,BJ,_,rfl,sW,Jm ..,m,d,e,L,s,nb,a,lo,_,rfl,S,_,rfl,m,BJ,_,rfl,sW,Jl ..,m,d,e,L,s,nb,a,lo,_,rfl,S,#[e7,5,ao],λB vw=>?_⟩;have C:=Zg vw #[bU];show#[ew,xb,H7,B,#[bU]];generalize upd H7 B (.lst [xc,.int (YO (L.map toL)).sum,.ref z,.int a,.int lo])=H8 at C xb ⊢;have V:=BI.trans C;refine⟨_,rfl,_,rfl,o,n,p,Lo,c,a,lo,rfl,r.same V,λg H9 Gx X=>?_⟩;have Gy:=V.trans X;refine⟨_,rfl,o,n,p,Lo,c,a,lo,rfl,r.same Gy,λeT jx=>?_⟩;show#[fP,#[21],c3,BK];have fL:=Zg BK (.lst #[ba]);have xh:#[hS,eT,c3,#[ba]] c3=U (.lst #[ba]):=Zb;generalize upd eT c3 (.lst [g,.int (YO Lo).sum,.ref l])=F at fL xh ⊢;have xi:ZF H9 F:=jx.trans fL;have xj:ZF H3 F:=(((((j.trans y).trans O).trans R).trans C).trans X).trans xi;refine⟨_,rfl,c3,i,_,_,rfl,rfl,xh,xj _ _ J,(by show 3+2<=ao;decide),λc4 Gz=>?_⟩;have Y:=Zg Gz #[jW];show#[qu,Z,F,c4,#[jW]];generalize upd F c4 (.lst ([g,.int (YO Lo).sum,.ref l]++[.int a,.int lo]))=ic at Y Z ⊢;have xk:=xi.trans Y;have sY:=X.trans xk;have xl:=C.trans sY;have BL:=x.trans (xj.trans Y);have BM:=O.trans (R.trans xl);rw[ZoV u]at Z;refine⟨.ref B,.ref c4,rfl,Nz (sY _ _ xb) Z #[rU,5] (.cons (Zqj u M.nd (hc.same BM) (Gx.same xk)) (.cons (WJ _) (.cons (Zp8 (Gw.same xl) (BH.same BL) ?_) #[pc]))),λsZ nE=>q sZ (V.trans (sY.trans nE))⟩;unfold Wn;have:=M.few;rw[Qa,Qa];lia
noncomputable def Z0(M:#[w])(n:Int):List Int:=if n∈lo M then lo M else up M
noncomputable def Y7(M:#[w])(n:Int):List Int:=if n∈lo M then up M else lo M
noncomputable def ZP:Nat->List Int->Int->List #[sG]
 | 0,_,_=>[]
 | k+1,M,n=>if 2<=M.length then ZP k #[b8] n++[M] else []
inductive Sub (N:#[w]):List Int->Prop
 | top:Sub N N
 | lo {M:List Int}:Sub N M->2<=M.length->Sub N (lo M)
 | up {M:List Int}:Sub N M->2<=M.length->Sub N (up M)
theorem Sub.trans{A B C:#[w]}(h:Sub A B)(k:Sub B C):Sub A C:=by
 induction k with
 | top=>exact h
 | lo _ a b=>exact b.lo a
 | up _ a b=>exact b.up a
theorem Sub.rise{N M:#[w]}(h:Sub N M)(r:YM N):YM M:=by
 induction h with
 | top=>exact r
 | lo _ _ a=>exact RB a
 | up _ _ a=>exact RA a
theorem Sub.mem{N M:#[w]}(h:Sub N M){x:Int}(hx:x∈M):x∈N:=by
 induction h with
 | top=>exact hx
 | lo _ _ a=>exact a (QU hx)
 | up _ _ a=>exact a (Qae hx)
theorem Sub.len{N M:#[w]}(h:Sub N M):M.length<=N.length:=by
 induction h with
 | top=>exact Qh _
 | lo _ a b=>exact Ql (Qab (Wr a).1) b
 | up _ a b=>exact Ql (Qab (V8 a).1) b
theorem Nx{M:#[w]}(h:#[jf])(n:Int):Sub M #[b8]:=by
 unfold Z0;split
 ·exact Sub.top.lo h
 ·exact Sub.top.up h
theorem Nw{M:#[w]}(h:#[jf])(n:Int):#[b8].length<M.length:=by
 unfold Z0;split
 ·exact(Wr h).1
 ·exact(V8 h).1
theorem Ut{M:#[w]}{n:Int}(h:n∈M):n∈Z0 M n:=by
 unfold Z0;split
 ·assumption
 ·rename_i a;rw[<- XD M]at h;exact(Qj.mp h).resolve_left a
theorem Nv{M:#[w]}(r:YM M){n:Int}(hn:n∈Z0 M n):n ∉ Y7 M n:=by
 intro h;unfold Y7 Z0 at *
 split at h
 ·rename_i a;have:=ZR r a h;lia
 ·rename_i a;exact a h
theorem Rh(M:#[w])(n:Int):(Z0 M n++Y7 M n).Perm M:=by
 unfold Z0 Y7;split
 ·rw[XD]
 ·exact List.perm_append_comm.trans (by rw[XD])
def Kys(M:#[w])(k:#[dW]):Prop:=∃a,Sub M a/\2<=a.length/\k=ZZ a
theorem Rg{M:#[w]}{k:#[dW]}(h:Kys M k):k.1∈M/\k.2∈M:=by obtain⟨b,s,h2,rfl⟩:=h;have a:b≠[]:=Xp #[2];exact⟨s.mem (Uy a),s.mem (Ux a)⟩
theorem Jj{M:#[w]}(r:YM M)(h2:#[jf]){k:#[dW]}(h:Kys (lo M) k):k≠ZZ M/\¬ Kys (up M) k:=by
 show#[t6]
 ·show#[xN,a,N7];have:=ZR r this.2 (Ux (Xp (V8 h2).2));lia
 ·have:=ZR r this.1 (Rg m).1;lia
theorem Ji{M:#[w]}(r:YM M)(h2:#[jf]){k:#[dW]}(h:Kys (up M) k):k≠ZZ M/\¬ Kys (lo M) k:=by
 show#[t6]
 ·show#[xN,a,N6];have:=ZR r (Uy (Xp (Wr h2).2)) this.1;lia
 ·have:=ZR r (Rg m).1 this.1;lia
theorem Jh{M:#[w]}(r:YM M)(h2:#[jf]){n:Int}{k:#[dW]}(h:Kys #[b8] k):k≠ZZ M/\¬ Kys #[k6] k:=by
 unfold Z0 at h;unfold Y7;split
 ·rename_i a;rw[if_pos a]at h;exact Jj r h2 h
 ·rename_i a;show#[xC,a,h];exact Ji r h2 h
theorem Jg{M:#[w]}(r:YM M)(h2:#[jf]){n:Int}{k:#[dW]}(h:Kys #[k6] k):k≠ZZ M/\¬ Kys #[b8] k:=by
 unfold Y7 at h;unfold Z0;split
 ·rename_i a;rw[if_pos a]at h;exact Ji r h2 h
 ·rename_i a;show#[xC,a,h];exact Jj r h2 h
theorem Nu{M c:#[w]}(h:Sub M c):c=M\/(2<=M.length/\(Sub (lo M) c\/Sub (up M) c)):=by
 induction h with
 | top=>exact #[oA]
 | lo h a b =>
  rcases b with rfl|⟨g,b⟩
  ·exact .inr ⟨a,.inl .top⟩
  ·exact .inr ⟨g,b.imp (λz=>z.lo a) (λz=>z.lo a)⟩
 | up h a b =>
  rcases b with rfl|⟨g,b⟩
  ·exact .inr ⟨a,.inr .top⟩
  ·exact .inr ⟨g,b.imp (λz=>z.up a) (λz=>z.up a)⟩
theorem ZpA{M a:#[w]}(n:Int)(h:Sub M a):a=M\/(2<=M.length/\(Sub #[b8] a\/Sub #[k6] a)):=by
 rcases Nu h with h|⟨g,h⟩
 ·exact .inl h
 ·refine .inr ⟨g,?_⟩;unfold Z0 Y7;split
  ·exact h
  ·exact h.symm
def Wl(hd:Hd)(s:StL)(A B:#[w])(k:#[dW]):Prop :=
 (∀a b x y,Win hd A (U a)->Win hd B (U b)->hd a=U x->hd b=U y->X2 λt c=>Z4 s k=U (U (t,c,#[gS,x,y]))/\((Btr x a y b/\c=b)\/(Btr y b x a/\c=a))) /\
 (#[uX]->Z4 s k=af\/Z4 s k=U af)
theorem Wl.swap{hd:Hd}{s:StL}{A B:#[w]}{k:#[dW]}(h:Wl hd s A B k):Wl hd s B A k:=by refine⟨λa b x y c d f g=>?_,λhw=>h.2 hw.symm⟩;obtain⟨t,i,e,o⟩:=h.1 b a y x d c g f;exact⟨t,i,by rw[Vf x y];exact e,o.symm⟩
def Yt(hd:Hd)(s:StL)(N:#[w]):Prop:=∀M,Sub N M->2<=M.length->Wl hd s (lo M) (up M) (ZZ M)
theorem Yt.sub{hd:Hd}{s:StL}{N M:#[w]}(h:Yt hd s N)(k:Sub N M):Yt hd s M:=λa h' h2=>h a (k.trans h') h2
theorem Yt.at_side{hd:Hd}{s:StL}{M:#[w]}(h:Yt hd s M)(h2:#[jf])(n:Int):Wl hd s #[b8] #[k6] (ZZ M):=by
 have:=h M .top h2;unfold Z0 Y7;split
 ·exact this
 ·exact this.swap
theorem Us:∀ (n:Nat) (hd:Hd) (s:StL) (N:List Int),YM N->N.length<=2 ^ (n-1)->0<n->XA hd s n N->Yt hd s N
 | 0,_,_,_,_,_,h,_=>absurd h #[2]
 | n+1,hd,s,N,r,hl,_,h=>λM hM h2=>by
  rw[Qal]at hl;rcases Nu hM with rfl|⟨g,hM⟩
  ·obtain⟨_,_,c1,c2⟩:=h h2;refine⟨λa b x y d f j k=>?_,c2⟩;obtain⟨t,e⟩:=c1 a b x y d f j k;have m9:=ZR r d.1 f.1;by_cases c:ZS x y<0\/#[vI]
   ·rw[if_pos c]at e;exact⟨t,b,e,.inl ⟨c,rfl⟩⟩
   ·show#[xC,c,e];exact⟨t,a,e,.inr ⟨(Btr.total (show a≠b by lia)).resolve_left c,rfl⟩⟩
  ·obtain⟨l,o,_⟩:=h g;have i:1<=n:=by
    cases n with
    | zero=>simp at hl;lia
    | succ m=>lia
   have hp:#[s6]:=by obtain⟨m,rfl⟩:∃m,n=m+1:=⟨n-1,by lia⟩;rw[Qbb,Qal];lia
   rcases hM with hM|hM
   ·exact Us n hd s (lo N) (RB r) (by unfold lo mid;rw[Qy];lia) i l M hM h2
   ·exact Us n hd s (up N) (RA r) (by unfold up mid;rw[QT];lia) i o M hM h2
theorem Wl.congr{hd d:Hd}{s s':StL}{A B:#[w]}{k:#[dW]}(h:Wl hd s A B k)(ha:∀m∈A,d m=hd m)(hb:∀m∈B,d m=hd m)(hk:Z4 s' k=Z4 s k):Wl d s' A B k:=by
 refine⟨λa b x y e f g i=>?_,λhw=>?_⟩
 ·rw[hk];exact h.1 a b x y (e.congr λm c=>(ha m c).symm) (f.congr λm c=>(hb m c).symm) #[r8,ha,a,e.1,g] #[r8,hb,b,f.1,i]
 ·rw[hk];exact h.2 (hw.imp (λw=>w.congr λm c=>(ha m c).symm) (λw=>w.congr λm c=>(hb m c).symm))
theorem Yt.congr{hd b:Hd}{s s':StL}{M:#[w]}(h:Yt hd s M)(c:∀m∈M,b m=hd m)(hk:∀k,Kys M k->Z4 s' k=Z4 s k):Yt b s' M:=λd hM h2 =>
 (h d hM h2).congr (λm a=>c m (hM.mem (QU a))) (λm a=>c m (hM.mem (Qae a))) (hk _ ⟨d,hM,h2,rfl⟩)
theorem Znl{hd:Hd}{s:StL}{M:#[w]}{n:Int}(h1:Yt hd s #[b8])(b:Yt hd s #[k6])(h:Wl hd s #[b8] #[k6] (ZZ M)):Yt hd s M:=λa hM h2=>by
 rcases ZpA n hM with rfl|⟨g,hM|hM⟩
 ·unfold Z0 Y7 at h;split at h
  ·exact h
  ·exact h.swap
 ·exact h1 a hM h2
 ·exact b a hM h2
noncomputable def low(n:Int)(C:List #[sG]):Nat->List Int
 | 0=>[n]
 | i+1=>C.getD i []
theorem Rc:∀ (k:Nat) (M:List Int) (n:Int),n∈M->M.length<=2 ^ k->(∀i X,#[sE][i]? = U X->Sub M X/\2<=X.length/\n∈X/\Z0 X n=low n #[sE] i)/\low n #[sE] #[sE].length=M/\#[sE].length<=k
 | 0,M,n,d,hl=>by
  refine⟨λi X h=>by unfold ZP at h;simp at h,?_,Qh _⟩;have h1:M.length=1:=by have:=Qbd d;simp at hl;lia
  obtain⟨x,rfl⟩:=QaI.mp h1;have:n=x:=by simpa using d
  rw[this];rfl
 | k+1,M,n,d,hl=>by
  unfold ZP;by_cases e:2<=M.length
  ·rw[if_pos e];have g:#[b8].length<=2 ^ k:=by
    rw[Qbb]at hl;unfold Z0;split
    ·unfold lo mid;rw[Qy];lia
    ·unfold up mid;rw[QT];lia
   obtain⟨a,b,c⟩:=Rc k #[b8] n (Ut d) g;refine⟨λi X h=>?_,?_,by rw[Qf,Qz];lia⟩
   ·have f:∀j,j<=#[mJ].length->low n (ZP k #[b8] n++[M]) j=low n #[mJ] j:=λj hj=>by
     cases j with
     | zero=>rfl
     | succ j=>show (ZP k #[b8] n++[M]).getD j []=#[mJ].getD j [];rw[QI,QI,QM #[2]]
    by_cases l:i<#[mJ].length
    ·rw[QM l]at h;obtain⟨m,o,p,q⟩:=a i X h;exact⟨(Nx e n).trans m,o,p,by rw[f i #[2]];exact q⟩
    ·have r:i=#[mJ].length:=by have:=(Qe.mp h).1;rw[Qf,Qz]at this;lia
     show#[rV,r,h];exact⟨.top,e,d,by rw[f _ #[jJ],b]⟩
   ·rw[Qf,Qz];show (ZP k #[b8] n++[M]).getD _ []=M;rw[QI,QE #[jJ],QaA];rfl
  ·rw[if_neg e];refine⟨λi X h=>by simp at h,?_,Qu _⟩;have h1:M.length=1:=by have:=Qbd d;lia
   obtain⟨x,rfl⟩:=QaI.mp h1;have:n=x:=by simpa using d
   rw[this];rfl
structure Tk (hd bP:Hd) (N:#[w]) (n:Int) (z:#[iA]):Prop where
 win:Win hd N (U n)
 key:hd n=U z
 oth:∀b,b≠n->bP b=hd b
 nxt:∀x,bP n=U x->ZS z x<=0
 up:YM N
theorem Tk.ge{hd a:Hd}{N:#[w]}{n:Int}{z:#[iA]}(h:Tk hd a N n z){b:Int}(hb:b∈N){y:#[iA]}(hy:a b=U y):ZS z y<=0:=by
 by_cases e:b=n
 ·exact h.nxt y #[eJ,e,hy]
 ·obtain⟨_,x,c,hw⟩:=h.win;show#[fe,h.key,c,c];rw[h.oth b e]at hy;rcases hw b hb y hy with z|z
  ·exact absurd z e
  ·rcases z with z|z<;>lia
inductive Ag (hd:Hd) (z:#[iA]):List #[k7]->Int->Int->Prop
 | nil:Ag hd z [] 0 0
 | no {C:List (List Int×List Int)} {A B:List Int} {k q:Int}:Ag hd z C k q->(Win hd A af\/Win hd B af)->Ag hd z (C++[(A,B)]) k q
 | eq {C:List (List Int×List Int)} {A B:List Int} {k q:Int} {a b:Int} {x y:List Nat}:Ag hd z C k q->Win hd A (U a)->Win hd B (U b)->hd a=U x->hd b=U y->lcp x z=lcp y z->Ag hd z (C++[(A,B)]) (k+1) (q+((lcp x y:Nat)-(lcp x z:Nat)+1))
 | ne {C:List (List Int×List Int)} {A B:List Int} {k q:Int} {a b:Int} {x y:List Nat}:Ag hd z C k q->Win hd A (U a)->Win hd B (U b)->hd a=U x->hd b=U y->lcp x z≠lcp y z->Ag hd z (C++[(A,B)]) (k+1) q
theorem Nt{α:Type}{C D:List α}{c d:α}(h:C++[c]=D++[d]):C=D/\c=d:=by have:=List.append_inj' h rfl;exact⟨this.1,by simpa using this.2⟩
theorem Ag.last{hd:Hd}{z:#[iA]}{D:List #[k7]}{k q:Int}(h:Ag hd z D k q):∀ {C:List (List Int×List Int)} {A B:List Int},D=C++[(A,B)]->X2 λk0 d=>Ag hd z C k0 d/\((#[uX]/\k=k0/\q=d)\/(X4 λa b x y=>Win hd A (U a)/\Win hd B (U b)/\hd a=U x/\hd b=U y/\k=k0+1/\q=if lcp x z=lcp y z then d+((lcp x y:Nat)-(lcp x z:Nat)+1) else d)):=by
 intro C A B e;cases h with
 | nil=>simp at e
 | no g hw=>obtain⟨rfl,c⟩:=Nt e;cases c;exact⟨_,_,g,.inl ⟨hw,rfl,rfl⟩⟩
 | eq g f i j l m=>obtain⟨rfl,c⟩:=Nt e;cases c;exact⟨_,_,g,.inr ⟨_,_,_,_,f,i,j,l,rfl,by rw[if_pos m]⟩⟩
 | ne g f i j l m=>obtain⟨rfl,c⟩:=Nt e;cases c;exact⟨_,_,g,.inr ⟨_,_,_,_,f,i,j,l,rfl,by rw[if_neg m]⟩⟩
theorem Ag.one{hd:Hd}{z:#[iA]}{C:List #[k7]}{k q:Int}(h:Ag hd z C k q):∀ {k' e:Int},Ag hd z C k' e->k=k'/\q=e:=by
 induction h with
 | nil =>
  intro k' e g;generalize r:([]:List (List Int×List Int))=C at g;cases g with
  | nil=>exact#[bM]
  | no _ _=>simp at r
  | eq _ _ _ _ _ _=>simp at r
  | ne _ _ _ _ _ _=>simp at r
 | no g hw f =>
  show#[bh];rcases o with⟨_,rfl,rfl⟩|⟨a,b,x,y,c,d,_⟩
  ·exact⟨l,m⟩
  ·rcases hw with hw|hw
   ·show#[ft,c]
   ·show#[ft,d]
 | eq g c d s t u f =>
  show#[bh];rcases o with⟨hw,_⟩|⟨a,b,x,y,v,w,n,p,rfl,rfl⟩
  ·rcases hw with hw|hw
   ·show#[ft,c]
   ·show#[ft,d]
  ·show#[dv];rw[if_pos u];exact⟨by rw[l],by rw[m]⟩
 | ne g c d s t u f =>
  show#[bh];rcases o with⟨hw,_⟩|⟨a,b,x,y,v,w,n,p,rfl,rfl⟩
  ·rcases hw with hw|hw
   ·show#[ft,c]
   ·show#[ft,d]
  ·show#[dv];rw[if_neg u];exact⟨by rw[l],m⟩
theorem Jf:∀ (x z y:List Nat),lcp z y<lcp x z->ZS x y=ZS z y
 | [],z,y,h=>by rw[lcp_nil']at h;lia
 | _::_,[],y,h=>by rw[UC]at h;lia
 | a::x,b::z,[],h=>by unfold ZS;rfl
 | a::x,b::z,c::y,h=>by
  unfold lcp at h;by_cases e:a=b
  ·subst e;rw[if_pos rfl]at h;by_cases d:a=c
   ·subst d;rw[if_pos rfl]at h;unfold ZS;rw[if_pos rfl,if_pos rfl];exact Jf x z y #[2]
   ·unfold ZS;show#[ia,d,d]
  ·show#[pi];lia
theorem Zq7{x z y:#[iA]}(h:lcp z y<lcp x z):lcp x y=lcp z y:=by have:=Oj x y z;rw[Vf y z]at this;lia
theorem ZsI{x z y:#[iA]}(h:lcp x z=lcp y z):lcp x z<=lcp x y:=by have:=Oj x y z;lia
theorem Je{x z y:#[iA]}{a b:Int}(h:lcp y z<lcp x z)(c:ZS z y<=0):Btr x a y b/\lcp x y=lcp y z:=by
 rw[Vf y z]at h ⊢;refine⟨.inl ?_,Zq7 h⟩;rw[Jf x z y h];rcases Int.lt_or_eq_of_le c with g|g
 ·exact g
 ·have e:=Oe _ _ g;subst e;rw[Kk]at h;have:=(UD x z).2;lia
noncomputable abbrev Com:=Option (Int×Int)
def SY(hd:Hd)(z:#[iA])(M:#[w])(c:Com):Prop:=Win hd M (c.map #[T])/\∀p,c=U p->∃x,hd p.1=U x/\p.2=#[gS,x,z]
theorem ZpP{hd c:Hd}{N M:#[w]}{n:Int}{z:#[iA]}{s:StL}(T:Tk hd c N n z)(hM:Sub N M)(h2:#[jf])(i:n∈M)(ok:Yt hd s N) :
  (Win c #[k6] af/\#[o9])\/X3 λt b y=>Win c #[k6] (U b)/\c b=U y/\b∈N/\Z4 s (ZZ M)=U (U (t,b,#[gS,y,z])):=by
 have r:=hM.rise T.up;have nd:=Tg r;have j:=Nv r (Ut i);have k:=(ok.sub hM).at_side h2 n;have p:#[sn,Y7]:=λb d=>(Rh M n).mem_iff.mp (QC _ d);have q:#[sn,Z0]:=λb d=>(Rh M n).mem_iff.mp (QN _ d);have u:Win hd #[b8] (U n):=by obtain⟨_,x,f,hw⟩:=T.win;exact⟨Ut i,x,f,λb d y a=>hw b (hM.mem (q b d)) y a⟩
 have g:∀m∈Y7 M n,c m=hd m:=λm v=>T.oth m λe=>j (e ▸ v);have A:#[k6].Nodup:=by unfold Y7;split;exact Tg (RA r);exact Tg (RB r)
 obtain⟨w,hw⟩:=Win.ex hd #[k6] A;cases w with
 | none=>exact .inl ⟨hw.congr g,k.2 (.inr hw)⟩
 | some b =>
  obtain⟨y,a⟩:∃y,hd b=U y:=by obtain⟨_,y,a,_⟩:=hw;exact⟨y,a⟩
  obtain⟨t,h,e,o⟩:=k.1 n b z y u hw T.key a;have l:=p b hw.1;have B:b≠n:=λz=>j (z ▸ hw.1);have C:Btr z n y b:=by obtain⟨_,x,f,D⟩:=T.win;show#[fe,T.key,f,f];exact(D b (hM.mem l) y a).resolve_left B
  have E:h=b:=by
   rcases o with⟨_,e⟩|⟨e,_⟩
   ·exact e
   ·exact(C.asym e).elim
  subst E;exact .inr ⟨t,h,y,hw.congr g,by rw[g h hw.1];exact a,hM.mem l,by rw[Vf y z];exact e⟩
theorem Jd(ns:#[w]):(XH ns).length=(ns.length+1) / 2:=by unfold XH mid;rw[Qy];lia
theorem Jc(ns:#[w]):(Ws ns).length=ns.length / 2:=by unfold Ws mid;rw[QT];lia
noncomputable def Wj:Nat->List Int->Int->List #[sG]
 | 0,_,_=>[]
 | f+1,ns,n=>if ns.length<=1 then [] else if n∈XH ns then Ws ns::Wj f (XH ns) n else XH ns::Wj f (Ws ns) n
noncomputable def Xy(ns:#[w])(n:Int):List Int:=if n∈XH ns then XH ns else Ws ns
noncomputable def V3(ns:#[w])(n:Int):List Int:=if n∈XH ns then Ws ns else XH ns
theorem P9{ns:#[w]}{n:Int}(h:#[wN]):(Xy ns n).length<ns.length:=by
 unfold Xy;split
 ·rw[Jd];lia
 ·rw[Jc];lia
theorem ZoR{ns:#[w]}{n:Int}(h:#[wN]):0<(Xy ns n).length:=by
 unfold Xy;split
 ·rw[Jd];lia
 ·rw[Jc];lia
theorem Nr{f:Nat}{ns:#[w]}{n:Int}(h:#[wN]):Wj (f+1) ns n=V3 ns n::Wj f (Xy ns n) n:=by
 conv=>lhs;unfold Wj
 rw[if_neg #[2]];unfold V3 Xy;split<;>rfl
theorem U4{f:Nat}{ns:#[w]}{n:Int}(h:ns.length<=1):Wj f ns n=[]:=by
 cases f with
 | zero=>rfl
 | succ f=>unfold Wj;rw[if_pos h]
theorem Jb:∀ (f g:Nat) (ns:List Int) (n:Int),ns.length<=f+1->ns.length<=g+1->Wj f ns n=Wj g ns n
 | 0,g,ns,n,h,_=>by rw[U4 #[2],U4 #[2]]
 | f+1,0,ns,n,_,h=>by rw[U4 #[2],U4 #[2]]
 | f+1,g+1,ns,n,h1,h2=>by
  by_cases h:1<ns.length
  ·have:=P9 (n:=n) h;rw[Nr h,Nr h,Jb f g _ n #[2] #[2]]
  ·rw[U4 #[2],U4 #[2]]
noncomputable def way(ns:#[w])(n:Int):List #[sG]:=Wj ns.length ns n
theorem Ja{ns:#[w]}{n:Int}(h:#[wN]):way ns n=V3 ns n::way (Xy ns n) n:=by
 unfold way;cases e:ns.length with
 | zero=>lia
 | succ f=>have:=P9 (n:=n) h;rw[Nr h,Jb f (Xy ns n).length _ n #[2] #[2]]
theorem Nq{ns:#[w]}{n:Int}(h:ns.length<=1):way ns n=[]:=U4 h
theorem P7(n:Int):∀ns:List Int,inV (.int n) #[C]=decide (n∈ns)
 | []=>rfl
 | m::r=>by
  have a:=P7 n r;unfold inV at a ⊢;rw[Qs,QaY,a];by_cases h:m=n
  ·subst h;simp[eqV]
  ·have:(m == n)=false:=by simpa using h
   simp[eqV,this,List.mem_cons,Ne.symm h]
theorem P6:∀ns:List Int,#[C].all Wc=true
 | []=>rfl
 | _::r=>by rw[Qs,List.all_cons,P6 r];rfl
def Rd(H:Hp):List ae->List #[sG]->Prop
 | [],[]=>True
 | l::a,d::ds=>H l=U #[ty]/\Rd H a ds
 | _,_=>False
theorem Rd.len{H:Hp}:∀ {a:List ae} {ds:List (List Int)},Rd H a ds->a.length=ds.length
 | [],[],_=>rfl
 | [],_::_,h=>h.elim
 | _::_,[],h=>h.elim
 | _::a,_::ds,h=>by rw[QH,QH,Rd.len h.2]
theorem Rd.mono{H b:Hp}:∀ {a:List ae} {ds:List (List Int)},(∀l∈a,∀o,H l=U o->b l=U o)->Rd H a ds->Rd b a ds
 | [],[],_,_=>trivial
 | [],_::_,_,h=>h.elim
 | _::_,[],_,h=>h.elim
 | l::a,_::ds,k,h=>⟨k l #[4] _ h.1,Rd.mono (λx hx=>k x (QF _ hx)) h.2⟩
theorem Rd.app{H:Hp}:∀ {a:List ae} {ds:List (List Int)} {b:List ae} {c:List (List Int)},Rd H a ds->Rd H b c->Rd H (a++b) (ds++c)
 | [],[],_,_,_,h=>h
 | [],_::_,_,_,h,_=>h.elim
 | _::_,[],_,_,h,_=>h.elim
 | _::a,_::ds,_,_,h,g=>⟨h.1,Rd.app h.2 g⟩
theorem Rd.rev{H:Hp}:∀ {a:List ae} {ds:List (List Int)},Rd H a ds->Rd H a.reverse ds.reverse
 | [],[],h=>h
 | [],_::_,h=>h.elim
 | _::_,[],h=>h.elim
 | l::a,d::ds,h=>by rw[QaR,QaR];exact Rd.app (Rd.rev h.2) ⟨h.1,trivial⟩
def Np:Sp:=λvs H Q _=>X3 λ(a:ae) (ns:List Int) (n:Int)=>vs=#[qE,a,n]/\H a=U #[oW]/\1<=ns.length/\ns.length<=100 /\
 ∀ (r:ae) (b:List ae) (c:Hp),H r=af->c r=U (.lst (b.map V.ref))->r ∉ b->(∀l∈b,H l=af)->Rd c b (way ns n).reverse->ZF H c->Q #[jV] c
def Dn(H:Hp)(a o:ae)(ns:#[w])(n:Int)(b:ae)(c:#[w])(d:#[mj])(e:Hp):Prop :=
 ∃done:List (List Int),e b=U #[aD]/\b≠o/\1<=c.length/\c.length<=100/\way ns n=done++way c n/\Rd e d done/\e o=U (.lst (d.map V.ref))/\ZF H e/\(∀l∈d,H l=af)/\o ∉ d/\d.length+c.length<=100
theorem Dn.step{H:Hp}{a o:ae}{ns:#[w]}{n:Int}{b:ae}{d:#[w]}{h:#[mj]}{i f:Hp}(D:Dn H a o ns n b d h i)(v:H o=af)(h1:1<d.length)(s:ZF i f){x y:ae}(hx:f x=U #[fa,Xy,d])(hy:f y=U #[fa,V3,d])(nx:i x=af)(j:i y=af) :
  Dn H a o ns n x (Xy d n) (h++[y]) #[m0]:=by
 obtain⟨done,d1,d2,d3,d4,w,z,m,p,A,q,Bh⟩:=D;show#[ii,r,x,o,m,nx];show#[ii,t,y,o,m,j];have sl:=P9 (n:=n) h1;have k:∀l,l≠o->∀u,f l=U u->#[m0] l=U u:=λl hl u g=>by rw[Zd hl];exact g
 refine⟨done++[V3 d n],k x r _ hx,r,ZoR h1,by lia,by rw[w,Ja h1,Qay];rfl,?_,?_,λc u g=>?_,?_,?_,?_⟩
 ·refine Rd.app (Rd.mono (λl hl u g=>k l (λe=>q (e ▸ hl)) u (s _ _ g)) z) ⟨k y t _ hy,trivial⟩
 ·rw[Zb,Qd];rfl
 ·rw[Zd (Zf g v)];exact s _ _ (p _ _ g)
 ·intro l hl;rcases Qj.mp hl with hl|hl
  ·exact A l hl
  ·rw[Qi.mp hl];exact p.free j
 ·intro B;rcases Qj.mp B with hl|hl
  ·exact q hl
  ·exact t (Qi.mp hl).symm
 ·rw[Qf,Qz];lia
theorem ZrX(T:#[e])(eI:#[ca]):Df P w K mg base 2 "way_up" #[cx] Np:=by
 show#[xL,T.t_way_up.df,Vl];obtain⟨a,p,n,rfl,L,h1,M,q⟩:=h;refine⟨_,#[Ze,#[si,2,Vl.nd,#[cS]],#[Ze,#[hY,3,Vl.nd,0],#[Ze,(@SH _ _ _ _ _ _ bf.never #[h6,VE,#[71]] #[Ze,#[Z2,#[gr,eI,hr,3],#[qC,4,Vl.nd,5]],#[Zi,#[ZN,#[Zm,(inQ K),‹1›,‹4›,#[ab]],#[Ze,#[hK,2,5],#[Zi,#[hY,3,Vl.nd,4]]],#[Ze,#[hK,2,4],#[Zi,#[hY,3,Vl.nd,5]]]]]]),#[Ze,#[ZX,(@Zsa _ _ _ _ _ _ _ _ _ QR PySem.F.slot_list_reverse PySem.F.type_list_reverse ZlJ ‹2› #[5] #[5])],#[bL]]]]],#[15],λo g=>?_⟩;have N:a≠o:=Zf L g;refine⟨_,rfl,λm O R=>X5 λ(b:ae) (d:List Int) (i:List ae) (S W:Option V)=>O=[U #[iB],U (.int n),U #[k8],U #[ts],S,W]/\Dn H a o p n b d i R/\m=d.length,⟨_,a,p,[],af,af,rfl,⟨[],?_,N,h1,M,rfl,trivial,Zb,Zg g _,#[eP,l,j],(λB=>by cases B),by simpa using M⟩,rfl⟩,?_⟩
 ·rw[Zd N];exact L
 rintro m O R ⟨b,d,i,S,W,rfl,D,rfl⟩;obtain⟨done,X,d2,d3,d4,d5,d6,C,d8,d9,Y,Bh⟩:=id D;have GG:#[sj,d.map]=(d.length:Int):=by rw[Qa]
 refine#[gF,b,X];show#[eF,c1]
 ·have yT:(1:Int)<#[sj,d.map]:=of_decide_eq_true c1;have F:1<d.length:=by lia
  refine#[wv];refine⟨_,rfl,b,d,rfl,SqL.of X,d4,λt x y H3 ht Z hy GH et ex ey G GI GJ=>?_⟩;show#[e4,t,et];have r:=G _ _ C;have aX:#[q3,i.map,V.ref]:=by rw[Qa];exact Zn #[2]
  have sl:=P9 (n:=n) F;refine⟨_,rfl,_,rfl,x,_,rfl,.inl (SqL.of ex),rfl,P6 _,_,rfl,?_⟩;show if inV (V.int n) #[r7,XH,d]=true then _ else _
  rw[P7];show#[eF,c2]
  ·have k:n∈XH d:=of_decide_eq_true c2;have I:Xy d n=XH d:=by unfold Xy;rw[if_pos k]
   have J:V3 d n=Ws d:=by unfold V3;rw[if_pos k]
   refine⟨_,rfl,.inl #[fm,r],_,rfl,o,_,_,rfl,rfl,r,aX,_,rfl,_,?_,x,Xy d n,i++[y],_,_,rfl,D.step g F G #[ei,I,ex] #[ei,J,ey] Z hy,rfl⟩;exact sl
  ·have k:¬ n∈XH d:=λz=>c2 #[aK];have I:Xy d n=Ws d:=by unfold Xy;rw[if_neg k]
   have J:V3 d n=XH d:=by unfold V3;rw[if_neg k]
   refine⟨_,rfl,.inl #[fm,r],_,rfl,o,_,_,rfl,rfl,r,aX,_,rfl,_,?_,y,Xy d n,i++[x],_,_,rfl,D.step g F G #[ei,I,ey] #[ei,J,ex] hy Z,rfl⟩;exact sl
 ·have yT:¬ (1:Int)<#[sj,d.map]:=λz=>c1 #[aK];have e:way p n=done:=by rw[d5,Nq #[2],Qai]
  refine⟨_,rfl,.inl #[fm,C],o,_,rfl,rfl,C,_,rfl,q o i.reverse _ g (by rw[Zb,List.map_reverse]) (λB=>Y (List.mem_reverse.mp B)) (λl j=>d9 l #[xc]) ?_ λc u v=>?_⟩
  ·rw[e];refine Rd.mono (λl j u v=>?_) d6.rev;rw[Zd (λz=>by subst z;exact Y #[xc])];exact v
  ·rw[Zd (Zf v g)];exact d8 _ _ v
theorem I0:∀ (k:Nat) (M:List Int) (n:Int),M.length<=2 ^ k->(way M n).reverse=#[sE].map (λX=>Y7 X n)
 | 0,M,n,h=>by rw[Nq #[el,h]];rfl
 | k+1,M,n,h=>by
  unfold ZP;by_cases h2:2<=M.length
  ·rw[if_pos h2,Ja #[2],QaR,Qd];have hs:#[b8].length<=2 ^ k:=by
    rw[Qbb]at h;unfold Z0;split
    ·unfold lo mid;rw[Qy];lia
    ·unfold up mid;rw[QT];lia
   have e:=I0 k #[b8] n hs;rw[<- e];rfl
  ·rw[if_neg h2,Nq #[2]];rfl
theorem ZoZ{M:#[w]}(h:#[jf])(n:Int):Y7 M n≠[]:=by
 unfold Y7;split
 ·exact Xp (V8 h).2
 ·exact Xp (Wr h).2
theorem ZlU{M:#[w]}(r:YM M)(h:#[jf])(n:Int):ZZ M=(if #[k6].headD 0<#[b8].headD 0 then (Y7 M n).headD 0 else (Z0 M n).headD 0,if #[k6].getLastD 0>#[b8].getLastD 0 then (Y7 M n).getLastD 0 else (Z0 M n).getLastD 0):=by have a:=N6 h;have b:=N7 h;have l1:=Uy (Xp (Wr h).2);have l2:=Ux (Xp (Wr h).2);have e:=Uy (Xp (V8 h).2);have f:=Ux (Xp (V8 h).2);have c:=ZR r l1 e;have d:=ZR r l2 f;unfold Z0 Y7;split<;>(refine Prod.ext ?_ ?_<;>dsimp only<;>first|lia|(split<;>lia))
theorem Rd.get{H:Hp}:∀ {c:List ae} {ds:List (List Int)},Rd H c ds->∀ {i:Nat} {l:ae} {d:List Int},c[i]? = U l->ds[i]? = U d->H l=U #[ty]
 | [],[],_,i,l,d,h,_=>by simp at h
 | l::c,d::ds,⟨h1,h2⟩,0,a,b,e,f=>by simp at e f;rw[<- e,<- f];exact h1
 | l::c,d::ds,⟨h1,h2⟩,i+1,a,b,e,f=>Rd.get h2 #[el,e] #[el,f]
def IZ:Sp:=λvs H Q _=>X3 λ(a:ae) (N:List Int) (n:Int)=>vs=#[qE,a,n]/\H a=U #[pG]/\n∈N/\N.length<=60/\YM N /\
 ∀ (r:ae) (c:List ae) (b:Hp),H r=af->b r=U (.lst (c.map V.ref))->c.length=#[jI].length->(∀ (i:Nat) (t:ae) (X:List Int),c[i]? = U t->#[jI][i]? = U X->b t=U #[gK,X])->ZF H b->Q #[jV] b
theorem Zlx(T:#[e])(iV:#[v4]):Df P w K mg base 3 "matches_up" #[cx] IZ:=by
 show#[xL,T.t_matches_up.df,Vm];obtain⟨a,N,n,rfl,ha,Z,hZ,cx,q⟩:=h;refine⟨_,#[Ze,#[si,2,Vm.nd,#[cS]],#[Ze,#[hY,3,Vm.nd,1],#[Ze,#[hY,4,Vm.nd,1],#[Ze,#[XS,bf.never,#[iL,K,#[et,iV,hr,0,1]],#[ZD,5,Vm.nd,#[3]],#[Ze,#[Zw,3,Vm.nd,#[3],#[Zk,(Znx rfl),#[5],T.b.n_min,boot_min,#[Zc,‹3›,#[eK,ixL,5]]]],#[Ze,#[Zw,4,Vm.nd,#[3],#[Zk,(Zm5 rfl),#[5],T.b.n_max,boot_max,#[Zc,‹4›,#[rN,5]]]],#[Zi,#[ZX,#[Xl,QR,Q9,Qaa,Vy,‹2›,#[Zc,#[ZV,#[es,3,4]]]]]]]]],#[bL]]]]],?_⟩;have gU:=Qbd Z;show#[v8];obtain⟨tj,tq,xn⟩:=Rc 8 N n Z nF;show#[g7,#[15],r,G];have I:=Zg G #[br];show#[ew,g,H,r,#[br]];generalize upd H r (.lst [])=H1 at I g ⊢;refine⟨_,rfl,_,rfl,_,rfl,_,rfl,a,N,n,rfl,I _ _ ha,gU,by lia,λwy v H2 BN xp hnot cX J L=>?_⟩;rw[I0 8 N n nF]at J;have nh:=J.len;rw[Qa]at nh;have vv:=I.trans L;show#[ie,wy,xp];refine SE (K:=K) (a:=wy) (xs:=v.map V.ref) (λi x d=>X2 λ(M:Option V) (c:List ae)=>x=[U #[iB],U (.int n),U #[jV],U (.int (#[oI].headD 0)),U (.int (#[oI].getLastD 0)),M]/\i<=v.length/\c.length=i/\d r=U (.lst (c.map V.ref))/\(∀ (j:Nat) (t:ae) (X:List Int),c[j]? = U t->#[jI][j]? = U X->d t=U #[gK,X])/\(∀t∈c,t≠r/\∃xs,d t=U #[dG])/\#[e2,H2,r,d]) ⟨_,[],rfl,Qu _,rfl,L _ _ g,(λj t X h=>by simp at h),#[eP,t,h],λb o h _=>h⟩ (λi x d _ hq=>by obtain⟨_,_,_,_,_,_,_,_,k3⟩:=hq;exact SqL.of (k3 _ _ xp (λz=>by rw[z,g]at BN;cases BN))) ?_ ?_
 ·rintro i y x d k ⟨M,c,rfl,hi,O,e,R,GK,k3⟩;rw[Qp]at k;cases m:v[i]? with
  | none=>rw[m]at k;cases k
  | some l =>
  show#[ex,m,k,dG,v.length];cases p:(ZP 8 N n)[i]? with
  | none=>rw[Qax]at p;lia
  | some X =>
  obtain⟨x1,x2,x3,x4⟩:=tj i X p;have S:H2 l=U #[fa,Y7,X]:=J.get m (by rw[Qp,p];rfl);have Bg:l≠r:=λz=>by rw[z]at S;rw[L _ _ g]at S;have:=cX l (Qv m);show#[hD,g]
  have fZ:=k3 _ _ S Bg;have bR:=ZoZ x2 n;have B:=ZlU (x1.rise cx) x2 n;rw[x4]at B;have e3:low n #[jI] (i+1)=X:=by show (ZP 8 N n).getD i []=X;rw[QI,p];rfl
  refine⟨_,rfl,_,rfl,l,_,_,_,rfl,rfl,SqL.of fZ,Jy bR,_,_,rfl,_,rfl,_,rfl,_,rfl,l,_,_,_,rfl,rfl,SqL.of fZ,Jz bR,_,_,rfl,_,rfl,.inl #[fm,e],_,rfl,_,rfl,#[L],λt C=>?_⟩;have D:r≠t:=Zf e C;refine⟨r,_,_,rfl,rfl,by rw[Zd D];exact e,#[ec],U #[cq],c++[t],?_,dG,by rw[Qf,Qz];lia,by rw[Zb,Qd];rfl,λj u Y hu W=>?_,λu hu=>?_,λb o F nb=>?_⟩
  ·rw[e3];have h1:=congrArg Prod.fst B;have h2:=congrArg Prod.snd B;simp only at h1 h2;rw[show X.headD 0=(ZZ X).1 from rfl,show X.getLastD 0=(ZZ X).2 from rfl,h1,h2];rfl
  ·have vx:∀ (u:ae) (xs:List V),d u=U #[dG]->(upd (upd d t (.tup [.int (if (Y7 X n).headD 0<#[oI].headD 0 then (Y7 X n).headD 0 else (low n #[jI] i).headD 0),.int (if (Y7 X n).getLastD 0>#[oI].getLastD 0 then (Y7 X n).getLastD 0 else (low n #[jI] i).getLastD 0)])) r (.lst (c.map V.ref++[.ref t]))) u=U #[dG]:=λu xs hu=>by rw[Zd (λz=>by rw[z,e]at hu;cases hu),Zd (Zf hu C)];exact hu
   by_cases hj:j<c.length
   ·rw[QM hj]at hu;exact vx u _ (R j u Y hu W)
   ·have ej:j=c.length:=by have:=(Qe.mp hu).1;rw[Qf,Qz]at this;lia
    show#[rV,ej,hu];show#[eO,O,p,W];rw[Zd D.symm,Zb,B]
  ·rcases Qj.mp hu with hu|hu
   ·obtain⟨g1,xs,g2⟩:=GK u hu;exact⟨g1,xs,by rw[Zd g1,Zd (Zf g2 C)];exact g2⟩
   ·rw[Qi.mp hu];exact⟨D.symm,_,by rw[Zd D.symm];exact Zb⟩
  ·have:=k3 b o F nb;rw[Zd nb,Zd (Zf this C)];exact this
 ·rintro x d ⟨M,c,rfl,_,O,e,R,_,k3⟩;rw[Qa]at O;exact⟨_,rfl,q r c d G e #[2] R (λb o F=>k3 b o (vv b o F) (Zf F G))⟩
def CV(H:Hp)(v:V)(c:Com):Prop:=(c=af/\v=.non)\/X2 λ(t:ae) (p:Int×Int)=>c=U p/\v=.ref t/\H t=U #[g8,p.1,p.2]
theorem CV.keep{H a:Hp}{v:V}{c:Com}(h:CV H v c)(k:∀t xs,H t=U #[dG]->a t=U #[dG]):CV a v c:=by
 rcases h with h|⟨t,p,b,d,e⟩
 ·exact .inl h
 ·exact .inr ⟨t,p,b,d,k _ _ e⟩
theorem Zo4{s:StL}{k:#[dW]}{a:#[ak]}(h:Z4 s k=U a):s.any #[kI]=true:=QaF.mpr ⟨_,JU h,decide_eq_true rfl⟩
theorem No{s:StL}{k:#[dW]}{a v:#[ak]}(h:Z4 s k=U a):#[l2].length=s.length:=by unfold Yf;rw[if_pos (Zo4 h),Qa]
def AgS(hd:Hd)(z:#[iA])(A B:#[w])(k q:Int):Prop:=∀C k0 a,Ag hd z C k0 a->Ag hd z (C++[(A,B)]) (k0+k) (a+q)
def IY(e f:ae):Sp:=λvs H Q _=>X15 λ(m rd sd:ae) (L:List ZC) (s:StL) (nb li lo:Int) (g:V) (h:ae) (v:V) (c:Com) (z:List Nat) (M:List Int) (n:Int)=>vs=[.ref m,.ref h,v]/\ZW e f H m rd sd L s nb li lo g/\H h=U #[gK,M]/\CV H v c/\SY #[cZ] z #[b8] c /\
 ((Win #[cZ] #[k6] af/\#[o9])\/X3 λt b y=>Win #[cZ] #[k6] (U b)/\hdM L b=U y/\Z4 s (ZZ M)=U (U (t,b,#[gS,y,z]))) /\
 (∀b∈M,∀y,hdM L b=U y->ZS z y<=0)/\YM M/\(∀b∈M,b∈ZG L)/\2<=M.length/\n∈M /\
 ∀ (i:V) (l:Com) (d:StL) (k q:Int) (a:Hp),CV a i l->SY #[cZ] z M l->Wl #[cZ] d #[b8] #[k6] (ZZ M)->(∀j,j≠ZZ M->Z4 d j=Z4 s j)->AgS #[cZ] z #[b8] #[k6] k q ->
  ZW e f a m rd sd L d nb (li+k) (lo+q) g->#[e3,H,sd,a]->Q i a
theorem IX{L:#[aI]}(nd:#[oX]){b:Int}(hb:b∈ZG L){y:#[iA]}(hy:hdM L b=U y):∃e∈L,e.n=b/\∃x,e.ss[e.g]? = U x/\y=cds x:=by
 obtain⟨e,c,rfl⟩:=Tc hb;rw[U7 nd c]at hy;cases a:e.ss[e.g]? with
 | none=>rw[a]at hy;cases hy
 | some x=>rw[a]at hy;cases hy;exact⟨e,c,rfl,x,a,rfl⟩
theorem ZpL(T:#[e])(cj:#[xp]):Mf P w K mg base 4 ak "play_again" #[b9] (IY aw ak):=by
 show#[xL,T.t_Merge_play_again.mf,Tv];obtain⟨m,rd,I,L,s,nb,li,lo',aC,tm,v,c,z,M,n,rfl,Mg,j9,vz,⟨wS,BO⟩,cW,hge,cx,gC,h2,hn,q⟩:=h;refine⟨_,#[Ze,#[Zw,3,Tv.nd,#[3],(@Zr5 _ _ _ _ _ _ _ _ hr #[I] ‹1› #[5] #[5] #[5])],#[Ze,#[ZN,#[gz,3],#[bL],#[Zy]],#[Ze,#[ZN,#[gz,2],#[Ze,#[Z2,#[ZU],#[vY]],#[fb,3]],#[Zy]],#[Ze,#[ZN,#[Zm,YW,#[cD],#[xq],#[37]],#[Ze,#[Z2,#[Xq,cj,T.cl_Merge,hr,‹0›,#[Zc,#[cD],#[xq],#[cD]]],#[fE,4,Tv.nd,5,6]],#[Ze,#[Z2,#[ZV,#[es,5,6]],#[vY]],#[Zi,#[Zr,#[ZV,#[Zc,‹4›,#[cD]]]]]]],#[Zy]],#[Ze,#[nl],#[Ze,#[ZN,#[Zm,VE,#[cD],#[xq],#[37]],#[bL],#[Zy]],#[Ze,#[Z2,‹2›,#[vY]],#[fb,3]]]]]]]],?_⟩;show#[ep,dx,N,Mg.ob];have pW:#[hW,H]:=j9;have Z:=Rh M n;have dg:=ZM.t (k:=#[85]) Mg.stays pW;rw[JV]at dg;have sA:#[sn,Z0]:=λb r=>Z.mem_iff.mp (QN _ r);have sB:#[sn,Y7]:=λb r=>Z.mem_iff.mp (QC _ r);have dY:=Nv cx (Ut hn);have GL:∀a b,a∈Z0 M n->b∈Y7 M n->a≠b:=λa b ha r e=>by
  subst e;unfold Z0 Y7 at *
  split at ha
  ·rename_i hl;rw[if_pos hl]at r;have:=ZR cx ha r;lia
  ·rename_i hl;show#[xC,hl,r];have:=ZR cx r ha;lia
 refine⟨_,rfl,m,ak,dx,_,_,rfl,N,T.cl_Merge,T.na_Merge_stays,Tb ..,I,rfl,.inr ⟨_,.inl Mg.stays⟩,_,rfl,_,dg,?_⟩;rcases cW with⟨u,W⟩|⟨t,b,y,u,D,W⟩
 ·have ev:#[xm].getD .non=.non:=by rcases W with e|e<;>rw[e]<;>rfl
  rw[ev];refine⟨_,rfl,rfl,_,rfl,YE rfl ⟨_,rfl,q v c s 0 0 H vz ⟨(Win.left wS u).perm Z,BO⟩ ⟨(λa b x y _ wb _ _=>nomatch u.one wb),λ_=>W⟩ #[kz] (λC k0 q0 g=>by rw[QV,QV];exact .no g (.inr u)) (Mg.cast #[2] #[2]) #[uc]⟩⟩
 have cJ:=Mg.ats _ (JU W) _ rfl;have e1:#[xm].getD .non=.ref t:=by rw[W];rfl
 rw[e1];have sU:=Mg.sfew;have ki:#[q3,kvS,s]:=by unfold kvS;show#[c2]
 show#[35];have tf:=sB b u.1;rcases vz with⟨rfl,rfl⟩|⟨F,p,rfl,rfl,J⟩
 ·refine#[50];refine⟨_,rfl,m,ak,dx,_,_,rfl,N,T.cl_Merge,T.na_Merge_stays,Tb ..,_,rfl,I,_,rfl,Yz.t (k:=#[85]) Mg.stays pW ki,?_⟩;rw[show V.non=stV af from rfl,RC];have oW:(Yf s (ZZ M) af).length<=100:=by rw[No W];exact sU
  have M2:=Mg.put (k:=ZZ M) (v:=af) #[eP,t,X] oW;have B:Win #[cZ] #[b8] af:=wS;refine⟨_,rfl,q #[jz] (U (b,#[gS,y,z])) _ 0 0 _ #[rb,t,?_] ⟨(Win.right B u).perm Z,λp hp=>?_⟩ ⟨(λa b x y wa _ _ _=>nomatch B.one wa),λ_=>.inr ?_⟩ (λj hj=>?_) (λC k0 q0 g=>?_) (M2.cast #[2] #[2]) (λb o r _ n2=>by rw[Zd n2];exact r)⟩
  ·show#[g2,Zd,z,Mg.stays,cJ]
  ·cases hp;exact⟨y,D,rfl⟩
  ·rw[Wq,if_pos rfl]
  ·rw[Wq,if_neg hj]
  ·rw[QV,QV];exact .no g (.inl B)
 show#[ep,a,fa,p];obtain⟨x,G,BP⟩:=BO _ rfl;simp only at G BP;subst BP;have B:Win #[cZ] #[b8] (U a):=wS;have BQ:=sA a B.1;have m9:=GL a b B.1 u.1;obtain⟨O,vn,rfl,i,GN,rfl⟩:=IX Mg.nd (gC a BQ) G;obtain⟨eb,vp,rfl,l,GO,rfl⟩:=IX Mg.nd (gC b tf) D;show#[hy,c0,O.n,#[53],0,O.n];show#[hy,c1,O.n,#[53],1,#[53]];show#[hy,d0,eb.n,#[bE],0,eb.n];show#[hy,d1,eb.n,#[bE],1,#[bE]];show#[35];refine⟨_,rfl,F,_,_,_,rfl,rfl,SqT.of J,c1,_,rfl,t,_,_,_,rfl,rfl,SqT.of cJ,d1,rfl,_,rfl,Y1 #[aM] #[aM]⟩
 ·have ef:lcp (cds i) z=lcp (cds l) z:=by have:=#[89];injection this with this;lia
  have oH:=ZsI ef;refine⟨_,rfl,m,dx,_,rfl,N,Jx ..,_,rfl,F,_,_,_,rfl,rfl,SqT.of J,c0,_,rfl,t,_,_,_,rfl,rfl,SqT.of cJ,d0,_,rfl,F,_,_,_,rfl,rfl,SqT.of J,c1,m,rd,I,L,s,nb,li,lo',aC,O,eb,i,l,lcp (cds i) z,rfl,Mg,vn,vp,GN,GO,oH,λt5 wi R H5 hw yM sM M5 b5=>?_⟩;show#[gJ,t5,sM];have kh:2<=ao:=by decide
  refine⟨_,rfl,_,rfl,kh,λS yN=>?_⟩;have s6:=Zg yN #[g8,R,#[70]];have nA:(upd H5 S #[g8,R,#[70]]) S=U #[g8,R,#[70]]:=Zb;have M6:=M5.same s6;generalize upd H5 S (.tup [.int R,.int ((lcp (cds i) (cds l):Nat):Int)])=H6 at s6 nA M6 ⊢;show#[tA];have yU:tm≠m:=λz=>by rw[z,N]at j9;cases j9
  have yV:F≠m:=λz=>by rw[z,N]at J;cases J
  have BR:#[hW,H6]:=s6 _ _ (b5 _ _ pW yU);refine⟨_,rfl,m,ak,sN,_,_,rfl,qG,T.cl_Merge,T.na_Merge_stays,Tb ..,_,rfl,I,_,rfl,Yz.t (k:=#[85]) M6.stays BR ki,?_⟩;rw[show V.ref S=stV (U (S,R,#[70])) from rfl,RC];have oW:#[tl].length<=100:=by rw[No W];exact sU
  have M7:=M6.put (k:=ZZ M) (v:=U (S,R,#[70])) (λt X=>by injection X with X;rw[<- X];exact nA) oW;have b7:∀b o,H b=U o->b≠m->b≠I->(upd H6 I (.dT (kvS #[tl]))) b=U o:=λb o r n1 n2=>by rw[Zd n2];exact s6 _ _ (b5 b o r n1)
  have BS:F≠I:=λz=>by rw[z,Mg.stays]at J;cases J
  generalize upd H6 I (.dT (kvS (Yf s (ZZ M) (U (S,R,((lcp (cds i) (cds l):Nat):Int))))))=H7 at M7 b7 ⊢;refine⟨_,rfl,_,rfl,F,_,_,_,rfl,rfl,SqT.of (b7 _ _ J yV BS),c1,kh,λt8 BU=>?_⟩;have wn:Win #[cZ] M (U wi):=by
   rcases hw with⟨Y,rfl,_⟩|⟨Y,rfl,_⟩
   ·exact(Win.both B u G D Y).perm Z
   ·exact(Win.both' B u G D ((Btr.total m9).resolve_left Y)).perm Z
  refine q (.ref t8) (U (wi,#[53])) _ 1 (#[gv,i,l]-(lcp (cds i) z:Nat)+1) _ #[rb,t8,Zb] ⟨wn,λp hp=>?_⟩ ⟨λa b x' y' wa wb oY oZ=>?_,λdY=>?_⟩ #[s8] (λC k0 q0 g=>.eq g B u G D ef) ((M7.same (Zg BU _)).cast rfl rfl) (λb o r n1 n2=>Zg BU _ _ _ (b7 b o r n1 n2))
  ·cases hp;rcases hw with⟨Y,rfl,_⟩|⟨Y,rfl,_⟩
   ·exact⟨_,G,rfl⟩
   ·exact⟨_,D,by simp only;rw[ef]⟩
  ·show#[10];refine⟨S,R,by rw[Wq,if_pos rfl],?_⟩;rcases hw with⟨Y,_,rfl⟩|⟨Y,_,rfl⟩
   ·exact .inl ⟨Y,rfl⟩
   ·exact .inr ⟨(Btr.total m9).resolve_left Y,rfl⟩
  ·rcases dY with z|z
   ·show#[gZ,B]
   ·show#[gZ,u]
 have BV:lcp (cds i) z≠lcp (cds l) z:=λe=>d #[rt,e];show#[f6,N,T.na_Merge_likened,NE,JA];have M2:=Mg.obj (nb':=nb) (li':=li+1) (lo':=lo') (best':=aC) (dx:=dx);have k2:∀b o,H b=U o->b≠m->(upd H m (.ins ak dx (mgF rd nb (li+1) lo' I aC))) b=U o:=λb o r n=>by rw[Zd n];exact r
 have yV:F≠m:=λz=>by rw[z,N]at J;cases J
 have GP:t≠m:=λz=>by rw[z,N]at cJ;cases cJ
 have yU:tm≠m:=λz=>by rw[z,N]at j9;cases j9
 generalize upd H m (.ins ak dx (mgF rd nb (li+1) lo' I aC))=H2 at M2 k2 ⊢;have tu:=k2 _ _ J yV;have pX:=k2 _ _ cJ GP;refine⟨_,rfl,F,_,_,_,rfl,rfl,SqT.of tu,c1,_,rfl,t,_,_,_,rfl,rfl,SqT.of pX,d1,_,_,rfl,rfl,_,rfl,Y1 (λg=>?_) (λg=>?_)⟩
 ·have GQ:lcp (cds l) z<lcp (cds i) z:=by have:#[bE]<#[53]:=of_decide_eq_true g;lia
  obtain⟨bt,el⟩:=Je (a:=O.n) (b:=eb.n) GQ (hge _ tf _ D);refine⟨_,rfl,q (.ref F) (U (O.n,#[53])) s 1 0 H2 #[rb,F,tu] ⟨(Win.both B u G D bt).perm Z,λp hp=>by cases hp;exact⟨_,G,rfl⟩⟩ ⟨λa b x' y' wa wb oY oZ=>?_,λdY=>?_⟩ #[kz] (λC k0 q0 g=>by rw[QV];exact .ne g B u G D BV) (M2.cast rfl #[2]) (λb o r n1 _=>k2 b o r n1)⟩
  ·show#[10];exact⟨t,_,by rw[el];exact W,.inl ⟨bt,rfl⟩⟩
  ·rcases dY with z|z
   ·show#[gZ,B]
   ·show#[gZ,u]
 ·have aX:lcp (cds i) z<lcp (cds l) z:=by have:¬ #[bE]<#[53]:=λe=>g (decide_eq_true e);lia
  obtain⟨bt,el⟩:=Je (a:=eb.n) (b:=O.n) aX (hge _ BQ _ G);show#[tB];have BW:#[hW,H2]:=k2 _ _ pW yU;refine⟨_,rfl,_,rfl,m,ak,kj,_,_,rfl,fm,T.cl_Merge,T.na_Merge_stays,Tb ..,_,rfl,I,_,rfl,Yz.t (k:=#[85]) M2.stays BW ki,?_⟩;rw[show V.ref F=stV (U (F,O.n,#[53])) from rfl,RC];have oW:(Yf s (ZZ M) (U (F,O.n,#[53]))).length<=100:=by rw[No W];exact sU
  have M3:=M2.put (k:=ZZ M) (v:=U (F,O.n,#[53])) (λt X=>by injection X with X;rw[<- X];exact tu) oW;refine⟨_,rfl,q #[jz] (U (eb.n,#[bE])) _ 1 0 _ #[rb,t,?_] ⟨(Win.both' B u G D bt).perm Z,λp hp=>by cases hp;exact⟨_,D,rfl⟩⟩ ⟨λa b x' y' wa wb oY oZ=>?_,λdY=>?_⟩ #[s8] (λC k0 q0 g=>by rw[QV];exact .ne g B u G D BV) (M3.cast rfl #[2]) (λb o r n1 n2=>by rw[Zd n2];exact k2 b o r n1)⟩
  ·show#[g2,Zd,z,M2.stays,pX]
  ·show#[10];exact⟨F,_,by rw[Wq,if_pos rfl,Vf (cds i) (cds l),el],.inr ⟨bt,rfl⟩⟩
  ·rcases dY with z|z
   ·show#[gZ,B]
   ·show#[gZ,u]
noncomputable def WY(n:Int)(e:ZC):ZC:=if e.n=n then ⟨e.n,e.p,e.k,e.f,e.ss,e.g+1⟩ else e
noncomputable def bump(L:#[aI])(n:Int):List ZC:=L.map (WY n)
theorem U3(n:Int)(e:ZC):(WY n e).n=e.n/\(WY n e).p=e.p/\(WY n e).k=e.k/\(WY n e).f=e.f/\(WY n e).ss=e.ss:=by unfold WY;split<;>exact#[vd]
theorem P0{n:Int}{e:ZC}(h:e.n=n):WY n e=⟨e.n,e.p,e.k,e.f,e.ss,e.g+1⟩:=if_pos h
theorem Nm{n:Int}{e:ZC}(h:¬ e.n=n):WY n e=e:=if_neg h
theorem Ur(L:#[aI])(n:Int):ZG #[oO]=ZG L:=by unfold ZG bump;rw[Qk];exact QD λe _=>(U3 n e).1
theorem Zrn(L:#[aI])(n:Int):#[oO].map (·.p)=L.map (·.p):=by unfold bump;rw[Qk];exact QD λe _=>(U3 n e).2.1
theorem Zn5(L:#[aI])(n:Int):kvM #[oO]=kvM L:=by unfold kvM bump;rw[Qk];refine QD λe _=>?_;simp only[Function.comp];rw[(U3 n e).1,(U3 n e).2.1]
theorem Zqb{m rd sd:ae}{L:#[aI]}{n:Int}{b:ae}(h:Fp m rd sd #[oO] b):Fp m rd sd L b:=by
 rcases h with h|h|h|⟨e',a,h⟩
 ·exact .inl h
 ·show#[qT,h]
 ·exact .inr #[hJ,h]
 ·show#[en,e,c,a];obtain⟨_,d,f,g,_⟩:=U3 n e;rw[d,f,g]at h;exact .inr #[hp,e,c,h]
theorem Fp_bump'{m rd sd:ae}{L:#[aI]}{n:Int}{b:ae}(h:Fp m rd sd L b):Fp m rd sd #[oO] b:=by
 rcases h with h|h|h|⟨e,a,h⟩
 ·exact .inl h
 ·show#[qT,h]
 ·exact .inr #[hJ,h]
 ·obtain⟨_,c,d,f,_⟩:=U3 n e;refine .inr (.inr (.inr ⟨WY n e,Qg a,?_⟩));rw[c,d,f];exact h
theorem IW{n b:Int}(h:b≠n):∀L:List ZC,hdM #[oO] b=hdM L b
 | []=>rfl
 | e::L=>by
  have c:=IW h L;unfold hdM hdL bump at c ⊢;rw[Qs,Qs,Qs,QY,QY];have d:(toL (WY n e)).1=e.n:=(U3 n e).1;rw[d];by_cases a:e.n=b
  ·rw[decide_eq_true a,decide_eq_true (show (toL e).1=b from a),Nm (λz=>h (a.symm.trans z))]
  ·rw[decide_eq_false a,decide_eq_false (show ¬ (toL e).1=b from a)];exact c
theorem IV{L:#[aI]}(nd:#[oX]){e:ZC}(he:e∈L):hdM #[m2] e.n=(e.ss[e.g+1]?).map cds:=by have a:WY e.n e∈bump L e.n:=Qg he;rw[P0 rfl]at a;exact U7 (L:=bump L e.n) #[ei,Ur,nd] a
theorem Nl(k f:ae)(g:Int):YV k f g=#[iZ]:=by unfold YV;rw[WM,ZB nFK,WM,ZB nGK,ZB nGF,WM]
theorem Zh7(k f:ae)(g v:Int):ZA "gone" #[me] #[ji]=YV k f v:=by rw[Nl,Nl,ZB nGK,ZB nGF,VM]
theorem Nk(k f:ae)(g:Int):#[ji].length<1000:=by rw[Nl];show 3<1000;decide
theorem ZmK(k f:ae)(g:Int):#[ji].lookup ("fars" : al)=U #[bT]:=by unfold YV;rw[Zs,if_neg nGF,Zs,if_pos rfl]
theorem IU{L:#[aI]}(pd:#[xd].Nodup){e e':ZC}(he:e∈L)(a:e'∈L)(h:e.p=e'.p):e=e':=by
 have b:((L.map λx=>(x.p,x)).map #[T]).Nodup:=by rw[Qk];exact pd
 have:=Wm b #[ru,x.p,he] #[ru,x.p,a] h;injection this
theorem ZW.bump{b h:ae}{H:Hp}{m rd sd:ae}{L:#[aI]}{s:StL}{nb li lo:Int}{i:V}(M:#[gB,b,h,i]){e:ZC}(he:e∈L)(k:e.g<e.ss.length){dp:ae} :
  ZW b h (upd H e.p (.ins b dp (YV e.k e.f #[ge,e.g]))) m rd sd (My.bump L e.n) s nb li lo i:=by
 show#[gm,l,n];obtain⟨dq,c⟩:=#[oS];obtain⟨o,_,_⟩:=M.ne_p he;obtain⟨d,_,_,p,_,_⟩:=M.ne_sd he;refine⟨⟨l,by rw[Zd o];exact n⟩,by rw[Zd p,Zn5];exact M.rows,by rw[Zd d];exact M.stays,λx a t q=>?_,λe' r=>?_,by rw[Ur];exact M.up,by rw[Zrn];exact M.pd,by unfold My.bump;rw[Qa];exact M.few,M.sfew⟩
 ·have:=M.ats x a t q;show#[e1,c]
 ·show#[en,x,a,r];have R:=M.each x a;have u:∀ {y:ZC},y∈L->y.k≠e.p/\y.f≠e.p:=λ{y} v=>by have j:=M.each y v;exact⟨(λz=>by have:=j.at'.ks;rw[z,c]at this;cases this),(λz=>by have:=j.at'.fs;rw[z,c]at this;cases this)⟩
  obtain⟨k1,k2⟩:=u a;by_cases g:x.n=e.n
  ·have ex:x=e:=by
    have d:((L.map λx=>(x.n,x)).map #[T]).Nodup:=by rw[Qk];exact M.nd
    have:=Wm d #[ru,x.n,a] #[ru,x.n,he] g;injection this
   subst ex;rw[P0 rfl];exact⟨⟨⟨dp,Zb⟩,by show (upd H x.p _) x.k=_;rw[Zd k1];exact R.at'.ks,by show (upd H x.p _) x.f=_;rw[Zd k2];exact R.at'.fs⟩,k,R.len,R.srt,R.str⟩
  ·rw[Nm g];exact R.keep (Zd (λz=>g (by rw[IU M.pd a he z]))) (Zd k1) (Zd k2)
theorem Zti{L:#[aI]}{e:ZC}{x:al}(nd:#[oX])(up:YM #[k5])(he:e∈L)(hx:e.ss[e.g]? = U x)(srt:#[se,e.ss])(W:#[wI]):Tk #[cZ] #[bq] #[k5] e.n #[aY]:=by
 refine⟨W,by rw[U7 nd he,hx];rfl,λb d=>IW d L,λy a=>?_,up⟩;rw[IV nd he]at a;cases c:e.ss[e.g+1]? with
 | none=>rw[c]at a;cases a
 | some f=>rw[c]at a;cases a;exact J6 srt e.g x f hx c
theorem Zs2{c:Bool}{b d:VK->Prop}{Q:VK}(P:V->Hp->Prop)(h1:c=true->∀a:VK,(∀v H,P v H->a v H)->b a)(h2:c=false->∀a:VK,(∀v H,P v H->a v H)->d a)(q:∀v H,P v H->Q v H):if c=true then b Q else d Q:=by
 cases c with
 | true=>rw[if_pos rfl];exact h1 rfl Q q
 | false=>rw[if_neg #[6]];exact h2 rfl Q q
noncomputable def Wi(n:Int)(C:List #[sG]):List #[k7]:=C.map λX=>(Z0 X n,Y7 X n)
theorem Zj2(rd:ae)(nb li lo:Int)(sd:ae)(a:V):#[14].lookup ("play_again" : al)=af:=#[o]
def IT(c d:ae):Sp:=λvs H Q _=>X11 λ(m rd sd:ae) (L:List ZC) (s:StL) (nb li lo:Int) (h:V) (e:ZC) (x:al)=>vs=#[qE,m,e.n]/\ZW c d H m rd sd L s nb li lo h/\e∈L/\e.ss[e.g]? = U x/\Win #[cZ] #[k5] (U e.n)/\Yt #[cZ] s #[k5] /\
 ∀ (f:StL) (g:Option Int) (k q:Int) (a:Hp),ZW c d a m rd sd #[m2] f nb (li+k) (lo+q) (Yk g)->Win #[bq] #[k5] g->Yt #[bq] f #[k5]->Ag #[bq] #[aY] (Wi e.n #[d6]) k q->(∀b o,H b=U o->¬ Fp m rd sd L b->a b=U o)->Q .non a
theorem Zqv(T:#[e])(aV:#[56])(fE:#[em,3,"matches_up",#[cx],IZ])(dB:#[ev,4,"play_again",#[b9],IY]):Mf P w K mg base 5 ak "send_out" #[mR] (IT aw ak):=by
 show#[xL,T.t_Merge_send_out.mf,Tw];obtain⟨m,O,G,L,s,nb,li,lo',aC,e,x,rfl,M,S,hx,W,ok,q⟩:=h;refine⟨_,#[Ze,#[Zw,2,Tw.nd,#[3],#[fN,hr,#[I],1]],#[Ze,#[VC,‹2›,#[Zj],Uf],#[Ze,#[Zw,3,Tw.nd,#[3],#[WV,#[Zm,XR,#[rS,aV,hr,2],#[ZU],#[37]],#[ZU],#[ZV,#[Zc,‹1›,#[Zo,#[ly],#[ZO,‹2›],#[ZO,‹2›]]]]]],#[Ze,#[XS,bf.never,#[iL,K,#[Zx,fE,hr,#[Zc,#[na],‹1›],#[5]]],#[ZD,4,Tw.nd,#[3]],#[Zi,#[Zw,3,Tw.nd,#[3],#[Xq,dB,T.cl_Merge,hr,‹0›,#[es,4,3]]]]],#[Zi,#[XO,‹0›,#[WV,#[gz,3],#[ZU],#[xq]]]]]]]],?_⟩;show#[xo];show#[rF,R,S,dp,hp,R.at'.ob];have hg:e.g<e.ss.length:=(Qe.mp hx).1;have tk:=Zti M.nd M.up S hx R.srt W;refine⟨_,rfl,m,ak,dx,_,_,rfl,hm,T.cl_Merge,T.na_Merge_rows,Ye ..,_,rfl,O,_,rfl,ZM.k' (k:=#[pT]) M.rows (Wo M.nd S),_,rfl,e.p,aw,dp,_,_,rfl,hp,T.cl_Row,T.na_Row_gone,Tj ..,_,_,rfl,rfl,dp,_,hp,Nk ..,?_⟩;rw[Zh7,show ((e.g:Int)+1)=#[ge,e.g] by lia];have M1:=M.bump S hg (dp:=dp);show#[ew,vA,H,e.p,#[dH]];have k1:#[qw,o,e.p,H,e.p,#[dH]]:=λb o B n=>by rw[Zd n];exact B
 generalize upd H e.p (.ins aw dp (YV e.k e.f ((e.g+1:Nat):Int)))=H1 at M1 vA k1 ⊢;have gX:(⟨e.n,e.p,e.k,e.f,e.ss,e.g+1⟩:ZC)∈bump L e.n:=by have:WY e.n e∈bump L e.n:=Qg S;rwa [P0 rfl]at this
 have R1:=M1.each _ gX;have hU:∀ {C:Hp},#[e3,H1,G,C]->∀b o,H b=U o->¬ Fp m O G L b->C b=U o:=λ{C} k b o B nf =>
  k b o (k1 b o B λz=>nf #[g4,e,S]) #[gG,nf] (λz=>nf #[kA])
 have gU:e.n∈ZG L:=W.1;have hZ:#[k5].length<=60:=by unfold ZG;rw[Qa];exact M.few
 have nF:#[k5].length<=2 ^ 8:=Ql hZ #[6];obtain⟨tj,tq,xn⟩:=Rc 8 #[k5] e.n gU nF;have yW:hdM #[m2] e.n=(e.ss[e.g+1]?).map cds:=IV M.nd S;have yr:∀ (c:Com),(c=af/\e.ss[e.g+1]? = af)\/(∃y,e.ss[e.g+1]? = U y/\c=U (e.n,#[mS]))->SY #[bq] #[aY] [e.n] c:=λc hc=>by
  have hw:=Win.sing (hd:=hdM #[m2]) (n:=e.n);rcases hc with⟨rfl,hn⟩|⟨y,u,rfl⟩
  ·rw[yW,hn]at hw;exact⟨hw,λp hp=>by cases hp⟩
  ·rw[yW,u]at hw;exact⟨hw,λp hp=>by cases hp;exact⟨cds y,by rw[yW,u];rfl,rfl⟩⟩
 refine⟨_,rfl,e.p,dp,_,rfl,vA,U6 ..,e.p,e.k,e.f,e.ss,e.g+1,rfl,R1.at',rfl,_,rfl,?_⟩;rw[Jq];refine Zs2 (λv C=>ZF H1 C/\∃c,CV C v c/\SY #[bq] #[aY] [e.n] c) #[qK,d,Q',Z] #[qK,d,Q',Z] (λv C ⟨s2,c,vz,hok⟩=>?_)
 ·have hn:e.ss[e.g+1]? = af:=by
   have:=#[89];cases u:e.ss[e.g+1]? with
   | none=>rfl
   | some y=>rw[u]at this;cases this
  exact Z _ _ ⟨ZF.refl _,af,.inl #[bM],yr af (.inl ⟨rfl,hn⟩)⟩
 ·obtain⟨y,u⟩:∃y,e.ss[e.g+1]? = U y:=by
   cases u:e.ss[e.g+1]? with
   | none=>rw[u]at d;exact absurd rfl (of_decide_eq_false d)
   | some y=>exact⟨y,rfl⟩
  have yX:e.g+1<e.ss.length:=(Qe.mp u).1;have ym:WZ e.ss (e.g+1)=#[mS]:=by unfold WZ;rw[if_neg #[2],Qal,QI,QI,hx,u,Vf];rfl
  have cJ:atI ((List.range e.ss.length).map λj=>V.int (WZ e.ss j)) #[ge,e.g]=U (.int #[mS]):=Yo (by rw[Qp,List.getElem?_range yX,<- ym];rfl);refine⟨_,rfl,_,rfl,e.p,aw,dp,_,_,rfl,vA,T.cl_Row,T.na_Row_fars,ZmK ..,_,rfl,e.p,aw,dp,_,_,rfl,vA,T.cl_Row,T.na_Row_gone,Tj ..,e.f,_,_,_,rfl,rfl,SqL.of R1.at'.fs,cJ,#[L],λtc iW=>?_⟩;exact Z _ _ ⟨Zg iW _,U (e.n,#[mS]),.inr #[rh,tc,Zb],yr _ (.inr ⟨y,u,rfl⟩)⟩
 have M2:=M1.same s2;show#[tB];refine⟨_,rfl,m,ak,kj,_,_,rfl,fm,T.cl_Merge,T.na_Merge_rows,Ye ..,O,_,rfl,M2.rows,λl hl=>?_⟩;rw[Ju,Ur];have s3:=s2.trans (Zg hl #[aE]);show#[ew,fZ,C,l,#[aE]];have xq:CV (upd C l #[aE]) v c:=vz.keep λt xs ht=>Zg hl _ _ _ ht;generalize upd C l (.lst ((ZG L).map V.int))=H3 at s3 fZ xq ⊢;refine⟨_,rfl,l,ZG L,e.n,rfl,fZ,gU,hZ,M.up,λr ts H4 bD jG gt dX s4=>?_⟩;have jM:=s3.trans s4;have M4:=M1.same jM;have BX:CV H4 v c:=xq.keep λt xs ht=>s4 _ _ ht;show#[ie,r,jG];show#[ep,dm4,iS,M4.ob];show#[ep,dm1,fA,M1.ob];have sQ:r≠m:=(Zf (s3 _ _ fA) bD).symm;have BA:r≠G:=(Zf (s3 _ _ M1.stays) bD).symm;refine SE (K:=K) (a:=r) (xs:=ts.map V.ref) (λi σ I=>X6 λ(v':V) (c':Com) (J:StL) (k q':Int) (v4:Option V)=>σ=[U (.ref m),U (.int e.n),U (.ref e.p),U v',v4]/\i<=ts.length/\CV I v' c'/\SY #[bq] #[aY] #[tc] c'/\ZW aw ak I m O G #[m2] J nb (li+k) (lo'+q') aC/\Yt #[bq] J #[tc]/\(∀j,¬ Kys #[tc] j->Z4 J j=Z4 s j)/\Ag #[bq] #[aY] (Wi e.n (#[d6].take i)) k q'/\#[e3,H4,G,I]) ?_ (λi σ I _ Z=>by obtain⟨_,_,_,_,_,_,_,_,_,_,_,_,_,_,k5⟩:=Z;exact SqL.of (k5 _ _ jG sQ BA)) ?_ ?_
 ·refine⟨v,c,s,0,0,_,rfl,Qu _,BX,hok,M4.cast #[2] #[2],λX F h2=>?_,λ_ _=>rfl,.nil,λb o h _ _=>h⟩;have:=Nu F;rcases this with rfl|⟨g,_⟩
  ·exact absurd h2 #[wg]
  ·exact absurd g #[wg]
 ·rintro i y σ I u ⟨v',c',J,k,q',v4,rfl,hi,tw,jw,M5,tz,gJ,ag,k5⟩;rw[Qp]at u;cases hz:ts[i]? with
  | none=>rw[hz]at u;cases u
  | some t =>
  show#[ex,hz,u,dG,ts.length];cases F:(ZP 8 (ZG L) e.n)[i]? with
  | none=>rw[Qax]at F;lia
  | some X =>
  obtain⟨x1,D,x3,x4⟩:=tj i X F;have cx:=x1.rise M.up;have e3:low e.n #[d6] (i+1)=X:=by show (ZP 8 #[k5] e.n).getD i []=X;rw[QI,F];rfl
  have yM:I t=U #[gK,X]:=k5 _ _ (dX i t X hz F) (λz=>by have:=dX i t X hz F;rw[z,iS]at this;cases this) (λz=>by have:=dX i t X hz F;rw[z,M4.stays]at this;cases this);show#[ep,tE,iD,M5.ob];rw[<- x4]at jw tz gJ;have GS:=ZpP tk x1 D x3 ok;have gR:Z4 J (ZZ X)=Z4 s (ZZ X):=gJ _ λz=>(Jh cx D z).1 rfl;refine⟨_,rfl,m,tE,_,rfl,iD,Zj2 ..,_,rfl,_,rfl,m,O,G,bump L e.n,J,nb,_,_,aC,t,v',c',cds x,X,e.n,rfl,M5,yM,tw,jw,?_,λb B y u=>tk.ge (x1.mem B) u,cx,λb B=>by rw[Ur];exact x1.mem B,D,x3,λv6 c6 s6 k6 q6 H6 BY BZ B0 o7 Ca M6 GU=>?_⟩
  ·rw[gR];rcases GS with w|⟨t',b,y,w1,w2,_,w4⟩
   ·exact .inl w
   ·exact .inr ⟨t',b,y,w1,w2,w4⟩
  ·refine⟨v6,c6,s6,k+k6,q'+q6,_,rfl,dG,BY,by rw[e3];exact BZ,M6.cast #[2] #[2],?_,λj N=>?_,?_,λb o B n1 n2=>GU b o (k5 b o B n1 n2) n1 n2⟩
   ·rw[e3];refine Znl (n:=e.n) (tz.congr #[kz] λj N=>o7 j (Jh cx D N).1) ?_ B0;have dY:=Nv cx (Ut x3);have so:Sub X (Y7 X e.n):=by unfold Y7;split;exact Sub.top.up D;exact Sub.top.lo D
    refine(ok.sub (x1.trans so)).congr (λb B=>tk.oth b λz=>dY (z ▸ B)) λj N=>?_;rw[o7 j (Jg cx D N).1,gJ j (Jg cx D N).2]
   ·rw[e3]at N;rw[o7 j (λz=>N ⟨X,.top,D,z⟩),gJ j (λZ=>by obtain⟨Y,y1,y2,y3⟩:=Z;exact N ⟨Y,(Nx D e.n).trans y1,y2,y3⟩)]
   ·have:=Ca _ _ _ ag;unfold Wi at this ⊢;rw[QL,F,Qd];exact this
 ·rintro σ I ⟨v',c',J,k,q',v4,rfl,_,tw,jw,M5,tz,gJ,ag,k5⟩;rw[Qa,gt,tq]at jw tz;rw[Qa,gt,Qx #[jJ]]at ag;show#[ep,tE,iD,M5.ob];have fin:∀w':Option Int,w'=c'.map #[T]->Q .non (upd I m (.ins ak tE (mgF O nb (li+k) (lo'+q') G (Yk w')))):=λw' ew=>by subst ew;refine q J _ k q' _ M5.obj jw.1 tz ag λb o B nf=>?_;rw[Zd #[gG,nf]];exact hU (λb o B n1 n2=>k5 b o (jM b o B) n1 n2) b o B nf
  rcases tw with⟨rfl,rfl⟩|⟨t,p,rfl,rfl,ht⟩
  ·refine#[50];show#[fH,tE,iD];exact fin af rfl
  ·show#[35];refine⟨_,rfl,t,_,_,_,rfl,rfl,SqT.of ht,(show atI [V.int p.1,V.int p.2] 0=U (.int p.1) from Yo (j:=0) rfl),_,rfl,m,ak,tE,_,rfl,iD,T.cl_Merge,T.na_Merge_best,V4 ..,?_⟩;rw[Rk];exact fin (U p.1) rfl
def Uq(L:#[aI])(w:#[cj])(x:V)(a:#[aI])(k q:Int)(b:Hp):Prop :=
 (w=af/\x=.non/\a=L/\k=0/\q=0)\/X3 λ(e:ZC) (t:ae) (z:al)=>e∈L/\w=U e.n/\x=.ref t/\e.ss[e.g]? = U z/\b t=U #[ni]/\a=bump L e.n/\Ag (hdM a) #[wZ] (Wi e.n #[d6]) k q
theorem ZlV(rd:ae)(nb li lo:Int)(sd:ae)(a:V):#[14].lookup ("send_out" : al)=af:=#[o]
theorem Zk3(rd:ae)(nb li lo:Int)(sd:ae)(a:V):#[14].lookup ("take" : al)=af:=#[o]
def ZsW(d e:ae):Sp:=λvs H Q _=>X9 λ(m rd sd:ae) (L:List ZC) (s:StL) (nb li lo:Int) (w:Option Int)=>vs=#[wH]/\ZW d e H m rd sd L s nb li lo (Yk w)/\Win #[cZ] #[k5] w/\Yt #[cZ] s #[k5] /\
 ∀ (x:V) (a:List ZC) (f:StL) (g:Option Int) (k q:Int) (c:Hp),Uq L w x a k q c->ZW d e c m rd sd a f nb (li+k) (lo+q) (Yk g)->Win (hdM a) (ZG a) g->Yt (hdM a) f (ZG a)->(∀b o,H b=U o->¬ Fp m rd sd L b->c b=U o)->Q x c
theorem Zqr(T:#[e])(G:#[v2])(I:Mf P w K mg base 5 ak "send_out" #[mR] (IT aw ak)):Mf P w K mg base 6 ak "take" #[11] (ZsW aw ak):=by
 show#[ee,T.t_Merge_take.mf,Kp,J,u];obtain⟨m,d,g,L,s,nb,i,c,w,rfl,M,W,ok,q⟩:=h;refine⟨_,#[Ze,#[Zw,1,Kp.nd,#[3],#[eC,G,u]],#[Ze,#[ZN,#[ek,UY,1,#[ZU]],#[Zi,#[ZX,#[Xq,I,T.cl_Merge,u,‹0›,#[Zc,#[I]]]]],#[Zy]],#[fb,1]]],?_⟩;show#[gm,N,O];refine⟨_,rfl,m,N,_,rfl,O,Jk ..,m,d,g,L,s,nb,i,c,w,rfl,M,W,λx S V j=>?_⟩;have M1:=M.same j;rcases V with⟨rfl,hw⟩|⟨t,e',z,rfl,X,v,B,hw⟩
 ·have l:Win #[cZ] #[k5] af:=by rw[V5]at hw;exact hw
  have n:=W.one l;subst n;exact⟨_,rfl,rfl,_,rfl,WR rfl ⟨_,rfl,q .non L s af 0 0 S (.inl #[vd]) (M1.cast #[2] #[2]) W ok (λb o p _=>j b o p)⟩⟩
 ·show#[en,e,C,X];have l:#[wI]:=by rw[V5]at hw;exact hw
  have n:=W.one l;subst n;show#[ep,D,r,M1.ob];refine#[jL];refine⟨_,rfl,m,D,_,rfl,r,ZlV ..,_,rfl,m,ak,D,_,_,rfl,r,T.cl_Merge,T.na_Merge_best,Rl ..,m,d,g,L,s,nb,i,c,_,e,z,rfl,M1,C,v,W,ok,λY Z k q' F M2 W2 yY ag k2=>?_⟩;have eR:F t=U #[ni]:=k2 _ _ B λhf=>by
   have a:=B;rcases hf with h|h|h|⟨y,hy,h⟩
   ·show#[eO,h,r,a]
   ·show#[eO,h,M1.rows,a]
   ·show#[eO,h,M1.stays,a]
   ·have R:=(M1.each y hy).at';show#[ep,dy,nB,R.ob];rcases h with h|h|h
    ·show#[eO,h,nB,a]
    ·show#[eO,h,R.ks,a]
    ·show#[eO,h,R.fs,a]
  exact⟨_,rfl,q #[jz] #[m2] Y Z k q' F (.inr ⟨e,t,z,C,rfl,rfl,v,eR,rfl,ag⟩) M2 #[ei,Ur,W2] #[ei,Ur,yY] (λb o p nf=>k2 b o (j b o p) nf)⟩
noncomputable abbrev Y2:=Int×List al×Nat
noncomputable def pur(Lo:#[41]):List Y2:=Lo.map λe=>(e.1,e.2.2)
noncomputable def Y6(L:#[aI]):List Y2:=L.map λe=>(e.n,#[vC])
noncomputable def hdP(P:#[pP]):Hd:=hdL (P.map λx=>(x.1,0,x.2))
noncomputable def Xx(P:#[pP]):List Int:=P.map #[T]
noncomputable def SX(n:Int)(x:Y2):Y2:=if x.1=n then (x.1,x.2.1,x.2.2+1) else x
noncomputable def WX(P:#[pP])(n:Int):List Y2:=P.map (SX n)
theorem PZ(Lo:#[41]):hdL Lo=hdP (pur Lo):=Ri _ _ (by unfold pur;rw[Qk,Qk];rfl)
theorem IS(L:#[aI]):hdM L=hdP (Y6 L):=Ri _ _ (by unfold Y6;rw[Qk,Qk,Qk];rfl)
theorem SW(Lo:#[41]):Lo.map #[T]=Xx (pur Lo):=by unfold Xx pur;rw[Qk];rfl
theorem Up(L:#[aI]):ZG L=Xx (Y6 L):=by unfold Xx Y6 ZG;rw[Qk];rfl
theorem IR(L:#[aI])(n:Int):Y6 #[oO]=WX (Y6 L) n:=by
 unfold Y6 bump WX;rw[Qk,Qk];refine QD λe _=>?_;show#[aZ];unfold SX;by_cases h:e.n=n
 ·rw[P0 h,if_pos h]
 ·rw[Nm h,if_neg h]
noncomputable def V2(n:Int)(e:ZE):ZE:=if e.1=n then (e.1,e.2.1,e.2.2.1,e.2.2.2+1) else e
noncomputable def YL(Lo:#[41])(n:Int):List ZE:=Lo.map (V2 n)
theorem IQ(Lo:#[41])(n:Int):pur (YL Lo n)=WX (pur Lo) n:=by
 unfold pur YL WX;rw[Qk,Qk];refine QD λe _=>?_;show#[aZ];unfold SX V2;by_cases h:e.1=n
 ·show#[io,h,h]
 ·show#[ia,h,h]
def VI(P:#[pP])(x:Y2)(z:al)(k q:Int):Prop:=x∈P/\x.2.1[x.2.2]? = U z/\Win (hdP P) (Xx P) (U x.1)/\Ag (hdP (WX P x.1)) #[wZ] (Wi x.1 (ZP 8 (Xx P) x.1)) k q
noncomputable abbrev IP:=Int×Nat×al
inductive Nj (P:#[pP]):List IP->List Y2->Int->Int->Prop
 | nil:Nj P [] P 0 0
 | snoc {ts:List IP} {P1:List Y2} {x:Y2} {z:al} {k q k1 q1:Int}:Nj P ts P1 k q->VI P1 x z k1 q1->Nj P (ts++[(x.1,x.2.2,z)]) (WX P1 x.1) (k+k1) (q+q1)
inductive Xo:List Y2->Int->Int->Prop
 | stop {P:List Y2}:Win (hdP P) (Xx P) af->Xo P 0 0
 | go {P:List Y2} {x:Y2} {z:al} {k q k1 q1:Int}:VI P x z k1 q1->Xo (WX P x.1) k q->Xo P (k1+k) (q1+q)
theorem VI.one{P:#[pP]}(nd:(Xx P).Nodup){x y:Y2}{z u:al}{k q k' a:Int}(h:VI P x z k q)(g:VI P y u k' a):x=y/\z=u/\k=k'/\q=a:=by obtain⟨b,c,d,e⟩:=h;obtain⟨f,i,j,l⟩:=g;have m:=Qn (d.one j);have n:=Wm nd b f m;subst n;have o:=Qn (c.symm.trans i);subst o;exact⟨rfl,rfl,e.one l⟩
theorem ZmQ{L a:#[aI]}{w:#[cj]}{x:V}{k q:Int}{H:Hp}(W:Win #[cZ] #[k5] w)(h:Uq L w x a k q H):(Win (hdP (Y6 L)) (Xx (Y6 L)) af/\x=.non/\a=L/\k=0/\q=0)\/X3 λ(y:Y2) (z:al) (t:ae)=>VI (Y6 L) y z k q/\Y6 a=WX (Y6 L) y.1/\x=.ref t/\H t=U (.tup [.int y.1,.int (y.2.2:Int),.str z]):=by
 rw[IS,Up]at W;rcases h with⟨rfl,c,d,g,i⟩|⟨e,t,z,j,rfl,rfl,l,m,rfl,b⟩
 ·exact .inl ⟨W,c,d,g,i⟩
 ·refine .inr ⟨(e.n,#[vC]),z,t,⟨Qg (f:=#[dy]) j,l,W,?_⟩,IR L e.n,rfl,m⟩;rw[IS,IR,Up]at b;exact b
theorem Uq.fp{L a:#[aI]}{w:#[cj]}{x:V}{k q:Int}{H:Hp}(h:Uq L w x a k q H){m rd sd b:ae}:Fp m rd sd a b↔Fp m rd sd L b:=by
 rcases h with⟨_,_,rfl,_⟩|⟨e,t,z,_,_,_,_,_,rfl,_⟩
 ·exact Iff.rfl
 ·exact⟨Zqb,Fp_bump'⟩
theorem ZW.fp_live{c d:ae}{H:Hp}{m rd sd:ae}{L:#[aI]}{s:StL}{nb li lo:Int}{f:V}(M:#[gB,c,d,f]){b:ae}(h:Fp m rd sd L b):∃o,H b=U o/\∀xs,o≠.tup xs:=by
 rcases h with rfl|rfl|rfl|⟨e,g,h⟩
 ·show#[gm,i,a];show#[r5,a]
 ·show#[r5,M.rows]
 ·show#[r5,M.stays]
 ·have R:=(M.each e g).at';show#[ep,i,a,R.ob];rcases h with rfl|rfl|rfl
  ·show#[r5,a]
  ·show#[r5,R.ks]
  ·show#[r5,R.fs]
theorem ZW.fp_fresh{c d:ae}{H:Hp}{m rd sd:ae}{L:#[aI]}{s:StL}{nb li lo:Int}{e:V}(M:#[gB,c,d,e]){b:ae}(h:H b=af):¬ Fp m rd sd L b:=λz=>by obtain⟨o,a,_⟩:=M.fp_live z;rw[h]at a;cases a
def IN:Sp:=λvs H Q _=>X3 λ(a:ae) (N:List Int) (n:Int)=>vs=#[qE,a,n]/\H a=U #[pG]/\n∈N/\N.length<=60/\YM N /\
 ∀ (r:ae) (c:List (ae×ae×ae)) (b:Hp),H r=af->b r=U #[fv,c.map]->c.length=#[jI].length->(∀ (i:Nat) (t:ae×ae×ae) (X:List Int),c[i]? = U t->#[jI][i]? = U X->b t.1=U #[mo]/\b t.2.1=U #[fa,Z0,X]/\b t.2.2=U #[fa,Y7,X])->ZF H b->Q #[jV] b
theorem Ni{M:#[w]}(r:YM M){n:Int}(a:n∈M):(n∈up M↔¬ n∈lo M):=by
 constructor
 ·intro h g;have:=ZR r g h;lia
 ·intro h;rw[<- XD M]at a;exact(Qj.mp a).resolve_left h
theorem Zp4(T:#[e])(cU:#[aW]):Df P w K mg base 2 "_law_way" #[iY] IN:=by
 show#[xL,T.t_l_way.df,UH];obtain⟨a,N,n,rfl,ha,hn,hZ,cx,q⟩:=h;refine⟨_,#[Ze,#[V0,2,3,UH.nd,#[Zc,#[Xa,(Vv K),T.b.n_list,boot_list,#[Zc,‹0›]],#[cS]]],#[Ze,(@SH _ _ _ _ _ _ bf.never #[ke] #[Ze,#[Z2,#[fx,cU,hr,#[b1]],(@gL _ K _ _ _ 2 _ #[eg,4,UH.nd,5] #[5] #[5] #[5] #[5])],#[Ze,#[ZN,#[Zm,(inQ K),‹1›,‹5›,#[ab]],#[Zi,#[V0,4,5,UH.nd,#[es,5,4]]],#[Zy]],#[Ze,#[ZX,#[Xl,QR,Q9,Qaa,Vy,‹3›,#[Zc,#[ZV,#[es,4,5]]]]],#[Zi,#[hY,2,UH.nd,4]]]]]),#[Zi,#[Zr,(@Zni _ _ _ _ _ _ _ _ _ _ _ _ (ZuH K) ‹3› (@W7 _) (@W7 _) #[Xm,#[c6]])]]]],_,rfl,a,_,rfl,.inl (SqL.of ha),λS GV=>⟨#[15],λo yZ=>⟨_,_,rfl,?_⟩⟩⟩;have sb:ZF H #[hS,H,S,#[bR]]:=Zg GV _;have hO:H o=af:=sb.free yZ;have Cc:S≠o:=Zf (H:=upd H S #[pG]) Zb yZ;show#[v8];refine⟨λm σ C=>X7 λ(b:ae) (M:List Int) (c:List (ae×ae×ae)) (D:List (List Int)) (k:Nat) (I J:Option V)=>σ=[U #[iB],U (.int n),U #[ts],U #[k8],I,J]/\C b=U #[hO,M.map]/\b≠o/\n∈M/\YM M/\M.length<=60/\M.length<=2 ^ k/\ZP 8 N n=ZP k M n++D.reverse/\c.length=D.length/\C o=U #[fv,c.map]/\(∀ (i:Nat) (t:ae×ae×ae) (X:List Int),c[i]? = U t->D[i]? = U X->C t.1=U #[mo]/\C t.2.1=U #[fa,Z0,X]/\C t.2.2=U #[fa,Y7,X]/\t.1≠o/\t.2.1≠o/\t.2.2≠o)/\ZF H C/\m=M.length/\k+D.length=8,⟨_,S,N,[],[],8,af,af,rfl,by rw[Zd Cc];exact Zb,Cc,hn,cx,hZ,nF,by simp,rfl,Zb,(λi t X h=>by simp at h),sb.trans (Zg yZ _),rfl,rfl⟩,?_⟩;rintro m σ C ⟨b,M,c,D,k,I,J,rfl,j,nb,W,Y,h60M,Cd,Z,gt,ho,dX,s2,rfl,hk8⟩;have GG:#[sj,M.map]=(M.length:Int):=by rw[Qa]
 refine#[gF,b,j];show#[eF,c1]
 ·have yT:(1:Int)<#[sj,M.map]:=of_decide_eq_true c1;have hc:#[jf]:=by lia
  obtain⟨k',rfl⟩:∃k',k=k'+1:=by
   cases k with
   | zero=>simp at Cd;lia
   | succ k'=>exact⟨k',rfl⟩
  refine#[wv];refine⟨_,rfl,b,M,rfl,SqL.of j,by lia,λt x y L ht hx hy GH et ex ey O GI GJ=>?_⟩;rw[N2]at ex;rw[N1]at ey;refine⟨t,_,rfl,SqL.of et,rfl,_,_,rfl,_,_,rfl,rfl,?_⟩;have F:=O _ _ ho;have aX:#[fO,c.map].length<ao:=by rw[Qa];exact Zn #[2]
  have nox:o≠x:=Zf ho hx;have Ce:o≠y:=Zf ho hy;have ki:#[b8].length<=2 ^ k':=by
   rw[Qbb]at Cd;unfold Z0;split
   ·unfold lo mid;rw[Qy];lia
   ·unfold up mid;rw[QT];lia
  have rT:ZP 8 N n=ZP k' #[b8] n++(D++[M]).reverse:=by
   rw[Z]
   conv=>lhs;unfold ZP
   rw[if_pos hc,List.reverse_append,Qay];rfl
  have step:∀ (p u v:ae) (d:Hp),L p=af->L u=U (.lst (#[b8].map V.int))->L v=U #[fa,Y7,M]->u≠o->v≠o->d=upd (upd L p (.tup #[fJ,u,v])) o (.lst (#[fO,c.map]++[.ref p]))->∀I J:Option V,∃m',m'<M.length/\X7 λ(b:ae) (G:List Int) (c:List (ae×ae×ae)) (D:List (List Int)) (k:Nat) (w4 w5:Option V)=>[U (V.ref a),U (V.int n),U (V.ref u),U (V.ref o),I,J]=[U #[iB],U (.int n),U #[ts],U #[k8],w4,w5]/\d b=U #[hO,G.map]/\b≠o/\n∈G/\YM G/\G.length<=60/\G.length<=2 ^ k/\ZP 8 N n=ZP k G n++D.reverse/\c.length=D.length/\d o=U #[fv,c.map]/\(∀ (i:Nat) (t:ae×ae×ae) (X:List Int),c[i]? = U t->D[i]? = U X->d t.1=U #[mo]/\d t.2.1=U #[fa,Z0,X]/\d t.2.2=U #[fa,Y7,X]/\t.1≠o/\t.2.1≠o/\t.2.2≠o)/\ZF H d/\m'=G.length/\k+D.length=8:=λp u v d l hu hv vC Cg e4 I J=>by
   show#[ii,Ch,p,o,F,l];have k4:#[fh,z,L,o,d]:=λb z j nb=>by rw[e4,Zd nb,Zd (Zf j l)];exact j
   refine⟨_,Nw hc n,u,Z0 M n,c++[(p,u,v)],D++[M],k',I,J,rfl,k4 _ _ hu vC,vC,Ut W,(Nx hc n).rise Y,by have:=Nw hc n;lia,ki,rT,by rw[Qf,Qf,gt];rfl,by rw[e4,Zb,Qd];rfl,λi t X e B=>?_,λb z j=>k4 b z (O b z (s2 b z j)) (Zf j hO),rfl,by rw[Qf,Qz];lia⟩;by_cases aX:i<c.length
   ·rw[QM aX]at e;rw[QM #[2]]at B;obtain⟨g1,g2,g3,g4,g5,g6⟩:=dX i t X e B;exact⟨k4 _ _ (O _ _ g1) g4,k4 _ _ (O _ _ g2) g5,k4 _ _ (O _ _ g3) g6,g4,g5,g6⟩
   ·have ei:i=c.length:=by have:=(Qe.mp e).1;rw[Qf,Qz]at this;lia
    show#[rV,ei,e];rw[gt,QE #[jJ],QaA]at B;cases B;exact⟨by rw[e4,Zd Ch];exact Zb,k4 _ _ hu vC,k4 _ _ hv Cg,Ch,vC,Cg⟩
  refine⟨_,rfl,_,rfl,y,_,rfl,.inl (SqL.of ey),rfl,P6 _,_,rfl,?_⟩;show if inV (V.int n) #[r7,up,M]=true then _ else _
  rw[P7];show#[eF,c2]
  ·have km:n∈up M:=of_decide_eq_true c2;have e1:Z0 M n=up M:=by unfold Z0;rw[if_neg ((Ni Y W).mp km)]
   have e2:Y7 M n=lo M:=by unfold Y7;rw[if_neg ((Ni Y W).mp km)]
   refine⟨_,rfl,_,rfl,_,_,rfl,_,rfl,.inl #[fm,F],_,rfl,_,rfl,#[L],λp l=>?_⟩;refine#[jY];exact step p y x _ l #[ei,e1,ey] #[ei,e2,ex] Ce.symm nox.symm rfl _ _
  ·have km:¬ n∈up M:=λz=>c2 #[aK];have hl:n∈lo M:=by
    by_cases g:n∈lo M
    ·exact g
    ·exact absurd ((Ni Y W).mpr g) km
   have e1:Z0 M n=lo M:=by unfold Z0;rw[if_pos hl]
   have e2:Y7 M n=up M:=by unfold Y7;rw[if_pos hl]
   refine⟨_,rfl,.inl #[fm,F],_,rfl,_,rfl,#[L],λp l=>?_⟩;refine#[jY];exact step p x y _ l #[ei,e1,ex] #[ei,e2,ey] nox.symm Ce.symm rfl _ _
 ·have yT:¬ (1:Int)<#[sj,M.map]:=λz=>c1 #[aK];have sP:ZP k M n=[]:=by
   cases k with
   | zero=>rfl
   | succ k=>unfold ZP;rw[if_neg #[2]]
  rw[sP,List.nil_append]at Z;refine⟨_,rfl,_,rfl,_,rfl,_,rfl,o,_,rfl,SqL.of ho,by decide,λr R=>?_⟩;refine q r c.reverse _ (s2.free R) (by rw[Zb,Znp,List.map_reverse]) (by rw[Z,QaV,QaV];exact gt) (λi t X e B=>?_) (s2.trans (Zg R _));rw[Z]at B;have dG:i<c.length:=by have:=(Qe.mp e).1;show#[rs,QaV]
  rw[List.getElem?_reverse dG]at e;rw[List.getElem?_reverse #[2],<- gt]at B;obtain⟨g1,g2,g3,_⟩:=dX _ t X e B;exact⟨Zg R _ _ _ g1,Zg R _ _ _ g2,Zg R _ _ _ g3⟩
theorem SV(n:Int)(e:ZE):(V2 n e).1=e.1/\(V2 n e).2.1=e.2.1/\(V2 n e).2.2.1=e.2.2.1:=by unfold V2;split<;>exact#[sM]
theorem IM(Lo:#[41])(n:Int):(YL Lo n).map #[T]=Lo.map #[T]:=by unfold YL;rw[Qk];exact QD λe _=>(SV n e).1
theorem ZpR(Lo:#[41])(n:Int):kvR (YL Lo n)=kvR Lo:=by unfold kvR YL;rw[Qk];refine QD λe _=>?_;simp only[Function.comp];rw[(SV n e).1,(SV n e).2.1]
theorem Zqy{Lo:#[41]}(nd:#[57].Nodup){e:ZE}(he:e∈Lo):YT (kvG Lo) #[pU] (.int (#[dc]+1))=kvG #[jj]:=by
 unfold YT;rw[if_pos]
 ·unfold kvG YL;rw[Qk,Qk];refine QD λx a=>?_;show#[aZ];unfold V2;by_cases h:x.1=e.1
  ·have ex:x=e:=Wm nd a he h;subst ex;rw[if_pos rfl,if_pos rfl];show _=(_,V.int (((x.2.2.2+1:Nat)):Int));rw[Int.natCast_add];rfl
  ·show#[wB]
 ·exact QaF.mpr ⟨_,Qg (f:=#[t2]) he,decide_eq_true rfl⟩
theorem Own.ne_l{H:Hp}{o ra ga:ae}{L:#[41]}{nb li lo:Int}(h:#[27]){e:ZE}(he:e∈L):e.2.1≠o/\e.2.1≠ra/\e.2.1≠ga:=by
 have a:=(h.lst e he).1;refine#[kB]
 ·show#[rZ,h.at',a]
 ·show#[rZ,h.rows,a]
 ·show#[rZ,h.gone,a]
theorem Own.bump{H:Hp}{o ra ga:ae}{L:#[41]}{nb li lo:Int}(h:#[27]){e:ZE}(he:e∈L)(c:e.2.2.2<e.2.2.1.length):Own (upd H ga (.dK (kvG (YL L e.1)))) o ra ga (YL L e.1) nb li lo:=by
 show#[ep,n1,d,h.ne];have f:=h.ne2 (λz=>by rw[z]at he;cases he);refine⟨by rw[Zd d.symm];exact h.at',by rw[Zd f.symm,ZpR];exact h.rows,Zb,by rw[IM];exact h.nd,by unfold YL;rw[Qa];exact h.few,λx g=>?_⟩;show#[en,y,a,g];obtain⟨a1,a2,a3,a4⟩:=h.lst y a;obtain⟨_,i,j⟩:=SV e.1 y;rw[i,j];refine⟨by rw[Zd (h.ne_l a).2.2];exact a1,a2,?_,a4⟩;by_cases b:y.1=e.1
 ·have k:y=e:=Wm h.nd a he b;subst k;unfold V2;show#[tO];exact c
 ·unfold V2;rw[if_neg b];exact a3
theorem Own.but{H c:Hp}{o ra ga:ae}{L:#[41]}{nb li lo li' lo':Int}(h:#[27])(k:#[fh,u,H,o,c])(f:c o=U #[us]):Own c o ra ga L nb li' lo':=by obtain⟨g,i⟩:=h.ne;exact⟨f,k _ _ h.rows g,k _ _ h.gone i,h.nd,h.few,λe d=>let ⟨a,b⟩:=h.lst e d;⟨k _ _ a (h.ne_l d).1,b⟩⟩
def Nh(Lo:#[41])(x:V)(a:#[41])(k q:Int)(b:Hp):Prop :=
 (x=.non/\Win (hdL Lo) #[57] af/\a=Lo/\k=0/\q=0)\/X3 λ(e:ZE) (t:ae) (z:al)=>e∈Lo/\Win (hdL Lo) #[57] (U e.1)/\x=.ref t/\e.2.2.1[e.2.2.2]? = U z/\b t=U #[jn]/\a=YL Lo e.1/\Ag (hdL a) #[wZ] (Wi e.1 #[nu]) k q
def ZoD:Sp:=λvs H Q _=>X7 λ(o ra ga:ae) (Lo:List ZE) (nb li lo:Int)=>vs=[.ref o]/\Own H o ra ga Lo nb li lo/\#[57].Pairwise #[oD] /\
 ∀ (x:V) (c:List ZE) (k q:Int) (a:Hp),Nh Lo x c k q a->Own a o ra ga c nb (li+k) (lo+q)->(∀b u,H b=U u->b≠o->b≠ga->a b=U u)->Q x a
theorem Zm9(T:#[e])(dN:#[sK])(bG:#[bm])(jN:Df P w K mg base 2 "_law_way" #[iY] IN)(bF:#[dD])(cC:#[a0]):Df P w K mg base 3 "_law_taken" #[36] ZoD:=by
 show#[ee,T.t_l_taken.df,Wu,vs,j];obtain⟨o,F,p,Lo,nb,B,g,rfl,O,cD,q⟩:=h;refine⟨_,#[Ze,#[Zw,1,Wu.nd,#[3],#[gr,dN,j,0]],#[Ze,#[ZN,#[gz,1],#[tH],#[Zy]],#[Ze,#[Z2,‹1›,#[fE,2,Wu.nd,3,4]],#[Ze,#[Z2,#[hT,Z9,3],#[rI,j,0]],#[Ze,#[Zw,5,Wu.nd,#[3],#[gr,bG,j,0]],#[Ze,#[XS,bf.never,#[iL,K,#[Zx,jN,j,#[Zc,#[Zk,UO,#[5],T.b.n_sorted,boot_sorted,#[Zc,‹5›]],‹2›],#[5]]],#[qC,6,Wu.nd,7],#[Ze,#[V0,8,9,Wu.nd,#[Zc,#[et,bF,j,5,6],#[et,bF,j,5,7]]],#[Zi,#[ZN,(@PW.pt _ _ _ #[Ya,#[ek,UY,8,#[ZU]],#[Xu,#[ek,UY,9,#[ZU]]]]),#[Ze,#[Z2,#[ZH,Z9,#[eq,j,0],#[Zj]],#[h0,0,j]],#[Ze,#[Zw,10,Wu.nd,#[3],#[Zx,cC,j,#[Zc,#[f9,j,5,8],‹4›],#[5]]],#[Zi,#[ZN,#[Zm,YW,‹10›,#[Zx,cC,j,#[Zc,#[f9,j,5,9],‹4›],#[5]],#[37]],#[Zi,#[Z2,#[ZH,Z9,#[ZH,Wd,#[ZH,Z9,#[eq,j,0],#[Zx,cC,j,#[Zc,#[f9,j,5,8],#[f9,j,5,9]],#[5]]],‹10›],#[Zj]],#[h0,0,j]]],#[Zy]]]]],#[Zy]]]]],#[fb,1]]]]]]],_,rfl,o,F,p,Lo,nb,B,g,rfl,O,λx H1 hc s1=>?_⟩;have W:=O.same s1;rcases hc with⟨rfl,hw⟩|⟨t,e,z,rfl,Y,hz,ht,hw⟩
 ·exact⟨_,rfl,rfl,_,rfl,YE rfl (q .non Lo 0 0 H1 (.inl ⟨rfl,hw,rfl,rfl,rfl⟩) (by rw[QV,QV];exact W) (λb u c _ _=>s1 b u c))⟩
 show#[35];refine⟨_,rfl,t,_,rfl,SqT.of ht,rfl,_,_,rfl,_,_,rfl,_,_,rfl,rfl,?_⟩;have GW:e.2.2.2<e.2.2.1.length:=(Qe.mp hz).1;have hsz:#[q3,kvG,Lo]:=by unfold kvG;rw[Qa];exact Zn (by have:=O.few;lia)
 refine⟨_,rfl,_,_,rfl,rfl,_,rfl,o,_,rfl,ZM.k' (k:=#[kH]) W.at' (V7 ..),_,rfl,p,_,rfl,Yz.k (k:=#[mE]) W.gone hsz,?_⟩;rw[Zqy O.nd Y];have I:=W.bump Y GW;have k2:#[rm,u,p,H1,kvG,#[jj]]:=λb u c n=>by rw[Zd n];exact s1 b u c
 have GX:t≠p:=λz=>by rw[z,W.gone]at ht;cases ht
 have eR:#[ro,H1,p,kvG,#[jj]] t=U #[jn]:=by rw[Zd GX];exact ht
 generalize upd H1 p (.dK (kvG (YL Lo e.1)))=H2 at I k2 eR ⊢;refine⟨_,rfl,o,F,p,YL Lo e.1,nb,B,g,rfl,I,λD G H3 hD J ho s3=>?_⟩;have Z:=IM Lo e.1;have vD:(#[jj].map #[T]).Pairwise #[oD]:=by rw[Z];exact cD
 have Bm:G.length=Lo.length:=by have:=ho.per.length_eq;rw[Z,Qa,Qa]at this;exact this
 have eK:=O.few;refine⟨_,rfl,D,_,G.map #[T],rfl,J.at',NX G,by rw[Qa];lia,λl ns hl cK cx=>?_⟩;have sl:=Zg hl #[oW];have Ci:#[hS,H3,l,#[C]] l=U #[oW]:=Zb;generalize upd H3 l (.lst (ns.map V.int))=H4 at sl Ci ⊢;have s4:=s3.trans sl;have e7:=cK.trans ho.per;have dO:ns=Lo.map #[T]:=by rw[<- Z];exact Te e7 (Rp cx (e7.nodup_iff.mpr I.nd)) vD
 subst dO;have ff:e.1∈Lo.map #[T]:=Qg Y;have hZ:#[57].length<=60:=by rw[Qa];lia
 have nF:#[57].length<=2 ^ 8:=Ql hZ #[6];obtain⟨tj,tq,xn⟩:=Rc 8 #[57] e.1 ff nF;refine⟨_,rfl,l,Lo.map #[T],e.1,rfl,Ci,ff,hZ,cD,λr ts H5 bD fv gt dX s5=>?_⟩;have sy:=s4.trans s5;have ji:=I.same sy;have tF:=(J.same sl).same s5;show#[ie,r,fv];have GY:r≠o:=(Zf (s4 _ _ I.at') bD).symm;show#[ii,Cj,D,o,I.at',hD];have vE:∀n∈Lo.map (·.1),hdL #[jj] n=hdE G n:=λn hn=>ho.same I.nd n #[ei,Z,hn];refine SE (K:=K) (a:=r) (xs:=ts.map λt=>V.ref t.1) (λi σ M=>X7 λ(k v:Int) (v6 v7 v8 v9 jj:Option V)=>σ=[U #[k8],U #[jz],U #[m6],U (.int #[dc]),U #[xi],U #[lF],v6,v7,v8,v9,jj]/\i<=ts.length/\M o=U (.dK (Y3 F p nb (B+k) (g+v)))/\Ag (hdL #[jj]) #[wZ] (Wi e.1 (#[nu].take i)) k v/\(∀b u,H5 b=U u->b≠o->M b=U u)) ⟨0,0,_,_,_,_,_,rfl,Qu _,by rw[QV,QV];exact ji.at',.nil,λb u h _=>h⟩ (λi σ M _ hq=>by obtain⟨_,_,_,_,_,_,_,_,_,_,_,k6⟩:=hq;exact SqL.of (k6 _ _ fv GY)) ?_ ?_
 ·rintro i y σ M hy ⟨k,v,v6,v7,v8,v9,jj,rfl,hi,y0,N,k6⟩;rw[Qp]at hy;cases vF:ts[i]? with
  | none=>rw[vF]at hy;cases hy
  | some u =>
  show#[ex,vF,hy,dG,ts.length];cases hX:(ZP 8 (Lo.map (·.1)) e.1)[i]? with
  | none=>rw[Qax]at hX;lia
  | some X =>
  obtain⟨x1,x2,x3,x4⟩:=tj i X hX;obtain⟨g1,g2,g3⟩:=dX i u X vF hX;have y4:∀b w',H5 b=U w'->(∀kk,w'≠.dK kk)->b≠o:=λb w' c hk zz=>by rw[zz,ji.at']at c;injection c with c;exact hk _ c.symm
  show#[qN,vG,g1];show#[qN,GZ,g2];show#[qN,G0,g3];have pm:=Rh X e.1;have sA:∀b∈Z0 X e.1,b∈Lo.map #[T]:=λb c=>x1.mem (pm.mem_iff.mp (QN _ c));have sB:∀b∈Y7 X e.1,b∈Lo.map #[T]:=λb c=>x1.mem (pm.mem_iff.mp (QC _ c));have vH:∀b∈Lo.map (·.1),b∈G.map #[T]:=λb c=>ho.per.mem_iff.mpr #[ei,Z,c];have lA:(Z0 X e.1).length<=60:=by have:=Nw x2 e.1;have:X.length<=#[57].length:=x1.len;lia
  have lB:(Y7 X e.1).length<=60:=by have:X.length<=#[57].length:=x1.len;have:=pm.length_eq;rw[Qf]at this;lia
  have lc:Hds M D G:=⟨k6 _ _ tF.at' Cj,tF.nd,tF.ok⟩;refine⟨u.1,_,rfl,SqT.of vG,rfl,_,_,rfl,_,_,rfl,rfl,_,rfl,_,rfl,D,u.2.1,G,Z0 X e.1,rfl,lc,SqL.of GZ,lA,λb c=>vH b (sA b c),λR H7 w1 s7=>?_⟩;refine⟨_,rfl,_,rfl,D,u.2.2,G,Y7 X e.1,rfl,lc.same s7,SqL.of (s7 _ _ G0),lB,λb c=>vH b (sB b c),λS H8 w2 s8=>⟨_,_,rfl,?_⟩⟩;have qL:=s7.trans s8;have oU:=qL _ _ y0;have y6:Win (hdL #[jj]) (Z0 X e.1) R:=w1.congr λm hm=>vE m (sA m hm);have y8:Win (hdL #[jj]) (Y7 X e.1) S:=w2.congr λm hm=>vE m (sB m hm);have o8:#[fh,u,H5,o,H8]:=λb u c n=>qL _ _ (k6 b u c n);have ml:Wi e.1 (#[nu].take (i+1))=Wi e.1 (#[nu].take i)++[(Z0 X e.1,Y7 X e.1)]:=by unfold Wi;rw[QL,hX,Qd];rfl
  cases R with
  | none=>exact⟨_,rfl,rfl,_,rfl,WR rfl (YY ⟨k,v,_,_,_,_,_,rfl,dG,oU,by rw[ml];exact .no N (.inl y6),o8⟩)⟩
  | some a =>
  refine#[jL];cases S with
  | none=>exact⟨_,rfl,rfl,_,rfl,WR rfl ⟨k,v,_,_,_,_,_,rfl,dG,oU,by rw[ml];exact .no N (.inr y8),o8⟩⟩
  | some b =>
  refine#[jL];obtain⟨ma,C,ea,ha⟩:=Rv w1;obtain⟨mb,L,eb,c⟩:=Rv w2;have tG:=lc.same qL;have R:=Uv J.nd (vH a (sA a ma));have S:=Uv J.nd (vH b (sB b mb));rw[ea]at R;rw[eb]at S;have j7:hdL #[jj] a=U (cds C):=by rw[vE a (sA a ma)];exact ha
  have cS:hdL #[jj] b=U (cds L):=by rw[vE b (sB b mb)];exact c
  have vI:z.length<=1000:=((O.lst e Y).2.2.2 z (Qv hz)).1;have mS:∀l1 l2:Int,(Y3 F p nb l1 l2).length<ao:=λ_ _=>Zn #[rU,5];refine⟨_,rfl,o,_,rfl,ZM.k' (k:=#[jH]) oU (Rt ..),_,_,rfl,rfl,_,rfl,o,_,rfl,Yz.k (k:=#[jH]) oU (mS _ _),?_⟩;rw[JG];show#[ew,vJ,H8,o,#[dt]];have gO:Hds (upd H8 o #[dt]) D G:=⟨by rw[Zd Cj];exact tG.at',tG.nd,tG.ok⟩;have o9:∀b u,H5 b=U u->b≠o->(upd H8 o #[dt]) b=U u:=λb u c n=>by rw[Zd n];exact o8 b u c n
  generalize upd H8 o (.dK (Y3 F p nb (B+k+1) (g+v)))=H9 at vJ gO o9 ⊢;refine⟨_,rfl,_,rfl,D,_,rfl,ZM.k' (k:=.inl a) gO.at' R,_,rfl,C,z,rfl,(J.lk ea).1,vI,_,rfl,_,rfl,_,rfl,D,_,rfl,ZM.k' (k:=.inl b) gO.at' S,_,rfl,L,z,rfl,(J.lk eb).1,vI,rfl,_,rfl,Y1 #[aM] #[aM]⟩
  ·have ef:lcp (cds C) #[wZ]=lcp (cds L) #[wZ]:=by have:=#[89];injection this with this;lia
   refine⟨_,rfl,o,_,rfl,ZM.k' (k:=#[pt]) vJ (NZ ..),_,rfl,_,rfl,D,_,rfl,ZM.k' (k:=.inl a) gO.at' R,_,rfl,_,rfl,D,_,rfl,ZM.k' (k:=.inl b) gO.at' S,C,L,rfl,(J.lk ea).1,(J.lk eb).1,_,_,rfl,rfl,_,rfl,_,_,rfl,rfl,_,_,rfl,rfl,_,rfl,o,_,rfl,Yz.k (k:=#[pt]) vJ (mS _ _),?_⟩;rw[JF];refine⟨k+1,v+#[xn],_,_,_,_,_,rfl,dG,?_,by rw[ml];exact .eq N y6 y8 j7 cS ef,λb u c n=>by rw[Zd n];exact o9 b u c n⟩;rw[Zb];have e1:B+k+1=B+(k+1):=by lia
   have e2:g+v+(#[gv,C,L]:Int)-(#[gv,C,z]:Int)+1=g+(v+#[xn]):=by lia
   rw[e1,e2]
  ·have nf:lcp (cds C) #[wZ]≠lcp (cds L) #[wZ]:=λe=>d #[rt,e];exact⟨k+1,v,_,_,_,_,_,rfl,dG,by rw[show B+(k+1)=B+k+1 by lia];exact vJ,by rw[ml];exact .ne N y6 y8 j7 cS nf,o9⟩
 ·rintro σ M ⟨k,v,v6,v7,v8,v9,jj,rfl,_,y0,N,k6⟩;rw[Qa,gt,Qx #[jJ]]at N;have G8:t≠o:=λzz=>by rw[zz,I.at']at eR;cases eR
  refine⟨_,rfl,q #[jz] #[jj] k v M (.inr ⟨e,t,z,Y,hw,rfl,hz,k6 _ _ (sy _ _ eR) G8,rfl,N⟩) (ji.but k6 y0) (λb u c n1 n2=>k6 b u (sy b u (k2 b u c n2)) n1)⟩
structure MS where
 m:ae
 rd:ae
 sd:ae
 L:List ZC
 s:StL
 nb:Int
 li:Int
 lo:Int
 w:Option Int
structure OS where
 o:ae
 ra:ae
 ga:ae
 Lo:List ZE
 nb:Int
def Y5(Y:OS)(b:ae):Prop:=b=Y.o\/b=Y.ra\/b=Y.ga\/∃e∈Y.Lo,b=e.2.1
def MFp(X:MS)(b:ae):Prop:=Fp X.m X.rd X.sd X.L b
structure MOk (cR cM:ae) (H:Hp) (X:MS):Prop where
 M:ZW cR cM H X.m X.rd X.sd X.L X.s X.nb X.li X.lo (Yk X.w)
 W:Win (hdM X.L) (ZG X.L) X.w
 ok:Yt (hdM X.L) X.s (ZG X.L)
structure XX (cR cM:ae) (H:Hp) (X:MS) (Y:OS):Prop where
 mg:MOk cR cM H X
 ow:Own H Y.o Y.ra Y.ga Y.Lo Y.nb X.li X.lo
 ag:Agr Y.Lo X.L
 sep:∀b,MFp X b->¬ Y5 Y b
theorem MOk.same{a b:ae}{H c:Hp}{X:MS}(h:MOk a b H X)(s:ZF H c):MOk a b c X:=⟨h.M.same s,h.W,h.ok⟩
theorem MOk.keep{a c:ae}{H d:Hp}{X:MS}(h:MOk a c H X)(k:∀b o,H b=U o->MFp X b\/(∃xs,o=.tup xs)->d b=U o):MOk a c d X:=⟨h.M.keep k,h.W,h.ok⟩
theorem Own.keep{H c:Hp}{o ra ga:ae}{L:#[41]}{nb li lo:Int}(h:#[27])(k:∀b u,H b=U u->Y5 ⟨o,ra,ga,L,nb⟩ b->c b=U u):Own c o ra ga L nb li lo :=
 ⟨k _ _ h.at' #[8],k _ _ h.rows #[tw],k _ _ h.gone (.inr #[tw]),h.nd,h.few,λe d=>let ⟨a,b⟩:=h.lst e d;⟨k _ _ a (.inr (.inr (.inr ⟨e,d,rfl⟩))),b⟩⟩
theorem XX.same{a b:ae}{H c:Hp}{X:MS}{Y:OS}(h:XX a b H X Y)(s:ZF H c):XX a b c X Y:=⟨h.mg.same s,h.ow.same s,h.ag,h.sep⟩
theorem IL{o ra ga:ae}{Lo:#[41]}{nb:Int}{n:Int}{b:ae}(h:Y5 ⟨o,ra,ga,YL Lo n,nb⟩ b):Y5 ⟨o,ra,ga,Lo,nb⟩ b:=by
 rcases h with h|h|h|⟨e',a,h⟩
 ·exact .inl h
 ·show#[qT,h]
 ·exact .inr #[hJ,h]
 ·show#[en,e,c,a];rw[(SV n e).2.1]at h;exact .inr #[hp,e,c,h]
theorem SU{Lo:#[41]}{L:#[aI]}(h:#[oy]):pur Lo=Y6 L:=h
theorem Own.live{H:Hp}{o ra ga:ae}{L:#[41]}{nb li lo:Int}(h:#[27]){b:ae}(hb:Y5 ⟨o,ra,ga,L,nb⟩ b):∃u,H b=U u/\∀xs,u≠.tup xs:=by
 rcases hb with rfl|rfl|rfl|⟨e,a,rfl⟩
 ·show#[r5,h.at']
 ·show#[r5,h.rows]
 ·show#[r5,h.gone]
 ·exact⟨_,(h.lst e a).1,λxs z=>by cases z⟩
theorem ZmT{A B:ae}{H g h:Hp}{X:MS}{Y:OS}(p:XX A B H X Y){x y:V}{a:#[aI]}{s':StL}{l:#[cj]}{k q k' v:Int}{w:#[41]}(D:Uq X.L X.w x a k q g)
  (M1:ZW A B g X.m X.rd X.sd a s' X.nb (X.li+k) (X.lo+q) (Yk l)) (E:Win (hdM a) (ZG a) l) (ok1:#[op]) (k1:#[fw,o,H,MFp,X,g])
  (C:Nh Y.Lo y w k' v h) (F:#[xY,h,w,Y.nb,k',v]) (k2:∀b u,g b=U u->b≠Y.o->b≠Y.ga->h b=U u) (n:Nat) :
  k=k'/\q=v/\XX A B h #[c7] ⟨Y.o,Y.ra,Y.ga,w,Y.nb⟩/\IsD h (n+2) x y/\(∀b,MFp #[c7] b↔MFp X b)/\(∀b,Y5 ⟨Y.o,Y.ra,Y.ga,w,Y.nb⟩ b->Y5 Y b) /\
   ((Win (hdP #[kl]) (Xx #[kl]) af/\a=X.L/\k=0/\q=0)\/X2 λ(u:Y2) (z:al)=>VI #[kl] u z k q/\Y6 a=WX #[kl] u.1):=by
 have m:∀b,MFp #[c7] b↔MFp X b:=λb=>D.fp;have nd:(Xx #[kl]).Nodup:=by rw[<- Up];exact p.mg.M.nd
 have j:=SU p.ag;have G:#[rX,t,d,g,h]:=λt d r=>by
  have I:∀b,Y5 Y b->∃u,g b=U u/\∀d,u≠.tup d:=λb c=>by obtain⟨u,i,s⟩:=p.ow.live c;exact⟨u,k1 b u i (λz=>p.sep b z c),s⟩
  refine k2 t _ r (λz=>?_) (λz=>?_)
  ·obtain⟨u,i,s⟩:=I t (.inl z);show#[fe,r,i,i];exact s d rfl
  ·obtain⟨u,i,s⟩:=I t #[kA];show#[fe,r,i,i];exact s d rfl
 have J:∀b o,g b=U o->Fp X.m X.rd X.sd a b\/(∃d,o=.tup d)->h b=U o:=λb o c O=>by
  rcases O with P|⟨d,rfl⟩
  ·have:=p.sep b ((m b).mp P);exact k2 b o c (λz=>this (.inl z)) (λz=>this #[kA])
  ·exact G b d c
 have W:=p.mg.W;have Q:=ZmQ W D;have hTW:=C;rcases Q with⟨K,rfl,rfl,rfl,rfl⟩|⟨u,z,t,st,L,rfl,r⟩
 ·rcases C with⟨rfl,hw,rfl,rfl,rfl⟩|⟨e,t,z,_,hw,_⟩
  ·refine⟨rfl,rfl,⟨⟨M1.keep J,E,ok1⟩,F,p.ag,λb c=>p.sep b ((m b).mp c)⟩,U5 #[8],m,λb c=>c,.inl ⟨K,rfl,rfl,rfl⟩⟩
  ·rw[PZ,SW,j]at hw;exact nomatch K.one hw
 ·rcases C with⟨_,hw,_⟩|⟨e,t',R,S,hw,rfl,T,Z,rfl,M⟩
  ·rw[PZ,SW,j]at hw;show#[ft,st.2.2.1]
  ·have N:=hw;rw[PZ,SW,j]at N;have gn:VI #[kl] #[oN] R k' v:=by refine⟨by rw[<- j];exact Qg (f:=#[cP]) S,T,N,?_⟩;rw[PZ,IQ,SW,j]at M;exact M
   obtain⟨e1,e2,e3,e4⟩:=st.one nd gn;subst e1;subst e2;subst e3;subst e4;have G9:Agr (YL Y.Lo e.1) a:=by show pur (YL Y.Lo e.1)=Y6 a;rw[IQ,j,L]
   refine⟨rfl,rfl,⟨⟨M1.keep J,E,ok1⟩,F,G9,λb c ho=>p.sep b ((m b).mp c) (IL ho)⟩,?_,m,λb c=>IL c,.inr ⟨_,z,st,L⟩⟩;exact Ny (G _ _ r) Z #[rU,3] #[iK]
theorem Zp1{a b:ae}{H:Hp}{X:MS}(h:MOk a b H X):(Xx #[kl]).Nodup:=by rw[<- Up];exact h.M.nd
noncomputable def Uo(a:#[cc]):List Y2:=(Xr 0 a.length).zip (a.map λx=>(x.2,0))
theorem IK{α a b:Type}(f:α->a)(g:α->b):∀l:List α,l.map (λx=>(f x,g x))=(l.map f).zip (l.map g)
 | []=>rfl
 | x::r=>by rw[Qs,Qs,Qs,List.zip_cons_cons,IK f g r]
theorem ZnO{L:#[aI]}{a:#[cc]}(h:S7 L a):Y6 L=Uo a:=by unfold Y6 Uo;rw[IK (λe:ZC=>e.n) (λe=>(e.ss,e.g)) L,<- h.1,<- h.2];rfl
def IJ(K:#[7])(c d:ae):Sp:=λvs H Q _=>X11 λ(m rd sd:ae) (L:List ZC) (s:StL) (nb li lo:Int) (h:V) (r:ae) (ss:List al)=>vs=#[fJ,m,r]/\ZW c d H m rd sd L s nb li lo h/\(∀e∈L,e.n<nb)/\L.length<16/\H r=U #[jp]/\ss.length<=100/\#[q0,ss,1000]/\sortedS ss=true /\
 ∀ (e:ZC) (f:ae) (g:StL) (w:Option Int) (k q:Int) (a:Hp),e.n=nb->e.ss=ss->e.g=0->H e.p=af->H e.k=af->H e.f=af->H f=af->Win (hdM #[tr]) (ZG #[tr]) w->XA (hdM #[tr]) g 8 (ZG #[tr])->YQ (hdM #[tr]) 8 (ZG #[tr]) k q->ZW c d a m rd f #[tr] g (nb+1) (li+k) (lo+q) (Yk w)->#[e3,H,rd,a]->Q (.int nb) a
theorem Zla(T:#[e])(bq:#[66])(dM:#[mC])(aT:#[93]):Mf P w K mg base 14 ak "add_row" #[da] (IJ K aw ak):=by
 refine T.t_Merge_add_row.mf RO #[E] #[aA];obtain⟨m,g,p,L,s,nb,B,lo',C,r,j,rfl,M,aX,h7,bD,gj,Y,eW,q⟩:=h;refine⟨_,#[Ze,#[si,2,RO.nd,#[I]],#[Ze,#[ZX,#[et,bq,G,2,1]],#[Ze,#[ZN,#[j2],#[o3],#[Zy]],#[Ze,#[Z2,#[T9,dM,G,#[X]],#[h2,#[I],2,G]],#[Ze,#[nl],#[Ze,#[ZX,#[eC,aT,G]],#[bL]]]]]]],?_⟩;show#[gm,dx,I];refine⟨_,rfl,m,ak,dx,_,_,rfl,I,T.cl_Merge,T.na_Merge_next_number,NF ..,_,rfl,_,rfl,nb,r,j,rfl,SqL.of bD,by lia,λx D=>(Y x D).1,S6 eW,λZ J=>?_⟩;show#[rH,M1,J,fA,I];have iB:#[o5]:=by unfold kvM;rw[Qa]
 refine⟨_,rfl,m,ak,dx,_,_,rfl,fA,T.cl_Merge,T.na_Merge_rows,Ye ..,g,_,rfl,M1.rows,_,_,rfl,rfl,_,rfl,Y1 #[aM] #[aM]⟩
 ·have:(16:Int)<=#[81]:=#[89];exact absurd this #[2]
 refine⟨_,rfl,λu l hu nB Gn=>?_⟩;have N:H u=af:=J.free hu;have O:∀b o,H b=U o->#[fl,Z,l,u,aw] b=U o:=λb o c=>by have:=J _ _ c;show#[iP]
 have sR:#[fl,Z,l,u,aw] u=U (.ins aw l []):=Zb;generalize upd (upd Z l (.own u)) u (.ins aw l [])=H8 at O sR ⊢;refine⟨u,l,r,j,rfl,sR,O _ _ bD,gj,λx D=>(Y x D).1,λk f F hk hf yC R k9=>⟨rfl,?_⟩⟩;have s9:ZF H F:=λb o c=>k9 b o (O b o c) (Zf c N);have free:∀b,H8 b=af->H b=af:=λb c=>by
  cases e:H b with
  | none=>rfl
  | some o=>rw[O b o e]at c;cases c
 have Ck:=free k hk;have Cm:=free f hf;show#[rH,i,s9,o6,I];have o5:g≠u/\g≠k/\g≠f:=⟨Zf M.rows N,Zf M.rows Ck,Zf M.rows Cm⟩;have hsz:#[q3,kvM,L]:=by unfold kvM;show#[c2]
 have jI:Zt (kvM L) (.inl nb)=af:=by
  cases hv:Zt (kvM L) (.inl nb) with
  | none=>rfl
  | some v=>obtain⟨e,he,z⟩:=Qq.mp (VW hv);injection z with z _;have:=aX e he;have:=Sum.inl.inj z;lia
 refine⟨_,rfl,m,ak,dx,_,_,rfl,o6,T.cl_Merge,T.na_Merge_rows,Ye ..,_,rfl,g,_,rfl,Yz.k (k:=.inl nb) i.rows hsz,?_⟩;rw[VY _ jI,show kvM L++[((.inl nb:Key),V.ref u)]=kvM #[jm] by unfold kvM;rw[Qd];rfl];show#[hU,n1,n2,n3,i.ne_m];have nD:ZW aw ak #[ro,F,g,kvM,#[jm]] m g p #[jm] s nb B lo' C:=by
  refine⟨⟨dx,by rw[Zd n1];exact o6⟩,Zb,?_,?_,λe he=>?_,?_,?_,by rw[Qf,Qz];lia,M.sfew⟩
  ·rw[Zd (λz=>by have:=i.stays;rw[z,i.rows]at this;cases this)];exact i.stays
  ·intro e he t ht;have c:=i.ats e he t ht;show#[g2,Zd,z,i.rows,c]
  ·rcases Qj.mp he with he|he
   ·have S:=i.each e he;show#[ep,de,W,S.at'.ob];refine S.mono λb o c bS=>?_;have nb':b≠g:=λz=>by
     rw[z,i.rows]at c;injection c with c;subst c;rcases bS with z2|z2|z2
     ·rw[<- z2,z,i.rows]at W;cases W
     ·show#[ij,S.at'.ks,i.rows]
     ·show#[ij,S.at'.fs,i.rows]
    rw[Zd nb'];exact c
   ·rw[Qi.mp he];refine WL.keep (H:=F) ⟨R,Qu _,gj,eW,Y⟩ (Zd o5.1.symm) (Zd o5.2.1.symm) (Zd o5.2.2.symm)
  ·unfold ZG;rw[Qd];refine List.pairwise_append.mpr ⟨M.up,Qa4 ..,λx D y hy=>?_⟩;show#[en,e,he,D];have:y=nb:=by simpa using hy
   rw[this];exact aX e he
  ·show#[fB,M.pd,a,ha,b,c];have:b=u:=by simpa using c
   rw[this];obtain⟨de,W⟩:=#[oS];exact Zf W N
 have k10:#[rm,o,g,F,kvM,#[jm]]:=λb o c n=>by rw[Zd n];exact s9 b o c
 generalize upd F g (.dK (kvM (L++[⟨nb,u,k,f,j,0⟩])))=eT at nD k10 ⊢;have pZ:=k10 _ _ I n1;show#[f6,pZ,T.na_Merge_next_number,NF,Zhh];have X:=nD.obj (nb':=nb+1) (li':=B) (lo':=lo') (best':=C) (dx:=dx);have k11:∀b o,H b=U o->b≠m->b≠g->(upd eT m (.ins ak dx (mgF g (nb+1) B lo' p C))) b=U o:=λb o c n n'=>by rw[Zd n];exact k10 b o c n'
 generalize upd eT m (.ins ak dx (mgF g (nb+1) B lo' p C))=e6 at X k11 ⊢;show#[ep,tI,p6,X.ob];have vM:∀b,e6 b=af->H b=af:=λb c=>by
  cases e:H b with
  | none=>rfl
  | some o =>
   by_cases z:b=m
   ·show#[rZ,p6,c]
   ·by_cases z':b=g
    ·show#[eO,z',X.rows,c]
    ·rw[k11 b o e z z']at c;cases c
 refine⟨_,rfl,m,tI,_,rfl,p6,Rj ..,m,g,p,_,s,_,_,_,_,rfl,X,λbJ s' w0 k0 q0 ic gk iX y9 zc tJ k12=>⟨_,rfl,?_⟩⟩;exact q ⟨nb,u,k,f,j,0⟩ bJ s' w0 k0 q0 ic rfl rfl rfl N Ck Cm (vM bJ gk) iX y9 zc tJ (λb o c n n'=>k12 b o (k11 b o c n n') n)
theorem Zrw(L:#[41])(e:ZE):kvR #[tr]=kvR L++[(#[i3],V.ref e.2.1)]:=by unfold kvR;rw[Qd];rfl
theorem ZqK(L:#[41])(e:ZE):kvG #[tr]=kvG L++[(#[i3],V.int #[dc])]:=by unfold kvG;rw[Qd];rfl
theorem ZoW{L:#[41]}{n:Int}(h:∀e∈L,e.1<n):Zt (kvR L) #[u5]=af:=by
 cases a:Zt (kvR L) (.inl n) with
 | none=>rfl
 | some v=>obtain⟨e,b,z⟩:=Qq.mp (VW a);injection z with z _;have:=h e b;have:=Sum.inl.inj z;lia
theorem Zoz{L:#[41]}{n:Int}(h:∀e∈L,e.1<n):Zt (kvG L) #[u5]=af:=by
 cases a:Zt (kvG L) (.inl n) with
 | none=>rfl
 | some v=>obtain⟨e,b,z⟩:=Qq.mp (VW a);injection z with z _;have:=h e b;have:=Sum.inl.inj z;lia
theorem Zkn(ra ga:ae)(nb li lo v:Int):YT #[a2] (.inr "number") #[me]=Y3 ra ga v li lo:=by
 unfold YT;rw[if_pos]
 ·unfold Y3;simp only[List.map_cons,List.map_nil];rw[if_neg #[hP,JN],if_neg #[ml],if_pos True.intro,if_neg #[ml],if_neg #[ml]]
 ·exact QaF.mpr ⟨#[xl],by unfold Y3;simp,decide_eq_true rfl⟩
theorem Own.add{H:Hp}{o ra ga:ae}{L:#[41]}{nb li lo:Int}(h:#[27])(nga:ga≠ra)(c:∀e∈L,e.1<nb)(hf:L.length<60){r:ae}{ss:#[Q]}(d:H r=U #[jp])(hl:ss.length<=100)(hs:∀s∈ss,s.length<=1000/\AZ s) :
  Own (upd (upd #[ro,H,ra,kvR,#[qm]] ga (.dK (kvG #[qm]))) o (.dK (Y3 ra ga (nb+1) li lo))) o ra ga #[qm] (nb+1) li lo:=by
 show#[ep,f,g,h.ne];have i:∀e∈L++[(nb,r,ss,0)],H e.2.1=U #[eu,e.2.2.1.map]/\e.2.2.1.length<=100/\e.2.2.2<=e.2.2.1.length/\∀s∈e.2.2.1,s.length<=1000/\AZ s:=λe he=>by
  rcases Qj.mp he with he|he
  ·exact h.lst e he
  ·rw[Qi.mp he];exact⟨d,hl,Qu _,hs⟩
 refine⟨Zb,?_,?_,?_,by rw[Qf,Qz];lia,λe he=>?_⟩
 ·rw[Zd f,Zd nga.symm];exact Zb
 ·rw[Zd g];exact Zb
 ·show#[fB,h.nd,a,j,b,k];have:b=nb:=by simpa using k
  have:=c e he;lia
 ·obtain⟨a1,a2⟩:=i e he;refine⟨?_,a2⟩;rw[Zd (λz=>by rw[z,h.at']at a1;cases a1),Zd (λz=>by rw[z,h.gone]at a1;cases a1),Zd (λz=>by rw[z,h.rows]at a1;cases a1)];exact a1
theorem Znj(xs:#[pO])(m:Nat):Xs xs af #[lC]=xs.take m:=by
 unfold Xs;have a:HT.sIx xs.length 0 af=0:=rfl;rw[HT.sIx_nat,a,List.drop_zero,Nat.sub_zero];rcases Nat.le_total m xs.length with h|h
 ·rw[QaK h]
 ·rw[Nat.min_eq_right h,Qx #[jJ],Qx h]
theorem XX.but{f g:ae}{H h:Hp}{X:MS}{Y:OS}{p:ae}{c:Int}(pr:XX f g H X Y)(L:#[sW])(n:¬ MFp X p)(j:¬ Y5 Y p)(B:But p H h):XX f g h X Y:=by
 have np:∀b u,H b=U u->(MFp X b\/Y5 Y b\/∃i,u=.tup i)->b≠p:=λb u a d e=>by
  subst e;rcases d with z|z|⟨i,rfl⟩
  ·exact n z
  ·exact j z
  ·obtain⟨_,_,k,_⟩:=L;show#[fe,k,a,a]
 exact⟨pr.mg.keep λb u a d=>B b u a (np b u a (d.imp id .inr)),pr.ow.keep λb u a l=>B b u a (np b u a #[hJ,l]),pr.ag,pr.sep⟩
theorem II(rd:ae)(nb li lo:Int)(sd:ae)(a:V):#[14].lookup ("add_row" : al)=af:=#[o]
theorem SS(rd:ae)(nb li lo:Int)(sd:ae)(a:V):#[14].lookup ("row_of" : al)=af:=#[o]
theorem Zj3(k f:ae)(g:Int):#[ji].lookup ("to_go" : al)=af:=#[jQ]
theorem ZgH(k f:ae)(g:Int):#[ji].lookup ("lengthen" : al)=af:=#[jQ]
def PY(a b:ae):Sp:=λvs H Q _=>X10 λ(m rd sd:ae) (L:List ZC) (s:StL) (nb li lo:Int) (c:V) (e:ZC)=>vs=#[qE,m,e.n]/\ZW a b H m rd sd L s nb li lo c/\e∈L/\Q (.ref e.p) H
theorem ZmX(T:#[e]):Mf P w K mg base 1 ak "row_of" #[ah] (PY aw ak):=by
 show#[ee,T.t_Merge_row_of.mf,Ko,i,b];obtain⟨m,a,j,L,s,nb,l,lo,n,e,rfl,M,c,q⟩:=h;refine⟨_,#[Ze,#[ZN,#[Zm,(Li b),‹1›,#[I],#[ab]],#[o3],#[Zy]],#[Zi,#[Zr,#[fN,b,#[I],1]]]],?_⟩;show#[gm,d,g];refine⟨_,rfl,_,rfl,m,ak,d,_,_,rfl,g,T.cl_Merge,T.na_Merge_rows,Ye ..,a,_,rfl,ZM.k' (k:=#[pT]) M.rows (Wo M.nd c),_,rfl,YY ?_⟩;exact⟨_,rfl,m,ak,d,_,_,rfl,g,T.cl_Merge,T.na_Merge_rows,Ye ..,_,rfl,a,_,rfl,ZM.k' (k:=#[pT]) M.rows (Wo M.nd c),q⟩
noncomputable def Yj(L:#[aI])(n:Int):List ZC:=L.filter λe=>decide (e.n≠n)
theorem ZpT(L:#[aI])(n:Int):WD (kvM L) #[u5]=kvM (Yj L n):=by unfold WD kvM Yj;rw[QaL];congr 1;refine List.filter_congr λe _=>?_;exact decide_eq_decide.mpr #[fI,e.n]
theorem ZW.drop{f g:ae}{H:Hp}{m rd sd:ae}{L:#[aI]}{s:StL}{nb li lo:Int}{h:V}(M:#[gB,f,g,h])(n:Int):ZW f g (upd H rd (.dK (kvM (Yj L n)))) m rd sd (Yj L n) s nb li lo h:=by
 show#[hU,j,n2,k,M.ne_m];show#[gm,l,o];refine⟨⟨l,by rw[Zd j];exact o⟩,Zb,by rw[Zd k.symm];exact M.stays,λe d t p=>?_,λe d=>?_,?_,?_,Ql (Qaj ..) M.few,M.sfew⟩
 ·have:=M.ats e d t p;show#[e1,M.rows]
 ·have i:=(Qah.mp d).1;obtain⟨_,_,_,a,b,c⟩:=M.ne_sd i;show#[fX,M.each,i]
 ·exact M.up.sublist #[w9]
 ·exact M.pd.sublist #[w9]
def IH(c d:ae):Sp:=λvs H Q _=>X10 λ(m rd sd:ae) (L:List ZC) (s:StL) (nb li lo:Int) (h:V) (e:ZC)=>vs=#[qE,m,e.n]/\ZW c d H m rd sd L s nb li lo h/\e∈L /\
 ∀ (f:ae) (g:StL) (w:Option Int) (k q:Int) (a:Hp),H f=af->Win (hdM #[l1]) (ZG #[l1]) w->XA (hdM #[l1]) g 8 (ZG #[l1])->YQ (hdM #[l1]) 8 (ZG #[l1]) k q->ZW c d a m rd f #[l1] g nb (li+k) (lo+q) (Yk w)->#[e3,H,rd,a]->Q (.int #[kP]) a
theorem ZjY(T:#[e])(v:#[aV])(x:#[v3])(y:#[93]):Mf P w K mg base 14 ak "drop_row" #[ah] (IH aw ak):=by
 show#[ee,T.t_Merge_drop_row.mf,RN,B,d];obtain⟨m,a,g,L,s,nb,l,i,p,e,rfl,M,j,q⟩:=h;refine⟨_,#[Ze,#[Zw,2,RN.nd,#[3],#[YI,v,T.cl_Row,d,#[rp,x,d,#[X]]]],#[Ze,#[ZX,#[Xl,Q3,QaP,PySem.F.type_dict_pop,O5,#[I],#[X]]],#[Ze,#[ZX,#[eC,y,d]],#[bL]]]],?_⟩;show#[gm,r,t];show#[rF,Re,j,C,D,Re.at'.ob];refine⟨_,rfl,m,r,_,rfl,t,SS ..,_,rfl,m,a,g,L,s,nb,l,i,p,e,rfl,M,j,e.p,C,_,rfl,D,Zj3 ..,e.p,e.k,e.f,e.ss,e.g,rfl,Re.at',_,rfl,m,ak,r,_,_,rfl,t,T.cl_Merge,T.na_Merge_rows,Ye ..,.inr (.inr (.inl ⟨rfl,.inl ⟨_,M.rows⟩⟩)),_,rfl,a,_,.inl e.n,_,rfl,rfl,M.rows,Wo M.nd j,?_⟩;rw[ZpT];have k:=M.drop e.n;have k10:#[rm,o,a,H,kvM,#[l1]]:=λb o c n=>by rw[Zd n];exact c
 have free:∀b,#[ro,H,a,kvM,#[l1]] b=af->H b=af:=λb c=>by
  by_cases z:b=a
  ·show#[rZ,Zb,c]
  ·rw[Zd z]at c;exact c
 generalize upd H a (.dK (kvM (Yj L e.n)))=eT at k k10 free ⊢;show#[ep,F,G,k.ob];refine⟨_,rfl,m,F,_,rfl,G,Rj ..,m,a,g,_,s,_,_,_,_,rfl,k,λu I J k0 N O R S V W X k12=>⟨_,rfl,?_⟩⟩;exact q u I J k0 N O (free u R) S V W X (λb o c n Y=>k12 b o (k10 b o c Y) n)
theorem PX(k f:ae)(g:Int):YV k f g=#[iZ]:=by unfold YV;rw[WM,ZB nFK,WM,ZB nGK,ZB nGF,WM]
theorem Zh6(k f:ae)(g:Int)(k':ae):ZA "all_keys" (.ref k') #[ji]=YV k' f g:=by rw[PX,PX,VM]
theorem Zh2(k f:ae)(g:Int)(a:ae):ZA "fars" #[iB] #[ji]=YV k a g:=by rw[PX,PX,ZB nFK,VM]
def IG(C:ae):Sp:=λvs H Q _=>X7 λ(p k f a:ae) (ss ks:List al) (g:Nat)=>vs=#[fJ,p,a]/\Vb C H p k f ss g/\H a=U #[12]/\(ss++ks).length<=100/\(∀x∈ss++ks,x.length<=1000) /\
 ∀ (k' d:ae) (c:Hp),H k'=af->H d=af->Vb C c p k' d (ss++ks) g->#[e2,H,p,c]->Q .non c
theorem ZkH(T:#[e])(D:#[dO]):Mf P w K mg base 4 aw "lengthen" #[98] (IG aw):=by
 refine T.t_Row_lengthen.mf ZgJ #[E] (λaM fa A outer s H F Q E G h=>?_);obtain⟨p,k,f,a,i,j,g,rfl,R,I,C,J,q⟩:=h;refine⟨_,#[Ze,#[XO,‹0›,#[ZH,Xk,#[I],‹1›]],#[Zi,#[XO,‹0›,#[Zx,D,G,#[Zc,#[I]],#[5]]]]],?_⟩;obtain⟨⟨d,t⟩,L,hf⟩:=R;refine⟨_,rfl,p,aw,d,_,_,rfl,t,T.cl_Row,T.na_Row_all_keys,Vc _ _ _,_,rfl,k,a,_,_,rfl,rfl,L,I,(by rw[Qa,Qa];rw[Qf]at C;exact Yu #[2]),λc v=>?_⟩;rw[<- Qd];have x:p≠c:=Zf t v;refine⟨_,rfl,p,aw,d,_,rfl,#[qB,Zd,x,t],T.cl_Row,T.na_Row_all_keys,Nk ..,?_⟩;rw[Zh6];have m:#[aw] p=U (.ins aw d (YV c f g)):=Zb;have y:#[aw] c=U #[gw,i,j]:=by rw[Zd x.symm];exact Zb
 have z:#[fh,o,H,p,#[aw]]:=λb o h n=>by rw[Zd n,Zd (Zf h v)];exact h
 generalize upd (upd H c (.lst ((i++j).map V.str))) p (.ins aw d (YV c f g))=H2 at m y z ⊢;refine⟨_,rfl,p,aw,d,_,_,rfl,m,T.cl_Row,T.na_Row_all_keys,Vc _ _ _,c,i++j,rfl,SqL.of y,C,J,λl H3 r M B=>?_⟩;have N:H l=af:=by
  cases O:H l with
  | none=>rfl
  | some u =>
   by_cases e:l=p
   ·show#[eO,e,m,r]
   ·rw[z l u O e]at r;cases r
 have S:p≠l:=Zf m r;refine⟨_,rfl,p,aw,d,_,rfl,B _ _ m,T.cl_Row,T.na_Row_fars,Nk ..,?_⟩;rw[Zh2];refine q c l _ v N ⟨⟨d,Zb⟩,?_,?_⟩ λb o h n=>?_
 ·rw[Zd x.symm];exact B _ _ y
 ·rw[Zd S.symm];exact M
 ·rw[Zd n];exact B _ _ (z b o h n)
noncomputable def Xw(n:Int)(ks:#[Q])(k f:ae)(x:ZC):ZC:=if x.n=n then ⟨x.n,x.p,k,f,x.ss++ks,x.g⟩ else x
noncomputable def Yi(L:#[aI])(n:Int)(ks:#[Q])(k f:ae):List ZC:=L.map (Xw n ks k f)
theorem Ng(n:Int)(ks:#[Q])(k f:ae)(x:ZC):#[kt].n=x.n/\#[kt].p=x.p/\#[kt].g=x.g:=by unfold Xw;split<;>exact#[sM]
theorem SR(L:#[aI])(n:Int)(ks:#[Q])(k f:ae):ZG #[oP]=ZG L:=by unfold ZG Yi;rw[Qk];exact QD λe _=>(Ng n ks k f e).1
theorem Zoq(L:#[aI])(n:Int)(ks:#[Q])(k f:ae):kvM #[oP]=kvM L:=by unfold kvM Yi;rw[Qk];refine QD λe _=>?_;obtain⟨a,b,_⟩:=Ng n ks k f e;simp only[Function.comp,a,b]
theorem IF:∀ (A B:List ZE),A.map #[sB]=B.map #[sB]->hdL A=hdL B
 | [],[],_=>rfl
 | [],_::_,h=>by cases h
 | _::_,[],h=>by cases h
 | a::A,b::B,h=>by
  rw[Qs,Qs]at h;injection h with h1 h2;injection h1 with d h4;have f:=IF A B h2;funext n;show#[my];split
  ·show#[wz]
  ·exact c
theorem Zob{L:#[aI]}{n:Int}{ks:#[Q]}(h:∀x∈L,x.n=n->x.g<x.ss.length\/ks=[])(k f:ae):hdM #[oP]=hdM L:=by
 refine IF _ _ ?_;unfold Yi;rw[Qk,Qk,Qk];refine QD λx a=>?_;show (#[kt].n,#[kt].ss[#[kt].g]?)=(x.n,x.ss[x.g]?);unfold Xw;split
 ·rename_i e;rcases h x a e with z|z
  ·exact congrArg (Prod.mk x.n) (QM z)
  ·rw[z,Qai]
 ·rfl
theorem Nf:∀ {P:List ZC},(P.map (·.n)).Nodup->∀ {p q:ZC},p∈P->q∈P->p.n=q.n->p=q
 | [],_,_,_,h,_,_=>by cases h
 | x::r,nd,p,q,a,hq,e=>by
  rw[Qs,Q5]at nd;rcases QO.mp a with h1|h1
  ·rcases QO.mp hq with h2|h2
   ·rw[h1,h2]
   ·exact absurd (show x.n∈r.map (·.n) by rw[<- h1,e];exact Qg (f:=λx:ZC=>x.n) h2) nd.1
  ·rcases QO.mp hq with h2|h2
   ·exact absurd (show x.n∈r.map (·.n) by rw[<- h2,<- e];exact Qg (f:=λx:ZC=>x.n) h1) nd.1
   ·exact Nf nd.2 h1 h2 e
theorem ZW.grow{f n:ae}{H g:Hp}{m rd sd:ae}{L:#[aI]}{s:StL}{nb li lo:Int}{p:V}(M:#[gB,f,n,p]){e:ZC}(he:e∈L){ks:#[Q]}{k' c:ae}(R:Vb f g e.p k' c #[oM] e.g)(hl:#[oM].length<=100)(hs:#[se,#[oM]])(q:#[n3])
  (k:#[fh,o,H,e.p,g]):ZW f n g m rd sd (Yi L e.n ks k' c) s nb li lo p:=by
 show#[gm,r,u];obtain⟨de,i⟩:=#[oS];refine⟨⟨r,k _ _ u (M.ne_p he).1⟩,by rw[Zoq];exact k _ _ M.rows (M.ne_sd he).2.2.2.1,k _ _ M.stays (M.ne_sd he).1,λx j t v=>?_,λx j=>?_,by rw[SR];exact M.up,?_,by unfold Yi;rw[Qa];exact M.few,M.sfew⟩
 ·have h:=M.ats x j t v;exact k _ _ h (λz=>by rw[z,i]at h;cases h)
 ·show#[en,y,d,j];by_cases l:y.n=e.n
  ·have w:y=e:=by have nd:=M.nd;unfold ZG at nd;exact Nf nd d he l
   subst w;rw[show Xw y.n ks k' c y=⟨y.n,y.p,k',c,y.ss++ks,y.g⟩ by unfold Xw;rw[if_pos rfl]];exact⟨R,by show y.g<=(y.ss++ks).length;rw[Qf];have:=(M.each y d).le;lia,hl,hs,q⟩
  ·rw[show Xw e.n ks k' c y=y by unfold Xw;rw[if_neg l]];have a:=M.each y d;have np:y.p≠e.p:=λz=>l (by have:=IU M.pd d he z;rw[this]);show#[ep,A,B,a.at'.ob];have C:y.k≠e.p:=λz=>by have:=a.at'.ks;show#[hD,i]
   have D:y.f≠e.p:=λz=>by have:=a.at'.fs;show#[hD,i]
   exact⟨⟨⟨A,k _ _ B np⟩,k _ _ a.at'.ks C,k _ _ a.at'.fs D⟩,a.le,a.len,a.srt,a.str⟩
 ·have:(Yi L e.n ks k' c).map (·.p)=L.map (·.p):=by unfold Yi;rw[Qk];exact QD λx _=>(Ng _ _ _ _ x).2.1
  rw[this];exact M.pd
def IE(f g:ae):Sp:=λvs H Q _=>X12 λ(m rd sd:ae) (L:List ZC) (s:StL) (nb li lo:Int) (w:Option Int) (e:ZC) (r:ae) (ks:List al)=>vs=[.ref m,.int e.n,.ref r]/\ZW f g H m rd sd L s nb li lo (Yk w)/\Win #[cZ] #[k5] w/\Yt #[cZ] s #[k5]/\e∈L/\H r=U #[12]/\r≠e.p/\#[oM].length<=100/\sortedS #[oM]=true/\(∀x∈e.ss++ks,x.length<=1000/\AZ x) /\
 ∀ (k' a c:ae) (h:StL) (i:Option Int) (k q:Int) (d:Hp),H k'=af->H a=af->((#[we]/\c=sd/\k=0/\q=0)\/(e.g=e.ss.length/\ks≠[]/\H c=af/\YQ (hdM #[md]) 8 #[k5] k q))->Win (hdM #[md]) #[k5] i->Yt (hdM #[md]) h #[k5]->ZW f g d m rd c #[md] h nb (li+k) (lo+q) (Yk i)->#[e3,H,e.p,d]->Q .non d
theorem ZqY(T:#[e])(b8:#[v3])(bq:#[66])(aV:#[56])(eU:Mf P w K mg base 4 aw "lengthen" #[98] (IG aw))(aT:#[93]):Mf P w K mg base 14 ak "grow" #[bO] (IE aw ak):=by
 refine T.t_Merge_grow.mf Tu #[E] (λaM fa A outer s H vs Q E g h=>?_);obtain⟨m,D,t,L,s,nb,S,F,w0,e,r,a,rfl,M,W,ok,i,G,G',v,X,I,q⟩:=h;refine⟨_,#[Ze,#[Zw,3,Tu.nd,#[3],#[rp,b8,g,#[X]]],#[Ze,#[ZX,#[Zx,bq,g,#[mf],#[5]]],#[Ze,#[Zw,4,Tu.nd,#[3],#[XQ,XR,#[rS,aV,g,3],#[ZU],#[37]]],#[Ze,#[ZX,#[Xq,eU,T.cl_Row,g,‹3›,#[b1]]],#[Zi,#[ZN,(@PW.pt _ _ _ #[Ya,#[Yb,‹4›],#[Xu,#[ke]]]),#[Zi,#[ZX,#[eC,aT,g]]],#[Zy]]]]]]],?_⟩;show#[xo];show#[rF,Re,i,de,fU,Re.at'.ob];have nh:e.ss.length+a.length<=100:=by rw[Qf]at v;exact v
 refine⟨_,rfl,m,dx,_,rfl,hm,SS ..,_,rfl,m,D,t,L,s,nb,S,F,_,e,rfl,M,i,_,rfl,_,rfl,e.p,aw,de,_,_,rfl,fU,T.cl_Row,T.na_Row_all_keys,Vc _ _ _,_,rfl,e.k,r,_,_,rfl,rfl,Re.at'.ks,G,#[r0,Qa,Yu,#[2]],λc hc=>?_⟩;rw[<- Qd];refine⟨e.n,c,e.ss++a,rfl,SqL.of Zb,by lia,λx j=>(I x j).1,S6 X,λH1 mq=>?_⟩;have f:ZF H H1:=(Zg hc _).trans mq;have M1:=M.same f;have J:=M1.each e i;show#[ep,Y,Z,J.at'.ob];refine⟨_,rfl,e.p,Y,_,rfl,Z,U6 ..,e.p,e.k,e.f,e.ss,e.g,rfl,J.at',rfl,_,rfl,e.p,Y,_,rfl,Z,ZgH ..,_,rfl,e.p,e.k,e.f,r,e.ss,a,e.g,rfl,J.at',f _ _ G,v,λx j=>(I x j).1,λk' k N j6 Cp R2 k2=>?_⟩;have M2:=M1.grow i R2 v X I k2;have y:#[fh,o,H,e.p,N]:=λb o l n=>k2 b o (f b o l) n;have fu:=y _ _ G G';have tK:(e.g<e.ss.length\/a=[])->Q .non N:=λbS=>by have eh:hdM (Yi L e.n a k' k)=hdM L:=Zob (λx j hn=>by rw[Nf M.nd j i hn];exact bS) k' k;refine q k' k t s w0 0 0 N (f.free j6) (f.free Cp) (.inl ⟨bS,rfl,rfl,rfl⟩) #[ei,eh,W] #[ei,eh,ok] (by rw[QV,QV];exact M2) (λb o l n O=>y b o l O)
 refine⟨_,rfl,_,rfl,?_⟩;by_cases hg:e.g<e.ss.length
 ·have R:WN e.ss e.g=.str e.ss[e.g]:=Ta (Qb hg);rw[R];exact YN #[44] (tK (.inl hg))
 ·have R:WN e.ss e.g=.non:=by unfold WN;rw[QP #[2]]
  rw[R];refine YE rfl ?_;refine⟨_,rfl,r,_,rfl,.inl (SqL.of fu),_,_,rfl,rfl,_,rfl,Y1 #[aM] #[aM]⟩
  ·have p:#[xh]<#[u7]:=#[89];rw[Qa]at p;have eG:a≠[]:=λz=>by rw[z]at p;exact absurd p #[6]
   show#[tB];refine⟨_,rfl,m,kj,_,rfl,fm,Rj ..,m,D,t,_,s,_,_,_,_,rfl,M2,λB s' w1 k1 q1 H3 C W3 S3 P3 M3 k3=>?_⟩;rw[SR]at W3 S3 P3;have Hc:=Us 8 (hdM (Yi L e.n a k' k)) s' #[k5] M.up #[qt,L,M.few] #[6] S3;have le:=Re.le;have Cq:H B=af:=by
    cases w':H B with
    | none=>rfl
    | some u =>
     by_cases z:B=e.p
     ·show#[h1,d2,iu,R2.ob,C]
     ·rw[y _ _ w' z]at C;cases C
   exact q k' k B s' w1 k1 q1 H3 (f.free j6) (f.free Cp) (.inr ⟨by lia,eG,Cq,P3⟩) W3 Hc M3 (λb o l n O=>k3 b o (y b o l O) n)
  ·have p:¬ #[xh]<#[u7]:=#[uD];rw[Qa]at p;exact tK (.inr (List.length_eq_zero_iff.mp #[2]))
noncomputable def XT(L:#[41])(n:Int):List ZE:=L.filter λe=>decide (e.1≠n)
theorem Zpg(L:#[41])(n:Int):WD (kvR L) #[u5]=kvR (XT L n):=by unfold WD kvR XT;rw[QaL];congr 1;exact #[kq]
theorem ZoH(L:#[41])(n:Int):WD (kvG L) #[u5]=kvG (XT L n):=by unfold WD kvG XT;rw[QaL];congr 1;exact #[kq]
theorem Own.drop{H:Hp}{o ra ga:ae}{L:#[41]}{nb li lo:Int}(h:#[27])(nga:ga≠ra)(n:Int):Own #[hd,H,ra,L,n,ga] o ra ga (XT L n) nb li lo:=by obtain⟨d,f⟩:=h.ne;refine⟨by rw[Zd f.symm,Zd d.symm];exact h.at',by rw[Zd nga.symm];exact Zb,Zb,h.nd.sublist #[w9],Ql (Qaj ..) h.few,λe g=>?_⟩;have c:=(Qah.mp g).1;obtain⟨a,b⟩:=h.lst e c;obtain⟨_,i,j⟩:=h.ne_l c;exact⟨by rw[Zd j,Zd i];exact a,b⟩
noncomputable def WA(n:Int)(ks:#[Q])(r:ae)(x:ZE):ZE:=if x.1=n then (x.1,r,x.2.2.1++ks,x.2.2.2) else x
noncomputable def Yd(L:#[41])(n:Int)(ks:#[Q])(r:ae):List ZE:=L.map (WA n ks r)
theorem ID(n:Int)(ks:#[Q])(r:ae)(x:ZE):(WA n ks r x).1=x.1/\(WA n ks r x).2.2.2=x.2.2.2:=by unfold WA;split<;>exact#[bM]
theorem IC(L:#[41])(n:Int)(ks:#[Q])(r:ae):(Yd L n ks r).map #[T]=L.map #[T]:=by unfold Yd;rw[Qk];exact QD λe _=>(ID n ks r e).1
theorem ZnN(L:#[41])(n:Int)(ks:#[Q])(r:ae):kvG (Yd L n ks r)=kvG L:=by unfold kvG Yd;rw[Qk];refine QD λe _=>?_;obtain⟨a,b⟩:=ID n ks r e;simp only[Function.comp,a,b]
theorem ZnY{L:#[41]}{e:ZE}(he:e∈L)(ks:#[Q])(r:ae):YT (kvR L) #[pU] #[jV]=kvR #[vJ]:=by
 unfold YT;rw[if_pos]
 ·unfold kvR Yd;rw[Qk,Qk];refine QD λx hx=>?_;show#[aZ];unfold WA;by_cases h:x.1=e.1
  ·rw[if_pos (by rw[h]),if_pos h]
  ·show#[wB]
 ·exact QaF.mpr ⟨_,Qg (f:=#[t1]) he,decide_eq_true rfl⟩
theorem Own.grow{H:Hp}{o ra ga:ae}{L:#[41]}{nb li lo:Int}(h:#[27])(nga:ga≠ra){e:ZE}(he:e∈L){ks:#[Q]}{r:ae}(a:H r=U #[gw,e.2.2.1,ks])(hl:(e.2.2.1++ks).length<=100)(d:∀x∈e.2.2.1++ks,x.length<=1000/\AZ x):Own (upd H ra (.dK (kvR #[vJ]))) o ra ga #[vJ] nb li lo:=by
 show#[ep,f,n2,h.ne];refine⟨by rw[Zd f.symm];exact h.at',Zb,by rw[Zd nga,ZnN];exact h.gone,by rw[IC];exact h.nd,by unfold Yd;rw[Qa];exact h.few,λx g=>?_⟩;show#[en,y,b,g];obtain⟨a1,a2,a3,a4⟩:=h.lst y b;by_cases c:y.1=e.1
 ·have i:y=e:=Wm h.nd b he c;subst i;rw[show WA y.1 ks r y=(y.1,r,y.2.2.1++ks,y.2.2.2) by unfold WA;rw[if_pos rfl]];refine⟨?_,hl,by show y.2.2.2<=(y.2.2.1++ks).length;rw[Qf];lia,d⟩;show (upd H ra _) r=_;show#[g2,Zd,z,h.rows,a]
 ·rw[show WA e.1 ks r y=y by unfold WA;rw[if_neg c]];exact⟨by rw[Zd (h.ne_l b).2.1];exact a1,a2,a3,a4⟩
theorem Zpc{Lo:#[41]}{L:#[aI]}(h:#[oy])(n:Int):Agr (XT Lo n) (Yj L n):=by
 unfold Agr XT Yj at *
 have:=congrArg (List.filter λx:Y2=>decide (x.1≠n)) h;show#[fz,QaL,QaL]
theorem ZpZ{Lo:#[41]}{L:#[aI]}(h:#[oy])(n:Int)(ks:#[Q])(r k f:ae):Agr (Yd Lo n ks r) #[oP]:=by
 unfold Agr Yd Yi at *
 have:=congrArg (List.map λx:Y2=>if x.1=n then (x.1,x.2.1++ks,x.2.2) else x) h;rw[Qk,Qk]at this;rw[Qk,Qk];refine(QD λe _=>?_).trans (this.trans (QD λe _=>?_))
 ·show#[aZ];unfold WA;split<;>rfl
 ·show#[aZ];unfold Xw;split<;>rfl
theorem IB{Lo:#[41]}{L:#[aI]}(h:#[oy]){e:ZC}(he:e∈L):∃a∈Lo,a.1=e.n/\a.2.2=#[vC]:=by
 have:(e.n,#[vC])∈Lo.map #[ce]:=by rw[h];exact Qg (f:=#[dy]) he
 obtain⟨a,b,c⟩:=Qq.mp this;injection c with d g;exact⟨a,b,d,g⟩
inductive WI where
 | add|drop|grow
noncomputable def WI.word:WI->al
 | .add => "add"
 | .drop => "drop"
 | .grow => "grow"
noncomputable def WI.nb(nb:Int):WI->Int
 | .add=>nb+1
 | _=>nb
noncomputable def PV(P:#[pP])(n:Int)(ks:#[Q]):WI->List Y2
 | .add=>P++[(n,ks,0)]
 | .drop=>P.filter λx=>decide (x.1≠n)
 | .grow=>P.map λx=>if x.1=n then (x.1,x.2.1++ks,x.2.2) else x
def IA(P:#[pP])(nb n:Int)(ks:#[Q]):WI->Prop
 | .add=>n=nb/\(∀x∈P,x.1<nb)/\P.length<16/\sortedS ks=true/\ks.length<=100
 | .drop=>∃x∈P,x.1=n
 | .grow=>∃x∈P,x.1=n/\sortedS (x.2.1++ks)=true/\(x.2.1++ks).length<=100
def Zst(f g:ae):Sp:=λvs H Q _=>X7 λ(X:MS) (Y:OS) (t r:ae) (d:WI) (n:Int) (ks:List al)=>vs=[.ref X.m,.ref Y.o,.ref t]/\XX f g H X Y/\Y.ga≠Y.ra/\X.nb=Y.nb/\H t=U #[hk,d.word,n,r]/\H r=U #[12]/\¬ MFp X r/\¬ Y5 Y r/\#[q0,ks,1000]/\ks.length<=100/\IA #[kl] X.nb n ks d /\
 ∀ (a:MS) (c:OS) (e:Hp),XX f g e a c->a.m=X.m->c.o=Y.o->c.ga≠c.ra->a.nb=c.nb->a.nb=d.nb X.nb->Y6 a.L=PV #[kl] n ks d->#[rc,MFp,a,X,H]->#[rc,Y5,c,Y,H]->#[fu,e]->Q #[sI] e
theorem Nd{m o:ae}{H d h:Hp}{X:MS}{Y:OS}(pr:XX m o H X Y){f:#[41]}{nb' p k q k' r:Int}{i:ae}{a:#[aI]}{s':StL}{j:#[cj]}(s:#[xY,d,f,nb',k,q])(y:#[fw,u,H,Y5,Y,d])(A:#[rx,H,d])(B:∀b,Y5 #[vf] b->Y5 Y b\/H b=af)
  (M2:ZW m o h X.m X.rd i a s' p (X.li+k') (X.lo+r) (Yk j)) (C:Win (hdM a) (ZG a) j) (D:#[op]) (t:#[fw,u,d,MFp,X,h]) (v:#[qx,i,a,d]) (ag:Agr f a) (E:k=k') (eq:q=r) :
  XX m o h #[nb] ⟨Y.o,Y.ra,Y.ga,f,nb'⟩/\#[rc,MFp,#[nb],X,H]/\#[fu,h]:=by
 subst E;subst eq;have w:∀b,Y5 #[vf] b->¬ MFp X b:=λb c x=>by
  rcases B b c with z|z
  ·exact pr.sep b x z
  ·obtain⟨u,g,_⟩:=pr.mg.M.fp_live x;show#[fe,z,g,g]
 refine⟨⟨⟨M2,C,D⟩,s.keep λb u c l=>t b u c (w b l),ag,λb c l=>?_⟩,λb c=>?_,λb u c n F=>t b u (y b u c F) n⟩
 ·rcases v b c with z|z
  ·exact w b l z
  ·obtain⟨u,g,_⟩:=s.live l;show#[fe,z,g,g]
 ·rcases v b c with z|z
  ·exact .inl z
  ·cases e:H b with
   | none=>exact #[pR]
   | some u=>exact absurd z (A b u e)
theorem XX.nO{c d:ae}{H:Hp}{X:MS}{Y:OS}(pr:XX c d H X Y){b:ae}{u:HO}(hb:H b=U u)(e:MFp X b\/∃xs,u=.tup xs):¬ Y5 Y b:=λz=>by
 rcases e with f|⟨xs,rfl⟩
 ·exact pr.sep b f z
 ·show#[qS,u',a,g,pr.ow.live,z];show#[fe,hb,a,a];exact g xs rfl
theorem Iz(ks:#[Q]):ar.eqv (.list (ks.map ar.str)) #[jK]=decide (ks=[]):=by
 cases ks with
 | nil=>simp[ar.eqv,ar.eqvAll]
 | cons a r=>simp[ar.eqv,ar.eqvAll]
theorem Iy(rd:ae)(nb li lo:Int)(sd:ae)(a:V):#[14].lookup ("drop_row" : al)=af:=#[o]
theorem Ix(rd:ae)(nb li lo:Int)(sd:ae)(a:V):#[14].lookup ("grow" : al)=af:=#[o]
theorem ZpF(T:#[e])(cu:#[dC])(dL:#[tE])(eJ:Mf P w K mg base 14 ak "add_row" #[da] (IJ K aw ak))(dS:#[ev,14,"drop_row",#[ah],IH])(fG:#[ev,14,"grow",#[bO],IE]):Df P w K mg base 15 "_law_done" #[iI] (Zst aw ak):=by
 show#[ee,T.t_l_done.df,Vk,vs,p];obtain⟨X,Y,t,r,d,n,ks,rfl,I,F,pb,ht,bD,zf,zg,eG,mv,hd,q⟩:=h;refine⟨_,#[Ze,#[Z2,‹2›,#[fE,3,Vk.nd,4,5]],#[Ze,#[si,6,Vk.nd,#[cT]],#[Ze,#[ZN,#[ek,YW,3,#[Zl]],#[Ze,#[Z2,#[cT],#[vZ]],#[Ze,#[Z2,#[Zj],#[vZ]],#[Ze,#[Z2,#[hT,Z9,4],#[h0,1,p]],#[Ze,#[n2],#[Zi,#[Zr,#[Wf,#[Zx,cu,p,#[Zc,#[Xq,eJ,T.cl_Merge,p,‹0›,#[Zc,‹5›]],‹4›],#[5]],#[jw]]]]]]]],#[Zy]],#[Ze,#[ZN,#[ek,YW,3,#[Zl]],#[Ze,#[Zw,7,Vk.nd,#[3],#[ZH,Wd,#[xw,#[kg]],#[kg]]],#[Ze,#[n2],#[Zi,#[Zr,#[Zx,cu,p,#[Zc,#[Xq,dS,T.cl_Merge,p,‹0›,#[Zc,‹4›]],‹7›],#[5]]]]]],#[Zy]],#[Ze,#[Zw,8,Vk.nd,#[3],#[XQ,YW,#[xw,#[v1]],#[v1],#[37]]],#[Ze,#[Z2,#[ZH,Xk,#[v1],#[cT]],#[vZ]],#[W4,#[ZN,(@PW.pt _ _ _ #[Ya,#[Yb,‹8›],#[Xu,#[fW,p,5]]]),#[Zi,#[n2]],#[Zy]],#[Zi,#[Zr,#[Wf,#[XQ,XR,#[Xq,fG,T.cl_Merge,p,‹0›,#[es,4,5]],#[ZU],#[37]],#[jw]]]]]]]]]]],_,rfl,t,_,rfl,SqT.of ht,rfl,_,_,rfl,_,_,rfl,_,_,rfl,rfl,_,rfl,r,_,rfl,.inl (SqL.of bD),λkp zh=>?_⟩;have nJ:=Zg zh #[12];show#[ew,tL,H,kp,#[12]];have G:=I.same nJ;have gc:=nJ _ _ bD;have Cr:¬ Y5 Y kp:=λz=>by obtain⟨u,hu,_⟩:=I.ow.live z;show#[fe,zh,hu,hu]
 have Cs:¬ MFp X kp:=I.mg.M.fp_fresh zh;generalize upd H kp (.lst (ks.map V.str))=o at nJ tL G gc ⊢;have C:=G.ow;show#[ep,n1,n2,C.ne];have hLoL:Y.Lo.length=X.L.length:=by have:=congrArg List.length (WK I.ag);show#[r2,Qa]
 have eK:=I.ow.few;have xt:#[q3,kvR,Y.Lo]:=by unfold kvR;show#[c2]
 have Cu:#[q3,kvG,Y.Lo]:=by unfold kvG;show#[c2]
 have jl:∀x∈ks,AZ x:=λx hx=>(eG x hx).2;have cD:#[c5]:=by rw[WK I.ag];exact I.mg.M.up
 have fin:∀ {X':MS} {Y':OS} {H9:Hp},#[fu,H9]->XX aw ak H9 X' Y'->X'.m=X.m->Y'.o=Y.o->Y'.ga≠Y'.ra->X'.nb=Y'.nb->X'.nb=d.nb X.nb->Y6 X'.L=PV #[kl] n ks d->#[rc,MFp,X',X,o]->#[rc,Y5,Y',Y,o]->Q #[sI] H9:=λk9 p9 a b c d' e f' g h=>q _ _ _ p9 a b c d' e f' (λb i=>(g b i).imp id λz=>nJ.free z) (λb i=>(h b i).imp id λz=>nJ.free z) k9;cases d with
 | add =>
  obtain⟨rfl,aX,h7,nK,_⟩:=hd;have xu:∀e∈X.L,e.n<X.nb:=λe he=>aX _ (Qg (f:=#[dy]) he);have xv:X.L.length<16:=by unfold Y6 at h7;rw[Qa]at h7;exact h7
  have p7:∀e∈Y.Lo,e.1<X.nb:=λe he=>by
   have:e.1∈ZG X.L:=by rw[<- WK I.ag];exact Qg (f:=λe:ZE=>e.1) he
   obtain⟨e',W,z⟩:=Qq.mp this;rw[<- z];exact xu e' W
  refine#[50];refine⟨_,rfl,r,_,rfl,.inl (SqL.of gc),λc hc=>?_⟩;have Z:=Zg hc #[12];show#[ew,g9,o,c,#[12]];have Cv:=G.same Z;have nOc:¬ Y5 Y c:=λz=>by obtain⟨u,hu,_⟩:=C.live z;show#[fe,hc,hu,hu]
  have zi:∀b,(upd o c #[12]) b=af->o b=af:=λb i=>Z.free i;generalize upd o c (.lst (ks.map V.str))=H2 at Z g9 Cv zi ⊢;have L:=Cv.ow;refine⟨_,rfl,Y.o,_,rfl,ZM.k' (k:=#[bQ]) L.at' #[nQ],_,rfl,Y.ra,_,rfl,Yz.k (k:=.inl X.nb) L.rows xt,?_⟩;rw[VY _ (ZoW p7),<- Zrw Y.Lo #[iX]];refine⟨_,rfl,Y.o,_,rfl,ZM.k' (k:=#[kH]) #[qB,Zd,n1.symm,L.at'] (V7 ..),_,rfl,Y.ga,_,rfl,Yz.k (k:=.inl X.nb) #[qB,Zd,F,L.gone] Cu,?_⟩;rw[VY _ (Zoz p7),show kvG Y.Lo++[((.inl X.nb:Key),V.int 0)]=kvG #[vK] from(ZqK Y.Lo #[iX]).symm];refine⟨_,rfl,_,_,rfl,rfl,_,rfl,Y.o,_,rfl,Yz.k (k:=#[d0]) (by rw[Zd n2.symm,Zd n1.symm];exact L.at') (Zn (by simp[Y3])),?_⟩;rw[Zkn];rw[<- pb]at L;have M:=L.add F p7 #[2] g9 mv eG;have k3:∀b u,H2 b=U u->¬ Y5 Y b->(upd (upd (upd H2 Y.ra (.dK (kvR #[vK]))) Y.ga (.dK (kvG #[vK]))) Y.o (.dK (Y3 Y.ra Y.ga (X.nb+1) X.li X.lo))) b=U u:=λb u i nO=>by rw[Zd #[gG,nO],Zd (λz=>nO #[kA]),Zd #[vv]];exact i
  generalize upd (upd (upd H2 Y.ra (.dK (kvR (Y.Lo++[(X.nb,c,ks,0)])))) Y.ga (.dK (kvG (Y.Lo++[(X.nb,c,ks,0)])))) Y.o (.dK (Y3 Y.ra Y.ga (X.nb+1) X.li X.lo))=H3 at M k3 ⊢;have nL:(#[oQ].map #[s9]).Pairwise #[oD]:=by
   rw[Qd];refine List.pairwise_append.mpr ⟨cD,Qa4 ..,λx hx y hy=>?_⟩;show#[en,e,he,hx];have:y=X.nb:=by simpa using hy
   rw[this];exact p7 e he
  refine#[c1];have J:#[fw,u,o,Y5,Y,D]:=λb u i nO=>b4 b u (k3 b u (Z b u i) nO) #[gG,nO];show#[jG];refine⟨_,rfl,X.m,jK,_,rfl,iS,II ..,_,rfl,X.m,X.rd,X.sd,X.L,X.s,X.nb,X.li,X.lo,_,r,ks,rfl,R.M,xu,xv,jG,mv,eG,nK,λne bJ s' w' k7 q7 H5 en Cw eg He zj zk nC W5 S5 P5 M5 k5=>?_⟩;refine⟨_,rfl,.int X.nb,.int X.nb,rfl,WJ _,λH6 s6=>⟨_,rfl,XJ ?_⟩⟩;have kM:#[qq]:=#[lN];have m8:=s6 _ _ (kM _ _ jG zf);have qM:=s6 _ _ (kM _ _ (J _ _ tL Cr) Cs);show#[91];have N:Agr #[oQ] #[mK]:=by show pur #[oQ]=Y6 #[mK];have h0:pur Y.Lo=Y6 X.L:=I.ag;unfold pur Y6 at h0 ⊢;rw[Qd,Qd,h0,List.map_singleton,List.map_singleton,en,Cw,eg]
  show#[mu];have tN:=Us 8 (hdM #[mK]) s' (ZG #[mK]) M5.up #[qt,#[mK],M5.few] #[6] S5;have gW:∀b,Y5 ⟨Y.o,Y.ra,Y.ga,Y.Lo++[(#[iX]:ZE)],X.nb+1⟩ b->Y5 Y b\/o b=af:=λb i=>by
   rcases i with z|z|z|⟨e,he,z⟩
   ·show#[ns]
   ·show#[uI]
   ·exact .inl #[kA]
   ·rcases Qj.mp he with he|he
    ·show#[hb,e,he]
    ·rw[Qi.mp he]at z;show#[ht,hc]
  have hv:#[rx,o,D]:=λb u i j=>by
   by_cases z:Y5 Y b
   ·obtain⟨u',hu',_⟩:=O.live (b:=b) (by
     rcases z with z|z|z|⟨e,he,z⟩
     ·exact .inl z
     ·show#[qT,z]
     ·exact .inr #[33]
     ·exact .inr (.inr (.inr ⟨e,QN _ he,z⟩)))
    show#[fe,j,hu',hu']
   ·rw[J b u i z]at j;cases j
  have nH:#[qx,bJ,#[mK],D]:=λb i=>by
   rcases i with z|z|z|⟨e,he,z⟩
   ·show#[ns]
   ·show#[uI]
   ·show#[ht,nC]
   ·rcases Qj.mp he with he|he
    ·show#[hb,e,he]
    ·rw[Qi.mp he]at z;rcases z with z|z|z
     ·show#[ht,He]
     ·show#[ht,zj]
     ·show#[ht,zk]
  show#[lb];refine fin #[lp] (p5.same s6) rfl rfl F rfl rfl ?_ f5 gW;show Y6 #[mK]=Y6 X.L++[(X.nb,ks,0)];unfold Y6;rw[Qd,List.map_singleton,en,Cw,eg]
 | drop =>
  show#[hU,x,hx,zn,hd];show#[ph];obtain⟨B,S,e1,e2⟩:=IB I.ag he;obtain⟨lo1,_,_,_⟩:=C.lst B S;have pc:#[nd]:=by rw[<- e1];exact U9 C.nd S
  have zo:#[lv]:=by rw[<- e1];exact Uu C.nd S
  refine#[78];refine#[50];refine⟨_,rfl,Y.o,_,rfl,ZM.k' (k:=#[bQ]) C.at' #[nQ],.inr (.inr (.inl ⟨rfl,.inl ⟨_,C.rows⟩⟩)),_,rfl,Y.ra,_,.inl e.n,_,rfl,rfl,C.rows,pc,?_⟩;rw[Zpg];refine⟨B.2.1,_,rfl,.inl (SqL.of (by rw[Zd (C.ne_l S).2.1];exact lo1)),_,rfl,Y.o,_,rfl,ZM.k' (k:=#[kH]) #[qB,Zd,n1.symm,C.at'] (V7 ..),.inr (.inr (.inl ⟨rfl,.inl ⟨_,by rw[Zd F];exact C.gone⟩⟩)),_,rfl,Y.ga,_,.inl e.n,_,rfl,rfl,#[qB,Zd,F,C.gone],zo,?_⟩;rw[ZoH];refine#[rh,_,?_];have M:=C.drop F e.n;have k3:∀b u,o b=U u->¬ Y5 Y b->#[u9] b=U u:=λb u i nO=>by rw[Zd (λz=>nO #[kA]),Zd #[vv]];exact i
  have v3:∀b u,o b=U u->#[u9] b≠af:=λb u i j=>by
   by_cases z:b=Y.ga
   ·show#[rZ,Zb,j]
   ·rw[Zd z]at j;by_cases z':b=Y.ra
    ·show#[eO,z',Zb,j]
    ·rw[Zd z',i]at j;cases j
  generalize upd (upd o Y.ra (.dK (kvR (XT Y.Lo e.n)))) Y.ga (.dK (kvG (XT Y.Lo e.n)))=H3 at M k3 v3 ⊢;have nL:((XT Y.Lo e.n).map #[s9]).Pairwise #[oD]:=cD.sublist #[w9];refine#[c1];have J:#[fw,u,o,Y5,Y,D]:=λb u i nO=>b4 b u (k3 b u i nO) #[gG,nO];have R:MOk aw ak D X:=#[dY];show#[ep,jK,iS,R.M.ob];refine⟨_,rfl,X.m,jK,_,rfl,iS,Iy ..,_,rfl,X.m,X.rd,X.sd,X.L,X.s,X.nb,X.li,X.lo,_,e,rfl,R.M,he,λbJ s' w' k7 q7 H5 nC W5 S5 P5 M5 k5=>?_⟩;refine⟨_,rfl,_,_,rfl,(by rw[e2,Qa];exact WJ _),λH6 s6=>?_⟩;have kM:#[qq]:=#[lN];have N:=Zpc I.ag e.n;show#[mu];have tN:=Us 8 (hdM #[pA]) s' (ZG #[pA]) M5.up #[qt,#[pA],M5.few] #[6] S5;have gW:∀b,Y5 ⟨Y.o,Y.ra,Y.ga,XT Y.Lo e.n,Y.nb⟩ b->Y5 Y b\/o b=af:=λb i=>.inl (by
   rcases i with z|z|z|⟨e',W,z⟩
   ·exact .inl z
   ·show#[qT,z]
   ·exact .inr #[33]
   ·exact .inr #[nX])
  have hv:#[rx,o,D]:=λb u i j=>by
   by_cases z:b=Y.o
   ·show#[rZ,O.at',j]
   ·cases h3:H3 b with
    | none=>exact v3 b u i h3
    | some u3=>rw[b4 b u3 h3 z]at j;cases j
  have nH:#[qx,bJ,#[pA],D]:=λb i=>by
   rcases i with z|z|z|⟨e',W,z⟩
   ·show#[ns]
   ·show#[uI]
   ·show#[ht,nC]
   ·exact .inl (.inr #[nX])
  show#[lb];refine fin #[lp] (p5.same s6) rfl rfl F pb rfl ?_ f5 gW;show Y6 #[pA]=#[kl].filter λx=>decide (x.1≠e.n);unfold Y6 Yj;rw[QaL];rfl
 | grow =>
  obtain⟨x,hx,zn,nK,bb⟩:=hd;show#[ph];have Cy:#[se,#[oM]]:=nK;have pe:#[oM].length<=100:=bb;obtain⟨B,S,e1,e2⟩:=IB I.ag he;have vO:B.2.2.1=e.ss:=by rw[e2]
  have Hg:B.2.2.2=e.g:=by rw[e2]
  obtain⟨lo1,_,_,lz⟩:=C.lst B S;have oH:=(G.mg.M.each e he).le;have hz:#[n3]:=λx hx=>by
   rcases Qj.mp hx with hx|hx
   ·exact(G.mg.M.each e he).str x hx
   ·exact eG x hx
  have pc:#[nd]:=by rw[<- e1];exact U9 C.nd S
  have zo:#[lv]:=by rw[<- e1];exact Uu C.nd S
  refine#[78];refine#[78];refine⟨_,rfl,Y.o,_,rfl,ZM.k' (k:=#[bQ]) C.at' #[nQ],_,rfl,Y.ra,_,rfl,ZM.k' (k:=#[pT]) C.rows pc,B.2.1,_,rfl,.inl (SqL.of lo1),_,rfl,Y.o,_,rfl,ZM.k' (k:=#[kH]) C.at' (V7 ..),_,rfl,Y.ga,_,rfl,ZM.k' (k:=#[pT]) C.gone zo,rfl,_,rfl,Y.o,_,rfl,ZM.k' (k:=#[bQ]) C.at' #[nQ],_,rfl,Y.ra,_,rfl,ZM.k' (k:=#[pT]) C.rows pc,_,rfl,r,_,rfl,.inl (SqL.of gc),λl hl=>?_⟩;have sl:=Zg hl #[12];refine⟨B.2.1,l,_,_,rfl,rfl,sl _ _ lo1,Zb,(by rw[Qa,Qa,vO];rw[Qf]at pe;exact Yu #[2]),λc hc=>?_⟩;rw[<- Qd];have Z:=sl.trans (Zg hc #[uu]);have g9:(upd (upd o l #[12]) c #[uu]) c=U #[uu]:=Zb;have Hh:o c=af:=sl.free hc;generalize upd (upd o l (.lst (ks.map V.str))) c (.lst ((B.2.2.1++ks).map V.str))=H2 at Z g9 ⊢;have L:=C.same Z;refine⟨_,rfl,Y.o,_,rfl,ZM.k' (k:=#[bQ]) L.at' #[nQ],_,rfl,Y.ra,_,rfl,Yz.k (k:=#[pT]) L.rows xt,?_⟩;rw[<- e1,ZnY S ks c];have M:=L.grow F S (ks:=ks) g9 #[ei,vO,pe] #[ei,vO,hz];have k3:∀b u,o b=U u->¬ Y5 Y b->#[qh] b=U u:=λb u i nO=>by rw[Zd #[vv]];exact Z b u i
  have v3:#[rx,o,#[qh]]:=λb u i j=>by
   by_cases z:b=Y.ra
   ·show#[rZ,Zb,j]
   ·rw[Zd z,Z b u i]at j;cases j
  generalize upd H2 Y.ra (.dK (kvR (Yd Y.Lo B.1 ks c)))=H3 at M k3 v3 ⊢;have nL:(#[ds].map #[s9]).Pairwise #[oD]:=by rw[IC];exact cD
  have gD:=k3 _ _ gc zg;refine⟨λσ D=>(∃v:Option V,σ=[U (.ref X.m),U (.ref Y.o),U #[jz],U (.str "grow"),U (.int B.1),U #[jV],U (.ref kp),af,v])/\(X2 λk6 q6:Int=>Own D Y.o Y.ra Y.ga #[ds] Y.nb (X.li+k6) (X.lo+q6)/\(∀b u,o b=U u->¬ Y5 Y b->D b=U u)/\(∀b u,o b=U u->D b≠af)/\((#[we]/\k6=0/\q6=0)\/(e.g=e.ss.length/\ks≠[]/\YQ (hdL #[ds]) 8 (#[ds].map #[s9]) k6 q6))),?_,?_⟩
  ·refine⟨_,rfl,_,rfl,?_⟩;rw[Qa,vO,Hg];by_cases hg:e.g<e.ss.length
   ·exact YN (by intro z;injection z with z;lia) (YY ⟨⟨_,rfl⟩,0,0,by rw[QV,QV];exact M,k3,v3,.inl ⟨.inl hg,rfl,rfl⟩⟩)
   refine YE (by rw[show e.ss.length=e.g by lia]) ?_;show#[fP,#[15],z,vt];have sz:=Zg vt #[br];refine⟨.list (ks.map ar.str),.list [],.lst #[fV,sz,gD] (VR ks),.lst #[jT] .nil,Ve ks jl,#[1],_,rfl,?_⟩;rw[if_pos rfl,Iz];have O:=M.same sz;have k4:∀b u,o b=U u->¬ Y5 Y b->#[xZ,H3,z] b=U u:=λb u i nO=>sz _ _ (k3 b u i nO);have v4:∀b u,o b=U u->#[xZ,H3,z] b≠af:=λb u i j=>v3 b u i (sz.free j);generalize upd H3 z (.lst [])=vP at O k4 v4 ⊢;by_cases jP:ks=[]
   ·exact WR jP ⟨⟨_,rfl⟩,0,0,by rw[QV,QV];exact O,k4,v4,.inl ⟨.inr jP,rfl,rfl⟩⟩
   refine Vd jP ?_;refine⟨_,rfl,Y.o,Y.ra,Y.ga,_,_,_,_,rfl,O,nL,λe he=>(O.ne_l he).1,λk6 q6 D tM xw b4=>?_⟩;refine⟨⟨_,rfl⟩,k6,q6,xw,λb u i nO=>b4 b u (k4 b u i nO) #[gG,nO],λb u i j=>?_,.inr ⟨by lia,jP,tM⟩⟩;by_cases z:b=Y.o
   ·show#[rZ,xw.at',j]
   ·cases h3:vP b with
    | none=>exact v4 b u i h3
    | some u3=>rw[b4 b u3 h3 z]at j;cases j
  rintro σ D ⟨⟨v,rfl⟩,k6,q6,ji,J,hv,Hj⟩;show#[jG];refine⟨_,rfl,X.m,jK,_,rfl,iS,Ix ..,_,rfl,_,rfl,X.m,X.rd,X.sd,X.L,X.s,X.nb,X.li,X.lo,X.w,e,r,ks,(by rw[<- e1];rfl),R.M,R.W,R.ok,he,jG,λz=>zf #[g4,e,he],pe,Cy,hz,λk' f' bJ s' w' k7 q7 H5 zj zk tP W5 tN M5 k5=>?_⟩;refine⟨rfl,_,rfl,YE rfl ?_⟩;have kM:#[qq]:=λb u i nM=>k5 b u i #[gG,nM] (λz=>nM #[g4,e,he]);have m8:=kM _ _ jG zf;have qM:=kM _ _ (J _ _ tL Cr) Cs;show#[91];have N:Agr #[ds] #[nP]:=by rw[e1];exact ZpZ I.ag e.n ks c k' f'
  have Cz:k6=k7/\q6=q7:=by
   rcases Hj with⟨h1,rfl,rfl⟩|⟨h1,h2,h3⟩
   ·rcases tP with⟨_,_,rfl,rfl⟩|⟨h4,h5,_⟩
    ·exact#[bM]
    ·rcases h1 with h1|h1
     ·lia
     ·exact absurd h1 h5
   ·rcases tP with⟨h4,_⟩|⟨_,_,_,h6⟩
    ·rcases h4 with h4|h4
     ·lia
     ·exact absurd h4 h2
    ·refine h3.one (m:=8) ?_;rw[S0 N,WK N,SR];exact h6
  have gW:∀b,Y5 ⟨Y.o,Y.ra,Y.ga,Yd Y.Lo B.1 ks c,Y.nb⟩ b->Y5 Y b\/o b=af:=λb i=>by
   rcases i with z|z|z|⟨e',W,z⟩
   ·show#[ns]
   ·show#[uI]
   ·exact .inl #[kA]
   ·show#[en,y,hy,W];unfold WA at z;split at z
    ·show#[ht,Hh]
    ·show#[hb,y,hy]
  have nH:#[qx,bJ,#[nP],D]:=λb i=>by
   rcases i with z|z|z|⟨e',W,z⟩
   ·show#[ns]
   ·show#[uI]
   ·rcases tP with⟨_,h6,_⟩|⟨_,_,h6,_⟩
    ·exact .inl (.inr (.inr (.inl (by rw[z,h6]))))
    ·show#[ht,h6]
   ·show#[en,y,hy,W];unfold Xw at z;split at z
    ·rcases z with z|z|z
     ·exact .inl #[g4,y,hy]
     ·show#[ht,zj]
     ·show#[ht,zk]
    ·show#[hb,y,hy]
  obtain⟨p5,f5,k15⟩:=Nd G ji J hv gW M5 #[ei,SR,W5] #[ei,SR,tN] kM nH N Cz.1 Cz.2;refine fin (λb u i n n'=>k15 b u (nJ _ _ i) n n') p5 rfl rfl F pb rfl ?_ f5 gW;show Y6 #[nP]=#[kl].map λx=>if x.1=e.n then (x.1,x.2.1++ks,x.2.2) else x
  unfold Y6 Yi;rw[Qk,Qk];refine QD λy _=>?_;show#[aZ];unfold Xw;split<;>rfl
theorem Iw:∀ns:List Int,ar.canLayAll0 #[cl]=true
 | []=>rfl
 | x::r=>by simp[ar.canLayAll0,ar.canLay0,Iw r]
theorem Iv:∀ns:List Int,ar.depthAll #[cl]=0
 | []=>rfl
 | _::r=>by simp[ar.depthAll,ar.depth,Iv r]
theorem SQ(ns:#[w]):SeqAt.shaped #[tu]=true:=by simp[SeqAt.shaped,ar.canLay0,ar.depth,Iw ns,Iv]
theorem Um{K:#[7]}{H:Hp}:∀ns:List Int,DVs K H #[C] #[cl]
 | []=>.nil
 | s::r=>.cons (.int s) (Um r)
theorem Nc{xs:#[pO]}{x:V}(h:xs[xs.length-1]? = U x)(h0:0<xs.length):atI xs (-1)=U x:=by
 have e:ixN xs.length (-1)=U (xs.length-1):=by unfold ixN;show#[sc,#[6]];congr 1;lia
 unfold atI;rw[e];exact h
theorem Nb:∀a b:List Nat,Spec.ltCps a b=true↔a<b
 | [],[]=>by simp[Spec.ltCps]
 | [],y::s=>by simp[Spec.ltCps]
 | x::r,[]=>by simp[Spec.ltCps]
 | x::r,y::s=>by have c:=Nb r s;rw[QaQ];simp[Spec.ltCps,c]
def LeS(a b:al):Prop:=¬ b.cps.toList<a.cps.toList
theorem LeS.trans{a b c:al}(h:LeS a b)(k:LeS b c):LeS a c:=List.not_lt.mpr (List.le_trans (List.not_lt.mp h) (List.not_lt.mp k))
theorem Iu:∀ (r:List al) (x:al),risingS x r=true↔(x::r).Pairwise LeS
 | [],x=>by simp[risingS]
 | y::r,x=>by
  have d:=Iu r y;rw[List.pairwise_cons];unfold risingS;rw[QZ,Bool.not_eq_true'];constructor
  ·rintro⟨a,c⟩;have p:=d.mp c;have e:LeS x y:=λz=>by rw[(Nb _ _).mpr z]at a;cases a
   refine⟨λb hb=>?_,p⟩;rcases QO.mp hb with rfl|hb
   ·exact e
   ·exact e.trans ((List.pairwise_cons.mp p).1 b hb)
  ·rintro⟨a,c⟩;exact⟨Qag.mpr λz=>a y #[4] ((Nb _ _).mp z),d.mpr c⟩
theorem PU(ss:#[Q]):sortedS ss=true↔ss.Pairwise LeS:=by
 cases ss with
 | nil=>simp[sortedS]
 | cons x r=>exact Iu r x
theorem Ir:∀ (n:Nat) (a b:List Nat),a.take n<b.take n->a<b
 | 0,a,b,h=>by simp at h
 | n+1,[],b,h=>by
  cases b with
  | nil=>simp at h
  | cons y s=>simp
 | n+1,x::r,[],h=>by simp at h
 | n+1,x::r,y::s,h=>by
  rw[QaW,QaW,QaQ]at h;rw[QaQ];rcases h with h|⟨h1,h2⟩
  ·exact .inl h
  ·exact .inr ⟨h1,Ir n r s h2⟩
theorem LeS.cut{a b:al}(h:LeS a b)(n:Nat):LeS #[rn,a] #[rn,b]:=λz=>by rw[T7,T7]at z;exact h (Ir n _ _ z)
theorem Na{ss ks:#[Q]}(h:#[oh])(k:#[se,ks])(hl:∀x∈ks,LeS ((#[ao]++ss).getLast #[4]) x):sortedS (ss++ks)=true:=by
 rw[PU]at h k ⊢;refine List.pairwise_append.mpr ⟨h,k,λa ha b e=>?_⟩;have d:=hl b e;have c:ss≠[]:=λz=>by rw[z]at ha;cases ha
 rw[List.getLast_append_of_ne_nil #[4] c]at d;have f:LeS a (ss.getLast c):=by
  rcases List.eq_nil_or_concat ss with z|⟨r,y,rfl⟩
  ·exact absurd z c
  ·rw[show (r.concat y).getLast c=y by simp];rcases Qj.mp (by simpa using ha:a∈r++[y]) with ha|ha
   ·exact(List.pairwise_append.mp (by simpa using h:(r++[y]).Pairwise LeS)).2.2 a ha y #[4]
   ·rw[Qi.mp ha];exact List.not_lt.mpr (List.le_refl _)
 exact f.trans d
theorem PR{c:Bool}(b2:Bool){e:#[nh]}{T:#[p0]}{H:Hp}(h1:c=true->∀b:Bool->Hp->Prop,(∀a,ZF H a->b b2 a)->e b)(q:∀a,ZF H a->T (c&&b2) a):if c=true then e T else T false H:=by
 cases c with
 | true=>rw[if_pos rfl];exact h1 rfl T q
 | false=>rw[if_neg Qo];exact q H #[w6]
theorem Iq{c:Bool}(b2:Bool){e:#[nh]}{T:#[p0]}{H:Hp}(h1:c=false->∀b:Bool->Hp->Prop,(∀a,ZF H a->b b2 a)->e b)(q:∀a,ZF H a->T (c||b2) a):if c=true then T true H else e T:=by
 cases c with
 | true=>rw[if_pos rfl];exact q H #[w6]
 | false=>rw[if_neg Qo];exact h1 rfl T q
theorem ZuF:AZ "a":=by unfold AZ;ac_rfl
theorem M0{K:#[7]}{a:ae}{ss:#[Q]}{k:Nat}{D:ae}{d:L2.St}{h:Hp}{g:TG}{r:TT}{s:TE}{Q:VK}(j:al->Bool)(n:al->al)(R:L2.St->Prop)(w:h D=af)(ha:SqL K h a #[Y])(hn:ss.length<=1000)(h0:R (d++List.replicate k af))
  (hs:∀x∈ss,∀ (d:L2.St) (H:Hp) (N:L2.St->V->Hp->Prop) (M:L2.St->Hp->Prop),R d->(∀c,R c->j x=true->N c (.str (n x)) H)->(∀c,R c->j x=false->M c H)->g #[u1] d H λc z=>r c z λb t=>if b=true then s c t λy A=>N c y A else M c t)
  (hd:∀c,R c->Q #[lF] (upd h D (.lst (((ss.filter j).map n).map V.str)))):WF #[pD] D k d h g r s Q:=by
 refine JW (K:=K) (a:=a) (xs:=ss.map V.str) (λi l d H=>R d/\l=(((ss.take i).filter j).map n).map V.str/\H=upd h D (.lst l)/\i<=ss.length) ⟨h0,rfl,rfl,Qu _⟩ ?_ ?_ ?_
 ·rintro i l d H ⟨_,_,rfl,_⟩;exact(Zg w _).seq ha
 ·rintro i x l d H f ⟨o,rfl,rfl,hi⟩;rw[Qp]at f;cases m:ss[i]? with
  | none=>rw[m]at f;cases f
  | some y =>
   rw[m]at f;injection f with f;subst f;have u:i<ss.length:=(Qe.mp m).1;have v:ss.take (i+1)=ss.take i++[y]:=by rw[List.take_succ,m];rfl
   refine hs y (Qv m) d _ _ _ o (λc p q=>⟨Zb,?_,p,?_,by rw[MO],u⟩) (λc p q=>⟨p,?_,rfl,u⟩)
   ·rw[Qa,Qa];have:=Qaj j (ss.take i);rw[Qy]at this;exact Zn #[2]
   ·rw[v,List.filter_append,List.filter_cons_of_pos q,List.filter_nil,Qd,Qd];rfl
   ·rw[v,List.filter_append,List.filter_cons_of_neg #[ei,q,Qo],List.filter_nil,Qai]
 ·rintro l d H ⟨o,rfl,rfl,_⟩;have e:ss.take #[Y].length=ss:=by rw[Qa,List.take_length]
  rw[e];exact hd d o
def SO(P:#[pP])(nb n:Int)(ks:#[Q]):WI->Prop
 | .add=>n=nb/\(P.length<12\/P=[])/\sortedS ks=true/\(nb<36\/P=[])
 | .drop=>∃x∈P,x.1=n
 | .grow=>∃x∈P,x.1=n/\sortedS (x.2.1++ks)=true/\(x.2.1.length<50\/ks=[])
def Zsv:Sp:=λvs H Q _=>X11 λ(p o ra ga l:ae) (c:Int) (Lo:List ZE) (nb li lo:Int) (ss:List al)=>vs=[.ref p,.ref o,.ref l]/\Y9 H p c/\c<2 ^ 30/\Own H o ra ga Lo nb li lo/\o≠p/\ra≠p/\ga≠p/\(∀e∈Lo,e.2.1≠p/\sortedS e.2.2.1=true)/\#[57].Pairwise #[oD]/\H l=U #[jp]/\l≠p/\1<=ss.length/\ss.length<=4/\#[bC] /\
 ∀ (t r:ae) (d:WI) (n:Int) (b:List al) (f:Int) (a:Hp),H t=af->H r=af->a t=U #[hk,d.word,n,r]->a r=U #[eu,b.map]->b.length<=6->#[q0,b,40]->SO (pur Lo) nb n b d->Y9 a p f->c<=f->f<=c+700->But p H a->Q #[jz] a
theorem Zqw(T:#[e])(aK:#[n])(e8:#[lG]):Df P w K mg base 6 "_law_late" #[cy] Zsv:=by
 refine T.t_l_late.df V9 #[E] #[aA];obtain⟨p,o,ra,ga,l,c,Lo,nb,li,lo,ss,rfl,hL,c1,ow,zp,tQ,zq,lj,cD,hl,tR,gs,CB,mx,q⟩:=h;refine⟨_,#[Ze,#[Zw,3,V9.nd,#[3],#[Zk,UO,#[5],T.b.n_sorted,boot_sorted,#[Zc,#[cE]]]],#[Ze,#[Zw,4,V9.nd,#[3],#[hZ,G]],#[Ze,#[ZN,(@PW.pt _ _ _ #[Xd,(@PW.pt _ _ _ #[Ya,#[ek,Xc,4,#[Zj]],#[Ya,#[h6,Xc,#[71]],#[Xu,#[h6,Xc,#[cE]]]]]),#[WG,#[Zm,(@eqD _ K _ G #[5]),‹3›,#[cS],#[37]]]]),#[Zi,#[Zr,#[ZV,#[Zc,#[Zl],#[cE],#[mt]]]]],#[Zy]],#[Ze,#[gb,5,V9.nd,aK,G],#[Ze,#[ZN,#[aS],#[Zi,#[Zr,#[ZV,#[Zc,#[Zl],‹5›,#[cS]]]]],#[Zy]],#[W4,#[Zw,6,V9.nd,#[i0],#[Zo,#[ly],#[ZH,Xk,#[eb],#[fN,G,#[cE],5]],#[c6]]],#[Ze,#[UT,7,V9.nd,Tp,#[iL,K,#[mt]],#[eY,9,Tp],(λ_ _ _ _=>(@UU _ _ _ #[Zm,Lb,#[cw,9,Tp],#[cv,6,Tp],#[37]])),#[sa,9,Tp]],#[W4,#[ZN,#[Zm,YW,#[hZ,G],#[Zj],#[37]],#[Ze,#[Zw,7,V9.nd,#[3],#[ZH,Xk,#[ZJ,#[Zc,#[ZH,Pw,#[fD,6],#[Zl]]]],#[Zk,(Pg K),#[5],T.b.n_sorted,boot_sorted,#[Zc,#[Xj,RL,#[iL,K,‹7›],#[eY,9,RL],#[94],(λ_ _ _ _=>#[ZH,Pw,#[cv,6,RL],#[cw,9,RL]])]]]]],#[Zi,#[Zw,7,V9.nd,#[3],#[Zk,(Pg K),#[5],T.b.n_sorted,boot_sorted,#[Zc,‹7›]]]]],#[Zy]],#[Ze,#[Zw,8,V9.nd,#[3],#[ZH,VF,#[Zj],#[Xa,Mv,T.b.n_int,boot_int,#[Zc,#[XQ,Xc,#[Zk,(YU K),#[5],T.b.n_len,Qr,#[Zc,#[fN,G,#[cE],5]]],#[Zj],#[37]]]]]],#[Zi,#[Zr,#[ZV,#[Zc,#[Zl],‹5›,#[W6,(slL K),#[Xj,To,#[iL,K,‹7›],#[eY,9,To],(λ_ _ _ _=>(@UU _ _ _ #[Zm,Lb,#[nk],#[cv,6,To],#[37]])),(λ_ _ _ _=>#[nk])],(@W7 _),#[Xm,‹8›]]]]]]]]]]]]]]],?_⟩;have c0:=hL.ge;have eK:=ow.few;refine⟨_,rfl,o,_,rfl,ZM.k' (k:=#[bQ]) ow.at' #[nQ],ra,_,Lo.map #[T],rfl,ow.rows,Rs Lo,by rw[Qa];lia,λI ns gK cK cx=>?_⟩;show#[ky];subst dO;have nN:=Zg gK (.lst #[kQ]);have jQ:(upd H I (.lst #[kQ])) I=U (.lst #[kQ]):=Zb;have L1:=hL.same nN;generalize upd H I (.lst ((Lo.map (·.1)).map V.int))=H1 at nN jQ L1 ⊢;have lm:I≠p:=by obtain⟨u,hu⟩:=hL.here;exact(Zf hu gK).symm
 refine⟨_,rfl,p,c,_,rfl,L1,by lia,by decide,by decide,λwy H2 CC CD L2 B2=>?_⟩;have vj:But p H H2:=#[eX,nN].trans B2;have jR:∀ {J:Hp},But p H J->Own J o ra ga Lo nb li lo:=λ{J} B=>ow.keep λb u S ho=>B b u S (by
  rcases ho with z|z|z|⟨e,O,z⟩
  ·rw[z];exact zp
  ·rw[z];exact tQ
  ·rw[z];exact zq
  ·rw[z];exact(lj e O).1)
 have cZ:=jR vj;have tS:=B2 _ _ jQ lm;have bb:(#[kQ].length:Int)=(Lo.length:Int):=by rw[Qa,Qa]
 refine⟨_,rfl,_,_,rfl,rfl,_,rfl,?_⟩;refine PR (decide ((#[kQ].length:Int)<12)&&decide (nb<36)) #[qK,_,T1,h1] (λH3 X=>?_)
 ·refine#[gF,I,tS];exact PR (decide (nb<36)) (λ_ T2 h2=>⟨_,rfl,o,_,rfl,ZM.k' (k:=#[d0]) cZ.at' (V6 ..),_,_,rfl,rfl,_,rfl,h2 _ #[ti]⟩) h1
 refine Iq (decide (Lo=[])) #[qK,_,T1,h1] (λvP iG=>?_)
 ·show#[cK];refine⟨.list (#[57].map ar.int),.list [],.lst (SqL.of #[rf,sz,X,tS]) (Um _),.lst #[jT] .nil,SQ _,#[1],_,rfl,?_⟩;rw[if_neg Qo,show ar.eqv (.list (#[57].map ar.int)) #[jK]=decide (Lo=[]) by
   cases Lo with
   | nil=>simp[ar.eqv,ar.eqvAll]
   | cons a r=>simp[ar.eqv,ar.eqvAll]]
  exact h1 _ sz
 replace X:=X.trans iG;clear iG;generalize vP=H3 at X ⊢;have jJ:But p H H3:=vj.trans #[eX,X];have L3:=L2.same X;have ed:=jR jJ;have xx:=X _ _ tS;have fZ:=jJ _ _ hl tR;have ln:∀ {b:ae} {J:Hp},But p H J->Y9 J p #[xh]\/(∃c',Y9 J p c')->J b=af->H b=af:=λ{b J} B bS S=>by
  have hp:∃u,J p=U u:=by
   rcases bS with h|⟨c',h⟩
   ·exact h.here
   ·exact h.here
  cases e:H b with
  | none=>rfl
  | some u =>
   by_cases z:b=p
   ·show#[h1,u',hu',hp,S]
   ·rw[B b u e z]at S;cases S
 show#[lI]
 ·refine⟨_,rfl,o,_,rfl,ZM.k' (k:=#[d0]) ed.at' (V6 ..),_,rfl,_,rfl,p,l,c+1,5,ss,rfl,L3,by lia,by decide,by decide,fZ,gs,CB,mx,λr ts c6 H4 bD jG dX nK p8 Y d1 d2 B4=>?_⟩;show#[g7,#[21],t,R];have Z:=jJ.trans B4;have st:=Zg R #[hk,"add",nb,r];refine q t r .add nb ts c6 _ (ln Z (.inr ⟨_,Y⟩) R) (ln jJ (.inr ⟨_,L3⟩) bD) Zb (st _ _ jG) #[2] (λx C=>⟨by have:=(p8 x C).1;lia,(p8 x C).2⟩) ⟨rfl,?_,nK,?_⟩ (Y.same st) #[2] #[2] (Z.trans #[eX,st])
  ·rw[Bool.or_eq_true,QZ,QZ,decide_eq_true_eq,decide_eq_true_eq,decide_eq_true_eq,decide_eq_true_eq,bb]at d;rcases d with⟨_,d,_⟩|d
   ·exact .inl (by unfold pur;rw[Qa];lia)
   ·exact .inr (by rw[d];rfl)
  ·rw[Bool.or_eq_true,QZ,QZ,decide_eq_true_eq,decide_eq_true_eq,decide_eq_true_eq,decide_eq_true_eq]at d;rcases d with⟨_,_,d⟩|d
   ·exact .inl d
   ·exact .inr (by rw[d];rfl)
 have bR:Lo≠[]:=λz=>d (by rw[Bool.or_eq_true,decide_eq_true z];exact #[pR]);have gU:0<Lo.length:=QaC.mpr bR;refine⟨_,rfl,_,rfl,_,rfl,I,_,rfl,.inl (SqL.of xx),p,c+1,_,rfl,L3,by lia,by lia,by lia,λi H4 i0 i1 Y B4=>?_⟩;obtain⟨n,hn,cJ⟩:=UA (ns:=Lo.map #[T]) i0 #[h5,Qa];show#[en,e,O,hn];have nQ:=B4 _ _ xx lm;have Z:=jJ.trans B4;refine⟨I,_,_,_,rfl,rfl,SqL.of nQ,cJ,_,rfl,rfl,_,rfl,Y1 (λdw=>?_) (λdw=>?_)⟩
 ·refine⟨_,rfl,#[15],λr mi=>⟨#[21],λt R=>?_⟩⟩;have sr:=Zg mi #[br];have st:=Zg R #[hk,"drop",e.1,r];have tT:=Z.trans #[eX,sr];exact q t r .drop e.1 [] (c+1+1) _ (ln tT (.inr ⟨_,Y.same sr⟩) R) (ln Z (.inr ⟨_,Y⟩) mi) Zb (st _ _ Zb) #[6] #[eP,x,C] ⟨_,Qg (f:=#[cP]) O,rfl⟩ ((Y.same sr).same st) #[2] #[2] (tT.trans #[eX,st])
 have fR:=jR Z;obtain⟨lo4,gj,lg,jh⟩:=fR.lst e O;have pc:Zt (kvR Lo) #[pU]=U (.ref e.2.1):=U9 ow.nd O;obtain⟨g,zr⟩:∃z,z=(([""]:List al)++e.2.2.1).getLast #[4]:=#[K];have CF:g∈#[ao]++e.2.2.1:=by rw[zr];exact List.getLast_mem _
 have xy:g.length<=1000/\AZ g:=by
  rcases Qj.mp CF with h|h
  ·rw[Qi.mp h];exact⟨by ac_rfl,AZ.nil⟩
  ·exact jh g h
 refine⟨λF H6=>F=[U #[bS],U #[k8],U #[cq],U (.ref I),U #[tv],U #[m6],U (.str g),af,af]/\But p H H6/\Y9 H6 p (c+1+1),?_,?_⟩
 ·show#[g7,#[bx],b,S];have sb:=Zg S #[jA];show#[qu,Hk,H4,b,#[jA]];have tT:=Z.trans #[eX,sb];have L5:=Y.same sb;have ji:=jR tT;refine⟨_,rfl,o,_,rfl,ZM.k' (k:=#[bQ]) ji.at' #[nQ],_,rfl,ra,_,rfl,ZM.k' (k:=#[mE]) ji.rows pc,b,e.2.1,_,_,rfl,rfl,Hk,(ji.lst e O).1,(by rw[Qa,Qa];show 1+e.2.2.1.length<=ao;exact Yu #[2]),λd' bP=>?_⟩;rw[<- Qd];have sd:=Zg bP (.lst #[dK]);have Hl:(upd (upd H4 b #[jA]) d' (.lst #[dK])) d'=U (.lst #[dK]):=Zb;have ph:=tT.trans #[eX,sd];have L6:=L5.same sd;have CG:atI #[dK] (-1)=U (.str g):=Nc (by rw[Qa,Qp,zr,List.getLast_eq_getElem,Qb #[sD]];rfl) #[td];exact⟨_,rfl,d',_,_,_,rfl,rfl,SqL.of Hl,CG,rfl,ph,L6⟩
 rintro F H6 ⟨rfl,ph,L6⟩;clear CC CD i0 i1 bb gU lg gj eK;refine⟨_,rfl,_,rfl,p,l,c+1+1,4,ss,rfl,L6,by lia,by decide,by decide,ph _ _ hl tR,gs,CB,mx,λr ts c6 H7 bD CH dX nK p8 L7 d1 d2 B7=>?_⟩;have my:=ph.trans B7;refine⟨r,rfl,⟨_,SqL.of CH⟩,λD hD=>?_⟩;refine M0 (K:=K) (a:=r) (ss:=ts) (λx=>!decide #[ud]) (λx=>x) (λF=>∃v:Option V,F=[U #[bS],U #[k8],U #[cq],U (.ref I),U #[tv],U #[m6],U (.str g),af,af,v]) hD (SqL.of CH) #[2] ⟨_,rfl⟩ ?_ ?_
 ·show#[uG];exact⟨_,rfl,_,rfl,x,g,rfl,rfl,_,rfl,Y1 (λd=>⟨_,rfl,hN _ #[K] d⟩) (λd=>hM _ #[K] (Qag.mpr d))⟩
 rintro bv ⟨v,rfl⟩;obtain⟨k0,jP⟩:∃z,z=ts.filter (λx=>!decide (x.cps.toList<g.cps.toList)):=#[K];rw[List.map_id',<- jP];have Hm:#[se,k0]:=by rw[PU]at nK ⊢;rw[jP];exact nK.sublist Qap
 have vQ:∀x∈k0,x.length<=28/\AZ x:=λx C=>p8 x (by rw[jP]at C;exact(Qah.mp C).1);have Hn:k0.length<=4:=by have:=Qaj (λx:al=>!decide #[ud]) ts;rw[<- jP]at this;lia
 have sD:=Zg hD #[eu,k0.map];have CI:#[xO,H7,D,k0.map]:=Zb;have qN:=my.trans #[eX,sD];have L8:=L7.same sD;generalize upd H7 D (.lst (k0.map V.str))=H8 at sD CI qN L8 ⊢;have oO:D≠p:=by obtain⟨u,hu⟩:=L7.here;exact(Zf hu hD).symm
 refine⟨λF eT=>X2 λ(L:ae) (kk:List al)=>F=[U #[bS],U #[k8],U #[cq],U (.ref I),U #[tv],U #[m6],U (.str g),U (.ref L),af]/\eT L=U #[vb]/\sortedS kk=true/\kk.length<=5/\#[q0,kk,1100]/\But p H eT/\Y9 eT p (c6+1),?_,?_⟩
 ·refine⟨_,rfl,p,c6,_,rfl,L8,by lia,by decide,by decide,λj H9 j0 j2 L9 B9=>⟨rfl,_,rfl,?_⟩⟩;have gO:=B9 _ _ CI oO;have iY:=qN.trans B9;refine Y1 (λdj=>?_) (λdj=>⟨D,k0,rfl,gO,Hm,by lia,λx C=>⟨by have:=(vQ x C).1;lia,(vQ x C).2⟩,iY,L9⟩);refine⟨_,rfl,_,_,rfl,rfl,(by show g.length+1<=ao;exact Ql (show _<=2000 by lia) #[6]),#[bx],λx1 qO=>?_⟩;have s1:=Zg qO #[bz];show#[ew,CJ,H9,x1,#[bz]];refine⟨_,rfl,D,rfl,⟨_,SqL.of (s1 _ _ gO)⟩,λD2 du=>?_⟩;refine M0 (K:=K) (a:=D) (ss:=k0) (λ_=>true) (λx=>g++x) (λF=>∃v:Option V,F=[U #[bS],U #[k8],U #[cq],U (.ref I),U #[tv],U #[m6],U (.str g),U #[lF],af,v]) du #[fV,s1,gO] #[2] ⟨_,rfl⟩ ?_ ?_
  ·show#[uG];have:=(vQ x C).1;exact⟨_,rfl,_,rfl,_,_,rfl,rfl,Ql (show _<=2000 by lia) #[6],hN _ #[K] rfl⟩
  rintro j8 ⟨v5,rfl⟩;rw[show k0.filter (λ_=>true)=k0 from List.filter_eq_self.mpr λ_ _=>rfl];have s2:=s1.trans (Zg du #[nV]);refine⟨D2,_,rfl,SqL.of Zb,#[h5,Qa],λsl gY ki mz Ho=>?_⟩;have iG:=s2.trans (Zg ki #[eu,gY.map]);refine⟨x1,sl,_,_,rfl,rfl,Zg ki _ _ _ (Zg du _ _ _ CJ),Zb,(by rw[Qa,Qa,mz.length_eq,Qa];exact Yu (by show 1+k0.length<=_;lia)),λct Hq=>?_⟩;rw[<- Qd];refine⟨_,rfl,ct,_,rfl,SqL.of Zb,(by rw[Qf,mz.length_eq,Qa];show 1+k0.length<64;lia),λL kk iB tU zt=>?_⟩;have CK:=(iG.trans (Zg Hq #[l7])).trans (Zg iB #[vb]);have qa:upd (upd (upd (upd (upd H9 x1 #[bz]) D2 #[nV]) sl #[eu,gY.map]) ct #[l7]) L #[vb] L=U #[vb]:=Zb;have CL:kk.length<=5:=by rw[tU.length_eq,Qf,mz.length_eq,Qa];show 1+k0.length<=5;lia
  have vR:∀x∈kk,x.length<=1100/\AZ x:=λx C=>by
   rcases Qj.mp (tU.mem_iff.mp C) with h|h
   ·rw[Qi.mp h,Qa3];exact⟨by show g.length+1<=1100;lia,xy.2.app ZuF⟩
   ·obtain⟨y,W,rfl⟩:=Qq.mp (mz.mem_iff.mp h);have:=vQ y W;rw[Qa3];exact⟨by lia,xy.2.app this.2⟩
  have vS:=zt;exact⟨L,kk,rfl,qa,vS,CL,vR,iY.trans #[eX,CK],L9.same CK⟩
 rintro F eT ⟨L,kk,rfl,qa,vS,CL,vR,i3,ko⟩;clear dX Hn;have i9:=jR i3;refine⟨_,rfl,o,_,rfl,ZM.k' (k:=#[bQ]) i9.at' #[nQ],_,rfl,ra,_,rfl,ZM.k' (k:=#[mE]) i9.rows pc,e.2.1,_,rfl,.inl (SqL.of (i9.lst e O).1),_,_,rfl,rfl,.inr ⟨_,rfl,_,_,rfl,rfl,.inl #[87],?_⟩⟩;refine⟨_,rfl,_,rfl,L,rfl,⟨_,SqL.of qa⟩,λD3 gM=>?_⟩;refine M0 (K:=K) (a:=L) (ss:=kk) (λx=>!decide #[kv]) (λx=>Txt.slice x af #[uY]) (λF=>X2 λv8 v:Option V=>F=[U #[bS],U #[k8],U #[cq],U (.ref I),U #[tv],U #[m6],U (.str g),U (.ref L),v8,v]) gM (SqL.of qa) #[2] ⟨_,_,rfl⟩ ?_ ?_
 ·rintro x C F Hx N M ⟨v8,v,rfl⟩ hN hM;have qO:=(vR x C).1;exact⟨_,rfl,_,rfl,x,rfl,Ql qO #[6],_,rfl,_,g,rfl,rfl,_,rfl,Y1 (λd=>⟨_,rfl,_,rfl,x,rfl,Ql qO #[6],hN _ ⟨_,_,rfl⟩ d⟩) (λd=>hM _ ⟨_,_,rfl⟩ (Qag.mpr d))⟩
 rintro j8 ⟨v8,v5,rfl⟩;have fL:=(Zg gM (.lst ((((kk.filter λx=>!decide #[kv]).map λx=>Txt.slice x af #[uY])).map V.str)));refine⟨_,rfl,_,rfl,D3,_,rfl,SqL.of Zb,λr' mi=>?_⟩;obtain⟨mm,qG,su⟩:∃m:Nat,m<=6/\(6:Int)*(if decide (((e.2.2.1.map V.str).length:Int)<50)=true then 1 else 0)=(m:Int)/\(e.2.2.1.length<50\/m=0):=by
  by_cases zu:((e.2.2.1.map V.str).length:Int)<50
  ·rw[if_pos (decide_eq_true zu)];rw[Qa]at zu;exact⟨6,Qh _,rfl,.inl #[2]⟩
  ·rw[if_neg #[qB,decide_eq_false,zu,Qo]];exact⟨0,by decide,rfl,.inr rfl⟩
 rw[su.1,Znj,<- List.map_take];obtain⟨k9,tV⟩:∃z,z=(((kk.filter λx=>!decide ((Txt.slice x af (U ((40:Nat):Int))).cps.toList<g.cps.toList)).map λx=>Txt.slice x af (U ((40:Nat):Int)))).take mm:=#[K];rw[<- tV];have CM:∀y∈k9,∃x∈kk,y=Txt.slice x af #[uY]/\LeS g y:=λy W=>by rw[tV]at W;obtain⟨x,C,rfl⟩:=Qq.mp (QU W);obtain⟨qO,kc⟩:=Qah.mp C;exact⟨x,qO,rfl,λz=>by rw[decide_eq_true z]at kc;cases kc⟩
 have Hr:#[se,k9]:=by rw[PU]at vS ⊢;rw[tV];refine List.Pairwise.sublist (List.take_sublist ..) ?_;exact Qba _ (λa b h=>h.cut 40) (vS.sublist Qap)
 show#[g7,#[21],t,R];have h8:=fL.trans (Zg mi #[eu,k9.map]);have nE:=h8.trans (Zg R #[hk,"grow",e.1,r']);have vT:=i3.trans #[eX,nE];refine q t r' .grow e.1 k9 (c6+1) _ (ln (i3.trans #[eX,h8]) (.inr ⟨_,ko.same h8⟩) R) (ln (i3.trans #[eX,fL]) (.inr ⟨_,ko.same fL⟩) mi) Zb (Zg R _ _ _ Zb) ?_ (λy W=>?_) ⟨_,Qg (f:=#[cP]) O,rfl,Na (lj e O).2 Hr λy W=>?_,?_⟩ (ko.same nE) #[2] #[2] vT
 ·rw[tV,Qy];lia
 ·obtain⟨x,C,rfl,_⟩:=CM y W;show#[g7,?_,c',lE]
  ·have:=congrArg List.length (T7 x 40);rw[Qy]at this;show (Txt.slice x af #[uY]).cps.size<=40;rw[<- QaB,this];lia
  ·have h1:c'∈x.cps.toList.take 40:=by rw[<- T7];exact lE
   exact(vR x C).2 c' (QU h1)
 ·obtain⟨x,C,rfl,h⟩:=CM y W;rw[<- zr];exact h
 ·rcases su.2 with h|h
  ·exact .inl h
  ·exact .inr (by rw[tV,h];rfl)
def Ul(P:#[pP])(nb:Int):Prop:=P.length<=12/\∀x∈P,x.1<nb/\x.2.1.length<=60
theorem Zn6{P:#[pP]}{nb n:Int}{ks:#[Q]}{d:WI}(h:Ul P nb)(hd:#[wJ])(hk:ks.length<=6):IA P nb n ks d:=by
 cases d with
 | add=>obtain⟨rfl,c,a,_⟩:=hd;refine⟨rfl,λx b=>(h.2 x b).1,?_,a,by lia⟩;have:=h.1;lia
 | drop=>exact hd
 | grow =>
  obtain⟨x,b,rfl,c,a⟩:=hd;refine⟨x,b,rfl,c,?_⟩;have:=(h.2 x b).2;rw[Qf];rcases a with a|rfl
  ·lia
  ·show x.2.1.length+0<=100;lia
theorem Zo5{P:#[pP]}{nb n:Int}{ks:#[Q]}{d:WI}(nd:(Xx P).Nodup)(h:Ul P nb)(hd:#[wJ])(hk:ks.length<=6):Ul (PV P n ks d) (d.nb nb):=by
 cases d with
 | add =>
  obtain⟨rfl,a,b,_⟩:=hd;show#[g7,?_,x,hx]
  ·show (P++[(n,ks,0)]).length<=12;rw[Qf,Qz];rcases a with a|rfl
   ·lia
   ·decide
  ·show x.1<n+1/\_;rcases Qj.mp hx with hx|hx
   ·have:=h.2 x hx;exact⟨by lia,this.2⟩
   ·rw[Qi.mp hx];exact⟨by show n<n+1;lia,by show ks.length<=60;lia⟩
 | drop=>exact⟨Ql (Qaj ..) h.1,λx hx=>h.2 x (Qah.mp hx).1⟩
 | grow =>
  obtain⟨y,g,rfl,a,b⟩:=hd;refine⟨by show (List.map _ P).length<=12;rw[Qa];exact h.1,λx hx=>?_⟩;show#[en,z,f,hx];have c:=h.2 z f;by_cases e:z.1=y.1
  ·have i:z=y:=Wm nd f g e;subst i;show#[tO];refine⟨c.1,?_⟩;show (z.2.1++ks).length<=60;rw[Qf];rcases b with b|rfl
   ·lia
   ·exact c.2
  ·rw[if_neg e];exact c
theorem ZoC{P:#[pP]}{nb:Int}(h:Ul P nb)(n:Int):Ul (WX P n) nb:=by
 refine⟨by unfold WX;rw[Qa];exact h.1,λx a=>?_⟩;show#[en,y,b,a];have:=h.2 y b;unfold SX;split
 ·exact this
 ·exact this
structure Wk (I:#[mc]) (cR cM:ae) (HB:Hp) (p:ae) (H:Hp) (X:MS) (Y:OS):Prop where
 pr:XX cR cM H X Y
 nga:Y.ga≠Y.ra
 nb:X.nb=Y.nb
 inv:I #[kl] X.nb
 fM:∀b,MFp X b->HB b=af
 fO:∀b,Y5 Y b->HB b=af
 but:But p HB H
section
variable {I:List Y2->Int->Prop} {cR cM:ae} {HB:Hp} {p:ae} {H H':Hp} {X X':MS} {Y Y':OS}
theorem Wk.to(W:#[aj])(f:∃u,H p=U u)(g:XX cR cM H' X' Y')(h:Y'.ga≠Y'.ra)(nb':X'.nb=Y'.nb)(i:I (Y6 X'.L) X'.nb)(fM:#[sb,MFp,X',X])(fO:#[sb,Y5,Y',Y])(k:#[cO]):Wk I cR cM HB p H' X' Y':=by
 have d:∀b,H b=af->HB b=af:=λb a=>by
  cases e:HB b with
  | none=>rfl
  | some u =>
   by_cases z:b=p
   ·show#[h1,u',c,f,a]
   ·rw[W.but b u e z]at a;cases a
 refine⟨g,h,nb',i,λb a=>(fM b a).elim (W.fM b) (d b),λb a=>(fO b a).elim (W.fO b) (d b),λb u a n=>k b u (W.but b u a n) (λz=>?_) (λz=>?_)⟩
 ·rw[W.fM b z]at a;cases a
 ·rw[W.fO b z]at a;cases a
theorem Wk.same(W:#[aj])(s:ZF H H'):Wk I cR cM HB p H' X Y:=⟨W.pr.same s,W.nga,W.nb,W.inv,W.fM,W.fO,W.but.trans #[eX,s]⟩
theorem Wk.np(W:#[aj])(hB:#[nB]):¬ MFp X p/\¬ Y5 Y p:=by obtain⟨u,a⟩:=hB;exact⟨λz=>(by rw[W.fM p z]at a;cases a),λz=>(by rw[W.fO p z]at a;cases a)⟩
theorem Wk.draw(W:#[aj])(hB:#[nB]){c:Int}(L:#[sW])(B:But p H H'):Wk I cR cM HB p H' X Y:=⟨W.pr.but L (W.np hB).1 (W.np hB).2 B,W.nga,W.nb,W.inv,W.fM,W.fO,W.but.trans B⟩
theorem Wk.left(W:#[aj])(hB:#[nB]){c:Int}(L:#[sW])(k:#[cO]):Y9 H' p c:=by obtain⟨a,d,e,c0⟩:=L;exact⟨a,d,k _ _ e (W.np hB).1 (W.np hB).2,c0⟩
theorem Wk.imp{J:#[mc]}(W:#[aj])(h:I #[kl] X.nb->J #[kl] X.nb):Wk J cR cM HB p H X Y:=⟨W.pr,W.nga,W.nb,h W.inv,W.fM,W.fO,W.but⟩
theorem Wk.take(r:∀P nb n,I P nb->I (WX P n) nb){f c:Hp}(W:#[aj])(s:∃u,H p=U u){x y:V}{a:#[aI]}{s':StL}{g:#[cj]}{k q k' h:Int}{i:#[41]}(t:Uq X.L X.w x a k q f)
  (M1:ZW cR cM f X.m X.rd X.sd a s' X.nb (X.li+k) (X.lo+q) (Yk g)) (v:Win (hdM a) (ZG a) g) (ok1:#[op]) (k1:#[fw,o,H,MFp,X,f])
  (w:Nh Y.Lo y i k' h c) (A:#[xY,c,i,Y.nb,k',h]) (k2:∀b u,f b=U u->b≠Y.o->b≠Y.ga->c b=U u) :
  X2 λ(X':MS) (Y':OS)=>Wk I cR cM HB p c X' Y'/\X'.m=X.m/\Y'.o=Y.o/\IsD c 4 x y/\(∀b,MFp X' b->MFp X b)/\(∀b,Y5 Y' b->Y5 Y b)/\#[fu,c]:=by
 obtain⟨ek,eq,B,C,j,l,D⟩:=ZmT W.pr t M1 v ok1 k1 w A k2 2;have kk:∀b u,H b=U u->¬ MFp X b->¬ Y5 Y b->c b=U u:=λb u d n m=>k2 b u (k1 b u d n) #[gG,m] (λz=>m #[kA]);refine⟨_,_,W.to s B W.nga W.nb ?_ (λb d=>.inl ((j b).mp d)) (λb d=>.inl (l b d)) kk,rfl,rfl,C,λb d=>(j b).mp d,l,kk⟩;rcases D with⟨_,e,_⟩|⟨u,z,_,E⟩
 ·rw[show a=X.L from e];exact W.inv
 ·show I (Y6 a) X.nb;rw[E];exact r _ _ _ W.inv
universe E
theorem Zse{I:#[mc]}{v w:ae}{c f h g:Hp}{p r o ra ga m rd sd:ae}{a:#[cc]}{Lo:#[41]}{L:#[aI]}{st:StL}{i:#[cj]}{k0 j k2 x:Int}
  (qb:VN c r a) (B:I (Uo a) #[be]) (C:c o=af) (D:c ra=af) (E:c ga=af) (nga:ga≠ra) (F:∀e∈Lo,c e.2.1=af/\e.2.1≠o)
  (G:Ro Lo a) (ow:Own f o ra ga Lo #[be] k0 j) (H:YQ (hdL Lo) 8 #[57] k0 j) (k:ZF c f) (hm:f m=af) (l:ZF f h) (n:ZW v w g m rd sd L st #[be] k2 x (Yk i)) (q:S7 L a) (J:Win #[cZ] #[k5] i) (K:XA #[cZ] st 8 #[k5]) (M:YQ #[cZ] 8 #[k5] k2 x)
  (y:∀b,Fp m rd sd L b->b=m\/h b=af) (k8:#[fh,u,h,m,g]):X2 λ(X:MS) (Y:OS)=>Wk I v w c p g X Y/\X.m=m/\Y.o=o:=by
 have A:ZF f g:=λb o d=>k8 b o (l b o d) (Zf d hm);have N:ZF c g:=k.trans A;have s:#[oy]:=Zqo G q rfl;obtain⟨O,P⟩:=H.one (by rw[S0 s,WK s];exact M);subst O;subst P;have Q:=Us 8 #[cZ] st #[k5] n.up #[qt,L,n.few] #[6] K;have R:=ZnO q;have yI:L.length=a.length:=by have:=#[eZ,q.1];show#[r2,Ub]
 refine⟨⟨m,rd,sd,L,st,#[be],k0,j,i⟩,⟨o,ra,ga,Lo,#[be]⟩,⟨⟨⟨n,J,Q⟩,ow.same A,s,λb d S=>?_⟩,nga,rfl,?_,λb d=>?_,λb d=>?_,But.same N⟩,rfl,rfl⟩
 ·obtain⟨u,t,_⟩:=ow.live S;rcases y b d with z|z
  ·show#[rZ,hm,t]
  ·rw[l _ _ t]at z;cases z
 ·show I (Y6 L) _;rw[R];exact B
 ·rcases y b d with z|z
  ·rw[z];exact k.free hm
  ·exact k.free (l.free z)
 ·rcases d with z|z|z|⟨T,V,z⟩
  ·rw[z];exact C
  ·rw[z];exact D
  ·rw[z];exact E
  ·rw[z];exact(F T V).1
theorem Ip:∀ns:List Int,ar.eqvAll #[cl] #[cl]=true
 | []=>by simp[ar.eqvAll]
 | x::r=>by simp[ar.eqvAll,ar.eqv,Ip r]
theorem Znu(ns:#[w]):ar.eqv #[tu] #[tu]=true:=by simp[ar.eqv,Ip ns]
theorem Zp7{K:#[7]}{a:ae}{xs:#[pO]}{k:Nat}{D:ae}{b:L2.St}{d:Hp}{g:TG}{f:TE}{Q:VK}(Pv:#[aQ])(h0:#[e6,b,d])
  (hl:∀i ys b H,Pv i ys b H->SqT K H a xs)
  (hs:∀i x ys b H,xs[i]? = U x->Pv i ys b H->g x b H λh n=>f h n λy j=>j D=U #[l6]/\ys.length<ao/\Pv (i+1) #[vx] h #[f0,j,ys,y])
  (hd:#[f5,b,xs.length]):WF (Itt K a) D k b d g Vx f Q:=by
 refine⟨λi m ys b H=>m=xs.length-i/\i<=xs.length/\Pv i ys b H,⟨xs.length,by simp,Qu _,h0⟩,?_⟩;rintro i m ys b H ⟨rfl,hi,p⟩;have c:=hl i ys b H p;by_cases l:i<xs.length
 ·refine .inr ⟨⟨xs,xs[i],c,Qb l⟩,Pv (i+1),λjd aQ o q=>⟨xs.length-(i+1),by lia,rfl,l,q⟩,λx o y=>?_⟩;obtain⟨rfl,e⟩:=y;show#[pW];exact hs i x ys b _ (e xs c) p
 ·have e:#[sS]:=by lia
  show#[hH,c,b]
theorem AZ.slice{z:al}(a:AZ z)(l u:#[cj]):AZ (Txt.slice z l u):=by
 unfold Txt.slice;split
 ·exact a
 ·intro c b;have d:c∈(aO.Str.strSliceIndices l u 1 z.length).filterMap (z.cps[·]?):=by simpa using b
  obtain⟨i,_,e⟩:=List.mem_filterMap.mp d;exact a c (by
   have:z.cps.toList[i]? = U c:=by rw[Array.getElem?_toList];exact e
   exact Qv this)
theorem Zpn(ss:#[Q])(m:Nat)(h:m<=ss.length):Xs #[Y] af #[lC]=(ss.take m).map V.str/\Xs #[Y] #[lC] af=(ss.drop m).map V.str:=by
 have e:∀d:Nat,HT.sIx #[Y].length d #[lC]=m:=λd=>by unfold HT.sIx;show#[js];lia
 have a:∀d:Nat,HT.sIx #[Y].length d af=d:=λd=>rfl;constructor
 ·unfold Xs;show#[no]
 ·unfold Xs;rw[e,a,<- List.map_drop,<- List.map_take,Qx #[xU,QT,Qa]]
theorem MZ{a:Int}(h0:0<=a)(h:a<1000000):a.natAbs.log2<1920:=by
 by_cases z:a.natAbs=0
 ·rw[z];decide
 ·have b:a.natAbs<2 ^ 20:=by lia
  exact Qw ((Nat.log2_lt z).mpr b) #[6]
theorem SN{a:Int}(h:a.natAbs.log2<1920):(al.ofString (toString a)).length<=1921:=by have e:=int_text_length_le (k:=1920) #[6] h;rw[PySem.ofString_length];lia
noncomputable def xfs(r p:Int):List (al×V):=[("row",.int r),("place",.int p)]
def MY(C:ae):Sp:=λvs H Q _=>X3 λ(e:ae) (r p:Int)=>vs=[.ref e,.int r,.int p]/\H e=U #[uU]/\0<=r/\r<1000000/\0<=p/\p<1000000 /\
 ∀a,H a=af->a≠e->Q .non (upd #[im,H,a] a (xdO a (xfs r p)))
theorem ZoB(T:#[e]):Xf P w K mg base 1 am ap "OutOfOrder" #[aU] (MY am):=by
 refine T.t_OutOfOrder_init.xf Zfe #[E] (λaM f A outer s H l Q E hr d h=>?_);obtain⟨e,r,p,rfl,g,o,t,u,v,q⟩:=h;refine⟨_,#[Ze,#[ZX,(@KU _ _ _ _ _ _ _ _ _ _ _ _ d T.xb_MergeError rfl T.m_MergeError #[Zc,‹0›,(@Sb _ _ _ _ _ _ #[Xh,#[Zl],#[Xh,#[nT],#[Xh,#[Zl],#[Xh,(@T3 _ _ _ _ ‹2›),#[pM]]]]])] #[6] #[5] #[5] #[5])],#[Ze,#[qJ,K0,T.na_OutOfOrder_row,1],#[Zi,#[qJ,ZtU,T.na_OutOfOrder_place,2]]]],?_⟩;have i:=MZ o t;have j:=MZ u v;have B:=SN i;have C:=SN j;have z:#[23]:=λa b c=>by rw[strLen_append];lia
 have y:#[bl]:=λh=>by rw[aP];lia
 show#[fQ,"row ",4,B];show#[ig,a3,a2,": the key at place ",19];have a4:=z a3 C #[6];show#[ig,a5,a4," is less than the one ahead",27];refine⟨_,rfl,_,rfl,y #[uZ],_,rfl,_,rfl,i,_,rfl,y #[m3],_,rfl,y (Ql a3 #[6]),_,rfl,_,rfl,j,_,rfl,y (Ql a4 #[6]),_,rfl,y (Ql a5 #[6]),y (Ql a5 #[6]),e,_,af,rfl,g,_,rfl,_,rfl,e,rfl,g,λk D ne=>?_⟩;refine⟨_,rfl,_,rfl,e,k,_,rfl,by rw[Zd ne.symm];exact Zb,Zb,ne,by show 1<1000;decide,?_⟩;rw[MO];exact q k D ne
def Io(b:ae)(H:Hp)(n j:Int)(E:XK):Prop:=∀ (dx:ae) (a:Hp),ZF H a->H dx=af->a dx=U (xdO dx (xfs n j))->E #[ts] (U dx) a
def MX(K:#[7])(c:ae):Sp:=λvs H Q E=>X3 λ(n:Int) (a:ae) (ss:List al)=>vs=[.int n,.ref a]/\SqL K H a #[Y]/\ss.length<=200/\#[cQ] /\
 ((XF ss .non/\∀b,ZF H b->Q .non b)\/∃j:Int,XF ss (.int j)/\0<=n/\n<1000000/\Io c H n j E)
theorem ZlK(T:#[e])(B:#[cI])(C:#[kX]) :
  D1f P w K mg base 5 "refuse_break" #[iU] (MX K am):=by
 show#[ee,T.t_refuse_break.df1,RS,D,m];obtain⟨n,a,p,rfl,F,G,I,J⟩:=h;refine⟨_,#[Ze,#[Zw,2,RS.nd,#[3],#[rR,B,m]],#[Zi,#[ZN,#[ek,UY,2,#[ZU]],#[Zi,(@ZtN _ _ _ _ _ _ _ _ _ _ _ _ _ _ _ C #[an] m #[es,0,2] #[6] (by trivial) #[5] #[6] #[5] #[5])],#[Zy]]]],?_⟩;refine⟨_,rfl,a,p,rfl,F,G,I,λv r c d=>?_⟩;rcases J with⟨L,q⟩|⟨j,t,M,N,q⟩
 ·have e:=Ob c L;subst e;exact⟨_,rfl,rfl,_,rfl,YY (q r d)⟩
 have e:=Ob c t;subst e;have u:0<=j/\j<1000000:=by
  rcases t with⟨z,_⟩|⟨k,z,hk,_⟩
  ·cases z
  ·cases z;lia
 refine⟨_,rfl,rfl,_,rfl,XJ ?_⟩;refine⟨_,rfl,_,rfl,λe O=>⟨e,n,j,rfl,Zb,M,N,u.1,u.2,λg x ne=>⟨rfl,U g,by rw[Zd ne.symm];exact Zb,?_⟩⟩⟩;have y:r g=af:=by rw[Zd ne]at x;exact x
 refine q g _ #[qK,b,o,c] (d.free y) (Vq Zb ne);have i:=d b o c;have l:b≠e:=Zf i O;exact Vq (by rw[Zd (Zf i y),Zd l,Zd l];exact i) l
theorem Uk{A B:Prop}(h:B):if (!true)=true then A else B:=YY h
theorem Im{a:Int}(h:a.natAbs<2 ^ 21):a.natAbs.log2<1920:=by
 by_cases z:a.natAbs=0
 ·rw[z];decide
 ·exact Qw ((Nat.log2_lt z).mpr h) #[6]
theorem Zpk{L:#[aI]}{n:Int}(a:n ∉ ZG L):Zt (kvM L) #[u5]=af:=by
 cases b:Zt (kvM L) (.inl n) with
 | none=>rfl
 | some v=>obtain⟨e,c,z⟩:=Qq.mp (VW b);injection z with z _;injection z with z;exact absurd (show n∈ZG L by rw[<- z];exact Qg (f:=λe:ZC=>e.n) c) a
def SM(ks:#[Q]):Prop:=ks.length<=100/\∀x∈ks,x.length<=1000/\AZ x
noncomputable def MW(n:Int):List (al×V):=[("line",.int n)]
def Il(C:ae):Sp:=λvs H Q _=>X2 λ(e:ae) (r:Int)=>vs=#[qE,e,r]/\H e=U #[uU]/\0<=r/\r<1000000 /\
 ∀a,H a=af->a≠e->Q .non (upd #[im,H,a] a (xdO a (MW r)))
theorem ZnX(T:#[e]):Xf P w K mg base 1 aq ap "BadLine" #[m9] (Il aq):=by
 refine T.t_BadLine_init.xf ZgM #[E] (λaM f A outer s H j Q E hr d h=>?_);obtain⟨e,r,rfl,g,k,l,q⟩:=h;refine⟨_,#[Ze,#[ZX,(@KU _ _ _ _ _ _ _ _ _ _ _ _ d T.xb_MergeError rfl T.m_MergeError #[Zc,‹0›,(@Sb _ _ _ _ _ _ #[Xh,#[Zl],#[Xh,#[nT],#[pM]]])] #[6] #[5] #[5] #[5])],#[Zi,#[qJ,K0,T.na_BadLine_line,1]]],?_⟩;have i:=MZ k l;have o:=SN i;have z:#[23]:=λa b c=>by rw[strLen_append];lia
 have y:#[bl]:=λh=>by rw[aP];lia
 show#[fQ,"line ",5,o];show#[ig,a3,a2," of the sheet is not so written",31];refine⟨_,rfl,_,rfl,y #[uZ],_,rfl,_,rfl,i,_,rfl,y #[m3],_,rfl,y (Ql a3 #[6]),y (Ql a3 #[6]),e,_,af,rfl,g,?_⟩;exact⟨_,rfl,_,rfl,e,rfl,g,λp t ne=>q p t ne⟩
def MV(a b c:ae):Sp:=λvs H _ E=>X10 λ(m rd sd:ae) (L:List ZC) (s:StL) (nb li lo:Int) (d:V) (n:Int)=>vs=#[qE,m,n]/\ZW a b H m rd sd L s nb li lo d/\n ∉ ZG L/\n.natAbs<2 ^ 21/\E (.ref c) af H
def MU(a b c:ae):Sp:=λvs H Q E=>MV a b c vs H Q E\/PY a b vs H Q E
theorem Zle(T:#[e]):M1f P w K mg base 1 ak "row_of" #[ah] (MU aw ak aA):=by
 refine T.t_Merge_row_of.mf1 Ko (λu H Q E h=>?_) #[ef,u,j]
 ·rcases h with⟨m,d,l,L,s,nb,o,lo,p,n,rfl,_⟩|⟨m,d,l,L,s,nb,o,lo,p,n,rfl,_⟩<;>rfl
 refine⟨_,#[Ze,#[ZN,#[Zm,(Li j),‹1›,#[I],#[ab]],#[Zi,(@KJ _ _ _ _ _ _ _ _ _ _ _ _ T.xw_NoRow #[an] j #[Zc,(@Sb _ _ _ _ _ _ #[Xh,#[Zl],#[Xh,#[nT],(@Sc _)]])] #[5] #[6] #[5] #[5])],#[Zy]],#[Zi,#[Zr,#[fN,j,#[I],1]]]],?_⟩;rcases h with h|⟨m,d,l,L,s,nb,o,lo,p,e,rfl,M,r,q⟩
 rotate_left
 ·show#[gm,g,i];refine⟨_,rfl,_,rfl,m,ak,g,_,_,rfl,i,T.cl_Merge,T.na_Merge_rows,Ye ..,d,_,rfl,ZM.k' (k:=#[pT]) M.rows (Wo M.nd r),_,rfl,YY ?_⟩;exact⟨_,rfl,m,ak,g,_,_,rfl,i,T.cl_Merge,T.na_Merge_rows,Ye ..,_,rfl,d,_,rfl,ZM.k' (k:=#[pT]) M.rows (Wo M.nd r),q⟩
 obtain⟨m,d,l,L,s,nb,o,lo,p,n,rfl,M,v,B,q⟩:=h;show#[gm,g,i];refine⟨_,rfl,_,rfl,m,ak,g,_,_,rfl,i,T.cl_Merge,T.na_Merge_rows,Ye ..,d,_,rfl,ZM.k' (k:=.inl n) M.rows (Zpk v),_,rfl,XJ ?_⟩;have t:=Im B;have C:=SN t;have z:#[23]:=λa b c=>by rw[strLen_append];lia
 have y:#[bl]:=λh=>by rw[aP];lia
 show#[fQ,"there is no row ",16,C];exact⟨_,rfl,y #[uZ],_,rfl,_,rfl,t,_,rfl,y #[m3],y #[m3],_,rfl,q⟩
theorem ZjN(T:#[e])(g:#[aV])(i:#[kY]):M1f P w K mg base 14 ak "drop_row" #[ah] (MV aw ak aA):=by
 show#[ee,T.t_Merge_drop_row.mf1,RN,j,a];obtain⟨m,b,c,L,s,nb,d,lo,e,n,rfl,M,k,l,q⟩:=h;refine⟨_,#[Ze,#[Zw,2,RN.nd,#[3],#[YI,g,T.cl_Row,a,#[qO,i,a,0,#[X]]]],#[jr]],?_⟩;show#[gm,o,p];exact⟨_,rfl,m,o,_,rfl,p,SS ..,_,rfl,.inl ⟨m,b,c,L,s,nb,d,lo,e,n,rfl,M,k,l,q⟩⟩
def Rf(L:#[pP])(nb:Int)(H:Hp)(ask:al)(g m:V):Option #[a3]->Prop
 | none=>((ask = "drop"/\m=.non)\/(ask = "grow"/\∃k,m=.ref k))/\∃n,g=.int n/\n ∉ Xx L/\n.natAbs<2 ^ 21
 | some af=>ask = "add"/\m=.non/\X2 λk ks=>g=.ref k/\H k=U #[12]/\SM ks/\sortedS ks=true/\16<=L.length
 | some (U a)=>(ask = "add"/\m=.non/\a.1=nb/\X2 λk ks=>g=.ref k/\H k=U #[12]/\SM ks/\XF ks (.int a.2)) \/
  (ask = "grow"/\∃e∈L,a.1=e.1/\g=.int e.1/\X2 λk ks=>m=.ref k/\H k=U #[12]/\SM ks/\XF (e.2.1++ks) (.int a.2))
def RfE(c d e:ae)(H:Hp)(E:XK):Option #[a3]->Prop
 | none=>∀a,ZF H a->E (.ref c) af a
 | some af=>∀a,ZF H a->E (.ref d) af a
 | some (U b)=>Io e H b.1 b.2 E
def Ik(a b c d e:ae):Sp:=λvs H _ E=>X11 λ(m rd sd:ae) (L:List ZC) (s:StL) (nb li lo:Int) (f g:V) (o:Option (Option (Int×Int)))=>vs=[.ref m,g]/\ZW a b H m rd sd L s nb li lo f/\0<=nb/\nb<1000000/\Rf (Y6 L) nb H "add" g .non o/\RfE c d e H E o
theorem MT(o:al)(h:o = "drop"\/o = "grow"):("add" : al)≠o:=by rcases h with rfl|rfl<;>ac_rfl
theorem Zqe(T:#[e])(I:#[lK]):M1f P w K mg base 14 ak "add_row" #[da] (Ik aw ak aA aG am):=by
 show#[ee,T.t_Merge_add_row.mf1,RO,J,C];obtain⟨m,i,N,L,s,nb,O,lo,R,g,o,rfl,M,S,U,l,q⟩:=h;refine⟨_,#[Ze,#[si,2,RO.nd,#[I]],#[Ze,#[ZX,#[Sa,I,#[an],C,#[es,2,1]]],#[Ze,#[ZN,#[j2],#[Zi,(@KJ _ _ _ _ _ _ _ _ _ _ _ _ T.xw_Full #[an] C #[Zc,(@Sb _ _ _ _ _ _ #[Xh,(@T3 _ _ _ _ #[b0]),#[pM]])] #[5] #[6] #[5] #[5])],#[Zy]],#[Ze,#[XY],#[jr]]]]],?_⟩;show#[gm,p,D];refine#[xX,p,D,T.na_Merge_next_number,NF,?_];cases o with
 | none =>
  rcases l.1 with⟨h,_⟩|⟨h,_⟩
  ·exact absurd h (MT _ #[8])
  ·exact absurd h (MT _ #[m7])
 | some o =>
 cases o with
 | some V =>
  show#[ep,n,j,V];rcases l with⟨_,_,rfl,k,r,rfl,t,e,W⟩|⟨h,_⟩
  ·exact⟨_,rfl,_,rfl,n,k,r,rfl,SqL.of t,by have:=e.1;lia,λx u=>(e.2 x u).1,.inr ⟨j,W,S,U,q⟩⟩
  ·exact absurd h (MT _ #[m7])
 | none =>
  obtain⟨_,_,k,r,rfl,t,e,X,v⟩:=l;refine⟨_,rfl,_,rfl,nb,k,r,rfl,SqL.of t,by have:=e.1;lia,λx u=>(e.2 x u).1,.inl ⟨S6 X,λY B=>?_⟩⟩;have F:=B _ _ D;have M1:=M.same B;have iB:#[o5]:=by unfold kvM;rw[Qa]
  have eK:=M.few;have xv:16<=L.length:=by unfold Y6 at v;rw[Qa]at v;exact v
  refine⟨_,rfl,m,ak,p,_,_,rfl,F,T.cl_Merge,T.na_Merge_rows,Ye ..,i,_,rfl,M1.rows,_,_,rfl,rfl,_,rfl,Y1 #[lX] (λd=>absurd (decide_eq_true (show (16:Int)<=#[81] by lia)) d)⟩;have G:#[81].natAbs.log2<1920:=Im #[2];have Z:=SN G;have z:#[23]:=λa b c=>by rw[strLen_append];lia
  have y:#[bl]:=λh=>by rw[aP];lia
  have a1:(al.empty++al.ofString (toString #[81])).length<=0+1921:=z #[6] Z #[6];show#[ig,a2,a1," rows are there",15];exact⟨_,rfl,m,ak,p,_,_,rfl,F,T.cl_Merge,T.na_Merge_rows,Ye ..,i,_,rfl,M1.rows,_,rfl,G,_,rfl,y #[uZ],_,rfl,y #[m3],y #[m3],_,rfl,q Y B⟩
def Ij(a b c d f:ae):Sp:=λvs H _ E=>X12 λ(m rd sd:ae) (L:List ZC) (s:StL) (nb li lo:Int) (h g k:V) (o:Option (Option (Int×Int)))=>vs=[.ref m,g,k]/\ZW a b H m rd sd L s nb li lo h/\#[sA]/\Rf (Y6 L) nb H "grow" g k o/\RfE c d f H E o
theorem Zpt(T:#[e])(I:#[lK])(J:#[kY]):M1f P w K mg base 14 ak "grow" #[bO] (Ij aw ak aA aG am):=by
 show#[ee,T.t_Merge_grow.mf1,Tu,N,y];obtain⟨m,i,l,L,s,nb,p,lo,r,g,k,o,rfl,M,z,t,q⟩:=h;refine⟨_,#[Ze,#[Zw,3,Tu.nd,#[3],#[qO,J,y,0,#[X]]],#[Ze,#[ZX,#[Sa,I,#[an],y,#[mf]]],#[jr]]],?_⟩;show#[gm,B,C];have D:("grow" : al) ≠ "add":=by ac_rfl
 cases o with
 | none=>obtain⟨_,n,rfl,F,O⟩:=t;rw[<- Up]at F;exact⟨_,rfl,m,B,_,rfl,C,SS ..,_,rfl,.inl ⟨m,i,l,L,s,nb,p,lo,r,n,rfl,M,F,O,q H #[w6]⟩⟩
 | some o =>
 cases o with
 | none=>exact absurd t.1 D
 | some R =>
  show#[ep,n,j,R];rcases t with⟨h,_⟩|⟨_,x,hx,rfl,rfl,S,U,rfl,V,u,v⟩
  ·exact absurd h D
  show#[en,e,a,hx];show#[rF,Re,a,W,X,Re.at'.ob];refine⟨_,rfl,m,B,_,rfl,C,SS ..,_,rfl,.inr ⟨m,i,l,L,s,nb,p,lo,r,e,rfl,M,a,?_⟩⟩;refine⟨_,rfl,_,rfl,e.p,aw,W,_,_,rfl,X,T.cl_Row,T.na_Row_all_keys,Vc _ _ _,_,rfl,e.k,S,_,_,rfl,rfl,Re.at'.ks,V,(by rw[Qa,Qa];have:=u.1;have:=Re.len;exact Yu #[2]),λc G=>?_⟩;rw[<- Qd];refine⟨e.n,c,e.ss++U,rfl,SqL.of Zb,(by rw[Qf];have:=u.1;have:=Re.len;lia),(λx hx=>?_),.inr ⟨j,v,(z e a).1,(z e a).2,λd Y Z hd h'=>q d Y (λb o v=>Z b o (Zg G _ b o v)) ((Zg G _).free hd) h'⟩⟩;rcases Qj.mp hx with hx|hx
  ·exact(Re.str x hx).1
  ·exact(u.2 x hx).1
def VH(H b:Hp):Option #[a3]->V->Prop
 | none,v=>v=.str "no row"
 | some af,v=>v=.str "full"
 | some (U a),v=>∃t,v=.ref t/\H t=af/\b t=U #[hM,a.1,a.2]
def Ct(b c f:ae)(H:Hp)(e:ae):Option #[a3]->Prop
 | none=>H e=U (exO e b af)
 | some af=>H e=U (exO e c af)
 | some (U a)=>∃d,H e=U (exO e f (U d))/\H d=U (xdO d (xfs a.1 a.2))
noncomputable def bs0:Option #[a3]->Bool
 | some af=>true
 | _=>false
noncomputable def bs1:Option #[a3]->Bool
 | none=>true
 | _=>false
noncomputable def bs2:Option #[a3]->Bool
 | some (U _)=>true
 | _=>false
theorem Zso(o:Option #[a3]):((#[pm].count true:Nat):Int)=1:=by
 cases o with
 | none=>rfl
 | some o=>cases o<;>rfl
def ZmR(b c:ae):Sp:=λvs H Q _=>X13 λ(ask:al) (m rd sd:ae) (L:List ZC) (s:StL) (nb li lo:Int) (d g k:V) (o:Option (Option (Int×Int)))=>vs=[.str ask,.ref m,g,k]/\ZW b c H m rd sd L s nb li lo d/\0<=nb/\nb<1000000/\#[sA]/\Rf (Y6 L) nb H ask g k o/\∀a v,ZF H a->VH H a o v->Q v a
theorem Zlj(T:#[e])(dU:M1f P w K mg base 14 ak "add_row" #[da] (Ik aw ak aA aG am))(dH:M1f P w K mg base 14 ak "drop_row" #[ah] (MV aw ak aA))(fc:M1f P w K mg base 14 ak "grow" #[bO] (Ij aw ak aA aG am)) :
  Df P w K mg base 16 "_law_refused" #[bP] (ZmR aw ak):=by
 show#[xL,T.t_l_refused.df,Ts];obtain⟨ask,m,W,X,L,s,nb,Y,lo,Z,g,k,o,rfl,M,kq,vV,vW,D,q⟩:=h;refine⟨_,#[Ze,#[si,4,Ts.nd,#[ZU]],#[W4,(@Zqz _ _ _ _ _ _ _ _ _ _ _ 5 _ _ (λah E=>#[Zi,#[ZN,#[uy],#[o3],#[Zi,#[ZN,#[uy],#[Zi,#[ZX,#[qO,dU,hr,1,#[b1]]]],#[Zi,#[ZN,#[uy],#[Zi,#[ZX,#[qO,dH,hr,1,#[b1]]]],#[Zi,#[ZX,#[Vn,fc,T.cl_Merge,#[an],hr,‹1›,#[es,2,3]]]]]]]]]]) (λe=>#[Zi,#[hY,4,Ts.nd,5]]) #[bM] rfl T.m_MergeError T.x_MergeError rfl Ts.nd rfl rfl rfl #[6]),#[Ze,#[ZN,#[gz,4],#[o3],#[Zy]],#[Ze,#[Zw,6,Ts.nd,#[3],#[ZJ,#[Zc,#[eh,4,T.m_Full],#[eh,4,T.m_NoRow],#[eh,4,T.m_OutOfOrder]]]],#[Ze,#[ZN,(@PW.pt _ _ _ #[Xd,#[Zm,Sz,#[Xl,QR,PySem.F.slot_list_count,PySem.F.type_list_count,ZsZ,‹6›,#[Zc,#[Xv]]],#[Zj],#[37]],#[Xd,#[Yb,#[eh,4,T.m_BadLine]],#[WG,#[WW,#[Yb,#[ej,isX,4,T.b.n_ValueError,KN]]]]]]),#[o3],#[Zy]],#[Ze,#[ZN,#[Yb,#[eK,ixL,6]],#[Zi,#[Zr,#[ZV,#[Zc,#[Zl],#[Vo,‹4›],#[Vo,‹4›]]]]],#[Zy]],#[Zi,#[Zr,#[Zo,#[ly],#[ct],#[Xl,QR,PySem.F.slot_list_index,PySem.F.type_list_index,Zs4,‹6›,#[Zc,#[Xv]]]]]]]]]]]],?_⟩;show#[gm,j,I];have no:∀ {a b:al},a≠b->¬ V.str a=V.str b:=λh z=>h (by injection z);have CS:ask = "add"/\k=.non\/(ask = "drop"/\o=af)\/ask = "grow":=by
  cases o with
  | none =>
   rcases D.1 with h|h
   ·exact .inr (.inl ⟨h.1,rfl⟩)
   ·exact .inr (.inr h.1)
  | some o =>
   cases o with
   | none=>exact .inl ⟨D.1,D.2.1⟩
   | some N =>
    rcases D with h|h
    ·exact .inl ⟨h.1,h.2.1⟩
    ·exact .inr (.inr h.1)
 refine⟨λσ p=>X2 λ(e:ae) (v5:Option V)=>σ=[U (.str ask),U (.ref m),U g,U k,U #[aL],v5,af]/\ZF H p/\Ct aA aG am p e o,?_,?_⟩
 ·rcases CS with⟨rfl,rfl⟩|⟨rfl,rfl⟩|rfl
  ·refine#[mT];refine⟨_,rfl,m,j,_,rfl,I,II ..,_,rfl,m,W,X,L,s,nb,Y,lo,Z,g,o,rfl,M,kq,vV,D,?_⟩;cases o with
   | none=>exact λO r=>⟨aA,_,rfl,T.xw_NoRow.cls,by simp,λe i=>⟨_,rfl,e,_,rfl,r.trans #[w5],Zb⟩⟩
   | some o =>
    cases o with
    | none=>exact λO r=>⟨aG,_,rfl,T.xw_Full.cls,by simp,λe i=>⟨_,rfl,e,_,rfl,r.trans #[w5],Zb⟩⟩
    | some N=>exact λd O r hd h'=>⟨am,_,rfl,T.t_OutOfOrder_init.cls,by simp,λe i=>⟨_,rfl,e,_,rfl,r.trans #[w5],d,Zb,Zg i _ _ _ h'⟩⟩
  ·obtain⟨_,n,rfl,hn,n1⟩:=D;rw[<- Up]at hn;refine⟨_,rfl,rfl,_,rfl,YN (no #[1]) #[mT]⟩;refine⟨_,rfl,m,j,_,rfl,I,Iy ..,_,rfl,m,W,X,L,s,nb,Y,lo,Z,n,rfl,M,hn,n1,?_⟩;exact⟨aA,_,rfl,T.xw_NoRow.cls,by simp,λe i=>⟨_,rfl,e,_,rfl,Zg i _,Zb⟩⟩
  ·refine⟨_,rfl,rfl,_,rfl,YN (no #[1]) ⟨_,rfl,rfl,_,rfl,YN (no #[1]) ⟨_,rfl,rfl,_,rfl,YN (no #[1]) ?_⟩⟩⟩;refine⟨_,rfl,m,j,_,rfl,I,Ix ..,_,rfl,_,rfl,m,W,X,L,s,nb,Y,lo,Z,g,k,o,rfl,M,vW,D,?_⟩;cases o with
   | none=>exact λO r=>⟨aA,_,rfl,T.xw_NoRow.cls,by simp,λe i=>⟨_,rfl,e,_,rfl,r.trans #[w5],Zb⟩⟩
   | some o =>
    cases o with
    | none=>exact λO r=>⟨aG,_,rfl,T.xw_Full.cls,by simp,λe i=>⟨_,rfl,e,_,rfl,r.trans #[w5],Zb⟩⟩
    | some N=>exact λd O r hd h'=>⟨am,_,rfl,T.t_OutOfOrder_init.cls,by simp,λe i=>⟨_,rfl,e,_,rfl,r.trans #[w5],d,Zb,Zg i _ _ _ h'⟩⟩
 rintro σ p ⟨e,v5,rfl,s9,J⟩;obtain⟨C,v,gP,R,bS,k0,k1,k2,k3,kV⟩:X2 λ(C:ae) (v:Option ae)=>p e=U (exO e C v)/\XG K C/\(v=af\/X2 λj fs=>v=U j/\p j=U (xdO j fs))/\PySem.W.kitOne K (.ref C) (.ref aG)=U (bs0 o)/\PySem.W.kitOne K (.ref C) (.ref aA)=U (bs1 o)/\PySem.W.kitOne K (.ref C) (.ref am)=U (bs2 o)/\PySem.W.kitOne K (.ref C) (.ref aq)=U false/\PySem.W.kitOne K (.ref C) (.type "ValueError")=U true:=by
  cases o with
  | none=>exact⟨_,_,J,T.xg_NoRow,.inl rfl,T.ki_NoRow_Full,T.ki_NoRow_NoRow,T.ki_NoRow_OutOfOrder,T.ki_NoRow_BadLine,T.ki_NoRow_V⟩
  | some o =>
   cases o with
   | none=>exact⟨_,_,J,T.xg_Full,.inl rfl,T.ki_Full_Full,T.ki_Full_NoRow,T.ki_Full_OutOfOrder,T.ki_Full_BadLine,T.ki_Full_V⟩
   | some N=>obtain⟨d,x,y⟩:=J;exact⟨_,_,x,T.xg_OutOfOrder,.inr ⟨d,_,rfl,y⟩,T.ki_OutOfOrder_Full,T.ki_OutOfOrder_NoRow,T.ki_OutOfOrder_OutOfOrder,T.ki_OutOfOrder_BadLine,T.ki_OutOfOrder_V⟩
 have kr:#[bH]:=λhc u hu=>by cases hu;exact hc
 refine#[cN];refine⟨_,rfl,e,C,v,_,_,rfl,gP,R,bS,kr k0,T.kg,T.kt,_,rfl,e,C,v,_,_,rfl,gP,R,bS,kr k1,T.kg,T.kt,_,rfl,e,C,v,_,_,rfl,gP,R,bS,kr k2,T.kg,T.kt,Zn #[lD],λl hl=>?_⟩;have F:ZF p #[80]:=Zg hl _;have B:#[80] l=U (.lst (#[pm].map V.bl)):=Zb;have tZ:=F _ _ gP;have pj:v=af\/X2 λj fs=>v=U j/\#[80] j=U (xdO j fs):=bS.imp id λ⟨j,fs,x,y⟩=>⟨j,fs,x,F _ _ y⟩;have S:=s9.trans F;have xA:Ct aA aG am #[80] e o:=by
  cases o with
  | none=>exact F _ _ J
  | some o =>
   cases o with
   | none=>exact F _ _ J
   | some N=>obtain⟨d,x,y⟩:=J;exact⟨d,F _ _ x,F _ _ y⟩
 generalize upd p l (.lst [.bl (bs0 o),.bl (bs1 o),.bl (bs2 o)])=eT at B tZ pj S xA ⊢;refine⟨_,rfl,.inl #[fm,B],l,#[pm],true,rfl,rfl,B,?_⟩;rw[Zso];refine⟨rfl,_,rfl,WR rfl ?_⟩;refine⟨_,rfl,e,C,v,_,_,rfl,tZ,R,pj,kr k3,T.kg,T.kt,_,rfl,YY ?_⟩;refine⟨_,rfl,e,C,v,_,_,rfl,tZ,R,pj,(λu hu=>by cases hu;exact kV),T.kg,T.kt,_,rfl,Uk ?_⟩;refine⟨_,rfl,l,_,_,_,rfl,rfl,SqL.of B,rfl,_,rfl,?_⟩;cases o with
 | none=>refine YY #[ve];have G:=#[mY];refine⟨_,rfl,.inl #[tJ],l,[false,true,false],true,1,rfl,rfl,G _ _ B,by decide,rfl,(λm I=>by have z:m=0:=#[2];rw[z];decide),?_⟩;exact#[jZ]
 | some o =>
 cases o with
 | none=>refine YY #[ve];have G:=#[mY];refine⟨_,rfl,.inl #[tJ],l,[true,false,false],true,0,rfl,rfl,G _ _ B,by decide,rfl,(λm I=>absurd I (Nat.not_lt_zero _)),?_⟩;exact#[jZ]
 | some N=>obtain⟨d,x,y⟩:=xA;refine XJ ⟨_,rfl,e,am,d,_,_,rfl,x,y,T.xg_OutOfOrder,T.na_OutOfOrder_row,rfl,_,rfl,e,am,d,_,_,rfl,x,y,T.xg_OutOfOrder,T.na_OutOfOrder_place,rfl,Zn #[lD],λt ht=>?_⟩;exact q _ _ (S.trans (Zg ht _)) ⟨t,rfl,S.free ht,Zb⟩
theorem MR{K:#[7]}{H:Hp}:∀bs:List Bool,DVs K H #[tf] (bs.map ar.bool)
 | []=>.nil
 | b::r=>.cons (.bl b) (MR r)
noncomputable def Wh(i n:Nat):List Bool:=#[mL].map λk=>decide (k=i)
theorem Zp6:∀i,i<4->SeqAt.shaped (.list #[iN])=true/\ar.eqv (.list #[iN]) (.list #[iN])=true:=by ac_rfl
def ZsN:Sp:=λvs H Q _=>X2 λ(p:ae) (c:Int)=>vs=#[jN]/\Y9 H p c/\c<2 ^ 40/\∀a,Y9 a p (c+3)->But p H a->Q #[sI] a
theorem Zqm(T:#[e])(aK:#[n])(bz:#[kX])(eV:Xf P w K mg base 1 aq ap "BadLine" #[m9] (Il aq)):Df P w K mg base 3 "_law_made_right" #[24] ZsN:=by
 show#[ee,T.t_l_made_right.df,UG,vs,X];show#[fA,p,c,L0,c40];refine⟨_,#[Ze,(@Zqp _ _ 1 2 3 _ _ _ _ _ _ _ _ _ _ _ _ _ _ rfl UG.nd rfl rfl rfl rfl rfl rfl #[Zc,#[hZ,X],#[hZ,X],#[hZ,X]] rfl #[5]),#[Ze,#[Zw,4,UG.nd,#[3],#[ZJ,#[Zc,(@KH _ _ _ _ _ _ _ _ _ T.xw_Full #[Zc,#[Zl]] #[5] #[6] #[5] #[5]),(@KH _ _ _ _ _ _ _ _ _ T.xw_NoRow #[Zc,#[Zl]] #[5] #[6] #[5] #[5]),#[R6,bz,X,#[es,1,2]],#[R6,eV,X,#[n1]]]]],#[Ze,#[XS,bf.never,#[id,4],#[gT,K,2,#[Zz,#[ZD,5,UG.nd,#[i0]],#[Zz,#[ZD,6,UG.nd,#[3]],(@Yg _)]]],#[Ze,#[Zw,7,UG.nd,#[3],#[ZJ,#[Zc,#[eh,6,T.m_Full],#[eh,6,T.m_NoRow],#[eh,6,T.m_OutOfOrder],#[eh,6,T.m_BadLine]]]],#[Zi,#[ZN,(@PW.pt _ _ _ #[Xd,#[Zm,#[neD,K,X],‹7›,#[Xj,RK,#[so,#[Zj]],#[eY,8,RK],#[94],(λ_ _ _ _=>#[XQ,YW,#[cw,8,RK],#[cv,5,RK],#[37]])],#[37]],#[Xd,#[WW,#[Yb,#[eh,6,T.m_MergeError]]],#[WG,#[WW,#[Yb,#[ej,isX,6,T.b.n_ValueError,KN]]]]]]),#[aG],#[Zy]]]]],#[Zi,#[Zr,#[XQ,(@eqD _ K _ X #[5]),#[ZJ,#[Zc,#[tI],#[tI],#[tI]]],#[ZJ,#[ga,1,2,3]],#[37]]]]]]],?_⟩;have c0:=L0.ge;refine⟨_,rfl,p,c,_,rfl,L0,by lia,by decide,by decide,λF H1 Hw n01 L1 B1=>?_⟩;refine⟨_,rfl,p,c+1,_,rfl,L1,by lia,by decide,by decide,λG H2 Hy n11 L2 B2=>?_⟩;refine⟨_,rfl,p,c+1+1,_,rfl,L2,by lia,by decide,by decide,λI H3 Hz n21 L3 B3=>⟨_,_,_,rfl,?_⟩⟩;have jJ:=(B1.trans B2).trans B3;refine⟨_,rfl,λn qP=>?_⟩;have t0:=Zg qP (exO n aG af);have g0:(upd H3 n (exO n aG af)) n=U (exO n aG af):=Zb;generalize upd H3 n (exO n aG af)=H4 at t0 g0 ⊢;refine⟨_,rfl,λr lU=>?_⟩;have t1:=Zg lU (exO r aA af);have g1:(upd H4 r (exO r aA af)) r=U (exO r aA af):=Zb;generalize upd H4 r (exO r aA af)=H5 at t1 g1 ⊢;refine⟨_,rfl,_,rfl,λd oJ=>⟨d,F,G,rfl,Zb,Hw,by lia,Hy,by lia,λy iu ne2=>⟨rfl,U y,by rw[Zd ne2.symm];exact Zb,?_⟩⟩⟩;have xB:H5 y=af:=by rw[Zd ne2]at iu;exact iu
 generalize vX:upd (upd (upd (upd H5 d (exN d am af)) d (exN d am (U y))) y (xdO y (xfs F G))) d (exO d am (U y))=Y;have Z:Y d=U (exO d am (U y)):=by rw[<- vX];exact Zb
 have qQ:Y y=U (xdO y (xfs F G)):=by rw[<- vX,Zd ne2];exact Zb
 have t2:ZF H5 Y:=λb o O=>by have J:=Zf O oJ;rw[<- vX,Zd J,Zd (Zf O xB),Zd J,Zd J];exact O
 refine⟨_,rfl,λg u0=>⟨g,I,rfl,Zb,Hz,by lia,λL jf vY=>⟨rfl,U L,by rw[Zd vY.symm];exact Zb,?_⟩⟩⟩;have xC:Y L=af:=by rw[Zd vY]at jf;exact jf
 generalize vZ:upd (upd (upd (upd Y g (exN g aq af)) g (exN g aq (U L))) L (xdO L (MW I))) g (exO g aq (U L))=H7;have g3:H7 g=U (exO g aq (U L)):=by rw[<- vZ];exact Zb
 have ua:H7 L=U (xdO L (MW I)):=by rw[<- vZ,Zd vY];exact Zb
 have t3:ZF Y H7:=λb o O=>by have J:=Zf O u0;rw[<- vZ,Zd J,Zd (Zf O xC),Zd J,Zd J];exact O
 refine⟨Zn #[lD],λl hl=>?_⟩;have R:=Zg hl (.lst #[dU]);have gl:#[hS,H7,l,#[dU]] l=U (.lst #[dU]):=Zb;have wc:=((t0.trans t1).trans t2).trans t3;replace g0:=R _ _ (t3 _ _ #[rf,t2,t1,g0]);replace g1:=R _ _ #[rf,t3,t2,g1];replace Z:=R _ _ (t3 _ _ Z);replace qQ:=R _ _ (t3 _ _ qQ);replace g3:=R _ _ g3;replace ua:=R _ _ ua;replace wc:=wc.trans R;generalize upd H7 l (.lst [.ref n,.ref r,.ref d,.ref g])=H8 at gl g0 g1 Z qQ g3 ua wc ⊢;clear t0 t1 t2 t3 R hl vX vZ iu jf xB xC qP lU oJ u0 ne2 vY;have S:∀ (i:Nat) (x:V),[V.ref n,.ref r,.ref d,.ref g][i]? = U x->i<4/\X3 λ(e C:ae) (m:Option ae)=>x=.ref e/\H8 e=U (exO e C m)/\XG K C/\(m=af\/X2 λk fs=>m=U k/\H8 k=U (xdO k fs))/\PySem.W.kitOne K #[M] #[bf]=U (decide (0=i))/\PySem.W.kitOne K #[M] #[bg]=U (decide (1=i))/\PySem.W.kitOne K #[M] #[aN]=U (decide (2=i))/\PySem.W.kitOne K #[M] #[a5]=U (decide (3=i))/\PySem.W.kitOne K #[M] #[nU]=U true/\PySem.W.kitOne K #[M] #[45]=U true:=λi x hx=>by
  have hi:=(Qe.mp hx).1;refine⟨hi,?_⟩;rcases(show i=0\/i=1\/i=2\/i=3 by have:i<4:=hi;lia) with rfl|rfl|rfl|rfl<;>cases hx
  ·exact⟨_,_,_,rfl,g0,T.xg_Full,.inl rfl,T.ki_Full_Full,T.ki_Full_NoRow,T.ki_Full_OutOfOrder,T.ki_Full_BadLine,T.ki_Full_MergeError,T.ki_Full_V⟩
  ·exact⟨_,_,_,rfl,g1,T.xg_NoRow,.inl rfl,T.ki_NoRow_Full,T.ki_NoRow_NoRow,T.ki_NoRow_OutOfOrder,T.ki_NoRow_BadLine,T.ki_NoRow_MergeError,T.ki_NoRow_V⟩
  ·exact⟨_,_,_,rfl,Z,T.xg_OutOfOrder,.inr ⟨y,_,rfl,qQ⟩,T.ki_OutOfOrder_Full,T.ki_OutOfOrder_NoRow,T.ki_OutOfOrder_OutOfOrder,T.ki_OutOfOrder_BadLine,T.ki_OutOfOrder_MergeError,T.ki_OutOfOrder_V⟩
  ·exact⟨_,_,_,rfl,g3,T.xg_BadLine,.inr ⟨L,_,rfl,ua⟩,T.ki_BadLine_Full,T.ki_BadLine_NoRow,T.ki_BadLine_OutOfOrder,T.ki_BadLine_BadLine,T.ki_BadLine_MergeError,T.ki_BadLine_V⟩
 refine⟨_,rfl,l,_,rfl,SqL.of gl,?_⟩;refine So (K:=K) (a:=l) (xs:=#[dU]) (λi W H9=>(X3 λv5 v6 v7:Option V=>W=[U #[bS],U (.int F),U (.int G),U (.int I),U #[cq],v5,v6,v7])/\ZF H8 H9) ⟨⟨_,_,_,rfl⟩,ZF.refl _⟩ (λi W H9 h=>SqL.of (h.2 _ _ gl)) ?_ ?_
 ·rintro i x W H9 pr hx ⟨⟨v5,v6,v7,rfl⟩,B⟩ HA;obtain⟨hi,e,C,m,rfl,M,xg,N,k0,k1,k2,k3,k4,kV⟩:=S i x hx;clear S;have sp:=B.trans (Zg HA #[tY]);show#[e4,pr,Zb];replace M:=sp _ _ M;replace N:m=af\/X2 λk fs=>m=U k/\(upd H9 pr #[tY]) k=U (xdO k fs):=N.imp id λ⟨k,fs,J,h2⟩=>⟨k,fs,J,sp _ _ h2⟩;generalize upd H9 pr (.tup [.int (i:Int),.ref e])=eT at sp M N ⊢;have kr:#[bH]:=λhc u hu=>by cases hu;exact hc
  refine⟨_,rfl,e,C,m,_,_,rfl,M,xg,N,kr k0,T.kg,T.kt,_,rfl,e,C,m,_,_,rfl,M,xg,N,kr k1,T.kg,T.kt,_,rfl,e,C,m,_,_,rfl,M,xg,N,kr k2,T.kg,T.kt,_,rfl,e,C,m,_,_,rfl,M,xg,N,kr k3,T.kg,T.kt,Zn #[lD],λl2 ce=>?_⟩;have s2:=Zg ce #[u3];refine⟨_,rfl,4,rfl,by decide,by decide,λD hD=>?_⟩;refine Sr (λj zs W e6=>(∃v:Option V,W=[U #[bS],U (.int F),U (.int G),U (.int I),U #[cq],U (.int (i:Int)),U #[aL],U (.ref l2),v])/\zs=(Wh i j).map V.bl/\j<=4/\e6 D=U #[l5]/\ZF (upd eT l2 #[u3]) e6) ⟨⟨af,rfl⟩,rfl,by lia,Zb,Zg hD _⟩ ?_ ?_
  ·rintro j zs W e6 hj ⟨⟨v,rfl⟩,rfl,hj4,lq,fL⟩;have r9:j<4:=hj;refine⟨_,rfl,_,rfl,rfl,lq,(by unfold Wh;rw[Qa,Qa,List.length_range];exact Zn #[2]),#[K],?_,by lia,Zb,λb o O=>?_⟩
   ·unfold Wh;rw[QaJ,Qd,Qd,show decide (V.int (0+(j:Int))=V.int (i:Int))=decide (j=i) from decide_eq_decide.mpr ⟨λz=>by injection z with z;lia,λz=>by rw[z,Int.zero_add]⟩];rfl
   ·show#[qR,O,hD,fL,o]
  rintro zs W e6 ⟨⟨v,rfl⟩,rfl,_,lq,fL⟩;obtain⟨sh,ev⟩:=Zp6 i hi;have h8:=s2.trans fL;refine⟨.list #[iN],.list #[iN],.lst #[fV,fL,Zb] (MR _),.lst (SqL.of lq) (MR _),sh,sh,_,rfl,?_⟩;rw[if_pos rfl,ev];replace M:=h8 _ _ M;replace N:m=af\/X2 λk fs=>m=U k/\e6 k=U (xdO k fs):=N.imp id λ⟨k,fs,J,h2⟩=>⟨k,fs,J,h8 _ _ h2⟩;refine Uk ⟨_,rfl,e,C,m,_,_,rfl,M,xg,N,kr k4,T.kg,T.kt,_,rfl,Uk ?_⟩;refine⟨_,rfl,e,C,m,_,_,rfl,M,xg,N,(λu hu=>by cases hu;exact kV),T.kg,T.kt,_,rfl,Uk ?_⟩;exact⟨⟨_,_,_,rfl⟩,sp.trans h8⟩
 ·rintro W H9 ⟨⟨v5,v6,v7,rfl⟩,B⟩;refine⟨_,rfl,l,_,_,_,rfl,rfl,SqL.of (B _ _ gl),rfl,d,am,y,_,_,rfl,B _ _ Z,B _ _ qQ,T.xg_OutOfOrder,T.na_OutOfOrder_row,rfl,_,rfl,l,_,_,_,rfl,rfl,SqL.of (B _ _ gl),rfl,d,am,y,_,_,rfl,B _ _ Z,B _ _ qQ,T.xg_OutOfOrder,T.na_OutOfOrder_place,rfl,_,rfl,l,_,_,_,rfl,rfl,SqL.of (B _ _ gl),rfl,g,aq,L,_,_,rfl,B _ _ g3,B _ _ ua,T.xg_BadLine,T.na_BadLine_line,rfl,Zn #[lD],λa1 zB=>?_⟩;have u1:=Zg zB #[u2];refine⟨_,rfl,_,rfl,_,rfl,Zn #[lD],λa2 oQ=>?_⟩;have u2:=Zg oQ #[u2];refine⟨.list ([F,G,I].map ar.int),.list ([F,G,I].map ar.int),.lst #[fV,u2,Zb] (Um [F,G,I]),.lst #[jT] (Um [F,G,I]),SQ _,SQ _,?_⟩;rw[if_neg Qo,Znu];have t:=((wc.trans B).trans u1).trans u2;have L5:=L3.same t;rw[show c+1+1+1=c+3 by lia]at L5;exact q _ L5 (jJ.trans #[eX,t])
noncomputable abbrev baS:List al:=["b", "a"]
noncomputable abbrev zzS:List al:=["zz"]
noncomputable abbrev abS:List al:=["ab"]
noncomputable abbrev enS(c:al):List al:=[c, "a", "ab"]
theorem Zp5(ss:#[Q])(k:Nat)(hk:k<ss.length+2):X2 λ(A:List al) (c:al)=>(ss++baS).take k++zzS++(ss++baS).drop k++abS=A++enS c/\A.length=ss.length+1/\(c = "b"\/c = "zz"):=by
 rcases Nat.lt_or_ge k (ss.length+1) with h|h
 ·refine⟨ss.take k++(zzS++ss.drop k), "b",?_,?_,.inl rfl⟩
  ·rw[List.take_append_of_le_length #[2],List.drop_append_of_le_length #[2]];simp
  ·simp only[List.length_append,List.length_cons,List.length_nil,List.length_take,List.length_drop];lia
 ·obtain rfl:k=ss.length+1:=by lia
  refine⟨ss++[("b" : al)], "zz",?_,by simp,.inr rfl⟩;have e:ss++baS=(ss++[("b" : al)])++[("a" : al)]:=by simp
  have l:ss.length+1=(ss++[("b" : al)]).length:=by simp
  rw[e,l,List.take_left,List.drop_left];simp
def U2(ss:#[Q])(i:Nat)(ys:#[pO]):Prop :=
 (ys=[]/\∀k,k<i->∀x y,ss[k+1]? = U x->ss[k]? = U y->0<=ZS #[aY] #[bv]) \/
 X2 λ(k:Nat) (a:List V)=>ys=.int #[ge,k]::a/\k<i/\#[kr]/\∀i,i<k->∀x y,ss[i+1]? = U x->ss[i]? = U y->0<=ZS #[aY] #[bv]
theorem U2.on{ss:#[Q]}{i:Nat}{ys:#[pO]}(h:U2 ss i ys)(hb:∀x y,ss[i+1]? = U x->ss[i]? = U y->ZS #[aY] #[bv]<0):U2 ss (i+1) (ys++[.int #[ge,i]]):=by
 rcases h with⟨rfl,h⟩|⟨k,a,rfl,h1,b,c⟩
 ·exact .inr ⟨i,[],rfl,Qbj _,hb,h⟩
 ·exact .inr ⟨k,a++[.int #[ge,i]],rfl,by lia,b,c⟩
theorem U2.off{ss:#[Q]}{i:Nat}{ys:#[pO]}(h:U2 ss i ys)(hb:∀x y,ss[i+1]? = U x->ss[i]? = U y->0<=ZS #[aY] #[bv]):U2 ss (i+1) ys:=by
 rcases h with⟨rfl,h⟩|⟨k,a,rfl,h1,b,c⟩
 ·refine .inl ⟨rfl,λk d=>?_⟩;rcases Nat.lt_succ_iff_lt_or_eq.mp d with z|rfl
  ·exact h k z
  ·exact hb
 ·exact .inr ⟨k,a,rfl,by lia,b,c⟩
def Ii(K:#[7]):Sp:=λvs H Q _=>X4 λ(p a:ae) (c:Int) (ss:List al)=>vs=#[fJ,p,a]/\Y9 H p c/\c<2 ^ 40/\H a=U #[jp]/\ss.length<=64/\#[fq,ss,1000] /\
 ∀ (t k:ae) (d:List al) (j:Int) (b:Hp),Y9 b p (c+1)->But p H b->H t=af->H k=af->b t=U (.tup #[qE,k,j])->b k=U #[tz]->d.length<=ss.length+4->#[fq,d,1000]->XF d (.int j)->Q #[jz] b
theorem Znt(T:#[e])(aK:#[n]):Df P w K mg base 3 "_law_broken" #[ci] (Ii K):=by
 show#[xL,T.t_l_broken.df,Tt];obtain⟨p,a,c,m,rfl,hL,hc,ha,uU,mx,q⟩:=h;refine⟨_,#[Ze,#[Zw,2,Tt.nd,#[i0],#[ZH,Xk,#[nz],#[ct]]],#[Ze,#[Zw,3,Tt.nd,#[3],#[f2,aK,hr,0,#[cs]]],#[Ze,#[Zw,2,Tt.nd,#[i0],#[ZH,Xk,#[ZH,Xk,#[ZH,Xk,#[W6,(slL K),#[fD,2],(@W7 _),#[Xm,‹3›]],#[eb]],#[W6,(slL K),#[fD,2],#[Xm,‹3›],(@W7 _)]],#[eb]]],#[Ze,#[UT,4,Tt.nd,Vh,(@MH _ _ _ _ _ _ _ rfl T.b.n_range #[Zc,#[Zj],#[cs]] #[5] #[5]),#[eY,5,Vh],(λ_ _ _ _=>(@UU _ _ _ #[Zm,Mx,#[Zo,#[ly],#[cv,2,Vh],#[cw,5,Vh]],#[Zo,#[ly],#[cv,2,Vh],#[ZH,Wd,#[cw,5,Vh],#[Zj]]],#[37]])),#[sa,5,Vh]],#[Zi,#[Zr,#[ZV,#[Zc,#[fD,2],#[eK,ixL,4]]]]]]]]],?_⟩;refine⟨_,rfl,a,_,rfl,.inl (SqL.of ha),λl1 h1=>?_⟩;have s1:=Zg h1 #[eu,m.map];have C:#[xO,H,l1,m.map]:=Zb;generalize upd H l1 (.lst (m.map V.str))=H1 at s1 C ⊢;refine⟨Zn #[4],λl2 h2=>?_⟩;have s2:=s1.trans (Zg h2 #[ap]);show#[ew,J,H1,l2,#[ap]];have CT:=Zg h2 #[ap] _ _ C;generalize upd H1 l2 (.lst [.str "b",.str "a"])=u at s2 J CT ⊢;refine⟨l1,l2,_,_,rfl,rfl,CT,J,#[uk],λl3 h3=>?_⟩;rw[show m.map V.str++[.str "b",.str "a"]=(m++baS).map V.str by rw[Qd];rfl];have eG:(m++baS).length=m.length+2:=by simp
 have uc:∀s∈m++baS,s.length<=1000/\AZ s:=λs hs=>by
  rcases Qj.mp hs with hs|hs
  ·exact mx s hs
  ·rcases QO.mp hs with rfl|hs
   ·exact#[bs]
   ·show#[uF]
 have xD:=Zp5 m;generalize m++baS=g at eG uc xD ⊢;have L:=s2.trans (Zg h3 #[dJ]);show#[ew,e3,u,l3,#[dJ]];generalize upd u l3 (.lst (g.map V.str))=H3 at L e3 ⊢;refine⟨_,rfl,_,rfl,l3,_,rfl,.inl (SqL.of e3),p,c,_,rfl,hL.same L,by lia,by rw[Qa];lia,by rw[Qa];lia,λk H4 k0 k1 L4 B4=>?_⟩;rw[Qa]at k1;obtain⟨k',rfl⟩:∃k':Nat,k=(k':Int):=⟨k.toNat,by lia⟩;have j6:k'<m.length+2:=by lia
 obtain⟨ca,cb⟩:=Zpn g k' #[2];have hW:l3≠p:=λz=>by obtain⟨o,ho⟩:=hL.here;show#[r3,s2,ho,h3]
 have e4:=B4 _ _ e3 hW;refine⟨_,rfl,_,rfl,_,rfl,l3,_,rfl,SqL.of e4,λM g1=>?_⟩;rw[ca];have u1:=Zg g1 #[gR,g.take];have w1:(upd H4 M #[gR,g.take]) M=U #[gR,g.take]:=Zb;generalize upd H4 M (.lst ((g.take k').map V.str))=G1 at u1 w1 ⊢;refine⟨Zn #[4],λN g2=>?_⟩;have v2:=Zg g2 #[gU,"zz"];have w2:(upd G1 N #[gU,"zz"]) N=U #[gU,"zz"]:=Zb;generalize upd G1 N (.lst [.str "zz"])=G2 at v2 w2 ⊢;have u2:=u1.trans v2;refine⟨M,N,_,_,rfl,rfl,v2 _ _ w1,w2,#[r0,Qy,Qab,#[j9]],λO g3=>?_⟩;rw[show (g.take k').map V.str++[.str "zz"]=(g.take k'++zzS).map V.str by rw[Qd];rfl];have v3:=Zg g3 #[jo];show#[qu,w3,G2,O,#[jo]];generalize upd G2 O (.lst ((g.take k'++zzS).map V.str))=G3 at v3 w3 ⊢;have u3:=u2.trans v3;refine⟨_,rfl,_,rfl,_,rfl,l3,_,rfl,SqL.of (u3 _ _ e4),λR g4=>?_⟩;rw[cb];have v4:=Zg g4 #[gR,g.drop];have w4:(upd G3 R #[gR,g.drop]) R=U #[gR,g.drop]:=Zb;generalize upd G3 R (.lst ((g.drop k').map V.str))=G4 at v4 w4 ⊢;have u4:=u3.trans v4;refine⟨O,R,_,_,rfl,rfl,v4 _ _ w3,w4,(by rw[Qa,Qa,Qf,Qy,QT];exact Qab #[j9]),λS g5=>?_⟩;rw[<- Qd];have v5:=Zg g5 #[c0];show#[ew,w5,G4,S,#[c0]];generalize upd G4 S (.lst ((g.take k'++zzS++g.drop k').map V.str))=G5 at v5 w5 ⊢;have u5:=u4.trans v5;refine⟨Zn #[4],λW g6=>?_⟩;have v6:=Zg g6 #[gU,"ab"];have w6:(upd G5 W #[gU,"ab"]) W=U #[gU,"ab"]:=Zb;generalize upd G5 W (.lst [.str "ab"])=G6 at v6 w6 ⊢;have u6:=u5.trans v6;have gt:(g.take k'++zzS++g.drop k').length=m.length+3:=by simp only[List.length_append,List.length_take,List.length_drop,List.length_cons,List.length_nil];lia
 refine⟨S,W,_,_,rfl,rfl,v6 _ _ w5,w6,#[r0,gt,Qab,#[j9]],λn g7=>?_⟩;rw[show (g.take k'++zzS++g.drop k').map V.str++[.str "ab"]=#[p5].map V.str from(Qd (f:=V.str) (l₂:=abS)).symm];obtain⟨A0,c0,eA,lA,yJ⟩:=xD k' j6;have CU:∀s∈g.take k'++zzS++g.drop k'++abS,s.length<=1000/\AZ s:=λs hs=>by
  rcases Qj.mp hs with hs|hs
  ·rcases Qj.mp hs with hs|hs
   ·rcases Qj.mp hs with hs|hs
    ·exact uc s (QU hs)
    ·show#[uF]
   ·exact uc s (Qae hs)
  ·show#[uF]
 have CW:#[p5].length=m.length+4:=by rw[Qf,gt];rfl
 generalize g.take k'++zzS++g.drop k'++abS=l at eA CU CW ⊢;have v7:=Zg g7 #[eu,l.map];have X:#[xO,G6,n,l.map]:=Zb;generalize upd G6 n (.lst (l.map V.str))=G7 at v7 X ⊢;have u7:=u6.trans v7;have B7:But p H G7:=(#[eX,L].trans B4).trans #[eX,u7];have HC:H n=af:=by
  cases e:H n with
  | none=>rfl
  | some o =>
   have np:n≠p:=λz=>by obtain⟨o',eS⟩:=L4.here;show#[r3,u6,eS,g7]
   have:=u6 _ _ (B4 _ _ (L _ _ e) np);rw[g7]at this;cases this
 have L7:Y9 G7 p (c+1):=L4.same u7;have hl:#[fj,l.map,V.str]=#[c4]:=by rw[Qa]
 refine⟨_,rfl,n,_,rfl,.inl (SqL.of X),_,_,rfl,#[pe],λD hD=>?_⟩;rw[show (#[fj,l.map,V.str]-1).toNat=l.length-1 by lia];refine Lz (λi B σ u=>(∃v:Option V,σ=[U #[bS],U #[iB],U (.ref n),U (.int (k':Int)),af,v])/\U2 l i B/\B.length<=i/\i<=l.length-1/\u D=U (.lst B)/\ZF G7 u) ?_ ?_ ?_
 ·exact⟨⟨af,rfl⟩,.inl ⟨rfl,λk hk=>absurd hk (Nat.not_lt_zero _)⟩,Qh _,Qu _,Zb,Zg hD _⟩
 ·rintro i B σ u hi ⟨⟨v,rfl⟩,Y,yX,qB,Z,r⟩;have vc:=SqL.of (K:=K) (r _ _ X);have C:(1+(i:Int))=#[ge,i]:=by lia
  have J:(1+(i:Int)-1)=#[fY,i]:=by lia
  have l1:i+1<l.length:=by lia
  have l0:i<l.length:=by lia
  refine⟨_,rfl,_,rfl,n,_,_,_,rfl,rfl,vc,#[eR,C,RF,l1],_,rfl,_,rfl,_,_,rfl,rfl,n,_,_,_,rfl,rfl,vc,#[eR,J,RF,l0],_,_,rfl,rfl,_,rfl,?_⟩;have vG:l[i+1]? = U l[i+1]:=Qb l1;have CY:l[i]? = U l[i]:=Qb l0;show if decide (cds l[i+1]<cds l[i])=true then _ else _
  show#[lI]
  ·have d':=(Uz _ _).mp (of_decide_eq_true d);refine⟨_,rfl,Z,Zn #[2],#[K],?_,#[xU,Qf,Qz],by lia,Zb,λb o h=>?_⟩
   ·rw[C];exact Y.on λx y F G=>by rw[vG]at F;show#[fe,CY,G,F];cases G;exact d'
   ·show#[qR,h,hD,r,o]
  ·refine⟨⟨_,rfl⟩,Y.off λx y F G=>?_,by lia,by lia,Z,r⟩;rw[vG]at F;show#[fe,CY,G,F];cases G;exact Int.not_lt.mp λz=>d (decide_eq_true ((Uz _ _).mpr z))
 rintro B σ u ⟨⟨v,rfl⟩,Y,yX,_,Z,r⟩;obtain⟨k,tl,rfl,hki,tY,zC⟩:X2 λ(k:Nat) (tl:List V)=>B=.int ((k+1:Nat):Int)::tl/\k<l.length-1/\(∀x y,l[k+1]? = U x->l[k]? = U y->ZS (cds x) (cds y)<0)/\∀i,i<k->∀x y,l[i+1]? = U x->l[i]? = U y->0<=ZS (cds x) (cds y):=by
  rcases Y with⟨_,h⟩|h
  ·exfalso;have t2:l[A0.length+1]? = U ("a" : al):=by rw[eA,QE #[2]];simp
   have t1:l[A0.length]? = U c0:=by rw[eA,QE #[2]];simp
   have:=h A0.length #[2] _ _ t2 t1;rcases yJ with rfl|rfl
   ·exact absurd this #[1]
   ·exact absurd this #[1]
  ·exact h
 refine⟨_,rfl,_,rfl,D,_,_,_,rfl,rfl,SqL.of Z,(Yo (j:=0) rfl),Zn #[4],λt I=>?_⟩;refine q t n l _ _ ((L7.same r).new I) ((B7.trans #[eX,r]).trans #[qY,I]) ?_ HC Zb (Zg I _ _ _ (r _ _ X)) #[2] CU (.inr ⟨k,rfl,by lia,tY,zC⟩);cases e:H t with
 | none=>rfl
 | some o =>
  have np:t≠p:=λz=>by obtain⟨o',eS⟩:=L7.here;show#[r3,r,eS,I]
  have:=r _ _ (B7 _ _ e np);rw[I]at this;cases this
theorem PQ{A:#[Q]}{x y:al}{B:#[Q]}(c:sortedS (A++[x])=true)(d:ZS #[bv] #[aY]<0):XF (A++x::y::B) (.int #[ge,A.length]):=by
 refine .inr ⟨A.length,rfl,by rw[Qf,QH,QH];lia,λu v a b=>?_,λi hi u v a b=>?_⟩
 ·rw[QE (Q1 _),Nat.succ_sub #[jJ],QaA]at a;show#[r9,b,a];cases b;exact d
 ·have e:A++x::y::B=(A++[x])++y::B:=by simp
  rw[e,QM #[xU,Qf,Qz]]at a b;rcases S6 c with⟨_,h⟩|⟨_,h,_⟩
  ·exact h i u v a b
  ·cases h
theorem Zk7(x:al)(h:0<x.length):Txt.slice x af #[w8]=Txt.slice x af (U #[km]):=by
 have e:aO.Str.strSliceIndices af #[w8] 1 x.length=aO.Str.strSliceIndices af (U #[km]) 1 x.length:=by unfold aO.Str.strSliceIndices;simp only[show (1:Int)>0 by decide,if_true,show (-1:Int)<0 by decide,show ¬ (#[km]<0) by lia,if_false];rw[show max 0 (min (-1+#[p4]) #[p4])=max 0 (min #[km] #[p4]) by lia]
 unfold Txt.slice;rw[e]
theorem Ih:∀ {l:List Nat},l≠[]->l.take (l.length-1)<l
 | [],h=>absurd rfl h
 | [a],_=>by simp
 | a::b::r,_=>by have c:=Ih (l:=b::r) #[4];rw[show (a::b::r).length-1=(b::r).length-1+1 by simp,QaW];exact List.cons_lt_cons_iff.mpr (.inr ⟨rfl,c⟩)
noncomputable def YX(ss:#[Q]):al:=(#[ao]++ss).getLast #[4]
theorem ZnI(ss:#[Q]):YX ss∈#[ao]++ss:=List.getLast_mem _
theorem Ig{ss:#[Q]}(h:ss≠[]):∃A,ss=A++[YX ss]:=by
 rcases List.eq_nil_or_concat ss with z|⟨r,y,rfl⟩
 ·exact absurd z h
 ·refine⟨r,?_⟩;unfold YX;rw[List.getLast_append_of_ne_nil #[4] h,show (r.concat y).getLast h=y by simp,List.concat_eq_append]
noncomputable abbrev e2S:List al:=["", "a"]
noncomputable abbrev e3S:List al:=["", "b", "a"]
noncomputable abbrev e1S:List al:=[""]
theorem Znv{ss:#[Q]}(h:#[oh]):(ss≠[]->YX ss ≠ ""->XF (ss++e2S) (.int #[ks]))/\(YX ss ≠ ""->XF (ss++[YX ss,Txt.slice (YX ss) af #[w8]]) (.int (#[ks]+1)))/\(YX ss = ""->XF (ss++e3S) (.int (#[ks]+2))):=by
 have i:∀x:al,LeS x x:=λx=>List.not_lt.mpr (List.le_refl _);have b:∀x:al,x ≠ ""->x.cps.toList≠[]:=λx f z=>f (by have:x=⟨x.cps⟩:=rfl;rw[this,show x.cps = #[] from by simpa using z];rfl);have sing:∀x:al,sortedS [x]=true:=λx=>by rw[PU];exact Qa4 ..
 refine⟨λj c=>?_,λc=>?_,λc=>?_⟩
 ·obtain⟨A,e⟩:=Ig j;have d:=PQ (A:=A) (x:=YX ss) (y := "") (B:=["a"]) #[eJ,e,h] ((Uz _ _).mp (by
   show ([]:List Nat)<(YX ss).cps.toList;cases g:(YX ss).cps.toList with
   | nil=>exact absurd g (b _ c)
   | cons a r=>simp))
  have k:ss++e2S=A++YX ss::e2S:=by rw[show A++YX ss::e2S=(A++[YX ss])++e2S by simp,<- e]
  have l:A.length+1=ss.length:=by rw[e,Qf];rfl
  rw[k,<- l];exact d
 ·have g:0<(YX ss).length:=by have:=b _ c;rw[al.length];have:=QaC.mpr this;simpa using this
  have d:=PQ (A:=ss) (x:=YX ss) (y:=Txt.slice (YX ss) af #[w8]) (B:=[]) (Na h (sing _) (λx f=>by rw[Qi.mp f];exact i _)) ((Uz _ _).mp (by show (Txt.slice (YX ss) af #[w8]).cps.toList<_;rw[Zk7 _ g,T7,show (YX ss).length=(YX ss).cps.toList.length by simp[al.length]];exact Ih (b _ c)));exact d
 ·have m:sortedS ((ss++e1S)++[("b" : al)])=true:=by rw[Qay];refine Na h #[1] λx f=>?_;show LeS (YX ss) x;rw[c];exact λz=>by revert z;show ¬ x.cps.toList<[];simp
  have d:=PQ (A:=ss++e1S) (x := "b") (y := "a") (B:=[]) m #[1];rw[Qay,show (ss++e1S).length+1=ss.length+2 by rw[Qf];rfl]at d;exact d
def ZtO:Sp:=λvs H Q _=>X9 λ(p o ra ga:ae) (c:Int) (Lo:List ZE) (nb li lo:Int)=>vs=#[fJ,p,o]/\Y9 H p c/\c<2 ^ 30/\Own H o ra ga Lo nb li lo/\(o≠p/\ra≠p/\ga≠p)/\(∀e∈Lo,e.2.1≠p/\sortedS e.2.2.1=true/\0<=e.1/\e.1<nb)/\#[57].Pairwise #[oD]/\0<=nb/\nb<=100 /\
 ∀ (t:ae) (ask:al) (g m w:V) (d:Option (Option (Int×Int))) (b:Int) (a:Hp),c<=b->b<=c+10->Y9 a p b->But p H a->Rf (pur Lo) nb a ask g m d->VH H a d w->H t=af->a t=U (.tup [.str ask,g,m,w])->Q #[jz] a
theorem Zss(T:#[e])(aK:#[n])(gF:Df P w K mg base 3 "_law_broken" #[ci] (Ii K)):Df P w K mg base 4 "_law_bad" #[ut] ZtO:=by
 show#[ee,T.t_l_bad.df,WO,vs,y];obtain⟨p,o,ra,ga,c,Lo,nb,li,lo,rfl,hL,c40,ow,⟨zp,tQ,zq⟩,lj,cD,kq,vV,q⟩:=h;refine⟨_,#[Ze,#[Zw,2,WO.nd,#[i0],#[Zk,UO,#[5],T.b.n_sorted,boot_sorted,#[Zc,#[90]]]],#[Ze,#[Zw,3,WO.nd,#[3],#[ZH,Xk,#[ZJ,#[Zc,#[c6],#[90],#[ZH,Z9,#[90],#[Zj]],#[ZH,ME,#[Zj],#[Zj]]]],#[Xj,Tn,#[so,#[90]],#[eY,11,Tn],(λ_ _ _ _=>(@UU _ _ _ #[Zm,(ZrZ K),#[cw,11,Tn],#[cv,2,Tn],#[ab]])),#[sa,11,Tn]]]],#[Ze,#[gb,3,WO.nd,aK,y],#[Ze,#[Zw,4,WO.nd,#[3],#[hZ,y]],#[Ze,#[ZN,(@PW.pt _ _ _ #[Xd,#[aS],#[WG,#[Zm,(@eqD _ K _ y #[5]),#[fD,2],#[cS],#[37]]]]),#[Ze,#[Z2,#[f2,gF,y,0,#[ct]],#[qC,5,WO.nd,6]],#[Zi,#[Zr,#[ZV,#[Zc,#[Zl],‹5›,#[ZU],#[ZV,#[Zc,#[Zl],#[90],‹6›]]]]]]],#[Zy]],#[Ze,#[ZN,#[aS],#[Zi,#[Zr,#[ZV,#[Zc,#[Zl],‹3›,#[ZU],#[Zl]]]]],#[Zy]],#[Ze,#[ZN,#[aS],#[Zi,#[Zr,#[ZV,#[Zc,#[Zl],‹3›,#[Zo,#[ly],#[ZJ,#[xt]],#[hZ,y]],#[Zl]]]]],#[Zy]],#[Ze,#[Zw,7,WO.nd,#[3],#[Zo,#[ly],#[fD,2],#[f2,aK,y,0,#[cs]]]],#[Ze,#[UT,8,WO.nd,VT,#[iL,K,#[fD,2]],#[eY,11,VT],(λ_ _ _ _=>(@UU _ _ _ #[Zm,YW,#[fM,y,1,VT,11],#[Zk,(YU K),#[q1,VT],T.b.n_len,Qr,#[Zc,#[fM,y,1,VT,11]]],#[37]])),#[sa,11,VT]],#[W4,#[ZN,(@PW.pt _ _ _ #[Ya,#[fW,y,8],#[Xu,#[Zm,YW,#[hZ,y],#[Zj],#[37]]]]),#[Zi,#[Zw,7,WO.nd,#[3],#[Zo,#[ly],‹8›,#[Zx,aK,y,#[Zc,‹0›,#[Zk,(YU K),#[5],T.b.n_len,Qr,#[Zc,‹8›]]],#[5]]]]],#[Zy]],#[Ze,#[Zw,9,WO.nd,#[3],#[fN,y,#[90],7]],#[Ze,#[ZN,(@PW.pt _ _ _ #[Ya,#[fW,y,9],#[Ya,#[Zm,ZnC,#[rN,9],#[Zl],#[37]],#[Xu,#[aS]]]]),#[Zi,#[Zr,#[ZV,#[Zc,#[Zl],‹7›,#[ct],#[ZV,#[Zc,#[Zl],‹7›,#[Zk,(YU K),#[5],T.b.n_len,Qr,#[Zc,‹9›]]]]]]]],#[Zy]],#[Ze,#[Zw,10,WO.nd,#[3],#[Zo,#[ly],#[ZH,Xk,#[eb],‹9›],#[c6]]],#[Ze,#[ZN,#[ek,Sz,10,#[Zl]],#[Zi,#[Zr,#[ZV,#[Zc,#[Zl],‹7›,#[ZJ,#[Zc,‹10›,#[W6,Pk,‹10›,(@W7 _),#[Xm,#[c6]]]]],#[df]]]]],#[Zy]],#[Zi,#[Zr,#[ZV,#[Zc,#[Zl],‹7›,#[ZJ,#[Zc,#[Zl],#[Zl],#[Zl]]],#[df]]]]]]]]]]]]]]]]]]],?_⟩;have c0:=hL.ge;have eK:=ow.few;have jR:∀ {G:Hp},But p H G->Own G o ra ga Lo nb li lo:=λ{G} B=>ow.keep λb u C ho=>B b u C (by
  rcases ho with z|z|z|⟨e,I,z⟩
  ·rw[z];exact zp
  ·rw[z];exact tQ
  ·rw[z];exact zq
  ·rw[z];exact(lj e I).1)
 have dF:∀ {G:Hp} {b:ae},But p H G->(∃u,G p=U u)->G b=af->H b=af:=λ{G b} B hp C=>by
  cases e:H b with
  | none=>rfl
  | some u =>
   by_cases z:b=p
   ·show#[h1,u',hu',hp,C]
   ·rw[B b u e z]at C;cases C
 refine⟨_,rfl,o,_,rfl,ZM.k' (k:=#[bQ]) ow.at' #[nQ],ra,_,Lo.map #[T],rfl,ow.rows,Rs Lo,by rw[Qa];lia,λL ns gK cK cx=>?_⟩;show#[ky];have nN:=Zg gK #[oW];have jQ:#[hS,H,L,#[C]] L=U #[oW]:=Zb;have lm:L≠p:=by obtain⟨u,hu⟩:=hL.here;exact(Zf hu gK).symm
 generalize upd H L (.lst (ns.map V.int))=H1 at nN jQ ⊢;have ci:=jR #[eX,nN];refine⟨_,rfl,_,rfl,o,_,rfl,ZM.k' (k:=#[d0]) ci.at' (V6 ..),_,rfl,o,_,rfl,ZM.k' (k:=#[d0]) ci.at' (V6 ..),_,_,rfl,rfl,_,_,rfl,rfl,⟨by decide,by decide,by decide⟩,Zn #[lD],λa1 zB=>?_⟩;have zD:=Zg zB #[mp];have cZ:=ci.same zD;refine⟨_,rfl,o,_,rfl,ZM.k' (k:=#[d0]) cZ.at' (V6 ..),nb,rfl,by lia,by lia,λD W=>?_⟩;have sC:H1 D=af:=zD.free W;have HD:a1≠D:=Zf (show (upd H1 a1 #[mp]) a1=U _ from Zb) W;refine Lz (λj zs M H3=>(∃v:Option V,M=[U #[bS],U #[k8],U (.ref L),af,af,af,af,af,af,af,af,v])/\(∃i:List Int,zs=i.map V.int/\i.length<=j/\∀m∈i,m ∉ ns/\0<=m/\m<nb)/\(j:Int)<=nb/\H3 D=U #[l5]/\ZF H1 H3/\H3 a1=U #[mp]) ⟨⟨af,rfl⟩,#[oc],kq,Zb,zD.trans (Zg W _),Zg W _ _ _ Zb⟩ ?_ ?_
 ·rintro j zs M H3 hj ⟨⟨v,rfl⟩,⟨i,rfl,fY,O⟩,hjn,gM,s3,ud⟩;refine⟨_,rfl,_,rfl,L,_,rfl,.inl #[fV,s3,jQ],rfl,P6 ns,_,rfl,?_⟩;simp only[P7,if_true];by_cases J:(0+(j:Int))∈ns
  ·exact WR J ⟨⟨_,rfl⟩,⟨i,rfl,by lia,O⟩,by lia,gM,s3,ud⟩
  refine Vd J ⟨_,rfl,gM,#[ec],#[K],⟨i++[0+(j:Int)],by rw[Qd];rfl,by rw[Qf];exact Qbl fY,λm h=>?_⟩,by lia,Zb,λb u C=>?_,by rw[Zd HD];exact ud⟩
  ·rcases Qj.mp h with h|h
   ·exact O m h
   ·rw[Qi.mp h];exact⟨J,by lia,by lia⟩
  ·show#[qR,C,sC,s3,u]
 rintro zs M H3 ⟨⟨v,rfl⟩,⟨i,rfl,fY,O⟩,_,gM,s3,ud⟩;refine⟨a1,D,_,_,rfl,rfl,ud,gM,(by rw[Qa,Qa];show 4+i.length<=ao;exact Yu #[2]),λa3 sG=>?_⟩;rw[<- Qd];have CZ:=Zg sG #[kN];have jM:=(nN.trans s3).trans CZ;have L4:=hL.same jM;have nQ:=CZ _ _ (s3 _ _ jQ);show#[qu,nU,H3,a3,#[kN]];generalize upd H3 a3 (.lst (([-1,nb,nb+5,10 ^ 6]++i).map V.int))=H4 at jM L4 nQ nU ⊢;have C0:a3≠p:=λz=>by obtain⟨u,hu⟩:=(hL.same (nN.trans s3)).here;show#[rZ,hu,sG]
 have hN:∀v∈[-1,nb,nb+5,10 ^ 6]++i,v ∉ ns/\v.natAbs<2 ^ 21:=λv hv=>by
  have dY:∀n:Int,(n<0\/nb<=n)->n ∉ ns:=λn hn h=>by rw[dO]at h;show#[en,e,I,h];have:=(lj e I).2.2;lia
  rcases Qj.mp hv with h|h
  ·show#[g1,h];rcases h with rfl|rfl|rfl|rfl
   ·exact⟨dY _ (.inl #[6]),by decide⟩
   ·exact⟨dY _ (.inr (Int.le_refl _)),by lia⟩
   ·exact⟨dY _ (.inr #[2]),by lia⟩
   ·exact⟨dY _ (.inr #[2]),by decide⟩
  ·have:=O v h;exact⟨this.1,by lia⟩
 have C1:0<(#[bI]++i).length/\(#[bI]++i).length<=104:=by rw[Qf];show 0<4+i.length/\4+i.length<=104;lia
 generalize [-1,nb,nb+5,10 ^ 6]++i=N at nU hN C1;clear O gM s3 cZ jQ ci ud;have HE:#[iO]:=by rw[Qa]
 refine⟨_,rfl,_,rfl,_,rfl,a3,_,rfl,.inl (SqL.of nU),p,c,_,rfl,L4,by lia,by lia,by lia,λix H5 pp we L5 B5=>?_⟩;obtain⟨v,C2,hv⟩:=UA (ns:=N) pp #[2];obtain⟨HF,C3⟩:=hN v C2;refine⟨a3,_,_,_,rfl,rfl,SqL.of (B5 _ _ nU C0),hv,_,rfl,p,c+1,_,rfl,L5,by lia,by decide,by decide,λwy H6 CC CD L6 B6=>?_⟩;have ph:=(#[eX,jM].trans B5).trans B6;have ue:=B6 _ _ (B5 _ _ nQ lm) lm;clear nU hN C1 HE C2 hv pp we nQ L4 L5;refine⟨_,rfl,rfl,_,rfl,Iq (decide (ns=[])) #[qK,_,T1,Y] (λH7 s7=>?_)⟩
 ·show#[cK];refine⟨.list #[cl],.list [],.lst #[fV,sz,ue] (Um _),.lst #[jT] .nil,SQ _,#[1],_,rfl,?_⟩;rw[if_neg Qo,show ar.eqv #[tu] #[jK]=decide (ns=[]) by
   cases ns with
   | nil=>simp[ar.eqv,ar.eqvAll]
   | cons a r=>simp[ar.eqv,ar.eqvAll]]
  exact Y _ sz
 have my:=ph.trans #[eX,s7];have L7:=L6.same s7;have ke:=jR my;have uf:=s7 _ _ ue;clear ph L6 ue;have nP:v ∉ Xx (pur Lo):=by rw[<- SW,<- dO];exact HF
 have jl:∀x:al,(x = ""\/x = "a"\/x = "b"\/x = "ab")->x.length<=1000/\AZ x:=λx l=>by rcases l with rfl|rfl|rfl|rfl<;>exact#[iC]
 refine Y1 #[lX] #[aM]
 ·show#[fP,#[L],ka,uc];have C4:=Zg uc (.lst [.str "a",.str "ab"]);refine⟨p,ka,c+1+1,["a", "ab"],rfl,L7.same C4,by lia,Zb,by decide,λx l=>jl x #[dQ],λt1 k1 ts j H9 Z B9 qD xX Y h2 hl hz C=>?_⟩;have X:=(my.trans #[eX,C4]).trans B9;refine⟨t1,_,rfl,SqT.of Y,rfl,_,_,rfl,_,_,rfl,rfl,_,rfl,_,rfl,o,_,rfl,ZM.k' (k:=#[d0]) (jR X).at' (V6 ..),_,rfl,Zn #[lD],λw hw=>⟨Zn #[lD],λt F=>?_⟩⟩;have R:=Zg hw #[hM,nb,j];have st:=R.trans (Zg F (.tup [.str "add",.ref k1,.non,.ref w]));exact q t "add" (.ref k1) .non (.ref w) (U (U (nb,j))) (c+1+1+1) _ #[2] #[2] (Z.same st) (X.trans #[eX,st]) (.inl ⟨rfl,rfl,rfl,k1,ts,rfl,st _ _ h2,⟨Ql hl #[6],hz⟩,C⟩) ⟨w,rfl,dF X Z.here hw,Zg F _ _ _ Zb⟩ (dF X Z.here (R.free F)) Zb
 refine#[ho,_]
 ·refine⟨_,rfl,Zn #[lD],λt F=>?_⟩;have st:=Zg F (.tup [.str "drop",.int v,.non,.str "no row"]);exact q t "drop" #[me] .non (.str "no row") af (c+1+1) _ #[2] #[2] (L7.same st) (my.trans #[eX,st]) ⟨.inl #[bM],v,rfl,nP,C3⟩ rfl (dF my L7.here F) Zb
 refine#[ho,_]
 ·show#[fP,#[bx],d1,nR];have mq:=Zg nR #[gU,"a"];show#[g7,#[L],d2,iu];have gE:=Zg iu #[ap];show#[g7,#[15],d3,jf];have iG:=Zg jf #[br];show#[g7,#[21],d4,C5];have ku:=Zg C5 (.lst #[c9]);have qR:=#[mr].trans ku;have L8:=L7.same qR;refine⟨_,rfl,p,c+1+1,_,rfl,L8,by lia,by decide,by decide,λpk H9 C6 HG Z B9=>?_⟩;have nu:∀b,H7 b=af->b≠p:=λb C z=>by obtain⟨u,hu⟩:=L7.here;show#[rZ,hu,C]
  have f2:H7 d2=af:=mq.free iu;have f3:H7 d3=af:=(mq.trans gE).free jf;have f4:H7 d4=af:=#[mr].free C5;have Y:=B9 _ _ (ku _ _ #[rf,iG,gE,Zb]) (nu d1 nR);have h2:=B9 _ _ #[rf,ku,iG,Zb] (nu d2 f2);have h3:=B9 _ _ (ku _ _ Zb) (nu d3 f3);have h4:=B9 _ _ Zb (nu d4 f4);obtain⟨kl,ks,cJ,iB,eG⟩:X2 λ(kl:ae) (ks:List al)=>atI [.ref d1,.ref d2,.ref d3] pk=U (V.ref kl)/\H9 kl=U (.lst (ks.map V.str))/\SM ks:=by
   rcases(show pk=0\/pk=1\/pk=2 by lia) with rfl|rfl|rfl
   ·exact⟨d1,["a"],rfl,Y,by decide,λx l=>jl x (by simp at l;simp[l])⟩
   ·exact⟨d2,["b", "a"],rfl,h2,by decide,λx l=>jl x #[dQ]⟩
   ·exact⟨d3,[],rfl,h3,by decide,λx l=>by cases l⟩
  have X:=(my.trans #[eX,qR]).trans B9;refine⟨d4,_,_,_,rfl,rfl,SqL.of h4,cJ,Zn #[lD],λt F=>?_⟩;have st:=Zg F (.tup [.str "grow",.int v,.ref kl,.str "no row"]);exact q t "grow" #[me] (.ref kl) (.str "no row") af (c+1+1+1) _ #[2] #[2] (Z.same st) (X.trans #[eX,st]) ⟨.inr ⟨rfl,kl,rfl⟩,v,rfl,nP,C3⟩ rfl (dF X Z.here F) Zb
 have bR:ns≠[]:=λz=>d (by rw[decide_eq_true z,Qaz]);have hnl0:0<ns.length:=QaC.mpr bR;have hnsl:ns.length<=60:=by rw[dO,Qa];exact eK
 have Fq:#[mQ]=#[vz]:=by rw[Qa]
 refine⟨_,rfl,_,rfl,_,rfl,L,_,rfl,.inl (SqL.of uf),p,c+1+1,_,rfl,L7,by lia,by lia,by lia,λix H8 pp we L8 B8=>?_⟩;obtain⟨n0,HH,cJ⟩:=UA (ns:=ns) pp #[2];have qc:=B8 _ _ uf lm;refine⟨L,_,_,_,rfl,rfl,SqL.of qc,cJ,?_⟩;have qN:=my.trans B8;have C7:=jR qN;clear pp we cJ L7 my ke uf d bR;have ug:∀m∈ns,∃e∈Lo,e.1=m:=λm J=>Qq.mp (by rw[dO]at J;exact J);refine⟨_,rfl,L,rfl,⟨_,SqL.of qc⟩,λD W=>?_⟩;refine Zrc (K:=K) (a:=L) (xs:=ns.map V.int) (λj zs M H9=>(∃v':Option V,M=[U #[bS],U #[k8],U (.ref L),U #[me],U #[tv],af,af,U (.int n0),af,af,af,v'])/\(∃i:List Int,zs=i.map V.int/\i.length<=j/\∀m∈i,m∈ns)/\j<=ns.length/\H9 D=U #[l5]/\ZF H8 H9) ⟨⟨af,rfl⟩,#[oc],Qu _,Zb,Zg W _⟩ (λj zs M H9 h=>SqL.of (h.2.2.2.2 _ _ qc)) ?_ ?_
 ·rintro j x zs M H9 l ⟨⟨v',rfl⟩,⟨i,rfl,fY,O⟩,hj,gO,s9⟩;rw[Qp]at l;cases J:ns[j]? with
  | none=>rw[J]at l;cases l
  | some m =>
  show#[fe,J,l,l];have ff:=Qv J;have lY:j<ns.length:=(Qe.mp J).1;obtain⟨e,I,rfl⟩:=ug m ff;have jV:=C7.same s9;refine⟨_,rfl,o,_,rfl,ZM.k' (k:=#[kH]) jV.at' (V7 ..),_,rfl,ga,_,rfl,ZM.k' (k:=#[mE]) jV.gone (Uu jV.nd I),_,rfl,o,_,rfl,ZM.k' (k:=#[bQ]) jV.at' #[nQ],_,rfl,ra,_,rfl,ZM.k' (k:=#[mE]) jV.rows (U9 jV.nd I),e.2.1,_,rfl,.inl (SqL.of (jV.lst e I).1),rfl,_,rfl,Y1 #[lX] #[lX]⟩
  ·refine⟨_,rfl,gO,#[ec],#[K],⟨i++[e.1],by rw[Qd];rfl,by rw[Qf,Qz];lia,λm h=>?_⟩,lY,Zb,λb u C=>?_⟩
   ·rcases Qj.mp h with h|h
    ·exact O m h
    ·rw[Qi.mp h];exact ff
   ·show#[qR,C,W,s9,u]
  ·exact⟨⟨_,rfl⟩,⟨i,rfl,by lia,O⟩,lY,gO,s9⟩
 rintro zs M H9 ⟨⟨v',rfl⟩,⟨i,rfl,fY,O⟩,_,gO,s9⟩;rw[Qa]at fY;have X:=qN.trans #[eX,s9];have Z:=L8.same s9;have oO:D≠p:=λz=>by obtain⟨u,hu⟩:=L8.here;show#[rZ,hu,W]
 obtain⟨e0,qP,ee⟩:=ug n0 HH;refine⟨λM eT=>X3 λ(e:ZE) (c':Int) (v8:Option V)=>e∈Lo/\M=[U #[bS],U #[k8],U (.ref L),U #[me],U #[tv],af,af,U #[m6],v8,af,af]/\c+3<=c'/\c'<=c+5/\Y9 eT p c'/\But p H eT,?_,?_⟩
 ·show#[cK];refine⟨.list (i.map ar.int),.list [],.lst #[fV,sz,gO] (Um _),.lst #[jT] .nil,SQ _,#[1],_,rfl,?_⟩;rw[if_pos rfl,show ar.eqv (.list (i.map ar.int)) #[jK]=decide (i=[]) by
   cases i with
   | nil=>simp[ar.eqv,ar.eqvAll]
   | cons a r=>simp[ar.eqv,ar.eqvAll]]
  have ko:=Z.same sz;have i3:=X.trans #[eX,sz];by_cases h0:i=[]
  ·exact WR h0 ⟨e0,c+1+1+1,_,qP,by rw[ee];rfl,by lia,by lia,ko,i3⟩
  refine Vd h0 ⟨_,rfl,p,c+1+1+1,_,rfl,ko,by lia,by decide,by decide,λpk e6 C6 pk2 i4 qS=>⟨rfl,_,rfl,Y1 #[lX] #[lX]⟩⟩
  ·have hlm:#[sj,i.map]=(i.length:Int):=by rw[Qa]
   have hm0:0<i.length:=QaC.mpr h0;have lq:=qS _ _ (sz _ _ gO) oO;refine⟨_,rfl,_,rfl,_,rfl,D,_,rfl,.inl (SqL.of lq),p,c+1+1+1+1,_,rfl,i4,by lia,by lia,by lia,λix ic pp we nV mC=>?_⟩;obtain⟨m,J,cJ⟩:=UA (ns:=i) pp #[2];obtain⟨e,I,HI⟩:=ug m (O m J);exact⟨D,_,_,_,rfl,rfl,SqL.of (mC _ _ lq oO),cJ,e,_,_,I,by rw[HI];rfl,by lia,by lia,nV,(i3.trans qS).trans mC⟩
  ·exact⟨e0,c+1+1+1+1,_,qP,by rw[ee];rfl,by lia,by lia,i4,i3.trans qS⟩
 clear Z X s9 gO i O fY ee qP e0 C7 qN qc L8 W oO;rintro M eT ⟨e,c',v8,I,rfl,sE,g9,ko,i3⟩;have i9:=jR i3;obtain⟨oH,mv,_,sO⟩:=i9.lst e I;obtain⟨nep,eW,_,_⟩:=lj e I;show#[qS,bA,bB,bC,Znv,eW];have HJ:#[oN]∈pur Lo:=Qg (f:=#[cP]) I;obtain⟨g,mx⟩:∃g,g=e.2.2.1:=#[K];rw[<- mx]at oH mv sO eW bA bB bC;have HK:∀x∈g,AZ x:=λx l=>(sO x l).2;have wf:(YX g).length<=1000/\AZ (YX g):=by
  rcases Qj.mp (ZnI g) with h|h
  ·exact jl _ (.inl (Qi.mp h))
  ·exact sO _ h
 have zE:(#[69])=(g.length:Int):=by rw[Qa]
 have fin:∀ {G:Hp} {k w t:ae} {ks:List al} {j:Int},Y9 G p c'->But p H G->G k=U #[12]->SM ks->XF (g++ks) (.int j)->G w=U #[hM,e.1,j]->H w=af->G t=af->Q #[jz] (upd G t #[mn]):=λ{G k w t ks j} L' B' hk eG C hw HL F=>by have st:=Zg F #[mn];exact q t "grow" #[m6] (.ref k) (.ref w) (U (U (e.1,j))) c' _ #[2] #[2] (L'.same st) (B'.trans #[eX,st]) (.inr ⟨rfl,_,HJ,rfl,rfl,k,ks,rfl,st _ _ hk,eG,by show XF (e.2.2.1++ks) _;rw[<- mx];exact C⟩) ⟨w,rfl,HL,st _ _ hw⟩ (dF B' L'.here F) Zb
 clear q;refine⟨_,rfl,o,_,rfl,ZM.k' (k:=#[bQ]) i9.at' #[nQ],_,rfl,ra,_,rfl,ZM.k' (k:=#[mE]) i9.rows (U9 i9.nd I),_,rfl,#[15],λz hz=>?_⟩;have sz:=Zg hz #[br];refine⟨.list (g.map ar.str),.list [],.lst #[fV,sz,oH] (VR g),.lst #[jT] .nil,Ve g HK,#[1],_,rfl,?_⟩;rw[if_pos rfl,Iz];have i4:=ko.same sz;have qS:=i3.trans #[eX,sz];have pq:=sz _ _ oH;generalize upd eT z (.lst [])=e6 at i4 qS pq ⊢;refine PR (decide ((("" : al)).cps.toList<(YX g).cps.toList)&&decide (V.int wy=V.int 3)) #[qK,hc,T1,Y] (λic h8=>?_)
 ·have h0:g≠[]:=λz=>by rw[decide_eq_true z]at hc;cases hc
  obtain⟨A,eA⟩:=Ig h0;refine⟨_,rfl,_,rfl,e.2.1,_,_,_,rfl,rfl,SqL.of pq,Nc (x:=.str (YX g)) ?_ #[eR,Qa,QaC.mpr,h0],_,_,rfl,rfl,_,rfl,?_⟩
  ·rw[Qa,Qp];have:g[g.length-1]? = U (YX g):=by generalize YX g=x at eA ⊢;rw[eA];simp
   rw[this];rfl
  exact PR (decide (V.int wy=V.int 3)) (λ_ T2 h2=>⟨_,rfl,rfl,_,rfl,h2 _ #[ti]⟩) Y
 have nV:=i4.same h8;have mC:=qS.trans #[eX,h8];have pA:=h8 _ _ pq;have C8:∀ {b:ae},ic b=af->H b=af:=λh=>dF mC nV.here h;refine Y1 #[aM] #[lX]
 ·rw[QZ,QZ]at d;have h0:g≠[]:=λz=>by rw[decide_eq_true z]at d;exact absurd d.1 #[6]
  have Y:YX g ≠ "":=λz=>by have:=of_decide_eq_true d.2.1;rw[z]at this;exact absurd this (List.lt_irrefl _)
  show#[fP,#[L],k,hk];have S:=Zg hk (.lst [.str "",.str "a"]);refine⟨_,rfl,_,rfl,e.2.1,_,rfl,.inl #[fV,S,pA],Zn #[lD],λw hw=>⟨Zn #[lD],λt F=>?_⟩⟩;have R:=S.trans (Zg hw #[hM,e.1,#[69]]);exact fin (ks:=e2S) (j:=#[69]) (nV.same R) (mC.trans #[eX,R]) #[ul] ⟨by decide,λx l=>jl x #[dQ]⟩ (by rw[zE];exact bA h0 Y) Zb (C8 (S.free hw)) F
 show#[g7,#[bx],b,C];have sb:=Zg C #[gU,""];refine⟨_,rfl,b,e.2.1,_,_,rfl,rfl,Zb,sb _ _ pA,(by rw[Qa];show 1+g.length<=ao;exact Yu #[2]),λb2 zC=>?_⟩;have wg:=sb.trans (Zg zC #[gw,#[ao],g]);refine⟨_,rfl,b2,_,_,_,rfl,rfl,SqL.of (xs:=(#[ao]++g).map V.str) Zb,Nc (x:=.str (YX g)) ?_ #[td],?_⟩
 ·unfold YX;rw[Qa,Qp,List.getLast_eq_getElem,Qb #[sD]];rfl
 have mD:=nV.same wg;have vT:=mC.trans #[eX,wg];have uh:=wg _ _ pA;have C9:∀ {b':ae},(upd (upd ic b #[gU,""]) b2 #[gw,#[ao],g]) b'=af->H b'=af:=λh=>C8 (wg.free h);by_cases nz:YX g = ""
 ·refine⟨_,rfl,rfl,_,rfl,WR (by rw[nz]) ?_⟩;show#[fP,#[21],k,hk];have S:=Zg hk (.lst [.str "",.str "b",.str "a"]);refine#[bc];have R:=S.trans (Zg hw (.tup [.str "order",.int e.1,.int (#[69]+2)]));exact fin (ks:=e3S) (j:=#[69]+2) (mD.same R) (vT.trans #[eX,R]) #[ul] ⟨by decide,λx l=>jl x (by simp at l;rcases l with h|h|h<;>simp[h])⟩ #[eR,zE,bC,nz] Zb (C9 (S.free hw)) F
 ·refine⟨_,rfl,rfl,_,rfl,Vd (λz=>nz (by injection z)) ?_⟩;refine⟨_,rfl,_,rfl,_,rfl,_,rfl,_,rfl,_,rfl,(by rw[aP];have:=wf.1;lia),#[L],λk hk=>?_⟩;have S:=Zg hk (.lst [.str (YX g),.str (Txt.slice (YX g) af #[w8])]);refine#[bc];have R:=S.trans (Zg hw (.tup [.str "order",.int e.1,.int (#[69]+1)]));refine fin (ks:=[YX g,Txt.slice (YX g) af #[w8]]) (j:=#[69]+1) (mD.same R) (vT.trans #[eX,R]) #[ul] ⟨QA rfl,λx l=>?_⟩ #[eR,zE,bB,nz] Zb (C9 (S.free hw)) F;rcases QO.mp l with h|h
  ·rw[h];exact wf
  ·rw[Qi.mp h];exact⟨Ql (Txt.slice_le ..) wf.1,AZ.slice wf.2 _ _⟩
section
variable {I J:List Y2->Int->Prop} {cR cM:ae} {HB:Hp} {p:ae} {H H':Hp} {X X':MS} {Y Y':OS}
theorem Wk.nO(W:#[aj]){b:ae}(hb:H b=af):¬ Y5 Y b:=λz=>by obtain⟨u,hu,_⟩:=W.pr.ow.live z;rw[hb]at hu;cases hu
theorem Wk.deed{c nb':Int}{a:#[pP]}(W:#[aj])(hB:#[nB])(L:#[sW])(d:XX cR cM H' X' Y')(e:Y'.ga≠Y'.ra)(e':X'.nb=Y'.nb)(f:X'.nb=nb')(g:Y6 X'.L=a)(fM:#[sb,MFp,X',X])(fO:#[sb,Y5,Y',Y])(kk:#[cO])(h:J a nb'):Wk J cR cM HB p H' X' Y'/\Y9 H' p c:=by have i:Wk (λ_ _=>True) cR cM HB p H' X' Y':=(W.imp λ_=>trivial).to L.here d e e' trivial fM fO kk;exact⟨i.imp λ_=>by rw[g,f];exact h,W.left hB L kk⟩
universe E
def I21(i:Nat)(P:#[pP])(nb:Int):Prop:=Ul P nb/\(∀x∈P,0<=x.1)/\0<=nb/\nb<=12+(i:Int)
theorem ZnT{i:Nat}(P:#[pP])(nb n:Int)(h:I21 i P nb):I21 i (WX P n) nb:=by refine⟨ZoC h.1 n,λx a=>?_,h.2.2⟩;obtain⟨y,b,rfl⟩:=Qq.mp a;have:=h.2.1 y b;unfold SX;split<;>exact this
theorem ZnP{i:Nat}{P:#[pP]}{nb n:Int}{ks:#[Q]}{d:WI}(nd:(Xx P).Nodup)(h:I21 i P nb)(hd:#[wJ])(hk:ks.length<=6):I21 (i+1) (PV P n ks d) (d.nb nb):=by
 show#[rQ,b,a,c,h4,h];refine⟨Zo5 nd b hd hk,λx hx=>?_,?_⟩
 ·cases d with
  | add =>
   rcases Qj.mp hx with hx|hx
   ·exact a x hx
   ·rw[Qi.mp hx,show n=nb from hd.1];exact c
  | drop=>exact a x (Qah.mp hx).1
  | grow=>obtain⟨z,e,rfl⟩:=Qq.mp hx;have:=a z e;split<;>exact this
 ·cases d<;>(show 0<=_/\_;first|(show 0<=nb+1/\nb+1<=_;lia)|(show 0<=nb/\nb<=_;lia))
def PP(l0 i:Nat)(P:#[pP])(nb:Int):Prop:=P.length=l0+i/\#[vu]/\0<=nb/\nb<=22+(i:Int)
theorem ZpK{l0 i:Nat}{P:#[pP]}{nb:Int}(h:PP l0 i P nb)(ks:#[Q]):PP l0 (i+1) (P++[(nb,ks,0)]) (nb+1):=by
 show#[rQ,a,b,c,h4,h];refine⟨by rw[Qf,Qz,a];rfl,λx hx=>?_,by lia,by lia⟩;rcases Qj.mp hx with hx|hx
 ·have:=b x hx;lia
 ·rw[Qi.mp hx];exact⟨c,by show nb<nb+1;lia⟩
theorem Ie:ar.strOk "order" = true:=by ac_rfl
theorem ZqF:ar.strOk "full" = true:=by ac_rfl
theorem Zrb{K:#[7]}{f b g H:Hp}{o:Option #[a3]}{v w:V}(a:VH f b o v)(hw:VH g H o w)(s:ZF b H):∃d,DV K H v d/\DV K H w d/\SeqAt.shaped d=true/\ar.eqv d d=true:=by
 have c:∀z:al,v=.str z->w=.str z->SeqAt.shaped #[xi]=true->ar.eqv #[xi] #[xi]=true->∃d,DV K H v d/\DV K H w d/\SeqAt.shaped d=true/\ar.eqv d d=true:=λz h i j k=>⟨.str z,by rw[h];exact .str z,by rw[i];exact .str z,j,k⟩;cases o with
 | none=>exact c _ a hw #[1] #[1]
 | some o =>
  cases o with
  | none=>exact c _ a hw #[1] #[1]
  | some e=>obtain⟨t,rfl,_,l⟩:=a;obtain⟨t',rfl,_,m⟩:=hw;exact⟨.tuple [.str "order",.int e.1,.int e.2],.tup (SqT.of (s _ _ l)) #[bD],.tup (SqT.of m) #[bD],by simp[SeqAt.shaped,ar.canLay0,ar.canLayAll0,ar.depth,ar.depthAll,Ie],by simp[ar.eqv,ar.eqvAll]⟩
def PN(K:#[7]):Sp:=λvs H Q _=>X2 λ(a:ae) (ns:List Int)=>vs=#[lL]/\SqL K H a #[C]/\ns.length<=63/\∀b,Q #[sI] b
def SA(d e a p r l:ae)(f:Int)(g:Hp)(I:#[mc])(h:Int):L2.St->Hp->Prop:=λi b=>X10 λ(X:MS) (Y:OS) (c:Int) (j k m n o q s:Option V)=>i=[U #[iB],U (.int f),U #[bS],U #[jV],U #[cq],U (.ref Y.o),U (.ref X.m),j,k,m,n,o,q,s]/\Wk I d e g p b X Y/\Y9 b p c/\c<=h
theorem Zsr{f:ae}{fd:bu}(F:Fun K "law" "law" VU f fd)(T:#[e]):YF P w K mg base CX0 18 f fd #[oo] (PN K):=by
 have iz:#[ux]:=Zr8 T;have qT:Df P w K mg base 1 "_law_left" #[jd] (Kn K):=ZqR T;have aK:#[n]:=Zrk T iz;have gf:#[tC]:=ZoG T aK;have jE:#[uw]:=Zsm T aK;have iQ:#[uv]:=Zqg T aK jE;have iR:#[t0]:=Zqc T aK;have e8:#[lG]:=Zp2 T iQ;have qU:#[em,6,"_law_rows",#[24],JC]:=Zoy T aK gf iR e8;have cu:#[dC]:=Kb T 4;have cL:#[kS]:=Zia T;have fP:#[ms]:=Zof T cL;have dJ:#[li]:=ZpX T;have jH:#[wr]:=ZpN T fP dJ;have fC:#[tD]:=Zif T cL dJ;have cy:#[cI]:=Zo6 T jH;have bq:#[66]:=ZnF T cy;have eZ:#[dO]:=ZmU T fP;have eI:#[ca]:=Zny T;show#[ez,bp,Zrs];have aV:=Zq8 T bp;have dM:=ZlO T eZ;have cj:=Zrf T aV fC;have cP:=Jv T aV eI cj 8;have aT:=ZkL T cP;have kx:=Zic T bq dM aT;have bZ:=Znn T aV;have fD:=ZoN T bp;have e9:=Znz T aV;show#[ez,cE,Zjc];show#[ez,dQ,Zoe];have cC:#[a0]:=ZlL T;have cU:#[aW]:=Zkv T;show#[ez,bF,ZnB];show#[ez,bG,Zne];have bY:=JO T cU bF cC 8;have dL:=ZpE T bG bY;have dN:=ZlI T bG bF;show#[ez,gg,ZnR];have pB:=Zm8 T dL;have jb:=Zm7 T bG cu dN gg cE dQ bZ fD e9;have iV:#[v4]:=ZrX T eI;have fE:=Zlx T iV;have dB:=ZpL T cj;have dR:=Zqv T aV fE dB;have ky:=Zqr T bZ dR;have eJ:=Zla T bq dM aT;show#[ez,b8,ZmX];have dS:=ZjY T bp b8 aT;have eU:=ZkH T eZ;have fG:=ZqY T b8 bq aV eU aT;show#[ez,bz,ZoB];show#[ez,eV,ZnX];have bN:=ZlK T cy bz;show#[ez,bM,Zle];have dU:=Zqe T bN;have dH:=ZjN T bp bM;have fc:=Zpt T bN bM;have iH:=Zlj T dU dH fc;have jm:=Zqm T aK bz eV;have gF:=Znt T aK;have uk:=Zss T aK gF;have jN:=Zp4 T cU;have pC:=Zm9 T dN bG jN bF cC;have lv:=ZpF T cu dL eJ dS fG;have qV:=Zqw T aK e8;refine F.ok Xg #[dm] (λaM A outer s H vs Q E G h=>?_)
 ·obtain⟨a,ns,rfl,_⟩:=h;rfl
 show#[fA,a,sc,hS,yx];refine⟨_,#[Ze,#[XS,bf.never,#[WT,T.b.n_range,#[Zc,#[ZH,Z9,#[Zj],#[Zk,(YU K),#[5],T.b.n_len,Qr,#[Zc,#[W6,(slL K),‹0›,(@W7 _),#[Xm,#[Zj]]]]]]]],#[qF,1],#[Ze,#[Zw,2,Xg.nd,#[3],#[et,qT,G,0,1]],#[Ze,#[ZN,#[WW,#[Yb,#[fx,jm,G,#[b1]]]],#[aG],#[Zy]],#[Ze,#[V0,3,4,Xg.nd,#[Zc,#[fx,qU,G,#[b1]],#[fx,gf,G,#[b1]]]],#[W4,#[Z2,#[ZV,#[Zc,#[gr,pB,G,3],#[T9,kx,G,#[n1]]]],#[gT,K,2,#[Zz,#[qF,5],#[Zz,#[ZD,6,Xg.nd,#[i0]],(@Yg _)]]]],#[W4,#[XS,bf.never,#[so,#[Zj]],#[qF,7],#[W4,#[XS,bf.never,#[WT,T.b.n_range,#[Zc,#[f2,aK,G,2,#[Zj]]]],#[qF,8],#[Zi,#[ZN,#[WW,#[Yb,#[Zx,cu,G,#[Zc,#[YI,ky,T.cl_Merge,G,#[fD,6]],#[gr,pC,G,5]],#[5]]]],#[aG],#[Zy]]]],#[Ze,#[Z2,#[et,uk,G,2,5],#[gT,K,4,#[Zz,#[qF,9],#[gg,10,Xg.nd,11,12]]]],#[W4,#[ZN,(@PW.pt _ _ _ #[Xd,#[Zm,#[neD,K,G],#[Zx,iH,G,#[Zc,‹9›,#[fD,6],‹10›,‹11›],#[5]],‹12›,#[37]],#[WG,#[lj]]]),#[aG],#[Zy]],#[Zi,#[ZN,(@PW.pt _ _ _ #[Ya,#[Zm,YW,#[f2,aK,G,2,#[Zj]],#[Zj],#[37]],#[Xu,#[WW,#[Yb,#[Zx,lv,G,#[Zc,#[fD,6],‹5›,#[Zx,qV,G,#[ga,2,5,4],#[5]]],#[5]]]]]]),#[aG],#[Zy]]]]]]],#[W4,#[XS,bf.never,#[WT,T.b.n_range,#[Zc,#[ZH,Wd,#[Zj],#[Zk,T8,#[5],T.b.n_len,Qr,#[Zc,#[eq,G,5]]]]]],#[qF,13],#[Zi,#[ZN,#[WW,#[Yb,#[Zx,lv,G,#[Zc,#[fD,6],‹5›,#[ZV,#[Zc,#[Zl],#[eq,G,5],#[eb]]]],#[5]]]],#[aG],#[Zy]]]],#[Ze,#[Zw,12,Xg.nd,#[3],#[ZV,#[Zc,#[Zl],#[eq,G,5],#[Zj]]]],#[W4,#[ZN,#[Zm,#[neD,K,G],#[Xj,Tl,(@iT _ K _ _ _ #[ZV,#[xt]] #[5]),#[eY,14,Tl],#[94],(λ_ _ _ _=>#[Zx,iH,G,#[Zc,#[Zl],#[cv,6,Tl],#[cw,14,Tl],#[ZU]],#[q1,Tl]])],#[ZJ,#[Zc,#[Zl],‹12›,#[Zl]]],#[37]],#[aG],#[Zy]],#[Zi,#[ZN,#[lj],#[aG],#[Zy]]]]]]]]]]]],#[aG]],?_⟩;have yq:=Ma #[wQ] af (U 6);have bb:#[wQ].length=sc.length:=by rw[Qa]
 have kh:2<=ao:=by decide
 refine⟨_,rfl,_,rfl,a,_,rfl,hS,λe Z=>⟨e,_,rfl,.inl #[jT],_,_,rfl,rfl,_,rfl,by lia,by lia,?_⟩⟩;have s1:ZF H (upd H e (.lst (Xs #[wQ] af (U 6)))):=Zg Z _;refine U0 (λi M H2=>X13 λv1 v2 v3 v4 v5 v6 v7 v8 v9 jj nW nX nY:Option V=>M=[U #[iB],v1,v2,v3,v4,v5,v6,v7,v8,v9,jj,nW,nX,nY]/\ZF H H2) ⟨_,_,_,_,_,_,_,_,_,_,_,_,_,rfl,s1⟩ ?_ ?_
 ·rintro ii M H2 hi ⟨v1,v2,v3,v4,v5,v6,v7,v8,v9,jj,nW,nX,nY,rfl,s2⟩;have HM:(ii:Int)<65:=by lia
  refine⟨_,rfl,_,rfl,a,sc,_,rfl,s2.seq hS,yx,by lia,by lia,λp H3 hp L3 s3=>?_⟩;have wj:H p=af:=s2.free hp;refine⟨_,rfl,p,0,rfl,L3,by decide,λvP Db B3=>⟨_,rfl,YY ?_⟩⟩;refine⟨_,rfl,p,0+3,rfl,Db,by decide,λr rs c4 H4 bD fw oM HN L4 a1 a2 B4=>?_⟩;refine⟨_,rfl,p,c4,rfl,L4,by lia,λl ss c5 HB nz hl qw h4 mx LB b1 b2 BB=>?_⟩;have tQ:r≠p:=by obtain⟨o,ho⟩:=Db.here;exact(Zf ho bD).symm
  have tR:l≠p:=by obtain⟨o,ho⟩:=L4.here;exact(Zf ho nz).symm
  have eW:∀x∈rs,sortedS x.2=true:=λx C=>(oM x C).2.2.2.1;have qb:VN HB r rs:=⟨BB _ _ fw.at' tQ,fw.few,λx C=>let ⟨g1,g2⟩:=fw.lst x C;⟨BB _ _ g1 (oM x C).2.2.1,g2⟩⟩;have HP:ZF H HB:=λb o O=>BB b o (B4 b o (B3 b o (s3 b o (s2 b o O)) (Zf O wj)) (Zf O wj)) (Zf O wj);have S:#[nB]:=LB.here;have hc5:0<=c5/\c5<=20000:=by lia
  clear a1 a2 b1 b2 hi yq bb HM yx;refine⟨_,_,rfl,SA aw ak a p r l #[lE] HB (I21 0) c5,?_,?_⟩
  ·refine⟨_,rfl,r,rs,rfl,qb,λo ra ga Lo k0 q0 H6 ho oS nv nga cX pi ow bI s6=>?_⟩;refine⟨_,rfl,λm dx hm jC nmd=>?_⟩;have s7:ZF H6 #[fl,H6,dx,m,ak]:=λb o O=>by rw[Zd (Zf O hm),Zd (Zf O jC)];exact O
   have sW:#[fl,H6,dx,m,ak] m=U (.ins ak dx []):=Zb;generalize upd (upd H6 dx (.own m)) m (.ins ak dx [])=H7 at s7 sW ⊢;refine⟨m,dx,r,rs,rfl,sW,(qb.same s6).same s7,eW,λrd sd L st w0 k2 q2 H8 M8 jT W8 S8 P8 vU k8=>⟨rfl,kh,λt ht=>⟨t,_,rfl,SqT.of Zb,rfl,_,_,rfl,_,_,rfl,rfl,?_⟩⟩⟩;have HQ:X2 λ(X:MS) (Y:OS)=>Wk (I21 0) aw ak HB p H8 X Y/\X.m=m/\Y.o=o:=Zse qb (by
    have hz:Uo rs=(Xr 0 rs.length).zip (rs.map λx=>(x.2,0)):=rfl;have hl:(Uo rs).length=rs.length:=by rw[hz,List.length_zip,Ub,Qa];exact Nat.min_self _
    have gC:∀x∈Uo rs,0<=x.1/\x.1<(rs.length:Int)/\x.2.1.length<=60:=λx C=>by rw[hz]at C;obtain⟨h1,h2⟩:=List.of_mem_zip C;show#[qS,y,hy,z,Qq.mp,h2];show#[hL,k,hk,e];refine⟨by lia,by lia,?_⟩;rw[<- z];exact(oM y hy).2.2.2.2
    exact⟨⟨by rw[hl];exact HN,λx C=>⟨(gC x C).2.1,(gC x C).2.2⟩⟩,λx C=>(gC x C).1,by lia,by lia⟩) ho oS nv nga cX pi ow bI s6 hm s7 M8 jT W8 S8 P8 vU k8
   obtain⟨X8,Y8,W8,rfl,rfl⟩:=HQ;have zF:=Zg ht (.tup #[fJ,Y8.o,X8.m]);have W9:=W8.same zF;generalize upd H8 t (.tup [.ref Y8.o,.ref X8.m])=H9 at zF W9 ⊢;have L9:Y9 H9 p c5:=by obtain⟨g1,g2,gq,c0⟩:=LB;exact⟨g1,g2,zF _ _ (k8 _ _ #[rf,s7,s6,gq] (λz=>by rw[z]at gq;rw[s6 _ _ gq]at hm;cases hm)),c0⟩
   exact⟨X8,Y8,_,_,_,_,_,_,_,_,rfl,W9,L9,Int.le_refl _⟩
  rintro M H9 h9;have ul:∀ {H':Hp} {X:MS} {Y:OS} {I:List Y2->Int->Prop},Wk I aw ak HB p H' X Y->∀e∈Y.Lo,e.2.1≠p/\sortedS e.2.2.1=true/\#[oN]∈Y6 X.L:=λ{H' X Y I} W e Z=>by have h:=Qg (f:=#[cP]) Z;rw[show Y.Lo.map #[ce]=pur Y.Lo from rfl,SU W.pr.ag]at h;refine⟨λz=>(W.np S).2 #[hs,e,Z,z.symm],?_,h⟩;show#[qS,e',cA,z,Qq.mp,h];injection z with _ z;rw[<- z];exact(W.pr.mg.M.each e' cA).srt
  show#[he,10,c5,8000]
  ·obtain⟨X8,Y8,c8,um,uo,uq,nZ,n8,n9,oa,rfl,W9,L9,zG⟩:=h9;refine⟨10,rfl,by decide,by decide,?_⟩;refine U0 (λi=>SA aw ak a p r l #[lE] HB (I21 i) (c5+720*(i:Int))) ⟨X8,Y8,c8,_,_,_,_,_,_,_,rfl,W9,L9,by lia⟩ ?_ ?_
   ·rintro i M H5 hi ⟨X0,Y0,c,um,uo,uq,nZ,n8,n9,oa,rfl,W0,L5,hc⟩;have rF:i<10:=hi;have c0:=L5.ge;show#[he,i,c,1]
    ·refine⟨_,rfl,p,c,_,rfl,L5,by lia,by decide,by decide,λtk eT tk0 tk6 ko i3=>?_⟩;have HR:=W0.draw S L5 i3;refine#[tK];refine U0 (λ_=>SA aw ak a p r l #[lE] HB (I21 i) (c+1)) ⟨X0,Y0,_,_,_,_,_,_,_,_,rfl,HR,ko,Int.le_refl _⟩ ?_ ?_
     ·rintro j M e6 hj ⟨X,Y,c1,qd,qe,qf,mE,mF,pD,mG,rfl,W,i4,sE⟩;have pr:=W.pr;have cD:#[c5]:=by rw[WK pr.ag];exact pr.mg.M.up
      show#[ep,tI,p6,pr.mg.M.ob];refine⟨_,rfl,X.m,tI,_,rfl,p6,Zk3 ..,X.m,X.rd,X.sd,X.L,X.s,X.nb,X.li,X.lo,X.w,rfl,pr.mg.M,pr.mg.W,pr.mg.ok,λx L' s' w' k3 q3 ic hR tJ iX Dc k12=>?_⟩;have Dd:Own ic Y.o Y.ra Y.ga Y.Lo Y.nb X.li X.lo:=pr.ow.keep λb u O eS=>k12 b u O λz=>pr.sep b z eS;refine⟨_,rfl,Y.o,Y.ra,Y.ga,Y.Lo,Y.nb,X.li,X.lo,rfl,Dd,cD,λy fF k4 q4 sZ hT De k13=>?_⟩;obtain⟨X',Y',pE,eM,eO,tX,_,_,kk⟩:=W.take ZnT i4.here hR tJ iX Dc k12 hT De k13;have mD:=W.left S i4 kk;refine⟨x,y,rfl,tX,λwk jM=>⟨_,rfl,YY ?_⟩⟩;rw[<- eM,<- eO];exact⟨X',Y',_,_,_,_,_,_,_,_,rfl,pE.same jM,mD.same jM,sE⟩
     exact λM e6 h=>h
    show#[q7,e6,c1,i4,sE];have c10:=i4.ge;have cD:#[c5]:=by rw[WK W.pr.ag];exact W.pr.mg.M.up
    have hI:=W.inv;have pb:Y.nb=X.nb:=W.nb.symm;have kq:0<=X.nb/\X.nb<=22:=by have h:=hI.2.2;lia
    refine⟨_,rfl,_,rfl,p,Y.o,Y.ra,Y.ga,c1,Y.Lo,Y.nb,X.li,X.lo,rfl,i4,by lia,W.pr.ow,⟨λz=>(W.np S).2 (.inl z.symm),λz=>(W.np S).2 #[va],λz=>(W.np S).2 (.inr #[va])⟩,(λe Z=>let ⟨g1,g2,g3⟩:=ul W e Z;⟨g1,g2,hI.2.1 _ g3,by rw[pb];exact(hI.1.2 _ g3).1⟩),cD,by lia,by lia,λt ask g m w N c2 ic h1 h2 nV mC ur qg sj xE=>?_⟩;have iX:=W.draw S i4 mC;refine⟨t,_,rfl,SqT.of xE,rfl,_,_,rfl,_,_,rfl,_,_,rfl,_,_,rfl,rfl,?_⟩;rw[SU W.pr.ag,pb]at ur;show#[he,i,c1,10]
    ·refine⟨_,rfl,_,rfl,_,rfl,_,rfl,ask,X.m,X.rd,X.sd,X.L,X.s,X.nb,X.li,X.lo,Yk X.w,g,m,N,rfl,iX.pr.mg.M,kq.1,by lia,(λe Z=>?_),ur,λsZ v nE hv=>?_⟩
     ·have h:=Qg (f:=#[dy]) Z;have h0:0<=e.n:=hI.2.1 _ h;have h1:e.n<X.nb:=(hI.1.2 _ h).1;lia
     refine#[pV];obtain⟨d,dv,dw,sh,ev⟩:=Zrb (K:=K) hv (show VH e6 sZ N w from by
      cases N with
      | none=>exact qg
      | some N =>
       cases N with
       | none=>exact qg
       | some nj=>obtain⟨t2,e2,e3,e4⟩:=qg;exact⟨t2,e2,e3,nE _ _ e4⟩) #[ti]
     refine⟨d,d,dv,dw,sh,sh,_,rfl,?_⟩;rw[if_pos rfl,ev];have pE:=iX.same nE;refine Uk ⟨_,rfl,_,rfl,X.m,X.rd,X.sd,X.L,X.s,X.nb,X.li,X.lo,X.w,Y.o,Y.ra,Y.ga,Y.Lo,Y.nb,rfl,pE.pr.mg.M,pE.pr.mg.W,pE.pr.ow,pE.pr.ag,λHS wl=>⟨_,rfl,YY ?_⟩⟩;exact⟨X,Y,c2,_,_,_,_,_,_,_,rfl,pE.same wl,(nV.same nE).same wl,by lia⟩
    show#[q7,sZ,c3,mD,BK];have c30:=mD.ge;clear hI pb kq cD ur qg iX nV mC xE sj h1 h2;have cD:#[c5]:=by rw[WK W.pr.ag];exact W.pr.mg.M.up
    refine⟨_,rfl,p,c3,_,rfl,mD,by lia,by decide,by decide,λpk wk C6 HG zH Dg=>⟨rfl,_,rfl,Y1 #[lX] #[lX]⟩⟩
    rotate_left
    ·exact⟨X,Y,_,_,_,_,_,_,_,_,rfl,(W.draw S mD Dg).imp λh=>⟨h.1,h.2.1,h.2.2.1,by have:=h.2.2.2;lia⟩,zH,by lia⟩
    have R:=W.draw S mD Dg;refine⟨_,rfl,_,rfl,_,rfl,_,rfl,_,rfl,p,Y.o,Y.ra,Y.ga,l,c3+1,Y.Lo,Y.nb,X.li,X.lo,ss,rfl,zH,by lia,R.pr.ow,λz=>(R.np S).2 (.inl z.symm),λz=>(R.np S).2 #[va],λz=>(R.np S).2 (.inr #[va]),(λe Z=>⟨(ul R e Z).1,(ul R e Z).2.1⟩),cD,R.but _ _ hl tR,tR,qw,h4,mx,λt' r' dd n ks c' H15 sj xF Dh Di qM eG zI HU e1 e2 HV=>?_⟩;have jn:=R.draw S zH HV;have qh:SO #[kl] X.nb n ks dd:=by rw[<- SU W.pr.ag,W.nb];exact zI
    refine⟨X,Y,t',r',dd,n,ks,rfl,jn.pr,jn.nga,jn.nb,Dh,Di,R.pr.mg.M.fp_fresh xF,R.nO xF,λx C=>⟨by have:=(eG x C).1;lia,(eG x C).2⟩,by lia,Zn6 jn.inv.1 qh qM,λX' Y' H16 Dj eM eO jS nb' mB jW fM fO kk=>⟨_,rfl,YY ?_⟩⟩;obtain⟨HW,HX⟩:=jn.deed (J:=I21 (i+1)) S HU Dj jS nb' mB jW fM fO kk (ZnP (Zp1 jn.pr.mg) jn.inv qh qM);rw[<- eM,<- eO];exact⟨X',Y',_,_,_,_,_,_,_,_,rfl,HW,HX,by lia⟩
   ·show#[mb];exact⟨X,Y,c,_,_,_,_,_,_,_,rfl,W,L,by lia⟩
  rintro M eT ⟨X8,Y8,c8,um,uo,uq,nZ,n8,n9,oa,rfl,W9,L9,zG⟩;have jV:=W9.pr.ow;obtain⟨l0,qi⟩:∃l0,l0=(Y6 X8.L).length:=#[K];have Dk:l0<=12:=by rw[qi];exact W9.inv.1.1
  have HY:#[fj,kvR,Y8.Lo]=(l0:Int):=by have:=congrArg List.length (SU W9.pr.ag);unfold pur at this;rw[Qa]at this;unfold kvR;rw[Qa,qi,this]
  refine⟨SA aw ak a p r l #[lE] HB (λP nb=>P.length=16/\#[vu]/\0<=nb/\nb<=38) (c5+8000),?_,?_⟩
  ·refine⟨_,rfl,Y8.o,_,rfl,ZM.k' (k:=#[bQ]) jV.at' #[nQ],Y8.ra,_,rfl,jV.rows,_,_,rfl,rfl,_,rfl,by lia,by lia,?_⟩;refine U0 (λi=>SA aw ak a p r l #[lE] HB (PP l0 i) (c5+8000)) ⟨X8,Y8,c8,_,_,_,_,_,_,_,rfl,W9.imp λh=>⟨qi.symm,λx C=>⟨h.2.1 x C,(h.1.2 x C).1⟩,h.2.2.1,by have:=h.2.2.2;lia⟩,L9,zG⟩ ?_ ?_
   ·rintro i M H5 hi ⟨X,Y,c,um,uo,uq,nZ,n8,n9,oa,rfl,W,L5,hc⟩;have ow:=W.pr.ow;refine⟨_,rfl,_,rfl,_,rfl,Y.o,_,rfl,ZM.k' (k:=#[d0]) ow.at' (V6 ..),#[bx],λkl iB=>⟨Zn #[lD],λt ht=>?_⟩⟩;rw[show Y.nb=X.nb from W.nb.symm];have Dl:=(Zg iB #[gU,"a"]).trans (Zg ht #[hk,"add",X.nb,kl]);have jn:=W.same Dl;refine⟨X,Y,t,kl,.add,X.nb,["a"],rfl,jn.pr,jn.nga,jn.nb,Zb,Zg ht _ _ _ Zb,W.pr.mg.M.fp_fresh iB,W.nO iB,(λx C=>by rw[Qi.mp C];exact#[iC]),by decide,⟨rfl,λx C=>(W.inv.2.1 x C).2,by have h:=W.inv.1;lia,by ac_rfl,by decide⟩,λX' Y' H' tW eM eO jS nb' mB jW fM fO kk=>⟨_,rfl,YY ?_⟩⟩;obtain⟨HZ,Ia⟩:=jn.deed (J:=PP l0 (i+1)) S (L5.same Dl) tW jS nb' mB jW fM fO kk (ZpK W.inv _);rw[<- eM,<- eO];exact⟨X',Y',c,_,_,_,_,_,_,_,rfl,HZ,Ia,hc⟩
   ·show#[mb];exact⟨X,Y,c,_,_,_,_,_,_,_,rfl,W.imp λh=>by obtain⟨h1,h2,h3,h4⟩:=h;exact⟨by lia,h2,h3,by lia⟩,L,hc⟩
  show#[q7,e6,c9,i4,Ib];clear jV HY Dk qi W9 L9 zG Ib;have ow:=W.pr.ow;show#[rQ,p16,pn,kq,nb38,W.inv];refine⟨_,rfl,Y.o,_,rfl,ZM.k' (k:=#[d0]) ow.at' (V6 ..),Zn #[lD],λwd J'=>?_⟩;rw[show Y.nb=X.nb from W.nb.symm];have Dm:=Zg J' #[u0];have ut:(upd e6 wd #[u0]) wd=U #[u0]:=Zb;have iX:=W.same Dm;generalize upd e6 wd (.tup [.str "order",.int X.nb,.int 1])=ic at Dm ut iX ⊢;refine⟨λM wk=>(X7 λv7 v8 v9 jj nW nX nY:Option V=>M=[U #[iB],U (.int #[lE]),U #[bS],U #[jV],U #[cq],U (.ref Y.o),U (.ref X.m),v7,v8,v9,jj,nW,nX,nY])/\ZF ic wk,?_,?_⟩
  ·refine⟨#[bx],λd1 nR=>⟨#[L],λd2 iu=>⟨#[15],λd3 jf=>⟨#[21],λtt vw=>⟨tt,rfl,⟨_,SqT.of Zb⟩,λD hD=>?_⟩⟩⟩⟩⟩;have mq:=Zg nR #[gU,"a"];have gE:=Zg iu #[ap];have iG:=Zg jf #[br];have ku:=Zg vw (.tup #[c9]);have g1:=ku _ _ #[rf,iG,gE,Zb];have g2:=ku _ _ (iG _ _ Zb);have g3:=ku _ _ Zb;have g4:(upd (upd (upd (upd ic d1 #[gU,"a"]) d2 #[ap]) d3 #[br]) tt (.tup #[c9])) tt=U (.tup #[c9]):=Zb;have qR:=#[mr].trans ku;generalize upd (upd (upd (upd ic d1 (.lst [.str "a"])) d2 (.lst [.str "b",.str "a"])) d3 (.lst [])) tt (.tup [.ref d1,.ref d2,.ref d3])=uu at g1 g2 g3 g4 qR hD ⊢;clear mq gE iG ku nR iu jf vw;have xG:16<=#[kl].length:=by lia
   have az:∀x:al,(x = "a"\/x = "b")->x.length<=1000/\AZ x:=λx C=>by rcases C with rfl|rfl<;>exact#[iC]
   have hR:∀ (i:Nat) (x:V),[V.ref d1,.ref d2,.ref d3][i]? = U x->i<3/\∃N,#[uJ][i]? = U N/\∀H',ZF uu H'->Rf #[kl] X.nb H' "add" x .non N:=λi x C=>by
    have hi:i<3:=(Qe.mp C).1;refine⟨hi,?_⟩;rcases(show i=0\/i=1\/i=2 by lia) with rfl|rfl|rfl<;>cases C
    ·exact⟨_,rfl,λH' s'=>⟨rfl,rfl,d1,["a"],rfl,s' _ _ g1,⟨by decide,λx C=>az x (by simp at C;simp[C])⟩,by ac_rfl,xG⟩⟩
    ·exact⟨_,rfl,λH' s'=>.inl ⟨rfl,rfl,rfl,d2,["b", "a"],rfl,s' _ _ g2,⟨by decide,λx C=>az x (by simp at C;rcases C with h|h<;>simp[h])⟩,PQ (A:=[]) (x := "b") (y := "a") (B:=[]) #[1] #[1]⟩⟩
    ·exact⟨_,rfl,λH' s'=>⟨rfl,rfl,d3,[],rfl,s' _ _ g3,⟨by decide,λx C=>by cases C⟩,by ac_rfl,xG⟩⟩
   refine Zp7 (K:=K) (a:=tt) (xs:=#[c9]) (λi zs M og=>(∃v:Option V,M=[U #[iB],U (.int #[lE]),U #[bS],U #[jV],U #[cq],U (.ref Y.o),U (.ref X.m),qd,qe,qf,mE,mF,U (.ref wd),mG,v])/\zs.length=i/\(∀ (k:Nat) (v:V),zs[k]? = U v->∃N,#[uJ][k]? = U N/\VH uu og N v)/\og D=U #[l5]/\ZF uu og) ⟨⟨af,rfl⟩,rfl,(λk v h=>by cases h),Zb,Zg hD _⟩ (λi zs M og h=>SqT.of (h.2.2.2.2 _ _ g4)) ?_ ?_
   ·rintro i x zs M og C ⟨⟨v,rfl⟩,rfl,oG,oh,qW⟩;obtain⟨hi3,N,K',ur⟩:=hR _ x C;have R':=iX.same (qR.trans qW);refine⟨_,rfl,_,rfl, "add",X.m,X.rd,X.sd,X.L,X.s,X.nb,X.li,X.lo,Yk X.w,x,.non,N,rfl,R'.pr.mg.M,kq,by lia,(λe Z=>?_),ur _ qW,λDo v' zJ hv=>?_⟩
    ·have h:0<=e.n/\e.n<X.nb:=pn _ (Qg (f:=#[dy]) Z);lia
    have Dp:=zJ _ _ oh;have keep:∀ {N:Option (Option (Int×Int))} {v:V} {Ha Hb:Hp},VH Ha Hb N v->ZF Hb Do->(∀t,Ha t=af->uu t=af)->Ha D≠af\/(∀t xs,Hb t=U #[dG]->t≠D)->VH uu #[f0,Do,zs,v'] N v:=λ{N v Ha Hb} h sb h0 hd=>by
     cases N with
     | none=>exact h
     | some N =>
      cases N with
      | none=>exact h
      | some nj =>
       show#[rQ,t,e,h1,h2,h];refine⟨t,e,h0 t h1,?_⟩;rw[Zd (λz=>?_)];exact sb _ _ h2;rcases hd with hd|hd
       ·exact hd #[eJ,z,h1]
       ·exact hd t _ h2 z
    refine⟨Dp,Zn #[2],#[K],by rw[Qf];rfl,λk v hk=>?_,Zb,λb u O=>?_⟩
    ·rcases Nat.lt_or_ge k zs.length with aX|hge
     ·rw[QM aX]at hk;obtain⟨S',h1,h2⟩:=oG k v hk;exact⟨S',h1,keep h2 zJ (λ_ h=>h) (.inr λt xs ht z=>by rw[z,oh]at ht;cases ht)⟩
     ·rw[QE hge]at hk;have jP:k=zs.length:=by have:=(Qe.mp hk).1;rw[Qz]at this;lia
      show#[hz,jP,QaA,hk];exact⟨N,K',keep hv #[ti] (λt h=>qW.free h) (.inl #[sg,oh])⟩
    ·rw[Zd (Zf O hD)];exact zJ _ _ (qW b u O)
   ·rintro zs M og ⟨⟨v,rfl⟩,vI,oG,oh,qW⟩;have Dq:=qR.trans qW;obtain⟨w0,w1,w2,rfl⟩:X3 λw0 w1 w2=>zs=[w0,w1,w2]:=by
     match zs,vI with
     | [w0,w1,w2],_=>exact⟨w0,w1,w2,rfl⟩
    obtain⟨_,e0,o0⟩:=oG 0 w0 rfl;obtain⟨_,e1,o1⟩:=oG 1 w1 rfl;obtain⟨_,e2,o2⟩:=oG 2 w2 rfl;cases e0;cases e1;cases e2;obtain rfl:w0=.str "full":=o0;obtain rfl:w2=.str "full":=o2;obtain⟨t1,rfl,_,qD⟩:=o1;show#[fP,#[21],D2,du];have sD:=Zg du (.lst #[hq,wd]);have dt:∀ {t:ae},#[ue] t=U #[u0]->DVs K #[ue] #[hq,t] #[bG]:=λ{t} h=>.cons (.str _) (.cons (.tup (SqT.of h) #[bD]) (.cons (.str _) .nil));have sh:SeqAt.shaped (.list #[bG])=true:=by simp[SeqAt.shaped,ar.canLay0,ar.canLayAll0,ar.depth,ar.depthAll,Ie,ZqF]
    refine⟨_,_,.lst #[fV,sD,oh] (dt (sD _ _ qD)),.lst #[jT] (dt #[rf,sD,Dq,ut]),sh,sh,_,rfl,?_⟩;rw[if_pos rfl,show ar.eqv (.list #[bG]) (.list #[bG])=true by simp[ar.eqv,ar.eqvAll]];exact Uk ⟨⟨_,_,_,_,_,_,_,rfl⟩,Dq.trans sD⟩
  rintro M wk ⟨⟨v7,v8,v9,jj,nW,nX,nY,rfl⟩,jM⟩;have R:=iX.same jM;refine⟨_,rfl,_,rfl,X.m,X.rd,X.sd,X.L,X.s,X.nb,X.li,X.lo,X.w,Y.o,Y.ra,Y.ga,Y.Lo,Y.nb,rfl,R.pr.mg.M,R.pr.mg.W,R.pr.ow,R.pr.ag,λHS wl=>⟨_,rfl,YY ?_⟩⟩;exact⟨_,_,_,_,_,_,_,_,_,_,_,_,_,rfl,λb u O=>(R.same wl).but b u (HP b u O) (Zf O wj)⟩
 ·rintro M H2 ⟨v1,v2,v3,v4,v5,v6,v7,v8,v9,jj,nW,nX,nY,rfl,s2⟩;exact q _
universe E
theorem ZT{K:#[7]}{h:aF}{mg:#[R]}{x:al}{st:aI}{ps:#[Q]}{f:ae}{od b:#[dB]}{sl:#[mD]}{g kV i d e ct:aa}(X:K.In h)(G:h.Ns aL mg)
  (a:PySem.W.nsIn K aL x=U (U #[bT])) (l:K.lookup f=U ⟨g,od,.func #[eU,x,i,d,b,e],sl⟩) (c:PySem.W.codeIn K e x=true) (k:#[sr,K])
  (hb:∀ (kV j d:aa) (b:Option ae) (m ct:aa) (us:List aa),us.length=ps.length->bindArgs #[eU,x,j,d,b,m] ⟨us,[]⟩=pure #[mH]):Top K mg x st ps :=
 ⟨_,_,ZL (st:=st) l c k,Q0 X G a,#[f8,st,l,c,k].binds hb⟩
theorem MQ{n:Nat}{us:#[bd]}(h:us.length=n+1):X2 λa r=>us=a::r/\r.length=n:=by obtain⟨a,r,rfl⟩:=List.exists_cons_of_length_eq_add_one h;exact⟨a,r,rfl,Nat.succ.inj h⟩
theorem Ys(us:#[bd])(h:us.length=1):∃a0,us=[a0]:=QaI.mp h
theorem YJ(us:#[bd])(h:us.length=2):X2 λa0 a1=>us=[a0,a1]:=by obtain⟨a,r,rfl,g⟩:=MQ h;obtain⟨b,rfl⟩:=Ys r g;exact⟨a,b,rfl⟩
theorem Wz(us:#[bd])(h:us.length=3):X3 λa0 a1 a2=>us=[a0,a1,a2]:=by obtain⟨a,r,rfl,g⟩:=MQ h;obtain⟨b,c,rfl⟩:=YJ r g;exact⟨a,b,c,rfl⟩
theorem Ic(us:#[bd])(h:us.length=4):X4 λa0 a1 a2 a3=>us=[a0,a1,a2,a3]:=by obtain⟨a,r,rfl,g⟩:=MQ h;obtain⟨b,c,d,rfl⟩:=Wz r g;exact⟨a,b,c,d,rfl⟩
theorem all_mk{l:#[vn]}{w:aE}{K:#[7]}{h:aF}{mg:#[R]}{fa:ae}(X:K.In h)(G:h.Ns aL mg)(U':mg "law" = U (.ref fa))
  {aw:ae}
  {ak:ae}
  {ap:ae}
  {aG:ae}
  {aA:ae}
  {am:ae}
  {aq:ae}
  {kA mH:al} {mI:ae} {kB:#[bd]} {kC:#[Q]} {jX:#[bd]} {kD:Bool} {jY:#[s0]} {kE:#[dB]} {kF kG kH kI kJ:#[pS]}
  {wm zK:al} {zL:ae} {wo:#[bd]} {wq:#[Q]} {uv:#[bd]} {wt:Bool} {uw:#[s0]} {wu:#[dB]} {wv ww wx wz wA:#[pS]}
  {ux wB:al} {wC:ae} {uy:#[bd]} {uz:#[Q]} {qX:#[bd]} {uA:Bool} {qY:#[s0]} {uB:#[dB]} {uC uD uE uF uG:#[pS]}
  {kK mJ:al} {mK:ae} {kL:#[bd]} {kN:#[Q]} {jZ:#[bd]} {kP:Bool} {j1:#[s0]} {kQ:#[dB]} {kR kT kU kW kX:#[pS]}
  {pF qZ:al} {rb:ae} {pG:#[bd]} {pH:#[Q]} {oi:#[bd]} {pI:Bool} {oj:#[s0]} {pJ:#[dB]} {pK pL pM pN pO:#[pS]}
  {mL:Tok}
  (ejc:#[fp,"Row",aw]) (ekx:PySem.W.plainGet K aw al.empty=true) (ejd:#[fk,aw]) (eky:#[rB,aw]) (ekz:PySem.W.findIn K (.ref aw) "__setattr__" = U #[17]) (ejb:#[sq,aw]) (eja:#[Xki,K,aw])
  (exv:#[eL,aw,"all_keys"])
  (eyy:#[eL,aw,"fars"])
  (eyz:#[eL,aw,"gone"])
  (ezs:#[fp,"Merge",ak]) (ezq:PySem.W.plainGet K ak al.empty=true) (ezu:#[fk,ak]) (ezy:#[rB,ak]) (eki:PySem.W.findIn K (.ref ak) "__setattr__" = U #[17]) (eka:#[sq,ak]) (ezw:#[Xki,K,ak])
  (eyo:#[eL,ak,"best"])
  (exp:#[eL,ak,"likened"])
  (exr:#[eL,ak,"looked"])
  (exe:#[eL,ak,"next_number"])
  (eys:#[eL,ak,"rows"])
  (exy:#[eL,ak,"stays"])
  (eyk:#[fp,"MergeError",ap])
  (eku:#[fp,"Full",aG])
  (ezo:#[fp,"NoRow",aA])
  (eyv:#[fp,"OutOfOrder",am])
  (ezd:#[fp,"BadLine",aq])
  (eyg:K.lookup ap=U (excClassObj kA mH ap mI kB YH true kC jX kD jY kE kF kG kH kI kJ "ValueError.__new__"))
  (eya:PySem.W.specialIn K #[nU] "__getattribute__" = U #[pB])
  (exx:PySem.W.readsIn K ap #[cp]=true)
  (exz:PySem.W.findCls K #[nU] #[cp] "__init__" = U (.val #[40]))
  (ekw:K.lookup aG=U (excClassObj wm zK aG zL wo #[tt] true wq uv wt uw wu wv ww wx wz wA "ValueError.__new__"))
  (eks:#[Xki,K,aG])
  (ekk:#[ff,#[bf],#[40]])
  (eko:#[fC,#[bf]])
  (ekl:#[gs,#[bf]])
  (ekt:#[ey,#[bf],#[32]])
  (ekv:#[fk,aG])
  (ekp:#[fU,#[bf]])
  (ekm:#[go,aG])
  (ekj:#[ey,#[bf],#[45]])
  (ekr:#[ey,#[bf],#[bf]])
  (exk:#[gH,#[bf],ap])
  (eyf:#[eM,#[bf],#[bg]])
  (exl:#[eM,#[bf],#[aN]])
  (exu:#[eM,#[bf],#[a5]])
  (ezv:K.lookup aA=U (excClassObj ux wB aA wC uy #[tt] true uz qX uA qY uB uC uD uE uF uG "ValueError.__new__"))
  (ezx:#[Xki,K,aA])
  (ekg:#[ff,#[bg],#[40]])
  (ezt:#[fC,#[bg]])
  (ekb:#[gs,#[bg]])
  (ekd:#[ey,#[bg],#[32]])
  (ekf:#[fk,aA])
  (ekh:#[fU,#[bg]])
  (ezr:#[go,aA])
  (eke:#[ey,#[bg],#[45]])
  (ezp:#[ey,#[bg],#[bg]])
  (exg:#[gH,#[bg],ap])
  (eym:#[eM,#[bg],#[bf]])
  (exj:#[eM,#[bg],#[aN]])
  (exo:#[eM,#[bg],#[a5]])
  (eyp:K.lookup am=U (excClassObj kK mJ am mK kL #[tt] true kN jZ kP j1 kQ kR kT kU kW kX "ValueError.__new__"))
  (eyc:#[Xki,K,am])
  (eyw:#[fZ,#[aN]])
  (exn:PySem.W.findIn K #[aN] "row" = U af)
  (exh:PySem.W.findIn K #[aN] "place" = U af)
  (eyu:#[fC,#[aN]])
  (eyb:#[gs,#[aN]])
  (eyr:#[ey,#[aN],#[32]])
  (eye:#[fk,am])
  (eyl:#[fU,#[aN]])
  (eyi:#[go,am])
  (eyh:#[ey,#[aN],#[45]])
  (eyj:#[ey,#[aN],#[aN]])
  (exa:#[gH,#[aN],ap])
  (exm:#[eM,#[aN],#[bf]])
  (exi:#[eM,#[aN],#[bg]])
  (exd:#[eM,#[aN],#[a5]])
  (ezf:K.lookup aq=U (excClassObj pF qZ aq rb pG #[tt] true pH oi pI oj pJ pK pL pM pN pO "ValueError.__new__"))
  (ezg:#[Xki,K,aq])
  (eza:#[fZ,#[a5]])
  (exw:PySem.W.findIn K #[a5] "line" = U af)
  (ezi:#[fC,#[a5]])
  (ezj:#[gs,#[a5]])
  (ezh:#[ey,#[a5],#[32]])
  (ezl:#[fk,aq])
  (ezc:#[fU,#[a5]])
  (ezb:#[go,aq])
  (ezk:#[ey,#[a5],#[45]])
  (eze:#[ey,#[a5],#[a5]])
  (exc:#[gH,#[a5],ap])
  (exs:#[eM,#[a5],#[bf]])
  (exq:#[eM,#[a5],#[bg]])
  (exb:#[eM,#[a5],#[aN]])
  (eyt:#[gL,ap])
  (eyq:#[qv,#[nU]])
  (ekn:#[gL,aG])
  (ekq:#[qv,#[bf]])
  (ekc:#[gL,aA])
  (ezz:#[qv,#[bg]])
  (eyd:#[gL,am])
  (eyn:#[qv,#[aN]])
  (ezm:#[gL,aq])
  (ezn:#[qv,#[a5]])
  (hkg:#[cH])
  (hkt:#[kF])
  (a0:#[fp,"halves",f0]) (l0:#[Xlk,K,f0,oc0,od0,"halves","halves",O1,kV0,dc0,pm0,an0,V',ct0,sl0]) (c0:#[eS,V',"halves"]) (k0:#[Xki,K,f0])
  (a1:#[fp,"way_up",f1]) (l1:#[Xlk,K,f1,oc1,od1,"way_up","way_up",O0,kV1,dc1,pm1,an1,Z',ct1,sl1]) (c1:#[eS,Z',"way_up"]) (k1:#[Xki,K,f1])
  (a2:#[fp,"alike",f2]) (l2:#[Xlk,K,f2,oc2,od2,"alike","alike",OZ,kV2,dc2,pm2,an2,cd2,ct2,qq]) (c2:#[eS,cd2,"alike"]) (k2:#[Xki,K,f2])
  (a3:#[fp,"liken",f3]) (l3:#[Xlk,K,f3,oc3,od3,"liken","liken",OY,kV3,dc3,pm3,an3,cd3,ct3,sl3]) (c3:#[eS,cd3,"liken"]) (k3:#[Xki,K,f3])
  (a4:#[fp,"liken_from",f4]) (l4:#[Xlk,K,f4,oc4,od4,"liken_from","liken_from",OX,kV4,dc4,pm4,an4,cd4,ct4,sl4]) (c4:#[eS,cd4,"liken_from"]) (k4:#[Xki,K,f4])
  (a5:#[fp,"alike_from",f5]) (l5:#[Xlk,K,f5,oc5,od5,"alike_from","alike_from",OW,kV5,dc5,pm5,an5,cd5,ct5,BM]) (c5:#[eS,cd5,"alike_from"]) (k5:#[Xki,K,f5])
  (a6:#[fp,"order_at",f6]) (l6:#[Xlk,K,f6,oc6,od6,"order_at","order_at",OV,kV6,dc6,pm6,an6,cd6,ct6,sl6]) (c6:#[eS,cd6,"order_at"]) (k6:#[Xki,K,f6])
  (a7:#[fp,"first_break",f7]) (l7:#[Xlk,K,f7,oc7,od7,"first_break","first_break",OU,kV7,dc7,pm7,an7,cd7,ct7,sl7]) (c7:#[eS,cd7,"first_break"]) (k7:#[Xki,K,f7])
  (a8:#[fp,"alikes",f8]) (l8:#[Xlk,K,f8,oc8,od8,"alikes","alikes",OT,kV8,dc8,pm8,an8,cd8,ct8,sl8]) (c8:#[eS,cd8,"alikes"]) (k8:#[Xki,K,f8])
  (a9:#[fp,"refuse_break",f9]) (l9:#[Xlk,K,f9,oc9,od9,"refuse_break","refuse_break",OR,kV9,dc9,pm9,an9,cd9,ct9,sl9]) (c9:#[eS,cd9,"refuse_break"]) (k9:#[Xki,K,f9])
  (a10:#[fp,"matches_up",Dr]) (l10:#[Xlk,K,Dr,oc10,od10,"matches_up","matches_up",OQ,kV10,dc10,pm10,an10,Ds,ct10,sl10]) (c10:#[eS,Ds,"matches_up"]) (k10:#[Xki,K,Dr])
  (a11:#[fp,"_law_mix",Dt]) (l11:#[Xlk,K,Dt,oc11,od11,"_law_mix","_law_mix",OP,kV11,dc11,pm11,an11,Du,ct11,sl11]) (c11:#[eS,Du,"_law_mix"]) (k11:#[Xki,K,Dt])
  (a12:#[fp,"_law_left",Dv]) (l12:#[Xlk,K,Dv,oc12,od12,"_law_left","_law_left",OO,kV12,dc12,pm12,an12,Dw,ct12,sl12]) (c12:#[eS,Dw,"_law_left"]) (k12:#[Xki,K,Dv])
  (a13:#[fp,"_law_pick",Dx]) (l13:#[Xlk,K,Dx,oc13,od13,"_law_pick","_law_pick",ON,kV13,dc13,pm13,an13,Dy,ct13,sl13]) (c13:#[eS,Dy,"_law_pick"]) (k13:#[Xki,K,Dx])
  (a14:#[fp,"_law_stems",Dz]) (l14:#[Xlk,K,Dz,oc14,od14,"_law_stems","_law_stems",R4,kV14,dc14,pm14,an14,DA,ct14,sl14]) (c14:#[eS,DA,"_law_stems"]) (k14:#[Xki,K,Dz])
  (a15:#[fp,"_law_key",DB]) (l15:#[Xlk,K,DB,oc15,od15,"_law_key","_law_key",R3,kV15,dc15,pm15,an15,DC,ct15,sl15]) (c15:#[eS,DC,"_law_key"]) (k15:#[Xki,K,DB])
  (a16:#[fp,"_law_keys",DD]) (l16:#[Xlk,K,DD,oc16,od16,"_law_keys","_law_keys",OM,kV16,dc16,pm16,an16,DE,ct16,sl16]) (c16:#[eS,DE,"_law_keys"]) (k16:#[Xki,K,DD])
  (a17:#[fp,"_law_row",DF]) (l17:#[Xlk,K,DF,oc17,od17,"_law_row","_law_row",OL,kV17,dc17,pm17,an17,DG,ct17,sl17]) (c17:#[eS,DG,"_law_row"]) (k17:#[Xki,K,DF])
  (a18:#[fp,"_law_many",DI]) (l18:#[Xlk,K,DI,oc18,od18,"_law_many","_law_many",OK,kV18,dc18,pm18,an18,DJ,ct18,sl18]) (c18:#[eS,DJ,"_law_many"]) (k18:#[Xki,K,DI])
  (a19:#[fp,"_law_rows",DK]) (l19:#[Xlk,K,DK,oc19,od19,"_law_rows","_law_rows",R0,kV19,dc19,pm19,an19,DL,ct19,sl19]) (c19:#[eS,DL,"_law_rows"]) (k19:#[Xki,K,DK])
  (a20:#[fp,"_law_alike",DM]) (l20:#[Xlk,K,DM,oc20,od20,"_law_alike","_law_alike",OJ,kV20,dc20,pm20,an20,DN,ct20,sl20]) (c20:#[eS,DN,"_law_alike"]) (k20:#[Xki,K,DM])
  (a21:#[fp,"_law_halves",DO]) (l21:#[Xlk,K,DO,oc21,od21,"_law_halves","_law_halves",OI,kV21,dc21,pm21,an21,DP,ct21,sl21]) (c21:#[eS,DP,"_law_halves"]) (k21:#[Xki,K,DO])
  (a22:#[fp,"_law_least",DQ]) (l22:#[Xlk,K,DQ,oc22,od22,"_law_least","_law_least",RZ,kV22,dc22,pm22,an22,DR,ct22,sl22]) (c22:#[eS,DR,"_law_least"]) (k22:#[Xki,K,DQ])
  (a23:#[fp,"_law_same",DS]) (l23:#[Xlk,K,DS,oc23,od23,"_law_same","_law_same",RY,kV23,dc23,pm23,an23,DT,ct23,sl23]) (c23:#[eS,DT,"_law_same"]) (k23:#[Xki,K,DS])
  (a24:#[fp,"_law_world",DU]) (l24:#[Xlk,K,DU,oc24,od24,"_law_world","_law_world",OH,kV24,dc24,pm24,an24,DW,ct24,sl24]) (c24:#[eS,DW,"_law_world"]) (k24:#[Xki,K,DU])
  (a25:#[fp,"_law_heads",DX]) (l25:#[Xlk,K,DX,oc25,od25,"_law_heads","_law_heads",OG,kV25,dc25,pm25,an25,DY,ct25,sl25]) (c25:#[eS,DY,"_law_heads"]) (k25:#[Xki,K,DX])
  (a26:#[fp,"_law_first_play",DZ]) (l26:#[Xlk,K,DZ,oc26,od26,"_law_first_play","_law_first_play",OF,kV26,dc26,pm26,an26,D0,ct26,sl26]) (c26:#[eS,D0,"_law_first_play"]) (k26:#[Xki,K,DZ])
  (a27:#[fp,"_law_play",D1]) (l27:#[Xlk,K,D1,oc27,od27,"_law_play","_law_play",OE,kV27,dc27,pm27,an27,D4,ct27,sl27]) (c27:#[eS,D4,"_law_play"]) (k27:#[Xki,K,D1])
  (a28:#[fp,"_law_way",D5]) (l28:#[Xlk,K,D5,oc28,od28,"_law_way","_law_way",OD,kV28,dc28,pm28,an28,D6,ct28,sl28]) (c28:#[eS,D6,"_law_way"]) (k28:#[Xki,K,D5])
  (a29:#[fp,"_law_coming",D7]) (l29:#[Xlk,K,D7,oc29,od29,"_law_coming","_law_coming",OC,kV29,dc29,pm29,an29,D8,ct29,sl29]) (c29:#[eS,D8,"_law_coming"]) (k29:#[Xki,K,D7])
  (a30:#[fp,"_law_taken",D9]) (l30:#[Xlk,K,D9,oc30,od30,"_law_taken","_law_taken",OB,kV30,dc30,pm30,an30,D',ct30,sl30]) (c30:#[eS,D',"_law_taken"]) (k30:#[Xki,K,D9])
  (a31:#[fp,"_law_left_of",Ea]) (l31:#[Xlk,K,Ea,oc31,od31,"_law_left_of","_law_left_of",RX,kV31,dc31,pm31,an31,Eb,ct31,sl31]) (c31:#[eS,Eb,"_law_left_of"]) (k31:#[Xki,K,Ea])
  (a32:#[fp,"_law_stands",Ec]) (l32:#[Xlk,K,Ec,oc32,od32,"_law_stands","_law_stands",OA,kV32,dc32,pm32,an32,Ed,ct32,sl32]) (c32:#[eS,Ed,"_law_stands"]) (k32:#[Xki,K,Ec])
  (a33:#[fp,"_law_broken",Ee]) (l33:#[Xlk,K,Ee,oc33,od33,"_law_broken","_law_broken",RW,kV33,dc33,pm33,an33,Ef,ct33,sl33]) (c33:#[eS,Ef,"_law_broken"]) (k33:#[Xki,K,Ee])
  (a34:#[fp,"_law_refused",Eg]) (l34:#[Xlk,K,Eg,oc34,od34,"_law_refused","_law_refused",Oz,kV34,dc34,pm34,an34,Eh,ct34,sl34]) (c34:#[eS,Eh,"_law_refused"]) (k34:#[Xki,K,Eg])
  (a35:#[fp,"_law_late",Ei]) (l35:#[Xlk,K,Ei,oc35,od35,"_law_late","_law_late",UL,kV35,dc35,pm35,an35,Ej,ct35,sl35]) (c35:#[eS,Ej,"_law_late"]) (k35:#[Xki,K,Ei])
  (a36:#[fp,"_law_done",Ek]) (l36:#[Xlk,K,Ek,oc36,od36,"_law_done","_law_done",Oy,kV36,dc36,pm36,an36,El,ct36,sl36]) (c36:#[eS,El,"_law_done"]) (k36:#[Xki,K,Ek])
  (a37:#[fp,"_law_bad",Em]) (l37:#[Xlk,K,Em,oc37,od37,"_law_bad","_law_bad",T0,kV37,dc37,pm37,an37,En,ct37,sl37]) (c37:#[eS,En,"_law_bad"]) (k37:#[Xki,K,Em])
  (a38:#[fp,"_law_made_right",Eo]) (l38:#[Xlk,K,Eo,oc38,od38,"_law_made_right","_law_made_right",RV,kV38,dc38,pm38,an38,Ep,ct38,sl38]) (c38:#[eS,Ep,"_law_made_right"]) (k38:#[Xki,K,Eo])
  (a39:#[fp,"law",Er]) (l39:#[Xlk,K,Er,oc39,od39,"law","law",VU,Es,Et,Eu,Ev,xH,Ew,sl39]) (c39:#[eS,xH,"law"]) (k39:#[Xki,K,Er])
  (a40:#[rW,am,zM]) (i40:#[Xif,K,zM]) (l40:#[Xlk,K,zM,oc40,od40,"__init__","OutOfOrder.__init__",Z8,kV40,dc40,pm40,an40,Ex,ct40,sl40]) (c40:#[eS,Ex,"OutOfOrder.__init__"]) (k40:#[Xki,K,zM])
  (a41:#[rW,aq,zN]) (i41:#[Xif,K,zN]) (l41:#[Xlk,K,zN,oc41,od41,"__init__","BadLine.__init__",TZ,kV41,dc41,pm41,an41,Ey,ct41,sl41]) (c41:#[eS,Ey,"BadLine.__init__"]) (k41:#[Xki,K,zN])
  (a42:#[rW,aw,zO]) (i42:#[Xif,K,zO]) (l42:#[Xlk,K,zO,oc42,od42,"__init__","Row.__init__",TY,kV42,dc42,pm42,an42,Ez,ct42,sl42]) (c42:#[eS,Ez,"Row.__init__"]) (k42:#[Xki,K,zO])
  (a43:#[Xfi,K,aw,"to_go",zP]) (i43:#[Xif,K,zP]) (l43:#[Xlk,K,zP,oc43,od43,"to_go","Row.to_go",TX,kV43,dc43,pm43,an43,EB,ct43,sl43]) (c43:#[eS,EB,"Row.to_go"]) (k43:#[Xki,K,zP])
  (a44:#[Xfi,K,aw,"head",zQ]) (i44:#[Xif,K,zQ]) (l44:#[Xlk,K,zQ,oc44,od44,"head","Row.head",TW,kV44,dc44,pm44,an44,EC,ct44,sl44]) (c44:#[eS,EC,"Row.head"]) (k44:#[Xki,K,zQ])
  (a45:#[Xfi,K,aw,"lengthen",zR]) (i45:#[Xif,K,zR]) (l45:#[Xlk,K,zR,oc45,od45,"lengthen","Row.lengthen",TV,kV45,dc45,pm45,an45,ED,ct45,sl45]) (c45:#[eS,ED,"Row.lengthen"]) (k45:#[Xki,K,zR])
  (a46:#[rW,ak,zS]) (i46:#[Xif,K,zS]) (l46:#[Xlk,K,zS,oc46,od46,"__init__","Merge.__init__",TU,kV46,dc46,pm46,an46,EE,ct46,sl46]) (c46:#[eS,EE,"Merge.__init__"]) (k46:#[Xki,K,zS])
  (a47:#[hF,"coming",zT]) (i47:#[Xif,K,zT]) (l47:#[Xlk,K,zT,oc47,od47,"coming","Merge.coming",TR,kV47,dc47,pm47,an47,EF,ct47,sl47]) (c47:#[eS,EF,"Merge.coming"]) (k47:#[Xki,K,zT])
  (a48:#[hF,"take",zU]) (i48:#[Xif,K,zU]) (l48:#[Xlk,K,zU,oc48,od48,"take","Merge.take",TQ,kV48,dc48,pm48,an48,EG,ct48,sl48]) (c48:#[eS,EG,"Merge.take"]) (k48:#[Xki,K,zU])
  (a49:#[hF,"left",zV]) (i49:#[Xif,K,zV]) (l49:#[Xlk,K,zV,oc49,od49,"left","Merge.left",UK,kV49,dc49,pm49,an49,EH,ct49,sl49]) (c49:#[eS,EH,"Merge.left"]) (k49:#[Xki,K,zV])
  (a50:#[hF,"heads",zW]) (i50:#[Xif,K,zW]) (l50:#[Xlk,K,zW,oc50,od50,"heads","Merge.heads",UJ,kV50,dc50,pm50,an50,EI,ct50,sl50]) (c50:#[eS,EI,"Merge.heads"]) (k50:#[Xki,K,zW])
  (a51:#[hF,"likenings",zX]) (i51:#[Xif,K,zX]) (l51:#[Xlk,K,zX,oc51,od51,"likenings","Merge.likenings",Z7,kV51,dc51,pm51,an51,EJ,ct51,sl51]) (c51:#[eS,EJ,"Merge.likenings"]) (k51:#[Xki,K,zX])
  (a52:#[hF,"looks",zY]) (i52:#[Xif,K,zY]) (l52:#[Xlk,K,zY,oc52,od52,"looks","Merge.looks",TN,kV52,dc52,pm52,an52,EK,ct52,sl52]) (c52:#[eS,EK,"Merge.looks"]) (k52:#[Xki,K,zY])
  (a53:#[hF,"add_row",zZ]) (i53:#[Xif,K,zZ]) (l53:#[Xlk,K,zZ,oc53,od53,"add_row","Merge.add_row",TM,kV53,dc53,pm53,an53,EL,ct53,sl53]) (c53:#[eS,EL,"Merge.add_row"]) (k53:#[Xki,K,zZ])
  (a54:#[hF,"drop_row",Aa]) (i54:#[Xif,K,Aa]) (l54:#[Xlk,K,Aa,oc54,od54,"drop_row","Merge.drop_row",TK,kV54,dc54,pm54,an54,EM,ct54,sl54]) (c54:#[eS,EM,"Merge.drop_row"]) (k54:#[Xki,K,Aa])
  (a55:#[hF,"grow",Ab]) (i55:#[Xif,K,Ab]) (l55:#[Xlk,K,Ab,oc55,od55,"grow","Merge.grow",TH,kV55,dc55,pm55,an55,EN,ct55,sl55]) (c55:#[eS,EN,"Merge.grow"]) (k55:#[Xki,K,Ab])
  (a56:#[hF,"row_of",Ac]) (i56:#[Xif,K,Ac]) (l56:#[Xlk,K,Ac,oc56,od56,"row_of","Merge.row_of",TF,kV56,dc56,pm56,an56,EO,ct56,sl56]) (c56:#[eS,EO,"Merge.row_of"]) (k56:#[Xki,K,Ac])
  (a57:#[hF,"play_all",Ad]) (i57:#[Xif,K,Ad]) (l57:#[Xlk,K,Ad,oc57,od57,"play_all","Merge.play_all",TD,kV57,dc57,pm57,an57,EQ,ct57,sl57]) (c57:#[eS,EQ,"Merge.play_all"]) (k57:#[Xki,K,Ad])
  (a58:#[hF,"play",Ae]) (i58:#[Xif,K,Ae]) (l58:#[Xlk,K,Ae,oc58,od58,"play","Merge.play",TC,kV58,dc58,pm58,an58,ER,ct58,sl58]) (c58:#[eS,ER,"Merge.play"]) (k58:#[Xki,K,Ae])
  (a59:#[hF,"send_out",Af]) (i59:#[Xif,K,Af]) (l59:#[Xlk,K,Af,oc59,od59,"send_out","Merge.send_out",TB,kV59,dc59,pm59,an59,ES,ct59,sl59]) (c59:#[eS,ES,"Merge.send_out"]) (k59:#[Xki,K,Af])
  (a60:#[hF,"play_again",Ah]) (i60:#[Xif,K,Ah]) (l60:#[Xlk,K,Ah,oc60,od60,"play_again","Merge.play_again",Z3,kV60,dc60,pm60,an60,ET,ct60,sl60]) (c60:#[eS,ET,"Merge.play_again"]) (k60:#[Xki,K,Ah])
  (a61:#[hF,"meet",Ai]) (i61:#[Xif,K,Ai]) (l61:#[Xlk,K,Ai,oc61,od61,"meet","Merge.meet",Tz,kV61,dc61,pm61,an61,EU,ct61,sl61]) (c61:#[eS,EU,"Merge.meet"]) (k61:#[Xki,K,Ai])
  (eyx:PySem.W.nsIn K aL "MOST_ROWS" = U (U (.int 16 mL)))
  (z0:#[er,"ValueError"]) (z1:#[er,"abs"]) (z2:#[er,"all"]) (z3:#[er,"bool"]) (z4:#[er,"enumerate"]) (z5:#[er,"int"]) (z6:#[er,"isinstance"]) (z7:#[er,"len"]) (z8:#[er,"list"]) (z9:#[er,"max"]) (z10:#[er,"min"]) (z11:#[er,"range"]) (z12:#[er,"sorted"]) (z13:#[er,"str"]) (z14:#[er,"sum"]) (z15:#[er,"tuple"]) (z16:#[er,"zip"]) :
  ∃fd:bu,#[hv,v,fd,"_law_script"]/\∀base:aF,K.In base->base.Ns aL mg->YF l.prog w K mg base CX0 18 fa fd #[oo] (PN K):=by
 have e:=U'.symm.trans (Q0 X G a39);cases e;have T:#[e]:=⟨⟨QG X G z0,QG X G z1,QG X G z2,QG X G z3,QG X G z4,QG X G z5,QG X G z6,QG X G z7,QG X G z8,QG X G z9,QG X G z10,QG X G z11,QG X G z12,QG X G z13,QG X G z14,QG X G z15,QG X G z16⟩,ZT X G a0 l0 c0 k0 #[ll],ZT X G a1 l1 c1 k1 #[kx],ZT X G a2 l2 c2 k2 #[kx],ZT X G a3 l3 c3 k3 #[kx],ZT X G a4 l4 c4 k4 #[xv],ZT X G a5 l5 c5 k5 #[xv],ZT X G a6 l6 c6 k6 #[xv],ZT X G a7 l7 c7 k7 #[ll],ZT X G a8 l8 c8 k8 #[ll],ZT X G a9 l9 c9 k9 #[kx],ZT X G a10 l10 c10 k10 #[kx],ZT X G a11 l11 c11 k11 #[kx],ZT X G a12 l12 c12 k12 #[kx],ZT X G a13 l13 c13 k13 #[kx],ZT X G a14 l14 c14 k14 #[ll],ZT X G a15 l15 c15 k15 #[kx],ZT X G a16 l16 c16 k16 #[xv],ZT X G a17 l17 c17 k17 #[xv],ZT X G a18 l18 c18 k18 #[ll],ZT X G a19 l19 c19 k19 #[ll],ZT X G a20 l20 c20 k20 #[kx],ZT X G a21 l21 c21 k21 #[ll],ZT X G a22 l22 c22 k22 #[kx],ZT X G a23 l23 c23 k23 #[kx],ZT X G a24 l24 c24 k24 #[ll],ZT X G a25 l25 c25 k25 #[ll],ZT X G a26 l26 c26 k26 #[kx],ZT X G a27 l27 c27 k27 #[ll],ZT X G a28 l28 c28 k28 #[kx],ZT X G a29 l29 c29 k29 #[ll],ZT X G a30 l30 c30 k30 #[ll],ZT X G a31 l31 c31 k31 #[ll],ZT X G a32 l32 c32 k32 #[kx],ZT X G a33 l33 c33 k33 #[kx],ZT X G a34 l34 c34 k34 (λ_ _ _ _ _ _ us hl=>by obtain⟨_,_,_,_,rfl⟩:=Ic us hl;exact rfl),ZT X G a35 l35 c35 k35 #[xv],ZT X G a36 l36 c36 k36 #[xv],ZT X G a37 l37 c37 k37 #[kx],ZT X G a38 l38 c38 k38 #[ll],⟨_,_,ZL (st:=Z8) l40 c40 k40,⟨⟨_,_,_,_,_,_,_,_,_,_,_,_,_,_,eyp⟩,a40,i40,eyc,eyw⟩,#[f8,Z8,l40,c40,k40].binds (ps:=#[aU]) #[xv],Q0 X G eyv⟩,⟨_,_,ZL (st:=TZ) l41 c41 k41,⟨⟨_,_,_,_,_,_,_,_,_,_,_,_,_,_,ezf⟩,a41,i41,ezg,eza⟩,#[f8,TZ,l41,c41,k41].binds (ps:=#[m9]) #[kx],Q0 X G ezd⟩,⟨_,_,ZL (st:=TY) l42 c42 k42,⟨ejb,a42,i42,eja⟩,#[f8,TY,l42,c42,k42].binds (ps:=#[98]) #[kx],Q0 X G ejc⟩,⟨_,_,ZL (st:=TX) l43 c43 k43,⟨a43,i43,k43⟩,#[f8,TX,l43,c43,k43].binds (ps:=#[11]) #[ll]⟩,⟨_,_,ZL (st:=TW) l44 c44 k44,⟨a44,i44,k44⟩,#[f8,TW,l44,c44,k44].binds (ps:=#[11]) #[ll]⟩,⟨_,_,ZL (st:=TV) l45 c45 k45,⟨a45,i45,k45⟩,#[f8,TV,l45,c45,k45].binds (ps:=#[98]) #[kx]⟩,⟨_,_,ZL (st:=TU) l46 c46 k46,⟨eka,a46,i46,ezw⟩,#[f8,TU,l46,c46,k46].binds (ps:=#[u8]) #[kx],Q0 X G ezs⟩,⟨_,_,ZL (st:=TR) l47 c47 k47,⟨a47,i47,k47⟩,#[f8,TR,l47,c47,k47].binds (ps:=#[11]) #[ll]⟩,⟨_,_,ZL (st:=TQ) l48 c48 k48,⟨a48,i48,k48⟩,#[f8,TQ,l48,c48,k48].binds (ps:=#[11]) #[ll]⟩,⟨_,_,ZL (st:=UK) l49 c49 k49,⟨a49,i49,k49⟩,#[f8,UK,l49,c49,k49].binds (ps:=#[11]) #[ll]⟩,⟨_,_,ZL (st:=UJ) l50 c50 k50,⟨a50,i50,k50⟩,#[f8,UJ,l50,c50,k50].binds (ps:=#[11]) #[ll]⟩,⟨_,_,ZL (st:=Z7) l51 c51 k51,⟨a51,i51,k51⟩,#[f8,Z7,l51,c51,k51].binds (ps:=#[11]) #[ll]⟩,⟨_,_,ZL (st:=TN) l52 c52 k52,⟨a52,i52,k52⟩,#[f8,TN,l52,c52,k52].binds (ps:=#[11]) #[ll]⟩,⟨_,_,ZL (st:=TM) l53 c53 k53,⟨a53,i53,k53⟩,#[f8,TM,l53,c53,k53].binds (ps:=#[da]) #[kx]⟩,⟨_,_,ZL (st:=TK) l54 c54 k54,⟨a54,i54,k54⟩,#[f8,TK,l54,c54,k54].binds (ps:=#[ah]) #[kx]⟩,⟨_,_,ZL (st:=TH) l55 c55 k55,⟨a55,i55,k55⟩,#[f8,TH,l55,c55,k55].binds (ps:=#[bO]) #[xv]⟩,⟨_,_,ZL (st:=TF) l56 c56 k56,⟨a56,i56,k56⟩,#[f8,TF,l56,c56,k56].binds (ps:=#[ah]) #[kx]⟩,⟨_,_,ZL (st:=TD) l57 c57 k57,⟨a57,i57,k57⟩,#[f8,TD,l57,c57,k57].binds (ps:=#[11]) #[ll]⟩,⟨_,_,ZL (st:=TC) l58 c58 k58,⟨a58,i58,k58⟩,#[f8,TC,l58,c58,k58].binds (ps:=#[ma]) #[kx]⟩,⟨_,_,ZL (st:=TB) l59 c59 k59,⟨a59,i59,k59⟩,#[f8,TB,l59,c59,k59].binds (ps:=#[mR]) #[kx]⟩,⟨_,_,ZL (st:=Z3) l60 c60 k60,⟨a60,i60,k60⟩,#[f8,Z3,l60,c60,k60].binds (ps:=#[b9]) #[xv]⟩,⟨_,_,ZL (st:=Tz) l61 c61 k61,⟨a61,i61,k61⟩,#[f8,Tz,l61,c61,k61].binds (ps:=#[ae]) (λ_ _ _ _ _ _ us hl=>by obtain⟨_,_,_,_,rfl⟩:=Ic us hl;exact rfl)⟩,⟨ekx,ejd,eky,ekz⟩,exv,eyy,eyz,⟨ezq,ezu,ezy,eki⟩,eyo,exp,exr,exe,eys,exy,⟨_,Q0 X G eyx⟩,Q0 X G eyk,Q0 X G eku,Q0 X G ezo,Q0 X G eyv,Q0 X G ezd,⟨_,_,_,_,_,_,_,_,_,_,_,_,_,_,_,_,eyg⟩,⟨eya,exx,exz⟩,exn,exh,exw,⟨⟨_,_,_,_,_,_,_,_,_,_,_,_,_,_,ekw⟩,ekk,eks,Q0 X G eku⟩,⟨⟨_,_,_,_,_,_,_,_,_,_,_,_,_,_,ezv⟩,ekg,ezx,Q0 X G ezo⟩,⟨eko,ekl,ekt,ekv,ekp,ekm⟩,R8 eyt eyq exk,R9,WP ekc ezz eyf ekr,WP eyd eyn exl ekr,WP ezm ezn exu ekr,R7 ekj,⟨ezt,ekb,ekd,ekf,ekh,ezr⟩,R8 eyt eyq exg,WP ekn ekq eym ezp,R9,WP eyd eyn exj ezp,WP ezm ezn exo ezp,R7 eke,⟨eyu,eyb,eyr,eye,eyl,eyi⟩,R8 eyt eyq exa,WP ekn ekq exm eyj,WP ekc ezz exi eyj,R9,WP ezm ezn exd eyj,R7 eyh,⟨ezi,ezj,ezh,ezl,ezc,ezb⟩,R8 eyt eyq exc,WP ekn ekq exs eze,WP ekc ezz exq eze,WP eyd eyn exb eze,R9,R7 ezk,hkg,hkt⟩;exact⟨PySem.W.fnOf "law" "law" (Zv VU) (Zq VU) (Zh VU) .none Es Et Eu Ev xH Ew,λs v=>.of_eq rfl,λbase _ _=>Zsr #[f8,VU,l39,c39,k39] T⟩
theorem walk{l:#[vn]}{q:ax}{e:#[Q]}{g:#[l0]}{b:aE->aF->Prop}{d:DefRec}{K:Params->#[7]}(i:l.most=U 63)(j:#[om])
  (m:∀ (w:aE) (h:aF),b w h->#[ix].In h)
  (F:∀ (w:aE) (mg:al->Option aa) (fa:ae) (h:aF),#[ix].In h->h.Ns aL mg->mg d.name=U (.ref fa) ->
   ∃c:bu,#[hv,u,c,"_law_script"]/\∀base:aF,#[ix].In base->base.Ns aL mg->YF l.prog w #[ix] mg base CX0 18 fa c #[oo] (PN #[ix])) :
  PySem.W.WalkO q e g b l.row.toRowW d [] #[lW] :=
 L2.walk_of (n:=63) (k:=18) (x := "_law_script") (CX:=λ_=>CX0) (sp:=λw=>PN #[ix]) i #[6] j ⟨rfl,by decide,by decide,rfl⟩ m F (λ_ _ a o p _ r=>⟨a,o,rfl,r,p,λ_=>rfl⟩) λ_ _ _ _ _ z=>z
universe E.My
open PySem PySem.W PyProof.Rows
namespace PySem.W.Fast
def tw11188178662130585509:=Nat
def tw356699768414052101:=Nat
def tw9183546891928715783:=Nat
def tw7021233071430413822:=Nat
def tw14413108679664281001:=Nat
def tw12857372701243993152:=Nat
def tw13149818401567446381:=Nat
def tw2779908503526981796:=Nat
def tw10672321247299868902:=Nat
def tw8691204023399704593:=Nat
def tw4483067367784412177:=Nat
def tw8268750535074076561:=Nat
def tw7799155301691190035:=Nat
def tw8734095817954048362:=Nat
def tw762634651238086965:=Nat
def tw154711971720665205:=Nat
def tw9669353419498886892:=Nat
def tw10347542629529515223:=Nat
def tw14857373531102336366:=Nat
def tw5053370465542796153:=Nat
def tw9286219934055362256:=Nat
def tw5763606588417444507:=Nat
def tw18420755150634462260:=Nat
def tw15353257206173969375:=Nat
def tw15345738910791141206:=Nat
def tw3141097310721495585:=Nat
def tw3319177744251084035:=Nat
def tw13122175696498493187:=Nat
def tw7812408476422514895:=Nat
def tw77923356442715142:=Nat
def tw9399931832445205378:=Nat
def tw7059794473665180195:=Nat
def tw13646572566671851802:=Nat
def tw10035672194700196570:=Nat
def tw12006113306461737414:=Nat
def tw6012850153375767470:=Nat
def tw1429447846850292037:=Nat
def tw6890713295825797389:=Nat
def tw8874536951178970062:=Nat
def tw1125288339451163616:=Nat
def tw6544132986846117476:=Nat
def tw15117386863616088901:=Nat
def tw16543640083082953730:=Nat
def tw4701364972598463748:=Nat
def tw14727297884326815905:=Nat
def tw13074226395965422582:=Nat
def tw6484083402407972319:=Nat
def tw8884870327064935471:=Nat
def tw1624212074072971229:=Nat
def tw8304691650712292796:=Nat
def tw13708041260931937705:=Nat
def tw14481460555797785719:=Nat
def tw10690295667547782801:=Nat
def tw14757830638866331927:=Nat
def tw5692163064741144746:=Nat
def tw4525022284401409175:=Nat
def tw11038007338510200647:=Nat
def tw11057159774725267020:=Nat
def tw11680851256666498160:=Nat
def tw14214801126738101140:=Nat
def tw14688993886357548887:=Nat
def tw5207649190499181390:=Nat
def tw14127400097186006262:=Nat
def tw3709780635758970636:=Nat
def tw11880516610297038374:=Nat
def tw3309658352592330427:=Nat
def tw11002483931917512331:=Nat
def tw17807982381066967113:=Nat
def tw6598350557814750763:=Nat
def tw3517144629573252460:=Nat
def tw1389231962158460725:=Nat
def tw4219176641635691658:=Nat
def tw13829351520194179066:=Nat
def tw12649822832080634667:=Nat
def tw4092796705856214922:=Nat
def tw10153114916044184750:=Nat
def tw5517727222569994026:=Nat
def tw13499562346975585823:=Nat
def tw2587624642835959684:=Nat
def tw733690119311478656:=Nat
def tw18248710081748514622:=Nat
def tw15702754307961233909:=Nat
def tw18185679552085802096:=Nat
def tw12354324451702315455:=Nat
def tw14347622374101083929:=Nat
def tw857531595897411667:=Nat
def tw12353135495831652807:=Nat
def tw7736450661079551028:=Nat
def tw3440672987388504026:=Nat
def tw12091748734335897156:=Nat
def tw17329843643661029301:=Nat
def tw6958329335943565601:=Nat
def tw6237324485462484296:=Nat
def tw8022467813909445539:=Nat
def tw10905930366504793779:=Nat
def tw7545827212289758546:=Nat
def tw2349383960197727858:=Nat
def tw6782014518578259924:=Nat
def tw4097947971787878309:=Nat
def tw17933484219448270749:=Nat
def tw17696275093440319156:=Nat
def tw3312806082156445873:=Nat
def tw16950225202540834736:=Nat
def tw16346382521367524838:=Nat
def tw10027072552631883040:=Nat
def tw17944280289008183266:=Nat
def tw17965663461808214456:=Nat
def tw15614433912018865955:=Nat
def tw15539134125230243975:=Nat
def tw4569953008596527460:=Nat
def tw14184661769789145739:=Nat
def tw7390157177847814970:=Nat
def tw1886858732864879079:=Nat
def tw4836226823252257060:=Nat
def tw12175206570805090377:=Nat
def tw461582002947668390:=Nat
def tw13644954483243666816:=Nat
def tw1539516868381054665:=Nat
def tw8776054683186310514:=Nat
def tw3553014342803810792:=Nat
def tw8694325571290499748:=Nat
def tw10771954137755594567:=Nat
def tw15056734950229464218:=Nat
def tw14108746075483313620:=Nat
def tw12998393312615090714:=Nat
def tw15815928825385960938:=Nat
def tw5110507928866299777:=Nat
def tw6541430852433531932:=Nat
def tw15877109163492284143:=Nat
def tw9612479031911062192:=Nat
def tw2146193341319703358:=Nat
def tw10543332475223127577:=Nat
def tw4360124537035477833:=Nat
def tw2806502304164493509:=Nat
def tw13722834969280220238:=Nat
def tw17513196542921258005:=Nat
def tw17016842751669032313:=Nat
def tw6597090850396478470:=Nat
def tw586572199603549222:=Nat
def tw10686795108768610117:=Nat
def tw1178250711556426759:=Nat
def tw7569415725603681749:=Nat
def tw16857648417152872896:=Nat
def tw4137325549824874793:=Nat
def tw13077907600910768542:=Nat
def tw958388694636182210:=Nat
def tw12433988175281142868:=Nat
def tw18211191063043742724:=Nat
def tw12597712405098425006:=Nat
def tw17481162980907551184:=Nat
def tw9221238196626694153:=Nat
def tw10510699060608526650:=Nat
def tw7367741525751566410:=Nat
def tw3491343124398139438:=Nat
def tw719987357484543765:=Nat
def tw6144609567971196571:=Nat
def tw18390570731904473034:=Nat
def tw2611319866977700404:=Nat
def tw15373763722144767167:=Nat
def tw14592045560926048482:=Nat
def tw16384344146574941736:=Nat
def tw5593413642815678006:=Nat
def tw13720798583790281184:=Nat
def tw8292183950380066843:=Nat
def tw9110479730782893945:=Nat
def tw12145093520997363378:=Nat
def tw16501558016928384952:=Nat
def tw16626194701721986771:=Nat
def tw7624566553712356372:=Nat
def tw3197560673382069073:=Nat
def tw15582326034586596841:=Nat
def tw17913471597444179392:=Nat
def tw11396988077911107898:=Nat
def tw1969606237603333062:=Nat
def tw2008959097128419342:=Nat
def tw3570449539998022764:=Nat
def tw13687993529852278262:=Nat
def tw3567045020387155142:=Nat
def tw11237337783904005955:=Nat
def tw4060087884959923382:=Nat
def tw10462347801315744453:=Nat
def tw12058133698036314372:=Nat
def tw1528515266083329318:=Nat
def tw748466727700340383:=Nat
def tw11176426672294253751:=Nat
def tw2954124789503253680:=Nat
def tw6190993613632125729:=Nat
def tw9026714884758809919:=Nat
def tw5274168922555571993:=Nat
def tw3324038174621334505:=Nat
def tw4485969435456616486:=Nat
def tw17094776259989009503:=Nat
def tw88899640057366851:=Nat
def tw18089143448216271057:=Nat
def tw8218590508155188680:=Nat
def tw14546165115824236640:=Nat
def tw6313662201283662169:=Nat
def tw12001856823564790426:=Nat
def tw5403612239417978821:=Nat
def tw253586785437958259:=Nat
def tw6979915030350693286:=Nat
def tw16118894788310097672:=Nat
def tw5234196598379541247:=Nat
def tw350545606940310657:=Nat
def tw18020170790435570253:=Nat
def tw17361146526159761297:=Nat
def tw1073361566635944013:=Nat
def tw18195770116777940015:=Nat
def tw15629929395529727756:=Nat
def tw53632444113055383:=Nat
def tw7579846434498167752:=Nat
def tw13960098959468956553:=Nat
def tw80396691925884413:=Nat
def tw15059347862479004636:=Nat
def tw11977416239049229254:=Nat
def tw8561903356097415511:=Nat
def tw16314273247359345119:=Nat
def tw8699039418806574464:=Nat
def tw6600970820374509136:=Nat
def tw4746608379873820761:=Nat
def tw183353318746084708:=Nat
def tw1889274460506158336:=Nat
def tw12755468583988778900:=Nat
def tw14935517131605573626:=Nat
def tw13571750425058677304:=Nat
def tw9444941630795152694:=Nat
def tw6638136851467527002:=Nat
def tw16205453247651794374:=Nat
def tw14053561315915790593:=Nat
def tw14806106690348264405:=Nat
def tw12507345466100407688:=Nat
def tw16361012420949512248:=Nat
def tw4328255814311555409:=Nat
def tw2458333222144980343:=Nat
def tw18141056497136277446:=Nat
def tw6059531642857660555:=Nat
def tw8872699490945282961:=Nat
def tw9017860574029118052:=Nat
def tw11527434072316272473:=Nat
def tw13384695605006962967:=Nat
def tw4276319915211277578:=Nat
def tw10256013841164312630:=Nat
def tw4927563906171846513:=Nat
def tw11100120201370924802:=Nat
def tw13759659825368681320:=Nat
def tw11613093644929621411:=Nat
def tw15958305336869953958:=Nat
def tw17091541843623515328:=Nat
def tw10071508957800382236:=Nat
def tw11939645586293445557:=Nat
def tw15312400181828529512:=Nat
def tw4849604193630108503:=Nat
def tw18333748612246513280:=Nat
def tw8938803864389697450:=Nat
def tw8720791667595752886:=Nat
def tw8309162542928333208:=Nat
def tw16938519904841053738:=Nat
def tw11223812808976392916:=Nat
def tw7074246420925493154:=Nat
def tw12797088694204467642:=Nat
def tw2450558226961405538:=Nat
def tw7513058676335979692:=Nat
def tw14523123145551382443:=Nat
def tw6820569867349967945:=Nat
def tw3479603083884072239:=Nat
def tw18254563486016413025:=Nat
def tw17890651954270093789:=Nat
def tw16430981772463070819:=Nat
def tw6875701453608623460:=Nat
def tw5899173989056135124:=Nat
def tw18415226998973333441:=Nat
def tw4231866921485555493:=Nat
def tw7539648520914394885:=Nat
def tw9138218841753762236:=Nat
def tw13911191584321576446:=Nat
def tw13733990376183203990:=Nat
def tw10897796683895650283:=Nat
def tw4816886277429269009:=Nat
def tw17481957437843485174:=Nat
def tw3326518501908765565:=Nat
def tw8143764259512256588:=Nat
def tw120070409069362923:=Nat
def tw6412411095085571381:=Nat
def tw9233645144949935286:=Nat
def tw12837408983085232523:=Nat
def tw17342006649709329246:=Nat
def tw15980993685615989741:=Nat
def tw11766465448387967104:=Nat
def tw7265907312995565409:=Nat
def tw2859004768210346556:=Nat
def tw351851971704589460:=Nat
def tw18403683387439187450:=Nat
def tw14101320133476710265:=Nat
def tw15129056656767033474:=Nat
def tw9348151341304592757:=Nat
def tw1372124561270935529:=Nat
def tw668077440289965367:=Nat
def tw17209102798592666855:=Nat
def tw3163628488592077339:=Nat
def tw34932025132770882:=Nat
def tw7261888045926629247:=Nat
def tw16240935727300516274:=Nat
def tw2557619820616098079:=Nat
def tw7879658907101658013:=Nat
def tw17831487199738784029:=Nat
def tw14160277728690244534:=Nat
def tw10322492978806860637:=Nat
def tw2722795142047501321:=Nat
def tw3180507801967879966:=Nat
def tw13848210678805196782:=Nat
def tw8138187172230796722:=Nat
def tw14364875392738600651:=Nat
def tw14399806529928423466:=Nat
def tw16724777876093437419:=Nat
def tw6466136753381964491:=Nat
def tw3770090818893594811:=Nat
def tw5727205642895773717:=Nat
def tw11533403195969739807:=Nat
def tw6188271808025442606:=Nat
def tw321197388786407007:=Nat
def tw4331286212208072177:=Nat
def tw10418551621371943780:=Nat
def tw17013664854385928181:=Nat
def tw2294668878257855815:=Nat
def tw12427530797586871398:=Nat
def tw10868365239936234671:=Nat
def tw4130848464241454772:=Nat
def tw9454930305610693536:=Nat
def tw782441420868776135:=Nat
universe E.PySem.W.Fast
set_option maxRecDepth 100000 in
set_option maxHeartbeats 0 in
theorem PySem.Challenge.cw_mergetree_k21_late_deeds_refused_holds : PySem.Challenge.rw_mergetree_k21_late_deeds_refused.Holds := by
 w_on;o_law;k_head;(case hw=>w_witness2)
 k_fill
 refine My.walk (l:=PySem.Challenge.rw_mergetree_k21_late_deeds_refused) rfl rfl (λw h Y=>PySem.W.kIn_of Y) ?F;case F =>
  intro w mg fa h KX G hmg
  refine' My.all_mk KX G hmg ?ejc ?ekx ?ejd ?eky ?ekz ?ejb ?eja ?exv ?eyy ?eyz ?ezs ?ezq ?ezu ?ezy ?eki ?eka ?ezw ?eyo ?exp ?exr ?exe ?eys ?exy ?eyk ?eku ?ezo ?eyv ?ezd ?eyg ?eya ?exx ?exz ?ekw ?eks ?ekk ?eko ?ekl ?ekt ?ekv ?ekp ?ekm ?ekj ?ekr ?exk ?eyf ?exl ?exu ?ezv ?ezx ?ekg ?ezt ?ekb ?ekd ?ekf ?ekh ?ezr ?eke ?ezp ?exg ?eym ?exj ?exo ?eyp ?eyc ?eyw ?exn ?exh ?eyu ?eyb ?eyr ?eye ?eyl ?eyi ?eyh ?eyj ?exa ?exm ?exi ?exd ?ezf ?ezg ?eza ?exw ?ezi ?ezj ?ezh ?ezl ?ezc ?ezb ?ezk ?eze ?exc ?exs ?exq ?exb ?eyt ?eyq ?ekn ?ekq ?ekc ?ezz ?eyd ?eyn ?ezm ?ezn ?hkg ?hkt ?a0 ?l0 ?c0 ?k0 ?a1 ?l1 ?c1 ?k1 ?a2 ?l2 ?c2 ?k2 ?a3 ?l3 ?c3 ?k3 ?a4 ?l4 ?c4 ?k4 ?a5 ?l5 ?c5 ?k5 ?a6 ?l6 ?c6 ?k6 ?a7 ?l7 ?c7 ?k7 ?a8 ?l8 ?c8 ?k8 ?a9 ?l9 ?c9 ?k9 ?a10 ?l10 ?c10 ?k10 ?a11 ?l11 ?c11 ?k11 ?a12 ?l12 ?c12 ?k12 ?a13 ?l13 ?c13 ?k13 ?a14 ?l14 ?c14 ?k14 ?a15 ?l15 ?c15 ?k15 ?a16 ?l16 ?c16 ?k16 ?a17 ?l17 ?c17 ?k17 ?a18 ?l18 ?c18 ?k18 ?a19 ?l19 ?c19 ?k19 ?a20 ?l20 ?c20 ?k20 ?a21 ?l21 ?c21 ?k21 ?a22 ?l22 ?c22 ?k22 ?a23 ?l23 ?c23 ?k23 ?a24 ?l24 ?c24 ?k24 ?a25 ?l25 ?c25 ?k25 ?a26 ?l26 ?c26 ?k26 ?a27 ?l27 ?c27 ?k27 ?a28 ?l28 ?c28 ?k28 ?a29 ?l29 ?c29 ?k29 ?a30 ?l30 ?c30 ?k30 ?a31 ?l31 ?c31 ?k31 ?a32 ?l32 ?c32 ?k32 ?a33 ?l33 ?c33 ?k33 ?a34 ?l34 ?c34 ?k34 ?a35 ?l35 ?c35 ?k35 ?a36 ?l36 ?c36 ?k36 ?a37 ?l37 ?c37 ?k37 ?a38 ?l38 ?c38 ?k38 ?a39 ?l39 ?c39 ?k39 ?a40 ?i40 ?l40 ?c40 ?k40 ?a41 ?i41 ?l41 ?c41 ?k41 ?a42 ?i42 ?l42 ?c42 ?k42 ?a43 ?i43 ?l43 ?c43 ?k43 ?a44 ?i44 ?l44 ?c44 ?k44 ?a45 ?i45 ?l45 ?c45 ?k45 ?a46 ?i46 ?l46 ?c46 ?k46 ?a47 ?i47 ?l47 ?c47 ?k47 ?a48 ?i48 ?l48 ?c48 ?k48 ?a49 ?i49 ?l49 ?c49 ?k49 ?a50 ?i50 ?l50 ?c50 ?k50 ?a51 ?i51 ?l51 ?c51 ?k51 ?a52 ?i52 ?l52 ?c52 ?k52 ?a53 ?i53 ?l53 ?c53 ?k53 ?a54 ?i54 ?l54 ?c54 ?k54 ?a55 ?i55 ?l55 ?c55 ?k55 ?a56 ?i56 ?l56 ?c56 ?k56 ?a57 ?i57 ?l57 ?c57 ?k57 ?a58 ?i58 ?l58 ?c58 ?k58 ?a59 ?i59 ?l59 ?c59 ?k59 ?a60 ?i60 ?l60 ?c60 ?k60 ?a61 ?i61 ?l61 ?c61 ?k61 ?eyx ?z0 ?z1 ?z2 ?z3 ?z4 ?z5 ?z6 ?z7 ?z8 ?z9 ?z10 ?z11 ?z12 ?z13 ?z14 ?z15 ?z16
  (case ejc=>k_is)
  (case ekx=>k_is)
  (case ejd=>k_is)
  (case eky=>k_is)
  (case ekz=>k_is)
  (case ejb=>k_is)
  (case eja=>k_is)
  (case exv=>k_is)
  (case eyy=>k_is)
  (case eyz=>k_is)
  (case ezs=>k_is)
  (case ezq=>k_is)
  (case ezu=>k_is)
  (case ezy=>k_is)
  (case eki=>k_is)
  (case eka=>k_is)
  (case ezw=>k_is)
  (case eyo=>k_is)
  (case exp=>k_is)
  (case exr=>k_is)
  (case exe=>k_is)
  (case eys=>k_is)
  (case exy=>k_is)
  (case eyk=>k_is)
  (case eku=>k_is)
  (case ezo=>k_is)
  (case eyv=>k_is)
  (case ezd=>k_is)
  (case eyg=>k_is)
  (case eya=>k_is)
  (case exx=>k_is)
  (case exz=>k_is)
  (case ekw=>k_is)
  (case eks=>k_is)
  (case ekk=>k_is)
  (case eko=>k_is)
  (case ekl=>k_is)
  (case ekt=>k_is)
  (case ekv=>k_is)
  (case ekp=>k_is)
  (case ekm=>k_is)
  (case ekj=>k_is)
  (case ekr=>k_is)
  (case exk=>k_is)
  (case eyf=>k_is)
  (case exl=>k_is)
  (case exu=>k_is)
  (case ezv=>k_is)
  (case ezx=>k_is)
  (case ekg=>k_is)
  (case ezt=>k_is)
  (case ekb=>k_is)
  (case ekd=>k_is)
  (case ekf=>k_is)
  (case ekh=>k_is)
  (case ezr=>k_is)
  (case eke=>k_is)
  (case ezp=>k_is)
  (case exg=>k_is)
  (case eym=>k_is)
  (case exj=>k_is)
  (case exo=>k_is)
  (case eyp=>k_is)
  (case eyc=>k_is)
  (case eyw=>k_is)
  (case exn=>k_is)
  (case exh=>k_is)
  (case eyu=>k_is)
  (case eyb=>k_is)
  (case eyr=>k_is)
  (case eye=>k_is)
  (case eyl=>k_is)
  (case eyi=>k_is)
  (case eyh=>k_is)
  (case eyj=>k_is)
  (case exa=>k_is)
  (case exm=>k_is)
  (case exi=>k_is)
  (case exd=>k_is)
  (case ezf=>k_is)
  (case ezg=>k_is)
  (case eza=>k_is)
  (case exw=>k_is)
  (case ezi=>k_is)
  (case ezj=>k_is)
  (case ezh=>k_is)
  (case ezl=>k_is)
  (case ezc=>k_is)
  (case ezb=>k_is)
  (case ezk=>k_is)
  (case eze=>k_is)
  (case exc=>k_is)
  (case exs=>k_is)
  (case exq=>k_is)
  (case exb=>k_is)
  (case eyt=>k_is)
  (case eyq=>k_is)
  (case ekn=>k_is)
  (case ekq=>k_is)
  (case ekc=>k_is)
  (case ezz=>k_is)
  (case eyd=>k_is)
  (case eyn=>k_is)
  (case ezm=>k_is)
  (case ezn=>k_is)
  (case hkg=>k_is)
  (case hkt=>k_is)
  (case a0|l0|c0|k0=>k_is)
  (case a1|l1|c1|k1=>k_is)
  (case a2|l2|c2|k2=>k_is)
  (case a3|l3|c3|k3=>k_is)
  (case a4|l4|c4|k4=>k_is)
  (case a5|l5|c5|k5=>k_is)
  (case a6|l6|c6|k6=>k_is)
  (case a7|l7|c7|k7=>k_is)
  (case a8|l8|c8|k8=>k_is)
  (case a9|l9|c9|k9=>k_is)
  (case a10|l10|c10|k10=>k_is)
  (case a11|l11|c11|k11=>k_is)
  (case a12|l12|c12|k12=>k_is)
  (case a13|l13|c13|k13=>k_is)
  (case a14|l14|c14|k14=>k_is)
  (case a15|l15|c15|k15=>k_is)
  (case a16|l16|c16|k16=>k_is)
  (case a17|l17|c17|k17=>k_is)
  (case a18|l18|c18|k18=>k_is)
  (case a19|l19|c19|k19=>k_is)
  (case a20|l20|c20|k20=>k_is)
  (case a21|l21|c21|k21=>k_is)
  (case a22|l22|c22|k22=>k_is)
  (case a23|l23|c23|k23=>k_is)
  (case a24|l24|c24|k24=>k_is)
  (case a25|l25|c25|k25=>k_is)
  (case a26|l26|c26|k26=>k_is)
  (case a27|l27|c27|k27=>k_is)
  (case a28|l28|c28|k28=>k_is)
  (case a29|l29|c29|k29=>k_is)
  (case a30|l30|c30|k30=>k_is)
  (case a31|l31|c31|k31=>k_is)
  (case a32|l32|c32|k32=>k_is)
  (case a33|l33|c33|k33=>k_is)
  (case a34|l34|c34|k34=>k_is)
  (case a35|l35|c35|k35=>k_is)
  (case a36|l36|c36|k36=>k_is)
  (case a37|l37|c37|k37=>k_is)
  (case a38|l38|c38|k38=>k_is)
  (case a39|l39|c39|k39=>k_is)
  (case a40|i40|l40|c40|k40=>k_is)
  (case a41|i41|l41|c41|k41=>k_is)
  (case a42|i42|l42|c42|k42=>k_is)
  (case a43|i43|l43|c43|k43=>k_is)
  (case a44|i44|l44|c44|k44=>k_is)
  (case a45|i45|l45|c45|k45=>k_is)
  (case a46|i46|l46|c46|k46=>k_is)
  (case a47|i47|l47|c47|k47=>k_is)
  (case a48|i48|l48|c48|k48=>k_is)
  (case a49|i49|l49|c49|k49=>k_is)
  (case a50|i50|l50|c50|k50=>k_is)
  (case a51|i51|l51|c51|k51=>k_is)
  (case a52|i52|l52|c52|k52=>k_is)
  (case a53|i53|l53|c53|k53=>k_is)
  (case a54|i54|l54|c54|k54=>k_is)
  (case a55|i55|l55|c55|k55=>k_is)
  (case a56|i56|l56|c56|k56=>k_is)
  (case a57|i57|l57|c57|k57=>k_is)
  (case a58|i58|l58|c58|k58=>k_is)
  (case a59|i59|l59|c59|k59=>k_is)
  (case a60|i60|l60|c60|k60=>k_is)
  (case a61|i61|l61|c61|k61=>k_is)
  (case eyx=>k_is)
  (case z0=>k_is)
  (case z1=>k_is)
  (case z2=>k_is)
  (case z3=>k_is)
  (case z4=>k_is)
  (case z5=>k_is)
  (case z6=>k_is)
  (case z7=>k_is)
  (case z8=>k_is)
  (case z9=>k_is)
  (case z10=>k_is)
  (case z11=>k_is)
  (case z12=>k_is)
  (case z13=>k_is)
  (case z14=>k_is)
  (case z15=>k_is)
  (case z16=>k_is)
end
