import PyProof.Rows.All
import Wide.All
import OpenK.AllK
import Wide.FinOn
import Lean
import PyProof.EqAt
import PyProof.EqKinds
import PyProof.TupleCall
import PyProof.AttrMissHeap
import KE.KEqDict
import KE.KItemsList
import PyProof.WalksMore
import PyProof.TupleOfStr
import PyProof.DictWalks
import PyProof.WalkInts
import PyProof.ExcClass3
import PyProof.StationsW
import OpenK.KCall
import PyProof.RulesAs
import PyProof.Ns1
import PyProof.InstStoreFacts
import PyProof.ExcBaseAll.ValueError
import PyProof.ExcArgs
import KE.KIsAll
import PyProof.Rows.CountFlat
import PyProof.StrBlockL
import OpenK.KTop
import PyProof.StrLawsTight
import PyProof.Rows.StrFin3
import KE.KUnpackStar
import PyProof.Conv_int_bool
import PySem.Challenge.RW_mergetree_k54_counts_at_a_desk
set_option maxHeartbeats 4000000
set_option maxRecDepth 100000
open PySem renaming Value->aa,Addr->ae,wpAny_bind->am,Shared->ai,sizeLine->aq,Str->ak,wpAny_pure->aF,PyData->aJ,wpAny->av,Program->aw,starEach->aC,mainGlobals->aK,model->ay,Heap->aH,Around->aB,World->aD,Expr->aI,NameKind->aP,Stmt->aL,Builtin->aT,compareOp->aS,sliceBounds->cV,wpAny_holding->bc,PassesOwn->bC,Obj->aM,wpAny_seqItems->bB,wpAny_field->aZ,sizeLine_eq->aO,assignEach->bQ,compEnvC->bH,attributeBase->bw,wpAny_setField_rec->bM,sysModules->bv,wpAny_passesOwn->bU,wpAny_truthy_bool->bp,strIterType->bO,foldedSetIterable->bV,codeAny->bW,Scope->be,backTo->bb,FuncData->bu,wpAny_standAt->bx,wpAny_pyIter_list->cA,wpAny_newObj_type->bD,bootBuiltins->cH,wpAny_mono->aU,wpAny_Call_Name_kw->bh,tupleKind_room_in1->cc,wpAny_Call_method0_late->du,keywordEach->bP,letOwnedTupleGo->cW
open Option renaming some->U,none->af
local macro_rules
|`(mutual $d* end)=>do
 let `(example:=#[$x,*]):=(d[0]!.raw)|Lean.Macro.throwUnsupported
 let key:=fun (a:Array Lean.Syntax)=>(if a[0]!.isIdent then a[0]!.getId.toString else (a[0]!.isNatLit?.map toString).getD "?")++"/"++toString a.size
 let sub:=fun (t:Std.HashMap String (Array Lean.Name×Lean.Syntax)) (s:Lean.Syntax)=>s.rewriteBottomUp fun s=>
  if s.getKind==`«term#[_,]» then
   let a:=s[1].getSepArgs
   if a.isEmpty then s else match t[key a]? with
   |some (p,b)=>if p.isEmpty then b else b.rewriteBottomUp fun u=>if u.isIdent then match p.idxOf? u.getId with|some i=>a[i+1]!|none=>u else u
   |none=>s
  else if s.getKind==``Lean.Parser.Tactic.show&&s[1].getKind==``Lean.Parser.Term.byTactic then
   Lean.Syntax.node .none ``Lean.Parser.Tactic.paren #[Lean.Syntax.atom .none "(",s[1][1],Lean.Syntax.atom .none ")"]
  else s
 let mut t:Std.HashMap String (Array Lean.Name×Lean.Syntax):={}
 for y in x.getElems do
  let a:=y.raw[1].getSepArgs
  let b:=sub t a.back!
  let p:=(a.extract 1 (a.size-1)).map (·.getId)
  t:=t.insert (key a.pop) (p,b)
 let mut r:Array Lean.Syntax:=#[]
 for c in d.extract 1 d.size do
  let c:=c.raw
  r:=r.push (←if c.getKind==``Lean.Parser.Command.universe then do
   let n:=c[1][0].getId
   if n==`E then `(command|end) else
    let i:=Lean.mkIdent (n.replacePrefix `E .anonymous)
    `(command|end $i)
  else pure ⟨sub t c⟩)
 return Lean.mkNullNode r
mutual
example:=#[#[Xzz,⟨rfl,rfl,by ac_rfl,by ac_rfl,by ac_rfl,by decide,by ac_rfl,by ac_rfl⟩],
#[0,⟨rfl,rfl,rfl,by ac_rfl,rfl,by ac_rfl,by ac_rfl⟩],
#[1,a_,(λ_ _ _ _ _ _ us hl=>by obtain⟨_,h⟩:=a_ us hl;subst h;exact rfl)],
#[2,a_,(λ_ _ _ _ _ _ us hl=>by obtain⟨_,_,h⟩:=a_ us hl;subst h;exact rfl)],
#[3,a_,(λ_ _ _ _ _ _ us hl=>by obtain⟨_,_,_,h⟩:=a_ us hl;subst h;exact rfl)],
#[1,(by ac_rfl)],
#[2,(by lia)],
#[3,(Or.inl rfl)],
#[4,(by simp)],
#[5,(by rfl)],
#[6,(by decide)],
#[7,PySem.W.Frag],
#[8,(.inl rfl)],
#[9,x_,PySem.wpAny (PySem.model (x_).prog (x_).w) (x_).A],
#[Xns,a_,b_,c_,PySem.W.nsIn a_ mainGlobals b_=some (some (.ref c_))],
#[Xfi,a_,b_,c_,d_,PySem.W.findIn a_ (.ref b_) c_=some (some (.ref d_))],
#[Xlk,z_,a_,b_,c_,d_,e_,f_,g_,h_,i_,j_,k_,l_,m_,(z_).lookup a_=some ⟨b_,c_,.func (PySem.W.fnOf d_ e_ (Zm f_) (Zj f_) (Zb f_) .none g_ h_ i_ j_ k_ l_),m_⟩],
#[Xci,a_,b_,c_,PySem.W.codeIn a_ b_ c_=true],
#[Xki,a_,b_,PySem.W.keepIn a_ (.ref b_)=true],
#[Xif,a_,b_,PySem.W.isFn a_ (.ref b_)=true],
#[Zf,a_,b_,@Zf _ _ _ _ _ a_ b_],
#[Zz,a_,b_,c_,d_,@Zz _ _ a_ _ _ _ _ b_ rfl c_ d_ (by rfl) (by trivial)],
#[ZY,a_,b_,c_,@ZY _ _ _ _ _ _ _ _ a_ b_ c_],
#[Zk,@Zk _ _ _ _],
#[Zh,a_,@Zh _ _ _ a_],
#[Zn,a_,@Zn _ _ _ _ a_],
#[Yk,a_,b_,c_,@Yk _ _ _ _ _ _ _ _ a_ b_ c_],
#[Zo,a_,b_,c_,d_,@Zo _ _ _ _ _ _ _ _ a_ b_ c_ d_],
#[Zq,a_,b_,c_,d_,e_,@Zq _ _ _ _ _ _ _ _ _ a_ b_ c_ d_ e_ (by decide) (by decide) (by rfl) (by rfl)],
#[Za,a_,b_,@Za _ _ _ _ _ a_ b_ (by rfl)],
#[Zg,@Zg _],
#[Zg,a0_,#[Za,a0_,#[Zg]]],
#[Zg,a0_,a1_,#[Za,a0_,#[Za,a1_,#[Zg]]]],
#[Zg,a0_,a1_,a2_,#[Za,a0_,#[Za,a1_,#[Za,a2_,#[Zg]]]]],
#[Zg,a0_,a1_,a2_,a3_,#[Za,a0_,#[Za,a1_,#[Za,a2_,#[Za,a3_,#[Zg]]]]]],
#[Zg,a0_,a1_,a2_,a3_,a4_,#[Za,a0_,#[Za,a1_,#[Za,a2_,#[Za,a3_,#[Za,a4_,#[Zg]]]]]]],
#[ZJ,a_,b_,c_,@ZJ _ _ _ _ _ _ _ a_ b_ c_ (λ_ _=>rfl)],
#[Ys,a_,@Ys _ _ _ _ a_],
#[Xe,a_,b_,c_,d_,@Xe _ _ _ _ _ _ _ _ _ a_ (by rfl) b_ c_ d_ (by decide) (by decide) (by rfl) (by rfl)],
#[XF,a_,b_,c_,d_,@XF _ _ _ _ _ _ _ _ a_ b_ c_ d_],
#[Yn,a_,b_,@Yn _ _ _ _ _ _ a_ b_ (by rfl) (by rfl) (by rfl)],
#[W5,a_,b_,c_,@W5 _ _ _ _ _ _ _ a_ b_ c_ (by intro _;rfl)],
#[ZT,a_,b_,c_,@ZT _ _ _ _ _ _ _ _ a_ b_ c_],
#[ZB,@ZB _],
#[ZD,a_,b_,c_,d_,@ZD _ _ _ _ _ _ _ _ _ _ _ a_ b_ c_ (by trivial) d_ (by decide) (by rfl) (by rfl)],
#[Zu,@Zu _ _ _ _],
#[Xn,a_,b_,c_,d_,e_,@Xn _ _ _ _ _ _ _ _ _ _ _ _ _ _ a_ rfl rfl rfl b_ c_ d_ e_ (by intro _;rfl)],
#[pv,a_,b_,@pv _ a_ _ _ (by rfl) b_ (by decide) (by decide)],
#[cg,a_,b_,@cg _ _ _ _ _ _ _ _ _ _ _ a_ b_ rfl (by ac_rfl) (by rfl)],
#[cv,a_,b_,@cv _ _ _ _ _ _ _ _ _ _ _ a_ b_ rfl (by ac_rfl) (by rfl) (by decide) (by decide)],
#[YF,a_,b_,c_,d_,e_,f_,@YF _ _ _ _ _ _ _ _ _ _ _ _ a_ b_ c_ d_ e_ f_ (by rfl) (by rfl) (by rfl) (by rfl) (by rfl)],
#[Xi,a_,b_,@Xi _ _ _ _ _ _ _ a_ b_],
#[W7,a_,@W7 _ _ _ _ a_],
#[W8,a_,@W8 _ _ _ a_ (by intro _;rfl)],
#[Yi,a_,@Yi _ _ _ _ _ a_],
#[XR,a_,b_,@XR _ _ _ _ a_ b_ (by rfl) (by decide) (by decide)],
#[WO,a_,b_,@WO _ _ _ _ _ _ _ a_ b_],
#[WP,a_,@WP _ _ _ _ a_],
#[gT,a_,b_,c_,@gT _ a_ _ _ _ b_ _ c_ (by rfl) (by rfl) (by rfl) (by rfl)],
#[Zs,a_,b_,@Zs _ _ _ _ _ a_ b_ (by rfl)],
#[cw,a_,b_,@cw _ _ _ _ _ _ _ _ _ _ _ a_ b_ rfl (by ac_rfl) (by rfl) (by decide) (by decide)],
#[ZR,@ZR _ _ _],
#[Xh,a_,b_,c_,d_,@Xh _ _ _ _ _ _ _ _ a_ rfl b_ c_ d_ (by intro _;rfl)],
#[ZC,a_,b_,c_,@ZC _ _ a_ _ b_ rfl c_ (by trivial)],
#[ZL,a_,@ZL _ _ _ _ a_ (by rfl)],
#[iE,a_,b_,c_,@iE _ a_ _ _ _ _ _ _ _ b_ c_ (by rfl) (by rfl) (by rfl)],
#[Wq,a_,b_,c_,d_,@Wq _ _ _ _ _ _ _ _ _ _ a_ b_ c_ d_],
#[ZE,a_,@ZE _ _ _ _ _ a_ (by rfl)],
#[Yq,a_,b_,c_,d_,@Yq _ _ _ _ _ _ _ _ _ _ _ _ a_ b_ c_ d_ (by trivial) (by rfl)],
#[Yb,a_,b_,@Yb _ _ _ _ _ _ _ _ a_ b_ (by rfl)],
#[XQ,@XQ _ _],
#[V2,a_,b_,c_,@V2 _ _ _ _ _ _ _ _ _ _ a_ b_ c_],
#[Yh,a_,b_,c_,d_,e_,@Yh _ _ _ _ _ _ _ _ _ _ _ _ _ _ _ a_ b_ c_ d_ e_ (by trivial) (by rfl) (by rfl) (by rfl)],
#[Vm,a_,b_,c_,@Vm _ _ _ _ _ _ _ _ _ _ _ _ a_ b_ c_ (by trivial) (by rfl) (by decide) (by rfl) (by rfl)],
#[iL,a_,b_,@iL _ a_ _ _ _ b_ (by rfl)],
#[Wm,a_,@Wm _ _ _ _ a_ (by rfl) (by decide)],
#[Wl,a_,@Wl _ _ _ _ _ _ a_],
#[Yd,a_,b_,@Yd _ _ _ _ _ a_ b_],
#[Wk,a_,b_,c_,d_,e_,f_,@Wk _ _ _ _ _ _ _ _ _ _ _ _ _ _ _ _ a_ b_ c_ d_ e_ f_ (by trivial) (by rfl) (by rfl) (by rfl)],
#[Te,a_,b_,c_,d_,@Te _ _ _ _ _ _ _ _ _ _ _ _ a_ b_ c_ d_ (by trivial) (by rfl) (by decide) (by rfl) (by rfl)],
#[Vk,a_,@Vk _ _ _ _ a_ (by rfl) (by decide)],
#[WS,a_,b_,@WS a_ _ _ _ _ _ b_ (by rfl) (by rfl)],
#[UT,a_,b_,c_,d_,e_,f_,g_,@UT _ _ _ _ _ a_ _ _ _ _ _ _ _ _ _ _ _ _ b_ rfl (Or.inl rfl) c_ rfl rfl rfl d_ e_ f_ g_ (by rfl) (by intro _;rfl) (by trivial)],
#[e,ZP K mg au aj aA ap aG ax ao ar],
#[h,(Zv "likened" (.int 0) (Zv "next_number" (.int (l.length:Int)) (Zv "rows" (.ref c) [])))],
#[i,aC (e::es) X.env=(false,eval e X.env)::aC es X.env],
#[j,(x == ("__debug__" : ak))=false],
#[k,Inv X ah σ H s],
#[l,h.get? C=U (excClassObj nm q C N bs (.ref B::YO) ci sn sub ab bL dd k0 k1 k2 k3 k5 "ValueError.__new__")],
#[m,(Y7 X.env.cells c.names [])],
#[n,Xu _ _ _ _ _ _ #[1] #[1] #[1] #[1] #[1] #[1]],
#[o,["_law_left_here", "_law_stems_here", "_law_most"]],
#[p,(lcp (cds x) (cds y):Nat)],
#[q,#[.ref T,.none,.none,.none,.bool false,.none]],
#[r,(λaN f A outer s H vs Q E hr h=>?_)],
#[s,(ay prog w)],
#[t,["_law_script", "_law_left_here", "_law_names_here", "_law_stems_here", "_law_merge", "_law_numbers", "_law_rows", "_law_due", "_law_k", "_law_word", "_law_name", "_law_keys_here", "_law_many", "_law_called", "_law_taken"]],
#[u,(by nofun)],
#[v,["desk", "singles", "further"]],
#[w,#[ZE,‹0›]],
#[y,⟨ok.mod,ok.kind,ok.glob,ok.blt,ok.above,ok.inj,ok.has,ok.cab,ok.hd,ok.frames,ok.stk,ok.exf,ok.bs,ok.bsz,ok.noex,ok.exfs,ok.funs,ok.frf⟩],
#[z,by rintro i zs k a C F r L R ⟨⟨I,J,rfl⟩,rfl,d,l,Dk⟩ hr;have S:i<xs.length:=(Qd.mp L).1;have W:D≠r:=Ze l hr;have M:ZG H (upd a r (.tup [C,F])):=d.trans (Zi hr _);refine⟨r,_,rfl,SqT.of Zd,rfl,_,_,rfl,_,_,rfl,rfl,_,rfl,_,rfl,C,F,rfl,(hi i C F L R).mono M,λX N=>?_⟩;have Y:X D=U (.lst (List.replicate i (.bl true))):=N _ _ (by rw[Zc W];exact l);refine⟨Y,(by rw[QaB];exact ZA #[2]),⟨_,_,rfl⟩,?_,?_,Zd,S⟩],
#[A,(bb pos (aC es X.env)).any (·.1)=false],
#[B,by subst m hw n;obtain⟨q,t,Q,x,y,A⟩:=j it #[4];obtain⟨B,C⟩:=p;obtain⟨D,a,F⟩:=I.dictF B hd;have l:kvs.length=D.length:=a.length],
#[C,(λz=>nomatch z)],
#[D,(YQ X c N' C s H fp)],
#[E,⟨_,rfl⟩],
#[F,List Int],
#[G,aa->ai->Prop],
#[H,(s.heap.objs.size+1)],
#[I,(upd (upd (upd X B (.dT [])) m (.ins aj g (Zv "stays" (.ref B) (Zv "looked" (.int 0) #[h])))) m (.ins aj g (Zv "best" .non (Zv "stays" (.ref B) (Zv "looked" (.int 0) #[h])))))],
#[J,ak->Option aa],
#[K,(ay X.prog X.w)],
#[L,List (ae×aM)],
#[M,(.type "BaseException")],
#[N,(.ref f.heap.objs.size)],
#[O,(by with_unfolding_all rfl)],
#[P,∀vs H Q E,sp vs H Q E->vs.length=ps.length],
#[Q,⟨_,_,rfl,rfl⟩],
#[R,Df P w K mg base 2 "_law_pick" ["_law_left_here", "_law_many"] VR],
#[S,(.ref C)],
#[T,List ak],
#[U,(ns.map V.int)],
#[V,(U (.builtin "object.__setattr__"))],
#[W,by have L:Inv X A B H { s with heap:=f,toks:=s.toks+1 }:=I.turned (t':=s.toks+1) (λb o a e=>(J.2 b a).trans e) n p q u x;obtain⟨o,e,c,d⟩:=id D;exact⟨_,rfl,VC (s:={ s with heap:=f,toks:=s.toks+1 }) e c d #[6] ⟨.str ⟨#[z.cps[i]]⟩,H,L,#[E],⟨rfl,_,C,rfl⟩,D,λb a=>(g b a).1⟩⟩],
#[X,["self"]],
#[Y,⟨rfl,rfl⟩],
#[Z,by have e1:=Qp (wa.one B);have e2:=Qp (wb.one u);subst e1;subst e2;have e3:=Qp (nE.symm.trans G);have e4:=Qp (nF.symm.trans D);subst e3;subst e4],
#[10,by subst e;obtain⟨o,e,c,d⟩:=st;exact⟨o,e,λv z=>by rw[d]at z;cases z⟩],
#[11,∀b∈ch,(b∈X.ex\/X.s₀.heap.objs.size<=b)/\b≠X.env.locals/\(∀x c,X.env.cells.lookup x=U c->c≠b)/\∀p∈X.pn++ah,p.1≠b],
#[12,(.builtin "object.__class__")],
#[13,(mgF rd nb li lo sd aE)],
#[14,YX X.prog X.w X.K X.mg X.base CX k f fd ps sp],
#[15,(upd H c (.tup (["list", "tuple"].map V.ty)))],
#[16,(λ_ _ _ _=>(@XS _))],
#[17,(mgF rd nb li lo sd a)],
#[18,(by show 0<=aq;decide)],
#[19,∀ {x y:ak} {n m:Nat},x.length<=n->y.length<=m->n+m<=10000->(x++y).length<=n+m],
#[20,(by intro z;cases z)],
#[21,(.frz o (.dK kvs))],
#[22,(upd (upd H k (.lst (d.map V.str))) p (.ins au c (Zv "all_keys" (.ref k) [])))],
#[23,X.fn x=true\/X.env.scope.names.lookup x=U .local],
#[24,(ss.map V.str)],
#[25,(show false=true from c)],
#[26,((env::outer).filterMap (·.frame))],
#[27,#[Zg,‹1›]],
#[28,(if (if (29:Int)<(((Z.map V.int).length:Nat):Int) then (29:Int) else (((Z.map V.int).length:Nat):Int))>9 then (if (29:Int)<(((Z.map V.int).length:Nat):Int) then (29:Int) else (((Z.map V.int).length:Nat):Int)) else 9)],
#[29,ZM cR cM H m rd sd L s nb li lo aE],
#[30,(.Call (.Name x p) (e::es) [] pos)],
#[31,["_law_word", "_law_parts", "_law_keys_here"]],
#[32,["desk", "singles", "keys"]],
#[33,[.str "row",.str "row",.str "row",.str "grow",.str "grow",.str "drop"]],
#[34,#[Zq,(Ye K),#[5],T.b.n_len,Qz,#[Zg,‹0›]]],
#[35,(.builtin "ValueError.__init__")],
#[36,⟨h,g,d,t,os⟩],
#[37,(.Call (.Attribute o m bn) (e::es) [] pos)],
#[38,by have G:ZG H #[15]:=Zi u _;refine RD (K:=K) (xs:=xs) (ys:=ys) (λi zs k a=>(X2 λI J=>k=[U (.ref p),U (.ref m),I,J])/\zs=List.replicate i (.bl true)/\ZG H a/\a D=U (.lst zs)/\i<=xs.length) ?_ ?_ ?_ ?_],
#[39,["one", "other", "far"]],
#[40,Mf P w K mg base 2 au "head" #[X] (VM au)],
#[41,((lcp (cds i) z:Nat):Int)],
#[42,(".0",.«local»)],
#[43,List (Key×V)],
#[44,#[Zq,WL,#[5],T.b.n_len,Qz,#[Zg,‹0›]]],
#[45,by simp only[List.mem_cons,List.not_mem_nil,or_false]at d],
#[46,DOk cR cM H X nd nm],
#[47,Array (Option aa)],
#[48,(upd B f.heap.objs.size (.dK []))],
#[49,(ZV I q #[4])],
#[50,(U (.builtin "BaseException.__getattribute__"))],
#[51,["row", "first", "others", "single_kinds", "further_kind", "many", "singles", "further"]],
#[52,by obtain⟨_,q1,q2,q3,q4,_⟩:=f3 b k;have z1:=I4.ok.exf b (by rw[<- w];exact k);refine⟨hn b k,z1.1,I4.ok.exfs b (by rw[<- w];exact k),.inl (by rw[<- w];exact k),z1.2,λp hp=>?_⟩],
#[53,by refine am ?_;simp only[List.zipIdx_cons,List.zipIdx_nil,List.forIn_cons,List.forIn_nil];refine am (am (wpAny_onRaise ?_));show av _ _ (aT.SmallTypes.nextOf (.ref i1) >>= _) _ _ _],
#[54,List (ak×Int)],
#[55,Df P w K mg base 5 "refuse_break" ["number", "keys"] (T7 K)],
#[56,(Zv "rows" (.ref c) [])],
#[57,(.lst (ks.map V.str))],
#[58,(.builtin "type.__call__" ⟨.ref C::us,a⟩)],
#[59,by show av _ _ (aT.SmallTypes.ownedTupleIsFree (.ref z) >>= _) _ _ _;unfold aT.SmallTypes.ownedTupleIsFree;refine am (am (aZ hz rfl (x:=.none) rfl (aF ?_)));simp only[if_true]],
#[60,((lcp (cds i) (cds l):Nat):Int)],
#[61,(by show 2<=aq;decide)],
#[62,(s.heap.push { cls:=.type "range",data:=.fields #[.int lo t,.int a u,.int 1 v] })],
#[63,(.type "ValueError")],
#[64,by show av _ _ (if (aa.ref t == aa.none)=true then _ else _) _ _ s;rw[if_neg (show ¬ ((aa.ref t == aa.none)=true) from Qt)];show av _ _ (field (.ref it) 1 >>= _) _ _ s],
#[65,(.lst [])],
#[66,(((kvM L).length:Nat):Int)],
#[67,(bH c #[m] s.heap.objs.size X.env)],
#[68,[.inl (ZU M).1,.inl (ZU M).2]],
#[69,PA X (e::es) t],
#[70,(items.toList.drop 1)],
#[71,by refine⟨λi m ys a H=>m=kvs.length-i/\i<=kvs.length/\Pv i ys a H,⟨kvs.length,by simp,Qm _,t⟩,?_⟩;rintro i m ys a H ⟨rfl,hi,p⟩;have q:=hl i ys a H p],
#[72,by refine⟨λi m ys a H=>m=kvs.length-i/\i<=kvs.length/\Pv i ys a H,⟨kvs.length,by simp,Qm _,s⟩,?_⟩;rintro i m ys a H ⟨rfl,hi,p⟩;have q:=hl i ys a H p],
#[73,(.ref f)],
#[74,⟨_,rfl,rfl,_,rfl,YW (λd=>absurd (of_decide_eq_true d) #[1]) (λ_=>?_)⟩],
#[75,LI cR cM H1 H X nd rl dl nm rs ds],
#[76,(λ_ _ h=>h.unwish)],
#[77,(nm.filter λe=>decide (e.1≠s))],
#[78,["_law_merge", "_law_numbers", "_law_word", "_law_name", "_law_keys_here"]],
#[79,⟨_,_,c,by assumption,by assumption⟩],
#[80,(A.deeper (envOfC c (Zb st) s.heap.objs.size f a))],
#[81,⟨_,Qr _ rfl,rfl,rfl⟩],
#[82,by rw[show Zv f v ((k,x)::r)=(if k=f then (k,v)::r else (k,x)::Zv f v r) from rfl]],
#[83,["self", "keys"]],
#[84,["one", "other"]],
#[85,["list", "tuple"]],
#[86,Mf P w K mg base 13 aj "play_all" #[X] (T0 au aj)],
#[87,(bb bg (aC es X.env)).any (·.1)=false],
#[88,#[ZJ,(ixL K),‹1›,#[Zk]]],
#[89,#[ZJ,(ixL K),‹0›,#[Zk]]],
#[90,by have f1:=tc_lookup;have f2:=tc_bind #[S];have hT:(#[36]:ai).TypeIs #[S] "type":=⟨_,a,rfl⟩;refine wpAny_call (codeAny_of_tree ?_);show av _ _ (callAny #[S] _) _ _ _],
#[91,(upd (upd (upd t m (.ins aj g (Zv "next_number" (.int (l.length:Int)) #[56]))) m (.ins aj g #[h])) m (.ins aj g (Zv "looked" (.int 0) #[h])))],
#[92,⟨_,rfl,_,_,rfl,rfl,.inr (Lm _),_,rfl,_,rfl,_,_,rfl,rfl,.inl ⟨by decide,by decide⟩,_,_,rfl,rfl,(by show 3<=aq;decide),λp b=>?_⟩],
#[93,["self", "one", "other", "far"]],
#[94,(h.objs.size+1)],
#[95,(.inr (.inl z))],
#[96,["self", "n"]],
#[97,["self", "n", "keys"]],
#[98,["_law_left_here", "_law_stems_here"]],
#[99,Option (ae×Int×Int)],
#[aa,by rw[<- l]at G;have W:Inv X L M H { s with heap:=g }:=I.turned (t':=s.toks) (λb o f e=>(T.2 b f).trans e) q t x y A;obtain⟨o1,Y,c1,Z⟩:=id G],
#[ab,by rintro zs k a ⟨_,rfl,d,l,_⟩;refine⟨D,List.replicate (min xs.length ys.length) true,rfl,SqL.of (by rw[List.map_replicate];exact l),?_⟩],
#[ad,(upd G f.heap.objs.size #[65])],
#[ae,#[Zh,#[ZT,(@PW.pt _ _ _ #[WO,#[Zo,RP,‹1›,#[Zu],(Zr _)],#[WP,#[Zo,MI,‹1›,#[Zu],(Zr _)]]]),#[Zh,#[Zn,(@U4 _ _ _ _)]],#[ZB]]]],
#[af,(partsBetween z (occurrences z y 0 z.length (z.length+1)) y.length)],
#[ag,#[Zq,(Ye K),#[5],T.b.n_len,Qz,#[27]]],
#[ah,(h.push { cls:=.type "dict",data:=.dict #[] })],
#[ai,(upd (upd H c (.lst ((i++j).map V.str))) p (.ins au d (YZ c f g)))],
#[aj,(.tup [.int (ZS (cds x) (cds y)),.int #[p],.int (#[p]-(u:Int)+1)])],
#[ak,∀ {j:Type} {t:Sem j} {Q:j->ai->Prop} {s:ai},av #[s] A t Q E s->av #[s] A t Q (notedBy #[s] A env λe s'=>R (.error e) s') s ],
#[al,swapsWith value (U (.Attribute o f cJ)) pos.line X.env=pure false],
#[am,X.env.scope=o],
#[an,PyProof.Rows.KeyKind],
#[ao,(YN X.L e.n ks k' a)],
#[ap,(I.hok.fresh (Qf _))],
#[aq,(.lst ((Zy L).map V.int))],
#[ar,by exact .inl ⟨⟨q,by lia⟩,hd ys a H (e ▸ p)⟩],
#[au,(Y2.drop n++Y2.take n)],
#[av,∀ys a H,Pv kvs.length ys a H->Q (.ref D) H],
#[aw,(if ([]:List Keyword).isEmpty then 0 else 1)],
#[ax,#[Zq,(Ye K),#[5],T.b.n_len,Qz,#[Zg,‹2›]]],
#[ay,Option ae],
#[az,List aa],
#[aA,by show av _ _ (field (.ref z) 2 >>= _) _ _ _;refine am (aZ hz rfl (x:=.bool false) rfl ?_);show av _ _ (field (.ref z) 3 >>= _) _ _ _],
#[aB,by rintro r s6 ⟨u,hr,h6⟩;subst hr;refine thn h6 ?_;rintro _ s7 ⟨x,H7,I7,r7,y7,mY,vj⟩;have vm:=I7.pinned (gt vj) (T.obj _ _ mY)],
#[aC,(backToKw pos (bP [] X.env))],
#[aD,X.calm=true],
#[aE,by intro ah s σ H xs us Q I r h],
#[aF,of_decide_eq_true d],
#[aG,(s.heap.update T (aM.mapFields (·.setIfInBounds 3 aa.none)))],
#[aH,(YY X.L e.n)],
#[aI,(.ref ao)],
#[aJ,Mf P w K mg base 1 au "to_go" #[X] (T8 au)],
#[aK,⟨#[c]⟩],
#[aL,∀x,bV iter X.env x=pure x],
#[aM,absurd #[25] Qt],
#[aN,∀ {mZ:St} {V:Hp} {s9:ai},Inv Y ([]++VB fp s7.heap) mZ V s9->Inv Y [] mZ V s9/\tn (i+1) s9.heap/\∀b∈fp,V b=af],
#[aO,by refine⟨_,rfl,rfl,_,rfl,Yo #[C] ?_⟩],
#[aP,(.ref s.heap.objs.size)],
#[aQ,(.ref ar)],
#[aR,((X.pn++ah).map (·.1))],
#[aS,by subst j hw l;obtain⟨n,p,G,q,u,x⟩:=g it #[4]],
#[aT,by refine wpAny_comprehension_free (use:=use) rfl hs mV S.kind S.loc (thn (hi Z s σ H _ I h) λv s1 h1=>thn h1 λsF f h2=>?_)],
#[aU,by intro k' e i;obtain⟨k0,D,j,o⟩:=i.last rfl;obtain⟨l,m⟩:=f j],
#[aV,(i.update e λo=>{ o with dict:=U i.objs.size }).get? e=U { cls:=.ref C,dict:=U i.objs.size,data:=.fields #[q] }],
#[aW,aC [a,b] X.env=[(false,eval a X.env),(false,eval b X.env)]],
#[aX,∀ {x:ak},x.length<=10000->x.length<=aq],
#[aY,["_law_found", "_law_due"]],
#[aZ,∀ {b:ae} {o:aM},s.heap.get? b=U o->s.heap.objs.size≠b],
#[a0,(hdM (bump L e.n))],
#[a1,(decide_eq_true z)],
#[a2,(.ref ax)],
#[a3,(.ref aG)],
#[a4,(.Name x pos)],
#[a5,∀h',Xy B #[26] h'->h'.FunFrames base (env::outer)->Yy NB h' e cls dd (rawInt L)->Q () { s with heap:=h' }],
#[a6,["one", "other", "at"]],
#[a7,["_law_left_here", "_law_names_here", "_law_stems_here"]],
#[a8,(by simp only[List.size_toArray]<;>lia)],
#[a9,((List.range i).map λj=>.int (Xb c j))],
#[ba,⟨λb o e n t hx=>?_,λb o e n t hx=>?_,I.base.free,λb o e hx=>?_,I.base.tups,I.base.frzs,I.base.tbls⟩],
#[bb,by rw[if_neg Qt];obtain⟨b1,b2,b3⟩:=lP I9;obtain⟨m',gw,w9⟩:=qc _ _ _ q9;exact⟨m',gw,i+1,ys,iS,V,b1,b2,b3,w9⟩],
#[bc,["self", "row"]],
#[bd,(∀s∈ss,s.length<=24/\AZ s)],
#[be,(os.map Od.txt)],
#[bf,(ZQ X.prog X.w)],
#[bg,((lcp (cds l) z:Nat):Int)],
#[bh,#[.ref h.objs.size,.none,.none,.none,.bool false,.none]],
#[bi,List (κ×V)],
#[bj,#[Zh,#[Zn,‹2›]]],
#[bk,typeOf (.builtin id)=pure (.type "method_descriptor")],
#[bl,(by rw[<- z];exact y)],
#[bm,(.lst (WJ.map V.str))],
#[bn,(.Raise (U (.Call (.Name x p) (e::es) [] bg)) af pos)],
#[bo,(.Call (.Attribute o m bn) [] [] pos)],
#[bp,#[Zq,Th,#[5],T.b.n_len,Qz,#[Zg,#[w]]]],
#[bq,by show (c+k-c).natAbs<=_/\(lo+q-lo).natAbs<=_],
#[br,["self", "row", "place"]],
#[bs,(a++List.replicate k af)],
#[bt,((o.sw++o.fw).map V.str)],
#[bu,(cds x)],
#[bv,List Zx],
#[bw,(XT CX0 P w K mg base N c (Zb st) f a A outer s H E)],
#[bx,∀i ys a H,Pv i ys a H->H d=U #[21]],
#[bz,(∀b o,h.get? b=U o->h'.get? b=U o)],
#[bA,(.ref e)],
#[bB,["self", "meeting", "comer"]],
#[bC,Df P w K mg base 1 "halves" ["numbers"] (Sz K true)],
#[bD,(s.heap.push { cls:=.type "dict",data:=.dict #[] })],
#[bE,#[Zh,#[Zn,(WU T.g_REFUSED)]]],
#[bF,List (List Key×V)],
#[bG,(by simpa using a)],
#[bH,(YT (YI ZO))],
#[bI,Z1 N N' o c],
#[bJ,X.stack=X.env::X.outer/\X.env.frame=U X.env.locals],
#[bK,Unit->ai->Prop],
#[bL,Option Int],
#[bM,(x == ("__classdict__" : ak))=false],
#[bN,(excClassObj nm q C N bs (.ref B::YO) true sn sub ab bL dd k0 k1 k2 k3 k5 "ValueError.__new__")],
#[bO,(by show 2<=100;decide)],
#[bP,(a.length:Int)],
#[bQ,(N'.length-N.length)],
#[bR,(.type "type")],
#[bS,⟨I9.unpinned,T.keep _ _ _ mY λb k A e=>(I9.pin (b,A) (QC _ (QC _ (VA k e)))).1,λb k=>?_⟩],
#[bT,by intro b o e;have Z:=N b o (M b o e);rw[Zc (λz=>by subst z;exact nomatch (G b o e).symm.trans t)];exact Z],
#[bU,by intro ah s σ H x y v u Q I a b h],
#[bV,["numbers", "n"]],
#[bW,(∃o,h'.get? e=U o/\o.cls=.type "StopIteration")],
#[bX,(.type "str")],
#[bY,(.dK (kvM L))],
#[bZ,#[ZJ,(ixT K),‹2›,#[Zk]]],
#[b0,∀b u,h.get? b=U u->h'.get? b=U u],
#[b1,(bH c #[m] j.heap.objs.size X.env)],
#[b2,Df P w K mg base 4 "first_break" ["keys"] (SA K)],
#[b3,(cds y)],
#[b4,#[Zq,(W4 K),#[5],T.b.n_isinstance,boot_isinstance,#[Zg,‹0›,#[XR,T.b.n_bool,boot_bool]]]],
#[b5,(zH5 s.heap S1 S2 a b)],
#[b6,(by show 3<=aq;decide)],
#[b7,⟨⟨_,_,rfl,rfl⟩,#[Q],#[Q],#[Q],#[Q],#[Q],#[Q],#[Q],#[Q],#[Q],#[Q],#[Q],True.intro⟩],
#[b8,⟨_,rfl,rfl,_,rfl,Yo #[20] ?_⟩],
#[b9,⟨_,rfl,_,rfl,_,_,rfl,rfl,_,rfl,YS i ⟨_,rfl,_,_,rfl,rfl,_,rfl,YS j ⟨_,rfl,q⟩⟩⟩],
#[ca,by refine codeAny_builtin Mr ?_;rw[aB.under_plainId Tj _];show av _ A.in1 (pyNext (.ref I) >>= _) _ _ s],
#[cb,(∀s∈ss,s.length<=1000)],
#[cc,(Y9 M n)],
#[cd,(.ref a)],
#[ce,#[Zq,(W4 K),#[5],T.b.n_isinstance,boot_isinstance,#[Zg,‹1›,#[XR,T.b.n_str,boot_str]]]],
#[cf,#[Zq,(W4 K),#[5],T.b.n_isinstance,boot_isinstance,#[Zg,‹0›,#[XR,T.b.n_str,boot_str]]]],
#[ci,by simp only[List.mem_cons,List.not_mem_nil,or_false]at j],
#[cj,by refine .inr ⟨⟨q,r⟩,Pv (i+1),λiC aQ u v=>⟨kvs.length-(i+1),by lia,rfl,r,v⟩,λx u y=>?_⟩],
#[ck,by show X.env.scope.names.lookup y.1=_\/X.env.scope.names.lookup y.1=_;rw[ho];exact(S.free y hy hf).2],
#[cl,(show (aa.ref T != aa.none)=true from by simp)],
#[cm,⟨_,rfl,_,_,rfl,rfl,_,rfl,?_⟩],
#[cn,by obtain⟨m,b,c,L,s,d,e,lo,g,rfl,M,q⟩:=h;refine⟨_,#[Zh,#[Zn,#[w]]],?_⟩;obtain⟨i,j⟩:=M.ob],
#[co,(upd d p (.tup [.int i,.str y]))],
#[cp,(.type "list")],
#[cq,(dsO X nm)],
#[cr,(XT CX P w K mg base N d a f g A outer s H E)],
#[cs,#[WS,K,‹0›]],
#[ct,(#[ah].update x λo=>{ cls:=o.cls,dict:=U h.objs.size,data:=o.data,slots:=o.slots })],
#[cu,⟨_,rfl,rfl,_,rfl,YS rfl ?_⟩],
#[cx,by subst r hw t;obtain⟨⟨l,f⟩,g⟩:=st;obtain⟨L,n,l1⟩:=y;obtain⟨its,A,B,_⟩:=I.list n],
#[cy,by intro X hP hw hK f i ah s σ H E I g st hg;subst hP hw hK;obtain⟨J,L,⟨a,b',M⟩,N,O⟩:=st],
#[cz,["_law_left_here"]],
#[cA,VS K w mg bI bj br],
#[cB,(s.heap.push PySem.W.emptyDict)],
#[cC,(f.2 b (Qx (QD (Qk e) (I.ok.cab x c S hc))))],
#[cD,(.DictComp kx vx [⟨tg,iter,cY,0⟩] c pos)],
#[cE,#[Zq,(Ye K),#[5],T.b.n_len,Qz,#[Zg,‹3›]]],
#[cF,#[Ys,#[Zg]]],
#[cG,by obtain⟨z,lo,i,l,g,B,C,j,m,n,D⟩:=(show Z8 X.prog X.w k c.heap d (.dK f) from A.hok d _ hd)],
#[cH,by have A:=Qp (c.one v);have B:=Qp (d.one w);subst A;subst B;rw[s]at n;cases n;rw[t]at p;cases p],
#[cI,PySem.W.specialIn K #[12] "__get__" = U (U (.builtin "getset_descriptor.__get__"))],
#[cJ,(.type "object")],
#[cK,λe:Zx=>(e.n,(e.ss,e.g))],
#[cL,by rw[List.getElem?_set_ne (Ne.symm w)]at l;obtain⟨O,P,q⟩:=W j y G g l J;refine⟨O,P,?_⟩],
#[cM,bw o name X.env (eval o X.env)=eval o X.env],
#[cN,(λr g=>r=.ok (.ret (.bool true))/\OldK c.heap g.heap/\g.os=c.os/\AllBare g.gens)],
#[cO,(λd=>?_)],
#[cP,(show false=true from f)],
#[cQ,(hdM L)],
#[cR,(.ins au dp (YZ e.k e.f ((e.g+1:Nat):Int)))],
#[cS,by refine⟨c.typeIs,λb q=>?_,hd⟩;cases q;obtain⟨ob,_,_,g,h,_⟩:=c;exact⟨ob,g,h.2.1⟩],
#[cT,(.ref l)],
#[cU,(.ins aA c [("merge",.ref m)])],
#[cV,by refine am (am (wpAny_onRaise ?_));show av _ _ (aT.SmallTypes.nextOf (.ref i2) >>= _) _ _ _],
#[cW,absurd (QD (Qk e) (Qi I.ok.bsz z)) (Qaa _)],
#[cX,Df P w K mg base 3 "alikes" ["row"] (SG K)],
#[cY,(upd (upd H7 G (.own u)) u (.ins au G []))],
#[cZ,(Zr _)],
#[c0,(XY aA au aj λo=>X2 λs ks=>o=.grow s ks)],
#[c1,h.get? C=U (excClassObj nm q C N bs bm true sn sub ab bL dd k0 k1 k2 k3 k5 bE)],
#[c2,["_law_cell", "_law_k"]],
#[c3,V->List V->Hp->VK->Prop],
#[c4,Int×Int],
#[c5,HOk P w H h],
#[c6,A.frames=U (env::outer)],
#[c7,(·.setIfInBounds 1 (aa.ref c.objs.size))],
#[c8,(kvs.any λa=>decide (a.1=k))],
#[c9,(k == aP.free)],
#[da,(bn.endLine == bg.line)],
#[db,(Z2 8 (Zy L) e.n)],
#[dc,(YM nm u.2.1)],
#[dd,(XY aA au aj λo=>X2 λs ks=>o=.row s ks)],
#[de,(.dK kvs)],
#[df,(.cons #[E] .nil)],
#[dg,(.builtin "isinstance")],
#[dh,(.ListComp gG [⟨tg,iter,cY,0⟩] c pos)],
#[di,#[YF,Q4,PySem.F.slot_str_split,PySem.F.type_str_split,LS,‹0›,#[Zg,#[Zu]]]],
#[dj,a_,b_,c_,d_,by refine a_ b_ #[u] (λaN f A outer s H c_ Q E d_ h=>?_)],
#[dk,a_,b_,(λaN f A outer s H a_ Q E b_ h=>?_)],
#[dl,a_,b_,c_,d_,by refine⟨_,rfl,_,rfl,d,aA,a_,_,_,rfl,hd,T.cl_Desk,T.na_Desk_numbers,WR ..,nd,_,rfl,Y6.k' (k:=.inr b_) D.at' c_,_,rfl,d_ ?_⟩],
#[dm,a_,b_,c_,d_,⟨_,rfl,_,rfl,d,aA,a_,_,_,rfl,hd,T.cl_Desk,T.na_Desk_numbers,WR ..,nd,_,rfl,Y6.k' (k:=.inr b_) D.at' c_,_,rfl,d_ ?_⟩],
#[dn,a_,b_,c_,#[Zs,#[ZC,a_,b_,#[3]],#[Zs,#[ZC,c_,b_,#[3]],(@Yj _)]]],
#[dp,a_,b_,(by rw[a_];exact b_)],
#[dq,a_,(by simpa using a_)],
#[dr,a_,b_,c_,d_,e_,by rw[a_]at b_;cases b_;have c_:d_<e_:=(Qd.mp a_).1],
#[ds,a_,b_,by have a_:=b_ T (P:=P) (w:=w) (base:=base)],
#[dt,a_,b_,c_,#[Zo,a_,‹b_›,c_,#[cZ]]],
#[du,a_,b_,c_,(thn (a_ b_ s c_ H _ I h) ?_)],
#[dv,a_,(.lst (a_ V.str))],
#[dw,a_,PySem.W.nsIn K aK a_ = U af],
#[dx,a_,b_,c_,d_,Df P w K mg base a_ b_ c_ d_],
#[dy,a_,b_,c_,#[Zq,(W4 K),#[5],T.b.n_isinstance,boot_isinstance,#[Zg,‹a_›,#[XR,b_,c_]]]],
#[dz,a_,b_,c_,by obtain⟨a_,b_⟩:=c_],
#[dA,a_,b_,c_,by obtain⟨a_,b_,rfl⟩:=Qq.mp c_],
#[dB,a_,(by rw[Qa,a_];exact ZA #[2])],
#[dC,a_,b_,c_,d_,by refine⟨λi m a_ H=>m=b_-i/\i<=b_/\Pv i a_ H,⟨b_,by simp,Qm _,c_⟩,?_⟩;rintro i m a_ H ⟨rfl,d_,p⟩],
#[dD,a_,b_,c_,d_,(upd (upd a_ b_ (.own c_)) c_ (.ins d_ b_ []))],
#[dE,a_,b_,c_,d_,Mf P w K mg base a_ aj b_ c_ (d_ au aj)],
#[dF,a_,b_,PySem.W.findIn K (.ref a_) b_ = U af],
#[dG,a_,b_,c_,(a_ b_ s c_ H _ I h)],
#[dH,a_,b_,c_,PySem.W.nsIn K a_ b_ = U (U (.ref c_))],
#[dI,a_,b_,PySem.W.subIn K a_ b_=U true],
#[dJ,a_,⟨rfl,_,SqL.of a_⟩],
#[dK,a_,b_,c_,d_,(show ∃a_,u=b_ c_ a_ from d_)],
#[dL,a_,b_,c_,(λ_ _ _ _=>#[gT,K,2,#[Zs,#[cg,a_,b_],#[Zs,#[cg,c_,b_],(@Yj _)]]])],
#[dM,a_,b_,#[Xci,K,a_,b_]],
#[dN,a_,b_,(λa A outer s H vs Q E a_ h=>b_ a f A outer s H vs Q E a_ h)],
#[dO,a_,b_,PySem.W.subIn K a_ b_=U false],
#[dP,a_,b_,by obtain⟨a_,rfl⟩:=b_],
#[dQ,a_,b_,c_,d_,e_,by have a_:=b_ j.heap.objs.size j c_ fp;have d_:=e_ j.heap.objs.size j c_ fp],
#[dR,a_,b_,c_,d_,e_,(PySem.W.fnOf x a_ (Zm st) (Zj st) (Zb st) .none kV b_ c_ d_ e_ ct)],
#[dS,a_,λc H R=>b c H λx a=>X2 λd kvs=>x=.ref d/\a d=U #[de]/\∀o,R (a_ d o kvs) (upd a d #[21])],
#[dT,a_,b_,c_,∀C s H fp,a_ #[D] b_ c_],
#[dU,a_,b_,c_,by intro a_ s b_ H c_ I h],
#[dV,a_,b_,c_,by rw[a_,b_]at c_;cases c_],
#[dW,a_,congrArg List.length a_],
#[dX,a_,by rw[Zc (λz=>by rw[z,a_]at this;cases this)];exact this],
#[dY,a_,(a_,.«local»)],
#[dZ,a_,b_,#[Xns,K,a_,b_]],
#[d0,a_,(λ_ _ _ _ h=>SqL.of (h.2.2.2.2 _ _ a_))],
#[d1,a_,b_,c_,(∀b o,a_ b=U o->b≠b_->c_ b=U o)],
#[d2,a_,b_,c_,(∀b o,a_ b=U o->b≠m->b≠b_->c_ b=U o)],
#[d3,a_,b_,c_,∀b a_,b_ b=U a_->c_ b=U a_],
#[d4,a_,PySem.W.hasDictIn K a_=true],
#[d5,a_,b_,c_,d_,e_,by cases (show u=aa.ref b from a_);obtain⟨z,hd,b_,c_,d_⟩:=e_ I.hok e],
#[d6,a_,b_,#[Zg,‹a_›,‹b_›]],
#[d7,a_,b_,(λa_ b_=>by cases b_)],
#[d8,a_,b_,c_,d_,by subst a_;cases (show u=aa.ref b from b_);obtain⟨z,hd,c_,c,d_⟩:=VY I.hok e],
#[d9,a_,b_,(∀s∈a_,s.length<=b_/\AZ s)],
#[ea,a_,#[Zh,#[Zn,‹a_›]]],
#[eb,a_,(false,eval a_ X.env)],
#[ec,a_,aC [a_] X.env=[(false,eval a_ X.env)]],
#[ed,a_,b_,PySem.W.findIn K a_ "__init__" = U (U b_)],
#[ee,a_,∀a_ s',XE X E a_ s'->X.xe a_ s'],
#[ef,a_,b_,c_,d_,by obtain⟨z,hd,a_,b_,c_⟩:=d_ I.hok e],
#[eg,a_,b_,(by show a_<=b_;decide)],
#[eh,a_,b_,c_,by exact⟨_,a_,λb_ c_=>by cases c_⟩],
#[ei,a_,b_,c_,⟨_,a_,λb_ c_=>by cases c_⟩],
#[ej,a_,b_,c_,d_,#[ZD,a_,b_,#[Zg,‹c_›,d_],#[5]]],
#[ek,a_,b_,c_,#[Zg,‹a_›,‹b_›,‹c_›]],
#[el,a_,b_,c_,ZM a_ b_ H m rd sd L s nb li lo c_],
#[em,a_,b_,c_,d_,(λa_ o b_ e=>c_ a_ o d_ e)],
#[en,a_,(A.deeper (envOfC a_ (Zb st) s.heap.objs.size f a))],
#[eo,a_,(c.heap.push { cls:=.type a_,data:=.fields #[.ref d] })],
#[ep,a_,(.builtin a_)],
#[eq,a_,b_,c_,(.tup [.int a_,.int (b_:Int),.str c_])],
#[er,a_,b_,(by rw[<- a_];exact b_)],
#[es,a_,by obtain⟨u,rfl,a_⟩:=Xq r;cases a_],
#[et,a_,((a_+1:Nat):Int)],
#[eu,a_,⟨⟨af,rfl⟩,rfl,Qm _,Zd,Zi a_ _⟩],
#[ev,a_,(eval a_ X.env)],
#[ew,a_,b_,bw a_ b_ X.env (eval a_ X.env)=eval a_ X.env],
#[ex,a_,b_,a_ X.prog X.w X.K X.mg X.base k C b_ ps sp],
#[ey,a_,b_,c_,(by rw[a_];exact b_ c_)],
#[ez,a_,by rw[decide_eq_false (no #[1]:¬ V.str a_ = V.str "row")]],
#[eA,a_,PySem.W.findIn K a_ "__getattribute__" = U #[50]],
#[eB,a_,b_,c_,d_,#[gT,K,3,#[Zs,#[ZC,a_,b_,#[3]],#[dn,c_,b_,d_]]]],
#[eC,a_,b_,(a_ : ak)=⟨[b_].toArray⟩],
#[eD,a_,b_,c_,by rw[a_,b_,jF]at c_;refine thn c_ ?_],
#[eE,a_,(a_,.globalImplicit)],
#[eF,a_,b_,by refine⟨_,rfl,m,aj,a_,_,rfl,b_,T.cl_Merge,T.na_Merge_best,Ww ..,?_⟩;rw[Ss]],
#[eG,a_,b_,c_,d_,(ZF (st:=a_) b_ c_ d_)],
#[eH,a_,b_,by exact .inr (by rw[show b=a_ from z];exact b_)],
#[eI,a_,b_,c_,#[Yq,a_,T.cl_Merge,b_,‹c_›]],
#[eJ,a_,b_,(.inr (.inr (.inr ⟨a_,b_,.inl z⟩)))],
#[eK,a_,PySem.W.findIn K a_ "__class__" = U (U #[12])],
#[eL,a_,b_,c_,by have a1:(ak.empty++(a_ : ak)).length<=0+b_:=z #[6] #[6] #[6];have a2:=z a1 c_ #[6]],
#[eM,a_,(by rw[a_];lia)],
#[eN,a_,b_,c_,d_,by obtain⟨a,b,a_,b_⟩:=c_;exact⟨a,b,by rw[Zc d_];exact a_,b_⟩],
#[eO,a_,b_,(upd a_ b_ #[65])],
#[eP,a_,by refine YW (λa_=>?_) (λa_=>?_)],
#[eQ,a_,b_,#[ZL,#[YF,QF,QG,QH,Xz,‹a_›,#[Zg,‹b_›]]]],
#[eR,a_,b_,by exact(a_ e b_).keep (Zc a.symm) (Zc b.symm) (Zc c.symm)],
#[eS,a_,b_,c_,(∀a_ b_,N a_ b_->∃c_,c_<m/\W (i+1) c_ a_ b_)],
#[eT,a_,PySem.W.isClsIn K a_=true],
#[eU,a_,b_,c_,(thn #[dG,a_,b_,b] λu g ⟨y,i,j,k,c_⟩=>thn (ha b_ g b i _ j c_) ?_)],
#[eV,a_,b_,c_,⟨_,rfl,m,aj,dx,_,_,rfl,a_,T.cl_Merge,b_,c_ ..,_,_,rfl,rfl,dx,_,a_,Ww ..,?_⟩],
#[eW,a_,b_,(ha pos a_ s b_ H _ I h)],
#[eX,a_,PySem.W.findIn K a_ "__setattr__" = U #[V]],
#[eY,a_,b_,c_,d_,by refine⟨_,rfl,m,aj,dx,_,_,rfl,a_,T.cl_Merge,b_,c_ ..,_,_,rfl,rfl,dx,_,a_,Ww ..,?_⟩;rw[d_]],
#[eZ,a_,b_,⟨_,rfl,m,aj,a_,_,rfl,b_,T.cl_Merge,T.na_Merge_best,Ww ..,?_⟩],
#[e0,a_,(λz=>a_ (.inl z))],
#[e1,a_,b_,c_,∀a_ b_,H a_=U (.tup b_)->c_ a_=U (.tup b_)],
#[e2,a_,b_,(λ_ _ _ _=>#[cg,a_,b_])],
#[e3,a_,b_,c_,by refine⟨_,rfl,m,aj,dx,_,_,rfl,a_,T.cl_Merge,b_,c_ ..,_,_,rfl,rfl,dx,_,a_,Ww ..,?_⟩],
#[e4,a_,b_,by refine⟨_,rfl,m,aj,a_,_,rfl,b_,T.cl_Merge,T.na_Merge_best,Ww ..,?_⟩],
#[e5,a_,b_,⟨.str a_,H,I.tok _,#[E],b_⟩],
#[e6,a_,["self", a_]],
#[e7,a_,b_,c_,d_,e_,by rw[Qg];refine List.nodup_append.mpr ⟨a_,by simp,λa b_ b c_=>?_⟩;show#[dA,d_,e_,b_]],
#[e8,a_,b_,c_,by rw[a_]at b_;cases c_],
#[e9,a_,b_,#[dz,a_,b_,M.ob]],
#[fa,a_,PySem.W.mroIn K a_ #[cJ]=U true],
#[fb,a_,by exact nomatch hw.one a_],
#[fc,a_,PySem.W.findIn K a_ "__getattr__" = U af],
#[fd,a_,b_,Inv X a_ b_ H s],
#[fe,a_,b_,c_,d_,by obtain⟨a_,e,d⟩:=T.obj _ _ b_ b c_;exact(d_ (b,a_) (QC _ (QC _ (VA c_ e)))).2.1],
#[ff,a_,b_,c_,d_,by obtain⟨its,a_,b_,c_⟩:=I.list d_],
#[fg,a_,b_,⟨a_,_,rfl,SqT.of b_,rfl,_,_,rfl,_,_,rfl,_,_,rfl,rfl,?_⟩],
#[fh,a_,b_,c_,by have:=a_;rw[<- b_,z,c_]at this;cases this],
#[fi,a_,b_,c_,#[ZD,a_,b_,#[Zg,‹c_›],#[5]]],
#[fj,a_,b_,hdS (Zt64 (a_ (b_ ZO)))],
#[fk,a_,b_,c_,⟨a,b,by rw[Zc a_];exact b_,c_⟩],
#[fl,a_,b_,(∀x a_,X.env.cells.lookup x=U a_->a_≠b_)],
#[fm,a_,Pv 0 [] #[bs] (upd a_ D #[65])],
#[fn,a_,b_,PySem.W.subIn K a_ (.ref b_)=U true],
#[fo,a_,b_,c_,d_,e_,⟨_,rfl,p,c,a_,rfl,b_,by lia,by decide,by decide,λr c_ r0 r1 d_ e_=>?_⟩],
#[fp,a_,(a_ : ak).length=1],
#[fq,a_,b_,by show#[dz,a_,b_,M.ob]],
#[fr,a_,b_,by refine⟨a_,_,rfl,SqT.of b_,rfl,_,_,rfl,_,_,rfl,_,_,rfl,rfl,?_⟩],
#[fs,a_,(.tup [.int (ZU a_).1,.int (ZU a_).2])],
#[ft,a_,b_,(by rw[show b=a_ from z];exact b_)],
#[fu,a_,by exact Q3 a_ I.kIn True.intro d e #[C] f],
#[fv,a_,b_,c_,d_,e_,Inv X a_ b_ c_ { d_ with heap:=e_ }],
#[fw,a_,b_,c_,d_,e_,by rintro u a_ ⟨x,b_,c_,d_,a,dx,fs,ex,e_,l,q⟩;subst ex;obtain rfl:u=aa.ref a:=d_],
#[fx,a_,b_,c_,d_,(.ListComp a_ [⟨b_,iter,c_,0⟩] d_ pos)],
#[fy,a_,b_,c_,d_,by obtain⟨a_,b_,rfl,c_,d_,q⟩:=h],
#[fz,a_,b_,c_,∀b o,a_ b=U o->b≠b_->c_ b=U o],
#[fA,a_,b_,#[YF,QF,QG,QH,Xz,‹a_›,#[Zg,‹b_›]]],
#[fB,a_,b_,((lcp a_ b_:Nat):Int)],
#[fC,a_,Nat->List V->a_->Hp->Prop],
#[fD,a_,b_,#[Zo,a_,‹b_›,#[Zq,WL,#[5],T.b.n_len,Qz,#[27]],#[cZ]]],
#[fE,a_,b_,c_,PySem.W.nsIn K aK a_ = U (U (.int b_ c_))],
#[fF,a_,b_,c_,hdS (a_ (Zt16 (b_ (c_ ZO))))],
#[fG,a_,b_,#[ZD,a_,b_,#[27],#[5]]],
#[fH,a_,b_,c_,by subst a_;rw[b_]at c_;cases c_],
#[fI,a_,b_,c_,M1f P w K mg base 14 aj a_ b_ (c_ au aj ax aG ao)],
#[fJ,a_,nomatch hw.one a_],
#[fK,a_,b_,c_,by rw[Qg];refine List.nodup_append.mpr ⟨a_,by simp,λa b_ b c_=>?_⟩],
#[fL,a_,b_,c_,d_,e_,by refine List.nodup_append.mpr ⟨a_,by simp,λa b_ b c_=>?_⟩;show#[dA,d_,e_,b_]],
#[fM,a_,b_,c_,(∀b o,H b=U o->¬ Fp m a_ b_ L b->c_ b=U o)],
#[fN,a_,PySem.W.findIn K (.ref a_) "__setattr__" = U #[V]],
#[fO,a_,b_,c_,(show Z8 X.prog X.w H s.heap a_ (.dK b_) from I.hok a_ _ c_)],
#[fP,a_,b_,(.lst ((a_ b_).map V.str))],
#[fQ,a_,b_,c_,d_,by have a_:(upd b_ c_ d_) c_=U d_:=Zd],
#[fR,a_,b_,⟨a_,g,d,b_,os⟩],
#[fS,a_,b_,c_,(.lst (a_ λb_=>V.ref c_))],
#[fT,a_,b_,(.inr (.inr ⟨a_,b_,.inl z⟩))],
#[fU,a_,b_,(a_ b_=U .cell\/a_ b_=U .free)],
#[fV,a_,by exact Q1 a_ I.kIn True.intro e #[C] h],
#[fW,a_,#[dp,a_,True.intro]],
#[fX,a_,(.dK (kvN a_))],
#[fY,a_,b_,c_,d_,by obtain⟨a_,rfl⟩:∃b_:Nat,c_=(b_:Int):=⟨d_,by lia⟩],
#[fZ,a_,b_,#[Xfi,K,aj,a_,b_]],
#[f0,a_,by exact nomatch z.one a_],
#[f1,a_,(upd a_ D (.lst (ys++[y])))],
#[f2,a_,b_,by rw[a_]at this;exact absurd this (QaP.mpr b_)],
#[f3,a_,b_,#[Wq,(slL K),‹a_›,(@Vu _ _ _ ‹b_›),(@Vv _)]],
#[f4,a_,b_,c_,d_,Df P w K mg base a_ b_ [c_] d_],
#[f5,a_,b_,c_,ZM cR cM a_ X.m X.rd b_ c_ s' X.nb (X.li+k) (X.lo+q) (YV w)],
#[f6,a_,#[b5].get? (a_ s.heap S1 S2 a b).objs.size=U _],
#[f7,a_,b_,⟨a_,_,rfl,SqT.of b_,rfl,_,_,rfl,_,_,rfl,rfl,?_⟩],
#[f8,a_,b_,(a_ s.heap S1 S2 a b).objs.size=s.heap.objs.size+b_],
#[f9,a_,b_,c_,d_,∀a_ b_,a_≠c_->d_ a_=U b_->h'.get? a_=U b_],
#[ga,a_,b_,c_,by obtain⟨a_,g,d,b_,os⟩:=c_],
#[gb,a_,b_,c_,(∀ (s:ai) (a_:aa),BindsTo s b_ ⟨[a_],[]⟩ [(c_,a_)])],
#[gc,a_,b_,c_,(XT (CX1 P w) P w K mg base N a_ b_ f c_ A outer s H E)],
#[gd,a_,b_,⟨.type "dict",af,.dict a_ b_,#[]⟩],
#[ge,a_,#[dt,Xg,a_,#[ZR]]],
#[gf,a_,b_,c_,d_,e_,by have a_:atI [V.int b_,.int c_] d_=U (.int e_):=XA (j:=d_) rfl],
#[gg,a_,#[YF,Q4,Qal,Qam,(US K),#[Zu],#[Zg,‹a_›]]],
#[gh,a_,b_,(S1.at_keep (λo e=>a_ _ o D.i1z e) b_)],
#[gi,a_,by rw[z,a_]at this;cases this],
#[gj,a_,b_,by refine⟨a_,_,rfl,SqT.of b_,rfl,_,_,rfl,_,_,rfl,rfl,?_⟩],
#[gk,a_,nomatch z.one a_],
#[gl,a_,b_,(@a_ _ _ _ _ ‹b_›)],
#[gm,a_,b_,(SqL a_ H p b_\/SqT a_ H p b_)],
#[gn,a_,#[pv,a_,(Or.inr #[3])]],
#[go,a_,b_,((a_ : ak) = b_)],
#[gp,a_,b_,c_,d_,#[Yh,a_,T.cl_Merge,b_,‹c_›,#[Zg,‹d_›]]],
#[gq,a_,by have hb:(g == a_)=false:=beq_eq_false_iff_ne.mpr h],
#[gr,a_,b_,(by show a_<b_;decide)],
#[gs,a_,b_,by intro ah s σ H x y v u Q I a_ b_ h],
#[gt,a_,b_,(∀b a_,s.heap.get? b=U a_->b_ b=U a_)],
#[gu,a_,by rw[<- a_]at this;exact this],
#[gv,a_,b_,#[Yd,(@a_ _ _ _ _ ‹b_›),#[Yd,#[Zu],(@Vl _)]]],
#[gw,a_,b_,c_,d_,by rintro zs a_ b_ ⟨⟨v,rfl⟩,rfl,_,c_,d_⟩;rw[Qa,Qw (Qf _)]at c_],
#[gx,a_,b_,{ a_ with heap:=b_ }],
#[gy,a_,b_,[.int a_,.int b_]],
#[gz,a_,((a_:Nat):Int)],
#[gA,a_,(∀b∈fp,a_ b=af)],
#[gB,a_,b_,(upd H a_ (.lst b_))],
#[gC,a_,b_,c_,d_,(.DictComp a_ d [⟨b_,iter,c_,0⟩] d_ pos)],
#[gD,a_,λ_ _ _ _ _ st h=>a_ st h],
#[gE,a_,b_,(.tup [.int a_,.int b_])],
#[gF,a_,b_,c_,d_,e_,K.lookup a_=U ⟨.type "tuple",b_,.seq #[.str "name" c_] d_,e_⟩],
#[gG,a_,a_ tm=U (.tup ((#[68]:List Key).map kV))],
#[gH,a_,b_,a_ λ_ _ _ _ _ _ _ q=>b_ q],
#[gI,a_,([]:List a_)],
#[gJ,a_,(WB a_ rfl #[1])],
#[gK,a_,b_,#[ZJ,(ixG a_),#[w],‹b_›]],
#[gL,a_,b_,(.inr (.inr (.inr ⟨a_,b_,z⟩)))],
#[gM,a_,b_,c_,d_,e_,K.lookup a_=U ⟨.type "tuple",b_,.seq #[.ref c_,.none] d_,e_⟩],
#[gN,a_,a_ X.env.scope x],
#[gO,a_,⟨_,SqL.of a_⟩],
#[gP,a_,b_,(aa.ref a_::b_).contains #[M]=true],
#[gQ,a_,⟨_,_,_,_,_,_,_,_,_,_,_,_,_,_,_,_,a_⟩],
#[gR,a_,b_,⟨_,rfl,a_,_,_,_,rfl,rfl,SqL.of b_,rfl,?_⟩],
#[gS,a_,(QE X G a_).symm.trans h],
#[gU,a_,b_,c_,d_,by obtain⟨a_,b_,c_⟩:=d_],
#[gV,a_,⟨_,QE X G a_⟩],
#[gW,a_,b_,c_,d_,e_,by rintro zs a_ b_ ⟨⟨c_,rfl⟩,rfl,_,d_,e_⟩],
#[gX,a_,b_,c_,K.lookup a_=U ⟨.type "dict",af,.dict b_ c_,#[]⟩],
#[gY,a_,(by rw[Qo,Qb a_]<;>rfl)],
#[gZ,a_,b_,c_,d_,by have a_:=z b_ (show (c_ : ak).length<=d_ by decide) #[6]],
#[g0,a_,a_ (List.Sublist.map _ List.filter_sublist)],
#[g1,a_,b_,c_,by obtain⟨m,⟨o,_,_,a_,_⟩,_⟩:=b_;exact c_ _ _ a_ z.symm],
#[g2,a_,(((a_ V.int).length:Nat):Int)],
#[g3,a_,b_,c_,by rw[show nd=a_ from z,b_]at c_;cases c_],
#[g4,a_,b_,by refine⟨_,rfl,a_,_,_,_,rfl,rfl,SqL.of b_,rfl,?_⟩],
#[g5,a_,b_,c_,(λa_ b_ c_=>?_)],
#[g6,a_,by obtain⟨o,A,e,_⟩:=Src.at_obj a_],
#[g7,a_,b_,(upd a_ e (exN e C (U b_)))],
#[g8,a_,b_,#[W5,#[w],‹a_›,(Wn b_)]],
#[g9,⟨rfl,rfl,(f b h.2).2.2,j s h.1,.inr ⟨rfl,(f b h.2).1⟩,(f b h.2).2.1⟩],
#[ha,by have q:=(c.val k).isSome_eq;rw[Option.isSome_map]at q;rw[<- q,<- l];exact h _ (I.tok _)],
#[hb,⟨_,rfl,rfl,_,rfl,_,rfl,nd,_,rfl,Y6.k' (k:=.inr l) D.at' m,rfl,_,rfl,?_⟩],
#[hc,by show#[aE];obtain⟨i,j,rfl,q⟩:=h;obtain⟨u,w',rfl,⟨t,rfl⟩,⟨t',rfl⟩⟩:=Tx r],
#[hd,Zl N ps (Zb st)],
#[he,(show False from r)],
#[hf,(by rcases dG with z|z|z<;>rw[z];exact n1.symm;exact n2.symm;exact n3.symm)],
#[hg,(K w.params)],
#[hh,(#[85].map aa.type)],
#[hi,List Nat],
#[hj,by show#[dz,y,A,x];obtain⟨B,f,C⟩:=I.dictF y hd;have n:kvs.length=B.length:=f.length],
#[hk,e ∉ (env::outer).filterMap (·.frame)],
#[hl,V->Option Int->Option Int->Hp->VK->Prop],
#[hm,(.Assign [.Attribute o f cJ] value pos)],
#[hn,by rw[Zc (Ze this hu),Zc (Ze this mB)];exact this],
#[ho,(∀c o,c≠z->c≠TO->c≠i1->c≠i2->s.heap.get? c=U o->h'.get? c=U o)],
#[hp,(λxs H Q=>X2 λa kvs=>xs=[V.ref a]/\H a=U #[de]/\Q (.int kvs.length) H)],
#[hq,(λT=>NB X.s₀.heap.objs.size H #[aR] T/\(hideAll s.heap ch).get? T=af)],
#[hr,by obtain⟨fV,r1,m1,f1⟩:=I.src B;obtain⟨gp,r2,m2,f2⟩:=I.src C;have T:=g z #[4]],
#[hs,(·.length)],
#[ht,(backToKw bg (bP [] X.env))],
#[hu,#[ZJ,(ixT K),‹3›,#[Zk]]],
#[hv,decide_eq_true rfl],
#[hw,["number", "keys"]],
#[hx,["desk", "things"]],
#[hy,(aC (e::es) X.env)],
#[hz,X.N[i]? = U x],
#[hA,List (Int×Option ak)],
#[hB,Df P w K mg base 15 "ask_take" #[v] (XY aA au aj λo=>∃n,o=.take n)],
#[hC,(upd (upd H f A) r B)],
#[hD,Df P w K mg base 15 "do_drop" #[v] (XY aA au aj λo=>∃s,o=.drop s)],
#[hE,(c.length:Int)],
#[hF,([("all_keys",.ref k),("fars",.ref f),("gone",.int g)]:List (ak×V))],
#[hG,(@TF _ _ _ _ _ _ TB #[Zk])],
#[hH,[.Tuple [.Name x g,.Name y k] kt pt]],
#[hI,⟨C,h,T,i,j,a1,a2,a3,a4,a5,a6,a7,a8,a9,a10,hideAll_none _ #[4]⟩],
#[hJ,Df P w K mg base 15 "ask_counts" #[v] (XY aA au aj λo=>o=.counts)],
#[hK,⟨by decide,by decide⟩],
#[hL,⟨#[(48)+n]⟩],
#[hM,by obtain⟨g,d,r⟩:=e.get b;rw[show its[k]? = U u from f]at d;cases d;exact r],
#[hN,decide_eq_false #[2]],
#[hO,["word", "least", "most"]],
#[hP,["_law_script", "_law_k"]],
#[hQ,YG X.K fd ps ds],
#[hR,Array DictEntry],
#[hS,(λy=>if y=name then U v else mA y)],
#[hT,(tupleKind (ZQ P w))],
#[hU,(f.2 b (Qx (QD (Qk e) I.ok.above)))],
#[hV,(YZ k f g)],
#[hW,(RT ha hb I h λv u g x y i j k l q=>d e g f i x y v u Q j k l q)],
#[hX,(List Int×List Int)],
#[hY,(.ins aj dx (mgF j l (p+1) lo B r))],
#[hZ,(.call (.ref fa) ⟨[.ref a],[]⟩)],
#[h0,#[Zh,#[Zn,#[ZR]]]],
#[h1,#[Zf,#[XQ],#[Zf,#[XQ],#[Zh,#[XQ]]]]],
#[h2,⟨_,rfl,_,rfl,y,rfl,small i,rfl,_,rfl,YW (λc=>?_) (λc=>?_)⟩],
#[h3,by simp only[List.length_map];rw[if_neg #[2]]],
#[h4,s.heap.FunFrames base (env::outer)],
#[h5,(f.heap.push { cls:=.type "list",data:=.seq #[gI,aa].toArray })],
#[h6,(L++[⟨i,u,k,f,l,0⟩])],
#[h7,(.lst (#[be].map V.str))],
#[h8,by rw[show its.toArray.any (eqU x)=its.any (eqU x) by simp,RL r fs];exact q],
#[h9,False.elim a],
#[ia,(thn #[eW,a,b] λj k ⟨l,m,n,o,q⟩=>hc a k b m l j Q n o q)],
#[ib,(envOfC a b s.heap.objs.size f c)],
#[ic,(I.ok.hd hc)],
#[id,(.type "int")],
#[ie,(.lst zs)],
#[ig,(.Call (.Attribute (.Name x p) "__init__" bn) (e::es) [] pos)],
#[ih,(Qf _)],
#[ii,(.cons rfl .nil)],
#[ij,⟨o,k it #[4] o e,r⟩],
#[ik,by simp only[cV,HT.sIx,Option.getD_none,show (1:Int)>0 by decide,if_true]],
#[il,by rintro v j ⟨x,g,i,k,d⟩;obtain⟨c,rfl,d⟩:=d;cases k;refine bp ?_],
#[im,YX X.prog X.w X.K X.mg X.base (CX1 X.prog X.w) k f fd ps sp],
#[io,T9 _ _ _ #[1] #[1] #[1]],
#[ip,List (List Key×ae×aa)],
#[iq,(List.replicate (min xs.length ys.length) true).all id=true],
#[ir,(.ref p)],
#[it,(.ref D)],
#[iu,⟨k,l,d,rfl,?_,f2,by lia,f5,N,by lia,by lia,k3.trans G⟩],
#[iv,∀b o,s.heap.get? b=U o->(∀g,o.data≠.fields g)->b≠T],
#[iw,(·.1)],
#[ix,(excClassObj nm q C N bs a b c sub d e f k0 k1 k2 k3 k5 g)],
#[iy,(XT (CX1 P w) P w K mg base N b (Zb st) f a A outer s H E)],
#[iz,["_law_left_here", "_law_many"]],
#[iA,V->V->Hp->VK->Prop],
#[iB,PySem.W.findIn K #[S] name=U af],
#[iC,List ZW],
#[iD,(λvs H Q E h=>?_)],
#[iF,(thn #[eW,g,i] λus s1 ⟨vs,H1,a,r,q⟩=>⟨a.kIn,?_⟩)],
#[iG,(.tup [.int D,.int (#[p]:Int)])],
#[iH,(.ref it)],
#[iI,(.lst xs)],
#[iJ,(.lst (g.map V.str++[.str k2]))],
#[iK,#[1,YL]],
#[iM,by have:X.env.scope.names.lookup x=U .free:=hk;rw[k]at this;cases this],
#[iN,ak.ofString "__next__"],
#[iO,Ts z TI TO i1 i2 S1 S2],
#[iP,(#[70].length-(2-1-1))],
#[iQ,by show#[bU];obtain⟨i,j,rfl,rfl,q⟩:=h;show#[dP,t,a];show#[dP,c,b]],
#[iR,by refine⟨⟨o,e,ex.1⟩,λa f=>?_⟩;cases f;exact⟨o,e,ex.2.1⟩],
#[iS,List aI],
#[iT,(ss.map aJ.str)],
#[iU,(f.objs.size+1)],
#[iV,(XJ n ks k f x)],
#[iW,(.tup [.int (i:Int),.ref x.1])],
#[iX,(.lst ((List.range ss.length).map λj=>.int (Xb ss j)))],
#[iY,#[XF,YH,‹0›,‹1›,#[cZ]]],
#[iZ,A.handled=af],
#[i0,(λ_ _=>rfl)],
#[i1,(EP X a b Q)],
#[i2,(.lst #[24])],
#[i3,["numbers"]],
#[i4,Y7 a ((n,k)::r) b=Y7 a r ((n,(a.lookup n).getD 0)::b)],
#[i5,2<=M.length],
#[i6,(λe=>decide (e.1=k))],
#[i7,(of_decide_eq_true d)],
#[i8,(o.sw.length:Int)],
#[i9,(noteFrame #[bA] env)],
#[ja,(ZG.refl H)],
#[jb,(U #[73])],
#[jc,(L.map toL)],
#[jd,(.tup (k.map kV))],
#[je,(.ins aj g #[56])],
#[jf,((e.ss.length:Int)-(e.g:Int))],
#[jg,#[dx,1,"alike_from",#[39],SJ]],
#[jh,#[2,YC]],
#[ji,⟨_,rfl,_, "bool",_,_,rfl,.bl b,K8 K,_,rfl,Yz ?_⟩],
#[jj,by obtain⟨_,_,_,_,o,_,_,e,ex,_⟩:=I.hok p _ b;exact⟨o,e,ex⟩],
#[jk,⟨X.m,X.rd,f,X.L++[e],s',X.nb+1,X.li+k,X.lo+q,w⟩],
#[jl,∀self:aa,refuseLoop self "__setattr__" bm=pure ()],
#[jm,Mf P w K mg base 14 aj "add_row" #[bc] (Om K au aj)],
#[jn,M1f P w K mg base 1 aj "row_of" #[96] (Oc au aj ax)],
#[jo,(f.heap.push { cls:=.type "dict",data:=.dict #[] })],
#[jp,(.lst (([]:List (ae×List ak)).map λx=>V.ref x.1))],
#[jq,#[9,X]],
#[jr,⟨⟨af,af,rfl⟩,rfl,G.trans (Zi t _),Zd,Qm _⟩],
#[js,[.ref p]],
#[jt,["_law_left_here", "_law_stems_here", "_law_tail"]],
#[ju,H a=U (.ins C dx fs)],
#[jv,(low n (Z2 8 N n) i)],
#[jw,(Y8 M n)],
#[jx,(X.L++[e])],
#[jy,x ≠ "__name__"],
#[jz,by show av _ _ (typeLookup #[S] _) _ _ _;refine(Qaq X2 m).at ?_],
#[jA,by rintro _ s8 ⟨iS,H8,I8,q8⟩;have P2:=fK _ s8 iS H8 _ I8 q8],
#[jB,[λv=>bindName X.env y v,λv=>bindName X.env x v]],
#[jC,["kind", "many"]],
#[jD,PE X a ta],
#[jE,Df P w K mg base 1 "with_blanks" ["words"] (N6 K)],
#[jF,(ZS #[bu] #[b3]=0/\I.n<J.n)],
#[jG,(XD N vs)],
#[jH,((Txt.split z y).map V.str)],
#[jI,#[dx,4,"_law_keys",#[o],SH]],
#[jJ,#[dx,1,"order_at",#[a6],SD]],
#[jK,by rw[vh];obtain⟨W,⟨m0,w0⟩,gs⟩:=hR f.heap.objs.size hD],
#[jL,⟨by lia,by lia⟩],
#[jM,by refine Calls.callWith_builtin rfl (PySem.evalArgs_none ?_)],
#[jN,by obtain⟨_,q1,_,q3,q4,q5⟩:=f3 b k;exact⟨q3,q1,q4,q5⟩],
#[jO,by obtain⟨C,h,T,i,j,a1,a2,a3,a4,a5,a6,a7,a8,a9,a10⟩:=x.ex],
#[jP,["desk", "heads", "names"]],
#[jQ,(by show (0:Int)<_;decide)],
#[jR,(Zy L)],
#[jS,#[Za,#[Zu],#[Zg,#[Zu],#[Zu],#[Zu],#[Zu],#[Zu]]]],
#[jT,YX X.prog X.w X.K X.mg X.base CX0 k f fd ps sp],
#[jU,((e::es).length+#[gI,Keyword].length+#[aw]<30)],
#[jV,#[Zq,NA,#[5],T.b.n_abs,boot_abs,#[Zg,‹2›]]],
#[jW,[.ref a]],
#[jX,D1f P w K mg base 5 "refuse_break" #[hw] (Oe K ao)],
#[jY,(NB X.s₀.heap.objs.size a ((X.pn++d).map #[iw]))],
#[jZ,⟨zH1 c S1 a,g,d,f,os⟩],
#[j0,{ s with toks:=s.toks+1 }],
#[j1,by show#[fH,w,B,g];rw[List.getElem?_set_self Y]at l;cases l],
#[j2,env.frame=U L],
#[j3,c.names.lookup x=U .local],
#[j4,absurd #[cP] Qt],
#[j5,[z,TI,TO,i1,i2]],
#[j6,["name", "key"]],
#[j7,List ae],
#[j8,List (κ×aa)],
#[j9,A.units+1<cLine],
#[ka,(∀f h j,N f h j->∃l,l<m/\W (i+1) l f h j)],
#[kb,(λf vs=>PySem.call f vs)],
#[kc,(·.2)],
#[kd,(j.objs.size+1)],
#[ke,(f (.int i t) (.int j u))],
#[kf,(ak->Option aa)->aH->Prop],
#[kg,(Yg s k v)],
#[kh,(YY L e.n)],
#[ki,(XT CX P w K mg base N o j f t A outer s H E)],
#[kj,(.type "tuple")],
#[kk,(.tup xs)],
#[kl,(.tup [.int (N.headD 0),.int (N.getLastD 0)])],
#[km,(.ref ap::YO)],
#[kn,(.inr rfl)],
#[ko,(.frz o u)],
#[kp,#[gz,k.toNat]],
#[kq,#[e6,"numbers"]],
#[kr,#[Zh,#[Zn,(WU T.g_DONE)]]],
#[ks,#[Zh,#[Zn,(@U4 _ _ _ _)]]],
#[kt,by have c:=congrFun ih n;unfold hdL at c ⊢;rw[Qap,Qap,d]],
#[ku,(λz=>D.sep #[95])],
#[kv,(ak.join #[aK] ws)],
#[kw,([]:List (ae×aM))],
#[kx,(YN L e.n ks k' a)],
#[ky,(A.mark (U #[bA]))],
#[kz,(.ref r)],
#[kA,(.Call (.Attribute o name bn) (e::es) [] bg)],
#[kB,#[Zg,‹1›,#[ZY,Vs,#[ZE,‹3›],‹2›]]],
#[kC,by simp only[Function.comp]],
#[kD,c.names.lookup x=U .free],
#[kE,(∀a dx,h.get? x=U a->a.dict=U dx->b≠dx)],
#[kF,(PySem.W.fnOf name d B l a C kV D F G g ct)],
#[kG,(F.args_str_split_2 _ _)],
#[kH,(.lst (#[au].map V.str))],
#[kI,(.inr (.inr (.inr ⟨x,(Qac.mp f).1,z⟩)))],
#[kJ,#[dx,2,"alike",#[84],SK]],
#[kK,#[Zg,#[ZJ,(ixG i),‹1›,‹3›],‹4›]],
#[kL,(λx=>([]:List (ak×aa)).reverse.lookup x)],
#[kM,(S1.raw_keep #[em,c,n,d.extBut,n] D.s1z C)],
#[kN,(.inr (.inl ⟨rfl,.inl ⟨_,D.at'⟩⟩))],
#[kO,((l.map λu=>thT #[dc] u.2.2.2).map #[hs])],
#[kP,⟨[],0,0,0,[]⟩],
#[kQ,⟨0,[],_,_,I4,qa,λb k=>(f3 b k).1,?_⟩],
#[kR,by unfold Zy WK at this;rw[Qa]at this;exact Qau.mp this],
#[kS,by rw[Zc (λz=>by rw[z,e]at q;cases q;exact a)];exact q],
#[kT,aa->aa->Sem aa],
#[kU,["desk", "heads"]],
#[kV,["_law_key_here"]],
#[kW,Zt k X.A],
#[kX,Nat->St->Hp->Prop],
#[kY,List aL],
#[kZ,Cf P w K mg base 4 au "Row" #[83] (O4 au)],
#[k0,2<=N.length],
#[k1,(λx=>x.1.isSome)],
#[k2,(λ_ _=>False)],
#[k3,(λ_ _ q=>Qc _ q)],
#[k4,(ys.map V.str)],
#[k5,(ps.zip us)],
#[k6,(merged [] (ks.take i))],
#[k7,(fs.map #[iw])],
#[k8,(aa.ref C::.ref B::YO).contains #[S]=true],
#[k9,(Z2 k #[cc] n)],
#[la,(U (m:Int))],
#[lb,(I.base.free b o e n a)],
#[lc,(.type "bool")],
#[ld,(.frz g #[bY])],
#[le,((p,w)::P.zip vs)],
#[lf,(((c.map λu=>V.ref u.1).length:Nat):Int)],
#[lg,#[fB,#[b3],#[bu]]],
#[lh,#[e6,"number"]],
#[li,#[dz,iH,dA,M2.ob]],
#[lj,#[Zg,#[ZJ,(ixG l),#[cs],‹3›],‹2›]],
#[ll,by rw[<- (c.val k).isSome_eq,<- l];exact h _ (I.tok _)],
#[lm,by have p:c.heap.DictOf #[bf] d i:=⟨g,B,C,j,m,n,D⟩],
#[ln,by have p:=one e;have q:=one l;subst m;subst p;subst q],
#[lo,by have e:=r.length;simp only[Array.length_toList]at e],
#[lp,UK B base NB env outer L e cls dd s.heap],
#[lq,(λ_ _ z=>z)],
#[lr,(upd f o (.lst (h.map V.ref++[.ref y])))],
#[ls,(exN e C af)],
#[lt,(e.ss++ks)],
#[lu,(bump L e.n)],
#[lv,(Y5 P).Nodup],
#[lw,(Qi a2 #[6])],
#[lx,(Qah #[6] _)],
#[ly,(Or.inr rfl)],
#[lz,(.ref #[94])],
#[lA,(.Call (.Name "enumerate" p) [l] [] pos)],
#[lB,#[Zo,RQ,#[bp],#[Wm,T.g_MOST_ROWS],#[cZ]]],
#[lC,#[Xe,Mn,T.b.n_list,boot_list,#[Zg,#[w]]]],
#[lD,λe:ak×Int=>((.inl e.2:Key),V.str e.1)],
#[lE,by rw[decide_eq_true (rfl:V.str "row" = V.str "row")]],
#[lF,X.s₀.heap.objs.size<=s.heap.objs.size],
#[lG,(upd G m (.ins aj z (mgF j p t i g u)))],
#[lH,(by rw[e];exact #[hv])],
#[lI,#[e8,List.map_nil,r,r]],
#[lJ,#[V2,‹0›,#[Zk],UX]],
#[lK,∀ {a b:ak},a≠b->¬ V.str a=V.str b],
#[lL,by rw[e,a,List.drop_zero,Nat.sub_zero,List.map_take]],
#[lM,by obtain⟨m,o,p⟩:=B a d l;exact⟨m,o,a,d,k,p⟩],
#[lN,["kind", "word"]],
#[lO,Y.env=bH c #[m] j.heap.objs.size X.env],
#[lP,(λ_ _ _=>False)],
#[lQ,(F,D,(#[p]:Int))],
#[lR,(.ref x)],
#[lS,(.frz g (.dK f))],
#[lT,(.dK [])],
#[lU,⟨_,rfl,q⟩],
#[lV,⟨_,rfl,_,rfl,rfl,_,rfl,YS rfl ?_⟩],
#[lW,∀t,v=U t->H t.1=U #[gE,t.2.1,t.2.2]],
#[lX,["_law_rows"]],
#[lY,Q3 QaS I.kIn ⟨o,j,m.1⟩ d e #[C] f],
#[lZ,Q3 QaR I.kIn ⟨_,j,rfl⟩ d e #[C] f],
#[l0,PE X o ta],
#[l1,(∃s,(s,u.2.1)∈nm)],
#[l2,(λz=>a (by simp[z]))],
#[l3,(thn (ha b s d H Q I h) λc s1 e=>?_)],
#[l4,(rawInt X.env.locals)],
#[l5,(fs.lookup f)],
#[l6,(aa.ref C::a)],
#[l7,(a == bv)],
#[l8,(WD c.heap H)],
#[l9,(N.map V.int)],
#[ma,(L.map #[iw])],
#[mb,(.lst ys)],
#[mc,#[ey,I.ok.glob,I.mod.glob.keeps,I.bk]],
#[md,⟨[],rfl,rfl,λu hu=>by cases hu⟩],
#[me,by subst f hw g;obtain⟨m,p,F,q,r,u⟩:=d it #[4]],
#[mf,by show#[dU,a,b,Q];refine bh (V5 I c hm d ?_ hn f)],
#[mg,by rw[arm_exec_Raise];refine am (bx (LX hr.hd ?_))],
#[mh,by obtain⟨m,rd,sd,L,s,nb,li,lo,S,l,N,rfl,_⟩:=h],
#[mi,IsPair s.heap TI (.ref i1) (.ref i2)],
#[mj,(PySem.W.instObj C s.heap.objs.size)],
#[mk,(@Mu _ _ _ _ _ _ _ _ #[w] #[5] #[5])],
#[ml,(.Call (.Name "zip" p) [a,b] [] pos)],
#[mm,((a % 2147483629+k*k*7919+11)*48271)],
#[mn,⟨a,b,I.unwish,q⟩],
#[mo,⟨_,.inl rfl,rfl⟩],
#[mp,⟨.int (g i j),H,I.tok _,#[E],q⟩],
#[mq,λx:ZW=>x.1],
#[mr,by subst e;exact f.fpOk #[ih] (f.hok.fresh #[ih])],
#[ms,by show#[aS];have C:z.cps[i]? = U z.cps[i]:=QaH m],
#[mt,q p _ b ⟨_,_,Zd,Qav _⟩ (Zi b _)],
#[mu,j.heap.objs.size=f.heap.objs.size+1],
#[mv,by have:=Va n _ k h;refine⟨λz=>?_,λm a=>?_⟩],
#[mw,d.params.defaults=[]],
#[mx,["word"]],
#[my,["desk", "singles", "keys", "name"]],
#[mz,["_law_script"]],
#[mA,YG X.K fd ps []],
#[mB,T.keep 0 _ _ oS λb _ A e=>lM b A e],
#[mC,Q1 QaS I.kIn ⟨o,g,l.1⟩ e #[C] h],
#[mD,Q1 QaR I.kIn ⟨_,g,rfl⟩ e #[C] h],
#[mE,List Env],
#[mF,HOk X.prog X.w H' h'],
#[mG,(λe=>if e.1=k then (e.1,v) else e)],
#[mH,(λb ps e=>⟨#[],by rw[e];simp⟩)],
#[mI,(upd H l #[bm])],
#[mJ,(upd H a o)],
#[mK,(stored kvs x.1 x.2)],
#[mL,(if (hd n).isSome then U n else af)],
#[mM,(hideAll_get _ f hc)],
#[mN,(hdM #[aH])],
#[mO,(bump L n)],
#[mP,(Z2 k M n)],
#[mQ,(YQ X c N' s.heap.objs.size s H fp)],
#[mR,(Sum.inl.inj z)],
#[mS,(Qx (Qk e))],
#[mT,(Nat.lt_succ_self _)],
#[mU,(M.each e he).at'.ob],
#[mV,(I.ok.bs b o e)],
#[mW,(I.hok.fresh (QZ _))],
#[mX,(A.under #[58])],
#[mY,(.ref t)],
#[mZ,(.ok .next)],
#[m0,(.Attribute e f pos)],
#[m1,#[iL,K,‹1›]],
#[m2,#[ep,"len"]],
#[m3,#[66]=(L.length:Int)],
#[m4,#[3,XV]],
#[m5,by rw[Qa,Qa]at this;exact this],
#[m6,by intro b hb;exact(List.eq_of_mem_replicate hb)],
#[m7,List V],
#[m8,(ZZ s (ZU M)=af\/ZZ s (ZU M)=U af)],
#[m9,(PySem.W.methodObj #[73] (.ref y))],
#[na,(NB X.s₀.heap.objs.size H #[aR])],
#[nb,⟨a,b,I.unpnd,q⟩],
#[nc,⟨_,rfl,j rfl d⟩],
#[nd,∀b H,Pv xs.length b H->D.nx b H],
#[ne,by rw[e];exact r.fpOk #[ih] (r.hok.fresh #[ih])],
#[nf,by rw[Qb l]at c;rw[Qb #[2]]at e;cases c;cases e],
#[ng,e=x\/H e=U (.own x)],
#[nh,[U (.str d),U #[cd],U (.ref b),v]],
#[ni,[.inl k.1,.inl k.2]],
#[nj,Zt (k+1) X.A],
#[nk,V3 s.heap x dx C mA],
#[nl,PE X b tb],
#[nm,Option aa->ai->Prop],
#[nn,KV kvs vs],
#[no,Cls X.K C],
#[np,(vs++dvs)],
#[nq,(upd H2 e #[fX,nm])],
#[nr,(thT #[dc] u.2.2.2)],
#[ns,(o.kinds.map V.str)],
#[nt,(envOfC o j s.heap.objs.size f t)],
#[nu,(by rw[Qa]at a;lia)],
#[nv,(U #[ep,"type.__getattribute__"])],
#[nw,(Qb #[2])],
#[nx,(PySem.strKind_is X.prog X.w z t)],
#[ny,(D.stay (.noGrow (.inl c)) #[ja])],
#[nz,(.tail _ (.head _))],
#[nA,(.ref ap)],
#[nB,(.ref B::YO)],
#[nC,(.lst [.int a,.int b,.int (c+1)])],
#[nD,(.inr (.inr (.inl (z.trans c2))))],
#[nE,(.bool true)],
#[nF,(.Tuple [a,b] k2 l)],
#[nG,((X.pnd d).wish (XE (X.pnd d) E))],
#[nH,#[e6,"rows"]],
#[nI,#[e6,"many"]],
#[nJ,#[e6,"line"]],
#[nK,#[Yb,‹0›,#[Zk]]],
#[nL,(nm.map #[kc])],
#[nM,[U #[ir],U #[cT],U (.int I),U #[kz],B,C]],
#[nN,s.heap.objs.size],
#[nO,Option aa],
#[nP,List (ak×aa)],
#[nQ,(c.map #[kc])],
#[nR,(b.map #[kc])],
#[nS,.inl rfl],
#[nT,λb k=>QD (p8 b k) #[ey,lL,QZ,_]],
#[nU,by subst a;rw[if_pos rfl]at q],
#[nV,by simp only[V0,↓reduceIte]],
#[nW,by rw[if_neg a]at q;rw[decide_eq_false (JR a)]],
#[nX,by rw[QaW];refine⟨by lia,by lia,by lia,?_⟩],
#[nY,by obtain⟨oe,vs,T,oT,lb,md,kW,ni,_⟩:=c3.ex],
#[nZ,decide_eq_false (λq=>nomatch q)],
#[n0,Zt j X.A],
#[n1,Int->Int->Prop],
#[n2,.inr rfl],
#[n3,(λw hw=>RK b c r fs w #[dq,hw])],
#[n4,(l.length:Int)],
#[n5,(if_neg (ne_true_of_eq_false a))],
#[n6,(Z7 X.L)],
#[n7,(HO.lst.inj e)],
#[n8,(F.args_tuple_iterator_next_1 _)],
#[n9,(.int (n:Int))],
#[oa,(.int #[et,k])],
#[ob,∃u,h'.get? e=U u],
#[oc,by show#[dU,g,i,Q];refine bh (W9 I b hm ?_ c)],
#[od,by rw[Qa];exact ZA #[2]],
#[oe,[a.heap.objs.size]],
#[og,["_law_left_here", "_law_some"]],
#[oh,Rw a i kvs[i].1 kvs[i].2 (Qb C)],
#[oi,(λt:Ym=>thT (YM nm t.1) t.2.2)],
#[oj,(λe=>(e.1,e.2.2))],
#[ok,(typeIs_str _ _ _)],
#[ol,(ixL K)],
#[om,(if b=true then (1:Int) else 0)],
#[oo,(by rw[l1];decide)],
#[op,(by rw[aO];decide)],
#[oq,(aT.SmallTypes.nextOf (.ref i))],
#[os,(PySem.W.clsIn K D).isSome=true],
#[ot,(Code.quiet_builtin _ FV.quiet)],
#[ou,(.tup [kV (.inl e.n),.ref e.p])],
#[ov,(.int (1+(i:Int)))],
#[ow,(.FormattedValue e (-1) af pos)],
#[ox,by have p9:∀b∈fp,b<j.heap.objs.size:=#[nT]],
#[oy,a_,b_,c_,d_,⟨_,_,a_,WT b_ #[eg,1,100] #[df],WT c_ #[bO] (.cons rfl d_)⟩],
#[oz,a_,PySem.W.typeIn K a_=U #[bR]],
#[oA,a_,b_,c_,d_,by have a_:(upd b_ c_ d_) c_=U d_:=Zd],
#[oB,a_,b_,c_,d_,e_,∀b a_,b_ b=U a_->b≠c_->(upd d_ c_ e_) b=U a_],
#[oC,a_,b_,c_,(upd a_ b_ c_) b_=U c_],
#[oD,a_,(s.heap.objs.size+a_)],
#[oE,a_,PySem.W.plainOver K a_=true],
#[oF,a_,b_,#[Zz,a_,b_,#[3],#[cF]]],
#[oG,a_,b_,(HT.sIx a_ a_ b_-HT.sIx a_ 0 lo)],
#[oH,a_,#[Zo,WM,a_,#[Zk],#[cZ]]],
#[oI,a_,#[dK,t,aa.int,i,a_]],
#[oJ,a_,b_,[.ref a_,.ref b_]],
#[oK,a_,b_,(by rw[Zc a_];exact b_)],
#[oL,a_,(ZV I q (congrArg not a_))],
#[oM,a_,b_,c_,by show#[dU,a_,b_,Q];refine QaA (pl:=pl) #[du,he,a_,b_] c_],
#[oN,a_,b_,c_,⟨_,rfl,_, a_,_,_,rfl,.int i,b_ K,_,rfl,c_ ?_⟩],
#[oO,a_,b_,c_,d_,e_,by rw[Zc (Ze a_ b_)];exact c_ d_ e_ a_],
#[oP,a_,b_,c_,(@a_ _ _ _ _ _ _ _ _ _ _ d.xc b_ ‹0› ‹c_› #[5])],
#[oQ,a_,b_,c_,d_,e_,by rintro i y zs a_ b_ c_ ⟨⟨v,rfl⟩,rfl,hi,d_,e_⟩;rw[Qo]at c_],
#[oR,a_,by show (Y5 (Z7 a_)).Nodup;rw[<- Xt];exact M.nd],
#[oS,a_,b_,c_,by have a_:=TR D.ok.nd b_;obtain⟨e,c_,rfl⟩:=D.rows b_],
#[oT,a_,b_,by rw[if_neg a_,if_neg b_]],
#[oU,a_,b_,c_,#[ZD,a_,b_,#[Zg,‹0›,‹c_›,#[Zk]],#[5]]],
#[oV,a_,#[gT,K,2,#[dn,2,a_,3]]],
#[oW,a_,b_,c_,a_ λb_ c_=>h b_ (Qs _ c_)],
#[oX,a_,b_,(λb a_ b_=>Qc _ b_)],
#[oY,a_,b_,∀b∈fp,XH X a_ b_ b],
#[oZ,a_,b_,c_,by refine⟨_,rfl,_, a_,_,_,rfl,.int i,b_ K,_,rfl,c_ ?_⟩],
#[o0,a_,b_,c_,#[ZT,#[Zo,(a_ b_),‹3›,c_,#[O]],#[bE],#[ZB]]],
#[o1,a_,b_,c_,by obtain⟨a_,b_⟩:=I.base.there b o e c_],
#[o2,a_,by have hb:(g == a_)=true:=beq_iff_eq.mpr h],
#[o3,a_,b_,[.ref a_,.int b_]],
#[o4,a_,b_,#[Zg,‹a_›,‹b_›,#[Zk]]],
#[o5,a_,b_,#[Xfi,K,a_,"__init__",b_]],
#[o6,a_,b_,c_,d_,e_,by obtain⟨a_,b_,rfl,c_,d_,e_,q⟩:=h],
#[o7,a_,b_,c_,d_,e_,by obtain⟨a_,q',N,bs,b_,sub,c_,d_,dq,k0,k1,k2,k3,k5,e_⟩:=M.obj],
#[o8,a_,by rw[a_,Ub,decide_eq_false #[2]]],
#[o9,a_,b_,by show#[dU,a_,b_,R];refine thn #[dG,hl,a_,b_] ?_],
#[pa,a_,b_,c_,#[ZJ,a_,‹b_›,‹c_›]],
#[pb,a_,(∀H,SqT K H a_ [.str "name"])],
#[pc,a_,#[dt,YH,a_,#[Zu]]],
#[pd,a_,b_,(.inr ⟨a_,_,rfl,rfl,b_⟩)],
#[pe,a_,b_,(.compLoop a_ 0 b_ #[N] #[b1])],
#[pf,a_,#[Yb,‹0›,(@a_ _ _)]],
#[pg,a_,b_,by rw[Zc (λz=>by rw[z,a_]at b_;cases b_)];exact b_],
#[ph,a_,b_,c_,by obtain⟨f,fd,F,a_,b_,c_⟩:=F.ex],
#[pi,a_,(.int (a_ #[bu] #[b3]))],
#[pj,a_,b_,hdS (a_ (b_ ZO))],
#[pk,a_,b_,#[Zz,3,a_,#[3],‹b_›]],
#[pl,a_,b_,c_,d_,e_,by have a_:#[dD,b_,c_,d_,e_] d_=U (.ins e_ c_ []):=Zd],
#[pm,a_,b_,a_ (ZV I q (congrArg not b_))],
#[pn,a_,by obtain⟨f,a_,F,m,b⟩:=T.ex],
#[po,a_,a_ (t':=c.toks) λb o e=>Qc _ e],
#[pp,a_,b_,by exact a_ (ZV I q (congrArg not b_))],
#[pq,a_,b_,#[ZC,a_,b_,#[3]]],
#[pr,a_,b_,c_,d_,#[dD,a_,b_,c_,d_] c_=U (.ins d_ b_ [])],
#[ps,a_,⟨⟨a_,rfl⟩,rfl⟩],
#[pt,a_,b_,by rw[if_pos a_,if_pos b_]],
#[pu,a_,PySem.W.makesIn K a_=true],
#[pw,a_,#[d3,o,h.get?,a_]],
#[px,a_,(by rw[a_];simp)],
#[py,a_,b_,(ks[a_]'(hn ▸ b_))],
#[pz,a_,b_,c_,∀b o,H b=U o->b≠a_->b≠b_->c_ b=U o],
#[pA,a_,b_,(Qj (f:=λx:Zx=>(a_,x)) b_)],
#[pB,a_,b_,c_,d_,#[ZD,a_,b_,#[d6,c_,d_],#[5]]],
#[pC,a_,by rw[if_neg a_]at h],
#[pD,a_,(show b∈#[gI,ae] from a_)],
#[pE,a_,λb a_=>Qab _ _ (Ne.symm a_)],
#[pF,a_,b_,zsc [#[42],#[dY,a_],#[eE,b_]]],
#[pG,a_,b_,c_,d_,e_,by have a_:=M.each e b_;show#[dz,c_,d_,e_]],
#[pH,a_,b_,c_,d_,by obtain⟨its,a_,b_,c_⟩:=I.tuple d_],
#[pI,a_,b_,c_,by intro a_ s b_ H c_ us Q I r h],
#[pJ,a_,b_,⟨by rw[a_];exact Qm _,by rw[a_,b_]⟩],
#[pK,a_,b_,c_,by show#[dU,e,f,a_];refine b_ #[du,c_,e,f]],
#[pL,a_,b_,(a_++List.replicate b_ af)],
#[pM,a_,(But.same (Zi a_ _))],
#[pN,a_,b_,a_ b_=U .cell\/a_ b_=U .free],
#[pO,a_,b_,c_,by obtain⟨a_,b_,rfl,c_,q⟩:=h],
#[pP,a_,IsZip a_ z TI TO .ellipsis],
#[pQ,a_,b_,by refine a_ b_ #[u] #[r]],
#[pR,a_,b_,c_,#[Wk,a_,T.cl_Merge,#[76],b_,‹0›,c_]],
#[pS,a_,a_->ai->Prop],
#[pT,a_,(by rw[a_];rfl)],
#[pU,a_,b_,(by rw[a_,b_];lia)],
#[pV,a_,b_,hdS (Zt32 (Zt16 (a_ b_)))],
#[pW,a_,b_,(∀H,SqT K H a_ [.ref b_,.non])],
#[pX,a_,b_,#[ej,a_,b_,0,#[Zk]]],
#[pY,a_,b_,c_,#[Yq,a_,T.cl_Row,b_,‹c_›]],
#[pZ,a_,PySem.W.keepIn a_ #[73]=true],
#[p0,a_,sortedS a_=true],
#[p1,a_,(by rw[a_];simpa using g)],
#[p2,a_,b_,by show#[dV,z,a_,b_]],
#[p3,a_,b_,by refine⟨a_,b_,?_⟩],
#[p4,a_,a_<s.heap.objs.size],
#[p5,a_,b_,c_,by obtain⟨d,a_,e,hd,q⟩:=b_;subst e;cases c_],
#[p6,a_,b_,(∀s∈a_,s.length<=b_)],
#[p7,a_,b_,c_,d_,(by rw[<- a_ b_ c_];exact d_)],
#[p8,a_,b_,c_,PySem.W.nsIn K aK a_ = U (U (.str b_ c_))],
#[p9,a_,b_,UU (X:=X) S a_ #[m] b_ x],
#[qa,a_,#[dz,a_,hd,h.ob]],
#[qb,a_,∀b∈a_ M n,b∈M],
#[qc,a_,absurd rfl (a_ _ c)],
#[qd,a_,b_,#[dz,a_,b_,D.mg.M.ob]],
#[qe,∀T,s.heap.objs.size<=T->NB T],
#[qf,by show av _ _ (seqItems? #[mY] >>= _) _ _ s],
#[qg,by obtain⟨L,g⟩:=I.base.slot b o e n t hx],
#[qh,absurd rfl (S.nocell _ (Tt q))],
#[qi,YB X.K C f],
#[qj,PySem.W.takesIn K #[12]=U true],
#[qk,PySem.W.plainGet K C name=true],
#[ql,(λe=>(e.1,e.2.2.1[e.2.2.2]?))],
#[qm,(λa c g e=>m its d f a c g e)],
#[qn,(upd l #[iU] (exN #[iU] C af))],
#[qo,(Zy #[aH])],
#[qp,(Z2 8 N n)],
#[qq,(R.map λu=>thT #[dc] u.2.2.2)],
#[qr,(List.replicate n.toNat a.cps)],
#[qs,(List Int)],
#[qt,(.lst ([.str d]++e.map V.str))],
#[qu,(.bl true)],
#[qv,#[dx,15,"do_grow",#[32],#[c0]]],
#[qw,⟨λz=>?_,λz=>?_,λz=>?_⟩],
#[qx,⟨t,rfl⟩],
#[qy,⟨o,y,B,a.heap D _ H c,Y4⟩],
#[qz,⟨_,_,rfl⟩],
#[qA,by obtain⟨m,hn,_⟩:=id F.loc;rw[Yl]at hn],
#[qB,by obtain⟨f0,f1,f2,f3,f4,f5⟩:=m it #[4]],
#[qC,ns.length<=aq],
#[qD,ak->Option aP],
#[qE,[.inl (ZU N).1,.inl (ZU N).2]],
#[qF,["one", "other", "far", "at"]],
#[qG,ZK dvs ds],
#[qH,Y.env.locals=j.heap.objs.size],
#[qI,X.mg x=U #[S]],
#[qJ,X.N.Nodup],
#[qK,X.A.frames=U (X.env::X.outer)],
#[qL,Wr CX X E],
#[qM,PE X value tv],
#[qN,PE X e te],
#[qO,Option Bool],
#[qP,List.find?_some a],
#[qQ,List (ak×ae)],
#[qR,K.In s.heap],
#[qS,I.hok.fresh #[ih]],
#[qT,H a=U #[de]],
#[qU,Array Keyed],
#[qV,(∃xs,o=.tup xs)],
#[qW,(λj hj=>by rw[WH,if_neg hj])],
#[qX,(tOp r ta tb)],
#[qY,(q f E g F x y v u _ G C m J)],
#[qZ,(low e.n #[db] i)],
#[q0,(frs X.stack)],
#[q1,(aa.ref #[H]::us)],
#[q2,(aU lp #[lq] λ_ _ z=>z.elim)],
#[q3,(Zv f y fs)],
#[q4,(Zv f v fs)],
#[q5,(Yg s (ZU M) (U (S,R,#[60])))],
#[q6,(Txt.join sep ys)],
#[q7,(PySem.F.args_dict_get_2 _ _)],
#[q8,(Key×V)],
#[q9,(I.tok _)],
#[ra,(.list (#[gI,ak].map aJ.str))],
#[rb,(.inr #[8])],
#[rc,(.Call (.Name x p) [] [] pos)],
#[rd,(.BoolOp .And (a::b::Y4) pos)],
#[re,((m:Int)+1)],
#[rf,#[jR].Nodup],
#[rg,#[fS,c.map,u,u.1]],
#[rh,#[e0,D.sep]],
#[ri,#[dx,2,"liken_from",#[39],O6]],
#[rj,#[dx,15,"do_row",#[32],#[dd]]],
#[rk,#[dP,t,d]],
#[rl,∀b∈fp,b<s.heap.objs.size],
#[rm,∀b∈fp,b<f.heap.objs.size],
#[rn,z.cps.toList.length=z.length],
#[ro,by show av _ _ (field #[iH] 0 >>= _) _ _ s],
#[rp,by obtain⟨⟨T,j⟩,_,_⟩:=I.hok e _ he],
#[rq,kN.extBut b A #[mS] (Qc _ e)],
#[rr,by have e:=h.row1 f l c h5;show#[fH,e,d,j]],
#[rs,by have J:=C e he;show#[dz,de,fA,J.at'.ob]],
#[rt,closureFor c X.env=pure #[m]],
#[ru,absurd this (QaP.mpr (QZ _))],
#[rv,V1 P w K mg base A outer s H],
#[rx,(λv eM dh=>am (bx (aF dh)))],
#[ry,(upd H sd (.dT (kvS #[kg])))],
#[rz,(aT.SmallTypes.nextOf #[iH])],
#[rA,(Qc _ (Qc _ (Qr _ (g _ _))))],
#[rB,(.tup [.int t.2.1,oV t.2.2])],
#[rC,(.Compare a [i,j] [b,c] pos)],
#[rD,(.BoolOp .Or (a::b::Y4) pos)],
#[rE,#[dE,14,"drop_row",#[96],Ol]],
#[rF,#[XF,V4,‹0›,#[Zu],#[cZ]]],
#[rG,¬ lcp #[bu] #[b3]=y.length],
#[rH,by show#[bU];obtain⟨rfl,q⟩:=h;cases b],
#[rI,by rintro rfl;have e:=I.ok.mod.kin a o hk],
#[rJ,by refine T.t_Merge_play.mf Wx #[iD] #[r]],
#[rK,lastMarks [i,j] [b,c]=false],
#[rL,by have:=Sn h;refine⟨λz=>?_,λm=>?_⟩],
#[rM,c.heap.objs.size],
#[rN,bO z = "str_ascii_iterator"],
#[rO,Gl X x],
#[rP,(λb o h _ _=>h)],
#[rQ,(upd H a (.dK (kvM #[kh])))],
#[rR,(upd G g (.dK (kvM #[h6])))],
#[rS,(nm++[(s,X.nb)])],
#[rT,(e.n,(e.ss,e.g))],
#[rU,(c b _ q λz=>z)],
#[rV,(by rw[d];exact⟨_,l,q⟩)],
#[rW,(ak×V)],
#[rX,(Zv "looked" (.int 0) #[h])],
#[rY,(Zv "all_keys" (.ref k) [])],
#[rZ,(YJ kvs p.1 p.2)],
#[r0,(WU T.g_NOTHING)],
#[r1,(List.mem_cons_of_mem _ hs)],
#[r2,(Code.quiet_builtin _ #[1])],
#[r3,(.lst (#[gI,ak].map V.str))],
#[r4,(.list ((t::u).map aJ.str))],
#[r5,#[f4,1,"is_key","thing",N7]],
#[r6,#[eq,u.2.1,u.2.2.1,u.2.2.2]],
#[r7,#[dx,3,"_law_key",#[98],Pb]],
#[r8,#[dx,1,"_law_mix",#[c2],Pf]],
#[r9,#[d3,u,s.heap.get?,h'.get?]],
#[sa,⟨s.toks+1,by rw[QL,c]⟩],
#[sb,∀b o,B.get? b=U o->b≠T],
#[sc,λz=>d #[a1]],
#[sd,λ_ _=>False],
#[se,i=kvs.length],
#[sf,b a h.2 z hz],
#[sg,ae->Prop],
#[sh,Y7 a ((n,k)::r) b=Y7 a r b],
#[si,IsZip s.heap z TI TO .none],
#[sj,I.cell x c e],
#[sk,False.elim l],
#[sl,Array aa],
#[sm,(λ_ _ e=>e)],
#[sn,(λ_ _ _ _ h=>h.2.2.2.2.1)],
#[so,(upd H a (.dK (WA kvs k)))],
#[sp,(toString i)],
#[sq,(t.endLine == u.line)=true],
#[sr,(show h.get? a=U _ from x)],
#[ss,(s,e.n)∈nm],
#[st,(o.sw++o.fw)],
#[su,(kvN nm)],
#[sv,(by trivial)],
#[sw,(by intro y hy;simp at hy)],
#[sx,(ay P w)],
#[sy,(ZQ P w)],
#[sz,(YJ kvs k v)],
#[sA,(Win hd A af\/Win hd B af)],
#[sB,(St->XK)->TS],
#[sC,(Qi a1 #[6])],
#[sD,(I.base.keep b o e n t hx)],
#[sE,(.ref b)],
#[sF,(.int n)],
#[sG,(.BoolOp .And (b::Y4) pos)],
#[sH,((a.map V.str).length:Int)],
#[sI,#[dx,5,"_law_row",#[o],OX]],
#[sJ,#[dv,Y2.map]],
#[sK,⟨v,H,I,r,h⟩],
#[sL,⟨rfl,rfl,rfl,rfl,rfl⟩],
#[sM,⟨_,_,_,rfl⟩],
#[sN,s.heap.IsTupleIter it t i],
#[sO,by rw[z];exact .inr ⟨a10,i,j,a7,a8⟩],
#[sP,ps.length<=1000],
#[sQ,inj (of_decide_eq_true c)],
#[sR,V->Hp->VK->Prop],
#[sS,PySem.W.OpenLaw],
#[sT,PE X o to],
#[sU,List Keyed],
#[sV,H a=U (.dT kvs)],
#[sW,Array (Int×aa)],
#[sX,(∀e∈nm,e.1.length<=8)],
#[sY,(λz=>h (O3 z))],
#[sZ,(λ_=>?_)],
#[s0,(upd H p (.tup [kV k,x]))],
#[s1,(upd #[hC] t T)],
#[s2,(ss.length:Int)],
#[s3,(ne this #[20])],
#[s4,(kvM L)],
#[s5,(by rw[QI,FV.noName];rfl)],
#[s6,(by rw[QI,FV.noAttr];rfl)],
#[s7,(binaryOp .Add)],
#[s8,(arrOf st)],
#[s9,(ZS x y=0/\a<b)],
#[ta,(YN L n ks k f)],
#[tb,(YE #[bH])],
#[tc,(Y1 kvs k)],
#[td,(X.wish E)],
#[te,(X.pnd ah)],
#[tf,(Sum.inr.inj z)],
#[tg,(Sum.inr a:Key)],
#[th,(Sum.inl a:Key)],
#[ti,(Nat.log2_lt z)],
#[tj,(Itr lo n)],
#[tk,(Itl K a)],
#[tl,(I.freeC x c e)],
#[tm,(DVs.mono s hs)],
#[tn,(DHs.mono s hs)],
#[tp,(.lst [.str d])],
#[tq,(.list [])],
#[tr,(.BoolOp .Or (b::Y4) pos)],
#[ts,#[gU,ok,j,a,st]],
#[tt,#[gN,Loc]],
#[tu,#[fP,Y2.take,n]],
#[tv,#[fP,Y2.drop,n]],
#[tw,#[dx,2,"way_up",#[bV],Ow]],
#[tx,#[dE,1,"row_of",#[96],Sg]],
#[ty,⟨_,rfl,rfl,_,rfl,?_⟩],
#[tz,⟨_,rfl,_,rfl,rfl,?_⟩],
#[tA,by obtain⟨a,q⟩:=Inv.readsAll I c f],
#[tB,by have h8:s.length<=8:=(gU.nmz _ J).2],
#[tC,A.freeze hd True.intro j],
#[tD,(∀p∈X.pn++Z,p.1≠C)],
#[tE,(upd H a (.frz j #[bY]))],
#[tF,(e.g<e.ss.length\/ks=[])],
#[tG,(by show ¬ 2<=1;decide)],
#[tH,(by rw[Qa,Qa,Qv,aO];lia)],
#[tI,(List.range h.objs.size)],
#[tJ,(Int.emod_nonneg _ #[2])],
#[tK,(.type "AttributeError")],
#[tL,(.lst (#[a9]++[.int z]))],
#[tM,(((a-lo).toNat:Nat):Int)],
#[tN,("_law_left_here",.free)],
#[tO,#[fU,o.names.lookup,y.1]],
#[tP,#[fI,"add_row",#[bc],Ob]],
#[tQ,#[dx,3,"liken",#[84],O7]],
#[tR,#[dE,14,"grow",#[97],Oh]],
#[tS,#[Zz,5,Pn.nd,#[3],#[Zu]]],
#[tT,⟨us,[]⟩],
#[tU,⟨by simp,λO d=>?_⟩],
#[tV,⟨_,λaQ H' h=>h,?_⟩],
#[tW,⟨_,rfl,?_⟩],
#[tX,⟨?_,?_⟩],
#[tY,⟨.str _,H,I,#[E],q⟩],
#[tZ,s.TypeIs (.ref z) "zip"],
#[t0,by rw[if_pos rfl]],
#[t1,by refine T.t_l_same.df LF #[iD] #[r]],
#[t2,q _ _ _ _ d],
#[t3,by obtain⟨y,A,S,B,C,D⟩:=j it #[4]],
#[t4,h.objs.size<=a],
#[t5,aH.get?_push_at rfl rfl],
#[t6,[.ref m]],
#[t7,Win #[cQ] #[jR] (U e.n)],
#[t8,Slot T name id],
#[t9,KT H kvs xs],
#[ua,HOk X.prog X.w l t.heap],
#[ub,D.sep (.inl z)],
#[uc,1<ns.length],
#[ud,.inl e.n],
#[ue,(∀b∈fp,XH X ah H b)],
#[uf,(λx=>!x.1)],
#[ug,(ys.map #[hs])],
#[uh,(x.length:Int)],
#[ui,(x == n)=false],
#[uj,s.toks],
#[uk,([]:List #[rW]).length=0],
#[ul,(os.take i)],
#[um,(n == 1||a.length == 0)],
#[un,(if i<0 then -i else i)],
#[uo,(hdM (L++[e]))],
#[uq,(g i2 #[4])],
#[ur,(g i1 #[4])],
#[us,(g TO #[4])],
#[ut,(dsO X' nm)],
#[uu,(cV lo a af n)],
#[uv,(by size_fits)],
#[uw,(by rw[QI,FV.hasB,Qai])],
#[ux,(ae×Int×Int)],
#[uy,(aa.ref #[H]::(us++ds))],
#[uz,(aC [e] X.env)],
#[uA,(UZ f y fs)],
#[uB,(S.lo-S.lo)],
#[uC,(Qac.mp hx)],
#[uD,(PySem.W.plainGet_of a)],
#[uE,(List.take_sublist _ _)],
#[uF,(List.mem_reverse.mp j)],
#[uG,(L.map (·.p))],
#[uH,(J.stop i c/\Q #[it] c)],
#[uI,(I.mod.glob.keeps I.bk)],
#[uJ,(G b o e a)],
#[uK,(.type "dict")],
#[uL,(.type "StopIteration")],
#[uM,(.tup [kV u.2.1,u.2.2])],
#[uN,(.tup [kV t.2.1,t.2.2])],
#[uO,(.str x)],
#[uP,(.ref c)],
#[uQ,(.own a)],
#[uR,(.inl h)],
#[uS,(.dK (kvI nm))],
#[uT,((ZZ s (ZU M)).map stV)],
#[uU,((#[U].length:Nat):Int)],
#[uV,("take " : ak)],
#[uW,#[fq,dx,hm]],
#[uX,#[fC,L2.St]],
#[uY,#[dv,o.fw.map]],
#[uZ,#[dv,d.map]],
#[u0,#[dp,h.num,nd]],
#[u1,#[dY,"row"]],
#[u2,#[dE,3,"meet",#[93],OE]],
#[u3,#[Zz,2,SU.nd,#[3],#[w]]],
#[u4,#[Zh,#[XQ]]],
#[u5,a_,b_,∀a_ s',Inv X ah σ b_ s'->ZI v a_->Q a_ s'],
#[u6,a_,b_,c_,d_,by have a_:(upd b_ c_ d_) c_=U d_:=Zd],
#[u7,a_,b_,c_,∀b a_,H b=U a_->b≠b_->c_ b=U a_],
#[u8,a_,b_,c_,(upd a_ b_ c_) b_=U c_],
#[u9,a_,(bQ a_ X.env)],
#[va,a_,b_,c_,aH.SameBut a_ b_ c_],
#[vb,a_,b_,c_,by have r:=h.each e a_;show#[dz,b_,c_,r.at'.ob]],
#[vc,a_,b_,⟨#[18],λa_ b_=>?_⟩],
#[vd,a_,b_,#[dK,t,aa.str,a_,b_]],
#[ve,a_,by rw[this]at a_;cases a_],
#[vf,a_,b_,c_,d_,#[ZY,a_,#[ZY,b_,‹c_›,‹d_›],#[Zk]]],
#[vg,a_,b_,Qj (f:=λx:α×a=>a_) b_],
#[vh,a_,b_,(upd a_ nd #[fX,b_])],
#[vi,a_,d.fpOk a_ (d.hok.fresh a_)],
#[vj,a_,(λz=>(a_ _ z).2.1 rfl)],
#[vk,a_,b_,by refine⟨#[18],λa_ b_=>?_⟩],
#[vl,a_,b_,(.Attribute o a_ b_)],
#[vm,a_,b_,c_,d_,e_,by obtain⟨oc,od,kV,a_,b_,c_,d_,ct,jD,rfl,lk,e_⟩:=F.ex],
#[vn,a_,o.data=.dict a_ ep],
#[vo,a_,[.str x,.str y,.int a_]],
#[vp,a_,b_,#[ZY,a_,‹b_›,#[Zk]]],
#[vq,a_,b_,c_,d_,(lcp x a_<=lcp b_ c_/\lcp d_ z=lcp x a_)],
#[vr,a_,b_,by have a_:=b_ h2;rw[z,a_]at this],
#[vs,a_,b_,c_,d_,⟨_,rfl,a_,rfl,#[gO,b_],λc_ d_=>?_⟩],
#[vt,a_,(∀f,Yt #[l5] (a_ f))],
#[vu,a_,b_,c_,⟨a_,G.extBut _ _ b_ c_⟩],
#[vv,a_,b_,#[e8,a_,b_,b_]],
#[vw,a_,b_,by obtain⟨e,n,ne,a_,d⟩:=I.pin p b_],
#[vx,a_,b_,c_,d_,e_,by obtain⟨a_,b_,c_⟩:=d_ e_],
#[vy,a_,b_,by have a_:=Zi b_ #[65]],
#[vz,a_,b_,c_,(thn #[dG,he,a_,b_] λu c_ a=>?_)],
#[vA,a_,b_,c_,⟨a_ _ a1,x,b_,λc hc z c_=>?_⟩],
#[vB,a_,b_,c_,d_,e_,⟨_,rfl,m,aj,a_,_,_,rfl,b_,T.cl_Merge,c_,d_ ..,e_⟩],
#[vC,a_,b_,(.lst ((a_ b_ n).map V.int))],
#[vD,a_,b_,c_,(.ins a_ b_ (dkF c_ nd))]]
inductive X2 {t0 t1:Type} (p:t0->t1->Prop):Prop where
 | mk (a0:t0) (a1:t1) (h:p a0 a1)
inductive X3 {t0 t1 t2:Type} (p:t0->t1->t2->Prop):Prop where
 | mk (a0:t0) (a1:t1) (a2:t2) (h:p a0 a1 a2)
inductive X4 {t0 t1 t2 t3:Type} (p:t0->t1->t2->t3->Prop):Prop where
 | mk (a0:t0) (a1:t1) (a2:t2) (a3:t3) (h:p a0 a1 a2 a3)
inductive X5 {t0 t1 t2 t3 t4:Type} (p:t0->t1->t2->t3->t4->Prop):Prop where
 | mk (a0:t0) (a1:t1) (a2:t2) (a3:t3) (a4:t4) (h:p a0 a1 a2 a3 a4)
inductive X6 {t0 t1 t2 t3 t4 t5:Type} (p:t0->t1->t2->t3->t4->t5->Prop):Prop where
 | mk (a0:t0) (a1:t1) (a2:t2) (a3:t3) (a4:t4) (a5:t5) (h:p a0 a1 a2 a3 a4 a5)
inductive X7 {t0 t1 t2 t3 t4 t5 t6:Type} (p:t0->t1->t2->t3->t4->t5->t6->Prop):Prop where
 | mk (a0:t0) (a1:t1) (a2:t2) (a3:t3) (a4:t4) (a5:t5) (a6:t6) (h:p a0 a1 a2 a3 a4 a5 a6)
inductive X8 {t0 t1 t2 t3 t4 t5 t6 t7:Type} (p:t0->t1->t2->t3->t4->t5->t6->t7->Prop):Prop where
 | mk (a0:t0) (a1:t1) (a2:t2) (a3:t3) (a4:t4) (a5:t5) (a6:t6) (a7:t7) (h:p a0 a1 a2 a3 a4 a5 a6 a7)
inductive X9 {t0 t1 t2 t3 t4 t5 t6 t7 t8:Type} (p:t0->t1->t2->t3->t4->t5->t6->t7->t8->Prop):Prop where
 | mk (a0:t0) (a1:t1) (a2:t2) (a3:t3) (a4:t4) (a5:t5) (a6:t6) (a7:t7) (a8:t8) (h:p a0 a1 a2 a3 a4 a5 a6 a7 a8)
inductive X10 {t0 t1 t2 t3 t4 t5 t6 t7 t8 t9:Type} (p:t0->t1->t2->t3->t4->t5->t6->t7->t8->t9->Prop):Prop where
 | mk (a0:t0) (a1:t1) (a2:t2) (a3:t3) (a4:t4) (a5:t5) (a6:t6) (a7:t7) (a8:t8) (a9:t9) (h:p a0 a1 a2 a3 a4 a5 a6 a7 a8 a9)
inductive X11 {t0 t1 t2 t3 t4 t5 t6 t7 t8 t9 gr:Type} (p:t0->t1->t2->t3->t4->t5->t6->t7->t8->t9->gr->Prop):Prop where
 | mk (a0:t0) (a1:t1) (a2:t2) (a3:t3) (a4:t4) (a5:t5) (a6:t6) (a7:t7) (a8:t8) (a9:t9) (a10:gr) (h:p a0 a1 a2 a3 a4 a5 a6 a7 a8 a9 a10)
inductive X12 {t0 t1 t2 t3 t4 t5 t6 t7 t8 t9 gr hZ:Type} (p:t0->t1->t2->t3->t4->t5->t6->t7->t8->t9->gr->hZ->Prop):Prop where
 | mk (a0:t0) (a1:t1) (a2:t2) (a3:t3) (a4:t4) (a5:t5) (a6:t6) (a7:t7) (a8:t8) (a9:t9) (a10:gr) (a11:hZ) (h:p a0 a1 a2 a3 a4 a5 a6 a7 a8 a9 a10 a11)
inductive X13 {t0 t1 t2 t3 t4 t5 t6 t7 t8 t9 gr hZ jg:Type} (p:t0->t1->t2->t3->t4->t5->t6->t7->t8->t9->gr->hZ->jg->Prop):Prop where
 | mk (a0:t0) (a1:t1) (a2:t2) (a3:t3) (a4:t4) (a5:t5) (a6:t6) (a7:t7) (a8:t8) (a9:t9) (a10:gr) (a11:hZ) (a12:jg) (h:p a0 a1 a2 a3 a4 a5 a6 a7 a8 a9 a10 a11 a12)
inductive X14 {t0 t1 t2 t3 t4 t5 t6 t7 t8 t9 gr hZ jg lD:Type} (p:t0->t1->t2->t3->t4->t5->t6->t7->t8->t9->gr->hZ->jg->lD->Prop):Prop where
 | mk (a0:t0) (a1:t1) (a2:t2) (a3:t3) (a4:t4) (a5:t5) (a6:t6) (a7:t7) (a8:t8) (a9:t9) (a10:gr) (a11:hZ) (a12:jg) (a13:lD) (h:p a0 a1 a2 a3 a4 a5 a6 a7 a8 a9 a10 a11 a12 a13)
inductive X15 {t0 t1 t2 t3 t4 t5 t6 t7 t8 t9 gr hZ jg lD pL:Type} (p:t0->t1->t2->t3->t4->t5->t6->t7->t8->t9->gr->hZ->jg->lD->pL->Prop):Prop where
 | mk (a0:t0) (a1:t1) (a2:t2) (a3:t3) (a4:t4) (a5:t5) (a6:t6) (a7:t7) (a8:t8) (a9:t9) (a10:gr) (a11:hZ) (a12:jg) (a13:lD) (a14:pL) (h:p a0 a1 a2 a3 a4 a5 a6 a7 a8 a9 a10 a11 a12 a13 a14)
inductive X16 {t0 t1 t2 t3 t4 t5 t6 t7 t8 t9 gr hZ jg lD pL xP:Type} (p:t0->t1->t2->t3->t4->t5->t6->t7->t8->t9->gr->hZ->jg->lD->pL->xP->Prop):Prop where
 | mk (a0:t0) (a1:t1) (a2:t2) (a3:t3) (a4:t4) (a5:t5) (a6:t6) (a7:t7) (a8:t8) (a9:t9) (a10:gr) (a11:hZ) (a12:jg) (a13:lD) (a14:pL) (a15:xP) (h:p a0 a1 a2 a3 a4 a5 a6 a7 a8 a9 a10 a11 a12 a13 a14 a15)
set_option Elab.async false
set_option linter.all false
local macro_rules|`(tactic|nofun)=>`(tactic|(intro _ _ _ _ h;repeat(first|(obtain⟨h,_⟩:=h;subst h;rfl)|(cases h;rename_i h))))
local macro_rules|`(tactic|ac_rfl)=>`(tactic|decide +kernel)
def Qa:=@List.length_map
def Qb:=@List.getElem?_eq_getElem
def Qc:=@PySem.Heap.get?_push_of_some
def Qd:=@List.getElem?_eq_some_iff
def Qe:=@List.length_append
def Qf:=@Nat.le_refl
def Qg:=@List.map_append
def Qh:=@List.mem_singleton
def Qi:=@Nat.le_trans
def Qj:=@List.mem_map_of_mem
def Qk:=@PySem.Heap.lt_size
def Ql:=@List.mem_append
def Qm:=@Nat.zero_le
def Qn:=@List.map_cons
def Qo:=@List.getElem?_map
def Qp:=@Option.some.inj
def Qq:=@List.mem_map
def Qr:=@PySem.Heap.get?_push_size
def Qs:=@List.mem_cons_of_mem
def Qt:=@Bool.false_ne_true
def Qu:=@List.mem_of_getElem?
def Qv:=@List.length_take
def Qw:=@List.take_of_length_le
def Qx:=@Nat.ne_of_lt
def Qy:=@List.length_singleton
def Qz:=@PySem.boot_len
def QA:=@List.length_cons
def QB:=@List.map_map
def QC:=@List.mem_append_right
def QD:=@Nat.lt_of_lt_of_le
def QE:=@PySem.W.mg_of
def QF:=@PySem.F.plainAttrs_list
def QG:=@PySem.F.slot_list_append
def QH:=@PySem.F.type_list_append
def QI:=@List.contains_cons
def QJ:=@List.mem_cons
def QK:=@PySem.W.mg_none_of
def QL:=@List.size_toArray
def QM:=@List.getD_eq_getElem?_getD
def QN:=@List.take_add_one
def QO:=@List.getElem?_append_left
def QP:=@PySem.Str.length_append
def QR:=@List.map_congr_left
def QS:=@List.mem_append_left
def QT:=@List.length_drop
def QU:=@Nat.ne_of_gt
def QV:=@PySem.Heap.size_push
def QW:=@Bool.and_eq_true
def QX:=@PySem.Heap.get?_update_self
def QY:=@List.getElem?_eq_none
def QZ:=@Nat.le_succ
def Q0:=@List.getElem?_append_right
def Q1:=@PySem.W.kia_one
def Q2:=@List.nodup_cons
def Q3:=@PySem.W.kia_tup
def Q4:=@PySem.F.plainAttrs_str
def Q5:=@List.sum_cons
def Q6:=@List.mem_cons_self
def Q7:=@PySem.W.callWith_K
def Q8:=@PySem.F.plainAttrs_dict
def Q9:=@PyProof.Rows.callWith_type1
def Qaa:=@Nat.lt_irrefl
def Qab:=@PySem.Heap.get?_update_other
def Qac:=@List.mem_filter
def Qad:=@List.append_nil
def Qae:=@List.getElem_mem
def Qaf:=@List.take_append_of_le_length
def Qag:=@PySem.mem_of_lookup
def Qah:=@Nat.add_lt_add_left
def Qai:=@Bool.or_true
def Qaj:=@Array.getElem?_eq_some_iff
def Qak:=@List.getElem?_toArray
def Qal:=@PySem.F.slot_str_join
def Qam:=@PySem.F.type_str_join
def Qan:=@List.mem_of_find?_eq_some
def Qao:=@List.getLastD_eq_getLast?
def Qap:=@List.find?_cons
def Qaq:=@PySem.W.looks_findIn
def Qar:=@List.mem_of_mem_take
def Qas:=@List.lookup_cons
def Qat:=@Nat.lt_add_of_pos_right
def Qau:=@List.length_eq_zero_iff
def Qav:=@Int.le_refl
def Qaw:=@List.find?_cons_of_neg
def Qax:=@Nat.add_sub_cancel
def Qay:=@List.length_eq_one_iff
def Qaz:=@Int.add_zero
def QaA:=@PySem.W.methodCall_KW
def QaB:=@List.length_replicate
def QaC:=@PySem.F.slot_dict_pop
def QaD:=@List.reverse_cons
def QaE:=@List.mem_of_mem_drop
def QaF:=@Nat.le_of_lt
def QaG:=@Nat.le_add_right
def QaH:=@Array.getElem?_eq_getElem
def QaI:=@List.getElem?_eq_none_iff
def QaJ:=@Array.length_toList
def QaK:=@PySem.Heap.get?_update_ne
def QaL:=@List.any_cons
def QaM:=@List.getLast?_eq_getLast
def QaN:=@Bool.eq_iff_iff
def QaO:=@List.filter_map
def QaP:=@Nat.not_lt
def QaQ:=@Int.emod_lt_of_pos
def QaR:=@PySem.W.kitx_list
def QaS:=@PySem.W.kitx_dict
def QaT:=@Array.getElem?_eq_none
def QaU:=@Nat.lt_trans
def QaV:=@Option.map_eq_some_iff
def QaW:=@Nat.pow_succ
def QaX:=@List.length_pos_of_mem
def Qa2:=@List.all_eq_true
def Qa3:=@Int.add_mul
namespace L2
open PySem PySem.Spec PyProof.Rows
abbrev Key:=Sum Int ak
noncomputable def V6:Key->aa->Bool
 | .inl k,v=>aa.isInt k v
 | .inr x,v=>aa.isStrOf x v
noncomputable def NW(w:aD):Key->Int
 | .inl k=>hashInt k
 | .inr x=>hashStr w x
theorem WQ:∀ {k:Key} {v:aa},V6 k v=true->(X2 λi t=>k=Sum.inl i/\v=aa.int i t)\/(X2 λx t=>k=Sum.inr x/\v=aa.str x t)
 | .inl i,v,h=>by obtain⟨t,e⟩:=aa.isInt_shape (k:=i) (v:=v) h;exact .inl ⟨i,t,rfl,e⟩
 | .inr x,v,h=>by obtain⟨t,e⟩:=aa.isStrOf_shape (x:=x) (v:=v) h;exact .inr ⟨x,t,rfl,e⟩
theorem ZmI(i:Int)(t:Tok):V6 (.inl i) (.int i t)=true:=by simp[V6,aa.isInt]
theorem Zms(x:ak)(t:Tok):V6 (.inr x) (.str x t)=true:=by simp[V6,aa.isStrOf]
theorem Zro(a b:Int):decide (#[th]=Sum.inl b)=(a == b):=by
 by_cases e:a=b
 ·subst e;simp
 ·have h:¬ #[th]=Sum.inl b:=λq=>e (Sum.inl.inj q);rw[decide_eq_false h];exact(beq_eq_false_iff_ne.mpr e).symm
theorem ZrZ(a b:ak):decide (#[tg]=Sum.inr b)=decide (a=b):=by
 by_cases e:a=b
 ·subst e;simp
 ·have h:¬ #[tg]=Sum.inr b:=λq=>e (Sum.inr.inj q);rw[decide_eq_false h,decide_eq_false e]
theorem ZrB(a:Int)(b:ak):decide (#[th]=Sum.inr b)=false:=#[nZ]
theorem ZrA(a:ak)(b:Int):decide (#[tg]=Sum.inl b)=false:=#[nZ]
noncomputable def ZQ(prog:aw)(w:aD):PySem.KeyKind prog w Key where
 is:=V6
 hash:=NW w
 inj:=λv a b g f=>by
  rcases WQ g with⟨i,t,rfl,rfl⟩|⟨x,t,rfl,rfl⟩
  ·rcases WQ f with⟨j,u,rfl,e⟩|⟨y,u,rfl,e⟩
   ·injection e with c _;rw[c]
   ·exact nomatch e
  ·rcases WQ f with⟨j,u,rfl,e⟩|⟨y,u,rfl,e⟩
   ·exact nomatch e
   ·injection e with c _;rw[c]
 byValue:=λk v h=>by rcases WQ h with⟨i,t,rfl,rfl⟩|⟨x,t,rfl,rfl⟩<;>rfl
 pyHash:=λd h=>by
  rcases WQ d with⟨i,t,rfl,rfl⟩|⟨x,t,rfl,rfl⟩
  ·exact wpAny_pyHash_int h
  ·exact wpAny_pyHash_str h
 eqBool:=λl d h=>by
  rcases WQ l with⟨i,t,rfl,rfl⟩|⟨x,t,rfl,rfl⟩
  ·rcases WQ d with⟨j,u,rfl,rfl⟩|⟨y,u,rfl,rfl⟩
   ·rw[Zro]at h;exact wpAny_eqBool_int h
   ·rw[ZrB]at h;exact SeqAt.EqAt.int_str i t y u _ _ _ _ h
  ·rcases WQ d with⟨j,u,rfl,rfl⟩|⟨y,u,rfl,rfl⟩
   ·rw[ZrA]at h;exact SeqAt.EqAt.str_int x t j u _ _ _ _ h
   ·rw[ZrZ]at h;exact wpAny_eqBool_str h
 «strs»:=λk x t v h=>by
  rcases WQ h with⟨i,u,rfl,e⟩|⟨y,u,rfl,e⟩
  ·exact nomatch e
  ·injection e with c _;subst c;cases v<;>rfl
theorem ZkB(prog:aw)(w:aD)(k:Key)(v:aa):(ZQ prog w).is k v=V6 k v:=rfl
theorem Zkm(prog:aw)(w:aD)(i:Int)(t:Tok):(ZQ prog w).is (.inl i) (.int i t)=true:=ZmI i t
theorem Zjz(prog:aw)(w:aD)(x:ak)(t:Tok):(ZQ prog w).is (.inr x) (.str x t)=true:=Zms x t
inductive V where
 | non|bl (b:Bool)|int (i:Int)|str (x:ak)|byt (b:Array UInt8)|flt (b:UInt64)|ref (a:ae)|ty (n:String)
 deriving DecidableEq
def ZI:V->aa->Prop
 | .non,u=>u=aa.none
 | .bl b,u=>u=aa.bool b
 | .int i,u=>∃t,u=aa.int i t
 | .str x,u=>∃t,u=aa.str x t
 | .byt b,u=>∃t,u=aa.bytes b t
 | .flt b,u=>∃t,u=aa.float b t
 | .ref a,u=>u=aa.ref a
 | .ty n,u=>u=aa.type n
abbrev ZK:List V->List aa->Prop:=Paired ZI
theorem ZK.length{xs:#[m7]}{us:#[az]}(r:ZK xs us):xs.length=us.length:=Paired.length r
theorem ZK.get:∀ {xs:List V} {us:List aa} {i:Nat} {x:V},ZK xs us->xs[i]? = U x->∃u,us[i]? = U u/\ZI x u
 | _,_,_,_,.nil,e=>by simp at e
 | _,_,0,_,.cons r _,e=>by simp at e;subst e;exact⟨_,rfl,r⟩
 | _,_,i+1,x,.cons _ t,e=>by obtain⟨u,h1,h2⟩:=ZK.get (i:=i) (x:=x) t #[dq,e];exact⟨u,by simpa using h1,h2⟩
theorem ZK.set{x:V}{u:aa}(r:ZI x u):∀ {xs:List V} {us:List aa} (i:Nat),ZK xs us->ZK (xs.set i x) (us.set i u)
 | _,_,_,.nil=>.nil
 | _,_,0,.cons _ t=>.cons r t
 | _,_,i+1,.cons q t=>.cons q (ZK.set r i t)
theorem ZK.append:∀ {xs ys:List V} {us ws:List aa},ZK xs us->ZK ys ws->ZK (xs++ys) (us++ws)
 | _,_,_,_,.nil,s=>s
 | _,_,_,_,.cons r t,s=>.cons r (ZK.append t s)
theorem ZK.take:∀ {xs:List V} {us:List aa} (n:Nat),ZK xs us->ZK (xs.take n) (us.take n)
 | _,_,0,_=>.nil
 | _,_,_+1,.nil=>.nil
 | _,_,n+1,.cons r t=>.cons r (ZK.take n t)
theorem ZK.drop:∀ {xs:List V} {us:List aa} (n:Nat),ZK xs us->ZK (xs.drop n) (us.drop n)
 | _,_,0,r=>r
 | _,_,_+1,.nil=>.nil
 | _,_,n+1,.cons _ t=>ZK.drop n t
def Yt:Option V->Option aa->Prop
 | some v,U u=>ZI v u
 | none,af=>True
 | _,_=>False
def KV{a:Type}:List (a×V)->List (a×aa)->Prop:=Paired λ(p:a×V) (q:a×aa)=>p.1=q.1/\ZI p.2 q.2
noncomputable def kV:Key->V
 | .inl i=>.int i
 | .inr x=>.str x
inductive HO where
  | lst (xs:List V)
  | tup (xs:List V)
  | dK (kvs:List (Key×V))|dT (kvs:List (List Key×V))
  | set (S:Int->Bool) (n:Nat)
  | ins (C dx:ae) (fs:List (ak×V))
  | own (x:ae)
  | xd (fs:List (ak×V))
  | met (f x:ae)
  | rng (lo hi:Int)
  | frz (o:aM) (u:HO)
  | tbl (ps:Array aa)
  | ext (φ:aH->Prop)
noncomputable abbrev Hp:=ae->Option HO
noncomputable def upd(H:Hp)(a:ae)(o:HO):Hp:=λb=>if b=a then U o else H b
theorem Zd{H:Hp}{a:ae}{o:HO}:upd H a o a=U o:=by unfold upd;rw[if_pos rfl]
theorem Zc{H:Hp}{a b:ae}{o:HO}(h:b≠a):upd H a o b=H b:=by unfold upd;rw[if_neg h]
theorem ZqB{H:Hp}{a:ae}{o u:HO}:upd #[mJ] a u=upd H a u:=by funext b;unfold upd;split<;>rfl
theorem R4{H:Hp}{a b:ae}{o u:HO}(h:H a=U o)(h':H b=U u)(d:o≠u):a≠b:=by intro e;subst e;rw[h]at h';exact d (Qp h')
theorem Ze{H:Hp}{a b:ae}{o:HO}(h:H a=U o)(h':H b=af):a≠b:=by intro e;subst e;rw[h]at h';cases h'
section
variable (P:aw) (w:aD)
def Z8(H:Hp)(h:aH)(a:ae):HO->Prop
 | .lst xs=>xs.length<=aq/\X2 λ(its:List aa) (n:Nat)=>ZK xs its/\h.get? a=U { cls:=.type "list",data:=.seq its.toArray n }
 | .tup xs=>xs.length<=aq/\∃its:List aa,ZK xs its/\IsTup h a its.toArray
 | .dK b=>b.length<=aq/\#[l7]=false/\∃g,KV b g/\h.DictOf #[sy] a g
 | .dT b=>b.length<=aq/\#[l7]=false/\∃xs:List (List Key×ae×aa),
   Paired (λ(p:List Key×V) (q:List Key×ae×aa)=>p.1=q.1/\H q.2.1=U (.tup (p.1.map kV))/\ZI p.2 q.2.2) b xs /\
   X3 λo i l=>h.get? a=U o/\o.ExactDict/\o.data=.dict i l/\i.toList=xs.map (entryOfKey #[hT])/\(xs.map #[iw]).Nodup
 | .set S n=>h.SetOf (intKind P w) a S n
 | .ins C d fs=>H d=U #[uQ]/\fs.length<=1000/\d≠a/\h.get? a=U (PySem.W.instObj C d) /\
   ∃c,h.Ns1 d c/\#[vt,c]/\PySem.Within c #[k7]
 | .own _=>∃o,h.get? a=U o
 | .xd fs=>∃c,h.Ns1 a c/\∀f,Yt #[l5] (c f)
 | .rng lo m=>X3 λt u v=>h.get? a=U { cls:=.type "range",data:=.fields #[.int lo t,.int m u,.int 1 v] }
 | .frz o u=>h.get? a=U o/\Z8 H h a u
 | .tbl r=>h.get? a=U { cls:=.none,data:=.fields r }
 | .met f x=>h.get? a=U (PySem.W.methodObj #[73] #[lR])
 | .ext e=>e h/\(∃o,h.get? a=U o)/\∀j k:aH,e j->(∀o,j.get? a=U o->k.get? a=U o)->e k
def HOk(H:Hp)(h:aH):Prop:=∀a o,H a=U o->Z8 P w H h a o
universe E
section
variable {P:aw} {w:aD} {H H':Hp} {h h':aH} {a:ae} {o:HO}
theorem Z8.lt(x:Z8 P w H h a o):a<h.objs.size:=by
 cases o with
 | lst c=>obtain⟨_,_,_,_,e⟩:=x;exact Qk e
 | tup c=>obtain⟨_,_,_,p⟩:=x;exact p.lt
 | dK b=>obtain⟨_,_,_,_,o,_,_,e,_⟩:=x;exact Qk e
 | dT b=>obtain⟨_,_,_,_,o,_,_,e,_⟩:=x;exact Qk e
 | set S n=>obtain⟨o,_,_,_,e,_⟩:=x;exact Qk e
 | ins C dx fs=>obtain⟨_,_,_,e,_⟩:=x;exact Qk e
 | own y=>obtain⟨_,e⟩:=x;exact Qk e
 | xd fs=>obtain⟨_,⟨_,_,_,e,_⟩,_⟩:=x;exact Qk e
 | rng lo hi=>obtain⟨_,_,_,e⟩:=x;exact Qk e
 | frz ob u=>obtain⟨e,_⟩:=x;exact Qk e
 | tbl ps=>exact Qk #[sr]
 | met f y=>exact Qk #[sr]
 | ext φ=>obtain⟨_,⟨_,e⟩,_⟩:=x;exact Qk e
theorem Paired.mapP{α c:Type}{F G:α->c->Prop}:∀ {d:List α} {e:List c},Paired F d e->(∀a b,F a b->G a b)->Paired G d e
 | _,_,.nil,_=>.nil
 | _,_,.cons r t,f=>.cons (f _ _ r) (Paired.mapP t f)
theorem Z8.stay(x:Z8 P w H h a o)(k:∀b u,(b=a\/H b=U #[uQ])->h.get? b=U u->h'.get? b=U u)
  (B:∀b,H b=U #[uQ]->H' b=U #[uQ]) (ht:#[e1,b,xs,H']):Z8 P w H' h' a o:=by
 induction o with
 | lst xs=>obtain⟨z,its,n,r,e⟩:=x;exact⟨z,its,n,r,k _ _ #[8] e⟩
 | tup xs=>obtain⟨z,its,r,g,e,c⟩:=x;exact⟨z,its,r,g,k _ _ #[8] e,c⟩
 | dK l=>obtain⟨z,y,D,r,g,i,j,e,c⟩:=x;exact⟨z,y,D,r,g,i,j,k _ _ #[8] e,c⟩
 | dT l=>obtain⟨z,y,xs,r,g,i,j,e,c⟩:=x;exact⟨z,y,xs,Paired.mapP r λp q z=>⟨z.1,ht _ _ z.2.1,z.2.2⟩,g,i,j,k _ _ #[8] e,c⟩
 | set S n=>obtain⟨g,i,j,t,e,c⟩:=x;exact⟨g,i,j,t,k _ _ #[8] e,c⟩
 | ins C dx fs=>obtain⟨d,z,ne,e,m,⟨s,i,j,E,c⟩,r⟩:=x;exact⟨B _ d,z,ne,k _ _ #[8] e,m,⟨s,i,j,k _ _ (.inr d) E,c⟩,r⟩
 | own y=>obtain⟨g,e⟩:=x;exact⟨g,k _ _ #[8] e⟩
 | xd fs=>obtain⟨m,⟨s,i,j,e,c⟩,r⟩:=x;exact⟨m,⟨s,i,j,k _ _ #[8] e,c⟩,r⟩
 | rng lo hi=>obtain⟨t,u,v,e⟩:=x;exact⟨t,u,v,k _ _ #[8] e⟩
 | frz g u F=>obtain⟨e,q⟩:=x;exact⟨k _ _ #[8] e,F q⟩
 | tbl A=>have e:h.get? a=U { cls:=.none,data:=.fields A }:=x;show h'.get? a=U { cls:=.none,data:=.fields A };exact k a _ #[8] e
 | met f y=>have e:h.get? a=U #[m9]:=x;show h'.get? a=U #[m9];exact k a _ #[8] e
 | ext φ=>obtain⟨p,⟨o,e⟩,st⟩:=x;exact⟨st _ _ p λo q=>k _ _ #[8] q,⟨o,k _ _ #[8] e⟩,st⟩
theorem HOk.lt(x:#[c5])(e:H a=U o):a<h.objs.size:=(x a o e).lt
theorem HOk.fresh(x:#[c5])(e:#[t4]):H a=af:=by
 cases q:H a with
 | none=>rfl
 | some u=>exact absurd (QD (x.lt q) e) (Qaa _)
theorem HOk.kept(x:#[c5])(k:#[b0]):HOk P w H h':=λa o e =>
 (x a o e).stay (λb u _ q=>k b u q) (λ_ q=>q) λ_ _ q=>q
theorem HOk.laid(x:#[c5])(k:#[b0])(g:#[t4])(new:Z8 P w #[mJ] h' a o):HOk P w #[mJ] h':=λb u e=>by
 have d:=x.fresh g;by_cases f:b=a
 ·show#[fH,f,Zd,e];exact new
 ·rw[Zc f]at e;exact(x b u e).stay (λc v _ q=>k c v q) (λc q=>by rw[Zc (Ze q d)];exact q) λc xs q=>by rw[Zc (Ze q d)];exact q
universe E
def Rd(H:Hp)(a:ae)(u:HO):Prop:=H a=U u\/∃o,H a=U #[ko]
theorem Rd.ok{P:aw}{w:aD}{H:Hp}{h:aH}{a:ae}{u:HO}(r:Rd H a u)(x:#[c5]):Z8 P w H h a u:=by
 rcases r with r|⟨o,r⟩
 ·exact x a u r
 ·obtain⟨_,q⟩:=x a _ r;exact q
def Mut:Option HO->Prop
 | some (.lst _)=>True
 | some (.dK _)=>True
 | some (.dT _)=>True
 | some (.set _ _)=>True
 | some (.ins _ _ _)=>True
 | some (.ext _)=>True
 | _=>False
section
variable {P:aw} {w:aD} {H:Hp} {h h':aH} {x e:ae} {o':HO}
theorem HOk.write(ok:#[c5])(a:Mut (H x))(he:#[ng])(k:#[f9,b,u,e,h.get?])(l:#[ob])
  (new:Z8 P w (upd H x o') h' x o'):HOk P w (upd H x o') h':=λb u q=>by
 have i:∀c y,H c=U (.own y)->c≠x:=λc y r z=>by subst z;rw[r]at a;exact a
 have m:∀c d,H c=U (.tup d)->c≠x:=λc d r z=>by subst z;rw[r]at a;exact a
 by_cases f:b=x
 ·show#[fH,f,Zd,q];exact new
 ·rw[Zc f]at q;by_cases g:b=e
  ·have j:H b=U (.own x):=by
    rcases he with z|z
    ·exact absurd (g.trans z) f
    ·rw[g];exact z
   show#[e8,q,j,j];show#[dz,v,n,l];exact⟨v,by rw[g];exact n⟩
  ·refine(ok b u q).stay (λc v hc r=>k c v ?_ r) (λc r=>by rw[Zc (i c b r)];exact r) λc d r=>by rw[Zc (m c d r)];exact r
   rcases hc with rfl|hc
   ·exact g
   ·rintro rfl;rcases he with z|z
    ·exact i c b hc z
    ·show#[vv,hc,z];exact f rfl
universe E
structure Un (fs ex:#[j7]) (H H':Hp) (h h':aH):Prop where
 keep:∀b o,h.get? b=U o->H b=af->b ∉ fs->b ∉ ex->h'.get? b=U o
 slot:∀b o,h.get? b=U o->H b=af->b∈fs->b ∉ ex->∃sl,h'.get? b=U { o with slots:=sl }
 free:∀b o,h.get? b=U o->H b=af->b ∉ ex->H' b=af
 there:∀b o,h.get? b=U o->b ∉ ex->∃o',h'.get? b=U o'
 tups:∀b xs,H b=U #[kk]->H' b=U #[kk]
 frzs:∀b o u,H b=U #[ko]->H' b=U #[ko]
 tbls:∀b ps,H b=U (.tbl ps)->∃more,H' b=U (.tbl (ps++more))
section
variable {fs oR ex ex':List ae} {H H1 H2:Hp} {h h1 h2 h':aH} {a x e:ae} {o:HO}
theorem Un.any(u:Un fs ex H H1 h h1){b:ae}{ob:aM}(q:h.get? b=U ob)(n:H b=af)(hx:b ∉ ex):∃sl,h1.get? b=U { ob with slots:=sl }:=by
 by_cases a:b∈fs
 ·exact u.slot b ob q n a hx
 ·exact⟨ob.slots,u.keep b ob q n a hx⟩
theorem Un.kept(k:#[b0]):Un fs ex H H h h' :=
 ⟨λb a q _ _ _=>k b a q,λb a q _ _ _=>⟨a.slots,k b a q⟩,λ_ _ _ n _=>n,λb a q _=>⟨a,k b a q⟩,λ_ _ q=>q,λ_ _ _ q=>q,λ_ ps q=>⟨#[],by rw[q];simp⟩⟩
theorem Un.refl:Un fs ex H H h h:=Un.kept λ_ _ q=>q
theorem Un.laid(k:#[b0])(c:#[t4])(hn:H a=af):Un fs ex H #[mJ] h h' where
 keep:=λb u q _ _ _=>k b u q
 slot:=λb u q _ _ _=>⟨u.slots,k b u q⟩
 free:=λb u q n _=>by rw[Zc (Qx (QD (Qk q) c))];exact n
 there:=λb u q _=>⟨u,k b u q⟩
 tups:=λb d q=>by rw[Zc (Ze q hn)];exact q
 frzs:=λb u d q=>by rw[Zc (Ze q hn)];exact q
 tbls:=λb ps q=>⟨#[],by rw[Zc (Ze q hn),q];simp⟩
theorem Un.write(a:Mut (H x))(he:#[ng])(k:#[f9,b,u,e,h.get?])(i:#[ob]):Un fs ex H (upd H x o) h h':=by
 have d:∀b,H b=af->b≠x:=λb n z=>by subst z;rw[n]at a;exact a
 have f:∀b,H b=af->b≠e:=λb n z=>by
  subst z;rcases he with r|r
  ·exact d b n r
  ·show#[e8,n,r,r]
 have c:∀b u,H b=U u->¬ Mut (U u)->b≠x:=λb u q j z=>by subst z;rw[q]at a;exact j a
 refine⟨λb u q n _ _=>k b u (f b n) q,λb u q n _ _=>⟨u.slots,k b u (f b n) q⟩,λb u q n _=>by rw[Zc (d b n)];exact n,λb u q _=>?_,
  λb l q=>by rw[Zc #[rU]];exact q,λb u l q=>by rw[Zc #[rU]];exact q,λb ps q=>⟨#[],by rw[Zc #[rU],q];simp⟩⟩
 by_cases g:b=e
 ·subst g;exact i
 ·exact⟨u,k b u g q⟩
universe E
noncomputable def trk(h:aH)(H:Hp):List ae:=#[tI].filter λa=>(H a).isSome
noncomputable def WD(h:aH)(H:Hp):aH:=PySem.W.hideAll h (trk h H)
theorem Zl9(h:aH)(H:Hp):(WD h H).objs.size=h.objs.size:=PySem.W.hideAll_size _ _
theorem ZnH{h:aH}{H:Hp}{b:ae}{o:aM}(e:h.get? b=U o)(n:H b=af):(WD h H).get? b=U o :=
 PySem.W.hideAll_get _ e λa=>by have q:(H b).isSome=true:=(Qac.mp a).2;rw[n]at q;simp at q
theorem ZpB{h:aH}{H:Hp}{b:ae}{o:aM}(e:(WD h H).get? b=U o):h.get? b=U o/\H b=af:=by
 have a:h.get? b=U o:=PySem.W.of_hideAll (trk h H) e;refine⟨a,?_⟩;cases q:H b with
 | none=>rfl
 | some x=>have c:b∈trk h H:=List.mem_filter.mpr ⟨List.mem_range.mpr (Qk a),by simp[q]⟩;have z:(WD h H).get? b=af:=PySem.W.hideAll_none (trk h H) c;show#[e8,z,e,e]
noncomputable def Zp8(g h:aH)(L:ae):List (ae×aM):=#[tI].filterMap λa=>if a=L\/(g.get? a).isSome=true then af else (h.get? a).map λo=>(a,o)
noncomputable def Y4(g h:aH)(L d:ae):List (ae×aM):=(Zp8 g h L).filter λp=>decide (p.1≠d)
structure Mod (K:#[7]) (mg:#[J]) (base:aH):Prop where
 kin:K.In base
 glob:base.Ns aK mg
 blt:∃mb,base.Ns builtinsNs mb/\∀x:ak,x ≠ "__name__"->mb x=cH x
 nolimit:base.NoLimit
structure Cx where
 prog:aw
 w:aD
 K:#[7]
 mg:ak->Option aa
 base:aH
 A:aB
 N:List ak
 s₀:ai
 H₀:Hp
 env:Env
 outer:List Env
 stack:List Env
 ex:List ae
 fn:ak->Bool
 calm:Bool
 pn:List (ae×aM)
 xe:aa->ai->Prop
noncomputable def frs(l:#[mE]):List ae:=l.filterMap (·.frame)
noncomputable abbrev Cx.fs(X:Cx):List ae:=frs X.outer
def Vis(a:be)(x:ak):Prop:=a.names.lookup x=U .local\/a.names.lookup x=U .cell\/a.names.lookup x=U .free
def Loc(a:be)(x:ak):Prop:=a.names.lookup x=U .local\/a.names.lookup x=U .cell
def ZtV(env:Env)(h:aH)(m:#[J])(x:ak)(u:aa):Prop :=
 (env.kindOf x=U .local/\m x=U u)\/(#[fU,env.kindOf,x]/\∃c,env.cells.lookup x=U c/\h.IsCell c (U u))
structure Cx.Ok (X:Cx):Prop where
 mod:Mod X.K X.mg X.base
 kind:X.env.scope.kind=.function
 glob:X.env.globals=aK
 blt:X.env.builtins=builtinsNs
 above:X.s₀.heap.objs.size<=X.env.locals
 inj:∀x y c,X.env.cells.lookup x=U c->X.env.cells.lookup y=U c->x=y
 has:∀x,#[fU,X.env.kindOf,x]->∃c,X.env.cells.lookup x=U c
 cab:∀x c,X.fn x=true->X.env.cells.lookup x=U c->X.s₀.heap.objs.size<=c
 hd:X.calm=true->X.A.handled=af
 frames:X.A.frames=U X.stack
 stk:X.stack=X.outer\/(X.stack=X.env::X.outer/\X.env.frame=U X.env.locals)
 exf:∀b∈X.ex,b≠X.env.locals/\∀x c,X.env.cells.lookup x=U c->c≠b
 bs:∀b o,X.base.get? b=U o->X.s₀.heap.get? b=U o/\X.H₀ b=af
 bsz:X.base.objs.size<=X.s₀.heap.objs.size
 noex:∀b o,X.base.get? b=U o->b ∉ X.ex
 exfs:∀b∈X.ex,b ∉ X.fs
 funs:X.s₀.heap.FunFrames X.base X.outer
 frf:∀b∈X.fs,X.H₀ b=af
structure Inv (X:Cx) (ah:#[L]) (σ:List (Option V)) (H:Hp) (s:ai):Prop where
 ok:X.Ok
 os:s.os=X.s₀.os
 bare:AllBare s.gens
 base:Un X.fs X.ex X.H₀ H X.s₀.heap s.heap
 loc:∃m,s.heap.Ns X.env.locals m/\∀ (i:Nat) (x:ak) (v:V),X.N[i]? = U x->σ[i]? = U (U v)->Vis X.env.scope x->∃u,ZI v u/\ZtV X.env s.heap m x u
 cell:∀x c,X.env.cells.lookup x=U c->∃v,s.heap.IsCell c v
 free:H X.env.locals=af
 freeC:∀x c,X.env.cells.lookup x=U c->H c=af
 pin:∀p∈X.pn++ah,s.heap.get? p.1=U p.2/\H p.1=af/\p.1≠X.env.locals/\p.1 ∉ X.fs/\∀v,p.2.data≠.cell v
 hok:HOk X.prog X.w H s.heap
 len:σ.length=X.N.length
section
variable {X:Cx} {ah:List (ae×aM)} {σ:List (Option V)} {H H':Hp} {s:ai} {h':aH}
theorem Cx.Ok.nofr(ok:X.Ok){b:ae}{o:aM}(e:X.base.get? b=U o):b ∉ X.fs:=λhb=>by have:=(ok.funs.mem hb).1;rw[e]at this;cases this
theorem Inv.bs(I:#[k]):∀b o,X.base.get? b=U o->s.heap.get? b=U o/\H b=af:=λb o e =>
 ⟨I.base.keep b o #[mV].1 #[mV].2 (I.ok.nofr e) (I.ok.noex b o e),I.base.free b o #[mV].1 #[mV].2 (I.ok.noex b o e)⟩
theorem Inv.bk(I:#[k]):∀b o,X.base.get? b=U o->s.heap.get? b=U o:=λb o e=>(I.bs b o e).1
theorem Inv.mod(I:#[k]):Mod X.K X.mg X.base:=I.ok.mod
theorem Inv.kIn(I:#[k]):X.K.In s.heap:=I.ok.mod.kin.keeps I.bk
theorem Inv.lt(I:#[k]):X.env.locals<s.heap.objs.size:=let ⟨_,hn,_⟩:=I.loc;hn.lt
theorem Inv.sz(I:#[k]):X.s₀.heap.objs.size<=s.heap.objs.size:=Qi I.ok.above (QaF I.lt)
theorem Inv.nofs(I:#[k]){a:ae}(h:s.heap.objs.size<=a):a ∉ X.fs:=λhb=>by obtain⟨_,o,b,_⟩:=I.ok.funs.mem hb;exact absurd (QD (Qk b) (Qi I.sz h)) (Qaa _)
theorem Inv.cne(I:#[k]):∀x c,X.env.cells.lookup x=U c->c≠X.env.locals:=λx c e z=>by obtain⟨v,o,a,hd⟩:=#[sj];obtain⟨m,⟨o',es,ep,b,d,_⟩,_⟩:=I.loc;rw[z,b]at a;cases a;rw[d]at hd;cases hd
theorem Inv.funs(I:#[k]):s.heap.FunFrames X.base X.outer:=by
 have all:∀ (l:List Env),(∀b∈frs l,b∈X.fs)->X.s₀.heap.FunFrames X.base l->s.heap.FunFrames X.base l:=by
  intro l;induction l with
  | nil=>intro _ _;trivial
  | cons env r g=>intro f h;obtain⟨i,⟨L,o,a,j,k,hd⟩,m⟩:=h;have c:L∈X.fs:=f L (by unfold frs;rw[List.filterMap_cons,a];exact Q6);obtain⟨sl,e⟩:=I.base.slot L o k (I.ok.frf L c) c λz=>I.ok.exfs L z c;exact⟨i,⟨L,_,a,j,e,hd⟩,g (λb d=>f b (by unfold frs;rw[List.filterMap_cons,a];exact Qs _ d)) m⟩
 exact all X.outer (λ_ d=>d) I.ok.funs
theorem Inv.stack(I:#[k]):s.heap.FunFrames X.base X.stack:=by
 rcases I.ok.stk with e|⟨e,a⟩
 ·rw[e];exact I.funs
 ·rw[e];obtain⟨m,b,_⟩:=I.loc;refine .cons (by rw[I.ok.kind];decide) a b ?_ I.funs;exact aH.get?_none_of_le (Qi I.ok.bsz I.ok.above)
theorem Inv.stkSub(I:#[k]):∀b∈frs X.stack,b∈X.env.locals::X.fs:=λb hb=>by
 rcases I.ok.stk with e|⟨e,a⟩
 ·rw[e]at hb;exact Qs _ hb
 ·rw[e]at hb;unfold frs at hb;rw[List.filterMap_cons,a]at hb;exact hb
theorem Inv.stkFree(I:#[k]):∀b∈frs X.stack,H b=af:=λb hb=>by
 rcases QJ.mp (I.stkSub b hb) with e|hb
 ·rw[e];exact I.free
 ·obtain⟨_,o,a,_⟩:=I.ok.funs.mem hb;exact I.base.free b o a (I.ok.frf b hb) λz=>I.ok.exfs b z hb
theorem Inv.step{g':Array GenState}{t':Nat}{d':Drawn}{ch:#[j7]}(I:#[k])
  (w:#[11])
  (keep:∀b o,b≠X.env.locals->b ∉ X.fs->b ∉ ch->s.heap.get? b=U o->H b=af->h'.get? b=U o)
  (slot:∀b o,b≠X.env.locals->b∈X.fs->b ∉ ch->s.heap.get? b=U o->H b=af->∃sl,h'.get? b=U { o with slots:=sl }) (free:∀b o,b ∉ ch->s.heap.get? b=U o->H b=af->H' b=af)
  (h:∀b o,b ∉ ch->s.heap.get? b=U o->∃y,h'.get? b=U y)
  (A:#[e1,b,g,H']) (B:∀b o u,H b=U #[ko]->H' b=U #[ko]) (C:∀b F,H b=U (.tbl F)->∃more,H' b=U (.tbl (F++more)))
  (P:∀m,s.heap.Ns X.env.locals m->h'.Ns X.env.locals m) (J:#[mF]) (Q:AllBare g') :
  Inv X ah σ H' { s with heap:=h',gens:=g',drawn:=d',toks:=t' }:=by
 have K:∀b o,X.s₀.heap.get? b=U o->b≠X.env.locals:=λb o e=>Qx (QD (Qk e) I.ok.above);have G:∀b o,X.s₀.heap.get? b=U o->b ∉ X.ex->b ∉ ch:=λb o e a j=>by
  rcases(w b j).1 with z|z
  ·exact a z
  ·exact absurd (QD (Qk e) z) (Qaa _)
 have L:∀x c,X.env.cells.lookup x=U c->∀v,s.heap.IsCell c v->h'.IsCell c v:=λx c e v ⟨o,t,hd⟩=>by
  have D:c ∉ ch:=λz=>(w c z).2.2.1 x c e rfl;by_cases M:c∈X.fs
  ·obtain⟨sl,q⟩:=slot c o (I.cne x c e) M D t #[tl];exact⟨_,q,hd⟩
  ·exact⟨o,keep c o (I.cne x c e) M D t #[tl],hd⟩
 refine⟨I.ok,I.os,Q,⟨λb o e n j a=>?_,λb o e n j a=>?_,λb o e n a=>?_,λb o e a=>?_,λb g e=>A b g (I.base.tups b g e),λb o g e=>B b o g (I.base.frzs b o g e),λb F e=>?_⟩,?_,λx c e=>?_,?_,λx c e=>?_,λp N=>?_,J,I.len⟩
 ·exact keep b o (K b o e) j #[uJ] (I.base.keep b o e n j a) #[lb]
 ·obtain⟨sl,f⟩:=I.base.slot b o e n j a;obtain⟨R,E⟩:=slot b _ (K b o e) j #[uJ] f #[lb];exact⟨R,E⟩
 ·show#[o1,y,f,a];exact free b y #[uJ] f #[lb]
 ·show#[o1,y,f,a];exact h b y #[uJ] f
 ·obtain⟨S,f⟩:=I.base.tbls b F e;obtain⟨T,E⟩:=C b _ f;exact⟨S++T,by rw[E,Array.append_assoc]⟩
 ·show#[gU,m,V,W,I.loc];refine⟨m,P m V,λi x v f E Y=>?_⟩;obtain⟨u,r,l⟩:=W i x v f E Y;show#[p3,u,r];rcases l with l|⟨k,c,e,z⟩
  ·exact .inl l
  ·exact .inr ⟨k,c,e,L x c e _ z⟩
 ·obtain⟨v,z⟩:=#[sj];exact⟨v,L x c e v z⟩
 ·obtain⟨m,⟨o,_,_,t,_⟩,_⟩:=I.loc;exact free _ o #[vj,w] t I.free
 ·obtain⟨v,o,t,hd⟩:=#[sj];exact free c o (λz=>(w c z).2.2.1 x c e rfl) t #[tl]
 ·show#[vw,O,N];have D:p.1 ∉ ch:=λz=>(w p.1 z).2.2.2 p N rfl;exact⟨keep p.1 p.2 ne O D e n,free p.1 p.2 D e n,ne,O,d⟩
theorem Inv.un{t':Nat}(I:#[k])(u:Un X.fs [] H H' s.heap h')(hok:#[mF]):Inv X ah σ H' { s with heap:=h',toks:=t' }:=by obtain⟨m,⟨o,es,ep,c,r⟩,_⟩:=id I.loc;obtain⟨sl,f⟩:=u.any c I.free #[4];exact I.step (g':=s.gens) (d':=s.drawn) (ch:=[]) (λ_ z=>nomatch z) (λb o _ a _ e n=>u.keep b o e n a #[4]) (λb o _ a _ e n=>u.slot b o e n a #[4]) (λb o _ e n=>u.free b o e n #[4]) (λb o _ e=>u.there b o e #[4]) u.tups u.frzs u.tbls (λm' g=>by obtain⟨o',h,i,d,j⟩:=g;rw[c]at d;cases d;exact⟨_,h,i,f,j⟩) hok I.bare
theorem Inv.call{g':Array GenState}{t':Nat}{d':Drawn}{ch:#[j7]}(I:#[k])(u:Un #[q0] ch H H' s.heap h')(hok:#[mF])(i:AllBare g')
  (f:#[11]) :
  Inv X ah σ H' { s with heap:=h',gens:=g',drawn:=d',toks:=t' }:=by
 obtain⟨m,⟨o,es,ep,g,r⟩,_⟩:=id I.loc;obtain⟨sl,d⟩:=u.any g I.free λz=>(f _ z).2.1 rfl;exact I.step (ch:=ch) f (λb o d j a e n=>u.keep b o e n (λz=>(QJ.mp (I.stkSub b z)).elim d j) a) (λb o _ _ a e n=>u.any e n a) (λb o a e n=>u.free b o e n a) (λb o a e=>u.there b o e a) u.tups u.frzs u.tbls (λm' k=>by obtain⟨o',l,q,h,t⟩:=k;rw[g]at h;cases h;exact⟨_,l,q,d,t⟩) hok i
theorem Inv.turned{t':Nat}{it:ae}(I:#[k])(k:#[f9,b,o,it,s.heap.get?])(hn:H it=af)(d:it≠X.env.locals)
  (h1:it∈X.ex\/X.s₀.heap.objs.size<=it) (h2:∀x c,X.env.cells.lookup x=U c->c≠it) (g:∀p∈X.pn++ah,p.1≠it):Inv X ah σ H { s with heap:=h',toks:=t' }:=by
 have f:∀b u,H b=U u->b≠it:=λb u e z=>by rw[z,hn]at e;cases e
 refine I.step (g':=s.gens) (d':=s.drawn) (ch:=[it]) (λb h=>?_) (λb o _ _ a e _=>k b o #[l2] e) (λb o _ _ a e _=>⟨o.slots,k b o #[l2] e⟩) (λ_ _ _ _ n=>n)
  (λb o a e=>⟨o,k b o #[l2] e⟩) #[sm] (λ_ _ _ e=>e) #[mH] (λm i=>?_) #[g5,b,u,e] I.bare
 ·have e:b=it:=by simpa using h
  subst e;exact⟨h1,d,h2,g⟩
 ·obtain⟨o,j,l,t,r⟩:=i;exact⟨o,j,l,k _ o (Ne.symm d) t,r⟩
 ·refine(I.hok b u e).stay (λc v a q=>k c v ?_ q) (λ_ q=>q) λ_ _ q=>q;rcases a with z|z
  ·rw[z];exact f b u e
  ·exact f c _ z
theorem Inv.tok(I:#[k])(t:Nat):Inv X ah σ H { s with toks:=t }:=I.un (h':=s.heap) (t':=t) Un.refl I.hok
theorem Inv.kept{t':Nat}(I:#[k])(k:#[r9]):Inv X ah σ H { s with heap:=h',toks:=t' }:=I.un (Un.kept k) (I.hok.kept k)
theorem Inv.laid{a:ae}{o:HO}{t':Nat}(I:#[k])(k:#[r9])(c:s.heap.objs.size<=a)(new:Z8 X.prog X.w #[mJ] h' a o) :
  Inv X ah σ #[mJ] { s with heap:=h',toks:=t' }:=I.un (Un.laid k c (I.hok.fresh c)) (I.hok.laid k c new)
theorem Inv.write{x e:ae}{o:HO}{t':Nat}(I:#[k])(a:Mut (H x))(he:#[ng])(k:#[f9,b,u,e,s.heap.get?])(c:#[ob])
  (new:Z8 X.prog X.w (upd H x o) h' x o):Inv X ah σ (upd H x o) { s with heap:=h',toks:=t' }:=I.un (Un.write a he k c) (I.hok.write a he k c new)
theorem Inv.pins_of{a:#[L]}(I:#[k])(h:∀p∈a,s.heap.get? p.1=U p.2/\H p.1=af/\p.1≠X.env.locals/\p.1 ∉ X.fs/\∀v,p.2.data≠.cell v):Inv X a σ H s :=
 ⟨I.ok,I.os,I.bare,I.base,I.loc,I.cell,I.free,I.freeC,λp b=>(Ql.mp b).elim (λz=>I.pin p (QS _ z)) (h p),I.hok,I.len⟩
theorem NV{N:#[T]}(c:N.Nodup){i j:Nat}{x:ak}(a:N[i]? = U x)(b:N[j]? = U x):i=j:=by obtain⟨h1,d⟩:=Qd.mp a;obtain⟨h2,e⟩:=Qd.mp b;exact(List.getElem_inj c).mp (d.trans e.symm)
theorem NU{M:Model}{A:aB}{E:#[G]}{i:Nat}{x:ak}{v:V}{u:aa}{Q:#[bK]}(I:#[k])(T:#[qJ])(B:#[hz])(hx:#[tt])(r:ZI v u)
  (h:∀s',Inv X ah (σ.set i (U v)) H s'->(∃a,aH.SameBut a s.heap s'.heap/\(a=X.env.locals\/X.env.cells.lookup x=U a))->Q () s') (hf:#[23]:=by first|exact #[nS]|exact #[n2]|assumption):av M A (storeName X.env x u) Q E s:=by
 show#[vx,m,F,W,id,I.loc];have jh:(X.env.scope.kind == .class||(X.env.scope.kind == .module&&X.env.locals != X.env.globals))=false:=by rw[I.ok.kind];rfl
 have Y:i<σ.length:=by rw[I.len];exact(Qd.mp B).1
 have cne:=I.cne;have Z:∀ {a:ae} {h':aH},(∃o,s.heap.get? a=U o/\H a=af)->aH.SameBut a s.heap h'->HOk X.prog X.w H h':=λ{a h'} ha f b ob e=>by
  obtain⟨_,_,fC⟩:=ha;refine(I.hok b ob e).stay (λc C hc q=>(f.2 c ?_).trans q) (λ_ q=>q) λ_ _ q=>q;rintro rfl;rcases hc with rfl|hc
  ·show#[vv,fC,e]
  ·show#[vv,fC,hc]
 rcases hx with hk|hk
 ·refine wpAny_storeName_local hk F #[g5,h',mO,f] jh;obtain⟨oL,_,_,Ct,_⟩:=id F;refine h _ ⟨I.ok,I.os,I.bare,#[ba],⟨_,mO,λj y G g l J=>?_⟩,λy c e=>?_,I.free,I.freeC,λp K=>?_,Z ⟨oL,Ct,I.free⟩ f,by simpa using I.len⟩ ⟨_,f,.inl rfl⟩
  ·exact#[hU].trans #[sD]
  ·show#[qg];exact⟨L,#[hU].trans g⟩
  ·show#[o1,N,g,hx];exact⟨N,#[hU].trans g⟩
  ·by_cases w:j=i
   ·show#[j1];exact⟨u,r,.inl ⟨hk,by simp⟩⟩
   ·show#[cL];rcases q with⟨k,e⟩|⟨k,c,e,z⟩
    ·refine .inl ⟨k,?_⟩;have:y≠x:=λe=>w (NV T g (e ▸ B));simp[this,e]
    ·exact .inr ⟨k,c,e,z.sameBut f (cne y c e)⟩
  ·obtain⟨C,z⟩:=I.cell y c e;exact⟨C,z.sameBut f (cne y c e)⟩
  ·show#[vw,R,K];exact⟨(f.2 p.1 ne).trans e,n,ne,R,d⟩
 ·have S:X.fn x=true:=by
   rcases hf with z|z
   ·exact z
   ·show#[vv,z,hk]
  obtain⟨c,hc⟩:=I.ok.has x (.inl hk);obtain⟨C,z⟩:=I.cell x c hc;refine wpAny_storeName_cell I.ok.kind hk hc z #[g5,h',pO,f];show#[vx,oc,xT,xU,id,z];refine h { s with heap:=h' } ⟨I.ok,I.os,I.bare,#[ba],⟨m,F.sameBut f (Ne.symm (cne x c hc)),λj y G g l J=>?_⟩,λy D e=>?_,I.free,I.freeC,λp K=>?_,Z ⟨oc,xT,I.freeC x c hc⟩ f,by simpa using I.len⟩ ⟨c,f,.inr hc⟩
  ·exact#[cC].trans #[sD]
  ·show#[qg];exact⟨L,#[cC].trans g⟩
  ·show#[o1,N,g,hx];exact⟨N,#[cC].trans g⟩
  ·by_cases w:j=i
   ·show#[j1];exact⟨u,r,.inr ⟨.inl hk,c,hc,pO⟩⟩
   ·show#[cL];rcases q with q|⟨k,D,e,z'⟩
    ·exact .inl q
    ·refine .inr ⟨k,D,e,z'.sameBut f ?_⟩;rintro rfl;exact w (NV T g (I.ok.inj _ _ _ e hc ▸ B))
  ·by_cases xV:D=c
   ·subst xV;exact⟨_,pO⟩
   ·obtain⟨w2,z2⟩:=I.cell y D e;exact⟨w2,z2.sameBut f xV⟩
  ·show#[vw,R,K];refine⟨(f.2 p.1 ?_).trans e,n,ne,R,d⟩;intro q;rw[q,xT]at e;have q':oc=p.2:=Qp e;exact d C #[er,q',xU]
theorem U5{M:Model}{A:aB}{E:#[G]}{i:Nat}{x:ak}{v:V}{u:aa}{Q:#[bK]}(I:#[k])(a:#[qJ])(b:#[hz])(hx:#[tt])(r:ZI v u)
  (h:∀s',Inv X ah (σ.set i (U v)) H s'->Q () s') (c:#[23]:=by first|exact #[nS]|exact #[n2]|assumption):av M A (storeName X.env x u) Q E s :=
 NU I a b hx r (λs' d _=>h s' d) c
theorem Inv.call'{s':ai}{ch:#[j7]}(I:#[k])(a:s'.os=s.os)(u:Un #[q0] ch H H' s.heap s'.heap)(hok:HOk X.prog X.w H' s'.heap)(d:AllBare s'.gens)
  (f:#[11]):Inv X ah σ H' s':=by
 obtain⟨h',g',d',t',g⟩:=s';have e:g=s.os:=a;subst e;exact I.call (g':=g') (t':=t') (d':=d') u hok d f
universe E
abbrev XK:=aa->Option ae->Hp->Prop
abbrev St:=List (Option V)
abbrev VK:=V->Hp->Prop
abbrev TE:=St->Hp->VK->Prop
abbrev TT:=St->Hp->(Bool->Hp->Prop)->Prop
abbrev TA:=St->Hp->(List V->Hp->Prop)->Prop
structure XU where
 nx:St->Hp->Prop
 rt:VK
 bk:St->Hp->Prop:=#[sd]
 ct:St->Hp->Prop:=#[sd]
abbrev TS:=XU->St->Hp->Prop
def EP(X:Cx)(b:#[L])(c:St)(Q:VK)(u:aa)(s':ai):Prop:=X2 λv a=>Inv X b c a s'/\ZI v u/\Q v a
def TP(X:Cx)(c:#[L])(d:St)(Q:Bool->Hp->Prop)(b:Bool)(s':ai):Prop:=∃a,Inv X c d a s'/\Q b a
def AP(X:Cx)(b:#[L])(c:St)(Q:List V->Hp->Prop)(us:#[az])(s':ai):Prop:=X2 λvs a=>Inv X b c a s'/\ZK vs us/\Q vs a
def SP(X:Cx)(c:#[L])(D:XU)(f:Flow)(s':ai):Prop :=
 match f with
 | .next=>X2 λb a=>Inv X c b a s'/\D.nx b a
 | .brk=>X2 λb a=>Inv X c b a s'/\D.bk b a
 | .cont=>X2 λb a=>Inv X c b a s'/\D.ct b a
 | .ret u=>X3 λv b a=>Inv X c b a s'/\ZI v u/\D.rt v a
def PE(X:Cx)(e:aI)(t:TE):Prop :=
 ∀ (b:List (ae×aM)) (s:ai) (a:St) (H:Hp) (Q:VK),Inv X b a H s->t a H Q->#[jq] #[ev,e] (EP X b a Q) X.xe s
def PT(X:Cx)(e:aI)(t:TT):Prop :=
 ∀ (b:List (ae×aM)) (s:ai) (a:St) (H:Hp) (Q:Bool->Hp->Prop),Inv X b a H s->t a H Q->#[jq] (isTrue e X.env #[ev,e]) (TP X b a Q) X.xe s
def PW(X:Cx)(e:aI)(t:TT):Prop :=
 ∀ (c:Sem aa) (b:List (ae×aM)) (s:ai) (a:St) (H:Hp) (Q:Bool->Hp->Prop),Inv X b a H s->t a H Q->#[jq] (isTrue e X.env c) (TP X b a Q) X.xe s
theorem PW.pt{X:Cx}{e:aI}{t:TT}(h:PW X e t):PT X e t:=h _
def PA(X:Cx)(d:#[iS])(t:TA):Prop :=
 ∀ (a:Pos) (c:List (ae×aM)) (s:ai) (b:St) (H:Hp) (Q:List V->Hp->Prop),Inv X c b H s->t b H Q->#[jq] (spliced (bb a (aC d X.env))) (AP X c b Q) X.xe s
def PS(X:Cx)(st:aL)(t:TS):Prop :=
 ∀ (a:List (ae×aM)) (s:ai) (b:St) (H:Hp) (D:XU),Inv X a b H s->t D b H->#[jq] (exec st X.env) (SP X a D) X.xe s
def PSs(X:Cx)(st:#[kY])(t:TS):Prop :=
 ∀ (a:List (ae×aM)) (s:ai) (b:St) (H:Hp) (D:XU),Inv X a b H s->t D b H->#[jq] (execs st X.env) (SP X a D) X.xe s
theorem thn{α:Type}{t:Sem α}{Q b:α->ai->Prop}{M:Model}{A:aB}{E:#[G]}{s:ai}(h:av M A t Q E s)(c:∀a s,Q a s->b a s):av M A t b E s:=aU h c λ_ _ x=>x
section
variable {X:Cx}
inductive EA {α:Type} (A B:α->Prop):Prop where
 | mk (v:α) (a:A v) (b:B v)
def TM(i:Nat):TE:=λa H Q=>EA (λv=>a[i]? = U (U v)) (λv=>Q v H)
def tC(v:V):TE:=λ_ H Q=>Q v H
theorem R3{i:Nat}{x:ak}{pos:Pos}(f:#[hz])(g:#[gN,Vis])(hd:#[j]:=by decide)(j:#[bM]:=by decide):PE X #[a4] (TM i):=by
 show#[dU,k,n,Q];show#[gU,v,e,h,h];show#[gU,m,o,p,I.loc];obtain⟨u,r,l⟩:=p i x v f e g;have a:EP X k n Q u s:=#[sK];rcases l with⟨hk,q⟩|⟨hk,c,b,d⟩
 ·exact wpAny_Name (wpAny_loadName_local I.ok.kind hk o q a) hd
 ·rcases hk with hk|hk
  ·exact wpAny_Name (wpAny_loadName_cell I.ok.kind hk b d a) hd
  ·exact wpAny_Name (wpAny_loadName_free I.ok.kind hk b d a j) hd
theorem Zk{i j pos}:PE X (.Constant (.int i) j pos) (tC (.int i)):=λ_ _ _ H _ I h=>wpAny_Constant_int ⟨.int i,H,I.tok _,#[E],h⟩
theorem U4{b j pos}:PE X (.Constant (.bool b) j pos) (tC (.bl b)):=λ_ _ _ H _ I h=>Constant_bool ⟨.bl b,H,I,rfl,h⟩
theorem ZR{j pos}:PE X (.Constant .none j pos) (tC .non):=λ_ _ _ H _ I h=>Constant_none ⟨.non,H,I,rfl,h⟩
theorem Zu{x j pos}:PE X (.Constant #[uO] j pos) (tC #[uO]):=λ_ _ _ H _ I h=>Calls.Constant_str #[e5,x,h]
def Gl(X:Cx)(x:ak):Prop:=X.env.kindOf x=U .globalImplicit
theorem W9{E:#[G]}{a:#[L]}{s:ai}{b:St}{H:Hp}{x:ak}{u:aa}{pos:Pos}{Q:#[G]}(I:#[fd,a,b])(c:#[rO])(hm:X.mg x=U u)(h:Q u s)
  (hd:#[j]:=by decide):#[jq] #[ev,#[a4]] Q E s :=
 Calls.Name_function_global I.ok.kind c (Calls.loadGlobal_global #[mc] hm h) hd
theorem V5{E:#[G]}{a:#[L]}{s:ai}{b:St}{H:Hp}{x:ak}{u:aa}{pos:Pos}{Q:#[G]}(I:#[fd,a,b])(c:#[rO])(hm:X.mg x=af)(d:cH x=U u)(h:Q u s)
  (hn:#[jy]:=by decide) (hd:#[j]:=by decide):#[jq] #[ev,#[a4]] Q E s:=by
 show#[gU,mb,e,f,I.mod.blt];exact Calls.Name_function_global I.ok.kind c (Calls.loadGlobal_builtin #[mc] hm #[ey,I.ok.blt,e.keeps,I.bk] ((f x hn).trans d) h) hd
theorem NT{x:ak}{v:V}{u:aa}{pos:Pos}(a:#[rO])(hm:X.mg x=U u)(r:ZI v u)(hd:#[j]:=by decide):PE X #[a4] (tC v) :=
 λ_ _ _ H _ I h=>W9 I a hm #[sK] hd
theorem Zpl{x:ak}{v:V}{u:aa}{pos:Pos}(a:#[rO])(hm:X.mg x=af)(b:cH x=U u)(r:ZI v u)(hn:#[jy]:=by decide)(hd:#[j]:=by decide):PE X #[a4] (tC v) :=
 λ_ _ _ H _ I h=>V5 I a hm b #[sK] hn hd
variable {a b:aI} {ta tb:TE} {pos:Pos}
def tB(t:TE):TT:=λa H Q=>t a H λx b=>EA (λc=>x=.bl c) (λc=>Q c b)
theorem W8{e:aI}{t:TE}(h:PE X e t)(he:∀a,isTrue e X.env a=(do let v <- a;standAt e.pos;holding [v] (truthy v)):=by intro _;rfl):PT X e (tB t):=by intro b s c H Q I hw;refine isTrue_plain (thn (h b s c H _ I hw) ?_) (he _);rintro v s1 ⟨x,f,g,i,j⟩;obtain⟨d,rfl,q⟩:=j;cases i;exact bp ⟨f,g,q⟩
variable {tA sE:TT} {Y4:List aI}
def ZtZ(t u:TT):TT:=λa H Q=>t a H λc b=>if c=true then u a b Q else Q false b
def tOr(t u:TT):TT:=λa H Q=>t a H λc b=>if c=true then Q true b else u a b Q
def Ztu(t:TT):TT:=λa H Q=>t a H λc b=>Q (!c) b
theorem W7(ha:PT X a tA):PW X (.BoolOp .And [a] pos) tA:=by
 intro wh b s d H Q I h;refine isTrue_and #[l3];cases c with
 | true=>exact isTrue_and_nil e
 | false=>exact e
theorem WP(ha:PT X a tA):PW X (.BoolOp .Or [a] pos) tA:=by
 intro wh b s d H Q I h;refine isTrue_or #[l3];cases c with
 | false=>exact isTrue_or_nil e
 | true=>exact e
theorem Xi(ha:PT X a tA)(hb:PW X #[sG] sE):PW X #[rd] (ZtZ tA sE):=by
 intro j d s e H Q I h;refine isTrue_and #[du,ha,d,e];rintro c k ⟨f,g,i⟩;cases c with
 | true=>exact hb j d k e f Q g i
 | false=>exact⟨f,g,i⟩
theorem WO(ha:PT X a tA)(hb:PW X #[tr] sE):PW X #[rD] (tOr tA sE):=by
 intro j d s e H Q I h;refine isTrue_or #[du,ha,d,e];rintro c k ⟨f,g,i⟩;cases c with
 | true=>exact⟨f,g,i⟩
 | false=>exact hb j d k e f Q g i
theorem R0(ha:PT X a tA):PT X (.UnaryOp .Not a pos) (Ztu tA):=by intro b s d H Q I h;exact isTrue_not (ha b s d H (λc e=>Q (!c) e) I h)
def Zs7(ta tb:TE):TE:=λa H Q=>ta a H λx b=>∃c,x=.bl c/\if c=true then tb a b Q else Q (.bl false) b
def ZtC(ta tb:TE):TE:=λa H Q=>ta a H λx b=>∃c,x=.bl c/\if c=true then Q #[qu] b else tb a b Q
def Zsi(ta:TE):TE:=λa H Q=>ta a H λx b=>∃c,x=.bl c/\Q (.bl (!c)) b
theorem U3{b}{t:TE}(h:PE X a t):PE X (.BoolOp b [a] pos) t:=λc s d H Q I hw=>BoolOp_one (h c s d H Q I hw)
theorem U2(ha:#[jD])(hb:PE X #[sG] tb):PE X #[rd] (Zs7 ta tb):=by
 show#[pK,Q,BoolOp_and,ha];show#[il];cases c with
 | true=>exact hb e j f g Q i d
 | false=>exact⟨.bl false,g,i,rfl,d⟩
theorem Zta(ha:#[jD])(hb:PE X #[tr] tb):PE X #[rD] (ZtC ta tb):=by
 show#[pK,Q,BoolOp_or,ha];show#[il];cases c with
 | false=>exact hb e j f g Q i d
 | true=>exact⟨.bl true,g,i,rfl,d⟩
theorem ZrN(ha:#[jD]):PE X (.UnaryOp .Not a pos) (Zsi ta):=by intro d s e H Q I h;refine UnaryOp_ #[du,ha,d,e];rintro v s1 ⟨x,f,g,i,b⟩;obtain⟨c,rfl,b⟩:=b;cases i;exact not_of (bp ⟨.bl (!c),f,g,rfl,b⟩)
def tIf(t:TT)(ta tb:TE):TE:=λa H Q=>t a H λc b=>if c=true then ta a b Q else tb a b Q
theorem Yk{c:aI}(hc:PT X c tA)(ha:#[jD])(hb:#[nl]):PE X (.IfExp c a b pos) (tIf tA ta tb):=by
 show#[pK,Q,wpAny_IfExp,hc];rintro d g ⟨i,j,k⟩;cases d with
 | true=>exact ha e g f i Q j k
 | false=>exact hb e g f i Q j k
universe E
def SqL(K:#[7])(H:Hp)(a:ae)(xs:#[m7]):Prop :=
 Rd H a #[iI] \/
  X3 λ(o:aM) (its:Array aa) (n:Nat)=>K.lookup a=U o/\o.cls=.type "list"/\o.dict=af/\o.data=.seq its n/\its.size<=aq/\ZK xs its.toList
def SqT(K:#[7])(H:Hp)(a:ae)(xs:#[m7]):Prop :=
 Rd H a #[kk] \/
  X3 λ(o:aM) (its:Array aa) (n:Nat)=>K.lookup a=U o/\o.cls=.type "tuple"/\o.data=.seq its n/\its.size<=aq/\ZK xs its.toList
noncomputable def ZtD:aa->Option V
 | .none=>U .non
 | .bool b=>U (.bl b)
 | .int i _=>U (.int i)
 | .str x _=>U #[uO]
 | .bytes b _=>U (.byt b)
 | .float b _=>U (.flt b)
 | .ref a=>U #[cd]
 | .type n=>U (.ty n)
 | _=>af
theorem ZI.abs{x:V}{u:aa}(r:ZI x u):ZtD u=U x:=by
 cases x with
 | non=>cases r;rfl
 | bl _=>cases r;rfl
 | int _=>obtain⟨t,rfl⟩:=r;rfl
 | str _=>obtain⟨t,rfl⟩:=r;rfl
 | byt _=>obtain⟨t,rfl⟩:=r;rfl
 | flt _=>obtain⟨t,rfl⟩:=r;rfl
 | ref _=>cases r;rfl
 | ty _=>cases r;rfl
theorem ZI.inj{x y:V}{u:aa}(r:ZI x u)(q:ZI y u):x=y:=Qp (r.abs.symm.trans q.abs)
theorem ZK.inj:∀ {xs ys:List V} {us:List aa},ZK xs us->ZK ys us->xs=ys
 | _,_,_,.nil,.nil=>rfl
 | _,_,_,.cons r t,.cons a t'=>by rw[r.inj a,ZK.inj t t']
section
variable {X:Cx} {ah:List (ae×aM)} {σ:St} {H:Hp} {s:ai} {a:ae} {xs ys:List V}
theorem SqL.of{K:#[7]}(h:H a=U #[iI]):SqL K H a xs:=.inl #[uR]
theorem SqT.of{K:#[7]}(h:H a=U #[kk]):SqT K H a xs:=.inl #[uR]
theorem Inv.list(I:#[k])(h:SqL X.K H a xs):∃its:List aa,ZK xs its/\PlainL s.heap a its.toArray/\xs.length<=aq:=by
 rcases h with h|⟨o,its,n,b,c,hd,d,hz,r⟩
 ·obtain⟨z,its,n,r,e⟩:=h.ok I.hok;exact⟨its,r,⟨_,n,e,rfl,rfl,rfl⟩,z⟩
 ·refine⟨its.toList,r,⟨o,n,I.kIn a o b,c,hd,by simpa using d⟩,?_⟩;show#[lo];lia
theorem Inv.tuple(I:#[k])(h:SqT X.K H a xs):∃its:List aa,ZK xs its/\IsTup s.heap a its.toArray/\xs.length<=aq:=by
 rcases h with h|⟨o,its,n,b,c,d,hz,r⟩
 ·obtain⟨z,its,r,p⟩:=h.ok I.hok;exact⟨its,r,p,z⟩
 ·refine⟨its.toList,r,⟨o,I.kIn a o b,c,n,by simpa using d⟩,?_⟩;show#[lo];lia
theorem Inv.list_inj(I:#[k])(h:SqL X.K H a xs)(h':SqL X.K H a ys):xs=ys:=by
 obtain⟨its,r,⟨o,n,e,_,_,d⟩,_⟩:=I.list h;obtain⟨b,g,⟨o',n',c,_,_,f⟩,_⟩:=I.list h';show#[e8,e,c,c];rw[d]at f;injection f with i _;have:its=b:=by simpa using congrArg Array.toList i
 subst this;exact r.inj g
theorem Inv.tuple_inj(I:#[k])(h:SqT X.K H a xs)(h':SqT X.K H a ys):xs=ys:=by
 obtain⟨its,r,⟨o,e,_,n,d⟩,_⟩:=I.tuple h;obtain⟨b,g,⟨o',c,_,n',f⟩,_⟩:=I.tuple h';show#[e8,e,c,c];rw[d]at f;injection f with i _;have:its=b:=by simpa using congrArg Array.toList i
 subst this;exact r.inj g
universe E
noncomputable abbrev Cx.wish(X:Cx)(E:#[G]):Cx:={ X with xe:=E }
noncomputable abbrev Cx.nox(X:Cx):Cx:=X.wish λ_ _=>False
theorem Cx.Ok.wish{X:Cx}(ok:X.Ok)(E:#[G]):#[td].Ok :=
 #[y]
theorem Cx.Ok.unwish{X:Cx}{E:#[G]}(ok:#[td].Ok):X.Ok :=
 #[y]
section
variable {X:Cx} {ah:List (ae×aM)} {σ:St} {H:Hp} {s:ai} {E:aa->ai->Prop}
theorem Inv.wish(I:#[k])(E:#[G]):Inv #[td] ah σ H s:=⟨I.ok.wish E,I.os,I.bare,I.base,I.loc,I.cell,I.free,I.freeC,I.pin,I.hok,I.len⟩
theorem Inv.unwish(I:Inv #[td] ah σ H s):Inv X ah σ H s:=⟨I.ok.unwish,I.os,I.bare,I.base,I.loc,I.cell,I.free,I.freeC,I.pin,I.hok,I.len⟩
theorem SP.unwish{D:XU}{f:Flow}{s':ai}(h:SP #[td] ah D f s'):SP X ah D f s':=by
 cases f with
 | next=>obtain⟨a,b,I,q⟩:=h;exact#[mn]
 | brk=>obtain⟨a,b,I,q⟩:=h;exact#[mn]
 | cont=>obtain⟨a,b,I,q⟩:=h;exact#[mn]
 | ret u=>obtain⟨v,a,b,I,r,q⟩:=h;exact⟨v,a,b,I.unwish,r,q⟩
theorem PSs.nox{st:#[kY]}{t:TS}(h:PSs X.nox st t):PSs X st t:=λah s σ H D I hw =>
 aU (h ah s σ H D (I.wish _) hw) (λ_ _ q=>q.unwish) λ_ _ z=>False.elim z
universe E
section
variable {X:Cx} {st:aL} {Y4:List aL} {t u:TS} {e:aI} {te:TE} {pos:Pos}
def Zti:TS:=λD a H=>D.nx a H
def NS(t u:TS):TS:=λD a H=>t { D with nx:=u D } a H
theorem ZB:PSs X [] Zti:=λ_ _ a H _ I h=>wpAny_execs_nil ⟨a,H,I,h⟩
theorem Zf(h1:PS X st t)(h2:PSs X Y4 u):PSs X (st::Y4) (NS t u):=by
 show#[dU,a,b,D];refine wpAny_execs_cons (thn (h1 a s b H { D with nx:=u D } I h) λf c q=>?_);cases f with
 | next=>obtain⟨d,e,g,q⟩:=q;exact h2 a c d e D g q
 | ret v=>exact q
 | brk=>exact q
 | cont=>exact q
theorem Zh(h1:PS X st t):PSs X [st] t:=by
 show#[dU,a,b,D];refine wpAny_execs_cons (thn (h1 a s b H D I h) λf s1 q=>?_);cases f with
 | next=>exact wpAny_execs_nil q
 | ret v=>exact q
 | brk=>exact q
 | cont=>exact q
theorem Inv.quiet{a:#[L]}{b:St}{H:Hp}{s:ai}(I:#[fd,a,b]):interactive X.env=false:=by simp[interactive,I.ok.kind]
def Zto(te:TE):TS:=λD a H=>te a H λ_ b=>D.nx a b
theorem ZL(he:#[qN])(hs:swapsWith e af pos.line X.env=pure false:=by rfl):PS X (.Expr e pos) (Zto te):=by intro b s a H D I h;exact wpAny_Expr_any (thn #[dG,he,b,a] λv s1 ⟨x,c,d,r1,f⟩=>⟨a,c,d,f⟩) I.quiet hs
def Ztv(te:TE):TS:=λD a H=>te a H D.rt
theorem Zn(he:#[qN]):PS X (.Return (U e) pos) (Ztv te):=by intro b s a H D I h;exact wpAny_Return_some (thn #[dG,he,b,a] λv s1 ⟨x,c,d,f,g⟩=>⟨x,a,c,d,f,g⟩)
def ZtN(c:TT)(t u:TS):TS:=λD a H=>c a H λb d=>if b=true then t D a d else u D a d
theorem ZT{c:aI}{a b:#[kY]}{g:TT}(hc:PT X c g)(ha:PSs X a t)(hb:PSs X b u):PS X (.If c a b pos) (ZtN g t u):=by
 show#[pK,D,wpAny_If,hc];rintro d i ⟨j,k,l⟩;cases d with
 | true=>exact ha e i f j D k l
 | false=>exact hb e i f j D k l
universe E
abbrev TG:=V->St->Hp->(St->Hp->Prop)->Prop
abbrev TGs:=List V->St->Hp->(St->Hp->Prop)->Prop
def PG(X:Cx)(e:aI)(t:TG):Prop :=
 ∀ (a:List (ae×aM)) (s:ai) (b:St) (H:Hp) (v:V) (u:aa) (Q:St->Hp->Prop),Inv X a b H s->ZI v u->t v b H Q ->
  #[jq] (assign e X.env u) (λ_ f=>X2 λc d=>Inv X a c d f/\Q c d) X.xe s
def PGs(X:Cx)(g:#[iS])(t:TGs):Prop :=
 ∀ (a:List (ae×aM)) (s:ai) (b:St) (H:Hp) (c:List V) (d:List aa) (Q:St->Hp->Prop),Inv X a b H s->ZK c d->t c b H Q ->
  #[jq] (assignInOrder (#[u9,g].map #[kc]) d) (λ_ h=>X2 λe f=>Inv X a e f h/\Q e f) X.xe s
abbrev TK:=V->V->V->Hp->(Hp->Prop)->Prop
def RZ(X:Cx)(t:TK):Prop :=
 ∀ (a:List (ae×aM)) (s:ai) (b:St) (H:Hp) (o i v:V) (c d u:aa) (Q:Hp->Prop),Inv X a b H s->ZI o c->ZI i d->ZI v u->t o i v H Q ->
  #[jq] (setItem c d u) (λ_ f=>∃e,Inv X a b e f/\Q e) X.xe s
abbrev TIp:=#[iA]
def PIp(X:Cx)(c:Operator)(t:TIp):Prop :=
 ∀ (a:List (ae×aM)) (s:ai) (b:St) (H:Hp) (x y:V) (v u:aa) (Q:VK),Inv X a b H s->ZI x v->ZI y u->t x y H Q ->
  #[jq] (inplaceOp c v u) #[i1] X.xe s
section
variable {X:Cx} {pos:Pos}
def TH(i:Nat):TG:=λv a H Q=>Q (a.set i (U v)) H
theorem ZC{i:Nat}{x:ak}(a:#[qJ])(b:#[hz])(hx:#[tt])(c:#[23]:=by first|exact #[nS]|exact #[n2]|assumption):PG X #[a4] (TH i):=by intro ah s σ H v u Q I r h;exact wpAny_assign_Name (U5 I a b hx r (λs' d=>⟨_,H,d,h⟩) c)
def NR:TGs:=λvs a H Q=>vs=[]/\Q a H
inductive RGc (vs:#[m7]) (B:V->List V->Prop):Prop where
 | mk (v:V) (r:List V) (e:vs=v::r) (q:B v r)
def NQ(t:TG)(u:TGs):TGs:=λvs a H Q=>RGc vs λv r=>t v a H λb c=>u r b c Q
theorem Yj:PGs X [] NR:=by intro ah s a H vs us Q I r h;obtain⟨e,h⟩:=h;subst e;cases r;exact assignInOrder_nil ⟨a,H,I,h⟩
theorem Zs{e:aI}{a:#[iS]}{t:TG}{u:TGs}(h1:PG X e t)(h2:PGs X a u)
  (hs:(bQ (e::a) X.env).map #[kc]=assign e X.env::#[u9,a].map #[kc]:=by rfl):PGs X (e::a) (NQ t u):=by
 show#[pI,b,c,vs];obtain⟨v,vr,d,h⟩:=h;subst d;cases r with
 | cons r f=>rw[hs];refine assignInOrder_cons (thn (h1 b s c H _ _ _ I r h) ?_);rintro _ g ⟨i,j,k,l⟩;exact h2 b g i j _ _ Q k f l
inductive RGt (K:#[7]) (H:Hp) (n:Nat) (v:V) (B:List V->Prop):Prop where
 | mk (a:ae) (xs:List V) (e:v=.ref a) (s:SqT K H a xs) (l:xs.length=n) (q:B xs)
def NO(K:#[7])(n:Nat)(t:TGs):TG:=λv a H Q=>RGt K H n v λxs=>t xs a H Q
theorem ZrI{c:#[iS]}{k:Nat}{t:TGs}{n:Nat}(hc:#[aD])(h:PGs X c t)
  (hn:#[u9,c].length=n:=by rfl) (i:#[u9,c].findIdx? #[iw]=af:=by rfl):PG X (.Tuple c k pos) (NO X.K n t):=by
 intro d s f H v u Q I r hw;obtain⟨a,j,l,m,p,hw⟩:=hw;subst l;cases r;show#[pH,g,q,hz,m];refine assign_Tuple_tuple #[ic] q (by simp[hn,<- p,g.length]) i λw x=>?_;have y:#[fv,d,f,H,s,w]:=I.kept (t':=#[uj]) λb o e=>x b o #[mS] e;exact h d _ f H j _ Q y #[dq,g] hw
def ZtE(to b:TE)(t:TK):TG:=λv a H Q=>to a H λo c=>b a c λi d=>t o i v d λe=>Q a e
theorem W5{o i:aI}{to e:TE}{t:TK}(f:#[sT])(g:PE X i e)(hs:RZ X t)
  (ha:∀v,assign (.Subscript o i pos) X.env v=(do
   let a <- holding [v] (eval o X.env);let b <- holding [v,a] (eval i X.env)
   standAt pos
   holding [v,a,b] (setItem a b v)
   release [v,a,b] []):=by intro _;rfl):PG X (.Subscript o i pos) (ZtE to e t):=by
 intro d s c H v u Q I r h;rw[ha];refine am (bc #[du,f,d,c]);rintro a j ⟨x,k,l,m,n⟩;refine am (bc (thn (g d j c k _ l n) ?_));rintro b p ⟨y,q,w,z,A⟩;refine am (bx (am (bc (thn (hs d p c q x y v a b u _ w m z r A) ?_))));rintro _ s3 ⟨B,C,D⟩;exact wpAny_release ⟨c,B,C,D⟩
def RY(b:TE)(g:TG):TS:=λD a H=>b a H λx c=>g x a c D.nx
theorem Yn{a e:aI}{b:TE}{g:TG}(he:PE X e b)(f:PG X a g)(hs:swapsWithSole [a] e pos.line X.env=pure false:=by rfl)(hw:swappedStores [a] e X.env=pure af:=by rfl)
  (i:(bQ [a] X.env).map #[kc]=[assign a X.env]:=by rfl):PS X (.Assign [a] e pos) (RY b g):=by
 show#[dU,c,d,D];refine wpAny_Assign_stores #[du,he,c,d] hs hw;rintro v j ⟨x,k,l,m,n⟩;rw[i];exact thn (f c j d k x v _ l m n) λ_ s2 q=>q
theorem Zz{i:Nat}{x:ak}{e:aI}{a:TE}{b:Pos}(c:#[qJ])(d:#[hz])(hx:#[tt])(he:PE X e a)(hs:swapsWith e (U (.Name x b)) pos.line X.env=pure false:=by rfl)(f:#[23]:=by first|exact #[nS]|exact #[n2]|assumption) :
  PS X (.Assign [.Name x b] e pos) (RY a (TH i)):=by
 show#[dU,g,j,D];refine wpAny_Assign_Name #[du,he,g,j] hs;rintro v s1 ⟨y,k,l,m,n⟩;exact U5 l c d hx m (λs2 o=>⟨_,k,o,n⟩) f
def ZtJ(i j:Nat)(b:TA):TS:=λD a H=>b a H λvs c=>X2 λv w=>vs=[v,w]/\D.nx ((a.set i (U v)).set j (U w)) c
theorem Zq4{i j:Nat}{x y:ak}{a b:aI}{n:TA}{g k pt:Pos}{kt k2 l}(hc:#[aD])(r:#[qJ])(B:#[hz])(C:X.N[j]? = U y)(E:i≠j)
  (hx:X.env.scope.names.lookup x=U .local) (hy:X.env.scope.names.lookup y=U .local) (ha:PA X [a,b] n)
  (hw:swappedStores #[hH] #[nF] X.env=pure (U [x,y]))
  (hs:swapsWithSole #[hH] #[nF] pos.line X.env=pure false:=by rfl) :
  PS X (.Assign #[hH] #[nF] pos) (ZtJ i j n):=by
 show#[dU,t,u,D];rw[exec_Assign_arm];refine am (bx ?_);rw[hs];refine am (aF ?_);rw[if_neg #[6]];refine am (Tuple_ (thn (ha _ t s u H _ I h) ?_));rintro F c ⟨vs,z,G,J,m⟩;obtain⟨v,w,K,m⟩:=m;subst K;obtain⟨d,f,rfl,L,M⟩:X2 λd f=>F=[d,f]/\ZI v d/\ZI w f:=by
  cases J with
  | cons p q =>
   cases q with
   | cons N O=>cases O;exact⟨_,_,rfl,p,N⟩
 refine bD ?_ #[61];have P:Inv X t u z { c with heap:=c.heap.push { cls:=.type "tuple",data:=.seq [d,f].toArray } }:=#[po,G.kept];rw[hw];refine am (aF ?_);show #[jq] (do rule "assign.swapped-stores";let items <- unpackItems (.ref c.heap.objs.size) 2 af;assignInOrder #[jB] items.reverse;pure Flow.next) _ _ _;refine am (wpAny_rule (am (unpackItems_tuple (items:=#[d,f]) #[ic] (IsTup.new c.heap _) λh' Q=>?_)));have R:=P.kept (h':=h') (t':=c.toks) λb o e=>Q b o #[mS] e;show av _ _ (assignInOrder #[jB] [f,d] >>= λ_=>pure Flow.next) _ _ _;refine am (assignInOrder_cons (wpAny_bindName (U5 R r C (.inl hy) M (λs2 S=>?_) (.inr hy))));refine assignInOrder_cons (wpAny_bindName (U5 S r B (.inl hx) L (λs3 A=>assignInOrder_nil (aF ?_)) (.inr hx)));rw[List.set_comm _ _ (Ne.symm E)]at A;exact⟨_,z,A,m⟩
def Ztt(i:Nat)(b:TE)(c:TIp):TS:=λD a H=>∃x,a[i]? = U (U x)/\b a H λy d=>c x y d λz e=>D.nx (a.set i (U z)) e
theorem Zru{i:Nat}{x:ak}{e:aI}{d:TE}{a:Operator}{f:TIp}{n:Pos}(o:#[qJ])(g:#[hz])(hx:#[tt])(he:PE X e d)(p:PIp X a f)(q:#[23]:=by first|exact #[nS]|exact #[n2]|assumption) :
  PS X (.AugAssign (.Name x n) a e pos) (Ztt i d f):=by
 show#[dU,b,j,D];show#[gU,v,t,h,h];show#[gU,m,A,B,I.loc];have C:#[gN,Vis]:=by rcases hx with k|k;exact .inl k;exact .inr (.inl k)
 obtain⟨u,r,l⟩:=B i x v g t C;refine wpAny_AugAssign_Name ?_;have go:#[jq] #[ev,e] (λw E=>#[jq] (inplaceOp a u w) (λr F=>#[jq] (storeName X.env x r) (λ_=>SP X b D .next) X.xe F) X.xe E) X.xe s:=by refine thn #[dG,he,b,j] ?_;rintro w G ⟨y,J,K,L,M⟩;refine thn (p b G j J v y u w _ K r L M) ?_;rintro z s2 ⟨zv,N,O,P,Q⟩;exact U5 O o g hx P (λs3 R=>⟨_,N,R,Q⟩) q
 rcases l with⟨hk,S⟩|⟨hk,c,T,V⟩
 ·exact wpAny_loadName_local I.ok.kind hk A S go
 ·rcases hk with hk|hk
  ·exact wpAny_loadName_cell I.ok.kind hk T V go
  ·rcases hx with k|k
   ·show#[iM]
   ·show#[iM]
def ipI(f:Int->Int->Int):TIp:=λx y H Q=>X2 λi j=>x=.int i/\y=.int j/\Q (.int (f i j)) H
theorem Zq5:PIp X .Add (ipI λi j=>i+j):=by intro ah s σ H x y v u Q I a b h;obtain⟨i,j,c,d,q⟩:=h;subst c;subst d;obtain⟨t,rfl⟩:=a;obtain⟨t',rfl⟩:=b;exact iadd_int ⟨.int _,H,I.tok _,#[E],q⟩
universe E
section
variable {X:Cx} {pos:Pos}
def Zre(c:TT)(h:TS):TS:=λD a H=>∃W:Nat->St->Hp->Prop,(∃m,W m a H)/\∀m a H,W m a H ->
 c a H λb d=>if b=true then ∃N:St->Hp->Prop,(∀e f,N e f->∃g,g<m/\W g e f)/\h { D with nx:=N,ct:=N,bk:=D.nx } a d else D.nx a d
theorem RX{c:aI}{q:#[kY]}{r:TT}{t:TS}(u:bC #[K] X.A X.env X.xe)(hc:PT X c r)(hb:PSs X q t):PS X (.While c q [] pos) (Zre r t):=by
 show#[dU,j,C,D];obtain⟨W,⟨E,F⟩,G⟩:=h;refine wpAny_While (codeAny_whileLoop (λn J=>X2 λw x=>Inv X j w x J/\W n w x) ?_ E ⟨C,H,I,F⟩);rintro n K ⟨e,y,L,M⟩;refine bU u (thn (hc j K e y _ L (G n e y M)) ?_);rintro b O ⟨z,A,g⟩;cases b with
 | true =>
  show#[gU,N,B,g,g];show#[t0];refine bU u (thn (hb j O e z _ A g) λf s3 i=>?_);cases f with
  | next=>obtain⟨a,d,k,l⟩:=i;show#[lM]
  | cont=>obtain⟨a,d,k,l⟩:=i;show#[lM]
  | brk=>exact i
  | ret v=>exact i
 | false=>rw[if_neg Qt];exact wpAny_execs_nil ⟨e,z,A,g⟩
universe E
structure It where
 go:Nat->Hp->Prop
 yld:Nat->Hp->V->Hp->Prop
 stop:Nat->Hp->Prop
def XH(X:Cx)(a:#[L])(H:Hp)(b:ae):Prop :=
 H b=af/\b≠X.env.locals/\b ∉ X.fs/\(b∈X.ex\/X.s₀.heap.objs.size<=b)/\#[fl,c,b]/\∀p∈X.pn++a,p.1≠b
theorem Inv.fpOk{X:Cx}{a:#[L]}{f:St}{H d:Hp}{s:ai}{b:ae}(I:#[fd,a,f])(hb:s.heap.objs.size<=b)(hn:d b=af):XH X a d b:=by
 refine⟨hn,QU (QD I.lt hb),I.nofs hb,.inr (Qi I.sz hb),λx c e z=>?_,λp g z=>?_⟩
 ·obtain⟨v,q⟩:=#[sj];exact absurd (QD q.lt #[dp,z,hb]) (Qaa _)
 ·exact absurd (QD (Qk (I.pin p g).1) #[dp,z,hb]) (Qaa _)
structure WN (P:aw) (w:aD) (K:#[7]) (tg:aI) (J:It) (fp:#[j7]) (it:ae) (tn:Nat->aH->Prop):Prop where
 mem:it∈fp
 obj:∀i h,tn i h->∀b∈fp,∃o,h.get? b=U o/\∀v,o.data≠.cell v
 keep:∀i h h',tn i h->(∀b∈fp,∀o,h.get? b=U o->h'.get? b=U o)->tn i h'
 item:∀ (X:Cx),X.prog=P->X.w=w->X.K=K->X.calm=true->∀ (i:Nat) (ah:List (ae×aM)) (s:ai) (σ:St) (H:Hp) (E:aa->ai->Prop),Inv X ah σ H s->#[ue]->tn i s.heap->J.go i H ->
  av #[sx] X.A (pyNext #[iH]) (λr s1=>∃u,r=U u /\
   av #[sx] X.A (cW tg #[iH] u) (λ_ s2=>X2 λx H'=>Inv X ah σ H' s2/\ZI x u/\J.yld i H x H'/\tn (i+1) s2.heap/\∀b∈fp,H' b=af) E s1) E s
 done:∀ (X:Cx),X.prog=P->X.w=w->X.K=K->X.calm=true->∀ (i:Nat) (ah:List (ae×aM)) (s:ai) (σ:St) (H:Hp) (E:aa->ai->Prop),Inv X ah σ H s->#[ue]->tn i s.heap->J.stop i H ->
  av #[sx] X.A (pyNext #[iH]) (λr s1=>r=af/\Inv X ah σ H s1) E s
 self:∀ (A:aB) (i:Nat) (s:ai) (Q:aa->ai->Prop) (E:aa->ai->Prop),tn i s.heap->Q #[iH] s->av #[sx] A (pyIter #[iH]) Q E s
abbrev TI:=St->Hp->(It->Hp->Prop)->Prop
def PIE(X:Cx)(c:#[L])(g:St)(h:aI)(R:It->Hp->Prop)(i:aa)(d:ai):Prop :=
 X5 λ(e:ae) (fp:List ae) (f:Nat->aH->Prop) (J:It) (a:Hp)=>i=.ref e/\Inv X c g a d/\WN X.prog X.w X.K h J fp e f/\f 0 d.heap/\(∀b∈fp,XH X c a b)/\R J a
def PI(X:Cx)(c iter:aI)(d:TI):Prop :=
 ∀ (b:List (ae×aM)) (s:ai) (a:St) (H:Hp) (R:It->Hp->Prop),Inv X b a H s->d a H R ->
  #[jq] #[ev,iter] (λv e=>#[jq] (pyIter v) (PIE X b a c R) X.xe e) X.xe s
theorem VC{M:Model}{A:aB}{E:#[G]}{s:ai}{b:aI}{it:ae}{u:aa}{o:aM}{n:String}{vs:#[sl]}{Q:#[bK]}(c:s.heap.get? it=U o)(hc:o.cls=.type n)(hd:o.data=.fields vs)
  (hn:["enumerate", "zip", "dict_itemiterator", "dict_reverseitemiterator", "odict_iterator", "itertools.zip_longest", "itertools.pairwise"].contains n=false) (a:Q () s):av M A (cW b #[iH] u) Q E s:=by
 unfold cW;cases b<;>first
  | exact aF a
  | (cases u<;>first
    | exact aF a
    | (refine am (wpAny_load c ?_);rw[hc,hd];show av M A (if (["enumerate", "zip", "dict_itemiterator", "dict_reverseitemiterator", "odict_iterator", "itertools.zip_longest", "itertools.pairwise"].contains n&&vs[0]? == U (rawInt _))=true then _ else _) Q E s;rw[if_neg (by intro h;rw[hn,Bool.false_and]at h;cases h)];exact aF a))
noncomputable def Itl(K:#[7])(a:ae):It :=
 ⟨λi H=>X2 λb x=>SqL K H a b/\b[i]? = U x,λi H x c=>c=H/\∀b,SqL K H a b->b[i]? = U x,λi H=>∃b,SqL K H a b/\b.length<=i⟩
noncomputable def Itr(lo:Int)(n:Nat):It:=⟨λi _=>i<n,λi H x a=>a=H/\x=.int (lo+i),λi _=>n<=i⟩
theorem Zmm{P:aw}{w:aD}{K:#[7]}{M:aI}(a it:ae):WN P w K M #[tk] [it] it (λi h=>h.IsListIter it a i) where
 mem:=by simp
 obj:=λi h st b f=>by
  have e:b=it:=by simpa using f
  show#[10]
 keep:=λi h g st k=>st.at λo e=>k it #[4] o e
 item:=by intro X m hw n F i G s J H E I j st q;subst m hw n;obtain⟨N,x,l,r⟩:=q;show#[ff,t,p,O,l];show#[vx,u,Q,R,t.get,r];show#[t3];refine wpAny_pyNext_list_item st p.isList (x:=u) #[dq,Q] λg L T=>?_;have V:#[fv,G,J,H,s,g]:=I.turned (t':=#[uj]) (λb o f e=>(T.2 b f).trans e) y A B C D;obtain⟨o,e,c,d⟩:=id L;exact⟨u,rfl,VC (s:=#[gx,s,g]) e c d #[6] ⟨x,H,V,R,⟨rfl,λys W=>by rw[I.list_inj W l];exact r⟩,L,λb f=>(j b f).1⟩⟩
 done:=by intro X m hw n F i G s J H E I j st q;subst m hw n;show#[gU,N,l,r,q];show#[ff,t,p,O,l];show#[t3];have hl:=t.length;exact wpAny_pyNext_list_end (I.ok.hd F) st p.isList (by simp;lia) λg Y=>⟨rfl,I.turned (t':=#[uj]) #[em,b,f,Y,f] y A B C D⟩
 self:=#[gD,wpAny_pyIter_listiter]
theorem ZkF{P:aw}{w:aD}{K:#[7]}{C:aI}(it:ae)(lo:Int)(n:Nat):WN P w K C #[tj] [it] it (λi h=>IsRangeIter h it (lo+(i:Nat)*1) ((n:Int)-(i:Nat)) 1) where
 mem:=by simp
 obj:=λi h st b a=>by
  have e:b=it:=by simpa using a
  subst e;exact⟨_,st,λv z=>by have D:Data.fields _=Data.cell v:=z;cases D⟩
 keep:=λi h c st k=>k it #[4] _ st
 item:=by intro X f hw g j i x s y H E I d st l;show#[me];have W:=Walks.range (prog:=X.prog) (w:=X.w) (I.ok.hd j) it lo 1 n;refine W.item i s _ _ l st λv c A G B kk=>?_;show#[dP,t,G];have J:Inv X x y H { s with heap:=c,toks:=A }:=I.turned #[em,b,a,kk,#[bG]] m p q r u;refine⟨_,rfl,VC (s:={ s with heap:=c,toks:=A }) (n := "range_iterator") B rfl rfl #[6] ⟨.int (lo+i),H,J,⟨t,?_⟩,#[Y],B,λb a=>(d b a).1⟩⟩;rw[Int.mul_one]
 done:=by intro X f hw g j i x s y H E I d st l;show#[me];exact wpAny_pyNext_range_end (I.ok.hd j) st (by have:n<=i:=l;lia) λc L=>⟨rfl,I.turned (t':=#[uj]) #[em,b,a,L,a] m p q r u⟩
 self:=#[gD,wpAny_pyIter_rangeiter]
section
variable {X:Cx} {tg:aI}
def NN(K:#[7])(c:TE):TI:=λd H R=>c d H λx b=>∃a,x=.ref a/\(∃xs,SqL K b a xs)/\R #[tk] b
theorem ZpI{l:aI}{f:TE}(hl:PE X l f):PI X tg l (NN X.K f):=by
 show#[o9,g,i];rintro v c ⟨x,j,d,k,m⟩;obtain⟨a,e,⟨xs,n⟩,q⟩:=m;subst e;cases k;obtain⟨its,rv,p,hz⟩:=d.list n;refine cA p.isList ?_;refine⟨c.heap.objs.size,[c.heap.objs.size],_,_,j,rfl,d.kept (t':=c.toks) λb o e=>Qc _ e,Zmm a _,#[81],λb r=>?_,q⟩;have e:b=c.heap.objs.size:=by simpa using r
 subst e;exact #[vi,#[ih]]
theorem NM{c:#[L]}{d:St}{H:Hp}{s:ai}{R:It->Hp->Prop}{E:#[G]}{lo a:Int}{t u v:Tok}{tk:Nat}(I:#[fd,c,d])(h1:-(2 ^ 62)<=lo)(h2:lo<2 ^ 62)(g:-(2 ^ 62)<=a)(h:a<2 ^ 62)
  (q:R (Itr lo (a-lo).toNat) H):#[jq] (pyIter #[aP]) (PIE X c d tg R) E { s with heap:=s.heap.push { cls:=.type "range",data:=.fields #[.int lo t,.int a u,.int 1 v] },toks:=tk }:=by
 refine wpAny_pyIter_range (IsRange.new ..) (small_one h1 h2 g h) ?_;have f:Inv X c d H { s with heap:=s.heap.push { cls:=.type "range",data:=.fields #[.int lo t,.int a u,.int 1 v] },toks:=tk }:=I.kept λb o e=>Qc _ e;refine⟨#[62].objs.size,[#[62].objs.size],_,_,H,rfl,
  f.kept (t':=tk) λb o e=>Qc _ e,ZkF _ lo (a-lo).toNat,?_,λb i=>?_,q⟩
 ·have j:lo+#[gz,0]*1=lo:=by simp
  have k:#[tM]-#[gz,0]=aT.Range.rangeSize lo a 1:=by rw[rangeSize_one];split<;>lia
  show IsRangeIter _ _ (lo+#[gz,0]*1) (#[tM]-#[gz,0]) 1;rw[j,k];exact Qr _ rfl
 ·have e:b=#[62].objs.size:=by simpa using i
  show#[mr]
def Zsr(a:TA):TI:=λb H R=>a b H λvs c=>∃j:Int,vs=[.int j] /\ -(2 ^ 62)<=j/\j<2 ^ 62/\R (Itr 0 j.toNat) c
def ZsN(a:TA):TI:=λb H R=>a b H λvs c=>X2 λi j:Int=>vs=#[gy,i,j]/\(-(2 ^ 62)<=i/\i<2 ^ 62 /\ -(2 ^ 62)<=j/\j<2 ^ 62)/\R (Itr i (j-i).toNat) c
theorem RW{a:aI}{c:TA}{p pos:Pos}(d:Gl X "range")(hm:X.mg "range" = af)(ha:PA X [a] c)(hs:#[ec,a]:=by rfl):PI X tg (.Call (.Name "range" p) [a] [] pos) (Zsr c):=by
 show#[dU,f,g,R];refine Call_ (V5 I d hm boot_range (Q9 (thn #[eW,f,g] ?_) hs rfl));rintro us s1 ⟨vs,H1,i,k,b⟩;obtain⟨j,e,b,l,q⟩:=b;subst e;cases k with
 | cons r m=>cases m;show#[dP,t,r];exact call_range_1 (NM i #[2] #[2] b l #[dq,q])
theorem NL{a b:aI}{f:TA}{p pos:Pos}(k:Gl X "range")(hm:X.mg "range" = af)(ha:PA X [a,b] f)(hs:#[aW]:=by rfl)(g:#[ec,b]:=by rfl) :
  PI X tg (.Call (.Name "range" p) [a,b] [] pos) (ZsN f):=by
 show#[dU,l,m,R];refine Call_ (V5 I k hm boot_range (Q9 (thn #[eW,l,m] ?_) (by rw[hs,g]) #[pT,g]));rintro us s1 ⟨vs,H1,n,o,c⟩;obtain⟨i,j,e,⟨c,u,v,w⟩,q⟩:=c;subst e;cases o with
 | cons r d =>
  cases d with
  | cons x d=>cases d;show#[dP,t,r];show#[dP,t',x];exact call_range_2 (NM n c u v w q)
def ZtX(e:TI)(g:TG)(f:TS):TS:=λD a H=>e a H λJ h=>∃W:Nat->Nat->St->Hp->Prop,(∃m,W 0 m a h)/\∀i m a H,W i m a H ->
 (J.stop i H/\D.nx a H)\/(J.go i H/\∃N:St->Hp->Prop,#[eS,c,b,d]/\∀x b,J.yld i H x b->g x a b λj k=>f { D with nx:=N,ct:=N,bk:=D.nx } j k)
noncomputable def VB(fp:#[j7])(h:aH):List (ae×aM):=fp.filterMap λb=>(h.get? b).map λo=>(b,o)
theorem VA{fp:#[j7]}{h:aH}{b:ae}{o:aM}(hb:b∈fp)(e:h.get? b=U o):(b,o)∈VB fp h:=List.mem_filterMap.mpr ⟨b,hb,by rw[e];rfl⟩
theorem Zmp{fp:#[j7]}{h:aH}{p:ae×aM}(a:p∈VB fp h):p.1∈fp/\h.get? p.1=U p.2:=by
 show#[vx,b,c,e,List.mem_filterMap.mp,a];cases q:h.get? b with
 | none=>rw[q]at e;cases e
 | some o=>rw[q]at e;have d:(b,o)=p:=Qp e;subst d;exact⟨c,q⟩
theorem Inv.pinned{a:#[L]}{c:St}{H:Hp}{s:ai}{fp:#[j7]}(I:#[fd,a,c])(h:#[oY,a,H])(i:∀b∈fp,∃o,s.heap.get? b=U o/\∀v,o.data≠.cell v):Inv X (a++VB fp s.heap) c H s :=
 I.pins_of λp j=>(Ql.mp j).elim (λz=>I.pin p (QC _ z)) λz=>by obtain⟨f,e⟩:=Zmp z;obtain⟨k,l,m,_⟩:=h p.1 f;obtain⟨o,g,d⟩:=i p.1 f;show#[e8,e,g,g];exact⟨e,k,l,m,d⟩
theorem Inv.unpinned{a pl:#[L]}{b:St}{H:Hp}{s:ai}(I:Inv X (a++pl) b H s):Inv X a b H s:=I.pins_of λp c=>I.pin p (QC _ (QS _ c))
theorem Xh{iter:aI}{F:#[kY]}{G:TI}{g:TG}{K:TS}{pos:Pos}(q:bC #[K] X.A X.env X.xe)(hc:#[aD])(hi:PI X tg iter G)(hg:PG X tg g)(hb:PSs X F K)
  (hs:#[aL]:=by intro _;rfl):PS X (.For tg iter F [] pos) (ZtX G g K):=by
 show#[dU,p,L,D];refine wpAny_For (thn #[dG,hi,p,L] λv s1 h1=>thn h1 λsF s2 h2=>?_) hs;obtain⟨it,fp,M,J,H2,e,I2,T,mQ,O,W,⟨m0,w0⟩,gs⟩:=h2;subst e;have A:∀ {k:Hp},#[gA,k]->∀b∈fp,XH X p k b:=λhn b hb=>⟨hn b hb,(O b hb).2⟩;refine codeAny_forLoop_any (λn P=>X3 λi t k=>Inv X p t k P/\M i P.heap/\#[gA,k]/\W i n t k) ?_ m0 ⟨0,L,H2,I2,mQ,λb hb=>(O b hb).1,w0⟩;rintro n Q ⟨i,w,z,R,S,V,w3⟩;rcases gs i n w z w3 with⟨stop,qn⟩|⟨go,N,hN,step⟩
 ·refine bU q (thn (T.done X rfl rfl rfl hc i p Q w z X.xe R (A V) S stop) ?_);rintro r s4 ⟨B,I4⟩;subst B;exact wpAny_execs_nil ⟨w,z,I4,qn⟩
 ·refine bU q (thn (T.item X rfl rfl rfl hc i p Q w z X.xe R (A V) S go) ?_);rintro r s4 ⟨u,B,h4⟩;subst B;refine bU q (thn h4 ?_);rintro _ Y ⟨x,Z,I5,r5,y5,C,mR⟩;have Cv:=I5.pinned (A mR) (T.obj _ _ C);refine bU q (thn (hg _ Y w Z x u _ Cv r5 (step x Z y5)) ?_);rintro _ s6 ⟨Cw,H6,I6,q6⟩;refine bU q (thn (hb _ s6 Cw H6 _ I6 q6) λf E l=>?_);have again:∀ {a:St} {c:Hp},Inv X (p++VB fp Y.heap) a c E->N a c->∃m,m<n/\X3 λi t k=>Inv X p t k E/\M i E.heap/\#[gA,k]/\W i m t k:=λ{a c} j y=>by obtain⟨m',hm,w7⟩:=hN a c y;refine⟨m',hm,i+1,a,c,j.unpinned,T.keep _ _ _ C λb hb o e=>(j.pin (b,o) (QC _ (QC _ (VA hb e)))).1,λb hb=>?_,w7⟩;show#[fe,o,C,hb,j.pin]
  cases f with
  | next=>obtain⟨a,c,j,y⟩:=l;exact again j y
  | cont=>obtain⟨a,c,j,y⟩:=l;exact again j y
  | brk=>obtain⟨a,c,j,l⟩:=l;exact⟨a,c,j.unpinned,l⟩
  | ret v=>obtain⟨x7,a,c,j,r7,l⟩:=l;exact⟨x7,a,c,j.unpinned,r7,l⟩
universe E
theorem RV{K:#[7]}{a:ae}{xs:#[m7]}{g:TG}{j:TS}{D:XU}{b:St}{H:Hp}(Pv:#[kX])(n:Pv 0 b H)(hl:∀i b H,i<=xs.length->Pv i b H->SqL K H a xs)
  (hs:∀i x b H,xs[i]? = U x->Pv i b H->g x b H λd f=>j { D with nx:=Pv (i+1),ct:=Pv (i+1),bk:=D.nx } d f) (hd:#[nd]) :
  ∃W:Nat->Nat->St->Hp->Prop,(∃m,W 0 m b H)/\∀i m b H,W i m b H ->
   (#[tk].stop i H/\D.nx b H)\/(#[tk].go i H/\∃N:St->Hp->Prop,#[eS,h,c,k]/\∀x c,#[tk].yld i H x c->g x b c λd f=>j { D with nx:=N,ct:=N,bk:=D.nx } d f):=by
 show#[dC,b,xs.length,n,o];have q:=hl i b H o p;by_cases l:i<xs.length
 ·refine .inr ⟨⟨xs,xs[i],q,by simp[l]⟩,Pv (i+1),λh c r=>⟨xs.length-(i+1),by lia,rfl,l,r⟩,λx c y=>?_⟩;show#[dz,e,y,y];subst e;exact hs i x b _ (y xs q) p
 ·have e:i=xs.length:=by lia
  subst e;exact .inl ⟨⟨xs,q,Qf _⟩,hd b H p⟩
theorem RU{lo:Int}{n:Nat}{g:TG}{j:TS}{D:XU}{a:St}{H:Hp}(Pv:#[kX])(l:Pv 0 a H)
  (hs:∀i a H,i<n->Pv i a H->g (.int (lo+i)) a H λc d=>j { D with nx:=Pv (i+1),ct:=Pv (i+1),bk:=D.nx } c d) (hd:∀a H,Pv n a H->D.nx a H) :
  ∃W:Nat->Nat->St->Hp->Prop,(∃m,W 0 m a H)/\∀i m a H,W i m a H ->
   (#[tj].stop i H/\D.nx a H)\/(#[tj].go i H/\∃N:St->Hp->Prop,#[eS,f,b,k]/\∀x b,#[tj].yld i H x b->g x a b λc d=>j { D with nx:=N,ct:=N,bk:=D.nx } c d):=by
 show#[dC,a,n,l,hi];by_cases h:i<n
 ·refine .inr ⟨h,Pv (i+1),λf b o=>⟨n-(i+1),by lia,rfl,h,o⟩,λx b y=>?_⟩;show#[dz,e,y,y];subst e y;exact hs i a _ h p
 ·have e:i=n:=by lia
  subst e;exact .inl ⟨Qf _,hd a H p⟩
abbrev R2:=#[iA]
def OpR(X:Cx)(f:#[kT])(r:R2):Prop :=
 ∀ (a:List (ae×aM)) (s:ai) (b:St) (H:Hp) (x y:V) (v u:aa) (Q:VK),Inv X a b H s->ZI x v->ZI y u->r x y H Q ->
  #[jq] (f v u) #[i1] X.xe s
def UnR(X:Cx)(f:aa->Sem aa)(r:#[sR]):Prop :=
 ∀ (a:List (ae×aM)) (s:ai) (b:St) (H:Hp) (x:V) (v:aa) (Q:VK),Inv X a b H s->ZI x v->r x H Q ->
  #[jq] (f v) #[i1] X.xe s
def YU(X:Cx)(f:aa)(r:List V->Hp->VK->Prop):Prop :=
 ∀ (a:List (ae×aM)) (s:ai) (b:St) (H:Hp) (c:List V) (d:List aa) (Q:VK),Inv X a b H s->ZK c d->r c H Q ->
  #[jq] (call f d) #[i1] X.xe s
def tOp(r:R2)(b c:TE):TE:=λa H Q=>b a H λx d=>c a d λy e=>r x y e Q
def tUn(r:#[sR])(a:TE):TE:=λb H Q=>a b H λx c=>r x c Q
inductive RI2 (x y:V) (B:#[n1]):Prop where
 | mk (i j:Int) (a:x=.int i) (b:y=.int j) (q:B i j)
inductive RI3 (x y:V) (C B:#[n1]):Prop where
 | mk (i j:Int) (a:x=.int i) (b:y=.int j) (c:C i j) (q:B i j)
def rI(C:#[n1])(g:Int->Int->V):R2:=λx y H Q=>RI3 x y C (λi j=>Q (g i j) H)
def rI0(g:Int->Int->V):R2:=λx y H Q=>RI2 x y (λi j=>Q (g i j) H)
def rU(g:Int->V):V->Hp->VK->Prop:=λx H Q=>EA (λi=>x=.int i) (λi=>Q (g i) H)
section
variable {X:Cx} {a b c:aI} {ta tb tc:TE} {pos:Pos}
theorem RT(ha:#[jD])(hb:#[nl]){e:#[L]}{s:ai}{c:St}{H:Hp}{R:V->V->Hp->Prop}(I:#[fd,e,c])
  (h:ta c H λx i=>tb c i λy d=>R x y d) {Q:#[G]} {f:#[kT]}
  (j:∀v u g x y d,Inv X e c d g->ZI x v->ZI y u->R x y d->#[jq] (f v u) Q X.xe g) :
  #[jq] #[ev,a] (λv k=>#[jq] #[ev,b] (λu l=>#[jq] (f v u) Q X.xe l) X.xe k) X.xe s:=by
 refine thn #[dG,ha,e,c] ?_;rintro v m ⟨x,i,n,o,p⟩;refine thn (hb e m c i _ n p) ?_;rintro u g ⟨y,d,q,r,t⟩;exact j v u g x y d q o r t
theorem ZY{c:Operator}{r:R2}(d:OpR X (binaryOp c) r)(ha:#[jD])(hb:#[nl]):PE X (.BinOp a c b pos) #[qX]:=by intro e s f H Q I h;exact wpAny_BinOp #[hW]
theorem TF{b:UnaryOp}{r:#[sR]}(e:UnR X (unaryOp b) r)(ha:#[jD]):PE X (.UnaryOp b a pos) (tUn r ta):=by intro c s d H Q I h;exact UnaryOp_ (thn #[dG,ha,c,d] λv f ⟨x,g,i,j,k⟩=>e c f d g x v Q i j k)
theorem opI{f:#[kT]}{C:#[n1]}{g:Int->Int->Int}
  (rule:∀ (i j:Int) (t u:Tok) (s:ai) (Q:aa->ai->Prop) (E:aa->ai->Prop),C i j->Q (.int (g i j) s.toks) { s with toks:=s.toks+1 }->#[jq] #[ke] Q E s) :
  OpR X f (rI C λi j=>.int (g i j)):=by
 show#[bU];obtain⟨i,j,rfl,rfl,c,q⟩:=h;show#[dP,t,a];show#[dP,d,b];exact rule i j t d s _ _ c #[mp]
theorem NK{f:#[kT]}{g:Int->Int->Int}
  (rule:∀ (i j:Int) (t u:Tok) (s:ai) (Q:aa->ai->Prop) (E:aa->ai->Prop),Q (.int (g i j) s.toks) { s with toks:=s.toks+1 }->#[jq] #[ke] Q E s) :
  OpR X f (rI0 λi j=>.int (g i j)):=by
 show#[iQ];exact rule i j t c s _ _ #[mp]
theorem TC{f:#[kT]}{g:Int->Int->Bool}
  (rule:∀ (i j:Int) (t u:Tok) (s:ai) (Q:aa->ai->Prop) (E:aa->ai->Prop),Q (.bool (g i j)) s->#[jq] #[ke] Q E s) :
  OpR X f (rI0 λi j=>.bl (g i j)):=by
 show#[iQ];exact rule i j t c s _ _ ⟨.bl (g i j),H,I,rfl,q⟩
def ZtQ(i j:Int):Prop:=0<j/\j<1073741824
def NJ(i j:Int):Prop:=0<=j/\j<=1000000/\i.natAbs<2 ^ 64
def RS(i j:Int):Prop:=(-(2 ^ 64)<i/\i<2 ^ 64)\/(-(2 ^ 64)<j/\j<2 ^ 64)
theorem RS.ok{i j:Int}(h:RS i j):IntMulOk i j:=by
 rcases h with⟨a,b⟩|⟨a,b⟩
 ·exact .of_left (intBits_le_64 a b)
 ·exact .of_right (intBits_le_64 a b)
theorem WV:OpR X #[s7] (rI0 λi j=>.int (i+j)):=#[gH,NK,add_int]
theorem U1:OpR X (binaryOp .Sub) (rI0 λi j=>.int (i-j)):=#[gH,NK,sub_int]
theorem Vz:OpR X (binaryOp .Mult) (rI RS λi j=>.int (i*j)):=opI λ_ _ _ _ _ _ _ hc q=>mul_int q hc.ok
theorem RR:OpR X (binaryOp .FloorDiv) (rI ZtQ λi j=>.int (i / j)):=opI λi j _ _ _ _ _ hc q=>by have h1:(0:Int)<j:=hc.1;have h2:j<1073741824:=hc.2;exact floordiv_int #[2] (by rw[Int.fdiv_eq_ediv_of_nonneg i #[2]];exact q) (.inl (PyProof.noPylong_small #[2]))
theorem U0:OpR X (binaryOp .Mod) (rI (λ_ j=>0<j) λi j=>.int (i % j)):=opI λi j _ _ _ _ _ hc q=>by have h1:(0:Int)<j:=hc;exact mod_int' #[2] (by rw[Int.fmod_eq_emod_of_nonneg i #[2]];exact q)
theorem Zq6:OpR X (binaryOp .Pow) (rI NJ λi j=>.int (i ^ j.toNat)):=opI λ_ _ _ _ _ _ _ hc q=>pow_int_small hc.1 hc.2.1 hc.2.2 q
theorem unI{f:aa->Sem aa}{g:Int->Int}
  (rule:∀ (i:Int) (t:Tok) (s:ai) (Q:aa->ai->Prop) (E:aa->ai->Prop),Q (.int (g i) s.toks) { s with toks:=s.toks+1 }->#[jq] (f (.int i t)) Q E s) :
  UnR X f (rU λi=>.int (g i)):=by
 intro ah s σ H x v Q I a h;obtain⟨i,rfl,q⟩:=h;show#[dP,t,a];exact rule i t s _ _ ⟨.int (g i),H,I.tok _,#[E],q⟩
theorem TB:UnR X (unaryOp .USub) (rU λi=>.int (-i)):=unI λ_ _ _ _ _ q=>neg_int q
universe E
noncomputable def NI:V->V->Bool
 | .non,.non=>true|.non,.int _=>true|.int _,.non=>true|.non,.bl _=>true|.bl _,.non=>true|.non,.str _=>true|.str _,.non=>true
 | .int _,.int _=>true|.bl _,.bl _=>true|.str _,.str _=>true|.byt _,.byt _=>true
 | .int _,.str _=>true|.str _,.int _=>true|.bl _,.str _=>true|.str _,.bl _=>true
 | _,_=>false
def rEq:R2:=λx y H Q=>NI x y=true/\Q (.bl (decide (x=y))) H
def rNe:R2:=λx y H Q=>NI x y=true/\Q (.bl (!decide (x=y))) H
theorem NH{i j:Int}:decide (V.int i=V.int j)=(i == j):=by rw[QaN];simp
theorem NG{i j:Bool}:decide (V.bl i=V.bl j)=(i == j):=by rw[QaN];simp
theorem NF{i j:ak}:decide (V.str i=V.str j)=(i == j):=by rw[QaN];simp
theorem NE{i j:Array UInt8}:decide (V.byt i=V.byt j)=(i.toList == j.toList):=by rw[QaN];cases i;cases j;simp
section
variable {X:Cx} {a b c:aI} {ta tb tc:TE} {pos:Pos}
theorem ZV{a:#[L]}{b:St}{H:Hp}{s:ai}{Q:VK}{k k':Bool}(I:#[fd,a,b])(q:Q (.bl k) H)(e:k=k'):EP X a b Q (.bool k') s:=by subst e;exact⟨.bl k,H,I,rfl,q⟩
theorem YH:OpR X (aS .Eq) rEq:=by
 show#[gs,d,a];show#[dz,c,q,h];cases x with
 | non =>
  cases d;cases y with
  | non=>cases a;exact PySem.EqNone.eq_none_none #[49]
  | bl j=>cases a;exact PySem.EqNone.eq_none_bool #[49]
  | int j=>obtain⟨b,rfl⟩:=a;exact PySem.EqNone.eq_none_int #[49]
  | str j=>obtain⟨b,rfl⟩:=a;exact PySem.EqNone.eq_none_str #[49]
  | _=>exact #[aM]
 | bl i =>
  cases d;cases y with
  | non=>cases a;exact PySem.EqNone.eq_bool_none #[49]
  | bl j=>cases a;exact eq_bool (ZV I q NG)
  | str j=>obtain⟨b,rfl⟩:=a;exact PySem.EqMixed.eq_bool_str #[49]
  | _=>exact #[aM]
 | int i =>
  show#[rk];cases y with
  | non=>cases a;exact PySem.EqNone.eq_int_none #[49]
  | int j=>obtain⟨b,rfl⟩:=a;exact eq_int (ZV I q NH)
  | str j=>obtain⟨b,rfl⟩:=a;exact PySem.EqMixed.eq_int_str #[49]
  | _=>exact #[aM]
 | str i =>
  show#[rk];cases y with
  | non=>cases a;exact PySem.EqNone.eq_str_none #[49]
  | bl j=>cases a;exact PySem.EqMixed.eq_str_bool #[49]
  | int j=>obtain⟨b,rfl⟩:=a;exact PySem.EqMixed.eq_str_int #[49]
  | str j=>obtain⟨b,rfl⟩:=a;exact eq_str (ZV I q NF)
  | _=>exact #[aM]
 | byt i =>
  show#[rk];cases y with
  | byt j=>obtain⟨b,rfl⟩:=a;exact PySem.W.eq_bytes (ZV I q NE)
  | _=>exact #[aM]
 | _=>cases y<;>exact #[aM]
theorem V4:OpR X (aS .NotEq) rNe:=by
 show#[gs,d,a];show#[dz,c,q,h];cases x with
 | non =>
  cases d;cases y with
  | non=>cases a;exact PySem.EqNone.ne_none_none #[49]
  | bl j=>cases a;exact PySem.EqNone.ne_none_bool #[49]
  | int j=>obtain⟨b,rfl⟩:=a;exact PySem.EqNone.ne_none_int #[49]
  | str j=>obtain⟨b,rfl⟩:=a;exact PySem.EqNone.ne_none_str #[49]
  | _=>exact #[aM]
 | bl i =>
  cases d;cases y with
  | non=>cases a;exact PySem.EqNone.ne_bool_none #[49]
  | bl j=>cases a;show#[pp,ne_bool,NG]
  | str j=>obtain⟨b,rfl⟩:=a;exact PySem.EqMixed.ne_bool_str #[49]
  | _=>exact #[aM]
 | int i =>
  show#[rk];cases y with
  | non=>cases a;exact PySem.EqNone.ne_int_none #[49]
  | int j=>obtain⟨b,rfl⟩:=a;show#[pp,ne_int,NH]
  | str j=>obtain⟨b,rfl⟩:=a;exact PySem.EqMixed.ne_int_str #[49]
  | _=>exact #[aM]
 | str i =>
  show#[rk];cases y with
  | non=>cases a;exact PySem.EqNone.ne_str_none #[49]
  | bl j=>cases a;exact PySem.EqMixed.ne_str_bool #[49]
  | int j=>obtain⟨b,rfl⟩:=a;exact PySem.EqMixed.ne_str_int #[49]
  | str j=>obtain⟨b,rfl⟩:=a;show#[pp,ne_str,NF]
  | _=>exact #[aM]
 | byt i =>
  show#[rk];cases y with
  | byt j=>obtain⟨b,rfl⟩:=a;show#[pp,PySem.W.ne_bytes,NE]
  | _=>exact #[aM]
 | _=>cases y<;>exact #[aM]
theorem WC:OpR X (aS .Lt) (rI0 λi j=>.bl (decide (i<j))):=#[gH,TC,lt_int]
theorem Ws:OpR X (aS .LtE) (rI0 λi j=>.bl (decide (i<=j))):=#[gH,TC,le_int]
theorem WM:OpR X (aS .Gt) (rI0 λi j=>.bl (decide (j<i))):=#[gH,TC,gt_int]
theorem RQ:OpR X (aS .GtE) (rI0 λi j=>.bl (decide (j<=i))):=#[gH,TC,ge_int]
theorem RP:OpR X (aS .Lt) (λx y H Q=>X2 λi j=>x=.str i/\y=.str j/\Q (.bl (decide (i.cps.toList<j.cps.toList))) H):=by intro ah s σ H x y v u Q I a b h;obtain⟨i,j,rfl,rfl,q⟩:=h;obtain⟨t,rfl⟩:=a;obtain⟨t',rfl⟩:=b;exact lt_str (ZV I q rfl)
theorem Xg:OpR X (aS .Is) (λx y H Q=>y=.non/\Q (.bl (decide (x=.non))) H):=by
 show#[rH];refine is_none_gen (ZV I q ?_);cases x<;>first
  | (cases a;rfl)
  | (obtain⟨t,rfl⟩:=a;rfl)
theorem Tz:OpR X (aS .IsNot) (λx y H Q=>y=.non/\Q (.bl (!decide (x=.non))) H):=by
 show#[rH];refine isnot_none_gen (ZV I q ?_);cases x<;>first
  | (cases a;rfl)
  | (obtain⟨t,rfl⟩:=a;rfl)
theorem Zr(b:aI){a:CmpOp}(h:a≠.In:=by decide)(h2:a≠.NotIn:=by decide):behindInMarks a b=false:=by
 have c:(a == CmpOp.In)=false:=by cases a<;>first|rfl|exact absurd rfl h
 have d:(a == CmpOp.NotIn)=false:=by cases a<;>first|rfl|exact absurd rfl h2
 cases b<;>simp[behindInMarks,c,d]
theorem XF{c:CmpOp}{r:R2}(d:OpR X (aS c) r)(ha:#[jD])(hb:#[nl])(hm:behindInMarks c b=false):PE X (.Compare a [c] [b] pos) #[qX]:=by intro e s f H Q I h;exact wpAny_Compare1 #[hW] hm
def ND(t:TE):TT:=λa H Q=>t a H λx b=>EA (λk=>x=.bl k) (λk=>Q k b)
theorem Zo{d:CmpOp}{r:R2}(i:OpR X (aS d) r)(ha:#[jD])(hb:#[nl])(hm:behindInMarks d b=false):PT X (.Compare a [d] [b] pos) (ND #[qX]):=by
 show#[dU,f,g,Q];refine wpAny_isTrue_Compare1 (thn #[dG,ha,f,g] λv j ⟨x,l,m,n,o⟩=>thn (hb f j g l _ m o) λu p ⟨y,q,t,w,A⟩=>
  thn (i f p g q x y v u _ t n w A) λc s3 ⟨z,B,C,D,k,e,E⟩=>?_) hm
 subst e;cases D;exact bp ⟨B,C,E⟩
def NC(r c:R2)(ta tb tc:TE):TE:=λa H Q=>ta a H λx d=>tb a d λy e=>r x y e λz b=>∃k,z=.bl k /\
 (if k=true then tc a b λf g=>c y f g Q else Q (.bl false) b)
theorem Zpc{i j:CmpOp}{r l:R2}(q:OpR X (aS i) r)(t:OpR X (aS j) l)(ha:#[jD])(hb:#[nl])(hc:PE X c tc)
  (hm:#[rK]:=by with_unfolding_all rfl):PE X #[rC] (NC r l ta tb tc):=by
 show#[dU,f,g,Q];refine Compare_chain (thn #[dG,ha,f,g] λv w ⟨x,A,B,C,D⟩=>chain_link (thn (hb f w g A _ B D) λu E ⟨y,F,G,m,J⟩=>
  thn #[qY] λd K ⟨z,n,o,L,k,e,p⟩=>?_)) hm
 subst e;cases L;refine bp ?_;cases k with
 | false=>exact ite_ff ⟨.bl false,n,o,rfl,p⟩
 | true=>exact ite_tt (chain_last (thn (hc f K g n _ o p) λM N ⟨O,P,R,S,T⟩=>t f N g P y O u M Q R m S T))
theorem RO{i j:CmpOp}{r l:R2}(q:OpR X (aS i) r)(t:OpR X (aS j) l)(ha:#[jD])(hb:#[nl])(hc:PE X c tc)
  (hm:#[rK]:=by with_unfolding_all rfl):PT X #[rC] (ND (NC r l ta tb tc)):=by
 show#[dU,f,g,Q];refine isTrue_chain (thn #[dG,ha,f,g] λv w ⟨x,A,B,C,D⟩=>test_link (thn (hb f w g A _ B D) λu E ⟨y,F,G,m,J⟩=>
  thn #[qY] λd K ⟨z,n,o,L,k,e,p⟩=>?_)) hm
 subst e;cases L;refine bp ?_;cases k with
 | false=>obtain⟨k',M,N⟩:=p;cases M;exact ite_ff ⟨n,o,N⟩
 | true=>refine ite_tt (test_last (thn (hc f K g n _ o p) λO P ⟨R,S,T,V,W⟩=>thn (t f P g S y R u O _ T m V W) ?_));rintro d' s5 ⟨z2,Y,Z,r5,k2,e2,q5⟩;subst e2;cases r5;exact bp ⟨Y,Z,q5⟩
theorem Vy:(aq:Nat)<2 ^ 63:=by rw[aO];decide
theorem Vx:OpR X #[s7] (λx y H Q=>X2 λi j=>x=.str i/\y=.str j/\i.length+j.length<=aq/\Q (.str (i++j)) H):=by intro ah s σ H x y v u Q I a b h;obtain⟨i,j,rfl,rfl,c,q⟩:=h;obtain⟨t,rfl⟩:=a;obtain⟨d,rfl⟩:=b;exact add_str (λd tk=>⟨.str (i++j),H,I.tok _,#[E],q⟩) c
theorem Xq{x:V}{us:#[az]}(r:ZK [x] us):∃u,us=[u]/\ZI x u:=by
 cases r with
 | cons a b=>cases b;exact⟨_,rfl,a⟩
theorem Tx{x y:V}{us:#[az]}(r:ZK [x,y] us):X2 λu a=>us=[u,a]/\ZI x u/\ZI y a:=by
 cases r with
 | cons b c =>
  cases c with
  | cons d e=>cases e;exact⟨_,_,rfl,b,d⟩
theorem NA:YU X #[ep,"abs"] (λxs H Q=>∃i,xs=[.int i]/\Q (.int #[un]) H):=by intro ah s σ H xs us Q I r h;obtain⟨i,rfl,q⟩:=h;obtain⟨u,rfl,t,rfl⟩:=Xq r;exact call_abs_int λu tk=>⟨.int #[un],H,I.tok _,#[E],q⟩
theorem Nz(hc:#[aD]):YU X #[ep,"max"] (λxs H Q=>X2 λi j=>xs=#[gy,i,j]/\Q (.int (if j>i then j else i)) H):=by
 show#[hc];refine max_two_ints #[ic] λh' tk k=>⟨_,H,I.kept k,?_,q⟩;by_cases a:j>i
 ·show#[pt,a,a];exact#[E]
 ·show#[oT,a,a];exact#[E]
theorem Ny(hc:#[aD]):YU X #[ep,"min"] (λxs H Q=>X2 λi j=>xs=#[gy,i,j]/\Q (.int (if j<i then j else i)) H):=by
 show#[hc];refine min_two_ints #[ic] λh' tk k=>⟨_,H,I.kept k,?_,q⟩;by_cases a:j<i
 ·show#[pt,a,a];exact#[E]
 ·show#[oT,a,a];exact#[E]
theorem ZmY:YU X #[id] (λxs H Q=>(∃i,xs=[.int i]/\Q (.int i) H)\/∃k,xs=[.bl k]/\Q (.int (if k then 1 else 0)) H):=by
 show#[aE];rcases h with⟨i,rfl,q⟩|⟨k,rfl,q⟩
 ·obtain⟨u,rfl,t,rfl⟩:=Xq r;exact call_int_int ⟨.int i,H,I,#[E],q⟩
 ·show#[es,a];exact call_int_bool ⟨.int (if k then 1 else 0),H,I.tok _,#[E],q⟩
universe E
structure V3 (h:aH) (x dx C:ae) (mA:#[J]):Prop where
 obj:h.get? x=U (PySem.W.instObj C dx)
 ns:h.Ns1 dx mA
 ne:dx≠x
theorem ZmQ{h:aH}{dx:ae}{mA:#[J]}(n:h.Ns1 dx mA):∃b,h.get? dx=U b/\∀name,PySem.W.lookIn name b=U (mA name):=by
 obtain⟨o,c,ep,d,hd,f,_,g⟩:=n;refine⟨o,d,λname=>?_⟩;have e:=g name;unfold nsFind findBy at e;rw[<- Array.find?_toList]at e;unfold PySem.W.lookIn;rw[hd];dsimp only;split
 ·rename_i y q;rw[q]at e;exact congrArg U e
 ·rename_i q;rw[q]at e;have a:c.toList.any (·.refKey)=false:=by rw[List.any_eq_false];intro y i;obtain⟨z,t,j⟩:=f y (Array.mem_toList_iff.mp i);simp[DictEntry.refKey,j]
  have k:¬ c.toList.any (·.refKey)=true:=by rw[a];exact Qt
  rw[if_neg k];exact congrArg U e
theorem V3.look{h:aH}{x dx C:ae}{mA:#[J]}(I:V3 h x dx C mA):∃a,PySem.W.InstAt h x (PySem.W.instObj C dx) C (U a)/\∀name,PySem.W.lookIn name a=U (mA name) :=
 let ⟨a,b,c⟩:=ZmQ I.ns
 ⟨a,⟨I.obj,rfl,rfl,b⟩,c⟩
section
variable {prog:aw} {w:aD} {A:aB} {E:aa->ai->Prop} {s:ai} {K:#[7]} {x dx C f:ae} {mA:ak->Option aa} {name:ak} {v:aa}
theorem Zqw{a:Bool}{Q:#[G]}(X:#[qR])(I:#[nk])(b:#[qk])(c:#[d4,C])
  (ha:#[iB]) (d:mA name=U v) (e:PySem.W.handedIn v=true) (h:Q v { s with toks:=s.toks+1 }) :
  av #[s] A (getAttr #[lR] name a) Q E s:=by
 show#[gU,od,J,f,I.look];exact PySem.W.get_value X J (PySem.W.plainGet_of b).1 (PySem.W.findObj_own c ha rfl (by rw[f,d])) e h
theorem Zm6{pl:Sem Bool}{Q:aa×List aa->ai->Prop}(X:#[qR])(I:#[nk])(a:#[qk])
  (b:PySem.W.findIn K #[S] name=U #[jb]) (ht:PySem.W.isFn K #[73]=true) (c:mA name=af) (h:Q (.ref f,[.ref x]) s) :
  av #[s] A (getMethod #[lR] name pl) Q E s:=by
 show#[gU,d,J,e,I.look];exact PySem.W.method_fn X J #[uD].1 #[uD].2 b (beq_iff_eq.mp ht) (by show (PySem.W.lookIn name d).map (·.isSome)=U false;rw[e,c];rfl) h
theorem ZpU{ns:#[T]}{Q:#[bK]}(X:#[qR])(I:#[nk])
  (hs:#[eX,#[S]]) (e:#[oE,C]) (ht:PySem.W.takerIn K C name=U af) (f:#[d4,C])
  (hw:PySem.Within mA ns) (hsz:#[qC])
  (h:∀h',V3 h' x dx C #[hS]->aH.SameBut dx s.heap h'->Q () { s with heap:=h',toks:=s.toks+2 }) :
  av #[s] A (setAttr #[lR] name v) Q E s:=by
 show#[gU,od,J,hl,I.look];refine PySem.W.set_plain X J hs (PySem.W.osa_open (s:=#[j0]) (r:=af) X J e ht λb=>?_);show#[vx,cd,g,i,PySem.W.any_some,f];have j:s.heap.get? x=U ⟨.ref C,U dx,.plain,#[]⟩:=I.obj;refine am (aF (am (am (wpAny_loadPart j (am (PySem.W.Looks.here (s:=#[j0]) (PySem.W.looks_clsIn X g) ?_))))));rw[i];refine aF (a:=U dx) (am (aF (am ?_)));refine wpAny_nsSet1 (s:=#[j0]) I.ns λh' c d=>?_;obtain⟨oD,xY,xZ,k,l,m⟩:=c.count (PySem.Within.cons name v hw);refine am (wpAny_lookBehind k (by rw[l];exact pastItsLine_dict (Qi m #[eM,QA])) ?_);exact aF (h _ ⟨(d.2 _ (Ne.symm I.ne)).trans I.obj,c,I.ne⟩ d)
theorem Zoz{R:#[pS,Result]}{vs:#[az]}{a:#[nP]}(X:#[qR])(hm:#[pu,C])
  (b:#[ed,#[S],#[73]]) (c:PySem.W.typeIn K #[73]=U (.type "function"))
  (h:bW #[s] (A.under (.builtin "type.__call__" ⟨.ref C::vs,a⟩)) (.call #[73] ⟨.ref #[H]::vs,a⟩) (PySem.W.InitBack #[H] R)
   { s with heap:=(s.heap.push PySem.W.emptyDict).push (PySem.W.instObj C s.heap.objs.size) }) :
  bW #[s] A (.call #[S] ⟨vs,a⟩) R s:=by
 show#[ga,hh,t,s];exact PySem.W.make_core (PySem.W.makes_of X hm) (Qaq X b) (λself=>PySem.W.bind_fn X self c) #[8] h
universe E
noncomputable def Zv(f:ak)(v:V):List #[rW]->List #[rW]
 | []=>[(f,v)]
 | (g,x)::r=>if g=f then (g,v)::r else (g,x)::Zv f v r
theorem Zp(f g:ak)(v:V):∀fs:List (ak×V),#[q4].lookup g=if g=f then U v else fs.lookup g
 | []=>by
  show List.lookup g [(f,v)]=_;by_cases h:g=f
  ·show#[o2,f];simp only[List.lookup,hb,if_pos h]
  ·show#[gq,f];simp only[List.lookup,hb,if_neg h]
 | (k,x)::r=>by
  have b:=Zp f g v r;show#[82];by_cases a:k=f
  ·rw[if_pos a];by_cases h:g=k
   ·show#[o2,k];simp only[List.lookup,hb,if_pos (h.trans a)]
   ·show#[gq,k];simp only[List.lookup,hb,if_neg (λe:g=f=>h (e.trans a.symm))]
  ·rw[if_neg a];by_cases h:g=k
   ·show#[o2,k];simp only[List.lookup,hb,if_neg (λe:g=f=>a (h.symm.trans e))]
   ·show#[gq,k];simp only[List.lookup,hb];exact b
theorem UZ(f:ak)(v:V):∀fs:List (ak×V),f∈#[q4].map #[iw]/\∀g,g∈fs.map #[iw]->g∈#[q4].map #[iw]
 | []=>⟨by simp[Zv],λg h=>by simp at h⟩
 | (k,x)::r=>by
  obtain⟨i1,i2⟩:=UZ f v r;show#[82];by_cases a:k=f
  ·rw[if_pos a];subst a;exact⟨by simp,λg h=>by simpa using h⟩
  ·rw[if_neg a];refine⟨?_,λg h=>?_⟩
   ·rw[Qn];exact Qs _ i1
   ·rw[Qn]at h ⊢;rcases QJ.mp h with e|e
    ·exact List.mem_cons.mpr (.inl e)
    ·exact Qs _ (i2 g e)
theorem Nx(f:ak)(v:V):∀fs:List (ak×V),#[q4].length<=fs.length+1
 | []=>by simp[Zv]
 | (k,x)::r=>by
  have ih:=Nx f v r;show#[82];by_cases a:k=f
  ·rw[if_pos a,QA,QA];lia
  ·rw[if_neg a,QA,QA];lia
theorem Yt.some_of{v:V}{o:#[nO]}(r:Yt (U v) o):∃u,o=U u/\ZI v u:=by
 cases o with
 | none=>exact#[he].elim
 | some u=>exact⟨u,rfl,r⟩
theorem Yt.none_of{o:#[nO]}(r:Yt af o):o=af:=by
 cases o with
 | none=>rfl
 | some u=>exact#[he].elim
theorem Zme{v:V}{u:aa}(r:ZI v u):PySem.W.handedIn u=true:=by
 cases v with
 | non=>cases (show u=aa.none from r);rfl
 | bl b=>cases (show u=aa.bool b from r);rfl
 | int i=>obtain⟨t,e⟩:=#[oI,r];cases e;rfl
 | str x=>obtain⟨t,e⟩:=#[vd,x,r];cases e;rfl
 | byt b=>obtain⟨t,e⟩:=#[dK,t,aa.bytes,b,r];cases e;rfl
 | flt b=>obtain⟨t,e⟩:=#[dK,t,aa.float,b,r];cases e;rfl
 | ref a=>cases (show u=aa.ref a from r);rfl
 | ty n=>cases (show u=aa.type n from r);rfl
section
variable {P:aw} {w:aD} {H H':Hp} {h h':aH} {a C dx:ae} {fs oR:List (ak×V)}
theorem UY(hok:#[c5])(e:#[ju]):∃mA,V3 h a dx C mA/\#[vt,mA]/\PySem.Within mA #[k7]/\fs.length<=1000/\H dx=U #[uQ]:=by obtain⟨d,z,ne,b,mA,n,r,q⟩:=(show Z8 P w H h a (.ins C dx fs) from hok a _ e);exact⟨mA,⟨b,n,ne⟩,r,q,z,d⟩
universe E
structure Cls (K:#[7]) (C:ae):Prop where
 pg:PySem.W.plainGet K C ak.empty=true
 hd:PySem.W.hasDictIn K C=true
 po:PySem.W.plainOver K C=true
 sa:PySem.W.findIn K #[S] "__setattr__" = U #[V]
theorem Cls.get{K:#[7]}{C:ae}(c:Cls K C)(f:ak):PySem.W.plainGet K C f=true:=c.pg
def YB(K:#[7])(C:ae)(f:ak):Prop:=PySem.W.findIn K #[S] f=U af
theorem YB.taker{K:#[7]}{C:ae}{f:ak}(n:YB K C f):PySem.W.takerIn K C f=U af:=by unfold PySem.W.takerIn;rw[show PySem.W.findIn K #[S] f=U af from n];rfl
structure Con (K:#[7]) (C:ae) (f:ak) (v:V) (u:aa):Prop where
 at_:PySem.W.findIn K #[S] f=U (U u)
 rel:ZI v u
 get:PySem.W.specialIn K u "__get__" = U af
 cp:PySem.W.copiedNames.contains f=false
structure Vw (K:#[7]) (C:ae) (m:ak) (f:ae):Prop where
 at_:PySem.W.findIn K #[S] m=U #[jb]
 fn:PySem.W.isFn K #[73]=true
 kp:PySem.W.keepIn K #[73]=true
section
variable {X:Cx} {ah:List (ae×aM)} {σ:St} {H:Hp} {s:ai} {a C dx:ae} {fs:List (ak×V)} {f:ak} {v:V} {A:aB} {E:aa->ai->Prop}
theorem Nw{b:Bool}{Q:#[G]}(I:#[k])(e:#[ju])(c:#[no])(n:#[qi])(l:fs.lookup f=U v)
  (h:#[u5,u,H]):av #[K] A (getAttr #[cd] f b) Q E s:=by
 obtain⟨g,O,r,_,_,_⟩:=UY I.hok e;obtain⟨u,i,d⟩:=Yt.some_of (v:=v) (o:=g f) (by rw[<- l];exact r f);exact Zqw I.kIn O (c.get f) c.hd n i (Zme d) (h u _ #[q9] d)
theorem RN{m:ak}{g:ae}{pl:Sem Bool}{Q:aa×List aa->ai->Prop}(I:#[k])(e:#[ju])(c:#[no])(k:Vw X.K C m g)(l:fs.lookup m=af)
  (h:Q (.ref g,#[jW]) s):av #[K] A (getMethod #[cd] m pl) Q E s:=by
 obtain⟨b,O,r,_,_,_⟩:=UY I.hok e;have d:b m=af:=Yt.none_of (by rw[<- l];exact r m);exact Zm6 I.kIn O (c.get m) k.at_ k.fn d h
theorem Nv{y:V}{u:aa}{Q:#[bK]}(I:#[k])(e:#[ju])(c:#[no])(n:#[qi])(hl:fs.length<1000)(l:ZI y u)
  (h:∀s',Inv X ah σ (upd H a (.ins C dx #[q3])) s'->Q () s'):av #[K] A (setAttr #[cd] f u) Q E s:=by
 obtain⟨i,O,r,j,_,k⟩:=UY I.hok e;have m:#[k7].length<=aq:=by rw[Qa,aO];lia
 refine ZpU I.kIn O c.sa c.po n.taker c.hd j m λp d t=>h _ ?_;have hd:∃o,p.get? dx=U o:=let ⟨o,_,_,v,_⟩:=d.ns;⟨o,v⟩;refine I.write (x:=a) (e:=dx) #[fW,e] (.inr k) (λb q w z=>(t.2 b w).trans z) hd ?_;refine⟨by rw[Zc O.ne];exact k,?_,O.ne,d.obj,_,d.ns,λg=>?_,λg B=>?_⟩
 ·have:=Nx f y fs;lia
 ·show Yt (#[q3].lookup g) (if g=f then U u else i g);rw[Zp];by_cases q:g=f
  ·show#[pt,q,q];exact l
  ·show#[oT,q,q];exact r g
 ·by_cases q:g=f
  ·rw[q];exact#[uA].1
  ·refine#[uA].2 g (j g λz=>B ?_);show (if g=f then U u else i g)=af;rw[if_neg q];exact z
theorem Inv.made(I:#[k]):Inv X ah σ #[dD,H,s.heap.objs.size,#[H],C]
  { s with heap:=(s.heap.push PySem.W.emptyDict).push (PySem.W.instObj C s.heap.objs.size) }:=by
 have c:#[cB].get? s.heap.objs.size=U PySem.W.emptyDict:=Qr s.heap rfl;have d:(#[cB].push #[mj]).get? #[H]=U #[mj]:=by have:=Qr #[cB] (o:=PySem.W.instObj C s.heap.objs.size) rfl;rwa [QV]at this
 have f:#[cB].Ns s.heap.objs.size (λ_=>af):=⟨PySem.W.emptyDict,#[],_,c,rfl,(λe g=>absurd g #[4]),λ_=>rfl⟩;have h:=I.laid (a:=#[nN]) (o:=.own #[H]) (h':=s.heap.push PySem.W.emptyDict) (t':=#[uj]) #[oX,u,q] #[ih] ⟨_,c⟩;refine h.laid (a:=s.heap.objs.size+1) (o:=.ins C s.heap.objs.size []) (t':=#[uj]) #[oX,u,q] (Nat.le_of_eq (QV _ _)) ?_;have ne:s.heap.objs.size≠s.heap.objs.size+1:=Qx #[mT];refine⟨by rw[Zc ne,Zd],Qm _,ne,d,λ_=>af,(aH.Ns1.of_empty f).at λo q=>Qc _ q,λ_=>True.intro,λy i=>absurd rfl i⟩
theorem Zp7{prog:aw}{w:aD}{env:Env}{e:aI}{f:ak}{pos:Pos}{s:ai}{Q:#[G]}(hb:bw e f env (eval e env)=eval e env)
  (h:av #[s] A (eval e env) (λo a=>av #[s] A (getAttr o f true) Q E a) E s):av #[s] A (eval #[m0] env) Q E s :=
 Attribute_any_ h (by rw[arm_eval_Attribute,hb])
universe E
inductive ZtU (K:#[7]) (f:ak) (x:V) (H:Hp) (B:V->Prop):Prop where
 | mk (a C dx:ae) (fs:List (ak×V)) (v:V) (e:x=.ref a) (g:H a=U (.ins C dx fs)) (c:Cls K C) (n:YB K C f) (l:fs.lookup f=U v) (q:B v)
def Nu(K:#[7])(b:TE)(f:ak):TE:=λc H Q=>b c H λx a=>ZtU K f x a (λv=>Q v a)
inductive RSF (K:#[7]) (f:ak) (x:V) (H:Hp) (B:ae->HO->Prop) (y:V):Prop where
 | mk (a C dx:ae) (fs:List (ak×V)) (e:x=.ref a) (g:H a=U (.ins C dx fs)) (c:Cls K C) (n:YB K C f) (l:fs.length<1000) (q:B a (.ins C dx (Zv f y fs)))
def ZtY(K:#[7])(d e:TE)(f:ak):TS:=λD b H=>e b H λy g=>d b g λx c=>RSF K f x c (λa o=>D.nx b (upd c a o)) y
def Nt(X:Cx)(c:Operator)(rd:#[iA]):Prop :=
 ∀ (a:List (ae×aM)) (s:ai) (b:St) (H:Hp) (x y:V) (u v:aa) (Q:VK),Inv X a b H s->ZI x u->ZI y v->rd x y H Q->#[jq] (inplaceOp c u v) #[i1] X.xe s
def Zpm(K:#[7])(h i:TE)(rd:#[iA])(f:ak):TS:=λD b H=>h b H λx d=>X5 λa C dx fs v=>x=.ref a/\d a=U (.ins C dx fs)/\Cls K C/\YB K C f/\fs.lookup f=U v /\
 i b d λy j=>rd v y j λz e=>X2 λg c=>e a=U (.ins C g c)/\c.length<1000/\D.nx b (upd e a (.ins C g (Zv f z c)))
section
variable {X:Cx} {o e value:aI} {f:ak} {pos cJ dZ:Pos} {ta tv:TE}
theorem ZE(he:PE X e ta)(hb:#[ew,e,f]):PE X #[m0] (Nu X.K ta f):=by intro b s d H Q I h;refine Zp7 hb #[du,he,b,d];rintro u s1 ⟨x,g,i,j,a,C,dx,fs,v,ex,k,c,n,l,q⟩;subst ex;obtain rfl:u=aa.ref a:=j;exact Nw i k c n l λu' s2 m o=>⟨v,g,m,o,q⟩
theorem Yb(ha:#[l0])(e:#[qM])(hs:#[al]):PS X #[hm] (ZtY X.K ta tv f):=by intro d s b H D I h;refine plainObj_wpAny_Assign_Attribute #[eU,e,d,q] hs;rintro m s2 ⟨x,H2,p,r,a,C,dx,fs,ex,t,c,n,l,v⟩;subst ex;obtain rfl:m=aa.ref a:=r;exact Nv p t c n l k λs3 w=>⟨b,_,w,v⟩
theorem V2{e:Operator}{rd:#[iA]}(ha:#[l0])(g:#[qM])(i:Nt X e rd):PS X (.AugAssign #[vl,f,dZ] e value pos) (Zpm X.K ta tv rd f):=by intro d s b H D I h;refine wpAny_AugAssign_AttributeAny #[du,ha,d,b];rintro j s1 ⟨x,k,m,p,a,C,dx,fs,v,ex,r,c,n,l,q⟩;subst ex;obtain rfl:j=aa.ref a:=p;refine Nw m r c n l λu t w A=>thn (g d t b k _ w q) λB E ⟨y,F,G,J,K⟩=>thn (i d E b F v y u B _ G A J K) ?_;rintro w4 s4 ⟨z,H3,L,M,pS,oR,N,O,P⟩;exact Nv L N c n O M λs5 Q=>⟨b,_,Q,P⟩
def ZtG:V->V->Hp->VK->Prop:=λx y H Q=>RI2 x y (λi j=>Q (.int (i+j)) H)
theorem UX:Nt X .Add ZtG:=by rintro ah s σ H x y u v Q I b c ⟨i,j,rfl,rfl,q⟩;obtain⟨t,rfl⟩:=#[oI,b];obtain⟨a,rfl⟩:=(show ∃a,v=aa.int j a from c);exact PyProof.Rows.iadd_int ⟨.int (i+j),H,I.tok _,#[E],q⟩
universe E
section
variable {X:Cx} {ah:List (ae×aM)} {σ:St} {H:Hp} {s:ai} {A:aB} {E:aa->ai->Prop} {Q:aa->ai->Prop} {c:aa} {b:Bool}
inductive Xp (K:#[7]) (H:Hp):V->aa->Prop where
 | non:Xp K H .non (.type "NoneType")
 | bl (x:Bool):Xp K H (.bl x) (.type "bool")
 | int (i:Int):Xp K H (.int i) (.type "int")
 | str (x:ak):Xp K H (.str x) (.type "str")
 | flt (x:UInt64):Xp K H (.flt x) (.type "float")
 | lst {a:ae} {xs:List V} (e:H a=U (.lst xs)):Xp K H (.ref a) (.type "list")
 | frz {a:ae} {o:aM} {xs:List V} (e:H a=U (.frz o (.lst xs))):Xp K H (.ref a) (.type "list")
 | tup {a:ae} {xs:List V} (e:H a=U (.tup xs)):Xp K H (.ref a) (.type "tuple")
 | dK {a:ae} {kvs:List (Key×V)} (e:H a=U (.dK kvs)):Xp K H (.ref a) (.type "dict")
 | dT {a:ae} {kvs:List (List Key×V)} (e:H a=U (.dT kvs)):Xp K H (.ref a) (.type "dict")
 | ins {a C dx:ae} {fs:List (ak×V)} (e:H a=U (.ins C dx fs)) (cl:Cls K C) (ha:PySem.W.findIn K (.ref C) "__class__" = U (U (.builtin "object.__class__")))
   (hn:#[cI]) (fD:#[qj])
   (hm:#[fa,C]):Xp K H #[cd] #[S]
theorem Zmk{x:V}{u t:aa}(I:#[k])(d:ZI x u)(ty:Xp X.K H x t)(e:PySem.W.kitOne X.K t c=U b)(h:∀tk,Q (.bool b) { s with toks:=tk }) :
  av #[K] A (call #[dg] [u,c]) Q E s:=by
 cases ty with
 | non=>cases (show u=aa.none from d);show#[fV,PySem.W.kitx_none]
 | bl y=>cases (show u=aa.bool y from d);show#[fV,PySem.W.kitx_bool]
 | int i=>obtain⟨t,q⟩:=#[oI,d];cases q;show#[fV,PySem.W.kitx_int]
 | str y=>obtain⟨t,q⟩:=#[vd,y,d];cases q;show#[fV,PySem.W.kitx_str]
 | flt y=>obtain⟨t,q⟩:=#[dK,t,aa.float,y,d];cases q;show#[fV,PySem.W.kitx_float]
 | @lst a k f=>cases (show u=aa.ref a from d);obtain⟨_,_,n,_,g⟩:=(show Z8 X.prog X.w H s.heap a (.lst k) from I.hok a _ f);exact #[mD]
 | @frz a r k f=>cases (show u=aa.ref a from d);obtain⟨_,_,_,n,_,g⟩:=(show Z8 X.prog X.w H s.heap a (.frz r (.lst k)) from I.hok a _ f);exact #[mD]
 | @tup a k f=>cases (show u=aa.ref a from d);obtain⟨_,_,_,p⟩:=(show Z8 X.prog X.w H s.heap a (.tup k) from I.hok a _ f);obtain⟨o,g,l,_⟩:=p;exact Q1 PySem.W.kitx_tuple I.kIn ⟨o,g,l⟩ e #[C] h
 | @dK a j f=>cases (show u=aa.ref a from d);obtain⟨_,_,vs,_,p⟩:=#[fO,a,j,f];obtain⟨o,v,w,g,l,_⟩:=p;exact #[mC]
 | @dT a j f=>cases (show u=aa.ref a from d);obtain⟨_,_,k,_,o,v,w,g,l,_⟩:=(show Z8 X.prog X.w H s.heap a (.dT j) from I.hok a _ f);exact #[mC]
 | @ins a C dx fs f m B D F G=>cases (show u=aa.ref a from d);obtain⟨mA,O,_⟩:=UY I.hok f;obtain⟨od,J,_⟩:=O.look;exact Q1 (PySem.W.kitx_own (m.get _) m.hd B D F G) I.kIn J e #[C] h
universe E
structure Zt (k:Nat) (A:aB):Prop where
 hd:A.handled=af
 dp:A.depth+3*k+5<recursionLimit
 un:A.units+16*k+200<cLine
 gd:A.guards=U []
theorem Zt.mono{j k:Nat}{A:aB}(r:Zt k A)(h:j<=k):Zt j A:=⟨r.hd,by have:=r.dp;lia,by have:=r.un;lia,r.gd⟩
theorem Zt.deeper{k:Nat}{A:aB}(r:Zt (k+1) A)(env:Env):Zt k (A.deeper env) :=
 ⟨r.hd,by have:=r.dp;show A.depth+1+3*k+5<_;lia,by have:=r.un;show A.units+3+16*k+200<_;lia,r.gd⟩
theorem ZkJ{A:aB}{C:ae}{us:#[az]}{a:#[nP]}:#[mX].depth=A.depth+1:=by first|rfl|simp[aB.under,Code.weight,Code.isCreation,Code.isGuard,Code.isCaller,Code.frames,Code.isFrame,guardIds]
theorem Zle{A:aB}{C:ae}{us:#[az]}{a:#[nP]}:#[mX].units=A.units+1:=by first|rfl|simp[aB.under,Code.cUnits,Code.frames,Code.isFrame]
theorem Zt.make{k:Nat}{A:aB}(r:Zt (k+1) A)(C:ae)(us:#[az])(a:#[nP]):Zt k #[mX] :=
 ⟨r.hd,by have:=r.dp;rw[ZkJ];lia,by have:=r.un;rw[Zle];lia,by rw[show (A.under #[58]).guards=A.guards from by first|rfl|simp[aB.under,pushGuards,Code.guards,Code.isGuard,guardIds]];exact r.gd⟩
theorem Zt.depth{k:Nat}{A:aB}(r:Zt k A):A.depth<recursionLimit:=by have:=r.dp;lia
theorem Zt.units{k:Nat}{A:aB}(r:Zt k A):A.units+64<cLine:=by have:=r.un;lia
def UW:TA:=λ_ H Q=>Q [] H
def ZsK(b:TE)(c:TA):TA:=λa H Q=>b a H λx d=>c a d λxs e=>Q (x::xs) e
section
variable {X:Cx} {e:aI} {es:List aI} {te:TE} {t:TA} {pos:Pos}
theorem Zg:PA X [] UW:=λ_ _ _ _ H Q I h=>Calls.spliced_nil ⟨[],H,I,.nil,h⟩
theorem Za(ha:#[qN])(hr:PA X es t)(hs:#[i]:=by rfl):PA X (e::es) (ZsK te t):=by intro pos a s b H Q I h;rw[hs];show av _ _ (spliced (#[eb,e]::bb pos (aC es X.env))) _ _ s;refine Calls.spliced_cons #[du,ha,a,b];rintro u c ⟨x,d,f,g,i⟩;exact thn (hr pos a c b d _ f i) λus s2 ⟨j,k,l,m,n⟩=>⟨x::j,k,l,.cons g m,n⟩
def Ztw(t:TA):TE:=λb H Q=>t b H λxs a=>xs.length<=aq/\∀p,a p=af->Q #[ir] (upd a p #[kk])
def ZtT(t:TA):TE:=λb H Q=>t b H λxs a=>xs.length<=aq/\∀p,a p=af->Q #[ir] (upd a p #[iI])
theorem Yi{f}(h:PA X es t):PE X (.Tuple es f pos) (Ztw t):=by intro g s i H Q I j;refine wpAny_Tuple_spliced (thn (h pos g s i H _ I j) λk a ⟨l,c,d,r,z,q⟩=>⟨by rw[<- r.length];exact z,?_⟩);have m:c a.heap.objs.size=af:=d.hok.fresh #[ih];refine⟨.ref a.heap.objs.size,upd c a.heap.objs.size (.tup l),d.laid (t':=a.toks) #[oX,u,e] #[ih] ?_,rfl,q _ m⟩;exact⟨z,k,r,⟨_,Qr _ rfl,rfl,_,rfl⟩⟩
theorem Ys(h:PA X es t):PE X (.List es pos) (ZtT t):=by intro f s g H Q I i;refine wpAny_List_spliced (thn (h pos f s g H _ I i) λj a ⟨k,c,d,r,z,q⟩=>⟨by rw[<- r.length];exact z,?_⟩);have l:c a.heap.objs.size=af:=d.hok.fresh #[ih];refine⟨.ref a.heap.objs.size,upd c a.heap.objs.size (.lst k),d.laid (t':=a.toks) #[oX,u,e] #[ih] ?_,rfl,q _ l⟩;exact⟨z,j,0,r,Qr _ rfl⟩
universe E
abbrev Sp:=List V->Hp->VK->XK->Prop
abbrev CXT:=List Env->Hp->ai->XK->aa->ai->Prop
structure V1 (P:aw) (w:aD) (K:#[7]) (mg:#[J]) (base:aH) (A:aB) (outer:#[mE]) (s:ai) (H:Hp):Prop where
 frames:A.frames=U outer
 mod:Mod K mg base
 bs:∀b o,base.get? b=U o->s.heap.get? b=U o/\H b=af
 bsz:base.objs.size<=s.heap.objs.size
 funs:s.heap.FunFrames base outer
 frf:∀b∈frs outer,H b=af
 hok:HOk P w H s.heap
 bare:AllBare s.gens
def CE(outer:#[mE])(P:aw)(w:aD)(H:Hp)(s:ai)(Q:VK)(u:aa)(s':ai):Prop :=
 X2 λv a=>s'.os=s.os/\AllBare s'.gens/\Un (frs outer) [] H a s.heap s'.heap/\HOk P w a s'.heap/\ZI v u/\Q v a
def CR(CX:CXT)(outer:#[mE])(P:aw)(w:aD)(H:Hp)(s:ai)(Q:VK)(E:XK)(r:Result)(s':ai):Prop :=
 match r with
 | .ok (.ret u)=>CE outer P w H s Q u s'
 | .ok _=>False
 | .error e=>CX outer H s E e s'
structure YX (P:aw) (w:aD) (K:#[7]) (mg:#[J]) (base:aH) (CX:CXT) (k:Nat) (f:ae) (fd:bu) (ps:#[T]) (sp:Sp):Prop where
 len:∀vs H Q E,sp vs H Q E->vs.length=ps.length
 run:∀ (A:aB) (outer:List Env) (s:ai) (H:Hp) (args:Args) (us:List aa) (vs:List V) (Q:VK) (E:XK),Zt k A->V1 P w K mg base A outer s H->BindsTo s fd args #[k5]->ZK vs us->sp vs H Q E ->
  bW #[sx] A (.call #[73] args) (CR CX outer P w H s Q E) s
theorem YX.mono{P:aw}{w:aD}{K:#[7]}{mg:#[J]}{base:aH}{CX:CXT}{j k:Nat}{f:ae}{a:bu}{ps:#[T]}{sp:Sp}(F:YX P w K mg base CX j f a ps sp)(h:j<=k) :
  YX P w K mg base CX k f a ps sp:=⟨F.len,λA outer s H args us vs Q E hr=>F.run A outer s H args us vs Q E (hr.mono h)⟩
theorem YX.imp{P:aw}{w:aD}{K:#[7]}{mg:#[J]}{base:aH}{CX:CXT}{k:Nat}{f:ae}{b:bu}{ps:#[T]}{sp c:Sp}(F:YX P w K mg base CX k f b ps sp)
  (h:∀vs H Q E,c vs H Q E->sp vs H Q E):YX P w K mg base CX k f b ps c :=
 ⟨λvs H Q E q=>F.len vs H Q E (h _ _ _ _ q),λA a s H args d vs Q E e g i j l=>F.run A a s H args d vs Q E e g i j (h _ _ _ _ l)⟩
theorem V1.make{P:aw}{w:aD}{K:#[7]}{mg:#[J]}{base:aH}{A:aB}{outer:#[mE]}{s:ai}{H:Hp}(e:#[rv])(C:ae)(us:#[az])(a:#[nP]) :
  V1 P w K mg base #[mX] outer s H:=⟨by first|exact e.frames|(simpa [aB.under,Code.envs,Code.isFrame,pushEnvs] using e.frames),e.mod,e.bs,e.bsz,e.funs,e.frf,e.hok,e.bare⟩
section
variable {X:Cx} {ah:List (ae×aM)} {σ:St} {H:Hp} {s s':ai}
theorem Inv.env0(I:#[k]):V1 X.prog X.w X.K X.mg X.base X.A X.stack s H :=
 ⟨I.ok.frames,I.ok.mod,I.bs,Qi I.ok.bsz I.sz,I.stack,I.stkFree,I.hok,I.bare⟩
theorem Inv.after{Q:VK}{u:aa}(I:#[k])(h:CE X.stack X.prog X.w H s Q u s'):EP X ah σ Q u s':=by obtain⟨v,e,os,a,un,c,r,q⟩:=h;obtain⟨f,g,d,t,i⟩:=s';obtain rfl:i=s.os:=os;exact⟨v,e,I.call (h':=f) (g':=g) (d':=d) (t':=t) (ch:=[]) un c a (λb z=>absurd z #[4]),r,q⟩
universe E
def Nr(sp:Sp)(dvs:#[m7])(E:XK)(t:TA):TE:=λa H Q=>t a H λvs b=>sp #[np] b Q E
inductive RMt (C:ae) (m:ak) (x:V) (H:Hp) (B:Prop):Prop where
 | mk (a dx:ae) (fs:List (ak×V)) (e:x=.ref a) (g:H a=U (.ins C dx fs)) (l:fs.lookup m=af) (q:B)
def Tw(C:ae)(m:ak)(sp:Sp)(dvs:#[m7])(E:XK)(c:TE)(t:TA):TE:=λa H Q=>c a H λx b=>RMt C m x b (t a b λvs d=>sp (x::#[np]) d Q E)
def Tv(C:ae)(sp:Sp)(dvs:#[m7])(E:XK)(t:TA):TE:=λb H Q=>t b H λvs a=>∀x dx,a x=af->a dx=af->dx≠x ->
 sp (.ref x::#[np]) #[dD,a,dx,x,C] (λv c=>v=.non/\Q #[lR] c) E
def YG(K:#[7])(b:bu)(ps:#[T])(ds:#[az]):Prop :=
 ∀ (s:ai) (a:List aa),K.In s.heap->(a++ds).length=ps.length->BindsTo s b ⟨a,[]⟩ (ps.zip (a++ds))
theorem YG.all{K:#[7]}{a:bu}{ps:#[T]}(h:∀us:List aa,us.length=ps.length->bindArgs a #[tT]=pure #[k5]):YG K a ps []:=λs us _ hl=>by rw[Qad]at hl ⊢;exact .of_eq (h us hl)
def Wr(CX:CXT)(X:Cx)(E:XK):Prop:=∀ (a:List (ae×aM)) (b:St) (H:Hp) (s:ai) (e:aa) (s':ai),Inv X a b H s->CX X.stack H s E e s'->X.xe e s'
section
variable {X:Cx} {CX:CXT} {k:Nat} {f C:ae} {fd:bu} {ps:List ak} {sp:Sp} {dvs:List V} {ds:List aa} {E:XK} {x m:ak} {p pos bn:Pos} {e o:aI} {es:List aI} {ta:TE} {t:TA}
theorem Tu{b:#[L]}{c:St}{H:Hp}{s:ai}{Q:VK}{us:#[az]}{vs:#[m7]}(F:#[14])(hr:#[kW])(hb:#[hQ])(hd:#[qG])(hx:#[qL])
  (I:#[fd,b,c]) (r:ZK vs us) (h:sp #[np] H Q E):#[jq] (call #[73] us) (EP X b c Q) X.xe s:=by
 have d:ZK #[np] (us++ds):=r.append hd;have g:(us++ds).length=ps.length:=by rw[<- d.length];exact F.len _ _ _ _ h
 refine wpAny_call (codeAny_mono (F.run X.A X.stack s H #[tT] (us++ds) #[np] Q E hr I.env0 (hb s us I.kIn g) d h) λr i a=>?_);cases r with
 | error e=>exact hx b c H s e i I a
 | ok j =>
  cases j with
  | ret u=>exact I.after a
  | next=>exact #[h9]
  | brk=>exact #[h9]
  | cont=>exact #[h9]
theorem Zqe(F:#[14])(hr:#[kW])(b:#[rO])(hm:X.mg x=U #[73])(hk:#[pZ,X.K])(hb:#[hQ])(hd:#[qG])(hx:#[qL])
  (ha:#[69]) (c:#[j]:=by decide) (he:#[i]:=by rfl) (d:#[A]:=by rfl) :
  PE X #[30] (Nr sp dvs E t):=by
 show#[oc];refine Q7 (h₀:=X.base) I.ok.mod.kin hk #[iF] he d;exact Tu F hr hb hd hx a r q
theorem ZpL{pl:Sem Bool}(he:#[l0])(c:#[no])(hm:Vw X.K C m f)(F:#[14])(hr:#[kW])(hb:#[hQ])(hd:#[qG])(hx:#[qL])(ha:#[69])
  (n:#[i]:=by rfl) (p:#[A]:=by rfl)
  (v:eval #[37] X.env=(do
   let b <- eval o X.env
   standAt bn.atName
   let (f,first) <- holding [b] (getMethod b m pl)
   callWith pos f first (bb pos #[hy]) #[aC]):=by rfl) :
  PE X #[37] (Tw C m sp dvs E ta t):=by
 show#[oM,d,g,v];show#[fw,w,y,i,z,A];refine RN i A c hm l ?_;refine Q7 (first:=#[jW]) (h₀:=X.base) I.ok.mod.kin hm.kp (thn (ha pos d w g y _ i q) λus s2 ⟨vs,H2,j,r,B⟩=>⟨j.kIn,?_⟩) n p;exact Tu (us:=.ref a::us) (vs:=.ref a::vs) F hr hb hd hx j (.cons rfl r) B
theorem Zn1{pl:Sem Bool}(he:#[l0])(c:#[no])(hm:Vw X.K C m f)(F:#[14])(hr:#[kW])(hb:#[hQ])(hd:#[qG])(hx:#[qL])
  (ht:eval #[bo] X.env=(do
   let d <- eval o X.env
   standAt bn.atName
   let (f,first) <- holding [d] (getMethod d m pl)
   callWith pos f first (bb pos (aC [] X.env)) #[aC]):=by rfl) :
  PE X #[bo] (Tw C m sp dvs E ta UW):=by
 show#[oM,e,g,ht];show#[fw,s1,H1,b,i,j];refine RN b j c hm l ?_;exact PySem.W.callWith_K0 (first:=#[jW]) b.kIn hm.kp (Tu (us:=#[jW]) (vs:=#[jW]) F hr hb hd hx b #[ii] q)
structure Mk (K:#[7]) (C f:ae):Prop where
 makes:PySem.W.makesIn K C=true
 init:PySem.W.findIn K #[S] "__init__" = U #[jb]
 fn:PySem.W.isFn K #[73]=true
 kp:PySem.W.keepIn K #[S]=true
theorem Nq{c:#[L]}{d:St}{H:Hp}{s:ai}{Q:VK}{us:#[az]}{vs:#[m7]}(M:Mk X.K C f)(F:#[14])(hr:#[nj])(hb:#[hQ])(hd:#[qG])
  (hx:#[qL]) (I:#[fd,c,d]) (r:ZK vs us)
  (h:∀x dx,H x=af->H dx=af->dx≠x->sp (.ref x::#[np]) #[dD,H,dx,x,C] (λv j=>v=.non/\Q #[lR] j) E) :
  #[jq] (call #[S] us) (EP X c d Q) X.xe s:=by
 have g:=h #[H] s.heap.objs.size #[mW] #[ap] (Qx #[mT]);have b:=Inv.made (C:=C) I;have i:ZK (V.ref #[H]::#[np]) #[uy]:=.cons rfl (r.append hd);have l:(aa.ref #[H]::us++ds).length=ps.length:=by have e:=i.length;rw[F.len _ _ _ _ g]at e;exact e.symm
 refine wpAny_call (Zoz (f:=f) I.kIn M.makes M.init (beq_iff_eq.mp M.fn) (codeAny_mono (F.run _ X.stack _ _ ⟨aa.ref #[H]::us,[]⟩ #[uy] _ _ E (hr.make C us [])
  (b.env0.make C us []) (hb _ #[q1] b.kIn l) i g) λr m a=>?_))
 cases r with
 | error e=>exact hx c d _ _ e m b a
 | ok n =>
  cases n with
  | ret u=>obtain⟨v,o,p,q,t,w⟩:=b.after a;subst t;exact⟨q,⟨V.ref #[H],o,p,rfl,w⟩⟩
  | next=>exact #[h9]
  | brk=>exact #[h9]
  | cont=>exact #[h9]
theorem Zpf(M:Mk X.K C f)(F:#[14])(hr:#[nj])(b:#[rO])(hm:#[qI])(hb:#[hQ])(hd:#[qG])(hx:#[qL])
  (ha:#[69]) (c:#[j]:=by decide) (he:#[i]:=by rfl) (d:#[A]:=by rfl) :
  PE X #[30] (Tv C sp dvs E t):=by
 show#[oc];refine Q7 (h₀:=X.base) I.ok.mod.kin M.kp #[iF] he d;exact Nq M F hr hb hd hx a r q
theorem ZnB(M:Mk X.K C f)(F:#[14])(hr:#[nj])(a:#[rO])(hm:#[qI])(hb:#[hQ])(hd:#[qG])(hx:#[qL])
  (b:#[j]:=by decide):PE X #[rc] (Tv C sp dvs E UW):=by
 show#[dU,ah,σ,Q];refine bh (W9 I a hm ?_ b);exact PySem.W.callWith_K0 I.kIn M.kp (Nq (us:=[]) M F hr hb hd hx I .nil h)
universe E
section
variable {X:Cx} {CX:CXT} {k:Nat} {f C:ae} {fd:bu} {ps ks:List ak} {sp:Sp} {E:XK} {x m:ak} {p pos bn E7:Pos} {e o:aI} {es:List aI} {kws:List Keyword} {te ta:TE} {t tk:TA} {nm:Option ak}
structure KBinds (K:#[7]) (fd:bu) (ps ks:#[T]) (g:List aa->List aa->List aa) (gV:List V->List V->List V):Prop where
 to:∀ (s:ai) (us ws:List aa),K.In s.heap->(g us ws).length=ps.length->BindsTo s fd ⟨us,ks.zip ws⟩ (ps.zip (g us ws))
 rel:∀ {vs:List V} {us:List aa} {zs:List V} {ws:List aa},ZK vs us->ZK zs ws->ZK (gV vs zs) (g us ws)
variable {g:List aa->List aa->List aa} {gV:List V->List V->List V}
universe E
structure Zl (N P:#[T]) (sc:be):Prop where
 kind:sc.kind=.function
 co:sc.isCoroutine=false
 gen:sc.isGenerator=false
 nd:N.Nodup
 pre:N.take P.length=P
 par:∀x∈P,sc.names.lookup x=U .local\/sc.names.lookup x=U .cell
 nofree:∀y∈sc.names,y.2≠.free
theorem Np{kindOf:#[qD]}{x:ak}:∀ {binds:List (ak×aa)} {m:ak->Option aa},(∀v,(x,v) ∉ binds)->bindL kindOf binds m x=m x
 | [],_,_=>rfl
 | (n,v)::r,m,h=>by
  unfold bindL;rw[Np λw hw=>h w (Qs _ hw)];split
  ·have:x≠n:=by rintro rfl;exact h v Q6
   simp[this]
  ·rfl
theorem No{kindOf:#[qD]}{x:ak}:∀ {binds:List (ak×aa)} {m:ak->Option aa},(∀v,(x,v) ∉ binds)->bindC kindOf binds m x=m x
 | [],_,_=>rfl
 | (n,v)::r,m,h=>by
  unfold bindC;rw[No λw hw=>h w (Qs _ hw)];split
  ·rfl
  ·have:x≠n:=by rintro rfl;exact h v Q6
   simp[this]
theorem Nm{kindOf:#[qD]}{x:ak}{v:aa}:∀ {P:List ak} {vs:List aa} {i:Nat} {m:ak->Option aa},P.Nodup->P[i]? = U x->vs[i]? = U v->kindOf x=U .local ->
  bindL kindOf (P.zip vs) m x=U v
 | [],_,_,_,_,h,_,_=>by simp at h
 | _::_,[],_,_,_,_,h,_=>by simp at h
 | p::P,w::vs,0,m,nd,h1,h2,hk=>by simp at h1 h2;subst h1;subst h2;show bindL kindOf #[le] m p=_;unfold bindL;rw[Np λv a=>(Q2.mp nd).1 (List.of_mem_zip a).1,if_pos hk];simp
 | p::P,w::vs,i+1,m,nd,h1,h2,hk=>by show bindL kindOf #[le] m x=_;unfold bindL;exact Nm (i:=i) (Q2.mp nd).2 #[dq,h1] #[dq,h2] hk
theorem Nl{kindOf:#[qD]}{x:ak}{v:aa}:∀ {P:List ak} {vs:List aa} {i:Nat} {m:ak->Option aa},P.Nodup->P[i]? = U x->vs[i]? = U v->kindOf x≠U .local ->
  bindC kindOf (P.zip vs) m x=U v
 | [],_,_,_,_,h,_,_=>by simp at h
 | _::_,[],_,_,_,_,h,_=>by simp at h
 | p::P,w::vs,0,m,nd,h1,h2,hk=>by simp at h1 h2;subst h1;subst h2;show bindC kindOf #[le] m p=_;unfold bindC;rw[No λv a=>(Q2.mp nd).1 (List.of_mem_zip a).1,if_neg hk];simp
 | p::P,w::vs,i+1,m,nd,h1,h2,hk=>by show bindC kindOf #[le] m x=_;unfold bindC;exact Nl (i:=i) (Q2.mp nd).2 #[dq,h1] #[dq,h2] hk
noncomputable def XD(N:#[T])(vs:#[m7]):St:=vs.map U++List.replicate (N.length-vs.length) af
noncomputable def XT(CX:CXT)(P:aw)(w:aD)(K:#[7])(mg:#[J])(base:aH)(N:#[T])(a:ak)(b:be)(f:ae)(c:aa)(A:aB)(outer:#[mE])(s:ai)(H:Hp)(E:XK):Cx where
 prog:=P
 w:=w
 K:=K
 mg:=mg
 base:=base
 A:=A.deeper #[ib]
 N:=N
 s₀:=s
 H₀:=H
 env:=envOfC a b s.heap.objs.size f c
 outer:=outer
 stack:=envOfC a b s.heap.objs.size f c::outer
 ex:=[]
 calm:=true
 fn:=λ_=>true
 pn:=[]
 xe:=λe g=>av #[sx] (A.deeper #[ib]) (leaving #[ib] e) (λ_ d=>CX outer H s E e d) (λh d=>CX outer H s E h d) g
theorem Nk{a:be}{n:Nat}{x:ak}(h:a.names.lookup x=U .cell):∃c,(cellsFrom n a.names []).lookup x=U c:=by have q:=PySem.W.cellsFrom_some a.names n [] #[uR];exact Option.isSome_iff_exists.mp q
theorem ZmD{CX:CXT}{P:aw}{w:aD}{K:#[7]}{mg:#[J]}{base:aH}{N ps:#[T]}{o:ak}{j:be}{f:ae}{t:aa}{A:aB}{outer:#[mE]}{s F:ai}{H:Hp}{E:XK}{us:#[az]}{vs:#[m7]}
  (S:Zl N ps j) (hd:#[iZ]) (g:#[rv]) (hl:vs.length=ps.length) (r:ZK vs us)
  (x:InCallC s s.heap.objs.size (bindL #[nt].kindOf #[k5] λ_=>af) (cellsFrom #[H] j.names []) (bindC #[nt].kindOf #[k5] λ_=>af) F) :
  Inv #[ki] [] #[jG] H F:=by
 have cx:ps.length<=N.length:=by have:=#[dW,S.pre];rw[Qv]at this;lia
 obtain⟨B,tk,rfl,G⟩:=x.done;have D:∀b:ae,b ∉ #[ki].ex:=λb z=>absurd #[pD,z] #[4];refine⟨⟨g.mod,S.kind,rfl,rfl,Qf _,λy z c B d=>?_,λy hy=>?_,λy c _ h=>?_,λ_=>hd,aB.frames_deeper g.frames,.inr #[Y],λb z=>absurd z (D b),g.bs,g.bsz,λb _ _=>D b,λb z=>absurd z (D b),g.funs,g.frf⟩,
  rfl,g.bare,Un.kept G,⟨_,x.toInCall.ns,λi y v B d h3=>?_⟩,λy c h=>⟨_,x.cell y c h⟩,g.hok.fresh #[ih],λy c h=>?_,λp l=>absurd (show p∈#[kw] from l) #[4],g.hok.kept G,?_⟩
 ·exact name_of_addr x.apart (Qag B) (Qag d)
 ·have hy:#[pN,j.names.lookup,y]:=hy;rcases hy with hy|hy
  ·exact Nk hy
  ·exact absurd rfl (S.nofree _ (Qag hy))
 ·exact QaF (x.above y c (Qag h))
 ·have C:i<vs.length:=by
   unfold XD at d;by_cases C:i<vs.length
   ·exact C
   ·rw[Q0 #[dq,C]]at d;rw[List.getElem?_replicate]at d;split at d<;>cases d
  have J:vs[i]? = U v:=by
   unfold XD at d;rw[QO #[dq,C],Qo]at d;cases e:vs[i]? with
   | none=>rw[e]at d;cases d
   | some a=>rw[e]at d;cases d;rfl
  show#[vx,u,I,L,r.get,J];have l:ps[i]? = U y:=by rw[<- S.pre,List.getElem?_take_of_lt #[2]];exact B
  have m:ps.Nodup:=by rw[<- S.pre];exact S.nd.sublist #[uE]
  show#[p3,u,L];rcases S.par y (Qu l) with k|k
  ·exact .inl ⟨k,Nm m l I k⟩
  ·obtain⟨c,e⟩:=Nk (n:=s.heap.objs.size+1) k;refine .inr ⟨.inl k,c,e,?_⟩;have q:=x.cell y c e;rw[Nl m l I (by show j.names.lookup y≠_;rw[k];decide)]at q;exact q
 ·exact g.hok.fresh (QaF (x.above y c (Qag h)))
 ·unfold XD;show _=N.length;rw[Qe,Qa,QaB];lia
theorem Nj{CX:CXT}{P:aw}{w:aD}{K:#[7]}{mg:#[J]}{base:aH}{k:Nat}{f:ae}{name d:ak}{B:Arguments}{l:#[kY]}{a:be}{C kV D F g ct R:aa}{G T:#[ay]}
  {W:#[47]} {N ps:#[T]} {sp:Sp} (lk:K.lookup f=U ⟨R,T,.func #[kF],W⟩) (X:PySem.W.codeIn K g d=true) (S:Zl N ps a)
  (len:#[P])
  (Y:∀ (A:aB) (outer:List Env) (s:ai) (H:Hp) (vs:List V) (Q:VK) (E:XK),Zt k (A.deeper (envOfC d a s.heap.objs.size f g))->sp vs H Q E ->
   ∃t,PSs #[cr] l t/\t { nx:=λ_ c=>Q .non c,rt:=Q } #[jG] H) :
  YX P w K mg base CX (k+1) f #[kF] ps sp:=by
 refine⟨len,λA outer s H args Z vs Q E m i hb r L=>?_⟩;have hl:=len _ _ _ _ L;have KX:#[qR]:=i.mod.kin.keeps λb o e=>(i.bs b o e).1;have Cz:s.heap.NoLimit:=i.mod.nolimit.keeps λb o e=>(i.bs b o e).1;have vc:∀y∈ps.zip Z,a.names.lookup y.1=U .local\/(a.names.lookup y.1=U .cell/\((cellsFrom #[H] a.names []).lookup y.1).isSome=true):=λ⟨n,v⟩ hy=>by
  rcases S.par n (List.of_mem_zip hy).1 with q|q
  ·exact .inl q
  ·exact .inr ⟨q,PySem.W.cellsFrom_some _ _ _ (.inl q)⟩
 refine codeAny_call_function m.depth (KX _ _ lk) rfl S.co S.gen rfl (PySem.W.codeRec_of KX X) (hb _ _ _ _ ?_);refine wpAny_newFunctionEnv_cells S.kind vc λenv he M x=>?_;subst he;refine⟨Cz.keeps x.toInCall.keep,codeAny_func ?_⟩;obtain⟨t,ht,hq⟩:=Y A outer s H vs Q E (m.deeper _) L;have I:Inv #[cr] [] #[jG] H M:=ZmD S m.hd i hl r x;refine aU (ht [] M #[jG] H _ I hq) #[g5,fl,p,h] λe p h=>h;have O:∀ {j:St} {c:Hp} {v:V} {u:aa},Inv #[cr] [] j c p->ZI v u->Q v c->CE outer P w H s Q u p :=
  λ{j c v u} J z q=>⟨v,c,J.os,J.bare,J.base,J.hok,z,q⟩
 cases fl with
 | ret u=>obtain⟨v,j,c,J,z,q⟩:=h;exact O J z q
 | next=>obtain⟨j,c,J,q⟩:=h;exact O (v:=V.non) (u:=aa.none) J rfl q
 | brk=>obtain⟨_,_,_,q⟩:=h;exact False.elim q
 | cont=>obtain⟨_,_,_,q⟩:=h;exact False.elim q
section
variable {X:Cx} {x:ak} {p pos:Pos} {e:aI} {es:List aI} {t:TA} {id T:String} {r:List V->Hp->VK->Prop}
def tCB(r:List V->Hp->VK->Prop)(t:TA):TE:=λa H Q=>t a H λvs b=>r vs b Q
theorem Zq(hc:YU X #[ep,id] r)(c:#[rO])(hm:X.mg x=af)(d:cH x=U #[ep,id])(ha:#[69])(hn:#[jy]:=by decide)(f:#[j]:=by decide)
  (g:#[i]:=by rfl) (i:#[A]:=by rfl):PE X #[30] (tCB r t):=by
 show#[mf];exact PyProof.Rows.callWith_builtin1 #[ia] g i
theorem Xe(hc:YU X (.type T) r)(c:#[rO])(hm:X.mg x=af)(d:cH x=U (.type T))(ha:#[69])(hn:#[jy]:=by decide)(f:#[j]:=by decide)
  (g:#[i]:=by rfl) (i:#[A]:=by rfl):PE X #[30] (tCB r t):=by
 show#[mf];exact Q9 #[ia] g i
universe E
universe E.L2
namespace HT
open PySem PyProof.Rows
section
variable {prog:aw} {w:aD} {A:aB} {E:aa->ai->Prop} {s:ai}
noncomputable def sIx(n d:Nat):Option Int->Nat
 | none=>d
 | some v=>if v<0 then (v+(n:Int)).toNat else min v.toNat n
universe E
universe E.HT
namespace L2
open PySem PySem.Spec PyProof.Rows
abbrev TO:=St->Hp->(Option Int->Hp->Prop)->Prop
def PO(X:Cx)(e:Option aI)(t:TO):Prop :=
 ∀ (b:List (ae×aM)) (s:ai) (a:St) (H:Hp) (Q:Option Int->Hp->Prop),Inv X b a H s->t a H Q ->
  #[jq] (evalPart e X.env) (λu d=>X2 λo c=>Inv X b a c d/\IsPart u o/\Q o c) X.xe s
def ZpP:TO:=λ_ H Q=>Q af H
def ZsS(t:TE):TO:=λa H Q=>t a H λx b=>EA (λi=>x=.int i) (λi=>Q (U i) b)
theorem Zkx{ns:#[F]}:∀ {us:List aa},ZK #[U] us->IntsAre us ns:=by
 induction ns with
 | nil=>intro us r;show#[lI];exact .nil
 | cons n ns a =>
  intro us r;rw[Qn]at r;cases r with
  | cons b c=>obtain⟨t,e⟩:=b;subst e;exact .cons n t (a c)
section
variable {X:Cx} {e:aI} {te:TE} {lo hi:Option aI} {tl th:TO} {pos p2:Pos}
theorem Vv:PO X af ZpP:=by intro ah s σ H Q I h;rw[evalPart_none];exact aF ⟨af,H,I,.none,h⟩
theorem Vu(h:#[qN]):PO X (U e) (ZsS te):=by intro a s b H Q I hw;rw[evalPart_some];refine thn (h a s b H _ I hw) ?_;rintro u s1 ⟨x,c,d,f,g⟩;obtain⟨i,rfl,q⟩:=g;obtain⟨t,rfl⟩:=f;exact⟨U i,c,d,.int i t,q⟩
def SlR(X:Cx)(r:#[hl]):Prop :=
 ∀ (a:List (ae×aM)) (s:ai) (b:St) (H:Hp) (x:V) (v c d:aa) (lo hi:Option Int) (e:ae) (Q:VK),Inv X a b H s->ZI x v->s.heap.IsSliceOf e c d .none->IsPart c lo->IsPart d hi->r x lo hi H Q ->
  X2 λT id=>typeLookup (.type T) "__getitem__" = pure (U #[ep,id])/\s.TypeIs v T/\#[jq] (getItem v #[bA]) #[i1] X.xe s
def tSl(r:#[hl])(te:TE)(tl th:TO):TE:=λa H Q=>te a H λx b=>tl a b λl c=>th a c λu d=>r x l u d Q
theorem Wq{r:#[hl]}(hr:SlR X r)(he:#[qN])(hl:PO X lo tl)(hu:PO X hi th):PE X (.Subscript e (.Slice lo hi af p2) pos) (tSl r te tl th):=by intro c s d H Q I h;refine Subscript_ #[du,he,c,d];rintro v j ⟨x,k,m,n,o⟩;refine wpAny_Slice (thn (hl c j d k _ m o) λf p ⟨l,t,w,y,z⟩=>thn (hu c p d t _ w z) ?_);rintro g a ⟨u,i,A,B,C⟩;rw[evalPart_none];refine aF ?_;have D:Inv X c d i { a with heap:=a.heap.push { cls:=.type "slice",data:=.fields #[f,g,.none] } }:=A.kept (t':=a.toks) λb ob q=>Qc _ q;obtain⟨T,id,E,F,G⟩:=hr c { a with heap:=a.heap.push { cls:=.type "slice",data:=.fields #[f,g,.none] } } d i x v f g l u a.heap.objs.size Q D n (aH.IsSliceOf.new ..) y B C;show #[jq] (subscriptTail e (.Slice lo hi af p2) v (.ref a.heap.objs.size)) (EP X c d Q) X.xe { a with heap:=a.heap.push { cls:=.type "slice",data:=.fields #[f,g,.none] } };exact tail_any (ops:=[.ref a.heap.objs.size,v]) F E G #[O]
noncomputable def Xd(xs:#[m7])(lo hi:#[bL]):List V:=(xs.drop (HT.sIx xs.length 0 lo)).take #[oG,xs.length,hi]
theorem Zjr(xs:#[m7])(lo hi:#[bL]):(Xd xs lo hi).length<=xs.length:=by unfold Xd;rw[Qv,QT];lia
universe E
noncomputable def ixN(n:Nat)(i:Int):Option Nat:=if 0<=i then (if i<n then U i.toNat else af) else if -(n:Int)<=i then U (i+n).toNat else af
noncomputable def atI{α:Type}(xs:List α)(i:Int):Option α:=(ixN xs.length i).bind λj=>xs[j]?
theorem Ni{n:Nat}{i:Int}{j:Nat}(h:ixN n i=U j):seqIndex? i n=U j/\j<n /\ -(n:Int)<=i/\i<n:=by
 unfold ixN at h;by_cases b:0<=i
 ·rw[if_pos b]at h;by_cases a:i<n
  ·rw[if_pos a]at h;have e:i.toNat=j:=Qp h;exact⟨by rw[seqIndex_of b a,e],by lia,by lia,a⟩
  ·show#[pC,a];cases h
 ·show#[pC,b];by_cases a:-(n:Int)<=i
  ·rw[if_pos a]at h;have e:(i+n).toNat=j:=Qp h;exact⟨by rw[seqIndex_neg #[2] a,e],by lia,a,by lia⟩
  ·show#[pC,a];cases h
theorem RM{α:Type}{xs:List α}{i:Int}{v:α}(h:atI xs i=U v):∃j,seqIndex? i xs.length=U j/\xs[j]? = U v/\j<xs.length /\ -(xs.length:Int)<=i/\i<xs.length:=by
 unfold atI at h;cases e:ixN xs.length i with
 | none=>rw[e]at h;cases h
 | some j=>rw[e]at h;obtain⟨a,b,c,d⟩:=Ni e;exact⟨j,a,h,b,c,d⟩
theorem XA{α:Type}{xs:List α}{j:Nat}{v:α}(h:xs[j]? = U v):atI xs (j:Int)=U v:=by
 have hj:j<xs.length:=(Qd.mp h).1;have e:ixN xs.length (j:Int)=U j:=by unfold ixN;show#[pt,#[2],#[2]];simp
 unfold atI;rw[e];exact h
theorem ZnW{α:Type}(xs:List α)(v:α):atI (xs++[v]) (-1)=U v:=by
 have a:(xs++[v]).length=xs.length+1:=by simp
 have e:ixN (xs++[v]).length (-1)=U xs.length:=by unfold ixN;rw[a,if_neg #[6],if_pos #[2]];congr 1;lia
 unfold atI;rw[e];show (xs++[v])[xs.length]? = U v;simp
def Zqo(b:aI):Prop:=∀o i,subscripted b false o i=operate [o,i] (getItem o i)
def IxR(X:Cx)(r:R2):Prop :=
 ∀ (value a:aI) (b:List (ae×aM)) (s:ai) (c:St) (H:Hp) (x y:V) (v u:aa) (Q:VK),Inv X b c H s->ZI x v->ZI y u->r x y H Q ->
  subscripted a false v u=operate [v,u] (getItem v u)->#[jq] (subscriptTail value a v u) (EP X b c Q) X.xe s
def MtR(X:Cx)(id:String)(r:#[c3]):Prop :=
 ∀ (a:List (ae×aM)) (s:ai) (b:St) (H:Hp) (x:V) (c:List V) (v:aa) (d:List aa) (Q:VK),Inv X a b H s->ZI x v->ZK c d->r x c H Q ->
  #[jq] (call #[ep,id] (v::d)) #[i1] X.xe s
section
variable {X:Cx} {a b:aI} {ta tb:TE} {pos:Pos}
theorem ZJ{r:R2}(hr:IxR X r)(ha:#[jD])(hb:#[nl])(hs:Zqo b):PE X (.Subscript a b pos) #[qX]:=by intro c s d H Q I h;exact Subscript_ (RT ha hb I h λv u e x y f g i j q=>hr a b c e d f x y v u Q g i j q (hs _ _))
inductive RIx (S:ae->List V->Prop) (x y:V) (B:V->Prop):Prop where
 | mk (p:ae) (xs:List V) (i:Int) (v:V) (a:x=.ref p) (b:y=.int i) (c:S p xs) (d:atI xs i=U v) (q:B v)
def Nh(K:#[7]):R2:=λx y H Q=>RIx (SqL K H) x y (λv=>Q v H)
def Ng(K:#[7]):R2:=λx y H Q=>RIx (SqT K H) x y (λv=>Q v H)
def Ztr:R2:=λx y H Q=>X3 λz i c=>x=.str z/\y=.int i/\z.length<=aq/\atI z.cps.toList i=U c/\Q (.str #[aK]) H
theorem Zpd:IxR X (Nh X.K):=by
 intro value e9 d s e H x y v u Q I m n h f;obtain⟨p,xs,i,z,rfl,rfl,o,A,q⟩:=h;cases m;show#[dP,t,n];show#[ff,r,b,hz,o];obtain⟨j,a,B,h3,C,D⟩:=RM A;show#[vx,w,g,E,r.get,B];have F:=r.length;have hn:=Vy;have k:EP X d e Q w s:=⟨z,H,I,E,q⟩;by_cases l:0<=i
 ·have c:i.toNat=j:=by rw[seqIndex_of l D]at a;exact Qp a
  exact item_listR b.isList l #[2] #[p1,c] k f
 ·have c:(i+(its.toArray.size:Int)).toNat=j:=by rw[seqIndex_neg #[2] C]at a;rw[QL,<- F];exact Qp a
  exact subscriptTail_builtinR (x:=w) b.isList.typeIs slot_list_getitem.lookup
   (wpAny_getItem_list_neg (Q:=λr G=>r=w/\EP X d e Q r G) b.isList #[2] (by rw[QL]<;>lia) #[2] #[p1,c] ⟨rfl,k⟩) f
theorem Zrf:IxR X (Ng X.K):=by
 intro value e9 a s b H x y v u Q I d e h f;obtain⟨p,xs,i,z,rfl,rfl,g,k,q⟩:=h;cases d;show#[dP,t,e];show#[pH,r,c,hz,g];obtain⟨j,l,m,h3,h4,h5⟩:=RM k;show#[vx,w,n,o,r.get,m];have A:=r.length;have hn:=Vy;have B:EP X a b Q w s:=⟨z,H,I,o,q⟩;exact subscriptTail_builtinR (x:=w) c.typeIs slot_tuple_getitem.lookup
  (getItem_tuple (j:=j) (Q:=λr C=>r=w/\EP X a b Q r C) c #[2] #[2] (by rw[QL,<- A];exact l) #[dq,n] ⟨rfl,B⟩) f
theorem Vt:IxR X Ztr:=by
 intro value e9 ah s σ H x y v u Q I b d h e;obtain⟨z,i,c,rfl,rfl,hz,f,q⟩:=h;show#[dP,t,b];show#[dP,t',d];obtain⟨j,a,g,h3,k,l⟩:=RM f;have m:#[rn]:=by simp[ak.length]
 rw[m]at a k l;have hn:=Vy;exact tail_any (typeIs_str s z t) slot_str_getitem.lookup (getItem_str (c:=c) (by have n:decide (i < -(2 ^ 63:Int))=false:=#[hN];have o:decide (i>=2 ^ 63)=false:=#[hN];rw[n,o,Bool.or_false]) #[p1,a] #[e5,#[aK],q]) e
theorem ZkN(its:#[az])(n j:Nat)(u:aa):aM.mapSeq (·.setIfInBounds j u) { cls:=.type "list",data:=.seq its.toArray n }={ cls:=.type "list",data:=.seq (its.set j u).toArray n }:=by simp[aM.mapSeq]
theorem Inv.lst{a:#[L]}{b:St}{H:Hp}{s:ai}{p:ae}{xs:#[m7]}(I:#[fd,a,b])(h:H p=U #[iI]) :
  X2 λ(its:List aa) (n:Nat)=>ZK xs its/\s.heap.get? p=U { cls:=.type "list",data:=.seq its.toArray n }/\xs.length<=aq:=by
 obtain⟨z,its,n,r,e⟩:=I.hok p _ h;exact⟨its,n,r,e,z⟩
theorem Inv.lstUpd{c:#[L]}{d:St}{H:Hp}{s:ai}{p:ae}{xs ys:#[m7]}{its its':#[az]}{n a:Nat}{f:aM->aM}(I:#[fd,c,d])(h:H p=U #[iI])
  (i:s.heap.get? p=U { cls:=.type "list",data:=.seq its.toArray n }) (g:f { cls:=.type "list",data:=.seq its.toArray n }={ cls:=.type "list",data:=.seq its'.toArray a }) (r:ZK ys its') (hz:ys.length<=aq) (t:Nat) :
  Inv X c d #[gB,p,ys] { s with heap:=s.heap.update p f,toks:=t }:=by
 have e:(s.heap.update p f).get? p=U { cls:=.type "list",data:=.seq its'.toArray a }:=by rw[QX f i (by rw[g]<;>rfl),g]
 refine I.write (x:=p) (e:=p) (by rw[h];trivial) #[8] (λb u j q=>(Qab _ _ (Ne.symm j)).trans q) ⟨_,e⟩ ?_;exact⟨hz,its',a,r,e⟩
def ZsZ:V->V->V->Hp->(Hp->Prop)->Prop:=λo i v H Q=>X4 λp xs k j=>o=.ref p/\i=.int k/\H p=U #[iI]/\ixN xs.length k=U j/\Q (upd H p (.lst (xs.set j v)))
theorem Nf:RZ X ZsZ:=by
 intro w s x H o i v ov iv u Q I y z A h;obtain⟨p,B,k,j,rfl,rfl,e,C,q⟩:=h;cases y;show#[dP,t,z];obtain⟨its,n,r,b,D⟩:=I.lst e;obtain⟨a,h2,f,g⟩:=Ni C;have c:=r.length;have hn:=Vy;have l:Inv X w x (upd H p (.lst (B.set j v))) { s with heap:=s.heap.update p (aM.mapSeq (·.setIfInBounds j u)) } :=
  I.lstUpd e b (ZkN its n j u) (r.set A j) #[dp,List.length_set,D] s.toks
 by_cases m:0<=k
 ·have d:k.toNat=j:=by rw[seqIndex_of m g]at a;exact Qp a
  exact PySem.W.ki_setAt b m #[2] (by rw[QL,<- c];exact g) #[rV]
 ·have d:(k+(its.toArray.size:Int)).toNat=j:=by rw[seqIndex_neg #[2] f]at a;rw[QL,<- c];exact Qp a
  exact PySem.W.ki_setBack b #[2] (by rw[QL,<- c];exact f) #[2] #[rV]
theorem ZiZ(lo a:#[bL])(n:Nat):#[uu].1=((HT.sIx n 0 lo:Nat):Int)/\#[uu].2.1=((HT.sIx n n a:Nat):Int)/\#[uu].2.2=1:=by
 refine⟨?_,?_,rfl⟩
 ·cases lo with
  | none=>simp[cV,HT.sIx]
  | some i =>
   show#[ik];by_cases h:i<0
   ·simp only[h,if_true]<;>lia
   ·simp only[h,if_false]<;>lia
 ·cases a with
  | none=>simp[cV,HT.sIx]
  | some i =>
   show#[ik];by_cases h:i<0
   ·simp only[h,if_true]<;>lia
   ·simp only[h,if_false]<;>lia
theorem Zhz(its:#[az])(lo a:#[bL]):slicePick its.toArray lo a af=((its.drop (HT.sIx its.length 0 lo)).take #[oG,its.length,a]).toArray:=by obtain⟨b,c,d⟩:=ZiZ lo a its.toArray.size;unfold slicePick;rw[b,c,d];simp only[sliceRange_one,pick_run,List.size_toArray]<;>rfl
inductive RSl (K:#[7]) (x:V) (lo hi:#[bL]) (H:Hp) (B:ae->Hp->Prop):Prop where
 | mk (a:ae) (xs:List V) (e:x=.ref a) (s:SqL K H a xs) (q:∀p,H p=af->B p (upd H p (.lst (Xd xs lo hi))))
def Nd(K:#[7]):V->Option Int->Option Int->Hp->VK->Prop:=λx lo a H Q=>RSl K x lo a H λp b=>Q #[ir] b
theorem Zqn:SlR X (Nd X.K):=by intro ah s σ H x v vl vu lo d sl Q I f g i j h;obtain⟨a,c,rfl,k,q⟩:=h;cases f;obtain⟨its,r,e,l⟩:=I.list k;have m:=r.length;refine⟨"list",_,slot_list_getitem.lookup,e.isList.typeIs,?_⟩;refine wpAny_getItem_list_slice e.isList g i j .none #[4] ?_ (by rw[QL]<;>lia);rw[Zhz,<- m];refine⟨.ref s.heap.objs.size,_,I.laid (t':=#[uj]) (o:=.lst (Xd c lo d)) #[oX,ob,q] #[ih] ?_,rfl,q _ #[ap]⟩;exact⟨Qi (Zjr c lo d) l,_,0,(r.drop (HT.sIx c.length 0 lo)).take #[oG,c.length,d],Qr _ rfl⟩
noncomputable def Xo:V->Bool
 | .non=>true
 | .bl _=>true
 | .int _=>true
 | .str _=>true
 | _=>false
noncomputable def eqV:V->V->Bool
 | .non,.non=>true
 | .bl a,.bl b=>a == b
 | .bl a,.int b=>(if a then 1 else 0) == b
 | .int a,.bl b=>a == (if b then 1 else 0)
 | .int a,.int b=>a == b
 | .str a,.str b=>a == b
 | _,_=>false
theorem Zrq{A:aB}{s:ai}{y x:V}{u v:aa}(e:ZI y u)(c:ZI x v)(g:Xo y=true)(f:Xo x=true):SeqAt.EqAt A s u v (eqV y x):=by
 cases y with
 | non =>
  cases e;cases x with
  | non=>cases c;exact SeqAt.EqAt.same _
  | bl b=>cases c;exact SeqAt.EqAt.none_bool b
  | int b=>obtain⟨t,rfl⟩:=c;exact SeqAt.EqAt.none_int b t
  | str b=>obtain⟨t,rfl⟩:=c;exact SeqAt.EqAt.none_str b t
  | _=>exact #[j4]
 | bl a =>
  cases e;cases x with
  | non=>cases c;exact SeqAt.EqAt.bool_none a
  | bl b=>cases c;exact SeqAt.EqAt.bool_bool a b
  | int b=>obtain⟨t,rfl⟩:=c;exact SeqAt.EqAt.bool_int a b t
  | str b=>obtain⟨t,rfl⟩:=c;exact SeqAt.EqAt.bool_str a b t
  | _=>exact #[j4]
 | int a =>
  show#[dP,d,e];cases x with
  | non=>cases c;exact SeqAt.EqAt.int_none a d
  | bl b=>cases c;exact SeqAt.EqAt.int_bool a d b
  | int b=>obtain⟨t,rfl⟩:=c;exact SeqAt.EqAt.int_int a d b t
  | str b=>obtain⟨t,rfl⟩:=c;exact SeqAt.EqAt.int_str a d b t
  | _=>exact #[j4]
 | str a =>
  show#[dP,d,e];cases x with
  | non=>cases c;exact SeqAt.EqAt.str_none a d
  | bl b=>cases c;exact SeqAt.EqAt.str_bool a d b
  | int b=>obtain⟨t,rfl⟩:=c;exact SeqAt.EqAt.str_int a d b t
  | str b=>obtain⟨t,rfl⟩:=c;exact SeqAt.EqAt.str_str a d b t
  | _=>exact #[j4]
 | _=>exact absurd (show false=true from g) Qt
noncomputable def eqU(x:V)(u:aa):Bool:=match u with
 | .none=>eqV .non x
 | .bool b=>eqV (.bl b) x
 | .int i _=>eqV (.int i) x
 | .str z _=>eqV (.str z) x
 | _=>false
theorem Nc{x y:V}{u:aa}(r:ZI y u)(f:Xo y=true):eqU x u=eqV y x:=by
 cases y with
 | non=>cases r;rfl
 | bl b=>cases r;rfl
 | int i=>obtain⟨t,rfl⟩:=r;rfl
 | str z=>obtain⟨t,rfl⟩:=r;rfl
 | _=>exact #[j4]
theorem RL{x:V}:∀ {xs:List V} {us:List aa},ZK xs us->xs.all Xo=true->us.any (eqU x)=xs.any λy=>eqV y x
 | _,_,.nil,_=>rfl
 | y::xs,u::us,.cons r t,f=>by rw[List.all_cons,QW]at f;rw[QaL,QaL,Nc r f.1,RL t f.2]
theorem RK{A:aB}{s:ai}{x:V}{v:aa}(a:ZI x v)(b:Xo x=true):∀ {xs:List V} {us:List aa},ZK xs us->xs.all Xo=true->∀u∈us,SeqAt.EqAt A s u v (eqU x u)
 | _,_,.nil,_=>λu hu=>by cases hu
 | y::xs,u::us,.cons r t,f=>λc hu=>by
  rw[List.all_cons,QW]at f;rcases QJ.mp hu with rfl|hu
  ·rw[Nc r f.1];exact Zrq r a f.1 b
  ·exact RK a b t f.2 c hu
noncomputable def inV(x:V)(xs:#[m7]):Bool:=xs.any λy=>eqV y x
def rIn(K:#[7])(a:Bool):R2:=λx y H Q=>X2 λp xs=>y=.ref p/\#[gm,K,xs]/\Xo x=true/\xs.all Xo=true/\Q (.bl (if a then !inV x xs else inV x xs)) H
theorem ZmM:OpR X (aS .In) (rIn X.K false):=by
 show#[gs,b,d];show#[o6,p,xs,hq,c,fs];cases d;rcases hq with hq|hq
 ·show#[ff,r,a,e,hq];refine SeqAt.in_listAt (eqU x) a.isList #[n3] ⟨.bl _,H,I,rfl,?_⟩;show#[h8]
 ·show#[pH,r,a,e,hq];refine SeqAt.in_tupleAt (eqU x) a #[n3] ⟨.bl _,H,I,rfl,?_⟩;show#[h8]
theorem ZiV:YU X #[m2] (λxs H Q=>X2 λp ys=>xs=#[js]/\#[gm,X.K,ys]/\Q (.int ys.length) H):=by
 show#[aE];show#[pO,p,ys,hq];show#[es,d];have hn:=Vy;rcases hq with hq|hq
 ·show#[ff,a,b,e,hq];have c:=a.length;exact Calls.call_len_list b.isList #[a8] ⟨.int ys.length,H,I.tok _,#[sa],q⟩
 ·show#[pH,a,b,e,hq];have c:=a.length;exact len_tuple b #[a8] ⟨.int ys.length,H,I.tok _,#[sa],q⟩
theorem WL:YU X #[m2] (λxs H Q=>∃z,xs=[.str z]/\z.length<=aq/\Q (.int z.length) H):=by intro ah s σ H xs us Q I r h;obtain⟨z,rfl,hz,q⟩:=h;obtain⟨u,rfl,t,rfl⟩:=Xq r;have hn:=Vy;exact len_str #[2] ⟨.int z.length,H,I.tok _,#[E],q⟩
theorem Zjh:YU X #[cp] (λxs H Q=>X2 λp ys=>xs=#[js]/\#[gm,X.K,ys]/\∀l,H l=af->Q #[cT] #[gB,l,ys]):=by
 show#[pI,v,w,xs];show#[pO,p,ys,hq];show#[es,x];have m:∀ (its:List aa),ZK ys its->ys.length<=aq->∀ (a:aH) (c:Nat),#[gt,t,a.get?] ->
   a.get? s.heap.objs.size=U { cls:=.type "list",dict:=af,data:=.seq its.toArray c,slots:=#[] }->EP X v w Q #[aP] { s with heap:=a }:=λits d f a c g e =>
  ⟨.ref s.heap.objs.size,_,I.laid (t':=#[uj]) g #[ih] (show Z8 X.prog X.w _ a _ #[mb] from⟨f,its,c,d,e⟩),rfl,q _ #[ap]⟩
 rcases hq with hq|hq
 ·show#[ff,d,i,f,hq];have y:=d.length;obtain⟨o,j,k,n,hd⟩:=i.isList;exact call_list_seq p #[8] j k hd #[qm] #[a8]
 ·show#[pH,d,i,f,hq];have y:=d.length;obtain⟨o,j,k,n,hd⟩:=i;exact call_list_seq p #[kn] j k hd #[qm] #[a8]
def tyV(K:#[7])(T:String)(x:V)(H:Hp):Prop:=match x with
 | .str _=>T = "str"
 | .int _=>T = "int"
 | .ref p=>(T = "list"/\∃b,SqL K H p b)\/(T = "tuple"/\∃o,K.lookup p=U o/\o.cls=.type "tuple"/\o.dict=af) \/
   (T = "dict"/\((∃a,H p=U (.dK a))\/∃a,H p=U (.dT a)))\/(T = "set"/\X2 λS n=>H p=U (.set S n))
 | _=>False
theorem Nb{h:#[L]}{j:St}{H:Hp}{s:ai}{T:String}{x:V}{v:aa}(I:#[fd,h,j])(r:ZI x v)(ty:tyV X.K T x H) :
  s.TypeIs v T/\∀a,v=.ref a->∃ob,s.heap.get? a=U ob/\ob.dict=af:=by
 cases x with
 | str z=>obtain⟨t,rfl⟩:=r;cases (show T = "str" from ty);exact⟨typeIs_str s z t,λ_ e=>nomatch e⟩
 | int i=>obtain⟨t,rfl⟩:=r;cases (show T = "int" from ty);exact⟨typeIs_int s i t,λ_ e=>nomatch e⟩
 | ref p =>
  cases r;rcases ty with⟨rfl,xs,k⟩|⟨rfl,o,b,l,hd⟩|⟨rfl,b⟩|⟨rfl,S,n,b⟩
  ·obtain⟨its,_,g,_⟩:=I.list k;refine⟨g.isList.typeIs,λa e=>?_⟩;cases e;obtain⟨o,n,e,c,hd,_⟩:=g;exact⟨o,e,hd⟩
  ·refine⟨⟨o,I.kIn p o b,l⟩,λa e=>?_⟩;cases e;exact⟨o,I.kIn _ o b,hd⟩
  ·have z:∃o,s.heap.get? p=U o/\o.ExactDict:=by
    rcases b with⟨d,b⟩|⟨d,b⟩
    ·show#[jj]
    ·show#[jj]
   show#[gU,o,e,ex,z];show#[iR]
  ·obtain⟨o,_,_,_,e,ex,_⟩:=I.hok p _ b;show#[iR]
 | _=>exact False.elim ty
def Zts(K:#[7])(T:String)(r:#[c3])(to:TE):TE:=λb H Q=>to b H λx a=>tyV K T x a/\r x [] a Q
def tBM(K:#[7])(T:String)(r:#[c3])(to:TE)(t:TA):TE:=λa H Q=>to a H λx b=>tyV K T x b/\t a b λxs c=>r x xs c Q
variable {o e:aI} {es:List aI} {to:TE} {t:TA} {name:ak} {bn bg:Pos} {T id:String} {r:V->List V->Hp->VK->Prop}
theorem ZrK(e:PlainAttrs T)(slot:#[t8])(f:#[bk])(hm:MtR X id r)(g:#[sT])
  (i:#[cM]:=by rfl) (j:#[da]=true:=by rfl):PE X (.Call (.Attribute o name bn) [] [] bg) (Zts X.K T r to):=by
 show#[dU,a,b,Q];refine du i j #[du,g,a,b];rintro v k ⟨x,l,c,d,ty,m⟩;obtain⟨n,p⟩:=Nb c d ty;exact⟨T,id,e,slot,f,n,p,Calls.callWith_builtin rfl (PySem.evalArgs_none (hm a k b l x [] v [] Q c d .nil m))⟩
theorem YF(g:PlainAttrs T)(slot:#[t8])(i:#[bk])(hm:MtR X id r)(j:#[sT])(ha:#[69])
  (k:#[cM]:=by rfl)
  (l:((bb bg #[hy]).all #[uf]&&#[ht].all #[k1]
   && decide #[jU])=true:=by rfl)
  (m:#[da]=true:=by rfl) (n:#[i]:=by rfl) (p:#[87]:=by rfl) :
  PE X #[kA] (tBM X.K T r to t):=by
 show#[dU,a,b,Q];refine wpAny_Call_method_late k l m rfl #[du,j,a,b];rintro v q ⟨x,u,c,d,ty,w⟩;obtain⟨y,z⟩:=Nb c d ty;refine⟨T,id,g,slot,i,y,z,?_⟩;have f:=ha bg a q b u _ c w;rw[n]at f ⊢;refine Calls.callWith_builtin (by show (false||(bb bg (aC es X.env)).any #[iw])=false;rw[p]<;>rfl) (Calls.evalArgs_plain ?_);exact thn f λA B ⟨C,D,E,F,G⟩=>hm a B b D x C v A Q E d F G
universe E
def MtM(X:Cx)(id:String)(r:#[c3]):Prop :=
 ∀ (a:List (ae×aM)) (s:ai) (b:St) (H:Hp) (x:V) (c:List V) (v:aa) (d:List aa) (Q:VK),Inv X a b H s->ZI x v->ZK c d->r x c H Q ->
  #[jq] (call #[ep,id] (v::d)) #[i1] X.xe s
theorem ZK.one:∀ {x:V} {us:List aa},ZK [x] us->∃u,us=[u]/\ZI x u
 | _,_,.cons r .nil=>⟨_,rfl,r⟩
theorem ZK.two:∀ {x y:V} {us:List aa},ZK [x,y] us->X2 λu v=>us=[u,v]/\ZI x u/\ZI y v
 | _,_,_,.cons r (.cons q .nil)=>⟨_,_,rfl,r,q⟩
theorem ZK.zero:∀ {us:List aa},ZK [] us->us=[]
 | _,.nil=>rfl
theorem ZK.reverse{xs:#[m7]}{us:#[az]}(h:ZK xs us):ZK xs.reverse us.reverse:=by
 induction h with
 | nil=>exact .nil
 | cons r t a=>rw[QaD,QaD];exact ZK.append a (.cons r .nil)
section
variable {X:Cx} {ah:List (ae×aM)} {σ:St} {H:Hp} {s:ai} {l b:ae} {xs ys zs:List V}
theorem Inv.lset{its its':#[az]}{n:Nat}{f:Array aa->Array aa}{t':Nat}(I:#[k])(a:H l=U #[iI])
  (e:s.heap.get? l=U { cls:=.type "list",data:=.seq its.toArray n }) (b:f its.toArray=its'.toArray) (c:ZK ys its') (hz:ys.length<=aq) :
  Inv X ah σ #[gB,l,ys] { s with heap:=s.heap.update l (aM.mapSeq f),toks:=t' }:=by
 have q:=PySem.IsL.update e f;rw[b]at q;refine I.write (x:=l) (e:=l) (by rw[a];exact trivial) #[8] (λb' u d g=>(Qab s.heap (aM.mapSeq f) (Ne.symm d)).trans g) ⟨_,q⟩ ?_;exact⟨hz,its',_,c,q⟩
theorem Inv.lnew{its:#[az]}{t':Nat}(I:#[k])(a:ZK ys its)(hz:ys.length<=aq) :
  Inv X ah σ #[gB,s.heap.objs.size,ys] { s with heap:=s.heap.push { cls:=.type "list",data:=.seq its.toArray },toks:=t' } :=
 I.laid #[k3] #[ih] ⟨hz,its,0,a,Qr _ rfl⟩
theorem Inv.fresh(I:#[k]):H s.heap.objs.size=af:=#[qS]
theorem Inv.lstM(I:#[k])(a:H l=U #[iI]):xs.length<=aq/\X2 λ(its:List aa) (n:Nat)=>ZK xs its/\xs.length=its.length/\s.heap.get? l=U { cls:=.type "list",data:=.seq its.toArray n }:=by obtain⟨z,its,n,r,e⟩:=I.hok l _ a;exact⟨z,its,n,r,r.length,e⟩
universe E
section
variable {X:Cx}
inductive RAp (x:V) (vs:#[m7]) (H:Hp) (B:Hp->Prop):Prop where
 | mk (l:ae) (xs:List V) (y:V) (a:x=.ref l) (b:vs=[y]) (c:H l=U (.lst xs)) (d:xs.length<aq) (q:B (upd H l (.lst (xs++[y]))))
def Zqs:V->List V->Hp->VK->Prop:=λx vs H Q=>RAp x vs H λa=>Q .non a
theorem Xz:MtM X "list.append" Zqs:=by intro ah s σ H x vs v us Q I b c h;obtain⟨l,xs,y,rfl,rfl,a,hz,q⟩:=h;cases b;obtain⟨u,rfl,d⟩:=c.one;obtain⟨z,its,n,r,hl,e⟩:=I.lstM a;refine call_meets F.slot_list_append ⟨_,e,rfl⟩ F.entry_list_append (F.args_list_append_2 _ _) (PySem.list_append l its.toArray n u #[eM,QL]) ⟨e,?_⟩;refine⟨.non,_,I.lset (its':=its++[u]) a e #[4] (r.append (.cons d .nil)) ?_,rfl,q⟩;rw[Qe,Qy];lia
def ZoE:V->List V->Hp->VK->Prop:=λx vs H Q=>X2 λl xs=>x=.ref l/\vs=[]/\H l=U #[iI]/\Q .non #[gB,l,xs.reverse]
theorem ZkL:MtM X "list.reverse" ZoE:=by intro ah s σ H x vs v us Q I b c h;obtain⟨l,xs,rfl,rfl,a,q⟩:=h;cases b;have d:=c.zero;subst d;obtain⟨z,its,n,r,hl,e⟩:=I.lstM a;refine call_meets F.slot_list_reverse ⟨_,e,rfl⟩ F.entry_list_reverse (F.args_list_reverse_1 _) (AutoSeq1.list_reverse_list_0 l its.toArray n #[eM,QL]) ⟨e,?_⟩;refine⟨.non,_,I.lset (its':=its.reverse) a e #[4] r.reverse ?_,rfl,q⟩;rw[List.length_reverse];lia
def Ztx:R2:=λx y H Q=>X4 λl b xs zs=>x=.ref l/\y=.ref b/\H l=U #[iI]/\H b=U #[ie]/\xs.length+zs.length<=aq/\∀p,H p=af->Q #[ir] (upd H p (.lst (xs++zs)))
theorem Vs:OpR X #[s7] Ztx:=by
 show#[gs,c,d];obtain⟨l,b,xs,zs,rfl,rfl,f,g,hz,q⟩:=h;cases c;cases d;obtain⟨z,its,n,r,hl,e⟩:=I.lstM f;obtain⟨z2,a,n2,i,dF,j⟩:=I.lstM g;refine PySem.P.add_list e j ?_ #[pU,QL,QL];have k:its.toArray++a.toArray=(its++a).toArray:=by simp
 rw[k];exact⟨.ref _,_,I.lnew (t':=#[uj]) (r.append i) #[eM,Qe],rfl,q _ I.fresh⟩
universe E
universe E.L2
namespace Att
open PySem PySem.W PySem.Calls PyProof.Rows
theorem Zgd{P:Params}{h:aH}:∀ (ns:List Int) (vs:List aa),WellAll P h vs (ns.map WData.int)->IntsAre vs ns:=by
 intro ns;induction ns with
 | nil=>intro vs w;show#[vv,List.map_nil,w];exact .nil
 | cons n ns c =>
  intro vs w;rw[Qn]at w;cases w with
  | cons a b=>cases a;exact .cons _ _ (c _ b)
theorem Zmi{l:OpenLaw}{n:Nat}(hn:l.most=U n){P:Params}{h:aH}{args:List WData}{e:#[az]}
  (f:l.row.toRowW.claim.pre args=true) (i:WellAll P h e args) :
  X3 λa vs ns=>e=[aa.ref a]/\args=[WData.list (ns.map WData.int)]/\h.get? a=U { cls:=.type "list",data:=.seq vs.toArray }/\IntsAre vs ns/\ns.length<=n:=by
 have j:WShape.hasAll [] args [.list .int]=true:=(pre_splitW f).1;have g:l.pre.holds [] { args:=args }=true:=(pre_splitW f).2;obtain⟨d,r,rfl,k,m⟩:=hasAllW_cons j;obtain rfl:=hasAllW_nil m;obtain⟨xs,rfl,o⟩:=hasW_list k;obtain⟨ns,rfl⟩:=items_int o;have p:ns.length<=n:=by
  unfold OpenLaw.pre at g;have b:(WTm.not (.lt (.lit #[n9]) (.len (.arg 0)))).holds [] { args:=[.list (ns.map .int)] }=true:=by have b:=(holds_andW g).1;rw[hn]at b;exact b
  have c:=condW_of b (w_not (w_lt w_lit (w_len_list (w_arg rfl))));rw[Qa]at c;refine Nat.le_of_not_lt λq=>?_;have s:(n:Int)<#[gz,ns.length]:=by lia
  first
   | (rw[decide_eq_true s]at c;exact absurd c #[6])
   | (simp at c;lia)
 cases i with
 | cons t u =>
  cases u;cases t with
  | list v w=>exact⟨_,_,ns,rfl,rfl,v,Zgd ns _ w,p⟩
theorem Zm3(l:OpenLaw)(args:List WData):l.row.toRowW.claim.post args #[nE] args=true :=
 postW_of (r:=l.row.toRowW) (X:=(true == true))
  (show WShape.has [] #[nE] .bool=true by first|rfl|decide|simp[WShape.has,WShape.arms,WShape.armsAll])
  (show (WTm.eq .res (.lit #[nE])).value [] { args:=args,res:=U #[nE],after:=args }=U (.bool (true == true)) from w_eq_bool (w_res rfl) w_lit) rfl
theorem attach_call{l:OpenLaw}{n:Nat}{q:aw}{j:#[T]}{k:#[kf]}{m:aD->aH->Prop}{d:DefRec}
  (hn:l.most=U n) (s:#[mw])
  (call:∀ (w:aD) (s₀ b:ai) (mg g:ak->Option aa) (fa:ae) (o:aM) (h c i:aa) (a:ae) (vs:List aa) (ns:List Int),
   Ground q j [] k w s₀ mg g b.heap->m w b.heap ->
   b.heap.get? fa=U o->o.data=.func (docDef d.name d.params d.body d.scope h c i)->b.heap.CodeRec c d.name->mg d.name=U (.ref fa) ->
   b.heap.get? a=U { cls:=.type "list",data:=.seq vs.toArray }->IntsAre vs ns->ns.length<=n->b.gens = #[] ->
   bW (ay l.prog w) callerA #[hZ] (λr e=>r=.ok (.ret #[nE])/\OldK b.heap e.heap/\e.os=b.os/\AllBare e.gens) b) :
  WalkO q j k m l.row.toRowW d [] #[kb]:=by
 intro w s₀ b mg g G Y fa o h c i t kV u hd v p hmg x args pY as y E8 kK z oW;obtain rfl:t=.none:=Dflts.none p s;obtain rfl:kV=.none:=Dflts.noKw p;obtain⟨a,vs,ns,rfl,rfl,A,B,C⟩:=Zmi hn y z;refine enter_call (codeAny_mono (call w s₀ b mg g fa o h c i a vs ns G Y u (fd_plain hd) v hmg A B C x) λr e D=>?_);obtain⟨rfl,E,F,H⟩:=D;exact⟨.inl ⟨.bool true,.bool true,[],rfl,λ_=>rfl,.bool true,Zm3 l _,λ_=>⟨List.Pairwise.nil,λ_ I=>(nomatch I)⟩⟩,E,F,H⟩
universe E.Att
namespace L2
open PySem PySem.Spec PyProof.Rows
theorem Na:∀ {vs:List aa} {ns:List Int},IntsAre vs ns->ZK #[U] vs
 | _,_,.nil=>.nil
 | _,_,.cons n t h=>.cons #[qx] (Na h)
def RJ(H:Hp):Prop:=∀b,H b=af\/X2 λo xs=>H b=U (.frz o #[iI])
theorem Znb{P:aw}{w:aD}{K:#[7]}{mg A:#[J]}{CX:CXT}{k:Nat}{fa a:ae}{D:bu}{x:ak}{sp:Sp}{c:ai}{vs:#[az]}{ns:#[F]}
  (KX:K.In c.heap) (E:c.heap.Ns aK mg) (hb:c.heap.Ns builtinsNs A) (Q:∀x:ak,x ≠ "__name__"->A x=cH x) (R:c.heap.NoLimit) (S:c.gens = #[])
  (ha:c.heap.get? a=U { cls:=.type "list",data:=.seq vs.toArray }) (G:IntsAre vs ns) (hl:#[qC]) (hr:Zt k callerA)
  (F:∀f:aH,K.In f->f.Ns aK mg->YX P w K mg f CX k fa D [x] sp) (T:∀ (s:ai) (u:aa),BindsTo s D ⟨[u],[]⟩ [(x,u)])
  (W:∀H:Hp,RJ H->SqL K H a #[U]->sp #[jW] H (λv _=>v=.bl true) λ_ _ _=>False)
  (X:∀H e g,CX [] H c #[lP] e g->False) :
  bW #[sx] callerA #[hZ] #[cN] c:=by
 have I:=Na G;have Y:=G.length;have core:∀H:Hp,RJ H->SqL K H a #[U]->HOk P w H c.heap->(∀b,H b≠af->b=a)->(H a≠af->K.lookup a=af) ->
   bW #[sx] callerA #[hZ] #[cN] c:=by
  intro H J Z i L hK;have M:∀ {b:ae} {o:aM},c.heap.get? b=U o->H b=af->#[l8].get? b=U o:=λe n=>ZnH e n;have pV:∀ {b:ae} {o:aM} {j:Array DictEntry} {l:Nat},c.heap.get? b=U o->o.data=.dict j l->H b=af:=λ{b o j l} e d=>by
   cases q:H b with
   | none=>rfl
   | some u=>have B:b=a:=L b #[px,q];show#[fH,B,ha,e];have d':Data.seq vs.toArray _=Data.dict j l:=d;cases d'
  have y:∀ {b:ae} {m:ak->Option aa},c.heap.Ns b m->#[l8].Ns b m:=λ{b m} ⟨o,j,l,e,d,r⟩=>⟨o,j,l,M e (pV e d),d,r⟩;have N:K.In #[l8]:=λb o e=>M (KX b o e) (by
   cases q:H b with
   | none=>rfl
   | some u=>have B:b=a:=L b #[px,q];subst B;rw[hK #[px,q]]at e;cases e)
  have hM:Mod K mg #[l8]:=⟨N,y E,⟨A,y hb,Q⟩,let ⟨mc,h1,h2⟩:=R;⟨mc,y h1,h2⟩⟩;have e0:V1 P w K mg #[l8] callerA [] c H:=⟨rfl,hM,λb o e=>ZpB e,Nat.le_of_eq (Zl9 _ _),trivial,λb hb=>absurd #[pD,hb] #[4],i,.of_eq S⟩;refine codeAny_mono ((F _ N (y E)).run callerA [] c H ⟨[.ref a],[]⟩ #[jW] #[jW] _ _ hr e0 (T c #[cd]) #[ii] (W H J Z)) λr g h=>?_;cases r with
  | error e=>exact(X H e g h).elim
  | ok fl =>
   cases fl with
   | next=>exact False.elim h
   | brk=>exact False.elim h
   | cont=>exact False.elim h
   | ret u =>
    obtain⟨v,H',os,p,un,ya,r',q⟩:=h;have q':v=.bl true:=q;subst q';obtain rfl:u=aa.bool true:=r';refine⟨rfl,OldK.of_keep λb o e=>?_,os,p⟩;cases q:H b with
    | none=>exact un.keep b o e q (by intro z;exact absurd #[pD,z] #[4]) #[4]
    | some u =>
     rcases J b with z|⟨ob,xs,z⟩
     ·show#[e8,q,z,z]
     ·have z2:=un.frzs b ob _ z;obtain⟨O,_⟩:=i b _ z;obtain⟨e2,_⟩:=ya b _ z2;show#[e8,e,O,O];exact e2
 cases C:K.lookup a with
 | some o=>have e:=KX a o C;show#[vv,ha,e];refine core (λ_=>af) (λ_=>.inl rfl) (.inr ⟨_,vs.toArray,_,C,rfl,rfl,rfl,by rw[QL,Y];exact hl,by simpa using I⟩) (λb u z=>by have t:(af:Option HO)=U u:=z;cases t) (λb z=>absurd rfl z) λz=>absurd rfl z
 | none =>
  refine core (λb=>if b=a then U (.frz { cls:=.type "list",data:=.seq vs.toArray } (.lst #[U])) else af) (λb=>?_) (.inl (.inr ⟨{ cls:=.type "list",data:=.seq vs.toArray },if_pos rfl⟩)) #[g5,b,u,z] (λb z=>?_) λ_=>C
  ·by_cases hb:b=a
   ·exact .inr ⟨_,_,if_pos hb⟩
   ·exact .inl (if_neg hb)
  ·by_cases hb:b=a
   ·have t:=(if_pos hb).symm.trans z;cases t;subst hb;exact⟨ha,by rw[Qa];exact hl,vs,_,I,ha⟩
   ·have t:=(if_neg hb).symm.trans z;cases t
  ·by_cases hb:b=a
   ·exact hb
   ·exact absurd (if_neg hb) z
theorem walk_of{l:#[sS]}{n k:Nat}{q:aw}{i:#[T]}{j:#[kf]}{c:aD->aH->Prop}{d:DefRec}{K:Params->#[7]}{CX:aD->CXT}{sp:aD->Sp}{x:ak}
  (hn:l.most=U n) (m:n<=aq) (p:#[mw]) (hr:Zt k callerA)
  (r:∀ (w:aD) (h:aH),c w h->#[hg].In h)
  (F:∀ (w:aD) (mg:ak->Option aa) (fa:ae) (h:aH),#[hg].In h->h.Ns aK mg->mg d.name=U (.ref fa) ->
   ∃b:bu,#[gb,u,b,x] /\
    ∀base:aH,#[hg].In base->base.Ns aK mg->YX l.prog w #[hg] mg base (CX w) k fa b [x] (sp w))
  (t:∀ (w:aD) (H:Hp) (a:ae) (ns:List Int),ns.length<=n->RJ H->SqL #[hg] H a #[U]->sp w #[jW] H (λv _=>v=.bl true) λ_ _ _=>False)
  (y:∀ (w:aD) (H:Hp) (s:ai) (e:aa) (s':ai),CX w [] H s #[lP] e s'->False) :
  PySem.W.WalkO q i j c l.row.toRowW d [] #[kb]:=by
 refine Att.attach_call hn p λw s₀ z mg mb fa o pm cd fE a vs ns G Y ho hd eU hmg A B g C=>?_;have KX:=r w _ Y;obtain⟨b,D,E⟩:=F w mg fa _ KX G.T.g hmg;exact Znb KX G.T.g G.T.b G.T.builtins G.T.nolimit C A B (Qi g m) hr E D (λH I J=>t w H a ns g I J) λH e s'=>y w H z e s'
noncomputable def Z6(s:aL)(j:Nat):aL:=match s with
 | .ClassDef _ _ _ a _ _ _ _ _ _ _=>a.getD j (.Pass ⟨0,0,0,0⟩)
 | _=>.Pass ⟨0,0,0,0⟩
noncomputable def Zm(s:aL):Arguments:=match s with
 | .FunctionDef _ a _ _ _ _ _ _ _ _=>a
 | _=>{ posonlyargs:=[],args:=[],vararg:=af,kwonlyargs:=[],kw_defaults:=[],kwarg:=af,defaults:=[] }
noncomputable def Zj(s:aL):List aL:=match s with
 | .FunctionDef _ _ b _ _ _ _ _ _ _=>b
 | _=>[]
noncomputable def Zb(s:aL):be:=match s with
 | .FunctionDef _ _ _ _ _ _ a _ _ _=>a
 | _=>{ kind:=.function,names:=[],isGenerator:=false,isCoroutine:=false }
abbrev CX0:CXT:=λ_ _ _ _ _ _=>False
abbrev E0:XK:=λ_ _ _=>False
theorem Vr{X:Cx}:Wr CX0 X E0:=λ_ _ _ _ _ _ _ h=>h.elim
structure Fun (K:#[7]) (x aR:ak) (st:aL) (f:ae) (fd:bu):Prop where
 ex:X9 λ(oc:aa) (od:Option ae) (kV fE pm:aa) (an:Option ae) (aN ct:aa) (jD:Array (Option aa)) =>
  fd=PySem.W.fnOf x aR (Zm st) (Zj st) (Zb st) .none kV fE pm an aN ct/\K.lookup f=U ⟨oc,od,.func fd,jD⟩/\PySem.W.codeIn K aN aR=true
 kp:PySem.W.keepIn K #[73]=true
section
variable {P:aw} {w:aD} {K:#[7]} {mg:ak->Option aa} {base:aH}
theorem Fun.ok{x b:ak}{st:aL}{f:ae}{c:bu}{N ps:#[T]}{k:Nat}{sp:Sp}(F:Fun K x b st f c)(S:#[hd])(len:#[P])
  (d:∀ (a:aa) (A:aB) (outer:List Env) (s:ai) (H:Hp) (vs:List V) (Q:VK) (E:XK),Zt k #[en,b]->sp vs H Q E ->
   ∃t,PSs (XT CX0 P w K mg base N b (Zb st) f a A outer s H E).nox (Zj st) t/\t { nx:=λ_ e=>Q .non e,rt:=Q } #[jG] H):YX P w K mg base CX0 (k+1) f c ps sp:=by
 show#[vm,fE,pm,an,a,g];refine Nj lk g S len λA outer s H vs Q E i j=>?_;obtain⟨t,h,q⟩:=d a A outer s H vs Q E i j;exact⟨t,h.nox,q⟩
theorem Fun.binds{x e:ak}{st:aL}{f:ae}{g:bu}{ps:#[T]}(F:Fun K x e st f g)
  (h:∀ (kV a b:aa) (c:Option ae) (d ct:aa) (us:List aa),us.length=ps.length->bindArgs #[dR,e,a,b,c,d] ⟨us,[]⟩=pure #[k5]):YG K g ps []:=by
 show#[vm,a,b,c,d,eU];exact .all (h kV a b c d ct)
theorem ZF{x a:ak}{st:aL}{f:ae}{h:aa}{i d:#[ay]}{j:#[47]}{kV e g b ct:aa}(l:K.lookup f=U ⟨h,i,.func #[dR,a,e,g,d,b],j⟩)
  (c:PySem.W.codeIn K b a=true) (k:#[pZ,K]):Fun K x a st f #[dR,a,e,g,d,b]:=⟨⟨h,i,kV,e,g,d,b,ct,j,rfl,l,c⟩,k⟩
universe E
theorem UV{A:aB}{k:Nat}(hr:Zt k A):A.units+1<cLine:=Nat.lt_of_le_of_lt (Nat.add_le_add_left (by decide:1<=64) _) hr.units
theorem ZA{n:Nat}(h:n<=1000):n<aq:=Nat.lt_of_le_of_lt h #[6]
section
variable {X:Cx}
theorem pv(i:Nat){x:ak}{pos:Pos}(a:#[hz]:=by rfl)(b:#[gN,Vis]:=by first|exact Or.inl rfl|exact Or.inr #[3]|exact Or.inr #[ly])(hd:#[j]:=by decide)
  (c:#[bM]:=by decide):PE X #[a4] (TM i):=R3 a b hd c
universe E
theorem Y3{A B:Prop}(h:B):if false=true then A else B:=by rw[if_neg Qt];exact h
theorem Yz{A B:Prop}(h:A):if true=true then A else B:=by rw[if_pos rfl];exact h
theorem YW{c A B:Prop}[Decidable c](h1:c->A)(h2:¬ c->B):if c then A else B:=by
 by_cases h:c
 ·rw[if_pos h];exact h1 h
 ·rw[if_neg h];exact h2 h
theorem Vq{c A B:Prop}[Decidable c](hc:c)(h:B):if (!decide c)=true then A else B:=by rw[decide_eq_true hc];exact Y3 h
def ZG(H a:Hp):Prop:=#[d3,o,H,a]
theorem ZG.refl(H:Hp):ZG H H:=λ_ _ h=>h
theorem ZG.trans{H d e:Hp}(a:ZG H d)(b:ZG d e):ZG H e:=λc o h=>b c o (a c o h)
theorem ZG.free{H a:Hp}(e:ZG H a){l:ae}(h:a l=Option.none):H l=Option.none:=by
 cases q:H l with
 | none=>rfl
 | some o=>rw[e l o q]at h;cases h
theorem ZG.seq{K:#[7]}{H b:Hp}{a:ae}{xs:#[m7]}(e:ZG H b)(h:SqL K H a xs):SqL K b a xs:=by
 rcases h with(h|⟨o,h⟩)|h
 ·exact .inl (.inl (e _ _ h))
 ·exact .inl (.inr ⟨o,e _ _ h⟩)
 ·exact .inr h
noncomputable def Y7(b:#[qQ]):List (ak×aP)->List (ak×ae)->List (ak×ae)
 | [],a=>a
 | (n,k)::r,a=>if k == .free then Y7 b r ((n,(b.lookup n).getD 0)::a) else Y7 b r a
theorem M0{d:be}{env:Env}(h:∀y∈d.names,y.2=.free->∃c,env.cells.lookup y.1=U c) :
  closureFor d env=pure (Y7 env.cells d.names []):=by
 have go:∀ (a:List (ak×aP)) (b:List (ak×ae)),(∀y∈a,y.2=.free->∃c,env.cells.lookup y.1=U c) ->
   (forIn a b λ(x:ak×aP) (r:List (ak×ae))=>if (x.2 == aP.free)=true then (do let c <- cellOf env x.1;pure (ForInStep.yield ((x.1,c)::r))) else pure (ForInStep.yield r):Sem (List (ak×ae)))=pure (Y7 env.cells a b):=by
  intro a;induction a with
  | nil=>intro b _;rfl
  | cons y r j =>
   intro b f;show#[dz,n,k,y];rw[List.forIn_cons];cases e:(k == aP.free) with
   | false =>
    have g:Y7 env.cells ((n,k)::r) b=Y7 env.cells r b:=by show (if #[c9]=true then _ else _)=_;rw[e];rfl
    rw[g,<- j b λz i=>f z (Qs _ i)];simp only[e,Bool.false_eq_true,if_false,pure_bind]
   | true =>
    have m:k=.free:=by simpa using e
    obtain⟨c,l⟩:=f (n,k) Q6 m;have g:Y7 env.cells ((n,k)::r) b=Y7 env.cells r ((n,c)::b):=by show (if #[c9]=true then _ else _)=_;rw[e,l];rfl
    have o:cellOf env n=pure c:=by unfold cellOf;rw[l]
    rw[g,<- j ((n,c)::b) λz i=>f z (Qs _ i)];simp only[e,if_true,o,pure_bind]
 have q:=go d.names [] h;unfold closureFor;first
  | (rw[show (forIn d.names ([]:List (ak×ae)) _:Sem (List (ak×ae)))=pure (Y7 env.cells d.names []) from q];rfl)
  | (simp only[bind_pure];exact q)
  | exact q
theorem RI(a:#[qQ]):∀ (names:List (ak×aP)) (b:List (ak×ae)) (x:ak) (c:ae),(Y7 a names b).lookup x=U c ->
  (∃y∈names,y.1=x/\y.2=.free/\c=(a.lookup x).getD 0)\/b.lookup x=U c
 | [],b,x,c,h=>.inr h
 | (n,k)::r,b,x,c,h=>by
  by_cases hk:#[c9]=true
  ·have e:#[i4]:=by show (if #[c9]=true then _ else _)=_;rw[if_pos hk]
   rw[e]at h;rcases RI a r _ x c h with⟨y,d,q⟩|q
   ·exact .inl ⟨y,Qs _ d,q⟩
   ·rw[Qas]at q;by_cases f:(x == n)=true
    ·rw[f]at q;have g:x=n:=by simpa using f
     subst g;exact .inl ⟨(x,k),Q6,rfl,by simpa using hk,(Qp q).symm⟩
    ·have g:#[ui]:=by simpa using f
     rw[g]at q;exact .inr q
  ·have e:#[sh]:=by show (if #[c9]=true then _ else _)=_;rw[if_neg hk]
   rw[e]at h;rcases RI a r _ x c h with⟨y,d,q⟩|q
   ·exact .inl ⟨y,Qs _ d,q⟩
   ·exact .inr q
theorem RH(a:#[qQ]):∀ (names:List (ak×aP)) (b:List (ak×ae)) (x:ak),((∃y∈names,y.1=x/\y.2=.free)\/∃c,b.lookup x=U c) ->
  ∃c,(Y7 a names b).lookup x=U c
 | [],b,x,h=>by
  rcases h with⟨y,hy,_⟩|h
  ·cases hy
  ·exact h
 | (n,k)::r,b,x,h=>by
  by_cases hk:#[c9]=true
  ·have e:#[i4]:=by show (if #[c9]=true then _ else _)=_;rw[if_pos hk]
   rw[e];refine RH a r _ x ?_;by_cases d:(x == n)=true
   ·exact .inr ⟨_,by rw[Qas,d]⟩
   ·have f:#[ui]:=by simpa using d
    rcases h with⟨y,hy,q⟩|⟨c,q⟩
    ·rcases QJ.mp hy with rfl|hy
     ·exact absurd #[dq,q.1.symm] d
     ·exact .inl ⟨y,hy,q⟩
    ·exact .inr ⟨c,by rw[Qas,f];exact q⟩
  ·have e:#[sh]:=by show (if #[c9]=true then _ else _)=_;rw[if_neg hk]
   rw[e];refine RH a r _ x ?_;rcases h with⟨y,hy,q⟩|h
   ·rcases QJ.mp hy with rfl|hy
    ·exact absurd #[dq,q.2] hk
    ·exact .inl ⟨y,hy,q⟩
   ·exact .inr h
structure Z1 (N N':#[T]) (o c:be):Prop where
 kind:c.kind=.function
 okind:o.kind=.function
 nocell:∀y∈c.names,y.2≠.cell
 loc:∀y∈c.names,y.2=.local->c.names.lookup y.1=U .local
 free:∀y∈c.names,y.2=.free->c.names.lookup y.1=U .free/\#[tO]
 len:N.length<=N'.length
 same:∀i∈List.range N.length,∀x∈N'[i]?,c.names.lookup x=U .local\/c.names.lookup x=U .free->c.names.lookup x=U .free/\N[i]? = U x
 nd:N'.Nodup
noncomputable def YQ(X:Cx)(c:be)(a:#[T])(C:ae)(s:ai)(H:Hp)(fp:#[j7]):Cx :=
 { X with N:=a,s₀:=s,H₀:=H,env:=bH c (Y7 X.env.cells c.names []) C X.env,outer:=X.stack,stack:=X.stack,ex:=fp,fn:=λ_=>false,pn:=[],xe:=λ_ _=>False }
theorem MZ{env:Env}(c:env.scope.kind=.function):∀ (names:List (ak×aP)) (x:ak),
  (names.map λ(p:ak×aP)=>if (p.2 == aP.free&&env.scope.kind == .function&&env.kindOf p.1 == U .cell)=true then (p.1,aP.cell) else (p.1,p.2)).lookup x =
   match names.lookup x with
   | some .free=>if env.kindOf x=U .cell then U .cell else U .free
   | k=>k
 | [],x=>rfl
 | (n,k)::r,x=>by
  have ih:=MZ c r x;rw[Qn];by_cases f:(x == n)=true
  ·have a:x=n:=by simpa using f
   subst a;have d:List.lookup x ((x,k)::r)=U k:=by rw[Qas];simp
   rw[d];by_cases e:k=.free
   ·subst e;by_cases b:env.kindOf x=U .cell
    ·simp[List.lookup_cons,c,b]
    ·simp[List.lookup_cons,c,b]
   ·have g:#[c9]=false:=by simpa using e
    rw[g];simp only[Bool.false_and,Bool.false_eq_true,if_false,List.lookup_cons,beq_self_eq_true];all_goals (cases k<;>first|rfl|exact absurd rfl e)
  ·have a:#[ui]:=by simpa using f
   have d:List.lookup x ((n,k)::r)=List.lookup x r:=by rw[Qas,a]
   rw[d,<- ih];by_cases b:(k == aP.free&&env.scope.kind == .function&&env.kindOf n == U .cell)=true
   ·simp only[b,if_true,List.lookup_cons,a]
   ·simp only[b,if_false,List.lookup_cons,a,Bool.false_eq_true]
section
variable {X:Cx} {N N':List ak} {o c:be}
theorem UU(S:#[bI])(a:#[am])(b:#[qQ])(C:ae)(x:ak):(bH c b C X.env).kindOf x =
  match c.names.lookup x with
  | some .free=>if X.env.kindOf x=U .cell then U .cell else U .free
  | k=>k:=MZ (env:=X.env) #[dp,a,S.okind] c.names x
theorem Tt{names:List (ak×aP)}{x:ak}{k:aP}(h:names.lookup x=U k):(x,k)∈names:=Qag h
theorem Vp(S:#[bI])(g:#[am])(ok:X.Ok){x:ak}{a:ae}(h:#[m].lookup x=U a) :
  X.env.cells.lookup x=U a/\c.names.lookup x=U .free:=by
 rcases RI _ _ _ _ _ h with⟨y,i,rfl,j,e⟩|q
 ·have d:=S.free y i j;have k:#[pN,X.env.kindOf,y.1]:=by show X.env.scope.names.lookup y.1=_\/X.env.scope.names.lookup y.1=_;rw[g];exact d.2
  obtain⟨b,f⟩:=ok.has y.1 k;rw[f]at e;exact⟨by rw[f,e];rfl,d.1⟩
 ·cases q
theorem MY(S:#[bI])(d:#[am])(ok:X.Ok){x:ak}(h:#[kD]):∃a,#[m].lookup x=U a/\X.env.cells.lookup x=U a:=by obtain⟨a,b⟩:=RH X.env.cells c.names [] x (.inl ⟨(x,.free),Tt h,rfl,rfl⟩);exact⟨a,b,(Vp S d ok b).1⟩
theorem ZqE(S:#[bI])(f:#[am]){l:#[L]}{n:St}{H:Hp}{s:ai}{fp:#[j7]}(I:#[fd,l,n])
  (i:#[oY,l,H]) (ht:#[rl]):#[mQ].Ok where
 mod:=I.ok.mod
 kind:=S.kind
 glob:=I.ok.glob
 blt:=I.ok.blt
 above:=Qf _
 inj:=λx y a p r=>I.ok.inj x y a (Vp S f I.ok p).1 (Vp S f I.ok r).1
 has:=λx t=>by
  have e:=#[p9,f,s.heap.objs.size];have g:#[67].kindOf x=U .cell\/#[67].kindOf x=U .free:=t;rw[e]at g;cases q:c.names.lookup x with
  | none=>rw[q]at g;rcases g with z|z<;>cases z
  | some k =>
   by_cases m:k=.free
   ·subst m;obtain⟨a,u,_⟩:=MY S f I.ok q;exact⟨a,u⟩
   ·rw[q]at g;have v:k=.cell:=by cases k<;>first|rfl|exact absurd rfl m|(rcases g with z|z<;>cases z)
    subst v;exact #[qh]
 cab:=λx a h=>by cases (show false=true from h)
 hd:=I.ok.hd
 frames:=I.ok.frames
 stk:=#[nS]
 exf:=λb d=>⟨Qx (ht b d),λx a h=>(i b d).2.2.2.2.1 x a (Vp S f I.ok h).1⟩
 bs:=λb j e=>I.bs b j e
 bsz:=Qi I.ok.bsz I.sz
 noex:=λb j e d=>by
  rcases(i b d).2.2.2.1 with z|z
  ·exact I.ok.noex b j e z
  ·exact #[cW]
 exfs:=λb d w=>by
  rcases QJ.mp (I.stkSub b w) with z|z
  ·exact(i b d).2.1 z
  ·exact(i b d).2.2.1 z
 funs:=I.stack
 frf:=I.stkFree
theorem MX(S:#[bI])(t:X.N=N)(g:#[am]){B:#[L]}{f:St}{H:Hp}{s:ai}{fp:#[j7]}{w:aH}{tk:Nat}{C:#[J]}(I:#[fd,B,f])
  (E:#[oY,B,H]) (ht:#[rl]) (F:w.Ns s.heap.objs.size C) (hk:#[d3,ob,s.heap.get?,w.get?]) :
  Inv #[mQ] [] #[pL,f,#[bQ]] H { s with heap:=w,toks:=tk } where
 ok:=ZqE S g I E ht
 os:=rfl
 bare:=I.bare
 base:=Un.kept hk
 loc:=by
  refine⟨C,F,λi x v G j J=>?_⟩;show#[gU,m,hn,K,I.loc];have L:f.length=N.length:=by rw[I.len,t]
  have y:i<f.length:=by
   by_cases y:i<f.length
   ·exact y
   ·rw[Q0 #[2],List.getElem?_replicate]at j;split at j<;>cases j
  have M:f[i]? = U (U v):=by rw[QO y]at j;exact j
  have D:=#[p9,g,s.heap.objs.size];have O:c.names.lookup x=U .local\/c.names.lookup x=U .free:=by
   have n:#[67].kindOf x=U .local\/#[67].kindOf x=U .cell\/#[67].kindOf x=U .free:=J;rw[D]at n;cases q:c.names.lookup x with
   | none=>rw[q]at n;rcases n with z|z|z<;>cases z
   | some k =>
    cases k with
    | «local»=>exact #[nS]
    | free=>exact #[n2]
    | cell=>exact #[qh]
    | _=>rw[q]at n;rcases n with z|z|z<;>cases z
  obtain⟨A,P⟩:=S.same i (List.mem_range.mpr #[2]) x (by rw[show N'[i]? = U x from G];rfl) O;have hok:#[pN,X.env.kindOf,x]:=by show X.env.scope.names.lookup x=_\/X.env.scope.names.lookup x=_;rw[g];exact(S.free _ (Tt A) rfl).2
  obtain⟨u,r,l⟩:=K i x v #[dp,t,P] M (.inr hok);refine⟨u,r,.inr #[tX]⟩
  ·show (bH c #[m] s.heap.objs.size X.env).kindOf x=U .cell\/#[67].kindOf x=U .free;rw[D,A];show (if X.env.kindOf x=U .cell then U aP.cell else U aP.free)=U .cell\/(if X.env.kindOf x=U .cell then U aP.cell else U aP.free)=U .free;by_cases q:X.env.kindOf x=U .cell
   ·rw[if_pos q];exact #[nS]
   ·rw[if_neg q];exact #[n2]
  ·obtain⟨a,Q,R⟩:=MY S g I.ok A;show#[p3,a,Q];rcases l with⟨z,_⟩|⟨_,a',e,ob,T,hd⟩
   ·rcases hok with q|q<;>rw[q]at z<;>cases z
   ·show#[e8,R,e,e];exact⟨ob,hk _ _ T,hd⟩
 cell:=λx a h=>by obtain⟨v,ob,e,d⟩:=I.cell x a (Vp S g I.ok h).1;exact⟨v,ob,hk _ _ e,d⟩
 free:=#[qS]
 freeC:=λx a h=>I.freeC x a (Vp S g I.ok h).1
 pin:=λp V=>absurd (show p∈#[kw] from V) #[4]
 hok:=I.hok.kept hk
 len:=by
  have L:f.length=N.length:=by rw[I.len,t]
  have:=S.len;show (f++List.replicate #[bQ] af).length=N'.length;rw[Qe,QaB];lia
universe E
noncomputable abbrev RG(a:#[iS])(env:Env):Sem Bool :=
 forIn a true λk r=>if r=true then do let ok <- isTrue k env (eval k env);pure (ForInStep.yield ok) else pure (ForInStep.yield r)
def PTs(X:Cx)(c:#[iS])(t:TT):Prop :=
 ∀ (b:List (ae×aM)) (s:ai) (a:St) (H:Hp) (Q:Bool->Hp->Prop),Inv X b a H s->t a H Q->#[jq] (RG c X.env) (TP X b a Q) X.xe s
def V0:TT:=λ_ H Q=>Q true H
theorem XS{X:Cx}:PTs X [] V0:=λ_ _ _ H _ I h=>wpAny_tests_nil ⟨H,I,h⟩
section
variable {prog:aw} {w:aD} {A:aB} {R:Result->ai->Prop} {s:ai}
theorem Ziz{c b iter:aI}{d:#[iS]}{k:be}{pos:Pos}{it f:aa}{env:Env}{E:#[G]}(I:#[pS,Nat])
  (B:∀e s',E e s'->False)
  (C:∀n s,I n s->av #[s] A (pyNext it) (λr g=>match r with
   | none=>R #[mZ] g
   | some v=>av #[s] A (cW b it v) (λ_ s₀=>av #[s] A (assign b env v) (λ_ l =>
     av #[s] A (RG d env) (λok i =>
      if ok=true then av #[s] A (eval c env) (λx o =>
       av #[s] A (call #[ep,"list.append"] [f,x]) (λ_ p=>∃m,m<n/\I m p) E o) E i
      else ∃m,m<n/\I m i) E l) E s₀) E g) E s)
  (n:Nat) (h:I n s):bW #[s] A (.compLoop #[fx,c,b,d,k] 0 it f env) R s:=by
 have go:#[ak]:=
  λ{j t Q s} q=>aU q #[lq] λe s' z=>(B e s' z).elim
 refine codeAny_loop rfl I #[g5,n,s,D] n h;show av _ A ((compTurn #[fx,c,b,d,k] 0 it f env).onRaise (λx=>do noteFrame x env;theTreesLotGoes x)) _ _ s;refine wpAny_noted ?_;rw[compTurn_list];refine am (bx (am (thn (go (C n s D)) λr g u=>?_)));cases r with
 | none=>exact aF u
 | some v =>
  refine am (thn (go u) λ_ s₀ a=>am (thn (go a) λ_ l F=>am (thn (go F) λok i y=>?_)));cases ok with
  | false=>exact aF ⟨rfl,y⟩
  | true=>exact am (am (thn (go y) λx o G=>am (thn (go G) λ_ p H=>aF (aF ⟨rfl,H⟩))))
universe E
def VZ(J:It)(D:ae)(k:Nat)(q:St)(r:Hp)(g:TG)(s:TT)(t:TE)(Q:VK):Prop :=
 ∃W:Nat->Nat->List V->St->Hp->Prop,(∃m,W 0 m [] #[pL,q,k] #[eO,r,D]) /\
  ∀i m a e c,W i m a e c->#[uH] \/
   (J.go i c/\∃N:List V->St->Hp->Prop,#[ka]/\∀x n,J.yld i c x n->g x e n λd u=>s d u λb o =>
    if b=true then t d o λy p=>p D=U (.lst a)/\a.length<aq/\N (a++[y]) d (upd p D (.lst (a++[y]))) else N a d o)
def RF(n:Nat)(c:TI)(g:TG)(d:TT)(e:TE):TE:=λa H Q=>c a H λJ b=>∀D,b D=af->VZ J D n a b g d e Q
section
variable {X:Cx} {N N':List ak} {o c:be}
theorem MW{gG tg iter:aI}{cY:#[iS]}{pos cJ:Pos}{wi:TI}{g:TG}{tc:TT}{te:TE}{use:Option (aa->Sem Unit)}{QQ:#[G]}(S:#[bI])(hN:X.N=N)(ho:#[am])(hc:#[aD])
  (hi:PI X tg iter wi) (hg:#[dT,PG,tg,g]) (ht:#[dT,PTs,cY,tc]) (he:#[dT,PE,gG,te])
  (hs:#[aL]) {Z:#[L]} {s:ai} {σ:St} {H:Hp} {Q:VK} (I:#[fd,Z,σ]) (h:RF #[bQ] wi g tc te σ H Q)
  (post:∀ (D C:ae) (t:ai) (l:Hp) (m:ak->Option aa),Inv X Z σ l t->l C=af->t.heap.Ns C m->C≠X.env.locals->X.s₀.heap.objs.size<=C->#[fl,a,C]->#[tD] ->
   Q #[it] l->compPost #[K] X.A X.xe use QQ #[it] C #[mZ] t) :
  #[jq] (comprehension #[dh] c X.env cJ (newList []) false #[ev,iter] use) QQ X.xe s:=by
 have mV:#[rt]:=M0 λy hy hf=>by refine I.ok.has y.1 ?_;show#[ck]
 show#[aT];obtain⟨it,fp,tn,J,G,e,I2,T,mQ,f2,hR⟩:=h2;subst e;have hD:G f.heap.objs.size=af:=I2.fresh;have M:Inv X Z σ #[ad] { f with heap:=f.heap.push { cls:=.type "list",data:=.seq ([]:List aa).toArray } } :=
  I2.lnew (ys:=[]) (its:=[]) (t':=f.toks) .nil (Qm _)
 have p8:#[rm]:=λb k=>by obtain⟨A,e,_⟩:=T.obj 0 _ mQ b k;exact Qk e
 refine bD (wpAny_newFunctionEnv S.nocell #[sw] #[g5,K,kM,kN] S.kind);have O:∃j:ai,j={ f with heap:=f.heap.push { cls:=.type "list",data:=.seq ([]:List aa).toArray } }:=#[E];show#[dz,j,mW,O];have O:j.heap=f.heap.push { cls:=.type "list",data:=.seq #[gI,aa].toArray }:=by rw[mW]
 have lL:#[mu]:=by rw[O,QV]
 show#[ox];have f3:#[oY,Z,#[ad]]:=λb k=>⟨by rw[Zc (Qx (p8 b k))];exact(f2 b k).1,(f2 b k).2⟩;have oS:tn 0 j.heap:=T.keep 0 _ _ mQ λb _ A e=>by rw[O];exact Qc _ e
 rw[<- mW]at M;show bW #[K] X.A (.compStart _ 0 #[iH] #[N] (bH c #[m] #[h5].objs.size X.env))
  (compPost #[K] X.A X.xe use QQ #[N] #[h5].objs.size)
  { f with heap:=K,toks:=f.toks+([]:List (ak×aa)).length }
 have dS:K.Ns j.heap.objs.size #[kL]:=by rw[O];exact kM
 have lM:#[d3,A,j.heap.get?,K.get?]:=λb A e=>by rw[O]at e;exact #[rq]
 rw[<- O];have vh:({ f with heap:=K,toks:=f.toks+([]:List (ak×aa)).length }:ai)={ j with heap:=K,toks:=f.toks }:=by rw[mW];rfl
 show#[jK];have I4:=MX (tk:=f.toks) S hN ho M f3 p9 dS lM;have qa:tn 0 K:=#[mB];generalize w:YQ X c N' j.heap.objs.size j (upd G f.heap.objs.size (.lst [])) fp=Y at I4;have P:Y.prog=X.prog:=by rw[<- w];rfl
 have R:Y.w=X.w:=by rw[<- w];rfl
 have YK:Y.K=X.K:=by rw[<- w];rfl
 have Yc:Y.calm=true:=by rw[<- w];exact hc
 have YA:Y.A=X.A:=by rw[<- w];rfl
 have lN:#[lO]:=by rw[<- w];rfl
 have Yl:#[qH]:=by rw[lN];rfl
 have jF:Y.xe=λ_ _=>False:=by rw[<- w];rfl
 show#[dQ,qb,hg,#[ad],fK,ht];have fL:=he j.heap.objs.size j #[ad] fp;rw[w]at qb fK fL;have gt:∀ {B:Hp},#[gA,B]->∀b∈fp,XH Y [] B b:=λ{B} hn b k=>by
  show#[52];have mX:p∈#[kw]:=by
   have:Y.pn=[]:=by rw[<- w];rfl
   rw[this]at hp;exact hp
  cases mX
 have bf:∀ (t:ai) (L:St) (l:Hp),Inv Y [] L l t->Q #[N] l->compPost #[K] X.A X.xe use QQ #[N] j.heap.objs.size #[mZ] t:=λt L l F q=>by
  show#[qA];have kO:l j.heap.objs.size=af:=by have:=F.free;rw[Yl]at this;exact this
  have un:Un #[q0] fp #[ad] l j.heap t.heap:=by have:=F.base;show#[gu,w]
  have vi:t.os=j.os:=by have:=F.os;show#[gu,w]
  have ie:#[ua]:=by have:=F.hok;rw[P,R]at this;exact this
  refine post _ _ t l m (M.call' (s':=t) (ch:=fp) vi un ie F.bare λb k=>?_) kO hn (QU M.lt) M.sz #[g5,x,a,e] (λp hp=>?_) q
  ·show#[jN]
  ·obtain⟨v,A,e',_⟩:=M.cell x a e;exact Qx (Qk e')
  ·exact Qx (Qk (M.pin p hp).1)
 have lO:bW #[K] X.A #[pe,#[dh],#[iH]]
   (compPost #[K] X.A X.xe use QQ #[N] j.heap.objs.size) { j with heap:=K,toks:=f.toks }:=by
  rw[<- lN,<- YA];refine Ziz (E:=#[sd]) (λn s'=>X4 λi ys aQ B=>Inv Y [] aQ B s'/\tn i s'.heap/\#[gA,B]/\W i n ys aQ B) #[lq] ?_ m0
   #[kQ]
  ·rintro n t ⟨i,ys,L,l,F,kI,mR,w5⟩;rcases gs i n ys L l w5 with⟨stop,qn⟩|⟨go,Nn,qc,step⟩
   ·refine thn (T.done Y P R YK Yc i [] t L l _ F (gt mR) kI stop) ?_;rintro r s6 ⟨hr,I6⟩;subst hr;have fq:=bf s6 L l I6 qn;rw[<- YA]at fq;exact fq
   ·refine thn (T.item Y P R YK Yc i [] t L l _ F (gt mR) kI go) ?_;show#[aB];have lP:#[aN]:=λ{mZ V s9} I9=>by refine#[bS];show#[fe,A,mY,k,I9.pin]
    have P1:=qb _ s7 L H7 x u _ vm r7 (step x H7 y7);show#[eD,P,R,P1];show#[jA];show#[eD,P,R,P2];rintro ok s9 ⟨V,I9,q9⟩;cases ok with
    | false=>rw[if_neg Qt]at q9;show#[bb]
    | true=>rw[if_pos rfl]at q9;show#[t0];have P3:=fL _ s9 iS V _ I9 q9;show#[eD,P,R,P3];rintro y vn ⟨vy,jG,lQ,vp,vq,hsz,vt⟩;have P4:=Xz (X:=Y) _ vn iS jG #[N] [vy] #[N] [y] (λ_ B=>Nn (ys++[vy]) iS B) lQ rfl (.cons vp .nil) ⟨_,ys,vy,rfl,rfl,vq,hsz,vt⟩;show#[eD,P,R,P4];rintro _ sJ ⟨_,qd,oX,_,vw⟩;show#[vx,b1,b2,b3,lP,oX];obtain⟨m',gw,CC⟩:=qc _ _ _ vw;exact⟨m',gw,i+1,ys++[vy],iS,qd,b1,b2,b3,CC⟩
  ·exact w0
 have lp:=T.self X.A 0 { j with heap:=K,toks:=f.toks } (λvz s'=>bW #[K] X.A #[pe,#[dh],vz]
   (compPost #[K] X.A X.xe use QQ #[N] j.heap.objs.size) s') #[k2] qa lO
 exact codeAny_compStart_list lO #[q2]
theorem Inv.let{c:#[L]}{d:St}{H:Hp}{s:ai}{C:ae}{h':aH}(I:#[fd,c,d])(hn:H C=af)(f:C≠X.env.locals)(h1:X.s₀.heap.objs.size<=C)
  (h2:∀x a,X.env.cells.lookup x=U a->a≠C) (g:∀p∈X.pn++c,p.1≠C) (hs:#[va,C,s.heap,h']):Inv X c d H { s with heap:=h' } :=
 I.turned (t':=#[uj]) (λb h i e=>hs.extBut b h i e) hn f (.inr h1) h2 g
theorem Xn{b a iter:aI}{d:#[iS]}{pos:Pos}{e:TI}{g:TG}{f:TT}{i:TE}(S:#[bI])(j:X.N=N)(k:#[am])(hc:#[aD])
  (l:PI X a iter e) (n:#[dT,PG,a,g]) (ht:#[dT,PTs,d,f]) (he:#[dT,PE,b,i])
  (hs:#[aL]:=by intro _;rfl) :
  PE X #[fx,b,a,d,c] (RF #[bQ] e g f i):=by
 show#[dU,ah,σ,Q];rw[eval_ListComp];refine MW (use:=af) S j k hc l n ht he hs I h λD C s5 p m r t u v w y z q=>⟨m,u,λh' A=>?_⟩;exact⟨.ref D,p,r.let t v w y z A,rfl,q⟩
theorem UT{i:Nat}{x:ak}{e b iter:aI}{f:#[iS]}{pos d j:Pos}{k:TI}{g:TG}{l:TT}{n:TE}(u:#[qJ])(hx:#[hz])(hl:#[tt])(S:#[bI])(w:X.N=N)(y:#[am])(hc:#[aD])
  (A:PI X b iter k) (B:#[dT,PG,b,g]) (ht:#[dT,PTs,f,l]) (he:#[dT,PE,e,n])
  (E:swapsWith #[fx,e,b,f,c] (U (.Name x d)) j.line X.env=pure true)
  (hs:#[aL]:=by intro _;rfl) (F:#[23]:=by first|exact #[nS]|exact #[n2]|assumption) :
  PS X (.Assign [.Name x d] #[fx,e,b,f,c] j) (RY (RF #[bQ] k g l n) (TH i)):=by
 show#[dU,G,σ,D];rw[exec_Assign_Name_used _ _ _ _ E];refine am (bx (am ?_));show av _ X.A (do let _ <- comprehension (.ListComp e [⟨b,iter,f,0⟩] c pos) c X.env _ (newList []) false (eval iter X.env) (U (assign (.Name x d) X.env))) _ _ s;refine am (thn (MW (QQ:=λ_ p=>SP X G D .next p) (use:=U (assign (.Name x d) X.env)) S w y hc A B ht he hs I h ?_) λ_ p J=>aF (aF J));intro L C s5 K m M O P r Q t R q;show av _ X.A (assign (.Name x d) X.env (.ref L)) _ _ _;refine wpAny_assign_Name (NU (v:=.ref L) M u hx hl rfl (?_) F);rintro s6 T ⟨a,V,W⟩;have Y:C≠a:=by
  rcases W with z|z
  ·rw[z];exact r
  ·exact(t x a z).symm
 exact⟨m,P.sameBut V Y,λh' Z=>⟨_,K,T.let O r Q t R Z,q⟩⟩
universe E
theorem MV{ys:#[T]}:∀ {us:List aa},ZK #[k4] us->StrsAre us ys:=by
 induction ys with
 | nil=>intro us r;show#[lI];exact .nil
 | cons y ys a =>
  intro us r;rw[Qn]at r;cases r with
  | cons b c=>obtain⟨t,e⟩:=b;subst e;exact .cons _ _ (a c)
theorem MU:∀ {vs:List aa} {ys:List ak},StrsAre vs ys->ZK #[k4] vs
 | _,_,.nil=>.nil
 | _,_,.cons _ t h=>.cons #[qx] (MU h)
section
variable {X:Cx}
def MT(K:#[7]):List V->Hp->VK->Prop:=λxs H Q=>X4 λx c t b=>xs=[x,.ty c]/\Xp K H x t/\PySem.W.kitOne K t (.type c)=U b/\Q (.bl b) H
theorem Zns:YU X #[dg] (MT X.K):=by intro ah s σ H xs us Q I r h;obtain⟨x,c,t,b,rfl,ty,e,q⟩:=h;obtain⟨u,w',rfl,a,d⟩:=Tx r;cases d;exact Zmk I a ty e λtk=>⟨.bl b,H,I.tok _,rfl,q⟩
def MR(K:#[7]):List V->Hp->VK->Prop:=λxs H Q=>X5 λ(x:V) (a:ae) (c:List String) (t:aa) (b:Bool)=>xs=[x,.ref a]/\H a=U (.tup (c.map V.ty))/\Xp K H x t/\PySem.W.kitAny K t (c.map aa.type)=U b/\Q (.bl b) H
theorem ZqC{a:List String}:∀ {us:List aa},ZK (a.map V.ty) us->us=a.map aa.type:=by
 induction a with
 | nil=>intro us r;show#[lI];rfl
 | cons y ys b =>
  intro us r;rw[Qn]at r;cases r with
  | cons c d=>rw[show _=aa.type y from c,b d];rfl
theorem ZmH:YU X #[dg] (MR X.K):=by
 show#[pI,A,B,k];obtain⟨x,D,E,t,b,rfl,F,ty,e,q⟩:=h;obtain⟨u,w',rfl,c,G⟩:=Tx r;cases G;obtain⟨_,its,K,⟨L,d,M,n,N⟩⟩:=I.hok D _ F;have P:=ZqC K;subst P;obtain⟨R,S,T,sl⟩:=L;have V:R=aa.type "tuple":=M;have W:T=Data.seq (E.map aa.type).toArray n:=N;subst V;subst W;have f:∀v,EP X A B Q (.bool b) { s with toks:=v }:=λv=>⟨.bl b,H,I.tok _,rfl,q⟩;cases ty with
 | non=>cases (show u=aa.none from c);show#[fu,PySem.W.kitx_none]
 | bl y=>cases (show u=aa.bool y from c);show#[fu,PySem.W.kitx_bool]
 | int i=>obtain⟨t,q⟩:=#[oI,c];cases q;show#[fu,PySem.W.kitx_int]
 | str y=>obtain⟨t,q⟩:=#[vd,y,c];cases q;show#[fu,PySem.W.kitx_str]
 | flt y=>obtain⟨t,q⟩:=#[dK,t,aa.float,y,c];cases q;show#[fu,PySem.W.kitx_float]
 | @lst a k g=>cases (show u=aa.ref a from c);obtain⟨_,_,n,_,j⟩:=(show Z8 X.prog X.w H s.heap a (.lst k) from I.hok a _ g);exact #[lZ]
 | @frz a Y k g=>cases (show u=aa.ref a from c);obtain⟨_,_,_,n,_,j⟩:=(show Z8 X.prog X.w H s.heap a (.frz Y (.lst k)) from I.hok a _ g);exact #[lZ]
 | @tup a k g=>cases (show u=aa.ref a from c);obtain⟨_,_,_,p⟩:=(show Z8 X.prog X.w H s.heap a (.tup k) from I.hok a _ g);obtain⟨o,j,m,_⟩:=p;exact Q3 PySem.W.kitx_tuple I.kIn ⟨o,j,m⟩ d e #[C] f
 | @dK a l g=>cases (show u=aa.ref a from c);obtain⟨_,_,vs,_,p⟩:=#[fO,a,l,g];obtain⟨o,Z,ep,j,m,_⟩:=p;exact #[lY]
 | @dT a l g=>cases (show u=aa.ref a from c);obtain⟨_,_,k,_,o,Z,ep,j,m,_⟩:=(show Z8 X.prog X.w H s.heap a (.dT l) from I.hok a _ g);exact #[lY]
 | @ins a C dx fs g w ha hn fD hm=>cases (show u=aa.ref a from c);obtain⟨mA,O,_⟩:=UY I.hok g;obtain⟨S,J,_⟩:=O.look;exact Q3 (PySem.W.kitx_own (w.get _) w.hd ha hn fD hm) I.kIn J d e #[C] f
theorem Zo9(hc:#[aD]):YU X #[ep,"all"] (λxs H Q=>X2 λ(p:ae) (bs:List Bool)=>xs=#[js]/\SqL X.K H p (bs.map V.bl)/\Q (.bl (bs.all id)) H):=by
 show#[aE];show#[pO,p,bs,o];show#[es,t];show#[ff,f,w,hz,o];have g:=w.isList;have x:#[p4,p]:=by obtain⟨_,e,_⟩:=g;exact Qk e
 refine call_all_walk (cA g ?_);refine⟨s.heap.objs.size,[s.heap.objs.size,p],[s.heap.objs.size],its.toArray.size,_,_,λi=>(bs[i]?).getD true,rfl,Walks.list (A:=X.A.in1) #[ic] _ p (Qx x) its.toArray,
  ⟨⟨_,Qr _ rfl,rfl,rfl⟩,g.push _⟩,λi v y B E' C D=>?_,λh' tk E=>?_⟩
 ·have l:its[i]? = U v:=by simpa using C
  have c:i<its.length:=(Qd.mp l).1;have a:=f.length;have j:(bs.map V.bl)[i]? = U (V.bl (bs[i]'#[nu])):=by rw[Qo,Qb #[nu]];rfl
  show#[vx,u',d,F,f.get,j];show#[e8,l,d,d];obtain rfl:v=aa.bool _:=F;have m:B ((bs[i]?).getD true) y:=D;rw[Qb #[nu]]at m;exact bp m
 ·have e:((List.range its.toArray.size).all λi=>(bs[i]?).getD true)=bs.all id:=by
   have a:=f.length;rw[Qa]at a;rw[QL,<- a,QaN,Qa2,Qa2];constructor
   ·intro z b j;obtain⟨i,c,rfl⟩:=List.mem_iff_getElem.mp j;have:=z i (List.mem_range.mpr c);rw[Qb c]at this;exact this
   ·intro z i c;have n:=List.mem_range.mp c;rw[Qb n];exact z _ (Qae n)
  refine⟨.bl (bs.all id),H,I.kept λb G k=>E b G (λJ=>?_) (Qc _ k),by rw[e];rfl,q⟩;rw[Qh.mp J]at k;exact Qaa _ (Qk k)
theorem Zji:YU X #[ep,"sorted"] (λxs H Q=>X2 λ(p:ae) (ss:List ak)=>xs=#[js]/\SqL X.K H p #[24]/\ss.length<64 /\
  ∀ (l:ae) (a:List ak),H l=af->a.Perm ss->sortedS a=true->Q #[cT] (upd H l #[dv,a.map])):=by
 show#[aE];show#[fy,p,ss,d,h64];show#[es,f];show#[ff,b,g,i,d];have j:=b.length;rw[Qa]at j i;refine sorted_strs g.isList (MV b) #[2] λc a a1 a2 a3=>?_;obtain⟨e,k⟩:=sortedAll_at s.heap its c;have hp:=a2.length_eq;refine⟨.ref #[H],_,I.laid (t':=#[uj]) (o:=.lst (a.map V.str)) (λ_ _=>sortedAll_old) (QZ _) ⟨by rw[Qa];lia,c.toList,e,MU a1,by simpa using k⟩,rfl,q _ a #[mW] a2 a3⟩
theorem Zp5:MtR X "str.join" (λx vs H Q=>X3 λ(sep:ak) (p:ae) (ys:List ak)=>x=.str sep/\vs=#[js]/\SqL X.K H p #[k4]/\#[ug].sum+ys.length*sep.length<=16777216/\Q (.str #[q6]) H):=by intro ah s σ H x vs v us Q I a b h;obtain⟨sep,p,ys,rfl,rfl,c,d,q⟩:=h;obtain⟨t,rfl⟩:=a;obtain⟨u,rfl,e⟩:=b.one;cases e;obtain⟨its,f,g,_⟩:=I.list c;exact join_list g.isList (MV f) d λt' k=>⟨.str _,H,I.tok _,#[E],q⟩
theorem Zqr:OpR X (binaryOp .Mult) (λx y H Q=>X2 λa n=>x=.str a/\y=.int n/\0<=n/\n<=1000000/\#[bP]*n<=1000000/\Q (.str (Txt.mul a n)) H):=by
 show#[gs,d,f];obtain⟨a,n,rfl,rfl,g,i,h2,q⟩:=h;show#[rk];show#[dP,t',f];have j:a.length*n.toNat<=1000000:=by
  have e:((a.length*n.toNat:Nat):Int)=#[bP]*n:=by rw[Int.natCast_mul,Int.toNat_of_nonneg g]
  lia
 refine PySem.P.mul_str ?_ (λc1 c2=>?_) (λc1 c2=>?_) ?_
 ·have l:decide (n < -(2 ^ 63:Int))=false:=#[hN];have c:decide (n>=2 ^ 63)=false:=#[hN];rw[l,c];rfl
 ·have m:(1:Int)<=n:=by lia
  have q1:#[bP]*1<=#[bP]*n:=Int.mul_le_mul_of_nonneg_left m (Int.natCast_nonneg _);have q2:(1000000:Int)<=(2 ^ 63-1) / n:=by rw[Int.le_ediv_iff_mul_le #[2]];have:(1000000:Int)*n<=1000000*1000000:=Int.mul_le_mul_of_nonneg_left i #[6];lia
  lia
 ·unfold aT.Str.tooLong;have o:aq=16777216:=aO;exact #[hN]
 ·have e:Txt.mul a n=if n<1 then ak.empty else if #[um]=true then a else ⟨#[qr].foldl (·++·) #[]⟩:=rfl
  rw[e]at q;by_cases c1:n<1
  ·rw[if_pos c1]at q ⊢;exact⟨by decide,.str _,H,I.tok _,#[E],q⟩
  ·rw[if_neg c1]at q ⊢;by_cases c2:#[um]=true
   ·rw[if_pos c2]at q ⊢;exact#[tY]
   ·rw[if_neg c2]at q ⊢;refine⟨?_,.str _,H,I.tok _,#[E],q⟩;have p:∀ (k:Nat) (b:Array Nat),((List.replicate k a.cps).foldl (·++·) b).size=b.size+k*a.cps.size:=by
     intro k;induction k with
     | zero=>intro b;simp
     | succ k r=>intro b;rw[List.replicate_succ,List.foldl_cons,r,Array.size_append,Nat.succ_mul];lia
    show (#[qr].foldl (·++·) #[]).size<=aq;rw[p];have c:a.cps.size=a.length:=rfl;have:n.toNat*a.cps.size<=1000000:=by rw[c,Nat.mul_comm];exact j
    have o:aq=16777216:=aO;simp only[List.size_toArray,List.length_nil];lia
universe E
inductive Src where
 | l (a:ae)|t (a:ae)|s (z:ak)
noncomputable def Src.val:Src->V
 | .l a=>.ref a
 | .t a=>.ref a
 | .s z=>.str z
noncomputable def Zqx(c:Nat):V:=.str #[aK]
def Src.its(K:#[7])(H:Hp):Src->List V->Prop
 | .l a,xs=>SqL K H a xs
 | .t a,xs=>SqT K H a xs
 | .s z,xs=>xs=z.cps.toList.map Zqx
def Src.at(h:aH)(i:ae):Src->Nat->Prop
 | .l a,k=>h.IsListIter i a k
 | .t a,k=>h.IsTupleIter i a k
 | .s z,k=>∃tk,h.IsStrIter i (bO z) z tk k
def Src.raw(h:aH):Src->List aa->Prop
 | .l a,us=>h.IsList a us.toArray
 | .t a,us=>h.IsTuple a us.toArray
 | .s _,_=>True
def Src.fit:Src->List aa->Nat->aa->Prop
 | .l _,us,k,u=>us[k]? = U u
 | .t _,us,k,u=>us[k]? = U u
 | .s z,_,k,u=>X2 λc tk=>z.cps[k]? = U c/\u=.str #[aK] tk
noncomputable def Src.many:Src->List aa->Nat
 | .l _,us=>us.length
 | .t _,us=>us.length
 | .s z,_=>z.cps.size
def Src.off:Src->ae->Prop
 | .l a,b=>a≠b
 | .t a,b=>a≠b
 | .s _,_=>True
theorem Src.at_obj{h:aH}{i:ae}:∀ {S:Src} {k:Nat},S.at h i k->X2 λo vs=>h.get? i=U o/\o.data=.fields vs
 | .l _,_,⟨o,e,_,d⟩=>⟨o,_,e,d⟩
 | .t _,_,⟨o,e,_,d⟩=>⟨o,_,e,d⟩
 | .s _,_,⟨_,o,e,_,d⟩=>⟨o,_,e,d⟩
theorem Src.at_keep{h h':aH}{i:ae}(k':∀o,h.get? i=U o->h'.get? i=U o):∀ {S:Src} {k:Nat},S.at h i k->S.at h' i k
 | .l _,_,⟨o,e,d⟩=>⟨o,k' o e,d⟩
 | .t _,_,⟨o,e,d⟩=>⟨o,k' o e,d⟩
 | .s _,_,⟨tk,o,e,d⟩=>⟨tk,o,k' o e,d⟩
theorem Src.raw_keep{h h':aH}{b:ae}(k':#[f9,c,o,b,h.get?]):∀ {S:Src} {us:List aa},S.off b->S.raw h us->S.raw h' us
 | .l _,_,f,⟨o,e,d⟩=>⟨o,k' _ o f e,d⟩
 | .t _,_,f,⟨o,e,d⟩=>⟨o,k' _ o f e,d⟩
 | .s _,_,_,_=>trivial
section
variable {prog:aw} {w:aD} {A:aB} {E:aa->ai->Prop} {s:ai}
theorem Zi6{it t:ae}{i:Nat}{items:#[sl]}{x:aa}{Q:#[G]}(b:#[sN])(ht:s.heap.IsTuple t items)(hx:items[i]? = U x)
  (c:∀h',h'.IsTupleIter it t (i+1)->aH.SameBut it s.heap h'->Q x { s with heap:=h' }):av #[s] A #[rz] Q E s:=by
 obtain⟨o,a,d,hd⟩:=id b;obtain⟨ol,e,_,nl,f⟩:=ht;unfold aT.SmallTypes.nextOf;refine am (wpAny_callSpecial?_slot (name:=#[iN]) b.typeIs F.slot_tuple_iterator_next
  (wpAny_call_entry F.slot_tuple_iterator_next b.typeIs F.entry_tuple_iterator_next ?_ #[n8]))
 show#[ro];refine am (aZ a hd (x:=.ref t) rfl ?_);show#[64];refine am (aZ a hd (x:=.int i 0) rfl ?_);show#[qf];refine am (bB e f ?_);simp only[Int.toNat_natCast,hx];refine am (wpAny_setField a hd #[4] (aF ⟨x,rfl,aF (c _ ?_ (aH.SameBut.update ..))⟩));exact⟨_,QX _ a (aM.isFreed_of_fields (aM.data_mapFields hd _)),(aM.cls_mapFields ..).trans d,by
  rw[aM.data_mapFields hd];simp[rawInt]⟩
theorem RE{i:ae}{k:Nat}{us:#[az]}{Q:#[G]}:∀ {S:Src},S.at s.heap i k->S.raw s.heap us->k<S.many us ->
  (∀h' tk u,S.fit us k u->S.at h' i (k+1)->aH.SameBut i s.heap h'->Q u { s with heap:=h',toks:=tk })->av #[s] A #[oq] Q E s
 | .l a,c,h,b,g=>wpAny_nextOf_list_item c h (x:=us[k]'b) #[ey,Qak,Qb,b] λh' d f=>g h' s.toks _ (Qb b) d f
 | .t a,c,h,b,g=>Zi6 c h (x:=us[k]'b) #[ey,Qak,Qb,b] λh' d f=>g h' s.toks _ (Qb b) d f
 | .s z,⟨tk,c⟩,h,b,g=>by
  have j:z.cps[k]? = U z.cps[k]:=QaH b;by_cases l:z.cps.all (·<128)=true
  ·have e:#[rN]:=by unfold bO;rw[if_pos l]
   rw[e]at c;exact wpAny_nextOf_ascii_item c j λh' d f=>g h' _ _ ⟨_,_,j,rfl⟩ ⟨tk,by rw[e];exact d⟩ f
  ·have e:bO z = "str_iterator":=by unfold bO;rw[if_neg l]
   rw[e]at c;exact wpAny_nextOf_wide_item c j λh' d f=>g h' _ _ ⟨_,_,j,rfl⟩ ⟨tk,by rw[e];exact d⟩ f
theorem ZfU{it t:ae}{i:Nat}{items:#[sl]}{Q:#[G]}(d:#[iZ])(b:#[sN])(ht:s.heap.IsTuple t items)(hx:items[i]? = af)
  (f:∀h' e,aH.ExtBut it s.heap h'->#[bW]->E #[bA] { s with heap:=h' }):av #[s] A #[rz] Q E s:=by
 obtain⟨o,c,hc,hd⟩:=id b;obtain⟨ol,g,_,nl,h⟩:=ht;unfold aT.SmallTypes.nextOf;refine am (wpAny_callSpecial?_slot (name:=#[iN]) b.typeIs F.slot_tuple_iterator_next
  (wpAny_call_entry F.slot_tuple_iterator_next b.typeIs F.entry_tuple_iterator_next ?_ #[n8]))
 show#[ro];refine am (aZ c hd (x:=.ref t) rfl ?_);show#[64];refine am (aZ c hd (x:=.int i 0) rfl ?_);show#[qf];refine am (bB g h ?_);simp only[Int.toNat_natCast,hx];refine am (wpAny_rule (am (wpAny_setField c hd #[4] ?_)));show av _ _ (newExc #[uL] [] >>= _) _ _ _;refine am ?_;simp only[newExc,newTuple];refine am (bD ?_ #[uv]);refine am (m:=firstArgMember _ _) (wpAny_of_eq (a:=aa.none) (by first|rfl|(simp only[firstArgMember];rfl)) ?_);refine bD ?_ #[uv];simp only[raiseNew];refine am (wpAny_handled ?_);first|rw[show A.in1.handled=af from d]|rw[d]
 refine am (aF (wpAny_throw ?_));exact f _ _ (((aH.SameBut.update ..).extBut.push _).push _) ⟨_,Qr _ rfl,rfl⟩
theorem MQ{i:ae}{k:Nat}{us:#[az]}{Q:#[G]}(f:#[iZ]):∀ {S:Src},S.at s.heap i k->S.raw s.heap us->S.many us<=k ->
  (∀h' e,aH.ExtBut i s.heap h'->#[bW]->E #[bA] { s with heap:=h' })->av #[s] A #[oq] Q E s
 | .l a,b,g,d,c=>wpAny_nextOf_list_end f b g #[ey,Qak,QY,d] c
 | .t a,b,g,d,c=>ZfU f b g #[ey,Qak,QY,d] c
 | .s z,⟨tk,b⟩,g,d,c=>by
  have h:z.cps[k]? = af:=QaT d;by_cases j:z.cps.all (·<128)=true
  ·have e:#[rN]:=by unfold bO;rw[if_pos j]
   rw[e]at b;exact wpAny_nextOf_ascii_end f b h c
  ·have e:bO z = "str_iterator":=by unfold bO;rw[if_neg j]
   rw[e]at b;exact wpAny_nextOf_wide_end f b h c
structure Ts (z TI TO i1 i2:ae) (S1 S2:Src):Prop where
 TIz:TI≠z
 TOz:TO≠z
 i1z:i1≠z
 i2z:i2≠z
 TITO:TI≠TO
 TIi1:TI≠i1
 TIi2:TI≠i2
 TOi1:TO≠i1
 TOi2:TO≠i2
 i12:i1≠i2
 s1z:S1.off z
 s1TO:S1.off TO
 s1i1:S1.off i1
 s1i2:S1.off i2
 s2z:S2.off z
 s2TO:S2.off TO
 s2i1:S2.off i1
 s2i2:S2.off i2
theorem Znh{z TI TO i1 i2:ae}{S1 S2:Src}{k:Nat}{p q:#[az]}{a b:aa}{Q:#[nm]}(D:#[iO])
  (hz:#[si]) (V:#[mi]) (W:IsPair s.heap TO a b)
  (h1:S1.at s.heap i1 k) (h2:S2.at s.heap i2 k) (X:S1.raw s.heap p) (Y:S2.raw s.heap q) (Z:k<S1.many p) (m2:k<S2.many q)
  (hQ:∀h' tk x y,S1.fit p k x->S2.fit q k y->IsZip h' z TI TO (rawInt s.heap.objs.size)->IsPair h' TO x y->S1.at h' i1 (k+1)->S2.at h' i2 (k+1)->IsPair h' s.heap.objs.size x y->h'.objs.size=s.heap.objs.size+1 ->
   (∀c o,c≠z->c≠TO->c≠i1->c≠i2->s.heap.get? c=U o->h'.get? c=U o)->Q (U #[aP]) { s with heap:=h',toks:=tk }) :
  av #[s] A (pyNext (.ref z)) Q E s:=by
 have K:#[tZ]:=⟨_,hz,rfl⟩;unfold pyNext;refine am (wpAny_attempt (wpAny_callSpecial?_slot (name:=#[iN]) K F.slot_zip_next (wpAny_call_entry F.slot_zip_next K F.entry_zip_next ?_ (F.args_zip_next_1 _))));show#[aA];refine am (aZ hz rfl (x:=.ref TI) rfl (am (bB V rfl ?_)));show#[59];refine am (wpAny_rule (am (aZ hz rfl (x:=.ref TO) rfl (am (bM hz #[4] λL u f=>?_)))));replace u:IsZip L z TI TO .ellipsis:=u;show#[53];refine am (RE (S:=S1) (us:=p) (k:=k) #[gh,f.extBut,h1] (S1.raw_keep #[em,c,n,f.extBut,n] D.s1z X) Z λv vB x fx qf iD=>aF ?_);have g:#[va,i1,L,v]:=iD;have M:IsPair v TO a b:=g.extBut _ _ D.TOi1 (f.extBut _ _ D.TOz W);refine am (bB M rfl (am (wpAny_updateSeq_pair M λB C iF=>am (wpAny_letGo (aF ?_)))));replace C:IsPair B TO x b:=C;have h:#[va,TO,v,B]:=iF;show#[cV];refine am (RE (S:=S2) (us:=q) (k:=k)
  (S2.at_keep (λo e=>h.extBut _ o D.TOi2.symm (g.extBut _ o D.i12.symm (f.extBut _ o D.i2z e))) h2)
  (S2.raw_keep #[em,c,n,h.extBut,n] D.s2TO (S2.raw_keep #[em,c,n,g.extBut,n] D.s2i1 (S2.raw_keep #[em,c,n,f.extBut,n] D.s2z Y))) m2 λG vC y fy vD kQ=>aF ?_)
 have i:#[va,i2,B,G]:=kQ;have N:IsPair G TO x b:=i.extBut _ _ D.TOi2 C;refine am (bB N rfl (am (wpAny_updateSeq_pair N λd r kR=>am (wpAny_letGo (aF (aF ?_))))));replace r:IsPair d TO x y:=r;have j:#[va,TO,G,d]:=kR;refine am (bB r rfl (am (wpAny_newTuple ?_)));have l:d.objs.size=s.heap.objs.size:=by rw[j.1,i.1,h.1,g.1,f.1]
 have O:#[pP,d]:=j.extBut _ _ D.TOz.symm (i.extBut _ _ D.i2z.symm (h.extBut _ _ D.TOz.symm (g.extBut _ _ D.i1z.symm u)));have vE:∀c o,c≠z->c≠TO->c≠i1->c≠i2->s.heap.get? c=U o->d.get? c=U o:=λc o c1 c2 c3 c4 e =>
  j.extBut _ _ c2 (i.extBut _ _ c4 (h.extBut _ _ c2 (g.extBut _ _ c3 (f.extBut _ _ c1 e))))
 have vF:S1.at d i1 (k+1):=S1.at_keep (λo e=>j.extBut _ o D.TOi1.symm (i.extBut _ o D.i12 (h.extBut _ o D.TOi1.symm e))) qf;have vG:S2.at d i2 (k+1):=S2.at_keep (λo e=>j.extBut _ o D.TOi2.symm e) vD;have P:z<d.objs.size:=Qk O;show av _ _ (aT.SmallTypes.ownedTupleHandOut (.ref z) (.ref d.objs.size) >>= _) _ _ _;refine am ?_;unfold aT.SmallTypes.ownedTupleHandOut;have vH:IsZip (d.push { cls:=.type "tuple",data:=.seq #[x,y] }) z TI TO .ellipsis:=Qc _ O;refine am (bM vH #[4] λyf H I=>?_);replace H:IsZip yf z TI TO (rawInt d.objs.size):=H;refine bM H #[4] λm t J=>?_;replace t:IsZip m z TI TO (rawInt d.objs.size):=t;have up:∀c o,c≠z->d.get? c=U o->m.get? c=U o:=λc o c1 e=>J.extBut _ _ c1 (I.extBut _ _ c1 (Qc _ e));have R:IsPair m d.objs.size x y:=J.extBut _ _ (QU P) (I.extBut _ _ (QU P) (Qr _ rfl));have T:m.objs.size=d.objs.size+1:=by rw[J.1,I.1,QV]
 rw[l]at t R T;refine aF ⟨_,rfl,aF ?_⟩;show Q (U (.ref d.objs.size)) _;rw[l];exact hQ m vC x y fx fy t (up _ _ D.TOz r) #[gh,up,vF] (S2.at_keep (λo e=>up _ o D.i2z e) vG) R T λc o c1 c2 c3 c4 e=>up c o c1 (vE c o c1 c2 c3 c4 e)
theorem ZoZ{z TI TO i1 i2:ae}{S1 S2:Src}{k:Nat}{g l:#[az]}{a b:aa}{Q:#[nm]}(B:#[iZ])(D:#[iO])
  (hz:#[si]) (N:#[mi]) (O:IsPair s.heap TO a b)
  (h1:S1.at s.heap i1 k) (h2:S2.at s.heap i2 k) (C:S1.raw s.heap g) (P:S2.raw s.heap l) (R:S1.many g<=k\/S2.many l<=k)
  (V:∀h' tk,#[ho]->Q af { s with heap:=h',toks:=tk }) :
  av #[s] A (pyNext (.ref z)) Q E s:=by
 have G:#[tZ]:=⟨_,hz,rfl⟩;unfold pyNext;have done:∀ (h':aH) (tk:Nat) (e:ae),#[ho]->#[bW] ->
   av #[s] A (do if (<- isInstance #[bA] #[uL]) then pure af else throw #[bA]:Sem (Option aa)) Q E { s with heap:=h',toks:=tk }:=λh' tk e W ⟨o,X,Y⟩=>
  am (wpAny_isInstance (T := "StopIteration") (b:=true) ⟨o,X,Y⟩ isSubtype_stop (aF (V h' tk W)))
 refine am (wpAny_attempt (wpAny_callSpecial?_slot (name:=#[iN]) G F.slot_zip_next (wpAny_call_entry F.slot_zip_next G F.entry_zip_next ?_ (F.args_zip_next_1 _))));show#[aA];refine am (aZ hz rfl (x:=.ref TI) rfl (am (bB N rfl ?_)));show#[59];refine am (wpAny_rule (am (aZ hz rfl (x:=.ref TO) rfl (am (bM hz #[4] λH m d=>?_)))));replace m:IsZip H z TI TO .ellipsis:=m;show#[53];by_cases Z:k<S1.many g
 ·have m2:S2.many l<=k:=by rcases R with z'|z';lia;exact z'
  refine am (RE (S:=S1) (us:=g) (k:=k) #[gh,d.extBut,h1] #[kM] Z λh vB x fx qf p=>aF ?_);have i:#[va,i1,H,h]:=p;have I:IsPair h TO a b:=i.extBut _ _ D.TOi1 (d.extBut _ _ D.TOz O);refine am (bB I rfl (am (wpAny_updateSeq_pair I λt jd q=>am (wpAny_letGo (aF ?_)))));have r:#[va,TO,h,t]:=q;show#[cV];refine am (MQ (S:=S2) (us:=l) (k:=k) B
   (S2.at_keep (λo e=>r.extBut _ o D.TOi2.symm (i.extBut _ o D.i12.symm (d.extBut _ o D.i2z e))) h2)
   (S2.raw_keep #[em,c,n,r.extBut,n] D.s2TO (S2.raw_keep #[em,c,n,i.extBut,n] D.s2i1 (S2.raw_keep #[em,c,n,d.extBut,n] D.s2z P))) m2 λgu e J u=>?_)
  show#[gU,v,f,j,u];have K:#[pP,gu]:=J _ _ D.i2z.symm (r.extBut _ _ D.TOz.symm (i.extBut _ _ D.i1z.symm m));have y:e≠z:=λx=>by subst x;show#[e8,K,f,f];simp at j
  exact bM K #[4] λcX _ L=>done cX _ e (λc o c1 c2 c3 c4 x=>L.extBut _ _ c1 (J _ _ c4 (r.extBut _ _ c2 (i.extBut _ _ c3 (d.extBut _ _ c1 x))))) ⟨v,L.extBut _ _ y f,j⟩
 ·refine am (MQ (S:=S1) (us:=g) (k:=k) B #[gh,d.extBut,h1] #[kM] #[2] λh e p u=>?_);show#[gU,v,f,j,u];have M:#[pP,h]:=p _ _ D.i1z.symm m;have y:e≠z:=λx=>by subst x;show#[e8,M,f,f];simp at j
  exact bM M #[4] λt _ q=>done t _ e (λc o c1 _ c3 _ x=>q.extBut _ _ c1 (p _ _ c3 (d.extBut _ _ c1 x))) ⟨v,q.extBut _ _ y f,j⟩
universe E
noncomputable def Src.iter(tk:Tok):Src->aM
 | .l a=>{ cls:=.type "list_iterator",data:=.fields #[.ref a,.int 0 0] }
 | .t a=>{ cls:=.type "tuple_iterator",data:=.fields #[.ref a,.int 0 0] }
 | .s z=>{ cls:=.type (bO z),data:=.fields #[.str z tk,.int 0 0] }
noncomputable def Src.value(tk:Tok):Src->aa
 | .l a=>.ref a
 | .t a=>.ref a
 | .s z=>.str z tk
theorem Src.iter_at{h:aH}{i:ae}{tk:Tok}:∀ {S:Src},h.get? i=U (S.iter tk)->S.at h i 0
 | .l _,e=>⟨_,e,rfl,rfl⟩
 | .t _,e=>⟨_,e,rfl,rfl⟩
 | .s _,e=>⟨tk,_,e,rfl,rfl⟩
theorem Src.pyIter{prog:aw}{w:aD}{A:aB}{E:#[G]}{s:ai}{tk:Tok}{us:#[az]}{Q:#[G]}:∀ {S:Src},S.raw s.heap us ->
  Q #[aP] { s with heap:=s.heap.push (S.iter tk) }->av #[s] A (pyIter (S.value tk)) Q E s
 | .l _,r,q=>cA r q
 | .t _,r,q=>wpAny_pyIter_tuple r q
 | .s _,_,q=>wpAny_pyIter_strU q
theorem Src.raw_push{h:aH}{ob:aM}:∀ {S:Src} {us:List aa},S.raw h us->S.raw (h.push ob) us
 | .l _,_,⟨o,e,d⟩=>⟨o,Qc _ e,d⟩
 | .t _,_,⟨o,e,d⟩=>⟨o,Qc _ e,d⟩
 | .s _,_,_=>trivial
noncomputable abbrev zH1(h:aH)(S1:Src)(a:Tok):aH:=h.push (S1.iter a)
noncomputable abbrev zH2(h:aH)(S1 S2:Src)(a b:Tok):aH:=(zH1 h S1 a).push (S2.iter b)
noncomputable abbrev zH3(h:aH)(S1 S2:Src)(a b:Tok):aH:=(zH2 h S1 S2 a b).push { cls:=.type "tuple",data:=.seq #[.ref h.objs.size,.ref (zH1 h S1 a).objs.size] }
noncomputable abbrev zH4(h:aH)(S1 S2:Src)(a b:Tok):aH:=(zH3 h S1 S2 a b).push { cls:=.type "tuple",data:=.seq #[.none,.none] }
noncomputable abbrev zH5(h:aH)(S1 S2:Src)(a b:Tok):aH:=(zH4 h S1 S2 a b).push { cls:=.type "zip",data:=.fields #[.none,.bool false,.bool false,.ref (zH2 h S1 S2 a b).objs.size,.ref (zH3 h S1 S2 a b).objs.size] }
theorem ZpZ(S1 S2:Src)(a e:Tok)(i j:#[az]) :
  Meets (aT.«zip.__new__» ⟨[.type "zip",S1.value a,S2.value e],[]⟩) (λ_ R s=>S1.raw s.heap i/\S2.raw s.heap j /\
   R (.ok (.ret (.ref (zH4 s.heap S1 S2 a e).objs.size))) { s with heap:=zH5 s.heap S1 S2 a e }) :=
 .of_wp λb w A R s h=>by
  show#[ga,c,f,s];show#[gU,m,n,h,h];have il:=sub_zip;have k:∀ {A:aB} {E:aa->ai->Prop} {Q:aa->ai->Prop},Q (.ref c.objs.size) #[jZ]->av (ay b w) A (pyIter (S1.value a)) Q E #[fR,c,f]:=
   λ{A E Q} q=>Src.pyIter (s:=#[fR,c,f]) (us:=i) m q
  have l:∀ {A:aB} {E:aa->ai->Prop} {Q:aa->ai->Prop},Q (.ref (zH1 c S1 a).objs.size) ⟨zH2 c S1 S2 a e,g,d,f,os⟩->av (ay b w) A (pyIter (S2.value e)) Q E #[jZ]:=
   λ{A E Q} q=>Src.pyIter (s:=#[jZ]) (us:=j) (S2.raw_push n) q
  generalize S1.value a=v1 at k ⊢;generalize S2.value e=v2 at l ⊢
  wp_walk using k,l
  exact⟨_,rfl,h⟩
section
variable {prog:aw} {w:aD} {A:aB} {E:aa->ai->Prop} {s:ai}
theorem ZoD{S1 S2:Src}{a b:Tok}{e f:#[az]}{Q:#[G]}(m:S1.raw s.heap e)(n:S2.raw s.heap f)
  (h:∀h',IsZip h' #[oD,4] #[oD,2] #[oD,3] .none->IsPair h' #[oD,2] #[aP] (.ref #[H]) ->
   IsPair h' #[oD,3] .none .none->S1.at h' s.heap.objs.size 0->S2.at h' #[H] 0->h'.objs.size=s.heap.objs.size+5 ->
   (∀c o,s.heap.get? c=U o->h'.get? c=U o)->Q (.ref #[oD,4]) { s with heap:=h' }) :
  av #[s] A (call (.type "zip") [S1.value a,S2.value b]) Q E s:=by
 refine callType_new F.called_zip #[6] (F.typeCall_zip_2 _ _) (F.newCall_zip_2 _ _) (λobj=>F.args_object_init_3 obj _ _) F.entry_zip_new (ZpZ S1 S2 a b e f) ⟨m,n,?_⟩;have z1:(zH1 s.heap S1 a).objs.size=s.heap.objs.size+1:=QV ..;have z2:#[f8,zH2,2]:=by rw[QV,z1]
 have z3:#[f8,zH3,3]:=by rw[QV,z2]
 have z4:#[f8,zH4,4]:=by rw[QV,z3]
 have z5:#[b5].objs.size=s.heap.objs.size+5:=by rw[QV,z4]
 have g:∀ (i:Tok) (S:Src),(S.iter i).isFreed=false:=λi S=>by cases S<;>rfl
 have d:#[f6,zH4]:=Qr _ rfl;have j:#[f6,zH3]:=Qc _ (Qr _ rfl);have k:#[f6,zH2]:=Qc _ (Qc _ (Qr _ rfl));have l:#[b5].get? (zH1 s.heap S1 a).objs.size=U (S2.iter b):=Qc _ #[rA];have p:#[b5].get? s.heap.objs.size=U (S1.iter a):=Qc _ (Qc _ #[rA]);show _/\_;rw[z2,z3,z4]at d;rw[z1,z2]at k;rw[z3]at j;rw[z1]at l;rw[z4];exact⟨⟨_,d,rfl⟩,h _ d k j (Src.iter_at p) (Src.iter_at l) z5 λc o x =>
  Qc _ (Qc _ (Qc _ (Qc _ (Qc _ x))))⟩
universe E
noncomputable def Itz(K:#[7])(S1 S2:Src):It :=
 ⟨λi H=>X2 λa b=>S1.its K H a/\S2.its K H b/\i<a.length/\i<b.length,
  λi H v c=>∃p,H p=af/\v=.ref p/\∀a b,S1.its K H a->S2.its K H b->∀x y,a[i]? = U x->b[i]? = U y->c=upd H p (.tup [x,y]),
  λi H=>X2 λa b=>S1.its K H a/\S2.its K H b/\(a.length<=i\/b.length<=i)⟩
section
variable {X:Cx} {ah:List (ae×aM)} {σ:St} {H:Hp} {s:ai}
theorem Inv.src(I:#[k]):∀ {S:Src} {xs:List V},S.its X.K H xs->∃us,S.raw s.heap us/\S.many us=xs.length/\∀k u x,S.fit us k u->xs[k]? = U x->ZI x u
 | .l a,xs,h=>by obtain⟨its,e,pl,_⟩:=I.list h;refine⟨its,pl.isList,e.length.symm,λk u x f b=>?_⟩;show#[hM]
 | .t a,xs,h=>by obtain⟨its,e,pl,_⟩:=I.tuple h;refine⟨its,pl,e.length.symm,λk u x f b=>?_⟩;show#[hM]
 | .s z,xs,h=>by
  refine⟨[],trivial,?_,λk u x f b=>?_⟩
  ·rw[show xs=_ from h,Qa];simp[Src.many]
  ·obtain⟨c,i,d,j⟩:=f;subst j;rw[show xs=_ from h,Qo]at b;have l:z.cps.toList[k]? = U c:=by simpa using d
   show#[e8,l,b,b];exact⟨i,rfl⟩
theorem Inv.src_off(I:#[k]){b:ae}(hb:XH X ah H b):∀ {S:Src} {xs:List V},S.its X.K H xs->S.off b
 | .l a,xs,h=>by
  rcases h with(h|⟨ob,h⟩)|⟨o,its,n,hk,_⟩
  ·exact Ze h hb.1
  ·exact Ze h hb.1
  ·show#[rI];rcases hb.2.2.2.1 with z|z
   ·exact I.ok.noex a o e z
   ·exact #[cW]
 | .t a,xs,h=>by
  rcases h with(h|⟨ob,h⟩)|⟨o,its,n,hk,_⟩
  ·exact Ze h hb.1
  ·exact Ze h hb.1
  ·show#[rI];rcases hb.2.2.2.1 with z|z
   ·exact I.ok.noex a o e z
   ·exact #[cW]
 | .s z,xs,h=>trivial
theorem Inv.zipped{fp:#[j7]}{h':aH}{tk:Nat}{x y:V}{u v:aa}(I:#[k])(g:#[oY,ah,H])(k:ZI x u)(l:ZI y v)
  (p:IsPair h' s.heap.objs.size u v) (hfh:∀b∈fp,∃o,h'.get? b=U o) (hk:∀c o,c ∉ fp->s.heap.get? c=U o->h'.get? c=U o) :
  Inv X ah σ (upd H s.heap.objs.size (.tup [x,y])) { s with heap:=h',toks:=tk }:=by
 have t:H s.heap.objs.size=af:=I.fresh;have ne:∀b a,s.heap.get? b=U a->b≠s.heap.objs.size:=λb a e=>Qx (Qk e);have h:∀b u,H b=U u->b≠s.heap.objs.size:=λb u e=>Ze e t;have i:∀b u,H b=U u->b ∉ fp:=λb u e d=>by rw[(g b d).1]at e;cases e
 refine I.step (g':=s.gens) (d':=s.drawn) (ch:=fp) (λb d=>⟨(g b d).2.2.2.1,(g b d).2.1,(g b d).2.2.2.2.1,(g b d).2.2.2.2.2⟩)
  (λb a _ _ f e _=>hk b a f e) (λb a _ _ f e _=>⟨a.slots,hk b a f e⟩) (λb a _ e n=>by rw[Zc (ne b a e)];exact n) (λb a f e=>⟨a,hk b a f e⟩)
  (λb w e=>by rw[Zc (h b _ e)];exact e) (λb a u e=>by rw[Zc (h b _ e)];exact e) (λb ps e=>⟨#[],by rw[Zc (h b _ e),e];simp⟩) (λm A=>?_) #[g5,b,j,e] I.bare
 ·obtain⟨a,B,C,D,r⟩:=A;exact⟨a,B,C,hk _ a #[vj,g] D,r⟩
 ·by_cases d:b=s.heap.objs.size
  ·show#[fH,d,Zd,e];exact⟨by show 2<=aq;decide,[u,v],.cons k (.cons l .nil),⟨_,p,rfl,_,rfl⟩⟩
  ·rw[Zc d]at e;refine(I.hok b j e).stay (λc E f q=>hk c E ?_ q) (λc q=>by rw[Zc (h c _ q)];exact q) λc w q=>by rw[Zc (h c _ q)];exact q
   rcases f with z|z
   ·rw[z];exact i b j e
   ·exact i c _ z
universe E
theorem Zog{P:aw}{w:aD}{K:#[7]}{fb:#[iS]}{x1:Nat}{dZ:Pos}{S1 S2:Src}{z TI TO i1 i2:ae}
  (Q:TI≠z) (Y:TO≠z) (Z:i1≠z) (d4:i2≠z) (d5:TI≠TO) (d6:TI≠i1) (d7:TI≠i2) (d8:TO≠i1) (d9:TO≠i2) (lS:i1≠i2) :
  WN P w K (.Tuple fb x1 dZ) (Itz K S1 S2) #[j5] z
   (λi h=>IsZip h z TI TO .none/\IsPair h TI (.ref i1) (.ref i2)/\(X2 λa b=>IsPair h TO a b)/\S1.at h i1 i/\S2.at h i2 i) where
 mem:=by simp
 obj:=λi h st b j=>by
  obtain⟨J,L,⟨a,b',M⟩,N,O⟩:=st;have nf:∀ {o:aM} {A:Array aa},o.data=.fields A->∀v,o.data≠.cell v:=λd v e=>by rw[d]at e;cases e
  show#[ci];rcases j with rfl|rfl|rfl|rfl|rfl
  ·exact⟨_,J,nf rfl⟩
  ·show#[eh,L,v,e]
  ·show#[eh,M,v,e]
  ·obtain⟨o,A,e,d⟩:=Src.at_obj N;exact⟨o,e,nf d⟩
  ·obtain⟨o,A,e,d⟩:=Src.at_obj O;exact⟨o,e,nf d⟩
 keep:=λi h R st k=>by obtain⟨J,L,⟨a,b',M⟩,N,O⟩:=st;exact⟨k z #[4] _ J,k TI #[4] _ L,⟨a,b',k TO #[4] _ M⟩,Src.at_keep (λo e=>k i1 #[4] o e) N,Src.at_keep (λo e=>k i2 #[4] o e) O⟩
 item:=by
  show#[cy];obtain⟨xs,ys,B,C,l1,l2⟩:=hg;show#[hr];have D:#[iO]:=⟨Q,Y,Z,d4,d5,d6,d7,d8,d9,lS,I.src_off T B,I.src_off #[us] B,I.src_off #[ur] B,I.src_off #[uq] B,
   I.src_off T C,I.src_off #[us] C,I.src_off #[ur] C,I.src_off #[uq] C⟩
  refine Znh D J L M N O r1 r2 #[2] #[2] λR tk x y fx fy a1 a2 a3 a4 a5 a6 a7=>?_;have rx:=f1 i x _ fx (Qb l1);have ry:=f2 i y _ fy (Qb l2);refine⟨_,rfl,wpAny_letOwnedTupleGo_zip a1 λkU ux lT=>?_⟩;have G:#[va,z,R,kU]:=lT;have uy:IsPair R TI (.ref i1) (.ref i2):=a7 _ _ Q d5 d6 d7 L;have lt:#[aZ]:=λe=>QU (Qk e);have CG:s.heap.objs.size≠z:=lt J;have I2:Inv X ah σ (upd H s.heap.objs.size (.tup [xs[i],ys[i]])) { s with heap:=kU,toks:=tk }:=by
   refine I.zipped (fp:=#[j5]) g rx ry (G.extBut _ _ CG a5) (λb j=>?_) λc o f e=>?_
   ·show#[ci];rcases j with rfl|rfl|rfl|rfl|rfl
    ·exact⟨_,ux⟩
    ·exact#[vu,_,Q,uy]
    ·exact#[vu,_,Y,a2]
    ·show#[g6,a3];exact#[vu,o,Z,e]
    ·show#[g6,a4];exact#[vu,o,d4,e]
   ·simp only[List.mem_cons,List.not_mem_nil,or_false,not_or]at f;exact G.extBut _ _ f.1 (a7 c o f.1 f.2.2.1 f.2.2.2.1 f.2.2.2.2 e)
  refine⟨.ref s.heap.objs.size,_,I2,rfl,⟨s.heap.objs.size,I.fresh,rfl,λCH iC w1 w2 x' y' e1 e2=>?_⟩,⟨ux,G.extBut _ _ Q uy,⟨_,_,G.extBut _ _ Y a2⟩,Src.at_keep (λo e=>G.extBut _ o Z e) a3,Src.at_keep (λo e=>G.extBut _ o d4 e) a4⟩,λb j=>?_⟩
  ·have same:∀ {S:Src} {us A:List V},S.its X.K H us->S.its X.K H A->us=A:=λ{S us A} p q=>by
    cases S with
    | l a=>exact I.list_inj p q
    | t a=>exact I.tuple_inj p q
    | s z=>rw[show us=_ from p,show A=_ from q]
   have e3:=same w1 B;have e4:=same w2 C;subst e3;subst e4;rw[Qb l1]at e1;rw[Qb l2]at e2;cases e1;cases e2;rfl
  ·rw[Zc (λe=>by
    obtain⟨o,e1,_⟩:∃o,s.heap.get? b=U o/\True:=by
     show#[ci];rcases j with rfl|rfl|rfl|rfl|rfl
     ·exact⟨_,J,trivial⟩
     ·exact⟨_,L,trivial⟩
     ·exact⟨_,M,trivial⟩
     ·show#[g6,N];exact⟨o,e,trivial⟩
     ·show#[g6,O];exact⟨o,e,trivial⟩
    exact lt e1 e.symm)]
   exact(g b j).1
 done:=by
  show#[cy];obtain⟨xs,ys,B,C,l⟩:=hg;show#[hr];have D:#[iO]:=⟨Q,Y,Z,d4,d5,d6,d7,d8,d9,lS,I.src_off T B,I.src_off #[us] B,I.src_off #[ur] B,I.src_off #[uq] B,
   I.src_off T C,I.src_off #[us] C,I.src_off #[ur] C,I.src_off #[uq] C⟩
  refine ZoZ (I.ok.hd f) D J L M N O r1 r2 #[2] λR tk hk=>⟨rfl,?_⟩;have W:∀c o,c ∉ #[j5]->s.heap.get? c=U o->R.get? c=U o:=λc o f e=>by simp only[List.mem_cons,List.not_mem_nil,or_false,not_or]at f;exact hk c o f.1 f.2.2.1 f.2.2.2.1 f.2.2.2.2 e
  have ql:∀b u,H b=U u->b ∉ #[j5]:=λb u e j=>by rw[(g b j).1]at e;cases e
  refine I.step (g':=s.gens) (d':=s.drawn) (ch:=#[j5]) (λb j=>⟨(g b j).2.2.2.1,(g b j).2.1,(g b j).2.2.2.2.1,(g b j).2.2.2.2.2⟩)
   (λb F _ _ f e _=>W b F f e) (λb F _ _ f e _=>⟨F.slots,W b F f e⟩) (λb F _ e n=>n) (λb F f e=>⟨F,W b F f e⟩)
   (λb xs e=>e) (λb F u e=>e) #[mH] (λm hm=>?_) #[g5,b,ub,e] I.bare
  ·obtain⟨F,es,ep,ho,r⟩:=hm;exact⟨F,es,ep,W _ F #[vj,g] ho,r⟩
  ·refine(I.hok b ub e).stay (λc w' f q=>W c w' ?_ q) (λc q=>q) λc xs q=>q;rcases f with z'|z'
   ·rw[z'];exact ql b ub e
   ·exact ql c _ z'
 self:=λ_ _ _ _ _ st h=>wpAny_pyIter_zip st.1 h
def MP(K:#[7])(b:TA):TI:=λc H R=>b c H λvs a=>X4 λS1 S2 xs ys=>vs=[Src.val S1,Src.val S2]/\S1.its K a xs/\S2.its K a ys/\R (Itz K S1 S2) a
theorem ZrY{X:Cx}{a b:aI}{i:TA}{p pos:Pos}{A:#[iS]}{B:Nat}{C:Pos}(D:Gl X "zip")(hm:X.mg "zip" = af)(ha:PA X [a,b] i)
  (hs:#[aW]:=by rfl) (j:#[ec,b]:=by rfl) :
  PI X (.Tuple A B C) #[ml] (MP X.K i):=by
 show#[dU,k,m,R];refine Call_ (V5 I D hm boot_zip (Q9 (thn #[eW,k,m] ?_) (by rw[hs,j]) #[pT,j]));rintro us c ⟨vs,o,d,f,E⟩;obtain⟨S1,S2,xs,ys,e,F,G,q⟩:=E;subst e;obtain⟨u1,u2,rfl,J,K⟩:=f.two;have v:∀ {S:Src} {u:aa},ZI S.val u->∃g,u=S.value g:=λ{S u} r=>by
  cases S with
  | l a=>exact⟨0,r⟩
  | t a=>exact⟨0,r⟩
  | s z=>obtain⟨g,e⟩:=r;exact⟨g,e⟩
 obtain⟨t1,rfl⟩:=v J;obtain⟨t2,rfl⟩:=v K;obtain⟨fV,f,m1,f1⟩:=d.src F;obtain⟨gp,L,m2,f2⟩:=d.src G;refine ZoD f L λM w N O a1 a2 a3 P=>wpAny_pyIter_zip w ?_;have Q:#[fv,k,m,o,c,M]:=d.kept (t':=c.toks) P;have n:=#[rM];refine⟨_,_,_,_,o,rfl,Q,Zog (S1:=S1) (S2:=S2) (z:=c.heap.objs.size+4) (TI:=c.heap.objs.size+2) (TO:=c.heap.objs.size+3) (i1:=#[rM]) (i2:=c.heap.objs.size+1)
  (Qx #[lx]) (Qx #[lx]) (Qx (Qat #[6])) (Qx #[lx])
  (Qx #[lx]) (QU (Qat #[6])) (QU #[lx]) (QU (Qat #[6]))
  (QU #[lx]) (Qx (Qat #[6])),⟨w,N,⟨_,_,O⟩,a1,a2⟩,λb x=>?_,q⟩
 have y:c.heap.objs.size<=b:=by
  simp only[List.mem_cons,List.not_mem_nil,or_false]at x;rcases x with rfl|rfl|rfl|rfl|rfl
  ·exact QaG _ 4
  ·exact QaG _ 2
  ·exact QaG _ 3
  ·exact Qf _
  ·exact QaG _ 1
 exact #[vi,y]
section
variable {X:Cx} (K:#[7])
theorem ixL(h:X.K=K:=by rfl):IxR X (Nh K):=by subst h;exact Zpd
theorem ixT(h:X.K=K:=by rfl):IxR X (Ng K):=by subst h;exact Zrf
theorem slL(h:X.K=K:=by rfl):SlR X (Nd K):=by subst h;exact Zqn
def Zsg:List V->Hp->VK->Prop:=λxs H Q=>X2 λp ys=>xs=#[js]/\#[gm,K,ys]/\Q (.int ys.length) H
theorem Ye(h:X.K=K:=by rfl):YU X #[m2] (Zsg K):=by subst h;exact ZiV
theorem W4(h:X.K=K:=by rfl):YU X #[dg] (MT K):=by subst h;exact Zns
theorem Zsj(h:X.K=K:=by rfl):YU X #[dg] (MR K):=by subst h;exact ZmH
def ZsA:List V->Hp->VK->Prop:=λxs H Q=>X2 λ(p:ae) (bs:List Bool)=>xs=#[js]/\SqL K H p (bs.map V.bl)/\Q (.bl (bs.all id)) H
theorem Ztz(hc:#[aD]:=by rfl)(h:X.K=K:=by rfl):YU X #[ep,"all"] (ZsA K):=by subst h;exact Zo9 hc
def Ztk:List V->Hp->VK->Prop:=λxs H Q=>X2 λ(p:ae) (ss:List ak)=>xs=#[js]/\SqL K H p #[24]/\ss.length<64 /\
  ∀ (l:ae) (a:List ak),H l=af->a.Perm ss->sortedS a=true->Q #[cT] (upd H l #[dv,a.map])
theorem ZtI(h:X.K=K:=by rfl):YU X #[ep,"sorted"] (Ztk K):=by subst h;exact Zji
def Zs4:V->List V->Hp->VK->Prop:=λx vs H Q=>X3 λ(sep:ak) (p:ae) (ys:List ak)=>x=.str sep/\vs=#[js]/\SqL K H p #[k4]/\#[ug].sum+ys.length*sep.length<=16777216/\Q (.str #[q6]) H
theorem US(h:X.K=K:=by rfl):MtR X "str.join" (Zs4 K):=by subst h;exact Zp5
theorem iL{b l:aI}{a:TE}(hl:PE X l a)(h:X.K=K:=by rfl):PI X b l (NN K a):=by subst h;exact ZpI hl
theorem gT{a:#[iS]}{k:Nat}{t:TGs}{n:Nat}{pos:Pos}(h:PGs X a t)(b:X.K=K:=by rfl)(hc:#[aD]:=by rfl)
  (c:#[u9,a].length=n:=by rfl) (d:#[u9,a].findIdx? #[iw]=af:=by rfl):PG X (.Tuple a k pos) (NO K n t):=by subst b;exact ZrI hc h c d
theorem iZ{a b:aI}{c:TA}{p pos:Pos}{d:#[iS]}{e:Nat}{f:Pos}(hm:X.mg "zip" = af)(ha:PA X [a,b] c)(g:Gl X "zip":=by rfl)(h:X.K=K:=by rfl)
  (i:#[aW]:=by rfl) (j:#[ec,b]:=by rfl) :
  PI X (.Tuple d e f) #[ml] (MP K c):=by subst h;exact ZrY g hm ha i j
universe E
structure Df (P:aw) (w:aD) (K:#[7]) (mg:#[J]) (base:aH) (k:Nat) (x:ak) (ps:#[T]) (sp:Sp):Prop where
 ex:X2 λf fd=>YX P w K mg base CX0 k f fd ps sp/\mg x=U #[73]/\PySem.W.keepIn K #[73]=true/\YG K fd ps []
section
variable {P:aw} {w:aD} {K:#[7]} {mg:ak->Option aa} {base:aH}
structure Top (K:#[7]) (mg:#[J]) (x:ak) (st:aL) (ps:#[T]):Prop where
 ex:X2 λf fd=>Fun K x x st f fd/\mg x=U #[73]/\YG K fd ps []
theorem Top.df{x:ak}{st:aL}{N ps:#[T]}{k:Nat}{sp:Sp}(T:Top K mg x st ps)(S:#[hd])(len:#[P])
  (c:∀ (a:aa) (f:ae) (A:aB) (outer:List Env) (s:ai) (H:Hp) (vs:List V) (Q:VK) (E:XK),Zt k #[en,x]->sp vs H Q E ->
   ∃t,PSs (XT CX0 P w K mg base N x (Zb st) f a A outer s H E).nox (Zj st) t/\t { nx:=λ_ d=>Q .non d,rt:=Q } #[jG] H):Df P w K mg base (k+1) x ps sp:=by
 show#[pn,e];exact⟨f,e,F.ok S len #[dN,g,c],m,F.kp,b⟩
universe E
section
variable {X:Cx} {k j:Nat} {x:ak} {ps:List ak} {sp:Sp} {e:aI} {es:List aI} {t:TA} {p pos:Pos}
theorem ZD(F:Df X.prog X.w X.K X.mg X.base k x ps sp)(hr:#[n0])(ha:#[69])(a:k<=j:=by decide)(c:#[rO]:=by rfl)(d:#[j]:=by decide)
  (g:#[i]:=by rfl) (h:#[A]:=by rfl) :
  PE X #[30] (Nr sp [] E0 t):=by
 show#[ph,m,i,b];exact Zqe F (hr.mono a) c m i b .nil Vr ha d g h
theorem XR{T:String}(hm:X.mg x=af)(a:cH x=U (.type T))(b:#[rO]:=by rfl)(hn:#[jy]:=by decide)(hd:#[j]:=by decide):PE X #[a4] (tC (.ty T)) :=
 Zpl b hm a rfl hn hd
universe E
theorem MN{lo:Int}{n k:Nat}{D:ae}{a:St}{c:Hp}{g:TG}{d:TE}{Q:VK}(Pv:#[fC,St])(j:#[fm,c])
  (hs:∀i ys a H,i<n->Pv i ys a H->g (.int (lo+i)) a H λf l=>d f l λy h=>h D=U #[mb]/\ys.length<aq/\Pv (i+1) (ys++[y]) f #[f1,h])
  (hd:∀ys a H,Pv n ys a H->Q #[it] H):VZ #[tj] D k a c g V0 d Q:=by
 refine⟨λi m ys a H=>m=n-i/\i<=n/\Pv i ys a H,⟨n,by simp,Qm _,j⟩,?_⟩;rintro i m ys a H ⟨rfl,hi,p⟩;by_cases b:i<n
 ·refine .inr ⟨b,Pv (i+1),λiC aQ o q=>⟨n-(i+1),by lia,rfl,b,q⟩,λx o y=>?_⟩;show#[dz,e,y,y];subst e y;show#[nV];exact hs i ys a _ b p
 ·have e:i=n:=by lia
  subst e;exact .inl ⟨Qf _,hd ys a H p⟩
theorem RD{K:#[7]}{S1 S2:Src}{xs ys:#[m7]}{k:Nat}{D:ae}{a:St}{d:Hp}{g:TG}{f:TE}{Q:VK}(Pv:#[fC,St])(l:#[fm,d])
  (hl:∀i zs a H,Pv i zs a H->S1.its K H xs/\S2.its K H ys)
  (hs:∀i zs a H x y p,xs[i]? = U x->ys[i]? = U y->Pv i zs a H->H p=af->g #[ir] a (upd H p (.tup [x,y])) λh n=>f h n λz j=>j D=U #[ie]/\zs.length<aq/\Pv (i+1) (zs++[z]) h (upd j D (.lst (zs++[z]))))
  (hd:∀zs a H,Pv (min xs.length ys.length) zs a H->Q #[it] H):VZ (Itz K S1 S2) D k a d g V0 f Q:=by
 refine⟨λi m zs a H=>m=min xs.length ys.length-i/\i<=min xs.length ys.length/\Pv i zs a H,⟨min xs.length ys.length,by simp,Qm _,l⟩,?_⟩;rintro i m zs a H ⟨rfl,hi,p⟩;obtain⟨b,c⟩:=hl i zs a H p;by_cases o:i<min xs.length ys.length
 ·have l1:i<xs.length:=by lia
  have l2:i<ys.length:=by lia
  refine .inr ⟨⟨xs,ys,b,c,l1,l2⟩,Pv (i+1),λiC aQ q s=>⟨min xs.length ys.length-(i+1),by lia,rfl,o,s⟩,λx q y=>?_⟩;obtain⟨r,t,rfl,e⟩:=y;have u:=e xs ys b c _ _ (Qb l1) (Qb l2);subst u;show#[nV];exact hs i zs a H _ _ r (Qb l1) (Qb l2) p t
 ·have e:i=min xs.length ys.length:=by lia
  refine .inl ⟨⟨xs,ys,b,c,by lia⟩,hd zs a H (e ▸ p)⟩
section
variable {X:Cx} {N N':List ak} {o c:be} {x:ak} {pos:Pos} {C:ae} {s:ai} {H:Hp} {fp:List ae}
theorem RC(S:#[bI])(a:#[am])(hl:#[j3]):#[D].env.scope.names.lookup x=U .local:=by have e:=#[p9,a,C];rw[hl]at e;exact e
theorem WB(S:#[bI])(a:#[am])(hl:c.names.lookup x=U .globalImplicit):Gl #[D] x:=by have e:=#[p9,a,C];rw[hl]at e;exact e
theorem ZoP(S:#[bI])(b:#[am])(hl:#[kD]):Vis #[D].env.scope x:=by
 have e:=#[p9,b,C];rw[hl]at e;have a:#[D].env.scope.names.lookup x=if X.env.kindOf x=U .cell then U aP.cell else U aP.free:=e
 by_cases z:X.env.kindOf x=U .cell
 ·rw[if_pos z]at a;exact .inr (.inl a)
 ·rw[if_neg z]at a;exact .inr (.inr a)
theorem cv(i:Nat)(S:#[bI])(a:#[am])(hl:#[kD])(b:N'[i]? = U x:=by rfl)(hd:#[j]:=by decide)(d:#[bM]:=by decide) :
  PE #[D] #[a4] (TM i):=R3 b (ZoP S a hl) hd d
theorem cw(i:Nat)(S:#[bI])(a:#[am])(hl:#[j3])(b:N'[i]? = U x:=by rfl)(hd:#[j]:=by decide)(d:#[bM]:=by decide) :
  PE #[D] #[a4] (TM i):=R3 b (.inl (RC S a hl)) hd d
theorem cg(i:Nat)(S:#[bI])(a:#[am])(hl:#[j3])(b:N'[i]? = U x:=by rfl):PG #[D] #[a4] (TH i) :=
 ZC S.nd b (.inl (RC S a hl)) (.inr (RC S a hl))
universe E
mutual
inductive DV (K:#[7]) (H:Hp):V->aJ->Prop where
 | non:DV K H .non .none
 | bl (b:Bool):DV K H (.bl b) (.bool b)
 | int (i:Int):DV K H (.int i) (.int i)
 | str (s:ak):DV K H (.str s) (.str s)
 | lst {a:ae} {xs:List V} {ds:List aJ}:SqL K H a xs->DVs K H xs ds->DV K H (.ref a) (.list ds)
 | tup {a:ae} {xs:List V} {ds:List aJ}:SqT K H a xs->DVs K H xs ds->DV K H (.ref a) (.tuple ds)
inductive DVs (K:#[7]) (H:Hp):List V->List aJ->Prop where
 | nil:DVs K H [] []
 | cons {x:V} {d:aJ} {xs:List V} {ds:List aJ}:DV K H x d->DVs K H xs ds->DVs K H (x::xs) (d::ds)
end
section
variable {X:Cx} {ah:List (ae×aM)} {σ:St} {H:Hp} {s:ai}
mutual
theorem Inv.reads(I:#[k]):∀ {x:V} {d:aJ} {u:aa},DV X.K H x d->ZI x u->∃a,Reads s.heap u d a
 | _,_,_,.non,r=>by cases r;exact⟨_,.none⟩
 | _,_,_,.bl b,r=>by cases r;exact⟨_,.bool b⟩
 | _,_,_,.int i,r=>by obtain⟨t,rfl⟩:=r;exact⟨_,.int i t⟩
 | _,_,_,.str z,r=>by obtain⟨t,rfl⟩:=r;exact⟨_,.str z t⟩
 | _,_,_,.lst h c,r=>by cases r;obtain⟨its,f,⟨o,n,e,g,_,hd⟩,_⟩:=I.list h;show#[tA];exact⟨_,reads_list_at e g hd #[dq,q]⟩
 | _,_,_,.tup h c,r=>by cases r;obtain⟨its,f,⟨o,e,g,n,hd⟩,_⟩:=I.tuple h;show#[tA];exact⟨_,reads_tuple_at e g hd #[dq,q]⟩
theorem Inv.readsAll(I:#[k]):∀ {xs:List V} {ds:List aJ} {us:List aa},DVs X.K H xs ds->ZK xs us->∃a,ReadsAll s.heap us ds a
 | _,_,_,.nil,r=>by cases r;exact⟨_,.nil⟩
 | _,_,_,.cons h hs,r=>by
  cases r with
  | cons b c=>obtain⟨a,d⟩:=Inv.reads I h b;obtain⟨bs,e⟩:=Inv.readsAll I hs c;exact⟨_,.cons d e⟩
end
def MM(K:#[7])(a:Bool):R2:=λx y H Q=>X2 λd e=>DV K H x d/\DV K H y e/\SeqAt.shaped d=true/\SeqAt.shaped e=true/\Q (.bl (if a then !aJ.eqv d e else aJ.eqv d e)) H
theorem Zr5(hu:X.A.units+64<cLine):OpR X (aS .NotEq) (MM X.K true):=by intro ah s σ H x y v u Q I a b h;obtain⟨d,e,c,f,g,i,q⟩:=h;obtain⟨as,j⟩:=I.reads c a;obtain⟨bs,k⟩:=I.reads f b;exact ne_dataH j k g i hu ⟨.bl _,H,I,rfl,q⟩
universe E
theorem neD{X:Cx}(K:#[7]){k:Nat}(hr:#[kW])(h:X.K=K:=by rfl):OpR X (aS .NotEq) (MM K true):=by subst h;exact Zr5 hr.units
mutual
theorem DV.mono{K:#[7]}{H a:Hp}(s:ZG H a):∀ {x:V} {d:aJ},DV K H x d->DV K a x d
 | _,_,.non=>.non
 | _,_,.bl b=>.bl b
 | _,_,.int i=>.int i
 | _,_,.str z=>.str z
 | _,_,.lst h hs=>.lst (s.seq h) #[tm]
 | _,_,.tup h hs=>.tup (by
   rcases h with(h|⟨ob,h⟩)|h
   ·exact .inl (.inl (s _ _ h))
   ·exact .inl (.inr ⟨ob,s _ _ h⟩)
   ·exact .inr h) #[tm]
theorem DVs.mono{K:#[7]}{H a:Hp}(s:ZG H a):∀ {xs:List V} {ds:List aJ},DVs K H xs ds->DVs K a xs ds
 | _,_,.nil=>.nil
 | _,_,.cons h hs=>.cons (DV.mono s h) #[tm]
end
noncomputable def Ite(K:#[7])(a:ae):It :=
 ⟨λi H=>∃b,SqL K H a b/\i<b.length,
  λi H v c=>∃p,H p=af/\v=.ref p/\∀b,SqL K H a b->∀x,b[i]? = U x->c=upd H p (.tup [.int i,x]),
  λi H=>∃b,SqL K H a b/\b.length<=i⟩
theorem ZmL{P:aw}{w:aD}{K:#[7]}{Q:#[iS]}{R:Nat}{S:Pos}{a e it:ae}(F:e≠it) :
  WN P w K (.Tuple Q R S) (Ite K a) [e,it] e (λi h=>(∃l,IsEnum h e it i l)/\h.IsListIter it a i) where
 mem:=by simp
 obj:=λi h st b d=>by
  obtain⟨⟨l,f⟩,o,g,j,hd⟩:=st;show#[45];rcases d with rfl|rfl
  ·show#[eh,f,v,z]
  ·exact⟨o,g,λv z=>by rw[hd]at z;cases z⟩
 keep:=λi h p st k=>by obtain⟨⟨l,f⟩,g⟩:=st;exact⟨⟨l,k e #[4] _ f⟩,g.at λo q=>k it #[4] o q⟩
 item:=by
  intro X r hw t j i G s J H E I m st y;show#[cx];obtain⟨u,T,V⟩:=A.get (Qb l1);refine wpAny_pyNext_enum_item f g B.isList (x:=u) #[dq,T] F λp a1 a2 a3 a4 a5=>?_;have lt:#[aZ]:=λq=>QU (Qk q);have W:s.heap.objs.size≠e:=lt f;refine⟨_,rfl,wpAny_letOwnedTupleGo_enum a1 λC M Y=>?_⟩;have D:#[va,e,p,C]:=Y;have N:C.IsListIter it a (i+1):=a2.extBut D.extBut F.symm;have Z:Inv X G J (upd H s.heap.objs.size (.tup [.int i,L[i]])) { s with heap:=C,toks:=s.toks+1 }:=by
   refine I.zipped (fp:=[e,it]) (u:=.int i s.toks) (v:=u) m #[E] V (D.extBut _ _ W a3) (λb d=>?_) λc o j q=>?_
   ·show#[45];rcases d with rfl|rfl
    ·exact⟨_,M⟩
    ·obtain⟨o,q,_⟩:=N;exact⟨o,q⟩
   ·simp only[List.mem_cons,List.not_mem_nil,or_false,not_or]at j;exact D.extBut _ _ j.1 (a5 c o j.1 j.2 q)
  refine⟨.ref s.heap.objs.size,_,Z,rfl,⟨s.heap.objs.size,I.fresh,rfl,λCH w1 x' O=>?_⟩,⟨⟨_,M⟩,N⟩,λb d=>?_⟩
  ·have e3:=I.list_inj w1 n;subst e3;rw[Qb l1]at O;cases O;rfl
  ·rw[Zc (λz=>by
    obtain⟨o,q⟩:∃o,s.heap.get? b=U o:=by
     show#[45];rcases d with rfl|rfl
     ·exact⟨_,f⟩
     ·obtain⟨o,q,_⟩:=g;exact⟨o,q⟩
    exact lt q z.symm)]
   exact(m b d).1
 done:=by intro X r hw t j i G s J H E I m st y;show#[cx];show#[qB];have hl:=A.length;exact wpAny_pyNext_enum_end (I.ok.hd j) f g B.isList #[ey,Qak,QY,#[2]] λp eb=>⟨rfl,I.turned (t':=#[uj]) (λb o d q=>eb b o d q) f0 f1 f3 f4 f5⟩
 self:=λ_ _ _ _ _ st h=>by obtain⟨⟨l,f⟩,_⟩:=st;exact wpAny_pyIter_enum f h
def ML(K:#[7])(c:TA):TI:=λd H R=>c d H λvs b=>X2 λa xs=>vs=[V.ref a]/\SqL K b a xs/\R (Ite K a) b
theorem ZpA{X:Cx}{l:aI}{f:TA}{p pos:Pos}{o:#[iS]}{r:Nat}{t:Pos}(v:Gl X "enumerate")(hm:X.mg "enumerate" = af)(ha:PA X [l] f)
  (hs:#[ec,l]:=by rfl):PI X (.Tuple o r t) #[lA] (ML X.K f):=by
 show#[dU,g,i,R];refine Call_ (V5 I v hm boot_enumerate (Q9 (thn #[eW,g,i] ?_) hs rfl));rintro us c ⟨vs,j,d,w,x⟩;obtain⟨a,xs,e,y,q⟩:=x;subst e;obtain⟨u,rfl,z⟩:=w.one;cases z;obtain⟨its,rv,A,_⟩:=d.list y;refine call_enumerate_list A.isList λB k C hsz D=>wpAny_pyIter_enum k ?_;have E:#[fv,g,i,j,c,B]:=d.kept (t':=c.toks) D;refine⟨_,_,_,_,j,rfl,E,ZmL (a:=a) (e:=c.heap.objs.size+1) (it:=#[rM]) (QU #[mT]),⟨⟨_,k⟩,C⟩,λb m=>?_,q⟩;have n:c.heap.objs.size<=b:=by
  simp only[List.mem_cons,List.not_mem_nil,or_false]at m;rcases m with rfl|rfl
  ·exact QaG _ 1
  ·exact Qf _
 exact #[vi,n]
theorem iE{X:Cx}(K:#[7]){l:aI}{a:TA}{p pos:Pos}{b:#[iS]}{c:Nat}{d:Pos}(hm:X.mg "enumerate" = af)(ha:PA X [l] a)(e:Gl X "enumerate":=by rfl)(f:X.K=K:=by rfl)
  (g:#[ec,l]:=by rfl):PI X (.Tuple b c d) #[lA] (ML K a):=by subst f;exact ZpA e hm ha g
theorem RB{K:#[7]}{a:ae}{xs:#[m7]}{g:TG}{l:TS}{D:XU}{b:St}{H:Hp}(Pv:#[kX])(o:Pv 0 b H)(hl:∀i b H,Pv i b H->SqL K H a xs)
  (hs:∀i x b H p,xs[i]? = U x->Pv i b H->H p=af->g #[ir] b (upd H p (.tup [.int i,x])) λf h=>l { D with nx:=Pv (i+1),ct:=Pv (i+1),bk:=D.nx } f h) (hd:#[nd]) :
  ∃W:Nat->Nat->St->Hp->Prop,(∃m,W 0 m b H)/\∀i m b H,W i m b H ->
   ((Ite K a).stop i H/\D.nx b H)\/((Ite K a).go i H/\∃N:St->Hp->Prop,#[eS,j,c,n]/\∀x c,(Ite K a).yld i H x c->g x b c λf h=>l { D with nx:=N,ct:=N,bk:=D.nx } f h):=by
 show#[dC,b,xs.length,o,hi];have k:=hl i b H p;by_cases d:i<xs.length
 ·refine .inr ⟨⟨xs,k,d⟩,Pv (i+1),λj c q=>⟨xs.length-(i+1),by lia,rfl,d,q⟩,λx c y=>?_⟩;obtain⟨r,s,rfl,e⟩:=y;have t:=e xs k _ (Qb d);subst t;exact hs i _ b H r (Qb d) p s
 ·have e:i=xs.length:=by lia
  exact .inl ⟨⟨xs,k,by lia⟩,hd b H (e ▸ p)⟩
def Zrx(K:#[7]):List V->Hp->VK->Prop:=λxs H Q=>X2 λp ys=>xs=#[js]/\#[gm,K,ys]/\∀l,H l=af->Q #[cT] #[gB,l,ys]
theorem ZsE{X:Cx}(K:#[7])(h:X.K=K:=by rfl):YU X #[cp] (Zrx K):=by subst h;exact Zjh
section
variable {X:Cx}
theorem inQ(K:#[7])(h:X.K=K:=by rfl):OpR X (aS .In) (rIn K false):=by subst h;exact ZmM
universe E
noncomputable def Its(z:ak):It:=⟨λi _=>i<z.cps.size,λi H v a=>a=H/\∃c,z.cps[i]? = U c/\v=.str #[aK],λi _=>z.cps.size<=i⟩
theorem ZmZ{P:aw}{w:aD}{K:#[7]}{F:aI}(z:ak)(t:Tok)(it:ae):WN P w K F (Its z) [it] it (λi h=>h.IsStrIter it "str_ascii_iterator" z t i) where
 mem:=by simp
 obj:=λi h st b a=>by
  have e:b=it:=by simpa using a
  show#[10]
 keep:=λi h f st k=>by obtain⟨o,e,r⟩:=st;exact#[ij]
 item:=by intro X j hw l y i A s B H E I g st m;show#[ms];refine wpAny_pyNext_ascii_item st C λf D J=>?_;show#[W]
 done:=by intro X j hw l y i A s B H E I g st m;show#[aS];exact wpAny_pyNext_ascii_end (I.ok.hd y) st (QaT m) λf M=>⟨rfl,I.turned (t':=#[uj]) #[em,b,a,M,a] n p q u x⟩
 self:=#[gD,wpAny_pyIter_striter_ascii]
theorem Zmz{P:aw}{w:aD}{K:#[7]}{F:aI}(z:ak)(t:Tok)(it:ae):WN P w K F (Its z) [it] it (λi h=>h.IsStrIter it "str_iterator" z t i) where
 mem:=by simp
 obj:=λi h st b a=>by
  have e:b=it:=by simpa using a
  show#[10]
 keep:=λi h f st k=>by obtain⟨o,e,r⟩:=st;exact#[ij]
 item:=by intro X j hw l y i A s B H E I g st m;show#[ms];refine wpAny_pyNext_wide_item st C λf D J=>?_;show#[W]
 done:=by intro X j hw l y i A s B H E I g st m;show#[aS];exact wpAny_pyNext_wide_end (I.ok.hd y) st (QaT m) λf M=>⟨rfl,I.turned (t':=#[uj]) #[em,b,a,M,a] n p q u x⟩
 self:=#[gD,wpAny_pyIter_striter_wide]
section
variable {X:Cx} {tg:aI}
def Ztq(a:TE):TI:=λb H R=>a b H λx c=>∃z,x=.str z/\R (Its z) c
theorem MK{l:aI}{f:TE}(hl:PE X l f):PI X tg l (Ztq f):=by
 show#[o9,g,j];rintro v a ⟨x,d,c,k,m⟩;show#[gU,z,e,q,m];subst e;show#[dP,t,k];have fp:∀b∈[a.heap.objs.size],XH X g d b:=λb n=>by
  have e:b=a.heap.objs.size:=by simpa using n
  subst e;exact c.fpOk #[ih] (c.hok.fresh #[ih])
 cases i:z.cps.all (·<128)
 ·exact wpAny_pyIter_wide i ⟨a.heap.objs.size,#[oe],_,_,d,rfl,c.kept (t':=a.toks) λb o e=>Qc _ e,Zmz z t _,#[81],fp,q⟩
 ·exact wpAny_pyIter_ascii i ⟨a.heap.objs.size,#[oe],_,_,d,rfl,c.kept (t':=a.toks) λb o e=>Qc _ e,ZmZ z t _,#[81],fp,q⟩
theorem MJ{z:ak}{g:TG}{k:TS}{D:XU}{a:St}{H:Hp}(Pv:#[kX])(n:Pv 0 a H)
  (hs:∀i c a H,z.cps[i]? = U c->Pv i a H->g (.str #[aK]) a H λd f=>k { D with nx:=Pv (i+1),ct:=Pv (i+1),bk:=D.nx } d f) (hd:∀a H,Pv z.cps.size a H->D.nx a H) :
  ∃W:Nat->Nat->St->Hp->Prop,(∃m,W 0 m a H)/\∀i m a H,W i m a H ->
   ((Its z).stop i H/\D.nx a H)\/((Its z).go i H/\∃N:St->Hp->Prop,#[eS,h,b,l]/\∀x b,(Its z).yld i H x b->g x a b λd f=>k { D with nx:=N,ct:=N,bk:=D.nx } d f):=by
 show#[dC,a,z.cps.size,n,hi];by_cases j:i<z.cps.size
 ·refine .inr ⟨j,Pv (i+1),λh b o=>⟨z.cps.size-(i+1),by lia,rfl,j,o⟩,λx b y=>?_⟩;obtain⟨rfl,c,q,rfl⟩:=y;exact hs i c a _ q p
 ·have e:i=z.cps.size:=by lia
  exact .inl ⟨Nat.le_of_not_lt j,hd a H (e ▸ p)⟩
theorem MI:OpR X (aS .Gt) (λx y H Q=>X2 λi j=>x=.str i/\y=.str j/\Q (.bl (decide (j.cps.toList<i.cps.toList))) H):=by intro ah s σ H x y v u Q I a b h;obtain⟨i,j,rfl,rfl,q⟩:=h;obtain⟨t,rfl⟩:=a;obtain⟨t',rfl⟩:=b;exact PySem.P.gt_str (ZV I q rfl)
universe E
noncomputable def MH:aJ->ak
 | .str z=>z
 | d=>d.shown
def MG(K:#[7]):List V->Hp->VK->Prop:=λxs H Q=>X2 λx d=>xs=[x]/\DV K H x d/\aJ.layable0 d=true/\d.intsShort 13=true/\d.showable=true/\Q (.str (MH d)) H
theorem ZmO{X:Cx}(p:X.A.guards=U [])(hu:X.A.units+64+30<cLine):YU X #[bX] (MG X.K):=by
 show#[pI,y,B,xs];obtain⟨x,d,rfl,hd,c,C,m,q⟩:=h;obtain⟨u,rfl,f⟩:=Xq r;have D:d.shown.length<=aq:=Qi (shown_le13 c C) #[op];have hdp:d.depth<=64:=by unfold aJ.layable0 at c;rw[QW,QW]at c;exact of_decide_eq_true c.1.2
 have E:d.canLay0=true:=by unfold aJ.layable0 at c;rw[QW,QW]at c;exact c.1.1
 have ref:∀a,u=.ref a->MH d=d.shown->#[jq] (call #[bX] [u]) (EP X y B Q) X.xe s:=λa G J=>by
  subst G;obtain⟨as,K⟩:=I.reads hd f;rw[J]at q;exact callType_new F.called_str #[6] (F.typeCall_str_1 _) (F.newCall_str_1 _) (λobj=>F.args_object_init_2 obj _) F.entry_str_new
   (meets_str_new (v:=.ref a) (S:=λA R n=>n=s/\A=X.A.in1/\∀g u j,#[gt,o,g.get?]->R (.ok (.ret (.str d.shown u))) { s with heap:=g,toks:=j }) λprog w A R n k=>by obtain⟨rfl,rfl,k⟩:=k;exact strOf_of_reads K m (aJ.noDict_hsm (aJ.hasDict_of_canLay d E)) p (by show X.A.units+1+1+(d.depth+1)<cLine;lia) #[sm] (λg u j l=>k g u j l) D)
   ⟨rfl,rfl,λg u j l=>⟨typeIs_str _ _ _,.str _,H,I.kept l,#[E],q⟩⟩
 cases hd with
 | non=>cases f;exact PySem.P.str_of_none #[e5,_,q]
 | bl b=>cases f;exact PySem.P.str_of_bool #[e5,_,q]
 | int i=>obtain⟨t,rfl⟩:=f;exact PySem.P.str_of_int (of_decide_eq_true m) #[e5,_,q]
 | str z=>obtain⟨t,rfl⟩:=f;exact PySem.P.str_of_str #[tY]
 | lst L M=>cases f;exact ref _ rfl rfl
 | tup L M=>cases f;exact ref _ rfl rfl
theorem UR{X:Cx}(K:#[7]){k:Nat}(hr:#[kW])(h:X.K=K:=by rfl):YU X #[bX] (MG K):=by subst h;exact ZmO hr.gd (by have:=hr.un;lia)
section
variable {X:Cx} {ah:List (ae×aM)} {σ:St} {H:Hp} {s:ai}
def ZsI:TE:=λ_ H Q=>∀p,H p=af->Q #[ir] (upd H p (.dT []))
theorem MF{pos:Pos}:PE X (.Dict [] [] pos) ZsI:=by intro ah s σ H Q I h;have a:#[p4,bv]:=QaU #[6] (show aK<s.heap.objs.size from#[uI].lt);refine wpAny_Dict_empty ⟨.ref s.heap.objs.size,upd H s.heap.objs.size (.dT []),?_,rfl,h _ #[ap]⟩;refine I.laid (t':=#[uj]) #[k3] #[ih] ?_;refine⟨Qm _,?_,[],.nil,_,#[],0,Qr _ rfl,⟨rfl,rfl,rfl⟩,rfl,rfl,List.nodup_nil⟩;exact beq_eq_false_iff_ne.mpr λz=>Qaa _ (z ▸ a)
universe E
noncomputable def WK(lo:Int)(n:Nat):List Int:=(List.range n).map λ(k:Nat)=>lo+k
theorem ME(lo:Int)(n:Nat):(WK lo n).length=n:=by simp[WK]
section
variable {X:Cx}
theorem Tr(ns:#[F]):∀n,n<=ns.length->preSum (λj=>ns.getD j 0) n=(ns.take n).sum
 | 0,_=>rfl
 | n+1,h=>by
  have ih:=Tr ns n #[2];have e:ns.take (n+1)=ns.take n++[ns.getD n 0]:=by rw[QN,Qb #[2],QM,Qb #[2]];rfl
  rw[e,List.sum_append,<- ih];simp[preSum]
universe E
section
variable {prog:aw} {w:aD} {A:aB} {E:aa->ai->Prop} {s:ai} {κ:PyProof.Rows.KeyKind} {k0:SortKind} {gP:Array Keyed} {st:SortSt}
structure SB (k0:SortKind) (gP:#[qU]) (st:SortSt):Prop where
 perm:#[s8].Perm gP
 kind:kindOf st=k0
 failed:failedOf st=af
 pend:pendingOf st = #[]
universe E
universe E.L2
namespace L2
open PySem PySem.Spec PyProof.Rows
section
variable {X:Cx} {T name id:String} {r:V->List V->Hp->VK->Prop} {o e:aI} {es:List aI} {to:TE} {t:TA} {bn bg:Pos}
theorem ZrU(K:#[7]){X:Cx}{T:String}{name:ak}{id:String}{r:#[c3]}{o e:aI}{es:#[iS]}{to:TE}{t:TA}{bn bg:Pos}(a:PlainAttrs T)(slot:#[t8])(b:#[bk])(hm:MtR X id r)(c:#[sT])(ha:#[69])
  (d:X.K=K:=by rfl)
  (f:#[cM]:=by rfl)
  (g:((bb bg #[hy]).all #[uf]&&#[ht].all #[k1]
   && decide #[jU])=true:=by rfl)
  (h:#[da]=true:=by rfl) (i:#[i]:=by rfl) (j:#[87]:=by rfl) :
  PE X #[kA] (tBM K T r to t):=by
 subst d;exact YF a slot b hm c ha f g h i j
universe E
section
variable {X:Cx}
def MD(K:#[7]):List V->Hp->VK->Prop:=λvs H Q=>X2 λ(p:ae) (ns:List Int)=>vs=#[js]/\SqL K H p #[U]/\ns.length<=1000/\(∀n∈ns,0<=n/\n<=10000000000000)/\Q (.int ns.sum) H
theorem Zml(hc:#[aD]):YU X #[ep,"sum"] (MD X.K):=by
 show#[pI,ah,σ,vs];show#[o6,p,a,o,hn,d];show#[es,t];obtain⟨its,v,w,_⟩:=I.list o;have f:=Zkx v;show#[dz,b,e,f.allInts.items];have g:a=b.toList.map #[iw]:=by rw[<- f.numsOf,<- nums_intItems,<- e]
 have c:b.size=a.length:=by rw[g,Qa,QaJ]
 have i:numAt b=λj=>a.getD j 0:=by funext j;rw[numAt_eq,g]
 have k:=w.isList;rw[e]at k;have bound:∀n,n<=a.length->0<=(a.take n).sum/\(a.take n).sum<=10000000000000*n:=by
  intro n;induction n with
  | zero=>intro _;exact⟨by simp,by simp⟩
  | succ n l =>
   intro h;have l:=l #[2];have x:=d a[n] (Qae #[2]);have y:a.take (n+1)=a.take n++[a[n]]:=by rw[QN,Qb #[2]];rfl
   rw[y,List.sum_append];have z:([a[n]]:List Int).sum=a[n]:=by simp
   rw[z];lia
 refine sum_intList #[ic] k (λj hj=>?_) λh' tk A B=>⟨.int _,H,I.kept B,⟨A,rfl⟩,?_⟩
 ·rw[i];have x:=d a[j] (Qae #[2]);have m:a.getD j 0=a[j]:=by rw[QM,Qb #[2]];rfl
  have hp:=bound (j+1) #[2];refine⟨⟨?_,?_⟩,#[tX]⟩
  ·show -(2 ^ 63)<=a.getD j 0;rw[m];lia
  ·show a.getD j 0<2 ^ 63;rw[m];lia
  ·rw[Tr a (j+1) #[2]];lia
  ·rw[Tr a (j+1) #[2]];lia
 ·rw[i,c,Tr a a.length #[ih],Qw #[ih]];exact q
theorem MC(K:#[7])(hc:#[aD]:=by rfl)(h:X.K=K:=by rfl):YU X #[ep,"sum"] (MD K):=by subst h;exact Zml hc
universe E
universe E.L2
namespace Hf
open L2
abbrev PW:=List (Int×Nat)
noncomputable def val(P:PW):Int:=(P.map λp=>p.1*(p.2:Int)).sum
noncomputable def ws(P:PW):List Int:=P.map #[iw]
noncomputable def ds(P:PW):List Nat:=P.map #[kc]
noncomputable def zs(z:Nat):List Int:=List.replicate z 0
inductive Hu (w:Nat):List Int->Nat->Int->Prop
 | stop {e:Int} {m:Nat}:Hu w [e] m 0
 | step {E L:List Int} {m:Nat} {C:Int}:1<L.length->E.Perm L->L.Pairwise (·<=·)->Hu w (L.drop m++[(L.take m).sum]) w C->Hu w E m (C+(L.take m).sum)
def Fit(w n m:Nat):Prop:=n=1\/∃t,n=m+t*(w-1)
structure Fits (w n m:Nat):Prop where
 w2:2<=w
 m2:2<=m
 mw:m<=w
 ok:Fit w n m
universe E.Hf
namespace L2
open PySem PySem.Spec PyProof.Rows
section
variable {prog:aw} {w:aD} {A:aB} {R:Result->ai->Prop} {s:ai}
theorem Zhx{c d b iter:aI}{f:#[iS]}{k:be}{pos:Pos}{it:aa}{D:ae}{env:Env}{E:#[G]}(I:#[pS,Nat])
  (G:∀e s',E e s'->False)
  (H:∀n s,I n s->av #[s] A (pyNext it) (λr g=>match r with
   | none=>R #[mZ] g
   | some v=>av #[s] A (cW b it v) (λ_ s₀=>av #[s] A (assign b env v) (λ_ l =>
     av #[s] A (RG f env) (λok i =>
      if ok=true then av #[s] A (eval c env) (λo p=>av #[s] A (eval d env) (λu y =>
       av #[s] A (dictSet D o u) (λ_ B=>∃m,m<n/\I m B) E y) E p) E i
      else ∃m,m<n/\I m i) E l) E s₀) E g) E s)
  (n:Nat) (h:I n s):bW #[s] A (.compLoop #[gC,c,b,f,k] 0 it #[it] env) R s:=by
 have go:#[ak]:=
  λ{j t Q s} q=>aU q #[lq] λe s' z=>(G e s' z).elim
 refine codeAny_loop rfl I #[g5,n,s,J] n h;show av _ A ((compTurn #[gC,c,b,f,k] 0 it #[it] env).onRaise (λx=>do noteFrame x env;theTreesLotGoes x)) _ _ s;refine wpAny_noted ?_;rw[compTurn_dict];refine am (bx (am (thn (go (H n s J)) λr g C=>?_)));cases r with
 | none=>exact aF C
 | some v =>
  refine am (thn (go C) λ_ s₀ a=>am (thn (go a) λ_ l K=>am (thn (go K) λok i F=>?_)));cases ok with
  | false=>exact aF ⟨rfl,F⟩
  | true=>exact am (am (thn (go F) λo p L=>am (bc (thn (go L) λu y M=>am (bx (bc (thn (go M) λ_ B N=>aF ⟨rfl,N⟩)))))))
universe E
section
variable {κ:Type} [DecidableEq κ]
noncomputable def Y1(kvs:#[bi])(k:κ):Option V:=(kvs.find? λa=>decide (a.1=k)).map #[kc]
noncomputable def YJ(kvs:#[bi])(k:κ)(v:V):List (κ×V) :=
 if #[c8]=true then kvs.map (λa=>if a.1=k then (a.1,v) else a) else kvs++[(k,v)]
noncomputable def WA(kvs:#[bi])(k:κ):List (κ×V):=kvs.filter λa=>decide (a.1≠k)
theorem UQ{p:κ×V}{r:#[bi]}{k:κ}(e:p.1=k):Y1 (p::r) k=U p.2:=by simp[Y1,List.find?_cons,e]
theorem UP{p:κ×V}{r:#[bi]}{k:κ}(e:¬ p.1=k):Y1 (p::r) k=Y1 r k:=by simp[Y1,List.find?_cons,e]
theorem Tq(k:κ):∀kvs:List (κ×V),#[c8]=#[tc].isSome
 | []=>rfl
 | p::r=>by
  rw[QaL];by_cases e:p.1=k
  ·simp only[UQ e,decide_eq_true e,Bool.true_or,Option.isSome_some]
  ·rw[UP e,decide_eq_false e,Bool.false_or];exact Tq k r
theorem Tp(kvs:#[bi])(k:κ)(v:V):#[sz].length<=kvs.length+1:=by
 unfold YJ;split
 ·rw[Qa];lia
 ·rw[Qe,QA,List.length_nil];lia
theorem Vo{kvs:#[bi]}{k:κ}(v:V)(h:Y1 kvs k=af):YJ kvs k v=kvs++[(k,v)]:=by unfold YJ;rw[Tq,h];exact if_neg #[6]
theorem Yt.isSome_eq{o:Option V}{u:#[nO]}(r:Yt o u):o.isSome=u.isSome:=by
 cases o with
 | none=>cases u with
  | none=>rfl
  | some _=>exact#[he].elim
 | some _=>cases u with
  | none=>exact#[he].elim
  | some _=>rfl
theorem Yt.getD{o:Option V}{u:#[nO]}{d:V}{d':aa}(r:Yt o u)(rd:ZI d d'):ZI (o.getD d) (u.getD d'):=by
 cases o with
 | none=>cases u with
  | none=>exact rd
  | some _=>exact#[he].elim
 | some _=>cases u with
  | none=>exact#[he].elim
  | some _=>exact r
theorem KV.val{kvs:#[bi]}{vs:#[j8]}(r:#[nn])(k:κ):Yt #[tc] (valueAt vs k):=by
 unfold KV at r;induction r with
 | nil=>exact True.intro
 | @cons p q ps a h t f =>
  show#[dz,d,g,h];by_cases e:p.1=k
  ·have c:q.1=k:=d.symm.trans e;have b:valueAt (q::a) k=U q.2:=by simp[valueAt,List.find?_cons,c]
   rw[UQ e,b];exact g
  ·have c:¬ q.1=k:=λz=>e (d.trans z);have b:valueAt (q::a) k=valueAt a k:=by simp[valueAt,List.find?_cons,c]
   rw[UP e,b];exact f
theorem KV.any{kvs:#[bi]}{vs:#[j8]}(r:#[nn])(k:κ):#[c8]=vs.any λa=>decide (a.1=k):=by
 unfold KV at r;induction r with
 | nil=>rfl
 | cons h t b=>rw[QaL,QaL,b,h.1]
theorem KV.repl{kvs:#[bi]}{vs:#[j8]}(r:#[nn])(k:κ){y:V}{u:aa}(c:ZI y u) :
  KV (kvs.map λa=>if a.1=k then (a.1,y) else a) (vs.map λa=>if a.1=k then (a.1,u) else a):=by
 unfold KV at r ⊢;induction r with
 | nil=>exact .nil
 | @cons p q ps qs h t d =>
  rw[Qn,Qn];refine .cons ?_ d;show#[dz,b,f,h];by_cases e:p.1=k
  ·rw[if_pos e,if_pos (b.symm.trans e)];exact⟨b,c⟩
  ·rw[if_neg e,if_neg (λz=>e (b.trans z))];exact⟨b,f⟩
theorem KV.put{kvs:#[bi]}{vs:#[j8]}(r:#[nn])(k:κ){y:V}{u:aa}(a:ZI y u):KV (YJ kvs k y) (stored vs k u):=by
 unfold YJ stored;rw[r.any k];by_cases e:(vs.any λb=>decide (b.1=k))=true
 ·show#[pt,e,e];exact r.repl k a
 ·show#[oT,e,e];exact Paired.snoc r ⟨rfl,a⟩
theorem KV.drop{kvs:#[bi]}{vs:#[j8]}(r:#[nn])(k:κ):KV (WA kvs k) (without vs k):=by
 unfold KV at r ⊢;unfold WA without;induction r with
 | nil=>exact .nil
 | @cons p q ps qs h t d =>
  show#[dz,c,f,h];rw[List.filter_cons,List.filter_cons];by_cases e:p.1=k
  ·have a:¬ decide (p.1≠k)=true:=by simp[e]
   have b:¬ decide (q.1≠k)=true:=by simp[c.symm.trans e]
   show#[oT,a,b];exact d
  ·have g:¬ q.1=k:=λz=>e (c.trans z);have a:decide (p.1≠k)=true:=by simp[e]
   have b:decide (q.1≠k)=true:=by simp[g]
   show#[pt,a,b];exact .cons ⟨c,f⟩ d
theorem KV.length{kvs:#[bi]}{vs:#[j8]}(r:#[nn]):kvs.length=vs.length:=Paired.length r
theorem Zna(kvs:#[bi])(k:κ):(WA kvs k).length<=kvs.length:=List.length_filter_le _ _
universe E
theorem Wz{P:aw}{w:aD}{k:Key}{u:aa}(r:ZI (kV k) u):#[sy].is k u=true:=by
 cases k with
 | inl i=>obtain⟨t,e⟩:=#[oI,r];subst e;exact Zkm P w i t
 | inr x=>obtain⟨t,e⟩:=#[vd,x,r];subst e;exact Zjz P w x t
theorem MB{P:aw}{w:aD}:∀ {ks:List Key} {us:List aa},ZK (ks.map kV) us->ItemsAre #[sy] ks us
 | [],_,r=>by rw[List.map_nil]at r;cases r;exact .nil
 | k::ks,_,r=>by
  rw[Qn]at r;cases r with
  | cons h t=>exact .cons (Wz h) (MB t)
abbrev KT(H:Hp):List (List Key×V)->List (List Key×ae×aa)->Prop:=Paired λp q=>p.1=q.1/\H q.2.1=U (.tup (p.1.map kV))/\ZI p.2 q.2.2
theorem KT.val{H:Hp}{kvs:#[bF]}{xs:#[ip]}(r:#[t9])(k:List Key):Yt #[tc] ((atKey xs k).map #[kc]):=by
 induction r with
 | nil=>exact True.intro
 | @cons p q ps a h t f =>
  obtain⟨d,_,g⟩:=h;by_cases e:p.1=k
  ·have c:q.1=k:=d.symm.trans e;have b:atKey (q::a) k=U q.2:=by simp[atKey,List.find?_cons,c]
   rw[UQ e,b];exact g
  ·have c:¬ q.1=k:=λz=>e (d.trans z);have b:atKey (q::a) k=atKey a k:=by simp[atKey,List.find?_cons,c]
   rw[UP e,b];exact f
theorem KT.repl{H:Hp}{kvs:#[bF]}{xs:#[ip]}(r:#[t9])(k:List Key){y:V}{u:aa}(d:ZI y u) :
  KT H (kvs.map λb=>if b.1=k then (b.1,y) else b) (xs.map (putAt k u)):=by
 induction r with
 | nil=>exact .nil
 | @cons p q ps qs h t f =>
  rw[Qn,Qn];refine .cons ?_ f;show#[gU,a,c,g,h];unfold putAt;by_cases e:p.1=k
  ·rw[if_pos e,if_pos (a.symm.trans e)];exact⟨a,c,d⟩
  ·rw[if_neg e,if_neg (λz=>e (a.trans z))];exact⟨a,c,g⟩
theorem KT.put{H:Hp}{kvs:#[bF]}{xs:#[ip]}(r:#[t9])(k:List Key){b:ae}{y:V}{u:aa}(hb:H b=U #[jd])(a:ZI y u) :
  KT H (YJ kvs k y) (storedH xs k b u):=by
 have e:(kvs.any λc=>decide (c.1=k))=(atKey xs k).isSome:=by rw[Tq,(r.val k).isSome_eq,Option.isSome_map]
 unfold YJ storedH;rw[e];by_cases q:(atKey xs k).isSome=true
 ·show#[pt,q,q];exact r.repl k a
 ·show#[oT,q,q];exact Paired.snoc r ⟨rfl,hb,a⟩
theorem KT.keeps{H a:Hp}{kvs:#[bF]}{xs:#[ip]}(r:#[t9])(ht:#[e1,b,ys,a]):KT a kvs xs :=
 Paired.mapP r λ_ _ z=>⟨z.1,ht _ _ z.2.1,z.2.2⟩
section
variable {P:aw} {w:aD} {H:Hp} {h:aH} {a:ae}
theorem MA{u:HO}(ok:#[c5])(e:Rd H a u):Z8 P w H h a u:=e.ok ok
theorem Wp{kvs:#[43]}(ok:#[c5])(e:Rd H a #[de]):kvs.length<=aq/\#[l7]=false/\∃vs,KV kvs vs/\h.DictOf #[sy] a vs :=
 show Z8 P w H h a #[de] from MA ok e
theorem RA{kvs:#[43]}(ok:#[c5])(e:#[qT]):kvs.length<=aq/\#[l7]=false/\∃vs,KV kvs vs/\h.DictOf #[sy] a vs:=Wp ok (.inl e)
theorem Vn{ks:List Key}(ok:#[c5])(e:H a=U (.tup (ks.map kV))):#[hT].is h ks a:=by obtain⟨_,its,r,o,b,c,n,d⟩:=(show Z8 P w H h a (.tup (ks.map kV)) from ok a _ e);exact⟨o,its.toArray,n,b,c,d,by simpa using MB r⟩
theorem VY{kvs:#[bF]}(ok:#[c5])(e:Rd H a (.dT kvs)):kvs.length<=aq/\#[l7]=false /\
  ∃xs,KT H kvs xs/\h.DictOfH #[hT] a xs:=by
 obtain⟨z,y,xs,r,o,c,d,f,g,i,j,k⟩:=(show Z8 P w H h a (.dT kvs) from MA ok e);refine⟨z,y,xs,r,o,c,d,f,g,i,j,λx hx=>?_,k⟩;have all:∀ {l:List (List Key×V)} {m:List (List Key×ae×aa)},KT H l m->∀x∈m,#[hT].is h x.1 x.2.1:=by
  intro l m q;induction q with
  | nil=>intro x hx;exact nomatch hx
  | @cons p q ps qs b t n =>
   intro x hx;rcases QJ.mp hx with e|hx
   ·subst e;exact Vn ok #[er,b.1,b.2.1]
   ·exact n x hx
 exact all r x hx
theorem Ztc{kvs:#[bF]}(ok:#[c5])(e:#[sV]):kvs.length<=aq/\#[l7]=false /\
  ∃xs,KT H kvs xs/\h.DictOfH #[hT] a xs:=VY ok (.inl e)
universe E
def Y6(H:Hp)(a:ae)(y:V)(r:Option V):Prop :=
 (X2 λc k=>Rd H a (.dK c)/\y=kV k/\r=Y1 c k)\/X3 λc k b=>Rd H a (.dT c)/\y=.ref b/\H b=U #[jd]/\r=Y1 c k
def Xm(H:Hp)(a:ae)(y v:V)(d:Hp):Prop :=
 (X2 λc k=>H a=U (.dK c)/\y=kV k/\c.length<aq/\d=upd H a (.dK (YJ c k v))) \/
 X3 λc k b=>H a=U (.dT c)/\y=.ref b/\H b=U #[jd]/\c.length<aq/\d=upd H a (.dT (YJ c k v))
theorem Y6.k{H:Hp}{a:ae}{kvs:#[43]}{k:Key}(e:#[qT]):Y6 H a (kV k) #[tc]:=.inl ⟨kvs,k,.inl e,rfl,rfl⟩
theorem Y6.t{H:Hp}{a b:ae}{kvs:#[bF]}{k:List Key}(e:#[sV])(c:H b=U #[jd]):Y6 H a #[sE] #[tc]:=.inr ⟨kvs,k,b,.inl e,rfl,c,rfl⟩
theorem Xm.k{H:Hp}{a:ae}{kvs:#[43]}{k:Key}{v:V}(e:#[qT])(hl:kvs.length<aq):Xm H a (kV k) v (upd H a (.dK #[sz])):=.inl ⟨kvs,k,e,rfl,hl,rfl⟩
theorem Xm.t{H:Hp}{a b:ae}{kvs:#[bF]}{k:List Key}{v:V}(e:#[sV])(c:H b=U #[jd])(hl:kvs.length<aq) :
  Xm H a #[sE] v (upd H a (.dT #[sz])):=.inr ⟨kvs,k,b,e,rfl,c,hl,rfl⟩
section
variable {X:Cx} {ah:List (ae×aM)} {σ:St} {H:Hp} {s:ai} {a:ae} {y v:V} {u r:aa} {o:Option V} {A:aB} {E:aa->ai->Prop}
theorem Inv.big(I:#[k]):bv<s.heap.objs.size:=by have h:#[p4,aK]:=#[uI].lt;exact QaU #[6] h
theorem Zl3{Q:#[G]}(hu:#[j9])(I:#[k])(g:Y6 H a y (U v))(n:ZI y u)(h:#[u5,d,H]) :
  av #[K] A (getItem #[cd] u) Q E s:=by
 rcases g with⟨f,k,e,i,l⟩|⟨f,k,b,e,i,q,l⟩
 ·subst i;show#[ef,r,c,j,Wp];obtain⟨d,hw,m⟩:=Yt.some_of (v:=v) (o:=valueAt r k) #[ey,l,c.val,k];exact wpAny_getItem_of (Wz n) j.mapOf hw (h d _ #[q9] m)
 ·show#[d8,i,n,t,j];obtain⟨d,hw,m⟩:=Yt.some_of (v:=v) (o:=(atKey t k).map #[kc]) #[ey,l,c.val,k];show#[vx,p,w,x,QaV.mp,hw];refine wpAny_getItem_heap (cc hu) (Vn I.hok q) j w ?_;rw[x];exact h d _ #[q9] m
theorem Ztp{Q:#[G]}(hu:#[j9])(I:#[k])(g:Y6 H a y o)(j:ZI y u)(h:∀s',Inv X ah σ H s'->Q (.bool o.isSome) s') :
  av #[K] A (aS .In u #[cd]) Q E s:=by
 rcases g with⟨d,k,e,f,l⟩|⟨d,k,b,e,f,m,l⟩
 ·subst f;show#[ef,vs,c,i,Wp];refine wpAny_in_of (Wz j) hd i.mapOf ?_;show#[ll]
 ·show#[d8,f,j,xs,i];refine wpAny_in_heap (cc hu) (Vn I.hok m) hd i ?_;show#[ha]
theorem Zpv{Q:#[G]}(hu:#[j9])(I:#[k])(g:Y6 H a y o)(j:ZI y u)(h:∀s',Inv X ah σ H s'->Q (.bool (!o.isSome)) s') :
  av #[K] A (aS .NotIn u #[cd]) Q E s:=by
 rcases g with⟨d,k,e,f,l⟩|⟨d,k,b,e,f,m,l⟩
 ·subst f;show#[ef,vs,c,i,Wp];refine wpAny_notIn_of (Wz j) hd i.mapOf ?_;show#[ll]
 ·show#[d8,f,j,xs,i];refine wpAny_notIn_heap (cc hu) (Vn I.hok m) hd i ?_;show#[ha]
theorem To{h':aH}{t':Nat}{ob:HO}(I:#[k])(c:Mut (H a))(hs:#[va,a,s.heap,h'])(he:∃q,h'.get? a=U q)(new:Z8 X.prog X.w (upd H a ob) h' a ob) :
  Inv X ah σ (upd H a ob) { s with heap:=h',toks:=t' } :=
 I.write (x:=a) (e:=a) c #[8] (λb q d z=>(hs.2 b d).trans z) he new
theorem Tn{P:aw}{w:aD}{b:Hp}{h':aH}{kvs:#[43]}{vs:List (Key×aa)}(z:kvs.length<=aq)(hd:#[l7]=false)(rel:#[nn])(c:h'.DictOf #[sy] a vs) :
  Z8 P w b h' a #[de]:=⟨z,hd,vs,rel,c⟩
theorem ZmR{x:Hp}{Q:#[bK]}(hu:#[j9])(I:#[k])(g:Xm H a y v x)(B:ZI y u)(C:ZI v r)(h:∀s',Inv X ah σ x s'->Q () s') :
  av #[K] A (setItem #[cd] u r) Q E s:=by
 rcases g with⟨d,k,e,m,l,n⟩|⟨d,k,b,e,m,D,l,n⟩
 ·subst m n;show#[ef,J,f,o,RA];have p:J.length<=aq:=by rw[<- f.length];exact z
  have t:(YJ d k v).length<=aq:=by have:=Tp d k v;lia
  refine wpAny_setItem_pairs (hsz:=p) (Wz B) o λF i w=>h _ ?_;have K:∃q,F.get? a=U q:=let ⟨q,_,_,j,_⟩:=i;⟨q,j⟩;exact To I #[fW,e] w K (Tn t hd (f.put k C) i)
 ·subst m n;show#[d5,B,L,f,o,Ztc];have p:L.length<=aq:=by rw[<- Paired.length f];exact z
  have t:(YJ d k v).length<=aq:=by have:=Tp d k v;lia
  refine wpAny_setItem_heap (hsz:=p) (cc hu) (Vn I.hok D) o λF i w=>h _ ?_;obtain⟨q,M,N,j,O,P,R,_,S⟩:=i;refine To I #[fW,e] w ⟨q,j⟩ ⟨t,hd,_,(f.put k D C).keeps λc ys G=>?_,q,M,N,j,O,P,R,S⟩;rw[Zc (R4 G e #[C])];exact G
universe E
section
variable {X:Cx} {ah:List (ae×aM)} {σ:St} {H:Hp} {s:ai} {a:ae} {kvs:List (Key×V)} {k:Key} {u:aa} {A:aB} {E:aa->ai->Prop}
theorem Zsh{v:V}{more:#[az]}{Q:#[G]}(I:#[k])(e:#[qT])(d:ZI (kV k) u)(l:Y1 kvs k=U v)(hm:more=[]\/∃x,more=[x])
  (h:#[u5,c,#[so]]):av #[K] A (call #[ep,"dict.pop"] (.ref a::u::more)) Q E s:=by
 show#[ef,f,b,g,RA];obtain⟨c,hw,m⟩:=Yt.some_of (v:=v) (o:=valueAt f k) (by rw[<- l];exact b.val k);have n:(keyPart u).isSome=true:=by
  cases k with
  | inl i=>obtain⟨t,q⟩:=#[oI,d];subst q;rfl
  | inr x=>obtain⟨t,q⟩:=#[vd,x,d];subst q;rfl
 have p:argsOk "dict.pop" ⟨.ref a::u::more,[]⟩:=by
  rcases hm with q|⟨x,q⟩
  ·subst q;exact PySem.F.args_dict_pop_2 _ _
  ·subst q;exact PySem.F.args_dict_pop_3 _ _ _
 refine call_meetsIn QaC g.typeIs PySem.F.entry_dict_pop p (meets_dict_pop_there #[bf] a (Wz d) more hm n)
  ⟨f,c,g,by rw[<- b.length];exact z,hw,λr j w=>h c _ ?_ m⟩
 have y:∃q,r.get? a=U q:=let ⟨q,_,_,B,_⟩:=j;⟨q,B⟩;exact To I #[fW,e] w y (Tn (Qi (Zna kvs k) z) hd (b.drop k) j)
theorem Ztj{Q:#[G]}(I:#[k])(e:Rd H a #[de])(h:∀t s',Inv X ah σ H s'->Q (.int kvs.length t) s'):av #[K] A (call #[m2] #[jW]) Q E s:=by obtain⟨z,hd,vs,b,c⟩:=Wp I.hok e;refine call_len_dict hd c (by rw[<- b.length];rw[aO]at z;lia) ?_;rw[<- b.length];exact h _ _ #[q9]
universe E
theorem Zj4{X:Cx}{f:#[L]}{h:St}{H:Hp}{s:ai}{a:ae}{y:V}{o:Option V}(I:#[fd,f,h])(g:Y6 H a y o):s.TypeIs #[cd] "dict":=by
 rcases g with⟨c,k,e,_,_⟩|⟨c,k,b,e,_,_,_⟩
 ·obtain⟨_,_,vs,_,d⟩:=Wp I.hok e;exact d.typeIs
 ·obtain⟨_,_,xs,_,d⟩:=VY I.hok e;exact d.typeIs
theorem Mz{P:aw}{w:aD}{H:Hp}(h:aH)(hb:bv<h.objs.size):Z8 P w H #[ah] h.objs.size #[lT] :=
 ⟨Qm _,beq_eq_false_iff_ne.mpr (Ne.symm (Qx hb)),[],.nil,aH.DictOf.new h⟩
def ZrH:TE:=λ_ H Q=>∀p,H p=af->Q #[ir] (upd H p #[lT])
section
variable {X:Cx} {pos:Pos}
theorem Rz:PE X (.Dict [] [] pos) ZrH:=λah s σ H Q I h =>
 wpAny_Dict_empty ⟨.ref s.heap.objs.size,_,I.laid (a:=#[nN]) (o:=.dK []) (t':=#[uj]) #[k3] #[ih] (Mz s.heap I.big),rfl,h _ #[ap]⟩
universe E
noncomputable def Wo(kvs more:#[43]):List #[q8]:=more.foldl (λb a=>YJ b a.1 a.2) kvs
theorem KV.merge:∀ {more:List (Key×V)} {a:List (Key×aa)} {kvs:List (Key×V)} {vs:List (Key×aa)},KV more a->KV kvs vs->KV (Wo kvs more) (merged vs a):=by
 intro more a kvs vs r;unfold KV at r;induction r generalizing kvs vs with
 | nil=>intro q;exact q
 | @cons p q ps qs h t b =>
  intro c;have e:KV #[rZ] (stored vs q.1 q.2):=by have:=c.put p.1 h.2;rw[<- h.1];exact this
  exact b e
theorem Mx:∀ (more kvs:List (Key×V)),(Wo kvs more).length<=kvs.length+more.length
 | [],kvs=>by show kvs.length<=kvs.length+0;lia
 | p::r,kvs=>by have h1:=Mx r #[rZ];have h2:=Tp kvs p.1 p.2;show (Wo #[rZ] r).length<=_;rw[QA];lia
structure M1 (X:Cx) (o:aI) (m:ak) (bn:Pos) (e:aI) (bg:Pos):Prop where
 base:bw o m X.env #[ev,o]=eval o X.env
 few:((bb bg #[uz]).all #[uf]&&#[ht].all #[k1]
  && decide (([e]:List aI).length+#[gI,Keyword].length+#[aw]<30))=true
 line:#[da]=true
 trees:bb bg #[uz]=[#[eb,e]]
structure M2 (X:Cx) (o:aI) (m:ak) (bn:Pos) (e f:aI) (bg:Pos):Prop where
 base:bw o m X.env #[ev,o]=eval o X.env
 few:((bb bg (aC [e,f] X.env)).all #[uf]&&#[ht].all #[k1]
  && decide (([e,f]:List aI).length+#[gI,Keyword].length+#[aw]<30))=true
 line:#[da]=true
 trees:bb bg (aC [e,f] X.env)=[#[eb,e],#[eb,f]]
def IsD(H:Hp)(a:ae):Prop:=(∃kvs,Rd H a #[de])\/∃kvs,Rd H a (.dT kvs)
theorem ZrL{X:Cx}{i:#[L]}{j:St}{H:Hp}{s:ai}{a:ae}(I:#[fd,i,j])(d:IsD H a) :
  s.TypeIs #[cd] "dict"/\(∀b,aa.ref a=.ref b->∃ob,s.heap.get? b=U ob/\ob.dict=af)/\#[l7]=false:=by
 rcases d with⟨f,e⟩|⟨f,e⟩
 ·obtain⟨_,hd,vs,_,c⟩:=Wp I.hok e;show#[cS]
 ·obtain⟨_,hd,xs,_,c⟩:=VY I.hok e;show#[cS]
section
variable {X:Cx} {ah:List (ae×aM)} {σ:St} {H:Hp} {s:ai} {a:ae} {y d:V} {u r:aa} {o:Option V} {A:aB} {E:aa->ai->Prop}
theorem ZrV{Q:#[G]}(hu:#[j9])(I:#[k])(g:Y6 H a y o)(j:ZI y u)(h:∀m s',Inv X ah σ H s'->ZI (o.getD .non) m->Q m s') :
  av #[K] A (call #[ep,"dict.get"] [.ref a,u]) Q E s:=by
 rcases g with⟨f,k,e,i,l⟩|⟨f,k,b,e,i,n,l⟩
 ·subst i;show#[ef,vs,c,d,Wp];refine call_meetsIn PySem.F.slot_dict_get d.typeIs PySem.F.entry_dict_get #[q7] (meets_dict_get #[bf] a (Wz j) hd) ⟨_,d.mapOf,h _ _ #[q9] ?_⟩;rw[l];exact(c.val k).getD rfl
 ·show#[d8,i,j,p,d];refine call_meetsIn PySem.F.slot_dict_get d.typeIs PySem.F.entry_dict_get #[q7] (meetsH_dict_get (tupleKind #[bf]) a b hd) ⟨cc hu,k,p,Vn I.hok n,d,h _ _ #[q9] ?_⟩;rw[l];exact(c.val k).getD rfl
universe E
def Mw(e ty:TE):TE:=λb H Q=>e b H λx c=>∃a,x=.ref a/\IsD c a/\ty b c λy d=>∃o,Y6 d a y o/\Q (o.getD .non) d
section
variable {X:Cx} {o e f:aI} {bn bg:Pos} {td ty tx:TE}
theorem ZoC(hu:X.A.units+1<cLine)(i:PE X o td)(he:PE X e ty)(m:M1 X o "get" bn e bg):PE X (.Call #[vl,"get",bn] [e] [] bg) (Mw td ty):=by intro b s c H Q I h;refine wpAny_Call_method m.base m.few m.line Q8 PySem.F.slot_dict_get PySem.F.type_dict_get #[du,i,b,c];rintro u j ⟨x,k,f,l,a,ex,d,n⟩;subst ex;obtain rfl:u=aa.ref a:=l;obtain⟨p,q,_⟩:=ZrL f d;refine⟨p,q,?_⟩;rw[m.trees];refine Calls.callWith_builtin rfl (Calls.evalArgs_plain (Calls.spliced_cons (thn (he b j c k _ f n) λiv s2 ⟨y,r,t,v,ov,g,w⟩=>Calls.spliced_nil ?_)));exact ZrV hu t g v λw' s3 z A=>⟨_,r,z,A,w⟩
universe E
section
variable {X:Cx}
theorem Zmv:YU X #[m2] #[hp]:=by intro ah s σ H xs us Q I r h;obtain⟨a,kvs,rfl,b,q⟩:=h;obtain⟨u,rfl,c⟩:=Xq r;cases c;exact Ztj I (.inl b) λt s' d=>⟨.int kvs.length,H,d,#[qx],q⟩
universe E
section
variable {κ:Type} [DecidableEq κ]
theorem Zpo{kvs:#[bi]}{k:κ}{v:V}(h:Y1 kvs k=U v):k∈kvs.map #[iw]:=by
 have q:#[c8]=true:=by rw[Tq,h];all_goals rfl
 show#[vx,p,b,e,List.any_eq_true.mp,q];exact List.mem_map.mpr ⟨p,b,of_decide_eq_true e⟩
universe E
structure Mf (P:aw) (w:aD) (K:#[7]) (mg:#[J]) (base:aH) (k:Nat) (C:ae) (m:ak) (ps:#[T]) (sp:Sp):Prop where
 ex:X2 λf fd=>YX P w K mg base CX0 k f fd ps sp/\Vw K C m f/\YG K fd ps []
structure Cf (P:aw) (w:aD) (K:#[7]) (mg:#[J]) (base:aH) (k:Nat) (C:ae) (x:ak) (ps:#[T]) (sp:Sp):Prop where
 ex:X2 λf fd=>YX P w K mg base CX0 k f fd ps sp/\Mk K C f/\YG K fd ps []/\mg x=U #[S]
structure Yr (K:#[7]) (C:ae) (m aR:ak) (st:aL) (ps:#[T]):Prop where
 ex:X2 λf fd=>Fun K m aR st f fd/\Vw K C m f/\YG K fd ps []
structure UO (K:#[7]) (mg:#[J]) (C:ae) (x aR:ak) (st:aL) (ps:#[T]):Prop where
 ex:X2 λf fd=>Fun K "__init__" aR st f fd/\Mk K C f/\YG K fd ps []/\mg x=U #[S]
section
variable {P:aw} {w:aD} {K:#[7]} {mg:ak->Option aa} {base:aH}
theorem Yr.mf{C:ae}{m c:ak}{st:aL}{N ps:#[T]}{k:Nat}{sp:Sp}(T:Yr K C m c st ps)(S:#[hd])(len:#[P])
  (d:∀ (a:aa) (f:ae) (A:aB) (outer:List Env) (s:ai) (H:Hp) (vs:List V) (Q:VK) (E:XK),Zt k #[80]->sp vs H Q E ->
   ∃t,PSs #[bw].nox (Zj st) t/\t { nx:=λ_ e=>Q .non e,rt:=Q } #[jG] H):Mf P w K mg base (k+1) C m ps sp:=by
 show#[pn,g];exact⟨f,g,F.ok S len #[dN,i,d],m,b⟩
theorem UO.cf{C:ae}{x c:ak}{st:aL}{N ps:#[T]}{k:Nat}{sp:Sp}(T:UO K mg C x c st ps)(S:#[hd])(len:#[P])
  (d:∀ (a:aa) (f:ae) (A:aB) (outer:List Env) (s:ai) (H:Hp) (vs:List V) (Q:VK) (E:XK),Zt k #[80]->sp vs H Q E ->
   ∃t,PSs #[bw].nox (Zj st) t/\t { nx:=λ_ e=>Q .non e,rt:=Q } #[jG] H):Cf P w K mg base (k+1) C x ps sp:=by
 obtain⟨f,i,F,m,b,g⟩:=T.ex;exact⟨f,i,F.ok S len #[dN,j,d],m,b,g⟩
universe E
section
variable {X:Cx} {k j:Nat} {C:ae} {m x:ak} {ps:List ak} {sp:Sp} {o e:aI} {es:List aI} {ta:TE} {t:TA} {p bn pos:Pos} {pl:Sem Bool}
theorem Yh(F:#[ex,Mf,m])(c:#[no])(hr:#[n0])(he:#[l0])(ha:#[69])(d:k<=j:=by decide)
  (h:#[i]:=by rfl) (i:#[A]:=by rfl)
  (l:eval #[37] X.env=(do
   let a <- eval o X.env
   standAt bn.atName
   let (f,first) <- holding [a] (getMethod a m pl)
   callWith pos f first (bb pos #[hy]) #[aC]):=by rfl) :
  PE X #[37] (Tw C m sp [] E0 ta t):=by
 obtain⟨f,fd,F,g,b⟩:=F.ex;exact ZpL he c g F (hr.mono d) b .nil Vr ha h i l
theorem Yq(F:#[ex,Mf,m])(c:#[no])(hr:#[n0])(he:#[l0])(d:k<=j:=by decide)
  (e:eval #[bo] X.env=(do
   let a <- eval o X.env
   standAt bn.atName
   let (f,first) <- holding [a] (getMethod a m pl)
   callWith pos f first (bb pos (aC [] X.env)) #[aC]):=by rfl) :
  PE X #[bo] (Tw C m sp [] E0 ta UW):=by
 obtain⟨f,fd,F,g,b⟩:=F.ex;exact Zn1 he c g F (hr.mono d) b .nil Vr e
theorem Vm(F:#[ex,Cf,x])(hr:#[n0])(ha:#[69])(a:k+1<=j:=by decide)(c:#[rO]:=by rfl)(d:#[j]:=by decide)
  (h:#[i]:=by rfl) (i:#[A]:=by rfl) :
  PE X #[30] (Tv C sp [] E0 t):=by
 show#[ph,g,b,l];exact Zpf g F (hr.mono a) c l b .nil Vr ha d h i
universe E
section
variable {X:Cx} {ah:List (ae×aM)} {σ:St} {H:Hp} {s:ai} {d:ae} {o:aM} {u:HO}
theorem Inv.freeze(I:#[k])(e:H d=U u)(a:Mut (U u))(c:s.heap.get? d=U o):Inv X ah σ (upd H d #[ko]) s:=by
 have h:=I.write (x:=d) (e:=d) (o:=.frz o u) (t':=#[uj]) (h':=s.heap) #[dp,e,a] #[8] (λb v _ q=>q) ⟨o,c⟩ ?_
 ·exact h
 ·refine⟨c,(I.hok d u e).stay (λb v _ q=>q) (λb q=>?_) #[g5,b,xs,q]⟩
  ·show#[kS]
  ·show#[kS]
theorem Inv.nofrz(I:#[k])(e:H d=U u)(c:Mut (U u)):∀a b,X.H₀ d≠U (.frz a b):=λa b z=>by have:=I.base.frzs d a b z;rw[e]at this;cases this;exact c
theorem Inv.thaw(I:#[k])(e:H d=U #[ko])(mu:Mut (U u))(n:∀g h,X.H₀ d≠U (.frz g h)):Inv X ah σ (upd H d u) s:=by
 have i:∀b,H b=af->b≠d:=λb z=>Ze (H:=H) e z |>.symm;refine⟨I.ok,I.os,I.bare,⟨I.base.keep,I.base.slot,λb v a1 a2 a3=>?_,I.base.there,λb f q=>?_,λb g h q=>?_,λb k q=>?_⟩,I.loc,I.cell,?_,λx c q=>?_,λp l=>?_,?_,I.len⟩
 ·have:=I.base.free b v a1 a2 a3;rw[Zc (i b this)];exact this
 ·have:=I.base.tups b f q;show#[dX,e]
 ·have:=I.base.frzs b g h q;rw[Zc (λz=>by rw[z]at q;exact n g h q)];exact this
 ·obtain⟨more,this⟩:=I.base.tbls b k q;refine⟨more,?_⟩;show#[dX,e]
 ·rw[Zc (i _ I.free)];exact I.free
 ·rw[Zc (i _ (I.freeC x c q))];exact I.freeC x c q
 ·obtain⟨a1,a2,a3⟩:=I.pin p l;exact⟨a1,by rw[Zc (i _ a2)];exact a2,a3⟩
 ·intro b v q;have own:∀c a,H c=U #[uQ]->(upd H d u) c=U #[uQ]:=λc a q=>by rw[Zc (λz=>by rw[z,e]at q;cases q)];exact q
  have tup:∀c f,H c=U (.tup f)->(upd H d u) c=U (.tup f):=λc f q=>by rw[Zc (λz=>by rw[z,e]at q;cases q)];exact q
  by_cases j:b=d
  ·show#[fH,j,Zd,q];obtain⟨_,m⟩:=(show Z8 X.prog X.w H s.heap b #[ko] from I.hok b _ e);exact m.stay (λc v _ q=>q) (λc q=>own c b q) tup
  ·rw[Zc j]at q;exact(I.hok b v q).stay (λc v _ q=>q) (λc q=>own c b q) tup
universe E
def ZsJ(t:TE):TE:=λb H Q=>X2 λd u=>H d=U u/\Mut (U u)/\t b H λv a=>∃o,a d=U #[ko]/\Q v (upd a d u)
theorem Tl{X:Cx}{e:aI}{t:TE}(h:PE X e t):PE X e (ZsJ t):=by intro b s c H Q I q;obtain⟨d,u,f,a,q⟩:=q;have n:=I.nofrz f a;refine thn (h b s c H _ I q) ?_;rintro v s1 ⟨x,H1,g,i,o,j,k⟩;exact⟨x,_,g.thaw j a n,i,k⟩
theorem Rx{P:aw}{w:aD}{k:Key}{v:aa}(h:#[sy].is k v=true):ZI (kV k) v:=by
 rw[ZkB]at h;rcases WQ h with⟨i,t,rfl,rfl⟩|⟨x,t,rfl,rfl⟩
 ·exact#[qx]
 ·exact#[qx]
def Mv:List V->Hp->VK->Prop:=λxs H Q=>X2 λd kvs=>xs=[.ref d]/\H d=U #[de]/\∀l,H l=af->Q #[cT] (upd H l (.lst (kvs.map λa=>kV a.1)))
theorem Zmr{P:aw}{w:aD}:∀ (kvs:List (Key×V)) (vs:List (Key×aa)) (us:List aa),KV kvs vs->us.length=vs.length->(∀ (j:Nat) (v:aa),us[j]? = U v->∃k x,vs[j]? = U (k,x)/\#[sy].is k v=true)->ZK (kvs.map λf=>kV f.1) us:=by
 intro kvs vs us r;unfold KV at r;induction r generalizing us with
 | nil =>
  intro c _;cases us with
  | nil=>exact .nil
  | cons a b=>simp at c
 | @cons p q ps qs h t g =>
  intro c d;cases us with
  | nil=>simp at c
  | cons a b =>
   obtain⟨k,x,e,i⟩:=d 0 a rfl;have l:q=(k,x):=by simpa using e
   rw[Qn];refine .cons ?_ (g b #[dq,c] λj v m=>?_)
   ·rw[h.1,l];exact Rx i
   ·simpa using d (j+1) v #[dq,m]
theorem Zk8{X:Cx}(hc:#[aD]):YU X #[cp] Mv:=by intro ah s σ H xs us Q I r h;obtain⟨d,b,rfl,hd,q⟩:=h;obtain⟨u,rfl,m⟩:=Xq r;cases m;obtain⟨z,lo,k,f,n⟩:=#[fO,d,b,hd];obtain⟨ep,p⟩:=n.dictAt;have hl:b.length=k.length:=f.length;refine PySem.W.kdl_call (PySem.W.kdl_dict lo) #[ic] p #[2] λh' t g c x y l=>?_;have A:ZK (b.map λi=>kV i.1) g.toList:=Zmr (P:=X.prog) (w:=X.w) b k g.toList f #[dp,QaJ,l.1] λj v e=>l.2 j v #[er,Array.getElem?_toList,e];refine⟨.ref s.heap.objs.size,_,I.laid (a:=#[nN]) (o:=.lst (b.map λi=>kV i.1)) (t':=t) x #[ih] ?_,rfl,q _ #[ap]⟩;exact⟨by rw[Qa];exact z,g.toList,c,A,by simpa using y⟩
theorem Inv.dictF{X:Cx}{h:#[L]}{i:St}{H:Hp}{s:ai}{d:ae}{o:aM}{kvs:#[43]}{b:#[hR]}{ep:Nat}(I:#[fd,h,i])(e:H d=U #[21])(hd:#[vn,b]) :
  ∃vs,KV kvs vs/\s.heap.DictAt #[bf] d vs ep:=by
 obtain⟨c,_,_,vs,a,o',sy,sC,f,j,g,k⟩:=(show Z8 X.prog X.w H s.heap d #[21] from I.hok d _ e);show#[e8,c,f,f];show#[vv,hd,g];exact⟨vs,a,o,b,c,j,hd,k⟩
theorem Rw{kvs:#[43]}{vs:List (Key×aa)}(r:#[nn]):∀ (i:Nat) (k:Key) (x:V),kvs[i]? = U (k,x)->∃u,vs[i]? = U (k,u)/\ZI x u:=by
 unfold KV at r;induction r with
 | nil=>intro i k x h;simp at h
 | @cons p q ps qs h t b =>
  intro i k x a;cases i with
  | zero =>
   have e:p=(k,x):=by simpa using a
   show#[p3,q.2,?_]
   ·have:q=(k,q.2):=by rw[show k=q.1 by rw[<- h.1,e]]
    simpa using this
   ·have:=h.2;rw[e]at this;exact this
  | succ i=>simpa using b i k x #[bG]
noncomputable def Itv(d:ae)(o:aM)(kvs:#[43]):It :=
 ⟨λi H=>H d=U #[21]/\i<kvs.length,λi H v a=>a=H/\∃k,kvs[i]? = U (k,v),λi H=>H d=U #[21]/\kvs.length<=i⟩
noncomputable def Itk(d:ae)(o:aM)(kvs:#[43]):It :=
 ⟨λi H=>H d=U #[21]/\i<kvs.length,λi H v a=>a=H/\X2 λk x=>kvs[i]? = U (k,x)/\v=kV k,λi H=>H d=U #[21]/\kvs.length<=i⟩
theorem Zmj{P:aw}{w:aD}{K:#[7]}{N:aI}{d it:ae}{o:aM}{kvs:#[43]}{O:#[hR]}{ep:Nat}(hd:#[vn,O]):WN P w K N (Itv d o kvs) [it] it (λi h=>h.IsValIter it d i kvs.length ep) where
 mem:=by simp
 obj:=λi h st b f=>by
  have e:b=it:=by simpa using f
  show#[10]
 keep:=λi h g st k=>by obtain⟨o,e,r⟩:=st;exact#[ij]
 item:=by intro X m hw n J i L s M H E I j st p;show#[B];obtain⟨u,R,S⟩:=#[oh];refine wpAny_pyNext_values_item #[er,l,st] F R λg G T=>?_;show#[aa];exact⟨_,rfl,VC (s:=#[gx,s,g]) Y c1 Z #[6] ⟨kvs[i].2,H,W,S,⟨rfl,kvs[i].1,Qb C⟩,G,λb f=>(j b f).1⟩⟩
 done:=by intro X m hw n J i L s M H E I j st p;show#[B];exact wpAny_pyNext_values_end (I.ok.hd J) #[er,l,st] F (QY #[2]) λg eb=>⟨rfl,I.turned (t':=#[uj]) #[em,b,f,eb,f] q t x y A⟩
 self:=#[gD,wpAny_pyIter_valiter]
theorem Zmo{P:aw}{w:aD}{K:#[7]}{N:aI}{d it:ae}{o:aM}{kvs:#[43]}{O:#[hR]}{ep:Nat}(hd:#[vn,O]):WN P w K N (Itk d o kvs) [it] it (λi h=>h.IsKeyIter it d i kvs.length ep) where
 mem:=by simp
 obj:=λi h st b f=>by
  have e:b=it:=by simpa using f
  show#[10]
 keep:=λi h g st k=>by obtain⟨o,e,r⟩:=st;exact#[ij]
 item:=by intro X m hw n J i L s M H E I j st p;show#[B];obtain⟨u,R,ru⟩:=#[oh];refine wpAny_pyNext_dict_item #[er,l,st] F R λkey g S G T=>?_;show#[aa];exact⟨_,rfl,VC (s:=#[gx,s,g]) Y c1 Z #[6] ⟨kV kvs[i].1,H,W,Rx S,⟨rfl,kvs[i].1,kvs[i].2,Qb C,rfl⟩,G,λb f=>(j b f).1⟩⟩
 done:=by intro X m hw n J i L s M H E I j st p;show#[B];exact wpAny_pyNext_dict_end (I.ok.hd J) #[er,l,st] F (QY #[2]) λg eb=>⟨rfl,I.turned (t':=#[uj]) #[em,b,f,eb,f] q t x y A⟩
 self:=#[gD,wpAny_pyIter_keyiter]
def ZsP(b:TE):TI:=#[dS,Itk]
theorem ZpV{X:Cx}{p l:aI}{g:TE}(hl:PE X l g):PI X p l (ZsP g):=by
 show#[o9,r,t];rintro v a ⟨x,i,j,u,w⟩;show#[p5,kvs,w,u];obtain⟨z,lo,k,c,o,y,ep,m,A,n,B⟩:=(show Z8 X.prog X.w i a.heap d #[de] from j.hok d _ hd);have C:kvs.length=k.length:=c.length;have f:=j.freeze hd True.intro m;refine wpAny_pyIter_dict (knd:=ZQ X.prog X.w) (kvs:=k) (ep:=ep) lo ⟨o,y,m,A,n,B⟩ ?_;rw[<- C];refine⟨a.heap.objs.size,#[oe],_,Itk d o kvs,upd i d #[21],rfl,f.kept (t':=a.toks) λb o e=>Qc _ e,Zmo n,#[81],λb D=>?_,q o⟩;have e:b=a.heap.objs.size:=by simpa using D
 show#[mr]
def ZsL(b:TE):TI:=#[dS,Itv]
theorem ZpN{X:Cx}{E o:aI}{to:TE}{t u:Pos}(F:#[sT])(G:#[ew,o,"values"]:=by rfl)(J:#[sq]:=by rfl) :
  PI X E (.Call #[vl,"values",t] [] [] u) (ZsL to):=by
 show#[dU,w,y,R];refine du G J #[du,F,w,y];rintro v c ⟨x,k,A,K,L⟩;show#[p5,f,L,K];show#[cG];have M:f.length=i.length:=l.length;have N:=#[tC];show#[lm];refine⟨"dict", "dict.values",Q8,PySem.F.slot_dict_values,PySem.F.type_dict_values,p.typeIs,λa e=>?_,?_⟩
 ·cases e;exact⟨g,j,m.2.1⟩
 show#[jM];refine call_meetsIn PySem.F.slot_dict_values p.typeIs PySem.F.entry_dict_values (PySem.F.args_dict_values_1 _) (meets_dict_values #[bf] d lo) ⟨⟨i,p⟩,?_⟩;have O:#[eo,"dict_values"].IsValuesView c.heap.objs.size d:=#[81];have P:#[eo,"dict_values"].DictAt #[bf] d i C:=⟨g,B,Qc _ j,m,n,D⟩;refine wpAny_pyIter_values (s:={ c with heap:=c.heap.push { cls:=.type "dict_values",data:=.fields #[.ref d] } }) O P ?_;rw[<- M];have r:Inv X w y (upd k d #[lS]) { c with heap:=c.heap.push { cls:=.type "dict_values",data:=.fields #[.ref d] } }:=#[po,N.kept];refine⟨_,[_],_,Itv d g f,upd k d #[lS],rfl,r.kept (t':=c.toks) λb o e=>Qc _ e,Zmj n,#[81],λb Q=>?_,q g⟩;have e:=Qh.mp Q;show#[ne]
noncomputable def Iti(d:ae)(o:aM)(kvs:#[43]):It :=
 ⟨λi H=>H d=U #[21]/\i<kvs.length,
  λi H v a=>X3 λp k x=>H p=af/\v=.ref p/\kvs[i]? = U (k,x)/\a=upd H p (.tup [kV k,x]),
  λi H=>H d=U #[21]/\kvs.length<=i⟩
theorem ZkT{P:aw}{w:aD}{K:#[7]}{O:#[iS]}{Q:Nat}{R:Pos}{d it:ae}{o:aM}{kvs:#[43]}{S:#[hR]}{ep:Nat}(hd:#[vn,S]) :
  WN P w K (.Tuple O Q R) (Iti d o kvs) [it] it (λi h=>X2 λok j=>IsItemIter h it d i kvs.length ep ok j) where
 mem:=by simp
 obj:=λi h st b g=>by
  have e:b=it:=by simpa using g
  subst e;show#[ts];show#[eh,a,v,z]
 keep:=λi h p st k=>by obtain⟨ok,j,a⟩:=st;exact⟨ok,j,k it #[4] _ a⟩
 item:=by
  intro X r hw t l i D s F H E I m st x;subst r hw t;show#[ts];show#[hj];obtain⟨u,T,W⟩:=Rw f i kvs[i].1 kvs[i].2 (Qb A);refine wpAny_pyNext_items_item #[er,n,a] C T λkey p Y a1 a2 a3 a4=>?_;rw[<- n]at a1;have lt:#[aZ]:=λq=>QU (Qk q);have G:s.heap.objs.size≠it:=lt a;refine⟨_,rfl,wpAny_letOwnedTupleGo_items a1 λJ L Z=>?_⟩;have M:#[va,it,p,J]:=Z;have I2:Inv X D F (upd H s.heap.objs.size (.tup [kV kvs[i].1,kvs[i].2])) { s with heap:=J,toks:=s.toks }:=by
   refine I.zipped (fp:=[it]) (u:=key) (v:=u) m (Rx Y) W (M.extBut _ _ G a2) (λb g=>?_) λc o l q=>?_
   ·have e:=Qh.mp g;subst e;exact⟨_,L⟩
   ·have N:c≠it:=λz=>l #[px,z];exact M.extBut _ _ N (a4 c o N q)
  refine⟨.ref s.heap.objs.size,_,I2,rfl,⟨s.heap.objs.size,kvs[i].1,kvs[i].2,I.fresh,rfl,Qb A,rfl⟩,⟨_,_,L⟩,λb g=>?_⟩;have e:=Qh.mp g;subst e;rw[Zc G.symm];exact(m _ g).1
 done:=by intro X r hw t l i D s F H E I m st x;subst r hw t;show#[ts];show#[qB];show#[hj];exact wpAny_pyNext_items_end (I.ok.hd l) #[er,n,a] C (QY #[2]) λp eb=>⟨rfl,I.turned (t':=#[uj]) #[em,b,g,eb,g] f0 f1 f3 f4 f5⟩
 self:=λ_ _ _ _ _ st h=>by obtain⟨ok,j,a⟩:=st;exact PySem.W.kcp_self a h
def Zrh(b:TE):TI:=#[dS,Iti]
theorem Mu{X:Cx}{E:#[iS]}{F:Nat}{G:Pos}{o:aI}{to:TE}{t u:Pos}(J:#[sT])(K:#[ew,o,"items"]:=by rfl)(L:#[sq]:=by rfl) :
  PI X (.Tuple E F G) (.Call #[vl,"items",t] [] [] u) (Zrh to):=by
 show#[dU,w,y,R];refine du K L #[du,J,w,y];rintro v c ⟨x,k,A,M,N⟩;show#[p5,f,N,M];show#[cG];have O:f.length=i.length:=l.length;have P:=#[tC];show#[lm];refine⟨"dict", "dict.items",Q8,PySem.F.slot_dict_items,PySem.F.type_dict_items,p.typeIs,λa e=>?_,?_⟩
 ·cases e;exact⟨g,j,m.2.1⟩
 show#[jM];refine call_meetsIn PySem.F.slot_dict_items p.typeIs PySem.F.entry_dict_items (PySem.F.args_dict_items_1 _) (meets_dict_items #[bf] d lo) ⟨⟨i,p⟩,?_⟩;have Q:#[eo,"dict_items"].IsItemsView c.heap.objs.size d:=#[81];have S:#[eo,"dict_items"].DictAt #[bf] d i C:=⟨g,B,Qc _ j,m,n,D⟩;refine wpAny_pyIter_items (s:={ c with heap:=c.heap.push { cls:=.type "dict_items",data:=.fields #[.ref d] } }) Q S ?_;rw[<- O];have r:Inv X w y (upd k d #[lS]) { c with heap:=c.heap.push { cls:=.type "dict_items",data:=.fields #[.ref d] } }:=#[po,P.kept];refine⟨_,[_],_,Iti d g f,upd k d #[lS],rfl,r.kept (t':=c.toks) λb o e=>Qc _ e,ZkT n,⟨_,_,Qr _ rfl⟩,λb T=>?_,q g⟩;have e:=Qh.mp T;show#[ne]
theorem ZpS{X:Cx}{b:#[L]}{s:ai}{c:St}{H:Hp}{d:ae}{kvs:#[43]}{k:Key}{v:V}{e u:aa}{Q:Hp->Prop}(I:#[fd,b,c])(f:H d=U #[de])(hz:kvs.length<aq)(i:ZI (kV k) e)(j:ZI v u)
  (q:Q (upd H d (.dK #[sz]))):#[jq] (dictSet d e u) (λ_ s'=>∃g,Inv X b c g s'/\Q g) X.xe s:=by
 obtain⟨_,hd,vs,a,l⟩:=RA I.hok f;refine wpAny_dictSet_pairs (knd:=ZQ X.prog X.w) (k:=k) (Wz i) l #[g5,h',h,m] (by rw[<- a.length];lia);refine⟨_,?_,q⟩;obtain⟨o,n,_⟩:=aH.dictOf_iff.mp h;exact To I #[fW,f] m ⟨o,n⟩ (Tn (Qi (Tp kvs k v) #[2]) hd (a.put k j) h)
def Mt(J:It)(D:ae)(k:Nat)(q:St)(r:Hp)(g:TG)(s:TT)(tk t:TE)(Q:VK):Prop :=
 ∃W:Nat->Nat->List (Key×V)->St->Hp->Prop,(∃m,W 0 m [] #[pL,q,k] (upd r D #[lT])) /\
  ∀i m a e c,W i m a e c->#[uH] \/
   (J.go i c/\∃N:List (Key×V)->St->Hp->Prop,#[ka]/\∀x n,J.yld i c x n->g x e n λd u=>s d u λb o =>
    if b=true then tk d o λv w=>t d w λy p=>∃k:Key,v=kV k/\p D=U (.dK a)/\a.length<aq/\N (YJ a k y) d (upd p D (.dK (YJ a k y))) else N a d o)
def Ms(n:Nat)(c:TI)(g:TG)(d:TT)(tk e:TE):TE:=λa H Q=>c a H λJ b=>∀D,b D=af->Mt J D n a b g d tk e Q
section
variable {X:Cx} {N N':List ak} {o c:be}
theorem ZmX{kx vx tg iter:aI}{cY:#[iS]}{pos cJ:Pos}{wi:TI}{g:TG}{tc:TT}{tk te:TE}{use:Option (aa->Sem Unit)}{QQ:#[G]}(S:#[bI])(hN:X.N=N)(ho:#[am])(hc:#[aD])
  (hi:PI X tg iter wi) (hg:#[dT,PG,tg,g]) (ht:#[dT,PTs,cY,tc]) (hk:#[dT,PE,kx,tk]) (he:#[dT,PE,vx,te])
  (hs:#[aL]) {Z:#[L]} {s:ai} {σ:St} {H:Hp} {Q:VK} (I:#[fd,Z,σ]) (h:Ms #[bQ] wi g tc tk te σ H Q)
  (post:∀ (D C:ae) (t:ai) (l:Hp) (m:ak->Option aa),Inv X Z σ l t->l C=af->t.heap.Ns C m->C≠X.env.locals->X.s₀.heap.objs.size<=C->#[fl,a,C]->#[tD] ->
   Q #[it] l->compPost #[K] X.A X.xe use QQ #[it] C #[mZ] t) :
  #[jq] (comprehension #[cD] c X.env cJ newDict false #[ev,iter] use) QQ X.xe s:=by
 have mV:#[rt]:=M0 λy hy hf=>by refine I.ok.has y.1 ?_;show#[ck]
 show#[aT];obtain⟨it,fp,tn,J,B,e,I2,T,mQ,f2,hR⟩:=h2;subst e;have hD:B f.heap.objs.size=af:=I2.fresh;have O:Inv X Z σ #[48] { f with heap:=f.heap.push { cls:=.type "dict",data:=.dict #[] } } :=
  I2.laid (t':=f.toks) #[k3] #[ih] (Mz _ (QaU #[6] (show aK<f.heap.objs.size from(I2.mod.glob.keeps I2.bk).lt)))
 have p8:#[rm]:=λb k=>by obtain⟨A,e,_⟩:=T.obj 0 _ mQ b k;exact Qk e
 refine bD (wpAny_newFunctionEnv S.nocell #[sw] #[g5,G,kM,kN] S.kind);have P:∃j:ai,j={ f with heap:=f.heap.push { cls:=.type "dict",data:=.dict #[] } }:=#[E];show#[dz,j,mW,P];have P:j.heap=f.heap.push { cls:=.type "dict",data:=.dict #[] }:=by rw[mW]
 have lL:#[mu]:=by rw[P,QV]
 show#[ox];have f3:#[oY,Z,#[48]]:=λb k=>⟨by rw[Zc (Qx (p8 b k))];exact(f2 b k).1,(f2 b k).2⟩;have oS:tn 0 j.heap:=T.keep 0 _ _ mQ λb _ A e=>by rw[P];exact Qc _ e
 rw[<- mW]at O;show bW #[K] X.A (.compStart _ 0 #[iH] #[N] (bH c #[m] #[jo].objs.size X.env))
  (compPost #[K] X.A X.xe use QQ #[N] #[jo].objs.size)
  { f with heap:=G,toks:=f.toks+([]:List (ak×aa)).length }
 have dS:G.Ns j.heap.objs.size #[kL]:=by rw[P];exact kM
 have lM:#[d3,A,j.heap.get?,G.get?]:=λb A e=>by rw[P]at e;exact #[rq]
 rw[<- P];have vh:({ f with heap:=G,toks:=f.toks+([]:List (ak×aa)).length }:ai)={ j with heap:=G,toks:=f.toks }:=by rw[mW];rfl
 show#[jK];have I4:=MX (tk:=f.toks) S hN ho O f3 p9 dS lM;have qa:tn 0 G:=#[mB];generalize w:YQ X c N' j.heap.objs.size j (upd B f.heap.objs.size (.dK [])) fp=Y at I4;have K:Y.prog=X.prog:=by rw[<- w];rfl
 have L:Y.w=X.w:=by rw[<- w];rfl
 have YK:Y.K=X.K:=by rw[<- w];rfl
 have Yc:Y.calm=true:=by rw[<- w];exact hc
 have YA:Y.A=X.A:=by rw[<- w];rfl
 have lN:#[lO]:=by rw[<- w];rfl
 have Yl:#[qH]:=by rw[lN];rfl
 have jF:Y.xe=λ_ _=>False:=by rw[<- w];rfl
 show#[dQ,qb,hg,#[48],fK,ht];show#[dQ,kL,hk,#[48],fL,he];rw[w]at qb fK kL fL;have gt:∀ {R:Hp},#[gA,R]->∀b∈fp,XH Y [] R b:=λ{R} hn b k=>by
  show#[52];have mX:p∈#[kw]:=by
   have:Y.pn=[]:=by rw[<- w];rfl
   rw[this]at hp;exact hp
  cases mX
 have bf:∀ (t:ai) (M:St) (l:Hp),Inv Y [] M l t->Q #[N] l->compPost #[K] X.A X.xe use QQ #[N] j.heap.objs.size #[mZ] t:=λt M l F q=>by
  show#[qA];have kO:l j.heap.objs.size=af:=by have:=F.free;rw[Yl]at this;exact this
  have un:Un #[q0] fp #[48] l j.heap t.heap:=by have:=F.base;show#[gu,w]
  have vi:t.os=j.os:=by have:=F.os;show#[gu,w]
  have ie:#[ua]:=by have:=F.hok;rw[K,L]at this;exact this
  refine post _ _ t l m (O.call' (s':=t) (ch:=fp) vi un ie F.bare λb k=>?_) kO hn (QU O.lt) O.sz #[g5,x,a,e] (λp hp=>?_) q
  ·show#[jN]
  ·obtain⟨v,A,e',_⟩:=O.cell x a e;exact Qx (Qk e')
  ·exact Qx (Qk (O.pin p hp).1)
 have lO:bW #[K] X.A #[pe,#[cD],#[iH]]
   (compPost #[K] X.A X.xe use QQ #[N] j.heap.objs.size) { j with heap:=G,toks:=f.toks }:=by
  rw[<- lN,<- YA];refine Zhx (E:=#[sd]) (λn s'=>X4 λi ys aQ R=>Inv Y [] aQ R s'/\tn i s'.heap/\#[gA,R]/\W i n ys aQ R) #[lq] ?_ m0
   #[kQ]
  ·rintro n t ⟨i,ys,M,l,F,kI,mR,w5⟩;rcases gs i n ys M l w5 with⟨stop,qn⟩|⟨go,Nn,qc,step⟩
   ·refine thn (T.done Y K L YK Yc i [] t M l _ F (gt mR) kI stop) ?_;rintro r s6 ⟨hr,I6⟩;subst hr;have fq:=bf s6 M l I6 qn;rw[<- YA]at fq;exact fq
   ·refine thn (T.item Y K L YK Yc i [] t M l _ F (gt mR) kI go) ?_;show#[aB];have lP:#[aN]:=λ{mZ V s9} I9=>by refine#[bS];show#[fe,A,mY,k,I9.pin]
    have P1:=qb _ s7 M H7 x u _ vm r7 (step x H7 y7);show#[eD,K,L,P1];show#[jA];show#[eD,K,L,P2];rintro ok s9 ⟨V,I9,q9⟩;cases ok with
    | false=>rw[if_neg Qt]at q9;show#[bb]
    | true=>rw[if_pos rfl]at q9;show#[t0];have P3:=kL _ s9 iS V _ I9 q9;show#[eD,K,L,P3];rintro kv vn ⟨vk,jG,lQ,vp,vt⟩;have P4:=fL _ vn iS jG _ lQ vt;show#[eD,K,L,P4];rintro y sJ ⟨vy,qd,oX,CI,kk,eb,vq,hsz,vw⟩;subst eb;have P5:=ZpS (X:=Y) oX vq hsz vp CI vw;show#[eD,K,L,P5];rintro _ s12 ⟨lV,kX,CJ⟩;show#[vx,b1,b2,b3,lP,kX];obtain⟨m',gw,CK⟩:=qc _ _ _ CJ;exact⟨m',gw,i+1,YJ ys kk vy,iS,lV,b1,b2,b3,CK⟩
  ·exact w0
 have lp:=T.self X.A 0 { j with heap:=G,toks:=f.toks } (λvz s'=>bW #[K] X.A #[pe,#[cD],vz]
   (compPost #[K] X.A X.xe use QQ #[N] j.heap.objs.size) s') #[k2] qa lO
 exact codeAny_compStart_dict lO #[q2]
theorem ZoQ{b d a iter:aI}{e:#[iS]}{pos:Pos}{f:TI}{g:TG}{i:TT}{tk j:TE}(S:#[bI])(k:X.N=N)(l:#[am])(hc:#[aD])
  (n:PI X a iter f) (p:#[dT,PG,a,g]) (ht:#[dT,PTs,e,i]) (hk:#[dT,PE,b,tk]) (he:#[dT,PE,d,j])
  (hs:#[aL]:=by intro _;rfl) :
  PE X #[gC,b,a,e,c] (Ms #[bQ] f g i tk j):=by
 show#[dU,ah,σ,Q];show av _ _ (comprehension #[gC,b,a,e,c] c X.env _ newDict false #[ev,iter]) _ _ _;refine ZmX (use:=af) S k l hc n p ht hk he hs I h λD C s5 r m t u v w y z A q=>⟨m,v,λh' B=>?_⟩;exact⟨.ref D,r,t.let u w y z A B,rfl,q⟩
universe E
theorem Zfu:typeLookup #[cp] "keys" = pure af:=by rw[typeLookup_type,builtinLookup_eq_fast];kernel_rfl
theorem getAttr?_keys_list{prog:aw}{w:aD}{A:aB}{E:#[G]}{s:ai}{a:ae}{o:aM}{xs:#[sl]}{k:Nat}{Q:#[nm]}
  (hx:s.heap.get? a=U o) (hc:o.cls=.type "list") (b:o.data=.seq xs k) (hd:o.dict=af) (l:#[iZ])
  (h:∀h' tk e,aH.NewExcOf s.heap h' e "AttributeError"->Q af { s with heap:=h',toks:=tk }) :
  av #[s] A (getAttr? #[cd] "keys") Q E s:=by
 obtain⟨c,dct,dat,m⟩:=o;simp only at hc b hd;subst hc b hd;show#[ga,n,tk,s];have f:∀i,(#[fR,n,i]:ai).TypeIs #[cd] "list":=λ_=>⟨_,hx,rfl⟩;have f1:=sub_AttributeError;have f3:=F.slot_list_getattribute.lookup;have f4:=F.slot_list_getattribute.bind #[cd];have f5:=am_list_getattr_none;unfold getAttr? getAttrBy? getAttrBy;repeat (any_goals (first|assumption|exact f _|((with_reducible show av _ _ (call (aa.builtin "list.__getattribute__") _ _) _ _ _);refine call_meets F.slot_list_getattribute (f _) am_entry_list_getattribute (F.args_list_getattribute_2 _ _) (meets_getattribute_miss_list a xs k m "keys" _ Zfu #[6] #[uv]) ⟨hx,l,λh' i e j=>?_⟩)|wp_step))
 show#[gU,t',u',he,j.there];show av _ _ (getattributeRaised _ _ _ _ _ _ _) _ _ _;unfold getattributeRaised;repeat (any_goals (first|assumption|wp_step))
 exact h _ _ _ j.of
theorem Mr:entryFor table "dict.update.loop" = U aT.«dict.update.loop»:=entryFor_of_tree (by kernel_rfl)
theorem Tj:plainId "dict.update.loop" = true:=by ac_rfl
section
variable {prog:aw} {w:aD} {A:aB} {R:Result->ai->Prop} {I:ae} {fp wr:List ae} {G:Array GenState->Array GenState->Prop} {n:Nat} {P:Nat->aa->Prop} {St:Nat->ai->Prop} {K:Type} [DecidableEq K] {knd:KeyKind prog w K}
theorem Zlc(more:List (K×aa)):∀kvs:List (K×aa),(merged kvs more).length<=kvs.length+more.length:=by
 induction more with
 | nil=>intro kvs;exact Qf _
 | cons x r a =>
  intro kvs;have h:=a #[mK];have h2:#[mK].length<=kvs.length+1:=by
   unfold stored;split
   ·rw[Qa];lia
   ·rw[Qe];exact Qf _
  show (merged #[mK] r).length<=_;rw[QA];lia
theorem Zc9(W:WalksS prog w A.in1 I fp wr G n P St)(D:ae)(F:D ∉ fp)(ks:List (K×aa))(hn:ks.length=n)(As:Nat->ae)(q:∀j,j<n->As j≠D/\As j ∉ wr)
  (O:∀i v,P i v->v=.ref (As i)) (hsz:n<=aq) :
  ∀ (k i:Nat) (z:Int) (s:ai),n-i=k->i<=n->St i s->s.heap.DictOf knd D #[k6] ->
   (∀j (f:j<n),∃g,IsTup s.heap (As j) #[g,#[py,j,f].2]/\knd.is #[py,j,f].1 g=true) ->
   (∀s',Moved (D::wr) G s s'->s'.heap.DictOf knd D (merged [] ks)->R (.ok (.ret .none)) s') ->
   bW #[s] A (.builtin "dict.update.loop" ⟨[.ref D,.ref I,rawInt z,.none],[]⟩) R s:=by
 have H:D ∉ wr:=λh=>F (W.sub _ h);have J:∀b∈wr,b∈D::wr:=λb l=>Qs _ l;intro k;induction k with
 | zero =>
  intro i z s Q S t m u x;have V:i=n:=by lia
  subst V;show#[ca];refine am (W.done s _ _ t λs' a=>?_);show av _ A.in1 (aT.Dict.addKeywords D [] >>= λ_=>ret aa.none) _ _ s';refine am (aF (aF (x s' (a.mono J) ?_)));rw[Qw #[2]]at m;obtain⟨o,y,B,c,Y4⟩:=m;exact#[qy]
 | succ k X =>
  intro i z s Q S t m u x;have d:i<n:=by lia
  show#[ca];refine am (W.item i s _ _ d t λv s' Y Z a=>?_);have ev:=O i v Y;subst ev;obtain⟨g,ht,jI⟩:=u i d;have fK:IsTup s'.heap (As i) #[g,#[py,i,d].2]:=by obtain⟨o,c,r⟩:=ht;exact⟨o,a.heap _ _ (q i d).2 c,r⟩
  have vK:s'.heap.DictOf knd D #[k6]:=by obtain⟨o,y,B,c,Y4⟩:=m;exact#[qy]
  show av _ A.in1 (holding [aa.ref (As i)] _ >>= _) _ _ s';refine am (bc ?_);obtain⟨ot,L,CL,nt,CM⟩:=id fK;refine am ?_;have vL:av #[s] A.in1 (aT.Dict.pairItems (aa.ref (As i))) (λp C=>p=[g,#[py,i,d].2]/\C=s') (λe s'=>False) s':=by unfold aT.Dict.pairItems;refine am (wpAny_typeOf (T := "tuple") ⟨ot,L,CL⟩ ?_);rw[if_pos #[6]];exact am (bB L CM (aF #[Y]))
  refine wpAny_tryCatch (aU vL #[g5,p,C,h2] λ_ _ z=>z.elim);obtain⟨rfl,rfl⟩:=h2;have vM:#[k6].length<=aq:=by have M:=Zlc (ks.take i) [];rw[Qv]at M;simp only[List.length_nil]at M;lia
  refine bc (wpAny_dictSet_pairs jI vK #[g5,N,cq,E] vM);have lY:N.DictOf knd D (merged [] (ks.take (i+1))):=by rw[merged_take_succ [] ks i _ (Qb (hn ▸ d))];exact cq
  refine aF ⟨plainId_quiet Tj _,X (i+1) (z+1) _ #[2] d (W.frame _ C _ _ Z (QZ _) λb l o e=>?_) lY (λj f=>?_) λpU ym yn=>?_⟩
  ·rw[E.2 b (λh:b=D=>F #[er,h,l])];exact e
  ·obtain⟨kj,⟨o,c,r⟩,CN⟩:=u j f;refine⟨kj,⟨o,?_,r⟩,CN⟩;have gW:=(q j f).1;show N.get? (As j)=U o;rw[E.2 _ gW];exact a.heap _ _ (q j f).2 c
  ·refine x pU (Moved.trans W.gtrans ((a.mono J).then_heap (QZ _) λb o l e=>?_) ym) yn;rw[E.2 b (λh:b=D=>l #[dp,h,Q6])];exact e
universe E
section
variable {prog:aw} {w:aD} {A:aB} {E:aa->ai->Prop} {s:ai} {K:Type} [DecidableEq K] {knd:KeyKind prog w K}
theorem ZgZ{l:ae}{items:#[sl]}{ks:List (K×aa)}{As:Nat->ae}{Q:#[G]}(u:#[iZ])(hl:PlainL s.heap l items)(hn:ks.length=items.size)(hsz:items.size<=aq)
  (J:∀ (i:Nat) (v:aa),items[i]? = U v->v=.ref (As i)) (ht:∀j (d:j<items.size),∃f,IsTup s.heap (As j) #[f,#[py,j,d].2]/\knd.is #[py,j,d].1 f=true)
  (h:∀h' tk,h'.DictOf knd s.heap.objs.size (merged [] ks)->#[gt,o,h'.get?]->Q #[aP] { s with heap:=h',toks:=tk }) :
  av #[s] A (call #[uK] [.ref l]) Q E s:=by
 refine callType_codes (Q₁:=λobj x=>obj=.ref s.heap.objs.size/\x={ s with heap:=s.heap.push { cls:=.type "dict",data:=.dict #[] } }) F.kt_called_dict (F.kt_typeCall_dict_1 _) F.entry_dict_init (kt_code_dict_new _ #[Y]) ?_;rintro obj x ⟨rfl,rfl⟩;have g:#[bD].DictOf knd s.heap.objs.size []:=aH.DictOf.new s.heap;obtain⟨p,L,y,q,M,B⟩:=hl;have C:#[p4,l]:=Qk y;have t:#[bD].get? l=U p:=Qc _ y;refine⟨g.typeIs,F.args_dict_init_2 _ _,?_⟩;unfold aT.«dict.__init__»;refine am ?_;unfold aT.Dict.selfAndRest;refine am (wpAny_notOrdered_dict g.typeIs ?_);show av _ _ (pure (s.heap.objs.size,[aa.ref l])) _ _ _;refine aF ?_;show av _ _ (aT.Dict.updateFrom "dict.__init__" s.heap.objs.size #[cT] [] .none) _ _ _;unfold aT.Dict.updateFrom;refine am (wpAny_typeOf (T := "list") ⟨p,t,q⟩ ?_);rw[if_pos #[6]];refine am (getAttr?_keys_list t q B M (by simp[u]) λa tk e N=>?_);rw[if_pos #[6]];have k:∀b o,#[bD].get? b=U o->a.get? b=U o:=λb o z=>N.keeps b o z;have D:a.IsList l items:=⟨p,k _ _ t,q,L,B⟩;refine am (wpAny_rule (am (cA D ?_)));have m:s.heap.objs.size<a.objs.size:=by obtain⟨o,G,H,c,_⟩:=g;exact Qk (k _ _ c)
 have O:l<a.objs.size:=QaU C m;have P:l≠a.objs.size:=Qx O;have R:s.heap.objs.size ∉ [a.objs.size,l]:=by simp only[List.mem_cons,List.not_mem_nil,or_false,not_or];exact⟨Qx m,QU C⟩
 refine aF ⟨plainId_quiet Tj _,?_⟩;have S:A.in1.in1.handled=af:=by simp[u]
 have k2:∀b o,s.heap.get? b=U o->(a.push { cls:=.type "list_iterator",data:=.fields #[.ref l,.int 0 0] }).get? b=U o:=λb o z=>Qc _ (k b o (Qc _ z));refine Zc9 (A:=A.in1) (knd:=knd) ((Walks.list S _ l P items).toS) s.heap.objs.size R ks hn As (λj d=>?_) J hsz (items.size-0) 0 0 _ #[2] (Qm _)
  ⟨⟨_,Qr _ rfl,rfl,rfl⟩,(D.push _)⟩ ?hS0 (λj d=>?_) ?hR
 ·obtain⟨f,⟨o,c,_⟩,_⟩:=ht j d;have:=Qk c;refine⟨Qx this,?_⟩;simp only[List.mem_cons,List.not_mem_nil,or_false];exact Qx (QaU this m)
 case hS0=>obtain⟨o,G,H,c,r⟩:=g;exact⟨o,G,H,Qc _ (k _ _ c),r⟩
 ·obtain⟨f,⟨o,c,r⟩,V⟩:=ht j d;exact⟨f,⟨o,k2 _ _ c,r⟩,V⟩
 case hR=>intro W n X;obtain⟨h',Y,Z,gH,pT⟩:=W;have eg:Y=s.gens:=n.gens;have ed:Z=s.drawn:=n.drawn;have eo:pT=s.os:=n.os;subst eg;subst ed;subst eo;refine⟨rfl,h h' gH X λb o e=>?_⟩;have I:=Qk e;exact n.heap b o (by simp only[List.mem_cons,List.not_mem_nil,or_false,not_or];exact⟨Qx I,Qx (QaU I m)⟩) (k2 b o e)
universe E
def Mq(K:#[7]):List V->Hp->VK->Prop:=λxs H Q=>X2 λ(a:ae) (b:List (ae×Key×V))=>xs=#[jW]/\SqL K H a (b.map λt=>V.ref t.1)/\(∀t∈b,H t.1=U #[uN])/\b.length<=1000 /\
 ∀D,H D=af->Q #[it] (upd H D (.dK (Wo [] #[nR])))
theorem Mp{X:Cx}{f:#[L]}{g:St}{H:Hp}{s:ai}(I:#[fd,f,g]):∀ (c:List (ae×Key×V)),(∀t∈c,H t.1=U #[uN]) ->
  ∃ks:List (Key×aa),KV #[nQ] ks/\∀ (j:Nat) (t:ae×Key×V) (b:Key×aa),c[j]? = U t->ks[j]? = U b->∃a,IsTup s.heap t.1 #[a,b.2]/\#[bf].is b.1 a=true
 | [],_=>⟨[],.nil,λj t b h _=>by simp at h⟩
 | t::c,h=>by
  obtain⟨ks,r,hk⟩:=Mp I c λx hx=>h x (Qs _ hx);obtain⟨its,i,k,_⟩:=I.tuple (SqT.of (K:=X.K) (h t #[4]));obtain⟨a,u,rfl,l,m⟩:X2 λa u=>its=[a,u]/\ZI (kV t.2.1) a/\ZI t.2.2 u:=by
   cases i with
   | cons n o =>
    cases o with
    | cons p q=>cases q;exact⟨_,_,rfl,n,p⟩
  refine⟨(t.2.1,u)::ks,.cons ⟨rfl,m⟩ r,λj x b d e=>?_⟩;cases j with
  | zero=>simp only[List.getElem?_cons_zero,Option.some.injEq]at d e;subst d;subst e;exact⟨a,k,Wz l⟩
  | succ j=>exact hk j x b #[dq,d] #[dq,e]
theorem ZkE{X:Cx}(hc:#[aD]):YU X #[uK] (Mq X.K):=by
 show#[aE];show#[o6,a,b,n,p,t];show#[es,c];obtain⟨its,d,w,_⟩:=I.list n;obtain⟨ks,e,y⟩:=Mp I b p;have h1:ks.length=b.length:=by have:=e.length;simpa using this.symm
 have f:its.length=b.length:=by have:=d.length;simpa using this.symm
 have A:∀ (i:Nat) (v:aa),its.toArray[i]? = U v->v=.ref ((b[i]?.map #[iw]).getD 0):=λi v B=>by
  have g:its[i]? = U v:=by simpa using B
  have k:i<b.length:=by rw[<- f];exact(Qd.mp g).1
  have:=d.get (i:=i) (x:=.ref b[i].1) (by rw[Qo,Qb k];rfl);obtain⟨u,l,c⟩:=this;show#[e8,g,l,l];cases c;rw[Qb k];rfl
 refine ZgZ (knd:=ZQ X.prog X.w) (ks:=ks) (As:=λi=>(b[i]?.map #[iw]).getD 0) #[ic] w #[eM,QL] (by rw[QL,f];exact QaF (ZA t)) A (λj C=>?_) λh' D hd E=>?_
 ·have m:j<b.length:=by rw[QL]at C;lia
  have:=y j b[j] (ks[j]'#[2]) (Qb m) (Qb _);rw[Qb m];exact this
 ·have F:(Wo [] #[nR]).length<=aq:=by have:=Mx #[nR] [];rw[Qa,List.length_nil]at this;exact QaF (ZA #[2])
  refine⟨.ref s.heap.objs.size,_,I.laid (a:=#[nN]) (o:=.dK (Wo [] #[nR])) (t':=D) E #[ih] ?_,rfl,q _ #[ap]⟩;exact Tn F (beq_eq_false_iff_ne.mpr λz=>Qaa _ (z ▸ I.big)) (e.merge .nil) hd
theorem Zsk{X:Cx}(K:#[7])(hc:#[aD]:=by rfl)(h:X.K=K:=by rfl):YU X #[uK] (Mq K):=by subst h;exact ZkE hc
def ZtR:R2:=λy x H Q=>X2 λa o=>x=.ref a/\Y6 H a y o/\Q (.bl o.isSome) H
def ZpT:R2:=λy x H Q=>X2 λa o=>x=.ref a/\Y6 H a y o/\Q (.bl (!o.isSome)) H
def ZtM:R2:=λx y H Q=>X2 λa v=>x=.ref a/\Y6 H a y (U v)/\Q v H
section
variable {X:Cx} {k:Nat}
theorem inG(hr:#[kW]):OpR X (aS .In) ZtR:=by intro ah s σ H x y v u Q I b c h;obtain⟨a,o,rfl,g,q⟩:=h;cases c;exact Ztp (UV hr) I g b λs3 d=>⟨.bl o.isSome,H,d,rfl,q⟩
theorem Ti(hr:#[kW]):OpR X (aS .NotIn) ZpT:=by intro ah s σ H x y v u Q I b c h;obtain⟨a,o,rfl,g,q⟩:=h;cases c;exact Zpv (UV hr) I g b λs3 d=>⟨.bl (!o.isSome),H,d,rfl,q⟩
noncomputable def Zsp:TK:=λo i v H Q=>X2 λa b=>o=.ref a/\Xm H a i v b/\Q b
theorem Wn(hr:#[kW]):RZ X Zsp:=by intro ah s σ H o i v ov iv u Q I b c d h;obtain⟨a,e,rfl,g,q⟩:=h;cases b;exact ZmR (UV hr) I g c d λs4 f=>⟨e,f,q⟩
theorem Mo{prog:aw}{w:aD}{A:aB}{E:#[G]}{s:ai}{value a:aI}{o i:aa}{T id:String}{Q:#[G]}(c:s.TypeIs o T)
  (hl:typeLookup (.type T) "__getitem__" = pure (U #[ep,id])) (hs:subscripted a false o i=operate [o,i] (getItem o i)) (h:av #[s] A (getItem o i) Q E s) :
  av #[s] A (subscriptTail value a o i) Q E s:=by
 unfold subscriptTail;refine am ?_;rw[getitemInPython_of_ne c.not_modules];refine am (wpAny_specialOf c hl ?_);have b:av #[s] A (subscripted a false o i) (λr d=>av #[s] A (letTemporaryGo value o r >>= λ_=>pure r) Q E d) E s:=by rw[hs];exact wpAny_operating (aU h (λr d e=>am (wpAny_letTemporaryGo (aF e))) λ_ _ x=>x)
 first
  | exact aF (am b)
  | exact am (aF (am b))
  | exact am b
theorem ixG(hr:#[kW]):IxR X ZtM:=by intro value e9 ah s σ H x y v u Q I b c h d;obtain⟨a,z,rfl,g,q⟩:=h;cases b;exact Mo (Zj4 I g) PySem.F.slot_dict_getitem.lookup d (Zl3 (UV hr) I g c λw' s' e f=>⟨z,H,e,f,q⟩)
theorem Th:YU X #[m2] #[hp]:=Zmv
theorem Mn(hc:#[aD]:=by rfl):YU X #[cp] Mv:=Zk8 hc
universe E
mutual
inductive DH (H:Hp):V->aJ->Prop where
 | non:DH H .non .none
 | bl (b:Bool):DH H (.bl b) (.bool b)
 | int (i:Int):DH H (.int i) (.int i)
 | str (s:ak):DH H (.str s) (.str s)
 | lst {a:ae} {xs:List V} {ds:List aJ}:H a=U (.lst xs)->DHs H xs ds->DH H (.ref a) (.list ds)
 | tup {a:ae} {xs:List V} {ds:List aJ}:H a=U (.tup xs)->DHs H xs ds->DH H (.ref a) (.tuple ds)
inductive DHs (H:Hp):List V->List aJ->Prop where
 | nil:DHs H [] []
 | cons {x:V} {d:aJ} {xs:List V} {ds:List aJ}:DH H x d->DHs H xs ds->DHs H (x::xs) (d::ds)
end
mutual
theorem DH.mono{H a:Hp}(s:ZG H a):∀ {x:V} {d:aJ},DH H x d->DH a x d
 | _,_,.non=>.non
 | _,_,.bl b=>.bl b
 | _,_,.int i=>.int i
 | _,_,.str z=>.str z
 | _,_,.lst h hs=>.lst (s _ _ h) #[tn]
 | _,_,.tup h hs=>.tup (s _ _ h) #[tn]
theorem DHs.mono{H a:Hp}(s:ZG H a):∀ {xs:List V} {ds:List aJ},DHs H xs ds->DHs a xs ds
 | _,_,.nil=>.nil
 | _,_,.cons h hs=>.cons (DH.mono s h) #[tn]
end
mutual
theorem DH.dv{K:#[7]}{H:Hp}:∀ {x:V} {d:aJ},DH H x d->DV K H x d
 | _,_,.non=>.non
 | _,_,.bl b=>.bl b
 | _,_,.int i=>.int i
 | _,_,.str z=>.str z
 | _,_,.lst h hs=>.lst (SqL.of h) (DHs.dv hs)
 | _,_,.tup h hs=>.tup (SqT.of h) (DHs.dv hs)
theorem DHs.dv{K:#[7]}{H:Hp}:∀ {xs:List V} {ds:List aJ},DHs H xs ds->DVs K H xs ds
 | _,_,.nil=>.nil
 | _,_,.cons h hs=>.cons (DH.dv h) (DHs.dv hs)
end
theorem Mm:∀ (more a:List (Key×V)),((a++more).map #[iw]).Nodup->Wo a more=a++more
 | [],a,_=>by show a=_;rw[Qad]
 | x::r,a,h=>by
  have hx:Y1 a x.1=af:=by
   cases b:Y1 a x.1 with
   | none=>rfl
   | some v=>have:=Zpo b;rw[Qg,Qn]at h;have:=(List.nodup_append.mp h).2.2 x.1 this x.1 #[4];exact absurd rfl this
  show Wo (YJ a x.1 x.2) r=_;rw[Vo _ hx,Mm r (a++[x]) #[dp,List.append_assoc,h],List.append_assoc];rfl
theorem UN{kvs:#[43]}{k:Key}{v:V}(h:Y1 kvs k=U v):(k,v)∈kvs:=by
 unfold Y1 at h;obtain⟨p,a,rfl⟩:=QaV.mp h;have b:=#[qP];have c:=Qan a;have:p.1=k:=by simpa using b
 rw[<- this];exact c
theorem Tg{kvs:#[43]}(hn:(kvs.map #[iw]).Nodup){k:Key}{v:V}(h:(k,v)∈kvs):Y1 kvs k=U v:=by
 induction kvs with
 | nil=>cases h
 | cons p r a =>
  obtain⟨b,c⟩:=Q2.mp (by simpa using hn:(p.1::r.map #[iw]).Nodup);rcases QJ.mp h with rfl|h
  ·exact UQ rfl
  ·rw[UP λe=>b (e ▸ Qj (f:=#[iw]) h)];exact a c h
universe E.L2
namespace L2
open PySem PySem.Spec PyProof.Rows
theorem Y6.fz{H:Hp}{a:ae}{o:aM}{kvs:#[43]}{k:Key}{r:Option V}(e:H a=U #[21])(h:Y1 kvs k=r):Y6 H a (kV k) r:=.inl ⟨kvs,k,.inr ⟨o,e⟩,rfl,h.symm⟩
theorem Zqk{d:ae}{o:aM}{kvs:#[43]}{k:Nat}{D:ae}{a:L2.St}{f:Hp}{g:TG}{h:TT}{j:TE}{Q:VK}(Pv:#[uX])(s:#[fm,f])
  (hl:#[bx])
  (hs:∀i k x ys a H,kvs[i]? = U (k,x)->Pv i ys a H->g (kV k) a H λc t=>h c t λb l=>if b=true then j c l λy n=>n D=U #[mb]/\ys.length<aq/\Pv (i+1) (ys++[y]) c #[f1,n] else Pv (i+1) ys c l)
  (hd:#[av]):VZ (Itk d o kvs) D k a f g h j Q:=by
 show#[72];by_cases r:i<kvs.length
 ·show#[cj];obtain⟨rfl,k',w,e,rfl⟩:=y;exact hs i k' w ys a _ e p
 ·have e:#[se]:=by lia
  show#[ar]
theorem ZpW{d:ae}{o:aM}{kvs:#[43]}{k:Nat}{D:ae}{a:L2.St}{f:Hp}{g:TG}{h:TT}{j:TE}{Q:VK}(Pv:#[uX])(s:#[fm,f])
  (hl:#[bx])
  (hs:∀i k x ys a H,kvs[i]? = U (k,x)->Pv i ys a H->g x a H λc t=>h c t λb l=>if b=true then j c l λy n=>n D=U #[mb]/\ys.length<aq/\Pv (i+1) (ys++[y]) c #[f1,n] else Pv (i+1) ys c l)
  (hd:#[av]):VZ (Itv d o kvs) D k a f g h j Q:=by
 show#[72];by_cases r:i<kvs.length
 ·show#[cj];obtain⟨rfl,k',e⟩:=y;exact hs i k' x ys a _ e p
 ·have e:#[se]:=by lia
  show#[ar]
theorem ZpJ{d:ae}{o:aM}{kvs:#[43]}{k:Nat}{D:ae}{a:L2.St}{f:Hp}{g:TG}{h:TT}{j:TE}{Q:VK}(Pv:#[uX])(t:#[fm,f])
  (hl:#[bx])
  (hs:∀i k x ys a H p,kvs[i]? = U (k,x)->Pv i ys a H->H p=af->g #[ir] a #[s0] λc u=>h c u λb l=>if b=true then j c l λy n=>n D=U #[mb]/\ys.length<aq/\Pv (i+1) (ys++[y]) c #[f1,n] else Pv (i+1) ys c l)
  (hd:#[av]):VZ (Iti d o kvs) D k a f g h j Q:=by
 show#[71];by_cases s:i<kvs.length
 ·refine .inr ⟨⟨q,s⟩,Pv (i+1),λiC aQ v w=>⟨kvs.length-(i+1),by lia,rfl,s,w⟩,λx v y=>?_⟩;obtain⟨r,k',z,A,rfl,e,rfl⟩:=y;exact hs i k' z ys a H r e p A
 ·have e:#[se]:=by lia
  show#[ar]
noncomputable def off(p:ae)(H:Hp):Hp:=λb=>if b=p then af else H b
theorem VX{p b:ae}{H:Hp}{o:HO}(h:H b=U o)(n:b≠p):off p H b=U o:=by unfold off;rw[if_neg n];exact h
theorem Zr8{p:ae}{H:Hp}:ZG (off p H) H:=λb o h=>by
 unfold off at h;split at h
 ·cases h
 ·exact h
theorem Znj{p l:ae}{H:Hp}(h:H l=af):off p H l=af:=by unfold off;split;rfl;exact h
def Ztm:V->List V->Hp->VK->Prop:=λx vs H Q=>X4 λa kvs k v=>x=.ref a/\vs=[kV k]/\H a=U #[de]/\Y1 kvs k=U v/\Q v #[so]
theorem Rv{X:Cx}:MtM X "dict.pop" Ztm:=by intro ah s σ H x vs v us Q I b c h;obtain⟨a,kvs,k,y,rfl,rfl,d,e,q⟩:=h;cases b;obtain⟨u,rfl,f⟩:=c.one;exact Zsh I d f e #[8] λw' s' g i=>⟨y,_,g,i,q⟩
theorem XQ{X:Cx}{s:aL}:PS X s #[lP]:=λah s' σ H D I h=>h.elim
theorem Zrv{X:Cx}{k:Nat}{o e:aI}{b ty:TE}{c a:Pos}(hr:#[kW])(f:PE X o b)(he:PE X e ty)(hb:#[ew,o,"get"]:=by rfl)
  (g:(c.endLine == a.line)=true:=by rfl) (d:bb a #[uz]=[#[eb,e]]:=by rfl):PE X (.Call #[vl,"get",c] [e] [] a) (Mw b ty):=by
 refine ZoC (UV hr) f he ⟨hb,?_,g,d⟩;rw[d];rfl
section
variable {X:Cx}
theorem Wm{x:ak}{n:Int}{pos:Pos}(hm:∃tk,X.mg x=U (.int n tk))(a:#[rO]:=by rfl)(hd:#[j]:=by decide):PE X #[a4] (tC #[sF]):=by obtain⟨tk,h⟩:=hm;exact NT a h ⟨tk,rfl⟩ hd
universe E
def ZtW(t u:TS):TS:=λD c H=>∃M:St->Hp->Prop,t { D with nx:=M } c H/\∀a b,M a b->u D a b
theorem ZqD{X:Cx}{st:aL}{Y4:#[kY]}{t u:TS}(h1:PS X st t)(h2:PSs X Y4 u):PSs X (st::Y4) (ZtW t u):=by
 show#[dU,a,d,D];show#[gU,M,h,e,h];refine wpAny_execs_cons (thn (h1 a s d H { D with nx:=M } I h) λf g q=>?_);cases f with
 | next=>obtain⟨b,c,i,q⟩:=q;exact h2 a g b c D i (e b c q)
 | ret v=>exact q
 | brk=>exact q
 | cont=>exact q
theorem ZpF{d:ae}{o:aM}{kvs:#[43]}{k:Nat}{D:ae}{a:L2.St}{f:Hp}{g:TG}{h:TT}{tk j:TE}{Q:VK}(Pv:Nat->List #[q8]->L2.St->Hp->Prop)(t:Pv 0 [] #[bs] (upd f D #[lT]))
  (hl:#[bx])
  (hs:∀i k x ys a H p,kvs[i]? = U (k,x)->Pv i ys a H->H p=af->g #[ir] a #[s0] λc u=>h c u λb l=>if b=true then tk c l λv w=>j c w λy n=>∃k:Key,v=kV k/\n D=U (.dK ys)/\ys.length<aq/\Pv (i+1) (YJ ys k y) c (upd n D (.dK (YJ ys k y))) else Pv (i+1) ys c l)
  (hd:#[av]):Mt (Iti d o kvs) D k a f g h tk j Q:=by
 show#[71];by_cases s:i<kvs.length
 ·refine .inr ⟨⟨q,s⟩,Pv (i+1),λiC aQ z A=>⟨kvs.length-(i+1),by lia,rfl,s,A⟩,λx z y=>?_⟩;obtain⟨r,k',B,C,rfl,e,rfl⟩:=y;exact hs i k' B ys a H r e p C
 ·have e:#[se]:=by lia
  show#[ar]
noncomputable def apart:List Int->Bool
 | []=>true
 | x::r=>r.all (λy=>x != y)&&apart r
structure CompScC (N N':#[T]) (o c:be):Prop where
 kind:c.kind=.function
 okind:o.kind=.function
 cel:∀y∈c.names,y.2=.cell->c.names.lookup y.1=U .cell
 loc:∀y∈c.names,y.2=.local->c.names.lookup y.1=U .local
 free:∀y∈c.names,y.2=.free->c.names.lookup y.1=U .free/\#[tO]
 len:N.length<=N'.length
 same:∀i∈List.range N.length,∀x∈N'[i]?,c.names.lookup x=U .local\/c.names.lookup x=U .free\/c.names.lookup x=U .cell->c.names.lookup x=U .free/\N[i]? = U x
 nd:N'.Nodup
universe E.L2
namespace L2
open PySem PySem.Spec PyProof.Rows
def Has(b:#[an])(p:Keyed):Prop:=∃a,b.keyOf p.1=U a
noncomputable def kyd(a:#[an])(p:Keyed):a.α:=(a.keyOf p.1).getD a.dflt
section
variable {κ:PyProof.Rows.KeyKind}
def kS(κ:#[an])(l:#[sU]):Prop:=l.Pairwise λp q=>κ.kle (kyd κ p) (kyd κ q)
def kLe(κ:#[an])(l m:#[sU]):Prop:=∀x∈l,∀y∈m,κ.kle (kyd κ x) (kyd κ y)
structure Mg (κ:#[an]) (all dU l m:#[sU]):Prop where
 perm:(dU++(l++m)).Perm all
 so:kS κ dU
 sl:kS κ l
 sm:kS κ m
 ol:kLe κ dU l
 om:kLe κ dU m
structure Mh (κ:#[an]) (all l m dU:#[sU]):Prop where
 perm:((l++m)++dU).Perm all
 so:kS κ dU
 sl:kS κ l
 sm:kS κ m
 lo:kLe κ l dU
 mo:kLe κ m dU
structure LoPre (κ:#[an]) (a b:#[qU]):Prop where
 ha:∀p∈a.toList,Has κ p
 hb:∀p∈b.toList,Has κ p
 sa:kS κ a.toList
 sb:kS κ b.toList
 a0:0<a.size
 b0:0<b.size
 fst:∀i,i<a.size->κ.kle (KK κ b 0) (KK κ a i)
 lst:∀i,i<b.size->κ.kle (KK κ b i) (KK κ a (a.size-1))
def Lo(κ:#[an])(a b c:#[qU])(d e:Nat):Prop:=Mg κ (a.toList++b.toList) c.toList (a.toList.drop d) (b.toList.drop e)
variable {a b dU:Array Keyed} {ia ib:Nat}
variable {na nb:Nat}
universe E
noncomputable def Ml:Nat->List (List Keyed)->List (Nat×Nat)
 | _,[]=>[]
 | o,r::a=>(o,r.length)::Ml (o+r.length) a
noncomputable def ZtH(p:Nat×Nat×Nat):Nat×Nat:=(p.1,p.2.1)
section
variable {prog:aw} {w:aD} {A:aB} {E:aa->ai->Prop} {s:ai} {κ:PyProof.Rows.KeyKind} {k0:SortKind} {st:SortSt} {gP:Array Keyed}
structure Rn (κ:#[an]) (k0:SortKind) (gP:#[qU]) (st:SortSt) (rs:List (List Keyed)) (Y4:#[sU]):Prop where
 kind:kindOf st=k0
 failed:failedOf st=af
 arr:#[s8].toList=rs.flatten++Y4
 perm:#[s8].Perm gP
 srt:∀r∈rs,kS κ r
 ne:∀r∈rs,r≠[]
 pend:(pendingOf st).toList.map ZtH=Ml 0 rs
universe E
section
variable {prog:aw} {w:aD} {A:aB} {E:aa->ai->Prop} {s:ai} {κ:PyProof.Rows.KeyKind} {k0:SortKind} {st sN:SortSt} {gP:Array Keyed} {α:Type} {lo:Nat}
structure Ph (k0:SortKind) (gP:#[qU]) (lo:Nat) (sN st:SortSt):Prop where
 kind:kindOf st=k0
 failed:failedOf st=af
 pend:pendingOf st=pendingOf sN
 perm:#[s8].Perm gP
 pre:∀k,k<lo->#[s8][k]? = (arrOf sN)[k]?
universe E
universe E.L2
set_option maxHeartbeats 4000000
namespace L2
open PySem PySem.Spec PyProof.Rows
variable {X:Cx}
universe E.L2
set_option maxHeartbeats 4000000
namespace L2
open PySem PySem.Spec PyProof.Rows
@[reducible] def intKd:PyProof.Rows.KeyKind where
 α:=Int
 blt a b:=decide (a<b)
 irrefl a:=by simp
 trans a b c h1 h2:=by simp only[decide_eq_true_eq]at *;lia
 negTrans a b c h:=by
  simp only[decide_eq_true_eq]at *
  lia
 total a b h1 h2:=by simp only[decide_eq_false_iff_not]at *;lia
 keyOf v:=match v with|.int x _=>U x|_=>af
 dflt:=0
def rSrtIA(K:#[7]):List V->Hp->VK->Prop:=λxs H Q=>X2 λ(p:ae) (ns:List Int)=>xs=#[js]/\SqL K H p #[U]/\∀ (l:ae) (a:List Int),H l=af->a.Perm ns->a.Pairwise (·<=·)->Q #[cT] (upd H l (.lst (a.map V.int)))
universe E.L2
set_option maxHeartbeats 4000000
namespace L2
open PySem PySem.Spec PyProof.Rows
noncomputable def txt:aa->ak
 | .str x _=>x
 | _ => ""
section
variable {prog:aw} {w:aD} {A:aB} {E:aa->ai->Prop} {s:ai}
def ZsF(w:aD)(a:#[sW]):Prop:=∀e∈a.toList,X2 λx u=>e.2=.str x u/\e.1=NW w (.inr x)
noncomputable def Mj(a:#[sW]):List ak:=a.toList.map λe=>txt e.2
structure SetAt (w:aD) (L:Bool) (T:ak->Prop) (o:aM) (es:#[sW]) (ep:Nat) (t:SetTable):Prop where
 ex:o.ExactSet
 da:o.data=.set es ep t
 el:ZsF w es
 nd:(Mj es).Nodup
 me:∀x,T x↔x∈Mj es
 sz:es.size<scanBound
 ft:t.fits es.size=true
 ld:t.led=L
 pl:es.size≠0->t.plain=false
universe E
universe E.L2
set_option maxHeartbeats 4000000
namespace L2
open PySem PySem.Spec PyProof.Rows
universe E.L2
namespace L2
open PySem PyProof.Rows
section
variable {X:Cx} {xe:aa->ai->Prop}
theorem PSs.wish{st:#[kY]}{t:TS}(h:PSs (X.wish xe) st t)(hx:∀e s,xe e s->X.xe e s):PSs X st t:=λa s b H D I hw=>aU (h a s b H D (I.wish _) hw) (λ_ _ q=>q.unwish) hx
universe E
def Ru(a:#[j7])(e:ae)(h h':aH):Prop:=(∀b o,h.get? b=U o->b≠e->b ∉ a->h'.get? b=U o)/\∀b o,h.get? b=U o->b≠e->∃sl,h'.get? b=U { o with slots:=sl }
def Xy(B:aH)(a:#[j7])(h:aH):Prop:=(∀b o,B.get? b=U o->b ∉ a->h.get? b=U o)/\∀b o,B.get? b=U o->∃sl,h.get? b=U { o with slots:=sl }
theorem Xy.keep{B:aH}{d:#[j7]}{e:ae}{h h':aH}(a:Xy B d h)(he:B.get? e=af)(k:Ru d e h h'):Xy B d h' :=
 ⟨λb o c n=>k.1 b o (a.1 b o c n) (λz=>by rw[z,he]at c;cases c) n,λb o c=>by obtain⟨sl,f⟩:=a.2 b o c;obtain⟨g,i⟩:=k.2 b _ f (λz=>by rw[z,he]at c;cases c);exact⟨g,i⟩⟩
structure Yy (NB:#[sg]) (h:aH) (e:ae) (cls:aa) (dd:#[ay]) (fl:aa):Prop where
 ex:X5 λoe vs T oT ts=>h.get? e=U oe/\oe.cls=cls/\oe.dict=dd/\oe.data=.fields vs/\vs[1]? = U (.ref T)/\T≠e/\h.get? T=U oT/\oT.data=.fields ts/\ts[3]? = U fl/\NB T
structure UM (h:aH) (e:ae) (cls:aa) (dd:#[ay]):Prop where
 ex:X2 λoe vs=>h.get? e=U oe/\oe.cls=cls/\oe.dict=dd/\oe.data=.fields vs/\vs[1]? = U .none
section
variable {M:Model} {A:aB} {E:aa->ai->Prop} {s:ai} {env:Env} {outer:List Env} {base:aH} {L e:ae} {cls:aa} {dd:Option ae} {Q:Unit->ai->Prop}
theorem Zg7(o:aM)(f:Array aa->Array aa):(aM.mapFields f o).dict=o.dict:=by unfold aM.mapFields;split<;>rfl
theorem Mi{d:aM}{vs:#[sl]}{m:aa}{v:Bool}(w:#[c6])(hl:#[h4])(x:#[j2])
  (he:s.heap.get? e=U d) (hd:d.data=.fields vs) (hsz:1<vs.size) (y:#[hk])
  (h:∀h',Ru #[26] e s.heap h'->(∀NB:ae->Prop,(∀T,s.heap.objs.size<=T->NB T)->Yy NB h' e d.cls d.dict (rawInt L))->Q () { s with heap:=h' }) :
  av M A (do let a <- frameOf env;let g <- entryPlaceOf L v;let b <- EntryCells.newEntry m a .none (rawInt L) .none g;setField #[bA] 1 b) Q E s:=by
 refine am (wpAny_frameOf_fun w hl x λc i=>?_);refine am (wpAny_entryPlaceOf λg n=>?_);unfold EntryCells.newEntry newFields;refine am (bD ?_ (n.sizeOk5 _ _ _ _ _));have p:c.get? e=U d:=(i.2.1 e y).trans he;have q:c.objs.size≠e:=QU (Qk p);generalize r:({ cls:=.type "traceback",dict:=af,data:=.fields ([m,.ref L,.none,rawInt L,.none]++(if g.isEmpty then List.replicate 6 aa.none else g)).toArray }:aM)=j;have t:(c.push j).get? e=U d:=Qc _ p;have u:=aM.data_mapFields hd #[c7];have z:=QX (aM.mapFields #[c7]) t (aM.isFreed_of_fields u);have k:∀b,b≠e->((c.push j).update e (aM.mapFields #[c7])).get? b=(c.push j).get? b:=#[pE,f];refine wpAny_setField t hd hsz (h _ ⟨λb o f l C=>?_,λb o f l=>?_⟩ (λB D=>⟨_,_,c.objs.size,j,_,z,aM.cls_mapFields _ _,Zg7 _ _,u,by simp[hsz],q,(k _ q).trans (Qr c (by rw[<- r];rfl)),by rw[<- r],?_,?_⟩))
 ·rw[k b l];exact Qc _ ((i.2.1 b C).trans f)
 ·obtain⟨F,G⟩:=i.2.2 b o f;exact⟨F,by rw[k b l];exact Qc _ G⟩
 ·first|(simp;done)|(rcases n with rfl|⟨_,_,_,_,_,_,_,rfl⟩<;>simp)
 ·exact D _ (Nat.le_of_eq i.1.symm)
theorem Zo3{NB:#[sg]}(f:#[qe])(g:#[c6])(hl:#[h4])(b:#[j2])(hx:UM s.heap e cls dd)
  (h:∀h',Ru #[26] e s.heap h'->Yy NB h' e cls dd (rawInt L)->Q () { s with heap:=h' }):av M A #[i9] Q E s:=by
 obtain⟨oe,i,a,rfl,rfl,hd,c⟩:=hx.ex;have j:#[hk]:=λl=>by obtain⟨_,o,d,m⟩:=hl.mem l;show#[e8,a,d,d];exact m i hd
 unfold noteFrame;simp only[b];refine am (aZ a hd c ?_);rw[if_neg #[6]];exact Mi g hl b a hd (Qaj.mp c).1 j λh' k x=>h h' k (x NB f)
theorem Zqb{B:aH}{NB:#[sg]}(C:#[qe])(hB:∀T,NB T->B.get? T=af)(D:#[c6])(hl:#[h4])(n:#[j2])(hn:B.get? e=af)(p:Xy B #[26] s.heap)(hx:Yy NB s.heap e cls dd .none)
  (h:#[a5]):av M A #[i9] Q E s:=by
 obtain⟨oe,g,T,oT,F,i,rfl,rfl,hd,q,r,d,j,t,G⟩:=hx.ex;have H:=hB T G;have I:#[hk]:=λJ=>by obtain⟨_,o,u,c⟩:=hl.mem J;show#[e8,i,u,u];exact c g hd
 unfold noteFrame;simp only[n];refine am (aZ i hd q ?_);rw[if_pos #[cl]];refine am (aZ d j t ?_);rw[if_neg (show ¬ ((aa.none == rawInt L)=true) from by simp[rawInt])];refine am (wpAny_setField d j (Qaj.mp t).1 ?_);have f:∀b,b≠T->#[aG].get? b=s.heap.get? b:=#[pE,a];have v:#[sb]:=λb o a z=>by rw[z,H]at a;cases a
 have K:Xy B #[26] #[aG]:=⟨λb o a m=>(f b (v b o a)).trans (p.1 b o a m),λb o a=>by obtain⟨w,l⟩:=p.2 b o a;exact⟨w,(f b (v b o a)).trans l⟩⟩;have N:#[iv]:=λb o a c z=>by rw[z,d]at a;cases a;exact c F j
 have y:#[aG].FunFrames base (env::outer):=hl.of_keeps λb o a c=>⟨o,(f b (N b o a c)).trans a,rfl⟩;refine Mi (s:={ s with heap:=s.heap.update T (aM.mapFields (·.setIfInBounds 3 aa.none)) }) D y n ((f e (Ne.symm r)).trans i) hd (Qaj.mp q).1 I λh' k x=>h h' (K.keep hn k) ?_ (x NB λT d=>C T (by rw[aH.size_update]at d;exact d));exact y.of_keeps λb o a c=>by obtain⟨w,l⟩:=k.2 b o a (λz=>by rw[z]at a;rw[(f e (Ne.symm r)).trans i]at a;cases a;exact c g hd);exact⟨_,l,rfl⟩
theorem Zk7{NB:#[sg]}(a:#[j2])(hx:Yy NB s.heap e cls dd (rawInt L))(h:Q () s):av M A #[i9] Q E s:=by obtain⟨oe,vs,T,oT,ts,b,rfl,rfl,hd,c,oY,d,f,g,sQ⟩:=hx.ex;unfold noteFrame;simp only[a];refine am (aZ b hd c ?_);rw[if_pos #[cl]];refine am (aZ d f g ?_);rw[if_pos (show (rawInt L == rawInt L)=true from by simp)];exact aF h
theorem UL{B:aH}{NB:#[sg]}(hB:∀T,NB T->B.get? T=af){k:#[j7]}{x:aa}{F:#[ay]}{l:#[mE]}(hl:s.heap.FunFrames base l)(n:Xy B k s.heap)(hx:Yy NB s.heap e cls dd x)
  (h:∀h',Xy B k h'->h'.FunFrames base l->Yy NB h' e cls dd (F.elim .none λf=>rawInt f)->Q () { s with heap:=h' }):av M A (setFlight #[bA] F) Q E s:=by
 obtain⟨y,g,T,oT,p,q,rfl,rfl,hd,r,t,i,c,C,u⟩:=hx.ex;have D:=hB T u;have v:3<p.size:=(Qaj.mp C).1;have d:∀b,b≠T->(s.heap.update T (aM.mapFields (·.setIfInBounds 3 (F.elim aa.none λf=>rawInt f)))).get? b=s.heap.get? b:=#[pE,a];have w:#[sb]:=λb o a z=>by rw[z,D]at a;cases a
 have G:#[iv]:=λb o a j z=>by rw[z,i]at a;cases a;exact j p c
 unfold setFlight;refine am (aZ q hd r ?_);rw[if_pos #[cl]];refine wpAny_setField i c v (h _ ⟨λb o a m=>(d b (w b o a)).trans (n.1 b o a m),λb o a=>?_⟩ (hl.of_keeps λb o a j=>⟨o,(d b (G b o a j)).trans a,rfl⟩) ⟨y,g,T,_,_,(d e (Ne.symm t)).trans q,rfl,rfl,hd,r,t,QX _ i (aM.isFreed_of_fields (aM.data_mapFields c _)),aM.data_mapFields c _,by simp[v],u⟩);obtain⟨H,I⟩:=n.2 b o a;exact⟨H,(d b (w b o a)).trans I⟩
universe E
structure UK (B base:aH) (NB:#[sg]) (env:Env) (outer:#[mE]) (L e:ae) (cls:aa) (dd:#[ay]) (h:aH):Prop where
 st:Xy B #[26] h
 fun_:h.FunFrames base (env::outer)
 new:B.get? e=af
 nb:∀T,h.objs.size<=T->NB T
 hB:∀T,NB T->B.get? T=af
 ex:UM h e cls dd\/Yy NB h e cls dd .none\/Yy NB h e cls dd (rawInt L)
section
variable {M:Model} {A:aB} {E:aa->ai->Prop} {s:ai} {env:Env} {outer:List Env} {B base:aH} {NB:ae->Prop} {L e:ae} {cls:aa} {dd:Option ae} {Q:Unit->ai->Prop}
theorem UK.noted(hx:#[lp])(d:#[c6])(a:#[j2])
  (h:#[a5]):av M A #[i9] Q E s:=by
 rcases hx.ex with x|x|x
 ·refine Zo3 hx.nb d hx.fun_ a x λh' k f=>h h' (hx.st.keep hx.new k) ?_ f;obtain⟨oe,g,i,_,_,hd,_⟩:=x.ex;refine hx.fun_.of_keeps λb o c j=>?_;obtain⟨sl,l⟩:=k.2 b o c (λz=>by rw[z,i]at c;cases c;exact j g hd);exact⟨_,l,rfl⟩
 ·exact Zqb hx.nb hx.hB d hx.fun_ a hx.new hx.st x h
 ·exact Zk7 a x (h s.heap hx.st hx.fun_ x)
theorem UK.leaves(hx:#[lp])(d:#[c6])(f:#[j2])
  (h:∀h',Xy B #[26] h'->h'.FunFrames base (env::outer)->Yy NB h' e cls dd .none->Q () { s with heap:=h' }):av M A (leaving env #[bA]) Q E s:=by
 unfold leaving;refine am (hx.noted d f λg a b c=>?_);exact UL hx.hB (s:=#[gx,s,g]) (F:=af) b a c h
universe E
open PySem.W (hideAll hideAll_none hideAll_get hideAll_size of_hideAll)
def NB(lo:Nat)(H:Hp)(ps:#[j7])(T:ae):Prop:=lo<=T/\H T=af/\T ∉ ps
def CX1(P:aw)(w:aD):CXT:=λouter H s E c s'=>X4 λ(e:ae) (cls:aa) (b:Option ae) (a:Hp)=>c=.ref e/\s.heap.objs.size<=e/\a e=af/\Yy (NB s.heap.objs.size a []) s'.heap e cls b .none /\
 s'.os=s.os/\AllBare s'.gens/\Un (frs outer) [] H a s.heap s'.heap/\HOk P w a s'.heap/\E cls b a
def XE(X:Cx)(E:St->XK):aa->ai->Prop:=λg s'=>X6 λ(e:ae) (cls:aa) (b:Option ae) (d:List (ae×aM)) (f:St) (a:Hp)=>g=.ref e/\X.s₀.heap.objs.size<=e/\e≠X.env.locals/\#[fl,c,e]/\a e=af/\Inv X d f a s'/\(∀p∈X.pn++d,p.1≠e) /\
 (UM s'.heap e cls b\/Yy #[jY] s'.heap e cls b .none\/Yy #[jY] s'.heap e cls b #[l4])/\E f cls b a
section
variable {X:Cx} {ah:List (ae×aM)} {σ:St} {H:Hp} {s s':ai} {E:St->XK}
theorem Inv.refused(I:#[k]){r:aa}(h:CX1 X.prog X.w X.stack H s (E σ) r s'):XE X E r s':=by
 obtain⟨e,cls,y,u,rfl,w,A,B,os,f,un,j,q⟩:=h;have i:#[lF]:=I.sz;have C:Inv X ah σ u s':=by obtain⟨D,g,d,t,F⟩:=s';obtain rfl:F=s.os:=os;exact I.call (h':=D) (g':=g) (d':=d) (t':=t) (ch:=[]) un j f (λb z=>absurd z #[4])
 have k:∀a o,s.heap.get? a=U o->a≠e:=λa o G z=>by have:=Qk G;show#[f2,z,w]
 refine⟨e,cls,y,ah,σ,u,rfl,Qi i w,λz=>?_,λx c J z=>?_,A,C,λp l z=>?_,.inr (.inl ?_),q⟩
 ·show#[g1,n,I.loc,k]
 ·obtain⟨v,o,n,_⟩:=I.cell x c J;exact k _ _ n z
 ·exact k _ _ (I.pin p l).1 z
 ·obtain⟨K,L,T,M,N,a1,a2,a3,a4,a5,a6,a7,a8,a9,a10⟩:=B.ex;refine⟨K,L,T,M,N,a1,a2,a3,a4,a5,a6,a7,a8,a9,Qi i a10.1,a10.2.1,λO=>?_⟩;show#[vx,p,l,P,Qq.mp,O];have:=Qk (I.pin p l).1;show#[f2,P,a10.1]
theorem Inv.fly{e:ae}{cls:aa}{g:#[ay]}(I:#[k])(t:#[bJ])(he:X.s₀.heap.objs.size<=e)(J:e≠X.env.locals)(K:∀x c,X.env.cells.lookup x=U c->c≠e)(hn:H e=af)(L:∀p∈X.pn++ah,p.1≠e)
  (hx:UM s.heap e cls g\/Yy #[na] s.heap e cls g .none\/Yy #[na] s.heap e cls g #[l4]) :
  X2 λ(B:aH) (M:ae->Prop)=>UK B X.base M X.env X.outer X.env.locals e cls g s.heap/\(∀T,M T->NB X.s₀.heap.objs.size H #[aR] T)/\∀h',Xy B ((X.env::X.outer).filterMap (·.frame)) h'->Inv X ah σ H { s with heap:=h' }:=by
 have w:#[lF]:=I.sz;obtain⟨ch,A,N⟩:∃ch:List ae,(e∈ch/\∀T∈ch,T=e\/(NB X.s₀.heap.objs.size H ((X.pn++ah).map (·.1)) T/\X2 λo h=>s.heap.get? T=U o/\o.data=.fields h)) /\
   (UM s.heap e cls g\/Yy #[hq] s.heap e cls g .none\/Yy #[hq] s.heap e cls g #[l4]):=by
  rcases hx with x|x|x
  ·exact⟨[e],⟨List.mem_singleton.mpr rfl,λT d=>.inl (Qh.mp d)⟩,.inl x⟩
  ·show#[jO];refine⟨[e,T],#[tU],.inr (.inl #[hI])⟩;show#[45];rcases d with z|z
   ·exact .inl z
   ·show#[sO]
  ·show#[jO];refine⟨[e,T],#[tU],.inr (.inr #[hI])⟩;show#[45];rcases d with z|z
   ·exact .inl z
   ·show#[sO]
 have P:∀T∈ch,H T=af:=λT d=>by
  rcases A.2 T d with z|z
  ·rw[z];exact hn
  ·exact z.1.2.1
 have big:∀T,s.heap.objs.size<=T->NB X.s₀.heap.objs.size H #[aR] T:=λT d=>by refine⟨Qi w d,I.hok.fresh d,λk=>?_⟩;show#[vx,p,D,E,Qq.mp,k];have:=Qk (I.pin p D).1;show#[f2,E,d]
 refine⟨hideAll s.heap ch,λT=>NB X.s₀.heap.objs.size H #[aR] T/\(hideAll s.heap ch).get? T=af,⟨⟨λb o f _=>of_hideAll _ f,λb o f=>⟨o.slots,of_hideAll _ f⟩⟩,?_,hideAll_none _ A.1,λT d=>⟨big T d,aH.get?_none_of_le #[dp,hideAll_size,d]⟩,λT d=>d.2,N⟩,λT d=>d.1,λh' r=>?_⟩
 ·rw[<- t.1];exact I.stack
 ·refine I.call' (s':=#[gx,s,h']) (ch:=ch) rfl ⟨λb o f _ F hc=>r.1 b o #[mM] ?_,λb o f _ _ hc=>r.2 b o #[mM],λb o _ f _=>f,λb o f hc=>?_,λ_ _ z=>z,λ_ _ _ z=>z,λb ps z=>⟨#[],by rw[Array.append_empty];exact z⟩⟩ ?_ I.bare λb f=>?_
  ·rw[t.1]at F;exact F
  ·obtain⟨sl,Q⟩:=r.2 b o #[mM];exact⟨_,Q⟩
  ·intro a o l;refine(I.hok a o l).stay (λc u hc R=>r.1 c u (hideAll_get _ R λk=>?_) λk=>?_) (λ_ z=>z) λ_ _ z=>z
   ·have:=P c k;rcases hc with rfl|hc
    ·show#[ve,l]
    ·show#[ve,hc]
   ·have:H c=af:=I.stkFree c #[dp,t.1,k];rcases hc with rfl|hc
    ·show#[ve,l]
    ·show#[ve,hc]
  ·rcases A.2 b f with rfl|⟨z,o,h,G,hd⟩
   ·exact⟨.inr he,J,K,L⟩
   ·refine⟨.inr z.1,λy=>?_,λx c hc y=>?_,λp D y=>z.2.2 (List.mem_map.mpr ⟨p,D,y⟩)⟩
    ·obtain⟨m,⟨S,es,E,n,q,_⟩,_⟩:=I.loc;rw[<- y,G]at n;cases n;show#[vv,hd,q]
    ·obtain⟨v,S,n,q⟩:=I.cell x c hc;show#[dV,y,G,n];show#[vv,hd,q]
universe E
theorem Yy.mono{M N:#[sg]}{h:aH}{e:ae}{cls:aa}{a:#[ay]}{b:aa}(x:Yy M h e cls a b)(k:∀T,M T->N T):Yy N h e cls a b:=by obtain⟨c,d,T,f,g,a1,a2,a3,a4,a5,a6,a7,a8,a9,a10⟩:=x.ex;exact⟨c,d,T,f,g,a1,a2,a3,a4,a5,a6,a7,a8,a9,k T a10⟩
section
variable {X:Cx} {E:St->XK} {k:Nat} {f:ae} {fd:bu} {ps:List ak} {sp:Sp} {t:TA}
theorem Me{c:#[L]}{b:St}{H:Hp}{s:ai}{Q:VK}{us:#[az]}{vs:#[m7]}(F:#[im])(hr:#[kW])(hb:#[mA])(hx:#[ee,d])
  (I:#[fd,c,b]) (r:ZK vs us) (h:sp vs H Q (E b)):#[jq] (call #[73] us) (EP X c b Q) X.xe s:=by
 have g:us.length=ps.length:=by rw[<- r.length];exact F.len _ _ _ _ h
 have i:BindsTo s fd #[tT] #[k5]:=by have:=hb s us I.kIn #[dp,Qad,g];rwa [Qad]at this
 refine wpAny_call (codeAny_mono (F.run X.A X.stack s H #[tT] us vs Q (E b) hr I.env0 i r h) λr s' a=>?_);cases r with
 | error e=>exact hx e s' (I.refused a)
 | ok j =>
  cases j with
  | ret u=>exact I.after a
  | next=>exact #[h9]
  | brk=>exact #[h9]
  | cont=>exact #[h9]
def Md(sp:Sp)(E:St->XK)(t:TA):TE:=λa H Q=>t a H λvs b=>sp vs b Q (E a)
universe E
section
variable {P:aw} {w:aD} {K:#[7]} {mg:ak->Option aa} {base:aH}
theorem XE.leaves{N:#[T]}{d:ak}{g:be}{f:ae}{i:aa}{A:aB}{outer:#[mE]}{s:ai}{H:Hp}{E:XK}{j:aa}{s':ai}
  (h:XE #[gc,d,g,i] (λ_=>E) j s'):#[gc,d,g,i].xe j s':=by
 obtain⟨e,cls,o,ah,σ,p,rfl,k,r,t,l,I,u,v,q⟩:=h;obtain⟨B,M,x,m,y⟩:=I.fly #[Y] k r t l u v;refine x.leaves I.ok.frames rfl λz a b c=>?_;have J:=y z a;exact⟨e,cls,o,p,rfl,k,l,c.mono λT n=>⟨(m T n).1,(m T n).2.1,by simp⟩,J.os,J.bare,J.base,J.hok,q⟩
theorem Fun.ok1{x b:ak}{st:aL}{f:ae}{c:bu}{N ps:#[T]}{k:Nat}{sp:Sp}(F:Fun K x b st f c)(S:#[hd])(len:#[P])
  (d:∀ (a:aa) (A:aB) (outer:List Env) (s:ai) (H:Hp) (vs:List V) (Q:VK) (E:XK),Zt k #[en,b]->sp vs H Q E ->
   ∃t,PSs (#[iy].wish (XE #[iy] (λ_=>E))) (Zj st) t/\t { nx:=λ_ g=>Q .non g,rt:=Q } #[jG] H):YX P w K mg base (CX1 P w) (k+1) f c ps sp:=by
 show#[vm,fE,pm,an,a,i];refine Nj lk i S len λA outer s H vs Q E j l=>?_;obtain⟨t,h,q⟩:=d a A outer s H vs Q E j l;exact⟨t,h.wish λe s h=>XE.leaves h,q⟩
universe E
section
variable {M:Model} {A:aB} {E:aa->ai->Prop} {h:aH} {g:Array GenState} {d:Drawn} {t:Nat} {os:OsState}
variable {nm q:ak} {C N:ae} {bs bm:List aa} {ci:Bool} {sn:List ak} {sub:List aa} {ab:Bool} {bL:Option Bool} {dd:Option ae} {k0 k1 k2 k3 k5:Option aa} {bE:String}
variable {eD q':ak} {C' N':ae} {yx oZ:List aa} {qt:Bool} {yy:List ak} {uD:List aa} {yz:Bool} {uE:Option Bool} {iV:Option ae} {yA yB yC yD yE:Option aa} {oC:String}
theorem Zi2{e:ae}{a:aM}{b:Bool}{Q:#[pS,Bool]}(c:h.get? C=U (excClassObj nm q C N bs bm ci sn sub ab bL dd k0 k1 k2 k3 k5 bE))(hB:h.get? C'=U (excClassObj eD q' C' N' yx oZ qt yy uD yz uE iV yA yB yC yD yE oC))
  (he:h.get? e=U a) (i:a.cls=.ref C) (j:oZ.contains #[M]=true) (k:(aa.ref C::bm).contains (.ref C')=b) (hq:Q b #[36]):av M A (excMatches #[bA] (.ref C')) Q E #[36]:=by
 have l:#[gP,C',oZ]:=by rw[QI,j,Qai]
 have f:=tc_notTuple;unfold excMatches;repeat (first|(with_reducible refine wpAny_loadPart_at he ?_;rw[i])|with_reducible refine wpAny_loadPart_at hB ?_|(with_reducible refine wpAny_isSubtype_exc hB ?_;rw[l])|(with_reducible refine wpAny_isSubtype_exc c ?_;rw[k])|wp_step)
 cases b<;>(wp_walk;exact hq)
universe E
section
variable {X:Cx} {E:St->XK} {k:Nat} {f C:ae} {fd:bu} {ps:List ak} {sp:Sp} {x:ak} {p pos:Pos} {e:aI} {es:List aI} {t:TA}
theorem XE.unwish{xe:#[G]}{a:aa}{s:ai}(h:XE (X.wish xe) E a s):XE X E a s:=by obtain⟨e,cls,b,c,d,f,a1,a2,a3,a4,a5,I,a6,a7,a8⟩:=h;exact⟨e,cls,b,c,d,f,a1,a2,a3,a4,a5,I.unwish,a6,a7,a8⟩
theorem ZnD(F:#[im])(hr:#[kW])(d:#[rO])(hm:X.mg x=U #[73])(hk:#[pZ,X.K])(hb:#[mA])(hx:#[ee,b])
  (ha:#[69]) (g:#[j]:=by decide) (he:#[i]:=by rfl) (i:#[A]:=by rfl) :
  PE X #[30] (Md sp E t):=by
 show#[dU,j,l,Q];refine bh (W9 I d hm ?_ g);refine Q7 (h₀:=X.base) I.ok.mod.kin hk (thn #[eW,j,l] λus s1 a=>?_) he i;obtain⟨vs,H1,c,r,q⟩:=a;exact⟨c.kIn,Me F hr hb hx c r q⟩
universe E
noncomputable abbrev Cx.pnd(X:Cx)(a:#[L]):Cx:={ X with pn:=X.pn++a }
noncomputable abbrev Cx.mkd(X:Cx)(e:ae):Cx:={ X with A:=X.A.mark (U (.ref e)),calm:=false,xe:=λ_ _=>False }
section
variable {X:Cx} {ah gR:List (ae×aM)} {σ:St} {H:Hp} {s:ai}
theorem Cx.Ok.pnd(ok:X.Ok)(ah:#[L]):#[te].Ok :=
 #[y]
theorem Cx.Ok.unpnd{ah:#[L]}(ok:#[te].Ok):X.Ok :=
 #[y]
theorem Inv.pnd(I:#[k]):Inv #[te] [] σ H s:=⟨I.ok.pnd ah,I.os,I.bare,I.base,I.loc,I.cell,I.free,I.freeC,λp a=>I.pin p #[bG],I.hok,I.len⟩
theorem Inv.unpnd(I:Inv #[te] gR σ H s):Inv X ah σ H s:=⟨I.ok.unpnd,I.os,I.bare,I.base,I.loc,I.cell,I.free,I.freeC,λp a=>I.pin p (QS _ a),I.hok,I.len⟩
theorem SP.unpnd{D:XU}{f:Flow}{s':ai}(h:SP #[te] gR D f s'):SP X ah D f s':=by
 cases f with
 | next=>obtain⟨a,b,I,q⟩:=h;exact#[nb]
 | brk=>obtain⟨a,b,I,q⟩:=h;exact#[nb]
 | cont=>obtain⟨a,b,I,q⟩:=h;exact#[nb]
 | ret u=>obtain⟨v,a,b,I,r,q⟩:=h;exact⟨v,a,b,I.unpnd,r,q⟩
theorem Inv.mkd(I:#[k])(e:ae):Inv (X.mkd e) ah σ H s :=
 ⟨⟨I.ok.mod,I.ok.kind,I.ok.glob,I.ok.blt,I.ok.above,I.ok.inj,I.ok.has,I.ok.cab,(λh=>by cases h),I.ok.frames,I.ok.stk,I.ok.exf,I.ok.bs,I.ok.bsz,I.ok.noex,I.ok.exfs,I.ok.funs,I.ok.frf⟩,I.os,I.bare,I.base,I.loc,I.cell,I.free,I.freeC,I.pin,I.hok,I.len⟩
theorem Inv.unmkd{e:ae}(I:Inv (X.mkd e) ah σ H s)(ok:X.Ok):Inv X ah σ H s:=⟨ok,I.os,I.bare,I.base,I.loc,I.cell,I.free,I.freeC,I.pin,I.hok,I.len⟩
universe E
def Xc(K:#[7])(C:ae)(a:#[az]):Prop:=X16 λ(nm q:ak) (N:ae) (bs:List aa) (b:Bool) (c:List ak) (sub:List aa) (d:Bool) (e:Option Bool) (f:Option ae) (k0 k1 k2 k3 k5:Option aa) (g:String) =>
 K.lookup C=U #[ix]
open Builtin Builtin.ObjectAttr
section
variable {prog:aw} {w:aD} {A:aB} {E:aa->ai->Prop} {h:aH} {g:Array GenState} {d:Drawn} {t:Nat} {os:OsState} {K:#[7]}
variable {nm q:ak} {C N x:ae} {bs bm:List aa} {sn:List ak} {sub:List aa} {ab:Bool} {bL:Option Bool} {dd:Option ae} {k0 k1 k2 k3 k5:Option aa} {bE:String}
 {mA:#[J]} {name:ak} {v:aa}
theorem ZkQ{tk:Tok}{Q:#[pS,Fin]}{ns:#[T]}(X:K.In h)(hm:#[jl])
  (O:#[c1]) (ha:#[iB]) (yG:x≠C) (I:h.Inst x C mA)
  (hq:∀h' P,h'.Inst x C #[hS] ->
   (∀b o,b≠x->#[kE]->h.get? b=U o->h'.get? b=U o) ->
   (∀a,h.get? x=U a->∃j,h'.get? x=U j/\j.cls=a.cls/\j.data=a.data/\j.slots=a.slots/\(∀dx,a.dict=U dx->j.dict=U dx)/\(a.dict=af->j.dict=U h.objs.size))->Q (.done (.ret .none)) #[fR,h',P]) (hw:Within mA ns) (hsz:#[qC]) :
  av #[s] A (aT.«object.__setattr__» ⟨[.ref x,.str name tk,v],[]⟩) Q E #[36]:=by
 obtain⟨o,i,p,r,hd⟩:=I;have R:=hm #[lR];have L:=Qaq (M:=ay prog w) X ha;unfold aT.«object.__setattr__»;repeat (first|rw[refuse_eq]|(rw[refuseLoop_ref,R])|(with_reducible refine wpAny_loadPart_at i ?_;rw[p])|with_reducible refine wpAny_mroOf_exc O ?_|(with_reducible refine am (L.at ?_))|wp_step)
 rcases hd with⟨G,S⟩|⟨dx,m,s,T⟩
 ·
  rw[G,if_neg (by simp[typeHasDict])];split
  ·rename_i u;cases u
  split
  ·rename_i c u;exact absurd u (r c)
  ·have H:#[ah].get? x=U o:=Qc _ i;have z:x≠h.objs.size:=Qx (Qk i);refine am (wpAny_alloc' ?_);refine am (wpAny_update' H ?_);refine aF ?_;have V:#[ct].get? h.objs.size
     = U { cls:=.type "dict",data:=.dict #[] } :=
    (QaK _ _ _ _ z.symm).trans (aH.get?_push_at rfl rfl)
   have W:#[ct].Ns h.objs.size (λ_=>af) :=
    ⟨_,#[],_,V,rfl,λe Y=>absurd Y #[4],λ_=>rfl⟩
   show av _ _ (storeInDict h.objs.size (.str name tk) name v) _ _ _;unfold storeInDict newKeyGuard;refine am (aF (am (wpAny_nsSet1 (aH.Ns1.of_empty W) λh' l k=>?_)));obtain⟨Z,xY,xZ,B,D,F⟩:=l.count (Within.cons name v Within.nil);refine am (wpAny_lookBehind B (by rw[D];exact pastItsLine_dict (Qi F (by rw[QA,List.length_nil,aO];lia))) ?_)
   wp_walk
   have J:h'.get? x=U { cls:=o.cls,dict:=U h.objs.size,data:=o.data,slots:=o.slots }:=?_;refine hq h' _ ⟨{ cls:=o.cls,dict:=U h.objs.size,data:=o.data,slots:=o.slots },J,p,r,.inr ⟨h.objs.size,rfl,z.symm,?_⟩⟩ (λb ob CT _ n=>?_)
    (λa f=>by obtain rfl:o=a:=Qp (i.symm.trans f);exact⟨_,J,rfl,rfl,rfl,λdx e=>(by rw[G]at e;cases e),λ_=>rfl⟩)
   ·obtain⟨o',es,ep,e1,e2,e3,eu,e4⟩:=l;exact⟨o',es,ep,e1,e2,e3,eu,λy=>by rw[e4 y];by_cases hy:y=name<;>simp[hy,S]⟩
   ·exact(k.2 b (Qx (Qk n))).trans ((QaK _ _ _ _ CT).trans (Qc _ n))
   ·refine(k.2 x z).trans (QX _ H ?_);have eB:=(aH.get?_some_iff.mp i).2;obtain⟨oc,od,CU,jD⟩:=o;cases CU<;>first|rfl|exact eB
 ·
  rw[m];refine aF ?_;show av _ _ (storeInDict dx (.str name tk) name v) _ _ _;unfold storeInDict newKeyGuard;refine am (aF (am (wpAny_nsSet1 T λh' l k=>?_)));obtain⟨Z,xY,xZ,B,D,F⟩:=l.count (Within.cons name v hw);refine am (wpAny_lookBehind B (by rw[D];exact pastItsLine_dict (Qi F #[eM,QA])) ?_)
  wp_walk
  refine hq h' _ ⟨o,(k.2 x s.symm).trans i,p,r,.inr ⟨dx,m,s,l⟩⟩ (λb ob _ o5 n=>?_)
   (λa f=>⟨a,(k.2 x s.symm).trans f,rfl,rfl,rfl,λ_ e=>e,λe=>by obtain rfl:o=a:=Qp (i.symm.trans f);rw[m]at e;cases e⟩)
  exact(k.2 b (o5 o dx i m)).trans n
theorem Mc{Q:#[bK]}{ns:#[T]}(X:K.In h)(hm:#[jl])(m:bm.contains #[cJ]=true)
  (j:#[c1]) (hs:#[eX,#[S]]) (ha:#[iB]) (n:x≠C) (I:h.Inst x C mA)
  (hq:∀h' i,h'.Inst x C #[hS] ->
   (∀b o,b≠x->#[kE]->h.get? b=U o->h'.get? b=U o) ->
   (∀a,h.get? x=U a->∃c,h'.get? x=U c/\c.cls=a.cls/\c.data=a.data/\c.slots=a.slots/\(∀dx,a.dict=U dx->c.dict=U dx)/\(a.dict=af->c.dict=U h.objs.size))->Q () #[fR,h',i]) (hw:Within mA ns) (hsz:#[qC]) :
  av #[s] A (setAttr #[lR] name v) Q E #[36]:=by
 have f:=PySem.F.store_object;obtain⟨o,p,r,sR,hd⟩:=id I;have l:PySem.W.Looks #[s] h (typeOf #[lR]) #[S]:=r ▸ (PySem.W.Looks.ld p).andThen .now;refine am (wpAny_mkText (am (am (am (l _ _ _ _ #[sm] (Qaq X hs _ _ _ _ #[sm] (bc ?_)))))));rw[PySem.F.store_object.slot.bind];have s:(aa.ref C::bm).contains #[cJ]=true:=by rw[QI,m,Qai]
 refine am (aF (am (wpAny_call (codeAny_call_builtin f.slot.plain f.entry (@PySem.W.check_slot #[s] _ _ ⟨h,g,d,t+1,os⟩ "object.__setattr__" "object" "__setattr__" #[lR] [.str name t,v] [] _ f.kind f.split (l.andThen ?_) (f.args #[lR] (.str name t) v) (ZkQ X hm j ha n I (λh' i u z B=>aF (aF (hq h' i u z B))) hw hsz))))));intro A' Q' E' D k F;obtain⟨h2,g2,d2,t2,qv⟩:=D;refine wpAny_isSubtype_exc (k _ _ j) ?_;rw[s];exact F
universe E
noncomputable abbrev YO:List aa:=[.type "ValueError",.type "Exception",.type "BaseException",.type "object"]
structure XC (K:#[7]) (C B:ae):Prop where
 obj:X15 λ(nm q:ak) (N:ae) (bs:List aa) (sn:List ak) (sub:List aa) (ab:Bool) (bL:Option Bool) (dd:Option ae) (k0 k1 k2 k3 k5:Option aa) (bE:String) =>
  K.lookup C=U (excClassObj nm q C N bs #[nB] true sn sub ab bL dd k0 k1 k2 k3 k5 bE)
 sa:PySem.W.findIn K #[S] "__setattr__" = U #[V]
theorem XC.cls{K:#[7]}{C B:ae}(c:XC K C B):Xc K C #[nB]:=by obtain⟨a,q,N,bs,b,sub,d,e,f,k0,k1,k2,k3,k5,g,h⟩:=c.obj;exact⟨a,q,N,bs,true,b,sub,d,e,f,k0,k1,k2,k3,k5,g,h⟩
noncomputable abbrev exN(e C:ae)(a:#[ay]):HO:=.ext λh=>∃T,h.get? e=U { cls:=.ref C,dict:=a,data:=.fields #[q] }
noncomputable abbrev xdO(dx:ae)(fs:List #[rW]):HO:=.ext λh=>∃mA,h.Ns1 dx mA/\#[vt,mA]/\PySem.Within mA #[k7]
section
variable {X:Cx} {ah:List (ae×aM)} {σ:St} {H:Hp} {s:ai} {A:aB} {E:aa->ai->Prop} {C B e dx:ae} {f:ak} {fs:List (ak×V)}
theorem Mb(B:ae)(self:aa):refuseLoop self "__setattr__" #[nB]=pure ():=by rw[refuseLoop_ref];exact PySem.F.store_ValueError.passes self
theorem Tf{P:aw}{w:aD}{H:Hp}{h:aH}{a:#[ay]}{T:ae}(he:h.get? e=U { cls:=.ref C,dict:=a,data:=.fields #[q] }):Z8 P w H h e (exN e C a) :=
 ⟨⟨T,he⟩,⟨_,he⟩,λh1 h2 z k=>by obtain⟨b,z⟩:=z;exact⟨b,k _ z⟩⟩
theorem Ma{P:aw}{w:aD}{H:Hp}{h:aH}{mA:#[J]}(hn:h.Ns1 dx mA)(r:∀f,Yt #[l5] (mA f))(a:PySem.Within mA #[k7]):Z8 P w H h dx (xdO dx fs) :=
 ⟨⟨mA,hn,r,a⟩,let ⟨o,_,_,b,_⟩:=hn;⟨o,b⟩,λh1 h2 z k=>by obtain⟨m,z1,z2⟩:=z;exact⟨m,z1.at λo q=>k o q,z2⟩⟩
theorem Zsq{y:V}{u:aa}{Q:#[bK]}(I:#[k])(c:XC X.K C B)(n:#[qi])(he:H e=U #[ls])(G:ZI y u)
  (h:∀dx s',H dx=af->dx≠e->Inv X ah σ (upd #[g7,H,dx] dx (xdO dx [(f,y)])) s'->Q () s'):av #[K] A (setAttr #[bA] f u) Q E s:=by
 obtain⟨nm,q,N,bs,sn,sub,ab,bL,dd,k0,k1,k2,k3,k5,bE,J⟩:=c.obj;show#[rp];have v:=I.kIn _ _ J;have K:e≠C:=λz=>by subst z;have:=v.symm.trans j;cases this
 show#[ga,i,t,s];refine Mc (mA:=λ_=>af) (ns:=[]) I.kIn (Mb B) rfl v c.sa n K ⟨_,j,rfl,#[d7,_,z],.inl ⟨rfl,λ_=>rfl⟩⟩ (λh' p L M O=>?_) (λy P=>absurd rfl P) (Qm _);obtain⟨R,r,c1,w,D,_,S⟩:=O _ j;obtain⟨cl,di,da,sl⟩:=R;have F:=S rfl;dsimp only at c1 w D F r;subst c1 w D F;have W:H i.objs.size=af:=#[qS];have Y:e<i.objs.size:=Qk j;have ne:i.objs.size≠e:=QU Y;obtain⟨Z,e2,_,_,hd⟩:=L;obtain rfl:_=Z:=Qp (r.symm.trans e2);obtain⟨o0,_⟩|⟨dx,gI,_,dS⟩:=hd
 ·cases o0
 cases gI;refine h i.objs.size _ W ne ?_;have I1:Inv X ah σ #[g7,H,i.objs.size] ⟨i.update e λo=>{ o with dict:=U i.objs.size },g,d,p,os⟩:=by have m:#[aV]:=QX _ j rfl;exact I.write (x:=e) (e:=e) (t':=p) #[fW,he] #[8] (λb u k q=>(QaK _ _ _ _ k).trans q) ⟨_,m⟩ (Tf m)
 have m:#[aV]:=QX _ j rfl;refine I1.laid (a:=i.objs.size) (h':=h') (t':=p) #[g5,b,u,q] (Nat.le_of_eq (aH.size_update _ _ _)) (Ma dS (λl=>?_) λl hg=>?_)
 ·by_cases k:b=e
  ·show#[fH,k,m,q];exact r
  ·exact M b u k (λcu dx a b'=>by rw[j]at a;cases a;cases b') ((QaK _ _ _ _ k).symm.trans q)
 ·show Yt (List.lookup l [(f,y)]) (if l=f then U u else af);by_cases z:l=f
  ·subst z;show#[t0];simp only[List.lookup,beq_self_eq_true];exact G
  ·rw[if_neg z];simp only[List.lookup,beq_eq_false_iff_ne.mpr z];exact True.intro
 ·by_cases z:l=f
  ·subst z;simp
  ·exact absurd (if_neg z) hg
theorem Zsw{y:V}{u:aa}{Q:#[bK]}(I:#[k])(c:XC X.K C B)(n:#[qi])(he:H e=U (exN e C (U dx)))(l:H dx=U (xdO dx fs))(J:dx≠e)(hl:fs.length<1000)(K:ZI y u)
  (h:∀s',Inv X ah σ (upd H dx (xdO dx #[q3])) s'->Q () s'):av #[K] A (setAttr #[bA] f u) Q E s:=by
 obtain⟨nm,q,N,bs,sn,sub,ab,bL,dd,k0,k1,k2,k3,k5,bE,L⟩:=c.obj;show#[rp];obtain⟨⟨mA,M,r,m⟩,_,_⟩:=I.hok dx _ l;have p:=I.kIn _ _ L;have O:e≠C:=λz=>by subst z;have:=p.symm.trans j;cases this
 show#[ga,P,t,s];refine Mc (mA:=mA) (ns:=fs.map #[iw]) I.kIn (Mb B) rfl p c.sa n O ⟨_,j,rfl,#[d7,_,z],.inr ⟨dx,rfl,J,M⟩⟩ (λh' R S W Y=>?_) m #[pU,Qa,aO];obtain⟨Z,k,c1,v,w,dn,_⟩:=Y _ j;obtain⟨cl,di,da,sl⟩:=Z;have D:=dn dx rfl;dsimp only at c1 v w D k;subst c1 v w D;obtain⟨o2,e2,_,_,hd⟩:=S;obtain rfl:_=o2:=Qp (k.symm.trans e2);obtain⟨o0,_⟩|⟨pS,yH,_,F⟩:=hd
 ·cases o0
 cases yH;refine h _ (I.write (x:=dx) (e:=dx) (h':=h') (t':=R) #[fW,l] #[8] (λb u hb q=>?_) (let ⟨o,_,_,e',_⟩:=F;⟨o,e'⟩) (Ma F (λi=>?_) λi hg=>?_))
 ·by_cases G:b=e
  ·subst G;rw[show P.get? b=_ from j]at q;cases q;exact k
  ·exact W b u G (λcu pS a b'=>by rw[j]at a;cases a;cases b';exact hb) q
 ·show Yt (#[q3].lookup i) (if i=f then U u else mA i);rw[Zp];by_cases q:i=f
  ·show#[pt,q,q];exact K
  ·show#[oT,q,q];exact r i
 ·by_cases q:i=f
  ·rw[q];exact#[uA].1
  ·refine#[uA].2 i (m i λz=>hg ?_);show (if i=f then U u else mA i)=af;rw[if_neg q];exact z
universe E
def sX0(K:#[7])(C B:ae)(c d:TE)(f:ak):TS:=λD a H=>d a H λy g=>c a g λx b=>∃e,x=.ref e/\b e=U #[ls]/\∀dx,b dx=af->dx≠e->D.nx a (upd #[g7,b,dx] dx (xdO dx [(f,y)]))
def sX1(K:#[7])(C B:ae)(c d:TE)(f:ak):TS:=λD a H=>d a H λy g=>c a g λx b=>X3 λe dx fs=>x=.ref e/\b e=U (exN e C (U dx))/\b dx=U (xdO dx fs)/\dx≠e/\fs.length<1000/\D.nx a (upd b dx (xdO dx #[q3]))
section
variable {X:Cx} {C B:ae} {f:ak} {o value:aI} {ta tv:TE} {pos cJ:Pos}
theorem L9(c:XC X.K C B)(n:#[qi])(ha:#[l0])(d:#[qM])(hs:#[al]):PS X #[hm] (sX0 X.K C B ta tv f):=by intro a s b H D I h;refine plainObj_wpAny_Assign_Attribute #[eU,d,a,l] hs;rintro m s2 ⟨x,H2,p,r,e,ex,t,q⟩;subst ex;obtain rfl:m=aa.ref e:=r;exact Zsq p c n t k λv s' hd ne w=>⟨_,_,w,q v hd ne⟩
theorem Ztd(c:XC X.K C B)(n:#[qi])(ha:#[l0])(d:#[qM])(hs:#[al]):PS X #[hm] (sX1 X.K C B ta tv f):=by intro a s b H D I h;refine plainObj_wpAny_Assign_Attribute #[eU,d,a,l] hs;rintro m s2 ⟨x,H2,p,r,e,dx,fs,ex,t,hd,ne,v,q⟩;subst ex;obtain rfl:m=aa.ref e:=r;exact Zsw p c n t hd ne v k λs' w=>⟨_,_,w,q⟩
universe E
noncomputable abbrev FV:ExcBaseFacts "ValueError" "ValueError.__new__" "ValueError.__init__" YO:=PySem.F.excBase_ValueError
section
variable {prog:aw} {w:aD} {A:aB} {E:aa->ai->Prop} {h:aH} {g:Array GenState} {d:Drawn} {t:Nat} {os:OsState} {K:#[7]}
variable {nm q:ak} {C N B:ae} {bs:List aa} {ci:Bool} {sn:List ak} {sub:List aa} {ab:Bool} {bL:Option Bool} {dd:Option ae} {k0 k1 k2 k3 k5:Option aa}
theorem mvV(C B:ae):(aa.ref C::.ref B::YO).contains #[63]=true:=by rw[QI,QI,FV.hasB];simp
theorem L8{M:Model}{Y4:#[az]}{Q:#[bK]}(a:#[l])(hq:Q () #[36]):av M A (checkBuiltinCall "ValueError.__new__" ⟨.ref C::Y4,[]⟩) Q E #[36]:=by
 have b:=mvV C B;have CW:=FV.noStar;simp only[checkBuiltinCall,FV.newKind,FV.newSplit,FV.newRow];repeat (first|refine wpAny_loadPart_at a ?_|(refine wpAny_isSubtype_exc a ?_;rw[b])|refine wpAny_staticBase_exc a ?_|refine wpAny_madeBy_exc a ?_|simp only[bne_self_eq_false,Bool.false_eq_true,if_false]|wp_step)
 exact hq
theorem L7{b c f:String}{a i:#[az]}(F:ExcBaseFacts b c f i)(c1:a.contains (.type b)=true)(c2:a.contains #[tK]=false)(c3:a.contains (.type "NameError")=false){R:#[pS,Result]}{Y4:#[az]}(e:h.get? C=U (excClassObj nm q C N bs a ci sn sub ab bL dd k0 k1 k2 k3 k5 c))
  (hq:R (.ok (.ret #[lz])) ⟨(h.push { cls:=.type "tuple",data:=.seq Y4.toArray }).push
   { cls:=.ref C,data:=.fields #[bh] },g,d,t,os⟩) (kZ:Y4.length<=aq) :
  bW #[s] A (.builtin c ⟨.ref C::Y4,[]⟩) R #[36]:=by
 have CY:=F.ends;have j:#[l6].contains (.type b)=true:=by rw[QI,c1,Qai]
 have k:#[l6].contains #[tK]=false:=by rw[QI,c2];rfl
 have l:#[l6].contains (.type "NameError")=false:=by rw[QI,c3];rfl
 refine codeAny_builtinAt F.entry ?_;unfold aT.«BaseException.__new__»;refine PySem.wpAt_bind ?_;show PySem.wpAt _ _ _ (stack >>= _) _ _ _;refine PySem.wpAt_bind (PySem.wpAt_stack λp C3=>PySem.wpAt_of_wpAny ?_)
 wp_walk
 refine PySem.wpAt_of_wpAny ?_;rw[F.owner];repeat (first|with_reducible refine wpAny_madeHere_exc F.canon e ?_|with_reducible refine wpAny_loadPart_at e ?_|(with_reducible refine wpAny_isSubtype_exc e ?_;first|rw[j]|rw[k]|rw[l])|wp_step)
 show R _ _;rw[QV];exact hq
theorem Zk4{Y4:#[az]}{e:ae}{Q:#[pS,Fin]}(X:K.In h)(a:#[l])(m:#[ed,#[S],#[bA]])(n:PySem.W.isFn K #[bA]=true)
  (hq:∀h' T,#[bz]->h'.get? #[94]=U { cls:=.ref C,data:=.fields #[q] }->av #[s] A (call #[bA] (.ref #[94]::Y4)) (λr s'=>r=.none/\Q (.done (.ret #[lz])) s') E #[fR,h',t]) (p:Y4.length<=aq) :
  av #[s] A (aT.«type.__call__» ⟨.ref C::Y4,[]⟩) Q E #[36]:=by
 repeat (first|with_reducible refine wpAny_loadPart_at a ?_|with_reducible refine wpAny_madeBy_exc a ?_|wp_step)
 refine codeAny_call_builtin_code #[ot] (L8 a ?_);refine L7 FV #[uw] #[s6] #[s5] a ?_ p;show av _ _ _ _ _ _;generalize j:h.push { cls:=.type "tuple",data:=.seq Y4.toArray }=f;have s:f.objs.size=h.objs.size+1:=by rw[<- j];exact QV _ _
 have k1:#[pw,f.get?]:=λb o i=>by rw[<- j];exact Qc _ i
 generalize k:f.push { cls:=.ref C,data:=.fields #[.ref h.objs.size,.none,.none,.none,.bool false,.none] }=c;have k2:#[pw,c.get?]:=λb o i=>by rw[<- k];exact Qc _ (k1 b o i)
 have l:c.get? #[94]=U { cls:=.ref C,data:=.fields #[bh] }:=by rw[<- k,<- s];exact #[t5]
 have u:=k2 _ _ a;have X2:K.In c:=X.keeps k2;have v:#[k8]:=by simp
 unfold isInstance;repeat (first|with_reducible refine wpAny_loadPart_at l ?_|(with_reducible refine wpAny_isSubtype_exc u ?_;rw[v])|wp_step)
 show#[jz];refine bc (am ?_);refine(PySem.W.bind_fn X2 #[lz] (beq_iff_eq.mp n)).at ?_;refine am (aU (hq c h.objs.size k2 l) #[g5,r,s',y] λ_ _ x=>x);obtain⟨rfl,z⟩:=y
 wp_walk
 exact z
theorem ZsU{Y4:#[az]}{c:ae}{Q:#[G]}(X:K.In h)(a:#[l])(e:PySem.W.findIn K #[S] "__init__" = U (U #[uP]))(f:PySem.W.isFn K #[uP]=true)
  (hq:∀h' T,#[bz]->h'.get? #[94]=U { cls:=.ref C,data:=.fields #[q] }->av #[s] (A.under (.builtin "type.__call__" ⟨.ref C::Y4,[]⟩)) (call #[uP] (.ref #[94]::Y4)) (λr s'=>r=.none/\Q #[lz] s') E #[fR,h',t]) (i:Y4.length<=aq) :
  av #[s] A (call #[S] Y4) Q E #[36]:=by
 show#[90];repeat (any_goals (first|assumption|with_reducible refine wpAny_loadPart_at a ?_|wp_step))
 refine⟨rfl,codeAny_call_builtin_at #[r2] entry_typeCall (wpAny_check_type_call_sub a (Zk4 X a e f (λh' T k j=>hq h' T k j) i))⟩
theorem Zke{M:Model}{e:ae}{c:aM}{Y4:#[az]}{Q:#[bK]}(f:#[l])(he:h.get? e=U c)(i:c.cls=.ref C)(hq:Q () #[36]) :
  av M A (checkBuiltinCall "ValueError.__init__" ⟨.ref e::Y4,[]⟩) Q E #[36]:=by
 have j:=mvV C B;have Cp:=FV.noStar;simp only[checkBuiltinCall,FV.initKind,FV.initSplit,FV.initRow];repeat (first|(with_reducible refine wpAny_loadPart_at he ?_;rw[i])|with_reducible refine wpAny_loadPart_at f ?_|(with_reducible refine wpAny_isSubtype_exc f ?_;rw[j])|wp_step)
 refine wpAny_onRaise ?_;rw[show ∀ (a b:String) (n:Nat),Bind.check ⟨.positional, "*", "ValueError",.self,[⟨"args",.varPos,false⟩]⟩ a b n (List.map (λx=>x.fst) ({ pos:=aa.ref e::Y4 }:Args).kw)=pure () from
  λa b n=>check_star_args _ _ _ _ _ _]
 exact aF hq
theorem LZ{e T:ae}{u:aa}{c:#[ay]}{Q:#[G]}(f:#[l])(he:h.get? e=U { cls:=.ref C,dict:=c,data:=.fields #[q] })
  (i:∀a,(∀b o,b≠e->h.get? b=U o->a.get? b=U o)->(∃j,a.get? e=U { cls:=.ref C,dict:=c,data:=.fields #[.ref j,.none,.none,.none,.bool false,.none] })->Q .none #[fR,a,t]) :
  av #[s] A (call #[35] [.ref e,u]) Q E #[36]:=by
 refine wpAny_call (codeAny_call_builtin FV.init.plain FV.initEntry (Zke f he rfl ?_))
 wp_walk
 refine i _ (λb o k l=>?_) ⟨h.objs.size,?_⟩
 ·rw[Qab _ _ (Ne.symm k)];exact Qc _ l
 ·rw[QX _ (Qc _ he) rfl];rfl
universe E
abbrev TJ:=ak->St->Hp->VK->Prop
def PJ(X:Cx)(d:#[iS])(t:TJ):Prop :=
 ∀ (b:List (ae×aM)) (s:ai) (a:St) (H:Hp) (c:ak) (Q:VK),Inv X b a H s->t c a H Q->#[jq] (joinParts c (evalEach d X.env)) (EP X b a Q) X.xe s
def ZtF:TJ:=λa _ H Q=>a.length<=aq/\Q (.str a) H
def Zsm(c:TE)(t:TJ):TJ:=λa b H Q=>c b H λv d=>∃y,v=.str y/\(a++y).length<=aq/\t (a++y) b d Q
def ZsV(a:TE):TE:=λb H Q=>a b H λv c=>∃i:Int,v=.int i/\i.natAbs.log2<1920/\Q (.str #[sp]) c
section
variable {X:Cx} {e e1 e2:aI} {es:List aI} {te:TE} {t:TJ} {pos:Pos}
theorem Vl:PJ X [] ZtF:=λ_ _ _ H a _ I h=>joinParts_nil #[e5,a,h.2] h.1
theorem Yd(he:#[qN])(hr:PJ X es t):PJ X (e::es) (Zsm te t):=by intro b s c H dU Q I h;refine joinParts_cons #[vz,b,c,f];obtain⟨v,g,i,r,y,rfl,j,q⟩:=a;obtain⟨d,rfl⟩:=#[dK,d,aa.str,y,r];exact⟨j,hr b f c g _ Q i q⟩
theorem Wl(h:PJ X (e1::e2::es) t):PE X (.JoinedStr (e1::e2::es) pos) (t ak.empty):=λa s b H Q I q=>JoinedStr_many (h a s b H _ Q I q)
theorem UJ(he:#[qN]):PE X #[ow] (ZsV te):=by intro c s d H Q I h;refine FormattedValue_plain #[vz,c,d,s1];obtain⟨v,f,g,r,i,rfl,j,q⟩:=a;obtain⟨b,rfl⟩:=#[dK,b,aa.int,i,r];exact formatField_int_small j ⟨.str #[sp],f,g.tok _,#[E],q⟩
universe E
structure XB (K:#[7]) (B:ae):Prop where
 sp:PySem.W.specialIn K (.ref B) "__getattribute__" = U #[nv]
 rd:PySem.W.readsIn K B #[bR]=true
 fi:PySem.W.findCls K (.ref B) #[bR] "__init__" = U (.val #[35])
def tXI(C:ae)(t:TA):TE:=λb H Q=>t b H λvs a=>X3 λe x c=>vs=[.ref e,.str x]/\a e=U (exN e C c)/\Q .non a
structure XM (K:#[7]) (C B f:ae):Prop where
 obj:X14 λ(nm q:ak) (N:ae) (bs:List aa) (sn:List ak) (sub:List aa) (ab:Bool) (bL:Option Bool) (dd:Option ae) (k0 k1 k2 k3 k5:Option aa) =>
  K.lookup C=U #[bN]
 init:PySem.W.findIn K #[S] "__init__" = U #[jb]
 fn:PySem.W.isFn K #[73]=true
 kp:PySem.W.keepIn K #[S]=true
 sa:PySem.W.findIn K #[S] "__setattr__" = U #[V]
theorem XM.xc{K:#[7]}{C B f:ae}(c:XM K C B f):XC K C B:=by obtain⟨a,q,N,bs,b,sub,d,e,g,k0,k1,k2,k3,k5,h⟩:=c.obj;exact⟨⟨a,q,N,bs,b,sub,d,e,g,k0,k1,k2,k3,k5,_,h⟩,c.sa⟩
section
variable {X:Cx} {C B f:ae} {x:ak} {p bn pos bg:Pos} {e:aI} {es:List aI} {t:TA}
theorem LY{pl:Sem Bool}(c:XM X.K C B f)(b:XB X.K B)(D:#[rO])(hm:X.mg x=U (.ref B))(ha:#[69])(E:#[j]:=by decide)
  (F:#[i]:=by rfl) (G:#[A]:=by rfl)
  (J:eval #[ig] X.env=(do
   let v <- eval (.Name x p) X.env
   standAt bn.atName
   let (f,first) <- holding [v] (getMethod v "__init__" pl)
   callWith pos f first (bb pos #[hy]) #[aC]):=by rfl) :
  PE X #[ig] (tXI C t):=by
 show#[dU,K,L,Q];refine QaA (pl:=pl) (W9 I D hm ?_ E) J;refine PySem.W.method_cls I.kIn b.sp (PySem.W.cls_value I.kIn b.rd b.fi rfl ?_);refine PyProof.Rows.callWith_builtin1 (thn (ha pos K _ L H _ #[q9] h) λus M a=>?_) F G;obtain⟨vs,l,m,r,i,y,w,rfl,n,q⟩:=a;obtain⟨nm,q',N,bs,sn,sub,ab,bL,dq,k0,k1,k2,k3,k5,O⟩:=c.obj;obtain⟨⟨T,P⟩,_,_⟩:=m.hok i _ n;cases r with
 | cons R r =>
  cases r with
  | cons r2 r =>
   cases r;obtain rfl:=R;show#[ga,hh,S,M];refine LZ (m.kIn _ _ O) P λh' k j=>?_;show#[dz,T',j,j];have A:=m.write (x:=i) (e:=i) (o:=exN i C w) (h':=h') (t':=S) #[fW,n] #[8] (λb u V z=>k b u V z) ⟨_,j⟩ (Tf j);have W:upd l i (exN i C w)=l:=by
    funext b;by_cases z:b=i
    ·rw[z,Zd,n]
    ·rw[Zc z]
   rw[W]at A;exact⟨.non,l,A,rfl,q⟩
universe E
section
variable {X:Cx} {ah:List (ae×aM)} {σ:St} {H:Hp} {s:ai}
theorem Inv.untrack{e:ae}{g:aH->Prop}(I:#[k])(hx:H e=U (.ext g)):Inv X ah σ (off e H) s:=by
 have f:∀ {b:ae},H b=af->off e H b=af:=λh=>Znj h;have ne:∀ {b:ae} {o:HO},H b=U o->o≠.ext g->b≠e:=λh n z=>by rw[z,hx]at h;cases h;exact n rfl
 refine⟨I.ok,I.os,I.bare,⟨I.base.keep,I.base.slot,λb o d n x=>f (I.base.free b o d n x),I.base.there,λb i h=>?_,λb o u h=>?_,λb j h=>?_⟩,I.loc,I.cell,f I.free,λx c k=>f (I.freeC x c k),λp l=>?_,λa u m=>?_,I.len⟩
 ·have:=I.base.tups b i h;exact VX this #[s3]
 ·have:=I.base.frzs b o u h;exact VX this #[s3]
 ·obtain⟨more,this⟩:=I.base.tbls b j h;exact⟨more,VX this #[s3]⟩
 ·obtain⟨a1,a2,a3⟩:=I.pin p l;exact⟨a1,f a2,a3⟩
 ·exact(I.hok a u (Zr8 a u m)).stay (λ_ _ _ q=>q) (λb d=>VX d (ne d #[20])) λb i d=>VX d (ne d #[20])
universe E
section
variable {M:Model} {A:aB} {E:aa->ai->Prop} {env:Env}
theorem LX{s:ai}{x:Sem aa}{Q:#[pS,Flow]}(o:#[iZ])
  (h:av M A x (λv a=>∃ (e C T:ae) (c:Option ae) (nm q:ak) (N:ae) (bs b:List aa) (f:Bool) (i:List ak) (sub:List aa) (j:Bool) (k:Option Bool) (l:Option ae) (k0 k1 k2 k3 k5:Option aa) (m:String),
   v=.ref e/\a.heap.get? C=U (excClassObj nm q C N bs b f i sub j k l k0 k1 k2 k3 k5 m)/\b.contains #[M]=true/\a.heap.get? e=U { cls:=.ref C,dict:=c,data:=.fields #[q] }/\E #[bA] a) E s) :
  av M A (raiseStmt env (U x) af) Q E s:=by
 unfold raiseStmt;refine am (aU h #[g5,v,a,p] λ_ _ x=>x);obtain⟨e,C,T,c,nm,q,N,bs,b,f,i,sub,j,k,l,k0,k1,k2,k3,k5,m,rfl,n,r,t,u⟩:=p;show#[ga,hp,tk,a];have w:#[gP,C,b]:=by rw[QI,r,Qai]
 repeat (first|with_reducible refine wpAny_loadPart_at t ?_|with_reducible refine wpAny_loadPart_at n ?_|(with_reducible refine wpAny_isSubtype_exc n ?_;rw[w])|wp_step)
 exact wpAny_raiseNew_none o u
universe E
def LW(C:ae)(sp:Sp)(E:St->XK)(t:TA):TS:=λ_ a H=>t a H λvs b=>∀e,b e=af ->
 sp (.ref e::vs) (upd b e #[ls]) (λv c=>v=.non/\∃d,c e=U (exN e C d)/\E a #[S] d (off e c)) λ_ _ _=>False
section
variable {X:Cx} {E:St->XK} {k:Nat} {f C B:ae} {fd:bu} {ps:List ak} {sp:Sp} {x:ak} {p pos bg:Pos} {e:aI} {es:List aI} {t:TA}
theorem Zs9{m:#[L]}{n:St}{H:Hp}{s:ai}{us:#[az]}{vs:#[m7]}{Q:Hp->Option ae->ae->Prop}(M:XM X.K C B f)(F:#[jT])(hr:#[nj])(hb:#[mA])(mj:#[sP])
  (I:#[fd,m,n]) (r:ZK vs us) (h:∀e,H e=af->sp (.ref e::vs) (upd H e #[ls]) (λv i=>v=.non/\∃c,i e=U (exN e C c)/\Q i c e) λ_ _ _=>False) :
  #[jq] (call #[S] us) (λu s'=>X3 λe c i=>u=.ref e/\s.heap.objs.size<=e/\Inv X m n i s'/\i e=U (exN e C c)/\Q i c e) X.xe s:=by
 have p:=h #[H] #[mW];show#[o7,nm,sn,ab,bL,y];have q:ZK (V.ref #[H]::vs) #[q1]:=.cons rfl r;have t:#[q1].length=ps.length:=by have e:=q.length;rw[F.len _ _ _ _ p]at e;exact e.symm
 show#[ga,j,w,s];refine ZsU I.kIn (I.kIn _ _ y) M.init M.fn (λh' T A D=>?_) (by rw[QA]at t;rw[aO];lia);have o:Inv X m n (upd H #[kd] (exN #[kd] C af)) #[fR,h',w]:=I.laid (a:=j.objs.size+1) (h':=h') (t':=w) (λb u z=>A b u z) (QZ _) (Tf D);have x:=hb _ (aa.ref #[kd]::us) o.kIn #[dp,Qad,t];rw[Qad]at x;refine wpAny_call (codeAny_mono (F.run _ X.stack _ _ ⟨aa.ref #[kd]::us,[]⟩ (aa.ref #[kd]::us) _ _ #[lP] (hr.make C us [])
  (o.env0.make C us []) x q p) λr s' l=>?_)
 cases r with
 | error e=>exact #[sk]
 | ok E =>
  cases E with
  | ret u=>obtain⟨v,G,J,K,L,c,O,P⟩:=o.after l;subst L;exact⟨K,_,c,G,rfl,QZ _,J,O,P⟩
  | next=>exact #[sk]
  | brk=>exact #[sk]
  | cont=>exact #[sk]
theorem ZmF(M:XM X.K C B f)(F:#[jT])(hr:#[nj])(Z:#[rO])(hm:#[qI])(hb:#[mA])(mj:#[sP])(hx:#[ee,R])
  (ha:#[69]) (cB:#[j]:=by decide) (he:#[i]:=by rfl) (cx:#[87]:=by rfl) :
  PS X #[bn] (LW C sp E t):=by
 show#[dU,S,l,D];show#[mg];refine am (aU (Q:=λv i=>∃ (b n T:ae) (di:Option ae) (w q:ak) (N:ae) (bs V:List aa) (ci:Bool) (A:List ak) (sub:List aa) (G:Bool) (J:Option Bool) (d:Option ae) (k0 k1 k2 k3 k5:Option aa) (bE:String),
   v=.ref b/\i.heap.get? n=U (excClassObj w q n N bs V ci A sub G J d k0 k1 k2 k3 k5 bE)/\V.contains #[M]=true/\i.heap.get? b=U { cls:=.ref n,dict:=di,data:=.fields #[q] }/\X.xe #[sE] i) (bh (W9 I Z hm ?_ cB)) #[rx] λ_ _ x=>x)
 refine Q7 (h₀:=X.base) I.ok.mod.kin M.kp (thn (ha bg S s l H _ I h) λus i a=>?_) he cx;obtain⟨vs,H1,g,r,q⟩:=a;refine⟨g.kIn,thn (Zs9 (Q:=λK d e=>E l #[S] d (off e K)) M F hr hb mj g r q) λu s2 z=>?_⟩;obtain⟨b,d,K,rfl,j,L,W,q2⟩:=z;show#[o7,w,A,G,J,lC];obtain⟨⟨T,Y⟩,_,_⟩:=L.hok b _ W;have O:∀a o,i.heap.get? a=U o->a≠b:=λa o ha z=>by have:=Qk ha;show#[f2,z,j]
 refine⟨b,C,T,d,w,q',N,bs,.ref B::YO,true,A,sub,G,J,dq,k0,k1,k2,k3,k5, "ValueError.__new__",rfl,L.kIn _ _ lC,by rw[QI,FV.hasBase,Qai],Y,hx _ _ ?_⟩;refine⟨b,.ref C,d,S,l,off b K,rfl,Qi g.sz j,λz=>?_,λy c hc z=>?_,by unfold off;rw[if_pos rfl],L.untrack W,λp hp z=>?_,.inl ⟨_,_,Y,rfl,rfl,rfl,rfl⟩,q2⟩
 ·show#[g1,P,g.loc,O]
 ·obtain⟨v,o,P,_⟩:=g.cell y c hc;exact O _ _ P z
 ·exact O _ _ (g.pin p hp).1 z
universe E
structure XG (K:#[7]) (C:ae):Prop where
 ga:PySem.W.findIn K #[S] "__getattribute__" = U #[50]
 gh:PySem.W.findIn K #[S] "__getattr__" = U af
 sb:PySem.W.subIn K #[S] #[M]=U true
 hd:PySem.W.hasDictIn K C=true
 ca:PySem.W.findIn K #[S] "__class__" = U (U #[12])
 hm:PySem.W.mroIn K C #[cJ]=U true
universe E.L2
namespace L2
open PySem PySem.Spec PyProof.Rows
section
variable {X:Cx} {ah:List (ae×aM)} {σ:St} {H:Hp} {s:ai} {e C:ae} {dd:Option ae}
theorem Vk{x:ak}{pos:Pos}{C:ae}(hm:#[qI])(a:#[rO]:=by rfl)(b:#[j]:=by decide):PE X #[a4] (tC #[S]) :=
 λ_ _ _ H _ I h=>W9 I a hm ⟨.ref C,H,I,rfl,h⟩ b
universe E
structure D1f (P:aw) (w:aD) (K:#[7]) (mg:#[J]) (base:aH) (k:Nat) (x:ak) (ps:#[T]) (sp:Sp):Prop where
 ex:X2 λf fd=>YX P w K mg base (CX1 P w) k f fd ps sp/\mg x=U #[73]/\PySem.W.keepIn K #[73]=true/\YG K fd ps []
structure C1f (P:aw) (w:aD) (K:#[7]) (mg:#[J]) (base:aH) (k:Nat) (C:ae) (x:ak) (ps:#[T]) (sp:Sp):Prop where
 ex:X2 λf fd=>YX P w K mg base (CX1 P w) k f fd ps sp/\Mk K C f/\YG K fd ps []/\mg x=U #[S]
structure Xf (P:aw) (w:aD) (K:#[7]) (mg:#[J]) (base:aH) (k:Nat) (C B:ae) (x:ak) (ps:#[T]) (sp:Sp):Prop where
 ex:X2 λf fd=>YX P w K mg base CX0 k f fd ps sp/\XM K C B f/\YG K fd ps []/\mg x=U #[S]
structure Vj (K:#[7]) (mg:#[J]) (C B:ae) (x aR:ak) (st:aL) (ps:#[T]):Prop where
 ex:X2 λf fd=>Fun K "__init__" aR st f fd/\XM K C B f/\YG K fd ps []/\mg x=U #[S]
section
variable {P:aw} {w:aD} {K:#[7]} {mg:ak->Option aa} {base:aH}
theorem Vj.xf{C B:ae}{x c:ak}{st:aL}{N ps:#[T]}{k:Nat}{sp:Sp}(T:Vj K mg C B x c st ps)(S:#[hd])(len:#[P])
  (d:∀ (a:aa) (f:ae) (A:aB) (outer:List Env) (s:ai) (H:Hp) (vs:List V) (Q:VK) (E:XK),Zt k #[80]->XM K C B f->sp vs H Q E ->
   ∃t,PSs #[bw].nox (Zj st) t/\t { nx:=λ_ e=>Q .non e,rt:=Q } #[jG] H):Xf P w K mg base (k+1) C B x ps sp:=by
 obtain⟨f,i,F,m,b,g⟩:=T.ex;exact⟨f,i,F.ok S len (λa A outer s H vs Q E j h=>d a f A outer s H vs Q E j m h),m,b,g⟩
theorem Vj.cls{C B:ae}{x a:ak}{st:aL}{ps:#[T]}(T:Vj K mg C B x a st ps):Xc K C #[nB]:=by obtain⟨f,fd,F,m,b,g⟩:=T.ex;exact m.xc.cls
noncomputable abbrev cx1(P:aw)(w:aD)(K:#[7])(mg:#[J])(base:aH)(N:#[T])(a:ak)(b:be)(f:ae)(c:aa)(A:aB)(outer:#[mE])(s:ai)(H:Hp)(E:XK):Cx :=
 (XT (CX1 P w) P w K mg base N a b f c A outer s H E).wish (XE #[gc,a,b,c] (λ_=>E))
theorem Top.df1{x:ak}{st:aL}{N ps:#[T]}{k:Nat}{sp:Sp}(T:Top K mg x st ps)(S:#[hd])(len:#[P])
  (c:∀ (a:aa) (f:ae) (A:aB) (outer:List Env) (s:ai) (H:Hp) (vs:List V) (Q:VK) (E:XK),Zt k #[en,x]->sp vs H Q E ->
   ∃t,PSs (cx1 P w K mg base N x (Zb st) f a A outer s H E) (Zj st) t/\t { nx:=λ_ d=>Q .non d,rt:=Q } #[jG] H):D1f P w K mg base (k+1) x ps sp:=by
 show#[pn,e];exact⟨f,e,F.ok1 S len #[dN,g,c],m,F.kp,b⟩
universe E
section
variable {X:Cx} {E:St->XK} {k j:Nat} {C B:ae} {x:ak} {ps:List ak} {sp:Sp} {e:aI} {es:List aI} {t:TA} {p pos bg:Pos}
theorem Te(F:D1f X.prog X.w X.K X.mg X.base k x ps sp)(hx:#[ee,a])(hr:#[n0])(ha:#[69])(c:k<=j:=by decide)(d:#[rO]:=by rfl)(g:#[j]:=by decide)
  (h:#[i]:=by rfl) (i:#[A]:=by rfl) :
  PE X #[30] (Md sp E t):=by
 show#[ph,m,l,b];exact ZnD F (hr.mono c) d m l b hx ha g h i
theorem Zs5(F:Xf X.prog X.w X.K X.mg X.base k C B x ps sp)(hx:#[ee,a])(hr:#[n0])(ha:#[69])(c:#[sP]:=by decide)(d:k+1<=j:=by decide)(h:#[rO]:=by rfl)(i:#[j]:=by decide)
  (l:#[i]:=by rfl) (m:#[87]:=by rfl) :
  PS X #[bn] (LW C sp E t):=by
 show#[ph,g,b,n];exact ZmF g F (hr.mono d) h n b c hx ha i l m
universe E
section
variable {K:#[7]} {C D:ae}
theorem Td:PySem.W.kitOne K #[S] #[S]=U true:=by unfold PySem.W.kitOne;rw[if_pos #[4]]
theorem Tc(h1:#[eT,D])(h2:#[oz,#[it]])(a:#[fn,#[S],D]):PySem.W.kitOne K #[S] #[it]=U true:=by
 unfold PySem.W.kitOne;split
 ·rfl
 ·unfold PySem.W.kitCls;have b:#[os]:=h1;dsimp only;rw[b,h2,if_pos #[5]];exact a
theorem W0(h1:#[eT,D])(h2:#[oz,#[it]])(a:PySem.W.subIn K #[S] #[it]=U false)(b:#[dI,#[S],#[S]]):PySem.W.kitOne K #[S] #[it]=U false:=by
 have ne:C≠D:=λz=>by subst z;show#[e8,a,b,b]
 unfold PySem.W.kitOne;rw[if_neg (by simp[ne])];unfold PySem.W.kitCls;have c:#[os]:=h1;dsimp only;rw[c,h2,if_pos #[5]];exact a
theorem Tb(h:#[dI,#[S],#[63]]):PySem.W.kitOne K #[S] #[63]=U true:=by unfold PySem.W.kitOne;rw[if_neg (λz=>by cases z)];unfold PySem.W.kitCls;dsimp only;rw[if_pos #[1]];exact h
universe E
universe E.L2
namespace L2
open PySem PyProof.Rows
section
variable {prog:aw} {w:aD} {A:aB} {E:aa->ai->Prop} {h:aH} {g:Array GenState} {d:Drawn} {t:Nat} {os:OsState} {K:#[7]}
variable {nm q:ak} {C N B:ae} {bs:List aa} {ci:Bool} {sn:List ak} {sub:List aa} {ab:Bool} {bL:Option Bool} {dd:Option ae} {k0 k1 k2 k3 k5:Option aa}
theorem ZkP{u:aa}{Q:#[pS,Fin]}(X:K.In h)(c:#[l])(m:#[ed,#[S],#[35]])
  (hq:∀h' T,#[bz]->h'.get? #[94]=U { cls:=.ref C,data:=.fields #[q] }->Q (.done (.ret #[lz])) #[fR,h',t]) :
  av #[s] A (aT.«type.__call__» ⟨[.ref C,u],[]⟩) Q E #[36]:=by
 repeat (first|with_reducible refine wpAny_loadPart_at c ?_|with_reducible refine wpAny_madeBy_exc c ?_|wp_step)
 refine codeAny_call_builtin_code #[ot] (L8 c ?_);refine L7 FV #[uw] #[s6] #[s5] c ?_ (by show 1<=_;rw[aO];decide);show av _ _ _ _ _ _;generalize i:h.push { cls:=.type "tuple",data:=.seq [u].toArray }=e;have n:e.objs.size=h.objs.size+1:=by rw[<- i];exact QV _ _
 have k1:#[pw,e.get?]:=λb o a=>by rw[<- i];exact Qc _ a
 generalize j:e.push { cls:=.ref C,data:=.fields #[.ref h.objs.size,.none,.none,.none,.bool false,.none] }=f;have k2:#[pw,f.get?]:=λb o a=>by rw[<- j];exact Qc _ (k1 b o a)
 have k:f.get? #[94]=U { cls:=.ref C,data:=.fields #[bh] }:=by rw[<- j,<- n];exact #[t5]
 have l:=k2 _ _ c;have X2:K.In f:=X.keeps k2;have p:#[k8]:=by simp
 unfold isInstance;repeat (first|with_reducible refine wpAny_loadPart_at k ?_|(with_reducible refine wpAny_isSubtype_exc l ?_;rw[p])|wp_step)
 show#[jz];refine bc (am (wpAny_of_eq (FV.init.bind _) ?_));refine am (LZ l k ?_);rintro h' r ⟨s,v⟩
 wp_walk
 exact hq h' s (λb o a=>r b o (λz=>by have:=Qk a;rw[z]at this;exact #[ru]) (k2 b o a)) v
theorem ZsH{u:aa}{Q:#[G]}(X:K.In h)(a:#[l])(c:#[ed,#[S],#[35]])
  (hq:∀h' T,#[bz]->h'.get? #[94]=U { cls:=.ref C,data:=.fields #[q] }->Q #[lz] #[fR,h',t]) :
  av #[s] A (call #[S] [u]) Q E #[36]:=by
 show#[90];repeat (any_goals (first|assumption|with_reducible refine wpAny_loadPart_at a ?_|wp_step))
 refine⟨rfl,codeAny_call_builtin_at #[r2] entry_typeCall (wpAny_check_type_call_sub a (ZkP X a c λh' T k e=>hq h' T k e))⟩
universe E
structure XW (K:#[7]) (mg:#[J]) (C B:ae) (x:ak):Prop where
 obj:X14 λ(nm q:ak) (N:ae) (bs:List aa) (sn:List ak) (sub:List aa) (ab:Bool) (bL:Option Bool) (dd:Option ae) (k0 k1 k2 k3 k5:Option aa) =>
  K.lookup C=U #[bN]
 init:PySem.W.findIn K #[S] "__init__" = U (U #[35])
 kp:PySem.W.keepIn K #[S]=true
 m:mg x=U #[S]
theorem XW.cls{K:#[7]}{mg:#[J]}{C B:ae}{x:ak}(c:XW K mg C B x):Xc K C #[nB]:=by obtain⟨a,q,N,bs,b,sub,d,e,f,k0,k1,k2,k3,k5,h⟩:=c.obj;exact⟨a,q,N,bs,_,b,sub,d,e,f,k0,k1,k2,k3,k5,_,h⟩
def Zqd(C:ae)(E:St->XK)(t:TA):TS:=λ_ a H=>t a H λvs b=>∃x,vs=[.str x]/\E a #[S] af b
section
variable {X:Cx} {E:St->XK} {k j:Nat} {C B:ae} {x m:ak} {ps:List ak} {sp:Sp} {p bn pos bg:Pos} {e o:aI} {es:List aI} {ta:TE} {t:TA}
theorem LV(M:XW X.K X.mg C B x)(hx:#[ee,S])(hr:#[n0])(ha:#[69])(hg:#[rO]:=by rfl)(cB:#[j]:=by decide)
  (he:#[i]:=by rfl) (cx:#[87]:=by rfl) :
  PS X #[bn] (Zqd C E t):=by
 show#[dU,n,w,D];show#[mg];refine am (aU (Q:=λv k=>∃ (A F T:ae) (di:Option ae) (G q:ak) (N:ae) (bs V:List aa) (ci:Bool) (J:List ak) (sub:List aa) (K:Bool) (L:Option Bool) (dd:Option ae) (k0 k1 k2 k3 k5:Option aa) (bE:String),
   v=.ref A/\k.heap.get? F=U (excClassObj G q F N bs V ci J sub K L dd k0 k1 k2 k3 k5 bE)/\V.contains #[M]=true/\k.heap.get? A=U { cls:=.ref F,dict:=di,data:=.fields #[q] }/\X.xe (.ref A) k) (bh (W9 I hg M.m ?_ cB)) #[rx] λ_ _ x=>x)
 refine Q7 (h₀:=X.base) I.ok.mod.kin M.kp (thn (ha bg n s w H _ I h) λus k a=>?_) he cx;obtain⟨vs,l,i,r,y,rfl,q⟩:=a;obtain⟨u,rfl,ru⟩:=r.one;show#[o7,G,J,K,L,W];show#[ga,f,Y,k];refine⟨i.kIn,ZsH i.kIn (i.kIn _ _ W) M.init λh' T Z O=>?_⟩;have hn:l #[iU]=af:=i.hok.fresh (QZ _);have I2:Inv X n w #[qn] #[fR,h',Y]:=i.laid (a:=f.objs.size+1) (h':=h') (t':=Y) (λb u z=>Z b u z) (QZ _) (Tf O);have I3:=I2.untrack (e:=f.objs.size+1) Zd;have eH:off #[iU] #[qn]=l:=by
  funext b;unfold off;by_cases z:b=f.objs.size+1
  ·rw[if_pos z,z,hn]
  ·rw[if_neg z,Zc z]
 rw[eH]at I3;have P:∀a o,f.get? a=U o->a≠f.objs.size+1:=λa o ha z=>by have:=Qk ha;rw[z]at this;exact #[ru]
 refine⟨f.objs.size+1,C,T,af,G,q',N,bs,.ref B::YO,true,J,sub,K,L,dq,k0,k1,k2,k3,k5, "ValueError.__new__",rfl,Z _ _ (i.kIn _ _ W),by rw[QI,FV.hasBase,Qai],O,hx _ _ ?_⟩;refine⟨f.objs.size+1,.ref C,af,n,w,l,rfl,Qi i.sz (QZ _),λz=>?_,λy c hc z=>?_,hn,I3,λp hp z=>?_,.inl ⟨_,_,O,rfl,rfl,rfl,rfl⟩,q⟩
 ·show#[g1,R,i.loc,P]
 ·obtain⟨v,o,R,_⟩:=i.cell y c hc;exact P _ _ R z
 ·exact P _ _ (i.pin p hp).1 z
structure M1f (P:aw) (w:aD) (K:#[7]) (mg:#[J]) (base:aH) (k:Nat) (C:ae) (m:ak) (ps:#[T]) (sp:Sp):Prop where
 ex:X2 λf fd=>YX P w K mg base (CX1 P w) k f fd ps sp/\Vw K C m f/\YG K fd ps []
def ZrW(C:ae)(m:ak)(sp:Sp)(E:St->XK)(ta:TE)(t:TA):TE:=λa H Q=>ta a H λx b=>RMt C m x b (t a b λvs c=>sp (x::vs) c Q (E a))
theorem Wk{pl:Sem Bool}(F:#[ex,M1f,m])(c:#[no])(hx:#[ee,d])(hr:#[n0])(he:#[l0])(ha:#[69])(y:k<=j:=by decide)
  (z:#[i]:=by rfl) (A:#[A]:=by rfl)
  (B:eval #[37] X.env=(do
   let g <- eval o X.env
   standAt bn.atName
   let (f,first) <- holding [g] (getMethod g m pl)
   callWith pos f first (bb pos #[hy]) #[aC]):=by rfl) :
  PE X #[37] (ZrW C m sp E ta t):=by
 obtain⟨f,fd,F,i,b⟩:=F.ex;show#[oM,n,p,B];show#[fw,D,G,v,J,K];refine RN v K c i l ?_;refine Q7 (first:=#[jW]) (h₀:=X.base) I.ok.mod.kin i.kp (thn (ha pos n D p G _ v q) λus s2 ⟨vs,H2,w,r,L⟩=>⟨w.kIn,?_⟩) z A;exact Me (us:=.ref a::us) (vs:=.ref a::vs) F (hr.mono y) b hx w (.cons rfl r) L
universe E
theorem Yr.mf1{P:aw}{w:aD}{K:#[7]}{mg:#[J]}{base:aH}{C:ae}{m c:ak}{st:aL}{N ps:#[T]}{k:Nat}{sp:Sp}(T:Yr K C m c st ps)(S:#[hd])(len:#[P])
  (d:∀ (a:aa) (f:ae) (A:aB) (outer:List Env) (s:ai) (H:Hp) (vs:List V) (Q:VK) (E:XK),Zt k #[80]->sp vs H Q E ->
   ∃t,PSs (cx1 P w K mg base N c (Zb st) f a A outer s H E) (Zj st) t/\t { nx:=λ_ e=>Q .non e,rt:=Q } #[jG] H):M1f P w K mg base (k+1) C m ps sp:=by
 show#[pn,g];exact⟨f,g,F.ok1 S len #[dN,i,d],m,b⟩
universe E.L2
namespace L2
open PySem PySem.Builtin PySem.Builtin.Str PyProof.Rows
def Zq2:V->List V->Hp->VK->Prop:=λx vs H Q=>X2 λz y:ak=>x=.str z/\vs=[.str y]/\(y.length == 0)=false/\z.length<=aq/\(Txt.split z y).length<=aq/\∀a,H a=af->Q #[cd] (upd H a (.lst #[jH]))
section
variable {X:Cx}
theorem LU(k:Nat):∀ys:List ak,ZK #[k4] ((numbered k ys).map λp=>aa.str p.1 p.2)
 | []=>.nil
 | y::r=>by show ZK (V.str y::r.map V.str) (aa.str y k::(numbered (k+1) r).map λp=>aa.str p.1 p.2);exact .cons #[E] (LU (k+1) r)
theorem LS:MtR X "str.split" Zq2:=by
 intro n s p H x vs v us Q I r w h;obtain⟨z,y,rfl,rfl,i,d,j,q⟩:=h;show#[dP,t,r];obtain⟨u,rfl,A⟩:=w.one;show#[dP,f,A];have one:∀ (k:Nat),[z]=Txt.split z y->X2 λl m=>Inv X n p m { s with toks:=k,heap:=s.heap.push { cls:=.type "list",data:=.seq #[.str z t] } }/\ZI l #[aP]/\Q l m:=λk e=>by refine⟨.ref s.heap.objs.size,_,I.laid (t':=k) (o:=.lst #[jH]) #[oX,o,g] #[ih] ?_,rfl,q _ #[ap]⟩;rw[<- e];exact⟨by show 1<=aq;decide,[.str z t],_,.cons #[E] .nil,Qr _ rfl⟩
 cases a:(decide (z.length<y.length)||decide (strKind z<strKind y))
 ·cases c:(occurrences z y 0 z.length (z.length+1)).isEmpty
  ·have e:Txt.split z y=partsBetween z (occurrences z y 0 z.length (z.length+1)) y.length:=#[n5].trans (if_neg (ne_true_of_eq_false c));refine call_meets F.slot_str_split #[ok] F.entry_str_split #[kG] (meets_str_split_sep z y t f a i c d #[er,e,j]) ?_;refine⟨.ref s.heap.objs.size,_,I.laid (t':=s.toks+#[af].length) (h':=s.heap.push { cls:=.type "list",data:=.seq (strsFrom s.toks #[af]).toArray }) (o:=.lst #[jH]) #[oX,o,g] #[ih] ?_,rfl,q _ #[ap]⟩;refine⟨by rw[Qa];exact j,strsFrom s.toks #[af],_,?_,Qr _ rfl⟩;rw[strsFrom_eq,e];exact LU _ _
  ·exact call_meets F.slot_str_split #[ok] F.entry_str_split #[kG] (meets_str_split_not_found z y t f a i c) (one _ (#[n5].trans (if_pos c)).symm)
 ·exact call_meets F.slot_str_split #[ok] F.entry_str_split #[kG] (meets_str_split_cannot_occur z y t f a) (one _ (if_pos a).symm)
universe E
noncomputable def gl(c:Nat):List (List Nat)->List Nat
 | []=>[]
 | [a]=>a
 | a::b::r=>a++c::gl c (b::r)
theorem LR{c:Nat}:∀ {xs ys:List (List Nat)},xs≠[]->ys≠[]->(∀a∈xs,c ∉ a)->(∀a∈ys,c ∉ a)->gl c xs=gl c ys->xs=ys
 | [],_,h,_,_,_,_=>absurd rfl h
 | _,[],_,h,_,_,_=>absurd rfl h
 | [a],[b],_,_,_,_,e=>by rw[show a=b from e]
 | [a],b::b2::r,_,_,ha,_,e=>by have e':a=b++c::gl c (b2::r):=e;exact absurd #[px,e'] (ha a #[4])
 | a::a2::q,[b],_,_,_,f,e=>by have e':a++c::gl c (a2::q)=b:=e;exact absurd (by rw[<- e'];simp) (f b #[4])
 | a::a2::q,b::b2::r,_,_,ha,f,e=>by
  have e':a++c::gl c (a2::q)=b++c::gl c (b2::r):=e;have cut:∀ (x y u v:List Nat),c ∉ x->c ∉ y->x++c::u=y++c::v->x=y/\u=v:=λx=>by
   induction x with
   | nil =>
    intro y u v _ g h;cases y with
    | nil=>exact⟨rfl,by injection h⟩
    | cons z y=>injection h with d _;exact absurd #[px,d] g
   | cons w x k =>
    intro y u v j g h;cases y with
    | nil=>injection h with d _;exact absurd (by rw[<- d];simp) j
    | cons z y=>injection h with d l;obtain⟨n,o⟩:=k y u v (λm=>j (Qs _ m)) (λm=>g (Qs _ m)) l;exact⟨by rw[d,n],o⟩
  obtain⟨p,s⟩:=cut _ _ _ _ (ha a #[4]) (f b #[4]) e';rw[p,LR #[4] #[4] (λz i=>ha z (Qs _ i)) (λz i=>f z (Qs _ i)) s]
theorem Rt(c:Nat):∀ws:List ak,#[kv].cps.toList=gl c (ws.map λw=>w.cps.toList)
 | []=>rfl
 | [a]=>by simp[ak.join,gl]
 | a::b::r=>by
  have ih:=Rt c (b::r);have e:(ak.join #[aK] (a::b::r)).cps.toList=a.cps.toList++c::(ak.join #[aK] (b::r)).cps.toList:=by show ((a++(#[aK]:ak))++ak.join #[aK] (b::r)).cps.toList=_;show ((a.cps++#[c])++(ak.join #[aK] (b::r)).cps).toList=_;simp
  rw[e,ih];rfl
theorem LQ{c:Nat}{ws:#[T]}(j:ws≠[])(h:∀w∈ws,c ∉ w.cps.toList):Txt.split (Txt.join #[aK] ws) #[aK]=ws:=by
 have e:Txt.join #[aK] ws=ak.join #[aK] ws:=by simpa using join_plain_closes #[aK] ws
 rw[e];have d:=StrLaws.join_split #[kv] #[aK];have f:=StrLaws.split_free #[kv] c;have g:Txt.split #[kv] #[aK]≠[]:=λz=>by
  unfold Txt.split at z;split at z
  ·cases z
  ·split at z
   ·cases z
   ·unfold partsBetween at z;revert z;cases occurrences (ak.join ⟨#[c]⟩ ws) ⟨#[c]⟩ 0 (ak.join ⟨#[c]⟩ ws).length ((ak.join ⟨#[c]⟩ ws).length+1)<;>simp
 generalize Txt.split (ak.join ⟨#[c]⟩ ws) ⟨#[c]⟩=zs at d f g;have i:=congrArg (λx:ak=>x.cps.toList) d;simp only[Rt]at i;have:=LR (c:=c) (xs:=zs.map λw=>w.cps.toList) (ys:=ws.map λw=>w.cps.toList) #[dq,g] #[dq,j] (λa b=>by obtain⟨w,hw,rfl⟩:=Qq.mp b;exact f w hw) (λa b=>by obtain⟨w,hw,rfl⟩:=Qq.mp b;exact h w hw) i;have inj:∀ (xs ys:List ak),xs.map (λw=>w.cps.toList)=ys.map (λw=>w.cps.toList)->xs=ys:=λxs=>by
  induction xs with
  | nil=>intro ys h;cases ys with
   | nil=>rfl
   | cons=>cases h
  | cons x r k =>
   intro ys h;cases ys with
   | nil=>cases h
   | cons y q=>injection h with l m;rw[k q m,show x=y from by obtain⟨x⟩:=x;obtain⟨y⟩:=y;exact congrArg ak.mk (Array.toList_inj.mp l)]
 exact inj _ _ this
structure KD (K:#[7]) (w:aD) (a:ae):Prop where
 at':X2 λ(es:Array DictEntry) (n:Nat)=>K.lookup a=U #[gd,es,n]/\PySem.W.KeysLit w.params es.toList
 lo:#[l7]=false
def Zth(K:#[7])(w:aD):R2:=λx y H Q=>X4 λa s v u=>x=.ref a/\y=.str s/\KD K w a/\PySem.W.nsIn K a s=U (U u)/\ZI v u/\Q v H
def Ztg(K:#[7])(w:aD)(b:Bool):R2:=λy x H Q=>X3 λa s r=>x=.ref a/\y=.str s/\KD K w a/\PySem.W.nsIn K a s=U r/\Q (.bl (if b then !r.isSome else r.isSome)) H
section
variable {X:Cx} {K:#[7]} {w:aD}
theorem Rs(d:X.K=K:=by rfl)(hw:X.w=w:=by rfl):IxR X (Zth K w):=by subst d;subst hw;intro value e9 ah s σ H x y v u Q I f g h i;obtain⟨a,z,j,u',rfl,rfl,D,e,r,q⟩:=h;cases f;obtain⟨t,rfl⟩:=g;obtain⟨es,n,b,k⟩:=D.at';have c:=PySem.W.mapOf_K (prog:=X.prog) I.kIn b k;exact Mo c.typeIs PySem.F.slot_dict_getitem.lookup i (wpAny_getItem_of #[nx] c (PySem.W.find_K b e) ⟨j,H,I.tok _,r,q⟩)
theorem Zqy(c:X.K=K:=by rfl)(hw:X.w=w:=by rfl):OpR X (aS .NotIn) (Ztg K w true):=by subst c;subst hw;intro ah s σ H x y v u Q I d f h;obtain⟨a,z,r,rfl,rfl,D,e,q⟩:=h;cases f;obtain⟨t,rfl⟩:=d;obtain⟨es,n,b,g⟩:=D.at';exact wpAny_notIn_of #[nx] D.lo (PySem.W.mapOf_K (prog:=X.prog) I.kIn b g) (by rw[PySem.W.find_K b e];exact⟨.bl (!r.isSome),H,I.tok _,rfl,q⟩)
universe E
structure Fv (P:aw) (w:aD) (K:#[7]) (mg:#[J]) (base:aH) (k:Nat) (f:ae) (sp:Sp):Prop where
 ex:X2 λfd ps=>YX P w K mg base CX0 k f fd ps sp/\PySem.W.keepIn K #[73]=true/\YG K fd ps []
def ZrD(P:aw)(w:aD)(K:#[7])(mg:#[J])(base:aH)(k:Nat)(b:TE)(t:TA):TE:=λa H Q=>b a H λv c=>X2 λf sp=>v=.ref f/\Fv P w K mg base k f sp/\t a c λvs d=>sp vs d Q λ_ _ _=>False
theorem Zn2{X:Cx}{k j:Nat}{x:ak}{p pos:Pos}{e:aI}{c:#[iS]}{d:TE}{t:TA}(n:PE X (.Name x p) d)(hr:#[n0])(ha:PA X (e::c) t)(o:k<=j:=by decide)
  (u:aC (e::c) X.env=#[eb,e]::aC c X.env:=by rfl) (w:(bb pos (aC c X.env)).any #[iw]=false:=by rfl) :
  PE X (.Call (.Name x p) (e::c) [] pos) (ZrD X.prog X.w X.K X.mg X.base k d t):=by
 show#[dU,g,i,Q];refine bh (thn #[dG,n,g,i] λv z a=>?_);obtain⟨y,A,l,B,f,sp,rfl,F,q⟩:=a;cases B;obtain⟨fd,ps,F,C,b⟩:=F.ex;refine Q7 (h₀:=X.base) l.ok.mod.kin C (thn (ha pos g z i A _ l q) λus s2 ⟨vs,H2,m,r,q⟩=>⟨m.kIn,?_⟩) u w;exact Tu (dvs:=[]) F (hr.mono o) b .nil Vr m r #[dp,Qad,q]
universe E.L2
namespace L2
open PySem PyProof.Rows
section
variable {prog:aw} {w:aD} {A:aB} {E:aa->ai->Prop} {s:ai} {env:Env}
theorem LP{e:ae}{t:aI}{a:aL}{d:#[kY]}{pos:Pos}{Y4:List ExceptHandler}{Q:#[pS,Flow]}
  (h:av #[s] #[ky] (eval t env) (λc g=>av #[s] #[ky] (excMatches #[bA] c) (λb i=>b=true /\
   av #[s] #[ky] (setFlight #[bA] af) (λ_ j=>av #[s] #[ky] (execs (a::d) env) (λf k=>Q f k)
    (λ_ _=>False) j) #[k2] i) #[k2] g) #[k2] s) :
  av #[s] A (handleBy #[bA] env (.ExceptHandler (U t) af (a::d) pos::Y4)) Q E s:=by
 refine wpAny_handleBy_cons (codeAny_handlers_test (aU h (λc g l=>aU l #[g5,b,i,m] λ_ _ x=>x.elim) λ_ _ x=>x.elim)) (by intro q;cases q);obtain⟨rfl,n⟩:=m;exact codeAny_handlers_suite (aU n (λ_ j o=>aU o (λf k p=>p) λ_ _ x=>x.elim) λ_ _ x=>x.elim)
universe E
def LO(K:#[7])(b:ae)(c:TS)(D:XU):St->XK:=λd cls dd H=>X2 λC a=>cls=.ref C/\Xc K C a/\#[l6].contains #[sE]=true/\c { nx:=D.nx,rt:=D.rt } d H
def Zs6(K:#[7])(a:ae)(b:#[sB])(c:TS):TS:=λD d H=>b (LO K a c D) D d H
section
variable {X:Cx}
theorem LN{x:ak}{np V pos:Pos}{G:#[kY]}{J:aL}{K:#[kY]}{j:ae}{L:#[az]}{O:#[sB]}{l:TS}
  (hb:∀ (d:List (ae×aM)) (E:St->XK),PSs #[nG] G (O E)) (W:∀e,PSs (X.mkd e) (J::K) l)
  (m:#[bJ]) (Y:#[rO]) (hm:X.mg x=U (.ref j)) (Z:Xc X.K j L) (er:L.contains #[M]=true) (cB:#[j]:=by decide) :
  PS X (.Try G [.ExceptHandler (U (.Name x np)) af (J::K) V] [] [] pos) (Zs6 X.K j O l):=by
 show#[dU,d,σ,D];refine wpAny_Try_except (aU (hb d (LO X.K j l D) [] s σ H D (I.pnd.wish _) h) #[g5,f,g,n] λev g n=>?_)
 ·have i:SP X d D f g:=n.unwish.unpnd;cases f with
  | next=>exact wpAny_execs_nil i
  | brk=>exact i
  | cont=>exact i
  | ret u=>exact i
 obtain⟨e,cls,dd,gR,P,Q,rfl,he,nc,ng,hn,I',hp,hx,C,bm,rfl,hC,il,fc⟩:=n;obtain⟨B,M,o,hM,R⟩:=I'.fly m he nc ng hn hp hx;have eB:#[qK]:=by rw[<- m.1];exact I.ok.frames
 refine o.noted eB m.2 λi a b c=>?_;refine UL o.hB (s:=#[gx,g,i]) (F:=af) b a c λp a3 b3 c3=>?_;have r:#[fv,d,P,Q,g,p]:=(R p a3).unpnd;refine LP ?_;refine W9 (X:=X.mkd e) (r.mkd e) Y hm ?_ cB;show#[nY];obtain⟨nm,q,N,bs,ci,sn,sub,ab,bL,dq,k0,k1,k2,k3,k5,bE,lC⟩:=hC;obtain⟨eD,q',N',yx,qt,yy,uD,yz,uE,dq',yA,yB,yC,yD,yE,oC,C5⟩:=Z;refine Zi2 (r.kIn _ _ lC) (r.kIn _ _ C5) md kW er il ⟨rfl,?_⟩;refine UL o.hB (s:=#[gx,g,p]) (F:=af) b3 a3 c3 λS a4 b4 c4=>?_;have I4:#[fv,d,P,Q,g,S]:=(R S a4).unpnd;refine aU (W e d _ _ _ _ (I4.mkd e) fc) #[g5,f,s6,k] λ_ _ z=>z;cases f with
 | next=>obtain⟨t,w,y,A⟩:=k;exact⟨t,w,y.unmkd I.ok,A⟩
 | brk=>obtain⟨_,_,_,z⟩:=k;exact z.elim
 | cont=>obtain⟨_,_,_,z⟩:=k;exact z.elim
 | ret u=>obtain⟨v,t,w,y,r7,A⟩:=k;exact⟨v,t,w,y.unmkd I.ok,r7,A⟩
universe E
theorem Yy.keep{NB:#[sg]}{h h':aH}{e:ae}{cls a:aa}{d:#[ay]}(c:Yy NB h e cls d a)(k:#[pw,h'.get?]):Yy NB h' e cls d a:=by obtain⟨f,g,T,i,j,l,m,n,p,q,r,s,t⟩:=c.ex;exact⟨f,g,T,i,j,k _ _ l,m,n,p,q,r,k _ _ s,t⟩
theorem Xy.more{B:aH}{d:#[j7]}{h h':aH}(a:Xy B d h)(k:#[pw,h'.get?]):Xy B d h' :=
 ⟨λb o c n=>k _ _ (a.1 b o c n),λb o c=>let ⟨e,z⟩:=a.2 b o c;⟨e,k _ _ z⟩⟩
def Ta(h:aH)(C:ae)(a:#[az]):Prop:=X16 λ(nm q:ak) (N:ae) (bs:List aa) (b:Bool) (c:List ak) (sub:List aa) (d:Bool) (e:Option Bool) (f:Option ae) (k0 k1 k2 k3 k5:Option aa) (g:String) =>
 h.get? C=U #[ix]
theorem Xc.at'{K:#[7]}{C:ae}{a:#[az]}{h:aH}(c:Xc K C a)(X:K.In h):Ta h C a:=by obtain⟨b,q,N,bs,d,e,sub,f,g,i,k0,k1,k2,k3,k5,j,l⟩:=c;exact⟨b,q,N,bs,d,e,sub,f,g,i,k0,k1,k2,k3,k5,j,X _ _ l⟩
section
variable {M:Model} {A:aB} {E:aa->ai->Prop} {h:aH} {g:Array GenState} {d:Drawn} {t:Nat} {os:OsState}
theorem Zkg{C a b k e:ae}{f i j:#[az]}{l:aM}{b1 b2:Bool}{Q:#[pS,Bool]}(c:Ta h C f)(h1:Ta h a i)(h2:Ta h b j)(ht:IsTup h k #[.ref a,.ref b])
  (he:h.get? e=U l) (r:l.cls=.ref C) (s:i.contains #[M]=true) (u:j.contains #[M]=true) (v:(aa.ref C::f).contains #[cd]=b1) (m:(aa.ref C::f).contains #[sE]=b2) (hq:Q (b1||b2) #[36]):av M A (excMatches #[bA] (.ref k)) Q E #[36]:=by
 obtain⟨nm,q,N,bs,ci,sn,sub,ab,bL,dq,k0,k1,k2,k3,k5,bE,c⟩:=c;obtain⟨nm1,q1,N1,bs1,C6,sn1,E9,ab1,Fa,dq1,k01,k11,k21,k31,k51,Cq,h1⟩:=h1;obtain⟨sU,q2,N2,bs2,C7,sn2,Fb,ab2,Fc,dq2,qA,k12,k22,k32,k52,Cr,h2⟩:=h2;have w:#[gP,a,i]:=by rw[QI,s,Qai]
 have x:#[gP,b,j]:=by rw[QI,u,Qai]
 obtain⟨o,p,y,n,hd⟩:=ht;unfold excMatches;refine am (wpAny_isInstance ⟨o,p,y⟩ isSubtype_tuple_tuple ?_);dsimp only;show#[t0];refine am (bB p hd ?_);dsimp only[Option.getD_some,Option.getD];repeat (first|(with_reducible refine wpAny_loadPart_at he ?_;rw[r])|with_reducible refine wpAny_loadPart_at h1 ?_|with_reducible refine wpAny_loadPart_at h2 ?_|(with_reducible refine wpAny_isSubtype_exc h1 ?_;rw[w])|(with_reducible refine wpAny_isSubtype_exc h2 ?_;rw[x])|(with_reducible refine wpAny_isSubtype_exc c ?_;first|rw[v]|rw[m])|wp_step)
 cases b1 with
 | true=>wp_walk;exact hq
 | false =>
  repeat (first|(with_reducible refine wpAny_isSubtype_exc c ?_;rw[m])|wp_step)
  cases b2<;>(wp_walk;exact hq)
universe E
def LM(K:#[7])(b c:ae)(d:TS)(D:XU):St->XK:=λe cls dd H=>X2 λC a=>cls=.ref C/\Xc K C a/\(#[l6].contains #[sE]||(aa.ref C::a).contains #[uP])=true/\d { nx:=D.nx,rt:=D.rt } e H
def ZsB(K:#[7])(a b:ae)(c:#[sB])(d:TS):TS:=λD e H=>c (LM K a b d D) D e H
section
variable {X:Cx}
theorem ZpG{l m:ak}{r t np gQ pos:Pos}{kt}{R:#[kY]}{S:aL}{V:#[kY]}{g i:ae}{W Y:#[az]}{Z:#[sB]}{w:TS}
  (hb:∀ (d:List (ae×aM)) (E:St->XK),PSs #[nG] R (Z E)) (vT:∀e,PSs (X.mkd e) (S::V) w)
  (C8:Gl X l) (eV:X.mg l=U (.ref g)) (C9:Gl X m) (dA:X.mg m=U (.ref i)) (ml:(l == ("__debug__" : ak))=false) (lY:(m == ("__debug__" : ak))=false) (Db:aC [.Name l r,.Name m t] X.env=[(false,eval (.Name l r) X.env),(false,eval (.Name m t) X.env)])
  (x:#[bJ]) (Dc:Xc X.K g W) (Dd:Xc X.K i Y) (sW:W.contains #[M]=true) (sX:Y.contains #[M]=true) :
  PS X (.Try R [.ExceptHandler (U (.Tuple [.Name l r,.Name m t] kt np)) af (S::V) gQ] [] [] pos) (ZsB X.K g i Z w):=by
 show#[dU,d,σ,D];refine wpAny_Try_except (aU (hb d (LM X.K g i w D) [] s σ H D (I.pnd.wish _) h) #[g5,f,k,y] λev k y=>?_)
 ·have n:SP X d D f k:=y.unwish.unpnd;cases f with
  | next=>exact wpAny_execs_nil n
  | brk=>exact n
  | cont=>exact n
  | ret u=>exact n
 obtain⟨e,cls,dd,gR,A,G,rfl,he,nc,ng,hn,I',hp,hx,C,bm,rfl,hC,il,fc⟩:=y;obtain⟨B,M,J,hM,K⟩:=I'.fly x he nc ng hn hp hx;have eB:#[qK]:=by rw[<- x.1];exact I.ok.frames
 refine J.noted eB x.2 λn a b c=>?_;refine UL J.hB (s:=#[gx,k,n]) (F:=af) b a c λj a3 b3 c3=>?_;have I3:#[fv,d,A,G,k,j]:=(K j a3).unpnd;refine LP ?_;refine Tuple_ ?_;rw[Db];refine Calls.spliced_cons (W9 (X:=X.mkd e) (I3.mkd e) C8 eV ?_ ml);refine Calls.spliced_cons (W9 (X:=X.mkd e) (I3.mkd e) C9 dA ?_ lY);refine aF ?_;refine bD ?_ #[61];have p:∀b o,j.get? b=U o->(j.push { cls:=.type "tuple",data:=.seq [aa.ref g,.ref i].toArray }).get? b=U o:=λb o hb=>Qc _ hb;have c5:=c3.keep p;have a5:=a3.more p;have b5:=b3.of_keeps (h':=j.push { cls:=.type "tuple",data:=.seq [aa.ref g,.ref i].toArray }) λb o hb _=>⟨o,p b o hb,rfl⟩;show#[nY];have I5:Inv X d A G { k with heap:=j.push { cls:=.type "tuple",data:=.seq [aa.ref g,.ref i].toArray } }:=(K _ a5).unpnd;have L:=I5.kIn;refine Zkg (hC.at' L) (Dc.at' L) (Dd.at' L) (IsTup.new j _) (p _ _ md) kW sW sX rfl rfl ⟨il,?_⟩;refine UL J.hB (s:={ k with heap:=j.push { cls:=.type "tuple",data:=.seq [aa.ref g,.ref i].toArray } }) (F:=af) b5 a5 c5 λh4 a4 b4 c4=>?_;have I4:#[fv,d,A,G,k,h4]:=(K h4 a4).unpnd;refine aU (vT e d _ _ _ _ (I4.mkd e) fc) #[g5,f,s6,q] λ_ _ z=>z;cases f with
 | next=>obtain⟨N,O,P,Q⟩:=q;exact⟨N,O,P.unmkd I.ok,Q⟩
 | brk=>obtain⟨_,_,_,z⟩:=q;exact z.elim
 | cont=>obtain⟨_,_,_,z⟩:=q;exact z.elim
 | ret u=>obtain⟨v,N,O,P,r7,Q⟩:=q;exact⟨v,N,O,P.unmkd I.ok,r7,Q⟩
universe E
def Ztb(a:TE):TE:=λb H Q=>a b H λv c=>∃x,v=.str x/\x.length<=aq/\Q #[uO] c
theorem Rr{X:Cx}{e:aI}{c:TE}{pos:Pos}(he:PE X e c):PE X #[ow] (Ztb c):=by intro d s f H Q I h;refine FormattedValue_plain #[vz,d,f,s1];obtain⟨v,g,i,r,x,rfl,j,q⟩:=a;obtain⟨b,rfl⟩:=#[dK,b,aa.str,x,r];exact formatField_str (λt' b=>⟨.str x,g,i.tok _,#[E],q⟩) j
section
variable {prog:aw} {w:aD} {A:aB} {E:aa->ai->Prop} {s:ai}
theorem Zm2{l:ae}{items:#[sl]}{Q:List aa->ai->Prop}(hl:s.heap.IsList l items)(n:#[iZ])(hn:0<items.size)(hz:items.size<=16384)
  (h:∀ (a:aH) (tk:Nat),#[gt,o,a.get?]->Q (items.toList.take 1++[.ref a.objs.size]++[]) { s with heap:=a.push { cls:=.type "list",data:=.seq (items.toList.drop 1).toArray },toks:=tk }) :
  av #[s] A (unpackItems #[cT] 2 (U 1)) Q E s:=by
 have c:l≠s.heap.objs.size:=by obtain⟨o,p,_⟩:=hl;exact Qx (Qk p)
 unfold unpackItems;refine am ?_;unfold notIterableAtAll;refine am (wpAny_specialOf hl.typeIs slot_list_iter.lookup ?_);refine aF ?_;simp only[Bool.false_eq_true,if_false];refine am (bc (cA hl ?_));refine am (bc (PySem.W.kun_draw c 1 0 _ _ #[81] (hl.push _) #[2] λg f i=>?_));have m:g.IsList l items:=(hl.push _).extBut i.extBut c;rw[Nat.zero_add]at f;have q:=f;obtain⟨oi,r,_⟩:=q;have t:=m;obtain⟨ol,v,_⟩:=t;rw[List.drop_zero];have x:(items.toList.take 1).length=1:=by rw[Qv,QaJ];lia
 rw[if_neg (show ¬ ((items.toList.take 1).length<1) by rw[x];lia)];refine am (bc (PySem.W.kun_collect (s:=#[gx,s,g]) (T := "list_iterator") (.inr #[rb]) (Walks.list (A:=A.in1) n s.heap.objs.size l c items) (λj u st=>st.1.typeIs) (k:=1) #[2] ⟨f,m⟩ (Qk r) (Qk v) #[g5,a,tk,y] #[eM,aO]));have z:#[70].length=items.size-1:=by rw[QT,QaJ]
 show av _ _ (if #[70].length<2-1-1 then _ else _) _ _ _;rw[if_neg #[2]];show av _ _ (newList (#[70].take #[iP]) >>= λd=>pure (items.toList.take 1++[d]++#[70].drop #[iP])) _ _ _;have B:#[70].take #[iP]=items.toList.drop 1:=Qw #[ih];have C:#[70].drop #[iP]=[]:=List.drop_of_length_le #[ih];rw[B,C];have D:#[d3,o,s.heap.get?,a.get?]:=λb o e=>y b o #[mS] (i.extBut b o #[mS] (Qc _ e));exact am (bD (aF (h a tk D)) (by show (items.toList.drop 1).length<=aq;rw[z,aO];lia))
universe E
def Zsz(K:#[7])(t:TGs):TG:=λv a H Q=>X3 λp x xs=>v=.ref p/\SqL K H p (x::xs)/\xs.length<16384/\∀l,H l=af->t [x,.ref l] a #[gB,l,xs] Q
section
variable {X:Cx}
theorem Zn7{e:aI}{p:Pos}{t:TG}(h1:PG X e t)(hs:(bQ [.Starred e p] X.env).map #[kc]=[assign e X.env]:=by rfl):PGs X [.Starred e p] (NQ t NR):=by
 show#[pI,a,b,vs];obtain⟨v,vr,c,h⟩:=h;subst c;cases r with
 | cons r d=>rw[hs];refine assignInOrder_cons (thn (h1 a s b H _ _ _ I r h) ?_);rintro _ s1 ⟨f,g,i,j⟩;show#[dz,k,l,j];subst k;cases d;exact assignInOrder_nil ⟨f,g,i,l⟩
theorem Zpi{d:#[iS]}{k:Nat}{pos:Pos}{t:TGs}{K:#[7]}(h:PGs X d t)(q:X.K=K:=by rfl)(hc:#[aD]:=by rfl)(hn:#[u9,d].length=2:=by rfl)(w:#[u9,d].findIdx? #[iw]=U 1:=by rfl):PG X (.Tuple d k pos) (Zsz K t):=by
 subst q;intro g s i H v u Q I r hw;obtain⟨a,x,j,y,z,hl,hw⟩:=hw;subst y;cases r;show#[ff,l,A,hz,z];have m:=l.length;rw[assign_Tuple];refine am (bx ?_);unfold unpack;rw[hn,w];rw[QA]at m;have hsz:its.toArray.size=j.length+1:=by simpa using m.symm
 refine am (bc (Zm2 A.isList #[ic] #[2] #[2] λc f B=>?_));cases l with
 | cons C D=>rename_i u n;have p:Inv X g i H { s with heap:=c,toks:=f }:=I.kept (t':=f) λb o e=>B b o e;have E:H c.objs.size=af:=p.hok.fresh #[ih];have F:Inv X g i #[gB,c.objs.size,j] { s with heap:=c.push { cls:=.type "list",data:=.seq ((u::n).toArray.toList.drop 1).toArray },toks:=f }:=p.laid (t':=f) #[oX,o,e] #[ih] ⟨by rw[aO];lia,n,_,D,Qr _ rfl⟩;exact h g _ i _ [x,.ref c.objs.size] [u,.ref c.objs.size] Q F (.cons C #[ii]) (hw _ E)
universe E
theorem Zk6:typeLookup #[bX] "__int__" = pure af:=by rw[typeLookup_type,builtinLookup_eq_fast];kernel_rfl
theorem Zje:typeLookup #[bX] "__index__" = pure af:=by rw[typeLookup_type,builtinLookup_eq_fast];kernel_rfl
theorem Zjb:typeLookup #[bX] "__trunc__" = pure af:=by rw[typeLookup_type,builtinLookup_eq_fast];kernel_rfl
theorem Zst{α:Type}{M:Model}{A:aB}{t t':Sem α}{Q:α->ai->Prop}{E:#[G]}{s:ai}(h:t=t')(hq:av M A t' Q E s):av M A t Q E s:=h ▸ hq
theorem ZiF(n:Nat)(hn:n<10)(t:Tok):Meets (aT.«int.__new__» ⟨[.type "int",.str #[hL] t],[]⟩) (Made.int (n:Int)).spec :=
 Meets.of_wp λprog w A R s a=>by
  show#[ga,b,c,s];have f1:=F.conv_sub_int;have f2:=F.madeHere_int;have hT:(#[fR,b,c]:ai).TypeIs (.str #[hL] t) "str":=rfl;have f3:=Zk6;have f4:=Zje;have f5:=Zjb;repeat (any_goals (first|assumption|wp_step))
  refine Zst (t':=mkInt (n:Int)) (by rcases(show n=0\/n=1\/n=2\/n=3\/n=4\/n=5\/n=6\/n=7\/n=8\/n=9 by lia) with rfl|rfl|rfl|rfl|rfl|rfl|rfl|rfl|rfl|rfl<;>kernel_rfl) ?_;repeat (any_goals (first|assumption|wp_step))
  all_goals exact⟨_,rfl,a⟩
def Zsf:List V->Hp->VK->Prop:=λvs H Q=>∃n:Nat,vs=[.str #[hL]]/\n<10/\Q #[n9] H
theorem Zmh{prog:aw}{w:aD}{A:aB}{E:#[G]}{s:ai}{n:Nat}{t:Tok}{Q:#[G]}(hn:n<10)(h:Q (.int (n:Int) s.toks) { s with toks:=s.toks+1 }):av #[s] A (call #[id] [.str #[hL] t]) Q E s :=
 call_int_1 (ZiF n hn t) (show (Made.int (n:Int)).post _ s from⟨rfl,h⟩)
theorem ZtS{X:Cx}:YU X #[id] Zsf:=by intro ah s σ H xs us Q I r h;obtain⟨n,rfl,a,q⟩:=h;obtain⟨u,rfl,t,rfl⟩:=Xq r;exact Zmh a ⟨.int (n:Int),H,I.tok _,#[E],q⟩
theorem Zrk{X:Cx}{k j:Nat}{C:ae}{x:ak}{ps:#[T]}{sp:Sp}{p pos:Pos}(F:#[ex,Cf,x])(hr:#[n0])(a:k+1<=j:=by decide)(c:#[rO]:=by rfl)(d:#[j]:=by decide) :
  PE X #[rc] (Tv C sp [] E0 UW):=by
 show#[ph,g,b,e];exact ZnB g F (hr.mono a) c e b .nil Vr d
universe E.L2
namespace L2
open PySem PySem.Spec PyProof.Rows
section
variable {X:Cx}
theorem WU{x z:ak}{pos:Pos}(hm:∃tk,X.mg x=U (.str z tk))(a:#[rO]:=by rfl)(hd:#[j]:=by decide):PE X #[a4] (tC (.str z)):=by obtain⟨tk,h⟩:=hm;exact NT a h ⟨tk,rfl⟩ hd
universe E
theorem WT{K:#[7]}{t:ae}{a:#[ay]}{its:#[sl]}{n:Nat}{sl:#[47]}{xs:#[m7]}(h:K.lookup t=U ⟨.type "tuple",a,.seq its n,sl⟩)(hs:its.size<=100)(v:ZK xs its.toList):∀H,SqT K H t xs :=
 λ_=>.inr ⟨_,its,n,h,rfl,rfl,Qi hs #[op],v⟩
def ZtP(t u:TE):TE:=λa H Q=>t a H Q\/u a H Q
theorem S9{X:Cx}{e:aI}{t u:TE}(h1:PE X e t)(h2:PE X e u):PE X e (ZtP t u):=λa s b H Q I h=>Or.elim h (h1 a s b H Q I) (h2 a s b H Q I)
theorem WS(K:#[7]){X:Cx}{e:aI}{f:ak}{pos:Pos}{a:TE}(he:PE X e a)(hb:#[ew,e,f])(b:X.K=K:=by rfl):PE X #[m0] (Nu K a f):=by subst b;exact ZE he hb
universe E.L2
set_option maxHeartbeats 9000000
namespace My
open PySem L2 PyProof.Rows
noncomputable abbrev YI:=@List.tail aL
noncomputable abbrev YT(x:#[kY]):=YI (YI x)
noncomputable abbrev YE(x:#[kY]):=YT (YT x)
noncomputable abbrev YD(x:#[kY]):=YE (YE x)
noncomputable abbrev Zt16(x:#[kY]):=YD (YD x)
noncomputable abbrev Zt32(x:#[kY]):=Zt16 (Zt16 x)
noncomputable abbrev Zt64(x:#[kY]):=Zt32 (Zt32 x)
local macro_rules|`(‹$i:num›)=>`(@pv _ $i _ _ (by rfl) (Or.inl rfl) (by decide) (by decide))
local macro_rules|`(tactic|trivial)=>`(tactic|first|exact .inl rfl|exact .inr rfl|decide|exact Nat.le_refl _|lia)
noncomputable def hdS:List aL->aL
 | a::_=>a
 | []=>.Pass ⟨0,0,0,0⟩
noncomputable abbrev ZO:List aL:=PySem.Challenge.pw_mergetree_k54_counts_at_a_desk.main.body
noncomputable abbrev Zhw:aL:=#[pj,YE,YI]
noncomputable abbrev ZkW:aL:=#[pj,YE,YT]
noncomputable abbrev S8:aL:=hdS (Zt16 (YE (YT ZO)))
noncomputable abbrev XX:aL:=hdS (Zt16 #[tb])
noncomputable abbrev Zp2:aL:=#[pj,Zt64,YI]
noncomputable abbrev Rq:aL:=hdS (YD ZO)
noncomputable abbrev Rp:aL:=#[pj,YD,YI]
noncomputable abbrev Ro:aL:=hdS (YD #[bH])
noncomputable abbrev Rm:aL:=#[pj,YD,YE]
noncomputable abbrev Rl:aL:=hdS (YD (YE (YI ZO)))
noncomputable abbrev Rk:aL:=hdS (YD (YE (YT ZO)))
noncomputable abbrev Rj:aL:=hdS (YD #[tb])
noncomputable abbrev Ri:aL:=hdS (Zt16 ZO)
noncomputable abbrev Rh:aL:=#[pj,Zt16,YT]
noncomputable abbrev Rg:aL:=hdS (Zt16 #[bH])
noncomputable abbrev Rc:aL:=#[pj,Zt16,YD]
noncomputable abbrev P9:aL:=hdS (Zt16 (YD (YI ZO)))
noncomputable abbrev P8:aL:=hdS (Zt32 (Zt16 #[bH]))
noncomputable abbrev P7:aL:=#[pV,YE,ZO]
noncomputable abbrev P0:aL:=#[fF,Zt32,YE,YI]
noncomputable abbrev PZ:aL:=#[fF,Zt32,YE,YT]
noncomputable abbrev PY:aL:=#[pV,YE,#[bH]]
noncomputable abbrev PX:aL:=#[pV,YD,ZO]
noncomputable abbrev PV:aL:=#[fF,Zt32,YD,YI]
noncomputable abbrev PU:aL:=#[fF,Zt32,YD,YT]
noncomputable abbrev S7:aL:=#[pV,YD,#[bH]]
noncomputable abbrev PR:aL:=#[pj,Zt64,YT]
noncomputable abbrev PQ:aL:=hdS (Zt64 #[bH])
noncomputable abbrev UI:aL:=#[pj,Zt64,YE]
noncomputable abbrev PP:aL:=#[fj,YE,YI]
noncomputable abbrev PN:aL:=#[fj,YE,YT]
noncomputable abbrev PM:aL:=hdS (Zt64 #[tb])
noncomputable abbrev PL:aL:=#[pj,Zt64,YD]
noncomputable abbrev PH:aL:=#[fj,YD,YT]
noncomputable abbrev PF:aL:=#[fj,YD,YE]
noncomputable abbrev S5:aL:=#[fj,Zt16,YT]
noncomputable abbrev UH:aL:=hdS (Zt64 (Zt16 #[bH]))
noncomputable abbrev PD:aL:=#[fF,Zt64,YE,YT]
noncomputable abbrev PB:aL:=hdS (Zt64 (Zt16 #[tb]))
noncomputable abbrev Pz:aL:=#[fj,Zt16,YD]
noncomputable abbrev S4:aL:=#[fF,Zt64,YD,YI]
noncomputable abbrev SY:aL:=#[fF,Zt64,YD,YT]
noncomputable abbrev Py:aL:=hdS (Zt64 (Zt16 (YD #[bH])))
noncomputable abbrev Px:aL:=#[fF,Zt64,YD,YE]
noncomputable abbrev SX:aL:=hdS (Zt64 (Zt16 (YD (YE (YI ZO)))))
noncomputable abbrev Pw:aL:=hdS (Zt64 (Zt16 (YD (YE (YT ZO)))))
noncomputable abbrev Pu:aL:=hdS (Zt64 (Zt16 (YD #[tb])))
noncomputable abbrev UG:aL:=#[pj,Zt64,Zt32]
noncomputable abbrev Pt:aL:=#[fj,Zt32,YI]
noncomputable abbrev Ps:aL:=#[fj,Zt32,YT]
noncomputable abbrev SW:aL:=hdS (Zt64 (Zt32 #[bH]))
noncomputable abbrev Wy:aL:=#[fj,Zt32,YE]
noncomputable abbrev Z3:aL:=Z6 Zhw 0
noncomputable abbrev UF:aL:=Z6 ZkW 0
noncomputable abbrev UE:aL:=Z6 S8 0
noncomputable abbrev UD:aL:=Z6 S8 2
noncomputable abbrev UC:aL:=Z6 S8 3
noncomputable abbrev UB:aL:=Z6 S8 4
noncomputable abbrev UA:aL:=Z6 XX 0
noncomputable abbrev Uz:aL:=Z6 XX 1
noncomputable abbrev Uy:aL:=Z6 XX 2
noncomputable abbrev Ux:aL:=Z6 XX 3
noncomputable abbrev Vi:aL:=Z6 XX 4
noncomputable abbrev Vh:aL:=Z6 XX 5
noncomputable abbrev Z4:aL:=Z6 XX 6
noncomputable abbrev Uw:aL:=Z6 XX 7
noncomputable abbrev Uv:aL:=Z6 XX 9
noncomputable abbrev Uu:aL:=Z6 XX 10
noncomputable abbrev Ut:aL:=Z6 XX 11
noncomputable abbrev Us:aL:=Z6 XX 12
noncomputable abbrev Ur:aL:=Z6 XX 13
noncomputable abbrev Uq:aL:=Z6 XX 14
noncomputable abbrev Z9:aL:=Z6 XX 15
noncomputable abbrev ZX:aL:=Z6 XX 16
noncomputable abbrev Up:aL:=Z6 XX 17
noncomputable abbrev Uo:aL:=Z6 Zp2 0
theorem LL:Zl ["_law_cell", "_law_k", "_law_m"] #[c2] (Zb PD):=#[0]
theorem LK:Zl ["_law_script", "_law_k", "_law_cell"] #[hP] (Zb PB):=#[0]
theorem LJ:Zl ["_law_left_here", "_law_many", "_law_digit"] #[iz] (Zb Pz):=#[0]
theorem LH:Zl #[og] #[cz] (Zb S4):=#[0]
theorem LG:Zl #[jt] #[98] (Zb SY):=#[0]
theorem Pr:Zl #[qF] #[39] (Zb Rj):=#[0]
theorem ZnE:Zl #[84] #[84] (Zb Rm):=#[0]
theorem LF:Zl #[aY] #[aY] (Zb SX):=#[0]
theorem Um:Zl ["_law_left_here", "_law_stems_here", "_law_most", "_law_found", "_law_k", "_law_key_here"] #[o] (Zb Py):=#[0]
theorem SV:Zl ["row", "told", "place", "key"] ["row"] (Zb Rg):=#[0]
theorem ZjM:Zl #[a6] #[a6] (Zb Ri):=#[0]
theorem Zoc:Zl #[84] #[84] (Zb Rl):=#[0]
theorem LD:Zl #[qF] #[39] (Zb Rk):=#[0]
theorem LC:Zl ["keys", "place"] ["keys"] (Zb Rh):=#[0]
theorem LB:Zl ["numbers", "middle"] #[i3] (Zb Rq):=#[0]
theorem Zi0:Zl #[X] #[X] (Zb UD):=#[0]
theorem Zj7:Zl #[X] #[X] (Zb UC):=#[0]
theorem Zkj:Zl #[83] #[83] (Zb UE):=#[0]
theorem ZeL:Zl #[br] #[br] (Zb Z3):=#[0]
theorem Zge:Zl #[nJ] #[nJ] (Zb UF):=#[0]
theorem VW:Zl ["numbers", "n", "others", "side", "first", "rest"] #[bV] (Zb Rp):=#[0]
theorem LA:Zl ["thing", "sign"] ["thing"] (Zb Ro):=#[0]
theorem Zgc:Zl #[83] #[83] (Zb UB):=#[0]
theorem Pq:Zl ["self", "rows", "number", "keys"] #[nH] (Zb UA):=#[0]
theorem Lz:Zl #[bc] #[X] (Zb Uz):=#[0]
theorem Ly:Zl #[e6,"thing"] #[X] (Zb Uy):=#[0]
theorem Lx:Zl ["self", "many", "things"] #[nI] (Zb Ux):=#[0]
theorem ZhD:Zl #[X] #[X] (Zb Vi):=#[0]
theorem Zgw:Zl #[X] #[X] (Zb Vh):=#[0]
theorem ZeW:Zl #[X] #[X] (Zb Z4):=#[0]
theorem ZgP:Zl #[X] #[X] (Zb Uw):=#[0]
theorem SU:Zl ["self", "row", "number"] #[bc] (Zb Uv):=#[0]
theorem SS:Zl ["self", "n", "many"] #[96] (Zb Uu):=#[0]
theorem Ul:Zl ["self", "n", "keys", "row", "sent_nothing"] #[97] (Zb Ut):=#[0]
theorem Lw:Zl #[96] #[96] (Zb Us):=#[0]
theorem Zff:Zl #[X] #[X] (Zb Ur):=#[0]
theorem Wx:Zl ["self", "numbers", "first_side", "other_side", "one", "other", "winner", "loser", "far"] #[kq] (Zb Uq):=#[0]
theorem Uk:Zl ["self", "number", "row", "comer", "meeting"] #[lh] (Zb Z9):=#[0]
theorem Uj:Zl ["self", "meeting", "comer", "stayer", "winner", "loser", "far"] #[bB] (Zb ZX):=#[0]
theorem SR:Zl ["self", "one", "other", "far", "order", "alike_far", "seen"] #[93] (Zb Up):=#[0]
theorem SQ:Zl ["number", "keys", "place"] #[hw] (Zb Rc):=#[0]
theorem VU:Zl ["numbers", "n", "matches", "least", "greatest", "others"] #[bV] (Zb P9):=#[0]
theorem Pp:Zl ["kind", "word", "least", "most"] #[lN] (Zb P8):=#[0]
theorem ZiX:Zl #[mx] #[mx] (Zb P7):=#[0]
theorem Zkt:Zl #[mx] #[mx] (Zb P0):=#[0]
theorem Lv:Zl ["word", "least", "most", "number"] #[hO] (Zb PZ):=#[0]
theorem Lu:Zl ["word", "sign"] #[mx] (Zb PY):=#[0]
theorem Zgr:Zl ["key"] ["key"] (Zb PX):=#[0]
theorem ZfR:Zl #[j6] #[j6] (Zb PV):=#[0]
theorem Zhi:Zl ["words"] ["words"] (Zb PU):=#[0]
theorem ZeY:Zl #[i3] #[i3] (Zb S7):=#[0]
theorem ZiL:Zl #[X] #[X] (Zb Uo):=#[0]
theorem Wj:Zl ["text", "orders", "desk", "answers", "word", "singles", "further", "deed"] ["text"] (Zb PR):=#[0]
theorem Ui:Zl ["text", "orders", "line", "row", "order"] ["text"] (Zb PQ):=#[0]
theorem Wi:Zl #[51] ["row"] (Zb UI):=#[0]
theorem Zfp:Zl #[jC] #[jC] (Zb PP):=#[0]
theorem Ls:Zl #[my] #[32] (Zb PN):=#[0]
theorem Lr:Zl #[my] #[32] (Zb PM):=#[0]
theorem Lq:Zl ["desk", "singles", "further", "name"] #[v] (Zb PL):=#[0]
theorem ZjY:Zl #[v] #[v] (Zb PH):=#[0]
theorem ZhH:Zl #[v] #[v] (Zb PF):=#[0]
theorem Zfh:Zl #[hx] #[hx] (Zb S5):=#[0]
theorem Lp:Zl #[jP] #[kU] (Zb UH):=#[0]
theorem Zo7:Zl #[o] #[o] (Zb Px):=#[0]
theorem Zhr:Zl #[kV] #[kV] (Zb Pw):=#[0]
theorem Po:Zl ["_law_left_here", "_law_some", "_law_first"] #[cz] (Zb Pu):=#[0]
theorem ZkX:Zl #[31] #[31] (Zb UG):=#[0]
theorem Pn:Zl ["_law_merge", "_law_numbers", "_law_word", "_law_name", "_law_keys_here", "_law_told"] #[78] (Zb Pt):=#[0]
theorem Pm:Zl ["_law_left_here", "_law_names_here", "_law_stems_here", "_law_word", "_law_keys_here"] #[a7] (Zb Ps):=#[0]
theorem Zht:Zl #[lX] #[lX] (Zb SW):=#[0]
theorem Xx:Zl #[t] #[mz] (Zb Wy):=#[0]
noncomputable abbrev zsc(l:List (ak×aP)):be:={ kind:=.function,names:=l,isGenerator:=false,isCoroutine:=false,more:=[] }
noncomputable def Zps:be:=zsc [#[42],#[dY,"_law_k"],#[eE,"_law_pick"],#[tN],("_law_some",.free)]
theorem Uh:Z1 #[og] ["_law_left_here", "_law_some", "_law_k"] (Zb S4) Zps:=#[Xzz]
noncomputable def Zp1:be:=zsc [#[42],#[dY,"_law_k"],#[eE,"_law_pick"],#[tN]]
theorem SO:Z1 #[jt] ["_law_left_here", "_law_stems_here", "_law_tail", "_law_k"] (Zb SY) Zp1:=#[Xzz]
noncomputable def Zqh:be:=zsc [#[42],#[dY,"_law_one"],#[dY,"_law_other"],#[eE,"_law_same"]]
theorem Vg:Z1 #[aY] ["_law_found", "_law_due", "_law_one", "_law_other"] (Zb SX) Zqh:=#[Xzz]
noncomputable def Zpq:be:=zsc [#[42],#[u1]]
theorem Pk:Z1 #[X] #[bc] (Zb Vi) Zpq:=#[Xzz]
noncomputable def ZpC:be:=zsc [#[42],#[dY,"number"],#[u1]]
theorem Ug:Z1 #[X] ["self", "number", "row"] (Zb Vh) ZpC:=#[Xzz]
noncomputable def Zqv:be:=#[pF,"number","str"]
theorem Pj:Z1 #[i3] ["numbers", "number"] (Zb S7) Zqv:=#[Xzz]
noncomputable def Zpg:be:=zsc [#[42],#[dY,"kind"],#[dY,"word"],#[eE,"read_word"]]
theorem Vf:Z1 #[51] ["row", "first", "others", "single_kinds", "further_kind", "many", "singles", "further", "kind", "word"] (Zb UI) Zpg:=#[Xzz]
noncomputable def ZpQ:be:=zsc [#[42],#[dY,"word"],#[eE,"read_word"],("further_kind",.free)]
theorem Uf:Z1 #[51] ["row", "first", "others", "single_kinds", "further_kind", "many", "singles", "further", "word"] (Zb UI) ZpQ:=#[Xzz]
noncomputable def Zp3:be:=zsc [#[42],#[u1],#[dY,"place"],#[dY,"key"]]
theorem Ve:Z1 #[hx] ["desk", "things", "row", "place", "key"] (Zb S5) Zp3:=#[Xzz]
noncomputable def Zqf:be:=zsc [#[42],#[dY,"name"],#[dY,"number"]]
theorem Ue:Z1 #[jP] ["desk", "heads", "names", "name", "number"] (Zb UH) Zqf:=#[Xzz]
noncomputable def Znf:be:=zsc [#[42],#[u1],#[dY,"key"],#[eE,"written_thing"],("names",.free)]
theorem VT:Z1 #[jP] ["desk", "heads", "names", "row", "key"] (Zb UH) Znf:=#[Xzz]
noncomputable def ZoA:be:=#[pF,"_law_part","str"]
theorem Pg:Z1 #[31] ["_law_word", "_law_parts", "_law_keys_here", "_law_part"] (Zb UG) ZoA:=#[Xzz]
noncomputable def ZnQ:be:=#[pF,"_law_key_here","_law_key_text"]
theorem SN:Z1 #[31] ["_law_word", "_law_parts", "_law_keys_here", "_law_key_here"] (Zb UG) ZnQ:=#[Xzz]
noncomputable def ZnZ:be:=#[pF,"_law_row_here","len"]
theorem SM:Z1 #[lX] ["_law_rows", "_law_row_here"] (Zb SW) ZnZ:=#[Xzz]
noncomputable def Zox:be:=zsc [#[42],#[dY,"_law_name"],("_law_numbers",.free)]
theorem Ud:Z1 #[t] ["_law_script", "_law_left_here", "_law_names_here", "_law_stems_here", "_law_merge", "_law_numbers", "_law_rows", "_law_due", "_law_k", "_law_word", "?_law_name", "_law_keys_here", "_law_many", "_law_called", "_law_taken", "_law_name"] (Zb Wy) Zox:=#[Xzz]
noncomputable def ZoO:be:=zsc [#[42],#[dY,"_law_n"],#[dY,"_law_place"],#[dY,"_law_key_here"],#[eE,"_law_key_text"],("_law_called",.free)]
theorem Wh:Z1 #[t] ["_law_script", "_law_left_here", "_law_names_here", "_law_stems_here", "_law_merge", "_law_numbers", "_law_rows", "_law_due", "_law_k", "_law_word", "_law_name", "_law_keys_here", "_law_many", "_law_called", "_law_taken", "_law_n", "_law_place", "_law_key_here"] (Zb Wy) ZoO:=#[Xzz]
structure Bt (mg:#[J]):Prop where
 n_abs:mg "abs" = af
 n_all:mg "all" = af
 n_bool:mg "bool" = af
 n_dict:mg "dict" = af
 n_enumerate:mg "enumerate" = af
 n_int:mg "int" = af
 n_isinstance:mg "isinstance" = af
 n_len:mg "len" = af
 n_list:mg "list" = af
 n_max:mg "max" = af
 n_min:mg "min" = af
 n_range:mg "range" = af
 n_sorted:mg "sorted" = af
 n_str:mg "str" = af
 n_sum:mg "sum" = af
 n_tuple:mg "tuple" = af
 n_zip:mg "zip" = af
structure ZP (K:#[7]) (mg:#[J]) (au:ae) (aj:ae) (aA:ae) (ap:ae) (aG:ae) (ax:ae) (ao:ae) (ar:ae):Prop where
 b:Bt mg
 t_halves:Top K mg "halves" Rq #[i3]
 t_way_up:Top K mg "way_up" Rp #[bV]
 t_is_key:Top K mg "is_key" Ro ["thing"]
 t_alike:Top K mg "alike" Rm #[84]
 t_liken:Top K mg "liken" Rl #[84]
 t_liken_from:Top K mg "liken_from" Rk #[39]
 t_alike_from:Top K mg "alike_from" Rj #[39]
 t_order_at:Top K mg "order_at" Ri #[a6]
 t_first_break:Top K mg "first_break" Rh ["keys"]
 t_alikes:Top K mg "alikes" Rg ["row"]
 t_refuse_break:Top K mg "refuse_break" Rc #[hw]
 t_matches_up:Top K mg "matches_up" P9 #[bV]
 t_read_word:Top K mg "read_word" P8 #[lN]
 t_read_name:Top K mg "read_name" P7 #[mx]
 t_read_key:Top K mg "read_key" P0 #[mx]
 t_read_number:Top K mg "read_number" PZ #[hO]
 t_are_figures:Top K mg "are_figures" PY #[mx]
 t_written_key:Top K mg "written_key" PX ["key"]
 t_written_thing:Top K mg "written_thing" PV #[j6]
 t_with_blanks:Top K mg "with_blanks" PU ["words"]
 t_written_numbers:Top K mg "written_numbers" S7 #[i3]
 t_run:Top K mg "run" PR ["text"]
 t_orders_in:Top K mg "orders_in" PQ ["text"]
 t_order_in:Top K mg "order_in" UI ["row"]
 t_may_be_further:Top K mg "may_be_further" PP #[jC]
 t_do_row:Top K mg "do_row" PN #[32]
 t_do_grow:Top K mg "do_grow" PM #[32]
 t_do_drop:Top K mg "do_drop" PL #[v]
 t_ask_take:Top K mg "ask_take" PH #[v]
 t_ask_counts:Top K mg "ask_counts" PF #[v]
 t_written_things:Top K mg "written_things" S5 #[hx]
 t_written_heads:Top K mg "written_heads" UH #[kU]
 t_l_mix:Top K mg "_law_mix" PD #[c2]
 t_l_left:Top K mg "_law_left" PB #[hP]
 t_l_pick:Top K mg "_law_pick" Pz #[iz]
 t_l_stems:Top K mg "_law_stems" S4 #[cz]
 t_l_key:Top K mg "_law_key" SY #[98]
 t_l_keys:Top K mg "_law_keys" Py #[o]
 t_l_row:Top K mg "_law_row" Px #[o]
 t_l_same:Top K mg "_law_same" SX #[aY]
 t_l_key_text:Top K mg "_law_key_text" Pw #[kV]
 t_l_names:Top K mg "_law_names" Pu #[cz]
 t_l_words:Top K mg "_law_words" UG #[31]
 t_l_done:Top K mg "_law_done" Pt #[78]
 t_l_deed:Top K mg "_law_deed" Ps #[a7]
 t_l_is_short:Top K mg "_law_is_short" SW #[lX]
 t_OutOfOrder_init:Vj K mg ao ap "OutOfOrder" "OutOfOrder.__init__" Z3 #[br]
 t_BadLine_init:Vj K mg ar ap "BadLine" "BadLine.__init__" UF #[nJ]
 t_Row_init:UO K mg au "Row" "Row.__init__" UE #[83]
 t_Row_to_go:Yr K au "to_go" "Row.to_go" UD #[X]
 t_Row_head:Yr K au "head" "Row.head" UC #[X]
 t_Row_lengthen:Yr K au "lengthen" "Row.lengthen" UB #[83]
 t_Merge_init:UO K mg aj "Merge" "Merge.__init__" UA #[nH]
 t_Merge_coming:Yr K aj "coming" "Merge.coming" Uz #[X]
 t_Merge_take:Yr K aj "take" "Merge.take" Uy #[X]
 t_Merge_take_few:Yr K aj "take_few" "Merge.take_few" Ux #[nI]
 t_Merge_left:Yr K aj "left" "Merge.left" Vi #[X]
 t_Merge_heads:Yr K aj "heads" "Merge.heads" Vh #[X]
 t_Merge_likenings:Yr K aj "likenings" "Merge.likenings" Z4 #[X]
 t_Merge_looks:Yr K aj "looks" "Merge.looks" Uw #[X]
 t_Merge_add_row:Yr K aj "add_row" "Merge.add_row" Uv #[bc]
 t_Merge_drop_row:Yr K aj "drop_row" "Merge.drop_row" Uu #[96]
 t_Merge_grow:Yr K aj "grow" "Merge.grow" Ut #[97]
 t_Merge_row_of:Yr K aj "row_of" "Merge.row_of" Us #[96]
 t_Merge_play_all:Yr K aj "play_all" "Merge.play_all" Ur #[X]
 t_Merge_play:Yr K aj "play" "Merge.play" Uq #[kq]
 t_Merge_send_out:Yr K aj "send_out" "Merge.send_out" Z9 #[lh]
 t_Merge_play_again:Yr K aj "play_again" "Merge.play_again" ZX #[bB]
 t_Merge_meet:Yr K aj "meet" "Merge.meet" Up #[93]
 t_Desk_init:UO K mg aA "Desk" "Desk.__init__" Uo #[X]
 cl_Row:Cls K au
 na_Row_all_keys:YB K au "all_keys"
 na_Row_fars:YB K au "fars"
 na_Row_gone:YB K au "gone"
 cl_Merge:Cls K aj
 na_Merge_best:YB K aj "best"
 na_Merge_likened:YB K aj "likened"
 na_Merge_looked:YB K aj "looked"
 na_Merge_next_number:YB K aj "next_number"
 na_Merge_rows:YB K aj "rows"
 na_Merge_stays:YB K aj "stays"
 cl_Desk:Cls K aA
 na_Desk_merge:YB K aA "merge"
 na_Desk_numbers:YB K aA "numbers"
 g_DONE:∃tk,mg "DONE" = U (.str "done" tk)
 g_MOST_FIGURES:∃tk,mg "MOST_FIGURES" = U (.int 9 tk)
 g_MOST_KEY:∃tk,mg "MOST_KEY" = U (.int 40 tk)
 g_MOST_NAME:∃tk,mg "MOST_NAME" = U (.int 8 tk)
 g_MOST_ROWS:∃tk,mg "MOST_ROWS" = U (.int 16 tk)
 g_MOST_SIZES:∃tk,mg "MOST_SIZES" = U (.int 12 tk)
 g_NOTHING:∃tk,mg "NOTHING" = U (.str "-" tk)
 g_REFUSED:∃tk,mg "REFUSED" = U (.str "refused" tk)
 m_MergeError:mg "MergeError" = U #[nA]
 m_Full:mg "Full" = U #[a3]
 m_NoRow:mg "NoRow" = U #[a2]
 m_OutOfOrder:mg "OutOfOrder" = U #[aI]
 m_BadLine:mg "BadLine" = U #[aQ]
 x_Full:Xc K aG #[km]
 x_MergeError:Xc K ap YO
 x_OutOfOrder:Xc K ao #[km]
 xb_MergeError:XB K ap
 na_OutOfOrder_row:YB K ao "row"
 na_OutOfOrder_place:YB K ao "place"
 na_BadLine_line:YB K ar "line"
 xw_Full:XW K mg aG ap "Full"
 xw_NoRow:XW K mg ax ap "NoRow"
 xg_Full:XG K aG
 ki_Full_MergeError:PySem.W.kitOne K #[a3] #[nA]=U true
 ki_Full_Full:PySem.W.kitOne K #[a3] #[a3]=U true
 ki_Full_NoRow:PySem.W.kitOne K #[a3] #[a2]=U false
 ki_Full_OutOfOrder:PySem.W.kitOne K #[a3] #[aI]=U false
 ki_Full_BadLine:PySem.W.kitOne K #[a3] #[aQ]=U false
 ki_Full_V:PySem.W.kitOne K #[a3] #[63]=U true
 xg_NoRow:XG K ax
 ki_NoRow_MergeError:PySem.W.kitOne K #[a2] #[nA]=U true
 ki_NoRow_Full:PySem.W.kitOne K #[a2] #[a3]=U false
 ki_NoRow_NoRow:PySem.W.kitOne K #[a2] #[a2]=U true
 ki_NoRow_OutOfOrder:PySem.W.kitOne K #[a2] #[aI]=U false
 ki_NoRow_BadLine:PySem.W.kitOne K #[a2] #[aQ]=U false
 ki_NoRow_V:PySem.W.kitOne K #[a2] #[63]=U true
 xg_OutOfOrder:XG K ao
 ki_OutOfOrder_MergeError:PySem.W.kitOne K #[aI] #[nA]=U true
 ki_OutOfOrder_Full:PySem.W.kitOne K #[aI] #[a3]=U false
 ki_OutOfOrder_NoRow:PySem.W.kitOne K #[aI] #[a2]=U false
 ki_OutOfOrder_OutOfOrder:PySem.W.kitOne K #[aI] #[aI]=U true
 ki_OutOfOrder_BadLine:PySem.W.kitOne K #[aI] #[aQ]=U false
 ki_OutOfOrder_V:PySem.W.kitOne K #[aI] #[63]=U true
 xg_BadLine:XG K ar
 ki_BadLine_MergeError:PySem.W.kitOne K #[aQ] #[nA]=U true
 ki_BadLine_Full:PySem.W.kitOne K #[aQ] #[a3]=U false
 ki_BadLine_NoRow:PySem.W.kitOne K #[aQ] #[a2]=U false
 ki_BadLine_OutOfOrder:PySem.W.kitOne K #[aQ] #[aI]=U false
 ki_BadLine_BadLine:PySem.W.kitOne K #[aQ] #[aQ]=U true
 ki_BadLine_V:PySem.W.kitOne K #[aQ] #[63]=U true
 kg:PySem.W.specialIn K #[12] "__get__" = U (U #[ep,"getset_descriptor.__get__"])
 kt:PySem.W.takesIn K #[12]=U true
structure VS (K:#[7]) (w:aD) (mg:#[J]) (bI:ae) (bj:ae) (br:ae):Prop where
 m_BOUNDS:mg "BOUNDS" = U (.ref bI)
 kd_BOUNDS:KD K w bI
 d_BOUNDS_many:∃dj:ae,PySem.W.nsIn K bI "many" = U (U (.ref dj))/\(∀H,SqT K H dj #[gy,0,1000000])
 m_DEEDS:mg "DEEDS" = U (.ref bj)
 kd_DEEDS:KD K w bj
 d_DEEDS_row:∀f,mg "do_row" = U #[73]->PySem.W.nsIn K bj "row" = U #[jb]
 d_DEEDS_grow:∀f,mg "do_grow" = U #[73]->PySem.W.nsIn K bj "grow" = U #[jb]
 d_DEEDS_drop:∀f,mg "do_drop" = U #[73]->PySem.W.nsIn K bj "drop" = U #[jb]
 d_DEEDS_take:∀f,mg "ask_take" = U #[73]->PySem.W.nsIn K bj "take" = U #[jb]
 d_DEEDS_counts:∀f,mg "ask_counts" = U #[73]->PySem.W.nsIn K bj "counts" = U #[jb]
 m_FORMS:mg "FORMS" = U (.ref br)
 kd_FORMS:KD K w br
 d_FORMS_row:X2 λdk eQ:ae=>PySem.W.nsIn K br "row" = U (U (.ref eQ))/\#[pb,dk]/\(∀H,SqT K H eQ [.ref dk,.str "key"])
 d_FORMS_grow:X2 λcL dJ:ae=>PySem.W.nsIn K br "grow" = U (U (.ref dJ))/\#[pb,cL]/\(∀H,SqT K H dJ [.ref cL,.str "key"])
 d_FORMS_drop:X2 λcP dL:ae=>PySem.W.nsIn K br "drop" = U (U (.ref dL))/\#[pb,cP]/\#[pW,dL,cP]
 d_FORMS_take:X2 λcQ dM:ae=>PySem.W.nsIn K br "take" = U (U (.ref dM))/\(∀H,SqT K H cQ [.str "many"])/\#[pW,dM,cQ]
 d_FORMS_counts:X2 λcj cS:ae=>PySem.W.nsIn K br "counts" = U (U (.ref cS))/\(∀H,SqT K H cj [])/\#[pW,cS,cj]
def Y0(H:Hp)(p:ae)(c:Int):Prop:=X2 λa b:Int=>H p=U (.lst [.int a,.int b,.int c])/\0<=c
def But(p:ae)(H a:Hp):Prop:=#[fz,H,p,a]
theorem But.trans{p:ae}{H d e:Hp}(a:But p H d)(b:But p d e):But p H e:=λc o h n=>b c o (a c o h n) n
theorem But.same{p:ae}{H b:Hp}(a:ZG H b):But p H b:=λc o h _=>a c o h
theorem Zi{H:Hp}{p:ae}(h:H p=af)(o:HO):ZG H (upd H p o):=λb u q=>by rw[Zc (Ze q h)];exact q
theorem small{n:Nat}(h:n<=1000):n<=aq:=QaF (ZA h)
def Pf:Sp:=λvs H Q _=>X2 λa k:Int=>vs=#[gy,a,k] /\ -(2 ^ 62)<k/\k<2 ^ 62/\∀r:Int,0<=r->r<2000000000->Q (.int r) H
def Ln(K:#[7]):Sp:=λvs H Q _=>X3 λ(a:ae) (ns:List Int) (k:Int)=>vs=#[o3,a,k]/\SqL K H a #[U]/\ns.length<=63/\0<=k/\k<100 /\
 ∀ (p:ae) (b:Hp),H p=af->Y0 b p 0->ZG H b->Q #[ir] b
def VR:Sp:=λvs H Q _=>X3 λ(p:ae) (c m:Int)=>vs=#[o3,p,m]/\Y0 H p c/\c<2 ^ 60/\0<m/\m<1000000 /\
 ∀ (r:Int) (a:Hp),0<=r->r<m->Y0 a p (c+1)->But p H a->Q (.int r) a
theorem Zr6{ns:#[F]}{k:Int}(h0:0<=k)(h:k<(ns.length:Int)):∃v:Int,atI #[U] k=U (.int v):=by
 have a:k.toNat<ns.length:=by lia
 have b:k=#[kp]:=by lia
 have q:atI #[U] #[kp]=U (.int ns[k.toNat]):=XA #[gY,a];rw[<- b]at q;exact⟨_,q⟩
theorem Pe{ss:#[T]}{k:Int}(h0:0<=k)(h:k<#[s2]):∃s∈ss,atI #[24] k=U (.str s):=by
 have a:k.toNat<ss.length:=by lia
 have b:k=#[kp]:=by lia
 have q:atI #[24] #[kp]=U (.str ss[k.toNat]):=XA #[gY,a];rw[<- b]at q;exact⟨_,Qae a,q⟩
theorem Lm(b:Bool):-(2 ^ 64)<#[om]/\#[om]<2 ^ 64:=by cases b<;>decide
theorem Uc{z:ak}{k:Int}(h0:0<=k)(h:k<(z.length:Int)):∃c:Nat,z.cps.toList[k.toNat]? = U c/\atI z.cps.toList k=U c:=by
 have hl:#[rn]:=by simp[ak.length]
 have a:k.toNat<z.cps.toList.length:=by lia
 have b:k=#[kp]:=by lia
 have q:atI z.cps.toList #[kp]=U z.cps.toList[k.toNat]:=XA (Qb a);rw[<- b]at q;exact⟨_,Qb a,q⟩
theorem Ll(sep:ak)(ys:#[T]):#[q6].length<=#[ug].sum+ys.length*sep.length:=by
 have e:Txt.join sep ys=ak.join sep ys:=by simpa using join_plain_closes sep ys
 rw[e];exact StrLaws.join_length_le sep ys
theorem Lk:∀ss:List ak,#[p6,ss,1]->(ss.map #[hs]).sum<=ss.length
 | [],_=>Qf _
 | s::r,h=>by have h1:=h s Q6;have h2:=Lk r λx a=>h x (Qs _ a);rw[Qn,Q5,QA];lia
noncomputable def lcp:List Nat->List Nat->Nat
 | a::r,b::s=>if a=b then lcp r s+1 else 0
 | _,_=>0
theorem Wg:∀ (x y:List Nat),lcp x y<=x.length/\lcp x y<=y.length
 | [],_=>⟨Qm _,Qm _⟩
 | _::_,[]=>⟨Qm _,Qm _⟩
 | a::r,b::s=>by
  have h:=Wg r s;unfold lcp;split
  ·exact⟨Nat.succ_le_succ h.1,Nat.succ_le_succ h.2⟩
  ·exact⟨Qm _,Qm _⟩
theorem VQ:∀ (x y:List Nat),lcp x y=lcp y x
 | [],[]=>rfl
 | [],_::_=>rfl
 | _::_,[]=>rfl
 | a::r,b::s=>by
  unfold lcp;by_cases h:a=b
  ·rw[if_pos h,if_pos h.symm,VQ r s]
  ·rw[if_neg h,if_neg λe=>h e.symm]
theorem Lj:∀x:List Nat,lcp x x=x.length
 | []=>rfl
 | a::r=>by unfold lcp;rw[if_pos rfl,Lj r];rfl
theorem Vd(x:#[hi]):lcp x []=0:=by cases x<;>rfl
theorem lcp_nil'(x:#[hi]):lcp [] x=0:=by cases x<;>rfl
theorem Li:∀ (x y:List Nat) (k:Nat),k<=lcp x y->∀a,x[k]? = U a->y[k]? = U a->k+1<=lcp x y
 | [],_,k,_,a,h,_=>by simp at h
 | _::_,[],k,_,a,_,h=>by simp at h
 | a::r,b::s,0,_,c,h1,h2=>by simp at h1 h2;unfold lcp;rw[if_pos (by rw[h1,h2])];lia
 | a::r,b::s,k+1,h,c,h1,h2=>by
  unfold lcp at h ⊢;by_cases e:a=b
  ·rw[if_pos e]at h ⊢;have:=Li r s k #[2] c #[dq,h1] #[dq,h2];lia
  ·show#[pC,e];lia
theorem Lh:∀ (x y:List Nat) (k:Nat),k<lcp x y->x[k]? = y[k]?
 | [],_,k,h=>by unfold lcp at h;lia
 | _::_,[],k,h=>by unfold lcp at h;lia
 | a::r,b::s,0,h=>by
  unfold lcp at h;by_cases e:a=b
  ·simp[e]
  ·show#[pC,e];lia
 | a::r,b::s,k+1,h=>by
  unfold lcp at h;by_cases e:a=b
  ·rw[if_pos e]at h;simpa using Lh r s k #[2]
  ·show#[pC,e];lia
theorem Pd(x y:#[hi])(k:Nat)(h:k<=lcp x y)(n:x.length<=k\/y.length<=k\/X2 λa b=>x[k]? = U a/\y[k]? = U b/\a≠b):lcp x y=k:=by
 have l:=Wg x y;rcases n with n|n|⟨a,b,c,d,ne⟩
 ·lia
 ·lia
 ·by_cases q:k<lcp x y
  ·have:=Lh x y k q;rw[c,d]at this;exact absurd (Qp this) ne
  ·lia
theorem Pc:∀ (x y z:List Nat),#[vq,y,x,z,y]\/#[vq,y,y,z,x]\/#[vq,z,x,y,y]
 | [],y,z=>.inr (.inl #[pJ,lcp_nil',lcp_nil'])
 | x,[],z=>.inl #[pJ,Vd,lcp_nil']
 | x,y,[]=>.inr (.inr #[pJ,Vd,Vd])
 | a::r,b::s,c::t=>by
  have ih:=Pc r s t;unfold lcp;by_cases f:a=b
  ·by_cases d:b=c
   ·rw[if_pos f,if_pos d,if_pos (f.trans d)];lia
   ·rw[if_pos f,if_neg d,if_neg λe=>d (f.symm.trans e)];lia
  ·rw[if_neg f];by_cases d:b=c
   ·rw[if_pos d,if_neg λe=>f (e.trans d.symm)];lia
   ·rw[if_neg d];lia
noncomputable abbrev cds(z:ak):List Nat:=z.cps.toList
def AZ(z:ak):Prop:=∀c∈cds z,97<=c/\c<=122
theorem Lg(x y:ak):cds (x++y)=cds x++cds y:=by show (x++y).cps.toList=_;rw[PySem.Str.cps_append];simp
theorem AZ.app{x y:ak}(a:AZ x)(b:AZ y):AZ (x++y):=λc h=>by rw[Lg]at h;exact(Ql.mp h).elim (a c) (b c)
theorem AZ.nil:AZ "":=by unfold AZ cds;ac_rfl
theorem AZ.join:∀ys:List ak,(∀s∈ys,AZ s)->AZ (ak.join "" ys)
 | [],_=>λc h=>by cases (show c∈([]:List Nat) from h)
 | [x],h=>h x #[4]
 | x::y::r,h=>((h x #[4]).app AZ.nil).app (AZ.join (y::r) λs hs=>h s (Qs _ hs))
theorem AZ.joinT(ys:#[T])(h:∀s∈ys,AZ s):AZ (Txt.join "" ys):=by
 have e:Txt.join "" ys=ak.join "" ys:=by simpa using join_plain_closes "" ys
 rw[e];exact AZ.join ys h
theorem AZ.one{z:ak}(a:AZ z){k:Nat}{c:Nat}(h:z.cps.toList[k]? = U c):AZ #[aK]:=λd hd=>by
 have e:d=c:=by simpa using hd
 rw[e];exact a c (Qu h)
theorem AZ.ok{z:ak}(a:AZ z):aJ.strOk z=true:=by unfold aJ.strOk;rw[Array.all_eq_true];intro i hi;have:=a z.cps[i] #[4];exact decide_eq_true #[2]
theorem Zrd:AZ "ababcz":=by unfold AZ cds;ac_rfl
def SK:Sp:=λvs H Q _=>X2 λx y:ak=>vs=[.str x,.str y]/\x.length<=1000/\y.length<=1000/\Q #[pi,lcp] H
def SJ:Sp:=λvs H Q _=>X3 λ(x y:ak) (a:Nat)=>vs=#[vo,a]/\x.length<=1000/\y.length<=1000/\a<=lcp #[bu] #[b3]/\Q #[pi,lcp] H
def IsD(H:Hp):Nat->V->V->Prop
 | 0,_,_=>False
 | n+1,x,y=>(x=y/\(x=.non\/(∃b,x=.bl b)\/(∃i,x=.int i)\/∃s,x=.str s)) \/
   (X4 λ(p q:ae) (xs ys:List V)=>x=.ref p/\y=.ref q/\((H p=U #[iI]/\H q=U #[mb])\/(H p=U #[kk]/\H q=U (.tup ys)))/\xs.length=ys.length/\xs.length<=1000/\∀ (i:Nat) (x y:V),xs[i]? = U x->ys[i]? = U y->IsD H n x y)
theorem IsD.mono{H c:Hp}(s:ZG H c):∀ {n:Nat} {x y:V},IsD H n x y->IsD c n x y
 | 0,_,_,h=>h.elim
 | n+1,x,y,h=>by
  rcases h with h|⟨p,q,xs,ys,d,e,h,hl,hz,f⟩
  ·exact .inl h
  ·refine .inr ⟨p,q,xs,ys,d,e,?_,hl,hz,λi x y a b=>(f i x y a b).mono s⟩;rcases h with⟨a,b⟩|⟨a,b⟩
   ·exact .inl ⟨s _ _ a,s _ _ b⟩
   ·exact .inr ⟨s _ _ a,s _ _ b⟩
def Lf(n:Nat):Sp:=λvs H Q _=>X2 λx y:V=>vs=[x,y]/\IsD H n x y/\∀a,ZG H a->Q #[qu] a
section
variable (K:#[7])
open PySem.W
theorem Zm0:kitAny K #[id] #[hh]=U false:=by unfold kitAny kitOne kitCls;rfl
theorem Zn9:kitAny K #[lc] #[hh]=U false:=by unfold kitAny kitOne kitCls;rfl
theorem Zm1:kitAny K #[bX] #[hh]=U false:=by unfold kitAny kitOne kitCls;rfl
theorem ZmC:kitAny K (.type "NoneType") #[hh]=U false:=by unfold kitAny kitOne kitCls;rfl
theorem ZmB:kitAny K #[cp] #[hh]=U true:=by unfold kitAny kitOne kitCls;rfl
theorem Zmx:kitAny K #[kj] #[hh]=U true:=by unfold kitAny kitOne kitCls;rfl
theorem Le:kitOne K #[cp] #[cp]=U true:=by unfold kitOne kitCls;rfl
theorem Ld:kitOne K #[cp] #[kj]=U false:=by unfold kitOne kitCls;rfl
theorem Lc:kitOne K #[kj] #[cp]=U false:=by unfold kitOne kitCls;rfl
theorem Lb:kitOne K #[kj] #[kj]=U true:=by unfold kitOne kitCls;rfl
theorem ZmK:kitOne K #[id] #[bX]=U false:=by unfold kitOne kitCls;rfl
theorem La:kitOne K #[id] #[lc]=U false:=by unfold kitOne kitCls;rfl
theorem Zl5:kitOne K #[id] #[id]=U true:=by unfold kitOne kitCls;rfl
theorem SI:kitOne K #[bX] #[bX]=U true:=by unfold kitOne kitCls;rfl
theorem K9:kitOne K (.type "NoneType") #[bX]=U false:=by unfold kitOne kitCls;rfl
theorem Zo6:kitOne K #[lc] #[bX]=U false:=by unfold kitOne kitCls;rfl
theorem K8:kitOne K #[lc] #[lc]=U true:=by unfold kitOne kitCls;rfl
universe E
section
variable {P:aw} {w:aD} {K:#[7]} {mg:ak->Option aa} {base:aH} {au aj aA ap aG ax ao ar bI bj br:ae}
theorem Zq7(T:#[e]):Df P w K mg base 1 "_law_mix" #[c2] Pf:=by
 show#[dj,T.t_l_mix.df,LL,b,hr];show#[fy,a,k,k1,k2];refine⟨_,#[Zf,#[Zz,2,LL.nd,#[3],#[ZY,U0,#[ZY,Vz,#[ZY,WV,#[ZY,WV,#[vp,U0,0],#[vf,Vz,Vz,1,1]],#[Zk]],#[Zk]],#[Zk]]],#[Zh,#[Zn,#[vf,U0,Vz,2,2]]]],_,rfl,_,_,rfl,rfl,#[jQ],_,rfl,_,rfl,_,_,rfl,rfl,.inl #[jL],_,_,rfl,rfl,.inr #[hK],_,_,rfl,rfl,_,_,rfl,rfl,_,_,rfl,rfl,.inr #[hK],_,_,rfl,rfl,#[jQ],?_⟩;have m0:=Int.emod_nonneg #[mm] (show (2147483647:Int)≠0 by decide);have m1:=QaQ #[mm] (show (0:Int)<2147483647 by decide);refine⟨_,rfl,_,rfl,_,_,rfl,rfl,.inl #[jL],_,_,rfl,rfl,#[jQ],?_⟩;exact q _ (Int.emod_nonneg _ #[6]) (Int.lt_trans (QaQ _ #[6]) #[6])
theorem Zql(T:#[e]):Df P w K mg base 1 "_law_left" #[hP] (Ln K):=by
 show#[dj,T.t_l_left.df,LK,i,hr];obtain⟨a,ns,k,rfl,d,vX,k0,k1,q⟩:=h;refine⟨_,#[Zf,#[Zz,2,LK.nd,#[3],#[Yk,#[dt,WC,1,#[34]],#[pa,#[ol],0,1],#[Zk]]],#[Zh,#[Zn,#[Ys,#[Zg,#[ZY,Vz,#[jV],#[Xe,ZmY,T.b.n_int,boot_int,#[Zg,#[XF,RQ,#[jV],#[ZY,Zq6,#[Zk],#[Zk]],#[cZ]]]]],#[ZY,WV,‹2›,#[ZY,Vz,#[Zk],‹1›]],#[Zk]]]]]],?_⟩;have j:#[U].length=ns.length:=Qa _;have e:NJ 10 18:=⟨by decide,by decide,by decide⟩;refine⟨_,rfl,_,rfl,a,_,rfl,.inl d,_,_,rfl,rfl,_,rfl,?_⟩;show#[eP,c]
 ·have g:k<#[uU]:=of_decide_eq_true c;rw[j]at g;obtain⟨v,l⟩:=Zr6 (ns:=ns) k0 g;refine⟨_,rfl,_,rfl,a,_,_,_,rfl,rfl,d,l,_,rfl,_,rfl,_,rfl,_,rfl,_,_,rfl,rfl,e,_,_,rfl,rfl,.inr #[92]⟩;exact #[mt]
 ·refine⟨_,rfl,_,rfl,_,rfl,_,rfl,_,_,rfl,rfl,e,_,_,rfl,rfl,.inr #[92]⟩;exact #[mt]
theorem Zph(T:#[e])(j:#[r8]):Df P w K mg base 2 "_law_pick" #[iz] VR:=by
 show#[dj,T.t_l_pick.df,LJ,t,k];obtain⟨p,c,m,rfl,⟨a,b,l,c0⟩,c1,i,m1,q⟩:=h;refine⟨_,#[Zf,#[Yn,#[ZY,WV,#[89],#[Zk]],#[W5,‹0›,#[Zk],Nf]],#[Zf,#[ZT,#[oH,#[89]],#[Zf,#[Zz,2,LJ.nd,#[3],#[ZY,U0,#[89],‹1›]],#[Zf,#[Yn,#[ZY,RR,#[89],‹1›],#[W5,‹0›,#[Zk],Nf]],#[bj]]],#[ZB]],#[Zh,#[Zn,#[ZY,U0,#[ZY,RR,#[ZD,j,k,#[Zg,#[ZD,j,k,#[Zg,#[89],#[89]],#[5]],#[ZY,WV,#[89],#[Zk]]],#[5]],#[Zk]],‹1›]]]]],?_⟩;show#[oA,g,H,p,#[nC]];refine⟨_,rfl,p,_,_,_,rfl,rfl,SqL.of l,rfl,_,_,rfl,rfl,_,rfl,p,_,_,2,rfl,rfl,l,rfl,_,rfl,p,_,_,_,rfl,rfl,SqL.of g,rfl,_,_,rfl,rfl,_,rfl,?_⟩;refine YW #[cO] #[cO]
 ·refine⟨_,rfl,p,_,_,_,rfl,rfl,SqL.of g,rfl,_,rfl,_,_,rfl,rfl,i,_,rfl,p,_,_,_,rfl,rfl,SqL.of g,rfl,_,rfl,_,_,rfl,rfl,⟨i,by lia⟩,_,rfl,p,_,_,0,rfl,rfl,g,rfl,_,rfl,?_⟩;refine q _ _ #[tJ] (QaQ _ i) ⟨a / m,b,Zd,by lia⟩ λe o h n=>?_;rw[Zc n,Zc n];exact h
 ·refine⟨_,rfl,p,_,_,_,rfl,rfl,SqL.of g,rfl,_,rfl,p,_,_,_,rfl,rfl,SqL.of g,rfl,_,_,rfl,by lia,by lia,λr r0 r1=>?_⟩;refine⟨_,rfl,p,_,_,_,rfl,rfl,SqL.of g,rfl,_,_,rfl,rfl,_,_,rfl,by lia,by lia,λr' o9 qE=>?_⟩;refine⟨_,_,rfl,rfl,#[hK],_,rfl,_,_,rfl,rfl,i,?_⟩;refine q _ _ #[tJ] (QaQ _ i) ⟨a,b,Zd,by lia⟩ λe o h n=>?_;rw[Zc n];exact h
noncomputable def WJ:List ak:=["", "a", "ab", "aba", "abab", "b", "zebra", "aaaaaaaa", "knowswho", "z", "abababababab",Txt.mul "a" 24]
theorem Zjs:∀s∈WJ,s.length<=24:=by ac_rfl
theorem ZkV:∀s∈WJ,AZ s:=by unfold AZ cds;ac_rfl
def K7:Sp:=λvs H Q _=>X2 λ(p:ae) (c:Int)=>vs=#[js]/\Y0 H p c/\c<2 ^ 50 /\
 ∀ (l:ae) (a:List ak) (d:Int) (b:Hp),H l=af->b l=U #[dv,a.map]->1<=a.length->a.length<=4->#[d9,a,24]->Y0 b p d->c<=d->d<=c+5->But p H b->Q #[cT] b
def Pb:Sp:=λvs H Q _=>X4 λ(p l:ae) (c:Int) (ss:List ak)=>vs=#[oJ,p,l]/\Y0 H p c/\c<2 ^ 50/\H l=U #[i2]/\1<=ss.length/\ss.length<=4/\#[bd] /\
 ∀ (z:ak) (a:Int) (b:Hp),z.length<=28->AZ z->Y0 b p a->c<=a->a<=c+6->But p H b->Q (.str z) b
theorem ZoV(T:#[e])(W:#[R]):Df P w K mg base 3 "_law_stems" #[cz] K7:=by
 show#[dj,T.t_l_stems.df,LH,vs,X];show#[fy,p,c,C,c1];refine⟨_,#[Zf,#[Zz,1,LH.nd,#[ly],#[Ys,#[Za,#[Zu],#[Za,#[Zu],#[Za,#[Zu],#[Za,#[Zu],#[Za,#[Zu],#[Za,#[Zu],#[Za,#[Zu],#[Zg,#[Zu],#[Zu],#[Zu],#[Zu],#[ZY,Zqr,#[Zu],#[Zk]]]]]]]]]]]],#[Zh,#[Zn,#[Xn,Uh,(@RW _ _ _ _ _ _ rfl T.b.n_range #[Zg,#[ZY,WV,#[Zk],#[ZD,W,X,#[Zg,#[gn,0],#[Zk]],#[5]]]] #[5]),#[e2,2,Uh],#[16],(λ_ _ _ _=>#[ZJ,#[ol],#[cv,1,Uh],#[ZD,W,X,#[Zg,#[cv,0,Uh],#[Zk]],#[gJ,Uh]]])]]]],?_⟩;refine⟨_,_,rfl,rfl,by decide,by decide,by decide,#[eg,12,aq],λl Y=>?_⟩;have F:p≠l:=by obtain⟨a,b,d,_⟩:=C;exact Ze d Y
 have Dg:Y0 #[mI] p c:=by obtain⟨a,b,d,c0⟩:=C;exact#[fk,F,d,c0]
 refine#[fo,_,Dg,H1,Z,t];refine⟨_,_,rfl,rfl,_,rfl,by lia,by lia,λD g=>?_⟩;have c0:0<=c:=by obtain⟨a,b,d,c0⟩:=C;exact c0
 have sZ:H1 l=U #[bm]:=t l _ Zd F.symm;have k:p≠D:=by obtain⟨a,b,d,_⟩:=Z;exact Ze d g
 have y:l≠D:=Ze sZ g;refine MN (λi z G j=>X3 λ(ss:List ak) (v:Option V) (c2:Int)=>G=[U #[ir],U #[cT],v]/\z=ss.map V.str/\ss.length=i/\#[bd]/\Y0 j p c2/\c+1<=c2/\c2<=c+1+i /\
   j l=U #[bm]/\j D=U (.lst z)/\But p H j) ?_ ?_ ?_
 ·refine⟨[],af,c+1,rfl,rfl,rfl,#[d7,s,m],?_,by lia,by lia,?_,Zd,?_⟩
  ·show#[eN,d,I,Z,k]
  ·rw[Zc y];exact sZ
  ·intro b o e n;have e1:#[mI] b=U o:=by rw[Zc (Ze e Y)];exact e
   have B:=t b o e1 n;rw[Zc (Ze B g)];exact B
 ·rintro i z G j hi ⟨ss,v,c2,rfl,rfl,J,m,L,b1,b2,dF,M,N⟩;refine⟨_,rfl,_,rfl,p,c2,_,rfl,L,by lia,by decide,by decide,λr' H3 o9 qE L3 O=>?_⟩;obtain⟨s,fO,gF⟩:=Pe (ss:=WJ) o9 qE;have ip:H3 D=U #[i2]:=O D _ M k.symm;have fY:H3 l=U #[bm]:=O l _ dF F.symm;refine⟨l,_,_,_,rfl,rfl,SqL.of fY,gF,ip,#[dB,J],ss++[s],_,c2+1,rfl,?_,?_,?_,?_,by lia,by lia,?_,Zd,?_⟩
  ·rw[Qg];rfl
  ·rw[Qe,J];rfl
  ·intro x hx;rcases Ql.mp hx with hx|hx
   ·exact m x hx
   ·rw[Qh.mp hx];exact⟨Zjs s fO,ZkV s fO⟩
  ·show#[eN,d,I,L3,k]
  ·rw[Zc y];exact fY
  ·intro b o e n;have B:=O b o (N b o e n) n;have R:H D=af:=by
    cases S:H D with
    | none=>rfl
    | some u =>
     have Dh:D≠p:=k.symm;have z1:#[mI] D=U u:=by rw[Zc y.symm];exact S
     rw[t D u z1 Dh]at g;cases g
   rw[Zc (Ze e R)];exact B
 ·rintro z G j ⟨ss,v,c2,rfl,rfl,J,m,L,b1,b2,dF,M,N⟩;have R:H D=af:=by
   cases S:H D with
   | none=>rfl
   | some u =>
    have z1:#[mI] D=U u:=by rw[Zc y.symm];exact S
    rw[t D u z1 k.symm]at g;cases g
  exact q D ss c2 j R M #[2] #[2] m L #[2] #[2] N
theorem ZrQ(T:#[e])(F:#[R]):Df P w K mg base 3 "_law_key" #[98] Pb:=by
 show#[dj,T.t_l_key.df,LG,vs,G];obtain⟨p,l,c,ss,rfl,I,c1,J,n1,n4,mn,q⟩:=h;refine⟨_,#[Zf,#[Zz,2,LG.nd,#[3],#[YF,Q4,Qal,Qam,(US K),#[Zu],#[Zg,#[Xn,SO,(@RW _ _ _ _ _ _ rfl T.b.n_range #[Zg,#[ZD,F,G,#[Zg,#[gn,0],#[Zk]],#[5]]] #[5]),#[e2,3,SO],#[16],(λ_ _ _ _=>#[ZJ,Vt,#[Zu],#[ZD,F,G,#[Zg,#[cv,0,SO],#[Zk]],#[gJ,SO]]])]]]],#[Zh,#[Zn,#[ZY,Vx,#[ZJ,#[ol],‹1›,#[ZD,F,G,#[Zg,#[gn,0],#[ag]],#[5]]],‹2›]]]],?_⟩;have c0:0<=c:=by obtain⟨a,b,g,c0⟩:=I;exact c0
 have L:p≠l:=by
  obtain⟨a,b,g,_⟩:=I;refine R4 g J λe=>?_;have e1:=congrArg List.length #[n7];cases ss with
  | nil=>cases e1
  | cons x r=>exact absurd #[n7] #[20]
 refine⟨rfl,_,rfl,p,c,_,rfl,I,by lia,by decide,by decide,λr H1 r0 r1 L1 M=>?_⟩;refine⟨_,rfl,by lia,by lia,λD t=>?_⟩;have y:p≠D:=by obtain⟨a,b,g,_⟩:=L1;exact Ze g t
 have sZ:=M l _ J L.symm;have qF:l≠D:=Ze sZ t;have yJ:H D=af:=by
  cases w':H D with
  | none=>rfl
  | some u=>rw[M D u w' y.symm]at t;cases t
 refine MN (λi B N k=>X3 λ(d:List ak) (v:Option V) (c2:Int)=>N=[U #[ir],U #[cT],af,v]/\B=d.map V.str/\d.length=i/\#[d9,d,1]/\Y0 k p c2/\c+1<=c2/\c2<=c+1+i /\
   k D=U (.lst B)/\But p H k) ?_ ?_ ?_
 ·refine⟨[],af,c+1,rfl,rfl,rfl,#[d7,s,j],?_,by lia,by lia,Zd,?_⟩
  ·show#[eN,g,O,L1,y]
  ·intro b o e n;rw[Zc (Ze e yJ)];exact M b o e n
 ·rintro i B N k hi ⟨d,v,c2,rfl,rfl,R,j,S,b1,b2,W,C⟩;refine⟨_,rfl,p,c2,_,rfl,S,by lia,by decide,by decide,λr' X Y qE Z m=>?_⟩;obtain⟨ch,Di,ic⟩:=Uc (z := "ababcz") Y qE;have ip:X D=U #[uZ]:=m D _ W y.symm;refine⟨_,_,_,rfl,rfl,#[1],ic,ip,#[dB,R],d++[⟨#[ch]⟩],_,c2+1,rfl,?_,?_,?_,?_,by lia,by lia,Zd,?_⟩
  ·rw[Qg];rfl
  ·rw[Qe,R];rfl
  ·intro x hx;rcases Ql.mp hx with hx|hx
   ·exact j x hx
   ·rw[Qh.mp hx];exact⟨Qf 1,Zrd.one Di⟩
  ·show#[eN,g,O,Z,y]
  ·intro b o e n;rw[Zc (Ze e yJ)];exact m b o (C b o e n) n
 ·rintro B N k ⟨d,v,c2,rfl,rfl,R,j,S,b1,b2,W,C⟩;have kC:=Lk d λs h=>(j s h).1;have qG:=Ll "" d;have e0:("" : ak).length=0:=by ac_rfl
  rw[e0]at qG;have dF:=C l _ J L.symm;refine⟨_,D,d,rfl,rfl,SqL.of W,#[eM,e0],?_⟩;have ba:((#[24].length:Nat):Int)=#[s2]:=by rw[Qa]
  refine⟨_,rfl,_,rfl,_,rfl,l,_,rfl,.inl (SqL.of dF),p,c2,_,rfl,S,by lia,by lia,by lia,λr' X Y qE Z m=>?_⟩;obtain⟨st,fO,gF⟩:=Pe (ss:=ss) Y #[2];have bX:=(mn st fO).1;refine⟨l,_,_,_,rfl,rfl,SqL.of (m l _ dF L.symm),gF,_,rfl,_,_,rfl,rfl,small #[2],?_⟩;refine q _ (c2+1) X ?_ ((mn st fO).2.app (AZ.joinT d λs h=>(j s h).2)) Z #[2] #[2] (C.trans m);rw[QP];lia
theorem Zhq(T:#[e]):Df P w K mg base 1 "alike_from" #[39] SJ:=by
 show#[dj,T.t_alike_from.df,Pr,D,hr];obtain⟨x,y,c,rfl,p,r,F,q⟩:=h;refine⟨_,#[Zf,#[pk,Pr.nd,2],#[Zf,(@RX _ _ _ _ _ _ bC.never (@PW.pt _ _ _ #[Xi,#[dt,WC,3,#[44]],#[Xi,#[fD,WC,3],#[W7,#[Zo,YH,#[pa,Vt,0,3],#[pa,Vt,1,3],#[cZ]]]]]) #[Zh,(@Zru _ _ 3 _ _ _ _ _ _ Pr.nd rfl #[3] #[Zk] Zq5 #[sv])]),#[ea,3]]],_,rfl,?_⟩;have lx:#[bu].length=x.length:=by simp[ak.length]
 have ly:#[b3].length=y.length:=by simp[ak.length]
 have ll:=Wg #[bu] #[b3];refine⟨λm t g=>∃k:Nat,t=[U #[uO],U (.str y),U (.int c),U (.int k)]/\g=H/\k<=lcp #[bu] #[b3]/\m=lcp #[bu] #[b3]-k,⟨_,c,rfl,rfl,F,rfl⟩,?_⟩;rintro m t g ⟨k,rfl,rfl,d,rfl⟩;refine⟨_,rfl,_,rfl,x,rfl,small p,_,_,rfl,rfl,_,rfl,?_⟩;show#[eP,i]
 ·have u:(k:Int)<#[uh]:=of_decide_eq_true i;refine⟨_,rfl,_,rfl,y,rfl,small r,_,_,rfl,rfl,_,rfl,?_⟩;show#[eP,j]
  ·have v:(k:Int)<(y.length:Int):=of_decide_eq_true j;obtain⟨a,l,G⟩:=Uc (z:=x) (k:=k) #[2] u;obtain⟨b,n,I⟩:=Uc (z:=y) (k:=k) #[2] v;rw[Int.toNat_natCast]at l n;refine⟨_,rfl,_,rfl,x,_,a,rfl,rfl,small p,G,_,rfl,_,rfl,y,_,b,rfl,rfl,small r,I,rfl,_,rfl,?_⟩;show#[eP,o]
   ·have J:a=b:=by have:=of_decide_eq_true o;injection this with e;injection e with e;simpa using e
    subst J;have:=Li _ _ k d a l n;refine⟨λB C=>B=[U #[uO],U (.str y),U (.int c),U #[oa]]/\C=g,λB C ⟨L,M⟩=>⟨_,?_,k+1,L,M,this,rfl⟩,?_⟩
    ·lia
    ·exact⟨_,rfl,_,_,rfl,rfl,rfl,rfl⟩
   ·refine#[tW];have e:=Pd _ _ k d (.inr (.inr ⟨a,b,l,n,λe=>o (by subst e;exact #[hv])⟩));rw[e]at q;exact q
  ·refine Y3 #[tW];have v:¬ (k:Int)<(y.length:Int):=of_decide_eq_false (Bool.eq_false_iff.mpr j);have e:=Pd _ _ k d (.inr (.inl #[2]));rw[e]at q;exact q
 ·refine Y3 #[tW];have u:¬ (k:Int)<#[uh]:=of_decide_eq_false (Bool.eq_false_iff.mpr i);have e:=Pd _ _ k d (.inl #[2]);rw[e]at q;exact q
theorem ZoT(T:#[e])(a:#[jg]):Df P w K mg base 2 "alike" #[84] SK:=by
 show#[dj,T.t_alike.df,ZnE,b,c];show#[fy,x,y,d,e];refine⟨_,#[Zh,#[Zn,#[oU,a,c,1]]],?_⟩;exact⟨_,rfl,_,rfl,x,y,0,rfl,d,e,Qm _,q⟩
theorem YS{c A B:Prop}[Decidable c](hc:c)(h:A):if decide c=true then A else B:=by rw[if_pos (decide_eq_true hc)];exact h
theorem Yo{c A B:Prop}[Decidable c](hc:¬ c)(h:B):if decide c=true then A else B:=by rw[if_neg (by rw[decide_eq_false hc];exact Qt)];exact h
theorem K6(T:#[e]):∀n:Nat,Df P w K mg base (n+1) "_law_same" #[aY] (Lf n)
 | 0=>by
  show#[t1]
  ·obtain⟨x,y,rfl,_⟩:=h;rfl
  obtain⟨x,y,rfl,h,_⟩:=h;exact h.elim
 | n+1=>by
  have iG:=K6 T n;show#[t1]
  ·obtain⟨x,y,rfl,_⟩:=h;rfl
  show#[pO,x,y,t];refine⟨_,#[Zf,#[ZT,#[W8,#[Zq,(Zsj K),#[5],T.b.n_isinstance,boot_isinstance,#[Zg,‹1›,#[Yi,#[Zg,#[XR,T.b.n_list,boot_list],#[XR,T.b.n_tuple,boot_tuple]]]]]],#[Zf,#[ZT,(@PW.pt _ _ _ #[WO,#[Zo,V4,#[dy,0,T.b.n_list,boot_list],#[dy,1,T.b.n_list,boot_list],#[cZ]],#[WP,#[Zo,V4,#[dy,0,T.b.n_tuple,boot_tuple],#[dy,1,T.b.n_tuple,boot_tuple],#[cZ]]]]),#[ks],#[ZB]],#[Zh,#[Zn,(@U2 _ _ _ _ _ _ _ #[XF,YH,#[34],#[ag],#[cZ]] (@U3 _ _ _ _ _ #[Zq,(Ztz K),#[5],T.b.n_all,boot_all,#[Zg,#[Xn,Vg,(@iZ _ K _ _ _ _ _ _ _ _ T.b.n_zip #[d6,0,1] #[5] #[5] #[5] #[5]),#[dL,2,Vg,3],#[16],(λ_ _ _ _=>#[ZD,iG,hr,#[Zg,#[cw,2,Vg],#[cw,3,Vg]],#[gJ,Vg]])]]]))]]],#[ZB]],#[Zf,#[ZT,(@PW.pt _ _ _ #[WO,#[ge,1],#[WP,#[W8,#[ce]]]]),#[Zh,#[Zn,(@U2 _ _ _ _ _ _ _ #[iY] (@U3 _ _ _ _ _ #[XF,YH,#[cf],#[ce],#[cZ]]))]],#[ZB]],#[Zf,#[ZT,#[W8,#[dy,1,T.b.n_bool,boot_bool]],#[Zh,#[Zn,(@U2 _ _ _ _ _ _ _ #[b4] (@U3 _ _ _ _ _ #[iY]))]],#[ZB]],#[Zh,#[Zn,(@U2 _ _ _ _ _ _ _ #[dy,0,T.b.n_int,boot_int] (@U2 _ _ _ _ _ _ _ (@ZrN _ _ _ _ #[b4]) (@U3 _ _ _ _ _ #[iY])))]]]]],?_⟩;refine⟨_,rfl,#[61],λc u=>?_⟩;have O:ZG H #[15]:=Zi u _;rcases t with⟨rfl,rfl|⟨b,rfl⟩|⟨i,rfl⟩|⟨z,rfl⟩⟩|⟨p,m,xs,ys,rfl,rfl,⟨v,B⟩|⟨v,B⟩,hl,hz,hi⟩
  ·refine⟨_,c,#[85],_,_,rfl,Zd,.non,ZmC K,_,rfl,Y3 ?_⟩;refine⟨_,rfl,rfl,_,rfl,YS rfl (Yz ?_)⟩;refine#[lV];exact⟨_,rfl,_, "str",_,_,rfl,.non,K9 K,_,rfl,_, "str",_,_,rfl,.non,K9 K,rfl,q _ O⟩
  ·refine⟨_,c,#[85],_,_,rfl,Zd,.bl b,Zn9 K,_,rfl,Y3 ?_⟩;refine#[b8];refine⟨_,rfl,_, "str",_,_,rfl,.bl b,Zo6 K,_,rfl,Y3 ?_⟩;refine#[ji];refine#[ji];refine#[tz];have e:decide (V.bl b=V.bl b)=true:=#[hv];rw[e];exact q _ O
  ·refine⟨_,c,#[85],_,_,rfl,Zd,.int i,Zm0 K,_,rfl,Y3 ?_⟩;refine#[b8];show#[oZ,"str",ZmK,Y3];show#[oZ,"bool",La,Y3];show#[oZ,"int",Zl5,Yz];refine⟨_,rfl,_, "bool",_,_,rfl,.int i,La K,_,rfl,_,rfl,Yz ?_⟩;refine#[tz];have e:decide (V.int i=V.int i)=true:=#[hv];rw[e];exact q _ O
  ·refine⟨_,c,#[85],_,_,rfl,Zd,.str z,Zm1 K,_,rfl,Y3 ?_⟩;refine#[b8];refine⟨_,rfl,_, "str",_,_,rfl,.str z,SI K,_,rfl,Yz ?_⟩;refine#[lV];exact⟨_,rfl,_, "str",_,_,rfl,.str z,SI K,_,rfl,_, "str",_,_,rfl,.str z,SI K,rfl,q _ O⟩
  ·have j:#[15] p=U #[iI]:=by rw[Zc (Ze v u)];exact v
   have g:#[15] m=U #[mb]:=by rw[Zc (Ze B u)];exact B
   refine⟨_,c,#[85],_,_,rfl,Zd,.lst g,ZmB K,_,rfl,Yz ?_⟩;refine⟨_,rfl,_, "list",_,_,rfl,.lst j,Le K,_,rfl,_, "list",_,_,rfl,.lst g,Le K,rfl,_,rfl,Vq rfl ?_⟩;refine⟨_,rfl,_, "tuple",_,_,rfl,.lst j,Ld K,_,rfl,_, "tuple",_,_,rfl,.lst g,Ld K,rfl,_,rfl,Vq rfl ?_⟩;refine⟨_,rfl,p,xs,rfl,.inl (SqL.of j),_,rfl,m,ys,rfl,.inl (SqL.of g),rfl,_,rfl,YS (by rw[hl]) ?_⟩;refine⟨_,rfl,_,rfl,.l p,.l m,xs,ys,rfl,SqL.of j,SqL.of g,λD t=>?_⟩;show#[38]
   ·exact#[jr]
   ·rintro i zs k a ⟨_,_,d,_⟩;exact⟨SqL.of (d _ _ v),SqL.of (d _ _ B)⟩
   ·show#[z]
    ·rw[List.replicate_succ']
    ·show#[bT]
   ·show#[ab];have e:#[iq]:=by rw[Qa2];show#[m6]
    rw[e];exact q a d
  ·have j:#[15] p=U #[kk]:=by rw[Zc (Ze v u)];exact v
   have g:#[15] m=U (.tup ys):=by rw[Zc (Ze B u)];exact B
   refine⟨_,c,#[85],_,_,rfl,Zd,.tup g,Zmx K,_,rfl,Yz ?_⟩;refine⟨_,rfl,_, "list",_,_,rfl,.tup j,Lc K,_,rfl,_, "list",_,_,rfl,.tup g,Lc K,rfl,_,rfl,Vq rfl ?_⟩;refine⟨_,rfl,_, "tuple",_,_,rfl,.tup j,Lb K,_,rfl,_, "tuple",_,_,rfl,.tup g,Lb K,rfl,_,rfl,Vq rfl ?_⟩;refine⟨_,rfl,p,xs,rfl,.inr (SqT.of j),_,rfl,m,ys,rfl,.inr (SqT.of g),rfl,_,rfl,YS (by rw[hl]) ?_⟩;refine⟨_,rfl,_,rfl,.t p,.t m,xs,ys,rfl,SqT.of j,SqT.of g,λD t=>?_⟩;show#[38]
   ·exact#[jr]
   ·rintro i zs k a ⟨_,_,d,_⟩;exact⟨SqT.of (d _ _ v),SqT.of (d _ _ B)⟩
   ·show#[z]
    ·rw[List.replicate_succ']
    ·show#[bT]
   ·show#[ab];have e:#[iq]:=by rw[Qa2];show#[m6]
    rw[e];exact q a d
theorem Y0.new{H:Hp}{p l:ae}{c:Int}{o:HO}(h:Y0 H p c)(n:H l=af):Y0 (upd H l o) p c:=by obtain⟨a,b,d,c0⟩:=h;exact⟨a,b,by rw[Zc (Ze d n)];exact d,c0⟩
theorem Y0.ge{H:Hp}{p:ae}{c:Int}(h:Y0 H p c):0<=c:=by obtain⟨a,b,hp,c0⟩:=h;exact c0
theorem Y0.here{H:Hp}{p:ae}{c:Int}(h:Y0 H p c):∃o,H p=U o:=by obtain⟨a,b,d,c0⟩:=h;exact⟨_,d⟩
theorem Y0.at{H:Hp}{p l:ae}{c:Int}{o:HO}(h:Y0 H p c)(n:p≠l):Y0 (upd H l o) p c:=by obtain⟨a,b,d,c0⟩:=h;exact#[fk,n,d,c0]
theorem K5:∀ss:List ak,(∀s∈ss,AZ s)->aJ.canLayAll0 #[iT]=true
 | [],_=>rfl
 | x::r,h=>by simp[aJ.canLayAll0,aJ.canLay0,(h x #[4]).ok,K5 r λs hs=>h s #[r1]]
theorem Pa:∀ss:List ak,aJ.depthAll #[iT]=0
 | []=>rfl
 | _::r=>by simp[aJ.depthAll,aJ.depth,Pa r]
theorem Zj2(ss:#[T])(h:∀s∈ss,AZ s):SeqAt.shaped (.list #[iT])=true:=by simp[SeqAt.shaped,aJ.canLay0,aJ.depth,K5 ss h,Pa]
theorem O9{K:#[7]}{H:Hp}:∀ss:List ak,DVs K H #[24] #[iT]
 | []=>.nil
 | s::r=>.cons (.str s) (O9 r)
def SH:Sp:=λvs H Q _=>X5 λ(p l:ae) (c a:Int) (ss:List ak)=>vs=[.ref p,.ref l,.int a]/\Y0 H p c/\c<2 ^ 40/\0<=a/\a<=60/\H l=U #[i2]/\1<=ss.length/\ss.length<=4/\#[bd] /\
 ∀ (r:ae) (d:List ak) (e:Int) (b:Hp),H r=af->b r=U #[uZ]->(d.length:Int)<=a->#[d9,d,28]->Y0 b p e->c<=e->e<=c+600->But p H b->Q #[kz] b
theorem Zqi(T:#[e])(O:#[R])(jo:#[r7]):Df P w K mg base 4 "_law_keys" #[o] SH:=by
 show#[dj,T.t_l_keys.df,Um,vs,v];obtain⟨p,l,c,I,ss,rfl,J,c1,m0,m1,R,n1,n4,mn,q⟩:=h;refine⟨_,#[Zf,#[oF,3,Um.nd],#[Zf,#[Xh,bC.never,(@RW _ _ _ _ _ _ rfl T.b.n_range #[Zg,#[ZD,O,v,#[Zg,‹0›,#[vp,WV,2]],#[5]]] #[5]),#[pq,4,Um.nd],#[Zf,#[Zz,5,Um.nd,#[3],#[pB,jo,v,0,1]],#[Zf,#[ZT,(@PW.pt _ _ _ #[Xi,#[Zo,(@neD _ K _ v #[5]),‹3›,#[cF],#[cZ]],#[W7,#[Zo,YH,#[pX,O,v],#[Zk],#[cZ]]]]),#[Zh,#[Zz,5,Um.nd,#[3],#[ZJ,#[ol],‹3›,#[ej,O,v,0,#[cE]]]]],#[ZB]],#[Zh,#[eQ,3,5]]]]],#[ea,3]]],?_⟩;have c0:=J.ge;show#[vk,r,k];have y:p≠r:=by obtain⟨o,ho⟩:=J.here;exact Ze ho k
 have yK:l≠r:=Ze R k;have jm:p≠l:=by
  obtain⟨a,b,hp,_⟩:=J;refine R4 hp R λe=>?_;cases ss with
  | nil=>exact absurd (congrArg List.length #[n7]) #[4]
  | cons x r=>exact absurd #[n7] #[20]
 refine⟨_,rfl,_,rfl,_,_,rfl,rfl,p,c,_,rfl,J.new k,by lia,by lia,by lia,λn H1 w0 w1 L1 B1=>?_⟩;refine⟨_,rfl,by lia,by lia,?_⟩;have g8:H1 r=U #[65]:=B1 r _ Zd y.symm;have Dl:But p H H1:=#[pM,k].trans B1;refine RU (λi S m=>X4 λ(g:List ak) (B C:Option V) (c2:Int)=>S=#[nM]/\m r=U #[dv,g.map]/\g.length=i/\#[d9,g,28]/\Y0 m p c2/\c+1<=c2/\c2<=c+1+8*i/\#[d1,H,p,m]) ⟨[],af,af,c+1,rfl,g8,rfl,#[d7,s,hs],L1,by lia,by lia,Dl⟩ ?_ ?_
 ·rintro i S m hi ⟨g,B,C,c2,rfl,W,X,D,L2,a1,a2,L⟩;have Fd:(i:Int)<61:=by lia
  have dF:=L l _ R jm.symm;refine⟨_,rfl,_,rfl,p,l,c2,ss,rfl,L2,by lia,dF,n1,n4,mn,λkey c3 H3 gO uH L3 a3 a4 B3=>?_⟩;have fZ:=B3 r _ W y.symm;have Y:∀ (k2:ak) (c4:Int) (j:Hp),k2.length<=28/\AZ k2->Y0 j p c4->c2<=c4->c4<=c2+8->j r=U #[dv,g.map]->#[d1,H,p,j] ->
    X4 λ(Z:List ak) (B C:Option V) (c5:Int)=>[U (V.ref p),U (V.ref l),U (V.int I),U (V.ref r),U (V.int (0+(i:Int))),U (V.str k2)]=#[nM] /\
     (upd j r #[iJ]) r=U #[dv,Z.map]/\Z.length=i+1/\#[d9,Z,28]/\Y0 (upd j r #[iJ]) p c5/\c+1<=c5/\c5<=c+1+8*#[et,i] /\
     (∀b o,H b=U o->b≠p->(upd j r #[iJ]) b=U o):=λk2 c4 j hk L4 b1 b2 nz B4=>by
   refine⟨g++[k2],_,_,c4,rfl,?_,by rw[Qe,X];rfl,?_,L4.at y,by lia,by lia,λb o e n=>?_⟩
   ·rw[Zd,Qg];rfl
   ·intro x hx;rcases Ql.mp hx with hx|hx
    ·exact D x hx
    ·rw[Qh.mp hx];exact hk
   ·rw[Zc (Ze e k)];exact B4 b o e n
  have bi:(g.map V.str).length<aq:=by rw[Qa,X];exact ZA #[2]
  refine⟨_,rfl,#[18],λe M=>?_⟩;have F:#[eO,H3,e] r=U #[dv,g.map]:=by rw[Zc (Ze fZ M)];exact fZ
  refine⟨.list (g.map aJ.str),.list [],.lst (SqL.of F) (O9 g),.lst (SqL.of Zd) .nil,Zj2 g (λs h=>(D s h).2),#[1],_,rfl,?_⟩;have vZ:∀b o,H b=U o->b≠p->#[eO,H3,e] b=U o:=λb o z n=>Zi M _ b o (B3 b o (L b o z n) n);cases g with
  | nil =>
   have ev:(if true=true then !aJ.eqv #[ra] #[tq] else aJ.eqv #[ra] #[tq])=false:=by ac_rfl
   rw[ev];refine Y3 (Y3 ?_);refine⟨_,rfl,.inl #[dJ,F],_,rfl,r,_,_,rfl,rfl,F,bi,?_⟩;exact Y key c3 _ ⟨gO,uH⟩ (L3.new M) #[2] #[2] F vZ
  | cons t u =>
   have ev:(if true=true then !aJ.eqv #[r4] #[tq] else aJ.eqv #[r4] #[tq])=true:=by simp[aJ.eqv,aJ.eqvAll]
   rw[ev];refine Yz ⟨_,rfl,p,c3,_,rfl,L3.new M,by lia,by decide,by decide,λd H5 d0 d1 L5 B5=>?_⟩;have G:=B5 r _ F y.symm;refine⟨rfl,_,rfl,YW #[sZ] #[sZ]⟩
   ·have ba:((((t::u).map V.str).length:Nat):Int)=((t::u).length:Int):=by rw[Qa]
    have gQ:(0:Int)<((t::u).length:Int):=by simp
    refine⟨_,rfl,_,rfl,_,rfl,r,_,rfl,.inl (SqL.of G),p,c3+1,_,rfl,L5,by lia,by lia,by lia,λd' H6 Dm s0 L6 B6=>?_⟩;obtain⟨st,fO,gF⟩:=Pe (ss:=t::u) Dm #[2];have N:=B6 r _ G y.symm;refine⟨r,_,_,_,rfl,rfl,SqL.of N,gF,_,rfl,.inl #[dJ,N],_,rfl,r,_,_,rfl,rfl,N,bi,?_⟩;exact Y st _ _ (D st fO) L6 #[2] #[2] N λb o z n=>B6 b o (B5 b o (vZ b o z n) n) n
   ·refine⟨_,rfl,.inl #[dJ,G],_,rfl,r,_,_,rfl,rfl,G,bi,?_⟩;exact Y key _ _ ⟨gO,uH⟩ L5 #[2] #[2] G λb o z n=>B5 b o (vZ b o z n) n
 ·rintro S m ⟨g,B,C,c2,rfl,W,X,D,L2,a1,a2,L⟩;exact⟨_,rfl,q r g c2 m k W #[2] D L2 #[2] #[2] L⟩
noncomputable def Xb(ss:#[T])(i:Nat):Int:=if i=0 then 0 else (lcp (cds (ss.getD (i-1) "")) (cds (ss.getD i "")):Nat)
def SG(K:#[7]):Sp:=λvs H Q _=>X2 λ(a:ae) (ss:List ak)=>vs=#[jW]/\SqL K H a #[24]/\ss.length<=200/\#[cb] /\
 ∀ (r:ae) (b:Hp),H r=af->b r=U #[iX]->ZG H b->Q #[kz] b
theorem Zmn(T:#[e])(O:#[kJ]):Df P w K mg base 3 "alikes" ["row"] (SG K):=by
 show#[dj,T.t_alikes.df,SV,R,S];show#[o6,a,c,u,hn,F];refine⟨_,#[Zf,#[oF,1,SV.nd],#[Zf,#[Xh,bC.never,#[iE,K,T.b.n_enumerate,#[Zg,‹0›]],#[oV,SV.nd],#[Zh,#[ZL,#[YF,QF,QG,QH,Xz,‹1›,#[Zg,#[Yk,#[dt,YH,2,#[Zk]],#[Zk],#[ZD,O,S,#[Zg,#[ZJ,#[ol],‹0›,#[vp,U1,2]],‹3›],#[5]]]]]]]],#[ea,1]]],#[18],λr v=>?_⟩;have G:ZG H #[eO,H,r]:=Zi v _;refine⟨_,rfl,a,c.map V.str,rfl,G.seq u,?_⟩;refine RB (K:=K) (a:=a) (xs:=c.map V.str) (λi B d=>(X2 λg k:Option V=>B=[U #[cd],U #[kz],g,k])/\d r=U (.lst #[a9])/\ZG H d/\i<=c.length) ⟨⟨af,af,rfl⟩,Zd,G,Qm _⟩ (λ_ _ _ W=>by obtain⟨_,_,l,_⟩:=W;exact l.seq u) ?_ ?_
 ·rintro i x B d p m ⟨⟨g,k,rfl⟩,n,l,X⟩ I;rw[Qo]at m;cases t:c[i]? with
  | none=>rw[t]at m;cases m
  | some y =>
   show#[dr,t,m,Y,i,c.length];have Z:r≠p:=Ze n I;have J:ZG H #[co]:=l.trans (Zi I _);have C:#[co] r=U (.lst #[a9]):=by rw[Zc Z];exact n
   have L:((List.range i).map λj=>V.int (Xb c j)).length<aq:=by rw[Qa,List.length_range];exact ZA #[2]
   have M:∀z:Int,z=Xb c i->(X2 λg k:Option V=>[U (V.ref a),U (V.ref r),U (V.int i),U (V.str y)]=[U #[cd],U #[kz],g,k]) /\
     (upd #[co] r #[tL]) r=U (.lst ((List.range (i+1)).map λj=>.int (Xb c j))) /\
     ZG H (upd #[co] r #[tL])/\i+1<=c.length:=λz e=>by
    refine⟨⟨_,_,rfl⟩,?_,λb o h=>?_,Y⟩
    ·rw[Zd,List.range_succ,Qg,e];rfl
    ·show#[oO,h,v,J,b,o]
   refine⟨p,_,rfl,SqT.of Zd,rfl,_,_,rfl,_,_,rfl,rfl,_,rfl,.inl #[dJ,C],_,rfl,rfl,_,rfl,?_⟩;by_cases N:i=0
   ·subst N;exact YS rfl ⟨r,_,_,rfl,rfl,C,L,M 0 rfl⟩
   ·have D:i-1<c.length:=by lia
    have ei:((i:Int)-1)=((i-1:Nat):Int):=by lia
    have fX:atI (c.map V.str) ((i:Int)-1)=U (.str c[i-1]):=by rw[ei];exact XA #[gY,D]
    refine Yo (λz=>by injection z with z;lia) ⟨_,rfl,_,rfl,_,_,rfl,rfl,a,_,_,_,rfl,rfl,J.seq u,fX,_,rfl,c[i-1],y,rfl,F _ (Qae D),F _ (Qu t),r,_,_,rfl,rfl,C,L,M _ ?_⟩;unfold Xb;rw[if_neg N,QM,QM,Qb D,t];rfl
 ·rintro B d ⟨⟨g,k,rfl⟩,n,l,X⟩;rw[Qa]at n;exact⟨_,rfl,q r d v n l⟩
noncomputable def ZS:List Nat->List Nat->Int
 | [],[]=>0
 | [],_::_ =>-1
 | _::_,[]=>1
 | a::r,b::s=>if a=b then ZS r s else if a<b then -1 else 1
theorem K4:∀ (x y:List Nat),Spec.ltCps y x=false->ZS x y<=0
 | [],[],_=>by unfold ZS;lia
 | [],_::_,_=>by unfold ZS;lia
 | _::_,[],h=>by unfold Spec.ltCps at h;cases h
 | a::r,b::s,h=>by
  have ih:=K4 r s;unfold Spec.ltCps at h;unfold ZS;rw[Bool.or_eq_false_iff,Bool.and_eq_false_iff]at h;show#[dz,c,d,h];have sS:¬ b<a:=of_decide_eq_false c;by_cases e:a=b
  ·rw[if_pos e];rcases d with z|z
   ·rw[e]at z;simp at z
   ·exact ih z
  ·rw[if_neg e,if_pos #[2]];lia
theorem SE:∀ (x y z:List Nat),ZS x y<=0->ZS y z<=0->ZS x z<=0
 | [],_,[],_,_=>by unfold ZS;lia
 | [],_,_::_,_,_=>by unfold ZS;lia
 | _::_,[],_,h,_=>by unfold ZS at h;lia
 | _::_,_::_,[],_,h=>by unfold ZS at h;lia
 | a::r,b::s,c::t,h1,h2=>by
  unfold ZS at h1 h2 ⊢;have ih:=SE r s t;by_cases f:a=b
  ·rw[if_pos f]at h1;by_cases d:b=c
   ·rw[if_pos d]at h2;rw[if_pos (f.trans d)];exact ih h1 h2
   ·rw[if_neg d]at h2;rw[if_neg (λe=>d (f.symm.trans e))];split at h2
    ·rw[if_pos #[2]];lia
    ·lia
  ·rw[if_neg f]at h1;split at h1
   ·by_cases d:b=c
    ·rw[if_neg (λe=>f (e.trans d.symm)),if_pos #[2]];lia
    ·rw[if_neg d]at h2;split at h2
     ·rw[if_neg #[2],if_pos #[2]];lia
     ·lia
   ·lia
theorem K3:∀ (ss:List ak) (p:ak),risingS p ss=true->∀ (k:Nat) (x y:ak),(p::ss)[k]? = U x->ss[k]? = U y->ZS #[bu] #[b3]<=0
 | [],p,_,k,x,y,_,h=>by simp at h
 | z::r,p,h,0,x,y,h1,h2=>by unfold risingS at h;rw[QW]at h;simp at h1 h2;subst h1 h2;exact K4 _ _ #[dq,h.1]
 | z::r,p,h,k+1,x,y,h1,h2=>by unfold risingS at h;rw[QW]at h;exact K3 r z h.2 k x y #[dq,h1] #[dq,h2]
theorem K2{ss:#[T]}(h:#[p0,ss])(k:Nat)(x y:ak)(h1:ss[k]? = U x)(h2:ss[k+1]? = U y):ZS #[bu] #[b3]<=0:=by
 cases ss with
 | nil=>simp at h1
 | cons p r=>exact K3 r p h k x y h1 #[dq,h2]
theorem K1{ss:#[T]}{k:Nat}(h:k<ss.length):atI #[24] (k:Int)=U (.str ss[k]):=XA #[gY,h]
theorem Y0.same{H a:Hp}{p:ae}{c:Int}(h:Y0 H p c)(s:ZG H a):Y0 a p c:=by obtain⟨b1,b2,hb,c0⟩:=h;exact⟨b1,b2,s _ _ hb,c0⟩
noncomputable def mid(ns:#[F]):Nat:=(ns.length+1) / 2
noncomputable def XO(ns:#[F]):List Int:=ns.take (mid ns)
noncomputable def WI(ns:#[F]):List Int:=ns.drop (mid ns)
theorem Zqc(ns:#[F]):(#[uU]+1) / 2=((mid ns:Nat):Int):=by rw[Qa];unfold mid;lia
theorem Zrs(ns:#[F])(m:Nat)(h:m<=ns.length):Xd #[U] af #[la]=(ns.take m).map V.int:=by
 unfold Xd;have e:HT.sIx #[U].length #[U].length #[la]=m:=by unfold HT.sIx;show#[h3];lia
 have a:HT.sIx #[U].length 0 af=0:=rfl;show#[lL]
theorem Zo0(ns:#[F])(m:Nat)(h:m<=ns.length):Xd #[U] #[la] af=(ns.drop m).map V.int:=by
 unfold Xd;have e:HT.sIx #[U].length 0 #[la]=m:=by unfold HT.sIx;show#[h3];lia
 have a:HT.sIx #[U].length #[U].length af=#[U].length:=rfl;rw[e,a,List.map_drop,Qw #[pU,QT,Qa]]
theorem O8(z:ak):(cds z).length=z.length:=by simp[ak.length]
theorem K0:∀ (x y:List Nat),(lcp x y=x.length->lcp x y=y.length->ZS x y=0)/\(lcp x y=x.length->lcp x y≠y.length->ZS x y = -1)/\(lcp x y≠x.length->lcp x y=y.length->ZS x y=1) /\
  ∀a b,x[lcp x y]? = U a->y[lcp x y]? = U b->ZS x y=if a<b then -1 else 1
 | [],[]=>⟨λ_ _=>rfl,λ_ h=>absurd rfl h,λh _=>absurd rfl h,λa b h _=>by simp at h⟩
 | [],_::_=>⟨λ_ h=>by unfold lcp at h;simp at h,λ_ _=>rfl,λh _=>absurd rfl h,λa b h _=>by simp at h⟩
 | _::_,[]=>⟨λh _=>by unfold lcp at h;simp at h,λh _=>by unfold lcp at h;simp at h,λ_ _=>rfl,λa b _ h=>by simp at h⟩
 | a::r,b::s=>by
  obtain⟨h1,h2,f,g⟩:=K0 r s;unfold lcp ZS;by_cases e:a=b
  ·show#[pt,e,e];simp only[List.length_cons,List.getElem?_cons_succ];exact⟨λp q=>h1 #[2] #[2],λp q=>h2 #[2] #[2],λp q=>f #[2] #[2],g⟩
  ·show#[oT,e,e];simp only[List.length_cons,List.getElem?_cons_zero];refine⟨λp=>by lia,λp=>by lia,λ_ p=>by lia,λc d p q=>?_⟩;cases p;cases q;rfl
theorem VP:∀ (x y:List Nat),ZS y x =-ZS x y
 | [],[]=>rfl
 | [],_::_=>rfl
 | _::_,[]=>rfl
 | a::r,b::s=>by
  have ih:=VP r s;unfold ZS;by_cases e:a=b
  ·rw[if_pos e,if_pos e.symm,ih]
  ·rw[if_neg e,if_neg λz=>e z.symm];by_cases l:a<b
   ·rw[if_pos l,if_neg #[2]];rfl
   ·rw[if_neg l,if_pos #[2]]
theorem Ub(a b:Nat):decide ((⟨#[a]⟩:ak).cps.toList<(⟨#[b]⟩:ak).cps.toList)=decide (a<b):=by
 have e:([a]:List Nat)<[b]↔a<b:=by
  constructor
  ·intro h;cases h with
   | rel h=>exact h
   | cons h=>cases h
  ·exact λh=>List.Lex.rel h
 exact decide_eq_decide.mpr e
theorem KZ:∀ (x y:List Nat),ZS x y=0->x=y
 | [],[],_=>rfl
 | [],_::_,h=>by unfold ZS at h;lia
 | _::_,[],h=>by unfold ZS at h;lia
 | a::r,b::s,h=>by
  unfold ZS at h;by_cases e:a=b
  ·rw[if_pos e]at h;rw[e,KZ r s h]
  ·show#[pC,e];split at h<;>lia
def O7:Sp:=λvs H Q _=>X2 λx y:ak=>vs=[.str x,.str y]/\x.length<=1000/\y.length<=1000/\Q #[pi,ZS] H
def SD:Sp:=λvs H Q _=>X2 λx y:ak=>vs=#[vo,#[p]]/\x.length<=1000/\y.length<=1000/\Q #[pi,ZS] H
theorem ZnL(T:#[e]):Df P w K mg base 1 "order_at" #[a6] SD:=by
 show#[dj,T.t_order_at.df,ZjM,r,hr];show#[fy,x,y,g,i];refine⟨_,#[Zf,#[ZT,(@PW.pt _ _ _ #[Xi,#[dt,YH,2,#[44]],#[W7,#[fD,YH,2]]]),#[Zh,#[Zn,#[Zk]]],#[ZB]],#[Zf,#[ZT,#[dt,YH,2,#[44]],#[Zh,#[Zn,#[hG]]],#[ZB]],#[Zf,#[ZT,#[fD,YH,2],#[Zh,#[Zn,#[Zk]]],#[ZB]],#[Zh,#[Zn,#[Yk,#[Zo,RP,#[pa,Vt,0,2],#[pa,Vt,1,2],#[cZ]],#[hG],#[Zk]]]]]]],?_⟩;obtain⟨t,u,v,B⟩:=K0 #[bu] #[b3];have ll:=Wg #[bu] #[b3];have lx:=O8 x;have ly:=O8 y;have inj:∀ {m n:Nat},V.int (m:Int)=V.int (n:Int)->m=n:=λ{m n} e=>by injection e with e;lia
 refine⟨_,rfl,_,rfl,x,rfl,small g,rfl,_,rfl,YW #[cO] #[cO]⟩
 ·have j:=inj #[i7];refine#[h2]
  ·have l:=#[sQ];rw[t #[2] #[2]]at q;exact q
  ·have l:#[rG]:=λe=>c #[lH];refine⟨_,rfl,_,rfl,x,rfl,small g,rfl,_,rfl,YS (by rw[j]) ?_⟩;rw[u #[2] #[2]]at q;exact#[lU]
 ·have j:¬ lcp #[bu] #[b3]=x.length:=λe=>d #[lH];refine Y3 ⟨_,rfl,_,rfl,x,rfl,small g,rfl,_,rfl,Yo (λe=>j (inj e)) ?_⟩;refine#[h2]
  ·have l:=#[sQ];rw[v #[2] #[2]]at q;exact q
  ·have l:#[rG]:=λe=>c #[lH];obtain⟨a,o,C⟩:=Uc (z:=x) (k:=#[p]) #[2] #[2];obtain⟨b,p,D⟩:=Uc (z:=y) (k:=#[p]) #[2] #[2];rw[Int.toNat_natCast]at o p;refine⟨_,rfl,_,rfl,x,_,a,rfl,rfl,small g,C,_,rfl,_,rfl,y,_,b,rfl,rfl,small i,D,_,_,rfl,rfl,_,rfl,?_⟩;rw[Ub];rw[B a b o p]at q;show#[eP,e]
   ·rw[if_pos (of_decide_eq_true e)]at q;exact#[lU]
   ·rw[if_neg (λz=>e #[a1])]at q;exact q
theorem Zo1(T:#[e])(d:#[kJ])(e:#[jJ]):Df P w K mg base 3 "liken" #[84] O7:=by
 show#[dj,T.t_liken.df,Zoc,g,a];show#[fy,x,y,b,c];refine⟨_,#[Zh,#[Zn,#[ZD,e,a,#[Zg,‹0›,‹1›,#[pB,d,a,0,1]],#[5]]]],?_⟩;exact⟨_,rfl,_,rfl,_,rfl,_,rfl,x,y,rfl,b,c,x,y,rfl,b,c,q⟩
theorem KY{c A B:Prop}[Decidable c](hc:¬ c)(h:A):if (!decide c)=true then A else B:=by rw[if_pos (by rw[decide_eq_false hc];rfl)];exact h
def O6:Sp:=λvs H Q _=>X3 λ(x y:ak) (a:Nat)=>vs=#[vo,a]/\x.length<=1000/\y.length<=1000/\a<=lcp #[bu] #[b3] /\
 ∀t,H t=af->Q #[mY] (upd H t (.tup [.int (ZS #[bu] #[b3]),.int #[p],.int (#[p]-(a:Int)+1)]))
theorem ZhF(T:#[e])(e:#[jg])(g:#[jJ]):Df P w K mg base 2 "liken_from" #[39] O6:=by
 show#[dj,T.t_liken_from.df,LD,i,a];obtain⟨x,y,b,rfl,c,d,j,q⟩:=h;refine⟨_,#[Zf,#[Zz,3,LD.nd,#[3],#[ZD,e,a,#[ek,0,1,2],#[5]]],#[Zh,#[Zn,#[Yi,#[Zg,#[ZD,g,a,#[ek,0,1,3],#[5]],‹3›,#[vf,WV,U1,3,2]]]]]],_,rfl,_,rfl,_,rfl,x,y,b,rfl,c,d,j,_,rfl,_,rfl,_,rfl,x,y,rfl,c,d,_,rfl,_,rfl,_,rfl,_,_,rfl,rfl,_,_,rfl,rfl,#[b6],λt k=>?_⟩;exact q t k
def WZ(ss:#[T])(v:V):Prop :=
 (v=.non/\∀i x y,ss[i+1]? = U x->ss[i]? = U y->0<=ZS #[bu] #[b3]) \/
 ∃k:Nat,v=.int #[et,k]/\k+1<ss.length/\(∀x y,ss[k+1]? = U x->ss[k]? = U y->ZS #[bu] #[b3]<0)/\∀i,i<k->∀x y,ss[i+1]? = U x->ss[i]? = U y->0<=ZS #[bu] #[b3]
theorem O5{ss:#[T]}{v g:V}(h:WZ ss v)(h':WZ ss g):v=g:=by
 rcases h with⟨rfl,a⟩|⟨k,rfl,l,b,c⟩
 ·rcases h' with⟨rfl,_⟩|⟨k',rfl,d,f,_⟩
  ·rfl
  ·have:=a k' _ _ (Qb d) #[nw];have:=f _ _ (Qb d) #[nw];lia
 ·rcases h' with⟨rfl,a⟩|⟨k',rfl,d,f,i⟩
  ·have:=a k _ _ (Qb l) #[nw];have:=b _ _ (Qb l) #[nw];lia
  ·have e:k=k':=by
    rcases Nat.lt_trichotomy k k' with h|h|h
    ·have:=i k h _ _ (Qb l) #[nw];have:=b _ _ (Qb l) #[nw];lia
    ·exact h
    ·have:=c k' h _ _ (Qb d) #[nw];have:=f _ _ (Qb d) #[nw];lia
   rw[e]
def SA(K:#[7]):Sp:=λvs H Q _=>X2 λ(a:ae) (ss:List ak)=>vs=#[jW]/\SqL K H a #[24]/\ss.length<=400/\#[cb]/\∀ (v:V) (b:Hp),WZ ss v->ZG H b->Q v b
theorem Zon(T:#[e])(t:#[tQ]):Df P w K mg base 4 "first_break" ["keys"] (SA K):=by
 show#[dj,T.t_first_break.df,LC,u,B];show#[o6,a,b,n,hn,p];refine⟨_,#[Zf,#[Xh,bC.never,(@NL _ _ _ _ _ _ _ rfl T.b.n_range #[Zg,#[Zk],#[34]] #[5] #[5]),#[pq,1,LC.nd],#[Zh,#[ZT,#[Zo,WC,#[ZD,t,B,#[Zg,#[pa,#[ol],0,1],#[ZJ,#[ol],‹0›,#[vp,U1,1]]],#[5]],#[Zk],#[cZ]],#[ea,1],#[ZB]]]],#[h0]],?_⟩;have hl:(((b.map V.str).length:Nat):Int)=(b.length:Int):=by rw[Qa]
 refine⟨_,rfl,a,_,rfl,.inl n,_,_,rfl,⟨by lia,by lia,by lia,by lia⟩,?_⟩;refine RU (λi o k=>(∃v:Option V,o=[U #[cd],v])/\ZG H k/\∀j,j<i->∀x y,b[j+1]? = U x->b[j]? = U y->0<=ZS #[bu] #[b3]) ⟨⟨af,rfl⟩,ZG.refl H,λj h=>by lia⟩ ?_ ?_
 ·rintro i o k hi ⟨⟨v,rfl⟩,g,m⟩;have l:i+1<b.length:=by lia
  have r:(1+(i:Int))=#[et,i]:=by lia
  have C:(1+(i:Int)-1)=#[gz,i]:=by lia
  refine⟨_,rfl,_,rfl,a,_,_,_,rfl,rfl,g.seq n,#[ey,r,K1,l],_,rfl,_,rfl,_,_,rfl,rfl,a,_,_,_,rfl,rfl,g.seq n,#[ey,C,K1,#[2]],b[i+1],b[i],rfl,p _ (Qae l),p _ (Qae #[2]),_,_,rfl,rfl,_,rfl,?_⟩;refine YW #[cO] #[cO]
  ·have D:ZS (cds b[i+1]) (cds b[i])<0:=#[aF];refine⟨_,rfl,q _ k (.inr ⟨i,by rw[r],l,λx y c e=>?_,m⟩) g⟩;show#[nf];lia
  ·have D:¬ ZS (cds b[i+1]) (cds b[i])<0:=#[sc];refine⟨⟨_,rfl⟩,g,λj hj x y c e=>?_⟩;by_cases F:j=i
   ·subst F;show#[nf];lia
   ·exact m j #[2] x y c e
 ·rintro o k ⟨⟨v,rfl⟩,g,m⟩;refine q _ k (.inl ⟨rfl,λj x y c e=>?_⟩) g;have:=(Qd.mp c).1;exact m j #[2] x y c e
def Sz(K:#[7])(tup:Bool):Sp:=λvs H Q _=>X2 λ(a:ae) (ns:List Int)=>vs=#[jW]/\SqL K H a #[U]/\ns.length<=200 /\
 ∀ (t f r:ae) (b:Hp),H t=af->H f=af->H r=af->f≠r->b t=U (if tup=true then .tup #[oJ,f,r] else .lst #[oJ,f,r])->b f=U (.lst ((XO ns).map V.int))->b r=U (.lst ((WI ns).map V.int))->ZG H b->t≠f->t≠r->Q #[mY] b
theorem ZnN{H:Hp}{f r t:ae}{A B T:HO}(h:H f=af)(hr:(upd H f A) r=af)(ht:#[hC] t=af) :
  H r=af/\H t=af/\f≠r/\t≠f/\t≠r/\#[s1] f=U A/\#[s1] r=U B/\ZG H #[s1]:=by
 have a:f≠r:=Ze (H:=upd H f A) (o:=A) Zd hr;have b:#[hC] f=U A:=by rw[Zc a];exact Zd
 have c:f≠t:=Ze b ht;have d:r≠t:=Ze (H:=upd (upd H f A) r B) (o:=B) Zd ht;have e:ZG H (upd H f A):=Zi h _;have g:=e.trans (Zi hr B);have i:=g.trans (Zi ht T);exact⟨e.free hr,g.free ht,a,c.symm,d.symm,by rw[Zc c];exact b,by rw[Zc d];exact Zd,i⟩
theorem ZmG(T:#[e]):Df P w K mg base 1 "halves" #[i3] (Sz K true):=by
 show#[dj,T.t_halves.df,LB,j,hr];show#[fy,a,b,c,hn];refine⟨_,#[Zf,#[Zz,1,LB.nd,#[3],#[ZY,RR,#[ZY,WV,#[34],#[Zk]],#[Zk]]],#[Zh,#[Zn,#[Yi,#[Zg,#[Wq,(slL K),‹0›,(@Vv _),(@Vu _ _ _ ‹1›)],#[f3,0,1]]]]]],_,rfl,a,_,rfl,.inl c,_,_,rfl,rfl,_,_,rfl,rfl,#[hK],?_⟩;have k:mid b<=b.length\/b=[]:=by
  cases b with
  | nil=>exact #[n2]
  | cons x r=>left;unfold mid;rw[QA];lia
 have g:mid b<=b.length:=by
  rcases k with h|h
  ·exact h
  ·subst h;decide
 have m:=Zqc b;simp only[m];refine⟨_,rfl,_,rfl,_,rfl,a,_,rfl,c,λl d=>?_⟩;refine⟨_,rfl,_,rfl,_,rfl,a,_,rfl,(Zi d _).seq c,λr i=>⟨#[61],λt e=>?_⟩⟩;rw[Zrs b _ g]at i e ⊢;rw[Zo0 b _ g]at e ⊢;obtain⟨z1,z2,z3,z4,z5,z6,z7,z8⟩:=ZnN (T:=.tup #[oJ,l,r]) d i e;exact q t l r _ z2 d z1 z3 Zd z6 z7 z8 z4 z5
theorem Wf(f:ak)(v:V):∀fs:List (ak×V),#[q4].length<=fs.length+1
 | []=>Qf _
 | p::r=>by
  unfold Zv;split
  ·exact QZ _
  ·exact Nat.succ_le_succ (Wf f v r)
noncomputable def YZ(k f:ae)(g:Int):List #[rW]:=Zv "gone" (.int g) (Zv "fars" #[73] #[rY])
theorem nGF:¬ #[go,"fars","gone"]:=by ac_rfl
theorem nGK:¬ #[go,"all_keys","gone"]:=by ac_rfl
theorem nFK:¬ #[go,"all_keys","fars"]:=by ac_rfl
theorem VO(k f:ae)(g:Int):#[hV].lookup ("all_keys" : ak)=U (.ref k):=by unfold YZ;rw[Zp,if_neg nGK,Zp,if_neg nFK,Zp,if_pos rfl]
theorem Ua(k f:ae)(g:Int):#[hV].lookup ("gone" : ak)=U (.int g):=by unfold YZ;rw[Zp,if_pos rfl]
theorem T9(k f:ae)(g:Int){m:ak}(h1:¬ m = "gone")(h2:¬ m = "fars")(a:¬ m = "all_keys"):#[hV].lookup m=af:=by unfold YZ;rw[Zp,if_neg h1,Zp,if_neg h2,Zp,if_neg a];rfl
structure VN (C:ae) (H:Hp) (p k f:ae) (ss:#[T]) (g:Nat):Prop where
 ob:∃dx,H p=U (.ins C dx #[hV])
 ks:H k=U #[i2]
 fs:H f=U #[iX]
def T8(C:ae):Sp:=λvs H Q _=>X5 λ(p k f:ae) (ss:List ak) (g:Nat)=>vs=#[js]/\VN C H p k f ss g/\Q (.int (#[s2]-(g:Int))) H
theorem Zpx(T:#[e]):Mf P w K mg base 1 au "to_go" #[X] (T8 au):=by
 show#[dj,T.t_Row_to_go.mf,Zi0,c,hr];obtain⟨p,k,f,d,g,rfl,R,q⟩:=h;refine⟨_,#[Zh,#[Zn,#[ZY,U1,#[Zq,(Ye K),#[5],T.b.n_len,Qz,#[Zg,#[w]]],#[w]]]],?_⟩;obtain⟨⟨a,b⟩,e,hf⟩:=R;refine⟨_,rfl,p,au,a,_,_,rfl,b,T.cl_Row,T.na_Row_all_keys,VO _ _ _,k,_,rfl,.inl (SqL.of e),_,rfl,p,au,a,_,_,rfl,b,T.cl_Row,T.na_Row_gone,Ua _ _ _,_,_,rfl,rfl,?_⟩;rw[Qa];exact q
noncomputable def WY(ss:#[T])(g:Nat):V:=match ss[g]? with
 | some z=>.str z
 | none=>.non
def VM(C:ae):Sp:=λvs H Q _=>X5 λ(p k f:ae) (ss:List ak) (g:Nat)=>vs=#[js]/\VN C H p k f ss g/\Q (WY ss g) H
theorem Zpn(T:#[e])(i:#[aJ]):Mf P w K mg base 2 au "head" #[X] (VM au):=by
 show#[dj,T.t_Row_head.mf,Zj7,j,l];obtain⟨p,k,f,a,g,rfl,R,q⟩:=h;refine⟨_,#[Zh,#[Zn,#[Yk,#[Zo,WM,#[pY,i,l,0],#[Zk],#[cZ]],#[ZJ,#[ol],#[w],#[w]],#[ZR]]]],?_⟩;obtain⟨⟨b,c⟩,m,hf⟩:=id R;refine⟨_,rfl,p,b,_,rfl,c,T9 _ _ _ #[1] #[1] #[1],p,k,f,a,g,rfl,R,_,_,rfl,rfl,_,rfl,?_⟩;refine YW #[cO] #[cO]
 ·have n:(0:Int)<#[bP]-(g:Int):=#[aF];have e:g<a.length:=by lia
  refine⟨_,rfl,p,au,b,_,_,rfl,c,T.cl_Row,T.na_Row_all_keys,VO _ _ _,_,rfl,p,au,b,_,_,rfl,c,T.cl_Row,T.na_Row_gone,Ua _ _ _,k,_,_,_,rfl,rfl,SqL.of m,XA #[gY,e],?_⟩;unfold WY at q;rw[Qb e]at q;exact q
 ·have n:¬ (0:Int)<#[bP]-(g:Int):=#[sc];unfold WY at q;rw[QY #[2]]at q;exact q
def O4(C:ae):Sp:=λvs H Q _=>X4 λ(p dx a:ae) (ss:List ak)=>vs=#[oJ,p,a]/\H p=U (.ins C dx [])/\H a=U #[i2]/\ss.length<=200/\#[cb] /\
 ∀ (k f:ae) (c:Hp),H k=af->H f=af->k≠f->VN C c p k f ss 0->#[d1,H,p,c]->Q .non c
theorem ZkH(T:#[e])(z:#[cX]):Cf P w K mg base 4 au "Row" #[83] (O4 au):=by
 show#[dj,T.t_Row_init.cf,Zkj,B,C];obtain⟨p,c,a,d,rfl,m,i,D,F,q⟩:=h;refine⟨_,#[Zf,#[Yb,‹0›,#[Xe,(ZsE K),T.b.n_list,boot_list,#[27]]],#[Zf,#[Yb,‹0›,#[fG,z,C]],#[Zh,#[nK]]]],_,rfl,a,_,rfl,.inl (SqL.of i),λk j=>?_⟩;have l:p≠k:=Ze m j;have G:a≠p:=λe=>by rw[e,m]at i;cases i
 have I:a≠k:=Ze i j;refine⟨_,rfl,p,au,c,[],rfl,#[oK,l,m],T.cl_Row,T.na_Row_all_keys,#[gr,0,1000],?_⟩;have J:#[22] a=U #[uZ]:=by rw[Zc G,Zc I];exact i
 have r:#[22] p=U (.ins au c #[rY]):=Zd;have v:#[22] k=U #[uZ]:=by rw[Zc l.symm];exact Zd
 have x:#[fz,H,p,#[22]]:=λb o h n=>by rw[Zc n,Zc (Ze h j)];exact h
 refine⟨_,rfl,a,d,rfl,SqL.of J,D,F,λf H3 g L t=>?_⟩;have M:H f=af:=by
  cases N:H f with
  | none=>rfl
  | some u =>
   by_cases e:f=p
   ·show#[dV,e,r,g]
   ·rw[x f u N e]at g;cases g
 have O:k≠f:=Ze v g;have y:p≠f:=Ze r g;refine⟨_,rfl,p,au,c,_,rfl,t _ _ r,T.cl_Row,T.na_Row_fars,#[gr,1,1000],_,rfl,p,au,c,_,rfl,Zd,T.cl_Row,T.na_Row_gone,?_,?_⟩
 ·have h1:=Wf "all_keys" (V.ref k) [];have h2:=Wf "fars" (V.ref f) (Zv "all_keys" (V.ref k) []);have h3:#[uk]:=rfl;lia
 ·refine q k f _ j M O ⟨⟨c,Zd⟩,?_,?_⟩ λb o h n=>?_
  ·rw[Zc l.symm,Zc l.symm];exact t _ _ v
  ·rw[Zc y.symm,Zc y.symm];exact L
  ·rw[Zc n,Zc n];exact t _ _ (x b o h n)
theorem We{K:#[7]}{a:ae}{xs:#[m7]}{k:Nat}{D:ae}{b:L2.St}{d:Hp}{g:TG}{f:TE}{Q:VK}(Pv:#[uX])(n:Pv 0 [] #[pL,b,k] #[eO,d,D])
  (hl:∀i ys b H,Pv i ys b H->SqL K H a xs)
  (hs:∀i x ys b H,xs[i]? = U x->Pv i ys b H->g x b H λh o=>f h o λy j=>j D=U #[mb]/\ys.length<aq/\Pv (i+1) (ys++[y]) h #[f1,j])
  (hd:∀ys b H,Pv xs.length ys b H->Q #[it] H):VZ #[tk] D k b d g V0 f Q:=by
 refine⟨λi m ys b H=>m=xs.length-i/\i<=xs.length/\Pv i ys b H,⟨xs.length,by simp,Qm _,n⟩,?_⟩;rintro i m ys b H ⟨rfl,hi,p⟩;have c:=hl i ys b H p;by_cases l:i<xs.length
 ·refine .inr ⟨⟨xs,xs[i],c,Qb l⟩,Pv (i+1),λiC aQ q r=>⟨xs.length-(i+1),by lia,rfl,l,r⟩,λx q y=>?_⟩;obtain⟨rfl,e⟩:=y;show#[nV];exact hs i x ys b _ (e xs c) p
 ·have e:i=xs.length:=by lia
  exact .inl ⟨⟨xs,c,by lia⟩,hd ys b H (e ▸ p)⟩
theorem KW:∀x y:List Nat,x<y↔ZS x y<0
 | [],[]=>by unfold ZS;exact⟨λh=>absurd h #[4],λh=>absurd h #[2]⟩
 | [],_::_=>by unfold ZS;exact⟨λ_=>by lia,λ_=>List.nil_lt_cons _ _⟩
 | _::_,[]=>by unfold ZS;exact⟨λh=>absurd h (List.not_lt_nil _),λh=>absurd h #[2]⟩
 | a::r,b::s=>by
  have ih:=KW r s;unfold ZS;rw[List.cons_lt_cons_iff];by_cases e:a=b
  ·rw[if_pos e,<- ih];exact⟨λh=>h.elim (λz=>by lia) (λz=>z.2),λh=>.inr ⟨e,h⟩⟩
  ·rw[if_neg e];by_cases l:a<b
   ·rw[if_pos l];exact⟨λ_=>by lia,λ_=>.inl l⟩
   ·rw[if_neg l];exact⟨λh=>h.elim (λz=>absurd z l) (λz=>absurd z.1 e),λh=>absurd h #[2]⟩
noncomputable abbrev Hd:=Int->Option (List Nat)
def Btr(x:#[hi])(a:Int)(y:#[hi])(b:Int):Prop:=ZS x y<0\/#[s9]
def Win(hd:Hd)(N:#[F]):Option Int->Prop
 | none=>∀n∈N,hd n=af
 | some a=>a∈N/\∃x,hd a=U x/\∀b∈N,∀y,hd b=U y->b=a\/Btr x a y b
theorem Btr.asym{x y:#[hi]}{a b:Int}(h:Btr x a y b)(g:Btr y b x a):False:=by have e:=VP x y;rcases h with h|⟨h,h2⟩<;>rcases g with g|⟨g,g2⟩<;>lia
theorem Btr.total{x y:#[hi]}{a b:Int}(h:a≠b):Btr x a y b\/Btr y b x a:=by have e:=VP x y;unfold Btr;lia
theorem Btr.trans{x y z:#[hi]}{a b c:Int}(h:Btr x a y b)(g:Btr y b z c):Btr x a z c:=by
 have t1:=SE x y z;have t2:=SE z x y;have t3:=SE y z x;have e1:=VP x y;have e2:=VP y z;have e3:=VP x z;unfold Btr at *
 lia
theorem Win.one{hd:Hd}{N:#[F]}{v w:#[bL]}(h:Win hd N v)(g:Win hd N w):v=w:=by
 cases v with
 | none =>
  cases w with
  | none=>rfl
  | some b=>obtain⟨d,y,c,_⟩:=g;rw[h b d]at c;cases c
 | some a =>
  obtain⟨i,x,f,j⟩:=h;cases w with
  | none=>rw[g a i]at f;cases f
  | some b =>
   obtain⟨d,y,c,k⟩:=g;rcases j b d y c with e|e
   ·rw[e]
   ·rcases k a i x f with e'|e'
    ·rw[e']
    ·exact(e.asym e').elim
theorem Win.nil(hd:Hd):Win hd [] af:=λn h=>by cases h
theorem Win.sing{hd:Hd}{n:Int}:Win hd [n] #[mL]:=by
 cases h:hd n with
 | none=>intro m a;rw[Qh.mp a];exact h
 | some x=>exact⟨by simp,x,h,λb c y hy=>.inl (Qh.mp c)⟩
theorem Win.both{hd:Hd}{A B:#[F]}{a b:Int}{x y:#[hi]}(ha:Win hd A (U a))(hb:Win hd B (U b))(hx:hd a=U x)(hy:hd b=U y)(h:Btr x a y b):Win hd (A++B) (U a):=by
 obtain⟨a1,x',f,a2⟩:=ha;obtain⟨b1,y',g,i⟩:=hb;show#[vv,hx,f];show#[vv,hy,g];refine#[vA,QS,hx,d];rcases Ql.mp hc with hc|hc
 ·exact a2 c hc z d
 ·rcases i c hc z d with e|e
  ·show#[fH,e,hy,d];exact .inr h
  ·exact .inr (h.trans e)
theorem Win.both'{hd:Hd}{A B:#[F]}{a b:Int}{x y:#[hi]}(ha:Win hd A (U a))(hb:Win hd B (U b))(hx:hd a=U x)(hy:hd b=U y)(h:Btr y b x a):Win hd (A++B) (U b):=by have:=Win.both hb ha hy hx h;obtain⟨d,z,e,f⟩:=this;exact⟨by rcases Ql.mp d with h|h<;>simp[h],z,e,λc g=>f c (by rcases Ql.mp g with h|h<;>simp[h])⟩
theorem Win.left{hd:Hd}{A B:#[F]}{w:#[bL]}(ha:Win hd A w)(hb:Win hd B af):Win hd (A++B) w:=by
 cases w with
 | none=>intro n d;rcases Ql.mp d with h|h;exact ha n h;exact hb n h
 | some a =>
  obtain⟨a1,x,e,a2⟩:=ha;refine#[vA,QS,e,b];rcases Ql.mp hc with hc|hc
  ·exact a2 c hc z b
  ·rw[hb c hc]at b;cases b
theorem Win.right{hd:Hd}{A B:#[F]}{w:#[bL]}(ha:Win hd A af)(hb:Win hd B w):Win hd (A++B) w:=by
 cases w with
 | none=>intro n d;rcases Ql.mp d with h|h;exact ha n h;exact hb n h
 | some a =>
  obtain⟨a1,x,e,a2⟩:=hb;refine#[vA,QC,e,b];rcases Ql.mp hc with hc|hc
  ·rw[ha c hc]at b;cases b
  ·exact a2 c hc z b
theorem Win.ex(hd:Hd):∀N:List Int,N.Nodup->∃w,Win hd N w
 | [],_=>⟨af,Win.nil hd⟩
 | n::N,hn=>by
  obtain⟨d,f⟩:=Q2.mp hn;obtain⟨w,hw⟩:=Win.ex hd N f;have a:Win hd [n] #[mL]:=Win.sing;cases h:hd n with
  | none=>rw[h]at a;exact⟨w,Win.right (A:=[n]) a hw⟩
  | some x =>
   rw[h]at a;cases w with
   | none=>exact⟨U n,Win.left (A:=[n]) a hw⟩
   | some b =>
    obtain⟨g,y,c,b2⟩:=id hw;have i:n≠b:=λe=>d (e ▸ g);rcases Btr.total (x:=x) (y:=y) i with e|e
    ·exact⟨U n,Win.both (A:=[n]) a hw h c e⟩
    ·exact⟨U b,Win.both' (A:=[n]) a hw h c e⟩
theorem Win.congr{hd c:Hd}{N:#[F]}(h:∀n∈N,c n=hd n){w:#[bL]}(hw:Win hd N w):Win c N w:=by
 cases w with
 | none=>intro n d;rw[h n d];exact hw n d
 | some a=>obtain⟨a1,x,f,a2⟩:=hw;exact⟨a1,x,by rw[h a a1];exact f,λb e y g=>a2 b e y #[p7,h,b,e,g]⟩
noncomputable def lo(N:#[F]):List Int:=N.take (mid N)
noncomputable def up(N:#[F]):List Int:=N.drop (mid N)
theorem Xw(N:#[F]):lo N++up N=N:=List.take_append_drop _ _
theorem Wd{N:#[F]}(h:#[k0]):(lo N).length<N.length/\1<=(lo N).length:=by unfold lo mid;rw[Qv];lia
theorem VL{N:#[F]}(h:#[k0]):(up N).length<N.length/\1<=(up N).length:=by unfold up mid;rw[QT];lia
noncomputable def ZU(N:#[F]):Int×Int:=(N.headD 0,N.getLastD 0)
abbrev StL:=List ((Int×Int)×Option #[ux])
noncomputable def stV:Option #[ux]->V
 | none=>.non
 | some t=>.ref t.1
noncomputable def kvS(s:StL):List (List Key×V):=s.map λe=>([.inl e.1.1,.inl e.1.2],stV e.2)
def AtS(H:Hp)(s:StL):Prop:=∀e∈s,∀t,e.2=U t->H t.1=U #[gE,t.2.1,t.2.2]
noncomputable def ZZ(s:StL)(k:#[c4]):Option (Option #[ux]):=(s.find? λe=>decide (e.1=k)).map #[kc]
noncomputable def Yg(s:StL)(k:#[c4])(v:#[99]):StL:=if s.any #[i6] then s.map #[mG] else s++[(k,v)]
theorem AtS.mono{H b:Hp}{s:StL}(h:AtS H s)(k:#[e1,a,xs,b]):AtS b s:=λe he t ht=>k _ _ (h e he t ht)
theorem O3{a b:#[c4]}(h:([.inl a.1,.inl a.2]:List Key)=[.inl b.1,.inl b.2]):a=b:=by obtain⟨a1,a2⟩:=a;obtain⟨b1,b2⟩:=b;injection h with f c;injection c with c _;have d:=Sum.inl.inj f;have e:=Sum.inl.inj c;simp only at d e;rw[d,e]
theorem KU(k:#[c4]):∀s:StL,Y1 (kvS s) #[ni]=(ZZ s k).map stV
 | []=>rfl
 | e::s=>by
  have ih:=KU k s;by_cases h:e.1=k
  ·unfold kvS ZZ;rw[Qn,UQ (by rw[h])];simp[List.find?_cons,h]
  ·unfold kvS at ih ⊢;rw[Qn,UP #[sY],ih];unfold ZZ;simp[List.find?_cons,h]
theorem Zpt(k:#[c4])(s:StL):((kvS s).any λa=>decide (a.1=(#[ni]:List Key)))=s.any λe=>decide (e.1=k):=by
 unfold kvS;rw[List.any_map];congr 1;funext e;show#[kC];by_cases h:e.1=k
 ·rw[decide_eq_true h,decide_eq_true (by rw[h])]
 ·rw[decide_eq_false h,decide_eq_false #[sY]]
theorem Sy(s:StL)(k:#[c4])(v:#[99]):YJ (kvS s) #[ni] (stV v)=kvS #[kg]:=by
 unfold YJ Yg;rw[Zpt];split
 ·unfold kvS;rw[QB,QB];congr 1;funext e;show#[kC];by_cases h:e.1=k
  ·rw[if_pos h,if_pos (by rw[h])]
  ·rw[if_neg h,if_neg #[sY]]
 ·unfold kvS;rw[Qg];rfl
theorem ZnI(s:StL)(k:#[c4])(v:#[99]):#[kg].length<=s.length+1:=by
 unfold Yg;split
 ·rw[Qa];lia
 ·rw[Qe];exact Qf _
theorem WH(s:StL)(k j:#[c4])(v:#[99]):ZZ #[kg] j=if j=k then U v else ZZ s j:=by
 unfold Yg;split
 ·rename_i h;induction s with
  | nil=>simp at h
  | cons e s f =>
   unfold ZZ at f ⊢;by_cases b:e.1=k
   ·by_cases a:j=k
    ·subst a;simp[List.find?_cons,b]
    ·have c:¬ k=j:=λz=>a z.symm;rw[Qn,if_pos b,Qaw (by simp[b,c]),Qaw (by simp[b,c]),if_neg a];by_cases d:s.any #[i6]=true
     ·have:=f d;rw[if_neg a]at this;exact this
     ·have:s.map #[mG]=s:=by
       rw[List.map_eq_iff];intro i;cases l:s[i]? with
       | none=>rfl
       | some x=>have g:¬ x.1=k:=λz=>d (List.any_eq_true.mpr ⟨x,Qu l,by simpa using z⟩);simp[g]
      rw[this]
   ·have d:s.any #[i6]=true:=by simpa [b] using h
    rw[Qn,if_neg b];by_cases a:e.1=j
    ·have:¬ j=k:=λz=>b (a.trans z);rw[List.find?_cons_of_pos #[bG],List.find?_cons_of_pos #[bG],if_neg this]
    ·rw[Qaw #[bG],Qaw #[bG]];exact f d
 ·rename_i h;unfold ZZ;rw[List.find?_append];by_cases a:j=k
  ·subst a;have:s.find? (λe=>decide (e.1=j))=af:=by rw[List.find?_eq_none];intro x g z;exact h (List.any_eq_true.mpr ⟨x,g,z⟩)
   rw[this];simp
  ·have c:¬ k=j:=λz=>a z.symm;rw[if_neg a];simp[c]
theorem AtS.put{H:Hp}{s:StL}{k:#[c4]}{v:#[99]}(h:AtS H s)(b:#[lW]):AtS H #[kg]:=by
 unfold Yg;split
 ·intro e he t a;show#[dA,x,c,he];split at a
  ·exact b t a
  ·exact h x c t a
 ·intro e he t a;rcases Ql.mp he with he|he
  ·exact h e he t a
  ·rw[Qh.mp he]at a;exact b t a
theorem KS{s:StL}{k:#[c4]}{v:#[99]}(h:ZZ s k=U v):(k,v)∈s:=by
 unfold ZZ at h;obtain⟨e,a,rfl⟩:=QaV.mp h;have b:=#[qP];have:e.1=k:=by simpa using b
 rw[<- this];exact Qan a
def ZtK(hd:Hd)(s:StL)(N:#[F]):Prop :=
 (∀a b x y,Win hd (lo N) (U a)->Win hd (up N) (U b)->hd a=U x->hd b=U y->∃t,ZZ s (ZU N)=U (U (t,if ZS x y<0\/#[s9] then b else a,#[fB,x,y]))) /\
 ((Win hd (lo N) af\/Win hd (up N) af)->ZZ s (ZU N)=af\/ZZ s (ZU N)=U af)
def Ya(hd:Hd)(s:StL):Nat->List Int->Prop
 | 0,_=>True
 | n+1,N=>2<=N.length->Ya hd s n (lo N)/\Ya hd s n (up N)/\ZtK hd s N
def Xl:Nat->List Int->Int×Int->Prop
 | 0,_,_=>False
 | n+1,N,k=>2<=N.length/\(Xl n (lo N) k\/Xl n (up N) k\/k=ZU N)
abbrev Yx(N:#[F]):Prop:=N.Pairwise (·<·)
theorem Sx{N:#[F]}(h:Yx N):Yx (lo N):=h.sublist #[uE]
theorem Sw{N:#[F]}(h:Yx N):Yx (up N):=h.sublist (List.drop_sublist _ _)
theorem Sv{N:#[F]}(h:Yx N):N.Nodup:=h.imp λ{a b} mr e=>by lia
theorem ZN{N:#[F]}(h:Yx N){a b:Int}(ha:a∈lo N)(hb:b∈up N):a<b:=by
 have:Yx (lo N++up N):=by rw[Xw];exact h
 exact(List.pairwise_append.mp this).2.2 a ha b hb
theorem Vc{N:#[F]}(h:N≠[]):N.headD 0∈N:=by
 cases N with
 | nil=>exact absurd rfl h
 | cons a r=>simp
theorem Vb{N:#[F]}(h:N≠[]):N.getLastD 0∈N:=by rw[Qao,QaM h];exact List.getLast_mem h
theorem Xv{N:#[F]}(h:1<=N.length):N≠[]:=λz=>by rw[z]at h;simp at h
theorem O2{N:#[F]}(h:#[k0]):(ZU N).2=(up N).getLastD 0:=by
 have a:=Xv (VL h).2;show N.getLastD 0=_;rw[Qao,Qao]
 conv=>lhs;rw[<- Xw N]
 rw[List.getLast?_append,QaM a];rfl
theorem O1{N:#[F]}(h:#[k0]):(ZU N).1=(lo N).headD 0:=by
 have b:=Xv (Wd h).2;show N.headD 0=_
 conv=>lhs;rw[<- Xw N]
 cases c:lo N with
 | nil=>exact absurd c b
 | cons a r=>rfl
theorem Va:∀ (n:Nat) (N:List Int) (k:Int×Int),Xl n N k->k.1∈N/\k.2∈N
 | 0,_,_,h=>h.elim
 | n+1,N,k,⟨h2,h⟩=>by
  rcases h with h|h|rfl
  ·have:=Va n _ k h;rw[<- Xw N];exact⟨QS _ this.1,QS _ this.2⟩
  ·have:=Va n _ k h;rw[<- Xw N];exact⟨QC _ this.1,QC _ this.2⟩
  ·have a:N≠[]:=Xv #[2];exact⟨Vc a,Vb a⟩
theorem O0{N:#[F]}(hr:Yx N)(h2:#[k0]){n:Nat}{k:#[c4]}(h:Xl n (lo N) k):k≠ZU N/\∀m,¬ Xl m (up N) k:=by
 show#[mv]
 ·show#[vr,b,O2];have:=ZN hr this.2 (Vb (Xv (VL h2).2));lia
 ·have:=ZN hr this.1 (Va m _ k a).1;lia
theorem OZ{N:#[F]}(hr:Yx N)(h2:#[k0]){n:Nat}{k:#[c4]}(h:Xl n (up N) k):k≠ZU N/\∀m,¬ Xl m (lo N) k:=by
 show#[mv]
 ·show#[vr,b,O1];have:=ZN hr (Vc (Xv (Wd h2).2)) this.1;lia
 ·have:=ZN hr (Va m _ k a).1 this.1;lia
theorem Ya.congr{hd d:Hd}{s s':StL}:∀ (n:Nat) (N:List Int),(∀m∈N,d m=hd m)->(∀k,Xl n N k->ZZ s' k=ZZ s k)->Ya hd s n N->Ya d s' n N
 | 0,_,_,_,_=>True.intro
 | n+1,N,j,hk,h=>λh2=>by
  obtain⟨a,b,c1,c2⟩:=h h2;have f:∀m∈lo N,d m=hd m:=λm c=>j m (by rw[<- Xw N];exact QS _ c);have g:∀m∈up N,d m=hd m:=λm c=>j m (by rw[<- Xw N];exact QC _ c);have l:∀m∈lo N,hd m=d m:=λm c=>(f m c).symm;have e:∀m∈up N,hd m=d m:=λm c=>(g m c).symm;refine⟨Ya.congr n _ f (λk i=>hk k ⟨h2,.inl i⟩) a,Ya.congr n _ g (λk i=>hk k ⟨h2,.inr (.inl i)⟩) b,λa b x y o p q r=>?_,λhw=>?_⟩
  ·rw[hk _ ⟨h2,.inr #[kn]⟩];exact c1 a b x y (Win.congr l o) (Win.congr e p) #[p7,f,a,o.1,q] #[p7,g,b,p.1,r]
  ·rw[hk _ ⟨h2,.inr #[kn]⟩];refine c2 ?_;rcases hw with hw|hw
   ·exact .inl (Win.congr l hw)
   ·exact .inr (Win.congr e hw)
inductive YR (hd:Hd):Nat->List Int->Int->Int->Prop
 | few {n:Nat} {N:List Int}:N.length<2->YR hd n N 0 0
 | none {n:Nat} {N:List Int} {k l k' l':Int}:2<=N.length->YR hd n (lo N) k l->YR hd n (up N) k' l'->(Win hd (lo N) af\/Win hd (up N) af)->YR hd (n+1) N (k+k') (l+l')
 | both {n:Nat} {N:List Int} {k l k' l':Int} {a b:Int} {x y:List Nat}:2<=N.length->YR hd n (lo N) k l->YR hd n (up N) k' l'->Win hd (lo N) (U a)->Win hd (up N) (U b)->hd a=U x->hd b=U y->YR hd (n+1) N (k+k'+1) (l+l'+(lcp x y:Nat)+1)
theorem YR.one{hd:Hd}:∀ {n m:Nat} {N:List Int} {k l k' g:Int},YR hd n N k l->YR hd m N k' g->k=k'/\l=g
 | _,_,_,_,_,_,_,.few h,p=>by
  cases p with
  | few _=>exact#[Y]
  | none h2 _ _ _=>lia
  | both h2 _ _ _ _ _ _=>lia
 | _,_,_,_,_,_,_,.none h2 a b hw,p=>by
  cases p with
  | few h=>lia
  | none _ c d _=>obtain⟨r,s⟩:=YR.one a c;obtain⟨t,u⟩:=YR.one b d;exact#[jL]
  | both _ c d e f i j =>
   rcases hw with hw|hw
   ·show#[fb,e]
   ·show#[fb,f]
 | _,_,_,_,_,_,_,.both h2 a b e f i j,p=>by
  cases p with
  | few h=>lia
  | none _ c d hw =>
   rcases hw with hw|hw
   ·show#[fb,e]
   ·show#[fb,f]
  | both _ c d v w o q=>obtain⟨r,s⟩:=YR.one a c;obtain⟨t,u⟩:=YR.one b d;have x:=Qp (e.one v);have y:=Qp (f.one w);subst x y;show#[e8,i,o,o];show#[e8,j,q,q];exact#[jL]
noncomputable def kk(e:ak×Int):List Key:=[.inr e.1,.inl e.2]
noncomputable def oV:Option ak->V
 | none=>.non
 | some s=>.str s
noncomputable def YV:Option Int->V
 | none=>.non
 | some a=>.int a
noncomputable def kvH(E:#[hA]):List #[q8]:=E.map λe=>(.inl e.1,oV e.2)
noncomputable def lk(E:#[hA])(n:Int):Option ak:=(E.find? λe=>decide (e.1=n)).bind #[kc]
structure Hds (H:Hp) (D:ae) (E:#[hA]):Prop where
 at':H D=U (.dK (kvH E))
 nd:(E.map #[iw]).Nodup
 ok:∀e∈E,∀s,e.2=U s->s.length<=1000/\AZ s
theorem ZrS(N:#[F]):XO N=lo N:=rfl
theorem Zrm(N:#[F]):WI N=up N:=rfl
noncomputable abbrev Yf:=Int×ae×List ak×Nat
noncomputable def kvR(L:List Yf):List #[q8]:=L.map λe=>(.inl e.1,.ref e.2.1)
noncomputable def kvG(L:List Yf):List #[q8]:=L.map λe=>(.inl e.1,.int (e.2.2.2:Int))
noncomputable def ZtO(ra ga:ae)(nb li lo:Int):List #[q8]:=[(.inr "rows",.ref ra),(.inr "gone",.ref ga),(.inr "number",.int nb),(.inr "likenings",.int li),(.inr "looks",.int lo)]
structure Own (H:Hp) (o ra ga:ae) (L:List Yf) (nb li lo:Int):Prop where
 at':H o=U (.dK (ZtO ra ga nb li lo))
 rows:H ra=U (.dK (kvR L))
 gone:H ga=U (.dK (kvG L))
 nd:#[ma].Nodup
 few:L.length<=60
 lst:∀e∈L,H e.2.1=U #[dv,e.2.2.1.map]/\e.2.2.1.length<=200/\e.2.2.2<=e.2.2.1.length/\∀s∈e.2.2.1,s.length<=1000/\AZ s
theorem KR{ns:#[F]}(h:ns.Nodup):(ns.map (Sum.inl:Int->Key)).Nodup:=List.Pairwise.map _ (λa b c z=>c #[mR]) h
theorem Y6.k'{H:Hp}{a:ae}{kvs:#[43]}{k:Key}{r:Option V}(e:#[qT])(h:Y1 kvs k=r):Y6 H a (kV k) r:=by rw[<- h];exact Y6.k e
structure HdOf (L:List Yf) (E:#[hA]):Prop where
 per:(E.map #[iw]).Perm #[ma]
 up:(E.map #[iw]).Pairwise (·<·)
 hd:∀e∈L,(e.1,e.2.2.1[e.2.2.2]?)∈E
noncomputable def hdL(L:List Yf):Hd:=λn=>((L.find? λe=>decide (e.1=n)).bind λe=>e.2.2.1[e.2.2.2]?).map cds
theorem OY:∀ {L:List Yf},#[ma].Nodup->∀ {e:Yf},e∈L->hdL L e.1=(e.2.2.1[e.2.2.2]?).map cds
 | [],_,_,h=>by cases h
 | x::r,nd,e,h=>by
  rw[Qn,Q2]at nd;unfold hdL;rw[Qap];rcases QJ.mp h with rfl|h
  ·rw[decide_eq_true rfl];rfl
  ·rw[decide_eq_false (λz:x.1=e.1=>nd.1 (by rw[z];exact Qj (f:=λx:Yf=>x.1) h))];exact OY nd.2 h
theorem Win.perm{hd:Hd}{N M:#[F]}{v:#[bL]}(h:Win hd N v)(p:N.Perm M):Win hd M v:=by
 cases v with
 | none=>exact λn c=>h n (p.mem_iff.mpr c)
 | some a=>obtain⟨d,x,e,f⟩:=h;exact⟨p.mem_iff.mp d,x,e,λb g=>f b (p.mem_iff.mpr g)⟩
def Zs8(L:List Yf)(H:Hp)(x:V):Prop:=(x=.non/\Win (hdL L) #[ma] af)\/X3 λ(t:ae) (e:Yf) (z:ak)=>x=.ref t/\e∈L/\e.2.2.1[e.2.2.2]? = U z/\H t=U #[eq,e.1,e.2.2.2,z]/\Win (hdL L) #[ma] (U e.1)
noncomputable def Wc(L:List Yf):List Int:=L.map λe=>(e.2.2.1.length:Int)-(e.2.2.2:Int)
structure Zri (H:Hp) (r:ae) (rs:List (ae×List ak)):Prop where
 at':H r=U #[fS,rs.map,x,x.1]
 few:rs.length<=60
 lst:∀x∈rs,H x.1=U #[dv,x.2.map]/\x.2.length<=200/\∀s∈x.2,s.length<=1000/\AZ s
theorem Znl(n:Nat):(WK 0 n).Pairwise (·<·):=by unfold WK;exact List.Pairwise.map _ (λa b h=>by lia) (List.pairwise_lt_range)
def OX:Sp:=λvs H Q _=>X5 λ(p l:ae) (c a:Int) (ss:List ak)=>vs=[.ref p,.ref l,.int a]/\Y0 H p c/\c<2 ^ 40/\0<=a/\a<=60/\H l=U #[i2]/\1<=ss.length/\ss.length<=4/\#[bd] /\
 ∀ (r:ae) (b:List ak) (e:Int) (d:Hp),H r=af->d r=U #[dv,b.map]->(b.length:Int)<=a->sortedS b=true->#[d9,b,28]->Y0 d p e->c<=e->e<=c+600->But p H d->Q #[kz] d
theorem Zqm(T:#[e])(m:#[jI]):Df P w K mg base 5 "_law_row" #[o] OX:=by
 show#[dj,T.t_l_row.df,Zo7,n,o];obtain⟨p,l,c,b,d,rfl,g,t,u,v,y,B,C,D,q⟩:=h;refine⟨_,#[Zh,#[Zn,#[Zq,(ZtI K),#[5],T.b.n_sorted,boot_sorted,#[Zg,#[ZD,m,o,#[ek,0,1,2],#[5]]]]]],_,rfl,_,rfl,_,rfl,p,l,c,b,d,rfl,g,t,u,v,y,B,C,D,λr F G H1 cU I J L i a1 a2 j=>?_⟩;refine⟨r,F,rfl,SqL.of I,by lia,λl2 M a k N=>?_⟩;show#[dz,ob,sI,g.here];have O:H l2=af:=by
  cases e:H l2 with
  | none=>rfl
  | some x =>
   by_cases z:l2=p
   ·show#[dz,o1,R,i.here];show#[p2,R,a]
   ·have:=j l2 x e z;show#[ve,a]
 exact q l2 M G _ O Zd #[dp,k.length_eq,J] N (λs S=>L s (k.mem_iff.mp S)) (i.new a) a1 a2 (j.trans #[pM,a])
def T7(K:#[7]):Sp:=λvs H Q _=>X3 λ(n:Int) (a:ae) (ss:List ak)=>vs=[.int n,.ref a]/\SqL K H a #[24]/\ss.length<=400/\#[cb]/\WZ ss .non/\∀b,ZG H b->Q .non b
theorem ZmS(T:#[e])(c:#[b2]):Df P w K mg base 5 "refuse_break" #[hw] (T7 K):=by
 show#[dj,T.t_refuse_break.df,SQ,d,g];obtain⟨n,a,b,rfl,i,j,k,l,q⟩:=h;refine⟨_,#[Zf,#[Zz,2,SQ.nd,#[3],#[fG,c,g]],#[Zh,#[ZT,#[dt,Tz,2,#[ZR]],#[u4],#[ZB]]]],_,rfl,a,b,rfl,i,j,k,λv m o p=>?_⟩;have e:=O5 o l;subst e;exact⟨_,rfl,rfl,_,rfl,Y3 (q m p)⟩
structure Zx where
 n:Int
 p:ae
 k:ae
 f:ae
 ss:List ak
 g:Nat
noncomputable def toL(e:Zx):Yf:=(e.n,e.p,e.ss,e.g)
noncomputable def hdM(L:#[bv]):Hd:=hdL #[jc]
noncomputable def Zy(L:#[bv]):List Int:=L.map (·.n)
theorem Su(L:#[bv]):#[jc].map #[iw]=Zy L:=by rw[QB];rfl
noncomputable def kvM(L:#[bv]):List #[q8]:=L.map λe=>(.inl e.n,.ref e.p)
theorem VJ{L:#[bv]}(nd:#[rf]){e:Zx}(he:e∈L):hdM L e.n=(e.ss[e.g]?).map cds :=
 OY (L:=L.map toL) #[dp,Su,nd] (Qj (f:=toL) he)
theorem Zoq(L:#[bv]):#[s4].map #[iw]=#[jR].map (Sum.inl:Int->Key):=by unfold kvM Zy;rw[QB,QB];rfl
theorem WG{L:#[bv]}(nd:#[rf]){e:Zx}(he:e∈L):Y1 #[s4] (.inl e.n)=U (.ref e.p):=Tg #[ey,Zoq,KR,nd] (Qj (f:=λe:Zx=>((.inl e.n:Key),V.ref e.p)) he)
theorem T6{L:#[bv]}{n:Int}(h:n∈Zy L):∃e∈L,e.n=n:=Qq.mp h
noncomputable def mgF(rd:ae)(nb li lo:Int)(sd:ae)(a:V):List #[rW]:=[("rows",.ref rd),("next_number",.int nb),("likened",.int li),("looked",.int lo),("stays",.ref sd),("best",a)]
theorem OW:¬ #[go,"rows","next_number"]:=by ac_rfl
theorem OV:¬ #[go,"rows","likened"]:=by ac_rfl
theorem OU:¬ #[go,"rows","looked"]:=by ac_rfl
theorem OT:¬ #[go,"rows","stays"]:=by ac_rfl
theorem OR:¬ #[go,"rows","best"]:=by ac_rfl
theorem OQ:¬ #[go,"next_number","likened"]:=by ac_rfl
theorem OP:¬ #[go,"next_number","looked"]:=by ac_rfl
theorem OO:¬ #[go,"next_number","stays"]:=by ac_rfl
theorem ON:¬ #[go,"next_number","best"]:=by ac_rfl
theorem OM:¬ #[go,"likened","looked"]:=by ac_rfl
theorem OL:¬ #[go,"likened","stays"]:=by ac_rfl
theorem OK:¬ #[go,"likened","best"]:=by ac_rfl
theorem OJ:¬ #[go,"looked","stays"]:=by ac_rfl
theorem OI:¬ #[go,"looked","best"]:=by ac_rfl
theorem OH:¬ #[go,"stays","best"]:=by ac_rfl
theorem Wb(f:ak)(v x:V)(r:List #[rW]):Zv f v ((f,x)::r)=(f,v)::r:=by unfold Zv;rw[if_pos rfl]
theorem Zw{f g:ak}(h:¬ g=f)(v x:V)(r:List #[rW]):Zv f v ((g,x)::r)=(g,x)::Zv f v r:=by show (if g=f then (g,v)::r else (g,x)::Zv f v r)=_;rw[if_neg h]
theorem Xk(f:ak)(v:V):Zv f v []=[(f,v)]:=rfl
theorem Wa(rd:ae)(nb li lo:Int)(sd:ae)(a:V):mgF rd nb li lo sd a=Zv "best" a (Zv "stays" (.ref sd) (Zv "looked" (.int lo) (Zv "likened" (.int li) (Zv "next_number" (.int nb) (Zv "rows" (.ref rd) []))))):=by rw[Xk,Zw OW,Xk,Zw OV,Zw OQ,Xk,Zw OU,Zw OP,Zw OM,Xk,Zw OT,Zw OO,Zw OL,Zw OJ,Xk,Zw OR,Zw ON,Zw OK,Zw OI,Zw OH,Xk];rfl
section
variable (rd:ae) (nb li lo:Int) (sd:ae) (aE:V)
theorem Z5:#[13].lookup ("rows" : ak)=U (.ref rd):=by rw[Wa,Zp,if_neg OR,Zp,if_neg OT,Zp,if_neg OU,Zp,if_neg OV,Zp,if_neg OW,Zp,if_pos rfl]
theorem OG:#[13].lookup ("next_number" : ak)=U (.int nb):=by rw[Wa,Zp,if_neg ON,Zp,if_neg OO,Zp,if_neg OP,Zp,if_neg OQ,Zp,if_pos rfl]
theorem OF:#[13].lookup ("likened" : ak)=U (.int li):=by rw[Wa,Zp,if_neg OK,Zp,if_neg OL,Zp,if_neg OM,Zp,if_pos rfl]
theorem KQ:#[13].lookup ("looked" : ak)=U (.int lo):=by rw[Wa,Zp,if_neg OI,Zp,if_neg OJ,Zp,if_pos rfl]
theorem T5:#[13].lookup ("stays" : ak)=U (.ref sd):=by rw[Wa,Zp,if_neg OH,Zp,if_pos rfl]
theorem T4:#[13].lookup ("best" : ak)=U aE:=by rw[Wa,Zp,if_pos rfl]
theorem Xu{m:ak}(h1:¬ m = "rows")(h2:¬ m = "next_number")(a:¬ m = "likened")(b:¬ m = "looked")(h5:¬ m = "stays")(c:¬ m = "best"):#[13].lookup m=af:=by rw[Wa,Zp,if_neg c,Zp,if_neg h5,Zp,if_neg b,Zp,if_neg a,Zp,if_neg h2,Zp,if_neg h1];rfl
theorem Zhm(v:Int):Zv "next_number" (.int v) #[13]=mgF rd v li lo sd aE:=by unfold mgF;rw[Zw OW,Wb]
theorem KP(v:Int):Zv "likened" (.int v) #[13]=mgF rd nb v lo sd aE:=by unfold mgF;rw[Zw OV,Zw OQ,Wb]
theorem ZgL(v:Int):Zv "looked" (.int v) #[13]=mgF rd nb li v sd aE:=by unfold mgF;rw[Zw OU,Zw OP,Zw OM,Wb]
theorem ZhE(x:ae):Zv "stays" #[lR] #[13]=mgF rd nb li lo x aE:=by unfold mgF;rw[Zw OT,Zw OO,Zw OL,Zw OJ,Wb]
theorem Ss(x:V):Zv "best" x #[13]=mgF rd nb li lo sd x:=by unfold mgF;rw[Zw OR,Zw ON,Zw OK,Zw OI,Zw OH,Wb]
theorem Ww:#[13].length<1000:=by show 6<1000;decide
universe E
structure WX (C:ae) (H:Hp) (e:Zx):Prop where
 at':VN C H e.p e.k e.f e.ss e.g
 le:e.g<=e.ss.length
 len:e.ss.length<=200
 srt:sortedS e.ss=true
 str:∀s∈e.ss,s.length<=1000/\AZ s
structure ZM (cR cM:ae) (H:Hp) (m rd sd:ae) (L:#[bv]) (s:StL) (nb li lo:Int) (aE:V):Prop where
 ob:∃dx,H m=U (.ins cM dx #[13])
 rows:H rd=U #[bY]
 stays:H sd=U (.dT (kvS s))
 ats:AtS H s
 each:∀e∈L,WX cR H e
 up:Yx #[jR]
 pd:#[uG].Nodup
 few:L.length<=60
 sfew:s.length<=200
def Fp(m rd sd:ae)(L:#[bv])(b:ae):Prop:=b=m\/b=rd\/b=sd\/∃e∈L,b=e.p\/b=e.k\/b=e.f
theorem WX.keep{C:ae}{H a:Hp}{e:Zx}(h:WX C H e)(b:a e.p=H e.p)(hk:a e.k=H e.k)(c:a e.f=H e.f):WX C a e :=
 ⟨⟨by rw[b];exact h.at'.ob,by rw[hk];exact h.at'.ks,by rw[c];exact h.at'.fs⟩,h.le,h.len,h.srt,h.str⟩
section
variable {cR cM:ae} {H H':Hp} {m rd sd:ae} {L:List Zx} {s:StL} {nb li lo:Int} {aE:V}
theorem ZM.nd(h:#[29]):#[jR].Nodup:=Sv h.up
theorem ZM.keep(h:#[29])(k:∀b o,H b=U o->Fp m rd sd L b\/#[qV]->H' b=U o):ZM cR cM H' m rd sd L s nb li lo aE:=by
 refine⟨?_,k _ _ h.rows (.inl #[rb]),k _ _ h.stays (.inl (.inr #[rb])),λe a t d=>k _ _ (h.ats e a t d) (.inr #[E]),λe a=>?_,h.up,h.pd,h.few,h.sfew⟩
 ·show#[qa,c];exact⟨c,k _ _ hd (.inl #[8])⟩
 ·show#[vb,a,c,hd];exact⟨⟨⟨c,k _ _ hd (.inl (.inr (.inr (.inr ⟨e,a,.inl rfl⟩))))⟩,k _ _ r.at'.ks (.inl (.inr (.inr (.inr ⟨e,a,.inr #[8]⟩)))),k _ _ r.at'.fs (.inl (.inr (.inr (.inr ⟨e,a,.inr #[kn]⟩))))⟩,r.le,r.len,r.srt,r.str⟩
theorem ZM.same(h:#[29])(k:ZG H H'):ZM cR cM H' m rd sd L s nb li lo aE:=h.keep λb o hb _=>k b o hb
theorem ZM.ne_p(h:#[29]){e:Zx}(he:e∈L):m≠e.p/\m≠e.k/\m≠e.f:=by
 show#[qa,dx];show#[vb,he,dy,b];refine#[qw]
 ·rw[z,b]at hd;injection hd with hd;injection hd with _ _ hd;have a:=VO e.k e.f (e.g:Int);rw[hd,Xu _ _ _ _ _ _ #[1] #[1] #[1] #[1] #[1] #[1]]at a;cases a
 ·show#[p2,r.at'.ks,hd]
 ·show#[p2,r.at'.fs,hd]
theorem ZM.ne_m(h:#[29]):m≠rd/\m≠sd/\rd≠sd:=by
 show#[qa,dx];refine#[qw]
 ·show#[p2,h.rows,hd]
 ·show#[p2,h.stays,hd]
 ·have:=h.rows;show#[gi,h.stays]
theorem ZM.ne_sd(h:#[29]){e:Zx}(he:e∈L):sd≠e.p/\sd≠e.k/\sd≠e.f/\rd≠e.p/\rd≠e.k/\rd≠e.f:=by
 show#[vb,he,dy,c];have a:=h.stays;have b:=h.rows;refine⟨λz=>?_,λz=>?_,λz=>?_,λz=>?_,λz=>?_,λz=>?_⟩
 ·show#[p2,c,a]
 ·show#[p2,r.at'.ks,a]
 ·show#[p2,r.at'.fs,a]
 ·show#[p2,c,b]
 ·show#[p2,r.at'.ks,b]
 ·show#[p2,r.at'.fs,b]
theorem ZM.obj(h:#[29]){nb' li' lo':Int}{best':V}{dx:ae}:ZM cR cM (upd H m (.ins cM dx (mgF rd nb' li' lo' sd best'))) m rd sd L s nb' li' lo' best':=by
 show#[gU,f,g,n3,h.ne_m];show#[qa,dy];refine⟨⟨dx,Zd⟩,by rw[Zc f.symm];exact h.rows,by rw[Zc g.symm];exact h.stays,λe d t i=>?_,λe d=>?_,h.up,h.pd,h.few,h.sfew⟩
 ·have:=h.ats e d t i;show#[dX,hd]
 ·show#[vx,a,b,c,h.ne_p,d];show#[eR,h.each,d]
theorem ZM.put(h:#[29]){k:#[c4]}{v:#[99]}(i:#[lW])(hs:#[kg].length<=200):ZM cR cM #[ry] m rd sd L #[kg] nb li lo aE:=by
 show#[gU,n1,j,l,h.ne_m];show#[qa,n];have tup:∀a d,H a=U (.tup d)->#[ry] a=U (.tup d):=λa d f=>by rw[Zc (λz=>by rw[z,h.stays]at f;cases f)];exact f
 refine⟨⟨n,by rw[Zc j];exact hd⟩,by rw[Zc l];exact h.rows,Zd,(h.ats.put i).mono tup,λe g=>?_,h.up,h.pd,h.few,hs⟩;obtain⟨a,b,c,_⟩:=h.ne_sd g;show#[eR,h.each,g]
universe E
def OE(g h:ae):Sp:=λvs H Q _=>X14 λ(m rd sd:ae) (L:List Zx) (s:StL) (nb li lo:Int) (i:V) (a b:Zx) (x y:ak) (d:Nat)=>vs=[.ref m,.int a.n,.int b.n,.int (d:Int)]/\ZM g h H m rd sd L s nb li lo i/\a∈L/\b∈L/\a.ss[a.g]? = U x/\b.ss[b.g]? = U y/\d<=lcp #[bu] #[b3] /\
 ∀ (t:ae) (e f:Int) (c:Hp),(Btr #[bu] a.n #[b3] b.n/\e=a.n/\f=b.n\/¬ Btr #[bu] a.n #[b3] b.n/\e=b.n/\f=a.n)->H t=af->c t=U (.tup [.int e,.int f,.int (#[p]:Int)]) ->
  ZM g h c m rd sd L s nb (li+1) (lo+(#[p]-(d:Int)+1)) i->#[d1,H,m,c]->Q #[mY] c
theorem T3{ss:#[T]}{g:Nat}{x:ak}(h:ss[g]? = U x):WY ss g=.str x:=by unfold WY;rw[h]
theorem VI(k f:ae)(g:Int):#[hV].lookup ("head" : ak)=af:=#[io]
theorem ZpD(T:#[e])(Z:#[40])(fF:#[ri]):Mf P w K mg base 3 aj "meet" #[93] (OE au aj):=by
 show#[dj,T.t_Merge_meet.mf,SR,vs,C];obtain⟨m,j,B,L,s,l,p,lo,r,a,b,x,y,u,rfl,M,ha,v,hx,hy,hf,q⟩:=h;refine⟨_,#[Zf,#[Yn,#[ZD,fF,C,#[Zg,#[Yq,Z,T.cl_Row,C,#[gK,C,1]],#[Yq,Z,T.cl_Row,C,#[gK,C,2]],‹3›],#[5]],#[eB,4,SR.nd,5,6]],#[Zf,#[lJ],#[Zf,#[V2,‹0›,‹6›,UX],#[Zf,#[ZT,(@PW.pt _ _ _ #[WO,#[dt,WC,4,#[Zk]],#[WP,(@PW.pt _ _ _ #[Xi,#[dt,YH,4,#[Zk]],#[W7,#[Zo,WC,‹1›,‹2›,#[cZ]]]])]]),#[Zh,#[Zn,#[Yi,#[ek,1,2,5]]]],#[ZB]],#[Zh,#[Zn,#[Yi,#[ek,2,1,5]]]]]]]],?_⟩;show#[fq,dx,N];have O:=M.each a ha;have R:=M.each b v;show#[dz,da,Dr,O.at'.ob];show#[dz,db,Ds,R.at'.ob];have lx:=(O.str x (Qu hx)).1;have ly:=(R.str y (Qu hy)).1;refine⟨_,rfl,m,aj,dx,_,_,rfl,N,T.cl_Merge,T.na_Merge_rows,Z5 ..,_,rfl,j,_,rfl,Y6.k' (k:=.inl a.n) M.rows (WG M.nd ha),a.p,da,_,rfl,Dr,VI ..,a.p,a.k,a.f,a.ss,a.g,rfl,O.at',_,rfl,m,aj,dx,_,_,rfl,N,T.cl_Merge,T.na_Merge_rows,Z5 ..,_,rfl,j,_,rfl,Y6.k' (k:=.inl b.n) M.rows (WG M.nd v),b.p,db,_,rfl,Ds,VI ..,b.p,b.k,b.f,b.ss,b.g,rfl,R.at',?_⟩;rw[T3 hx,T3 hy];refine⟨_,rfl,x,y,u,rfl,lx,ly,hf,λt ht=>?_⟩;have G:=Zi ht #[aj];show#[fQ,yO,H,t,#[aj]];generalize upd H t (.tup [.int (ZS (cds x) (cds y)),.int (lcp (cds x) (cds y):Nat),.int ((lcp (cds x) (cds y):Nat)-(u:Int)+1)])=S at G yO ⊢;have M1:=M.same G;show#[fr,t,yO];have eV:=G _ _ N;show#[eY,eV,T.na_Merge_likened,OF,KP];have M2:=M1.obj (nb':=l) (li':=p+1) (lo':=lo) (best':=r) (dx:=dx);have k2:#[oB,o,H,m,S,#[hY]]:=λb o v n=>by rw[Zc n];exact G b o v
 show#[oA,V,S,m,#[hY]];generalize upd S m (.ins aj dx (mgF j l (p+1) lo B r))=H2 at M2 k2 V ⊢;refine⟨_,rfl,m,aj,dx,_,_,rfl,V,T.cl_Merge,T.na_Merge_looked,KQ ..,_,rfl,_,_,rfl,rfl,dx,_,V,Ww ..,?_⟩;rw[ZgL];have W:=M2.obj (nb':=l) (li':=p+1) (lo':=lo+(#[p]-(u:Int)+1)) (best':=r) (dx:=dx);have k3:∀b o,H b=U o->b≠m->(upd H2 m (.ins aj dx (mgF j l (p+1) (lo+(#[p]-(u:Int)+1)) B r))) b=U o:=λb o v n=>by rw[Zc n];exact k2 b o v n
 generalize upd H2 m (.ins aj dx (mgF j l (p+1) (lo+((lcp (cds x) (cds y):Nat)-(u:Int)+1)) B r))=H3 at W k3 ⊢;have I:∀D F:Int,(Btr #[bu] a.n #[b3] b.n/\D=a.n/\F=b.n\/¬ Btr #[bu] a.n #[b3] b.n/\D=b.n/\F=a.n)->∀c,H3 c=af->Q #[uP] (upd H3 c (.tup [.int D,.int F,.int (#[p]:Int)])):=λD F hw c i=>by
  have fC:H c=af:=by
   cases e:H c with
   | none=>rfl
   | some o =>
    by_cases z:c=m
    ·show#[dz,dz,hz,W.ob];show#[p2,hz,i]
    ·rw[k3 c o e z]at i;cases i
  exact q c D F _ hw fC Zd (W.same (Zi i _)) (λb o v n=>Zi i _ _ _ (k3 b o v n))
 have J:3<=aq:=by decide
 refine⟨_,rfl,_,_,rfl,rfl,_,rfl,YW #[cO] #[cO]⟩
 ·have d':ZS #[bu] #[b3]<0:=#[aF];exact Yz ⟨_,rfl,_,rfl,_,rfl,J,λc i=>I _ _ (.inl ⟨.inl d',rfl,rfl⟩) c i⟩
 have d1:¬ ZS #[bu] #[b3]<0:=#[sc];refine⟨_,rfl,rfl,_,rfl,YW (λe=>?_) (λe=>?_)⟩
 ·have X:ZS #[bu] #[b3]=0:=by have:=of_decide_eq_true e;injection this
  refine⟨_,rfl,_,rfl,_,_,rfl,rfl,_,rfl,YW (λg=>?_) (λg=>?_)⟩
  ·have Y:a.n<b.n:=of_decide_eq_true g;exact⟨_,rfl,_,rfl,_,rfl,J,λc i=>I _ _ (.inl ⟨.inr ⟨X,Y⟩,rfl,rfl⟩) c i⟩
  ·have Y:¬ a.n<b.n:=λz=>g #[a1];exact⟨_,rfl,_,rfl,_,rfl,J,λc i=>I _ _ (.inr ⟨λz=>by rcases z with z|z;exact d1 z;exact Y z.2,rfl,rfl⟩) c i⟩
 ·have X:ZS #[bu] #[b3]≠0:=λz=>e (decide_eq_true (by rw[z]));exact Y3 ⟨_,rfl,_,rfl,_,rfl,J,λc i=>I _ _ (.inr ⟨λz=>by rcases z with z|z;exact d1 z;exact X z.1,rfl,rfl⟩) c i⟩
theorem ZM.cast{a b:ae}{H:Hp}{m rd sd:ae}{L:#[bv]}{s:StL}{nb li lo li' lo':Int}{c:V}(h:#[el,a,b,c])(d:li=li')(e:lo=lo'):ZM a b H m rd sd L s nb li' lo' c:=by subst d;subst e;exact h
theorem KO{N:#[F]}(h:N≠[]):atI #[l9] (-1)=U (.int (N.getLastD 0)):=by
 have e:N=N.dropLast++[N.getLast h]:=(List.dropLast_concat_getLast h).symm;have:=ZnW (N.dropLast.map V.int) (V.int (N.getLast h));rw[Qao,QaM h]
 conv=>lhs;rw[e,Qg]
 exact this
theorem KN{N:#[F]}(h:N≠[]):atI #[l9] 0=U (.int (N.headD 0)):=by
 cases N with
 | nil=>exact absurd rfl h
 | cons a r=>exact XA (j:=0) rfl
theorem OD(rd:ae)(nb li lo:Int)(sd:ae)(a:V):#[17].lookup ("play" : ak)=af:=#[n]
theorem KL(rd:ae)(nb li lo:Int)(sd:ae)(a:V):#[17].lookup ("meet" : ak)=af:=#[n]
def KJ(K:#[7])(d e:ae)(n:Nat):Sp:=λvs H Q _=>X11 λ(m rd sd:ae) (L:List Zx) (s:StL) (nb li lo:Int) (f:V) (l:ae) (N:List Int)=>vs=#[oJ,m,l]/\ZM d e H m rd sd L s nb li lo f/\H l=U (.lst #[l9])/\1<=N.length/\N.length<=60/\0<n/\N.length<=2 ^ (n-1)/\(∀x∈N,x∈Zy L)/\Yx N/\(∀k,Xl n N k->ZZ s k=af)/\s.length+N.length<=200 /\
 ∀ (w:Option Int) (a:StL) (k q:Int) (c:Hp),Win #[cQ] N w->Ya #[cQ] a n N->YR #[cQ] n N k q->(∀j,¬ Xl n N j->ZZ a j=ZZ s j)->a.length+1<=s.length+N.length->ZM d e c m rd sd L a nb (li+k) (lo+q) f->#[d2,H,sd,c]->Q (YV w) c
theorem KI(T:#[e])(aX:#[40])(eE:#[bC])(b9:#[u2]) :
  ∀n:Nat,Mf P w K mg base (n+4) aj "play" #[kq] (KJ K au aj n)
 | 0=>by
  show#[rJ]
  ·show#[mh];rfl
  obtain⟨m,rd,sd,L,s,nb,li,lo,S,l,N,rfl,_,_,_,_,z,_⟩:=h;exact absurd z #[2]
 | n+1=>by
  have cE:=KI T aX eE b9 n;show#[rJ]
  ·show#[mh];rfl
  obtain⟨m,rd,sd,L,s,nb,li,lo',S,l,N,rfl,M,B,h1,nC,_,im,mv,C,fC,hsz,q⟩:=h;rw[Qax]at im;refine⟨_,#[Zf,#[ZT,#[Zo,YH,#[ag],#[Zk],#[cZ]],#[Zh,#[Zn,#[Yk,#[Zo,Xg,#[Yq,aX,T.cl_Row,hr,#[ZJ,(ixG hr),#[w],#[88]]],#[ZR],#[cZ]],#[ZR],#[88]]]],#[ZB]],#[Zf,#[Yn,#[fG,eE,hr],#[oV,Wx.nd]],#[Zf,#[Zz,4,Wx.nd,#[3],#[gp,cE,hr,0,2]],#[Zf,#[Zz,5,Wx.nd,#[3],#[gp,cE,hr,0,3]],#[Zf,#[ZT,#[ge,4],#[ea,5],#[ZB]],#[Zf,#[ZT,#[ge,5],#[ea,4],#[ZB]],#[Zf,#[Yn,#[Yh,b9,T.cl_Merge,hr,‹0›,#[o4,4,5]],#[eB,6,Wx.nd,7,8]],#[Zf,#[Yn,#[Yi,#[d6,7,8]],#[W5,#[w],#[Yi,#[Zg,#[88],#[ZJ,#[ol],‹1›,#[hG]]]],(Wn hr)]],#[ea,6]]]]]]]]],?_⟩;show#[uW];have hN:N≠[]:=Xv h1;have yP:l≠m:=λz=>by rw[z,hm]at B;cases B
  have Dt:l≠sd:=λz=>by rw[z,M.stays]at B;cases B
  have lZ:#[g2,N.map]=(N.length:Int):=by rw[Qa]
  refine⟨_,rfl,l,_,rfl,.inl (SqL.of B),rfl,_,rfl,YW #[cO] #[cO]⟩
  ·have yQ:N.length=1:=by have:=#[aF];injection this with this;rw[lZ]at this;lia
   obtain⟨n0,rfl⟩:∃n0,N=[n0]:=Qay.mp yQ;obtain⟨e,he,rfl⟩:=T6 (mv n0 #[4]);show#[pG,R,he,dp,hp,R.at'.ob];have fX:atI (([e.n]:List Int).map V.int) 0=U (.int e.n):=XA (j:=0) rfl;refine⟨_,rfl,m,aj,dx,_,_,rfl,hm,T.cl_Merge,T.na_Merge_rows,Z5 ..,_,rfl,l,_,_,_,rfl,rfl,SqL.of B,fX,rd,_,rfl,Y6.k' (k:=#[ud]) M.rows (WG M.nd he),e.p,dp,_,rfl,hp,VI ..,e.p,e.k,e.f,e.ss,e.g,rfl,R.at',rfl,_,rfl,?_⟩;have bX:Ya #[cQ] s (n+1) [e.n]:=λh2=>by simp at h2
   have cx:YR #[cQ] (n+1) [e.n] 0 0:=.few #[gr,1,2];have W:=Win.sing (hd:=hdM L) (n:=e.n);have hd:=VJ M.nd he;have M':=M.cast (li':=li+0) (lo':=lo'+0) #[2] #[2];cases g:e.ss[e.g]? with
   | none=>rw[show WY e.ss e.g=.non by unfold WY;rw[g]];rw[hd,g]at W;exact YS rfl (q af s 0 0 H W bX cx #[i0] #[ih] M' #[rP])
   | some x=>rw[T3 g];rw[hd,g]at W;exact Yo #[C] ⟨_,rfl,l,_,_,_,rfl,rfl,SqL.of B,fX,q (U e.n) s 0 0 H W bX cx #[i0] #[ih] M' #[rP]⟩
  have c:#[k0]:=by have:¬ ((N.length:Int)=1):=λz=>d (decide_eq_true (by rw[lZ,z]));lia
  have jL:1<=n:=by
   cases n with
   | zero=>simp at im;lia
   | succ m=>lia
  have Fe:2 ^ n=2*2 ^ (n-1):=by obtain⟨m,rfl⟩:∃m,n=m+1:=⟨n-1,by lia⟩;rw[QaW,Qax];lia
  have oW:(lo N).length<=2 ^ (n-1)/\(lo N).length<=60:=by unfold lo mid;rw[Qv];lia
  have uJ:(up N).length<=2 ^ (n-1)/\(up N).length<=60:=by unfold up mid;rw[QT];lia
  have kC:(lo N).length+(up N).length=N.length:=by rw[<- Qe,Xw]
  have uK:∀x∈lo N,x∈Zy L:=λx g=>mv x (Qar g);have uL:∀x∈up N,x∈Zy L:=λx g=>mv x (QaE g);refine⟨_,rfl,l,N,rfl,SqL.of B,by lia,λt f r H2 ht hf yR wj gb yS fo s2 ntf ntr=>?_⟩;rw[if_pos rfl]at gb;rw[ZrS]at yS;rw[Zrm]at fo;show#[gj,t,gb];have M2:=M.same s2;have dA:=s2 _ _ hm;have wk:r≠m:=(Ze hm yR).symm;have Du:r≠sd:=(Ze M.stays yR).symm;refine⟨_,rfl,m,dx,_,rfl,dA,OD ..,_,rfl,m,rd,sd,L,s,nb,li,lo',S,f,lo N,rfl,M2,yS,(Wd c).2,oW.2,jL,oW.1,uK,Sx C,λk u=>fC k ⟨c,.inl u⟩,by lia,λw1 s1 k1 q1 H3 i S1 P1 o1 l1 M3 b3=>?_⟩;have fZ:=b3 _ _ fo wk Du;show#[dz,Dv,Dw,M3.ob];refine⟨_,rfl,m,Dv,_,rfl,Dw,OD ..,_,rfl,m,rd,sd,L,s1,nb,_,_,S,r,up N,rfl,M3,fZ,(VL c).2,uJ.2,jL,uJ.1,uL,Sw C,λk u=>?_,by lia,λw2 G k2 q2 H4 p S2 P2 o2 l2 M4 b4=>?_⟩
  ·rw[o1 k ((OZ C c u).2 n)];exact fC k ⟨c,.inr (.inl u)⟩
  have qO:¬ Xl n (lo N) (ZU N)/\¬ Xl n (up N) (ZU N):=⟨λz=>(O0 C c z).1 rfl,λz=>(OZ C c z).1 rfl⟩;have yT:Ya #[cQ] G n (lo N):=S1.congr n _ #[i0] (λk u=>o2 k ((O0 C c u).2 n));have tu:ZZ G (ZU N)=af:=by rw[o2 _ qO.2,o1 _ qO.1];exact fC _ ⟨c,.inr #[kn]⟩
  have Z:∀j,¬ Xl (n+1) N j->ZZ G j=ZZ s j:=λj hj=>by rw[o2 j (λz=>hj ⟨c,.inr (.inl z)⟩),o1 j (λz=>hj ⟨c,.inl z⟩)]
  have wl:#[pz,m,sd,H4]:=λb o hb n1 n2=>b4 b o (b3 b o (s2 b o hb) n1 n2) n1 n2;have qP:∀wn,Win #[cQ] N wn->(Win #[cQ] (lo N) af\/Win #[cQ] (up N) af)->Q (YV wn) H4:=λwn hw gK=>by
   refine q wn G (k1+k2) (q1+q2) H4 hw (λ_=>⟨yT,S2,λa b x y wa wb _ _=>?_,λ_=>.inl tu⟩) (.none c P1 P2 gK) Z #[2] (M4.cast #[2] #[2]) wl;rcases gK with z|z
   ·show#[f0,wa]
   ·show#[f0,wb]
  cases w1 with
  | none=>exact⟨_,rfl,rfl,_,rfl,YS rfl ⟨_,rfl,qP w2 (by have:=Win.right i p;rwa [Xw]at this) (.inl i)⟩⟩
  | some a =>
  show#[aO];cases w2 with
  | none=>exact⟨_,rfl,rfl,_,rfl,YS rfl ⟨_,rfl,qP (U a) (by have:=Win.left i p;rwa [Xw]at this) (.inr p)⟩⟩
  | some b =>
  show#[aO];obtain⟨I,tz,vb⟩:=T6 (uK a i.1);obtain⟨J,tD,Dx⟩:=T6 (uL b p.1);subst vb;subst Dx;have X:=VJ M.nd tz;have Y:=VJ M.nd tD;cases g:I.ss[I.g]? with
  | none=>obtain⟨_,z,hz,_⟩:=i;show#[dV,X,g,hz]
  | some x =>
  cases hy:J.ss[J.g]? with
  | none=>obtain⟨_,z,hz,_⟩:=p;show#[dV,Y,hy,hz]
  | some y =>
  rw[g]at X;rw[hy]at Y;show#[dz,wm,qQ,M4.ob];refine⟨_,rfl,m,wm,_,rfl,qQ,KL ..,_,rfl,_,rfl,m,rd,sd,L,G,nb,_,_,S,I,J,x,y,0,rfl,M4,tz,tD,g,hy,Qm _,λt5 wi D H5 hw wo qR M5 b5=>?_⟩;show#[fr,t5,qR];have qS:2<=aq:=by decide
  refine⟨_,rfl,_,rfl,qS,λF wq=>?_⟩;have s6:=Zi wq #[iG];show#[oA,my,H5,F,#[iG]];have M6:=M5.same s6;generalize upd H5 F (.tup [.int D,.int ((lcp (cds x) (cds y):Nat):Int)])=H6 at s6 my M6 ⊢;show#[dz,wt,wu,M6.ob];have qT:H6 l=U (.lst #[l9]):=s6 _ _ (b5 _ _ (wl _ _ B yP Dt) yP);refine⟨_,rfl,m,aj,wt,_,_,rfl,wu,T.cl_Merge,T.na_Merge_stays,T5 ..,_,rfl,l,_,_,_,rfl,rfl,SqL.of qT,KN hN,_,rfl,_,rfl,l,_,_,_,rfl,rfl,SqL.of qT,KO hN,qS,λt7 Dy=>?_⟩;have s7:=Zi Dy #[kl];have uM:(upd H6 t7 #[kl]) t7=U (.tup (#[qE].map kV)):=Zd;have M7:=M6.same s7;generalize upd H6 t7 (.tup [.int (N.headD 0),.int (N.getLastD 0)])=H7 at s7 uM M7 ⊢;have fv:(kvS G).length<aq:=by unfold kvS;show#[od]
  refine⟨sd,_,rfl,Xm.t (k:=#[qE]) M7.stays uM fv,?_⟩;rw[show V.ref F=stV (U #[lQ]) from rfl,Sy];have cx:=ZnI G (ZU N) (U #[lQ]);have l1':=(Wd c).2;have M8:=M7.put (k:=ZU N) (v:=U #[lQ]) (λt ht=>by injection ht with ht;rw[<- ht];exact s7 _ _ my) #[2];have eO:I.n≠J.n:=λz=>by have:=ZN C i.1 p.1;lia
  have Dz:∀b o,H b=U o->b≠m->b≠sd->(upd H7 sd (.dT (kvS (Yg G (ZU N) (U #[lQ]))))) b=U o:=λb o hb n1 n2=>by rw[Zc n2];exact s7 _ _ (s6 _ _ (b5 _ _ (wl _ _ hb n1 n2) n1))
  have W:Win #[cQ] N (U wi):=by
   rcases hw with⟨O,rfl,_⟩|⟨O,rfl,_⟩
   ·have:=Win.both i p X Y O;rwa [Xw]at this
   ·have:=Win.both' i p X Y ((Btr.total eO).resolve_left O);rwa [Xw]at this
  have DA:D=if ZS #[bu] #[b3]<0\/#[jF] then J.n else I.n:=by
   rcases hw with⟨O,_,rfl⟩|⟨O,_,rfl⟩
   ·exact(if_pos (show ZS #[bu] #[b3]<0\/#[jF] from O)).symm
   ·exact(if_neg (show ¬ (ZS #[bu] #[b3]<0\/#[jF]) from O)).symm
  refine⟨_,rfl,q (U wi) _ (k1+k2+1) (q1+q2+#[p]+1) _ W (λ_=>⟨?_,?_,?_,λgK=>?_⟩) (.both c P1 P2 i p X Y) (λj hj=>?_) #[2] (M8.cast #[2] #[2]) Dz⟩
  ·exact yT.congr n _ #[i0] (λk u=>by rw[WH,if_neg (O0 C c u).1])
  ·exact S2.congr n _ #[i0] (λk u=>by rw[WH,if_neg (OZ C c u).1])
  ·intro a' b' x' y' wa wb nE nF;have e1:=Qp (wa.one i);have e2:=Qp (wb.one p);subst e1;subst e2;have e3:=Qp (nE.symm.trans X);have e4:=Qp (nF.symm.trans Y);subst e3;subst e4;exact⟨F,by rw[WH,if_pos rfl,DA]⟩
  ·rcases gK with z|z
   ·show#[f0,i]
   ·show#[f0,p]
  ·rw[WH,if_neg (λz=>hj ⟨c,.inr (.inr z)⟩)];exact Z j hj
theorem WX.mono{C:ae}{H a:Hp}{e:Zx}(h:WX C H e)(k:∀b o,H b=U o->b=e.p\/b=e.k\/b=e.f->a b=U o):WX C a e:=by obtain⟨c,hd⟩:=h.at'.ob;exact⟨⟨⟨c,k _ _ hd #[8]⟩,k _ _ h.at'.ks #[rb],k _ _ h.at'.fs (.inr #[kn])⟩,h.le,h.len,h.srt,h.str⟩
theorem KH(L:#[bv]):#[s4].map (λa=>kV a.1)=#[jR].map V.int:=by unfold kvM Zy;rw[QB,QB];rfl
theorem ZnT{n:Nat}{N:#[F]}{k:#[c4]}(_:Xl n N k):ZZ [] k=af:=rfl
def T0(c d:ae):Sp:=λvs H Q _=>X9 λ(m rd sd:ae) (L:List Zx) (s:StL) (nb li lo:Int) (g:V)=>vs=#[t6]/\ZM c d H m rd sd L s nb li lo g /\
 ∀ (e:ae) (f:StL) (w:Option Int) (k q:Int) (a:Hp),H e=af->Win #[cQ] #[jR] w->Ya #[cQ] f 8 #[jR]->YR #[cQ] 8 #[jR] k q->ZM c d a m rd e L f nb (li+k) (lo+q) (YV w)->#[d1,H,m,a]->Q .non a
theorem ZjR(T:#[e])(cE:Mf P w K mg base 12 aj "play" #[kq] (KJ K au aj 8)):Mf P w K mg base 13 aj "play_all" #[X] (T0 au aj):=by
 show#[pQ,T.t_Merge_play_all.mf,Zff];obtain⟨m,j,sd,L,s,p,t,i,u,rfl,M,q⟩:=h;refine⟨_,#[Zf,#[pf,MF],#[Zh,#[Yb,‹0›,#[Yk,#[oH,#[bp]],#[Yh,cE,T.cl_Merge,hr,‹0›,#[Zg,#[lC]]],#[ZR]]]]],?_⟩;refine λg v=>?_;show#[fq,z,J];have B:=Zi v (.dT []);have N:(upd H g (.dT [])) g=U (.dT (kvS [])):=Zd;have M1:=M.same B;have O:=B _ _ J;have pf:m≠g:=Ze J v;have yU:j≠g:=Ze M.rows v;generalize upd H g (.dT [])=G at B N M1 O ⊢;refine⟨_,rfl,m,aj,z,_,rfl,O,T.cl_Merge,T.na_Merge_stays,Ww ..,?_⟩;rw[ZhE];show#[gU,n1,n2,n3,M.ne_m];have M2:ZM au aj #[lG] m j g L [] p t i u:=by refine⟨⟨z,Zd⟩,by rw[Zc n1.symm];exact M1.rows,by rw[Zc pf.symm];exact N,#[d7,e,C],λe C=>?_,M.up,M.pd,M.few,by decide⟩;show#[vx,a,b,c,M1.ne_p,C];show#[eR,M1.each,C]
 have k2:#[u7,o,m,#[lG]]:=λb o y n=>by rw[Zc n];exact B b o y
 generalize upd G m (.ins aj z (mgF j p t i g u))=R at M2 k2 ⊢;show#[dz,D,F,M2.ob];have ba:#[m3]:=by unfold kvM;rw[Qa]
 have nG:#[jR].length=L.length:=by unfold Zy;rw[Qa]
 have iP:=M.few;refine⟨_,rfl,m,aj,D,_,_,rfl,F,T.cl_Merge,T.na_Merge_rows,Z5 ..,j,_,rfl,M2.rows,_,_,rfl,rfl,_,rfl,YW #[cO] #[cO]⟩
 ·have gQ:0<L.length:=by have:(0:Int)<#[66]:=#[aF];lia
  refine⟨_,rfl,m,D,_,rfl,F,OD ..,_,rfl,m,aj,D,_,_,rfl,F,T.cl_Merge,T.na_Merge_rows,Z5 ..,j,_,rfl,M2.rows,λl hl=>?_⟩;rw[KH];have I:=Zi hl #[aq];show#[fQ,X,R,l,#[aq]];have Y:=M2.same I;generalize upd R l (.lst ((Zy L).map V.int))=H3 at I X Y ⊢;refine⟨m,j,g,L,[],p,t,i,u,l,Zy L,rfl,Y,X,by lia,by lia,by decide,Qi (by lia:#[jR].length<=60) #[6],λx hx=>hx,M.up,λk hk=>ZnT hk,by show 0+_<=_;lia,λw1 s' k q' H4 W S Pl _ _ Z b4=>?_⟩;show#[dz,wm,qQ,Z.ob];show#[eF,wm,qQ];exact q g s' w1 k q' _ v W S Pl Z.obj (λb o y n=>by rw[Zc n];exact b4 b o (I b o (k2 b o y n)) n (Ze y v))
 ·have yV:L=[]:=by
   cases L with
   | nil=>rfl
   | cons e r=>exact absurd (decide_eq_true (show (0:Int)<(((kvM (e::r)).length:Nat):Int) by rw[ba];simp only[List.length_cons];lia)) d
  subst yV;show#[eF,D,F];exact q g [] af 0 0 _ v (Win.nil _) (λh2=>absurd h2 #[6]) (.few #[6]) (M2.obj.cast #[2] #[2]) (λb o y n=>by rw[Zc n];exact k2 b o y n)
def KG(L:#[bv])(a:List (ae×List ak)):Prop:=Zy L=WK 0 a.length/\L.map (λe=>(e.ss,e.g))=a.map λx=>(x.2,0)
def KC(g d:ae):Sp:=λvs H Q _=>X4 λ(m dx r:ae) (a:List (ae×List ak))=>vs=#[oJ,m,r]/\H m=U (.ins d dx [])/\Zri H r a/\(∀x∈a,sortedS x.2=true) /\
 ∀ (e f:ae) (L:List Zx) (s:StL) (w:Option Int) (k q:Int) (c:Hp),ZM g d c m e f L s #[bP] k q (YV w)->KG L a->Win #[cQ] #[jR] w->Ya #[cQ] s 8 #[jR]->YR #[cQ] 8 #[jR] k q->(∀b,Fp m e f L b->b=m\/H b=af)->#[d1,H,m,c]->Q .non c
theorem Sr(rd:ae)(nb li lo:Int)(sd:ae)(a:V):#[17].lookup ("play_all" : ak)=af:=#[n]
theorem Sq{ss:#[T]}(h:#[p0,ss]):WZ ss .non:=by refine .inl ⟨rfl,λi x y a b=>?_⟩;have:=K2 h i y x b a;have:=VP #[b3] #[bu];lia
theorem ZhA(T:#[e])(bA:#[55])(dE:#[kZ])(aV:#[86]):Cf P w K mg base 14 aj "Merge" #[nH] (KC au aj):=by
 show#[pQ,T.t_Merge_init.cf,Pq];obtain⟨m,g,r,l,rfl,hm,N,iq,q⟩:=h;refine⟨_,#[Zf,#[pf,Rz],#[Zf,#[Xh,bC.never,#[iE,K,T.b.n_enumerate,#[27]],#[oV,Pq.nd],#[Zf,#[ZL,#[pB,bA,hr,2,3]],#[Zh,#[Yn,#[Vm,dE,hr,#[Zg,‹3›]],#[g8,2,hr]]]]],#[Zf,#[Yb,‹0›,#[ag]],#[Zf,#[nK],#[Zf,#[nK],#[Zf,#[pf,MF],#[Zf,#[Yb,‹0›,#[ZR]],#[Zh,#[ZL,#[eI,aV,hr,0]]]]]]]]]],?_⟩;refine λc kK=>?_;have wv:m≠c:=Ze hm kK;have s1:=Zi kK #[lT];have g8:(upd H c #[lT]) c=U (.dK (kvM [])):=Zd;have eV:=s1 _ _ hm;generalize upd H c (.dK [])=H1 at s1 g8 eV ⊢;refine⟨_,rfl,m,aj,g,_,rfl,eV,T.cl_Merge,T.na_Merge_rows,#[gr,0,1000],?_⟩;have qU:r≠m:=λz=>by have:=N.at';show#[gi,hm]
 have k2:#[oB,o,H,m,H1,#[je]]:=λb o d n=>by rw[Zc n];exact s1 b o d
 show#[oA,dA,H1,m,#[je]];have fo:(upd H1 m #[je]) c=U (.dK (kvM [])):=by rw[Zc wv.symm];exact g8
 generalize upd H1 m (.ins aj g (Zv "rows" (.ref c) []))=H2 at k2 dA fo ⊢;have iP:=N.few;have DB:#[56].lookup ("rows" : ak)=U (V.ref c):=by rw[Zp,if_pos rfl]
 refine⟨_,rfl,r,_,rfl,SqL.of (k2 _ _ N.at' qU),?_⟩;refine RB (K:=K) (a:=r) (xs:=l.map λx=>V.ref x.1) (λi σ t=>X3 λ(L:List Zx) (v2 v3:Option V)=>σ=[U (.ref m),U #[kz],v2,v3]/\t m=U #[je]/\t c=U #[bY]/\(∀e∈L,WX au t e)/\KG L (l.take i)/\#[uG].Nodup/\(∀e∈L,H e.p=af/\H e.k=af/\H e.f=af)/\#[d1,H,m,t]) ⟨[],_,_,rfl,dA,fo,#[d7,e,h],#[Y],List.nodup_nil,#[d7,e,h],k2⟩ (λi σ t hq=>by obtain⟨_,_,_,_,_,_,_,_,_,_,k5⟩:=hq;exact SqL.of (k5 _ _ N.at' qU)) ?_ ?_
 ·rintro i y σ t p hy ⟨L,v2,v3,rfl,I,F,C,⟨n1,n2⟩,pd,eB,k5⟩ hp;rw[Qo]at hy;cases hz:l[i]? with
  | none=>rw[hz]at hy;cases hy
  | some x =>
  show#[dr,hz,hy,cb,i,l.length];have ww:=Qu hz;obtain⟨lx,mz,nH⟩:=N.lst x ww;have DC:x.1≠m:=λz=>by rw[z,hm]at lx;cases lx
  have DD:L.length=i:=by have:=#[dW,n1];unfold Zy at this;rw[Qa,ME,Qv]at this;lia
  have bi:∀e∈L,e.n≠(i:Int):=λe he z=>by
   have h1:e.n∈WK 0 (l.take i).length:=by rw[<- n1];exact Qj (f:=λe:Zx=>e.n) he
   unfold WK at h1;show#[vx,j,hj,ej,Qq.mp,h1];have:=List.mem_range.mp hj;rw[Qv]at this;lia
  have sp:=Zi hp #[iW];show#[oA,yW,t,p,#[iW]];generalize upd t p (.tup [.int (i:Int),.ref x.1])=H6 at sp yW ⊢;show#[gj,p,yW];have yX:H6 x.1=U #[dv,x.2.map]:=sp _ _ (k5 _ _ lx DC);refine⟨_,rfl,_,rfl,(i:Int),x.1,x.2,rfl,SqL.of yX,by lia,λs hs=>(nH s hs).1,Sq (iq x ww),λH7 s7=>?_⟩;have yY:=sp.trans s7;refine⟨_,rfl,λu G hu mB DE=>?_⟩;have O:t u=af:=yY.free hu;have yZ:#[cY] x.1=U #[dv,x.2.map]:=by have:=s7 _ _ yX;show#[hn]
  have s8:#[d3,o,t,#[cY]]:=λb o d=>by have:=yY _ _ d;show#[hn]
  have qV:#[cY] u=U (.ins au G []):=Zd;generalize upd (upd H7 G (.own u)) u (.ins au G [])=X at yZ s8 qV ⊢;refine⟨u,G,x.1,x.2,rfl,qV,yZ,mz,λs hs=>(nH s hs).1,λk f H9 hk D wf R k9=>⟨rfl,?_⟩⟩;have s9:#[d3,o,t,H9]:=λb o d=>k9 b o (s8 b o d) (Ze d O);have Y:∀b,X b=af->t b=af:=λb d=>by
   cases e:t b with
   | none=>rfl
   | some o=>rw[s8 b o e]at d;cases d
  have jq:∀b,b≠m->t b=af->H b=af:=λb Z d=>by
   cases e:H b with
   | none=>rfl
   | some o=>rw[k5 b o e Z]at d;cases d
  have num:u≠m:=λz=>by rw[z,I]at O;cases O
  have DF:k≠m:=λz=>by have:=Y k hk;show#[gi,I]
  have wk:f≠m:=λz=>by have:=Y f D;show#[gi,I]
  have jM:c≠u/\c≠k/\c≠f:=⟨Ze F O,Ze F (Y k hk),Ze F (Y f D)⟩;have hsz:#[s4].length<aq:=by unfold kvM;show#[od]
  have jL:Y1 #[s4] (.inl (i:Int))=af:=by
   cases hv:Y1 (kvM L) (.inl (i:Int)) with
   | none=>rfl
   | some v=>obtain⟨e,he,z⟩:=Qq.mp (UN hv);injection z with z _;exact absurd #[mR] (bi e he)
  refine⟨_,rfl,m,aj,g,_,_,rfl,s9 _ _ I,T.cl_Merge,T.na_Merge_rows,DB,_,rfl,c,_,rfl,Xm.k (k:=.inl (i:Int)) (s9 _ _ F) hsz,?_⟩;rw[Vo _ jL,show kvM L++[((.inl (i:Int):Key),V.ref u)]=kvM (L++[⟨(i:Int),u,k,f,x.2,0⟩]) by unfold kvM;rw[Qg];rfl];refine⟨L++[⟨(i:Int),u,k,f,x.2,0⟩],_,_,rfl,by rw[Zc wv];exact s9 _ _ I,Zd,λe he=>?_,#[tX],?_,λe he=>?_,λb o d n=>?_⟩
  ·rcases Ql.mp he with he|he
   ·show#[rs];refine J.mono λb o d dG=>?_;have Z:b≠c:=λz=>by
     rw[z,F]at d;injection d with d;subst d;rcases dG with z2|z2|z2
     ·rw[<- z2,z,F]at fA;cases fA
     ·show#[fh,J.at'.ks,z2,F]
     ·show#[fh,J.at'.fs,z2,F]
    rw[Zc Z];exact s9 b o d
   ·rw[Qh.mp he];refine WX.keep (H:=H9) ⟨R,Qm _,mz,iq x ww,nH⟩ (Zc jM.1.symm) (Zc jM.2.1.symm) (Zc jM.2.2.symm)
  ·unfold Zy at n1 ⊢;rw[Qg,n1,Qv,Qv,Nat.min_eq_left #[2],Nat.min_eq_left #[2]];unfold WK;rw[List.range_succ,Qg];simp
  ·rw[Qg,n2,QN,hz,Qg];rfl
  ·show#[e7,pd,ha,d,e,he];have:b=u:=by simpa using d
   rw[this];obtain⟨de,fA⟩:=(C e he).at'.ob;exact Ze fA O
  ·rcases Ql.mp he with he|he
   ·exact eB e he
   ·rw[Qh.mp he];exact⟨jq u num O,jq k DF (Y k hk),jq f wk (Y f D)⟩
  ·rw[Zc (Ze d kK)];exact s9 b o (k5 b o d n)
 ·rintro σ t ⟨L,v2,v3,rfl,I,F,C,fB,pd,eB,k5⟩;rw[Qa,Qw #[ih]]at fB;have p1:=Wf "rows" (V.ref c) [];have p2:=Wf "next_number" (V.int #[n4]) #[56];have p3:=Wf "likened" (V.int 0) (Zv "next_number" (.int #[n4]) #[56]);have p4:=Wf "looked" (V.int 0) #[h];have p0:#[uk]:=rfl;refine⟨_,rfl,r,_,rfl,.inl (SqL.of (k5 _ _ N.at' qU)),_,rfl,m,aj,g,_,rfl,I,T.cl_Merge,T.na_Merge_next_number,by lia,?_⟩;rw[Qa];refine⟨_,rfl,m,aj,g,_,rfl,Zd,T.cl_Merge,T.na_Merge_likened,by lia,_,rfl,m,aj,g,_,rfl,Zd,T.cl_Merge,T.na_Merge_looked,by lia,?_⟩;have k8:∀b,b≠m->#[91] b=t b:=λb n=>by rw[Zc n,Zc n,Zc n]
  have wx:#[91] m=U (.ins aj g #[rX]):=Zd;generalize (upd (upd (upd t m (.ins aj g (Zv "next_number" (.int (l.length:Int)) (Zv "rows" (.ref c) [])))) m (.ins aj g (Zv "likened" (.int 0) (Zv "next_number" (.int (l.length:Int)) (Zv "rows" (.ref c) []))))) m (.ins aj g (Zv "looked" (.int 0) (Zv "likened" (.int 0) (Zv "next_number" (.int (l.length:Int)) (Zv "rows" (.ref c) []))))))=X at k8 wx ⊢;refine λB dY=>?_;have pf:m≠B:=Ze wx dY;have p5:=Wf "stays" (V.ref B) #[rX];refine⟨_,rfl,m,aj,g,_,rfl,by rw[Zc pf];exact wx,T.cl_Merge,T.na_Merge_stays,by lia,_,rfl,m,aj,g,_,rfl,Zd,T.cl_Merge,T.na_Merge_best,by lia,?_⟩;have y0:t B=af:=by rw[<- k8 B pf.symm];exact dY
  have nI:#[I] m=U (.ins aj g (mgF c #[n4] 0 0 B .non)):=by rw[Wa];exact Zd
  have y4:#[I] B=U (.dT (kvS [])):=by rw[Zc pf.symm,Zc pf.symm];exact Zd
  have k9:#[fz,t,m,#[I]]:=λb o d n=>by rw[Zc n,Zc n,Zc (Ze d y0),k8 b n];exact d
  generalize (upd (upd (upd X B (.dT [])) m (.ins aj g (Zv "stays" (.ref B) (Zv "looked" (.int 0) (Zv "likened" (.int 0) (Zv "next_number" (.int (l.length:Int)) (Zv "rows" (.ref c) []))))))) m (.ins aj g (Zv "best" .non (Zv "stays" (.ref B) (Zv "looked" (.int 0) (Zv "likened" (.int 0) (Zv "next_number" (.int (l.length:Int)) (Zv "rows" (.ref c) []))))))))=H9 at nI y4 k9 ⊢;have DD:L.length=l.length:=by have:=#[dW,fB.1];unfold Zy at this;rw[Qa,ME]at this;exact this
  have M9:ZM au aj H9 m c B L [] #[n4] 0 0 .non:=by
   refine⟨⟨g,nI⟩,k9 _ _ F wv.symm,y4,#[d7,e,he],λe he=>?_,by rw[fB.1];exact Znl _,pd,by lia,by decide⟩;show#[rs];refine J.mono λb o d dG=>k9 b o d λz=>?_;have D:=eB e he;have M:=hm;rw[<- z]at M;rcases dG with z2|z2|z2
   ·show#[dV,z2,D.1,M]
   ·show#[dV,z2,D.2.1,M]
   ·show#[dV,z2,D.2.2,M]
  refine⟨_,rfl,m,g,_,rfl,nI,Sr ..,m,c,B,L,[],_,0,0,.non,rfl,M9,λbq s' w1 k q' jG gk W S Pl mC DG=>?_⟩;have jq:∀b,b≠m->H9 b=af->H b=af:=λb Z d=>by
   cases e:H b with
   | none=>rfl
   | some o=>rw[k9 b o (k5 b o e Z) Z]at d;cases d
  refine q c bq L s' w1 k q' jG (mC.cast #[2] #[2]) fB W S Pl (λb d=>?_) (λb o d n=>DG b o (k9 b o (k5 b o d n) n) n);rcases d with rfl|rfl|rfl|⟨e,he,d⟩
  ·exact #[nS]
  ·exact .inr kK
  ·exact .inr (jq _ (λz=>by rw[z,nI]at gk;cases gk) gk)
  ·have D:=eB e he;rcases d with rfl|rfl|rfl
   ·exact .inr D.1
   ·exact .inr D.2.1
   ·exact .inr D.2.2
def KA(a b:ae):Sp:=λvs H Q _=>X9 λ(m rd sd:ae) (L:List Zx) (s:StL) (nb li lo:Int) (c:V)=>vs=#[t6]/\ZM a b H m rd sd L s nb li lo c/\Q (.int li) H
def Kz(a b:ae):Sp:=λvs H Q _=>X9 λ(m rd sd:ae) (L:List Zx) (s:StL) (nb li lo:Int) (c:V)=>vs=#[t6]/\ZM a b H m rd sd L s nb li lo c/\Q (.int lo) H
theorem ZiN(T:#[e]):Mf P w K mg base 1 aj "likenings" #[X] (KA au aj):=by
 show#[dj,T.t_Merge_likenings.mf,ZeW,a,hr];show#[cn];exact#[vB,i,j,T.na_Merge_likened,OF,q]
theorem Znz(T:#[e]):Mf P w K mg base 1 aj "looks" #[X] (Kz au aj):=by
 show#[dj,T.t_Merge_looks.mf,ZgP,a,hr];show#[cn];exact#[vB,i,j,T.na_Merge_looked,KQ,q]
def Ky(b c:ae):Sp:=λvs H Q _=>X9 λ(m rd sd:ae) (L:List Zx) (s:StL) (nb li lo:Int) (w:Option Int)=>vs=#[t6]/\ZM b c H m rd sd L s nb li lo (YV w)/\Win #[cQ] #[jR] w/\∀ (x:V) (a:Hp),Zs8 #[jc] a x->ZG H a->Q x a
theorem ZmW(T:#[e])(r:#[40]):Mf P w K mg base 3 aj "coming" #[X] (Ky au aj):=by
 show#[dj,T.t_Merge_coming.mf,Lz,u,i];obtain⟨m,j,v,L,s,y,B,lo,w,rfl,M,W,q⟩:=h;refine⟨_,#[Zf,#[ZT,#[Zo,Xg,#[w],#[ZR],#[cZ]],#[h0],#[ZB]],#[Zf,#[Zz,1,Lz.nd,#[3],#[ZJ,(ixG i),#[w],#[w]]],#[Zh,#[Zn,#[Yi,#[Zg,#[w],#[ZE,‹1›],#[pY,r,i,1]]]]]]],?_⟩;show#[fq,b,c];refine⟨_,rfl,m,aj,b,_,_,rfl,c,T.cl_Merge,T.na_Merge_best,T4 ..,rfl,_,rfl,?_⟩;have l:Win (hdL #[jc]) (#[jc].map #[iw]) w:=by rw[Su];exact W
 cases w with
 | none=>exact YS rfl (q _ H (.inl ⟨rfl,l⟩) #[ja])
 | some a =>
  obtain⟨e,d,rfl⟩:=T6 W.1;show#[pG,R,d,n,o,R.at'.ob];have hd:=VJ M.nd d;cases g:e.ss[e.g]? with
  | none=>obtain⟨_,z,p,_⟩:=W;show#[dV,hd,g,p]
  | some x =>
  refine Yo #[C] ?_;refine⟨_,rfl,m,aj,b,_,_,rfl,c,T.cl_Merge,T.na_Merge_rows,Z5 ..,_,rfl,m,aj,b,_,_,rfl,c,T.cl_Merge,T.na_Merge_best,T4 ..,j,_,rfl,Y6.k' (k:=#[ud]) M.rows (WG M.nd d),_,rfl,m,aj,b,_,_,rfl,c,T.cl_Merge,T.na_Merge_best,T4 ..,_,rfl,e.p,au,n,_,_,rfl,o,T.cl_Row,T.na_Row_gone,Ua ..,_,rfl,e.p,n,_,rfl,o,VI ..,e.p,e.k,e.f,e.ss,e.g,rfl,R.at',#[b6],λt C=>?_⟩;rw[T3 g];exact q _ _ (.inr ⟨t,toL e,x,rfl,Qj d,g,Zd,l⟩) (Zi C _)
def Zpp(b c:ae):Sp:=λvs H Q _=>X9 λ(m rd sd:ae) (L:List Zx) (s:StL) (nb li lo:Int) (d:V)=>vs=#[t6]/\ZM b c H m rd sd L s nb li lo d/\∀a:Hp,ZG H a->Q (.int (Wc #[jc]).sum) a
theorem Zi8(k f:ae)(g:Int):#[hV].lookup ("to_go" : ak)=af:=#[io]
theorem Zoj(T:#[e])(J:#[aJ]):Mf P w K mg base 2 aj "left" #[X] (Zpp au aj):=by
 show#[dj,T.t_Merge_left.mf,ZhD,N,O];obtain⟨m,a,S,L,s,W,X,lo,Y,rfl,M,q⟩:=h;refine⟨_,#[Zh,#[Zn,#[Zq,(MC K),#[5],T.b.n_sum,boot_sum,#[Zg,(@Tl _ _ _ #[Xn,Pk,(@ZpN _ _ _ _ _ _ #[w] #[5] #[5]),#[e2,1,Pk],#[16],(λ_ _ _ _=>#[Yq,J,T.cl_Row,O,#[cw,1,Pk]])])]]]],?_⟩;show#[fq,Z,hm];have iP:=M.few;refine⟨a,_,M.rows,True.intro,_,rfl,m,aj,Z,_,_,rfl,hm,T.cl_Merge,T.na_Merge_rows,Z5 ..,a,_,rfl,M.rows,λj B t=>?_⟩;have u:#[tE] a=U (.frz j #[bY]):=Zd;have k1:#[u7,x,a,#[tE]]:=λb x h n=>by rw[Zc n];exact h
 generalize upd H a (.frz j (.dK (kvM L)))=H1 at u k1 t ⊢;refine ZpW (d:=a) (o:=j) (kvs:=kvM L) (λi zs D c=>(∃v:Option V,D=[U (.ref m),v])/\zs=(Wc ((L.take i).map toL)).map V.int/\i<=L.length/\c B=U #[ie]/\ZG H1 c) ?_ (λ_ _ _ _ h=>h.2.2.2.2 _ _ u) ?_ ?_
 ·exact#[eu,t]
 ·rintro i k x zs D c l ⟨⟨v,rfl⟩,rfl,hi,y,p⟩;unfold kvM at l;rw[Qo]at l;cases r:L[i]? with
  | none=>rw[r]at l;cases l
  | some e =>
  show#[dr,r,l,cb,i,L.length];have C:=Qu r;have R:=M.each e C;obtain⟨_,_,_,n1,n2,n3⟩:=M.ne_sd C;have R2:WX au c e:=R.mono λb o g dG=>p _ _ (k1 b o g #[hf]);show#[dz,dp,hp,R2.at'.ob];refine⟨_,rfl,e.p,dp,_,rfl,hp,Zi8 ..,e.p,e.k,e.f,e.ss,e.g,rfl,R2.at',y,(by unfold Wc;rw[Qa,Qa,Qa,Qv];exact ZA #[2]),#[E],?_,cb,Zd,λb x g=>?_⟩
  ·rw[QN,r,Qg];unfold Wc;rw[Qg,Qg];rfl
  ·show#[oO,g,t,p,b,x]
 show#[gW,D,c,v,y,p];have jN:#[s4].length=L.length:=by unfold kvM;rw[Qa]
 rw[jN,Qw #[ih]]at y;refine⟨j,p _ _ u,?_⟩;have F:(upd c a #[bY]) B=U (.lst ((Wc #[jc]).map V.int)):=by rw[Zc (Ze u t).symm];exact y
 have G:ZG H (upd c a #[bY]):=λb x g=>by
  by_cases e:b=a
  ·rw[e,M.rows]at g;rw[e,Zd];exact g
  ·rw[Zc e];exact p _ _ (k1 b x g e)
 generalize upd c a (.dK (kvM L))=H3 at F G ⊢;refine⟨B,Wc #[jc],rfl,SqL.of F,(by unfold Wc;rw[Qa,Qa];lia),λn I=>?_,q H3 G⟩;unfold Wc at I;show#[dA,e',fL,I];show#[dA,e,C,fL];have R:=M.each e C;have a1:=R.le;have a2:=R.len;show 0<=#[jf]/\#[jf]<=_;lia
noncomputable def So(L:List Yf):List (Int×Option ak):=L.map λe=>(e.1,e.2.2.1[e.2.2.2]?)
def Ztf(H:Hp)(l:ae)(E:#[hA]):Prop:=∃a:List (ae×Int×Option ak),a.map #[kc]=E/\H l=U #[fS,a.map,t,t.1]/\∀t∈a,H t.1=U #[rB]
theorem Kx(ss:#[T])(g:Nat):WY ss g=oV ss[g]?:=by unfold WY oV;cases ss[g]?<;>rfl
def Znc(b c:ae):Sp:=λvs H Q _=>X9 λ(m rd sd:ae) (L:List Zx) (s:StL) (nb li lo:Int) (d:V)=>vs=#[t6]/\ZM b c H m rd sd L s nb li lo d/\∀ (l:ae) (a:Hp),H l=af->Ztf a l (So #[jc])->ZG H a->Q #[cT] a
theorem Zmd(T:#[e])(aX:#[40]):Mf P w K mg base 3 aj "heads" #[X] (Znc au aj):=by
 show#[pQ,T.t_Merge_heads.mf,Zgw];obtain⟨m,a,sd,L,s,nb,li,lo,aE,rfl,M,q⟩:=h;refine⟨_,#[Zh,#[Zn,(@Tl _ _ _ #[Xn,Ug,#[mk],#[dL,1,Ug,2],#[16],(λ_ _ _ _=>#[Yi,#[Zg,#[cw,1,Ug],#[Yq,aX,T.cl_Row,hr,#[cw,2,Ug]]]])])]],?_⟩;show#[uW];have iP:=M.few;refine⟨a,_,M.rows,True.intro,_,rfl,m,aj,dx,_,_,rfl,hm,T.cl_Merge,T.na_Merge_rows,Z5 ..,a,_,rfl,M.rows,λg B c=>?_⟩;show#[oA,F,H,a,#[ld]];have k1:#[oB,x,H,a,H,#[ld]]:=λb x h n=>by rw[Zc n];exact h
 have DI:H B=af:=by
  cases e:H B with
  | none=>rfl
  | some o =>
   by_cases z:B=a
   ·rw[z]at c;rw[show (upd H a #[ld]) a=U #[ld] from Zd]at c;cases c
   ·rw[k1 B o e z]at c;cases c
 generalize upd H a (.frz g (.dK (kvM L)))=H1 at F k1 c ⊢;refine ZpJ (d:=a) (o:=g) (kvs:=kvM L) (λi zs J r=>(X2 λN O:Option V=>J=[U (.ref m),N,O])/\(∃j:List (ae×Int×Option ak),j.map #[kc]=So ((L.take i).map toL)/\zs=(j.map λt=>V.ref t.1)/\∀t∈j,r t.1=U #[rB]/\t.1≠B/\t.1≠a)/\i<=L.length/\r B=U #[ie]/\ZG H1 r) ?_ (λ_ _ _ _ h=>h.2.2.2.2 _ _ F) ?_ ?_
 ·exact⟨⟨af,af,rfl⟩,⟨[],rfl,rfl,#[d7,t,h]⟩,Qm _,Zd,Zi c _⟩
 ·rintro i k x zs J r p v ⟨⟨N,O,rfl⟩,⟨j,G,rfl,S⟩,hi,W,y⟩ tE;unfold kvM at v;rw[Qo]at v;cases I:L[i]? with
  | none=>rw[I]at v;cases v
  | some e =>
  show#[dr,I,v,cb,i,L.length];have he:=Qu I;have R:=M.each e he;obtain⟨_,_,_,n1,n2,n3⟩:=M.ne_sd he;have C:=Zi tE #[ou];have pj:(upd r p #[ou]) p=U (.tup [.int e.n,.ref e.p]):=Zd;generalize upd r p (.tup [kV (.inl e.n),.ref e.p])=H3 at C pj ⊢;have R2:WX au H3 e:=R.mono λb o l dG=>C _ _ (y _ _ (k1 b o l #[hf]));show#[dz,dp,hp,R2.at'.ob];have qW:=C _ _ W;have qJ:=C _ _ (y _ _ F);have ba:j.length=i:=by have:=#[dW,G];unfold So at this;rw[Qa,Qa,Qa,Qv]at this;lia
  refine⟨p,_,rfl,SqT.of pj,rfl,_,_,rfl,_,_,rfl,rfl,_,rfl,_,rfl,e.p,dp,_,rfl,hp,VI ..,e.p,e.k,e.f,e.ss,e.g,rfl,R2.at',#[61],λt D=>?_⟩;rw[Kx];have X:B≠t:=Ze qW D;have pk:a≠t:=Ze qJ D;refine⟨by rw[Zc X];exact qW,#[ey,Qa,ZA,#[2]],#[qz],⟨j++[(t,e.n,e.ss[e.g]?)],?_,by rw[Qg];rfl,λu hu'=>?_⟩,cb,Zd,λb x l=>?_⟩
  ·rw[Qg,G,QN,I,Qg];unfold So;rw[Qg];rfl
  ·rcases Ql.mp hu' with hu'|hu'
   ·obtain⟨Y,Z,g3⟩:=S u hu';have:=C _ _ Y;exact⟨by rw[Zc Z,Zc (Ze this D)];exact this,Z,g3⟩
   ·rw[Qh.mp hu'];exact⟨by rw[Zc X.symm];exact Zd,X.symm,pk.symm⟩
  ·have:=C b x (y b x l);rw[Zc (Ze l c),Zc (Ze this D)];exact this
 rintro zs J r ⟨⟨N,O,rfl⟩,⟨j,G,rfl,S⟩,_,W,y⟩;have jN:#[s4].length=L.length:=by unfold kvM;rw[Qa]
 rw[jN,Qw #[ih]]at G;refine⟨g,y _ _ F,?_⟩;have DJ:B≠a:=(Ze F c).symm;refine q B _ DI ⟨j,G,by rw[Zc DJ];exact W,λt D=>?_⟩ #[g5,b,x,l]
 ·obtain⟨Y,Z,g3⟩:=S t D;rw[Zc g3];exact Y
 ·by_cases e:b=a
  ·rw[e,M.rows]at l;rw[e,Zd];exact l
  ·rw[Zc e];exact y _ _ (k1 b x l e)
def Agr(Lo:List Yf)(L:#[bv]):Prop:=Lo.map #[oj]=L.map (λe=>(e.n,(e.ss,e.g)))
theorem Kw:∀ (A B:List Yf),A.map #[oj]=B.map #[oj]->hdL A=hdL B
 | [],[],_=>rfl
 | [],_::_,h=>by cases h
 | _::_,[],h=>by cases h
 | a::A,b::B,h=>by
  rw[Qn,Qn]at h;injection h with h1 h2;injection h1 with d f;have ih:=Kw A B h2;funext n;show#[kt];split
  ·simp only[Option.bind_some];rw[f]
  ·exact c
theorem V9{α a:Type}:∀ {P:List (α×a)},(P.map #[iw]).Nodup->∀ {p q:α×a},p∈P->q∈P->p.1=q.1->p=q
 | [],_,_,_,h,_,_=>by cases h
 | x::r,nd,p,q,b,hq,e=>by
  rw[Qn,Q2]at nd;rcases QJ.mp b with h1|h1
  ·rcases QJ.mp hq with h2|h2
   ·rw[h1,h2]
   ·exact absurd (show x.1∈r.map #[iw] by rw[<- h1,e];exact #[vg,x.1,h2]) nd.1
  ·rcases QJ.mp hq with h2|h2
   ·exact absurd (show x.1∈r.map #[iw] by rw[<- h2,<- e];exact #[vg,x.1,h1]) nd.1
   ·exact V9 nd.2 h1 h2 e
def Zs2(x:V):Prop:=x=.non\/(∃b,x=.bl b)\/(∃i,x=.int i)\/∃s,x=.str s
structure F2 (R:V->V->Prop) (xs ys:#[m7]):Prop where
 len:xs.length=ys.length
 at':∀ (i:Nat) (x y:V),xs[i]? = U x->ys[i]? = U y->R x y
theorem F2.nil{R:V->V->Prop}:F2 R [] []:=⟨rfl,λi x y h=>by simp at h⟩
theorem F2.cons{R:V->V->Prop}{x y:V}{xs ys:#[m7]}(h:R x y)(t:F2 R xs ys):F2 R (x::xs) (y::ys):=by
 refine⟨by rw[QA,QA,t.len],λi a b c d=>?_⟩;cases i with
 | zero=>simp at c d;rw[<- c,<- d];exact h
 | succ i=>exact t.at' i a b #[dq,c] #[dq,d]
theorem Zn4{H:Hp}{n:Nat}{x:V}(h:Zs2 x):IsD H (n+1) x x:=.inl ⟨rfl,h⟩
theorem Zqj{H:Hp}{n:Nat}{p q:ae}{xs ys:#[m7]}(a:H p=U #[iI])(hq:H q=U #[mb])(h:xs.length<=1000)(f:F2 (IsD H n) xs ys):IsD H (n+1) #[ir] (.ref q):=.inr ⟨p,q,xs,ys,rfl,rfl,.inl ⟨a,hq⟩,f.len,h,f.at'⟩
theorem Kv(rd:ae)(nb li lo:Int)(sd:ae)(a:V):#[17].lookup ("likenings" : ak)=af:=#[n]
theorem Ku(rd:ae)(nb li lo:Int)(sd:ae)(a:V):#[17].lookup ("looks" : ak)=af:=#[n]
theorem ZiC(rd:ae)(nb li lo:Int)(sd:ae)(a:V):#[17].lookup ("coming" : ak)=af:=#[n]
noncomputable def Y9(M:#[F])(n:Int):List Int:=if n∈lo M then lo M else up M
noncomputable def Y8(M:#[F])(n:Int):List Int:=if n∈lo M then up M else lo M
noncomputable def Z2:Nat->List Int->Int->List #[qs]
 | 0,_,_=>[]
 | k+1,M,n=>if 2<=M.length then Z2 k #[cc] n++[M] else []
inductive Sub (N:#[F]):List Int->Prop
 | top:Sub N N
 | lo {M:List Int}:Sub N M->2<=M.length->Sub N (lo M)
 | up {M:List Int}:Sub N M->2<=M.length->Sub N (up M)
theorem Sub.trans{A B C:#[F]}(h:Sub A B)(k:Sub B C):Sub A C:=by
 induction k with
 | top=>exact h
 | lo _ a b=>exact b.lo a
 | up _ a b=>exact b.up a
theorem Sub.rise{N M:#[F]}(h:Sub N M)(r:Yx N):Yx M:=by
 induction h with
 | top=>exact r
 | lo _ _ a=>exact Sx a
 | up _ _ a=>exact Sw a
theorem Sub.mem{N M:#[F]}(h:Sub N M){x:Int}(hx:x∈M):x∈N:=by
 induction h with
 | top=>exact hx
 | lo _ _ a=>exact a (Qar hx)
 | up _ _ a=>exact a (QaE hx)
theorem Kt{M:#[F]}(h:#[i5])(n:Int):Sub M #[cc]:=by
 unfold Y9;split
 ·exact Sub.top.lo h
 ·exact Sub.top.up h
theorem TZ{M:#[F]}{n:Int}(h:n∈M):n∈Y9 M n:=by
 unfold Y9;split
 ·assumption
 ·rename_i a;rw[<- Xw M]at h;exact(Ql.mp h).resolve_left a
theorem OC{M:#[F]}(r:Yx M){n:Int}(hn:n∈Y9 M n):n ∉ Y8 M n:=by
 intro h;unfold Y8 Y9 at *
 split at h
 ·rename_i a;have:=ZN r a h;lia
 ·rename_i a;exact a h
theorem OB(M:#[F])(n:Int):(Y9 M n++Y8 M n).Perm M:=by
 unfold Y9 Y8;split
 ·rw[Xw]
 ·exact List.perm_append_comm.trans (by rw[Xw])
def Kys(M:#[F])(k:#[c4]):Prop:=∃a,Sub M a/\2<=a.length/\k=ZU a
theorem Sn{M:#[F]}{k:#[c4]}(h:Kys M k):k.1∈M/\k.2∈M:=by obtain⟨b,s,h2,rfl⟩:=h;have a:b≠[]:=Xv #[2];exact⟨s.mem (Vc a),s.mem (Vb a)⟩
theorem Ks{M:#[F]}(r:Yx M)(h2:#[i5]){k:#[c4]}(h:Kys (lo M) k):k≠ZU M/\¬ Kys (up M) k:=by
 show#[rL]
 ·show#[vr,a,O2];have:=ZN r this.2 (Vb (Xv (VL h2).2));lia
 ·have:=ZN r this.1 (Sn m).1;lia
theorem Kq{M:#[F]}(r:Yx M)(h2:#[i5]){k:#[c4]}(h:Kys (up M) k):k≠ZU M/\¬ Kys (lo M) k:=by
 show#[rL]
 ·show#[vr,a,O1];have:=ZN r (Vc (Xv (Wd h2).2)) this.1;lia
 ·have:=ZN r (Sn m).1 this.1;lia
theorem Kp{M:#[F]}(r:Yx M)(h2:#[i5]){n:Int}{k:#[c4]}(h:Kys #[cc] k):k≠ZU M/\¬ Kys #[jw] k:=by
 unfold Y9 at h;unfold Y8;split
 ·rename_i a;rw[if_pos a]at h;exact Ks r h2 h
 ·rename_i a;show#[pC,a];exact Kq r h2 h
theorem Ko{M:#[F]}(r:Yx M)(h2:#[i5]){n:Int}{k:#[c4]}(h:Kys #[jw] k):k≠ZU M/\¬ Kys #[cc] k:=by
 unfold Y8 at h;unfold Y9;split
 ·rename_i a;rw[if_pos a]at h;exact Kq r h2 h
 ·rename_i a;show#[pC,a];exact Ks r h2 h
theorem OA{M c:#[F]}(h:Sub M c):c=M\/(2<=M.length/\(Sub (lo M) c\/Sub (up M) c)):=by
 induction h with
 | top=>exact #[nS]
 | lo h a b =>
  rcases b with rfl|⟨g,b⟩
  ·exact .inr ⟨a,.inl .top⟩
  ·exact .inr ⟨g,b.imp (λz=>z.lo a) (λz=>z.lo a)⟩
 | up h a b =>
  rcases b with rfl|⟨g,b⟩
  ·exact .inr ⟨a,.inr .top⟩
  ·exact .inr ⟨g,b.imp (λz=>z.up a) (λz=>z.up a)⟩
theorem Zo5{M a:#[F]}(n:Int)(h:Sub M a):a=M\/(2<=M.length/\(Sub #[cc] a\/Sub #[jw] a)):=by
 rcases OA h with h|⟨g,h⟩
 ·exact .inl h
 ·refine .inr ⟨g,?_⟩;unfold Y9 Y8;split
  ·exact h
  ·exact h.symm
def WF(hd:Hd)(s:StL)(A B:#[F])(k:#[c4]):Prop :=
 (∀a b x y,Win hd A (U a)->Win hd B (U b)->hd a=U x->hd b=U y->X2 λt c=>ZZ s k=U (U (t,c,#[fB,x,y]))/\((Btr x a y b/\c=b)\/(Btr y b x a/\c=a))) /\
 (#[sA]->ZZ s k=af\/ZZ s k=U af)
theorem WF.swap{hd:Hd}{s:StL}{A B:#[F]}{k:#[c4]}(h:WF hd s A B k):WF hd s B A k:=by refine⟨λa b x y c d f g=>?_,λhw=>h.2 hw.symm⟩;obtain⟨t,i,e,o⟩:=h.1 b a y x d c g f;exact⟨t,i,by rw[VQ x y];exact e,o.symm⟩
def Z0(hd:Hd)(s:StL)(N:#[F]):Prop:=∀M,Sub N M->2<=M.length->WF hd s (lo M) (up M) (ZU M)
theorem Z0.sub{hd:Hd}{s:StL}{N M:#[F]}(h:Z0 hd s N)(k:Sub N M):Z0 hd s M:=λa h' h2=>h a (k.trans h') h2
theorem Z0.at_side{hd:Hd}{s:StL}{M:#[F]}(h:Z0 hd s M)(h2:#[i5])(n:Int):WF hd s #[cc] #[jw] (ZU M):=by
 have:=h M .top h2;unfold Y9 Y8;split
 ·exact this
 ·exact this.swap
theorem VH:∀ (n:Nat) (hd:Hd) (s:StL) (N:List Int),Yx N->N.length<=2 ^ (n-1)->0<n->Ya hd s n N->Z0 hd s N
 | 0,_,_,_,_,_,h,_=>absurd h #[2]
 | n+1,hd,s,N,r,hl,_,h=>λM hM h2=>by
  rw[Qax]at hl;rcases OA hM with rfl|⟨g,hM⟩
  ·obtain⟨_,_,c1,c2⟩:=h h2;refine⟨λa b x y d f j k=>?_,c2⟩;obtain⟨t,e⟩:=c1 a b x y d f j k;have mr:=ZN r d.1 f.1;by_cases c:ZS x y<0\/#[s9]
   ·rw[if_pos c]at e;exact⟨t,b,e,.inl ⟨c,rfl⟩⟩
   ·rw[if_neg c]at e;exact⟨t,a,e,.inr ⟨(Btr.total (show a≠b by lia)).resolve_left c,rfl⟩⟩
  ·obtain⟨l,o,_⟩:=h g;have i:1<=n:=by
    cases n with
    | zero=>simp at hl;lia
    | succ m=>lia
   have hp:2 ^ n=2*2 ^ (n-1):=by obtain⟨m,rfl⟩:∃m,n=m+1:=⟨n-1,by lia⟩;rw[QaW,Qax];lia
   rcases hM with hM|hM
   ·exact VH n hd s (lo N) (Sx r) (by unfold lo mid;rw[Qv];lia) i l M hM h2
   ·exact VH n hd s (up N) (Sw r) (by unfold up mid;rw[QT];lia) i o M hM h2
theorem WF.congr{hd d:Hd}{s s':StL}{A B:#[F]}{k:#[c4]}(h:WF hd s A B k)(ha:∀m∈A,d m=hd m)(hb:∀m∈B,d m=hd m)(hk:ZZ s' k=ZZ s k):WF d s' A B k:=by
 refine⟨λa b x y e f g i=>?_,λhw=>?_⟩
 ·rw[hk];exact h.1 a b x y (e.congr λm c=>(ha m c).symm) (f.congr λm c=>(hb m c).symm) #[p7,ha,a,e.1,g] #[p7,hb,b,f.1,i]
 ·rw[hk];exact h.2 (hw.imp (λw=>w.congr λm c=>(ha m c).symm) (λw=>w.congr λm c=>(hb m c).symm))
theorem Z0.congr{hd b:Hd}{s s':StL}{M:#[F]}(h:Z0 hd s M)(c:∀m∈M,b m=hd m)(hk:∀k,Kys M k->ZZ s' k=ZZ s k):Z0 b s' M:=λd hM h2 =>
 (h d hM h2).congr (λm a=>c m (hM.mem (Qar a))) (λm a=>c m (hM.mem (QaE a))) (hk _ ⟨d,hM,h2,rfl⟩)
theorem Zmy{hd:Hd}{s:StL}{M:#[F]}{n:Int}(h1:Z0 hd s #[cc])(b:Z0 hd s #[jw])(h:WF hd s #[cc] #[jw] (ZU M)):Z0 hd s M:=λa hM h2=>by
 rcases Zo5 n hM with rfl|⟨g,hM|hM⟩
 ·unfold Y9 Y8 at h;split at h
  ·exact h
  ·exact h.swap
 ·exact h1 a hM h2
 ·exact b a hM h2
noncomputable def low(n:Int)(C:List #[qs]):Nat->List Int
 | 0=>[n]
 | i+1=>C.getD i []
theorem Oz:∀ (k:Nat) (M:List Int) (n:Int),n∈M->M.length<=2 ^ k->(∀i X,#[mP][i]? = U X->Sub M X/\2<=X.length/\n∈X/\Y9 X n=low n #[mP] i)/\low n #[mP] #[mP].length=M/\#[mP].length<=k
 | 0,M,n,hn,hl=>by
  refine⟨λi X h=>by unfold Z2 at h;simp at h,?_,Qf _⟩;have h1:M.length=1:=by have:=QaX hn;simp at hl;lia
  obtain⟨x,rfl⟩:=Qay.mp h1;have:n=x:=by simpa using hn
  rw[this];rfl
 | k+1,M,n,hn,hl=>by
  unfold Z2;by_cases d:2<=M.length
  ·rw[if_pos d];have f:#[cc].length<=2 ^ k:=by
    rw[QaW]at hl;unfold Y9;split
    ·unfold lo mid;rw[Qv];lia
    ·unfold up mid;rw[QT];lia
   obtain⟨a,b,c⟩:=Oz k #[cc] n (TZ hn) f;refine⟨λi X h=>?_,?_,by rw[Qe,Qy];lia⟩
   ·have e:∀j,j<=#[k9].length->low n (Z2 k #[cc] n++[M]) j=low n #[k9] j:=λj hj=>by
     cases j with
     | zero=>rfl
     | succ j=>show (Z2 k #[cc] n++[M]).getD j []=#[k9].getD j [];rw[QM,QM,QO #[2]]
    by_cases g:i<#[k9].length
    ·rw[QO g]at h;obtain⟨l,m,o,p⟩:=a i X h;exact⟨(Kt d n).trans l,m,o,by rw[e i #[2]];exact p⟩
    ·have q:i=#[k9].length:=by have:=(Qd.mp h).1;rw[Qe,Qy]at this;lia
     subst q;rw[Q0 #[ih],Nat.sub_self]at h;cases h;exact⟨.top,d,hn,by rw[e _ #[ih],b]⟩
   ·rw[Qe,Qy];show (Z2 k #[cc] n++[M]).getD _ []=M;rw[QM,Q0 #[ih],Nat.sub_self];rfl
  ·rw[if_neg d];refine⟨λi X h=>by simp at h,?_,Qm _⟩;have h1:M.length=1:=by have:=QaX hn;lia
   obtain⟨x,rfl⟩:=Qay.mp h1;have:n=x:=by simpa using hn
   rw[this];rfl
structure Tk (hd cq:Hd) (N:#[F]) (n:Int) (z:#[hi]):Prop where
 win:Win hd N (U n)
 key:hd n=U z
 oth:∀b,b≠n->cq b=hd b
 nxt:∀x,cq n=U x->ZS z x<=0
 up:Yx N
theorem Tk.ge{hd a:Hd}{N:#[F]}{n:Int}{z:#[hi]}(h:Tk hd a N n z){b:Int}(hb:b∈N){y:#[hi]}(hy:a b=U y):ZS z y<=0:=by
 by_cases e:b=n
 ·exact h.nxt y #[er,e,hy]
 ·obtain⟨_,x,c,hw⟩:=h.win;show#[vv,h.key,c];rw[h.oth b e]at hy;rcases hw b hb y hy with z|z
  ·exact absurd z e
  ·rcases z with z|z<;>lia
inductive Ag (hd:Hd) (z:#[hi]):List #[hX]->Int->Int->Prop
 | nil:Ag hd z [] 0 0
 | no {C:List (List Int×List Int)} {A B:List Int} {k q:Int}:Ag hd z C k q->(Win hd A af\/Win hd B af)->Ag hd z (C++[(A,B)]) k q
 | eq {C:List (List Int×List Int)} {A B:List Int} {k q:Int} {a b:Int} {x y:List Nat}:Ag hd z C k q->Win hd A (U a)->Win hd B (U b)->hd a=U x->hd b=U y->lcp x z=lcp y z->Ag hd z (C++[(A,B)]) (k+1) (q+((lcp x y:Nat)-(lcp x z:Nat)+1))
 | ne {C:List (List Int×List Int)} {A B:List Int} {k q:Int} {a b:Int} {x y:List Nat}:Ag hd z C k q->Win hd A (U a)->Win hd B (U b)->hd a=U x->hd b=U y->lcp x z≠lcp y z->Ag hd z (C++[(A,B)]) (k+1) q
theorem Sl{α:Type}{C D:List α}{c d:α}(h:C++[c]=D++[d]):C=D/\c=d:=by have:=List.append_inj' h rfl;exact⟨this.1,by simpa using this.2⟩
theorem Ag.last{hd:Hd}{z:#[hi]}{D:List #[hX]}{k q:Int}(h:Ag hd z D k q):∀ {C:List (List Int×List Int)} {A B:List Int},D=C++[(A,B)]->X2 λk0 d=>Ag hd z C k0 d/\((#[sA]/\k=k0/\q=d)\/(X4 λa b x y=>Win hd A (U a)/\Win hd B (U b)/\hd a=U x/\hd b=U y/\k=k0+1/\q=if lcp x z=lcp y z then d+((lcp x y:Nat)-(lcp x z:Nat)+1) else d)):=by
 intro C A B e;cases h with
 | nil=>simp at e
 | no g hw=>obtain⟨rfl,c⟩:=Sl e;cases c;exact⟨_,_,g,.inl ⟨hw,rfl,rfl⟩⟩
 | eq g f i j l m=>obtain⟨rfl,c⟩:=Sl e;cases c;exact⟨_,_,g,.inr ⟨_,_,_,_,f,i,j,l,rfl,by rw[if_pos m]⟩⟩
 | ne g f i j l m=>obtain⟨rfl,c⟩:=Sl e;cases c;exact⟨_,_,g,.inr ⟨_,_,_,_,f,i,j,l,rfl,by rw[if_neg m]⟩⟩
theorem Ag.one{hd:Hd}{z:#[hi]}{C:List #[hX]}{k q:Int}(h:Ag hd z C k q):∀ {k' e:Int},Ag hd z C k' e->k=k'/\q=e:=by
 induction h with
 | nil =>
  intro k' e g;generalize r:([]:List (List Int×List Int))=C at g;cases g with
  | nil=>exact#[Y]
  | no _ _=>simp at r
  | eq _ _ _ _ _ _=>simp at r
  | ne _ _ _ _ _ _=>simp at r
 | no g hw f =>
  show#[aU];rcases o with⟨_,rfl,rfl⟩|⟨a,b,x,y,c,d,_⟩
  ·exact⟨l,m⟩
  ·rcases hw with hw|hw
   ·show#[fb,c]
   ·show#[fb,d]
 | eq g c d s t u f =>
  show#[aU];rcases o with⟨hw,_⟩|⟨a,b,x,y,v,w,n,p,rfl,rfl⟩
  ·rcases hw with hw|hw
   ·show#[fb,c]
   ·show#[fb,d]
  ·show#[cH];rw[if_pos u];exact⟨by rw[l],by rw[m]⟩
 | ne g c d s t u f =>
  show#[aU];rcases o with⟨hw,_⟩|⟨a,b,x,y,v,w,n,p,rfl,rfl⟩
  ·rcases hw with hw|hw
   ·show#[fb,c]
   ·show#[fb,d]
  ·show#[cH];rw[if_neg u];exact⟨by rw[l],m⟩
theorem Kn:∀ (x z y:List Nat),lcp z y<lcp x z->ZS x y=ZS z y
 | [],z,y,h=>by rw[lcp_nil']at h;lia
 | _::_,[],y,h=>by rw[Vd]at h;lia
 | a::x,b::z,[],h=>by unfold ZS;rfl
 | a::x,b::z,c::y,h=>by
  unfold lcp at h;by_cases e:a=b
  ·subst e;rw[if_pos rfl]at h;by_cases d:a=c
   ·subst d;rw[if_pos rfl]at h;unfold ZS;rw[if_pos rfl,if_pos rfl];exact Kn x z y #[2]
   ·unfold ZS;show#[oT,d,d]
  ·show#[pC,e];lia
theorem ZpK{x z y:#[hi]}(h:lcp z y<lcp x z):lcp x y=lcp z y:=by have:=Pc x y z;rw[VQ y z]at this;lia
theorem Zr9{x z y:#[hi]}(h:lcp x z=lcp y z):lcp x z<=lcp x y:=by have:=Pc x y z;lia
theorem Km{x z y:#[hi]}{a b:Int}(h:lcp y z<lcp x z)(hz:ZS z y<=0):Btr x a y b/\lcp x y=lcp y z:=by
 rw[VQ y z]at h ⊢;refine⟨.inl ?_,ZpK h⟩;rw[Kn x z y h];rcases Int.lt_or_eq_of_le hz with g|g
 ·exact g
 ·have e:=KZ _ _ g;subst e;rw[Lj]at h;have:=(Wg x z).2;lia
noncomputable abbrev Com:=Option (Int×Int)
def TY(hd:Hd)(z:#[hi])(M:#[F])(c:Com):Prop:=Win hd M (c.map #[iw])/\∀p,c=U p->∃x,hd p.1=U x/\p.2=#[fB,x,z]
theorem ZnY{hd c:Hd}{N M:#[F]}{n:Int}{z:#[hi]}{s:StL}(T:Tk hd c N n z)(hM:Sub N M)(h2:#[i5])(hn:n∈M)(ok:Z0 hd s N) :
  (Win c #[jw] af/\#[m8])\/X3 λt b y=>Win c #[jw] (U b)/\c b=U y/\b∈N/\ZZ s (ZU M)=U (U (t,b,#[fB,y,z])):=by
 have r:=hM.rise T.up;have nd:=Sv r;have i:=OC r (TZ hn);have j:=(ok.sub hM).at_side h2 n;have l:#[qb,Y8]:=λb d=>(OB M n).mem_iff.mp (QC _ d);have p:#[qb,Y9]:=λb d=>(OB M n).mem_iff.mp (QS _ d);have q:Win hd #[cc] (U n):=by obtain⟨_,x,f,hw⟩:=T.win;exact⟨TZ hn,x,f,λb d y a=>hw b (hM.mem (p b d)) y a⟩
 have g:∀m∈Y8 M n,c m=hd m:=λm u=>T.oth m λe=>i (e ▸ u);have v:#[jw].Nodup:=by unfold Y8;split;exact Sv (Sw r);exact Sv (Sx r)
 obtain⟨w,hw⟩:=Win.ex hd #[jw] v;cases w with
 | none=>exact .inl ⟨hw.congr g,j.2 (.inr hw)⟩
 | some b =>
  obtain⟨y,a⟩:∃y,hd b=U y:=by obtain⟨_,y,a,_⟩:=hw;exact⟨y,a⟩
  obtain⟨t,h,e,o⟩:=j.1 n b z y q hw T.key a;have k:=l b hw.1;have A:b≠n:=λz=>i (z ▸ hw.1);have B:Btr z n y b:=by obtain⟨_,x,f,C⟩:=T.win;show#[vv,T.key,f];exact(C b (hM.mem k) y a).resolve_left A
  have D:h=b:=by
   rcases o with⟨_,e⟩|⟨e,_⟩
   ·exact e
   ·exact(B.asym e).elim
  subst D;exact .inr ⟨t,h,y,hw.congr g,by rw[g h hw.1];exact a,hM.mem k,by rw[VQ y z];exact e⟩
theorem Kl(ns:#[F]):(XO ns).length=(ns.length+1) / 2:=by unfold XO mid;rw[Qv];lia
theorem Kk(ns:#[F]):(WI ns).length=ns.length / 2:=by unfold WI mid;rw[QT];lia
noncomputable def WE:Nat->List Int->Int->List #[qs]
 | 0,_,_=>[]
 | f+1,ns,n=>if ns.length<=1 then [] else if n∈XO ns then WI ns::WE f (XO ns) n else XO ns::WE f (WI ns) n
noncomputable def XN(ns:#[F])(n:Int):List Int:=if n∈XO ns then XO ns else WI ns
noncomputable def Wv(ns:#[F])(n:Int):List Int:=if n∈XO ns then WI ns else XO ns
theorem Sk{ns:#[F]}{n:Int}(h:#[uc]):(XN ns n).length<ns.length:=by
 unfold XN;split
 ·rw[Kl];lia
 ·rw[Kk];lia
theorem Znt{ns:#[F]}{n:Int}(h:#[uc]):0<(XN ns n).length:=by
 unfold XN;split
 ·rw[Kl];lia
 ·rw[Kk];lia
theorem Oy{f:Nat}{ns:#[F]}{n:Int}(h:#[uc]):WE (f+1) ns n=Wv ns n::WE f (XN ns n) n:=by
 conv=>lhs;unfold WE
 rw[if_neg #[2]];unfold Wv XN;split<;>rfl
theorem VG{f:Nat}{ns:#[F]}{n:Int}(h:ns.length<=1):WE f ns n=[]:=by
 cases f with
 | zero=>rfl
 | succ f=>unfold WE;rw[if_pos h]
theorem Kj:∀ (f g:Nat) (ns:List Int) (n:Int),ns.length<=f+1->ns.length<=g+1->WE f ns n=WE g ns n
 | 0,g,ns,n,h,_=>by rw[VG #[2],VG #[2]]
 | f+1,0,ns,n,_,h=>by rw[VG #[2],VG #[2]]
 | f+1,g+1,ns,n,h1,h2=>by
  by_cases h:1<ns.length
  ·have:=Sk (n:=n) h;rw[Oy h,Oy h,Kj f g _ n #[2] #[2]]
  ·rw[VG #[2],VG #[2]]
noncomputable def way(ns:#[F])(n:Int):List #[qs]:=WE ns.length ns n
theorem Ki{ns:#[F]}{n:Int}(h:#[uc]):way ns n=Wv ns n::way (XN ns n) n:=by
 unfold way;cases e:ns.length with
 | zero=>lia
 | succ f=>have:=Sk (n:=n) h;rw[Oy h,Kj f (XN ns n).length _ n #[2] #[2]]
theorem Ox{ns:#[F]}{n:Int}(h:ns.length<=1):way ns n=[]:=VG h
theorem Kh(n:Int):∀ns:List Int,inV #[sF] #[U]=decide (n∈ns)
 | []=>rfl
 | m::r=>by
  have ih:=Kh n r;unfold inV at ih ⊢;rw[Qn,QaL,ih];by_cases h:m=n
  ·subst h;simp[eqV]
  ·have:(m == n)=false:=by simpa using h
   simp[eqV,this,List.mem_cons,Ne.symm h]
theorem Kg:∀ns:List Int,#[U].all Xo=true
 | []=>rfl
 | _::r=>by rw[Qn,List.all_cons,Kg r];rfl
def Rd(H:Hp):List ae->List #[qs]->Prop
 | [],[]=>True
 | l::a,d::ds=>H l=U (.lst (d.map V.int))/\Rd H a ds
 | _,_=>False
theorem Rd.len{H:Hp}:∀ {a:List ae} {ds:List (List Int)},Rd H a ds->a.length=ds.length
 | [],[],_=>rfl
 | [],_::_,h=>h.elim
 | _::_,[],h=>h.elim
 | _::a,_::ds,h=>by rw[QA,QA,Rd.len h.2]
theorem Rd.mono{H b:Hp}:∀ {a:List ae} {ds:List (List Int)},(∀l∈a,∀o,H l=U o->b l=U o)->Rd H a ds->Rd b a ds
 | [],[],_,_=>trivial
 | [],_::_,_,h=>h.elim
 | _::_,[],_,h=>h.elim
 | l::a,_::ds,k,h=>⟨k l #[4] _ h.1,Rd.mono (λx hx=>k x (Qs _ hx)) h.2⟩
theorem Rd.app{H:Hp}:∀ {a:List ae} {ds:List (List Int)} {b:List ae} {c:List (List Int)},Rd H a ds->Rd H b c->Rd H (a++b) (ds++c)
 | [],[],_,_,_,h=>h
 | [],_::_,_,_,h,_=>h.elim
 | _::_,[],_,_,h,_=>h.elim
 | _::a,_::ds,_,_,h,g=>⟨h.1,Rd.app h.2 g⟩
theorem Rd.rev{H:Hp}:∀ {a:List ae} {ds:List (List Int)},Rd H a ds->Rd H a.reverse ds.reverse
 | [],[],h=>h
 | [],_::_,h=>h.elim
 | _::_,[],h=>h.elim
 | l::a,d::ds,h=>by rw[QaD,QaD];exact Rd.app (Rd.rev h.2) ⟨h.1,trivial⟩
def Ow:Sp:=λvs H Q _=>X3 λ(a:ae) (ns:List Int) (n:Int)=>vs=#[o3,a,n]/\H a=U (.lst #[U])/\1<=ns.length/\ns.length<=200 /\
 ∀ (r:ae) (b:List ae) (c:Hp),H r=af->c r=U (.lst (b.map V.ref))->r ∉ b->(∀l∈b,H l=af)->Rd c b (way ns n).reverse->ZG H c->Q #[kz] c
def Dn(H:Hp)(a o:ae)(ns:#[F])(n:Int)(b:ae)(c:#[F])(d:#[j7])(e:Hp):Prop :=
 ∃done:List (List Int),e b=U (.lst (c.map V.int))/\b≠o/\1<=c.length/\c.length<=200/\way ns n=done++way c n/\Rd e d done/\e o=U (.lst (d.map V.ref))/\ZG H e/\(∀l∈d,H l=af)/\o ∉ d/\d.length+c.length<=200
theorem Dn.step{H:Hp}{a o:ae}{ns:#[F]}{n:Int}{b:ae}{d:#[F]}{h:#[j7]}{i f:Hp}(D:Dn H a o ns n b d h i)(v:H o=af)(h1:1<d.length)(s:ZG i f){x y:ae}(hx:f x=U #[vC,XN,d])(hy:f y=U #[vC,Wv,d])(nx:i x=af)(j:i y=af) :
  Dn H a o ns n x (XN d n) (h++[y]) #[lr]:=by
 obtain⟨done,d1,d2,d3,d4,w,z,m,p,A,q,DP⟩:=D;have r:x≠o:=(Ze m nx).symm;have t:y≠o:=(Ze m j).symm;have sl:=Sk (n:=n) h1;have k:∀l,l≠o->∀u,f l=U u->#[lr] l=U u:=λl hl u g=>by rw[Zc hl];exact g
 refine⟨done++[Wv d n],k x r _ hx,r,Znt h1,by lia,by rw[w,Ki h1,List.append_assoc];rfl,?_,?_,λc u g=>?_,?_,?_,?_⟩
 ·refine Rd.app (Rd.mono (λl hl u g=>k l (λe=>q (e ▸ hl)) u (s _ _ g)) z) ⟨k y t _ hy,trivial⟩
 ·rw[Zd,Qg];rfl
 ·rw[Zc (Ze g v)];exact s _ _ (p _ _ g)
 ·intro l hl;rcases Ql.mp hl with hl|hl
  ·exact A l hl
  ·rw[Qh.mp hl];exact p.free j
 ·intro B;rcases Ql.mp B with hl|hl
  ·exact q hl
  ·exact t (Qh.mp hl).symm
 ·rw[Qe,Qy];lia
theorem ZrM(T:#[e])(eE:#[bC]):Df P w K mg base 2 "way_up" #[bV] Ow:=by
 show#[pQ,T.t_way_up.df,VW];obtain⟨a,p,n,rfl,L,h1,M,q⟩:=h;refine⟨_,#[Zf,#[oF,2,VW.nd],#[Zf,#[pk,VW.nd,0],#[Zf,(@RX _ _ _ _ _ _ bC.never #[oH,#[cE]] #[Zf,#[Yn,#[fi,eE,hr,3],#[gT,K,2,#[dn,4,VW.nd,5]]],#[Zh,#[ZT,#[Zo,(inQ K),‹1›,‹4›,#[O]],#[Zf,#[eQ,2,5],#[Zh,#[pk,VW.nd,4]]],#[Zf,#[eQ,2,4],#[Zh,#[pk,VW.nd,5]]]]]]),#[Zf,#[ZL,(@ZrK _ _ _ _ _ _ _ _ _ QF PySem.F.slot_list_reverse PySem.F.type_list_reverse ZkL ‹2› #[5] #[5])],#[bj]]]]],#[18],λo g=>?_⟩;have N:a≠o:=Ze L g;refine⟨_,rfl,λm O R=>X5 λ(b:ae) (d:List Int) (i:List ae) (S W:Option V)=>O=[U #[cd],U #[sF],U (.ref o),U #[sE],S,W]/\Dn H a o p n b d i R/\m=d.length,⟨_,a,p,[],af,af,rfl,⟨[],?_,N,h1,M,rfl,trivial,Zd,Zi g _,#[d7,l,j],(λB=>by cases B),by simpa using M⟩,rfl⟩,?_⟩
 ·rw[Zc N];exact L
 rintro m O R ⟨b,d,i,S,W,rfl,D,rfl⟩;obtain⟨done,X,d2,d3,d4,d5,d6,C,d8,d9,Y,DP⟩:=id D;have hlc:#[g2,d.map]=(d.length:Int):=by rw[Qa]
 refine⟨_,rfl,b,_,rfl,.inl (SqL.of X),_,_,rfl,rfl,_,rfl,?_⟩;show#[eP,c1]
 ·have DQ:(1:Int)<#[g2,d.map]:=of_decide_eq_true c1;have F:1<d.length:=by lia
  refine#[tV];refine⟨_,rfl,b,d,rfl,SqL.of X,d4,λt x y H3 ht Z hy nxy et ex ey G ntx nty=>?_⟩;show#[gj,t,et];have r:=G _ _ C;have bi:(i.map V.ref).length<aq:=by rw[Qa];exact ZA #[2]
  have sl:=Sk (n:=n) F;refine⟨_,rfl,_,rfl,x,_,rfl,.inl (SqL.of ex),rfl,Kg _,_,rfl,?_⟩;show if inV (V.int n) ((XO d).map V.int)=true then _ else _
  rw[Kh];show#[eP,c2]
  ·have k:n∈XO d:=of_decide_eq_true c2;have I:XN d n=XO d:=by unfold XN;rw[if_pos k]
   have J:Wv d n=WI d:=by unfold Wv;rw[if_pos k]
   refine⟨_,rfl,.inl #[dJ,r],_,rfl,o,_,_,rfl,rfl,r,bi,_,rfl,_,?_,x,XN d n,i++[y],_,_,rfl,D.step g F G #[dp,I,ex] #[dp,J,ey] Z hy,rfl⟩;exact sl
  ·have k:¬ n∈XO d:=λz=>c2 #[a1];have I:XN d n=WI d:=by unfold XN;rw[if_neg k]
   have J:Wv d n=XO d:=by unfold Wv;rw[if_neg k]
   refine⟨_,rfl,.inl #[dJ,r],_,rfl,o,_,_,rfl,rfl,r,bi,_,rfl,_,?_,y,XN d n,i++[x],_,_,rfl,D.step g F G #[dp,I,ey] #[dp,J,ex] hy Z,rfl⟩;exact sl
 ·have DQ:¬ (1:Int)<#[g2,d.map]:=λz=>c1 #[a1];have e:way p n=done:=by rw[d5,Ox #[2],Qad]
  refine⟨_,rfl,.inl #[dJ,C],o,_,rfl,rfl,C,_,rfl,q o i.reverse _ g (by rw[Zd,List.map_reverse]) (λB=>Y (List.mem_reverse.mp B)) (λl j=>d9 l #[uF]) ?_ λc u v=>?_⟩
  ·rw[e];refine Rd.mono (λl j u v=>?_) d6.rev;rw[Zc (λz=>by subst z;exact Y #[uF])];exact v
  ·rw[Zc (Ze v g)];exact d8 _ _ v
theorem Kf:∀ (k:Nat) (M:List Int) (n:Int),M.length<=2 ^ k->(way M n).reverse=#[mP].map (λX=>Y8 X n)
 | 0,M,n,h=>by rw[Ox #[dq,h]];rfl
 | k+1,M,n,h=>by
  unfold Z2;by_cases h2:2<=M.length
  ·rw[if_pos h2,Ki #[2],QaD,Qg];have hs:#[cc].length<=2 ^ k:=by
    rw[QaW]at h;unfold Y9;split
    ·unfold lo mid;rw[Qv];lia
    ·unfold up mid;rw[QT];lia
   have e:=Kf k #[cc] n hs;rw[<- e];rfl
  ·rw[if_neg h2,Ox #[2]];rfl
theorem Zoh{M:#[F]}(h:#[i5])(n:Int):Y8 M n≠[]:=by
 unfold Y8;split
 ·exact Xv (VL h).2
 ·exact Xv (Wd h).2
theorem Zlb{M:#[F]}(r:Yx M)(h:#[i5])(n:Int):ZU M=(if #[jw].headD 0<#[cc].headD 0 then (Y8 M n).headD 0 else (Y9 M n).headD 0,if #[jw].getLastD 0>#[cc].getLastD 0 then (Y8 M n).getLastD 0 else (Y9 M n).getLastD 0):=by have a:=O1 h;have b:=O2 h;have l1:=Vc (Xv (Wd h).2);have l2:=Vb (Xv (Wd h).2);have e:=Vc (Xv (VL h).2);have f:=Vb (Xv (VL h).2);have c:=ZN r l1 e;have d:=ZN r l2 f;unfold Y9 Y8;split<;>(refine Prod.ext ?_ ?_<;>dsimp only<;>first|lia|(split<;>lia))
theorem Rd.get{H:Hp}:∀ {c:List ae} {ds:List (List Int)},Rd H c ds->∀ {i:Nat} {l:ae} {d:List Int},c[i]? = U l->ds[i]? = U d->H l=U (.lst (d.map V.int))
 | [],[],_,i,l,d,h,_=>by simp at h
 | l::c,d::ds,⟨h1,h2⟩,0,a,b,e,f=>by simp at e f;rw[<- e,<- f];exact h1
 | l::c,d::ds,⟨h1,h2⟩,i+1,a,b,e,f=>Rd.get h2 #[dq,e] #[dq,f]
def Ke:Sp:=λvs H Q _=>X3 λ(a:ae) (N:List Int) (n:Int)=>vs=#[o3,a,n]/\H a=U (.lst #[l9])/\n∈N/\N.length<=60/\Yx N /\
 ∀ (r:ae) (c:List ae) (b:Hp),H r=af->b r=U (.lst (c.map V.ref))->c.length=#[qp].length->(∀ (i:Nat) (t:ae) (X:List Int),c[i]? = U t->#[qp][i]? = U X->b t=U #[fs,X])->ZG H b->Q #[kz] b
theorem ZkA(T:#[e])(iJ:#[tw]):Df P w K mg base 3 "matches_up" #[bV] Ke:=by
 show#[pQ,T.t_matches_up.df,VU];obtain⟨a,N,n,rfl,ha,Z,nC,fu,q⟩:=h;refine⟨_,#[Zf,#[oF,2,VU.nd],#[Zf,#[pk,VU.nd,1],#[Zf,#[Zz,4,VU.nd,#[3],‹1›],#[Zf,#[Xh,bC.never,#[iL,K,#[pB,iJ,hr,0,1]],#[pq,5,VU.nd],#[Zf,#[Zz,3,VU.nd,#[3],#[Zq,(Ny rfl),#[5],T.b.n_min,boot_min,#[Zg,‹3›,#[ZJ,#[ol],‹5›,#[Zk]]]]],#[Zf,#[Zz,4,VU.nd,#[3],#[Zq,(Nz rfl),#[5],T.b.n_max,boot_max,#[Zg,‹4›,#[ZJ,#[ol],‹5›,#[hG]]]]],#[Zh,#[ZL,#[YF,QF,QG,QH,Xz,‹2›,#[Zg,#[Yi,#[d6,3,4]]]]]]]]],#[bj]]]]],?_⟩;have gQ:=QaX Z;have tG:N.length<=2 ^ 8:=Qi nC #[6];obtain⟨wA,uO,y8⟩:=Oz 8 N n Z tG;show#[vk,r,G];show#[vy,I,G];show#[fQ,g,H,r,#[65]];generalize upd H r (.lst [])=H1 at I g ⊢;refine⟨_,rfl,_,rfl,_,rfl,_,rfl,a,N,n,rfl,I _ _ ha,gQ,by lia,λwy v H2 y9 uP Ff eB J L=>?_⟩;rw[Kf 8 N n tG]at J;have lZ:=J.len;rw[Qa]at lZ;have DR:=I.trans L;refine⟨wy,rfl,#[gO,uP],?_⟩;refine RV (K:=K) (a:=wy) (xs:=v.map V.ref) (λi x d=>X2 λ(M:Option V) (c:List ae)=>x=[U #[cd],U #[sF],U #[kz],U (.int (#[jv].headD 0)),U (.int (#[jv].getLastD 0)),M]/\i<=v.length/\c.length=i/\d r=U (.lst (c.map V.ref))/\(∀ (j:Nat) (t:ae) (X:List Int),c[j]? = U t->#[qp][j]? = U X->d t=U #[fs,X])/\(∀t∈c,t≠r/\∃xs,d t=U #[kk])/\#[d1,H2,r,d]) ⟨_,[],rfl,Qm _,rfl,L _ _ g,(λj t X h=>by simp at h),#[d7,t,h],λb o h _=>h⟩ (λi x d _ hq=>by obtain⟨_,_,_,_,_,_,_,_,k3⟩:=hq;exact SqL.of (k3 _ _ uP (λz=>by rw[z,g]at y9;cases y9))) ?_ ?_
 ·rintro i y x d k ⟨M,c,rfl,hi,O,e,R,tH,k3⟩;rw[Qo]at k;cases m:v[i]? with
  | none=>rw[m]at k;cases k
  | some l =>
  show#[dr,m,k,cb,i,v.length];cases p:(Z2 8 N n)[i]? with
  | none=>rw[QaI]at p;lia
  | some X =>
  obtain⟨x1,x2,x3,x4⟩:=wA i X p;have S:H2 l=U #[vC,Y8,X]:=J.get m (by rw[Qo,p];rfl);have yK:l≠r:=λz=>by rw[z]at S;rw[L _ _ g]at S;have:=eB l (Qu m);show#[gi,g]
  have fY:=k3 _ _ S yK;have eO:=Zoh x2 n;have B:=Zlb (x1.rise fu) x2 n;rw[x4]at B;have e3:low n #[qp] (i+1)=X:=by show (Z2 8 N n).getD i []=X;rw[QM,p];rfl
  refine⟨_,rfl,_,rfl,l,_,_,_,rfl,rfl,SqL.of fY,KN eO,_,_,rfl,_,rfl,_,rfl,_,rfl,l,_,_,_,rfl,rfl,SqL.of fY,KO eO,_,_,rfl,_,rfl,.inl #[dJ,e],_,rfl,_,rfl,#[61],λt C=>?_⟩;have D:r≠t:=Ze e C;refine⟨r,_,_,rfl,rfl,by rw[Zc D];exact e,#[ey,Qa,ZA,#[2]],U #[cT],c++[t],?_,cb,by rw[Qe,Qy];lia,by rw[Zd,Qg];rfl,λj u Y hu W=>?_,λu hu=>?_,λb o F nb=>?_⟩
  ·rw[e3];have h1:=congrArg Prod.fst B;have h2:=congrArg Prod.snd B;simp only at h1 h2;rw[show X.headD 0=(ZU X).1 from rfl,show X.getLastD 0=(ZU X).2 from rfl,h1,h2];rfl
  ·have tI:∀ (u:ae) (xs:List V),d u=U #[kk]->(upd (upd d t (.tup [.int (if (Y8 X n).headD 0<#[jv].headD 0 then (Y8 X n).headD 0 else (low n #[qp] i).headD 0),.int (if (Y8 X n).getLastD 0>#[jv].getLastD 0 then (Y8 X n).getLastD 0 else (low n #[qp] i).getLastD 0)])) r (.lst (c.map V.ref++[.ref t]))) u=U #[kk]:=λu xs hu=>by rw[Zc (λz=>by rw[z,e]at hu;cases hu),Zc (Ze hu C)];exact hu
   by_cases hj:j<c.length
   ·rw[QO hj]at hu;exact tI u _ (R j u Y hu W)
   ·have ej:j=c.length:=by have:=(Qd.mp hu).1;rw[Qe,Qy]at this;lia
    subst ej;rw[Q0 #[ih],Nat.sub_self]at hu;cases hu;show#[dV,O,p,W];rw[Zc D.symm,Zd,B]
  ·rcases Ql.mp hu with hu|hu
   ·obtain⟨g1,xs,g2⟩:=tH u hu;exact⟨g1,xs,by rw[Zc g1,Zc (Ze g2 C)];exact g2⟩
   ·rw[Qh.mp hu];exact⟨D.symm,_,by rw[Zc D.symm];exact Zd⟩
  ·have:=k3 b o F nb;rw[Zc nb,Zc (Ze this C)];exact this
 ·rintro x d ⟨M,c,rfl,_,O,e,R,_,k3⟩;rw[Qa]at O;exact⟨_,rfl,q r c d G e #[2] R (λb o F=>k3 b o (DR b o F) (Ze F G))⟩
def CV(H:Hp)(v:V)(c:Com):Prop:=(c=af/\v=.non)\/X2 λ(t:ae) (p:Int×Int)=>c=U p/\v=.ref t/\H t=U #[gE,p.1,p.2]
theorem CV.keep{H a:Hp}{v:V}{c:Com}(h:CV H v c)(k:#[e1,t,xs,a]):CV a v c:=by
 rcases h with h|⟨t,p,b,d,e⟩
 ·exact .inl h
 ·exact .inr ⟨t,p,b,d,k _ _ e⟩
theorem Zpa{s:StL}{k:#[c4]}{a:#[99]}(h:ZZ s k=U a):s.any #[i6]=true:=List.any_eq_true.mpr ⟨_,KS h,decide_eq_true rfl⟩
theorem Ov{s:StL}{k:#[c4]}{a v:#[99]}(h:ZZ s k=U a):#[kg].length=s.length:=by unfold Yg;rw[if_pos (Zpa h),Qa]
def AgS(hd:Hd)(z:#[hi])(A B:#[F])(k q:Int):Prop:=∀C k0 a,Ag hd z C k0 a->Ag hd z (C++[(A,B)]) (k0+k) (a+q)
def Kd(e f:ae):Sp:=λvs H Q _=>X15 λ(m rd sd:ae) (L:List Zx) (s:StL) (nb li lo:Int) (g:V) (h:ae) (v:V) (c:Com) (z:List Nat) (M:List Int) (n:Int)=>vs=[.ref m,.ref h,v]/\ZM e f H m rd sd L s nb li lo g/\H h=U #[fs,M]/\CV H v c/\TY #[cQ] z #[cc] c /\
 ((Win #[cQ] #[jw] af/\#[m8])\/X3 λt b y=>Win #[cQ] #[jw] (U b)/\hdM L b=U y/\ZZ s (ZU M)=U (U (t,b,#[fB,y,z]))) /\
 (∀b∈M,∀y,hdM L b=U y->ZS z y<=0)/\Yx M/\(∀b∈M,b∈Zy L)/\2<=M.length/\n∈M /\
 ∀ (i:V) (l:Com) (d:StL) (k q:Int) (a:Hp),CV a i l->TY #[cQ] z M l->WF #[cQ] d #[cc] #[jw] (ZU M)->(∀j,j≠ZU M->ZZ d j=ZZ s j)->AgS #[cQ] z #[cc] #[jw] k q ->
  ZM e f a m rd sd L d nb (li+k) (lo+q) g->#[d2,H,sd,a]->Q i a
theorem Kc{L:#[bv]}(nd:#[rf]){b:Int}(hb:b∈Zy L){y:#[hi]}(hy:hdM L b=U y):∃e∈L,e.n=b/\∃x,e.ss[e.g]? = U x/\y=cds x:=by
 obtain⟨e,c,rfl⟩:=T6 hb;rw[VJ nd c]at hy;cases a:e.ss[e.g]? with
 | none=>rw[a]at hy;cases hy
 | some x=>rw[a]at hy;cases hy;exact⟨e,c,rfl,x,a,rfl⟩
theorem ZoG(T:#[e])(b9:#[u2]):Mf P w K mg base 4 aj "play_again" #[bB] (Kd au aj):=by
 show#[pQ,T.t_Merge_play_again.mf,Uj];obtain⟨m,rd,I,L,s,nb,li,lo',aE,tm,v,c,z,M,n,rfl,Mg,rb,tJ,⟨wS,za⟩,bX,fR,fu,lX,h2,hn,q⟩:=h;refine⟨_,#[Zf,#[Zz,3,Uj.nd,#[3],(@Zrv _ _ _ _ _ _ _ _ hr #[w] ‹1› #[5] #[5] #[5])],#[Zf,#[ZT,#[ge,3],#[bj],#[ZB]],#[Zf,#[ZT,#[ge,2],#[Zf,#[Yn,#[ZR],#[g8,1,hr]],#[ea,3]],#[ZB]],#[Zf,#[ZT,#[Zo,YH,#[bZ],#[hu],#[cZ]],#[Zf,#[Yn,#[Yh,b9,T.cl_Merge,hr,‹0›,#[Zg,#[bZ],#[hu],#[bZ]]],#[eB,4,Uj.nd,5,6]],#[Zf,#[Yn,#[Yi,#[d6,5,6]],#[g8,1,hr]],#[Zh,#[Zn,#[Yi,#[Zg,‹4›,#[bZ]]]]]]],#[ZB]],#[Zf,#[lJ],#[Zf,#[ZT,#[Zo,WM,#[bZ],#[hu],#[cZ]],#[bj],#[ZB]],#[Zf,#[Yn,‹2›,#[g8,1,hr]],#[ea,3]]]]]]]],?_⟩;show#[dz,dx,N,Mg.ob];have oE:#[gG,H]:=rb;have Z:=OB M n;have dg:=Y6.t (k:=#[68]) Mg.stays oE;rw[KU]at dg;have sA:#[qb,Y9]:=λb r=>Z.mem_iff.mp (QS _ r);have sB:#[qb,Y8]:=λb r=>Z.mem_iff.mp (QC _ r);have gK:=OC fu (TZ hn);have DT:∀a b,a∈Y9 M n->b∈Y8 M n->a≠b:=λa b ha r e=>by
  subst e;unfold Y9 Y8 at *
  split at ha
  ·rename_i hl;rw[if_pos hl]at r;have:=ZN fu ha r;lia
  ·rename_i hl;rw[if_neg hl]at r;have:=ZN fu r ha;lia
 refine⟨_,rfl,m,aj,dx,_,_,rfl,N,T.cl_Merge,T.na_Merge_stays,T5 ..,I,rfl,.inr ⟨_,.inl Mg.stays⟩,_,rfl,_,dg,?_⟩;rcases bX with⟨u,W⟩|⟨t,b,y,u,D,W⟩
 ·have ev:#[uT].getD .non=.non:=by rcases W with e|e<;>rw[e]<;>rfl
  rw[ev];refine⟨_,rfl,rfl,_,rfl,YS rfl ⟨_,rfl,q v c s 0 0 H tJ ⟨(Win.left wS u).perm Z,za⟩ ⟨(λa b x y _ wb _ _=>nomatch u.one wb),λ_=>W⟩ #[i0] (λC k0 q0 g=>by rw[Qaz,Qaz];exact .no g (.inr u)) (Mg.cast #[2] #[2]) #[rP]⟩⟩
 have fX:=Mg.ats _ (KS W) _ rfl;have e1:#[uT].getD .non=.ref t:=by rw[W];rfl
 rw[e1];have wB:=Mg.sfew;have fv:(kvS s).length<aq:=by unfold kvS;show#[od]
 show#[aO];have qY:=sB b u.1;rcases tJ with⟨rfl,rfl⟩|⟨F,p,rfl,rfl,J⟩
 ·refine#[cu];refine⟨_,rfl,m,aj,dx,_,_,rfl,N,T.cl_Merge,T.na_Merge_stays,T5 ..,_,rfl,I,_,rfl,Xm.t (k:=#[68]) Mg.stays oE fv,?_⟩;rw[show V.non=stV af from rfl,Sy];have fm:(Yg s (ZU M) af).length<=200:=by rw[Ov W];exact wB
  have M2:=Mg.put (k:=ZU M) (v:=af) #[d7,t,X] fm;have B:Win #[cQ] #[cc] af:=wS;refine⟨_,rfl,q #[mY] (U (b,#[fB,y,z])) _ 0 0 _ #[pd,t,?_] ⟨(Win.right B u).perm Z,λp hp=>?_⟩ ⟨(λa b x y wa _ _ _=>nomatch B.one wa),λ_=>.inr ?_⟩ (λj hj=>?_) (λC k0 q0 g=>?_) (M2.cast #[2] #[2]) (λb o r _ n2=>by rw[Zc n2];exact r)⟩
  ·show#[pg,Mg.stays,fX]
  ·cases hp;exact⟨y,D,rfl⟩
  ·rw[WH,if_pos rfl]
  ·rw[WH,if_neg hj]
  ·rw[Qaz,Qaz];exact .no g (.inl B)
 show#[dz,a,fa,p];obtain⟨x,G,zb⟩:=za _ rfl;simp only at G zb;subst zb;have B:Win #[cQ] #[cc] (U a):=wS;have zc:=sA a B.1;have mr:=DT a b B.1 u.1;obtain⟨O,tz,rfl,i,DU,rfl⟩:=Kc Mg.nd (lX a zc) G;obtain⟨eb,tD,rfl,l,DW,rfl⟩:=Kc Mg.nd (lX b qY) D;show#[gf,c0,O.n,#[41],0,O.n];show#[gf,c1,O.n,#[41],1,#[41]];show#[gf,d0,eb.n,#[bg],0,eb.n];show#[gf,d1,eb.n,#[bg],1,#[bg]];show#[aO];refine⟨_,rfl,F,_,_,_,rfl,rfl,SqT.of J,c1,_,rfl,t,_,_,_,rfl,rfl,SqT.of fX,d1,rfl,_,rfl,YW #[cO] #[cO]⟩
 ·have ef:lcp (cds i) z=lcp (cds l) z:=by have:=#[aF];injection this with this;lia
  have vM:=Zr9 ef;refine⟨_,rfl,m,dx,_,rfl,N,KL ..,_,rfl,F,_,_,_,rfl,rfl,SqT.of J,c0,_,rfl,t,_,_,_,rfl,rfl,SqT.of fX,d0,_,rfl,F,_,_,_,rfl,rfl,SqT.of J,c1,m,rd,I,L,s,nb,li,lo',aE,O,eb,i,l,lcp (cds i) z,rfl,Mg,tz,tD,DU,DW,vM,λt5 wi R H5 hw wo qR M5 b5=>?_⟩;show#[fr,t5,qR];have qS:2<=aq:=by decide
  refine⟨_,rfl,_,rfl,qS,λS wq=>?_⟩;have s6:=Zi wq #[gE,R,#[60]];have my:(upd H5 S #[gE,R,#[60]]) S=U #[gE,R,#[60]]:=Zd;have M6:=M5.same s6;generalize upd H5 S (.tup [.int R,.int ((lcp (cds i) (cds l):Nat):Int)])=H6 at s6 my M6 ⊢;show#[dz,wt,wu,M6.ob];have wC:tm≠m:=λz=>by rw[z,N]at rb;cases rb
  have wD:F≠m:=λz=>by rw[z,N]at J;cases J
  have zd:#[gG,H6]:=s6 _ _ (b5 _ _ oE wC);refine⟨_,rfl,m,aj,wt,_,_,rfl,wu,T.cl_Merge,T.na_Merge_stays,T5 ..,_,rfl,I,_,rfl,Xm.t (k:=#[68]) M6.stays zd fv,?_⟩;rw[show V.ref S=stV (U (S,R,#[60])) from rfl,Sy];have fm:#[q5].length<=200:=by rw[Ov W];exact wB
  have M7:=M6.put (k:=ZU M) (v:=U (S,R,#[60])) (λt X=>by injection X with X;rw[<- X];exact my) fm;have b7:∀b o,H b=U o->b≠m->b≠I->(upd H6 I (.dT (kvS #[q5]))) b=U o:=λb o r n1 n2=>by rw[Zc n2];exact s6 _ _ (b5 b o r n1)
  have ze:F≠I:=λz=>by rw[z,Mg.stays]at J;cases J
  generalize upd H6 I (.dT (kvS (Yg s (ZU M) (U (S,R,((lcp (cds i) (cds l):Nat):Int))))))=H7 at M7 b7 ⊢;refine⟨_,rfl,_,rfl,F,_,_,_,rfl,rfl,SqT.of (b7 _ _ J wD ze),c1,qS,λt8 zf=>?_⟩;have wn:Win #[cQ] M (U wi):=by
   rcases hw with⟨Y,rfl,_⟩|⟨Y,rfl,_⟩
   ·exact(Win.both B u G D Y).perm Z
   ·exact(Win.both' B u G D ((Btr.total mr).resolve_left Y)).perm Z
  refine q (.ref t8) (U (wi,#[41])) _ 1 ((lcp (cds i) (cds l):Nat)-(lcp (cds i) z:Nat)+1) _ #[pd,t8,Zd] ⟨wn,λp hp=>?_⟩ ⟨λa b x' y' wa wb nE nF=>?_,λgK=>?_⟩ #[qW] (λC k0 q0 g=>.eq g B u G D ef) ((M7.same (Zi zf _)).cast rfl rfl) (λb o r n1 n2=>Zi zf _ _ _ (b7 b o r n1 n2))
  ·cases hp;rcases hw with⟨Y,rfl,_⟩|⟨Y,rfl,_⟩
   ·exact⟨_,G,rfl⟩
   ·exact⟨_,D,by simp only;rw[ef]⟩
  ·show#[Z];refine⟨S,R,by rw[WH,if_pos rfl],?_⟩;rcases hw with⟨Y,_,rfl⟩|⟨Y,_,rfl⟩
   ·exact .inl ⟨Y,rfl⟩
   ·exact .inr ⟨(Btr.total mr).resolve_left Y,rfl⟩
  ·rcases gK with z|z
   ·show#[f0,B]
   ·show#[f0,u]
 have zg:lcp (cds i) z≠lcp (cds l) z:=λe=>d (decide_eq_true (by rw[e]));show#[eY,N,T.na_Merge_likened,OF,KP];have M2:=Mg.obj (nb':=nb) (li':=li+1) (lo':=lo') (best':=aE) (dx:=dx);have k2:∀b o,H b=U o->b≠m->(upd H m (.ins aj dx (mgF rd nb (li+1) lo' I aE))) b=U o:=λb o r n=>by rw[Zc n];exact r
 have wD:F≠m:=λz=>by rw[z,N]at J;cases J
 have DX:t≠m:=λz=>by rw[z,N]at fX;cases fX
 have wC:tm≠m:=λz=>by rw[z,N]at rb;cases rb
 generalize upd H m (.ins aj dx (mgF rd nb (li+1) lo' I aE))=H2 at M2 k2 ⊢;have rf:=k2 _ _ J wD;have oF:=k2 _ _ fX DX;refine⟨_,rfl,F,_,_,_,rfl,rfl,SqT.of rf,c1,_,rfl,t,_,_,_,rfl,rfl,SqT.of oF,d1,_,_,rfl,rfl,_,rfl,YW (λg=>?_) (λg=>?_)⟩
 ·have DY:lcp (cds l) z<lcp (cds i) z:=by have:#[bg]<#[41]:=of_decide_eq_true g;lia
  obtain⟨bt,el⟩:=Km (a:=O.n) (b:=eb.n) DY (fR _ qY _ D);refine⟨_,rfl,q (.ref F) (U (O.n,#[41])) s 1 0 H2 #[pd,F,rf] ⟨(Win.both B u G D bt).perm Z,λp hp=>by cases hp;exact⟨_,G,rfl⟩⟩ ⟨λa b x' y' wa wb nE nF=>?_,λgK=>?_⟩ #[i0] (λC k0 q0 g=>by rw[Qaz];exact .ne g B u G D zg) (M2.cast rfl #[2]) (λb o r n1 _=>k2 b o r n1)⟩
  ·show#[Z];exact⟨t,_,by rw[el];exact W,.inl ⟨bt,rfl⟩⟩
  ·rcases gK with z|z
   ·show#[f0,B]
   ·show#[f0,u]
 ·have bi:lcp (cds i) z<lcp (cds l) z:=by have:¬ #[bg]<#[41]:=λe=>g (decide_eq_true e);lia
  obtain⟨bt,el⟩:=Km (a:=eb.n) (b:=O.n) bi (fR _ zc _ G);show#[li];have zh:#[gG,H2]:=k2 _ _ oE wC;refine⟨_,rfl,_,rfl,m,aj,iH,_,_,rfl,dA,T.cl_Merge,T.na_Merge_stays,T5 ..,_,rfl,I,_,rfl,Xm.t (k:=#[68]) M2.stays zh fv,?_⟩;rw[show V.ref F=stV (U (F,O.n,#[41])) from rfl,Sy];have fm:(Yg s (ZU M) (U (F,O.n,#[41]))).length<=200:=by rw[Ov W];exact wB
  have M3:=M2.put (k:=ZU M) (v:=U (F,O.n,#[41])) (λt X=>by injection X with X;rw[<- X];exact rf) fm;refine⟨_,rfl,q #[mY] (U (eb.n,#[bg])) _ 1 0 _ #[pd,t,?_] ⟨(Win.both' B u G D bt).perm Z,λp hp=>by cases hp;exact⟨_,D,rfl⟩⟩ ⟨λa b x' y' wa wb nE nF=>?_,λgK=>?_⟩ #[qW] (λC k0 q0 g=>by rw[Qaz];exact .ne g B u G D zg) (M3.cast rfl #[2]) (λb o r n1 n2=>by rw[Zc n2];exact k2 b o r n1)⟩
  ·show#[pg,M2.stays,oF]
  ·show#[Z];exact⟨F,_,by rw[WH,if_pos rfl,VQ (cds i) (cds l),el],.inr ⟨bt,rfl⟩⟩
  ·rcases gK with z|z
   ·show#[f0,B]
   ·show#[f0,u]
noncomputable def Xa(n:Int)(e:Zx):Zx:=if e.n=n then ⟨e.n,e.p,e.k,e.f,e.ss,e.g+1⟩ else e
noncomputable def bump(L:#[bv])(n:Int):List Zx:=L.map (Xa n)
theorem VF(n:Int)(e:Zx):(Xa n e).n=e.n/\(Xa n e).p=e.p/\(Xa n e).k=e.k/\(Xa n e).f=e.f/\(Xa n e).ss=e.ss:=by unfold Xa;split<;>exact#[sL]
theorem Sj{n:Int}{e:Zx}(h:e.n=n):Xa n e=⟨e.n,e.p,e.k,e.f,e.ss,e.g+1⟩:=if_pos h
theorem Ou{n:Int}{e:Zx}(h:¬ e.n=n):Xa n e=e:=if_neg h
theorem U9(L:#[bv])(n:Int):Zy #[mO]=Zy L:=by unfold Zy bump;rw[QB];exact QR λe _=>(VF n e).1
theorem Zpy(L:#[bv])(n:Int):#[mO].map (·.p)=L.map (·.p):=by unfold bump;rw[QB];exact QR λe _=>(VF n e).2.1
theorem ZoW(L:#[bv])(n:Int):kvM #[mO]=kvM L:=by unfold kvM bump;rw[QB];refine QR λe _=>?_;simp only[Function.comp];rw[(VF n e).1,(VF n e).2.1]
theorem Zp4{m rd sd:ae}{L:#[bv]}{n:Int}{b:ae}(h:Fp m rd sd #[mO] b):Fp m rd sd L b:=by
 rcases h with h|h|h|⟨e',a,h⟩
 ·exact .inl h
 ·exact .inr #[uR]
 ·exact .inr (.inr #[uR])
 ·show#[dA,e,c,a];obtain⟨_,d,f,g,_⟩:=VF n e;rw[d,f,g]at h;exact .inr (.inr (.inr ⟨e,c,h⟩))
theorem Fp_bump'{m rd sd:ae}{L:#[bv]}{n:Int}{b:ae}(h:Fp m rd sd L b):Fp m rd sd #[mO] b:=by
 rcases h with h|h|h|⟨e,a,h⟩
 ·exact .inl h
 ·exact .inr #[uR]
 ·exact .inr (.inr #[uR])
 ·obtain⟨_,c,d,f,_⟩:=VF n e;refine .inr (.inr (.inr ⟨Xa n e,Qj a,?_⟩));rw[c,d,f];exact h
theorem Kb{n b:Int}(h:b≠n):∀L:List Zx,hdM #[mO] b=hdM L b
 | []=>rfl
 | e::L=>by
  have ih:=Kb h L;unfold hdM hdL bump at ih ⊢;rw[Qn,Qn,Qn,Qap,Qap];have c:(toL (Xa n e)).1=e.n:=(VF n e).1;rw[c];by_cases a:e.n=b
  ·rw[decide_eq_true a,decide_eq_true (show (toL e).1=b from a),Ou (λz=>h (a.symm.trans z))]
  ·rw[decide_eq_false a,decide_eq_false (show ¬ (toL e).1=b from a)];exact ih
theorem Ka{L:#[bv]}(nd:#[rf]){e:Zx}(he:e∈L):hdM #[lu] e.n=(e.ss[e.g+1]?).map cds:=by have a:Xa e.n e∈bump L e.n:=Qj he;rw[Sj rfl]at a;exact VJ (L:=bump L e.n) #[dp,U9,nd] a
theorem Ot(k f:ae)(g:Int):YZ k f g=#[hF]:=by unfold YZ;rw[Xk,Zw nFK,Xk,Zw nGK,Zw nGF,Xk]
theorem ZhB(k f:ae)(g v:Int):Zv "gone" (.int v) #[hV]=YZ k f v:=by rw[Ot,Ot,Zw nGK,Zw nGF,Wb]
theorem Oq(k f:ae)(g:Int):#[hV].length<1000:=by rw[Ot];show 3<1000;decide
theorem Zmc(k f:ae)(g:Int):#[hV].lookup ("fars" : ak)=U #[73]:=by unfold YZ;rw[Zp,if_neg nGF,Zp,if_pos rfl]
theorem J9{L:#[bv]}(pd:#[uG].Nodup){e e':Zx}(he:e∈L)(a:e'∈L)(h:e.p=e'.p):e=e':=by
 have b:((L.map λx=>(x.p,x)).map #[iw]).Nodup:=by rw[QB];exact pd
 have:=V9 b #[pA,x.p,he] #[pA,x.p,a] h;injection this
theorem ZM.bump{b h:ae}{H:Hp}{m rd sd:ae}{L:#[bv]}{s:StL}{nb li lo:Int}{i:V}(M:#[el,b,h,i]){e:Zx}(he:e∈L)(k:e.g<e.ss.length){dp:ae} :
  ZM b h (upd H e.p (.ins b dp (YZ e.k e.f #[et,e.g]))) m rd sd (My.bump L e.n) s nb li lo i:=by
 show#[fq,l,n];obtain⟨dq,c⟩:=#[mU];obtain⟨o,_,_⟩:=M.ne_p he;obtain⟨d,_,_,p,_,_⟩:=M.ne_sd he;refine⟨⟨l,by rw[Zc o];exact n⟩,by rw[Zc p,ZoW];exact M.rows,by rw[Zc d];exact M.stays,λx a t q=>?_,λe' r=>?_,by rw[U9];exact M.up,by rw[Zpy];exact M.pd,by unfold My.bump;rw[Qa];exact M.few,M.sfew⟩
 ·have:=M.ats x a t q;show#[dX,c]
 ·show#[dA,x,a,r];have R:=M.each x a;have u:∀ {y:Zx},y∈L->y.k≠e.p/\y.f≠e.p:=λ{y} v=>by have j:=M.each y v;exact⟨(λz=>by have:=j.at'.ks;rw[z,c]at this;cases this),(λz=>by have:=j.at'.fs;rw[z,c]at this;cases this)⟩
  obtain⟨k1,k2⟩:=u a;by_cases g:x.n=e.n
  ·have ex:x=e:=by
    have d:((L.map λx=>(x.n,x)).map #[iw]).Nodup:=by rw[QB];exact M.nd
    have:=V9 d #[pA,x.n,a] #[pA,x.n,he] g;injection this
   subst ex;rw[Sj rfl];exact⟨⟨⟨dp,Zd⟩,by show (upd H x.p _) x.k=_;rw[Zc k1];exact R.at'.ks,by show (upd H x.p _) x.f=_;rw[Zc k2];exact R.at'.fs⟩,k,R.len,R.srt,R.str⟩
  ·rw[Ou g];exact R.keep (Zc (λz=>g (by rw[J9 M.pd a he z]))) (Zc k1) (Zc k2)
theorem ZsW{L:#[bv]}{e:Zx}{x:ak}(nd:#[rf])(up:Yx #[jR])(he:e∈L)(hx:e.ss[e.g]? = U x)(srt:#[p0,e.ss])(W:#[t7]):Tk #[cQ] #[a0] #[jR] e.n #[bu]:=by
 refine⟨W,by rw[VJ nd he,hx];rfl,λb d=>Kb d L,λy a=>?_,up⟩;rw[Ka nd he]at a;cases c:e.ss[e.g+1]? with
 | none=>rw[c]at a;cases a
 | some f=>rw[c]at a;cases a;exact K2 srt e.g x f hx c
theorem Op{c:Bool}{b d:VK->Prop}{Q:VK}(P:V->Hp->Prop)(h1:c=true->∀a:VK,(∀v H,P v H->a v H)->b a)(h2:c=false->∀a:VK,(∀v H,P v H->a v H)->d a)(q:∀v H,P v H->Q v H):if c=true then b Q else d Q:=by
 cases c with
 | true=>rw[if_pos rfl];exact h1 rfl Q q
 | false=>rw[if_neg #[6]];exact h2 rfl Q q
noncomputable def U8(n:Int)(C:List #[qs]):List #[hX]:=C.map λX=>(Y9 X n,Y8 X n)
theorem ZjO(rd:ae)(nb li lo:Int)(sd:ae)(a:V):#[17].lookup ("play_again" : ak)=af:=#[n]
def J8(c d:ae):Sp:=λvs H Q _=>X11 λ(m rd sd:ae) (L:List Zx) (s:StL) (nb li lo:Int) (h:V) (e:Zx) (x:ak)=>vs=#[o3,m,e.n]/\ZM c d H m rd sd L s nb li lo h/\e∈L/\e.ss[e.g]? = U x/\Win #[cQ] #[jR] (U e.n)/\Z0 #[cQ] s #[jR] /\
 ∀ (f:StL) (g:Option Int) (k q:Int) (a:Hp),ZM c d a m rd sd #[lu] f nb (li+k) (lo+q) (YV g)->Win #[a0] #[jR] g->Z0 #[a0] f #[jR]->Ag #[a0] #[bu] (U8 e.n #[db]) k q->#[fM,rd,sd,a]->Q .non a
theorem Zpu(T:#[e])(aX:#[40])(fG:#[dx,3,"matches_up",#[bV],Ke])(cZ:#[dE,4,"play_again",#[bB],Kd]):Mf P w K mg base 5 aj "send_out" #[lh] (J8 au aj):=by
 show#[pQ,T.t_Merge_send_out.mf,Uk];obtain⟨m,O,G,L,s,nb,li,lo',aE,e,x,rfl,M,S,hx,W,ok,q⟩:=h;refine⟨_,#[Zf,#[Zz,2,Uk.nd,#[3],#[gK,hr,1]],#[Zf,#[V2,‹2›,#[Zk],UX],#[Zf,#[Zz,3,Uk.nd,#[3],#[Yk,#[Zo,Xg,#[pY,aX,hr,2],#[ZR],#[cZ]],#[ZR],#[Yi,#[Zg,‹1›,#[ZJ,#[ol],#[ZE,‹2›],#[ZE,‹2›]]]]]],#[Zf,#[Xh,bC.never,#[iL,K,#[ZD,fG,hr,#[Zg,#[lC],‹1›],#[5]]],#[pq,4,Uk.nd],#[Zh,#[Zz,3,Uk.nd,#[3],#[Yh,cZ,T.cl_Merge,hr,‹0›,#[d6,4,3]]]]],#[Zh,#[Yb,‹0›,#[Yk,#[ge,3],#[ZR],#[hu]]]]]]]],?_⟩;show#[uW];show#[pG,R,S,dp,hp,R.at'.ob];have hg:e.g<e.ss.length:=(Qd.mp hx).1;have tk:=ZsW M.nd M.up S hx R.srt W;refine⟨_,rfl,m,aj,dx,_,_,rfl,hm,T.cl_Merge,T.na_Merge_rows,Z5 ..,_,rfl,O,_,rfl,Y6.k' (k:=#[ud]) M.rows (WG M.nd S),_,rfl,e.p,au,dp,_,_,rfl,hp,T.cl_Row,T.na_Row_gone,Ua ..,_,_,rfl,rfl,dp,_,hp,Oq ..,?_⟩;rw[ZhB,show ((e.g:Int)+1)=#[et,e.g] by lia];have M1:=M.bump S hg (dp:=dp);show#[fQ,tK,H,e.p,#[cR]];have k1:#[oB,o,H,e.p,H,#[cR]]:=λb o B n=>by rw[Zc n];exact B
 generalize upd H e.p (.ins au dp (YZ e.k e.f ((e.g+1:Nat):Int)))=H1 at M1 tK k1 ⊢;have gw:(⟨e.n,e.p,e.k,e.f,e.ss,e.g+1⟩:Zx)∈bump L e.n:=by have:Xa e.n e∈bump L e.n:=Qj S;rwa [Sj rfl]at this
 have R1:=M1.each _ gw;have wE:∀ {C:Hp},#[d2,H1,G,C]->∀b o,H b=U o->¬ Fp m O G L b->C b=U o:=λ{C} k b o B nf =>
  k b o (k1 b o B λz=>nf #[eJ,e,S]) #[e0,nf] (λz=>nf (.inr #[95]))
 have gQ:e.n∈Zy L:=W.1;have nC:#[jR].length<=60:=by unfold Zy;rw[Qa];exact M.few
 have tG:#[jR].length<=2 ^ 8:=Qi nC #[6];obtain⟨wA,uO,y8⟩:=Oz 8 #[jR] e.n gQ tG;have wF:hdM #[lu] e.n=(e.ss[e.g+1]?).map cds:=Ka M.nd S;have ni:∀ (c:Com),(c=af/\e.ss[e.g+1]? = af)\/(∃y,e.ss[e.g+1]? = U y/\c=U (e.n,#[lg]))->TY #[a0] #[bu] [e.n] c:=λc hc=>by
  have hw:=Win.sing (hd:=hdM #[lu]) (n:=e.n);rcases hc with⟨rfl,hn⟩|⟨y,u,rfl⟩
  ·rw[wF,hn]at hw;exact⟨hw,λp hp=>by cases hp⟩
  ·rw[wF,u]at hw;exact⟨hw,λp hp=>by cases hp;exact⟨cds y,by rw[wF,u];rfl,rfl⟩⟩
 refine⟨_,rfl,e.p,dp,_,rfl,tK,VI ..,e.p,e.k,e.f,e.ss,e.g+1,rfl,R1.at',rfl,_,rfl,?_⟩;rw[Kx];refine Op (λv C=>ZG H1 C/\∃c,CV C v c/\TY #[a0] #[bu] [e.n] c) #[g5,d,Q',Z] #[g5,d,Q',Z] (λv C ⟨s2,c,tJ,hok⟩=>?_)
 ·have hn:e.ss[e.g+1]? = af:=by
   have:=#[aF];cases u:e.ss[e.g+1]? with
   | none=>rfl
   | some y=>rw[u]at this;cases this
  exact Z _ _ ⟨ZG.refl _,af,.inl #[Y],ni af (.inl ⟨rfl,hn⟩)⟩
 ·obtain⟨y,u⟩:∃y,e.ss[e.g+1]? = U y:=by
   cases u:e.ss[e.g+1]? with
   | none=>rw[u]at d;exact absurd rfl (of_decide_eq_false d)
   | some y=>exact⟨y,rfl⟩
  have D0:e.g+1<e.ss.length:=(Qd.mp u).1;have zi:Xb e.ss (e.g+1)=#[lg]:=by unfold Xb;rw[if_neg #[2],Qax,QM,QM,hx,u,VQ];rfl
  have fX:atI ((List.range e.ss.length).map λj=>V.int (Xb e.ss j)) #[et,e.g]=U (.int #[lg]):=XA (by rw[Qo,List.getElem?_range D0,<- zi];rfl);refine⟨_,rfl,_,rfl,e.p,au,dp,_,_,rfl,tK,T.cl_Row,T.na_Row_fars,Zmc ..,_,rfl,e.p,au,dp,_,_,rfl,tK,T.cl_Row,T.na_Row_gone,Ua ..,e.f,_,_,_,rfl,rfl,SqL.of R1.at'.fs,fX,#[61],λtc iK=>?_⟩;exact Z _ _ ⟨Zi iK _,U (e.n,#[lg]),.inr ⟨tc,_,rfl,rfl,Zd⟩,ni _ (.inr ⟨y,u,rfl⟩)⟩
 have M2:=M1.same s2;show#[li];refine⟨_,rfl,m,aj,iH,_,_,rfl,dA,T.cl_Merge,T.na_Merge_rows,Z5 ..,O,_,rfl,M2.rows,λl hl=>?_⟩;rw[KH,U9];have s3:=s2.trans (Zi hl #[aq]);show#[fQ,fY,C,l,#[aq]];have uQ:CV (upd C l #[aq]) v c:=tJ.keep λt xs ht=>Zi hl _ _ _ ht;generalize upd C l (.lst ((Zy L).map V.int))=H3 at s3 fY uQ ⊢;refine⟨_,rfl,l,Zy L,e.n,rfl,fY,gQ,nC,M.up,λr ts H4 cU nz jO fc s4=>?_⟩;have zj:=s3.trans s4;have M4:=M1.same zj;have zk:CV H4 v c:=uQ.keep λt xs ht=>s4 _ _ ht;refine⟨r,rfl,#[gO,nz],?_⟩;show#[dz,dm4,qQ,M4.ob];show#[dz,dm1,eV,M1.ob];have qU:r≠m:=(Ze (s3 _ _ eV) cU).symm;have yU:r≠G:=(Ze (s3 _ _ M1.stays) cU).symm;refine RV (K:=K) (a:=r) (xs:=ts.map V.ref) (λi σ I=>X6 λ(v':V) (c':Com) (J:StL) (k q':Int) (v4:Option V)=>σ=[U (.ref m),U (.int e.n),U (.ref e.p),U v',v4]/\i<=ts.length/\CV I v' c'/\TY #[a0] #[bu] #[qZ] c'/\ZM au aj I m O G #[lu] J nb (li+k) (lo'+q') aE/\Z0 #[a0] J #[qZ]/\(∀j,¬ Kys #[qZ] j->ZZ J j=ZZ s j)/\Ag #[a0] #[bu] (U8 e.n (#[db].take i)) k q'/\#[d2,H4,G,I]) ?_ (λi σ I _ Z=>by obtain⟨_,_,_,_,_,_,_,_,_,_,_,_,_,_,k5⟩:=Z;exact SqL.of (k5 _ _ nz qU yU)) ?_ ?_
 ·refine⟨v,c,s,0,0,_,rfl,Qm _,zk,hok,M4.cast #[2] #[2],λX F h2=>?_,λ_ _=>rfl,.nil,λb o h _ _=>h⟩;have:=OA F;rcases this with rfl|⟨g,_⟩
  ·exact absurd h2 #[tG]
  ·exact absurd g #[tG]
 ·rintro i y σ I u ⟨v',c',J,k,q',v4,rfl,hi,rg,ie,M5,rh,g9,ag,k5⟩;rw[Qo]at u;cases hz:ts[i]? with
  | none=>rw[hz]at u;cases u
  | some t =>
  show#[dr,hz,u,cb,i,ts.length];cases F:(Z2 8 (Zy L) e.n)[i]? with
  | none=>rw[QaI]at F;lia
  | some X =>
  obtain⟨x1,D,x3,x4⟩:=wA i X F;have fu:=x1.rise M.up;have e3:low e.n #[db] (i+1)=X:=by show (Z2 8 #[jR] e.n).getD i []=X;rw[QM,F];rfl
  have wo:I t=U #[fs,X]:=k5 _ _ (fc i t X hz F) (λz=>by have:=fc i t X hz F;rw[z,qQ]at this;cases this) (λz=>by have:=fc i t X hz F;rw[z,M4.stays]at this;cases this);show#[dz,rj,gM,M5.ob];rw[<- x4]at ie rh g9;have D1:=ZnY tk x1 D x3 ok;have gO:ZZ J (ZU X)=ZZ s (ZU X):=g9 _ λz=>(Kp fu D z).1 rfl;refine⟨_,rfl,m,rj,_,rfl,gM,ZjO ..,_,rfl,_,rfl,m,O,G,bump L e.n,J,nb,_,_,aE,t,v',c',cds x,X,e.n,rfl,M5,wo,rg,ie,?_,λb B y u=>tk.ge (x1.mem B) u,fu,λb B=>by rw[U9];exact x1.mem B,D,x3,λv6 c6 s6 k6 q6 H6 zl zm zn nJ zo M6 D6=>?_⟩
  ·rw[gO];rcases D1 with w|⟨t',b,y,w1,w2,_,w4⟩
   ·exact .inl w
   ·exact .inr ⟨t',b,y,w1,w2,w4⟩
  ·refine⟨v6,c6,s6,k+k6,q'+q6,_,rfl,cb,zl,by rw[e3];exact zm,M6.cast #[2] #[2],?_,λj N=>?_,?_,λb o B n1 n2=>D6 b o (k5 b o B n1 n2) n1 n2⟩
   ·rw[e3];refine Zmy (n:=e.n) (rh.congr #[i0] λj N=>nJ j (Kp fu D N).1) ?_ zn;have gK:=OC fu (TZ x3);have so:Sub X (Y8 X e.n):=by unfold Y8;split;exact Sub.top.up D;exact Sub.top.lo D
    refine(ok.sub (x1.trans so)).congr (λb B=>tk.oth b λz=>gK (z ▸ B)) λj N=>?_;rw[nJ j (Ko fu D N).1,g9 j (Ko fu D N).2]
   ·rw[e3]at N;rw[nJ j (λz=>N ⟨X,.top,D,z⟩),g9 j (λZ=>by obtain⟨Y,y1,y2,y3⟩:=Z;exact N ⟨Y,(Kt D e.n).trans y1,y2,y3⟩)]
   ·have:=zo _ _ _ ag;unfold U8 at this ⊢;rw[QN,F,Qg];exact this
 ·rintro σ I ⟨v',c',J,k,q',v4,rfl,_,rg,ie,M5,rh,g9,ag,k5⟩;rw[Qa,jO,uO]at ie rh;rw[Qa,jO,Qw #[ih]]at ag;show#[dz,rj,gM,M5.ob];have bf:∀w':Option Int,w'=c'.map #[iw]->Q .non (upd I m (.ins aj rj (mgF O nb (li+k) (lo'+q') G (YV w')))):=λw' ew=>by subst ew;refine q J _ k q' _ M5.obj ie.1 rh ag λb o B nf=>?_;rw[Zc #[e0,nf]];exact wE (λb o B n1 n2=>k5 b o (zj b o B) n1 n2) b o B nf
  rcases rg with⟨rfl,rfl⟩|⟨t,p,rfl,rfl,ht⟩
  ·refine#[cu];show#[eF,rj,gM];exact bf af rfl
  ·show#[aO];refine⟨_,rfl,t,_,_,_,rfl,rfl,SqT.of ht,(show atI [V.int p.1,V.int p.2] 0=U (.int p.1) from XA (j:=0) rfl),_,rfl,m,aj,rj,_,rfl,gM,T.cl_Merge,T.na_Merge_best,Ww ..,?_⟩;rw[Ss];exact bf (U p.1) rfl
def Si(L:#[bv])(w:#[bL])(x:V)(a:#[bv])(k q:Int)(b:Hp):Prop :=
 (w=af/\x=.non/\a=L/\k=0/\q=0)\/X3 λ(e:Zx) (t:ae) (z:ak)=>e∈L/\w=U e.n/\x=.ref t/\e.ss[e.g]? = U z/\b t=U #[eq,e.n,e.g,z]/\a=bump L e.n/\Ag (hdM a) (cds z) (U8 e.n #[db]) k q
theorem ZkU(rd:ae)(nb li lo:Int)(sd:ae)(a:V):#[17].lookup ("send_out" : ak)=af:=#[n]
theorem Zk2(rd:ae)(nb li lo:Int)(sd:ae)(a:V):#[17].lookup ("take" : ak)=af:=#[n]
def J7(d e:ae):Sp:=λvs H Q _=>X9 λ(m rd sd:ae) (L:List Zx) (s:StL) (nb li lo:Int) (w:Option Int)=>vs=#[t6]/\ZM d e H m rd sd L s nb li lo (YV w)/\Win #[cQ] #[jR] w/\Z0 #[cQ] s #[jR] /\
 ∀ (x:V) (a:List Zx) (f:StL) (g:Option Int) (k q:Int) (c:Hp),Si L w x a k q c->ZM d e c m rd sd a f nb (li+k) (lo+q) (YV g)->Win (hdM a) (Zy a) g->Z0 (hdM a) f (Zy a)->#[fM,rd,sd,c]->Q x c
theorem Zpr(T:#[e])(I:#[dE,3,"coming",#[X],Ky])(J:Mf P w K mg base 5 aj "send_out" #[lh] (J8 au aj)):Mf P w K mg base 6 aj "take" #[X] (J7 au aj):=by
 show#[dj,T.t_Merge_take.mf,Ly,N,v];obtain⟨m,d,g,L,s,i,j,c,w,rfl,M,W,ok,q⟩:=h;refine⟨_,#[Zf,#[Zz,1,Ly.nd,#[3],#[eI,I,v,0]],#[Zf,#[ZT,#[dt,Tz,1,#[ZR]],#[Zh,#[ZL,#[Yh,J,T.cl_Merge,v,‹0›,#[Zg,#[w]]]]],#[ZB]],#[ea,1]]],?_⟩;show#[fq,O,S];refine⟨_,rfl,m,O,_,rfl,S,ZiC ..,m,d,g,L,s,i,j,c,w,rfl,M,W,λx V X l=>?_⟩;have M1:=M.same l;rcases X with⟨rfl,hw⟩|⟨t,e',z,rfl,Y,B,C,hw⟩
 ·have n:Win #[cQ] #[jR] af:=by rw[Su]at hw;exact hw
  have p:=W.one n;subst p;exact⟨_,rfl,rfl,_,rfl,Vq rfl ⟨_,rfl,q .non L s af 0 0 V (.inl #[sL]) (M1.cast #[2] #[2]) W ok (λb o r _=>l b o r)⟩⟩
 ·show#[dA,e,D,Y];have n:#[t7]:=by rw[Su]at hw;exact hw
  have p:=W.one n;subst p;show#[dz,F,u,M1.ob];refine⟨_,rfl,rfl,_,rfl,KY #[C] ?_⟩;refine⟨_,rfl,m,F,_,rfl,u,ZkU ..,_,rfl,m,aj,F,_,_,rfl,u,T.cl_Merge,T.na_Merge_best,T4 ..,m,d,g,L,s,i,j,c,_,e,z,rfl,M1,D,B,W,ok,λZ w' k q' G M2 W2 tM ag k2=>?_⟩;have gb:G t=U #[eq,e.n,e.g,z]:=k2 _ _ C λhf=>by
   have a:=C;rcases hf with h|h|h|⟨y,hy,h⟩
   ·show#[dV,h,u,a]
   ·show#[dV,h,M1.rows,a]
   ·show#[dV,h,M1.stays,a]
   ·have R:=(M1.each y hy).at';show#[dz,dy,mB,R.ob];rcases h with h|h|h
    ·show#[dV,h,mB,a]
    ·show#[dV,h,R.ks,a]
    ·show#[dV,h,R.fs,a]
  exact⟨_,rfl,q #[mY] #[lu] Z w' k q' G (.inr ⟨e,t,z,D,rfl,rfl,B,gb,rfl,ag⟩) M2 #[dp,U9,W2] #[dp,U9,tM] (λb o r nf=>k2 b o (l b o r) nf)⟩
noncomputable abbrev ZW:=Int×List ak×Nat
noncomputable def Z7(L:#[bv]):List ZW:=L.map λe=>(e.n,(e.ss,e.g))
noncomputable def hdP(P:#[iC]):Hd:=hdL (P.map λx=>(x.1,0,x.2))
noncomputable def Y5(P:#[iC]):List Int:=P.map #[iw]
noncomputable def Wu(n:Int)(x:ZW):ZW:=if x.1=n then (x.1,x.2.1,x.2.2+1) else x
noncomputable def WW(P:#[iC])(n:Int):List ZW:=P.map (Wu n)
theorem VE(L:#[bv]):hdM L=hdP (Z7 L):=Kw _ _ (by unfold Z7;rw[QB,QB,QB];rfl)
theorem Xt(L:#[bv]):Zy L=Y5 (Z7 L):=by unfold Y5 Z7 Zy;rw[QB];rfl
theorem J6(L:#[bv])(n:Int):Z7 #[mO]=WW (Z7 L) n:=by
 unfold Z7 bump WW;rw[QB,QB];refine QR λe _=>?_;show#[kC];unfold Wu;by_cases h:e.n=n
 ·rw[Sj h,if_pos h]
 ·rw[Ou h,if_neg h]
theorem Zl7(P:#[iC])(n:Int):Y5 (WW P n)=Y5 P:=by unfold Y5 WW;rw[QB];refine QR λx _=>?_;simp only[Function.comp];unfold Wu;split<;>rfl
theorem Zr3{P:#[iC]}(nd:#[lv]){x:ZW}(h:x∈P):hdP P x.1=(x.2.1[x.2.2]?).map cds :=
 OY (L:=P.map λx:ZW=>((x.1,0,x.2):Yf)) (e:=(x.1,0,x.2)) #[dp,QB,nd] (Qj (f:=λx:ZW=>((x.1,0,x.2):Yf)) h)
def U7(P:#[iC])(x:ZW)(z:ak)(k q:Int):Prop:=x∈P/\x.2.1[x.2.2]? = U z/\Win (hdP P) (Y5 P) (U x.1)/\Ag (hdP (WW P x.1)) (cds z) (U8 x.1 (Z2 8 (Y5 P) x.1)) k q
noncomputable abbrev Ym:=Int×Nat×ak
inductive Yv (P:#[iC]):List Ym->List ZW->Int->Int->Prop
 | nil:Yv P [] P 0 0
 | snoc {ts:List Ym} {P1:List ZW} {x:ZW} {z:ak} {k q k1 q1:Int}:Yv P ts P1 k q->U7 P1 x z k1 q1->Yv P (ts++[(x.1,x.2.2,z)]) (WW P1 x.1) (k+k1) (q+q1)
inductive XU:List ZW->Int->Int->Prop
 | stop {P:List ZW}:Win (hdP P) (Y5 P) af->XU P 0 0
 | go {P:List ZW} {x:ZW} {z:ak} {k q k1 q1:Int}:U7 P x z k1 q1->XU (WW P x.1) k q->XU P (k1+k) (q1+q)
theorem U7.one{P:#[iC]}(nd:#[lv]){x y:ZW}{z u:ak}{k q k' a:Int}(h:U7 P x z k q)(g:U7 P y u k' a):x=y/\z=u/\k=k'/\q=a:=by obtain⟨b,c,d,e⟩:=h;obtain⟨f,i,j,l⟩:=g;have m:=Qp (d.one j);have n:=V9 nd b f m;subst n;have o:=Qp (c.symm.trans i);subst o;exact⟨rfl,rfl,e.one l⟩
theorem Yv.num{P a:#[iC]}{b:List Ym}{k q:Int}(h:Yv P b a k q):Y5 a=Y5 P:=by
 induction h with
 | nil=>rfl
 | snoc _ _ c=>rw[Zl7,c]
noncomputable def Xs(P:#[iC]):Nat:=(P.map λx=>x.2.1.length-x.2.2).sum
theorem Oo:∀ (P:List ZW),(Y5 P).Nodup->∀ {x:ZW},x∈P->x.2.2<x.2.1.length->Xs (WW P x.1)+1=Xs P
 | [],_,_,h,_=>by cases h
 | y::P,nd,x,h,a=>by
  unfold Y5 at nd;rw[Qn,Q2]at nd;unfold Xs WW;rw[Qn,Qn,Qn,Q5,Q5];rcases QJ.mp h with rfl|h
  ·have e:P.map (Wu x.1)=P:=by
    conv=>rhs;rw[<- List.map_id P]
    refine QR λu b=>?_;unfold Wu;rw[if_neg (λz:u.1=x.1=>nd.1 (z ▸ Qj (f:=#[mq]) b))];rfl
   rw[e];unfold Wu;show#[t0];show x.2.1.length-(x.2.2+1)+_+1=_;lia
  ·have c:=Oo P nd.2 h a;unfold Xs WW at c;have e:Wu x.1 y=y:=if_neg (λz:y.1=x.1=>nd.1 (z ▸ Qj (f:=#[mq]) h));rw[e];lia
theorem Yv.left{P a:#[iC]}{b:List Ym}{k q:Int}(h:Yv P b a k q)(nd:#[lv]):Xs a+b.length=Xs P:=by
 induction h with
 | nil=>rfl
 | snoc h s ih=>have:=Oo _ #[u0] s.1 (Qd.mp s.2.1).1;rw[Qe,Qy];lia
theorem ZmA{L a:#[bv]}{w:#[bL]}{x:V}{k q:Int}{H:Hp}(W:Win #[cQ] #[jR] w)(h:Si L w x a k q H):(Win (hdP (Z7 L)) (Y5 (Z7 L)) af/\x=.non/\a=L/\k=0/\q=0)\/X3 λ(y:ZW) (z:ak) (t:ae)=>U7 (Z7 L) y z k q/\Z7 a=WW (Z7 L) y.1/\x=.ref t/\H t=U #[eq,y.1,y.2.2,z]:=by
 rw[VE,Xt]at W;rcases h with⟨rfl,c,d,g,i⟩|⟨e,t,z,j,rfl,rfl,l,m,rfl,b⟩
 ·exact .inl ⟨W,c,d,g,i⟩
 ·refine .inr ⟨#[rT],z,t,⟨Qj (f:=#[cK]) j,l,W,?_⟩,J6 L e.n,rfl,m⟩;rw[VE,J6,Xt]at b;exact b
def J5(K:#[7])(f g:ae):Sp:=λvs H Q _=>X10 λ(m rd sd:ae) (L:List Zx) (s:StL) (nb li lo:Int) (w:Option Int) (many:Int)=>vs=#[o3,m,many]/\ZM f g H m rd sd L s nb li lo (YV w)/\Win #[cQ] #[jR] w/\Z0 #[cQ] s #[jR]/\Xs (Z7 L)<=100000 /\
 ∀ (r:ae) (c:List (ae×Ym)) (a:List Zx) (h:StL) (e:Option Int) (k q:Int) (d:Hp),H r=af->d r=U #[rg]->(∀u∈c,d u.1=U #[r6])->Yv (Z7 L) #[nQ] (Z7 a) k q->(#[hE]<many->e=af)->(c≠[]->#[hE]<=many)->ZM f g d m rd sd a h nb (li+k) (lo+q) (YV e)->Win (hdM a) (Zy a) e->Z0 (hdM a) h (Zy a)->(∀b,Fp m rd sd a b↔Fp m rd sd L b)->#[fM,rd,sd,d]->Q #[kz] d
theorem Si.fp{L a:#[bv]}{w:#[bL]}{x:V}{k q:Int}{H:Hp}(h:Si L w x a k q H){m rd sd b:ae}:Fp m rd sd a b↔Fp m rd sd L b:=by
 rcases h with⟨_,_,rfl,_⟩|⟨e,t,z,_,_,_,_,_,rfl,_⟩
 ·exact Iff.rfl
 ·exact⟨Zp4,Fp_bump'⟩
theorem ZM.fp_live{a c:ae}{H:Hp}{m rd sd:ae}{L:#[bv]}{s:StL}{nb li lo:Int}{d:V}(M:#[el,a,c,d]){b:ae}(h:Fp m rd sd L b):∃o,H b=U o/\∀xs,o≠.tup xs:=by
 rcases h with rfl|rfl|rfl|⟨e,f,h⟩
 ·show#[fq,g,hd];show#[eh,hd,xs,z]
 ·show#[eh,M.rows,xs,z]
 ·show#[eh,M.stays,xs,z]
 ·have R:=(M.each e f).at';show#[dz,g,hd,R.ob];rcases h with rfl|rfl|rfl
  ·show#[eh,hd,xs,z]
  ·show#[eh,R.ks,xs,z]
  ·show#[eh,R.fs,xs,z]
theorem ZM.fp_fresh{c d:ae}{H:Hp}{m rd sd:ae}{L:#[bv]}{s:StL}{nb li lo:Int}{e:V}(M:#[el,c,d,e]){b:ae}(h:H b=af):¬ Fp m rd sd L b:=λz=>by obtain⟨o,a,_⟩:=M.fp_live z;rw[h]at a;cases a
theorem ZM.fp_tup{c d:ae}{H:Hp}{m rd sd:ae}{L:#[bv]}{s:StL}{nb li lo:Int}{e:V}(M:#[el,c,d,e]){b:ae}{xs:#[m7]}(h:H b=U #[kk]):¬ Fp m rd sd L b:=λz=>by obtain⟨o,a,f⟩:=M.fp_live z;rw[h]at a;cases a;exact f xs rfl
theorem ZrG(T:#[e])(fH:#[dE,6,"take",#[X],J7]):Mf P w K mg base 7 aj "take_few" #[nI] (J5 K au aj):=by
 show#[pQ,T.t_Merge_take_few.mf,Lx];obtain⟨m,j,l,L,s,F,Y,G,w,many,rfl,M,W,ok,D7,q⟩:=h;refine⟨_,#[Zf,#[oF,2,Lx.nd],#[Zf,(@RX _ _ _ _ _ _ bC.never (@PW.pt _ _ _ #[Xi,#[Zo,WC,#[ax],‹1›,#[cZ]],#[W7,#[Zo,Tz,#[w],#[ZR],#[cZ]]]]) #[Zh,#[ZL,#[YF,QF,QG,QH,Xz,‹2›,#[Zg,#[eI,fH,hr,0]]]]]),#[bj]]],?_⟩;have nd:(Y5 (Z7 L)).Nodup:=by rw[<- Xt];exact M.nd
 show#[vk,r,n];have Z:=M.fp_fresh n;refine⟨λmm σ i=>X6 λ(c:List (ae×Ym)) (d:List Zx) (s':StL) (w':Option Int) (k p:Int)=>σ=[U (.ref m),U (.int many),U #[kz]]/\i r=U #[rg]/\(∀u∈c,u.1≠r/\i u.1=U #[r6])/\Yv (Z7 L) #[nQ] (Z7 d) k p/\(c≠[]->#[hE]<=many)/\ZM au aj i m j l d s' F (Y+k) (G+p) (YV w')/\Win (hdM d) (Zy d) w'/\Z0 (hdM d) s' (Zy d)/\(∀b,Fp m j l d b↔Fp m j l L b)/\#[fM,j,l,i]/\mm=Xs (Z7 d),⟨_,[],L,s,w,0,0,rfl,Zd,#[d7,u,h],.nil,(λh=>absurd rfl h),(M.same (Zi n _)).cast #[2] #[2],W,ok,λ_=>Iff.rfl,λb o g _=>Zi n _ _ _ g,rfl⟩,?_⟩;rintro mm σ i ⟨c,L1,s1,I,k,p,rfl,C,oU,D,gC,M2,v,tM,B,k2,rfl⟩;have nK:#[lf]=#[hE]:=by rw[Qa]
 have D8:=D.left nd;rw[Qa]at D8;show#[li];have done:(#[hE]<many->I=af)->Q #[kz] i:=λhd=>q r c L1 s1 I k p i n C (λu hu=>(oU u hu).2) D hd gC M2 v tM B k2;refine⟨_,rfl,r,_,rfl,.inl (SqL.of C),_,rfl,_,_,rfl,rfl,_,rfl,YW (λJ=>?_) (λJ=>?_)⟩
 ·have s0:#[hE]<many:=by have:=of_decide_eq_true J;lia
  refine⟨_,rfl,m,aj,iH,_,_,rfl,dA,T.cl_Merge,T.na_Merge_best,T4 ..,rfl,_,rfl,?_⟩;cases I with
  | none=>exact Vq rfl ⟨_,rfl,done λ_=>rfl⟩
  | some a =>
  refine KY #[C] ?_;refine#[tV];refine⟨_,rfl,.inl #[dJ,C],_,rfl,m,iH,_,rfl,dA,Zk2 ..,m,j,l,L1,s1,F,_,_,U a,rfl,M2,v,tM,λx L3 s3 w3 k3 q3 H3 N M3 W3 rn O=>?_⟩;have R:H3 r=U #[rg]:=O _ _ C (λz=>Z ((B r).mp z));rcases ZmA v N with⟨w0,_⟩|⟨y,z,t,S,eL,rfl,X⟩
  ·rw[VE,Xt]at v;exact nomatch w0.one v
  have hbl:=Oo _ #[dp,D.num,nd] S.1 (Qd.mp S.2.1).1;have tH:t≠r:=λe=>by rw[e,R]at X;cases X
  refine⟨r,_,_,rfl,rfl,R,#[pU,Qa,aO],Xs (Z7 L3),by rw[eL];lia,c++[(t,(y.1,y.2.2,z))],L3,s3,w3,k+k3,p+q3,rfl,by rw[Zd,Qg];rfl,λu hu=>?_,?_,λ_=>by rw[Qe,Qy];lia,?_,W3,rn,λb=>(N.fp).trans (B b),λb o g nf=>?_,rfl⟩
  ·rcases Ql.mp hu with hu|hu
   ·obtain⟨g2,g3⟩:=oU u hu;exact⟨g2,by rw[Zc g2];exact O _ _ g3 (M2.fp_tup g3)⟩
   ·rw[Qh.mp hu];exact⟨tH,by rw[Zc tH];exact X⟩
  ·rw[Qg,eL];exact .snoc D S
  ·refine ZM.cast (M3.keep λb o g dG=>?_) #[2] #[2];rw[Zc (λe=>?_)]
   ·exact g
   ·subst e;rcases dG with hf|⟨xs,rfl⟩
    ·exact Z ((B b).mp (N.fp.mp hf))
    ·show#[e8,R,g,g]
  ·rw[Zc (Ze g n)];exact O b o (k2 b o g nf) (λz=>nf ((B b).mp z))
 ·refine Y3 ⟨_,rfl,done λh=>?_⟩;have:¬ (#[lf]<many):=λz=>J #[a1];lia
structure MS where
 m:ae
 rd:ae
 sd:ae
 L:List Zx
 s:StL
 nb:Int
 li:Int
 lo:Int
 w:Option Int
structure OS where
 o:ae
 ra:ae
 ga:ae
 Lo:List Yf
 nb:Int
def Zty(Y:OS)(b:ae):Prop:=b=Y.o\/b=Y.ra\/b=Y.ga\/∃e∈Y.Lo,b=e.2.1
def MFp(X:MS)(b:ae):Prop:=Fp X.m X.rd X.sd X.L b
structure MOk (cR cM:ae) (H:Hp) (X:MS):Prop where
 M:ZM cR cM H X.m X.rd X.sd X.L X.s X.nb X.li X.lo (YV X.w)
 W:Win (hdM X.L) (Zy X.L) X.w
 ok:Z0 (hdM X.L) X.s (Zy X.L)
structure Pair (cR cM:ae) (H:Hp) (X:MS) (Y:OS):Prop where
 mg:MOk cR cM H X
 ow:Own H Y.o Y.ra Y.ga Y.Lo Y.nb X.li X.lo
 ag:Agr Y.Lo X.L
 sep:∀b,MFp X b->¬ Zty Y b
theorem MOk.same{a b:ae}{H c:Hp}{X:MS}(h:MOk a b H X)(s:ZG H c):MOk a b c X:=⟨h.M.same s,h.W,h.ok⟩
theorem MOk.keep{a c:ae}{H d:Hp}{X:MS}(h:MOk a c H X)(k:∀b o,H b=U o->MFp X b\/#[qV]->d b=U o):MOk a c d X:=⟨h.M.keep k,h.W,h.ok⟩
theorem Zl6{P:#[iC]}(nd:#[lv])(h:Win (hdP P) (Y5 P) af)(ok:∀x∈P,x.2.2<=x.2.1.length):Xs P=0:=by
 unfold Xs;have:∀l:List Nat,(∀a∈l,a=0)->l.sum=0:=λl e=>by
  induction l with
  | nil=>rfl
  | cons b r j=>rw[Q5,e b #[4],j λa c=>e a (Qs _ c)]
 refine this _ λa c=>?_;show#[dA,x,g,c];have d:=h x.1 (Qj (f:=#[mq]) g);rw[Zr3 nd g]at d;cases i:x.2.1[x.2.2]? with
 | none=>rw[QaI]at i;show x.2.1.length-x.2.2=0;lia
 | some y=>rw[i]at d;cases d
theorem Zp9{a b:ae}{H:Hp}{X:MS}(h:MOk a b H X):(Y5 #[n6]).Nodup:=by rw[<- Xt];exact h.M.nd
def Om(K:#[7])(c d:ae):Sp:=λvs H Q _=>X11 λ(m rd sd:ae) (L:List Zx) (s:StL) (nb li lo:Int) (h:V) (r:ae) (ss:List ak)=>vs=#[oJ,m,r]/\ZM c d H m rd sd L s nb li lo h/\(∀e∈L,e.n<nb)/\L.length<16/\H r=U #[i2]/\ss.length<=200/\(∀x∈ss,x.length<=1000/\AZ x)/\sortedS ss=true /\
 ∀ (e:Zx) (f:ae) (g:StL) (w:Option Int) (k q:Int) (a:Hp),e.n=nb->e.ss=ss->e.g=0->H e.p=af->H e.k=af->H e.f=af->H f=af->Win #[uo] (Zy (L++[e])) w->Ya #[uo] g 8 (Zy (L++[e]))->YR #[uo] 8 (Zy (L++[e])) k q->ZM c d a m rd f (L++[e]) g (nb+1) (li+k) (lo+q) (YV w)->#[d2,H,rd,a]->Q (.int nb) a
theorem ZkD(T:#[e])(bA:#[55])(dE:#[kZ])(aV:#[86]):Mf P w K mg base 14 aj "add_row" #[bc] (Om K au aj):=by
 show#[dj,T.t_Merge_add_row.mf,SU,vs,I];obtain⟨m,g,B,L,s,i,C,lo',D,r,l,rfl,M,bi,ir,cU,mz,Z,iq,q⟩:=h;refine⟨_,#[Zf,#[u3],#[Zf,#[ZL,#[pB,bA,I,2,1]],#[Zf,#[ZT,#[lB],#[u4],#[ZB]],#[Zf,#[Yn,#[Vm,dE,I,#[27]],#[g8,2,I]],#[Zf,#[lJ],#[Zf,#[ZL,#[eI,aV,I,0]],#[bj]]]]]]],?_⟩;show#[fq,dx,J];refine⟨_,rfl,m,aj,dx,_,_,rfl,J,T.cl_Merge,T.na_Merge_next_number,OG ..,_,rfl,_,rfl,i,r,l,rfl,SqL.of cU,by lia,λx F=>(Z x F).1,Sq iq,λH1 N=>?_⟩;have M1:=M.same N;have eV:=N _ _ J;have jN:#[m3]:=by unfold kvM;rw[Qa]
 refine⟨_,rfl,m,aj,dx,_,_,rfl,eV,T.cl_Merge,T.na_Merge_rows,Z5 ..,g,_,rfl,M1.rows,_,_,rfl,rfl,_,rfl,YW #[cO] #[cO]⟩
 ·have:(16:Int)<=#[66]:=#[aF];exact absurd this #[2]
 refine⟨_,rfl,λu p hu mB DE=>?_⟩;have O:H u=af:=N.free hu;have S:∀b o,H b=U o->#[dD,H1,p,u,au] b=U o:=λb o c=>by have:=N _ _ c;show#[hn]
 show#[pl,qV,H1,p,u,au];generalize upd (upd H1 p (.own u)) u (.ins au p [])=H8 at S qV ⊢;refine⟨u,p,r,l,rfl,qV,S _ _ cU,mz,λx F=>(Z x F).1,λk f G hk hf wf R k9=>⟨rfl,?_⟩⟩;have s9:ZG H G:=λb o c=>k9 b o (S b o c) (Ze c O);have free:∀b,H8 b=af->H b=af:=λb c=>by
  cases e:H b with
  | none=>rfl
  | some o=>rw[S b o e]at c;cases c
 have zr:=free k hk;have zt:=free f hf;have j:=M.same s9;have nI:=s9 _ _ J;have jM:g≠u/\g≠k/\g≠f:=⟨Ze M.rows O,Ze M.rows zr,Ze M.rows zt⟩;have hsz:#[s4].length<aq:=by unfold kvM;show#[od]
 have jL:Y1 #[s4] (.inl i)=af:=by
  cases hv:Y1 (kvM L) (.inl i) with
  | none=>rfl
  | some v=>obtain⟨e,he,z⟩:=Qq.mp (UN hv);injection z with z _;have:=bi e he;have:=Sum.inl.inj z;lia
 refine⟨_,rfl,m,aj,dx,_,_,rfl,nI,T.cl_Merge,T.na_Merge_rows,Z5 ..,_,rfl,g,_,rfl,Xm.k (k:=.inl i) j.rows hsz,?_⟩;rw[Vo _ jL,show kvM L++[((.inl i:Key),V.ref u)]=kvM #[h6] by unfold kvM;rw[Qg];rfl];show#[gU,n1,n2,n3,j.ne_m];have mC:ZM au aj #[rR] m g B #[h6] s i C lo' D:=by
  refine⟨⟨dx,by rw[Zc n1];exact nI⟩,Zd,?_,?_,λe he=>?_,?_,?_,by rw[Qe,Qy];lia,M.sfew⟩
  ·rw[Zc (λz=>by have:=j.stays;rw[z,j.rows]at this;cases this)];exact j.stays
  ·intro e he t ht;have c:=j.ats e he t ht;show#[pg,j.rows,c]
  ·rcases Ql.mp he with he|he
   ·have W:=j.each e he;show#[dz,de,X,W.at'.ob];refine W.mono λb o c dG=>?_;have nb':b≠g:=λz=>by
     rw[z,j.rows]at c;injection c with c;subst c;rcases dG with z2|z2|z2
     ·rw[<- z2,z,j.rows]at X;cases X
     ·show#[fh,W.at'.ks,z2,j.rows]
     ·show#[fh,W.at'.fs,z2,j.rows]
    rw[Zc nb'];exact c
   ·rw[Qh.mp he];refine WX.keep (H:=G) ⟨R,Qm _,mz,iq,Z⟩ (Zc jM.1.symm) (Zc jM.2.1.symm) (Zc jM.2.2.symm)
  ·unfold Zy;rw[Qg];refine List.pairwise_append.mpr ⟨M.up,List.pairwise_singleton ..,λx F y hy=>?_⟩;show#[dA,e,he,F];have:y=i:=by simpa using hy
   rw[this];exact bi e he
  ·show#[e7,M.pd,ha,c,e,he];have:b=u:=by simpa using c
   rw[this];obtain⟨de,X⟩:=#[mU];exact Ze X O
 have k10:#[u7,o,g,#[rR]]:=λb o c n=>by rw[Zc n];exact s9 b o c
 generalize upd G g (.dK (kvM (L++[⟨i,u,k,f,l,0⟩])))=jG at mC k10 ⊢;have oG:=k10 _ _ J n1;show#[eY,oG,T.na_Merge_next_number,OG,Zhm];have Y:=mC.obj (nb':=i+1) (li':=C) (lo':=lo') (best':=D) (dx:=dx);have k11:∀b o,H b=U o->b≠m->b≠g->(upd jG m (.ins aj dx (mgF g (i+1) C lo' B D))) b=U o:=λb o c n n'=>by rw[Zc n];exact k10 b o c n'
 generalize upd jG m (.ins aj dx (mgF g (i+1) C lo' B D))=qd at Y k11 ⊢;show#[dz,zu,uR,Y.ob];have tP:∀b,qd b=af->H b=af:=λb c=>by
  cases e:H b with
  | none=>rfl
  | some o =>
   by_cases z:b=m
   ·show#[p2,uR,c]
   ·by_cases z':b=g
    ·show#[dV,z',Y.rows,c]
    ·rw[k11 b o e z z']at c;cases c
 refine⟨_,rfl,m,zu,_,rfl,uR,Sr ..,m,g,B,_,s,_,_,_,_,rfl,Y,λbq s' w0 k0 q0 lV gk wI wJ wK wL k12=>⟨_,rfl,?_⟩⟩;exact q ⟨i,u,k,f,l,0⟩ bq s' w0 k0 q0 lV rfl rfl rfl O zr zt (tP bq gk) wI wJ wK wL (λb o c n n'=>k12 b o (k11 b o c n n') n)
theorem Yv.one{P:#[iC]}(nd:#[lv]){d:List Ym}{e:#[iC]}{k q:Int}(h:Yv P d e k q):∀ {us:List Ym} {b:List ZW} {k' c:Int},Yv P us b k' c->d.length=us.length->d=us/\e=b/\k=k'/\q=c:=by
 induction h with
 | nil =>
  intro us b k' c g a;cases g with
  | nil=>exact⟨rfl,rfl,rfl,rfl⟩
  | snoc _ _=>rw[Qe,Qy]at a;exact absurd a #[4]
 | snoc h s f =>
  intro us b k' c g a;cases g with
  | nil=>rw[Qe,Qy]at a;exact absurd a #[4]
  | snoc i j=>rw[Qe,Qe,Qy,Qy]at a;obtain⟨l,m,n,o⟩:=f i #[2];subst l;subst m;subst n;subst o;obtain⟨p,r,t,u⟩:=s.one #[u0] j;subst p;subst r;subst t;subst u;exact⟨rfl,rfl,rfl,rfl⟩
theorem Znr{b:#[bv]}{P:#[iC]}{a:List Ym}{k q:Int}{c:#[bL]}{many:Nat}(nd:#[lv])(h:Yv P a (Z7 b) k q)(h1:#[bP]<(many:Int)->c=af)(h2:a≠[]->#[bP]<=(many:Int))(W:Win (hdM b) (Zy b) c)(ok:∀x∈Z7 b,x.2.2<=x.2.1.length):a.length=min many (Xs P):=by
 have hl:=h.left nd;by_cases d:#[bP]<(many:Int)
 ·have e:=h1 d;subst e;rw[VE,Xt]at W;have hz:=Zl6 #[u0] W ok;lia
 ·by_cases f:a=[]
  ·subst f;simp only[List.length_nil]at d ⊢;lia
  ·have:=h2 f;lia
theorem Sh(rd:ae)(nb li lo:Int)(sd:ae)(a:V):#[17].lookup ("add_row" : ak)=af:=#[n]
theorem J4(rd:ae)(nb li lo:Int)(sd:ae)(a:V):#[17].lookup ("take_few" : ak)=af:=#[n]
theorem TX(rd:ae)(nb li lo:Int)(sd:ae)(a:V):#[17].lookup ("row_of" : ak)=af:=#[n]
theorem Zkv(k f:ae)(g:Int):#[hV].lookup ("to_go" : ak)=af:=#[io]
theorem Zgb(k f:ae)(g:Int):#[hV].lookup ("lengthen" : ak)=af:=#[io]
def Sg(a b:ae):Sp:=λvs H Q _=>X10 λ(m rd sd:ae) (L:List Zx) (s:StL) (nb li lo:Int) (c:V) (e:Zx)=>vs=#[o3,m,e.n]/\ZM a b H m rd sd L s nb li lo c/\e∈L/\Q (.ref e.p) H
theorem ZmT(T:#[e]):Mf P w K mg base 1 aj "row_of" #[96] (Sg au aj):=by
 show#[dj,T.t_Merge_row_of.mf,Lw,i,b];obtain⟨m,a,j,L,s,l,n,lo,o,e,rfl,M,c,q⟩:=h;refine⟨_,#[Zf,#[ZT,#[Zo,(Ti b),‹1›,#[w],#[O]],#[u4],#[ZB]],#[Zh,#[Zn,#[gK,b,1]]]],?_⟩;show#[fq,d,g];refine⟨_,rfl,_,rfl,m,aj,d,_,_,rfl,g,T.cl_Merge,T.na_Merge_rows,Z5 ..,a,_,rfl,Y6.k' (k:=#[ud]) M.rows (WG M.nd c),_,rfl,Y3 ?_⟩;exact⟨_,rfl,m,aj,d,_,_,rfl,g,T.cl_Merge,T.na_Merge_rows,Z5 ..,_,rfl,a,_,rfl,Y6.k' (k:=#[ud]) M.rows (WG M.nd c),q⟩
noncomputable def YY(L:#[bv])(n:Int):List Zx:=L.filter λe=>decide (e.n≠n)
theorem Zob(L:#[bv])(n:Int):WA #[s4] (.inl n)=kvM (YY L n):=by unfold WA kvM YY;rw[QaO];congr 1;refine List.filter_congr λe _=>?_;exact decide_eq_decide.mpr ⟨λh z=>h (by show (Sum.inl e.n:Key)=_;rw[z]),λh z=>h #[mR]⟩
theorem ZM.drop{f g:ae}{H:Hp}{m rd sd:ae}{L:#[bv]}{s:StL}{nb li lo:Int}{h:V}(M:#[el,f,g,h])(n:Int):ZM f g (upd H rd (.dK (kvM (YY L n)))) m rd sd (YY L n) s nb li lo h:=by
 show#[gU,j,n2,k,M.ne_m];show#[fq,l,o];refine⟨⟨l,by rw[Zc j];exact o⟩,Zd,by rw[Zc k.symm];exact M.stays,λe d t p=>?_,λe d=>?_,?_,?_,Qi (List.length_filter_le ..) M.few,M.sfew⟩
 ·have:=M.ats e d t p;show#[dX,M.rows]
 ·have i:=(Qac.mp d).1;obtain⟨_,_,_,a,b,c⟩:=M.ne_sd i;show#[eR,M.each,i]
 ·exact #[g0,M.up.sublist]
 ·exact #[g0,M.pd.sublist]
def Ol(c d:ae):Sp:=λvs H Q _=>X10 λ(m rd sd:ae) (L:List Zx) (s:StL) (nb li lo:Int) (h:V) (e:Zx)=>vs=#[o3,m,e.n]/\ZM c d H m rd sd L s nb li lo h/\e∈L /\
 ∀ (f:ae) (g:StL) (w:Option Int) (k q:Int) (a:Hp),H f=af->Win (hdM #[kh]) (Zy #[kh]) w->Ya (hdM #[kh]) g 8 (Zy #[kh])->YR (hdM #[kh]) 8 (Zy #[kh]) k q->ZM c d a m rd f #[kh] g nb (li+k) (lo+q) (YV w)->#[d2,H,rd,a]->Q (.int #[jf]) a
theorem Zko(T:#[e])(x:#[aJ])(y:#[tx])(B:#[86]):Mf P w K mg base 14 aj "drop_row" #[96] (Ol au aj):=by
 show#[dj,T.t_Merge_drop_row.mf,SS,C,d];obtain⟨m,a,g,L,s,l,p,i,r,e,rfl,M,j,q⟩:=h;refine⟨_,#[Zf,#[Zz,2,SS.nd,#[3],#[Yq,x,T.cl_Row,d,#[Yh,y,T.cl_Merge,d,‹0›,#[27]]]],#[Zf,#[ZL,#[YF,Q8,QaC,PySem.F.type_dict_pop,Rv,#[w],#[27]]],#[Zf,#[ZL,#[eI,B,d,0]],#[bj]]]],?_⟩;show#[fq,t,u];show#[pG,Re,j,D,F,Re.at'.ob];refine⟨_,rfl,m,t,_,rfl,u,TX ..,_,rfl,m,a,g,L,s,l,p,i,r,e,rfl,M,j,e.p,D,_,rfl,F,Zkv ..,e.p,e.k,e.f,e.ss,e.g,rfl,Re.at',_,rfl,m,aj,t,_,_,rfl,u,T.cl_Merge,T.na_Merge_rows,Z5 ..,.inr (.inr (.inl ⟨rfl,.inl ⟨_,M.rows⟩⟩)),_,rfl,a,_,.inl e.n,_,rfl,rfl,M.rows,WG M.nd j,?_⟩;rw[Zob];have k:=M.drop e.n;have k10:#[u7,o,a,#[rQ]]:=λb o c n=>by rw[Zc n];exact c
 have free:∀b,#[rQ] b=af->H b=af:=λb c=>by
  by_cases z:b=a
  ·show#[p2,Zd,c]
  ·rw[Zc z]at c;exact c
 generalize upd H a (.dK (kvM (YY L e.n)))=jG at k k10 free ⊢;show#[dz,G,I,k.ob];refine⟨_,rfl,m,G,_,rfl,I,Sr ..,m,a,g,_,s,_,_,_,_,rfl,k,λv J N k0 O R S V W X Y k12=>⟨_,rfl,?_⟩⟩;exact q v J N k0 O R (free v S) V W X Y (λb o c n Z=>k12 b o (k10 b o c Z) n)
theorem Sf(k f:ae)(g:Int):YZ k f g=#[hF]:=by unfold YZ;rw[Xk,Zw nFK,Xk,Zw nGK,Zw nGF,Xk]
theorem Zhu(k f:ae)(g:Int)(k':ae):Zv "all_keys" (.ref k') #[hV]=YZ k' f g:=by rw[Sf,Sf,Wb]
theorem Zhs(k f:ae)(g:Int)(a:ae):Zv "fars" #[cd] #[hV]=YZ k a g:=by rw[Sf,Sf,Zw nFK,Wb]
def J3(C:ae):Sp:=λvs H Q _=>X7 λ(p k f a:ae) (ss ks:List ak) (g:Nat)=>vs=#[oJ,p,a]/\VN C H p k f ss g/\H a=U #[57]/\(ss++ks).length<=200/\(∀x∈ss++ks,x.length<=1000) /\
 ∀ (k' d:ae) (c:Hp),H k'=af->H d=af->VN C c p k' d (ss++ks) g->#[d1,H,p,c]->Q .non c
theorem Zjm(T:#[e])(D:#[cX]):Mf P w K mg base 4 au "lengthen" #[83] (J3 au):=by
 refine T.t_Row_lengthen.mf Zgc #[u] (λaN fa A outer s H F Q E G h=>?_);obtain⟨p,k,f,a,i,j,g,rfl,R,I,C,J,q⟩:=h;refine⟨_,#[Zf,#[Yb,‹0›,#[ZY,Vs,#[w],‹1›]],#[Zh,#[Yb,‹0›,#[ZD,D,G,#[Zg,#[w]],#[5]]]]],?_⟩;obtain⟨⟨d,t⟩,L,hf⟩:=R;refine⟨_,rfl,p,au,d,_,_,rfl,t,T.cl_Row,T.na_Row_all_keys,VO _ _ _,_,rfl,k,a,_,_,rfl,rfl,L,I,(by rw[Qa,Qa];rw[Qe]at C;exact small #[2]),λc v=>?_⟩;rw[<- Qg];have x:p≠c:=Ze t v;refine⟨_,rfl,p,au,d,_,rfl,#[oK,x,t],T.cl_Row,T.na_Row_all_keys,Oq ..,?_⟩;rw[Zhu];have m:#[ai] p=U (.ins au d (YZ c f g)):=Zd;have y:#[ai] c=U (.lst ((i++j).map V.str)):=by rw[Zc x.symm];exact Zd
 have z:#[fz,H,p,#[ai]]:=λb o h n=>by rw[Zc n,Zc (Ze h v)];exact h
 generalize upd (upd H c (.lst ((i++j).map V.str))) p (.ins au d (YZ c f g))=H2 at m y z ⊢;refine⟨_,rfl,p,au,d,_,_,rfl,m,T.cl_Row,T.na_Row_all_keys,VO _ _ _,c,i++j,rfl,SqL.of y,C,J,λl H3 r M B=>?_⟩;have N:H l=af:=by
  cases O:H l with
  | none=>rfl
  | some u =>
   by_cases e:l=p
   ·show#[dV,e,m,r]
   ·rw[z l u O e]at r;cases r
 have S:p≠l:=Ze m r;refine⟨_,rfl,p,au,d,_,rfl,B _ _ m,T.cl_Row,T.na_Row_fars,Oq ..,?_⟩;rw[Zhs];refine q c l _ v N ⟨⟨d,Zd⟩,?_,?_⟩ λb o h n=>?_
 ·rw[Zc x.symm];exact B _ _ y
 ·rw[Zc S.symm];exact M
 ·rw[Zc n];exact B _ _ (z b o h n)
noncomputable def XJ(n:Int)(ks:#[T])(k f:ae)(x:Zx):Zx:=if x.n=n then ⟨x.n,x.p,k,f,x.ss++ks,x.g⟩ else x
noncomputable def YN(L:#[bv])(n:Int)(ks:#[T])(k f:ae):List Zx:=L.map (XJ n ks k f)
theorem Oj(n:Int)(ks:#[T])(k f:ae)(x:Zx):#[iV].n=x.n/\#[iV].p=x.p/\#[iV].g=x.g:=by unfold XJ;split<;>exact⟨rfl,rfl,rfl⟩
theorem TW(L:#[bv])(n:Int)(ks:#[T])(k f:ae):Zy #[ta]=Zy L:=by unfold Zy YN;rw[QB];exact QR λe _=>(Oj n ks k f e).1
theorem Znu(L:#[bv])(n:Int)(ks:#[T])(k f:ae):kvM #[ta]=kvM L:=by unfold kvM YN;rw[QB];refine QR λe _=>?_;obtain⟨a,b,_⟩:=Oj n ks k f e;simp only[Function.comp,a,b]
theorem J2:∀ (A B:List Yf),A.map #[ql]=B.map #[ql]->hdL A=hdL B
 | [],[],_=>rfl
 | [],_::_,h=>by cases h
 | _::_,[],h=>by cases h
 | a::A,b::B,h=>by
  rw[Qn,Qn]at h;injection h with h1 h2;injection h1 with d f;have ih:=J2 A B h2;funext n;show#[kt];split
  ·simp only[Option.bind_some];rw[f]
  ·exact c
theorem ZnS{L:#[bv]}{n:Int}{ks:#[T]}(h:∀x∈L,x.n=n->x.g<x.ss.length\/ks=[])(k f:ae):hdM #[ta]=hdM L:=by
 refine J2 _ _ ?_;unfold YN;rw[QB,QB,QB];refine QR λx a=>?_;show (#[iV].n,#[iV].ss[#[iV].g]?)=(x.n,x.ss[x.g]?);unfold XJ;split
 ·rename_i e;rcases h x a e with z|z
  ·exact congrArg (Prod.mk x.n) (QO z)
  ·rw[z,Qad]
 ·rfl
theorem Oi:∀ {P:List Zx},(P.map (·.n)).Nodup->∀ {p q:Zx},p∈P->q∈P->p.n=q.n->p=q
 | [],_,_,_,h,_,_=>by cases h
 | x::r,nd,p,q,a,hq,e=>by
  rw[Qn,Q2]at nd;rcases QJ.mp a with h1|h1
  ·rcases QJ.mp hq with h2|h2
   ·rw[h1,h2]
   ·exact absurd (show x.n∈r.map (·.n) by rw[<- h1,e];exact Qj (f:=λx:Zx=>x.n) h2) nd.1
  ·rcases QJ.mp hq with h2|h2
   ·exact absurd (show x.n∈r.map (·.n) by rw[<- h2,<- e];exact Qj (f:=λx:Zx=>x.n) h1) nd.1
   ·exact Oi nd.2 h1 h2 e
theorem ZM.grow{f n:ae}{H g:Hp}{m rd sd:ae}{L:#[bv]}{s:StL}{nb li lo:Int}{p:V}(M:#[el,f,n,p]){e:Zx}(he:e∈L){ks:#[T]}{k' c:ae}(R:VN f g e.p k' c #[lt] e.g)(hl:#[lt].length<=200)(hs:#[p0,#[lt]])(hz:∀x∈e.ss++ks,x.length<=1000/\AZ x)
  (k:#[fz,H,e.p,g]):ZM f n g m rd sd (YN L e.n ks k' c) s nb li lo p:=by
 show#[fq,q,r];obtain⟨de,i⟩:=#[mU];refine⟨⟨q,k _ _ r (M.ne_p he).1⟩,by rw[Znu];exact k _ _ M.rows (M.ne_sd he).2.2.2.1,k _ _ M.stays (M.ne_sd he).1,λx j t u=>?_,λx j=>?_,by rw[TW];exact M.up,?_,by unfold YN;rw[Qa];exact M.few,M.sfew⟩
 ·have h:=M.ats x j t u;exact k _ _ h (λz=>by rw[z,i]at h;cases h)
 ·show#[dA,y,d,j];by_cases l:y.n=e.n
  ·have v:y=e:=by have nd:=M.nd;unfold Zy at nd;exact Oi nd d he l
   subst v;rw[show XJ y.n ks k' c y=⟨y.n,y.p,k',c,y.ss++ks,y.g⟩ by unfold XJ;rw[if_pos rfl]];exact⟨R,by show y.g<=(y.ss++ks).length;rw[Qe];have:=(M.each y d).le;lia,hl,hs,hz⟩
  ·rw[show XJ e.n ks k' c y=y by unfold XJ;rw[if_neg l]];have a:=M.each y d;have np:y.p≠e.p:=λz=>l (by have:=J9 M.pd d he z;rw[this]);show#[dz,w,A,a.at'.ob];have B:y.k≠e.p:=λz=>by have:=a.at'.ks;show#[gi,i]
   have C:y.f≠e.p:=λz=>by have:=a.at'.fs;show#[gi,i]
   exact⟨⟨⟨w,k _ _ A np⟩,k _ _ a.at'.ks B,k _ _ a.at'.fs C⟩,a.le,a.len,a.srt,a.str⟩
 ·have:(YN L e.n ks k' c).map (·.p)=L.map (·.p):=by unfold YN;rw[QB];exact QR λx _=>(Oj _ _ _ _ x).2.1
  rw[this];exact M.pd
def Oh(f g:ae):Sp:=λvs H Q _=>X12 λ(m rd sd:ae) (L:List Zx) (s:StL) (nb li lo:Int) (w:Option Int) (e:Zx) (r:ae) (ks:List ak)=>vs=[.ref m,.int e.n,.ref r]/\ZM f g H m rd sd L s nb li lo (YV w)/\Win #[cQ] #[jR] w/\Z0 #[cQ] s #[jR]/\e∈L/\H r=U #[57]/\r≠e.p/\#[lt].length<=200/\sortedS #[lt]=true/\(∀x∈e.ss++ks,x.length<=1000/\AZ x) /\
 ∀ (k' a c:ae) (h:StL) (i:Option Int) (k q:Int) (d:Hp),H k'=af->H a=af->((#[tF]/\c=sd/\k=0/\q=0)\/(e.g=e.ss.length/\ks≠[]/\H c=af/\YR (hdM #[kx]) 8 #[jR] k q))->Win (hdM #[kx]) #[jR] i->Z0 (hdM #[kx]) h #[jR]->ZM f g d m rd c #[kx] h nb (li+k) (lo+q) (YV i)->#[d2,H,e.p,d]->Q .non d
theorem ZqF(T:#[e])(b6:#[tx])(bA:#[55])(aX:#[40])(eX:Mf P w K mg base 4 au "lengthen" #[83] (J3 au))(aV:#[86]):Mf P w K mg base 14 aj "grow" #[97] (Oh au aj):=by
 refine T.t_Merge_grow.mf Ul #[u] (λaN fa A outer s H vs Q E g h=>?_);obtain⟨m,D,t,L,s,S,X,F,w0,e,r,a,rfl,M,W,ok,i,G,D9,v,Y,I,q⟩:=h;refine⟨_,#[Zf,#[Zz,3,Ul.nd,#[3],#[Yh,b6,T.cl_Merge,g,‹0›,#[27]]],#[Zf,#[ZL,#[ZD,bA,g,#[kB],#[5]]],#[Zf,#[Zz,4,Ul.nd,#[3],#[XF,Xg,#[pY,aX,g,3],#[ZR],#[cZ]]],#[Zf,#[ZL,#[Yh,eX,T.cl_Row,g,‹3›,#[Zg,‹2›]]],#[Zh,#[ZT,(@PW.pt _ _ _ #[Xi,#[W8,‹4›],#[W7,#[oH,#[ax]]]]),#[Zh,#[ZL,#[eI,aV,g,0]]],#[ZB]]]]]]],?_⟩;show#[uW];show#[pG,Re,i,de,fA,Re.at'.ob];have lZ:e.ss.length+a.length<=200:=by rw[Qe]at v;exact v
 refine⟨_,rfl,m,dx,_,rfl,hm,TX ..,_,rfl,m,D,t,L,s,S,X,F,_,e,rfl,M,i,_,rfl,_,rfl,e.p,au,de,_,_,rfl,fA,T.cl_Row,T.na_Row_all_keys,VO _ _ _,_,rfl,e.k,r,_,_,rfl,rfl,Re.at'.ks,G,(by rw[Qa,Qa];exact small #[2]),λc hc=>?_⟩;rw[<- Qg];refine⟨e.n,c,e.ss++a,rfl,SqL.of Zd,by lia,λx j=>(I x j).1,Sq Y,λH1 Ea=>?_⟩;have f:ZG H H1:=(Zi hc _).trans Ea;have M1:=M.same f;have J:=M1.each e i;show#[dz,Z,uS,J.at'.ob];refine⟨_,rfl,e.p,Z,_,rfl,uS,VI ..,e.p,e.k,e.f,e.ss,e.g,rfl,J.at',rfl,_,rfl,e.p,Z,_,rfl,uS,Zgb ..,_,rfl,e.p,e.k,e.f,r,e.ss,a,e.g,rfl,J.at',f _ _ G,v,λx j=>(I x j).1,λk' k N kL zA R2 k2=>?_⟩;have M2:=M1.grow i R2 v Y I k2;have y:#[fz,H,e.p,N]:=λb o l n=>k2 b o (f b o l) n;have fo:=y _ _ G D9;have rp:(e.g<e.ss.length\/a=[])->Q .non N:=λdG=>by have eh:hdM (YN L e.n a k' k)=hdM L:=ZnS (λx j hn=>by rw[Oi M.nd j i hn];exact dG) k' k;refine q k' k t s w0 0 0 N (f.free kL) (f.free zA) (.inl ⟨dG,rfl,rfl,rfl⟩) #[dp,eh,W] #[dp,eh,ok] (by rw[Qaz,Qaz];exact M2) (λb o l n O=>y b o l O)
 refine⟨_,rfl,_,rfl,?_⟩;by_cases hg:e.g<e.ss.length
 ·have R:WY e.ss e.g=.str e.ss[e.g]:=T3 (Qb hg);rw[R];exact Yo #[20] (rp (.inl hg))
 ·have R:WY e.ss e.g=.non:=by unfold WY;rw[QY #[2]]
  rw[R];refine YS rfl ?_;refine⟨_,rfl,r,_,rfl,.inl (SqL.of fo),_,_,rfl,rfl,_,rfl,YW #[cO] #[cO]⟩
  ·have p:(0:Int)<#[sH]:=#[aF];rw[Qa]at p;have cy:a≠[]:=λz=>by rw[z]at p;exact absurd p #[6]
   show#[li];refine⟨_,rfl,m,iH,_,rfl,dA,Sr ..,m,D,t,_,s,_,_,_,_,rfl,M2,λB s' w1 k1 q1 H3 C W3 S3 P3 M3 k3=>?_⟩;rw[TW]at W3 S3 P3;have rn:=VH 8 (hdM (YN L e.n a k' k)) s' #[jR] M.up (Qi (show (Zy L).length<=60 by unfold Zy;rw[Qa];exact M.few) #[6]) #[6] S3;have le:=Re.le;have zB:H B=af:=by
    cases w':H B with
    | none=>rfl
    | some u =>
     by_cases z:B=e.p
     ·show#[dz,d2,lY,R2.ob];show#[p2,lY,C]
     ·rw[y _ _ w' z]at C;cases C
   exact q k' k B s' w1 k1 q1 H3 (f.free kL) (f.free zA) (.inr ⟨by lia,cy,zB,P3⟩) W3 rn M3 (λb o l n O=>k3 b o (y b o l O) n)
  ·have p:¬ (0:Int)<#[sH]:=#[sc];rw[Qa]at p;exact rp (.inr (Qau.mp #[2]))
theorem Og(ss:#[T])(m:Nat)(h:m<=ss.length):Xd #[24] af #[la]=(ss.take m).map V.str/\Xd #[24] #[la] af=(ss.drop m).map V.str:=by
 have e:∀d:Nat,HT.sIx #[24].length d #[la]=m:=λd=>by unfold HT.sIx;show#[h3];lia
 have a:∀d:Nat,HT.sIx #[24].length d af=d:=λd=>rfl;constructor
 ·unfold Xd;show#[lL]
 ·unfold Xd;rw[e,a,<- List.map_drop,<- List.map_take,Qw #[pU,QT,Qa]]
theorem Of{a:Int}(h0:0<=a)(h:a<1000000):a.natAbs.log2<1920:=by
 by_cases z:a.natAbs=0
 ·rw[z];decide
 ·have b:a.natAbs<2 ^ 20:=by lia
  exact QD (#[ti].mpr b) #[6]
theorem TV{a:Int}(h:a.natAbs.log2<1920):(ak.ofString (toString a)).length<=1921:=by have e:=int_text_length_le (k:=1920) #[6] h;rw[PySem.ofString_length];lia
noncomputable def xfs(r p:Int):List #[rW]:=[("row",.int r),("place",.int p)]
def J1(C:ae):Sp:=λvs H Q _=>X3 λ(e:ae) (r p:Int)=>vs=[.ref e,.int r,.int p]/\H e=U #[ls]/\0<=r/\r<1000000/\0<=p/\p<1000000 /\
 ∀a,H a=af->a≠e->Q .non (upd #[g7,H,a] a (xdO a (xfs r p)))
theorem ZnO(T:#[e]):Xf P w K mg base 1 ao ap "OutOfOrder" #[br] (J1 ao):=by
 refine T.t_OutOfOrder_init.xf ZeL #[u] (λaN f A outer s H l Q E hr d h=>?_);obtain⟨e,r,p,rfl,g,o,t,u,v,q⟩:=h;refine⟨_,#[Zf,#[ZL,(@LY _ _ _ _ _ _ _ _ _ _ _ _ d T.xb_MergeError rfl T.m_MergeError #[Zg,‹0›,#[Wl,#[Yd,#[Zu],#[Yd,#[gl,UJ,1],#[Yd,#[Zu],#[gv,UJ,2]]]]]] #[6] #[5] #[5] #[5])],#[Zf,#[oP,L9,T.na_OutOfOrder_row,1],#[Zh,#[oP,Ztd,T.na_OutOfOrder_place,2]]]],?_⟩;have i:=Of o t;have j:=Of u v;have B:=TV i;have C:=TV j;have z:#[19]:=λa b c=>by rw[strLen_append];lia
 have y:#[aX]:=λh=>by rw[aO];lia
 show#[eL,"row ",4,B];show#[gZ,a3,a2,": the key at place ",19];have a4:=z a3 C #[6];show#[gZ,a5,a4," is less than the one ahead",27];refine⟨_,rfl,_,rfl,y #[sC],_,rfl,_,rfl,i,_,rfl,y #[lw],_,rfl,y (Qi a3 #[6]),_,rfl,_,rfl,j,_,rfl,y (Qi a4 #[6]),_,rfl,y (Qi a5 #[6]),y (Qi a5 #[6]),e,_,af,rfl,g,_,rfl,_,rfl,e,rfl,g,λk hd ne=>?_⟩;refine⟨_,rfl,_,rfl,e,k,_,rfl,by rw[Zc ne.symm];exact Zd,Zd,ne,by show 1<1000;decide,?_⟩;rw[ZqB];exact q k hd ne
def J0(b:ae)(H:Hp)(n j:Int)(E:XK):Prop:=∀ (dx:ae) (a:Hp),ZG H a->H dx=af->a dx=U (xdO dx (xfs n j))->E #[sE] (U dx) a
def Oe(K:#[7])(c:ae):Sp:=λvs H Q E=>X3 λ(n:Int) (a:ae) (ss:List ak)=>vs=[.int n,.ref a]/\SqL K H a #[24]/\ss.length<=400/\#[cb] /\
 ((WZ ss .non/\∀b,ZG H b->Q .non b)\/∃j:Int,WZ ss (.int j)/\0<=n/\n<1000000/\J0 c H n j E)
theorem Zkz(T:#[e])(y:#[b2])(B:Xf P w K mg base 1 ao ap "OutOfOrder" #[br] (J1 ao)) :
  D1f P w K mg base 5 "refuse_break" #[hw] (Oe K ao):=by
 show#[dj,T.t_refuse_break.df1,SQ,C,m];obtain⟨n,a,p,rfl,D,F,G,I⟩:=h;refine⟨_,#[Zf,#[Zz,2,SQ.nd,#[3],#[fG,y,m]],#[Zh,#[ZT,#[dt,Tz,2,#[ZR]],#[Zh,(@Zs5 _ _ _ _ _ _ _ _ _ _ _ _ _ _ _ B #[76] m #[d6,0,2] #[6] #[sv] #[5] #[6] #[5] #[5])],#[ZB]]]],?_⟩;refine⟨_,rfl,a,p,rfl,D,F,G,λv r c d=>?_⟩;rcases I with⟨J,q⟩|⟨j,t,L,M,q⟩
 ·have e:=O5 c J;subst e;exact⟨_,rfl,rfl,_,rfl,Y3 (q r d)⟩
 have e:=O5 c t;subst e;have u:0<=j/\j<1000000:=by
  rcases t with⟨z,_⟩|⟨k,z,hk,_⟩
  ·cases z
  ·cases z;lia
 refine⟨_,rfl,rfl,_,rfl,Yz ?_⟩;refine⟨_,rfl,_,rfl,λe N=>⟨e,n,j,rfl,Zd,L,M,u.1,u.2,λg hd ne=>⟨rfl,U g,by rw[Zc ne.symm];exact Zd,?_⟩⟩⟩;have x:r g=af:=by rw[Zc ne]at hd;exact hd
 refine q g _ #[g5,b,o,c] (d.free x) (VX Zd ne);have i:=d b o c;have l:b≠e:=Ze i N;exact VX (by rw[Zc (Ze i x),Zc l,Zc l];exact i) l
theorem JZ{a:Int}(h:a.natAbs<2 ^ 21):a.natAbs.log2<1920:=by
 by_cases z:a.natAbs=0
 ·rw[z];decide
 ·exact QD (#[ti].mpr h) #[6]
theorem Zok{L:#[bv]}{n:Int}(hn:n ∉ Zy L):Y1 #[s4] (.inl n)=af:=by
 cases a:Y1 (kvM L) (.inl n) with
 | none=>rfl
 | some v=>obtain⟨e,b,z⟩:=Qq.mp (UN a);injection z with z _;injection z with z;exact absurd (show n∈Zy L by rw[<- z];exact Qj (f:=λe:Zx=>e.n) b) hn
def Se(ks:#[T]):Prop:=ks.length<=200/\∀x∈ks,x.length<=1000/\AZ x
noncomputable def ZtL(n:Int):List #[rW]:=[("line",.int n)]
def ZpO(C:ae):Sp:=λvs H Q _=>X2 λ(e:ae) (r:Int)=>vs=#[o3,e,r]/\H e=U #[ls]/\0<=r/\r<1000000 /\
 ∀a,H a=af->a≠e->Q .non (upd #[g7,H,a] a (xdO a (ZtL r)))
theorem Znx(T:#[e]):Xf P w K mg base 1 ar ap "BadLine" #[nJ] (ZpO ar):=by
 refine T.t_BadLine_init.xf Zge #[u] (λaN f A outer s H j Q E hr d h=>?_);show#[o6,e,r,g,k,l];refine⟨_,#[Zf,#[ZL,(@LY _ _ _ _ _ _ _ _ _ _ _ _ d T.xb_MergeError rfl T.m_MergeError #[Zg,‹0›,#[Wl,#[Yd,#[Zu],#[gv,UJ,1]]]] #[6] #[5] #[5] #[5])],#[Zh,#[oP,L9,T.na_BadLine_line,1]]],?_⟩;have i:=Of k l;have o:=TV i;have z:#[19]:=λa b c=>by rw[strLen_append];lia
 have y:#[aX]:=λh=>by rw[aO];lia
 show#[eL,"line ",5,o];show#[gZ,a3,a2," of the sheet is not so written",31];refine⟨_,rfl,_,rfl,y #[sC],_,rfl,_,rfl,i,_,rfl,y #[lw],_,rfl,y (Qi a3 #[6]),y (Qi a3 #[6]),e,_,af,rfl,g,?_⟩;exact⟨_,rfl,_,rfl,e,rfl,g,λp hd ne=>q p hd ne⟩
def JY(a b c:ae):Sp:=λvs H _ E=>X10 λ(m rd sd:ae) (L:List Zx) (s:StL) (nb li lo:Int) (d:V) (n:Int)=>vs=#[o3,m,n]/\ZM a b H m rd sd L s nb li lo d/\n ∉ Zy L/\n.natAbs<2 ^ 21/\E #[uP] af H
def Oc(a b c:ae):Sp:=λvs H Q E=>JY a b c vs H Q E\/Sg a b vs H Q E
theorem Zlg(T:#[e]):M1f P w K mg base 1 aj "row_of" #[96] (Oc au aj ax):=by
 refine T.t_Merge_row_of.mf1 Lw (λv H Q E h=>?_) #[dk,v,j]
 ·rcases h with⟨m,d,l,L,s,o,p,lo,r,n,rfl,_⟩|⟨m,d,l,L,s,o,p,lo,r,n,rfl,_⟩<;>rfl
 refine⟨_,#[Zf,#[ZT,#[Zo,(Ti j),‹1›,#[w],#[O]],#[Zh,(@LV _ _ _ _ _ _ _ _ _ _ _ _ T.xw_NoRow #[76] j #[Zg,#[Wl,#[Yd,#[Zu],#[Yd,#[gl,UJ,1],(@Vl _)]]]] #[5] #[6] #[5] #[5])],#[ZB]],#[Zh,#[Zn,#[gK,j,1]]]],?_⟩;rcases h with h|⟨m,d,l,L,s,o,p,lo,r,e,rfl,M,t,q⟩
 rotate_left
 ·show#[fq,g,i];refine⟨_,rfl,_,rfl,m,aj,g,_,_,rfl,i,T.cl_Merge,T.na_Merge_rows,Z5 ..,d,_,rfl,Y6.k' (k:=#[ud]) M.rows (WG M.nd t),_,rfl,Y3 ?_⟩;exact⟨_,rfl,m,aj,g,_,_,rfl,i,T.cl_Merge,T.na_Merge_rows,Z5 ..,_,rfl,d,_,rfl,Y6.k' (k:=#[ud]) M.rows (WG M.nd t),q⟩
 obtain⟨m,d,l,L,s,o,p,lo,r,n,rfl,M,B,C,q⟩:=h;show#[fq,g,i];refine⟨_,rfl,_,rfl,m,aj,g,_,_,rfl,i,T.cl_Merge,T.na_Merge_rows,Z5 ..,d,_,rfl,Y6.k' (k:=.inl n) M.rows (Zok B),_,rfl,Yz ?_⟩;have u:=JZ C;have D:=TV u;have z:#[19]:=λa b c=>by rw[strLen_append];lia
 have y:#[aX]:=λh=>by rw[aO];lia
 show#[eL,"there is no row ",16,D];exact⟨_,rfl,y #[sC],_,rfl,_,rfl,u,_,rfl,y #[lw],y #[lw],_,rfl,q⟩
theorem Zi7(T:#[e])(i:#[aJ])(j:#[jn]):M1f P w K mg base 14 aj "drop_row" #[96] (JY au aj ax):=by
 show#[dj,T.t_Merge_drop_row.mf1,SS,k,a];obtain⟨m,b,c,L,s,d,e,lo,g,n,rfl,M,l,o,q⟩:=h;refine⟨_,#[Zf,#[Zz,2,SS.nd,#[3],#[Yq,i,T.cl_Row,a,#[pR,j,a,#[27]]]],#[h1]],?_⟩;show#[fq,p,r];exact⟨_,rfl,m,p,_,rfl,r,TX ..,_,rfl,.inl ⟨m,b,c,L,s,d,e,lo,g,n,rfl,M,l,o,q⟩⟩
def Rf(L:#[iC])(nb:Int)(H:Hp)(ask:ak)(g m:V):Option (Option (Int×Int))->Prop
 | none=>((ask = "drop"/\m=.non)\/(ask = "grow"/\∃k,m=.ref k))/\∃n,g=.int n/\n ∉ Y5 L/\n.natAbs<2 ^ 21
 | some af=>ask = "add"/\m=.non/\X2 λk ks=>g=.ref k/\H k=U #[57]/\Se ks/\sortedS ks=true/\16<=L.length
 | some (U a)=>(ask = "add"/\m=.non/\a.1=nb/\X2 λk ks=>g=.ref k/\H k=U #[57]/\Se ks/\WZ ks (.int a.2)) \/
  (ask = "grow"/\∃e∈L,a.1=e.1/\g=.int e.1/\X2 λk ks=>m=.ref k/\H k=U #[57]/\Se ks/\WZ (e.2.1++ks) (.int a.2))
def RfE(c d e:ae)(H:Hp)(E:XK):Option (Option (Int×Int))->Prop
 | none=>∀a,ZG H a->E #[uP] af a
 | some af=>∀a,ZG H a->E (.ref d) af a
 | some (U b)=>J0 e H b.1 b.2 E
def Ob(a b c d e:ae):Sp:=λvs H _ E=>X11 λ(m rd sd:ae) (L:List Zx) (s:StL) (nb li lo:Int) (f g:V) (o:Option (Option (Int×Int)))=>vs=[.ref m,g]/\ZM a b H m rd sd L s nb li lo f/\0<=nb/\nb<1000000/\Rf (Z7 L) nb H "add" g .non o/\RfE c d e H E o
theorem Oa(o:ak)(h:o = "drop"\/o = "grow"):("add" : ak)≠o:=by rcases h with rfl|rfl<;>ac_rfl
theorem Zqz(T:#[e])(N:#[jX]):M1f P w K mg base 14 aj "add_row" #[bc] (Ob au aj ax aG ao):=by
 show#[dj,T.t_Merge_add_row.mf1,SU,O,D];obtain⟨m,i,R,L,s,F,S,lo,V,g,o,rfl,M,l,nb1,p,q⟩:=h;refine⟨_,#[Zf,#[u3],#[Zf,#[ZL,#[Te,N,#[76],D,#[d6,2,1]]],#[Zf,#[ZT,#[lB],#[Zh,(@LV _ _ _ _ _ _ _ _ _ _ _ _ T.xw_Full #[76] D #[Zg,#[Wl,#[Yd,(@UJ _ _ _ _ #[bp]),#[Yd,#[Zu],(@Vl _)]]]] #[5] #[6] #[5] #[5])],#[ZB]],#[Zf,#[XQ],#[h1]]]]],?_⟩;show#[fq,r,G];refine#[vB,r,G,T.na_Merge_next_number,OG,?_];cases o with
 | none =>
  rcases p.1 with⟨h,_⟩|⟨h,_⟩
  ·exact absurd h (Oa _ #[8])
  ·exact absurd h (Oa _ #[kn])
 | some o =>
 cases o with
 | some W =>
  show#[dz,n,j,W];rcases p with⟨_,_,rfl,k,t,rfl,u,e,X⟩|⟨h,_⟩
  ·exact⟨_,rfl,_,rfl,n,k,t,rfl,SqL.of u,by have:=e.1;lia,λx v=>(e.2 x v).1,.inr ⟨j,X,l,nb1,q⟩⟩
  ·exact absurd h (Oa _ #[kn])
 | none =>
  obtain⟨_,_,k,t,rfl,u,e,Y,B⟩:=p;refine⟨_,rfl,_,rfl,F,k,t,rfl,SqL.of u,by have:=e.1;lia,λx v=>(e.2 x v).1,.inl ⟨Sq Y,λZ C=>?_⟩⟩;have I:=C _ _ G;have M1:=M.same C;have jN:#[m3]:=by unfold kvM;rw[Qa]
  have iP:=M.few;have Fg:16<=L.length:=by unfold Z7 at B;rw[Qa]at B;exact B
  refine⟨_,rfl,m,aj,r,_,_,rfl,I,T.cl_Merge,T.na_Merge_rows,Z5 ..,i,_,rfl,M1.rows,_,_,rfl,rfl,_,rfl,YW #[sZ] (λd=>absurd (decide_eq_true (show (16:Int)<=#[66] by lia)) d)⟩;have J:#[66].natAbs.log2<1920:=JZ #[2];have tr:=TV J;have z:#[19]:=λa b c=>by rw[strLen_append];lia
  have y:#[aX]:=λh=>by rw[aO];lia
  have a1:(ak.empty++ak.ofString (toString #[66])).length<=0+1921:=z #[6] tr #[6];show#[gZ,a2,a1," rows are there",15];exact⟨_,rfl,m,aj,r,_,_,rfl,I,T.cl_Merge,T.na_Merge_rows,Z5 ..,i,_,rfl,M1.rows,_,rfl,J,_,rfl,y #[sC],_,rfl,y #[lw],y #[lw],_,rfl,q Z C⟩
def N9(a b c d f:ae):Sp:=λvs H _ E=>X12 λ(m rd sd:ae) (L:List Zx) (s:StL) (nb li lo:Int) (h g k:V) (o:Option (Option (Int×Int)))=>vs=[.ref m,g,k]/\ZM a b H m rd sd L s nb li lo h/\(∀e∈L,0<=e.n/\e.n<1000000)/\Rf (Z7 L) nb H "grow" g k o/\RfE c d f H E o
theorem ZoB(T:#[e])(J:#[jX])(N:#[jn]):M1f P w K mg base 14 aj "grow" #[97] (N9 au aj ax aG ao):=by
 show#[dj,T.t_Merge_grow.mf1,Ul,O,z];obtain⟨m,i,l,L,s,p,r,lo,t,g,k,o,rfl,M,B,u,q⟩:=h;refine⟨_,#[Zf,#[Zz,3,Ul.nd,#[3],#[pR,N,z,#[27]]],#[Zf,#[ZL,#[Te,J,#[76],z,#[kB]]],#[h1]]],?_⟩;show#[fq,C,D];have F:("grow" : ak) ≠ "add":=by ac_rfl
 cases o with
 | none=>obtain⟨_,n,rfl,G,R⟩:=u;rw[<- Xt]at G;exact⟨_,rfl,m,C,_,rfl,D,TX ..,_,rfl,.inl ⟨m,i,l,L,s,p,r,lo,t,n,rfl,M,G,R,q H #[ja]⟩⟩
 | some o =>
 cases o with
 | none=>exact absurd u.1 F
 | some S =>
  show#[dz,n,j,S];rcases u with⟨h,_⟩|⟨_,x,hx,rfl,rfl,V,W,rfl,X,v,y⟩
  ·exact absurd h F
  show#[dA,e,a,hx];show#[pG,Re,a,Y,Z,Re.at'.ob];refine⟨_,rfl,m,C,_,rfl,D,TX ..,_,rfl,.inr ⟨m,i,l,L,s,p,r,lo,t,e,rfl,M,a,?_⟩⟩;refine⟨_,rfl,_,rfl,e.p,au,Y,_,_,rfl,Z,T.cl_Row,T.na_Row_all_keys,VO _ _ _,_,rfl,e.k,V,_,_,rfl,rfl,Re.at'.ks,X,(by rw[Qa,Qa];have:=v.1;have:=Re.len;exact small #[2]),λc I=>?_⟩;rw[<- Qg];refine⟨e.n,c,e.ss++W,rfl,SqL.of Zd,(by rw[Qe];have:=v.1;have:=Re.len;lia),(λx hx=>?_),.inr ⟨j,y,(B e a).1,(B e a).2,λd H' s' hd h'=>q d H' (λb o y=>s' b o (Zi I _ b o y)) ((Zi I _).free hd) h'⟩⟩;rcases Ql.mp hx with hx|hx
  ·exact(Re.str x hx).1
  ·exact(v.2 x hx).1
theorem N8:∀a b:List Nat,Spec.ltCps a b=true↔a<b
 | [],[]=>by simp[Spec.ltCps]
 | [],y::s=>by simp[Spec.ltCps]
 | x::r,[]=>by simp[Spec.ltCps]
 | x::r,y::s=>by have ih:=N8 r s;rw[List.cons_lt_cons_iff];simp[Spec.ltCps,ih]
def LeS(a b:ak):Prop:=¬ b.cps.toList<a.cps.toList
theorem LeS.trans{a b c:ak}(h:LeS a b)(k:LeS b c):LeS a c:=List.not_lt.mpr (List.le_trans (List.not_lt.mp h) (List.not_lt.mp k))
theorem JX:∀ (r:List ak) (x:ak),risingS x r=true↔(x::r).Pairwise LeS
 | [],x=>by simp[risingS]
 | y::r,x=>by
  have ih:=JX r y;rw[List.pairwise_cons];unfold risingS;rw[QW,Bool.not_eq_true'];constructor
  ·rintro⟨a,c⟩;have p:=ih.mp c;have d:LeS x y:=λz=>by rw[(N8 _ _).mpr z]at a;cases a
   refine⟨λb hb=>?_,p⟩;rcases QJ.mp hb with rfl|hb
   ·exact d
   ·exact d.trans ((List.pairwise_cons.mp p).1 b hb)
  ·rintro⟨a,c⟩;exact⟨Bool.eq_false_iff.mpr λz=>a y #[4] ((N8 _ _).mp z),ih.mpr c⟩
theorem Znv(ss:#[T]):sortedS ss=true↔ss.Pairwise LeS:=by
 cases ss with
 | nil=>simp[sortedS]
 | cons x r=>exact JX r x
def N7:Sp:=λvs H Q _=>∃z:ak,vs=[.str z]/\AZ z/\Q #[qu] H
theorem ZnV(T:#[e]):Df P w K mg base 1 "is_key" ["thing"] N7:=by
 show#[dj,T.t_is_key.df,LA,d,hr];obtain⟨z,rfl,e,q⟩:=h;refine⟨_,#[Zf,#[ZT,(@R0 _ _ _ _ #[W8,#[cf]]),#[ks],#[ZB]],#[Zf,#[Xh,bC.never,#[gl,MK,0],#[pq,1,LA.nd],#[ae]],#[ks]]],_,rfl,_, "str",_,_,rfl,.str z,SI K,_,rfl,Y3 ?_⟩;refine⟨_,rfl,z,rfl,?_⟩;refine MJ (λi a b=>(∃v:Option V,a=[U (.str z),v])/\b=H) #[ps,af] ?_ ?_
 ·rintro i c a b g ⟨⟨v,rfl⟩,rfl⟩;have j:#[eC,"a",97]:=by ac_rfl
  have k:#[eC,"z",122]:=by ac_rfl
  have Ec:=e c (Qu (i:=i) #[dp,Array.getElem?_toList,g]);refine#[cm];show#[o8,j];refine Y3 #[cm];show#[o8,k];exact Y3 #[ps,_]
 ·rintro a b ⟨⟨v,rfl⟩,rfl⟩;exact q
def JW:Sp:=λvs H Q _=>∃z:ak,vs=[.str z]/\AZ z/\1<=z.length/\z.length<=8/\Q (.str z) H
theorem Zmw(T:#[e])(a:#[r5]):Df P w K mg base 2 "read_name" #[mx] JW:=by
 show#[dj,T.t_read_name.df,ZiX,b,c];obtain⟨z,rfl,d,h1,h8,q⟩:=h;refine⟨_,#[Zh,#[Zn,#[Yk,(@PW.pt _ _ _ #[Xi,#[W8,#[fi,a,c,0]],#[W7,(@RO _ _ _ _ _ _ _ _ _ _ _ _ Ws Ws #[Zk] #[44] #[Wm,T.g_MOST_NAME] #[O])]]),‹0›,#[ZR]]]],_,rfl,z,rfl,d,_,rfl,Yz ?_⟩;refine⟨_,rfl,z,rfl,small #[2],_,_,rfl,rfl,_,rfl,YS #[2] ⟨_,_,rfl,rfl,_,rfl,YS #[2] ?_⟩⟩;exact#[lU]
noncomputable def kT0(k:ak):ak:=if k = "" then "-" else k
def JV:Sp:=λvs H Q _=>∃k:ak,vs=[.str (kT0 k)]/\AZ k/\k.length<=40/\Q (.str k) H
theorem Zp0{k:ak}(h:AZ k):¬ V.str k=V.str "-":=λz=>by injection z with z;have:=h 45 (by rw[z];ac_rfl);lia
theorem Znp(T:#[e])(c:#[r5]):Df P w K mg base 2 "read_key" #[mx] JV:=by
 show#[dj,T.t_read_key.df,Zkt,d,e];obtain⟨k,rfl,b,zF,q⟩:=h;refine⟨_,#[Zf,#[ZT,#[Zo,YH,‹0›,#[r0],#[cZ]],#[Zh,#[Zn,#[Zu]]],#[ZB]],#[Zh,#[Zn,#[Yk,(@PW.pt _ _ _ #[Xi,#[W8,#[fi,c,e,0]],#[W7,(@RO _ _ _ _ _ _ _ _ _ _ _ _ Ws Ws #[Zk] #[44] #[Wm,T.g_MOST_KEY] #[O])]]),‹0›,#[ZR]]]]],_,rfl,rfl,_,rfl,?_⟩;by_cases a:k = ""
 ·subst a;exact Yz q
 ·have g:kT0 k=k:=by unfold kT0;rw[if_neg a]
  rw[g,decide_eq_false (Zp0 b)];have h1:1<=k.length:=by
   cases i:k.length with
   | zero=>exact absurd (by obtain⟨⟨l⟩⟩:=k;have:l.length=0:=i;rw[Qau.mp this];rfl) a
   | succ n=>lia
  refine Y3 ⟨_,rfl,k,rfl,b,_,rfl,Yz ?_⟩;exact⟨_,rfl,k,rfl,small #[2],_,_,rfl,rfl,_,rfl,YS #[2] ⟨_,_,rfl,rfl,_,rfl,YS #[2] ⟨_,rfl,q⟩⟩⟩
noncomputable def Xr(n:Nat):ak:=#[hL]
def JU:Sp:=λvs H Q _=>∃n:Nat,vs=[.str (Xr n)]/\n<10/\Q #[qu] H
theorem Zrz(n:Nat):¬ V.str (Xr n)=V.str "":=λz=>by injection z with z;have:=congrArg (λs:ak=>s.cps.size) z;exact absurd this (by show ¬ (1=_);ac_rfl)
theorem ZpR(T:#[e]):Df P w K mg base 1 "are_figures" #[mx] JU:=by
 show#[dj,T.t_are_figures.df,Lu,d,hr];obtain⟨n,rfl,hn,q⟩:=h;refine⟨_,#[Zf,#[Xh,bC.never,#[gl,MK,0],#[pq,1,Lu.nd],#[ae]],#[Zh,#[Zn,#[rF]]]],_,rfl,Xr n,rfl,?_⟩;refine MJ (λi b a=>(∃v:Option V,b=[U (.str (Xr n)),v])/\a=H) #[ps,af] ?_ ?_
 ·rintro i c b a e ⟨⟨v,rfl⟩,rfl⟩;have g:#[eC,"0",48]:=by ac_rfl
  have j:#[eC,"9",57]:=by ac_rfl
  have Ec:c=48+n:=by have k:c∈cds (Xr n):=Qu (i:=i) #[dp,Array.getElem?_toList,e];simpa [cds,Xr] using k
  refine#[cm];show#[o8,g];refine Y3 #[cm];show#[o8,j];exact Y3 #[ps,_]
 ·rintro b a ⟨⟨v,rfl⟩,rfl⟩;refine⟨_,rfl,rfl,?_⟩;show Q (.bl (!decide (V.str (Xr n)=V.str ""))) a;rw[decide_eq_false (Zrz n)];exact q
def JT:Sp:=λvs H Q _=>X3 λ(n:Nat) (a b:Int)=>vs=[.str (Xr n),.int a,.int b]/\n<10/\a<=n/\(n:Int)<=b/\Q #[sF] H
theorem Zow(T:#[e])(l:#[f4,1,"are_figures","word",JU]):Df P w K mg base 2 "read_number" #[hO] JT:=by
 show#[dj,T.t_read_number.df,Lv,m,o];obtain⟨n,a,b,rfl,g,i,j,q⟩:=h;refine⟨_,#[Zf,#[ZT,(@PW.pt _ _ _ #[WO,(@R0 _ _ _ _ #[W8,#[fi,l,o,0]]),#[WP,#[Zo,WM,#[44],#[Wm,T.g_MOST_FIGURES],#[cZ]]]]),#[h0],#[ZB]],#[Zf,#[ZT,(@PW.pt _ _ _ #[Xi,#[Zo,YH,#[ZJ,Vt,‹0›,#[Zk]],#[Zu],#[cZ]],#[W7,#[dt,V4,0,#[Zu]]]]),#[h0],#[ZB]],#[Zf,#[Zz,3,Lv.nd,#[3],#[Xe,ZtS,T.b.n_int,boot_int,#[Zg,‹0›]]],#[Zh,#[Zn,#[Yk,(@RO _ _ _ _ _ _ _ _ _ _ _ _ Ws Ws ‹1› ‹3› ‹2› #[O]),‹3›,#[ZR]]]]]]],?_⟩;have l1:(Xr n).length=1:=rfl;have bf:∀ (c:VK),c #[sF] H->(if decide (a<=(n:Int))=true then (if decide ((n:Int)<=b)=true then c #[sF] H else c .non H) else c .non H):=λc h=>by rw[decide_eq_true i,decide_eq_true j];exact h
 refine⟨_,rfl,n,rfl,g,_,rfl,Y3 ?_⟩;refine⟨_,rfl,Xr n,rfl,small #[oo],_,_,rfl,rfl,_,rfl,?_⟩;rw[decide_eq_false #[oo]];refine Y3 ?_;have p:atI (Xr n).cps.toList 0=U (48+n):=rfl;refine⟨_,rfl,_,_,_,rfl,rfl,small #[oo],p,rfl,_,rfl,?_⟩;have k:#[eC,"0",48]:=by ac_rfl
 by_cases r:n=0
 ·subst r;have e:V.str (Xr 0)=V.str "0":=by rw[k];rfl
  refine YW #[sZ] (λd=>absurd (decide_eq_true e) d);refine#[ty];rw[decide_eq_true e];refine Y3 ⟨_,rfl,0,rfl,g,?_⟩;exact#[b9]
 ·have e:¬ V.str #[hL]=V.str "0":=λz=>by injection z with z;rw[k]at z;have:=congrArg (λs:ak=>s.cps[0]?) z;have:U (48+n)=U 48:=this;injection this;lia
  refine YW (λd=>absurd #[i7] e) (λ_=>Y3 ?_);refine⟨_,rfl,n,rfl,g,?_⟩;exact#[b9]
def NmS(s:ak):Prop:=AZ s/\1<=s.length/\s.length<=8
def RdW(k a:ak)(v:V):Prop:=(k = "name"/\v=.str a/\NmS a)\/(k = "key"/\∃x,a=kT0 x/\v=.str x/\AZ x/\x.length<=40)\/(k = "many"/\∃n:Nat,a=Xr n/\v=.int n/\n<10)
def JS:Sp:=λvs H Q _=>X3 λ(k a:ak) (v:V)=>vs=[.str k,.str a]/\RdW k a v/\Q v H
theorem Zma(T:#[e])(a:#[cA])(e:#[f4,2,"read_name","word",JW])(g:#[f4,2,"read_key","word",JV])(i:Df P w K mg base 2 "read_number" #[hO] JT):Df P w K mg base 3 "read_word" #[lN] JS:=by
 show#[dj,T.t_read_word.df,Pp,j,b];refine⟨_,#[Zf,#[ZT,#[pc,0],#[Zh,#[Zn,#[fG,e,b]]],#[ZB]],#[Zf,#[ZT,#[pc,0],#[Zh,#[Zn,#[fG,g,b]]],#[ZB]],#[Zf,#[Yn,#[ZJ,Rs,#[Vk,a.m_BOUNDS],‹0›],#[oV,Pp.nd]],#[Zh,#[Zn,#[ZD,i,b,#[ek,1,2,3],#[5]]]]]]],?_⟩;obtain⟨k,z,v,rfl,l,q⟩:=h;rcases l with⟨rfl,rfl,c,m,o⟩|⟨rfl,k,rfl,rfl,c,p⟩|⟨rfl,n,rfl,rfl,r⟩
 ·exact⟨_,rfl,rfl,_,rfl,Yz ⟨_,rfl,z,rfl,c,m,o,q⟩⟩
 ·refine#[74];exact⟨_,rfl,rfl,_,rfl,Yz ⟨_,rfl,k,rfl,c,p,q⟩⟩
 ·refine#[74];refine#[74];show#[gU,t,u,x,a.d_BOUNDS_many];refine⟨_,rfl,bI, "many",.ref t,_,rfl,rfl,a.kd_BOUNDS,u,rfl,t,_,rfl,x H,rfl,_,_,rfl,_,_,rfl,rfl,?_⟩;exact⟨_,rfl,_,rfl,_,rfl,n,0,1000000,rfl,r,by lia,by lia,q⟩
theorem JR{k:ak}(h:¬ k = ""):¬ V.str k=V.str "":=λz=>by injection z with z;exact h z
def JQ:Sp:=λvs H Q _=>X2 λ(k:V) (m:Int)=>vs=[k,.int m]/\((k=.non/\m=0)\/k=.str "key")/\Q #[qu] H
theorem Zr2(T:#[e]):Df P w K mg base 1 "may_be_further" #[jC] JQ:=by
 show#[dj,T.t_may_be_further.df,Zfp,a,hr];refine⟨_,#[Zf,#[ZT,#[ge,0],#[Zh,#[Zn,#[XF,YH,‹1›,#[Zk],#[cZ]]]],#[ZB]],#[Zh,#[Zn,(@Zta _ _ _ _ _ _ _ #[rF] (@U3 _ _ _ _ _ (@Zpc _ _ _ _ _ _ _ _ _ _ _ _ Ws Ws #[Zk] ‹1› #[Wm,T.g_MOST_SIZES] #[O])))]]],?_⟩;show#[pO,k,m,b];rcases b with⟨rfl,rfl⟩|rfl
 ·exact⟨_,rfl,rfl,_,rfl,YW (λ_=>⟨_,rfl,rfl,q⟩) (λd=>absurd (decide_eq_true rfl) d)⟩
 ·refine⟨_,rfl,rfl,_,rfl,YW (λd=>nomatch #[i7]) #[sZ]⟩;refine#[ty];rw[show (!decide (V.str "key" = V.str "size"))=true by ac_rfl];exact Yz q
def Sd:Sp:=λvs H Q _=>∃k:ak,vs=[.str k]/\Q (.str (kT0 k)) H
theorem ZqA(T:#[e]):Df P w K mg base 1 "written_key" ["key"] Sd:=by
 show#[dj,T.t_written_key.df,Zgr,b,hr];obtain⟨k,rfl,q⟩:=h;refine⟨_,#[Zh,#[Zn,#[Yk,#[dt,V4,0,#[Zu]],‹0›,#[r0]]]],_,rfl,rfl,_,rfl,?_⟩;unfold kT0 at q;by_cases a:k = ""
 ·show#[nU];rw[decide_eq_true rfl];exact Y3 q
 ·show#[nW];exact Yz #[lU]
theorem ZrE(T:#[e]):Df P w K mg base 1 "_law_key_text" #[kV] Sd:=by
 show#[dj,T.t_l_key_text.df,Zhr,b,hr];obtain⟨k,rfl,q⟩:=h;refine⟨_,#[Zh,#[Zn,#[Yk,#[pc,0],#[Zu],‹0›]]],_,rfl,rfl,_,rfl,?_⟩;unfold kT0 at q;by_cases a:k = ""
 ·show#[nU];exact Yz q
 ·show#[nW];exact Y3 #[lU]
theorem U6(k:ak):(kT0 k).length<=k.length+1:=by
 unfold kT0;split
 ·exact Qi (by decide:("-" : ak).length<=1) #[2]
 ·lia
theorem ZmN(x:ak):ak.empty++x=x:=by obtain⟨l⟩:=x;show (⟨#[]++l⟩:ak)=⟨l⟩;simp
noncomputable def thT(nm k:ak):ak:=nm ++ ":"++kT0 k
def JP:Sp:=λvs H Q _=>X2 λnm k:ak=>vs=[.str nm,.str k]/\nm.length<=90/\k.length<=1000/\Q (.str (thT nm k)) H
theorem ZmP(T:#[e])(c:#[f4,1,"written_key","key",Sd]):Df P w K mg base 2 "written_thing" #[j6] JP:=by
 show#[dj,T.t_written_thing.df,ZfR,e,g];show#[fy,b,k,hn,hk];refine⟨_,#[Zh,#[Zn,#[Yk,#[ge,1],#[Wl,#[gv,Rr,0]],#[Wl,#[Yd,#[gl,Rr,0],#[Yd,#[Zu],#[Yd,(@Rr _ _ _ _ #[fG,c,g]),(@Vl _)]]]]]]],_,rfl,rfl,_,rfl,YW (λd=>nomatch #[i7]) #[sZ]⟩;have lM:=U6 k;have e1:#[fp,":"]:=by ac_rfl
 have a0:ak.empty.length=0:=rfl;have l0:(ak.empty++b).length<=90:=by rw[QP];lia
 have l1:(ak.empty++b ++ ":").length<=101:=by rw[QP];lia
 have l2:(ak.empty++b ++ ":"++kT0 k).length<=1102:=by rw[QP];lia
 have a:∀ {n:Nat},n<=1102->n<=aq:=λh=>Qi h #[op];refine⟨_,rfl,_,rfl,small #[2],_,rfl,a #[2],_,rfl,a #[2],_,rfl,k,rfl,_,rfl,a #[2],_,rfl,a #[2],?_⟩;unfold thT at q;rw[ZmN]at l2 ⊢;exact⟨a l2,q⟩
def N6(K:#[7]):Sp:=λvs H Q _=>X2 λ(l:ae) (ws:List ak)=>vs=[.ref l]/\SqL K H l (ws.map V.str)/\(ws.map #[hs]).sum+ws.length<=1000000/\Q (.str (if ws=[] then "-" else Txt.join " " ws)) H
theorem Zl4(T:#[e]):Df P w K mg base 1 "with_blanks" ["words"] (N6 K):=by
 show#[dj,T.t_with_blanks.df,Zhi,c,hr];show#[fy,l,ws,b,hs];refine⟨_,#[Zh,#[Zn,#[Yk,#[oH,#[34]],#[gg,0],#[r0]]]],_,rfl,l,_,rfl,.inl b,_,_,rfl,rfl,_,rfl,?_⟩;rw[Qa];by_cases a:ws=[]
 ·show#[nU];exact Y3 q
 ·rw[if_neg a]at q;have hp:0<ws.length:=List.length_pos_iff.mpr a;refine YS #[2] ⟨rfl,_,rfl,_,l,ws,rfl,rfl,b,?_,q⟩;have d:#[fp," "]:=by ac_rfl
  rw[d];lia
theorem ZpM{x:ak}(a:AZ x)(h:x.length<=1000):aJ.layable0 #[uO]=true:=by unfold aJ.layable0;rw[QW,QW];refine⟨⟨by simp[aJ.canLay0,a.ok],by simp[aJ.depth]⟩,decide_eq_true ?_⟩;have e:x.cps.size=x.length:=rfl;show x.cps.size<=2 ^ 20;rw[e];exact Qi h #[6]
def Znn:Sp:=λvs H Q _=>X5 λ(a b:ae) (c:ak) (ps ks:List ak)=>vs=[.str c,.ref a,.ref b]/\H a=U #[dv,ps.map]/\H b=U #[57]/\ps.length<=10/\ks.length<=90/\c.length<=10/\#[d9,ps,20]/\#[d9,ks,90] /\
 ∀d,ZG H d->Q (.str (Txt.join " " (c::ps++ks.map kT0))) d
theorem ZmJ(T:#[e])(eJ:#[f4,1,"_law_key_text","_law_key_here",Sd]):Df P w K mg base 2 "_law_words" #[31] Znn:=by
 show#[dj,T.t_l_words.df,ZkX,vs,W];obtain⟨a,b,d,e,n,rfl,ha,hb,p10,Fh,w10,L,cy,q⟩:=h;refine⟨_,#[Zh,#[Zn,#[YF,Q4,Qal,Qam,(US K),#[Zu],#[Zg,#[ZY,Vs,#[ZY,Vs,#[Ys,#[Zg,‹0›]],#[Xn,Pg,#[m1],#[e2,3,Pg],#[16],(λ_ _ _ _=>#[Xe,(UR K W),T.b.n_str,boot_str,#[Zg,#[cw,3,Pg]]])]],#[Xn,SN,#[iL,K,‹2›],#[e2,3,SN],#[16],(λ_ _ _ _=>#[ZD,eJ,W,#[Zg,#[cw,3,SN]],#[gJ,SN]])]]]]]],?_⟩;refine⟨rfl,_,rfl,#[eg,1,aq],λc hc=>?_⟩;have B:=Zi hc #[tp];show#[u6,X,H,c,#[tp]];have M:=B _ _ ha;have Y:=B _ _ hb;generalize upd H c (.lst [.str d])=H1 at B X M Y ⊢;refine#[vs,a,M,D,Z];refine We (K:=K) (a:=a) (xs:=e.map V.str) (λi zs p r=>(∃v:Option V,p=#[nh])/\zs=(e.take i).map V.str/\i<=e.length/\r D=U #[ie]/\ZG H1 r) ?_ #[d0,M] ?_ ?_
 ·exact#[eu,Z]
 ·show#[oQ,p,r,g,C,t];cases j:e[i]? with
  | none=>rw[j]at g;cases g
  | some x =>
  show#[dr,j,g,N,i,e.length];have az:=(L x (Qu j)).2;refine⟨_,rfl,_,.str x,rfl,.str x,ZpM az (Qi (L x (Qu j)).1 #[6]),rfl,rfl,C,(by rw[Qa,Qv,aO];lia),#[E],?_,N,Zd,λO o u=>?_⟩
  ·rw[QN,j,Qg];rfl
  ·show#[oO,u,Z,t,O,o]
 show#[gw,p,r,C,t];refine⟨c,D,_,_,rfl,rfl,t _ _ X,C,(by show 1+_<=_;rw[Qa,aO];lia),λF md=>?_⟩;have R:=Zi md #[qt];have uU:(upd r F #[qt]) F=U (.lst ((d::e).map V.str)):=Zd;have S:=R _ _ (t _ _ Y);have zG:=(B.trans t).trans R;generalize upd r F (.lst ([.str d]++e.map V.str))=H3 at R uU S zG ⊢;refine#[vs,b,S,D',pc];refine We (K:=K) (a:=b) (xs:=n.map V.str) (λi zs p G=>(∃v:Option V,p=#[nh])/\zs=((n.take i).map kT0).map V.str/\i<=n.length/\G D'=U #[ie]/\ZG H3 G) ?_ #[d0,S] ?_ ?_
 ·exact#[eu,pc]
 ·show#[oQ,p,G,g,I,J];cases j:n[i]? with
  | none=>rw[j]at g;cases g
  | some x =>
  show#[dr,j,g,N,i,n.length];refine⟨_,rfl,x,rfl,I,#[tH],#[E],?_,N,Zd,λO o u=>?_⟩
  ·rw[QN,j,Qg,Qg];rfl
  ·show#[oO,u,pc,J,O,o]
 show#[gw,p,G,I,J];refine⟨F,D',_,_,rfl,rfl,J _ _ uU,I,(by rw[Qa,Qa,Qa,QA,aO];lia),λe2 jk=>?_⟩;rw[<- Qg];have oH:∀ (m:Nat) (l:List ak),#[p6,l,m]->(l.map #[hs]).sum<=l.length*m:=λm l=>by
  induction l with
  | nil=>intro _;simp
  | cons a l ih=>intro h;have h1:=h a #[4];have h2:=#[oW,ih,s,z];rw[Qn,Q5,QA,Nat.succ_mul];lia
 have t1:=oH 20 e λs z=>(L s z).1;have t2:=oH 101 (n.map kT0) λs z=>by obtain⟨k,hk,rfl⟩:=Qq.mp z;have:=(cy k hk).1;have:=U6 k;lia
 rw[Qa]at t2;have kC:((d::e++n.map kT0).map #[hs]).sum+(d::e++n.map kT0).length<=100000:=by rw[List.cons_append,Qn,Q5,Qg,List.sum_append,QA,Qe,Qa];lia
 have Ed:#[fp," "]:=by ac_rfl
 exact⟨_,e2,_,rfl,rfl,SqL.of Zd,#[pU,Ed,Nat.mul_one],q _ ((zG.trans J).trans (Zi jk _))⟩
structure DS where
 P:List ZW
 nb:Int
 li:Int
 lo:Int
 nm:List (ak×Int)
inductive Od where
 | row (s:ak) (ks:List ak)
 | grow (s:ak) (ks:List ak)
 | drop (s:ak)
 | take (n:Nat)
 | counts
noncomputable def YM(nm:#[54])(n:Int):ak:=((nm.find? λe=>decide (e.2=n)).map #[iw]).getD ""
noncomputable def blT(ws:#[T]):ak:=if ws=[] then "-" else Txt.join " " ws
noncomputable def XZ(i:Int):ak:=ak.ofString #[sp]
noncomputable def V8(P:#[iC])(n:Int)(ks:#[T]):List ZW:=P.map λx=>if x.1=n then (x.1,x.2.1++ks,x.2.2) else x
noncomputable def TU(P:#[iC])(n:Int):List ZW:=P.filter λx=>decide (x.1≠n)
structure SOk (S:DS):Prop where
 num:S.nm.map #[kc]=Y5 S.P
 nd:(S.nm.map #[iw]).Nodup
 ndP:(Y5 S.P).Nodup
inductive Yu:DS->Od->ak->DS->Prop
 | row {P:List ZW} {nb li lo:Int} {nm:List (ak×Int)} {s:ak} {ks:List ak} {k q:Int}:(∀e∈nm,e.1≠s)->sortedS ks=true->P.length<16->YR (hdP (P++[(nb,ks,0)])) 8 (Y5 (P++[(nb,ks,0)])) k q->Yu ⟨P,nb,li,lo,nm⟩ (.row s ks) "done" ⟨P++[(nb,ks,0)],nb+1,li+k,lo+q,nm++[(s,nb)]⟩
 | noRow {S:DS} {s:ak} {ks:List ak}:((∃e∈S.nm,e.1=s)\/sortedS ks=false\/16<=S.P.length)->Yu S (.row s ks) "refused" S
 | grow {P:List ZW} {nb li lo:Int} {nm:List (ak×Int)} {s:ak} {ks:List ak} {x:ZW} {k q:Int}:(s,x.1)∈nm->x∈P->sortedS (x.2.1++ks)=true->((x.2.2<x.2.1.length\/ks=[])/\k=0/\q=0\/x.2.2=x.2.1.length/\ks≠[]/\YR (hdP (V8 P x.1 ks)) 8 (Y5 P) k q)->Yu ⟨P,nb,li,lo,nm⟩ (.grow s ks) "done" ⟨V8 P x.1 ks,nb,li+k,lo+q,nm⟩
 | noGrow {S:DS} {s:ak} {ks:List ak}:((∀e∈S.nm,e.1≠s)\/∃x∈S.P,(s,x.1)∈S.nm/\sortedS (x.2.1++ks)=false)->Yu S (.grow s ks) "refused" S
 | drop {P:List ZW} {nb li lo:Int} {nm:List (ak×Int)} {s:ak} {n k q:Int}:(s,n)∈nm->YR (hdP (TU P n)) 8 (Y5 (TU P n)) k q->Yu ⟨P,nb,li,lo,nm⟩ (.drop s) "done" ⟨TU P n,nb,li+k,lo+q,nm.filter λe=>decide (e.1≠s)⟩
 | noDrop {S:DS} {s:ak}:(∀e∈S.nm,e.1≠s)->Yu S (.drop s) "refused" S
 | take {P P':List ZW} {nb li lo:Int} {nm:List (ak×Int)} {n:Nat} {ts:List Ym} {k q:Int}:Yv P ts P' k q->ts.length=min n (Xs P)->Yu ⟨P,nb,li,lo,nm⟩ (.take n) (blT (ts.map λt=>thT (YM nm t.1) t.2.2)) ⟨P',nb,li+k,lo+q,nm⟩
 | counts {S:DS}:Yu S .counts (XZ S.li ++ " "++XZ S.lo) S
theorem N5{α a:Type}:∀ {P:List (α×a)},(P.map #[kc]).Nodup->∀ {p q:α×a},p∈P->q∈P->p.2=q.2->p=q
 | [],_,_,_,h,_,_=>by cases h
 | x::r,nd,p,q,b,hq,e=>by
  rw[Qn,Q2]at nd;rcases QJ.mp b with h1|h1
  ·rcases QJ.mp hq with h2|h2
   ·rw[h1,h2]
   ·exact absurd (show x.2∈r.map #[kc] by rw[<- h1,e];exact #[vg,x.2,h2]) nd.1
  ·rcases QJ.mp hq with h2|h2
   ·exact absurd (show x.2∈r.map #[kc] by rw[<- h2,<- e];exact #[vg,x.2,h1]) nd.1
   ·exact N5 nd.2 h1 h2 e
theorem SOk.ndN{S:DS}(h:SOk S):(S.nm.map #[kc]).Nodup:=by rw[h.num];exact h.ndP
theorem SOk.row1{S:DS}(h:SOk S){s:ak}{x y:ZW}(hx:x∈S.P)(hy:y∈S.P)(a:(s,x.1)∈S.nm)(b:(s,y.1)∈S.nm):x=y:=by have e:=V9 h.nd a b rfl;injection e with _ e;exact V9 h.ndP hx hy e
theorem SOk.has{S:DS}(h:SOk S){x:ZW}(hx:x∈S.P):∃s,(s,x.1)∈S.nm:=by
 have:x.1∈S.nm.map #[kc]:=by rw[h.num];exact Qj (f:=#[mq]) hx
 obtain⟨e,a,z⟩:=Qq.mp this;exact⟨e.1,by rw[<- z];exact a⟩
theorem SOk.at'{S:DS}(h:SOk S){s:ak}{n:Int}(hx:(s,n)∈S.nm):∃x∈S.P,x.1=n:=by
 have:n∈Y5 S.P:=by rw[<- h.num];exact Qj (f:=λe:ak×Int=>e.2) hx
 exact Qq.mp this
theorem Yu.one{S:DS}(h:SOk S){o:Od}{a b:ak}{S1 S2:DS}(n:Yu S o a S1)(i:Yu S o b S2):a=b/\S1=S2:=by
 cases n with
 | row c f d g =>
  cases i with
  | row _ _ _ h5=>obtain⟨rfl,rfl⟩:=g.one h5;exact#[Y]
  | noRow h5 =>
   rcases h5 with⟨e,k,z⟩|h5|h5
   ·exact absurd z (c e k)
   ·show#[vv,f,h5]
   ·exact absurd d (QaP.mpr h5)
 | noRow h5 =>
  cases i with
  | row c f d g =>
   rcases h5 with⟨e,k,z⟩|h5|h5
   ·exact absurd z (c e k)
   ·show#[vv,f,h5]
   ·exact absurd d (QaP.mpr h5)
  | noRow _=>exact#[Y]
 | grow c f d g =>
  cases i with
  | grow h5 j h7 m =>
   have e:=h.row1 f j c h5;subst e;rcases g with⟨a1,rfl,rfl⟩|⟨a1,a2,a3⟩
   ·rcases m with⟨_,rfl,rfl⟩|⟨b1,p,_⟩
    ·exact#[Y]
    ·rcases a1 with a1|a1
     ·exact absurd b1 (Qx a1)
     ·exact absurd a1 p
   ·rcases m with⟨b1,_⟩|⟨_,_,q⟩
    ·rcases b1 with b1|b1
     ·exact absurd a1 (Qx b1)
     ·exact absurd b1 a2
    ·obtain⟨rfl,rfl⟩:=a3.one q;exact#[Y]
  | noGrow h5 =>
   rcases h5 with h5|⟨y,l,h5,j⟩
   ·exact #[qc,h5]
   ·show#[rr]
 | noGrow h5 =>
  cases i with
  | grow c f d g =>
   rcases h5 with h5|⟨y,l,h5,j⟩
   ·exact #[qc,h5]
   ·show#[rr]
  | noGrow _=>exact#[Y]
 | drop c f =>
  cases i with
  | drop d g=>have e:=V9 h.nd c d rfl;injection e with _ e;subst e;obtain⟨rfl,rfl⟩:=f.one g;exact#[Y]
  | noDrop d=>exact #[qc,d]
 | noDrop d =>
  cases i with
  | drop c _=>exact #[qc,d]
  | noDrop _=>exact#[Y]
 | take c f =>
  cases i with
  | take d g=>obtain⟨rfl,rfl,rfl,rfl⟩:=Yv.one h.ndP c d (f.trans g.symm);exact#[Y]
 | counts=>cases i;exact#[Y]
structure SBd (S:DS):Prop where
 few:S.P.length<=16
 nb0:0<=S.nb
 nb1:S.nb<=200
 lt:∀x∈S.P,0<=x.1/\x.1<S.nb
 len:∀x∈S.P,x.2.1.length<=180
 li:S.li.natAbs<=100000000
 lo:S.lo.natAbs<=100000000
 nmz:∀e∈S.nm,AZ e.1/\e.1.length<=8
inductive XI (S:DS):List Od->List ak->DS->Prop
 | nil:XI S [] [] S
 | snoc {os:List Od} {as:List ak} {S1 S2:DS} {o:Od} {a:ak}:XI S os as S1->SOk S1->SBd S1->Yu S1 o a S2->XI S (os++[o]) (as++[a]) S2
theorem XI.one{S:DS}{os:List Od}{b:#[T]}{S1:DS}(h:XI S os b S1):∀ {bs:List ak} {S2:DS},XI S os bs S2->b=bs/\S1=S2:=by
 induction h with
 | nil =>
  intro bs S2 g;generalize e:([]:List Od)=os at g;cases g with
  | nil=>exact#[Y]
  | snoc _ _ _ _=>simp at e
 | snoc _ c _ d f =>
  rename_i i as0 S0 S3 o a _ _;intro bs S2 g;generalize e:i++[o]=os at g;cases g with
  | nil=>simp at e
  | snoc j g1 _ k=>obtain⟨rfl,rfl⟩:=Sl e;obtain⟨rfl,rfl⟩:=f j;obtain⟨rfl,rfl⟩:=d.one c k;exact#[Y]
theorem XI.len{S:DS}{os:List Od}{a:#[T]}{S1:DS}(h:XI S os a S1):a.length=os.length:=by
 induction h with
 | nil=>rfl
 | snoc _ _ _ _ b=>rw[Qe,Qe,b];rfl
theorem XI.at'{S:DS}{os:List Od}{b:#[T]}{l:DS}(h:XI S os b l):∀i,i<os.length->X4 λS1 S2 o a=>os[i]? = U o/\b[i]? = U a/\XI S #[ul] (b.take i) S1/\SOk S1/\SBd S1/\Yu S1 o a S2/\XI S (os.take (i+1)) (b.take (i+1)) S2:=by
 induction h with
 | nil=>intro i c;exact absurd c (Nat.not_lt_zero i)
 | snoc d f g j m =>
  rename_i os b S1 S2 o a;have k:=d.len;intro i c;rw[Qe,Qy]at c;by_cases e:i<os.length
  ·obtain⟨n,p,q,r,s,t,u,v,w,x,y⟩:=m i e;refine⟨n,p,q,r,by rw[QO e];exact s,by rw[QO #[2]];exact t,?_,v,w,x,?_⟩
   ·rw[Qaf #[2],Qaf #[2]];exact u
   ·rw[Qaf #[2],Qaf #[2]];exact y
  ·have z:i=os.length:=by lia
   subst z;refine⟨S1,S2,o,a,by simp,by rw[<- k];simp,?_,f,g,j,?_⟩
   ·rw[List.take_left,<- k,List.take_left];exact d
   ·rw[Qw #[4],Qw (by simp;lia)];exact .snoc d f g j
def N4(hd:Hd)(m:Nat):Prop:=∀a x,hd a=U x->x.length<=m
theorem YR.bd{hd:Hd}{m:Nat}(hm:N4 hd m){n:Nat}{N:#[F]}{k l:Int}(h:YR hd n N k l):0<=k/\k+1<=((2 ^ n:Nat):Int)/\0<=l/\l<=k*#[re]:=by
 induction h with
 | few _=>refine⟨Qav _,?_,Qav _,by lia⟩;rename_i n _ _;have:=Nat.two_pow_pos n;lia
 | none _ _ _ _ c d=>rename_i n N k l k' e _ _ _ _;show#[nX];rw[Qa3];lia
 | both _ _ _ _ _ f hy c d=>rename_i n N k l k' e a b x y _ _ _ _ _;have:=(Wg x y).1;have:=hm _ _ f;show#[nX];rw[Qa3,Qa3];lia
theorem Ag.bd{hd:Hd}{m:Nat}(hm:N4 hd m){z:#[hi]}{C:List #[hX]}{k q:Int}(h:Ag hd z C k q):0<=k/\k<=(C.length:Int) /\ -(k*#[re])<=q/\q<=k*#[re]:=by
 induction h with
 | nil=>exact⟨Qav _,Qav _,by lia,by lia⟩
 | no _ _ c=>rw[Qe,Qy];lia
 | eq _ _ _ d e f c=>rename_i C A B k q a b x y _ _ _;have:=(Wg x y).1;have:=(Wg x z).1;have:=hm _ _ d;rw[Qe,Qy,Qa3];lia
 | ne _ _ _ d e f c=>rename_i C A B k q a b x y _ _ _;rw[Qe,Qy,Qa3];lia
def Xj(P:#[iC])(m:Nat):Prop:=∀x∈P,∀s∈x.2.1,s.length<=m
theorem Xj.hd{P:#[iC]}{m:Nat}(h:Xj P m):N4 (hdP P) m:=λa x hx=>by
 unfold hdP hdL at hx;cases b:(P.map λx:ZW=>((x.1,0,x.2):Yf)).find? λe=>decide (e.1=a) with
 | none=>rw[b]at hx;cases hx
 | some y =>
  rw[b]at hx;have d:=Qan b;show#[dA,z,f,d];simp only[Option.bind_some]at hx;cases c:z.2.1[z.2.2]? with
  | none=>rw[c]at hx;cases hx
  | some s=>rw[c]at hx;injection hx with hx;rw[<- hx,O8];exact h z f s (Qu c)
theorem Xj.bump{P:#[iC]}{m:Nat}(h:Xj P m)(n:Int):Xj (WW P n) m:=λx hx s hs=>by obtain⟨y,a,rfl⟩:=Qq.mp hx;refine h y a s ?_;unfold Wu at hs;split at hs<;>exact hs
theorem Yv.keyLe{P a:#[iC]}{b:List Ym}{k q:Int}(h:Yv P b a k q){m:Nat}(hk:Xj P m):Xj a m:=by
 induction h with
 | nil=>exact hk
 | snoc _ _ c=>exact c.bump _
theorem JO:∀ (k:Nat) (M:List Int) (n:Int),#[mP].length<=k
 | 0,_,_=>Qf _
 | k+1,M,n=>by
  unfold Z2;split
  ·rw[Qe,Qy];have:=JO k #[cc] n;lia
  ·exact Qm _
theorem Yv.bd{P d:#[iC]}{a:List Ym}{k q:Int}(h:Yv P a d k q){m:Nat}(hk:Xj P m):0<=k/\k<=8*#[bP] /\ -(k*#[re])<=q/\q<=k*#[re]:=by
 induction h with
 | nil=>exact⟨Qav _,by simp,by lia,by lia⟩
 | snoc h s ih=>have b:=s.2.2.2.bd ((h.keyLe hk).bump _).hd;have c:=JO 8 (Y5 ‹List ZW›) (‹ZW›).1;unfold U8 at b;rw[Qa]at b;rw[Qe,Qy,Qa3];lia
def JN:Od->Prop
 | .row _ ks=>∀s∈ks,s.length<=1000
 | .grow _ ks=>∀s∈ks,s.length<=1000
 | .take n=>n<=30
 | _=>True
theorem JM{P:#[iC]}{m:Nat}(h:Xj P m)(n:Int){ks:#[T]}(hk:∀s∈ks,s.length<=m):Xj (V8 P n ks) m:=λx hx s hs=>by
 show#[dA,y,a,hx];split at hs
 ·rcases Ql.mp hs with hs|hs
  ·exact h y a s hs
  ·exact hk s hs
 ·exact h y a s hs
theorem Yu.bd{S i:DS}{o:Od}{a:ak}(g:Yu S o a i)(hk:Xj S.P 1000)(j:JN o):(i.li-S.li).natAbs<=300/\(i.lo-S.lo).natAbs<=300300:=by
 cases g with
 | row f h r d =>
  rename_i P l c lo p s t k q;have b:=d.bd (m:=1000) (Xj.hd λx hx s e=>by
   rcases Ql.mp hx with hx|hx
   ·exact hk x hx s e
   ·rw[Qh.mp hx]at e;exact j s e)
  show#[bq];lia
 | noRow _=>show (S.li-S.li).natAbs<=_/\#[uB].natAbs<=_;lia
 | grow f h r d =>
  rename_i P l c lo p s t x k q;show#[bq];rcases d with⟨_,rfl,rfl⟩|⟨_,_,d⟩
  ·lia
  ·have b:=d.bd (JM hk x.1 j).hd;lia
 | noGrow _=>show (S.li-S.li).natAbs<=_/\#[uB].natAbs<=_;lia
 | drop f h=>rename_i P l c lo p s n k q;have b:=h.bd (m:=1000) (Xj.hd λx hx s e=>hk x #[uC].1 s e);show#[bq];lia
 | noDrop _=>show (S.li-S.li).natAbs<=_/\#[uB].natAbs<=_;lia
 | take f h=>rename_i P P' l c lo p n ts k q;have b:=f.bd hk;have hn:n<=30:=j;show#[bq];lia
 | counts=>show (S.li-S.li).natAbs<=_/\#[uB].natAbs<=_;lia
theorem JL:∀ss:List ak,(∀i x y,ss[i+1]? = U x->ss[i]? = U y->0<=ZS #[bu] #[b3])->ss.Pairwise LeS
 | [],_=>.nil
 | [x],_=>List.pairwise_singleton ..
 | x::y::r,h=>by
  have ih:=JL (y::r) λi a b h1 h2=>h (i+1) a b h1 h2;have c:LeS x y:=λz=>by have:=(KW _ _).mp z;have:=h 0 y x rfl rfl;unfold cds at this;lia
  refine List.pairwise_cons.mpr ⟨λb hb=>?_,ih⟩;rcases QJ.mp hb with rfl|hb
  ·exact c
  ·exact c.trans ((List.pairwise_cons.mp ih).1 b hb)
theorem Zrl(ss:#[T]):sortedS ss=true\/∃k:Nat,WZ ss #[oa]:=by
 have h:∀n:Nat,(∀i,i<n->∀x y,ss[i+1]? = U x->ss[i]? = U y->0<=ZS #[bu] #[b3])\/∃k:Nat,WZ ss #[oa]:=λn=>by
  induction n with
  | zero=>exact .inl λi g=>absurd g (Nat.not_lt_zero i)
  | succ n ih =>
   rcases ih with ih|ih
   ·cases f:ss[n+1]? with
    | none =>
     refine .inl λi g x y c d=>?_;by_cases e:i=n
     ·show#[dV,e,f,c]
     ·exact ih i #[2] x y c d
    | some x =>
     have l:=(Qd.mp f).1;have j:ss[n]? = U (ss[n]'#[2]):=Qb #[2];by_cases m:ZS #[bu] (cds (ss[n]'#[2]))<0
     ·refine .inr ⟨n,.inr ⟨n,rfl,l,λa b c d=>?_,ih⟩⟩;rw[f]at c;show#[e8,j,d,c];cases d;exact m
     ·refine .inl λi g a b c d=>?_;by_cases e:i=n
      ·subst e;rw[f]at c;show#[e8,j,d,c];cases d;lia
      ·exact ih i #[2] a b c d
   ·exact .inr ih
 rcases h ss.length with h|h
 ·refine .inl ((Znv ss).mpr (JL ss λi x y c d=>h i ?_ x y c d));exact(Qd.mp d).1
 ·exact .inr h
noncomputable def kvN(nm:#[54]):List #[q8]:=nm.map λe=>(.inr e.1,.int e.2)
noncomputable def kvI(nm:#[54]):List #[q8]:=nm.map λe=>(.inl e.2,.str e.1)
theorem Zot(nm:#[54]):#[su].map #[iw]=(nm.map #[iw]).map (Sum.inr:ak->Key):=by unfold kvN;rw[QB,QB];rfl
theorem TR{nm:#[54]}(nd:(nm.map #[iw]).Nodup){s:ak}{n:Int}(h:(s,n)∈nm):Y1 #[su] (.inr s)=U #[sF] :=
 Tg (by rw[Zot];exact List.Pairwise.map _ (λa b c z=>c #[tf]) nd) (Qj (f:=λe:ak×Int=>((.inr e.1:Key),V.int e.2)) h)
theorem Sc{nm:#[54]}{s:ak}(h:∀e∈nm,e.1≠s):Y1 #[su] (.inr s)=af:=by
 cases a:Y1 (kvN nm) (.inr s) with
 | none=>rfl
 | some v=>obtain⟨e,b,z⟩:=Qq.mp (UN a);injection z with z _;exact absurd #[tf] (h e b)
theorem JK(nm:#[54])(s:ak):WA #[su] (.inr s)=kvN #[77]:=by unfold WA kvN;rw[QaO];congr 1;exact List.filter_congr λe _=>decide_eq_decide.mpr ⟨λh z=>h (by show (Sum.inr e.1:Key)=_;rw[z]),λh z=>h #[tf]⟩
theorem Sb(nm:#[54])(s:ak):(∀e∈nm,e.1≠s)\/∃n,(s,n)∈nm:=by
 by_cases h:∃e∈nm,e.1=s
 ·obtain⟨e,a,rfl⟩:=h;exact .inr ⟨e.2,a⟩
 ·exact .inl λe a z=>h ⟨e,a,z⟩
noncomputable def dsO(X:MS)(nm:#[54]):DS:=⟨Z7 X.L,X.nb,X.li,X.lo,nm⟩
structure DOk (cR cM:ae) (H:Hp) (X:MS) (nd:ae) (nm:#[54]):Prop where
 mg:MOk cR cM H X
 at':H nd=U #[fX,nm]
 sep:¬ MFp X nd
 ok:SOk #[cq]
section
variable {cR cM:ae} {H H':Hp} {X:MS} {nd:ae} {nm:List (ak×Int)}
theorem DOk.same(D:#[46])(s:ZG H H'):DOk cR cM H' X nd nm:=⟨D.mg.same s,s _ _ D.at',D.sep,D.ok⟩
theorem DOk.keep(D:#[46])(k:∀b o,H b=U o->MFp X b\/b=nd\/#[qV]->H' b=U o):DOk cR cM H' X nd nm :=
 ⟨D.mg.keep λb o a h=>k b o a (h.elim .inl λz=>.inr (.inr z)),k _ _ D.at' #[rb],D.sep,D.ok⟩
theorem DOk.rows{s:ak}{n:Int}(D:#[46])(h:(s,n)∈nm):∃e∈X.L,e.n=n:=by obtain⟨x,a,rfl⟩:=D.ok.at' h;obtain⟨e,b,rfl⟩:=Qq.mp a;exact⟨e,b,rfl⟩
structure DTo (cR cM:ae) (H H':Hp) (X X':MS) (nd:ae) (nm eD:#[54]) (o:Od) (a:ak):Prop where
 st:Yu #[cq] o a (dsO X' eD)
 D:DOk cR cM H' X' nd eD
 m:X'.m=X.m
 fp:∀b,MFp X' b->MFp X b\/H b=af
 k:∀b u,H b=U u->¬ MFp X b->b≠nd->H' b=U u
theorem DOk.stay{o:Od}{a:ak}(D:#[46])(st:Yu #[cq] o a #[cq])(s:ZG H H'):DTo cR cM H H' X X nd nm nm o a:=⟨st,D.same s,rfl,λ_ h=>.inl h,λb u hb _ _=>s b u hb⟩
theorem DTo.same{c:Hp}{e:MS}{f:#[54]}{o:Od}{a:ak}(d:DTo cR cM H H' X e nd nm f o a)(s:ZG H' c):DTo cR cM H c X e nd nm f o a:=⟨d.st,d.D.same s,d.m,d.fp,λb u hb g h=>s _ _ (d.k b u hb g h)⟩
theorem Sa{m rd sd:ae}{L:#[bv]}{s:StL}{nb li lo:Int}{a:V}(M:#[el,cR,cM,a]):#[jR].length<=2 ^ (8-1):=Qi (show (Zy L).length<=60 by unfold Zy;rw[Qa];exact M.few) #[6]
theorem DOk.add{s:ak}{ks:#[T]}{e:Zx}{f:ae}{s':StL}{w:#[bL]}{k q:Int}(D:#[46])(B:SBd #[cq])(hs:∀e∈nm,e.1≠s)(srt:#[p0,ks])(n:X.L.length<16)
  (p:e.n=X.nb) (r:e.ss=ks) (t:e.g=0) (v:H e.p=af) (hk:H e.k=af) (A:H e.f=af) (i:H f=af) (W:Win (hdM #[jx]) (Zy #[jx]) w) (St:Ya (hdM #[jx]) s' 8 (Zy #[jx])) (j:YR (hdM #[jx]) 8 (Zy #[jx]) k q)
  (M:ZM cR cM H' X.m X.rd f #[jx] s' (X.nb+1) (X.li+k) (X.lo+q) (YV w)) (kp:#[pz,X.m,X.rd,H']) :
  ∃C,DTo cR cM H (upd H' nd (.dK (kvN #[rS]))) X C nd nm #[rS] (.row s ks) "done":=by
 have g:Z7 #[jx]=Z7 X.L++[(X.nb,ks,0)]:=by unfold Z7;rw[Qg,List.map_singleton,p,r,t]
 have l:¬ MFp #[jk] nd:=λz=>by
  have d:=D.at';rcases z with z|z|z|⟨x,hx,z⟩
  ·exact #[ub]
  ·exact D.sep #[95]
  ·show#[g3,f,i,d]
  ·rcases Ql.mp hx with hx|hx
   ·exact D.sep #[gL,x,hx]
   ·rw[Qh.mp hx]at z;rcases z with z|z|z
    ·show#[p2,v,d]
    ·show#[p2,hk,d]
    ·show#[p2,A,d]
 have E:=kp _ _ D.at' #[rh] #[ku];have Mk:MOk cR cM H' #[jk]:=⟨M,W,VH 8 _ s' _ M.up (Sa M) #[6] St⟩;rw[VE,Xt,g]at j;refine⟨_,⟨?_,⟨Mk.keep λb o c F=>?_,Zd,l,?_⟩,rfl,λb c=>?_,λb u c m G=>?_⟩⟩
 ·have:=Yu.row (nb:=X.nb) (li:=X.li) (lo:=X.lo) hs srt (show (Z7 X.L).length<16 by unfold Z7;rw[Qa];exact n) j;show#[gu,g]
 ·rw[Zc (λz=>by
   rcases F with y|⟨xs,rfl⟩
   ·exact l #[bl]
   ·rw[z,E]at c;cases c)]
  exact c
 ·have h:=D.ok;show#[p3,?_,?_]
  ·show (nm++[(s,X.nb)]).map #[kc]=Y5 (Z7 #[jx]);rw[g,Qg];unfold Y5;rw[Qg];exact congrArg (·++[X.nb]) h.num
  ·show (#[rS].map #[iw]).Nodup;show#[e7,h.nd,I,c,y,J];have:b=s:=by simpa using c
   rw[this];exact hs y J
  ·show#[oR,#[jx]]
 ·rcases c with z|z|z|⟨x,hx,z⟩
  ·exact .inl (.inl z)
  ·exact .inl #[95]
  ·show#[eH,f,i]
  ·rcases Ql.mp hx with hx|hx
   ·exact .inl #[gL,x,hx]
   ·rw[Qh.mp hx]at z;exact .inr (by rcases z with z|z|z<;>rw[z]<;>assumption)
 ·rw[Zc G];exact kp b u c #[e0,m] (λz=>m #[95])
theorem DOk.drop{s:ak}{e:Zx}{c:ae}{s':StL}{w:#[bL]}{k q:Int}(D:#[46])(hs:#[ss])(he:e∈X.L)(j:H c=af)(W:Win #[mN] #[qo] w)(St:Ya #[mN] s' 8 #[qo])(l:YR #[mN] 8 #[qo] k q)
  (M:#[f5,H',c,#[aH]]) (t:H' nd=U #[fX,#[77]]) (kp:∀b o,H b=U o->b≠X.m->b≠X.rd->b≠nd->H' b=U o) :
  ∃v,DTo cR cM H H' X v nd nm #[77] (.drop s) "done":=by
 have d:Z7 #[aH]=TU #[n6] e.n:=by unfold Z7 YY TU;rw[QaO];rfl
 have h:=D.ok;rw[VE,Xt,d]at l;have A:¬ MFp ⟨X.m,X.rd,c,YY X.L e.n,s',X.nb,X.li+k,X.lo+q,w⟩ nd:=λz=>by
  have m:=D.at';rcases z with z|z|z|⟨x,f,z⟩
  ·exact #[ub]
  ·exact D.sep #[95]
  ·show#[g3,c,j,m]
  ·exact D.sep #[kI]
 refine⟨⟨X.m,X.rd,c,YY X.L e.n,s',X.nb,X.li+k,X.lo+q,w⟩,⟨?_,⟨⟨M,W,VH 8 _ s' _ M.up (Sa M) #[6] St⟩,t,A,?_⟩,rfl,λb g=>?_,λb u g p B=>kp b u g #[e0,p] (λz=>p #[95]) B⟩⟩
 ·have:=Yu.drop (nb:=X.nb) (li:=X.li) (lo:=X.lo) hs l;show#[gu,d]
 ·show#[p3,?_,?_]
  ·show (nm.filter λe=>decide (e.1≠s)).map #[kc]=Y5 (Z7 #[aH]);rw[d];have C:(nm.filter λy=>decide (y.1≠s))=nm.filter λy=>decide (y.2≠e.n):=by
    refine List.filter_congr λy r=>decide_eq_decide.mpr ⟨λa z=>a ?_,λa z=>a ?_⟩
    ·have:=N5 h.ndN r hs z;rw[this]
    ·have:=V9 h.nd r hs z;rw[this]
   rw[C];have i:=congrArg (List.filter λn:Int=>decide (n≠e.n)) h.num;unfold Y5 at i;rw[QaO,QaO]at i;exact i
  ·exact #[g0,h.nd.sublist]
  ·show#[oR,#[aH]]
 ·rcases g with z|z|z|⟨x,f,z⟩
  ·exact .inl (.inl z)
  ·exact .inl #[95]
  ·show#[eH,c,j]
  ·exact .inl #[kI]
theorem DOk.grow{s:ak}{ks:#[T]}{e:Zx}{k' a c:ae}{s':StL}{w:#[bL]}{k q:Int}(D:#[46])(hs:#[ss])(he:e∈X.L)(srt:#[p0,#[lt]])(hk:H k'=af)(m:H a=af)
  (j:(#[tF]/\c=X.sd/\k=0/\q=0)\/(e.g=e.ss.length/\ks≠[]/\H c=af/\YR (hdM #[ao]) 8 (Zy X.L) k q)) (W:Win (hdM #[ao]) (Zy X.L) w) (ok:Z0 (hdM #[ao]) s' (Zy X.L))
  (M:#[f5,H',c,#[ao]]) (kp:#[pz,X.m,e.p,H']) :
  ∃r,DTo cR cM H H' X r nd nm nm (.grow s ks) "done":=by
 have n:Z7 #[ao]=V8 #[n6] e.n ks:=by unfold Z7 YN V8;rw[QB,QB];refine QR λy _=>?_;show#[kC];unfold XJ;split<;>rfl
 have h:=D.ok;have t:¬ MFp ⟨X.m,X.rd,c,YN X.L e.n ks k' a,s',X.nb,X.li+k,X.lo+q,w⟩ nd:=λz=>by
  have d:=D.at';rcases z with z|z|z|⟨x,g,z⟩
  ·exact #[ub]
  ·exact D.sep #[95]
  ·rcases j with⟨_,c2,_⟩|⟨_,_,c3,_⟩
   ·exact D.sep #[nD]
   ·show#[g3,c,c3,d]
  ·show#[dA,y,i,g];unfold XJ at z;split at z
   ·rcases z with z|z|z
    ·exact D.sep #[eJ,y,i]
    ·show#[g3,k',hk,d]
    ·show#[g3,a,m,d]
   ·exact D.sep #[gL,y,i]
 have g:#[rT]∈Z7 X.L:=Qj (f:=#[cK]) he;refine⟨⟨X.m,X.rd,c,YN X.L e.n ks k' a,s',X.nb,X.li+k,X.lo+q,w⟩,⟨?_,⟨⟨M,by rw[TW];exact W,by rw[TW];exact ok⟩,kp _ _ D.at' #[rh] (λz=>D.sep #[eJ,e,he]),t,?_⟩,rfl,λb l=>?_,λb u l p n2=>kp b u l #[e0,p] (λz=>p #[eJ,e,he])⟩⟩
 ·have:=Yu.grow (nb:=X.nb) (li:=X.li) (lo:=X.lo) (k:=k) (q:=q) (ks:=ks) hs g srt (by
   rcases j with⟨c1,_,c3,c4⟩|⟨c1,c2,_,c4⟩
   ·exact .inl ⟨c1,c3,c4⟩
   ·rw[VE,Xt,n]at c4;exact .inr ⟨c1,c2,c4⟩)
  have v:V8 #[n6] e.n ks=Z7 #[ao]:=n.symm;show Yu #[cq] (.grow s ks) "done" ⟨Z7 #[ao],X.nb,X.li+k,X.lo+q,nm⟩;rw[<- v];exact this
 ·show#[p3,?_,h.nd]
  ·show nm.map #[kc]=Y5 (Z7 #[ao]);rw[<- Xt,TW,Xt];exact h.num
  ·show#[oR,#[ao]]
 ·rcases l with z|z|z|⟨x,g,z⟩
  ·exact .inl (.inl z)
  ·exact .inl #[95]
  ·rcases j with⟨_,c2,_⟩|⟨_,_,c3,_⟩
   ·exact .inl #[nD]
   ·show#[eH,c,c3]
  ·show#[dA,y,i,g];unfold XJ at z;split at z
   ·rcases z with z|z|z
    ·exact .inl #[eJ,y,i]
    ·show#[eH,k',hk]
    ·show#[eH,a,m]
   ·exact .inl #[gL,y,i]
universe E
def TQ(a s:ak)(ks:#[T])(o:Od):Prop:=(a = "row"/\o=.row s ks)\/(a = "grow"/\o=.grow s ks)\/(a = "drop"/\o=.drop s)
def KsS(ks:#[T]):Prop:=ks.length<=5/\∀x∈ks,x.length<=40/\AZ x
section
variable {cR cM cN cF cO:ae} {H:Hp} {X:MS} {nd ka:ae} {nm:List (ak×Int)} {s:ak} {ks:List ak}
theorem KsS.ok(h:KsS ks):Se ks:=⟨Qi h.1 #[6],λx hx=>⟨Qi (h.2 x hx).1 #[6],(h.2 x hx).2⟩⟩
theorem JJ{ss:#[T]}(h:sortedS ss=false):∃k:Nat,WZ ss #[oa]:=(Zrl ss).elim (λz=>by rw[h]at z;cases z) id
theorem JI(nm:#[54])(s:ak)(n:Int):kvN nm++[((.inr s:Key),V.int n)]=kvN (nm++[(s,n)]):=by unfold kvN;rw[Qg];rfl
theorem DOk.nmlen(D:#[46]):nm.length=#[n6].length:=by have:=#[dW,D.ok.num];unfold Y5 at this;rw[Qa,Qa]at this;exact this
theorem DOk.small(D:#[46])(B:SBd #[cq]):#[su].length<aq:=by have h:#[n6].length<=16:=B.few;unfold kvN;rw[Qa,D.nmlen];exact ZA #[2]
theorem DOk.num(D:#[46])(B:SBd #[cq]){e:Zx}(he:e∈X.L):0<=e.n/\e.n<X.nb:=B.lt _ (Qj (f:=#[cK]) he)
theorem DOk.nb1(B:SBd #[cq]):X.nb<1000000:=by have:=B.nb1;unfold dsO at this;dsimp only at this;lia
theorem JH(X:MS)(nm:#[54])(s:ak)(b:H ka=U #[57])(c:KsS ks):(∃o,Rf #[n6] X.nb H "add" (.ref ka) .non (U o)/\Yu #[cq] (.row s ks) "refused" #[cq])\/(sortedS ks=true/\X.L.length<16):=by
 cases a:sortedS ks with
 | false=>obtain⟨k,e⟩:=JJ a;exact .inl ⟨U (X.nb,#[et,k]),.inl ⟨rfl,rfl,rfl,ka,ks,rfl,b,c.ok,e⟩,.noRow (.inr (.inl a))⟩
 | true =>
  by_cases f:X.L.length<16
  ·exact .inr ⟨rfl,f⟩
  ·have d:16<=#[n6].length:=by unfold Z7;rw[Qa];lia
   exact .inl ⟨af,⟨rfl,rfl,ka,ks,rfl,b,c.ok,a,d⟩,.noRow (.inr (.inr d))⟩
theorem JG(nb:Int){e:Zx}(he:e∈X.L)(hs:#[ss])(c:H ka=U #[57])(d:KsS ks):(∃g,Rf #[n6] nb H "grow" (.int e.n) (.ref ka) (U (U g))/\Yu #[cq] (.grow s ks) "refused" #[cq])\/sortedS #[lt]=true:=by
 have b:(#[rT]:ZW)∈Z7 X.L:=Qj (f:=#[cK]) he;cases a:sortedS (e.ss++ks) with
 | false=>obtain⟨k,h⟩:=JJ a;exact .inl ⟨(e.n,#[et,k]),.inr ⟨rfl,_,b,rfl,rfl,ka,ks,rfl,c,d.ok,h⟩,.noGrow (.inr ⟨_,b,hs,a⟩)⟩
 | true=>exact #[n2]
theorem JF(D:#[46])(B:SBd #[cq]){e:Zx}(he:e∈X.L)(a:H ka=U #[57])(b:KsS ks):ka≠e.p/\#[lt].length<=200/\∀x∈e.ss++ks,x.length<=1000/\AZ x:=by
 have R:=D.mg.M.each e he;refine⟨λz=>(by obtain⟨de,c⟩:=R.at'.ob;rw[z,c]at a;cases a),?_,λx hx=>?_⟩
 ·have h1:e.ss.length<=180:=B.len _ (Qj (f:=#[cK]) he);have h2:=b.1;rw[Qe];lia
 ·rcases Ql.mp hx with hx|hx
  ·exact R.str x hx
  ·exact b.ok.2 x hx
theorem DOk.cut(D:#[46])(a:#[54]):ZM cR cM #[vh,H,a] X.m X.rd X.sd X.L X.s X.nb X.li X.lo (YV X.w):=D.mg.M.keep λb o hb c=>by
 rw[Zc (λz=>by
  rcases c with y|⟨xs,rfl⟩
  ·exact D.sep #[bl]
  ·rw[z,D.at']at hb;cases hb)]
 exact hb
theorem JE{c:Hp}(D:#[46]){e:Zx}(he:e∈X.L)(hs:#[ss]){d:ae}{s':StL}{w:#[bL]}{k q:Int}(a:#[vh,H,#[77]] d=af)(W:Win #[mN] #[qo] w)(St:Ya #[mN] s' 8 #[qo])(f:YR #[mN] 8 #[qo] k q)
  (M:#[f5,c,d,#[aH]]) (kp:∀b o,#[vh,H,#[77]] b=U o->b≠X.m->b≠X.rd->c b=U o):∃g,DTo cR cM H c X g nd nm #[77] (.drop s) "done":=by
 refine D.drop hs he ?_ W St f M (kp _ _ Zd #[rh] #[ku]) λb o h i j l=>kp b o #[oK,l,h] i j;by_cases z:d=nd
 ·show#[p2,Zd,a]
 ·rw[Zc z]at a;exact a
universe E
theorem JD(rd:ae)(nb li lo:Int)(sd:ae)(a:V):#[17].lookup ("drop_row" : ak)=af:=#[n]
theorem R9(rd:ae)(nb li lo:Int)(sd:ae)(a:V):#[17].lookup ("grow" : ak)=af:=#[n]
def Zpk(b c:ae):Sp:=λvs H Q _=>X8 λ(X:MS) (nd d:ae) (nm:List (ak×Int)) (o:Od) (e s:ak) (ks:List ak)=>vs=[.ref X.m,.ref nd,.str e,.str s,.ref d]/\DOk b c H X nd nm/\SBd #[cq]/\H d=U #[57]/\TQ e s ks o/\KsS ks/\∀ (g:MS) (h:List (ak×Int)) (a:ak) (f:Hp),DTo b c H f X g nd nm h o a->Q (.str a) f
theorem Zn5(T:#[e])(bT:#[jm])(bJ:#[tP])(bK:#[rE])(cG:#[tR])(cm:#[fI,"grow",#[97],N9]) :
  Df P w K mg base 15 "_law_done" #[78] (Zpk au aj):=by
 show#[dj,T.t_l_done.df,Pn,vs,i];obtain⟨X,nd,r,t,o,wd,l,J,rfl,D,B,u,Z,x,q⟩:=h;refine⟨_,#[Zf,#[ZT,#[Zo,YH,#[XF,YH,‹2›,#[Zu],#[cZ]],#[XF,(inG i),‹3›,‹1›,#[O]],#[cZ]],#[Zh,#[Zn,#[Zu]]],#[ZB]],#[Zf,#[tS],#[Zf,(@LN _ _ _ _ _ _ _ _ _ _ _ _ (λah E=>#[Zh,#[ZT,#[pc,2],#[Zh,#[Yn,(@S9 _ _ _ _ #[Wk,bJ,T.cl_Merge,#[76],i,‹0›,#[Zg,‹4›]] #[gp,bT,i,0,4]),#[W5,‹1›,‹3›,(Wn i)]]],#[Zh,#[ZT,#[pc,2],#[Zh,#[ZL,(@S9 _ _ _ _ #[pR,cm,i,#[kK]] #[Yh,cG,T.cl_Merge,i,‹0›,#[kK]])]],#[Zh,#[ZL,#[Yh,bK,T.cl_Merge,i,‹0›,#[Zg,(@ZrU K _ _ _ _ _ _ _ _ _ _ _ _ Q8 QaC PySem.F.type_dict_pop Rv ‹1› #[Zg,‹3›] #[5] #[5] #[5] #[5] #[5] #[5])]]]]]]]]) (λe=>#[Zh,#[tS]]) #[Y] rfl T.m_MergeError T.x_MergeError rfl #[6]),#[ea,5]]]],?_⟩;have no:#[lK]:=λh z=>h (by injection z);show#[qd,y,C];have L:(kvN t).length<aq:=D.small B;have j:∀ {v:V} {H':Hp} {I:MS} {eD:List (ak×Int)} {a:ak},v=.str a->DTo au aj H H' X I nd t eD o a->Q v H':=λe d=>by subst e;exact #[t2]
 rcases Sb t l with c|⟨n,c⟩
 ·have m:=Sc c;refine#[hb];rcases Z with⟨rfl,rfl⟩|⟨rfl,rfl⟩|⟨rfl,rfl⟩
  ·show#[lE];refine Yo #[20] ?_;refine#[cu];rcases JH X t l u x with⟨o,N,st⟩|⟨hsr,ir⟩
   ·refine .inl ⟨_,rfl,X.m,y,_,rfl,C,Sh ..,_,rfl,X.m,X.rd,X.sd,X.L,X.s,X.nb,X.li,X.lo,YV X.w,.ref r,U o,rfl,D.mg.M,B.nb0,DOk.nb1 B,N,?_⟩;cases o with
    | none=>exact λF G=>⟨aG,_,rfl,T.xw_Full.cls,by simp,_,rfl,j rfl (D.stay st G)⟩
    | some nj=>exact λd F G _ _=>⟨ao,_,rfl,T.t_OutOfOrder_init.cls,by simp,_,rfl,j rfl (D.stay st G)⟩
   ·refine .inr ⟨_,rfl,X.m,y,_,rfl,C,Sh ..,_,rfl,X.m,X.rd,X.sd,X.L,X.s,X.nb,X.li,X.lo,YV X.w,r,J,rfl,D.mg.M,λe g=>(D.num B g).2,ir,u,x.ok.1,x.ok.2,hsr,λe bq sl w k q' F en rq eg hp O R S W St Y M p=>?_⟩;obtain⟨I,d⟩:=D.add B c hsr ir en rq eg hp O R S W St Y M p;refine⟨_,rfl,_,rfl,nd,_,rfl,Xm.k (k:=.inr l) (p _ _ D.at' #[rh] #[ku]) L,?_⟩;rw[Vo _ m,JI];exact#[nc]
  ·show#[ez,"grow"];exact YS rfl (j rfl #[ny])
  ·show#[ez,"drop"];exact YS rfl (j rfl (D.stay (.noDrop c) #[ja]))
 ·show#[oS,m,c,g];refine#[hb];rcases Z with⟨rfl,rfl⟩|⟨rfl,rfl⟩|⟨rfl,rfl⟩
  ·show#[lE];exact YS rfl (j rfl (D.stay (.noRow (.inl ⟨_,c,rfl⟩)) #[ja]))
  ·show#[ez,"grow"];refine Yo #[20] ?_;refine⟨_,rfl,rfl,_,rfl,Yo (no #[1]) #[cu]⟩;rcases JG X.nb g c u x with⟨nj,N,st⟩|hsr
   ·refine .inl ⟨_,rfl,X.m,y,_,rfl,C,R9 ..,_,rfl,_,rfl,nd,_,rfl,Y6.k' (k:=.inr l) D.at' m,_,rfl,X.m,X.rd,X.sd,X.L,X.s,X.nb,X.li,X.lo,YV X.w,.int e.n,.ref r,U (U nj),rfl,D.mg.M,(λe g=>by have:=D.num B g;have:=DOk.nb1 B;lia),N,?_⟩;exact λd F G _ _=>⟨ao,_,rfl,T.t_OutOfOrder_init.cls,by simp,_,rfl,j rfl (D.stay st G)⟩
   ·obtain⟨g1,g2,g3⟩:=JF D B g u x;refine .inr ⟨_,rfl,X.m,y,_,rfl,C,R9 ..,_,rfl,_,rfl,nd,_,rfl,Y6.k' (k:=.inr l) D.at' m,_,rfl,X.m,X.rd,X.sd,X.L,X.s,X.nb,X.li,X.lo,X.w,e,r,J,rfl,D.mg.M,D.mg.W,D.mg.ok,g,u,g1,g2,hsr,g3,λk' f' bq sl w k q' F O R nL W ok M p=>?_⟩;obtain⟨I,d⟩:=D.grow c g hsr O R nL W ok M p;exact#[nc]
  ·show#[ez,"drop"];refine Yo #[20] ?_;refine⟨_,rfl,rfl,_,rfl,Yo (no #[1]) ⟨_,rfl,rfl,_,rfl,Yo (no #[1]) ?_⟩⟩;refine⟨_,rfl,X.m,y,_,rfl,C,JD ..,_,rfl,.inr #[kN],_,rfl,nd,_,.inr l,_,rfl,rfl,D.at',m,?_⟩;rw[JK];refine⟨X.m,X.rd,X.sd,X.L,X.s,X.nb,X.li,X.lo,YV X.w,e,rfl,D.cut _,g,λbq sl w k q' F S W St Y M p=>?_⟩;obtain⟨I,d⟩:=JE D g c S W St Y M p;exact#[nc]
noncomputable def Od.first:Od->ak
 | .row _ _ => "row"
 | .grow _ _ => "grow"
 | .drop _ => "drop"
 | .take _ => "take"
 | .counts => "counts"
noncomputable def Od.sing:Od->List V
 | .row s _=>[.str s]
 | .grow s _=>[.str s]
 | .drop s=>[.str s]
 | .take n=>[.int (n:Int)]
 | .counts=>[]
noncomputable def Od.furt:Od->List V
 | .row _ ks=>ks.map V.str
 | .grow _ ks=>ks.map V.str
 | _=>[]
def OdW:Od->Prop
 | .row s ks=>NmS s/\KsS ks
 | .grow s ks=>NmS s/\KsS ks
 | .drop s=>NmS s
 | .take n=>n<10
 | .counts=>True
noncomputable def dkF(m nd:ae):List #[rW]:=[("merge",.ref m),("numbers",.ref nd)]
theorem V7(m nd:ae):(dkF m nd).lookup ("merge" : ak)=U (.ref m):=by unfold dkF;exact List.lookup_cons_self
theorem WR(m nd:ae):(dkF m nd).lookup ("numbers" : ak)=U (.ref nd):=by unfold dkF;rw[Qas,show (("numbers" : ak) == "merge")=false from by ac_rfl];exact List.lookup_cons_self
def XY(g b c:ae)(p:Od->Prop):Sp:=λvs H Q _=>X8 λ(d sl e h:ae) (X:MS) (nd:ae) (nm:List (ak×Int)) (o:Od)=>vs=[.ref d,.ref sl,.ref e]/\H d=U #[vD,g,h,X.m]/\¬ MFp X d/\DOk b c H X nd nm/\SBd #[cq]/\H sl=U (.lst o.sing)/\H e=U (.lst o.furt)/\OdW o/\p o/\∀ (i:MS) (j:List (ak×Int)) (a:ak) (f:Hp),DTo b c H f X i nd nm j o a->Q (.str a) f
theorem Zoo(T:#[e])(Y:#[jm])(Z:#[tP]) :
  Df P w K mg base 15 "do_row" #[32] #[dd]:=by
 show#[dj,T.t_do_row.df,Ls,vs,m];obtain⟨d,t,u,b,X,nd,i,o,rfl,hd,G,D,B,fv,I,hw,⟨c,ks,rfl⟩,q⟩:=h;refine⟨_,#[Zf,#[Zz,3,Ls.nd,#[3],#[88]],#[Zf,#[o0,inG,m,#[cs]],#[Zf,(@ZpG _ _ _ _ _ _ _ _ _ _ _ _ _ _ _ _ _ _ (λah E=>#[Zh,#[Yn,(@S9 _ _ _ _ #[Wk,Z,T.cl_Merge,#[76],m,#[cs],#[Zg,‹2›]] #[Yh,Y,T.cl_Merge,m,#[cs],#[Zg,‹2›]]),#[W5,#[cs],‹3›,(Wn m)]]]) (λe=>#[bE]) rfl T.m_OutOfOrder rfl T.m_Full #[6] #[6] rfl #[Y] T.x_OutOfOrder T.x_Full rfl rfl),#[kr]]]],?_⟩;show#[qd,J,L];have x:(kvN i).length<aq:=D.small B;have y:KsS ks:=hw.2;have p:∀ {v:V} {N:Hp} {O:MS} {eD:List (ak×Int)} {a:ak},v=.str a->DTo au aj H N X O nd i eD (.row c ks) a->Q v N:=λe d=>by subst e;exact #[t2]
 show#[g4,t,fv];rcases Sb i c with j|⟨n,j⟩
 ·have r:=Sc j;show#[dl,b,c,r,Y3];rcases JH X i c I y with⟨o,hR,st⟩|⟨l,R⟩
  ·refine .inl ⟨_,rfl,d,aA,b,_,_,rfl,hd,T.cl_Desk,T.na_Desk_merge,V7 ..,X.m,J,_,rfl,L,Sh ..,_,rfl,X.m,X.rd,X.sd,X.L,X.s,X.nb,X.li,X.lo,YV X.w,.ref u,U o,rfl,D.mg.M,B.nb0,DOk.nb1 B,hR,?_⟩;cases o with
   | none=>exact λS C=>⟨aG,_,rfl,T.xw_Full.cls,by simp,p rfl (D.stay st C)⟩
   | some nj=>exact λ_ S C _ _=>⟨ao,_,rfl,T.t_OutOfOrder_init.cls,by simp,p rfl (D.stay st C)⟩
  ·refine .inr ⟨_,rfl,d,aA,b,_,_,rfl,hd,T.cl_Desk,T.na_Desk_merge,V7 ..,X.m,J,_,rfl,L,Sh ..,_,rfl,X.m,X.rd,X.sd,X.L,X.s,X.nb,X.li,X.lo,YV X.w,u,ks,rfl,D.mg.M,λe he=>(D.num B he).2,R,I,y.ok.1,y.ok.2,l,λe bq t w k q' S en rq eg hp hk hf dY W St Pl M F=>?_⟩;obtain⟨O,g⟩:=D.add B j l R en rq eg hp hk hf dY W St Pl M F;have ml:=F _ _ hd #[e0,G] (λz=>G #[95]);refine⟨_,rfl,d,aA,b,_,_,rfl,ml,T.cl_Desk,T.na_Desk_numbers,WR ..,_,rfl,nd,_,rfl,Xm.k (k:=.inr c) (F _ _ D.at' #[rh] #[ku]) x,?_⟩;rw[Vo _ r,JI];exact p rfl g
 ·have r:=TR D.ok.nd j;show#[dl,b,c,r,Yz];exact p rfl (D.stay (.noRow (.inl ⟨_,j,rfl⟩)) #[ja])
theorem Zmt(T:#[e])(I:#[tR])(J:#[fI,"grow",#[97],N9]) :
  Df P w K mg base 15 "do_grow" #[32] #[c0]:=by
 show#[dj,T.t_do_grow.df,Lr,L,l];obtain⟨d,p,r,b,X,nd,t,o,rfl,hd,iN,D,B,N,u,hw,⟨i,ks,rfl⟩,q⟩:=h;refine⟨_,#[Zf,#[Zz,3,Lr.nd,#[3],#[88]],#[Zf,#[o0,Ti,l,#[cs]],#[Zf,(@LN _ _ _ _ _ _ _ _ _ _ _ _ (λah E=>#[Zh,#[ZL,(@S9 _ _ _ _ #[Wk,J,T.cl_Merge,#[76],l,#[cs],#[lj]] #[Yh,I,T.cl_Merge,l,#[cs],#[lj]])]]) (λe=>#[bE]) #[Y] rfl T.m_OutOfOrder T.x_OutOfOrder rfl #[6]),#[kr]]]],?_⟩;show#[qd,y,z];have C:KsS ks:=hw.2;have x:∀ {v:V} {F:Hp} {G:MS} {O:List (ak×Int)} {a:ak},v=.str a->DTo au aj H F X G nd t O (.grow i ks) a->Q v F:=λe d=>by subst e;exact #[t2]
 show#[g4,p,N];rcases Sb t i with c|⟨n,c⟩
 ·have m:=Sc c;show#[dl,b,i,m,Yz];exact x rfl #[ny]
 ·show#[oS,m,c,j];show#[dl,b,i,m,Y3];rcases JG X.nb j c u C with⟨R,S,st⟩|hsr
  ·refine .inl ⟨_,rfl,d,aA,b,_,_,rfl,hd,T.cl_Desk,T.na_Desk_merge,V7 ..,X.m,y,_,rfl,z,R9 ..,_,rfl,d,aA,b,_,_,rfl,hd,T.cl_Desk,T.na_Desk_numbers,WR ..,_,rfl,nd,_,rfl,Y6.k' (k:=.inr i) D.at' m,_,rfl,X.m,X.rd,X.sd,X.L,X.s,X.nb,X.li,X.lo,YV X.w,.int e.n,.ref r,U (U R),rfl,D.mg.M,(λe j=>by have:=D.num B j;have:=DOk.nb1 B;lia),S,?_⟩;exact λ_ Y Z _ _=>⟨ao,_,rfl,T.t_OutOfOrder_init.cls,by simp,x rfl (D.stay st Z)⟩
  ·obtain⟨g1,g2,g3⟩:=JF D B j u C;refine .inr ⟨_,rfl,d,aA,b,_,_,rfl,hd,T.cl_Desk,T.na_Desk_merge,V7 ..,X.m,y,_,rfl,z,R9 ..,_,rfl,d,aA,b,_,_,rfl,hd,T.cl_Desk,T.na_Desk_numbers,WR ..,_,rfl,nd,_,rfl,Y6.k' (k:=.inr i) D.at' m,_,rfl,X.m,X.rd,X.sd,X.L,X.s,X.nb,X.li,X.lo,X.w,e,r,ks,rfl,D.mg.M,D.mg.W,D.mg.ok,j,u,g1,g2,hsr,g3,λk' f' bq p w k q' Y hk hf nL W ok M kp=>?_⟩;obtain⟨G,g⟩:=D.grow c j hsr hk hf nL W ok M kp;exact x rfl g
theorem ZmV(T:#[e])(y:#[rE]) :
  Df P w K mg base 15 "do_drop" #[v] (XY aA au aj λo=>∃s,o=.drop s):=by
 show#[dj,T.t_do_drop.df,Lq,z,p];obtain⟨d,l,C,c,X,nd,m,o,rfl,hd,iN,D,B,F,jl,hw,⟨i,rfl⟩,q⟩:=h;refine⟨_,#[Zf,#[Zz,3,Lq.nd,#[3],#[88]],#[Zf,#[o0,Ti,p,#[w]],#[Zf,#[ZL,#[Yh,y,T.cl_Merge,p,#[w],#[Zg,#[YF,Q8,QaC,PySem.F.type_dict_pop,Rv,#[w],#[Zg,‹3›]]]]],#[kr]]]],?_⟩;show#[qd,G,I];have r:∀ {v:V} {t:Hp} {u:MS} {J:List (ak×Int)} {a:ak},v=.str a->DTo au aj H t X u nd m J (.drop i) a->Q v t:=λe d=>by subst e;exact #[t2]
 show#[g4,l,F];rcases Sb m i with b|⟨n,b⟩
 ·have j:=Sc b;show#[dl,c,i,j,Yz];exact r rfl (D.stay (.noDrop b) #[ja])
 ·show#[oS,j,b,x];show#[dl,c,i,j,Y3];refine⟨_,rfl,d,aA,c,_,_,rfl,hd,T.cl_Desk,T.na_Desk_merge,V7 ..,X.m,G,_,rfl,I,JD ..,_,rfl,d,aA,c,_,_,rfl,hd,T.cl_Desk,T.na_Desk_numbers,WR ..,.inr #[kN],_,rfl,nd,_,.inr i,_,rfl,rfl,D.at',j,?_⟩;rw[JK];refine⟨X.m,X.rd,X.sd,X.L,X.s,X.nb,X.li,X.lo,YV X.w,e,rfl,D.cut _,x,λbq l w k q' H1 L W St N M O=>?_⟩;obtain⟨u,g⟩:=JE D x b L W St N M O;exact r rfl g
theorem TN{i:Int}(h:i.natAbs<=100000000):aJ.layable0 (.int i)=true/\(aJ.int i).intsShort 13=true/\(aJ.int i).showable=true/\(XZ i).length<=13:=by
 have hl:i.natAbs.log2<30:=by
  by_cases z:i.natAbs=0
  ·rw[z];decide
  ·exact QD (#[ti].mpr (Nat.lt_of_le_of_lt h (show 100000000<2 ^ 27 by decide))) #[6]
 have a:(ak.ofString #[sp]).length<=13:=by rw[PySem.ofString_length];exact Qi (int_text_length_le10 (k:=10) #[6] #[2]) #[6]
 refine⟨?_,by simp only[aJ.intsShort,decide_eq_true_eq];exact a,?_,a⟩
 ·simp only[aJ.layable0,aJ.canLay0,aJ.depth,Bool.and_eq_true,decide_eq_true_eq];refine⟨⟨trivial,rfl⟩,?_⟩;simp only[aJ.weight];split<;>lia
 ·simp only[aJ.showable,decide_eq_true_eq];lia
theorem JC(x y:ak):Txt.join " " [x,y]=x ++ " "++y:=by
 have e:Txt.join (" " : ak) [x,y]=ak.join " " [x,y]:=by simpa using join_plain_closes (" " : ak) [x,y]
 rw[e];rfl
theorem Zqp:∀n:Nat,n<10->XZ (n:Int)=(#[hL]:ak):=by intro n hn;rcases(show n=0\/n=1\/n=2\/n=3\/n=4\/n=5\/n=6\/n=7\/n=8\/n=9 by lia) with rfl|rfl|rfl|rfl|rfl|rfl|rfl|rfl|rfl|rfl<;>ac_rfl
def JB(K:#[7]):Sp:=λvs H Q _=>X2 λ(l:ae) (ns:List Int)=>vs=[.ref l]/\SqL K H l #[U]/\ns.length<=1000/\(∀n∈ns,n.natAbs<=100000000)/\∀a,ZG H a->Q (.str (blT (ns.map XZ))) a
theorem Zpb(T:#[e])(C:#[jE]):Df P w K mg base 2 "written_numbers" #[i3] (JB K):=by
 show#[dj,T.t_written_numbers.df,ZeY,F,m];show#[o6,l,b,p,t,u];refine⟨_,#[Zh,#[Zn,#[ZD,C,m,#[Zg,#[Xn,Pj,#[iL,K,‹0›],#[e2,1,Pj],#[16],(λ_ _ _ _=>#[Xe,(UR K m),T.b.n_str,boot_str,#[Zg,#[cw,1,Pj]]])]],#[5]]]],?_⟩;refine⟨_,rfl,l,rfl,⟨_,p⟩,λD z=>?_⟩;refine We (K:=K) (a:=l) (xs:=b.map V.int) (λi zs j c=>(∃v:Option V,j=[U #[cT],v])/\zs=((b.take i).map XZ).map V.str/\i<=b.length/\c D=U #[ie]/\ZG H c) ?_ (λ_ _ _ _ h=>h.2.2.2.2.seq p) ?_ ?_
 ·exact#[eu,z]
 ·show#[oQ,j,c,d,g,k];cases e:b[i]? with
  | none=>rw[e]at d;cases d
  | some x =>
  show#[dr,e,d,G,i,b.length];obtain⟨I,J,L,g4⟩:=TN (u x (Qu e));refine⟨_,rfl,_,.int x,rfl,.int x,I,J,L,g,#[tH],#[E],?_,G,Zd,λM o B=>?_⟩
  ·rw[QN,e,Qg,Qg];rfl
  ·show#[oO,B,z,k,M,o]
 show#[gw,j,c,g,k];refine⟨D,b.map XZ,rfl,SqL.of g,?_,q c k⟩;have:∀l:List Int,(∀n∈l,n.natAbs<=100000000)->((l.map XZ).map #[hs]).sum<=13*l.length:=λl=>by
  induction l with
  | nil=>intro _;exact Qf _
  | cons a r N=>intro h;have h1:=(TN (h a #[4])).2.2.2;have h2:=#[oW,N,n,t];rw[Qn,Qn,Q5,QA];lia
 have:=this b u;rw[Qa];lia
theorem Zjg(T:#[e])(i:#[dE,1,"likenings",#[X],KA])(j:#[dE,1,"looks",#[X],Kz])(k:Df P w K mg base 2 "written_numbers" #[i3] (JB K)) :
  Df P w K mg base 15 "ask_counts" #[v] (XY aA au aj λo=>o=.counts):=by
 show#[dj,T.t_ask_counts.df,ZhH,m,a];obtain⟨d,p,r,b,X,nd,c,o,rfl,hd,iN,D,B,fv,jl,hw,rfl,q⟩:=h;refine⟨_,#[Zh,#[Zn,#[ZD,k,a,#[Zg,#[Ys,#[Zg,#[Yq,i,T.cl_Merge,a,#[w]],#[Yq,j,T.cl_Merge,a,#[w]]]]],#[5]]]],?_⟩;show#[qd,e,g];refine⟨_,rfl,d,aA,b,_,_,rfl,hd,T.cl_Desk,T.na_Desk_merge,V7 ..,X.m,e,_,rfl,g,Kv ..,X.m,X.rd,X.sd,X.L,X.s,X.nb,X.li,X.lo,_,rfl,D.mg.M,_,rfl,d,aA,b,_,_,rfl,hd,T.cl_Desk,T.na_Desk_merge,V7 ..,X.m,e,_,rfl,g,Ku ..,X.m,X.rd,X.sd,X.L,X.s,X.nb,X.li,X.lo,_,rfl,D.mg.M,#[61],λl t=>?_⟩;have u:=Zi t (.lst #[gy,X.li,X.lo]);refine⟨l,[X.li,X.lo],rfl,SqL.of Zd,#[eg,2,1000],(λn hn=>by
  rcases QJ.mp hn with rfl|hn
  ·exact B.li
  ·rw[Qh.mp hn];exact B.lo),λv x=>?_⟩
 rw[show blT ([X.li,X.lo].map XZ)=XZ X.li ++ " "++XZ X.lo from JC _ _];exact q X c _ v (D.stay .counts (u.trans x))
theorem R8{nm:#[54]}(nd:#[nL].Nodup){s:ak}{n:Int}(h:(s,n)∈nm):YM nm n=s:=by
 unfold YM;cases a:nm.find? λx=>decide (x.2=n) with
 | none=>exact absurd (decide_eq_true rfl) (List.find?_eq_none.mp a _ h)
 | some y =>
  have b:=Qan a;have c:y.2=n:=by have:=#[qP];simpa using this
  rw[N5 nd b h c];rfl
theorem inl_nd'{nm:#[54]}(nd:#[nL].Nodup):(nm.map (#[iw] ∘ λe:ak×Int=>((.inl e.2:Key),V.str e.1))).Nodup:=by have:=KR nd;rw[QB]at this;exact this
def JA(K:#[7])(b:ae):Sp:=λvs H Q _=>X7 λ(d c m nd hl:ae) (nm:List (ak×Int)) (hs:List (ae×Int×ak))=>vs=#[oJ,d,hl]/\H d=U #[vD,b,c,m]/\H nd=U #[fX,nm]/\nm.length<=20/\#[nL].Nodup/\#[sX]/\H hl=U #[fS,hs.map,h,h.1]/\(∀h∈hs,H h.1=U (.tup [.int h.2.1,.str h.2.2]))/\hs.length<=1000/\(∀h∈hs,(∃s,(s,h.2.1)∈nm)/\h.2.2.length<=1000) /\
 ∀l a,H l=af->a l=U (.lst (hs.map λh=>V.str (thT (YM nm h.2.1) h.2.2)))->ZG H a->Q #[cT] a
theorem Zmg(T:#[e])(eG:Df P w K mg base 2 "written_thing" #[j6] JP):Df P w K mg base 3 "written_heads" #[kU] (JA K aA):=by
 show#[pQ,T.t_written_heads.df,Lp];obtain⟨d,dd,m,nd,M,c,I,rfl,hd,Y,rA,Z,wQ,zI,Ef,fv,fO,q⟩:=h;refine⟨_,#[Zf,#[Zz,2,Lp.nd,#[ly],(@Tl _ _ _ (@ZoQ _ _ _ _ _ _ _ _ _ _ _ _ _ _ _ _ Ue rfl rfl rfl #[mk] #[dL,3,Ue,4] #[16] (λ_ _ _ _=>#[cw,4,Ue]) (λ_ _ _ _=>#[cw,3,Ue]) (by intro _;rfl)))],#[Zh,#[Zn,#[Xn,VT,#[m1],#[dL,3,VT,4],#[16],(λ_ _ _ _=>#[ZD,eG,hr,#[Zg,#[ZJ,(ixG hr),#[cv,2,VT],#[cw,3,VT]],#[cw,4,VT]],#[gJ,VT]])]]]],?_⟩;refine⟨nd,.dK (kvN c),Y,True.intro,_,rfl,d,aA,dd,_,_,rfl,hd,T.cl_Desk,T.na_Desk_numbers,WR ..,nd,_,rfl,Y,λo D R=>?_⟩;have S:D≠nd:=λz=>by rw[z,Zd]at R;cases R
 have zJ:H D=af:=by rw[Zc S]at R;exact R
 refine ZpF (λi W t r=>(X2 λB C:Option V=>t=[U (.ref d),U (.ref M),af,B,C])/\W=kvI (c.take i)/\i<=c.length/\r D=U (.dK W)/\r nd=U (.frz o #[fX,c])/\∀b u,H b=U u->b≠nd->r b=U u) ⟨⟨af,af,rfl⟩,rfl,Qm _,Zd,#[oK,S.symm,Zd],λb u g n=>(by rw[Zc (Ze g zJ),Zc n];exact g)⟩ #[sn] ?_ ?_
 ·rintro i k x W t r p J ⟨⟨B,C,rfl⟩,rfl,hi,F,lG,k2⟩ hp;unfold kvN at J;rw[Qo]at J;cases l:c[i]? with
  | none=>rw[l]at J;cases J
  | some e =>
  show#[dr,l,J,cb,i,c.length];have kp:∀b u,r b=U u->(upd r p (.tup [.str e.1,.int e.2])) b=U u:=λb u g=>by rw[Zc (Ze g hp)];exact g
  have hv:Y1 (kvI (c.take i)) (.inl e.2)=af:=by
   cases hv:Y1 (kvI (c.take i)) (.inl e.2) with
   | none=>rfl
   | some v =>
    obtain⟨y,G,z⟩:=Qq.mp (UN hv);injection z with z _;show#[vx,j,hj,ej,List.mem_iff_getElem.mp,G];rw[Qv]at hj;rw[List.getElem_take]at ej;have h1:#[nQ][j]? = U e.2:=by rw[Qo,Qb #[2],ej];exact congrArg U #[mR]
    have h2:#[nQ][i]? = U e.2:=by rw[Qo,l];rfl
    have:=(List.getElem?_inj #[eM,Qa] Z).mp (h1.trans h2.symm);lia
  refine⟨p,_,rfl,SqT.of Zd,rfl,_,_,rfl,_,_,rfl,rfl,_,rfl,_,rfl,.inl e.2,rfl,kp _ _ F,(by unfold kvI;rw[Qa,Qv];exact ZA #[2]),#[qz],?_,cb,Zd,?_,λb u g n=>?_⟩
  ·rw[Vo _ hv,QN,l];unfold kvI;rw[Qg];rfl
  ·rw[Zc S.symm];exact kp _ _ lG
  ·rw[Zc (Ze g zJ)];exact kp _ _ (k2 b u g n)
 ·rintro W t r ⟨⟨B,C,rfl⟩,rfl,hi,F,lG,k2⟩;show#[p3,o,lG];have L:ZG H #[vh,r,c]:=λb u g=>by
   by_cases z:b=nd
   ·rw[z]at g ⊢;show#[e8,Y,g,g];exact Zd
   ·rw[Zc z];exact k2 b u g z
  have ip:#[vh,r,c] D=U (.dK (kvI c)):=by rw[Zc S,F];unfold kvN;rw[Qa,Qw #[ih]]
  generalize upd r nd (.dK (kvN c))=H3 at L ip ⊢;refine⟨_,rfl,M,rfl,⟨_,SqL.of (L _ _ zI)⟩,λD2 F=>?_⟩;refine We (K:=K) (a:=M) (xs:=I.map λh=>V.ref h.1) (λi zs t N=>(X2 λB C:Option V=>t=[U (.ref d),U (.ref M),U #[it],B,C])/\zs=(I.take i).map (λh=>V.str (thT (YM c h.2.1) h.2.2))/\i<=I.length/\N D2=U #[ie]/\ZG H3 N) ⟨⟨af,af,rfl⟩,rfl,Qm _,Zd,Zi F _⟩ (λ_ _ _ _ h=>SqL.of (h.2.2.2.2 _ _ (L _ _ zI))) ?_ ?_
  ·rintro i y zs t N G ⟨⟨B,C,rfl⟩,rfl,hi,X,O⟩;rw[Qo]at G;cases l:I[i]? with
   | none=>rw[l]at G;cases G
   | some x =>
   show#[dr,l,G,cb,i,I.length];have hx:=Qu l;obtain⟨⟨s,rC⟩,lM⟩:=fO x hx;have zK:YM c x.2.1=s:=R8 Z rC;have wR:Y1 (kvI c) (.inl x.2.1)=U (.str s):=Tg (by unfold kvI;rw[QB];exact inl_nd' Z) (Qj (f:=#[lD]) rC);refine⟨x.1,_,rfl,SqT.of (O _ _ (L _ _ (Ef x hx))),rfl,_,_,rfl,_,_,rfl,rfl,_,rfl,_,rfl,D,_,rfl,Y6.k' (k:=.inl x.2.1) (O _ _ ip) wR,_,rfl,s,x.2.2,rfl,(by have h8:s.length<=8:=wQ _ rC;lia),lM,X,(by rw[Qa,Qv,aO];lia),#[qz],?_,cb,Zd,λb u g=>?_⟩
   ·rw[QN,l,Qg];show _=_++[V.str (thT (YM c x.2.1) x.2.2)];rw[zK]
   ·show#[oO,g,F,O,b,u]
  ·rintro zs t N ⟨⟨B,C,rfl⟩,rfl,_,X,O⟩;rw[Qa,Qw #[ih]]at X;exact q D2 N (L.free F) X (L.trans O)
def Jz(K:#[7])(f:ae):Sp:=λvs H Q _=>X7 λ(d g m nd c:ae) (nm:List (ak×Int)) (a:List (ae×Ym))=>vs=#[oJ,d,c]/\H d=U #[vD,f,g,m]/\H nd=U #[fX,nm]/\nm.length<=20/\#[nL].Nodup/\#[sX]/\H c=U #[fS,a.map,t,t.1]/\(∀t∈a,H t.1=U #[eq,t.2.1,t.2.2.1,t.2.2.2])/\a.length<=1000/\(∀t∈a,(∃s,(s,t.2.1)∈nm)/\t.2.2.2.length<=1000) /\
 ∀l b,H l=af->b l=U (.lst (a.map λt=>V.str (thT (YM nm t.2.1) t.2.2.2)))->ZG H b->Q #[cT] b
theorem Zla(T:#[e])(Y:Df P w K mg base 3 "written_heads" #[kU] (JA K aA)):Df P w K mg base 4 "written_things" #[hx] (Jz K aA):=by
 show#[dj,T.t_written_things.df,Zfh,Z,hr];obtain⟨d,M,m,nd,v,C,g,rfl,hd,gW,rA,rB,wQ,N,pr,htz,fc,q⟩:=h;refine⟨_,#[Zh,#[Zn,#[ZD,Y,hr,#[Zg,‹0›,#[Xn,Ve,#[m1],(λ_ _ _ _=>#[gT,K,3,#[Zs,#[cg,2,Ve],#[Zs,#[cg,3,Ve],#[Zs,#[cg,4,Ve],(@Yj _)]]]]),#[16],(λ_ _ _ _=>#[Yi,#[Zg,#[cw,2,Ve],#[cw,4,Ve]]])]],#[5]]]],?_⟩;refine⟨_,rfl,_,rfl,v,rfl,#[gO,N],λD O=>?_⟩;refine We (K:=K) (a:=v) (xs:=g.map λt=>V.ref t.1) (λi zs F o=>(X3 λG I J:Option V=>F=[U (.ref d),U (.ref v),G,I,J])/\(∃c:List (ae×Int×ak),zs=c.map (λu=>V.ref u.1)/\c.map #[kc]=(g.take i).map (λt=>(t.2.1,t.2.2.2))/\∀u∈c,u.1≠D/\o u.1=U (.tup [.int u.2.1,.str u.2.2]))/\i<=g.length/\o D=U #[ie]/\ZG H o) ⟨⟨af,af,af,rfl⟩,#[md],Qm _,Zd,Zi O _⟩ #[d0,N] ?_ ?_
 ·rintro i y zs F o p ⟨⟨G,I,J,rfl⟩,⟨c,rfl,k,L⟩,hi,B,n⟩;rw[Qo]at p;cases r:g[i]? with
  | none=>rw[r]at p;cases p
  | some x =>
  show#[dr,r,p,cb,i,g.length];have R:c.length=i:=by have:=#[dW,k];rw[Qa,Qa,Qv]at this;lia
  refine⟨x.1,_,rfl,SqT.of (n _ _ (pr x (Qu r))),rfl,_,_,rfl,_,_,rfl,_,_,rfl,rfl,_,rfl,_,rfl,#[61],λt j=>?_⟩;have S:t≠D:=λz=>by rw[z,B]at j;cases j
  refine⟨Zi j _ _ _ B,#[dB,R],#[sM],⟨c++[(t,x.2.1,x.2.2.2)],by rw[Qg];rfl,?_,λu hu=>?_⟩,cb,Zd,λb u W=>?_⟩
  ·rw[QN,r,Qg,Qg,k];rfl
  ·rcases Ql.mp hu with hu|hu
   ·obtain⟨X,g2⟩:=L u hu;exact⟨X,by rw[Zc X];exact Zi j _ _ _ g2⟩
   ·rw[Qh.mp hu];exact⟨S,by rw[Zc S];exact Zd⟩
  ·rw[Zc (Ze W O)];exact Zi j _ _ _ (n b u W)
 ·rintro zs F o ⟨⟨G,I,J,rfl⟩,⟨c,rfl,k,L⟩,_,B,n⟩;rw[Qa,Qw #[ih]]at k;have mv:∀u∈c,∃t∈g,t.2.1=u.2.1/\t.2.2.2=u.2.2:=λu hu=>by
   have:u.2∈g.map (λt=>(t.2.1,t.2.2.2)):=by rw[<- k];exact Qj (f:=λu:ae×Int×ak=>u.2) hu
   obtain⟨t,j,e⟩:=Qq.mp this;exact⟨t,j,by rw[<- e],by rw[<- e]⟩
  have R:c.length=g.length:=by have:=#[dW,k];show#[m5]
  refine⟨d,M,m,nd,D,C,c,rfl,n _ _ hd,n _ _ gW,rA,rB,wQ,B,λu hu=>(L u hu).2,by lia,λu hu=>?_,λl H5 hl h5 s5=>?_⟩
  ·obtain⟨t,j,e1,e2⟩:=mv u hu;rw[<- e1,<- e2];exact fc t j
  ·refine q l H5 (n.free hl) ?_ (n.trans s5);rw[h5];have:=congrArg (List.map λy:Int×ak=>V.str (thT (YM C y.1) y.2)) k;rw[QB,QB]at this;exact congrArg (λz=>U (HO.lst z)) this
theorem Jy{P:#[iC]}(h1:P.length<=16)(h2:∀x∈P,x.2.1.length<=180):Xs P<=2880:=by
 unfold Xs;have:∀l:List ZW,(∀x∈l,x.2.1.length<=180)->(l.map λx=>x.2.1.length-x.2.2).sum<=180*l.length:=λl=>by
  induction l with
  | nil=>intro _;exact Qf _
  | cons a r b=>intro h;have h1:=h a #[4];have h2:=#[oW,b,x,c];rw[Qn,Q5,QA];lia
 have:=this P h2;lia
theorem Yv.rowOf{P b:#[iC]}{c:List Ym}{k q:Int}(h:Yv P c b k q):∀x∈b,∃y∈P,y.2.1=x.2.1:=by
 induction h with
 | nil=>intro x a;exact⟨x,a,rfl⟩
 | snoc _ _ d=>intro x a;show#[dA,w,hw,a];obtain⟨y,f,e⟩:=d w hw;show#[p3,y,f];unfold Wu;split<;>exact e
theorem Yv.key{P b:#[iC]}{a:List Ym}{k q:Int}(h:Yv P a b k q):∀t∈a,t.1∈Y5 P/\∃x∈P,t.2.2∈x.2.1:=by
 induction h with
 | nil=>intro t ht;cases ht
 | snoc h s c =>
  rename_i a P1 x z k q k1 q1;intro t ht;rcases Ql.mp ht with ht|ht
  ·exact c t ht
  ·rw[Qh.mp ht];obtain⟨y,d,e⟩:=h.rowOf x s.1;exact⟨by rw[<- h.num];exact Qj (f:=#[mq]) s.1,y,d,by rw[e];exact Qu s.2.1⟩
theorem DOk.took{g h:ae}{H i:Hp}{X:MS}{nd:ae}{nm:#[54]}(D:DOk g h H X nd nm){n:Nat}{c:List Ym}{a:#[bv]}{s':StL}{d:#[bL]}{k q:Int}(f:Yv #[n6] c (Z7 a) k q)(h1:#[hE]<(n:Int)->d=af)(h2:c≠[]->#[hE]<=(n:Int))
  (M:ZM g h i X.m X.rd X.sd a s' X.nb (X.li+k) (X.lo+q) (YV d)) (W:Win (hdM a) (Zy a) d) (ok:Z0 (hdM a) s' (Zy a)) (fp:∀b,Fp X.m X.rd X.sd a b↔Fp X.m X.rd X.sd X.L b) (kp:∀b o,H b=U o->¬ Fp X.m X.rd X.sd X.L b->i b=U o) :
  ∃l,DTo g h H i X l nd nm nm (.take n) (blT (c.map λt=>thT (YM nm t.1) t.2.2)):=by
 have m:=Znr (Zp9 D.mg) f h1 h2 W (λx p=>by obtain⟨e,r,rfl⟩:=Qq.mp p;exact(M.each e r).le);refine⟨⟨X.m,X.rd,X.sd,a,s',X.nb,X.li+k,X.lo+q,d⟩,.take f m,⟨⟨M,W,ok⟩,kp _ _ D.at' D.sep,λz=>D.sep ((fp nd).mp z),⟨?_,D.ok.nd,?_⟩⟩,rfl,λb j=>.inl ((fp b).mp j),λb u j s _=>kp b u j s⟩
 ·show nm.map #[kc]=Y5 (Z7 a);rw[f.num];exact D.ok.num
 ·show (Y5 (Z7 a)).Nodup;rw[f.num];exact D.ok.ndP
theorem ZkI(T:#[e])(R:Mf P w K mg base 7 aj "take_few" #[nI] (J5 K au aj))(S:Df P w K mg base 4 "written_things" #[hx] (Jz K aA))(Y:#[jE]) :
  Df P w K mg base 15 "ask_take" #[v] (XY aA au aj λo=>∃n,o=.take n):=by
 show#[dj,T.t_ask_take.df,ZjY,Z,i];obtain⟨d,p,fl,j,X,nd,nm,o,rfl,hd,iN,D,B,fv,jl,hw,⟨n,rfl⟩,q⟩:=h;refine⟨_,#[Zh,#[Zn,#[ZD,Y,i,#[Zg,#[ZD,S,i,#[Zg,‹0›,#[Yh,R,T.cl_Merge,i,#[w],#[Zg,#[88]]]],#[5]]],#[5]]]],?_⟩;show#[qd,dx,hm];have oI:=Jy B.few B.len;refine⟨_,rfl,_,rfl,d,aA,j,_,_,rfl,hd,T.cl_Desk,T.na_Desk_merge,V7 ..,X.m,dx,_,rfl,hm,J4 ..,_,rfl,p,_,_,_,rfl,rfl,SqL.of fv,rfl,X.m,X.rd,X.sd,X.L,X.s,X.nb,X.li,X.lo,X.w,(n:Int),rfl,D.mg.M,D.mg.W,D.mg.ok,Qi oI #[6],λrr b L' s' w' k q' H1 Eg oJ oU v oK C M W ok fp F=>?_⟩;obtain⟨X',g⟩:=D.took v #[dp,Qa,oK] (by rw[Qa];exact λz=>C λy=>z #[pT,y]) M W ok fp F;have ml:=F _ _ hd iN;have nK:b.length<10:=by
  have tL:n<10:=hw;by_cases z:b=[]
  ·rw[z];decide
  ·have:=C z;lia
 have G:∀e∈nm,e.1.length<=8:=λe he=>(B.nmz e he).2;have I:∀u∈b,#[l1]/\u.2.2.2.length<=1000:=λu m=>by obtain⟨g1,x,hx,g2⟩:=v.key u.2 (Qj (f:=λu:ae×Ym=>u.2) m);show#[vx,y,hy,e,Qq.mp,g1];obtain⟨s,c⟩:=D.ok.has (show y∈#[cq].P from hy);show#[dA,z,hz,hx];exact⟨⟨s,by rw[<- e];exact c⟩,((D.mg.M.each z hz).str _ g2).1⟩
 refine⟨d,j,X.m,nd,rr,nm,b,rfl,ml,g.D.at',(by rw[D.nmlen];exact Qi B.few #[6]),D.ok.ndN,G,oJ,oU,#[2],I,λl J hl h2 s2=>?_⟩;have L:#[nR].map #[oi]=b.map λu=>thT #[dc] u.2.2.2:=by rw[QB];rfl
 rw[L]at g;have N:=q X' nm _ J (g.same s2);clear q;generalize O:(b.map λu=>thT (YM nm u.2.1) u.2.2.2)=ws at N g L;have qe:J l=U #[dv,ws.map]:=by rw[<- O,QB];exact h2
 refine⟨l,ws,rfl,SqL.of qe,?_,N⟩;rw[<- O];have e1:#[fp,":"]:=by ac_rfl
 have:∀l:List (ae×Ym),(∀u∈l,#[l1]/\u.2.2.2.length<=1000)->#[kO].sum<=1010*l.length:=λl=>by
  induction l with
  | nil=>intro _;exact Qf _
  | cons a r ih =>
   intro h;obtain⟨⟨s,c⟩,h3⟩:=h a #[4];have ih':=#[oW,ih,u,m];have h8:s.length<=8:=G _ c;have h4:=U6 a.2.2.2;have h5:(thT (YM nm a.2.1) a.2.2.2).length<=1010:=by rw[R8 (nm:=nm) D.ok.ndN c];unfold thT;rw[QP,QP];lia
   rw[Qn,Qn,Q5,QA];lia
 have:=this b I;rw[Qa];lia
noncomputable def Od.kinds:Od->List ak
 | .row _ _=>["name"]
 | .grow _ _=>["name"]
 | .drop _=>["name"]
 | .take _=>["many"]
 | .counts=>[]
noncomputable def Od.fk:Od->V
 | .row _ _=>.str "key"
 | .grow _ _=>.str "key"
 | _=>.non
noncomputable def Od.sw:Od->List ak
 | .row s _=>[s]
 | .grow s _=>[s]
 | .drop s=>[s]
 | .take n=>[Xr n]
 | .counts=>[]
noncomputable def Od.fw:Od->List ak
 | .row _ ks=>ks.map kT0
 | .grow _ ks=>ks.map kT0
 | _=>[]
noncomputable def Od.ws(o:Od):List ak:=o.first::#[st]
noncomputable def Od.txt(o:Od):ak:=Txt.join " " o.ws
structure ZtA (o:Od):Prop where
 l1:o.kinds.length=o.sw.length
 l2:o.sing.length=o.sw.length
 l3:o.furt.length=o.fw.length
 s:∀ (i:Nat) (k wd:ak) (v:V),o.kinds[i]? = U k->o.sw[i]? = U wd->o.sing[i]? = U v->RdW k wd v
 f:o.fw=[]/\o.fk=.non\/(o.fk=.str "key"/\∀ (i:Nat) (wd:ak) (v:V),o.fw[i]? = U wd->o.furt[i]? = U v->RdW "key" wd v)
 few:o.fw.length<=10
theorem Jx{o:Od}(h:OdW o):ZtA o:=by
 have one:∀ {r:Type} {a x:r} {i:Nat},[a][i]? = U x->a=x:=λ{r a x i} h=>Qh.mp (Qu h) |>.symm;have f:∀b:List ak,KsS b->(∀ (i:Nat) (d:ak) (v:V),(b.map kT0)[i]? = U d->(b.map V.str)[i]? = U v->RdW "key" d v)/\(b.map kT0).length<=10/\(b.map V.str).length=(b.map kT0).length:=λb t=>by
  refine⟨λi d v c e=>?_,by rw[Qa];exact Qi t.1 #[6],by rw[Qa,Qa]⟩;rw[Qo]at c e;cases g:b[i]? with
  | none=>rw[g]at c;cases c
  | some x=>rw[g]at c e;cases c;cases e;obtain⟨u,w⟩:=t.2 x (Qu g);exact .inr (.inl ⟨rfl,x,rfl,rfl,w,u⟩)
 have j:∀s:ak,NmS s->∀ (i:Nat) (k d:ak) (v:V),(["name"]:List ak)[i]? = U k->[s][i]? = U d->[V.str s][i]? = U v->RdW k d v:=λs y i k d v c e l=>by have m:=one c;show#[ln];exact .inl ⟨rfl,rfl,y⟩
 cases o with
 | row s b=>exact#[g9]
 | grow s b=>exact#[g9]
 | drop s=>exact⟨rfl,rfl,rfl,j s h,.inl #[Y],Qm _⟩
 | take n=>refine⟨rfl,rfl,rfl,λi k d v c e l=>?_,.inl #[Y],Qm _⟩;have m:=one c;show#[ln];exact .inr (.inr ⟨rfl,n,rfl,rfl,h⟩)
 | counts=>exact⟨rfl,rfl,rfl,λi k d v c=>by simp[Od.kinds]at c,.inl #[Y],Qm _⟩
theorem Zpj(d:#[cA])(o:Od):X2 λt g:ae=>PySem.W.nsIn K br o.first=U (U #[mY])/\(∀H,SqT K H g #[ns])/\∀H,SqT K H t [.ref g,o.fk]:=by
 cases o with
 | row s h=>obtain⟨a,b,c,e,f⟩:=d.d_FORMS_row;exact#[79]
 | grow s h=>obtain⟨a,b,c,e,f⟩:=d.d_FORMS_grow;exact#[79]
 | drop s=>obtain⟨a,b,c,e,f⟩:=d.d_FORMS_drop;exact#[79]
 | take n=>obtain⟨a,b,c,e,f⟩:=d.d_FORMS_take;exact#[79]
 | counts=>obtain⟨a,b,c,e,f⟩:=d.d_FORMS_counts;exact#[79]
theorem N3(o:Od):o.first∈(["row", "grow", "drop", "take", "counts"]:List ak):=by cases o;exact .head _;exact .tail _ (.head _);exact .tail _ #[nz];exact .tail _ (.tail _ #[nz]);exact .tail _ (.tail _ (.tail _ #[nz]))
theorem R7{c:Nat}{z:ak}(h:AZ z)(hc:c<97):c ∉ z.cps.toList:=λm=>by have:=h c m;lia
theorem Zra{c:Nat}{k:ak}(h:AZ k)(hc:c<97)(a:c≠45):c ∉ (kT0 k).cps.toList:=by
 unfold kT0;split
 ·show c ∉ ("-" : ak).cps.toList;rw[show ("-" : ak).cps.toList=[45] from by ac_rfl];intro m;exact a (Qh.mp m)
 ·exact R7 h hc
theorem Jw{o:Od}(h:OdW o){c:Nat}(hc:c<45):∀z∈o.ws,c ∉ z.cps.toList:=by
 have first:∀o:Od,c ∉ o.first.cps.toList:=λo m=>by
  have:∀z∈(["row", "grow", "drop", "take", "counts"]:List ak),z.cps.toList.all (λx=>decide (97<=x))=true:=by ac_rfl
  have:=List.all_eq_true.mp (this _ (N3 o)) c m;have:=of_decide_eq_true this;lia
 have b:∀a:List ak,KsS a->∀z∈a.map kT0,c ∉ z.cps.toList:=λa d z hz=>by obtain⟨x,e,rfl⟩:=Qq.mp hz;exact Zra (d.2 x e).2 #[2] #[2]
 intro z hz;unfold Od.ws at hz;rcases QJ.mp hz with rfl|hz
 ·exact first o
 rcases Ql.mp hz with hz|hz
 ·cases o with
  | row s a=>rw[Qh.mp hz];exact R7 h.1.1 #[2]
  | grow s a=>rw[Qh.mp hz];exact R7 h.1.1 #[2]
  | drop s=>rw[Qh.mp hz];exact R7 (show NmS s from h).1 #[2]
  | take n=>rw[Qh.mp hz];intro m;have:c∈[48+n]:=m;have:=Qh.mp this;lia
  | counts=>cases hz
 ·cases o with
  | row s a=>exact #[sf]
  | grow s a=>exact #[sf]
  | drop s=>cases hz
  | take n=>cases hz
  | counts=>cases hz
theorem N0(sep:ak)(ws:#[T])(m n:Nat)(h:∀s∈ws,s.length<=m)(hn:ws.length<=n)(h1:sep.length=1):(Txt.join sep ws).length<=n*(m+1):=by
 have j:=Ll sep ws;have:∀l:List ak,#[p6,l,m]->(l.map #[hs]).sum<=l.length*m:=λl=>by
  induction l with
  | nil=>intro _;simp
  | cons a l b=>intro h;have h1:=h a #[4];have c:=#[oW,b,s,d];rw[Qn,Q5,QA,Nat.succ_mul];lia
 have c:=this ws h;have h3:ws.length*m+ws.length*1<=n*(m+1):=by rw[<- Nat.mul_add];exact Nat.mul_le_mul_right _ hn
 rw[h1]at j;lia
theorem Wt(ks:#[T]):inV .non (ks.map V.str)=false/\(ks.map V.str).all Xo=true:=by
 induction ks with
 | nil=>exact#[Y]
 | cons a r b =>
  refine#[tX]
  ·show (eqV (V.str a) .non||inV .non (r.map V.str))=false;rw[b.1];rfl
  ·show (Xo (V.str a)&&(r.map V.str).all Xo)=true;rw[b.2];rfl
theorem ZpH(o:Od):(inV .non o.sing=false/\o.sing.all Xo=true)/\inV .non o.furt=false/\o.furt.all Xo=true:=by
 cases o with
 | row s a=>exact⟨Wt [s],Wt a⟩
 | grow s a=>exact⟨Wt [s],Wt a⟩
 | drop s=>exact⟨Wt [s],Wt []⟩
 | take n=>exact⟨⟨rfl,rfl⟩,Wt []⟩
 | counts=>exact⟨Wt [],Wt []⟩
theorem NZ{o:Od}(h:OdW o):Txt.split o.txt " " = o.ws:=by
 have e:#[eC," ",32]:=by ac_rfl
 unfold Od.txt;rw[e];exact LQ (by unfold Od.ws;simp) (Jw h #[2])
theorem NY{o:Od}(h:OdW o):o.ws.length<=12/\∀z∈o.ws,z.length<=50:=by
 have first:o.first.length<=50:=(by ac_rfl:∀z∈(["row", "grow", "drop", "take", "counts"]:List ak),z.length<=50) _ (N3 o)
 have b:∀a:List ak,KsS a->∀z∈a.map kT0,z.length<=50:=λa c z hz=>by obtain⟨x,d,rfl⟩:=Qq.mp hz;have:=(c.2 x d).1;have:=U6 x;lia
 have R:=Jx h;have l1:=R.few;have ls:o.sw.length<=1:=by cases o<;>first|exact Qf _|exact Qm _
 refine⟨by unfold Od.ws;rw[QA,Qe];lia,λz hz=>?_⟩;unfold Od.ws at hz;rcases QJ.mp hz with rfl|hz
 ·exact first
 rcases Ql.mp hz with hz|hz
 ·cases o with
  | row s a=>rw[Qh.mp hz];exact Qi h.1.2.2 #[6]
  | grow s a=>rw[Qh.mp hz];exact Qi h.1.2.2 #[6]
  | drop s=>rw[Qh.mp hz];exact Qi (show NmS s from h).2.2 #[6]
  | take n=>rw[Qh.mp hz];exact(by decide:1<=50)
  | counts=>cases hz
 ·cases o with
  | row s a=>exact #[sf]
  | grow s a=>exact #[sf]
  | drop s=>cases hz
  | take n=>cases hz
  | counts=>cases hz
structure VD (H:Hp) (x:ae×ae×ae) (o:Od):Prop where
 t:H x.1=U (.tup [.str o.first,.ref x.2.1,.ref x.2.2])
 s:H x.2.1=U (.lst o.sing)
 f:H x.2.2=U (.lst o.furt)
theorem VD.same{H a:Hp}{x:ae×ae×ae}{o:Od}(h:VD H x o)(s:ZG H a):VD a x o:=⟨s _ _ h.t,s _ _ h.s,s _ _ h.f⟩
def Jv:Sp:=λvs H Q _=>∃o:Od,vs=[.str o.txt]/\OdW o/\∀ (x:ae×ae×ae) a,ZG H a->H x.1=af->H x.2.1=af->H x.2.2=af->VD a x o->Q (.ref x.1) a
theorem ZkS(T:#[e])(v:#[cA])(eY:Df P w K mg base 3 "read_word" #[lN] JS)(dR:Df P w K mg base 1 "may_be_further" #[jC] JQ):Df P w K mg base 4 "order_in" ["row"] Jv:=by
 show#[pQ,T.t_order_in.df,Wi];obtain⟨o,rfl,hw,q⟩:=h;refine⟨_,#[Zf,#[Yn,#[di],(@Zpi _ _ _ _ _ K #[Zs,#[pq,1,Wi.nd],(@Zn7 _ _ _ _ #[pq,2,Wi.nd] #[5])] #[5] #[5] #[5] #[5])],#[Zf,#[ZT,#[Zo,Zqy,‹1›,#[Vk,v.m_FORMS],#[O]],#[h0],#[ZB]],#[Zf,#[Yn,#[ZJ,Rs,#[Vk,v.m_FORMS],‹1›],#[gT,K,2,#[Zs,#[pq,3,Wi.nd],#[Zs,#[ZC,4,Wi.nd,#[ly]],(@Yj _)]]]],#[Zf,#[Zz,5,Wi.nd,#[3],#[cE]],#[Zf,#[ZT,(@PW.pt _ _ _ #[WO,#[Zo,WC,#[ax],‹5›,#[cZ]],#[WP,(@R0 _ _ _ _ #[W8,#[ZD,dR,hr,#[Zg,#[gn,4],#[ZY,U1,#[ax],‹5›]],#[5]]])]]),#[h0],#[ZB]],#[Zf,#[UT,6,Wi.nd,Vf,(@iZ _ K _ _ _ _ _ _ _ _ T.b.n_zip #[d6,3,2] #[5] #[5] #[5] #[5]),#[dL,8,Vf,9],#[16],(λ_ _ _ _=>#[ZD,eY,hr,#[Zg,#[cw,8,Vf],#[cw,9,Vf]],#[gJ,Vf]])],#[Zf,#[UT,7,Wi.nd,Uf,#[iL,K,#[f3,2,5]],#[e2,8,Uf],#[16],(λ_ _ _ _=>#[ZD,eY,hr,#[Zg,#[cv,4,Uf],#[cw,8,Uf]],#[gJ,Uf]])],#[Zh,#[Zn,#[Yk,(@PW.pt _ _ _ #[WO,#[Zo,(inQ K),#[ZR],‹6›,#[O]],#[WP,#[Zo,(inQ K),#[ZR],‹7›,#[O]]]]),#[ZR],#[Yi,#[ek,1,6,7]]]]]]]]]]]],?_⟩;have R:=Jx hw;obtain⟨lH,Ei⟩:=NY hw;obtain⟨t,I,dS,wT,ht⟩:=Zpj v o;have yb:o.sw.length<=1:=by cases o<;>first|exact Qf _|exact Qm _
 have e1:#[fp," "]:=by ac_rfl
 have wU:o.txt.length<=aq:=Qi (N0 " " o.ws 50 12 Ei lH e1) #[6];refine⟨_,rfl,rfl,o.txt, " ",rfl,rfl,#[1],wU,(by rw[NZ hw];exact small #[2]),λa ha=>?_⟩;rw[NZ hw];refine⟨a,.str o.first,#[st].map V.str,rfl,SqL.of Zd,(by rw[Qa,Qe];have:=R.few;lia),λl hl=>?_⟩;have J:=(Zi ha #[dv,o.ws.map]).trans (Zi hl (.lst #[bt]));have n:(upd (upd H a #[dv,o.ws.map]) l (.lst #[bt])) l=U (.lst #[bt]):=Zd;generalize upd (upd H a (.lst (o.ws.map V.str))) l (.lst ((o.sw++o.fw).map V.str))=L at J n ⊢;refine⟨_,_,rfl,_,_,rfl,rfl,_,rfl,br,o.first,_,rfl,rfl,v.kd_FORMS,dS,_,rfl,Y3 ?_⟩;refine⟨_,rfl,br,o.first,.ref t,_,rfl,rfl,v.kd_FORMS,dS,rfl,t,_,rfl,ht L,rfl,_,_,rfl,_,_,rfl,rfl,_,rfl,I,_,rfl,.inr (wT L),?_⟩;have ek:(#[ns].length:Int)=#[i8]:=by rw[Qa,R.l1]
 have el:(#[bt].length:Int)=#[i8]+(o.fw.length:Int):=by rw[Qa,Qe];lia
 rw[ek];refine⟨_,rfl,l,_,rfl,.inl (SqL.of n),_,rfl,_,_,rfl,rfl,_,rfl,?_⟩;rw[el];refine Yo #[2] ?_;refine⟨_,rfl,_,rfl,l,_,rfl,.inl (SqL.of n),_,rfl,_,_,rfl,rfl,?_⟩;rw[el];refine⟨o.fk,_,rfl,?_,_,rfl,Y3 ?_⟩
 ·rcases R.f with⟨h1,h2⟩|⟨h1,_⟩
  ·exact .inl ⟨h2,by rw[h1];show (o.sw.length:Int)+0-_=0;lia⟩
  ·exact .inr h1
 refine⟨_,rfl,_,rfl,.t I,.l l,o.kinds.map V.str,#[st].map V.str,rfl,wT L,SqL.of n,λD hD=>?_⟩;refine RD (λi zs j d=>(X2 λm v2:Option V=>j=[U (.str o.txt),U (.str o.first),U #[cT],U (.ref I),U o.fk,U (.int #[i8]),af,af,m,v2])/\zs=o.sing.take i/\i<=o.sw.length/\d D=U #[ie]/\ZG L d) ⟨⟨af,af,rfl⟩,rfl,Qm _,Zd,Zi hD _⟩ (λ_ _ _ _ h=>⟨wT _,SqL.of (h.2.2.2.2 _ _ n)⟩) ?_ ?_
 ·rintro i zs j d x y p z c ⟨⟨m,v2,rfl⟩,rfl,hi,M,B⟩ hp;rw[Qo]at z c;cases N:o.kinds[i]? with
  | none=>rw[N]at z;cases z
  | some k =>
  show#[e8,N,z,z];have e:i<o.sw.length:=by rw[<- R.l1];exact(Qd.mp N).1
  rw[QO e]at c;cases g:o.sw[i]? with
  | none=>rw[g]at c;cases c
  | some r =>
  show#[e8,g,c,c];have C:o.sing[i]? = U (o.sing[i]'#[dp,R.l2,e]):=Qb _;have kp:ZG d (upd d p (.tup [V.str k,.str r])):=Zi hp _;refine⟨p,_,rfl,SqT.of Zd,rfl,_,_,rfl,_,_,rfl,rfl,_,rfl,_,rfl,k,r,_,rfl,R.s i k r _ N g C,kp _ _ M,#[ey,Qv,ZA,#[2]],#[qz],?_,e,Zd,λb u F=>?_⟩
  ·rw[QN,C];rfl
  ·rw[Zc (Ze F hD)];exact kp _ _ (B b u F)
 rintro zs j d ⟨⟨m,v2,rfl⟩,rfl,_,M,B⟩;have zM:min #[ns].length #[bt].length=o.sing.length:=by rw[Qa,Qa,Qe,R.l1,R.l2];lia
 rw[zM,Qw #[ih]]at M;have zN:Xd #[bt] (U #[i8]) af=o.fw.map V.str:=by rw[(Og #[st] o.sw.length #[eM,Qe]).2,List.drop_left]
 refine⟨_,rfl,_,rfl,_,rfl,l,_,rfl,SqL.of (B _ _ n),λp hp=>?_⟩;rw[zN];have O:=Zi hp #[uY];show#[u6,pj,d,p,#[uY]];have ip:=O _ _ M;generalize upd d p (.lst (o.fw.map V.str))=H3 at O pj ip ⊢;refine⟨p,rfl,#[gO,pj],λS W=>?_⟩;have nDD:D≠S:=Ze ip W;refine We (K:=K) (a:=p) (xs:=o.fw.map V.str) (λi zs j X=>(∃m:Option V,j=[U (.str o.txt),U (.str o.first),U #[cT],U (.ref I),U o.fk,U (.int #[i8]),U #[it],af,m])/\zs=o.furt.take i/\i<=o.fw.length/\X S=U #[ie]/\ZG H3 X) #[eu,W] #[d0,pj] ?_ ?_
 ·rintro i y zs j X c ⟨⟨m,rfl⟩,rfl,hi,G,Y⟩;rw[Qo]at c;cases g:o.fw[i]? with
  | none=>rw[g]at c;cases c
  | some r =>
  show#[dr,g,c,e,i,o.fw.length];rcases R.f with⟨h0,_⟩|⟨Ej,hf⟩
  ·rw[h0]at e;exact absurd e (Nat.not_lt_zero _)
  have C:o.furt[i]? = U (o.furt[i]'#[dp,R.l3,e]):=Qb _;refine⟨_,rfl,_,rfl, "key",r,_,#[pT,Ej],hf i r _ g C,G,(by rw[Qv];have:=R.few;exact ZA #[2]),#[E],?_,e,Zd,λb u F=>?_⟩
  ·rw[QN,C];rfl
  ·show#[oO,F,W,Y,b,u]
 show#[gW,j,X,m,G,Y];rw[Qa,<- R.l3,Qw #[ih]]at G;obtain⟨⟨b1,b2⟩,b3,b4⟩:=ZpH o;have m8:=Y _ _ ip;refine⟨_,rfl,D,_,rfl,.inl (SqL.of m8),rfl,b2,_,rfl,?_⟩;rw[if_neg Qt,b1];refine Y3 ⟨_,rfl,S,_,rfl,.inl (SqL.of G),rfl,b4,_,rfl,?_⟩;rw[if_neg Qt,b3];refine Y3 ⟨_,rfl,_,rfl,_,rfl,#[b6],λtt Z=>?_⟩;have zO:=((J.trans B).trans O).trans Y;exact q (tt,D,S) _ (zO.trans (Zi Z _)) (zO.free Z) (J.free hD) (((J.trans B).trans O).free W) ⟨Zd,Zi Z _ _ _ m8,Zi Z _ _ _ G⟩
theorem Ju{c s:Nat}:∀xs:List (List Nat),c∈gl s xs->c=s\/∃x∈xs,c∈x
 | [],h=>by cases h
 | [a],h=>.inr ⟨a,by simp,h⟩
 | a::b::r,h=>by
  have h':c∈a++s::gl s (b::r):=h;rcases Ql.mp h' with h'|h'
  ·exact .inr ⟨a,by simp,h'⟩
  ·rcases QJ.mp h' with h'|h'
   ·exact .inl h'
   ·rcases Ju (b::r) h' with z|⟨x,d,z⟩
    ·exact .inl z
    ·exact .inr ⟨x,Qs _ d,z⟩
theorem ZpY{o:Od}(h:OdW o):10 ∉ o.txt.cps.toList:=λm=>by
 have e:#[eC," ",32]:=by ac_rfl
 have a:o.txt=ak.join ⟨[32].toArray⟩ o.ws:=by unfold Od.txt;rw[e];simpa using join_plain_closes (⟨[32].toArray⟩:ak) o.ws
 rw[a,Rt]at m;rcases Ju _ m with z|⟨x,b,z⟩
 ·exact absurd z #[6]
 ·show#[dA,w,hw,b];exact Jw h #[6] w hw z
theorem Zl8{o:Od}(h:OdW o):¬ V.str o.txt=V.str "":=λz=>by
 injection z with z;have e:=NZ h;rw[z]at e;have a:Txt.split ("" : ak) " " = [("" : ak)]:=by ac_rfl
 rw[a]at e;unfold Od.ws at e;injection e with e _;exact absurd ((by ac_rfl:∀z∈(["row", "grow", "drop", "take", "counts"]:List ak),z ≠ "") _ (N3 o)) (λf=>f e.symm)
theorem NX{o:Od}(h:OdW o):o.txt.length<=612:=N0 " " o.ws 50 12 (NY h).2 (NY h).1 #[1]
noncomputable def ShT(os:List Od):ak:=Txt.join "\n" #[be]
theorem Jt{os:List Od}(a:os≠[])(h:∀o∈os,OdW o):Txt.split (ShT os) "\n" = os.map Od.txt:=by
 have e:#[eC,"\n",10]:=by ac_rfl
 unfold ShT;rw[e];exact LQ #[bG] λz b=>by obtain⟨o,c,rfl⟩:=Qq.mp b;exact ZpY (h o c)
def Js(H:Hp)(l:ae)(xs:List (ae×ae×ae))(os:List Od):Prop:=H l=U #[fS,xs.map,x,x.1]/\xs.length=os.length/\∀ (i:Nat) x o,xs[i]? = U x->os[i]? = U o->VD H x o
def Jr:Sp:=λvs H Q _=>∃os:List Od,vs=[.str (ShT os)]/\os≠[]/\(∀o∈os,OdW o)/\os.length<=90/\∀ (l:ae) (xs:List (ae×ae×ae)) (a:Hp),ZG H a->H l=af->Js a l xs os->Q #[cT] a
theorem Zmu(T:#[e])(gE:#[f4,4,"order_in","row",Jv]):Df P w K mg base 5 "orders_in" ["text"] Jr:=by
 show#[pQ,T.t_orders_in.df,Ui];obtain⟨os,rfl,S,hw,W,q⟩:=h;refine⟨_,#[Zf,#[oF,1,Ui.nd],#[Zf,#[Xh,bC.never,#[iE,K,T.b.n_enumerate,#[Zg,#[di]]],#[oV,Ui.nd],#[Zh,#[ZT,#[dt,V4,3,#[Zu]],#[Zf,#[Zz,4,Ui.nd,#[3],#[fi,gE,hr,3]],#[Zf,#[ZT,#[ge,4],#[u4],#[ZB]],#[Zh,#[eQ,1,4]]]],#[ZB]]]],#[ea,1]]],?_⟩;have e1:#[fp,"\n"]:=by ac_rfl
 have wU:(ShT os).length<=aq:=Qi (N0 "\n" #[be] 612 90 (λz g=>by obtain⟨o,t,rfl⟩:=Qq.mp g;exact NX (hw o t)) #[dp,Qa,W] e1) #[6];show#[vk,l,F];show#[vy,X,F];show#[fQ,G,H,l,#[65]];generalize upd H l (.lst [])=Y at X G ⊢;refine⟨_,rfl,rfl,ShT os, "\n",rfl,rfl,#[1],wU,(by rw[Jt S hw,Qa];exact Qi W #[6]),λa Z=>?_⟩;rw[Jt S hw];have I:=Zi Z #[h7];show#[oA,J,Y,a,#[h7]];have dF:=I _ _ G;generalize upd Y a (.lst ((os.map Od.txt).map V.str))=H2 at I J dF ⊢;have Ek:a≠l:=(Ze G Z).symm;refine⟨a,_,rfl,SqL.of J,?_⟩;refine RB (λi L k=>(X3 λM N O:Option V=>L=[U (.str (ShT os)),U #[cT],M,N,O])/\i<=os.length/\k a=U #[h7]/\(∀b u,H b=U u->k b=U u)/\∃d,Js k l d #[ul]/\∀x∈d,x.1≠l/\x.2.1≠l/\x.2.2≠l) ⟨⟨_,_,_,rfl⟩,Qm _,J,X.trans I,[],⟨dF,rfl,λi x o h=>by simp at h⟩,λx h=>by cases h⟩ (λ_ _ _ h=>SqL.of h.2.2.1) ?_ ?_
 ·rintro i y L k p n ⟨⟨M,N,O,rfl⟩,hi,rF,k3,d,⟨v,tR,nh⟩,R⟩ hp;rw[Qo,Qo]at n;cases g:os[i]? with
  | none=>rw[g]at n;cases n
  | some o =>
  show#[dr,g,n,cb,i,os.length];have t:=hw o (Qu g);have B:=Zi hp (.tup [.int (i:Int),.str o.txt]);refine⟨p,_,rfl,SqT.of Zd,rfl,_,_,rfl,_,_,rfl,rfl,_,rfl,rfl,_,rfl,?_⟩;rw[decide_eq_false (Zl8 t)];refine Yz ⟨_,rfl,o,rfl,t,λx H4 s4 f1 f2 f3 hx=>?_⟩;refine#[b8];have C:=B.trans s4;have rG:=C _ _ v;have g1:x.1≠l:=λz=>by rw[z,B _ _ v]at f1;cases f1
  have g2:x.2.1≠l:=λz=>by rw[z,B _ _ v]at f2;cases f2
  have g3:x.2.2≠l:=λz=>by rw[z,B _ _ v]at f3;cases f3
  have zP:d.length=i:=by rw[tR,Qv];lia
  refine⟨_,rfl,.inl #[dJ,rG],_,rfl,l,_,_,rfl,rfl,rG,#[dB,zP],#[sM],cb,?_,λb u hb=>?_,d++[x],⟨?_,?_,λj e D m r=>?_⟩,λe bY=>?_⟩
  ·rw[Zc Ek];exact C _ _ rF
  ·rw[Zc (Ze hb F)];exact C _ _ (k3 b u hb)
  ·rw[Zd,Qg];rfl
  ·rw[Qe,zP,Qv];simp;lia
  ·have keep:VD H4 e D->e.1≠l->e.2.1≠l->e.2.2≠l->VD (upd H4 l (.lst (d.map (λx=>V.ref x.1)++[.ref x.1]))) e D:=λh a b c=>⟨by rw[Zc a];exact h.t,by rw[Zc b];exact h.s,by rw[Zc c];exact h.f⟩;by_cases hj:j<d.length
   ·rw[QO hj]at m;have qe:#[ul][j]? = U D:=by rw[List.getElem?_take]at r ⊢;rw[if_pos #[2]]at r ⊢;exact r
    obtain⟨a1,a2,a3⟩:=R e (Qu m);exact keep ((nh j e D m qe).same C) a1 a2 a3
   ·have hj2:j<d.length+1:=by have:=(Qd.mp m).1;rwa [Qe]at this
    have El:j=i:=by lia
    subst El;rw[Q0 #[2],show j-d.length=0 by lia]at m;cases m;rw[List.getElem?_take,if_pos #[2],g]at r;cases r;exact keep hx g1 g2 g3
  ·rcases Ql.mp bY with h|h
   ·exact R e h
   ·rw[Qh.mp h];exact⟨g1,g2,g3⟩
 ·rintro L k ⟨⟨M,N,O,rfl⟩,hi,rF,k3,d,oN,R⟩;rw[Qa,Qa,Qw #[ih]]at oN;exact⟨_,rfl,q l d k k3 F oN⟩
def Jq(c f g:ae):Sp:=λvs H Q _=>X2 λd e:ae=>vs=[.ref d]/\H d=U (.ins c e [])/\∀ (X:MS) (nd:ae) (a:Hp),a d=U #[vD,c,e,X.m]->¬ MFp X d->DOk f g a X nd []->dsO X []=⟨[],0,0,0,[]⟩->(∀b,MFp X b->H b=af)->H nd=af->(∀b u,H b=U u->b≠d->a b=U u)->Q .non a
theorem ZnC(T:#[e])(eK:Cf P w K mg base 14 aj "Merge" #[nH] (KC au aj)):Cf P w K mg base 16 aA "Desk" #[X] (Jq aA au aj):=by
 show#[dj,T.t_Desk_init.cf,ZiL,vs,v];show#[pO,d,c,hd];refine⟨_,#[Zf,#[Yb,‹0›,#[Vm,eK,v,#[Zg,#[cF]]]],#[Zh,#[pf,Rz]]],#[18],λr v=>λm i k M zQ=>?_⟩;show#[vy,j,v];have N:#[eO,H,r] r=U #[jp]:=Zd;have Em:∀b,#[eO,H,r] b=af->H b=af:=λb=>j.free;generalize upd H r (.lst [])=l at j N Em k M ⊢;have p:ZG l #[dD,l,i,m,aj]:=λb o a=>by rw[Zc (Ze a k),Zc (Ze a M)];exact a
 show#[pl,O,l,i,m,aj];generalize upd (upd l i (.own m)) m (.ins aj i [])=H2 at p O ⊢;refine⟨m,i,r,[],rfl,O,⟨p _ _ N,Qm _,λx h=>by cases h⟩,#[d7,x,h],λB C L st w0 k2 q2 g t fB W3 S3 P3 En k3=>⟨rfl,?_⟩⟩;have hL:L=[]:=by have:=#[dW,fB.1];show#[kR]
 subst hL;obtain⟨ek,eq⟩:=P3.one (m:=8) (.few #[gr,0,2]);subst ek;subst eq;have D:ZG H g:=λb o a=>k3 b o (p b o (j b o a)) (Ze (j b o a) k);have R:=D _ _ hd;have S:∀b,Fp m B C #[gI,Zx] b->H b=af:=λb a=>by
  rcases En b a with z|z
  ·rw[z];exact j.free k
  ·exact j.free (p.free z)
 have W:¬ Fp m B C #[gI,Zx] d:=λz=>by have:=S d z;rw[hd]at this;cases this
 have rn:=VH 8 _ st _ t.up (Sa t) #[6] S3;refine⟨_,rfl,d,aA,c,_,rfl,R,T.cl_Desk,T.na_Desk_merge,#[gr,0,1000],?_⟩;rw[Xk];show#[fQ,X,g,d,#[cU]];have k4:#[oB,o,g,d,g,#[cU]]:=λb o a n=>by rw[Zc n];exact a
 have F:∀b,(upd g d #[cU]) b=af->g b=af:=λb a=>by
  by_cases z:b=d
  ·show#[p2,Zd,a]
  ·rw[Zc z]at a;exact a
 generalize upd g d (.ins aA c [("merge",.ref m)])=Y at X k4 F ⊢;intro e G;have I:=Zi G #[lT];show#[oA,Z,Y,e,#[lT]];have J:H e=af:=D.free (F e G);have mF:=I _ _ X;generalize upd Y e (.dK [])=H5 at I Z mF ⊢;refine⟨_,rfl,d,aA,c,_,rfl,mF,T.cl_Desk,T.na_Desk_numbers,#[gr,1,1000],?_⟩;have eF:Zv "numbers" #[bA] [("merge",V.ref m)]=dkF m e:=by rw[Zw #[1],Xk];rfl
 rw[eF];have Eo:e≠d:=λz=>by rw[z,hd]at J;cases J
 have k5:∀b o,g b=U o->b≠d->(upd H5 d (.ins aA c (dkF m e))) b=U o:=λb o a n=>by rw[Zc n];exact I _ _ (k4 b o a n)
 refine q ⟨m,B,C,[],st,0,0,0,w0⟩ e _ Zd W ⟨?_,#[oK,Eo,Z],(λz=>by have h3:=t.fp_fresh (F e G);exact h3 z),⟨rfl,.nil,.nil⟩⟩ rfl S J (λb u a n=>k5 b u (D b u a) n);refine MOk.keep (H:=g) ⟨t,W3,rn⟩ λb o a dG=>k5 b o a λz=>?_;rcases dG with y|⟨xs,rfl⟩
 ·exact W #[bl]
 ·show#[p2,R,a]
theorem Zqq(a:#[cA])(b:#[rj])(c:#[qv])(e:#[hD])(g:#[hB])(h:#[hJ])(o:Od) :
  ∃f,PySem.W.nsIn K bj o.first=U #[jb]/\Fv P w K mg base 17 f (XY aA au aj λx=>x=o):=by
 have go:∀ {x y:ak} {i:List ak} {p:Od->Prop},Df P w K mg base 15 x i (XY aA au aj p)->(∀f,mg x=U #[73]->PySem.W.nsIn K bj y=U #[jb])->p o->∃f,PySem.W.nsIn K bj y=U #[jb]/\Fv P w K mg base 17 f (XY aA au aj λx=>x=o):=λF hd j=>by obtain⟨f,k,F,l,m,q⟩:=F.ex;exact⟨f,hd f l,k,_,(F.imp λvs H Q E ⟨d,r,t,u,X,nd,v,z,A,B,C,D,G,I,J,L,M,N⟩=>⟨d,r,t,u,X,nd,v,z,A,B,C,D,G,I,J,L,#[dp,M,j],N⟩).mono #[6],m,q⟩
 cases o with
 | row s ks=>exact go b a.d_DEEDS_row ⟨s,ks,rfl⟩
 | grow s ks=>exact go c a.d_DEEDS_grow ⟨s,ks,rfl⟩
 | drop s=>exact go e a.d_DEEDS_drop ⟨s,rfl⟩
 | take n=>exact go g a.d_DEEDS_take ⟨n,rfl⟩
 | counts=>exact go h a.d_DEEDS_counts rfl
def ZsC:Sp:=λvs H Q _=>X3 λ(os:List Od) (c:List ak) (S:DS)=>vs=[.str (ShT os)]/\os≠[]/\(∀o∈os,OdW o)/\os.length<=90/\XI #[kP] os c S/\∀ (l:ae) (a:Hp),H l=af->a l=U #[dv,c.map]->(∀b u,H b=U u->a b=U u)->Q #[cT] a
theorem Zq3(T:#[e])(L:#[cA])(gg:#[f4,5,"orders_in","text",Jr])(gi:Cf P w K mg base 16 aA "Desk" #[X] (Jq aA au aj))
  (fS:#[rj]) (fh:#[qv]) (fj:#[hD]) (eT:#[hB]) (dr:#[hJ]) :
  Df P w K mg base 18 "run" ["text"] ZsC:=by
 show#[dj,T.t_run.df,Wj,vs,M];obtain⟨os,C,S,rfl,h0,hw,rE,N,q⟩:=h;refine⟨_,#[Zf,#[Zz,1,Wj.nd,#[3],#[fi,gg,M,0]],#[Zf,#[Zz,2,Wj.nd,#[3],(@Zrk _ _ _ _ _ _ _ _ _ gi M #[sv] #[5] #[6])],#[Zf,#[oF,3,Wj.nd],#[Zf,#[Xh,bC.never,#[m1],#[eB,4,Wj.nd,5,6],#[Zf,#[Zz,7,Wj.nd,#[3],#[ZJ,Rs,#[Vk,L.m_DEEDS],‹4›]],#[Zh,#[ZL,#[YF,QF,QG,QH,Xz,‹3›,#[Zg,(@Zn2 _ _ _ _ _ _ _ _ _ _ ‹7› M #[ek,2,5,6] #[sv] #[5] #[5])]]]]]],#[ea,3]]]]],_,rfl,os,rfl,h0,hw,rE,λol xs j s1 kP oN=>?_⟩;show#[gU,uV,tR,nh,oN];intro d k ni Er ndd;have D:ZG j #[dD,j,k,d,aA]:=λb o c=>by rw[Zc (Ze c ni),Zc (Ze c Er)];exact c
 show#[pl,lY,j,k,d,aA];generalize upd (upd j k (.own d)) d (.ins aA k [])=H2 at D lY ⊢;refine⟨d,k,rfl,lY,λX nd F mh t O hS G gW k3=>⟨rfl,#[18],λl m=>?_⟩⟩;have k13:#[d3,u,j,F]:=λb u c=>k3 b u (D b u c) (Ze c ni);show#[vy,R,m];show#[fQ,rG,F,l,#[65]];have D4:=O.same R;have rJ:=R _ _ mh;have uW:j l=af:=by
  cases z:j l with
  | none=>rfl
  | some u=>rw[k13 l u z]at m;cases m
 have Es:l≠d:=λz=>by rw[z,mh]at m;cases m
 have zS:l≠nd:=λz=>by rw[z,O.at']at m;cases m
 have Et:¬ MFp X l:=O.mg.M.fp_fresh m;have k14:∀b u,j b=U u->#[eO,F,l] b=U u:=λb u c=>R _ _ (k13 b u c);have wW:j nd=af:=D.free gW;have zT:∀b,MFp X b->j b=af:=λb c=>D.free (G b c);generalize upd F l (.lst [])=H4 at rG D4 rJ k14 ⊢;refine⟨_,rfl,ol,rfl,⟨_,SqL.of (k14 _ _ uV)⟩,?_⟩;refine RV (λi W p=>(X4 λY Z v6 v7:Option V=>W=[U (.str (ShT os)),U (.ref ol),U (.ref d),U #[cT],Y,Z,v6,v7])/\i<=os.length/\p l=U #[fP,C.take,i]/\(∀b u,j b=U u->p b=U u)/\X2 λX I=>XI #[kP] #[ul] (C.take i) (dsO X I)/\p d=U #[vD,aA,k,X.m]/\DOk au aj p X nd I/\¬ MFp X d/\¬ MFp X l/\∀b,MFp X b->j b=af) ⟨⟨_,_,_,_,rfl⟩,Qm _,rG,k14,X,[],(by rw[hS];exact .nil),rJ,D4,t,Et,zT⟩ (λ_ _ _ _ h=>SqL.of (h.2.2.2.1 _ _ uV)) ?_ ?_
 ·rintro i y W p v ⟨⟨Y,Z,v6,v7,rfl⟩,hi,r,k5,X,I,Eu,B,D5,t,zU,G⟩;rw[Qo]at v;cases J:xs[i]? with
  | none=>rw[J]at v;cases v
  | some x =>
  show#[e8,J,v,v];have cb:i<os.length:=by rw[<- tR];exact(Qd.mp J).1
  obtain⟨S1,S2,o,a,ho,ha,g1,g2,g3,g4,g5⟩:=N.at' i cb;obtain⟨_,eS⟩:=Eu.one g1;subst eS;have hx:=nh i x o J ho;obtain⟨f,dS,Ev⟩:=Zqq L fS fh fj eT dr o;refine⟨x.1,_,rfl,SqT.of (k5 _ _ hx.t),rfl,_,_,rfl,_,_,rfl,_,_,rfl,rfl,_,rfl,bj,o.first,.ref f,_,rfl,rfl,L.kd_DEEDS,dS,rfl,_,rfl,.inl #[dJ,r],_,rfl,f,_,rfl,Ev,_,rfl,_,rfl,_,rfl,d,x.2.1,x.2.2,k,X,nd,I,o,rfl,B,t,D5,g3,k5 _ _ hx.s,k5 _ _ hx.f,hw o (Qu ho),rfl,λX' eD a' H6 g=>?_⟩;obtain⟨ea,Ew⟩:=g4.one g2 g.st;subst ea;have qT:=g.k _ _ r zU zS;have Ex:=g.k _ _ B t (λz=>by rw[z,D5.at']at B;cases B);have uX:¬ MFp X' l:=λz=>(g.fp l z).elim zU λz=>by rw[r]at z;cases z
  have zV:¬ MFp X' d:=λz=>(g.fp d z).elim t λz=>by rw[B]at z;cases z
  have al:(C.take i).length=i:=by rw[Qv,N.len];lia
  refine⟨l,_,_,rfl,rfl,qT,#[dB,al],⟨_,_,_,_,rfl⟩,cb,?_,λb u c=>?_,X',eD,?_,?_,?_,zV,uX,λb c=>?_⟩
  ·rw[Zd,QN,ha,Qg];rfl
  ·rw[Zc (Ze c uW)];exact g.k b u (k5 b u c) (λz=>by rw[G b z]at c;cases c) (λz=>by rw[z,wW]at c;cases c)
  ·rw[<- Ew];exact g5
  ·rw[Zc Es.symm,g.m];exact Ex
  ·refine g.D.keep λb o' c dG=>?_;rw[Zc (λz=>by
    rcases dG with y|y|⟨zs,rfl⟩
    ·exact uX #[bl]
    ·exact zS (z.symm.trans y)
    ·rw[z,qT]at c;cases c)]
   exact c
  ·rcases g.fp b c with z|z
   ·exact G b z
   ·cases e:j b with
    | none=>rfl
    | some u=>rw[k5 b u e]at z;cases z
 ·rintro W p ⟨⟨Y,Z,v6,v7,rfl⟩,hi,r,k5,_⟩;rw[Qa,tR,<- N.len,Qw #[ih]]at r;exact⟨_,rfl,q l p (s1.free uW) r λb u c=>k5 b u (s1 b u c)⟩
noncomputable def Y2:List ak:=["a", "aa", "row", "take", "b", "drop", "zebra", "ab", "left", "abcdefgh", "z", "rows"]
theorem Jp:∀s∈Y2,NmS s:=by
 have:∀s∈Y2,(s.cps.toList.all λc=>decide (97<=c/\c<=122))=true/\1<=s.length/\s.length<=8:=by ac_rfl
 intro s a;obtain⟨b,d,e⟩:=this s a;exact⟨λc f=>of_decide_eq_true (List.all_eq_true.mp b c f),d,e⟩
def ZoU:Sp:=λvs H Q _=>X2 λ(p:ae) (c:Int)=>vs=#[js]/\Y0 H p c/\c<2 ^ 40/\∀ (l:ae) (ns:List ak) (b:Int) (a:Hp),H l=af->a l=U #[dv,ns.map]->(∀s∈ns,NmS s)->1<=ns.length->ns.length<=20->Y0 a p b->c<=b->b<=c+2->But p H a->Q #[cT] a
theorem ZmU(T:#[e])(B:#[R]):Df P w K mg base 3 "_law_names" #[cz] ZoU:=by
 show#[dj,T.t_l_names.df,Po,vs,C];show#[fy,p,c,L,hc];refine⟨_,#[Zf,#[Zz,1,Po.nd,#[3],#[Ys,#[Za,#[Zu],#[Za,#[Zu],#[Za,#[Zu],#[Za,#[Zu],#[Za,#[Zu],#[Za,#[Zu],#[jS]]]]]]]]],#[Zf,#[Zz,2,Po.nd,#[3],#[pX,B,C]],#[Zh,#[Zn,#[Wq,(slL K),#[ZY,Vs,#[f3,1,2],#[Wq,(slL K),‹1›,(@Vv _),(@Vu _ _ _ ‹2›)]],(@Vv _),(@Vu _ _ _ #[ZY,WV,#[Zk],#[pX,B,C]])]]]]],?_⟩;have c0:=L.ge;refine⟨#[eg,12,aq],λl j=>?_⟩;show#[u6,D,H,l,#[sJ]];have F:=Zi j #[sJ];have G:=L.new (o:=.lst (Y2.map V.str)) j;have jm:p≠l:=by obtain⟨u,i⟩:=L.here;exact Ze i j
 show NS _ _ _ _ (upd H l #[sJ]);generalize upd H l (.lst (Y2.map V.str))=H1 at D F G ⊢;refine#[fo,12,G,I,L2,J];have M:=J _ _ D jm.symm;show#[fY,n,n,r,r.toNat];have hn:n<=Y2.length:=by show n<=12;lia
 obtain⟨e1,e2⟩:=Og Y2 n hn;refine⟨_,rfl,_,rfl,_,rfl,l,_,rfl,SqL.of M,λa N=>?_⟩;rw[e2];have k:=Zi N #[tv];show#[u6,O,I,a,#[tv]];have R:=k _ _ M;have S:=L2.new (o:=.lst ((Y2.drop n).map V.str)) N;generalize upd I a (.lst ((Y2.drop n).map V.str))=W at k O R S ⊢;refine⟨_,rfl,_,rfl,_,rfl,l,_,rfl,SqL.of R,λb X=>?_⟩;rw[e1];have t:=Zi X #[tu];show#[u6,Y,W,b,#[tu]];have Z:=t _ _ O;have v:=S.new (o:=.lst ((Y2.take n).map V.str)) X;generalize upd W b (.lst ((Y2.take n).map V.str))=H4 at t Y Z v ⊢;have mn:(Y2.drop n).length+(Y2.take n).length<=1000:=by rw[QT,Qv];show 12-n+min n 12<=1000;lia
 refine⟨a,b,_,_,rfl,rfl,Z,Y,(by rw[Qa,Qa];exact small mn),λe x=>?_⟩;rw[<- Qg];have s5:=Zi x #[kH];show#[oA,rK,H4,e,#[kH]];have L5:=v.new (o:=.lst (#[au].map V.str)) x;generalize upd H4 e (.lst ((Y2.drop n++Y2.take n).map V.str))=H5 at s5 rK L5 ⊢;have Ey:e≠p:=λz=>by obtain⟨u,i⟩:=v.here;rw[<- z,x]at i;cases i
 refine⟨_,rfl,p,c+1,6,rfl,L5,by lia,by decide,by decide,λr2 H6 q0 q1 L6 B6=>?_⟩;have Ez:=B6 _ _ rK Ey;show#[fY,m,m,r2,r2.toNat];have ba:#[au].length=12:=by rw[Qe,QT,Qv];show 12-n+min n 12=12;lia
 have hm:3+m<=#[au].length:=by lia
 have e3:=(Og #[au] (3+m) hm).1;refine⟨_,_,rfl,rfl,_,rfl,e,_,rfl,SqL.of Ez,λw hw=>?_⟩;rw[show ((3:Int)+(m:Int))=((3+m:Nat):Int) by lia,e3];have sB:But p H H6:=λd g eA n'=>B6 d g (s5 d g (t d g (k d g (J d g (F d g eA) n')))) n';have EB:H w=af:=by
  cases z:H w with
  | none=>rfl
  | some u =>
   by_cases zp:w=p
   ·show#[dz,u',y,L6.here];show#[dV,zp,y,hw]
   ·rw[sB w u z zp]at hw;cases hw
 refine q w (#[au].take (3+m)) (c+1+1) _ EB Zd (λs hs=>?_) #[eM,Qv] #[eM,Qv] (L6.new hw) #[2] #[2] (But.trans sB #[pM,hw]);have:=Qar hs;rcases Ql.mp this with h|h
 ·exact Jp s (QaE h)
 ·exact Jp s (Qar h)
def ZnM:Sp:=λvs H Q _=>X2 λ(l:ae) (ws:List ak)=>vs=[.ref l]/\H l=U #[dv,ws.map]/\ws.length<=90/\#[p6,ws,1000]/\∀ (b:Bool) a,ZG H a->Q (.bl b) a
theorem Zmb(T:#[e]):Df P w K mg base 1 "_law_is_short" #[lX] ZnM:=by
 show#[dj,T.t_l_is_short.df,Zht,B,hr];show#[o6,l,ws,t,rE,C];refine⟨_,#[Zh,#[Zn,#[XF,WC,#[Zq,(MC K),#[5],T.b.n_sum,boot_sum,#[Zg,#[Xn,SM,#[iL,K,‹0›],#[e2,1,SM],#[16],(λ_ _ _ _=>#[ZY,WV,#[Zq,WL,#[gJ,SM],T.b.n_len,Qz,#[Zg,#[cw,1,SM]]],#[Zk]])]]],#[Zk],#[cZ]]]],?_⟩;refine#[vs,l,t,D,v];refine We (K:=K) (a:=l) (xs:=ws.map V.str) (λi zs j e=>(∃k:Option V,j=[U #[cT],k])/\(∃c:List Int,zs=c.map V.int/\c.length=i/\∀m∈c,0<=m/\m<=2000)/\i<=ws.length/\e D=U #[ie]/\ZG H e) ⟨⟨af,rfl⟩,⟨[],rfl,rfl,λu F=>by cases F⟩,Qm _,Zd,Zi v _⟩ #[d0,t] ?_ ?_
 ·rintro i y zs j e d ⟨⟨k,rfl⟩,⟨c,rfl,n,o⟩,hi,p,r⟩;rw[Qo]at d;cases g:ws[i]? with
  | none=>rw[g]at d;cases d
  | some x =>
  show#[dr,g,d,G,i,ws.length];have I:=C x (Qu g);refine⟨_,rfl,x,rfl,small I,_,_,rfl,rfl,p,#[dB,n],#[E],⟨c++[#[uh]+1],by rw[Qg];rfl,by rw[Qe,n];rfl,λm hm=>?_⟩,G,Zd,λb u z=>?_⟩
  ·rcases Ql.mp hm with hm|hm
   ·exact o m hm
   ·rw[Qh.mp hm];lia
  ·show#[oO,z,v,r,b,u]
 ·rintro zs j e ⟨⟨k,rfl⟩,⟨c,rfl,n,o⟩,_,p,r⟩;refine⟨D,c,rfl,SqL.of p,#[2],(λm hm=>by have:=o m hm;lia),_,_,rfl,rfl,?_⟩;exact q _ _ r
def Zqa:Sp:=λvs H Q _=>X6 λ(p g sl:ae) (c:Int) (ns ss:List ak)=>vs=[.ref p,.ref g,.ref sl]/\Y0 H p c/\c<2 ^ 39/\H g=U #[dv,ns.map]/\1<=ns.length/\ns.length<=20/\(∀s∈ns,NmS s)/\H sl=U #[i2]/\1<=ss.length/\ss.length<=4/\#[bd] /\
 ∀ (t d:ae) (e s:ak) (b:List ak) (o:Od) (f:Int) (a:Hp),H t=af->H d=af->a t=U (.tup [.str e,.str s,.ref d])->a d=U #[dv,b.map]->TQ e s b o->NmS s->KsS b->(e = "drop"->b=[])->Y0 a p f->c<=f->f<=c+700->But p H a->Q #[mY] a
theorem ZoI(T:#[e])(W:#[R])(e6:#[jI])(jr:#[sI]):Df P w K mg base 6 "_law_deed" #[a7] Zqa:=by
 show#[dj,T.t_l_deed.df,Pm,vs,I];obtain⟨p,X,Y,c,J,C,rfl,L,hc,Z,jL,rA,dS,fv,fO,zY,tT,q⟩:=h;refine⟨_,#[Zf,#[Zz,3,Pm.nd,#[3],#[ZJ,#[ol],#[Ys,#[jS]],#[pX,W,I]]],#[Zf,#[Zz,4,Pm.nd,#[3],#[Yk,#[Zo,WM,#[pX,W,I],#[Zk],#[cZ]],#[oU,jr,I,2],#[oU,e6,I,2]]],#[Zh,#[Zn,#[Yi,#[Zg,‹3›,#[ZJ,#[ol],‹1›,#[ej,W,I,0,#[ag]]],#[Yk,#[pc,3],#[cF],‹4›]]]]]]],?_⟩;have c0:=L.ge;refine⟨#[eg,6,aq],λa ha=>?_⟩;have s1:=Zi ha (.lst #[33]);have pq:#[gB,a,#[33]] a=U (.lst #[33]):=Zd;have L1:=L.new (o:=.lst #[33]) ha;have wc:a≠p:=λz=>by obtain⟨u,hu⟩:=L.here;rw[<- z,ha]at hu;cases hu
 generalize upd H a (.lst [.str "row",.str "row",.str "row",.str "grow",.str "grow",.str "drop"])=H1 at s1 pq L1 ⊢;refine#[fo,6,L1,H2,L2,B2];obtain⟨y,EC,fX⟩:∃y:ak,(y = "row"\/y = "grow"\/y = "drop")/\atI [V.str "row",.str "row",.str "row",.str "grow",.str "grow",.str "drop"] r=U (.str y):=by
  rcases(show r=0\/r=1\/r=2\/r=3\/r=4\/r=5 by lia) with rfl|rfl|rfl|rfl|rfl|rfl
  ·exact#[mo]
  ·exact#[mo]
  ·exact#[mo]
  ·exact⟨_,.inr #[8],rfl⟩
  ·exact⟨_,.inr #[8],rfl⟩
  ·exact⟨_,.inr #[kn],rfl⟩
 have k2:But p H H2:=λb o i n=>B2 b o (s1 b o i) n;have M:∀ {R:Hp} {d:Int} {b:ae},But p H R->Y0 R p d->R b=af->H b=af:=λ{R d b} B' L' i=>by
  cases z:H b with
  | none=>rfl
  | some u =>
   by_cases zp:b=p
   ·show#[dz,u',D,L'.here];show#[dV,zp,D,i]
   ·rw[B' b u z zp]at i;cases i
 have zZ:∀ {b:ae},H b=af->b≠p:=λi z=>by obtain⟨u',D⟩:=L.here;show#[p2,D,i]
 have Aa:∀ {b:ae} {xs:List V},H b=U (.lst (xs))->(∀x∈xs,∃z,x=.str z)->b≠p:=λ{b xs} i B z=>by obtain⟨u1,u2,hp,_⟩:=L;show#[p2,hp,i];obtain⟨z',pA⟩:=B _ (Q6 ..);cases pA
 have uY:∀C:List ak,∀x∈C.map V.str,∃z,x=.str z:=λC x B=>by obtain⟨s,_,rfl⟩:=Qq.mp B;exact⟨s,rfl⟩
 have Ab:=Aa fv (uY C);have rL:=Aa Z (uY J);refine⟨a,_,_,_,rfl,rfl,SqL.of (B2 _ _ pq wc),fX,_,rfl,p,c+1,6,rfl,L2,by lia,by decide,by decide,λr2 H3 q0 q1 S B3=>⟨_,_,rfl,rfl,_,rfl,?_⟩⟩;have k3:But p H H3:=k2.trans B3;refine Op (λv F=>X3 λ(k:ae) (l:List ak) (d:Int)=>v=.ref k/\H k=af/\F k=U #[dv,l.map]/\l.length<=5/\#[d9,l,28]/\Y0 F p d/\c<=d/\d<=c+610/\But p H F) (λ_ Q' hq=>⟨_,rfl,_,rfl,p,Y,c+1+1,5,C,rfl,S,by lia,by decide,by decide,k3 _ _ fv Ab,fO,zY,tT,λk l d F f1 f2 f3 _ f5 N g1 g2 G=>hq _ _ #[iu]⟩) (λ_ Q' hq=>⟨_,rfl,_,rfl,p,Y,c+1+1,4,C,rfl,S,by lia,by decide,by decide,k3 _ _ fv Ab,fO,zY,tT,λk l d F f1 f2 f3 f5 N g1 g2 G=>hq _ _ #[iu]⟩) #[g5,v,F,hv]
 ·exact M k3 S f1
 ·exact M k3 S f1
 ·obtain⟨k,l,d,rfl,jN,ED,k5,cy,N,g1,g2,G⟩:=hv;have Ac:=G _ _ Z rL;refine⟨_,rfl,_,rfl,_,rfl,_,rfl,X,_,rfl,.inl (SqL.of Ac),p,d,_,rfl,N,by lia,#[eM,Qa],#[eM,Qa],λj H5 j0 j1 O B5=>?_⟩;rw[Qa]at j1;show#[fY,j',m,j,j.toNat];have k45:But p H H5:=G.trans B5;have hj:j'<J.length:=by lia
  have EE:=B5 _ _ ED (zZ jN);have Ad:=dS _ (Qae hj);refine⟨X,_,_,_,rfl,rfl,SqL.of (k45 _ _ Z rL),XA (by rw[Qo,Qb hj];rfl),?_⟩;have no:#[lK]:=λh z=>h (by injection z);have bf:∀ (o:Od),TQ y J[j'] l o->y ≠ "drop"->∀t,H5 t=af->Q #[mY] (upd H5 t (.tup [.str y,.str J[j'],.ref k])):=λo ho hd t g=>q t k y _ l o (d+1) _ (M k45 O g) jN Zd (Zi g _ _ _ EE) ho Ad ⟨k5,λx B=>⟨Qi (cy x B).1 #[6],(cy x B).2⟩⟩ (λz=>absurd z hd) (O.new g) #[2] #[2] (But.trans k45 #[pM,g]);rcases EC with rfl|rfl|rfl
  ·exact⟨_,rfl,rfl,_,rfl,Yo (no #[1]) ⟨_,rfl,#[b6],λt g=>bf _ (.inl #[Y]) #[1] t g⟩⟩
  ·exact⟨_,rfl,rfl,_,rfl,Yo (no #[1]) ⟨_,rfl,#[b6],λt g=>bf _ (.inr (.inl #[Y])) #[1] t g⟩⟩
  ·refine⟨_,rfl,rfl,_,rfl,YS rfl ⟨#[18],λe he=>⟨#[b6],λt g=>?_⟩⟩⟩;show#[vy,s6,he];refine q t e "drop" _ [] _ (d+1) _ (M k45 O (s6.free g)) (M k45 O he) Zd (Zi g _ _ _ Zd) (.inr (.inr #[Y])) Ad ⟨by decide,λx B=>by cases B⟩ (λ_=>rfl) ((O.new he).new g) #[2] #[2] (But.trans k45 (But.same (s6.trans (Zi g _))))
structure LI (cR cM:ae) (H1 H:Hp) (X:MS) (nd rl dl:ae) (nm:#[54]) (rs ds:#[T]):Prop where
 same:ZG H1 H
 D:DOk cR cM H X nd nm
 hr:H rl=U #[dv,rs.map]
 hd:H dl=U #[dv,ds.map]
 ne:rl≠dl
 fM:∀b,MFp X b->H1 b=af
 f1:H1 nd=af
 f2:H1 rl=af
 f3:H1 dl=af
 nr:¬ MFp X rl
 nd':¬ MFp X dl
structure NP (X:MS) (nd rl dl p:ae) (H1:Hp):Prop where
 r:p≠rl
 d:p≠dl
 n:p≠nd
 m:¬ MFp X p
 f:H1 p=af
section
variable {cR cM:ae} {H1 H H':Hp} {X X':MS} {nd rl dl p:ae} {nm eD:List (ak×Int)} {rs ds:List ak}
theorem LI.np(I:#[75])(a:H p=af):NP X nd rl dl p H1 :=
 ⟨(Ze I.hr a).symm,(Ze I.hd a).symm,(Ze I.D.at' a).symm,I.D.mg.M.fp_fresh a,I.same.free a⟩
theorem LI.on(I:#[75])(s:ZG H H'):LI cR cM H1 H' X nd rl dl nm rs ds:=⟨I.same.trans s,I.D.same s,s _ _ I.hr,s _ _ I.hd,I.ne,I.fM,I.f1,I.f2,I.f3,I.nr,I.nd'⟩
theorem LI.draw(I:#[75])(n:NP X nd rl dl p H1){c:Int}(L:Y0 H p c)(B:But p H H'):LI cR cM H1 H' X nd rl dl nm rs ds:=by
 obtain⟨u1,u2,d,_⟩:=L;refine⟨λb o a=>B b o (I.same b o a) (Ze a n.f),I.D.keep λb o a e=>B b o a λz=>?_,B _ _ I.hr n.r.symm,B _ _ I.hd n.d.symm,I.ne,I.fM,I.f1,I.f2,I.f3,I.nr,I.nd'⟩;rcases e with y|y|⟨xs,rfl⟩
 ·exact n.m #[bl]
 ·exact n.n (z.symm.trans y)
 ·show#[p2,d,a]
theorem LI.pushR(I:#[75])(x:ak):LI cR cM H1 (upd H rl (.lst (rs.map V.str++[V.str x]))) X nd rl dl nm (rs++[x]) ds:=by
 refine⟨λb o a=>by rw[Zc (Ze a I.f2)];exact I.same b o a,I.D.keep λb o a c=>?_,by rw[Zd,Qg];rfl,by rw[Zc I.ne.symm];exact I.hd,I.ne,I.fM,I.f1,I.f2,I.f3,I.nr,I.nd'⟩;rw[Zc (λz=>by
  rcases c with y|y|⟨xs,rfl⟩
  ·exact I.nr #[bl]
  ·show#[fh,I.D.at',y,I.hr]
  ·rw[z,I.hr]at a;cases a)]
 exact a
theorem LI.pushD(I:#[75])(x:ak):LI cR cM H1 (upd H dl (.lst (ds.map V.str++[V.str x]))) X nd rl dl nm rs (ds++[x]):=by
 refine⟨λb o a=>by rw[Zc (Ze a I.f3)];exact I.same b o a,I.D.keep λb o a c=>?_,by rw[Zc I.ne];exact I.hr,by rw[Zd,Qg];rfl,I.ne,I.fM,I.f1,I.f2,I.f3,I.nr,I.nd'⟩;rw[Zc (λz=>by
  rcases c with y|y|⟨xs,rfl⟩
  ·exact I.nd' #[bl]
  ·show#[fh,I.D.at',y,I.hd]
  ·rw[z,I.hd]at a;cases a)]
 exact a
theorem LI.to{o:Od}{a:ak}(I:#[75])(g:DTo cR cM H H' X X' nd nm eD o a):LI cR cM H1 H' X' nd rl dl eD rs ds:=by
 have d:∀ {b:ae} {zs:List V},H b=U #[ie]->b≠nd:=λc z=>by have:=I.D.at';rw[<- z,c]at this;cases this
 refine⟨λb o c=>g.k b o (I.same b o c) (λz=>by rw[I.fM b z]at c;cases c) (λz=>by rw[z,I.f1]at c;cases c),g.D,g.k _ _ I.hr I.nr (d I.hr),g.k _ _ I.hd I.nd' (d I.hd),I.ne,λb c=>?_,I.f1,I.f2,I.f3,λz=>?_,λz=>?_⟩
 ·rcases g.fp b c with z|z
  ·exact I.fM b z
  ·exact I.same.free z
 ·rcases g.fp _ z with z|z
  ·exact I.nr z
  ·have:=I.hr;rw[z]at this;cases this
 ·rcases g.fp _ z with z|z
  ·exact I.nd' z
  ·have:=I.hd;rw[z]at this;cases this
universe E
def OKs(z:ak):Prop:=∀c∈cds z,c<128
theorem AZ.oks{z:ak}(a:AZ z):OKs z:=λc h=>by have:=a c h;lia
theorem OKs.app{x y:ak}(a:OKs x)(b:OKs y):OKs (x++y):=λc h=>by rw[Lg]at h;exact(Ql.mp h).elim (a c) (b c)
theorem OKs.ok{z:ak}(a:OKs z):aJ.strOk z=true:=by unfold aJ.strOk;rw[Array.all_eq_true];intro i hi;have:=a z.cps[i] #[4];exact decide_eq_true #[2]
theorem Jo:∀ss:List ak,(∀s∈ss,OKs s)->aJ.canLayAll0 #[iT]=true
 | [],_=>rfl
 | x::r,h=>by simp[aJ.canLayAll0,aJ.canLay0,(h x #[4]).ok,Jo r λs hs=>h s #[r1]]
theorem ZkO(ss:#[T])(h:∀s∈ss,OKs s):SeqAt.shaped (.list #[iT])=true:=by simp[SeqAt.shaped,aJ.canLay0,aJ.depth,Jo ss h,Pa]
theorem ZsQ{s k:ak}(hs:AZ s)(hk:AZ k):OKs (thT s k):=by
 have e:OKs (":" : ak):=by intro c a;have:c∈(":" : ak).cps.toList:=a;rw[show (":" : ak).cps.toList=[58] from by ac_rfl]at this;rw[Qh.mp this];decide
 have b:OKs (kT0 k):=by
  unfold kT0;split
  ·intro c a;have:c∈("-" : ak).cps.toList:=a;rw[show ("-" : ak).cps.toList=[45] from by ac_rfl]at this;rw[Qh.mp this];decide
  ·exact hk.oks
 exact(hs.oks.app e).app b
theorem ZoY(ks:#[T]):aJ.eqv (.list (ks.map aJ.str)) #[tq]=decide (ks=[]):=by
 cases ks with
 | nil=>simp[aJ.eqv,aJ.eqvAll]
 | cons a r=>simp[aJ.eqv,aJ.eqvAll]
theorem ZpX{c:Bool}{e:(Bool->Hp->Prop)->Prop}{T:Bool->Hp->Prop}{H:Hp}(h1:c=true->∀d:Bool->Hp->Prop,(∀b a,ZG H a->d b a)->e d)(q:∀b a,ZG H a->T b a):if c=true then e T else T false H:=by
 cases c with
 | true=>rw[if_pos rfl];exact h1 rfl T q
 | false=>rw[if_neg Qt];exact q false H #[ja]
theorem Zkc{a s:ak}{ks:#[T]}{o:Od}(h:TQ a s ks o)(hd:a = "drop"->ks=[]):Txt.join " " (a::[s]++ks.map kT0)=o.txt:=by
 rcases h with⟨rfl,rfl⟩|⟨rfl,rfl⟩|⟨rfl,rfl⟩
 ·rfl
 ·rfl
 ·rw[hd rfl];rfl
theorem Jn{a s:ak}{ks:#[T]}{o:Od}(h:TQ a s ks o)(hs:NmS s)(hk:KsS ks):OdW o:=by
 rcases h with⟨rfl,rfl⟩|⟨rfl,rfl⟩|⟨rfl,rfl⟩
 ·exact⟨hs,hk⟩
 ·exact⟨hs,hk⟩
 ·exact hs
structure Bd (S:DS) (i:Nat):Prop where
 few:S.P.length<=16
 nb0:0<=S.nb
 nb1:S.nb<=(i:Int)
 lt:∀x∈S.P,0<=x.1/\x.1<S.nb
 len:∀x∈S.P,x.2.1.length<=5*i
 key:Xj S.P 1000
 li:S.li.natAbs<=300*i
 lo:S.lo.natAbs<=300300*i
 nmz:∀e∈S.nm,AZ e.1/\e.1.length<=8
theorem Bd.sbd{S:DS}{i:Nat}(h:Bd S i)(hi:i<=30):SBd S:=⟨h.few,h.nb0,by have:=h.nb1;lia,h.lt,λx hx=>by have:=h.len x hx;lia,by have:=h.li;lia,by have:=h.lo;lia,h.nmz⟩
theorem Bd.up{S:DS}{i:Nat}(h:Bd S i):Bd S (i+1):=⟨h.few,h.nb0,by have:=h.nb1;lia,h.lt,λx hx=>by have:=h.len x hx;lia,h.key,by have:=h.li;lia,by have:=h.lo;lia,h.nmz⟩
theorem Bd.step{S m:DS}{o:Od}{a:ak}{i:Nat}(h:Bd S i)(hw:OdW o)(g:Yu S o a m):Bd m (i+1):=by
 have p:∀ {c:List ak},KsS c->∀s∈c,s.length<=1000:=λz s A=>Qi (z.2 s A).1 #[6];have w:JN o:=by
  cases o with
  | row s c=>exact p hw.2
  | grow s c=>exact p hw.2
  | drop s=>trivial
  | take n=>exact QaF (QD (show n<10 from hw) #[6])
  | counts=>trivial
 obtain⟨B,C⟩:=g.bd h.key w;have D:=h.li;have E:=h.lo;have d:m.li.natAbs<=300*(i+1)/\m.lo.natAbs<=300300*(i+1):=by lia
 clear B C D E w;cases g with
 | noRow _=>exact h.up
 | noGrow _=>exact h.up
 | noDrop _=>exact h.up
 | counts=>exact h.up
 | row j r F G =>
  rename_i P b t lo u s c k q;have nb0:0<=b:=h.nb0;have nb1:b<=(i:Int):=h.nb1;refine⟨by show (P++[(b,c,0)]).length<=16;rw[Qe,Qy];lia,by show 0<=b+1;lia,by show b+1<=#[et,i];lia,λx hx=>?_,λx hx=>?_,λx hx=>?_,d.1,d.2,λe he=>?_⟩
  ·show 0<=x.1/\x.1<b+1;rcases Ql.mp hx with hx|hx
   ·have:0<=x.1/\x.1<b:=h.lt x hx;lia
   ·rw[Qh.mp hx];show 0<=b/\b<b+1;lia
  ·rcases Ql.mp hx with hx|hx
   ·have:=h.len x hx;lia
   ·rw[Qh.mp hx];have:=hw.2.1;show c.length<=_;lia
  ·rcases Ql.mp hx with hx|hx
   ·exact h.key x hx
   ·rw[Qh.mp hx];exact p hw.2
  ·rcases Ql.mp he with he|he
   ·exact h.nmz e he
   ·rw[Qh.mp he];exact⟨hw.1.1,hw.1.2.2⟩
 | grow j r F G =>
  rename_i P b t lo u s c H k q;refine⟨by show (V8 P H.1 c).length<=16;unfold V8;rw[Qa];exact h.few,h.nb0,by have:=h.nb1;show b<=#[et,i];have:b<=(i:Int):=h.nb1;lia,λx hx=>?_,λx hx=>?_,JM h.key _ (p hw.2),d.1,d.2,h.nmz⟩
  ·show#[dA,y,l,hx];have:=h.lt y l;split<;>exact this
  ·show#[dA,y,l,hx];have:=h.len y l;have:=hw.2.1;split
   ·show (y.2.1++c).length<=_;rw[Qe];lia
   ·lia
 | drop j r=>rename_i P b t lo u s n k q;refine⟨Qi (List.length_filter_le _ _) h.few,h.nb0,by show b<=#[et,i];have:b<=(i:Int):=h.nb1;lia,λx hx=>h.lt x #[uC].1,λx hx=>by have:=h.len x #[uC].1;lia,λx hx=>h.key x #[uC].1,d.1,d.2,λe he=>h.nmz e (Qac.mp he).1⟩
 | take j r =>
  rename_i P v b t lo u n ts k q;have I:∀x∈v,0<=x.1/\x.1<b:=λx hx=>by
   have:x.1∈Y5 P:=by rw[<- j.num];exact Qj (f:=#[mq]) hx
   obtain⟨y,l,e⟩:=Qq.mp this;rw[<- e];exact h.lt y l
  have J:v.length=P.length:=by have:=#[dW,j.num];unfold Y5 at this;show#[m5]
  refine⟨by show v.length<=16;rw[J];exact h.few,h.nb0,by show b<=#[et,i];have:b<=(i:Int):=h.nb1;lia,I,λx hx=>?_,j.keyLe h.key,d.1,d.2,h.nmz⟩;obtain⟨y,l,e⟩:=j.rowOf x hx;have:=h.len y l;rw[<- e];lia
def R6(K:#[7]):Sp:=λvs H Q _=>X2 λ(a:ae) (ns:List Int)=>vs=#[jW]/\SqL K H a #[U]/\ns.length<=63/\∀b,Q #[qu] b
theorem Zsa{f:ae}{fd:bu}(F:Fun K "law" "law" Wy f fd)(T:#[e])(TD:#[cA]):YX P w K mg base CX0 20 f fd #[mz] (R6 K):=by
 have io:#[r8]:=Zq7 T;have kE:Df P w K mg base 1 "_law_left" #[hP] (Ln K):=Zql T;have aY:#[R]:=Zph T io;have nP:#[dx,3,"_law_stems",#[cz],K7]:=ZoV T aY;have jo:#[r7]:=ZrQ T aY;have e6:#[jI]:=Zqi T aY jo;have jr:#[sI]:=Zqm T e6;have iG:Df P w K mg base 5 "_law_same" #[aY] (Lf 4):=K6 T 4;have cC:#[jg]:=Zhq T;have fQ:#[kJ]:=ZoT T cC;have dD:#[jJ]:=ZnL T;have jp:#[tQ]:=Zo1 T fQ dD;have fF:#[ri]:=ZhF T cC dD;have ck:#[b2]:=Zon T jp;have bA:#[55]:=ZmS T ck;have eZ:#[cX]:=Zmn T fQ;have eE:#[bC]:=ZmG T;show#[ds,bz,Zpx];have aX:=Zpn T bz;have dE:=ZkH T eZ;have b9:=ZpD T aX fF;have cE:=KI T aX eE b9 8;have aV:=ZjR T cE;have eK:=ZhA T bA dE aV;have eW:=ZmW T aX;have sv:=Zoj T bz;have rM:=Zmd T aX;show#[ds,cz,ZiN];show#[ds,dP,Znz];have iJ:#[tw]:=ZrM T eE;have fG:=ZkA T iJ;have cZ:=ZoG T b9;have dN:=Zpu T aX fG cZ;have fH:=Zpr T eW dN;have bT:=ZkD T bA dE aV;show#[ds,b6,ZmT];have bK:=Zko T bz b6 aV;have eX:=Zjm T eZ;have cG:=ZqF T b6 bA aX eX aV;show#[ds,dB,ZnO];show#[ds,pK,Znx];have bS:=Zkz T ck dB;show#[ds,bR,Zlg];have bJ:=Zqz T bS;have nQ:=Zi7 T bz bR;have cm:=ZoB T bS bR;have cI:=ZrG T fH;show#[ds,e7,ZnV];have gf:=Zmw T e7;have gD:=Znp T e7;show#[ds,fe,ZpR];have ff:=Zow T fe;have eY:=Zma T TD gf gD ff;show#[ds,dR,Zr2];show#[ds,fg,ZqA];show#[ds,eJ,ZrE];have eG:=ZmP T fg;show#[ds,cn,Zl4];have nR:=ZmJ T eJ;have pB:=Zn5 T bT bJ bK cG cm;have fS:=Zoo T bT bJ;have fh:=Zmt T cG cm;have fj:=ZmV T bK;have dC:=Zpb T cn;have dr:=Zjg T cz dP dC;have eI:=Zmg T eG;have dQ:=Zla T eI;have eT:=ZkI T cI dQ cn;have gE:=ZkS T TD eY dR;have gg:=Zmu T gE;have gi:=ZnC T eK;have wX:=Zq3 T TD gg gi fS fh fj eT dr;have nU:=ZmU T aY;show#[ds,jP,Zmb];have pC:=ZoI T aY e6 jr;refine F.ok Xx #[iD] (λaN A outer s H vs Q E B h=>?_)
 ·obtain⟨a,ns,rfl,_⟩:=h;rfl
 show#[fy,a,Z,hS,vX];refine⟨_,#[Zf,#[Zz,1,Xx.nd,#[3],#[pX,kE,B]],#[Zf,(@Zq4 _ _ 2 3 _ _ _ _ _ _ _ _ _ _ _ rfl Xx.nd rfl rfl #[6] rfl rfl #[Zg,#[fG,nU,B],#[fG,nP,B]] rfl #[5]),#[Zf,#[Yn,#[Yi,#[Zg,#[Vm,eK,B,#[Zg,#[cF]]],(@Rz _ _),#[cF],#[cF]]],#[gT,K,4,#[Zs,#[pq,4,Xx.nd],#[Zs,#[ZC,5,Xx.nd,#[ly]],#[dn,6,Xx.nd,7]]]]],#[Zf,#[Xh,bC.never,(@NL _ _ _ _ _ _ _ rfl T.b.n_range #[Zg,#[Zk],#[Zq,(Nz rfl),#[5],T.b.n_max,boot_max,#[Zg,#[Zk],#[Zq,(Ny rfl),#[5],T.b.n_min,boot_min,#[Zg,#[34],#[Zk]]]]]] #[5] #[5]),#[pq,8,Xx.nd],#[Zf,#[Zz,1,Xx.nd,#[3],#[pB,kE,B,0,8]],(@ZqD _ _ _ _ _ #[ZT,(@PW.pt _ _ _ #[Xi,#[Zo,WM,#[ej,aY,B,1,#[Zk]],#[Zk],#[cZ]],#[W7,#[W8,#[fi,jP,B,6]]]]),#[Zf,#[Yn,#[ZD,pC,B,#[ek,1,2,3],#[5]],#[eB,9,Xx.nd,10,11]],#[Zf,#[ZL,#[YF,QF,QG,QH,Xz,‹6›,#[Zg,#[ZD,nR,B,#[Zg,‹9›,#[Ys,#[Zg,‹10›]],‹11›],#[5]]]]],#[Zh,#[ZL,#[YF,QF,QG,QH,Xz,‹7›,#[Zg,#[ZD,pB,B,#[Zg,‹4›,#[gn,5],‹9›,‹10›,‹11›],#[5]]]]]]]],#[Zf,#[Zz,12,Xx.nd,#[3],#[ej,aY,B,1,#[Zk]]],#[Zf,#[ZL,#[YF,QF,QG,QH,Xz,‹6›,#[Zg,#[ZY,Vx,#[Zu],#[Xe,(UR K B),T.b.n_str,boot_str,#[Zg,‹12›]]]]]],#[Zf,#[Zz,13,Xx.nd,#[ly],#[Xe,(Zsk K),T.b.n_dict,boot_dict,#[Zg,(@Tl _ _ _ #[Xn,Ud,(@ZpV _ _ _ _ #[gn,5]),#[e2,15,Ud],#[16],(λ_ _ _ _=>#[Yi,#[Zg,#[ZJ,(ixG B),#[cv,5,Ud],#[cw,15,Ud]],#[cw,15,Ud]]])])]]],#[Zf,#[UT,14,Xx.nd,Wh,#[iL,K,#[gp,cI,B,4,12]],(λ_ _ _ _=>#[gT,K,3,#[Zs,#[cg,15,Wh],#[Zs,#[cg,16,Wh],#[Zs,#[cg,17,Wh],(@Yj _)]]]]),#[16],(λ_ _ _ _=>#[ZY,Vx,#[ZY,Vx,#[ZJ,(ixG B),#[cv,13,Wh],#[cw,15,Wh]],#[Zu]],#[ZD,eJ,B,#[Zg,#[cw,17,Wh]],#[gJ,Wh]]])],#[Zh,#[ZL,#[YF,QF,QG,QH,Xz,‹7›,#[Zg,#[Yk,#[Zo,(@neD _ K _ B #[5]),‹14›,#[cF],#[cZ]],#[gg,14],#[Zu]]]]]]]]]]] #[Zf,#[ZL,#[YF,QF,QG,QH,Xz,‹6›,#[Zg,#[Zu]]]],#[Zh,#[ZL,#[YF,QF,QG,QH,Xz,‹7›,#[Zg,#[ZY,Vx,#[ZY,Vx,#[Xe,(UR K B),T.b.n_str,boot_str,#[Zg,#[eI,cz,B,4]]],#[Zu]],#[Xe,(UR K B),T.b.n_str,boot_str,#[Zg,#[eI,dP,B,4]]]]]]]]])]],#[Zh,#[Zn,#[ZD,iG,B,#[Zg,#[ZD,wX,B,#[Zg,#[gg,6]],#[5]],‹7›],#[5]]]]]]]],?_⟩;refine⟨_,rfl,a,Z,_,rfl,hS,vX,by decide,by decide,λp0 H1 tE L0 s1=>?_⟩;refine⟨_,rfl,p0,0,rfl,L0,by decide,λnl ns c2 H2 uZ nG dS n1 EF L2 g1 g2 B2=>?_⟩;refine⟨_,rfl,p0,c2,rfl,L2,by lia,λsl ss c3 H3 Af fv m1 m4 tT L3 g3 g4 B3=>?_⟩;refine⟨_,_,rfl,?_⟩;have rL:nl≠p0:=λz=>by obtain⟨u,hu⟩:=L0.here;rw[<- z,uZ]at hu;cases hu
 have u0:=B3 _ _ nG rL;have s3:ZG H H3:=λb o c=>B3 b o (B2 b o (s1 b o c) (Ze c tE)) (Ze c tE);clear B2 B3 L0 L2 L3 g1 g2 g3 g4 nG uZ Af rL;refine⟨#[18],λr B=>λm dx hm gI zQ=>?_⟩;show#[vy,s4,B];have nz:#[eO,H3,r] r=U #[jp]:=Zd;generalize upd H3 r (.lst [])=H4 at s4 nz hm gI ⊢;have s5:ZG H4 #[dD,H4,dx,m,aj]:=λb o c=>by rw[Zc (Ze c hm),Zc (Ze c gI)];exact c
 show#[pl,gM,H4,dx,m,aj];generalize upd (upd H4 dx (.own m)) m (.ins aj dx [])=H5 at s5 gM ⊢;refine⟨m,dx,r,[],rfl,gM,⟨s5 _ _ nz,Qm _,λx h=>by cases h⟩,#[d7,x,h],λrd sd L st w0 k2 q2 H6 M6 fB W6 S6 P6 Ah k6=>⟨rfl,?_⟩⟩;have hL:L=[]:=by have:=#[dW,fB.1];show#[kR]
 subst hL;obtain⟨ek,eq⟩:=P6.one (m:=8) (.few #[gr,0,2]);subst ek;subst eq;have rN:ZG H3 H6:=λb o c=>k6 b o (s5 b o (s4 b o c)) (Ze (s4 b o c) hm);have rH:∀b,Fp m rd sd #[gI,Zx] b->H3 b=af:=λb c=>by
  rcases Ah b c with z|z
  ·rw[z];exact s4.free hm
  ·exact s4.free (s5.free z)
 have Ai:=VH 8 _ st _ M6.up (Sa M6) #[6] S6;have X0:∃X:MS,X.m=m/\MOk au aj H6 X/\dsO X []=⟨[],0,0,0,[]⟩/\∀b,MFp X b->H3 b=af:=⟨⟨m,rd,sd,[],st,0,0,0,w0⟩,rfl,⟨M6,W6,Ai⟩,rfl,rH⟩;clear rH Ai Ah k6 P6 S6 W6 M6 fB s4 s5 nz gM hm gI zQ B;obtain⟨X,rfl,MO,hS0,nO⟩:=X0;intro e he;have s7:=Zi he #[lT];show#[oA,wY,H6,e,#[lT]];have tU:=MO.same s7;have Aj:¬ MFp X e:=MO.M.fp_fresh he;have sO:=rN.free he;generalize upd H6 e (.dK [])=H7 at s7 wY tU ⊢;refine⟨#[18],λC o8=>⟨#[18],λdl iU=>⟨#[eg,4,aq],λt ht=>?_⟩⟩⟩;show#[vy,s8,o8];have oO:#[eO,H7,C] C=U #[r3]:=Zd;have Ak:¬ MFp X C:=tU.M.fp_fresh o8;have u3:=rN.free (s7.free o8);have tV:=tU.same s8;generalize upd H7 C (.lst [])=H8 at s8 oO tV iU ht ⊢;show#[vy,s9,iU];have rO:#[eO,H8,dl] dl=U #[r3]:=Zd;have Al:¬ MFp X dl:=tV.M.fp_fresh iU;have u4:=rN.free (s7.free (s8.free iU));have jM:C≠dl:=Ze oO iU;have wZ:=tV.same s9;generalize upd H8 dl (.lst [])=H9 at s9 rO wZ ht ⊢;have I9:LI au aj H3 H9 X e C dl [] [] []:=⟨((rN.trans s7).trans s8).trans s9,⟨wZ,s9 _ _ (s8 _ _ wY),Aj,by rw[hS0];exact⟨rfl,.nil,.nil⟩⟩,s9 _ _ oO,rO,jM,nO,sO,u3,u4,Ak,Al⟩;have lQ:=I9.on (Zi ht (.tup [.ref X.m,.ref e,.ref C,.ref dl]));refine⟨t,_,rfl,SqT.of Zd,rfl,_,_,rfl,_,_,rfl,_,_,rfl,_,_,rfl,rfl,?_⟩;generalize upd H9 t (.tup [.ref X.m,.ref e,.ref C,.ref dl])=jG at lQ ⊢;clear I9 wZ tV tU MO rN s7 s8 s9 he wY o8 oO iU rO ht Aj Ak Al nO sO u3 u4 jM;have Am:SqL K H3 a (Z.map V.int):=s3.seq hS;have EG:(#[28]<=29)/\9<=#[28]:=by split<;>(try split)<;>lia
 refine⟨_,rfl,a,_,rfl,.inl (lQ.same.seq Am),_,_,rfl,_,_,rfl,_,_,rfl,?_⟩;generalize (if (if (29:Int)<(((Z.map V.int).length:Nat):Int) then (29:Int) else (((Z.map V.int).length:Nat):Int))>9 then (if (29:Int)<(((Z.map V.int).length:Nat):Int) then (29:Int) else (((Z.map V.int).length:Nat):Int)) else 9)=N at EG ⊢;refine⟨by lia,?_⟩;refine RU (λi σ H=>(X8 λv1 v8 v9 mG mH pD nV mI:Option V=>σ=[U #[cd],v1,U (.ref nl),U (.ref sl),U (.ref X.m),U #[bA],U #[S],U (.ref dl),v8,v9,mG,mH,pD,nV,mI])/\X4 λ(X':MS) (nm:List (ak×Int)) (os:List Od) (as:List ak)=>X'.m=X.m/\LI au aj H3 H X' e C dl nm #[be] as/\XI #[kP] os as #[ut]/\Bd #[ut] i/\os.length=2*i/\∀o∈os,OdW o) ⟨⟨_,_,_,_,_,_,_,_,rfl⟩,X,[],[],[],rfl,lQ,(by rw[hS0];exact .nil),(by rw[hS0];exact⟨Qm _,Qav _,Qav _,λx h=>(by cases h),λx h=>(by cases h),λx h=>(by cases h),Qm _,Qm _,λx h=>(by cases h)⟩),rfl,λo h=>by cases h⟩ ?_ ?_
 ·rintro i σ H hi ⟨⟨v1,v8,v9,mG,mH,pD,nV,mI,rfl⟩,S,nm,os,as,em,I,bX,o5,ba,hw⟩;have Fi:i<28:=by lia
  have gU:=o5.sbd #[2];have An:=I.D.ok;refine⟨_,rfl,_,rfl,a,Z,_,rfl,I.same.seq Am,vX,by lia,by lia,λp qd hp w6 sJ=>?_⟩;have np:=I.np hp;have oX:=I.on sJ;clear I hp sJ;refine⟨λσ H'=>(X6 λv9 mG mH pD nV mI:Option V=>σ=[U #[cd],U #[ir],U (.ref nl),U (.ref sl),U (.ref X.m),U #[bA],U #[S],U (.ref dl),U #[ov],v9,mG,mH,pD,nV,mI])/\X4 λ(X':MS) (nm:List (ak×Int)) (os:List Od) (as:List ak)=>X'.m=X.m/\LI au aj H3 H' X' e C dl nm #[be] as/\XI #[kP] os as #[ut]/\Bd #[ut] (i+1)/\os.length=2*i+1/\∀o∈os,OdW o,?_,?_⟩
  ·refine⟨_,rfl,p,0,3,rfl,w6,by decide,by decide,by decide,λn lV n0 n1' Ao Ap=>⟨_,_,rfl,rfl,_,rfl,?_⟩⟩;have kX:=oX.draw np w6 Ap;refine ZpX (λ_ T' hT=>⟨_,rfl,C,os.map Od.txt,rfl,kX.hr,#[eM,Qa],(λz G=>by obtain⟨o,ho,rfl⟩:=Qq.mp G;exact Qi (NX (hw o ho)) #[6]),λb H' s'=>⟨_,rfl,hT b H' s'⟩⟩) #[g5,b,EH,nN];have hJ:=kX.on nN;have rP:=Ao.same nN;clear oX kX w6 Ao Ap nN;cases b with
   | true =>
    refine Yz ?_;refine⟨_,rfl,_,rfl,_,rfl,p,nl,sl,0+1,ns,ss,rfl,rP,by decide,hJ.same _ _ u0,n1,EF,dS,hJ.same _ _ fv,m1,m4,tT,λt kl wd s ks o c' Aq ht jN Ar u5 ho J O hd At g1 g2 tW=>?_⟩;have nW:=hJ.draw np rP tW;have EI:kl≠C:=λz=>by have:=hJ.hr;rw[<- z,jN]at this;cases this
    refine⟨t,_,rfl,SqT.of Ar,rfl,_,_,rfl,_,_,rfl,_,_,rfl,rfl,_,rfl,.inl #[dJ,nW.hr],_,rfl,_,rfl,#[eg,1,aq],λb c=>?_⟩;have w8:=Zi c (.lst [.str s]);refine⟨_,rfl,b,kl,wd,[s],ks,rfl,Zd,w8 _ _ u5,#[eg,1,10],Qi O.1 #[6],?_,(λx hx=>by rw[Qh.mp hx];exact⟨Qi J.2.2 #[6],J.1⟩),(λx hx=>⟨Qi (O.2 x hx).1 #[6],(O.2 x hx).2⟩),λrQ rR=>?_⟩
    ·rcases ho with⟨rfl,_⟩|⟨rfl,_⟩|⟨rfl,_⟩<;>ac_rfl
    rw[Zkc ho hd];have nX:=(nW.on w8).on rR;have Au:=rR _ _ (w8 _ _ u5);have pE:#[be].length=2*i:=by rw[Qa];exact ba
    have rS:as.length=2*i:=by rw[bX.len];exact ba
    refine⟨C,_,_,rfl,rfl,nX.hr,#[dB,pE],?_⟩;have Y:=nX.pushR o.txt;have u6:(upd rQ C (.lst (#[be].map V.str++[V.str o.txt]))) kl=U #[57]:=by rw[Zc EI];exact Au
    generalize upd rQ C (.lst ((os.map Od.txt).map V.str++[V.str o.txt]))=EJ at Y u6 ⊢;refine⟨_,rfl,.inl #[dJ,Y.hd],_,rfl,_,rfl,_,rfl,_,rfl,_,rfl,S,e,kl,nm,o,wd,s,ks,#[pT,em],Y.D,gU,u6,ho,O,λX2 sU a2 Av g=>?_⟩;have tX:=Y.to g;refine⟨dl,_,_,rfl,rfl,tX.hd,#[dB,rS],⟨_,_,_,_,_,_,rfl⟩,X2,sU,os++[o],as++[a2],g.m.trans em,?_,.snoc bX Y.D.ok gU g.st,o5.step (Jn ho J O) g.st,by rw[Qe,ba];rfl,λo' ee=>?_⟩
    ·rw[Qg];exact tX.pushD a2
    ·rcases Ql.mp ee with h|h
     ·exact hw o' h
     ·rw[Qh.mp h];exact Jn ho J O
   | false =>
    refine Y3 ?_;refine⟨_,rfl,p,0+1,8,rfl,rP,by decide,by decide,by decide,λn8 Aq q0 q1 At tW=>?_⟩;show#[fY,n,m,n8,n8.toNat];have hn8:n<8:=by lia
    have nW:=hJ.draw np rP tW;rw[<- em];clear hJ rP At tW np u0 fv;have pE:#[be].length=2*i:=by rw[Qa];exact ba
    have rS:as.length=2*i:=by rw[bX.len];exact ba
    obtain⟨a1,a2,a3,a4⟩:=TN (i:=(n:Int)) #[2];have EK:#[uV] = "take" ++ " ":=by ac_rfl
    have EL:#[uV]++XZ (n:Int)=(Od.take n).txt:=by show _=Txt.join " " ["take",Xr n];rw[JC,Zqp n #[2],EK];rfl
    have e5:#[uV].length=5:=by ac_rfl
    refine⟨_,rfl,.inl #[dJ,nW.hr],_,rfl,_,.int (n:Int),rfl,.int _,a1,a2,a3, "take ",XZ (n:Int),rfl,rfl,small #[2],?_⟩;rw[EL];refine⟨C,_,_,rfl,rfl,nW.hr,#[dB,pE],?_⟩;have lg:=nW.pushR (Od.take n).txt;generalize upd Aq C (.lst ((os.map Od.txt).map V.str++[V.str (Od.take n).txt]))=xa at lg ⊢;clear nW;have zK:nm.length<=16:=by rw[lg.D.nmlen];exact gU.few
    have ndN:#[nL].Nodup:=lg.D.ok.ndN;refine⟨e,.dK #[su],lg.D.at',True.intro,_,rfl,e,_,rfl,lg.D.at',λo D hD=>?_⟩;have rT:D≠e:=λz=>by rw[z,Zd]at hD;cases hD
    have rV:xa D=af:=by rw[Zc rT]at hD;exact hD
    refine Zqk (λj zs σ H2=>(∃v:Option V,σ=[U #[cd],U #[ir],U (.ref nl),U (.ref sl),U (.ref S.m),U #[bA],U #[S],U (.ref dl),U #[ov],v9,mG,mH,U #[n9],nV,mI,v])/\(∃us:List (ae×Key×V),zs=us.map (λu=>V.ref u.1)/\us.map #[kc]=kvI (nm.take j)/\∀u∈us,u.1≠D/\u.1≠e/\H2 u.1=U #[uM])/\j<=nm.length/\H2 D=U #[ie]/\H2 e=U (.frz o #[fX,nm])/\∀b u,xa b=U u->b≠e->H2 b=U u) ⟨⟨af,rfl⟩,#[md],Qm _,Zd,#[oK,rT.symm,Zd],λb u c z=>by rw[Zc (Ze c rV),Zc z];exact c⟩ #[sn] ?_ ?_
    ·rintro j k x zs σ H2 O ⟨⟨v,rfl⟩,⟨us,rfl,hG,mE⟩,hj,bN,jk,k2⟩;unfold kvN at O;rw[Qo]at O;cases G:nm[j]? with
     | none=>rw[G]at O;cases O
     | some y =>
     show#[dr,G,O,qG,j,nm.length];have EM:Y1 #[su] (.inr y.1)=U (.int y.2):=TR lg.D.ok.nd (Qu G);have nK:us.length=j:=by have:=#[dW,hG];unfold kvI at this;rw[Qa,Qa,Qv]at this;lia
     refine⟨_,rfl,_,rfl,e,_,rfl,Y6.fz (k:=.inr y.1) jk EM,_,rfl,#[61],λt ht=>?_⟩;have rD:t≠D:=λz=>by rw[z,bN]at ht;cases ht
     have EN:t≠e:=λz=>by rw[z,jk]at ht;cases ht
     refine⟨Zi ht _ _ _ bN,#[dB,nK],#[E],⟨us++[(t,.inl y.2,.str y.1)],by rw[Qg];rfl,?_,λu hu=>?_⟩,qG,Zd,?_,λb u c z=>?_⟩
     ·rw[QN,G];unfold kvI at hG ⊢;rw[Qg,Qg,hG];rfl
     ·rcases Ql.mp hu with hu|hu
      ·obtain⟨g1,g2,g3⟩:=mE u hu;exact⟨g1,g2,by rw[Zc g1];exact Zi ht _ _ _ g3⟩
      ·rw[Qh.mp hu];exact⟨rD,EN,by rw[Zc rD];exact Zd⟩
     ·rw[Zc rT.symm];exact Zi ht _ _ _ jk
     ·rw[Zc (Ze c rV)];exact Zi ht _ _ _ (k2 b u c z)
    rintro zs σ H2 ⟨⟨v,rfl⟩,⟨us,rfl,hG,mE⟩,_,bN,jk,k2⟩;show#[p3,o,jk];have EO:#[su].length=nm.length:=by unfold kvN;rw[Qa]
    rw[EO,Qw #[ih]]at hG;have rR:ZG xa #[nq]:=λb u c=>by
     by_cases z:b=e
     ·rw[z]at c ⊢;show#[vv,lg.D.at',c];exact Zd
     ·rw[Zc z];exact k2 b u c z
    have ip:#[nq] D=U #[fS,us.map,u,u.1]:=by rw[Zc rT];exact bN
    have xb:∀u∈us,#[nq] u.1=U #[uM]:=λu hu=>by obtain⟨_,g2,g3⟩:=mE u hu;rw[Zc g2];exact g3
    have nX:=lg.on rR;generalize upd H2 e (.dK (kvN nm))=rQ at ip xb nX ⊢;clear mE bN jk k2 rR lg hD rV rT;have nK:us.length=nm.length:=by have:=#[dW,hG];unfold kvI at this;show#[m5]
    refine⟨D,us,rfl,SqL.of ip,xb,#[2],λcd eU=>?_⟩;have Aw:((kvI nm).map #[iw]).Nodup:=by unfold kvI;rw[QB];exact inl_nd' ndN
    rw[hG,Mm (kvI nm) [] #[dp,List.nil_append,Aw],List.nil_append];have xg:=Zi eU #[uS];show#[u6,rW,rQ,cd,#[uS]];have EQ:¬ MFp S cd:=nX.D.mg.M.fp_fresh eU;have Y:=nX.on xg;generalize upd rQ cd (.dK (kvI nm))=EJ at xg rW Y ⊢;clear nX ip xb eU xg;show#[dz,dx,hm,Y.D.mg.M.ob];have oI:=Jy gU.few gU.len;refine⟨_,rfl,S.m,dx,_,rfl,hm,J4 ..,_,rfl,S.m,S.rd,S.sd,S.L,S.s,S.nb,S.li,S.lo,S.w,(n:Int),rfl,Y.D.mg.M,Y.D.mg.W,Y.D.mg.ok,Qi oI #[6],λrr R L' fJ w' k q' Av Eg oJ fc fD oK gC M W ok fp kp=>?_⟩;obtain⟨X2,g⟩:=Y.D.took fD #[dp,Qa,oK] (by rw[Qa];exact λz=>gC λy=>z #[pT,y]) M W ok fp kp;have Ax:=kp _ _ rW EQ;have tX:=Y.to g;have jO:R.length<10:=by
     by_cases z:R=[]
     ·rw[z];decide
     ·have:=gC z;lia
    have O:∀u∈R,#[l1]/\u.2.2.2.length<=1000/\AZ u.2.2.2:=λu hu=>by obtain⟨g1,x,hx,g2⟩:=fD.key u.2 (Qj (f:=λu:ae×Ym=>u.2) hu);show#[vx,y,hy,e,Qq.mp,g1];obtain⟨s,J⟩:=Y.D.ok.has (show y∈(dsO S nm).P from hy);show#[dA,z,G,hx];exact⟨⟨s,by rw[<- e];exact J⟩,(Y.D.mg.M.each z G).str _ g2⟩
    clear oK gC M W ok fp kp fD Y rW hm oI;have ew:(R.map #[kc]).map #[oi]=R.map λu=>thT #[dc] u.2.2.2:=by rw[QB];rfl
    rw[ew]at g;have e1:#[fp,":"]:=by ac_rfl
    have lH:∀u∈R,YM nm u.2.1∈nm.map #[iw]/\#[nr].length<=1010/\#[dc].length<=8:=λu hu=>by obtain⟨⟨s,J⟩,h3,_⟩:=O u hu;show#[tB];have h4:=U6 u.2.2.2;have en:=R8 (nm:=nm) ndN J;rw[en];refine⟨Qj (f:=λe:ak×Int=>e.1) J,?_,h8⟩;unfold thT;rw[QP,QP];lia
    refine⟨rr,rfl,#[gO,oJ],λD2 bN=>?_⟩;refine We (K:=K) (a:=rr) (xs:=R.map λt=>V.ref t.1) (λj zs σ H4=>(X3 λv1 v2 v3:Option V=>σ=[U #[cd],U #[ir],U (.ref nl),U (.ref sl),U (.ref S.m),U #[bA],U #[S],U (.ref dl),U #[ov],v9,mG,mH,U #[n9],U (.ref cd),mI,v1,v2,v3])/\zs=(R.take j).map (λu=>V.str #[nr])/\j<=R.length/\H4 D2=U #[ie]/\ZG Av H4) ⟨⟨af,af,af,rfl⟩,rfl,Qm _,Zd,Zi bN _⟩ #[d0,oJ] ?_ ?_
    ·rintro j y zs σ H4 hy ⟨⟨v1,v2,v3,rfl⟩,rfl,hj,dO,s4⟩;rw[Qo]at hy;cases G:R[j]? with
     | none=>rw[G]at hy;cases hy
     | some x =>
     show#[dr,G,hy,qG,j,R.length];have hx:=Qu G;obtain⟨⟨s,J⟩,h3,_⟩:=O x hx;show#[tB];have h4:=U6 x.2.2.2;have en:=R8 (nm:=nm) ndN J;have wR:Y1 (kvI nm) (.inl x.2.1)=U (.str s):=Tg Aw (Qj (f:=#[lD]) J);refine⟨x.1,_,rfl,SqT.of (s4 _ _ (fc x hx)),rfl,_,_,rfl,_,_,rfl,_,_,rfl,rfl,_,rfl,_,rfl,cd,_,rfl,Y6.k' (k:=.inl x.2.1) (s4 _ _ Ax) wR,s, ":",rfl,rfl,small #[2],_,rfl,x.2.2.2,rfl,_,_,rfl,rfl,(Qi (by rw[QP];lia:_<=2000) #[6]),dO,#[dB,Qv],#[sM],?_,qG,Zd,λb u c=>?_⟩
     ·rw[QN,G,Qg];show _=_++[V.str (thT (YM nm x.2.1) x.2.2.2)];rw[en];rfl
     ·show#[oO,c,bN,s4,b,u]
    rintro zs σ H4 ⟨⟨v1,v2,v3,rfl⟩,rfl,_,dO,s4⟩;rw[Qa,Qw #[ih]]at dO;have rX:H4 D2=U (.lst (#[qq].map V.str)):=by rw[QB];exact dO
    have Ay:=tX.on s4;have kC:∀l:List (ae×Ym),(∀u∈l,#[nr].length<=1010)->#[kO].sum<=1010*l.length:=λl=>by
     induction l with
     | nil=>intro _;exact Qf _
     | cons a r ih=>intro h;have h5:=h a #[4];have h6:=#[oW,ih,u,hu];rw[Qn,Qn,Q5,QA];lia
    have ER:=kC R λu hu=>(lH u hu).2.1;have hok:∀s∈R.map (λu=>thT (YM nm u.2.1) u.2.2.2),OKs s:=λs J=>by obtain⟨u,hu,rfl⟩:=Qq.mp J;obtain⟨e',fL,z⟩:=Qq.mp (lH u hu).1;refine ZsQ (by rw[<- z];exact(gU.nmz e' fL).1) (O u hu).2.2
    have Az:#[qq].length=R.length:=Qa ..;generalize (R.map λu=>thT (YM nm u.2.1) u.2.2.2)=ws at rX ER hok Az g;have ES:#[fp," "]:=by ac_rfl
    refine⟨_,rfl,.inl #[dJ,Ay.hd],_,rfl,#[18],λz G=>?_⟩;show#[vy,sz,G];refine⟨.list (ws.map aJ.str),.list [],.lst (SqL.of (sz _ _ rX)) (O9 ws),.lst (SqL.of Zd) .nil,ZkO ws hok,#[1],_,rfl,?_⟩;rw[if_pos rfl,ZoY];have xh:=Ay.on sz;have rY:=sz _ _ rX;generalize upd H4 z (.lst [])=H20 at xh rY ⊢;refine Op (λv Hx=>v=.str (blT ws)/\LI au aj H3 Hx X2 e C dl nm (os.map Od.txt++[(Od.take n).txt]) as) #[g5,d,Q',hq] #[g5,d,Q',hq] #[g5,v,Hx,hv]
    ·refine⟨rfl,_,rfl,_,D2,ws,rfl,rfl,SqL.of rY,#[pU,ES,Az],hq _ _ ⟨?_,xh⟩⟩;unfold blT;rw[if_neg (λz=>by rw[z]at d;cases d)]
    ·refine hq _ _ ⟨?_,xh⟩;unfold blT;rw[if_pos (by
      cases ws with
      | nil=>rfl
      | cons x r=>simp at d)]
    ·obtain⟨rfl,AA⟩:=hv;refine⟨dl,_,_,rfl,rfl,AA.hd,#[dB,rS],⟨_,_,_,_,_,_,rfl⟩,X2,nm,os++[.take n],as++[blT ws],g.m,?_,.snoc bX An gU g.st,o5.step (o:=.take n) (by show n<10;lia) g.st,by rw[Qe,ba];rfl,λo' ee=>?_⟩
     ·rw[Qg];exact AA.pushD _
     ·rcases Ql.mp ee with h|h
      ·exact hw o' h
      ·rw[Qh.mp h];show n<10;lia
  ·rintro σ lV ⟨⟨v9,mG,mH,pD,nV,mI,rfl⟩,X2,sU,qv,AB,ET,kX,u7,oP,nY,EU⟩;rw[<- ET];clear lQ hi;have pE:(qv.map Od.txt).length=2*i+1:=by rw[Qa];exact nY
   have rS:AB.length=2*i+1:=by rw[u7.len];exact nY
   refine⟨_,rfl,.inl #[dJ,kX.hr],C,_,_,rfl,rfl,kX.hr,#[dB,pE],?_⟩;have hJ:=kX.pushR "counts";generalize upd lV C (.lst ((qv.map Od.txt).map V.str++[V.str "counts"]))=EH at hJ ⊢;show#[dz,dx,hm,hJ.D.mg.M.ob];have Ae:X2.li.natAbs<=300*(i+1):=oP.li;have oW:X2.lo.natAbs<=300300*(i+1):=oP.lo;obtain⟨a1,a2,a3,a4⟩:=TN (i:=X2.li) #[2];obtain⟨b1,b2,b3,b4⟩:=TN (i:=X2.lo) #[2];have e1:#[fp," "]:=by ac_rfl
   have sz:∀n:Nat,n<=1000->n<=aq:=λn h=>small h;refine⟨_,rfl,.inl #[dJ,hJ.hd],_,rfl,X2.m,dx,_,rfl,hm,Kv ..,X2.m,X2.rd,X2.sd,X2.L,X2.s,X2.nb,X2.li,X2.lo,_,rfl,hJ.D.mg.M,_,.int X2.li,rfl,.int _,a1,a2,a3,XZ X2.li, " ",rfl,rfl,(by apply sz;lia),_,rfl,X2.m,dx,_,rfl,hm,Ku ..,X2.m,X2.rd,X2.sd,X2.L,X2.s,X2.nb,X2.li,X2.lo,_,rfl,hJ.D.mg.M,_,.int X2.lo,rfl,.int _,b1,b2,b3,XZ X2.li ++ " ",XZ X2.lo,rfl,rfl,(by apply sz;rw[QP];lia),dl,_,_,rfl,rfl,hJ.hd,#[dB,rS],⟨_,_,_,_,_,_,_,_,rfl⟩,X2,sU,qv++[.counts],AB++[XZ X2.li ++ " "++XZ X2.lo],rfl,?_,.snoc u7 hJ.D.ok (oP.sbd #[2]) .counts,oP,by rw[Qe,nY,Qy];lia,λo' ee=>?_⟩
   ·rw[Qg];have ec:Od.counts.txt = "counts":=by show Txt.join " " ["counts"] = "counts";ac_rfl
    show LI _ _ _ _ _ _ _ _ _ (qv.map Od.txt++[Od.counts.txt]) _;rw[ec];exact hJ.pushD _
   ·rcases Ql.mp ee with h|h
    ·exact EU o' h
    ·rw[Qh.mp h];trivial
 ·rintro σ H ⟨⟨v1,v8,v9,mG,mH,pD,nV,mI,rfl⟩,S,nm,os,as,em,I,bX,o5,ba,hw⟩;have pE:os.length<=56:=by lia
  have eO:os≠[]:=λz=>by rw[z]at ba;simp at ba;lia
  have e1:#[fp,"\n"]:=by ac_rfl
  have kC:∀l:List Od,(∀o∈l,OdW o)->((l.map Od.txt).map #[hs]).sum<=612*l.length:=λl=>by
   induction l with
   | nil=>intro _;exact Qf _
   | cons o r ih=>intro h;have h1:=NX (h o #[4]);have h2:=#[oW,ih,o',ee];rw[Qn,Qn,Q5,QA];lia
  have J:=kC os hw;have fs:∀ (Hx:Hp) (l:List ak),F2 (IsD Hx 3) (l.map V.str) (l.map V.str):=λHx l=>by
   induction l with
   | nil=>exact F2.nil
   | cons s r ih=>exact .cons (Zn4 (.inr (.inr (.inr ⟨s,rfl⟩)))) ih
  refine⟨rfl,_,rfl,_,C,os.map Od.txt,rfl,rfl,SqL.of I.hr,?_,?_⟩
  ·rw[e1,Qa];lia
  refine⟨os,as,_,rfl,eO,hw,by lia,bX,λl H2 hl dF k2=>?_⟩;have zi:as.length=os.length:=bX.len;exact⟨_,rfl,.ref l,.ref dl,rfl,Zqj dF (k2 _ _ I.hd) #[eM,Qa] (fs H2 as),λH4 _=>q H4⟩
universe E
theorem ZH{K:#[7]}{h:aH}{mg:#[J]}{x:ak}{st:aL}{ps:#[T]}{f:ae}{g b:#[ay]}{sl:#[47]}{i kV j d e ct:aa}(X:K.In h)(G:h.Ns aK mg)
  (a:PySem.W.nsIn K aK x=U #[jb]) (l:K.lookup f=U ⟨i,g,.func #[dR,x,j,d,b,e],sl⟩) (c:PySem.W.codeIn K e x=true) (k:#[pZ,K])
  (hb:∀ (kV m d:aa) (b:Option ae) (n ct:aa) (us:List aa),us.length=ps.length->bindArgs #[dR,x,m,d,b,n] ⟨us,[]⟩=pure #[k5]):Top K mg x st ps :=
 ⟨_,_,ZF (st:=st) l c k,QE X G a,#[eG,st,l,c,k].binds hb⟩
theorem R5{n:Nat}{us:#[az]}(h:us.length=n+1):X2 λa r=>us=a::r/\r.length=n:=by obtain⟨a,r,rfl⟩:=List.exists_cons_of_length_eq_add_one h;exact⟨a,r,rfl,Nat.succ.inj h⟩
theorem YL(us:#[az])(h:us.length=1):∃a0,us=[a0]:=Qay.mp h
theorem YC(us:#[az])(h:us.length=2):X2 λa0 a1=>us=[a0,a1]:=by obtain⟨a,r,rfl,g⟩:=R5 h;obtain⟨b,rfl⟩:=YL r g;exact⟨a,b,rfl⟩
theorem XV(us:#[az])(h:us.length=3):X3 λa0 a1 a2=>us=[a0,a1,a2]:=by obtain⟨a,r,rfl,g⟩:=R5 h;obtain⟨b,c,rfl⟩:=YC r g;exact⟨a,b,c,rfl⟩
theorem Jm(us:#[az])(h:us.length=4):X4 λa0 a1 a2 a3=>us=[a0,a1,a2,a3]:=by obtain⟨a,r,rfl,g⟩:=R5 h;obtain⟨b,c,d,rfl⟩:=XV r g;exact⟨a,b,c,d,rfl⟩
theorem ZtB(us:#[az])(h:us.length=5):X5 λa0 a1 a2 a3 a4=>us=[a0,a1,a2,a3,a4]:=by obtain⟨a,r,rfl,g⟩:=R5 h;obtain⟨b,c,d,e,rfl⟩:=Jm r g;exact⟨a,b,c,d,e,rfl⟩
theorem all_mk{l:#[sS]}{w:aD}{K:#[7]}{h:aH}{mg:#[J]}{fa:ae}(X:K.In h)(G:h.Ns aK mg)(EV:mg "law" = U (.ref fa))
  {au:ae}
  {aj:ae}
  {aA:ae}
  {ap:ae}
  {aG:ae}
  {ax:ae}
  {ao:ae}
  {ar:ae}
  {jQ lh:ak} {lj:ae} {jR:#[az]} {jS:#[T]} {js:#[az]} {jT:Bool} {jt:#[qO]} {jU:#[ay]} {jV jW jX jY jZ:#[nO]}
  {tY xi:ak} {xj:ae} {tZ:#[az]} {ua:#[T]} {rZ:#[az]} {uc:Bool} {r6:#[qO]} {ud:#[ay]} {ue uf ug uh ui:#[nO]}
  {r8 uj:ak} {uk:ae} {r9:#[az]} {se:#[T]} {pF:#[az]} {sf:Bool} {pG:#[qO]} {sg:#[ay]} {sh si sj sk sq:#[nO]}
  {j2 lm:ak} {ln:ae} {j3:#[az]} {j4:#[T]} {ju:#[az]} {j5:Bool} {jv:#[qO]} {j6:#[ay]} {j7 j8 j9 kb kc:#[nO]}
  {nZ pH:ak} {pI:ae} {n5:#[az]} {n6:#[T]} {mJ:#[az]} {n9:Bool} {mK:#[qO]} {oa:#[ay]} {og oh oj oo oq:#[nO]}
  {ul:Tok}
  {iX:Tok}
  {mL:Tok}
  {lq:Tok}
  {lu:Tok}
  {ke:Tok}
  {ou:Tok}
  {ox:Tok}
  {bI:ae} {kF:#[hR]} {pJ:Nat}
  {dj:ae} {jw:#[ay]} {jx:Nat} {jy:#[47]} {iu iw:Tok}
  {bj:ae} {mM:#[hR]} {sr:Nat}
  {br:ae} {mN:#[hR]} {su:Nat}
  {dk:ae} {jz:#[ay]} {jA:Nat} {jB:#[47]} {ix:Tok} {eQ:ae} {lv:#[ay]} {lA:Nat} {lB:#[47]} {iY:Tok}
  {cL:ae} {i0:#[ay]} {i3:Nat} {i4:#[47]} {hU:Tok} {dJ:ae} {kh:#[ay]} {ki:Nat} {km:#[47]} {iO:Tok}
  {cP:ae} {i5:#[ay]} {i6:Nat} {i7:#[47]} {hV:Tok} {dL:ae} {kn:#[ay]} {ko:Nat} {kq:#[47]}
  {cQ:ae} {i8:#[ay]} {i9:Nat} {i':#[47]} {hW:Tok} {dM:ae} {ku:#[ay]} {kA:Nat} {kB:#[47]}
  {cj:ae} {iy:#[ay]} {iz:Nat} {iA:#[47]} {cS:ae} {ja:#[ay]} {jb:Nat} {jc:#[47]}
  (ewc:#[dZ,"Row",au]) (ewa:PySem.W.plainGet K au ak.empty=true) (eqw:#[d4,au]) (ewb:#[oE,au]) (eqy:#[fN,au]) (eqx:#[pu,au]) (eqz:#[Xki,K,au])
  (exz:#[dF,au,"all_keys"])
  (ezz:#[dF,au,"fars"])
  (eka:#[dF,au,"gone"])
  (ekw:#[dZ,"Merge",aj]) (ejq:PySem.W.plainGet K aj ak.empty=true) (ejr:#[d4,aj]) (ejl:#[oE,aj]) (ejs:#[fN,aj]) (ejm:#[pu,aj]) (eky:#[Xki,K,aj])
  (eyt:#[dF,aj,"best"])
  (exp:#[dF,aj,"likened"])
  (eya:#[dF,aj,"looked"])
  (exe:#[dF,aj,"next_number"])
  (ezc:#[dF,aj,"rows"])
  (eyg:#[dF,aj,"stays"])
  (eqf:#[dZ,"Desk",aA]) (eqr:PySem.W.plainGet K aA ak.empty=true) (eqj:#[d4,aA]) (eqe:#[oE,aA]) (eqs:#[fN,aA]) (eqq:#[pu,aA]) (eqt:#[Xki,K,aA])
  (eyv:#[dF,aA,"merge"])
  (eyf:#[dF,aA,"numbers"])
  (eza:#[dZ,"MergeError",ap])
  (eqk:#[dZ,"Full",aG])
  (ejj:#[dZ,"NoRow",ax])
  (eyq:#[dZ,"OutOfOrder",ao])
  (ekg:#[dZ,"BadLine",ar])
  (eyx:K.lookup ap=U (excClassObj jQ lh ap lj jR YO true jS js jT jt jU jV jW jX jY jZ "ValueError.__new__"))
  (eyl:PySem.W.specialIn K #[nA] "__getattribute__" = U #[nv])
  (eym:PySem.W.readsIn K ap #[bR]=true)
  (eyh:PySem.W.findCls K #[nA] #[bR] "__init__" = U (.val #[35]))
  (eqg:K.lookup aG=U (excClassObj tY xi aG xj tZ #[km] true ua rZ uc r6 ud ue uf ug uh ui "ValueError.__new__"))
  (eqi:#[Xki,K,aG])
  (eql:#[ed,#[a3],#[35]])
  (eqd:#[eA,#[a3]])
  (equ:#[fc,#[a3]])
  (eqc:#[dI,#[a3],#[M]])
  (eqh:#[d4,aG])
  (eqb:#[eK,#[a3]])
  (ejz:#[fa,aG])
  (eqm:#[dI,#[a3],#[63]])
  (eqn:#[dI,#[a3],#[a3]])
  (exk:#[fn,#[a3],ap])
  (ezh:#[dO,#[a3],#[a2]])
  (exl:#[dO,#[a3],#[aI]])
  (exu:#[dO,#[a3],#[aQ]])
  (eje:K.lookup ax=U (excClassObj r8 uj ax uk r9 #[km] true se pF sf pG sg sh si sj sk sq "ValueError.__new__"))
  (ejb:#[Xki,K,ax])
  (ejg:#[ed,#[a2],#[35]])
  (ejn:#[eA,#[a2]])
  (ejk:#[fc,#[a2]])
  (ejc:#[dI,#[a2],#[M]])
  (eji:#[d4,ax])
  (ejo:#[eK,#[a2]])
  (eja:#[fa,ax])
  (ejt:#[dI,#[a2],#[63]])
  (ejy:#[dI,#[a2],#[a2]])
  (exg:#[fn,#[a2],ap])
  (eys:#[dO,#[a2],#[a3]])
  (exh:#[dO,#[a2],#[aI]])
  (exr:#[dO,#[a2],#[aQ]])
  (ezo:K.lookup ao=U (excClassObj j2 lm ao ln j3 #[km] true j4 ju j5 jv j6 j7 j8 j9 kb kc "ValueError.__new__"))
  (eyy:#[Xki,K,ao])
  (ezj:#[eX,#[aI]])
  (exn:PySem.W.findIn K #[aI] "row" = U af)
  (exi:PySem.W.findIn K #[aI] "place" = U af)
  (ezs:#[eA,#[aI]])
  (ezg:#[fc,#[aI]])
  (eyn:#[dI,#[aI],#[M]])
  (eze:#[d4,ao])
  (eyw:#[eK,#[aI]])
  (ezt:#[fa,ao])
  (ezp:#[dI,#[aI],#[63]])
  (ezm:#[dI,#[aI],#[aI]])
  (exa:#[fn,#[aI],ap])
  (exm:#[dO,#[aI],#[a3]])
  (exj:#[dO,#[aI],#[a2]])
  (exc:#[dO,#[aI],#[aQ]])
  (ekj:K.lookup ar=U (excClassObj nZ pH ar pI n5 #[km] true n6 mJ n9 mK oa og oh oj oo oq "ValueError.__new__"))
  (ekp:#[Xki,K,ar])
  (eke:#[eX,#[aQ]])
  (exw:PySem.W.findIn K #[aQ] "line" = U af)
  (ekf:#[eA,#[aQ]])
  (ekc:#[fc,#[aQ]])
  (ekl:#[dI,#[aQ],#[M]])
  (ekr:#[d4,ar])
  (eki:#[eK,#[aQ]])
  (ekn:#[fa,ar])
  (ekd:#[dI,#[aQ],#[63]])
  (ekm:#[dI,#[aQ],#[aQ]])
  (exd:#[fn,#[aQ],ap])
  (exs:#[dO,#[aQ],#[a3]])
  (exq:#[dO,#[aQ],#[a2]])
  (exb:#[dO,#[aQ],#[aI]])
  (eyr:#[eT,ap])
  (ezq:#[oz,#[nA]])
  (eqa:#[eT,aG])
  (eqo:#[oz,#[a3]])
  (ekz:#[eT,ax])
  (ejd:#[oz,#[a2]])
  (ezf:#[eT,ao])
  (eyp:#[oz,#[aI]])
  (ekq:#[eT,ar])
  (eko:#[oz,#[aQ]])
  (hkg:#[cI])
  (hkt:#[qj])
  (a0:#[dZ,"halves",f0]) (l0:#[Xlk,K,f0,oc0,od0,"halves","halves",Rq,kV0,dc0,pm0,an0,EW,ct0,sl0]) (c0:#[dM,EW,"halves"]) (k0:#[Xki,K,f0])
  (a1:#[dZ,"way_up",f1]) (l1:#[Xlk,K,f1,oc1,od1,"way_up","way_up",Rp,kV1,dc1,pm1,an1,EX,ct1,sl1]) (c1:#[dM,EX,"way_up"]) (k1:#[Xki,K,f1])
  (a2:#[dZ,"is_key",f2]) (l2:#[Xlk,K,f2,oc2,od2,"is_key","is_key",Ro,kV2,dc2,pm2,an2,EY,ct2,yt]) (c2:#[dM,EY,"is_key"]) (k2:#[Xki,K,f2])
  (a3:#[dZ,"alike",f3]) (l3:#[Xlk,K,f3,oc3,od3,"alike","alike",Rm,kV3,dc3,pm3,an3,EZ,ct3,sl3]) (c3:#[dM,EZ,"alike"]) (k3:#[Xki,K,f3])
  (a4:#[dZ,"liken",f4]) (l4:#[Xlk,K,f4,oc4,od4,"liken","liken",Rl,kV4,dc4,pm4,an4,E1,ct4,sl4]) (c4:#[dM,E1,"liken"]) (k4:#[Xki,K,f4])
  (a5:#[dZ,"liken_from",f5]) (l5:#[Xlk,K,f5,oc5,od5,"liken_from","liken_from",Rk,kV5,dc5,pm5,an5,E2,ct5,sl5]) (c5:#[dM,E2,"liken_from"]) (k5:#[Xki,K,f5])
  (a6:#[dZ,"alike_from",f6]) (l6:#[Xlk,K,f6,oc6,od6,"alike_from","alike_from",Rj,kV6,dc6,pm6,an6,E3,ct6,sl6]) (c6:#[dM,E3,"alike_from"]) (k6:#[Xki,K,f6])
  (a7:#[dZ,"order_at",f7]) (l7:#[Xlk,K,f7,oc7,od7,"order_at","order_at",Ri,kV7,dc7,pm7,an7,E4,ct7,sl7]) (c7:#[dM,E4,"order_at"]) (k7:#[Xki,K,f7])
  (a8:#[dZ,"first_break",f8]) (l8:#[Xlk,K,f8,oc8,od8,"first_break","first_break",Rh,kV8,dc8,pm8,an8,E5,ct8,sl8]) (c8:#[dM,E5,"first_break"]) (k8:#[Xki,K,f8])
  (a9:#[dZ,"alikes",f9]) (l9:#[Xlk,K,f9,oc9,od9,"alikes","alikes",Rg,kV9,dc9,pm9,an9,E6,ct9,sl9]) (c9:#[dM,E6,"alikes"]) (k9:#[Xki,K,f9])
  (a10:#[dZ,"refuse_break",AC]) (l10:#[Xlk,K,AC,Fj,Fk,"refuse_break","refuse_break",Rc,Fl,Fm,Fn,Fo,AD,Fq,Fs]) (c10:#[dM,AD,"refuse_break"]) (k10:#[Xki,K,AC])
  (a11:#[dZ,"matches_up",AE]) (l11:#[Xlk,K,AE,Ft,Fu,"matches_up","matches_up",P9,Fw,Fx,Fy,Fz,AF,FA,FC]) (c11:#[dM,AF,"matches_up"]) (k11:#[Xki,K,AE])
  (a12:#[dZ,"read_word",AG]) (l12:#[Xlk,K,AG,FD,FE,"read_word","read_word",P8,FF,FG,FH,FI,AH,FJ,FK]) (c12:#[dM,AH,"read_word"]) (k12:#[Xki,K,AG])
  (a13:#[dZ,"read_name",AI]) (l13:#[Xlk,K,AI,FL,FM,"read_name","read_name",P7,FN,FO,FP,FQ,AJ,FR,FS]) (c13:#[dM,AJ,"read_name"]) (k13:#[Xki,K,AI])
  (a14:#[dZ,"read_key",AK]) (l14:#[Xlk,K,AK,FT,FU,"read_key","read_key",P0,FW,FX,FY,FZ,AL,F0,F1]) (c14:#[dM,AL,"read_key"]) (k14:#[Xki,K,AK])
  (a15:#[dZ,"read_number",AM]) (l15:#[Xlk,K,AM,F3,F4,"read_number","read_number",PZ,F5,F6,F7,F8,AN,F9,F']) (c15:#[dM,AN,"read_number"]) (k15:#[Xki,K,AM])
  (a16:#[dZ,"are_figures",AO]) (l16:#[Xlk,K,AO,Ga,Gb,"are_figures","are_figures",PY,Gc,Gd,Ge,Gf,AQ,Gg,Gh]) (c16:#[dM,AQ,"are_figures"]) (k16:#[Xki,K,AO])
  (a17:#[dZ,"written_key",AR]) (l17:#[Xlk,K,AR,Gi,Gj,"written_key","written_key",PX,Gk,Gm,Gn,Go,AS,Gp,Gq]) (c17:#[dM,AS,"written_key"]) (k17:#[Xki,K,AR])
  (a18:#[dZ,"written_thing",AT]) (l18:#[Xlk,K,AT,Gr,Gs,"written_thing","written_thing",PV,Gu,Gv,Gw,Gx,AU,Gy,Gz]) (c18:#[dM,AU,"written_thing"]) (k18:#[Xki,K,AT])
  (a19:#[dZ,"with_blanks",AV]) (l19:#[Xlk,K,AV,GA,GB,"with_blanks","with_blanks",PU,GC,GD,GF,GG,AW,GH,GI]) (c19:#[dM,AW,"with_blanks"]) (k19:#[Xki,K,AV])
  (a20:#[dZ,"written_numbers",AX]) (l20:#[Xlk,K,AX,GJ,GK,"written_numbers","written_numbers",S7,GL,GN,GO,GP,AY,GQ,GR]) (c20:#[dM,AY,"written_numbers"]) (k20:#[Xki,K,AX])
  (a21:#[dZ,"run",A0]) (l21:#[Xlk,K,A0,GS,GU,"run","run",PR,GV,GW,GX,GY,A1,GZ,G0]) (c21:#[dM,A1,"run"]) (k21:#[Xki,K,A0])
  (a22:#[dZ,"orders_in",A2]) (l22:#[Xlk,K,A2,G1,G2,"orders_in","orders_in",PQ,G3,G4,G5,G6,A3,G7,G8]) (c22:#[dM,A3,"orders_in"]) (k22:#[Xki,K,A2])
  (a23:#[dZ,"order_in",A4]) (l23:#[Xlk,K,A4,G9,G',"order_in","order_in",UI,Ha,Hb,Hc,He,A5,Hg,Hh]) (c23:#[dM,A5,"order_in"]) (k23:#[Xki,K,A4])
  (a24:#[dZ,"may_be_further",A6]) (l24:#[Xlk,K,A6,Hj,Hk,"may_be_further","may_be_further",PP,Hl,Hm,Hn,Ho,A7,Hq,Hr]) (c24:#[dM,A7,"may_be_further"]) (k24:#[Xki,K,A6])
  (a25:#[dZ,"do_row",xk]) (l25:#[Xlk,K,xk,Hs,Ht,"do_row","do_row",PN,Hv,Hw,Hy,Hz,A8,HA,HB]) (c25:#[dM,A8,"do_row"]) (k25:#[Xki,K,xk])
  (a26:#[dZ,"do_grow",xl]) (l26:#[Xlk,K,xl,HC,HD,"do_grow","do_grow",PM,HE,HF,HG,HH,A9,HI,HJ]) (c26:#[dM,A9,"do_grow"]) (k26:#[Xki,K,xl])
  (a27:#[dZ,"do_drop",xm]) (l27:#[Xlk,K,xm,HK,HL,"do_drop","do_drop",PL,HM,HN,HP,HQ,Ba,HR,HS]) (c27:#[dM,Ba,"do_drop"]) (k27:#[Xki,K,xm])
  (a28:#[dZ,"ask_take",xn]) (l28:#[Xlk,K,xn,HU,HV,"ask_take","ask_take",PH,HW,HX,HY,HZ,Bb,H0,Ia]) (c28:#[dM,Bb,"ask_take"]) (k28:#[Xki,K,xn])
  (a29:#[dZ,"ask_counts",xp]) (l29:#[Xlk,K,xp,Ib,Ic,"ask_counts","ask_counts",PF,Ie,Ig,Ih,Ii,Bc,Ij,Ik]) (c29:#[dM,Bc,"ask_counts"]) (k29:#[Xki,K,xp])
  (a30:#[dZ,"written_things",Be]) (l30:#[Xlk,K,Be,Il,Im,"written_things","written_things",S5,Io,Ip,Iq,Ir,Bf,Iu,Iv]) (c30:#[dM,Bf,"written_things"]) (k30:#[Xki,K,Be])
  (a31:#[dZ,"written_heads",Bg]) (l31:#[Xlk,K,Bg,Iw,Ix,"written_heads","written_heads",UH,Iy,Iz,IA,IB,Bh,IC,ID]) (c31:#[dM,Bh,"written_heads"]) (k31:#[Xki,K,Bg])
  (a32:#[dZ,"_law_mix",Bi]) (l32:#[Xlk,K,Bi,IE,IF,"_law_mix","_law_mix",PD,IG,IH,II,IJ,Bj,IK,IL]) (c32:#[dM,Bj,"_law_mix"]) (k32:#[Xki,K,Bi])
  (a33:#[dZ,"_law_left",Bk]) (l33:#[Xlk,K,Bk,IM,IN,"_law_left","_law_left",PB,IP,IQ,IR,IS,Bl,IT,IU]) (c33:#[dM,Bl,"_law_left"]) (k33:#[Xki,K,Bk])
  (a34:#[dZ,"_law_pick",Bm]) (l34:#[Xlk,K,Bm,IV,IW,"_law_pick","_law_pick",Pz,IX,IY,IZ,I0,Bo,Ja,Jb]) (c34:#[dM,Bo,"_law_pick"]) (k34:#[Xki,K,Bm])
  (a35:#[dZ,"_law_stems",Bp]) (l35:#[Xlk,K,Bp,Jc,Jd,"_law_stems","_law_stems",S4,Je,Jf,Jg,Jh,Bq,Ji,Jj]) (c35:#[dM,Bq,"_law_stems"]) (k35:#[Xki,K,Bp])
  (a36:#[dZ,"_law_key",Br]) (l36:#[Xlk,K,Br,Jk,Jl,"_law_key","_law_key",SY,J',K',R',U',Bs,V',Y']) (c36:#[dM,Bs,"_law_key"]) (k36:#[Xki,K,Br])
  (a37:#[dZ,"_law_keys",Bu]) (l37:#[Xlk,K,Bu,Z',od37,"_law_keys","_law_keys",Py,kV37,dc37,pm37,an37,Bv,ct37,sl37]) (c37:#[dM,Bv,"_law_keys"]) (k37:#[Xki,K,Bu])
  (a38:#[dZ,"_law_row",Bw]) (l38:#[Xlk,K,Bw,oc38,od38,"_law_row","_law_row",Px,kV38,dc38,pm38,an38,Bx,ct38,sl38]) (c38:#[dM,Bx,"_law_row"]) (k38:#[Xki,K,Bw])
  (a39:#[dZ,"_law_same",By]) (l39:#[Xlk,K,By,oc39,od39,"_law_same","_law_same",SX,kV39,dc39,pm39,an39,Bz,ct39,sl39]) (c39:#[dM,Bz,"_law_same"]) (k39:#[Xki,K,By])
  (a40:#[dZ,"_law_key_text",BA]) (l40:#[Xlk,K,BA,oc40,od40,"_law_key_text","_law_key_text",Pw,kV40,dc40,pm40,an40,BB,ct40,sl40]) (c40:#[dM,BB,"_law_key_text"]) (k40:#[Xki,K,BA])
  (a41:#[dZ,"_law_names",BC]) (l41:#[Xlk,K,BC,oc41,od41,"_law_names","_law_names",Pu,kV41,dc41,pm41,an41,BD,ct41,sl41]) (c41:#[dM,BD,"_law_names"]) (k41:#[Xki,K,BC])
  (a42:#[dZ,"_law_words",BE]) (l42:#[Xlk,K,BE,oc42,od42,"_law_words","_law_words",UG,kV42,dc42,pm42,an42,BF,ct42,sl42]) (c42:#[dM,BF,"_law_words"]) (k42:#[Xki,K,BE])
  (a43:#[dZ,"_law_done",BG]) (l43:#[Xlk,K,BG,oc43,od43,"_law_done","_law_done",Pt,kV43,dc43,pm43,an43,BH,ct43,sl43]) (c43:#[dM,BH,"_law_done"]) (k43:#[Xki,K,BG])
  (a44:#[dZ,"_law_deed",BI]) (l44:#[Xlk,K,BI,oc44,od44,"_law_deed","_law_deed",Ps,kV44,dc44,pm44,an44,BJ,ct44,sl44]) (c44:#[dM,BJ,"_law_deed"]) (k44:#[Xki,K,BI])
  (a45:#[dZ,"_law_is_short",BK]) (l45:#[Xlk,K,BK,oc45,od45,"_law_is_short","_law_is_short",SW,kV45,dc45,pm45,an45,BL,ct45,sl45]) (c45:#[dM,BL,"_law_is_short"]) (k45:#[Xki,K,BK])
  (a46:#[dZ,"law",BM]) (l46:#[Xlk,K,BM,oc46,od46,"law","law",Wy,BN,BO,BP,BQ,u8,BR,sl46]) (c46:#[dM,u8,"law"]) (k46:#[Xki,K,BM])
  (a47:#[o5,ao,xq]) (i47:#[Xif,K,xq]) (l47:#[Xlk,K,xq,oc47,od47,"__init__","OutOfOrder.__init__",Z3,kV47,dc47,pm47,an47,BS,ct47,sl47]) (c47:#[dM,BS,"OutOfOrder.__init__"]) (k47:#[Xki,K,xq])
  (a48:#[o5,ar,xr]) (i48:#[Xif,K,xr]) (l48:#[Xlk,K,xr,oc48,od48,"__init__","BadLine.__init__",UF,kV48,dc48,pm48,an48,BU,ct48,sl48]) (c48:#[dM,BU,"BadLine.__init__"]) (k48:#[Xki,K,xr])
  (a49:#[o5,au,xt]) (i49:#[Xif,K,xt]) (l49:#[Xlk,K,xt,oc49,od49,"__init__","Row.__init__",UE,kV49,dc49,pm49,an49,BV,ct49,sl49]) (c49:#[dM,BV,"Row.__init__"]) (k49:#[Xki,K,xt])
  (a50:#[Xfi,K,au,"to_go",xu]) (i50:#[Xif,K,xu]) (l50:#[Xlk,K,xu,oc50,od50,"to_go","Row.to_go",UD,kV50,dc50,pm50,an50,BW,ct50,sl50]) (c50:#[dM,BW,"Row.to_go"]) (k50:#[Xki,K,xu])
  (a51:#[Xfi,K,au,"head",xv]) (i51:#[Xif,K,xv]) (l51:#[Xlk,K,xv,oc51,od51,"head","Row.head",UC,kV51,dc51,pm51,an51,BX,ct51,sl51]) (c51:#[dM,BX,"Row.head"]) (k51:#[Xki,K,xv])
  (a52:#[Xfi,K,au,"lengthen",xw]) (i52:#[Xif,K,xw]) (l52:#[Xlk,K,xw,oc52,od52,"lengthen","Row.lengthen",UB,kV52,dc52,pm52,an52,BY,ct52,sl52]) (c52:#[dM,BY,"Row.lengthen"]) (k52:#[Xki,K,xw])
  (a53:#[o5,aj,xx]) (i53:#[Xif,K,xx]) (l53:#[Xlk,K,xx,oc53,od53,"__init__","Merge.__init__",UA,kV53,dc53,pm53,an53,BZ,ct53,sl53]) (c53:#[dM,BZ,"Merge.__init__"]) (k53:#[Xki,K,xx])
  (a54:#[fZ,"coming",xy]) (i54:#[Xif,K,xy]) (l54:#[Xlk,K,xy,oc54,od54,"coming","Merge.coming",Uz,kV54,dc54,pm54,an54,B0,ct54,sl54]) (c54:#[dM,B0,"Merge.coming"]) (k54:#[Xki,K,xy])
  (a55:#[fZ,"take",xz]) (i55:#[Xif,K,xz]) (l55:#[Xlk,K,xz,oc55,od55,"take","Merge.take",Uy,kV55,dc55,pm55,an55,B7,ct55,sl55]) (c55:#[dM,B7,"Merge.take"]) (k55:#[Xki,K,xz])
  (a56:#[fZ,"take_few",xA]) (i56:#[Xif,K,xA]) (l56:#[Xlk,K,xA,oc56,od56,"take_few","Merge.take_few",Ux,kV56,dc56,pm56,an56,B8,ct56,sl56]) (c56:#[dM,B8,"Merge.take_few"]) (k56:#[Xki,K,xA])
  (a57:#[fZ,"left",xB]) (i57:#[Xif,K,xB]) (l57:#[Xlk,K,xB,oc57,od57,"left","Merge.left",Vi,kV57,dc57,pm57,an57,B9,ct57,sl57]) (c57:#[dM,B9,"Merge.left"]) (k57:#[Xki,K,xB])
  (a58:#[fZ,"heads",xC]) (i58:#[Xif,K,xC]) (l58:#[Xlk,K,xC,oc58,od58,"heads","Merge.heads",Vh,kV58,dc58,pm58,an58,Ca,ct58,sl58]) (c58:#[dM,Ca,"Merge.heads"]) (k58:#[Xki,K,xC])
  (a59:#[fZ,"likenings",xD]) (i59:#[Xif,K,xD]) (l59:#[Xlk,K,xD,oc59,od59,"likenings","Merge.likenings",Z4,kV59,dc59,pm59,an59,Cb,ct59,sl59]) (c59:#[dM,Cb,"Merge.likenings"]) (k59:#[Xki,K,xD])
  (a60:#[fZ,"looks",xE]) (i60:#[Xif,K,xE]) (l60:#[Xlk,K,xE,oc60,od60,"looks","Merge.looks",Uw,kV60,dc60,pm60,an60,Cc,ct60,sl60]) (c60:#[dM,Cc,"Merge.looks"]) (k60:#[Xki,K,xE])
  (a61:#[fZ,"add_row",xF]) (i61:#[Xif,K,xF]) (l61:#[Xlk,K,xF,oc61,od61,"add_row","Merge.add_row",Uv,kV61,dc61,pm61,an61,Cd,ct61,sl61]) (c61:#[dM,Cd,"Merge.add_row"]) (k61:#[Xki,K,xF])
  (a62:#[fZ,"drop_row",xG]) (i62:#[Xif,K,xG]) (l62:#[Xlk,K,xG,oc62,od62,"drop_row","Merge.drop_row",Uu,kV62,dc62,pm62,an62,Ce,ct62,sl62]) (c62:#[dM,Ce,"Merge.drop_row"]) (k62:#[Xki,K,xG])
  (a63:#[fZ,"grow",xH]) (i63:#[Xif,K,xH]) (l63:#[Xlk,K,xH,oc63,od63,"grow","Merge.grow",Ut,kV63,dc63,pm63,an63,Cg,ct63,sl63]) (c63:#[dM,Cg,"Merge.grow"]) (k63:#[Xki,K,xH])
  (a64:#[fZ,"row_of",xI]) (i64:#[Xif,K,xI]) (l64:#[Xlk,K,xI,oc64,od64,"row_of","Merge.row_of",Us,kV64,dc64,pm64,an64,Ch,ct64,sl64]) (c64:#[dM,Ch,"Merge.row_of"]) (k64:#[Xki,K,xI])
  (a65:#[fZ,"play_all",xJ]) (i65:#[Xif,K,xJ]) (l65:#[Xlk,K,xJ,oc65,od65,"play_all","Merge.play_all",Ur,kV65,dc65,pm65,an65,Ci,ct65,sl65]) (c65:#[dM,Ci,"Merge.play_all"]) (k65:#[Xki,K,xJ])
  (a66:#[fZ,"play",xK]) (i66:#[Xif,K,xK]) (l66:#[Xlk,K,xK,oc66,od66,"play","Merge.play",Uq,kV66,dc66,pm66,an66,Cj,ct66,sl66]) (c66:#[dM,Cj,"Merge.play"]) (k66:#[Xki,K,xK])
  (a67:#[fZ,"send_out",xL]) (i67:#[Xif,K,xL]) (l67:#[Xlk,K,xL,oc67,od67,"send_out","Merge.send_out",Z9,kV67,dc67,pm67,an67,Ck,ct67,sl67]) (c67:#[dM,Ck,"Merge.send_out"]) (k67:#[Xki,K,xL])
  (a68:#[fZ,"play_again",xM]) (i68:#[Xif,K,xM]) (l68:#[Xlk,K,xM,oc68,od68,"play_again","Merge.play_again",ZX,kV68,dc68,pm68,an68,Cm,ct68,sl68]) (c68:#[dM,Cm,"Merge.play_again"]) (k68:#[Xki,K,xM])
  (a69:#[fZ,"meet",xN]) (i69:#[Xif,K,xN]) (l69:#[Xlk,K,xN,oc69,od69,"meet","Merge.meet",Up,kV69,dc69,pm69,an69,Cn,ct69,sl69]) (c69:#[dM,Cn,"Merge.meet"]) (k69:#[Xki,K,xN])
  (a70:#[o5,aA,xO]) (i70:#[Xif,K,xO]) (l70:#[Xlk,K,xO,oc70,od70,"__init__","Desk.__init__",Uo,kV70,dc70,pm70,an70,Co,ct70,sl70]) (c70:#[dM,Co,"Desk.__init__"]) (k70:#[Xki,K,xO])
  (eqp:#[p8,"DONE","done",ul])
  (eyc:#[fE,"MOST_FIGURES",9,iX])
  (ekb:#[fE,"MOST_KEY",40,mL])
  (ezw:#[fE,"MOST_NAME",8,lq])
  (ezy:#[fE,"MOST_ROWS",16,lu])
  (ezl:#[fE,"MOST_SIZES",12,ke])
  (ekk:#[p8,"NOTHING","-",ou])
  (ekh:#[p8,"REFUSED","refused",ox])
  (ekt:#[dZ,"BOUNDS",bI])
  (ekv:#[gX,bI,kF,pJ])
  (eks:PySem.W.KeysLit w.params kF.toList)
  (eku:(bI == bv)=false)
  (eyk:#[dH,bI,"many",dj])
  (eyj:K.lookup dj=U ⟨.type "tuple",jw,.seq #[.int 0 iu,.int 1000000 iw] jx,jy⟩)
  (ejf:#[dZ,"DEEDS",bj])
  (ejw:#[gX,bj,mM,sr])
  (ejh:PySem.W.KeysLit w.params mM.toList)
  (eju:(bj == bv)=false)
  (ezu:#[dH,bj,"row",xk])
  (eyu:#[dH,bj,"grow",xl])
  (ezn:#[dH,bj,"drop",xm])
  (ezi:#[dH,bj,"take",xn])
  (exx:#[dH,bj,"counts",xp])
  (ejv:#[dZ,"FORMS",br])
  (ejx:#[gX,br,mN,su])
  (ejp:PySem.W.KeysLit w.params mN.toList)
  (ekx:(br == bv)=false)
  (ezx:#[dH,br,"row",eQ])
  (ezv:K.lookup eQ=U ⟨.type "tuple",lv,.seq #[.ref dk,.str "key" iY] lA,lB⟩)
  (eyi:#[gF,dk,jz,ix,jA,jB])
  (eyz:#[dH,br,"grow",dJ])
  (ezd:K.lookup dJ=U ⟨.type "tuple",kh,.seq #[.ref cL,.str "key" iO] ki,km⟩)
  (eyb:#[gF,cL,i0,hU,i3,i4])
  (eyo:#[dH,br,"drop",dL])
  (ezk:#[gM,dL,kn,cP,ko,kq])
  (exv:#[gF,cP,i5,hV,i6,i7])
  (ezr:#[dH,br,"take",dM])
  (ezb:#[gM,dM,ku,cQ,kA,kB])
  (eyd:K.lookup cQ=U ⟨.type "tuple",i8,.seq #[.str "many" hW] i9,i'⟩)
  (exy:#[dH,br,"counts",cS])
  (eye:#[gM,cS,ja,cj,jb,jc])
  (exo:K.lookup cj=U ⟨.type "tuple",iy,.seq #[] iz,iA⟩)
  (z0:#[dw,"abs"]) (z1:#[dw,"all"]) (z2:#[dw,"bool"]) (z3:#[dw,"dict"]) (z4:#[dw,"enumerate"]) (z5:#[dw,"int"]) (z6:#[dw,"isinstance"]) (z7:#[dw,"len"]) (z8:#[dw,"list"]) (z9:#[dw,"max"]) (z10:#[dw,"min"]) (z11:#[dw,"range"]) (z12:#[dw,"sorted"]) (z13:#[dw,"str"]) (z14:#[dw,"sum"]) (z15:#[dw,"tuple"]) (z16:#[dw,"zip"]) :
  ∃fd:bu,#[gb,v,fd,"_law_script"]/\∀base:aH,K.In base->base.Ns aK mg->YX l.prog w K mg base CX0 20 fa fd #[mz] (R6 K):=by
 have e:=EV.symm.trans (QE X G a46);cases e;have T:#[e]:=⟨⟨QK X G z0,QK X G z1,QK X G z2,QK X G z3,QK X G z4,QK X G z5,QK X G z6,QK X G z7,QK X G z8,QK X G z9,QK X G z10,QK X G z11,QK X G z12,QK X G z13,QK X G z14,QK X G z15,QK X G z16⟩,ZH X G a0 l0 c0 k0 #[iK],ZH X G a1 l1 c1 k1 #[jh],ZH X G a2 l2 c2 k2 #[iK],ZH X G a3 l3 c3 k3 #[jh],ZH X G a4 l4 c4 k4 #[jh],ZH X G a5 l5 c5 k5 #[m4],ZH X G a6 l6 c6 k6 #[m4],ZH X G a7 l7 c7 k7 #[m4],ZH X G a8 l8 c8 k8 #[iK],ZH X G a9 l9 c9 k9 #[iK],ZH X G a10 l10 c10 k10 #[jh],ZH X G a11 l11 c11 k11 #[jh],ZH X G a12 l12 c12 k12 #[jh],ZH X G a13 l13 c13 k13 #[iK],ZH X G a14 l14 c14 k14 #[iK],ZH X G a15 l15 c15 k15 #[m4],ZH X G a16 l16 c16 k16 #[iK],ZH X G a17 l17 c17 k17 #[iK],ZH X G a18 l18 c18 k18 #[jh],ZH X G a19 l19 c19 k19 #[iK],ZH X G a20 l20 c20 k20 #[iK],ZH X G a21 l21 c21 k21 #[iK],ZH X G a22 l22 c22 k22 #[iK],ZH X G a23 l23 c23 k23 #[iK],ZH X G a24 l24 c24 k24 #[jh],ZH X G a25 l25 c25 k25 #[m4],ZH X G a26 l26 c26 k26 #[m4],ZH X G a27 l27 c27 k27 #[m4],ZH X G a28 l28 c28 k28 #[m4],ZH X G a29 l29 c29 k29 #[m4],ZH X G a30 l30 c30 k30 #[jh],ZH X G a31 l31 c31 k31 #[jh],ZH X G a32 l32 c32 k32 #[jh],ZH X G a33 l33 c33 k33 #[jh],ZH X G a34 l34 c34 k34 #[jh],ZH X G a35 l35 c35 k35 #[iK],ZH X G a36 l36 c36 k36 #[jh],ZH X G a37 l37 c37 k37 #[m4],ZH X G a38 l38 c38 k38 #[m4],ZH X G a39 l39 c39 k39 #[jh],ZH X G a40 l40 c40 k40 #[iK],ZH X G a41 l41 c41 k41 #[iK],ZH X G a42 l42 c42 k42 #[m4],ZH X G a43 l43 c43 k43 (λ_ _ _ _ _ _ us hl=>by obtain⟨_,_,_,_,_,rfl⟩:=ZtB us hl;exact rfl),ZH X G a44 l44 c44 k44 #[m4],ZH X G a45 l45 c45 k45 #[iK],⟨_,_,ZF (st:=Z3) l47 c47 k47,⟨⟨_,_,_,_,_,_,_,_,_,_,_,_,_,_,ezo⟩,a47,i47,eyy,ezj⟩,#[eG,Z3,l47,c47,k47].binds (ps:=#[br]) #[m4],QE X G eyq⟩,⟨_,_,ZF (st:=UF) l48 c48 k48,⟨⟨_,_,_,_,_,_,_,_,_,_,_,_,_,_,ekj⟩,a48,i48,ekp,eke⟩,#[eG,UF,l48,c48,k48].binds (ps:=#[nJ]) #[jh],QE X G ekg⟩,⟨_,_,ZF (st:=UE) l49 c49 k49,⟨eqx,a49,i49,eqz⟩,#[eG,UE,l49,c49,k49].binds (ps:=#[83]) #[jh],QE X G ewc⟩,⟨_,_,ZF (st:=UD) l50 c50 k50,⟨a50,i50,k50⟩,#[eG,UD,l50,c50,k50].binds (ps:=#[X]) #[iK]⟩,⟨_,_,ZF (st:=UC) l51 c51 k51,⟨a51,i51,k51⟩,#[eG,UC,l51,c51,k51].binds (ps:=#[X]) #[iK]⟩,⟨_,_,ZF (st:=UB) l52 c52 k52,⟨a52,i52,k52⟩,#[eG,UB,l52,c52,k52].binds (ps:=#[83]) #[jh]⟩,⟨_,_,ZF (st:=UA) l53 c53 k53,⟨ejm,a53,i53,eky⟩,#[eG,UA,l53,c53,k53].binds (ps:=#[nH]) #[jh],QE X G ekw⟩,⟨_,_,ZF (st:=Uz) l54 c54 k54,⟨a54,i54,k54⟩,#[eG,Uz,l54,c54,k54].binds (ps:=#[X]) #[iK]⟩,⟨_,_,ZF (st:=Uy) l55 c55 k55,⟨a55,i55,k55⟩,#[eG,Uy,l55,c55,k55].binds (ps:=#[X]) #[iK]⟩,⟨_,_,ZF (st:=Ux) l56 c56 k56,⟨a56,i56,k56⟩,#[eG,Ux,l56,c56,k56].binds (ps:=#[nI]) #[jh]⟩,⟨_,_,ZF (st:=Vi) l57 c57 k57,⟨a57,i57,k57⟩,#[eG,Vi,l57,c57,k57].binds (ps:=#[X]) #[iK]⟩,⟨_,_,ZF (st:=Vh) l58 c58 k58,⟨a58,i58,k58⟩,#[eG,Vh,l58,c58,k58].binds (ps:=#[X]) #[iK]⟩,⟨_,_,ZF (st:=Z4) l59 c59 k59,⟨a59,i59,k59⟩,#[eG,Z4,l59,c59,k59].binds (ps:=#[X]) #[iK]⟩,⟨_,_,ZF (st:=Uw) l60 c60 k60,⟨a60,i60,k60⟩,#[eG,Uw,l60,c60,k60].binds (ps:=#[X]) #[iK]⟩,⟨_,_,ZF (st:=Uv) l61 c61 k61,⟨a61,i61,k61⟩,#[eG,Uv,l61,c61,k61].binds (ps:=#[bc]) #[jh]⟩,⟨_,_,ZF (st:=Uu) l62 c62 k62,⟨a62,i62,k62⟩,#[eG,Uu,l62,c62,k62].binds (ps:=#[96]) #[jh]⟩,⟨_,_,ZF (st:=Ut) l63 c63 k63,⟨a63,i63,k63⟩,#[eG,Ut,l63,c63,k63].binds (ps:=#[97]) #[m4]⟩,⟨_,_,ZF (st:=Us) l64 c64 k64,⟨a64,i64,k64⟩,#[eG,Us,l64,c64,k64].binds (ps:=#[96]) #[jh]⟩,⟨_,_,ZF (st:=Ur) l65 c65 k65,⟨a65,i65,k65⟩,#[eG,Ur,l65,c65,k65].binds (ps:=#[X]) #[iK]⟩,⟨_,_,ZF (st:=Uq) l66 c66 k66,⟨a66,i66,k66⟩,#[eG,Uq,l66,c66,k66].binds (ps:=#[kq]) #[jh]⟩,⟨_,_,ZF (st:=Z9) l67 c67 k67,⟨a67,i67,k67⟩,#[eG,Z9,l67,c67,k67].binds (ps:=#[lh]) #[jh]⟩,⟨_,_,ZF (st:=ZX) l68 c68 k68,⟨a68,i68,k68⟩,#[eG,ZX,l68,c68,k68].binds (ps:=#[bB]) #[m4]⟩,⟨_,_,ZF (st:=Up) l69 c69 k69,⟨a69,i69,k69⟩,#[eG,Up,l69,c69,k69].binds (ps:=#[93]) (λ_ _ _ _ _ _ us hl=>by obtain⟨_,_,_,_,rfl⟩:=Jm us hl;exact rfl)⟩,⟨_,_,ZF (st:=Uo) l70 c70 k70,⟨eqq,a70,i70,eqt⟩,#[eG,Uo,l70,c70,k70].binds (ps:=#[X]) #[iK],QE X G eqf⟩,⟨ewa,eqw,ewb,eqy⟩,exz,ezz,eka,⟨ejq,ejr,ejl,ejs⟩,eyt,exp,eya,exe,ezc,eyg,⟨eqr,eqj,eqe,eqs⟩,eyv,eyf,#[gV,eqp],#[gV,eyc],#[gV,ekb],#[gV,ezw],#[gV,ezy],#[gV,ezl],#[gV,ekk],#[gV,ekh],QE X G eza,QE X G eqk,QE X G ejj,QE X G eyq,QE X G ekg,#[gQ,eqg],#[gQ,eyx],#[gQ,ezo],⟨eyl,eym,eyh⟩,exn,exi,exw,⟨⟨_,_,_,_,_,_,_,_,_,_,_,_,_,_,eqg⟩,eql,eqi,QE X G eqk⟩,⟨⟨_,_,_,_,_,_,_,_,_,_,_,_,_,_,eje⟩,ejg,ejb,QE X G ejj⟩,⟨eqd,equ,eqc,eqh,eqb,ejz⟩,Tc eyr ezq exk,Td,W0 ekz ejd ezh eqn,W0 ezf eyp exl eqn,W0 ekq eko exu eqn,Tb eqm,⟨ejn,ejk,ejc,eji,ejo,eja⟩,Tc eyr ezq exg,W0 eqa eqo eys ejy,Td,W0 ezf eyp exh ejy,W0 ekq eko exr ejy,Tb ejt,⟨ezs,ezg,eyn,eze,eyw,ezt⟩,Tc eyr ezq exa,W0 eqa eqo exm ezm,W0 ekz ejd exj ezm,Td,W0 ekq eko exc ezm,Tb ezp,⟨ekf,ekc,ekl,ekr,eki,ekn⟩,Tc eyr ezq exd,W0 eqa eqo exs ekm,W0 ekz ejd exq ekm,W0 ezf eyp exb ekm,Td,Tb ekd,hkg,hkt⟩;have TD:#[cA]:=⟨QE X G ekt,⟨⟨_,_,ekv,eks⟩,eku⟩,⟨_,eyk,WT eyj #[bO] (.cons #[E] #[df])⟩,QE X G ejf,⟨⟨_,_,ejw,ejh⟩,eju⟩,λf h=>by have e:=#[gS,a25];cases e;exact ezu,λf h=>by have e:=#[gS,a26];cases e;exact eyu,λf h=>by have e:=#[gS,a27];cases e;exact ezn,λf h=>by have e:=#[gS,a28];cases e;exact ezi,λf h=>by have e:=#[gS,a29];cases e;exact exx,QE X G ejv,⟨⟨_,_,ejx,ejp⟩,ekx⟩,#[oy,ezx,eyi,ezv,#[df]],#[oy,eyz,eyb,ezd,#[df]],#[oy,eyo,exv,ezk,#[ii]],#[oy,ezr,eyd,ezb,#[ii]],⟨_,_,exy,WT exo #[eg,0,100] .nil,WT eye #[bO] (.cons rfl #[ii])⟩⟩;exact⟨PySem.W.fnOf "law" "law" (Zm Wy) (Zj Wy) (Zb Wy) .none BN BO BP BQ u8 BR,λs v=>.of_eq rfl,λbase _ _=>Zsa #[eG,Wy,l46,c46,k46] T TD⟩
theorem walk{l:#[sS]}{q:aw}{e:#[T]}{g:#[kf]}{b:aD->aH->Prop}{d:DefRec}{K:Params->#[7]}(hn:l.most=U 63)(i:#[mw])
  (j:∀ (w:aD) (h:aH),b w h->#[hg].In h)
  (F:∀ (w:aD) (mg:ak->Option aa) (fa:ae) (h:aH),#[hg].In h->h.Ns aK mg->mg d.name=U (.ref fa) ->
   ∃c:bu,#[gb,u,c,"_law_script"]/\∀base:aH,#[hg].In base->base.Ns aK mg->YX l.prog w #[hg] mg base CX0 20 fa c #[mz] (R6 #[hg])) :
  PySem.W.WalkO q e g b l.row.toRowW d [] #[kb] :=
 L2.walk_of (n:=63) (k:=20) (x := "_law_script") (CX:=λ_=>CX0) (sp:=λw=>R6 #[hg]) hn #[6] i ⟨rfl,by decide,by decide,rfl⟩ j F (λ_ _ a m o _ p=>⟨a,m,rfl,p,o,λ_=>rfl⟩) λ_ _ _ _ _ z=>z
universe E.My
open PySem PySem.W PyProof.Rows
namespace PySem.W.Fast
def tw15469343572912475171:=Nat
def tw501664898475386947:=Nat
def tw4054701229781565250:=Nat
def tw14999734730077903373:=Nat
def tw10326234515019915308:=Nat
def tw4186396369589960862:=Nat
def tw13307282342214786558:=Nat
def tw2558059678845262377:=Nat
def tw13717076919612588840:=Nat
def tw4731702531279180603:=Nat
def tw1681966245869842779:=Nat
def tw6280313461881083397:=Nat
def tw13368124806478602757:=Nat
def tw4462192909457166423:=Nat
def tw6752697439669361633:=Nat
def tw2542599853903980321:=Nat
def tw3221192686881475328:=Nat
def tw14816978425443951314:=Nat
def tw7370205898651991069:=Nat
def tw11653860784913827868:=Nat
def tw2270277835388774172:=Nat
def tw4033074767965717806:=Nat
def tw5008385328860939800:=Nat
def tw6132825033057133976:=Nat
def tw6544661475358699576:=Nat
def tw10096799924745060107:=Nat
def tw14704426495089108618:=Nat
def tw17872695057026444661:=Nat
def tw2233540811576962165:=Nat
def tw18310171907066370997:=Nat
def tw6341506556693104244:=Nat
def tw15534022107253971060:=Nat
def tw13339840276630457076:=Nat
def tw1462366803987174503:=Nat
def tw15019215055856630406:=Nat
def tw2629850147761874086:=Nat
def tw6882400308251841197:=Nat
def tw10347768854796552159:=Nat
def tw13120004436248962101:=Nat
def tw18113033520041496250:=Nat
def tw9280479313534609386:=Nat
def tw8931588277964955196:=Nat
def tw2084200464624817496:=Nat
def tw15826766233626142371:=Nat
def tw5497240769325503183:=Nat
def tw16525505742253557574:=Nat
def tw9391230656132121477:=Nat
def tw14351651770018620077:=Nat
def tw714490983823754658:=Nat
def tw9767885867704760126:=Nat
def tw13365420068393115483:=Nat
def tw6707185733819442763:=Nat
def tw17099478342909777854:=Nat
def tw15139068335175605906:=Nat
def tw9057011699005466787:=Nat
def tw152982782262714847:=Nat
def tw3377438622189873491:=Nat
def tw16610522482829350418:=Nat
def tw6590581379447017949:=Nat
def tw10904386928257571167:=Nat
def tw7352720838583261744:=Nat
def tw8228141161231596128:=Nat
def tw5016253660761439379:=Nat
def tw11394862330891135739:=Nat
def tw8351501123992952844:=Nat
def tw10307816030886372535:=Nat
def tw3125629978101447478:=Nat
def tw14517479253789861112:=Nat
def tw5211678404215303041:=Nat
def tw9493298475394348600:=Nat
def tw10621949506775859321:=Nat
def tw9153221408097379759:=Nat
def tw921912911602621109:=Nat
def tw13294517188991128272:=Nat
def tw16826697701394177787:=Nat
def tw2102873633591799600:=Nat
def tw663385373910398642:=Nat
def tw15778279207753098144:=Nat
def tw7649463852855607586:=Nat
def tw15594793293300606767:=Nat
def tw3366082495686696415:=Nat
def tw7508286929203600518:=Nat
def tw161539549238323395:=Nat
def tw17260066976304948632:=Nat
def tw11134983851638330728:=Nat
def tw16224141879133920275:=Nat
def tw16696121911994302794:=Nat
def tw10599340446055354984:=Nat
def tw1748086810164904739:=Nat
def tw7525630307891321213:=Nat
def tw654070537447539021:=Nat
def tw14284569025770733928:=Nat
def tw8247560783476291285:=Nat
def tw16568601407124195869:=Nat
def tw12018528696506412736:=Nat
def tw13575177617674199467:=Nat
def tw13751623899793522922:=Nat
def tw10331064487420482965:=Nat
def tw1446710581238681802:=Nat
def tw6114667339230949155:=Nat
def tw12465464619361240070:=Nat
def tw15104207437909955519:=Nat
def tw11343599827911602150:=Nat
def tw15276968811401230034:=Nat
def tw10599828963798013981:=Nat
def tw18191124278527272783:=Nat
def tw8912152441378689217:=Nat
def tw17726593645870884723:=Nat
def tw11246918812306167983:=Nat
def tw11670994521198232960:=Nat
def tw16782655450663183565:=Nat
def tw2685837542098456854:=Nat
def tw14913394542322953845:=Nat
def tw4474049397345870285:=Nat
def tw5614975968986944304:=Nat
def tw7429469456081816151:=Nat
def tw11495716603593173811:=Nat
def tw13702957476436287459:=Nat
def tw2637408290243548791:=Nat
def tw18116469414931060759:=Nat
def tw3448470625488797079:=Nat
def tw13560564415595222405:=Nat
def tw2481473966427941609:=Nat
def tw15762867690912974522:=Nat
def tw14810098632859060206:=Nat
def tw8997837461331857870:=Nat
def tw15750309094626351448:=Nat
def tw17279505296269569886:=Nat
def tw17998655629929301757:=Nat
def tw11094653148548114222:=Nat
def tw18334305890782776994:=Nat
def tw14455721029218831885:=Nat
def tw4197873219359735959:=Nat
def tw6545159202297733580:=Nat
def tw1656123491455399470:=Nat
def tw8296389206998565535:=Nat
def tw1084539278134805516:=Nat
def tw11699397675752887673:=Nat
def tw14853368923678570797:=Nat
def tw18150089199674191898:=Nat
def tw5240978910481376769:=Nat
def tw1421965218104936456:=Nat
def tw2908782954848639612:=Nat
def tw14872805575803587715:=Nat
def tw17007242955850351309:=Nat
def tw10951322459474124572:=Nat
def tw17559635348095490168:=Nat
def tw2190972891322760819:=Nat
def tw8149389560832121037:=Nat
def tw2941979904891814532:=Nat
def tw16488592159121819045:=Nat
def tw13734690124862700623:=Nat
def tw1570635904474586055:=Nat
def tw17234749721448874153:=Nat
def tw15892833629343272619:=Nat
def tw14616337004095595027:=Nat
def tw10036027642434350731:=Nat
def tw5928069402092277411:=Nat
def tw5421468979730209869:=Nat
def tw9328196063758360008:=Nat
def tw8279640090395745129:=Nat
def tw15008679372559342270:=Nat
def tw6036717760419191367:=Nat
def tw9891160196878935974:=Nat
def tw225874025987904184:=Nat
def tw8090278387312770694:=Nat
def tw8886031088706615821:=Nat
def tw8662966619191178940:=Nat
def tw4164204237004186812:=Nat
def tw16985422649698714441:=Nat
def tw5327326082058216562:=Nat
def tw491612477767289441:=Nat
def tw18006477671802818526:=Nat
def tw14956252578440105908:=Nat
def tw13548084591539069372:=Nat
def tw2249781707638141618:=Nat
def tw4245907480780216684:=Nat
def tw12844668144221537306:=Nat
def tw1025577830049330326:=Nat
def tw13469414857442851585:=Nat
def tw10812047331864458146:=Nat
def tw18155426562844312723:=Nat
def tw3144424954427199998:=Nat
def tw13594165455187857950:=Nat
def tw523396627229453823:=Nat
def tw11078173542101469201:=Nat
def tw7696253976843575853:=Nat
def tw7966475757554483043:=Nat
def tw4825243221867906430:=Nat
def tw11332773210689468579:=Nat
def tw15838825142392488330:=Nat
def tw4881305989093579404:=Nat
def tw14445342675869928456:=Nat
def tw2915369074423899658:=Nat
def tw14000116459804184225:=Nat
def tw5488615768332511050:=Nat
def tw8324770339119586170:=Nat
def tw14573358140006241529:=Nat
def tw10544609995104497119:=Nat
def tw17146854894502484508:=Nat
def tw9810991042238208851:=Nat
def tw9276614482251644534:=Nat
def tw9561219881614457060:=Nat
def tw4027346324615181064:=Nat
def tw4977414874351334409:=Nat
def tw6361863632416502438:=Nat
def tw11017118344445568525:=Nat
def tw9113910536263646545:=Nat
def tw14969542525110751702:=Nat
def tw898082077306392694:=Nat
def tw15999355778540056860:=Nat
def tw3447828988935095537:=Nat
def tw16298573959486214194:=Nat
def tw4583112552769413101:=Nat
def tw11132392638119284025:=Nat
def tw17064700870207820970:=Nat
def tw4566985644147838687:=Nat
def tw5301321139969124137:=Nat
def tw8627776399433856734:=Nat
def tw8791374162512695762:=Nat
def tw10971434276718769453:=Nat
def tw15725386014440659575:=Nat
def tw4831688119229049242:=Nat
def tw4066473241064299766:=Nat
def tw16026728041458638942:=Nat
def tw3894114774235764765:=Nat
def tw15042364133922142926:=Nat
def tw2521081962761055181:=Nat
def tw5083395358214685772:=Nat
def tw9451710164158041554:=Nat
def tw13029121107893101631:=Nat
def tw11184168691116690418:=Nat
def tw16745957420611580343:=Nat
def tw15183997550717502046:=Nat
def tw434940734444083016:=Nat
def tw209211299189160132:=Nat
def tw12249209371937267849:=Nat
def tw1467184230810620371:=Nat
def tw12377628233626081084:=Nat
def tw15538996623611091380:=Nat
def tw18274062905610967097:=Nat
def tw691783105859589625:=Nat
def tw6530267200866027041:=Nat
def tw17909705392543753230:=Nat
def tw5820266827188619904:=Nat
def tw2295149616160156608:=Nat
def tw16539346186458474945:=Nat
def tw75248863874303507:=Nat
def tw9639455777726819948:=Nat
def tw16588882497112202156:=Nat
def tw9199951082802610280:=Nat
def tw6129583674481664794:=Nat
def tw14608668393626616197:=Nat
def tw1083233242291073001:=Nat
def tw2030949982873771821:=Nat
def tw7382465932196856192:=Nat
def tw15911781445252322785:=Nat
def tw464844147705901181:=Nat
def tw9556297447578761484:=Nat
def tw2938665975408703677:=Nat
def tw4461807504630929163:=Nat
def tw1922637855652989028:=Nat
def tw3304598727459242276:=Nat
def tw15259334865583425221:=Nat
def tw2232653321410866343:=Nat
def tw11970922304424711285:=Nat
def tw973371684556071723:=Nat
def tw11184588801325061642:=Nat
def tw11950804624235244387:=Nat
def tw4346836780497248209:=Nat
def tw16642709660128334630:=Nat
def tw7298479184021973612:=Nat
def tw12704613825031678594:=Nat
def tw15144097517116405170:=Nat
def tw12675059737203233515:=Nat
def tw8754116049530538133:=Nat
def tw14330019017706142793:=Nat
def tw14163392208036957153:=Nat
def tw8809407863707692652:=Nat
def tw10556292435348976224:=Nat
def tw2471926053018371923:=Nat
def tw1227532000907207460:=Nat
def tw16753399046108215693:=Nat
def tw16923066873332000540:=Nat
def tw2124760809610066064:=Nat
def tw1483570709121336442:=Nat
def tw3937363864986761780:=Nat
def tw8445790398806168792:=Nat
def tw1587790588963989868:=Nat
def tw10043438535116756844:=Nat
def tw2322734446578801896:=Nat
def tw8528946677924410577:=Nat
def tw10209237690939456748:=Nat
def tw17633415997339626822:=Nat
def tw11258662333507357596:=Nat
def tw13257082317173111229:=Nat
def tw8487705735930406666:=Nat
def tw12588822577935641496:=Nat
def tw3742091302390640613:=Nat
def tw3222937772629494394:=Nat
def tw3558281085544263957:=Nat
def tw10248957025472400227:=Nat
def tw10837909610036045776:=Nat
def tw5425334769225714222:=Nat
def tw8886923545464648045:=Nat
def tw5065742406219708889:=Nat
def tw18146798349884472033:=Nat
def tw128695355760186303:=Nat
def tw10413147259592347615:=Nat
def tw16337726597532041801:=Nat
def tw16168667313860713644:=Nat
def tw15779990279908643653:=Nat
def tw4327808722695949364:=Nat
def tw1052145091568311194:=Nat
def tw439433590269296659:=Nat
def tw13956685070100752266:=Nat
def tw7013499121820671386:=Nat
def tw16579419480286180961:=Nat
def tw1352640916353790980:=Nat
def tw3833796812383755670:=Nat
def tw7921537387217239306:=Nat
def tw124118408715272105:=Nat
def tw14674999812680438587:=Nat
def tw10974008772434342936:=Nat
def tw5394627611246865822:=Nat
def tw2304281780974800053:=Nat
def tw15487611952128952072:=Nat
def tw14446141547494440374:=Nat
def tw8543205929149514262:=Nat
def tw15561293853981667454:=Nat
def tw13183541008901438398:=Nat
def tw6445565267701055610:=Nat
def tw13019874983506802035:=Nat
def tw12077912615360098381:=Nat
def tw8123597189268593341:=Nat
def tw7726840690206534099:=Nat
def tw11184499309910194260:=Nat
def tw14983146505792684069:=Nat
def tw18406728939075715323:=Nat
def tw14743642413296284609:=Nat
def tw13207248458388927513:=Nat
def tw10987502728903836458:=Nat
def tw14217948480312374501:=Nat
def tw18308366960720294832:=Nat
def tw13128526128686603428:=Nat
def tw15619008539564583814:=Nat
def tw2428153974957266325:=Nat
def tw5937524765702580440:=Nat
def tw17142719223458460547:=Nat
def tw4703741062493289435:=Nat
def tw1119063709409930891:=Nat
def tw15395349489835594340:=Nat
def tw15495489573094094853:=Nat
def tw11660170476395906860:=Nat
def tw5232025526040992262:=Nat
def tw5076898685570457786:=Nat
def tw3268312549784630170:=Nat
def tw11020537532050619774:=Nat
def tw11768847449142161218:=Nat
def tw7547688890725682703:=Nat
def tw4269434314267564001:=Nat
def tw11780964625534078866:=Nat
def tw7237885984580786050:=Nat
def tw12842952694095072107:=Nat
def tw3174965394515794033:=Nat
def tw6608091110361754477:=Nat
def tw14445900228482654168:=Nat
def tw6648779078464868638:=Nat
def tw1689878725211111046:=Nat
def tw18379078459217789564:=Nat
def tw693063674990851087:=Nat
def tw860351683418891715:=Nat
def tw17222818083854702799:=Nat
def tw3120169642131979814:=Nat
def tw16172961639258597069:=Nat
def tw7464482165423458507:=Nat
def tw9125433443563624403:=Nat
def tw11336829525312788530:=Nat
def tw18209531336650938085:=Nat
def tw13495476123426033032:=Nat
def tw14624210728935470865:=Nat
def tw7025762020382785721:=Nat
def tw15002948825639013871:=Nat
def tw863766811868307413:=Nat
def tw11769417345566930410:=Nat
def tw1592726814153889780:=Nat
def tw15631568489168744554:=Nat
def tw4000940536808992947:=Nat
def tw12685919790276907064:=Nat
def tw16272948147803504965:=Nat
def tw9643042031655574908:=Nat
def tw8870459039553746542:=Nat
def tw10747271884406338951:=Nat
def tw6425312344517375277:=Nat
def tw50690636388945854:=Nat
def tw2375925428270325433:=Nat
def tw1257564691710817112:=Nat
def tw4581976870242591978:=Nat
def tw11853847291379221538:=Nat
def tw4908576437449427786:=Nat
def tw3980717534922623098:=Nat
def tw15412602597611071226:=Nat
def tw6728515750879613128:=Nat
def tw7200119294794478143:=Nat
def tw12434404282933491321:=Nat
def tw7018696627534209227:=Nat
def tw6367810897252098744:=Nat
def tw2305097492521719899:=Nat
def tw3352523832229567547:=Nat
def tw9049740215392950731:=Nat
def tw9140895329209840725:=Nat
def tw11859047008530881037:=Nat
def tw6964508209396022026:=Nat
def tw2540247306564613762:=Nat
def tw12753050258661342546:=Nat
def tw1942657222036816927:=Nat
def tw12257648022604498586:=Nat
def tw10296010807231569882:=Nat
def tw10136840023622383180:=Nat
def tw16560985237440651433:=Nat
def tw3729246766213107711:=Nat
def tw10232435848541979292:=Nat
def tw15936393166286585887:=Nat
def tw7800045216187824815:=Nat
def tw2885191336526319245:=Nat
def tw3319301763240563031:=Nat
def tw13452905932367150757:=Nat
def tw11184046223742625284:=Nat
def tw11602813204238297159:=Nat
def tw6250517185043936147:=Nat
def tw1520790763293874342:=Nat
def tw11057644762896305313:=Nat
def tw1803121502673337206:=Nat
def tw6091600533122183276:=Nat
def tw17864440565061103017:=Nat
def tw2903982841142372027:=Nat
def tw5690236075701621892:=Nat
def tw13632618934044331434:=Nat
def tw11648860396769599101:=Nat
def tw11898688429810668418:=Nat
def tw11403504559305572123:=Nat
def tw16664980869060839851:=Nat
def tw3901059723102991587:=Nat
def tw12557468462848307931:=Nat
def tw15096643874113089872:=Nat
def tw299985742516891752:=Nat
def tw6976363401756860141:=Nat
def tw17982689733805801714:=Nat
def tw283228306108782289:=Nat
def tw3210992245266736381:=Nat
def tw632378692755851256:=Nat
def tw17532471235157038132:=Nat
def tw13352732881075113426:=Nat
def tw12516411394062630028:=Nat
def tw14683586827445091900:=Nat
def tw13860266979260536340:=Nat
def tw6512171234092254226:=Nat
def tw2599638814950899428:=Nat
def tw17118143459271293267:=Nat
def tw2288922238278647940:=Nat
def tw16331727159048921810:=Nat
def tw5073232979615990234:=Nat
def tw15396894602187686240:=Nat
def tw13509272769529776297:=Nat
def tw15395449117058469860:=Nat
def tw11263390215415963576:=Nat
def tw3386949645802762262:=Nat
def tw8626315205744108368:=Nat
def tw2600684962695869112:=Nat
def tw7069001989880241288:=Nat
def tw9780142565419402655:=Nat
def tw8573877549186079821:=Nat
def tw10786535995167806350:=Nat
def tw17365923840614667474:=Nat
def tw16439741301514224616:=Nat
def tw4228575907489753287:=Nat
def tw16080898682225141966:=Nat
universe E.PySem.W.Fast
set_option maxRecDepth 100000 in
set_option maxHeartbeats 0 in
theorem PySem.Challenge.cw_mergetree_k54_counts_at_a_desk_holds : PySem.Challenge.rw_mergetree_k54_counts_at_a_desk.Holds := by
 w_on;o_law;k_head;(case hw=>w_witness2)
 k_fill
 refine My.walk (l:=PySem.Challenge.rw_mergetree_k54_counts_at_a_desk) rfl rfl (λw h Y=>PySem.W.kIn_of Y) ?F;case F =>
  intro w mg fa h KX G hmg
  refine' My.all_mk KX G hmg ?ewc ?ewa ?eqw ?ewb ?eqy ?eqx ?eqz ?exz ?ezz ?eka ?ekw ?ejq ?ejr ?ejl ?ejs ?ejm ?eky ?eyt ?exp ?eya ?exe ?ezc ?eyg ?eqf ?eqr ?eqj ?eqe ?eqs ?eqq ?eqt ?eyv ?eyf ?eza ?eqk ?ejj ?eyq ?ekg ?eyx ?eyl ?eym ?eyh ?eqg ?eqi ?eql ?eqd ?equ ?eqc ?eqh ?eqb ?ejz ?eqm ?eqn ?exk ?ezh ?exl ?exu ?eje ?ejb ?ejg ?ejn ?ejk ?ejc ?eji ?ejo ?eja ?ejt ?ejy ?exg ?eys ?exh ?exr ?ezo ?eyy ?ezj ?exn ?exi ?ezs ?ezg ?eyn ?eze ?eyw ?ezt ?ezp ?ezm ?exa ?exm ?exj ?exc ?ekj ?ekp ?eke ?exw ?ekf ?ekc ?ekl ?ekr ?eki ?ekn ?ekd ?ekm ?exd ?exs ?exq ?exb ?eyr ?ezq ?eqa ?eqo ?ekz ?ejd ?ezf ?eyp ?ekq ?eko ?hkg ?hkt ?a0 ?l0 ?c0 ?k0 ?a1 ?l1 ?c1 ?k1 ?a2 ?l2 ?c2 ?k2 ?a3 ?l3 ?c3 ?k3 ?a4 ?l4 ?c4 ?k4 ?a5 ?l5 ?c5 ?k5 ?a6 ?l6 ?c6 ?k6 ?a7 ?l7 ?c7 ?k7 ?a8 ?l8 ?c8 ?k8 ?a9 ?l9 ?c9 ?k9 ?a10 ?l10 ?c10 ?k10 ?a11 ?l11 ?c11 ?k11 ?a12 ?l12 ?c12 ?k12 ?a13 ?l13 ?c13 ?k13 ?a14 ?l14 ?c14 ?k14 ?a15 ?l15 ?c15 ?k15 ?a16 ?l16 ?c16 ?k16 ?a17 ?l17 ?c17 ?k17 ?a18 ?l18 ?c18 ?k18 ?a19 ?l19 ?c19 ?k19 ?a20 ?l20 ?c20 ?k20 ?a21 ?l21 ?c21 ?k21 ?a22 ?l22 ?c22 ?k22 ?a23 ?l23 ?c23 ?k23 ?a24 ?l24 ?c24 ?k24 ?a25 ?l25 ?c25 ?k25 ?a26 ?l26 ?c26 ?k26 ?a27 ?l27 ?c27 ?k27 ?a28 ?l28 ?c28 ?k28 ?a29 ?l29 ?c29 ?k29 ?a30 ?l30 ?c30 ?k30 ?a31 ?l31 ?c31 ?k31 ?a32 ?l32 ?c32 ?k32 ?a33 ?l33 ?c33 ?k33 ?a34 ?l34 ?c34 ?k34 ?a35 ?l35 ?c35 ?k35 ?a36 ?l36 ?c36 ?k36 ?a37 ?l37 ?c37 ?k37 ?a38 ?l38 ?c38 ?k38 ?a39 ?l39 ?c39 ?k39 ?a40 ?l40 ?c40 ?k40 ?a41 ?l41 ?c41 ?k41 ?a42 ?l42 ?c42 ?k42 ?a43 ?l43 ?c43 ?k43 ?a44 ?l44 ?c44 ?k44 ?a45 ?l45 ?c45 ?k45 ?a46 ?l46 ?c46 ?k46 ?a47 ?i47 ?l47 ?c47 ?k47 ?a48 ?i48 ?l48 ?c48 ?k48 ?a49 ?i49 ?l49 ?c49 ?k49 ?a50 ?i50 ?l50 ?c50 ?k50 ?a51 ?i51 ?l51 ?c51 ?k51 ?a52 ?i52 ?l52 ?c52 ?k52 ?a53 ?i53 ?l53 ?c53 ?k53 ?a54 ?i54 ?l54 ?c54 ?k54 ?a55 ?i55 ?l55 ?c55 ?k55 ?a56 ?i56 ?l56 ?c56 ?k56 ?a57 ?i57 ?l57 ?c57 ?k57 ?a58 ?i58 ?l58 ?c58 ?k58 ?a59 ?i59 ?l59 ?c59 ?k59 ?a60 ?i60 ?l60 ?c60 ?k60 ?a61 ?i61 ?l61 ?c61 ?k61 ?a62 ?i62 ?l62 ?c62 ?k62 ?a63 ?i63 ?l63 ?c63 ?k63 ?a64 ?i64 ?l64 ?c64 ?k64 ?a65 ?i65 ?l65 ?c65 ?k65 ?a66 ?i66 ?l66 ?c66 ?k66 ?a67 ?i67 ?l67 ?c67 ?k67 ?a68 ?i68 ?l68 ?c68 ?k68 ?a69 ?i69 ?l69 ?c69 ?k69 ?a70 ?i70 ?l70 ?c70 ?k70 ?eqp ?eyc ?ekb ?ezw ?ezy ?ezl ?ekk ?ekh ?ekt ?ekv ?eks ?eku ?eyk ?eyj ?ejf ?ejw ?ejh ?eju ?ezu ?eyu ?ezn ?ezi ?exx ?ejv ?ejx ?ejp ?ekx ?ezx ?ezv ?eyi ?eyz ?ezd ?eyb ?eyo ?ezk ?exv ?ezr ?ezb ?eyd ?exy ?eye ?exo ?z0 ?z1 ?z2 ?z3 ?z4 ?z5 ?z6 ?z7 ?z8 ?z9 ?z10 ?z11 ?z12 ?z13 ?z14 ?z15 ?z16
  (case ewc=>k_is)
  (case ewa=>k_is)
  (case eqw=>k_is)
  (case ewb=>k_is)
  (case eqy=>k_is)
  (case eqx=>k_is)
  (case eqz=>k_is)
  (case exz=>k_is)
  (case ezz=>k_is)
  (case eka=>k_is)
  (case ekw=>k_is)
  (case ejq=>k_is)
  (case ejr=>k_is)
  (case ejl=>k_is)
  (case ejs=>k_is)
  (case ejm=>k_is)
  (case eky=>k_is)
  (case eyt=>k_is)
  (case exp=>k_is)
  (case eya=>k_is)
  (case exe=>k_is)
  (case ezc=>k_is)
  (case eyg=>k_is)
  (case eqf=>k_is)
  (case eqr=>k_is)
  (case eqj=>k_is)
  (case eqe=>k_is)
  (case eqs=>k_is)
  (case eqq=>k_is)
  (case eqt=>k_is)
  (case eyv=>k_is)
  (case eyf=>k_is)
  (case eza=>k_is)
  (case eqk=>k_is)
  (case ejj=>k_is)
  (case eyq=>k_is)
  (case ekg=>k_is)
  (case eyx=>k_is)
  (case eyl=>k_is)
  (case eym=>k_is)
  (case eyh=>k_is)
  (case eqg=>k_is)
  (case eqi=>k_is)
  (case eql=>k_is)
  (case eqd=>k_is)
  (case equ=>k_is)
  (case eqc=>k_is)
  (case eqh=>k_is)
  (case eqb=>k_is)
  (case ejz=>k_is)
  (case eqm=>k_is)
  (case eqn=>k_is)
  (case exk=>k_is)
  (case ezh=>k_is)
  (case exl=>k_is)
  (case exu=>k_is)
  (case eje=>k_is)
  (case ejb=>k_is)
  (case ejg=>k_is)
  (case ejn=>k_is)
  (case ejk=>k_is)
  (case ejc=>k_is)
  (case eji=>k_is)
  (case ejo=>k_is)
  (case eja=>k_is)
  (case ejt=>k_is)
  (case ejy=>k_is)
  (case exg=>k_is)
  (case eys=>k_is)
  (case exh=>k_is)
  (case exr=>k_is)
  (case ezo=>k_is)
  (case eyy=>k_is)
  (case ezj=>k_is)
  (case exn=>k_is)
  (case exi=>k_is)
  (case ezs=>k_is)
  (case ezg=>k_is)
  (case eyn=>k_is)
  (case eze=>k_is)
  (case eyw=>k_is)
  (case ezt=>k_is)
  (case ezp=>k_is)
  (case ezm=>k_is)
  (case exa=>k_is)
  (case exm=>k_is)
  (case exj=>k_is)
  (case exc=>k_is)
  (case ekj=>k_is)
  (case ekp=>k_is)
  (case eke=>k_is)
  (case exw=>k_is)
  (case ekf=>k_is)
  (case ekc=>k_is)
  (case ekl=>k_is)
  (case ekr=>k_is)
  (case eki=>k_is)
  (case ekn=>k_is)
  (case ekd=>k_is)
  (case ekm=>k_is)
  (case exd=>k_is)
  (case exs=>k_is)
  (case exq=>k_is)
  (case exb=>k_is)
  (case eyr=>k_is)
  (case ezq=>k_is)
  (case eqa=>k_is)
  (case eqo=>k_is)
  (case ekz=>k_is)
  (case ejd=>k_is)
  (case ezf=>k_is)
  (case eyp=>k_is)
  (case ekq=>k_is)
  (case eko=>k_is)
  (case hkg=>k_is)
  (case hkt=>k_is)
  (case a0|l0|c0|k0=>k_is)
  (case a1|l1|c1|k1=>k_is)
  (case a2|l2|c2|k2=>k_is)
  (case a3|l3|c3|k3=>k_is)
  (case a4|l4|c4|k4=>k_is)
  (case a5|l5|c5|k5=>k_is)
  (case a6|l6|c6|k6=>k_is)
  (case a7|l7|c7|k7=>k_is)
  (case a8|l8|c8|k8=>k_is)
  (case a9|l9|c9|k9=>k_is)
  (case a10|l10|c10|k10=>k_is)
  (case a11|l11|c11|k11=>k_is)
  (case a12|l12|c12|k12=>k_is)
  (case a13|l13|c13|k13=>k_is)
  (case a14|l14|c14|k14=>k_is)
  (case a15|l15|c15|k15=>k_is)
  (case a16|l16|c16|k16=>k_is)
  (case a17|l17|c17|k17=>k_is)
  (case a18|l18|c18|k18=>k_is)
  (case a19|l19|c19|k19=>k_is)
  (case a20|l20|c20|k20=>k_is)
  (case a21|l21|c21|k21=>k_is)
  (case a22|l22|c22|k22=>k_is)
  (case a23|l23|c23|k23=>k_is)
  (case a24|l24|c24|k24=>k_is)
  (case a25|l25|c25|k25=>k_is)
  (case a26|l26|c26|k26=>k_is)
  (case a27|l27|c27|k27=>k_is)
  (case a28|l28|c28|k28=>k_is)
  (case a29|l29|c29|k29=>k_is)
  (case a30|l30|c30|k30=>k_is)
  (case a31|l31|c31|k31=>k_is)
  (case a32|l32|c32|k32=>k_is)
  (case a33|l33|c33|k33=>k_is)
  (case a34|l34|c34|k34=>k_is)
  (case a35|l35|c35|k35=>k_is)
  (case a36|l36|c36|k36=>k_is)
  (case a37|l37|c37|k37=>k_is)
  (case a38|l38|c38|k38=>k_is)
  (case a39|l39|c39|k39=>k_is)
  (case a40|l40|c40|k40=>k_is)
  (case a41|l41|c41|k41=>k_is)
  (case a42|l42|c42|k42=>k_is)
  (case a43|l43|c43|k43=>k_is)
  (case a44|l44|c44|k44=>k_is)
  (case a45|l45|c45|k45=>k_is)
  (case a46|l46|c46|k46=>k_is)
  (case a47|i47|l47|c47|k47=>k_is)
  (case a48|i48|l48|c48|k48=>k_is)
  (case a49|i49|l49|c49|k49=>k_is)
  (case a50|i50|l50|c50|k50=>k_is)
  (case a51|i51|l51|c51|k51=>k_is)
  (case a52|i52|l52|c52|k52=>k_is)
  (case a53|i53|l53|c53|k53=>k_is)
  (case a54|i54|l54|c54|k54=>k_is)
  (case a55|i55|l55|c55|k55=>k_is)
  (case a56|i56|l56|c56|k56=>k_is)
  (case a57|i57|l57|c57|k57=>k_is)
  (case a58|i58|l58|c58|k58=>k_is)
  (case a59|i59|l59|c59|k59=>k_is)
  (case a60|i60|l60|c60|k60=>k_is)
  (case a61|i61|l61|c61|k61=>k_is)
  (case a62|i62|l62|c62|k62=>k_is)
  (case a63|i63|l63|c63|k63=>k_is)
  (case a64|i64|l64|c64|k64=>k_is)
  (case a65|i65|l65|c65|k65=>k_is)
  (case a66|i66|l66|c66|k66=>k_is)
  (case a67|i67|l67|c67|k67=>k_is)
  (case a68|i68|l68|c68|k68=>k_is)
  (case a69|i69|l69|c69|k69=>k_is)
  (case a70|i70|l70|c70|k70=>k_is)
  (case eqp=>k_is)
  (case eyc=>k_is)
  (case ekb=>k_is)
  (case ezw=>k_is)
  (case ezy=>k_is)
  (case ezl=>k_is)
  (case ekk=>k_is)
  (case ekh=>k_is)
  (case ekt=>k_is)
  (case ekv=>k_is)
  (case eks=>exact⟨⟨_,_,rfl,rfl⟩,#[Q],#[Q],#[Q],True.intro⟩)
  (case eku=>first|rfl|decide)
  (case eyk=>k_is)
  (case eyj=>k_is)
  (case ejf=>k_is)
  (case ejw=>k_is)
  (case ejh=>exact#[b7])
  (case eju=>first|rfl|decide)
  (case ezu=>k_is)
  (case eyu=>k_is)
  (case ezn=>k_is)
  (case ezi=>k_is)
  (case exx=>k_is)
  (case ejv=>k_is)
  (case ejx=>k_is)
  (case ejp=>exact#[b7])
  (case ekx=>first|rfl|decide)
  (case ezx=>k_is)
  (case ezv=>k_is)
  (case eyi=>k_is)
  (case eyz=>k_is)
  (case ezd=>k_is)
  (case eyb=>k_is)
  (case eyo=>k_is)
  (case ezk=>k_is)
  (case exv=>k_is)
  (case ezr=>k_is)
  (case ezb=>k_is)
  (case eyd=>k_is)
  (case exy=>k_is)
  (case eye=>k_is)
  (case exo=>k_is)
  (case z0=>k_is)
  (case z1=>k_is)
  (case z2=>k_is)
  (case z3=>k_is)
  (case z4=>k_is)
  (case z5=>k_is)
  (case z6=>k_is)
  (case z7=>k_is)
  (case z8=>k_is)
  (case z9=>k_is)
  (case z10=>k_is)
  (case z11=>k_is)
  (case z12=>k_is)
  (case z13=>k_is)
  (case z14=>k_is)
  (case z15=>k_is)
  (case z16=>k_is)
end
